/-
  The answer of layer 5: how many blocks are hashed.
-/
import Derived.Test.YtomeeeakaejokaaRefSha
namespace Go.Proofs.Ytomeeeakaejokaa
open Go.RowKit

/-- Blocks of a message of n bytes. -/
def nblk (n : Int) : Int := (n + 72) / 64
def kcalls (key b : Int) : Int := nblk (64 + b) + nblk 96 + (if key > 64 then nblk key else 0)
/-- What the first k rounds of an expansion hash. -/
def ecalls (prk info : Int) : Nat → Int
  | 0 => 0
  | k + 1 => ecalls prk info k + kcalls prk ((if k = 0 then 0 else 32) + info + 1)

theorem refBlk (n : Int) (w : World) (h0 : 0 ≤ n) (hn : n ≤ 1000000000000) :
    Calls Try.prog 32 #[.int .i64 n] w fun e w' => e = .returned (.int .i64 (nblk n)) ∧ w = w' :=
  (refBlocks256_any n w (by omega)).mono fun e w' h => ⟨by rw [h.1, if_neg (by omega)]; rfl, h.2⟩

set_option maxHeartbeats 400000 in
theorem refCalls_any (key b : Int) (w : World) (hk : key ≤ 100000000000) (hb0 : 0 ≤ b) (hb : b ≤ 100000000000) :
    Calls Try.prog 20 #[.int .i64 key, .int .i64 b] w fun e w' => e = .returned (.int .i64 (kcalls key b)) ∧ w = w' := by
  have h1 : 0 ≤ nblk (64 + b) ∧ nblk (64 + b) ≤ 10000000000 := by unfold nblk; omega
  have h2 : 0 ≤ nblk 96 ∧ nblk 96 ≤ 10 := by unfold nblk; omega
  by_cases hl : key > 64
  · have h3 : 0 ≤ nblk key ∧ nblk key ≤ 10000000000 := by unfold nblk; omega
    have HX := hid (show kcalls key b = nblk (64 + b) + nblk 96 + nblk key by rw [kcalls, if_pos hl])
    have HB := hid (refBlk (64 + b) w (by omega) (by omega))
    obtain ⟨x, hx⟩ : ∃ x, x = nblk (64 + b) := ⟨_, rfl⟩
    obtain ⟨y, hy⟩ : ∃ y, y = nblk 96 := ⟨_, rfl⟩
    obtain ⟨z, hz⟩ : ∃ z, z = nblk key := ⟨_, rfl⟩
    rw [← hx] at h1 HX HB
    rw [← hy] at h2 HX
    rw [← hz] at h3 HX
    have HY := hid hy; have HZ := hid hz
    clear hx hy hz
    go_enter Try.func20, Try.ntmps20
    go_wp2_with fail
    refine (HB.out).mono ?_
    rintro e w' ⟨rfl, rfl⟩
    go_wp2_with fail
    refine (refBlk 96 w (by omega) (by omega)).mono ?_
    rintro e w' ⟨rfl, rfl⟩
    rw [← HY.out]
    go_wp2_with fail
    refine (refBlk key w (by omega) (by omega)).mono ?_
    rintro e w' ⟨rfl, rfl⟩
    rw [← HZ.out]
    go_wp2_with fail
    go_ret
    exact ⟨by rw [HX.out]; rfl, rfl⟩
  · have HX := hid (show kcalls key b = nblk (64 + b) + nblk 96 by rw [kcalls, if_neg hl]; omega)
    have HB := hid (refBlk (64 + b) w (by omega) (by omega))
    obtain ⟨x, hx⟩ : ∃ x, x = nblk (64 + b) := ⟨_, rfl⟩
    obtain ⟨y, hy⟩ : ∃ y, y = nblk 96 := ⟨_, rfl⟩
    rw [← hx] at h1 HX HB
    rw [← hy] at h2 HX
    have HY := hid hy
    clear hx hy
    go_enter Try.func20, Try.ntmps20
    go_wp2_with fail
    refine (HB.out).mono ?_
    rintro e w' ⟨rfl, rfl⟩
    go_wp2_with fail
    refine (refBlk 96 w (by omega) (by omega)).mono ?_
    rintro e w' ⟨rfl, rfl⟩
    rw [← HY.out]
    go_wp2_with fail
    go_ret
    exact ⟨by rw [HX.out]; rfl, rfl⟩

theorem kcalls_bounds (key b : Int) (hk0 : 0 ≤ key) (hk : key ≤ 100000000) (hb0 : 0 ≤ b) (hb : b ≤ 100000000) : 0 ≤ kcalls key b ∧ kcalls key b ≤ 100000000 := by
  unfold kcalls nblk
  split <;> omega
theorem ecalls_bounds (prk info : Int) (h0 : 0 ≤ prk) (h1 : prk ≤ 10000000) (h2 : 0 ≤ info) (h3 : info ≤ 10000000) : ∀ k : Nat, 0 ≤ ecalls prk info k ∧ ecalls prk info k ≤ 100000000 * k
  | 0 => by simp [ecalls]
  | k + 1 => by
    have ih := ecalls_bounds prk info h0 h1 h2 h3 k
    have := kcalls_bounds prk ((if k = 0 then 0 else 32) + info + 1) h0 (by omega) (by split <;> omega) (by split <;> omega)
    rw [ecalls]
    omega

def ExpLoop (prk info n : Int) (w : World) (all before done : Value) (wr : World) : Prop :=
  ∃ k : Nat, all = .int .i64 (ecalls prk info k) ∧ before = .int .i64 (if k = 0 then 0 else 32) ∧ done = .int .i64 ((32 * k : Nat) : Int) ∧ k ≤ 1000 ∧ (k = 0 ∨ 32 * ((k : Int) - 1) < n) ∧ wr = w

set_option maxHeartbeats 1000000 in
theorem refExpandCalls_any (prk info n : Int) (w : World) (h0 : 0 ≤ prk) (h1 : prk ≤ 10000000) (h2 : 0 ≤ info) (h3 : info ≤ 10000000) (hn : n ≤ 20000) :
    Calls Try.prog 22 #[.int .i64 prk, .int .i64 info, .int .i64 n] w fun e w' => e = .returned (.int .i64 (ecalls prk info ((n + 31) / 32).toNat)) ∧ w = w' := by
  go_enter Try.func22, Try.ntmps22
  go_wp2_with fail
  go_loopw [7, 8, 9] (fun x y z wr => ExpLoop prk info n w x y z wr) (fun _ _ z _ => 40000 - (intOf z).toNat)
  case atStart => exact ⟨0, rfl, rfl, rfl, by omega, .inl rfl, rfl⟩
  case round =>
    obtain ⟨k, rfl, rfl, rfl, hk, hkn, rfl⟩ := hrel
    obtain ⟨q, hq⟩ : ∃ q : Int, q = if k = 0 then 0 else 32 := ⟨_, rfl⟩
    have hq0 : 0 ≤ q := by rw [hq]; split <;> omega
    have hq1 : q ≤ 32 := by rw [hq]; split <;> omega
    have hE := ecalls_bounds prk info h0 h1 h2 h3 k
    have hK := kcalls_bounds prk (q + info + 1) h0 (by omega) (by omega) (by omega)
    have HN := hid (show ecalls prk info (k + 1) = ecalls prk info k + kcalls prk (q + info + 1) by rw [ecalls, ← hq])
    have HC := hid (refCalls_any prk (q + info + 1) wr (by omega) (by omega) (by omega))
    rw [← hq]
    clear hq
    obtain ⟨E, hEE⟩ : ∃ E, E = ecalls prk info k := ⟨_, rfl⟩
    obtain ⟨C, hCC⟩ : ∃ C, C = kcalls prk (q + info + 1) := ⟨_, rfl⟩
    rw [← hEE] at hE HN ⊢
    rw [← hCC] at hK HN HC
    have HE := hid hEE
    clear hEE hCC
    by_cases hlt : ((32 * k : Nat) : Int) < n
    · have hlt' : 32 * (k : Int) < n := by omega
      go_wp2_with fail
      refine (HC.out).mono ?_
      rintro e w' ⟨rfl, rfl⟩
      go_wp2_with fail
      go_roundw
      case rel => exact ⟨k + 1, by rw [HN.out], by simp, by congr 1, by omega, .inr (by omega), rfl⟩
      case measure => simp [intOf]; omega
    · have hlt' : ¬ 32 * (k : Int) < n := by omega
      have hkk : ((n + 31) / 32).toNat = k := by omega
      have HKK := hid hkk
      clear hkk
      go_wp2_with fail
      go_ret
      exact ⟨by rw [HKK.out, ← HE.out]; rfl, rfl⟩
end Go.Proofs.Ytomeeeakaejokaa
