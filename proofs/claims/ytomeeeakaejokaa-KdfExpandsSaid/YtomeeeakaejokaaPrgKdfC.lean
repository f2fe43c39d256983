/-
  The program's layer 5: how many blocks are hashed.
-/
import Derived.Test.YtomeeeakaejokaaPrgTail
import Derived.Test.YtomeeeakaejokaaRefKdfC
namespace Go.Proofs.Ytomeeeakaejokaa
open Go.RowKit

theorem prgBlk (n : Int) (w : World) (h0 : 0 ≤ n) (hn : n ≤ 1000000000000) :
    Calls Try.prog 24 #[.int .i64 n] w fun e w' => e = .returned (.int .i64 (nblk n)) ∧ w = w' :=
  (prgBlocks256 n w (by omega)).mono fun e w' h => ⟨by rw [h.1, blocks256, if_neg (by omega)]; rfl, h.2⟩

set_option maxHeartbeats 400000 in
theorem prgCalls_any (key b : Int) (w : World) (hk : key ≤ 100000000000) (hb0 : 0 ≤ b) (hb : b ≤ 100000000000) :
    Calls Try.prog 19 #[.int .i64 key, .int .i64 b] w fun e w' => e = .returned (.int .i64 (kcalls key b)) ∧ w = w' := by
  have h1 : 0 ≤ nblk (64 + b) ∧ nblk (64 + b) ≤ 10000000000 := by unfold nblk; omega
  have h2 : 0 ≤ nblk 96 ∧ nblk 96 ≤ 10 := by unfold nblk; omega
  by_cases hl : key > 64
  · have h3 : 0 ≤ nblk key ∧ nblk key ≤ 10000000000 := by unfold nblk; omega
    have HX := hid (show kcalls key b = nblk (64 + b) + nblk 96 + nblk key by rw [kcalls, if_pos hl])
    have HB := hid (prgBlk (64 + b) w (by omega) (by omega))
    obtain ⟨x, hx⟩ : ∃ x, x = nblk (64 + b) := ⟨_, rfl⟩
    obtain ⟨y, hy⟩ : ∃ y, y = nblk 96 := ⟨_, rfl⟩
    obtain ⟨z, hz⟩ : ∃ z, z = nblk key := ⟨_, rfl⟩
    rw [← hx] at h1 HX HB
    rw [← hy] at h2 HX
    rw [← hz] at h3 HX
    have HY := hid hy; have HZ := hid hz
    clear hx hy hz
    go_enter Try.func19, Try.ntmps19
    go_wp2_with fail
    refine (HB.out).mono ?_
    rintro e w' ⟨rfl, rfl⟩
    go_wp2_with fail
    refine (prgBlk 96 w (by omega) (by omega)).mono ?_
    rintro e w' ⟨rfl, rfl⟩
    rw [← HY.out]
    go_wp2_with fail
    refine (prgBlk key w (by omega) (by omega)).mono ?_
    rintro e w' ⟨rfl, rfl⟩
    rw [← HZ.out]
    go_wp2_with fail
    go_ret
    exact ⟨by rw [HX.out]; rfl, rfl⟩
  · have HX := hid (show kcalls key b = nblk (64 + b) + nblk 96 by rw [kcalls, if_neg hl]; omega)
    have HB := hid (prgBlk (64 + b) w (by omega) (by omega))
    obtain ⟨x, hx⟩ : ∃ x, x = nblk (64 + b) := ⟨_, rfl⟩
    obtain ⟨y, hy⟩ : ∃ y, y = nblk 96 := ⟨_, rfl⟩
    rw [← hx] at h1 HX HB
    rw [← hy] at h2 HX
    have HY := hid hy
    clear hx hy
    go_enter Try.func19, Try.ntmps19
    go_wp2_with fail
    refine (HB.out).mono ?_
    rintro e w' ⟨rfl, rfl⟩
    go_wp2_with fail
    refine (prgBlk 96 w (by omega) (by omega)).mono ?_
    rintro e w' ⟨rfl, rfl⟩
    rw [← HY.out]
    go_wp2_with fail
    go_ret
    exact ⟨by rw [HX.out]; rfl, rfl⟩

theorem prgRounds_any (n : Int) (w : World) (h0 : 0 ≤ n) (hn : n ≤ 100000) :
    Calls Try.prog 29 #[.int .i64 n] w fun e w' => e = .returned (.int .i64 ((n + 31) / 32)) ∧ w = w' := by
  go_enter Try.func29, Try.ntmps29
  go_wp2_with fail
  go_ret
  exact ⟨by rw [show n + 31 = n + 32 - 1 by omega]; rfl, rfl⟩

theorem ecalls_sum (prk info : Int) : ∀ k : Nat, ecalls prk info (k + 1) = kcalls prk (info + 1) + (k : Int) * kcalls prk (32 + info + 1)
  | 0 => by simp [ecalls]
  | k + 1 => by
    rw [ecalls, ecalls_sum prk info k, if_neg (by omega), Int.natCast_add, Int.add_mul]
    omega

set_option maxHeartbeats 1000000 in
theorem prgExpandCalls_any (prk info n : Int) (w : World) (h0 : 0 ≤ prk) (h1 : prk ≤ 10000000) (h2 : 0 ≤ info) (h3 : info ≤ 10000000) (hn0 : 0 ≤ n) (hn : n ≤ 8160) :
    Calls Try.prog 21 #[.int .i64 prk, .int .i64 info, .int .i64 n] w fun e w' => e = .returned (.int .i64 (ecalls prk info ((n + 31) / 32).toNat)) ∧ w = w' := by
  by_cases hz : n ≤ 0
  · have hz' : n = 0 := by omega
    subst hz'
    go_enter Try.func21, Try.ntmps21
    go_wp2_with fail
    go_ret
    exact ⟨rfl, rfl⟩
  · obtain ⟨k, hk⟩ : ∃ k : Nat, (n + 31) / 32 = (k : Int) + 1 := ⟨((n + 31) / 32 - 1).toNat, by omega⟩
    have hk2 : k ≤ 255 := by omega
    have HR := hid (prgRounds_any n w (by omega) (by omega))
    rw [hk] at HR ⊢
    have hx := kcalls_bounds prk (info + 1) h0 (by omega) (by omega) (by omega)
    have hy := kcalls_bounds prk (32 + info + 1) h0 (by omega) (by omega) (by omega)
    have HS := hid (ecalls_sum prk info k)
    have HX := hid (prgCalls_any prk (info + 1) w (by omega) (by omega) (by omega))
    have HY := hid (prgCalls_any prk (32 + info + 1) w (by omega) (by omega) (by omega))
    rw [show ((k : Int) + 1).toNat = k + 1 by omega]
    obtain ⟨x, hxx⟩ : ∃ x, x = kcalls prk (info + 1) := ⟨_, rfl⟩
    obtain ⟨y, hyy⟩ : ∃ y, y = kcalls prk (32 + info + 1) := ⟨_, rfl⟩
    rw [← hxx] at hx HS HX
    rw [← hyy] at hy HS HY
    have hxy : 0 ≤ (k : Int) * y ∧ (k : Int) * y ≤ 255 * 100000000 := ⟨Int.mul_nonneg (by omega) hy.1, Int.mul_le_mul (by omega) hy.2 hy.1 (by omega)⟩
    clear hxx hyy hk
    go_enter Try.func21, Try.ntmps21
    go_wp2_with fail
    refine (HX.out).mono ?_
    rintro e w' ⟨rfl, rfl⟩
    go_wp2_with fail
    refine (HR.out).mono ?_
    rintro e w' ⟨rfl, rfl⟩
    go_wp2_with fail
    refine (HY.out).mono ?_
    rintro e w' ⟨rfl, rfl⟩
    go_wp2_with fail
    go_ret
    exact ⟨by rw [HS.out]; rfl, rfl⟩
end Go.Proofs.Ytomeeeakaejokaa
