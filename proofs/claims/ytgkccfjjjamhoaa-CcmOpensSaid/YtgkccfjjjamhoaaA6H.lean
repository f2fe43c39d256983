/-
  Layer 6: the answer's table of substitutes and its key schedule.
-/
import Derived.Test.YtgkccfjjjamhoaaA6G
import Derived.Test.YtgkccfjjjamhoaaLst
namespace Go.Proofs.Ytgkccfjjjamhoaa
open Go.RowKit

theorem pwr_mul {i : Nat} (h : i < 255) : g pwr (i + 1) = mulP (g pwr i) 3 := by
  rw [pwr_succ h, mul_three (pwr_by.g i)]
def subR (b : Int) : Int := x8 (x8 (x8 (x8 (x8 b (rotL b 1)) (rotL b 2)) (rotL b 3)) (rotL b 4)) 99
def tbR : Nat → List Int
  | 0 => (List.replicate 256 0).set 0 99
  | i + 1 => (tbR i).set (g pwr i).toNat (subR (g pwr ((255 - i) % 255)))
theorem tbR_len : ∀ i, (tbR i).length = 256
  | 0 => by rw [tbR, List.length_set, List.length_replicate]
  | i + 1 => by rw [tbR, List.length_set, tbR_len i]
set_option maxRecDepth 100000 in
theorem tbR_all : tbR 255 = SB := by kernel_rfl
set_option maxRecDepth 100000 in
set_option maxHeartbeats 1600000 in
theorem rsubs_exec : execF ER Try.f57 [] (ret1 (arr8 SB)) := by
  ((conv => whnf); repeat ((first | refine ⟨_, rfl, ?_⟩ | refine ⟨by decide, ?_⟩ | refine ⟨rfl, ?_⟩ | refine ⟨fun _ => ?_, fun h => absurd h (by decide)⟩ | refine ⟨fun h => absurd h (by decide), fun _ => ?_⟩ | refine ⟨inI_of (by omega), ?_⟩ | refine ⟨⟨rfl, inI_of (by omega)⟩, ?_⟩ | refine ⟨⟨rfl, by decide⟩, ?_⟩ | (apply Exists.intro; refine ⟨?_, ?_⟩; ((try simp only); (try simp only [Nat.zero_add]); (try simp only [Nat.mul_one]); (try simp only [Int.toNat_natCast]); exact at_g (by omega))) | (apply Exists.intro; refine ⟨?_, ?_⟩; ((try simp only); (try simp only [Nat.zero_add]); (try simp only [Nat.mul_one]); (try simp only [Int.toNat_natCast]); exact put_flat (by omega))) | refine ⟨_, cut_all (by omega), ?_⟩ | refine ⟨_, lay_all (by omega) (by omega), ?_⟩ | refine ⟨_, lay_all (by (try simp only); (try simp only [List.length_replicate]); (try simp only [List.length_cons]); (try simp only [List.length_nil]); omega) (by omega), ?_⟩ | refine ⟨by omega, ?_⟩ | refine ⟨len_flat (by omega), ?_⟩ | refine ⟨apart_uv _ _ _, ?_⟩ | refine ⟨_, resSlot_own rfl (by omega) (by first | exact .inl rfl | exact .inr ⟨rfl, rfl⟩), ?_⟩ | refine ⟨(by kernel_rfl : regB _ = true), ?_⟩ | refine ⟨⟨rfl, inI_of (by omega), by decide⟩, ?_⟩ | (apply Exists.intro; refine ⟨?_, ?_⟩; ((try simp only); (try simp only [Nat.zero_add]); (try simp only [Nat.mul_one]); (try simp only [Int.toNat_natCast]); exact at_drop_g (by omega))) | (apply Exists.intro; refine ⟨?_, ?_⟩; ((try simp only); (try simp only [Nat.zero_add]); (try simp only [Nat.mul_one]); (try simp only [Int.toNat_natCast]); exact cut_rest (by omega)))); conv => whnf))
  refine .inl ⟨fun n st => ∃ i : Nat, n = 255 - i ∧ i ≤ 255 ∧ st = ⟨[.ptr 0 0, .ptr 8 0, iv .u8 (g pwr i), .poison, .poison, .poison, .poison, iv .i64 i, .poison, .poison, .poison, .poison, .poison, .poison, .poison, .poison, .poison, .poison, .poison, .poison, .poison, .poison, .poison, .poison, .poison, .poison, .poison, .poison, .poison, .poison, .poison, .poison, .poison, .poison, .poison, .poison, .poison, .poison, .poison, .poison, .poison, .poison, .poison, .poison, .poison],
    [(0, ⟨.flat .u8 (List.replicate 256 0), 51, false⟩), (8, ⟨.flat .u8 (upd (g pwr) (List.replicate 255 0) i), 79, false⟩)]⟩,
    ⟨[3, 4, 5, 6, 8, 9, 10, 11, 12, 13, 14, 15, 16, 17, 18, 19, 20, 21, 22, 23, 24, 25, 26, 27, 28, 29, 30, 31, 32, 33, 34, 35, 36, 37, 38, 39, 40, 41, 42, 43, 44], [], 255, 0, rfl, by omega, by rw [upd_zero]; kernel_rfl⟩, ?_⟩
  rintro _ _ ⟨i, rfl, hi, rfl⟩
  have hl := upd_len (g pwr) (List.replicate 255 0) i
  have hr : (List.replicate 255 (0 : Int)).length = 255 := by rw [List.length_replicate]
  conv => whnf
  refine ⟨fun h => ?_, fun h => ?_⟩
  · have h := of_decide_eq_true h
    ((conv => whnf); repeat ((first | refine ⟨_, rfl, ?_⟩ | refine ⟨by decide, ?_⟩ | refine ⟨rfl, ?_⟩ | refine ⟨fun _ => ?_, fun h => absurd h (by decide)⟩ | refine ⟨fun h => absurd h (by decide), fun _ => ?_⟩ | refine ⟨inI_of (by omega), ?_⟩ | refine ⟨⟨rfl, inI_of (by omega)⟩, ?_⟩ | refine ⟨⟨rfl, by decide⟩, ?_⟩ | (apply Exists.intro; refine ⟨?_, ?_⟩; ((try simp only); (try simp only [Nat.zero_add]); (try simp only [Nat.mul_one]); (try simp only [Int.toNat_natCast]); exact at_g (by omega))) | (apply Exists.intro; refine ⟨?_, ?_⟩; ((try simp only); (try simp only [Nat.zero_add]); (try simp only [Nat.mul_one]); (try simp only [Int.toNat_natCast]); exact put_flat (by omega))) | refine ⟨_, cut_all (by omega), ?_⟩ | refine ⟨_, lay_all (by omega) (by omega), ?_⟩ | refine ⟨_, lay_all (by (try simp only); (try simp only [List.length_replicate]); (try simp only [List.length_cons]); (try simp only [List.length_nil]); omega) (by omega), ?_⟩ | refine ⟨by omega, ?_⟩ | refine ⟨len_flat (by omega), ?_⟩ | refine ⟨apart_uv _ _ _, ?_⟩ | refine ⟨_, resSlot_own rfl (by omega) (by first | exact .inl rfl | exact .inr ⟨rfl, rfl⟩), ?_⟩ | refine ⟨(by kernel_rfl : regB _ = true), ?_⟩ | refine ⟨⟨rfl, inI_of (by omega), by decide⟩, ?_⟩ | (apply Exists.intro; refine ⟨?_, ?_⟩; ((try simp only); (try simp only [Nat.zero_add]); (try simp only [Nat.mul_one]); (try simp only [Int.toNat_natCast]); exact at_drop_g (by omega))) | (apply Exists.intro; refine ⟨?_, ?_⟩; ((try simp only); (try simp only [Nat.zero_add]); (try simp only [Nat.mul_one]); (try simp only [Int.toNat_natCast]); exact cut_rest (by omega)))); conv => whnf))
    have e1 : IntKind.i64.wrap ((i : Int) + 1) = ((i + 1 : Nat) : Int) := by rw [wrap64 (by omega)]; omega
    have e2 := upd_set (g pwr) (List.replicate 255 0) (i := i) (by omega)
    refine ⟨[3, 4, 5, 6, 8, 9, 10, 11, 12, 13, 14, 15, 16, 17, 18, 19, 20, 21, 22, 23, 24, 25, 26, 27, 28, 29, 30, 31, 32, 33, 34, 35, 36, 37, 38, 39, 40, 41, 42, 43, 44], [], _, ?_, i + 1, rfl, by omega, ?_⟩
    · omega
    · rw [← e1, ← e2, pwr_mul (by omega)]; kernel_rfl
  · have h := of_decide_eq_false h
    have hi' : i = 255 := by omega
    subst hi'
    have e0 : upd (g pwr) (List.replicate 255 0) 255 = (List.range 255).map (g pwr) := upd_all _ _ hr
    obtain ⟨p, hp⟩ : ∃ p, p = (List.range 255).map (g pwr) := ⟨_, rfl⟩
    have hpl : p.length = 255 := by rw [hp]; simp
    have hpg : ∀ j, j < 255 → g p j = g pwr j := fun j hj => by rw [hp, g_map hj]
    rw [e0, ← hp]
    clear e0
    ((conv => whnf); repeat ((first | refine ⟨_, rfl, ?_⟩ | refine ⟨by decide, ?_⟩ | refine ⟨rfl, ?_⟩ | refine ⟨fun _ => ?_, fun h => absurd h (by decide)⟩ | refine ⟨fun h => absurd h (by decide), fun _ => ?_⟩ | refine ⟨inI_of (by omega), ?_⟩ | refine ⟨⟨rfl, inI_of (by omega)⟩, ?_⟩ | refine ⟨⟨rfl, by decide⟩, ?_⟩ | (apply Exists.intro; refine ⟨?_, ?_⟩; ((try simp only); (try simp only [Nat.zero_add]); (try simp only [Nat.mul_one]); (try simp only [Int.toNat_natCast]); exact at_g (by omega))) | (apply Exists.intro; refine ⟨?_, ?_⟩; ((try simp only); (try simp only [Nat.zero_add]); (try simp only [Nat.mul_one]); (try simp only [Int.toNat_natCast]); exact put_flat (by omega))) | refine ⟨_, cut_all (by omega), ?_⟩ | refine ⟨_, lay_all (by omega) (by omega), ?_⟩ | refine ⟨_, lay_all (by (try simp only); (try simp only [List.length_replicate]); (try simp only [List.length_cons]); (try simp only [List.length_nil]); omega) (by omega), ?_⟩ | refine ⟨by omega, ?_⟩ | refine ⟨len_flat (by omega), ?_⟩ | refine ⟨apart_uv _ _ _, ?_⟩ | refine ⟨_, resSlot_own rfl (by omega) (by first | exact .inl rfl | exact .inr ⟨rfl, rfl⟩), ?_⟩ | refine ⟨(by kernel_rfl : regB _ = true), ?_⟩ | refine ⟨⟨rfl, inI_of (by omega), by decide⟩, ?_⟩ | (apply Exists.intro; refine ⟨?_, ?_⟩; ((try simp only); (try simp only [Nat.zero_add]); (try simp only [Nat.mul_one]); (try simp only [Int.toNat_natCast]); exact at_drop_g (by omega))) | (apply Exists.intro; refine ⟨?_, ?_⟩; ((try simp only); (try simp only [Nat.zero_add]); (try simp only [Nat.mul_one]); (try simp only [Int.toNat_natCast]); exact cut_rest (by omega)))); conv => whnf))
    refine .inl ⟨fun n st => ∃ i : Nat, n = 255 - i ∧ i ≤ 255 ∧ st = ⟨[.ptr 0 0, .ptr 8 0, .poison, .poison, .ptr 32 0, .poison, .poison, .poison, .poison, .poison, .poison, .poison, .poison, .poison, .poison, .poison, .poison, iv .i64 i, .poison, .poison, .poison, .poison, .poison, .poison, .poison, .poison, .poison, .poison, .poison, .poison, .poison, .poison, .poison, .poison, .poison, .poison, .poison, .poison, .poison, .poison, .poison, .poison, .poison, .poison, .poison],
      [(0, ⟨.flat .u8 (List.replicate 256 0), 51, false⟩), (8, ⟨.flat .u8 p, 79, false⟩), (32, ⟨.flat .u8 (tbR i), 51, false⟩)]⟩,
      ⟨[2, 3, 5, 6, 7, 8, 9, 10, 11, 12, 13, 14, 15, 16, 18, 19, 20, 21, 22, 23, 24, 25, 26, 27, 28, 29, 30, 31, 32, 33, 34, 35, 36, 37, 38, 39, 40, 41, 42, 43, 44], [], 255, 0, rfl, by omega, by kernel_rfl⟩, ?_⟩
    rintro _ _ ⟨i, rfl, hi, rfl⟩
    have hl := tbR_len i
    conv => whnf
    refine ⟨fun h => ?_, fun h => ?_⟩
    · have h := of_decide_eq_true h
      have hg := pwr_by.g i
      have hgp := hpg i (by omega)
      rw [← hgp] at hg
      have e3 : (IntKind.i64.wrap (255 - (i : Int))).tmod 255 = (((255 - i) % 255 : Nat) : Int) := by rw [wrap64 (by omega), show 255 - (i : Int) = ((255 - i : Nat) : Int) by omega]; exact tmod_nat _ _
      ((conv => whnf); repeat ((first | refine ⟨_, rfl, ?_⟩ | refine ⟨by decide, ?_⟩ | refine ⟨rfl, ?_⟩ | refine ⟨fun _ => ?_, fun h => absurd h (by decide)⟩ | refine ⟨fun h => absurd h (by decide), fun _ => ?_⟩ | refine ⟨inI_of (by omega), ?_⟩ | refine ⟨⟨rfl, inI_of (by omega)⟩, ?_⟩ | refine ⟨⟨rfl, by decide⟩, ?_⟩ | refine ⟨by (try simp only); (try simp only [e3]); exact inI_of (by omega), ?_⟩ | refine ⟨⟨rfl, by (try simp only); (try simp only [e3]); exact inI_of (by omega)⟩, ?_⟩ | (apply Exists.intro; refine ⟨?_, ?_⟩; ((try simp only); (try simp only [e3]); (try simp only [Nat.zero_add]); (try simp only [Nat.mul_one]); (try simp only [Int.toNat_natCast]); (try simp only [e3]); (try simp only [Nat.zero_add]); (try simp only [Nat.mul_one]); (try simp only [Int.toNat_natCast]); exact at_g (by omega))) | (apply Exists.intro; refine ⟨?_, ?_⟩; ((try simp only); (try simp only [e3]); (try simp only [Nat.zero_add]); (try simp only [Nat.mul_one]); (try simp only [Int.toNat_natCast]); (try simp only [e3]); (try simp only [Nat.zero_add]); (try simp only [Nat.mul_one]); (try simp only [Int.toNat_natCast]); exact put_flat (by omega))) | refine ⟨_, cut_all (by omega), ?_⟩ | refine ⟨_, lay_all (by omega) (by omega), ?_⟩ | refine ⟨_, lay_all (by (try simp only); (try simp only [List.length_replicate]); (try simp only [List.length_cons]); (try simp only [List.length_nil]); omega) (by omega), ?_⟩ | refine ⟨by omega, ?_⟩ | refine ⟨len_flat (by omega), ?_⟩ | refine ⟨apart_uv _ _ _, ?_⟩ | refine ⟨_, resSlot_own rfl (by omega) (by first | exact .inl rfl | exact .inr ⟨rfl, rfl⟩), ?_⟩ | refine ⟨(by kernel_rfl : regB _ = true), ?_⟩ | refine ⟨⟨rfl, inI_of (by omega), by decide⟩, ?_⟩ | refine ⟨⟨rfl, by (try simp only); (try simp only [e3]); exact inI_of (by omega), by decide⟩, ?_⟩ | (apply Exists.intro; refine ⟨?_, ?_⟩; ((try simp only); (try simp only [e3]); (try simp only [Nat.zero_add]); (try simp only [Nat.mul_one]); (try simp only [Int.toNat_natCast]); (try simp only [e3]); (try simp only [Nat.zero_add]); (try simp only [Nat.mul_one]); (try simp only [Int.toNat_natCast]); exact at_drop_g (by omega))) | (apply Exists.intro; refine ⟨?_, ?_⟩; ((try simp only); (try simp only [e3]); (try simp only [Nat.zero_add]); (try simp only [Nat.mul_one]); (try simp only [Int.toNat_natCast]); (try simp only [e3]); (try simp only [Nat.zero_add]); (try simp only [Nat.mul_one]); (try simp only [Int.toNat_natCast]); exact cut_rest (by omega)))); conv => whnf))
      have e1 : IntKind.i64.wrap ((i : Int) + 1) = ((i + 1 : Nat) : Int) := by rw [wrap64 (by omega)]; omega
      refine ⟨[2, 3, 5, 6, 7, 8, 9, 10, 11, 12, 13, 14, 15, 16, 18, 19, 20, 21, 22, 23, 24, 25, 26, 27, 28, 29, 30, 31, 32, 33, 34, 35, 36, 37, 38, 39, 40, 41, 42, 43, 44], [], _, ?_, i + 1, rfl, by omega, ?_⟩
      · omega
      · rw [← e1, hgp, hpg _ (by omega)]; kernel_rfl
    · have h := of_decide_eq_false h
      have hi' : i = 255 := by omega
      subst hi'
      rw [tbR_all]
      have hq := SB_len
      ((conv => whnf); repeat ((first | refine ⟨_, rfl, ?_⟩ | refine ⟨by decide, ?_⟩ | refine ⟨rfl, ?_⟩ | refine ⟨fun _ => ?_, fun h => absurd h (by decide)⟩ | refine ⟨fun h => absurd h (by decide), fun _ => ?_⟩ | refine ⟨inI_of (by omega), ?_⟩ | refine ⟨⟨rfl, inI_of (by omega)⟩, ?_⟩ | refine ⟨⟨rfl, by decide⟩, ?_⟩ | (apply Exists.intro; refine ⟨?_, ?_⟩; ((try simp only); (try simp only [Nat.zero_add]); (try simp only [Nat.mul_one]); (try simp only [Int.toNat_natCast]); exact at_g (by omega))) | (apply Exists.intro; refine ⟨?_, ?_⟩; ((try simp only); (try simp only [Nat.zero_add]); (try simp only [Nat.mul_one]); (try simp only [Int.toNat_natCast]); exact put_flat (by omega))) | refine ⟨_, cut_all (by omega), ?_⟩ | refine ⟨_, lay_all (by omega) (by omega), ?_⟩ | refine ⟨_, lay_all (by (try simp only); (try simp only [List.length_replicate]); (try simp only [List.length_cons]); (try simp only [List.length_nil]); omega) (by omega), ?_⟩ | refine ⟨by omega, ?_⟩ | refine ⟨len_flat (by omega), ?_⟩ | refine ⟨apart_uv _ _ _, ?_⟩ | refine ⟨_, resSlot_own rfl (by omega) (by first | exact .inl rfl | exact .inr ⟨rfl, rfl⟩), ?_⟩ | refine ⟨(by kernel_rfl : regB _ = true), ?_⟩ | refine ⟨⟨rfl, inI_of (by omega), by decide⟩, ?_⟩ | (apply Exists.intro; refine ⟨?_, ?_⟩; ((try simp only); (try simp only [Nat.zero_add]); (try simp only [Nat.mul_one]); (try simp only [Int.toNat_natCast]); exact at_drop_g (by omega))) | (apply Exists.intro; refine ⟨?_, ?_⟩; ((try simp only); (try simp only [Nat.zero_add]); (try simp only [Nat.mul_one]); (try simp only [Int.toNat_natCast]); exact cut_rest (by omega)))); conv => whnf))
      rfl

/-! the key schedule, place by place -/
def WW (key t : List Int) : List Int := flatK (kkP key t) 11
theorem g_flatK {f : Nat → List Int} (h : ∀ i, (f i).length = 16) {n r q : Nat} (hr : r < n) (hq : q < 16) : g (flatK f n) (16 * r + q) = g (f r) q := by
  induction n with
  | zero => omega
  | succ n ih =>
    rw [flatK_succ, g_append, flatK_len h]
    by_cases e : r = n
    · subst e
      rw [if_neg (by omega)]
      congr 1
      omega
    · rw [if_pos (by omega), ih (by omega)]
theorem x8_assoc {a b c : Int} (ha : 0 ≤ a ∧ a < 256) (hb : 0 ≤ b ∧ b < 256) (hc : 0 ≤ c ∧ c < 256) : x8 (x8 a b) c = x8 a (x8 b c) := by
  obtain ⟨u, rfl⟩ := byteE ha
  obtain ⟨v, rfl⟩ := byteE hb
  obtain ⟨z, rfl⟩ := byteE hc
  rw [x8_E, x8_E, x8_E, x8_E, BitVec.xor_assoc]
/-- The places of the next part. -/
theorem nxt_low {b t : List Int} {p : Int} (hb : b.length = 16) {q : Nat} (hq : q < 4) : g (nxtP b t p) q = if q = 0 then x8 (nxF b t 0) p else nxF b t q := by
  obtain ⟨a0, a1, a2, a3, a4, a5, a6, a7, a8, a9, a10, a11, a12, a13, a14, a15, rfl⟩ := len16 hb
  rcases q with _ | _ | _ | _ | q
  · kernel_rfl
  · kernel_rfl
  · kernel_rfl
  · kernel_rfl
  · omega
set_option maxRecDepth 100000 in
theorem nxt_high {b t : List Int} {p : Int} (hb : b.length = 16) {q : Nat} (hq : q < 12) : g (nxtP b t p) (q + 4) = x8 (g b (q + 4)) (g (nxtP b t p) q) := by
  obtain ⟨a0, a1, a2, a3, a4, a5, a6, a7, a8, a9, a10, a11, a12, a13, a14, a15, rfl⟩ := len16 hb
  rcases q with _ | _ | _ | _ | _ | _ | _ | _ | _ | _ | _ | _ | q
  · kernel_rfl
  · kernel_rfl
  · kernel_rfl
  · kernel_rfl
  · kernel_rfl
  · kernel_rfl
  · kernel_rfl
  · kernel_rfl
  · kernel_rfl
  · kernel_rfl
  · kernel_rfl
  · kernel_rfl
  · omega
section
variable {key t : List Int} (hk : key.length = 16)
include hk in
theorem WW_len : (WW key t).length = 176 := flatK_len (kk_len hk) 11
include hk in
theorem WW_g {r q : Nat} (hr : r < 11) (hq : q < 16) : g (WW key t) (16 * r + q) = g (kkP key t r) q := g_flatK (kk_len hk) hr hq
include hk in
theorem WW_turn (hkb : By key) (htb : By t) {r j : Nat} (hr : r < 10) (hj : j < 4) : g (WW key t) (4 * (4 * (r + 1)) + j) = x8 (g (WW key t) (4 * (4 * (r + 1)) - 16 + j)) (if j = 0 then x8 (g t (g (WW key t) (4 * (4 * (r + 1)) - 3)).toNat) (pw2 r) else g t (g (WW key t) (4 * (4 * (r + 1)) - 4 + (j + 1) % 4)).toNat) := by
  have hl := kk_len (t := t) hk r
  have hb := kk_by hkb htb r
  have e1 : 4 * (4 * (r + 1)) + j = 16 * (r + 1) + j := by omega
  have e2 : 4 * (4 * (r + 1)) - 16 + j = 16 * r + j := by omega
  have e3 : 4 * (4 * (r + 1)) - 3 = 16 * r + 13 := by omega
  have e4 : 4 * (4 * (r + 1)) - 4 + (j + 1) % 4 = 16 * r + (12 + (j + 1) % 4) := by omega
  rw [e1, e2, e3, e4, WW_g hk (by omega) (by omega), WW_g hk (by omega) (by omega), WW_g hk (by omega) (by omega), WW_g hk (by omega) (by omega), kkP, nxt_low hl hj]
  split
  · rename_i h
    subst h
    rw [nxF, x8_assoc (hb.g _) (htb.g _) (pw2_byte _)]
  · rfl
include hk in
theorem WW_same {r m j : Nat} (hr : r < 10) (hm : m < 3) (hj : j < 4) : g (WW key t) (4 * (4 * (r + 1) + m + 1) + j) = x8 (g (WW key t) (4 * (4 * (r + 1) + m + 1) - 16 + j)) (g (WW key t) (4 * (4 * (r + 1) + m + 1) - 4 + j)) := by
  have hl := kk_len (t := t) hk r
  have e1 : 4 * (4 * (r + 1) + m + 1) + j = 16 * (r + 1) + (4 * m + j + 4) := by omega
  have e2 : 4 * (4 * (r + 1) + m + 1) - 16 + j = 16 * r + (4 * m + j + 4) := by omega
  have e3 : 4 * (4 * (r + 1) + m + 1) - 4 + j = 16 * (r + 1) + (4 * m + j) := by omega
  rw [e1, e2, e3, WW_g hk (by omega) (by omega), WW_g hk (by omega) (by omega), WW_g hk (by omega) (by omega), kkP, nxt_high hl (by omega)]
end
end Go.Proofs.Ytgkccfjjjamhoaa
