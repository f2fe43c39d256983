/-
  Layer 6: the answer's key schedule.
-/
import Derived.Test.YtgkccfjjjamhoaaA6H
namespace Go.Proofs.Ytgkccfjjjamhoaa
open Go.RowKit

theorem WW_take {key t : List Int} (hk : key.length = 16) : (WW key t).take 16 = key := by
  have h := flatK_cut (f := kkP key t) (kk_len hk) (n := 11) (i := 0) (by omega) []
  rw [List.append_nil] at h
  exact h
theorem WW_by {key t : List Int} (hkb : By key) (htb : By t) : By (WW key t) := By.flatK (kk_by hkb htb) 11
theorem dbl_mul {p : Int} (h : 0 ≤ p ∧ p < 256) : mulP p 2 = dbl p := mul_two h

set_option maxRecDepth 100000 in
set_option maxHeartbeats 1600000 in
theorem rsched_exec (key t : List Int) (c : Option Nat) (hk : key.length = 16) (ht : t.length = 256) (hkb : By key) (htb : By t) : execF ER Try.f58 [.im 1 16 c (.flat .u8 key), arr8 t] (.one (.own 1 176 5 (.flat .u8 (WW key t)))) := by
  have hWl := WW_len (t := t) hk
  have hWb := WW_by hkb htb
  have hW0 := WW_take (t := t) hk
  obtain ⟨W, hW⟩ : ∃ W, W = WW key t := ⟨_, rfl⟩
  rw [← hW] at hWl hWb hW0 ⊢
  ((conv => whnf); repeat ((first | refine ⟨_, rfl, ?_⟩ | refine ⟨by decide, ?_⟩ | refine ⟨rfl, ?_⟩ | refine ⟨fun _ => ?_, fun h => absurd h (by decide)⟩ | refine ⟨fun h => absurd h (by decide), fun _ => ?_⟩ | refine ⟨inI_of (by omega), ?_⟩ | refine ⟨⟨rfl, inI_of (by omega)⟩, ?_⟩ | refine ⟨⟨rfl, by decide⟩, ?_⟩ | (apply Exists.intro; refine ⟨?_, ?_⟩; ((try simp only); (try simp only [Nat.zero_add]); (try simp only [Nat.mul_one]); (try simp only [Int.toNat_natCast]); exact at_g (by omega))) | (apply Exists.intro; refine ⟨?_, ?_⟩; ((try simp only); (try simp only [Nat.zero_add]); (try simp only [Nat.mul_one]); (try simp only [Int.toNat_natCast]); exact put_flat (by omega))) | refine ⟨_, cut_all (by omega), ?_⟩ | refine ⟨_, lay_all (by omega) (by omega), ?_⟩ | refine ⟨_, lay_all (by (try simp only); (try simp only [List.length_replicate]); (try simp only [List.length_cons]); (try simp only [List.length_nil]); omega) (by omega), ?_⟩ | refine ⟨by omega, ?_⟩ | refine ⟨len_flat (by omega), ?_⟩ | refine ⟨apart_uv _ _ _, ?_⟩ | refine ⟨_, resSlot_own rfl (by omega) (by first | exact .inl rfl | exact .inr ⟨rfl, rfl⟩), ?_⟩ | refine ⟨(by kernel_rfl : regB _ = true), ?_⟩ | refine ⟨⟨rfl, inI_of (by omega), by decide⟩, ?_⟩ | (apply Exists.intro; refine ⟨?_, ?_⟩; ((try simp only); (try simp only [Nat.zero_add]); (try simp only [Nat.mul_one]); (try simp only [Int.toNat_natCast]); exact at_drop_g (by omega))) | (apply Exists.intro; refine ⟨?_, ?_⟩; ((try simp only); (try simp only [Nat.zero_add]); (try simp only [Nat.mul_one]); (try simp only [Int.toNat_natCast]); exact cut_rest (by omega)))); conv => whnf))
  refine .inl ⟨fun n st => ∃ i : Nat, n = 44 - i ∧ 4 ≤ i ∧ i ≤ 44 ∧ st = ⟨[.im 1 16 c (.flat .u8 key), arr8 t, .poison, .ptr 24 0, .poison, .sl 1 88 0 (4 * i) none, iv .u8 (pw2 ((i + 3) / 4 - 1)), iv .i64 i, .poison, .poison, .poison, .poison, .poison, .poison, .poison, .poison, .poison, .poison, .poison, .poison, .poison, .poison, .poison, .poison, .poison, .poison, .poison, .poison, .poison, .poison, .poison, .poison, .poison, .poison, .poison, .poison, .poison, .poison, .poison, .poison, .poison, .poison, .poison, .poison, .poison, .poison, .poison, .poison, .poison, .poison, .poison, .poison, .poison, .poison, .poison, .poison, .poison, .poison, .poison, .poison, .poison, .poison, .poison, .poison, .poison, .poison, .poison, .poison, .poison, .poison, .poison, .poison, .poison, .poison, .poison, .poison, .poison, .poison, .poison, .poison, .poison, .poison, .poison, .poison, .poison],
    [(24, ⟨.flat .u8 t, 51, false⟩), (88, ⟨.flat .u8 (W.take (4 * i)), 5, true⟩)]⟩,
    ⟨[2, 4, 8, 9, 10, 11, 12, 13, 14, 15, 16, 17, 18, 19, 20, 21, 22, 23, 24, 25, 26, 27, 28, 29, 30, 31, 32, 33, 34, 35, 36, 37, 38, 39, 40, 41, 42, 43, 44, 45, 46, 47, 48, 49, 50, 51, 52, 53, 54, 55, 56, 57, 58, 59, 60, 61, 62, 63, 64, 65, 66, 67, 68, 69, 70, 71, 72, 73, 74, 75, 76, 77, 78, 79, 80, 81, 82, 83, 84], [], 40, 4, rfl, by omega, by omega, by rw [show 4 * 4 = 16 from rfl, hW0]; kernel_rfl⟩, ?_⟩
  rintro _ _ ⟨i, rfl, hi0, hi, rfl⟩
  have hl : (W.take (4 * i)).length = 4 * i := by rw [List.length_take]; omega
  conv => whnf
  refine ⟨fun h => ?_, fun h => ?_⟩
  · have h := of_decide_eq_true h
    have em : IntKind.i64.wrap (4 * (i : Int)) = ((4 * i : Nat) : Int) := by rw [wrap64 (by omega)]; omega
    have em4 : IntKind.i64.wrap (((4 * i : Nat) : Int) - 4) = ((4 * i - 4 : Nat) : Int) := by rw [wrap64 (by omega)]; omega
    have em3 : IntKind.i64.wrap (((4 * i : Nat) : Int) - 3) = ((4 * i - 3 : Nat) : Int) := by rw [wrap64 (by omega)]; omega
    have em2 : IntKind.i64.wrap (((4 * i : Nat) : Int) - 2) = ((4 * i - 2 : Nat) : Int) := by rw [wrap64 (by omega)]; omega
    have em1 : IntKind.i64.wrap (((4 * i : Nat) : Int) - 1) = ((4 * i - 1 : Nat) : Int) := by rw [wrap64 (by omega)]; omega
    have er : (i : Int).tmod 4 = ((i % 4 : Nat) : Int) := tmod_nat _ _
    obtain ⟨p, hp⟩ : ∃ p, p = (i + 3) / 4 - 1 := ⟨_, rfl⟩
    rw [← hp]
    have hpb := pw2_byte p
    ((conv => whnf); repeat ((first | refine ⟨_, rfl, ?_⟩ | refine ⟨by decide, ?_⟩ | refine ⟨rfl, ?_⟩ | refine ⟨fun _ => ?_, fun h => absurd h (by decide)⟩ | refine ⟨fun h => absurd h (by decide), fun _ => ?_⟩ | refine ⟨inI_of (by omega), ?_⟩ | refine ⟨⟨rfl, inI_of (by omega)⟩, ?_⟩ | refine ⟨⟨rfl, by decide⟩, ?_⟩ | refine ⟨by (try simp only); (try simp only [em]); (try simp only [em4]); (try simp only [em3]); (try simp only [em2]); (try simp only [em1]); (try simp only [er]); exact inI_of (by omega), ?_⟩ | refine ⟨⟨rfl, by (try simp only); (try simp only [em]); (try simp only [em4]); (try simp only [em3]); (try simp only [em2]); (try simp only [em1]); (try simp only [er]); exact inI_of (by omega)⟩, ?_⟩ | (apply Exists.intro; refine ⟨?_, ?_⟩; ((try simp only); (try simp only [em]); (try simp only [em4]); (try simp only [em3]); (try simp only [em2]); (try simp only [em1]); (try simp only [er]); (try simp only [Nat.zero_add]); (try simp only [Nat.mul_one]); (try simp only [Int.toNat_natCast]); (try simp only [em]); (try simp only [em4]); (try simp only [em3]); (try simp only [em2]); (try simp only [em1]); (try simp only [er]); (try simp only [Nat.zero_add]); (try simp only [Nat.mul_one]); (try simp only [Int.toNat_natCast]); exact at_g (by omega))) | (apply Exists.intro; refine ⟨?_, ?_⟩; ((try simp only); (try simp only [em]); (try simp only [em4]); (try simp only [em3]); (try simp only [em2]); (try simp only [em1]); (try simp only [er]); (try simp only [Nat.zero_add]); (try simp only [Nat.mul_one]); (try simp only [Int.toNat_natCast]); (try simp only [em]); (try simp only [em4]); (try simp only [em3]); (try simp only [em2]); (try simp only [em1]); (try simp only [er]); (try simp only [Nat.zero_add]); (try simp only [Nat.mul_one]); (try simp only [Int.toNat_natCast]); exact put_flat (by omega))) | refine ⟨_, cut_all (by omega), ?_⟩ | refine ⟨_, lay_all (by omega) (by omega), ?_⟩ | refine ⟨_, lay_all (by (try simp only); (try simp only [List.length_replicate]); (try simp only [List.length_cons]); (try simp only [List.length_nil]); omega) (by omega), ?_⟩ | refine ⟨by omega, ?_⟩ | refine ⟨len_flat (by omega), ?_⟩ | refine ⟨apart_uv _ _ _, ?_⟩ | refine ⟨_, resSlot_own rfl (by omega) (by first | exact .inl rfl | exact .inr ⟨rfl, rfl⟩), ?_⟩ | refine ⟨(by kernel_rfl : regB _ = true), ?_⟩ | refine ⟨⟨rfl, inI_of (by omega), by decide⟩, ?_⟩ | refine ⟨⟨rfl, by (try simp only); (try simp only [em]); (try simp only [em4]); (try simp only [em3]); (try simp only [em2]); (try simp only [em1]); (try simp only [er]); exact inI_of (by omega), by decide⟩, ?_⟩ | (apply Exists.intro; refine ⟨?_, ?_⟩; ((try simp only); (try simp only [em]); (try simp only [em4]); (try simp only [em3]); (try simp only [em2]); (try simp only [em1]); (try simp only [er]); (try simp only [Nat.zero_add]); (try simp only [Nat.mul_one]); (try simp only [Int.toNat_natCast]); (try simp only [em]); (try simp only [em4]); (try simp only [em3]); (try simp only [em2]); (try simp only [em1]); (try simp only [er]); (try simp only [Nat.zero_add]); (try simp only [Nat.mul_one]); (try simp only [Int.toNat_natCast]); exact at_drop_g (by omega))) | (apply Exists.intro; refine ⟨?_, ?_⟩; ((try simp only); (try simp only [em]); (try simp only [em4]); (try simp only [em3]); (try simp only [em2]); (try simp only [em1]); (try simp only [er]); (try simp only [Nat.zero_add]); (try simp only [Nat.mul_one]); (try simp only [Int.toNat_natCast]); (try simp only [em]); (try simp only [em4]); (try simp only [em3]); (try simp only [em2]); (try simp only [em1]); (try simp only [er]); (try simp only [Nat.zero_add]); (try simp only [Nat.mul_one]); (try simp only [Int.toNat_natCast]); exact cut_rest (by omega)))); conv => whnf))
    rw [g_take (by omega), g_take (by omega), g_take (by omega), g_take (by omega)]
    obtain ⟨b0, hb0⟩ : ∃ b, b = g W (4 * i - 4) := ⟨_, rfl⟩
    obtain ⟨b1, hb1⟩ : ∃ b, b = g W (4 * i - 3) := ⟨_, rfl⟩
    obtain ⟨b2, hb2⟩ : ∃ b, b = g W (4 * i - 2) := ⟨_, rfl⟩
    obtain ⟨b3, hb3⟩ : ∃ b, b = g W (4 * i - 1) := ⟨_, rfl⟩
    have hc0 : 0 ≤ b0 ∧ b0 < 256 := hb0 ▸ hWb.g _
    have hc1 : 0 ≤ b1 ∧ b1 < 256 := hb1 ▸ hWb.g _
    have hc2 : 0 ≤ b2 ∧ b2 < 256 := hb2 ▸ hWb.g _
    have hc3 : 0 ≤ b3 ∧ b3 < 256 := hb3 ▸ hWb.g _
    rw [← hb0, ← hb1, ← hb2, ← hb3]
    have hq : ∀ q, q < 4 → g W (4 * i - 4 + q) = g [b0, b1, b2, b3] q := by
      intro q h
      rcases q with _ | _ | _ | _ | q
      · exact hb0.symm
      · exact (congrArg (g W) (by omega)).trans hb1.symm
      · exact (congrArg (g W) (by omega)).trans hb2.symm
      · exact (congrArg (g W) (by omega)).trans hb3.symm
      · omega
    have em16 : IntKind.i64.wrap (((4 * i : Nat) : Int) - 16) = ((4 * i - 16 : Nat) : Int) := by rw [wrap64 (by omega)]; omega
    refine ⟨fun h2 => ?br1, fun h2 => ?br2⟩
    case' br1 =>
      have h2 := eq_of_beq h2
      rw [er] at h2
      have hi4 : i % 4 = 0 := by omega
      obtain ⟨r, hr⟩ : ∃ r, i = 4 * (r + 1) := ⟨i / 4 - 1, by omega⟩
      have hpr : p = r := by omega
      obtain ⟨T4, hT4⟩ : ∃ T, T = [x8 (g t (0 + b1.toNat * 1)) (pw2 p), g t (0 + b2.toNat * 1), g t (0 + b3.toNat * 1), g t (0 + b0.toNat * 1)] := ⟨_, rfl⟩
      obtain ⟨rc, hrc⟩ : ∃ rc, rc = mulP (pw2 p) 2 := ⟨_, rfl⟩
      have hrc2 : rc = pw2 ((i + 1 + 3) / 4 - 1) := by
        rw [hrc, dbl_mul hpb, show (i + 1 + 3) / 4 - 1 = p + 1 by omega]; rfl
      have hT : ∀ j, j < 4 → g W (4 * i + j) = x8 (g W (4 * i - 16 + j)) (g T4 j) := by
        intro j hj
        subst hr
        have h4 := WW_turn hk hkb htb (r := r) (by omega) hj
        rw [← hW] at h4
        rw [h4, hT4, hpr, ← hb1, hq _ (by omega)]
        simp only [Nat.zero_add, Nat.mul_one]
        rcases j with _ | _ | _ | _ | j
        · rfl
        · rfl
        · rfl
        · rfl
        · omega
      have hTl : T4.length = 4 := by rw [hT4]; rfl
      ((conv => whnf); repeat ((first | refine ⟨inI_of hc0, ?_⟩ | refine ⟨_, at_g (l := t) (i := 0 + b0.toNat * 1) (by omega), ?_⟩ | refine ⟨inI_of hc1, ?_⟩ | refine ⟨_, at_g (l := t) (i := 0 + b1.toNat * 1) (by omega), ?_⟩ | refine ⟨inI_of hc2, ?_⟩ | refine ⟨_, at_g (l := t) (i := 0 + b2.toNat * 1) (by omega), ?_⟩ | refine ⟨inI_of hc3, ?_⟩ | refine ⟨_, at_g (l := t) (i := 0 + b3.toNat * 1) (by omega), ?_⟩ | refine ⟨_, rfl, ?_⟩ | refine ⟨by decide, ?_⟩ | refine ⟨rfl, ?_⟩ | refine ⟨fun _ => ?_, fun h => absurd h (by decide)⟩ | refine ⟨fun h => absurd h (by decide), fun _ => ?_⟩ | refine ⟨inI_of (by omega), ?_⟩ | refine ⟨⟨rfl, inI_of (by omega)⟩, ?_⟩ | refine ⟨⟨rfl, by decide⟩, ?_⟩ | (apply Exists.intro; refine ⟨?_, ?_⟩; ((try simp only); (try simp only [Nat.zero_add]); (try simp only [Nat.mul_one]); (try simp only [Int.toNat_natCast]); exact at_g (by omega))) | (apply Exists.intro; refine ⟨?_, ?_⟩; ((try simp only); (try simp only [Nat.zero_add]); (try simp only [Nat.mul_one]); (try simp only [Int.toNat_natCast]); exact put_flat (by omega))) | refine ⟨_, cut_all (by omega), ?_⟩ | refine ⟨_, lay_all (by omega) (by omega), ?_⟩ | refine ⟨_, lay_all (by (try simp only); (try simp only [List.length_replicate]); (try simp only [List.length_cons]); (try simp only [List.length_nil]); omega) (by omega), ?_⟩ | refine ⟨by omega, ?_⟩ | refine ⟨len_flat (by omega), ?_⟩ | refine ⟨apart_uv _ _ _, ?_⟩ | refine ⟨_, resSlot_own rfl (by omega) (by first | exact .inl rfl | exact .inr ⟨rfl, rfl⟩), ?_⟩ | refine ⟨(by kernel_rfl : regB _ = true), ?_⟩ | refine ⟨⟨rfl, inI_of (by omega), by decide⟩, ?_⟩ | (apply Exists.intro; refine ⟨?_, ?_⟩; ((try simp only); (try simp only [Nat.zero_add]); (try simp only [Nat.mul_one]); (try simp only [Int.toNat_natCast]); exact at_drop_g (by omega))) | (apply Exists.intro; refine ⟨?_, ?_⟩; ((try simp only); (try simp only [Nat.zero_add]); (try simp only [Nat.mul_one]); (try simp only [Int.toNat_natCast]); exact cut_rest (by omega)))); conv => whnf))
      rw [← hrc]
      clear hrc
      refine .inl ⟨fun n st => ∃ j : Nat, n = 4 - j ∧ j ≤ 4 ∧ (st = ⟨[.im 1 16 c (.flat .u8 key), arr8 t, .poison, .ptr 24 0, .poison, .sl 1 88 0 (4 * i + j) none, iv .u8 rc, iv .i64 i, .ptr 64 0, .poison, .poison, .poison, .poison, .poison, .poison, .poison, .poison, .poison, .poison, .poison, .poison, .poison, .poison, .poison, .poison, .poison, .poison, .poison, .poison, .poison, .poison, .poison, .poison, .poison, .poison, .poison, .poison, .poison, .poison, .poison, .poison, .poison, .poison, .poison, .poison, .poison, .poison, .poison, .poison, .poison, .poison, .poison, .poison, .poison, .poison, .poison, .poison, .poison, .poison, .poison, .poison, .poison, .poison, .poison, .poison, iv .i64 j, .poison, .poison, .poison, .poison, .poison, .poison, .poison, .poison, .poison, .poison, .poison, .poison, .poison, .poison, .poison, .poison, .poison, .poison, .poison],
        [(24, ⟨.flat .u8 t, 51, false⟩), (88, ⟨.flat .u8 (W.take (4 * i + j)), 5, true⟩), (64, ⟨.flat .u8 T4, 77, false⟩)]⟩ ∨ st = ⟨[.im 1 16 c (.flat .u8 key), arr8 t, .poison, .ptr 24 0, .poison, .sl 1 88 0 (4 * i + j) none, iv .u8 rc, iv .i64 i, .ptr 64 0, .poison, .poison, .poison, .poison, .poison, .poison, .poison, .poison, .poison, .poison, .poison, .poison, .poison, .poison, .poison, .poison, .poison, .poison, .poison, .poison, .poison, .poison, .poison, .poison, .poison, .poison, .poison, .poison, .poison, .poison, .poison, .poison, .poison, .poison, .poison, .poison, .poison, .poison, .poison, .poison, .poison, .poison, .poison, .poison, .poison, .poison, .poison, .poison, .poison, .poison, .poison, .poison, .poison, .poison, .poison, .poison, iv .i64 j, .poison, .poison, .poison, .poison, .poison, .poison, .poison, .poison, .poison, .poison, .poison, .poison, .poison, .poison, .poison, .poison, .poison, .poison, .poison],
        [(24, ⟨.flat .u8 t, 51, false⟩), (64, ⟨.flat .u8 T4, 77, false⟩), (88, ⟨.flat .u8 (W.take (4 * i + j)), 5, true⟩)]⟩),
        ⟨[2, 4, 9, 10, 11, 12, 13, 14, 15, 16, 17, 18, 19, 20, 21, 22, 23, 24, 25, 26, 27, 28, 29, 30, 31, 32, 33, 34, 35, 36, 37, 38, 39, 40, 41, 42, 43, 44, 45, 46, 47, 48, 49, 50, 51, 52, 53, 54, 55, 56, 57, 58, 59, 60, 61, 62, 63, 64, 66, 67, 68, 69, 70, 71, 72, 73, 74, 75, 76, 77, 78, 79, 80, 81, 82, 83, 84], [], 4, 0, rfl, by omega, .inl (by rw [hT4]; kernel_rfl)⟩, ?_⟩
      clear hT4
    case' br2 =>
      have h2 : i % 4 ≠ 0 := by
        intro h3
        rw [er, h3] at h2
        exact absurd h2 (by decide)
      obtain ⟨r, m, hr, hm⟩ : ∃ r m, i = 4 * (r + 1) + m + 1 ∧ m < 3 := ⟨i / 4 - 1, i % 4 - 1, by omega, by omega⟩
      obtain ⟨T4, hT4⟩ : ∃ T, T = [b0, b1, b2, b3] := ⟨_, rfl⟩
      obtain ⟨rc, hrc⟩ : ∃ rc, rc = pw2 p := ⟨_, rfl⟩
      have hrc2 : rc = pw2 ((i + 1 + 3) / 4 - 1) := by
        rw [hrc, hp]
        congr 1
        omega
      have hT : ∀ j, j < 4 → g W (4 * i + j) = x8 (g W (4 * i - 16 + j)) (g T4 j) := by
        intro j hj
        subst hr
        have h4 := WW_same (t := t) hk (r := r) (by omega) hm hj
        rw [← hW] at h4
        rw [h4, hT4, hq _ hj]
      have hTl : T4.length = 4 := by rw [hT4]; rfl
      rw [← hrc]
      ((conv => whnf); repeat ((first | refine ⟨_, rfl, ?_⟩ | refine ⟨by decide, ?_⟩ | refine ⟨rfl, ?_⟩ | refine ⟨fun _ => ?_, fun h => absurd h (by decide)⟩ | refine ⟨fun h => absurd h (by decide), fun _ => ?_⟩ | refine ⟨inI_of (by omega), ?_⟩ | refine ⟨⟨rfl, inI_of (by omega)⟩, ?_⟩ | refine ⟨⟨rfl, by decide⟩, ?_⟩ | (apply Exists.intro; refine ⟨?_, ?_⟩; ((try simp only); (try simp only [Nat.zero_add]); (try simp only [Nat.mul_one]); (try simp only [Int.toNat_natCast]); exact at_g (by omega))) | (apply Exists.intro; refine ⟨?_, ?_⟩; ((try simp only); (try simp only [Nat.zero_add]); (try simp only [Nat.mul_one]); (try simp only [Int.toNat_natCast]); exact put_flat (by omega))) | refine ⟨_, cut_all (by omega), ?_⟩ | refine ⟨_, lay_all (by omega) (by omega), ?_⟩ | refine ⟨_, lay_all (by (try simp only); (try simp only [List.length_replicate]); (try simp only [List.length_cons]); (try simp only [List.length_nil]); omega) (by omega), ?_⟩ | refine ⟨by omega, ?_⟩ | refine ⟨len_flat (by omega), ?_⟩ | refine ⟨apart_uv _ _ _, ?_⟩ | refine ⟨_, resSlot_own rfl (by omega) (by first | exact .inl rfl | exact .inr ⟨rfl, rfl⟩), ?_⟩ | refine ⟨(by kernel_rfl : regB _ = true), ?_⟩ | refine ⟨⟨rfl, inI_of (by omega), by decide⟩, ?_⟩ | (apply Exists.intro; refine ⟨?_, ?_⟩; ((try simp only); (try simp only [Nat.zero_add]); (try simp only [Nat.mul_one]); (try simp only [Int.toNat_natCast]); exact at_drop_g (by omega))) | (apply Exists.intro; refine ⟨?_, ?_⟩; ((try simp only); (try simp only [Nat.zero_add]); (try simp only [Nat.mul_one]); (try simp only [Int.toNat_natCast]); exact cut_rest (by omega)))); conv => whnf))
      clear hrc
      refine .inl ⟨fun n st => ∃ j : Nat, n = 4 - j ∧ j ≤ 4 ∧ (st = ⟨[.im 1 16 c (.flat .u8 key), arr8 t, .poison, .ptr 24 0, .poison, .sl 1 88 0 (4 * i + j) none, iv .u8 rc, iv .i64 i, .ptr 64 0, .poison, .poison, .poison, .poison, .poison, .poison, .poison, .poison, .poison, .poison, .poison, .poison, .poison, .poison, .poison, .poison, .poison, .poison, .poison, .poison, .poison, .poison, .poison, .poison, .poison, .poison, .poison, .poison, .poison, .poison, .poison, .poison, .poison, .poison, .poison, .poison, .poison, .poison, .poison, .poison, .poison, .poison, .poison, .poison, .poison, .poison, .poison, .poison, .poison, .poison, .poison, .poison, .poison, .poison, .poison, .poison, iv .i64 j, .poison, .poison, .poison, .poison, .poison, .poison, .poison, .poison, .poison, .poison, .poison, .poison, .poison, .poison, .poison, .poison, .poison, .poison, .poison],
        [(24, ⟨.flat .u8 t, 51, false⟩), (88, ⟨.flat .u8 (W.take (4 * i + j)), 5, true⟩), (64, ⟨.flat .u8 T4, 77, false⟩)]⟩ ∨ st = ⟨[.im 1 16 c (.flat .u8 key), arr8 t, .poison, .ptr 24 0, .poison, .sl 1 88 0 (4 * i + j) none, iv .u8 rc, iv .i64 i, .ptr 64 0, .poison, .poison, .poison, .poison, .poison, .poison, .poison, .poison, .poison, .poison, .poison, .poison, .poison, .poison, .poison, .poison, .poison, .poison, .poison, .poison, .poison, .poison, .poison, .poison, .poison, .poison, .poison, .poison, .poison, .poison, .poison, .poison, .poison, .poison, .poison, .poison, .poison, .poison, .poison, .poison, .poison, .poison, .poison, .poison, .poison, .poison, .poison, .poison, .poison, .poison, .poison, .poison, .poison, .poison, .poison, .poison, iv .i64 j, .poison, .poison, .poison, .poison, .poison, .poison, .poison, .poison, .poison, .poison, .poison, .poison, .poison, .poison, .poison, .poison, .poison, .poison, .poison],
        [(24, ⟨.flat .u8 t, 51, false⟩), (64, ⟨.flat .u8 T4, 77, false⟩), (88, ⟨.flat .u8 (W.take (4 * i + j)), 5, true⟩)]⟩),
        ⟨[2, 4, 9, 10, 11, 12, 13, 14, 15, 16, 17, 18, 19, 20, 21, 22, 23, 24, 25, 26, 27, 28, 29, 30, 31, 32, 33, 34, 35, 36, 37, 38, 39, 40, 41, 42, 43, 44, 45, 46, 47, 48, 49, 50, 51, 52, 53, 54, 55, 56, 57, 58, 59, 60, 61, 62, 63, 64, 66, 67, 68, 69, 70, 71, 72, 73, 74, 75, 76, 77, 78, 79, 80, 81, 82, 83, 84], [], 4, 0, rfl, by omega, .inl (by rw [hT4]; kernel_rfl)⟩, ?_⟩
      clear hT4
    all_goals
      rintro _ _ ⟨j, rfl, hj, rfl | rfl⟩
    all_goals
      have hlj : (W.take (4 * i + j)).length = 4 * i + j := by rw [List.length_take]; omega
      conv => whnf
      refine ⟨fun h3 => ?_, fun h3 => ?_⟩
      · have h3 := of_decide_eq_true h3
        have ej : IntKind.i64.wrap (((4 * i - 16 : Nat) : Int) + (j : Int)) = ((4 * i - 16 + j : Nat) : Int) := by rw [wrap64 (by omega)]; omega
        have e1 : IntKind.i64.wrap ((j : Int) + 1) = ((j + 1 : Nat) : Int) := by rw [wrap64 (by omega)]; omega
        ((conv => whnf); repeat ((first | refine ⟨_, append_grow (cnt := 1) rfl rfl rfl rfl rfl hlj rfl (by omega) (by omega), ?_⟩ | refine ⟨_, rfl, ?_⟩ | refine ⟨by decide, ?_⟩ | refine ⟨rfl, ?_⟩ | refine ⟨fun _ => ?_, fun h => absurd h (by decide)⟩ | refine ⟨fun h => absurd h (by decide), fun _ => ?_⟩ | refine ⟨inI_of (by omega), ?_⟩ | refine ⟨⟨rfl, inI_of (by omega)⟩, ?_⟩ | refine ⟨⟨rfl, by decide⟩, ?_⟩ | refine ⟨by (try simp only); (try simp only [em]); (try simp only [em16]); (try simp only [ej]); (try simp only [e1]); exact inI_of (by omega), ?_⟩ | refine ⟨⟨rfl, by (try simp only); (try simp only [em]); (try simp only [em16]); (try simp only [ej]); (try simp only [e1]); exact inI_of (by omega)⟩, ?_⟩ | (apply Exists.intro; refine ⟨?_, ?_⟩; ((try simp only); (try simp only [em]); (try simp only [em16]); (try simp only [ej]); (try simp only [e1]); (try simp only [Nat.zero_add]); (try simp only [Nat.mul_one]); (try simp only [Int.toNat_natCast]); (try simp only [em]); (try simp only [em16]); (try simp only [ej]); (try simp only [e1]); (try simp only [Nat.zero_add]); (try simp only [Nat.mul_one]); (try simp only [Int.toNat_natCast]); exact at_g (by omega))) | (apply Exists.intro; refine ⟨?_, ?_⟩; ((try simp only); (try simp only [em]); (try simp only [em16]); (try simp only [ej]); (try simp only [e1]); (try simp only [Nat.zero_add]); (try simp only [Nat.mul_one]); (try simp only [Int.toNat_natCast]); (try simp only [em]); (try simp only [em16]); (try simp only [ej]); (try simp only [e1]); (try simp only [Nat.zero_add]); (try simp only [Nat.mul_one]); (try simp only [Int.toNat_natCast]); exact put_flat (by omega))) | refine ⟨_, cut_all (by omega), ?_⟩ | refine ⟨_, lay_all (by omega) (by omega), ?_⟩ | refine ⟨_, lay_all (by (try simp only); (try simp only [List.length_replicate]); (try simp only [List.length_cons]); (try simp only [List.length_nil]); omega) (by omega), ?_⟩ | refine ⟨by omega, ?_⟩ | refine ⟨len_flat (by omega), ?_⟩ | refine ⟨apart_uv _ _ _, ?_⟩ | refine ⟨_, resSlot_own rfl (by omega) (by first | exact .inl rfl | exact .inr ⟨rfl, rfl⟩), ?_⟩ | refine ⟨(by kernel_rfl : regB _ = true), ?_⟩ | refine ⟨⟨rfl, inI_of (by omega), by decide⟩, ?_⟩ | refine ⟨⟨rfl, by (try simp only); (try simp only [em]); (try simp only [em16]); (try simp only [ej]); (try simp only [e1]); exact inI_of (by omega), by decide⟩, ?_⟩ | (apply Exists.intro; refine ⟨?_, ?_⟩; ((try simp only); (try simp only [em]); (try simp only [em16]); (try simp only [ej]); (try simp only [e1]); (try simp only [Nat.zero_add]); (try simp only [Nat.mul_one]); (try simp only [Int.toNat_natCast]); (try simp only [em]); (try simp only [em16]); (try simp only [ej]); (try simp only [e1]); (try simp only [Nat.zero_add]); (try simp only [Nat.mul_one]); (try simp only [Int.toNat_natCast]); exact at_drop_g (by omega))) | (apply Exists.intro; refine ⟨?_, ?_⟩; ((try simp only); (try simp only [em]); (try simp only [em16]); (try simp only [ej]); (try simp only [e1]); (try simp only [Nat.zero_add]); (try simp only [Nat.mul_one]); (try simp only [Int.toNat_natCast]); (try simp only [em]); (try simp only [em16]); (try simp only [ej]); (try simp only [e1]); (try simp only [Nat.zero_add]); (try simp only [Nat.mul_one]); (try simp only [Int.toNat_natCast]); exact cut_rest (by omega)))); conv => whnf))
        have h5 : bits .xor .u8 (g W (4 * i - 16 + j)) (g T4 j) = g W (4 * i + j) := (hT j (by omega)).symm
        have h6 : W.take (4 * i + (j + 1)) = W.take (4 * i + j) ++ [g W (4 * i + j)] := (take_g (l := W) (n := 4 * i + j) (by omega)).symm
        rw [g_take (by omega), h5]
        refine ⟨[2, 4, 9, 10, 11, 12, 13, 14, 15, 16, 17, 18, 19, 20, 21, 22, 23, 24, 25, 26, 27, 28, 29, 30, 31, 32, 33, 34, 35, 36, 37, 38, 39, 40, 41, 42, 43, 44, 45, 46, 47, 48, 49, 50, 51, 52, 53, 54, 55, 56, 57, 58, 59, 60, 61, 62, 63, 64, 66, 67, 68, 69, 70, 71, 72, 73, 74, 75, 76, 77, 78, 79, 80, 81, 82, 83, 84], [648], _, ?_, j + 1, rfl, by omega, .inr ?_⟩
        · omega
        · rw [← e1, h6]; kernel_rfl
      · have h3 := of_decide_eq_false h3
        have hj' : j = 4 := by omega
        subst hj'
        ((conv => whnf); repeat ((first | refine ⟨_, rfl, ?_⟩ | refine ⟨by decide, ?_⟩ | refine ⟨rfl, ?_⟩ | refine ⟨fun _ => ?_, fun h => absurd h (by decide)⟩ | refine ⟨fun h => absurd h (by decide), fun _ => ?_⟩ | refine ⟨inI_of (by omega), ?_⟩ | refine ⟨⟨rfl, inI_of (by omega)⟩, ?_⟩ | refine ⟨⟨rfl, by decide⟩, ?_⟩ | (apply Exists.intro; refine ⟨?_, ?_⟩; ((try simp only); (try simp only [Nat.zero_add]); (try simp only [Nat.mul_one]); (try simp only [Int.toNat_natCast]); exact at_g (by omega))) | (apply Exists.intro; refine ⟨?_, ?_⟩; ((try simp only); (try simp only [Nat.zero_add]); (try simp only [Nat.mul_one]); (try simp only [Int.toNat_natCast]); exact put_flat (by omega))) | refine ⟨_, cut_all (by omega), ?_⟩ | refine ⟨_, lay_all (by omega) (by omega), ?_⟩ | refine ⟨_, lay_all (by (try simp only); (try simp only [List.length_replicate]); (try simp only [List.length_cons]); (try simp only [List.length_nil]); omega) (by omega), ?_⟩ | refine ⟨by omega, ?_⟩ | refine ⟨len_flat (by omega), ?_⟩ | refine ⟨apart_uv _ _ _, ?_⟩ | refine ⟨_, resSlot_own rfl (by omega) (by first | exact .inl rfl | exact .inr ⟨rfl, rfl⟩), ?_⟩ | refine ⟨(by kernel_rfl : regB _ = true), ?_⟩ | refine ⟨⟨rfl, inI_of (by omega), by decide⟩, ?_⟩ | (apply Exists.intro; refine ⟨?_, ?_⟩; ((try simp only); (try simp only [Nat.zero_add]); (try simp only [Nat.mul_one]); (try simp only [Int.toNat_natCast]); exact at_drop_g (by omega))) | (apply Exists.intro; refine ⟨?_, ?_⟩; ((try simp only); (try simp only [Nat.zero_add]); (try simp only [Nat.mul_one]); (try simp only [Int.toNat_natCast]); exact cut_rest (by omega)))); conv => whnf))
        have e1 : IntKind.i64.wrap ((i : Int) + 1) = ((i + 1 : Nat) : Int) := by rw [wrap64 (by omega)]; omega
        refine ⟨[2, 4, 8, 9, 10, 11, 12, 13, 14, 15, 16, 17, 18, 19, 20, 21, 22, 23, 24, 25, 26, 27, 28, 29, 30, 31, 32, 33, 34, 35, 36, 37, 38, 39, 40, 41, 42, 43, 44, 45, 46, 47, 48, 49, 50, 51, 52, 53, 54, 55, 56, 57, 58, 59, 60, 61, 62, 63, 64, 65, 66, 67, 68, 69, 70, 71, 72, 73, 74, 75, 76, 77, 78, 79, 80, 81, 82, 83, 84], [64], _, ?_, i + 1, rfl, by omega, by omega, ?_⟩
        · omega
        · rw [← e1, ← hrc2]; kernel_rfl
  · have h := of_decide_eq_false h
    have hi' : i = 44 := by omega
    subst hi'
    have hfin : (W.take (4 * 44)).take (176 * 1) = W := by rw [List.take_take]; exact List.take_of_length_le (by omega)
    have hl2 : (W.take (4 * 44)).length = 176 := hl
    obtain ⟨R, hR⟩ : ∃ R, R = W.take (4 * 44) := ⟨_, rfl⟩
    rw [← hR] at hl2 hfin ⊢
    ((conv => whnf); repeat ((first | refine ⟨_, rfl, ?_⟩ | refine ⟨by decide, ?_⟩ | refine ⟨rfl, ?_⟩ | refine ⟨fun _ => ?_, fun h => absurd h (by decide)⟩ | refine ⟨fun h => absurd h (by decide), fun _ => ?_⟩ | refine ⟨inI_of (by omega), ?_⟩ | refine ⟨⟨rfl, inI_of (by omega)⟩, ?_⟩ | refine ⟨⟨rfl, by decide⟩, ?_⟩ | (apply Exists.intro; refine ⟨?_, ?_⟩; ((try simp only); (try simp only [Nat.zero_add]); (try simp only [Nat.mul_one]); (try simp only [Int.toNat_natCast]); exact at_g (by omega))) | (apply Exists.intro; refine ⟨?_, ?_⟩; ((try simp only); (try simp only [Nat.zero_add]); (try simp only [Nat.mul_one]); (try simp only [Int.toNat_natCast]); exact put_flat (by omega))) | refine ⟨_, cut_all (by omega), ?_⟩ | refine ⟨_, lay_all (by omega) (by omega), ?_⟩ | refine ⟨_, lay_all (by (try simp only); (try simp only [List.length_replicate]); (try simp only [List.length_cons]); (try simp only [List.length_nil]); omega) (by omega), ?_⟩ | refine ⟨by omega, ?_⟩ | refine ⟨len_flat (by omega), ?_⟩ | refine ⟨apart_uv _ _ _, ?_⟩ | refine ⟨_, resSlot_own rfl (by omega) (by first | exact .inl rfl | exact .inr ⟨rfl, rfl⟩), ?_⟩ | refine ⟨(by kernel_rfl : regB _ = true), ?_⟩ | refine ⟨⟨rfl, inI_of (by omega), by decide⟩, ?_⟩ | (apply Exists.intro; refine ⟨?_, ?_⟩; ((try simp only); (try simp only [Nat.zero_add]); (try simp only [Nat.mul_one]); (try simp only [Int.toNat_natCast]); exact at_drop_g (by omega))) | (apply Exists.intro; refine ⟨?_, ?_⟩; ((try simp only); (try simp only [Nat.zero_add]); (try simp only [Nat.mul_one]); (try simp only [Int.toNat_natCast]); exact cut_rest (by omega)))); conv => whnf))
    refine Eq.trans ?_ (show LRes.one (.own 1 176 5 (.flat .u8 (R.take (176 * 1)))) = LRes.one (.own 1 176 5 (.flat .u8 W)) by rw [hfin])
    rfl
end Go.Proofs.Ytgkccfjjjamhoaa
