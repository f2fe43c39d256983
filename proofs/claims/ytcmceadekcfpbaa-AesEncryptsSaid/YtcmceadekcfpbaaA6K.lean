/-
  Layer 6: the answer's Decrypt.
-/
import Derived.Test.YtcmceadekcfpbaaA6J
namespace Go.Proofs.Ytcmceadekcfpbaa
open Go.RowKit

def sq (a : List Int) : Nat → List Int
  | 0 => List.replicate 16 0
  | m + 1 => (sq a m).set (4 * ((m / 4 + m % 4) % 4) + m % 4) (g IB (g a m).toNat)
theorem sq_len (a : List Int) : ∀ m, (sq a m).length = 16
  | 0 => by rw [sq, List.length_replicate]
  | m + 1 => by rw [sq, List.length_set, sq_len a m]
theorem sq_all {a : List Int} (h : a.length = 16) : sq a 16 = replP (unshiftP a) IB := by
  obtain ⟨a0, a1, a2, a3, a4, a5, a6, a7, a8, a9, a10, a11, a12, a13, a14, a15, rfl⟩ := len16 h
  kernel_rfl
set_option maxRecDepth 100000 in
set_option maxHeartbeats 1600000 in
theorem rdec_no1 (n n2 : Nat) (c c2 : Option Nat) (x x2 : Cont) (hn : n ≠ 16) : execF ES Try.f17 [.im 1 n c x, .im 1 n2 c2 x2] (no2 1) := by
  have hq : ((n : Int) != 16) = true := by simp; omega
  ((conv => whnf); repeat ((first | refine ⟨fun _ => ?_, fun h => absurd (hq.symm.trans h) (by decide)⟩ | refine ⟨fun h => absurd (hq.symm.trans h) (by decide), fun _ => ?_⟩ | refine ⟨_, rfl, ?_⟩ | refine ⟨by decide, ?_⟩ | refine ⟨rfl, ?_⟩ | refine ⟨fun _ => ?_, fun h => absurd h (by decide)⟩ | refine ⟨fun h => absurd h (by decide), fun _ => ?_⟩ | refine ⟨inI_of (by omega), ?_⟩ | refine ⟨⟨rfl, inI_of (by omega)⟩, ?_⟩ | refine ⟨⟨rfl, by decide⟩, ?_⟩ | (apply Exists.intro; refine ⟨?_, ?_⟩; ((try simp only [Nat.zero_add, Nat.mul_one, Int.toNat_natCast]); exact at_g (by omega))) | (apply Exists.intro; refine ⟨?_, ?_⟩; ((try simp only [Nat.zero_add, Nat.mul_one, Int.toNat_natCast]); exact put_flat (by omega))) | refine ⟨_, cut_all (by omega), ?_⟩ | refine ⟨_, lay_all (by omega) (by omega), ?_⟩ | refine ⟨_, lay_all (by simp only [List.length_replicate, List.length_cons, List.length_nil]; omega) (by omega), ?_⟩ | refine ⟨by omega, ?_⟩ | refine ⟨len_flat (by omega), ?_⟩ | refine ⟨apart_uv _ _ _, ?_⟩ | refine ⟨_, resSlot_own rfl (by omega) (by first | exact .inl rfl | exact .inr ⟨rfl, rfl⟩), ?_⟩ | refine ⟨(by kernel_rfl : regB _ = true), ?_⟩); conv => whnf))
  rfl
set_option maxRecDepth 100000 in
set_option maxHeartbeats 1600000 in
theorem rdec_no2 (n2 : Nat) (c c2 : Option Nat) (x x2 : Cont) (hn : n2 ≠ 16) : execF ES Try.f17 [.im 1 16 c x, .im 1 n2 c2 x2] (no2 1) := by
  have hq : ((n2 : Int) != 16) = true := by simp; omega
  ((conv => whnf); repeat ((first | refine ⟨fun _ => ?_, fun h => absurd (hq.symm.trans h) (by decide)⟩ | refine ⟨fun h => absurd (hq.symm.trans h) (by decide), fun _ => ?_⟩ | refine ⟨_, rfl, ?_⟩ | refine ⟨by decide, ?_⟩ | refine ⟨rfl, ?_⟩ | refine ⟨fun _ => ?_, fun h => absurd h (by decide)⟩ | refine ⟨fun h => absurd h (by decide), fun _ => ?_⟩ | refine ⟨inI_of (by omega), ?_⟩ | refine ⟨⟨rfl, inI_of (by omega)⟩, ?_⟩ | refine ⟨⟨rfl, by decide⟩, ?_⟩ | (apply Exists.intro; refine ⟨?_, ?_⟩; ((try simp only [Nat.zero_add, Nat.mul_one, Int.toNat_natCast]); exact at_g (by omega))) | (apply Exists.intro; refine ⟨?_, ?_⟩; ((try simp only [Nat.zero_add, Nat.mul_one, Int.toNat_natCast]); exact put_flat (by omega))) | refine ⟨_, cut_all (by omega), ?_⟩ | refine ⟨_, lay_all (by omega) (by omega), ?_⟩ | refine ⟨_, lay_all (by simp only [List.length_replicate, List.length_cons, List.length_nil]; omega) (by omega), ?_⟩ | refine ⟨by omega, ?_⟩ | refine ⟨len_flat (by omega), ?_⟩ | refine ⟨apart_uv _ _ _, ?_⟩ | refine ⟨_, resSlot_own rfl (by omega) (by first | exact .inl rfl | exact .inr ⟨rfl, rfl⟩), ?_⟩ | refine ⟨(by kernel_rfl : regB _ = true), ?_⟩); conv => whnf))
  rfl
set_option maxRecDepth 100000 in
set_option maxHeartbeats 1600000 in
theorem rdec_ok (key block : List Int) (c c2 : Option Nat) (hk : key.length = 16) (hkb : By key) (hb : block.length = 16) (hbb : By block) : execF ES Try.f17 [.im 1 16 c (.flat .u8 key), .im 1 16 c2 (.flat .u8 block)] (ret2 (.own 1 16 5 (.flat .u8 (decP key block))) 0) := by
  have hSl := SB_len
  have hWl := WW_len (t := SB) hk
  have hsch := oRsched c hk SB_len hkb SB_by
  have hcut : ∀ r : Nat, r ≤ 10 → (Cont.flat .u8 (WW key SB)).cut (16 * r) 16 = some (.flat .u8 (kkP key SB r)) := by
    intro r hr
    have h := flatK_cut (f := kkP key SB) (kk_len hk) (n := 11) (i := r) (by omega) []
    rw [List.append_nil] at h
    rw [cut_flat (by omega)]
    exact congrArg (fun l => some (Cont.flat IntKind.u8 l)) h
  obtain ⟨W, hW⟩ : ∃ W, W = WW key SB := ⟨_, rfl⟩
  rw [← hW] at hWl hsch hcut
  ((conv => whnf); repeat ((first | refine ⟨_, rfl, ?_⟩ | refine ⟨by decide, ?_⟩ | refine ⟨rfl, ?_⟩ | refine ⟨fun _ => ?_, fun h => absurd h (by decide)⟩ | refine ⟨fun h => absurd h (by decide), fun _ => ?_⟩ | refine ⟨inI_of (by omega), ?_⟩ | refine ⟨⟨rfl, inI_of (by omega)⟩, ?_⟩ | refine ⟨⟨rfl, by decide⟩, ?_⟩ | (apply Exists.intro; refine ⟨?_, ?_⟩; ((try simp only [Nat.zero_add, Nat.mul_one, Int.toNat_natCast]); exact at_g (by omega))) | (apply Exists.intro; refine ⟨?_, ?_⟩; ((try simp only [Nat.zero_add, Nat.mul_one, Int.toNat_natCast]); exact put_flat (by omega))) | refine ⟨_, cut_all (by omega), ?_⟩ | refine ⟨_, lay_all (by omega) (by omega), ?_⟩ | refine ⟨_, lay_all (by simp only [List.length_replicate, List.length_cons, List.length_nil]; omega) (by omega), ?_⟩ | refine ⟨by omega, ?_⟩ | refine ⟨len_flat (by omega), ?_⟩ | refine ⟨apart_uv _ _ _, ?_⟩ | refine ⟨_, resSlot_own rfl (by omega) (by first | exact .inl rfl | exact .inr ⟨rfl, rfl⟩), ?_⟩ | refine ⟨(by kernel_rfl : regB _ = true), ?_⟩); conv => whnf))
  refine .inl ⟨fun n st => ∃ i : Nat, n = 256 - i ∧ i ≤ 256 ∧ st = ⟨[.im 1 16 c (.flat .u8 key), .im 1 16 c2 (.flat .u8 block), .poison, .poison, .poison, .poison, .ptr 48 0, .ptr 56 0, .poison, .poison, .poison, .poison, .poison, .poison, .poison, .poison, .poison, .poison, .poison, .poison, .poison, .poison, .poison, .poison, iv .i64 i, .poison, .poison, .poison, .poison, .poison, .poison, .poison, .poison, .poison, .poison, .poison, .poison, .poison, .poison, .poison, .poison, .poison, .poison, .poison, .poison, .poison, .poison, .poison, .poison, .poison, .poison, .poison, .poison, .poison, .poison, .poison, .poison, .poison, .poison, .poison, .poison, .poison, .poison, .poison, .poison, .poison, .poison, .poison, .poison, .poison, .poison, .poison, .poison, .poison, .poison, .poison, .poison, .poison, .poison, .poison, .poison, .poison, .poison, .poison, .poison, .poison, .poison, .poison, .poison],
    [(48, ⟨.flat .u8 SB, 45, false⟩), (56, ⟨.flat .u8 (bk SB i), 45, false⟩)]⟩,
    ⟨[2, 3, 4, 5, 8, 9, 10, 11, 12, 13, 14, 15, 16, 17, 18, 19, 20, 21, 22, 23, 25, 26, 27, 28, 29, 30, 31, 32, 33, 34, 35, 36, 37, 38, 39, 40, 41, 42, 43, 44, 45, 46, 47, 48, 49, 50, 51, 52, 53, 54, 55, 56, 57, 58, 59, 60, 61, 62, 63, 64, 65, 66, 67, 68, 69, 70, 71, 72, 73, 74, 75, 76, 77, 78, 79, 80, 81, 82, 83, 84, 85, 86, 87, 88], [], 256, 0, rfl, by omega, by kernel_rfl⟩, ?_⟩
  rintro _ _ ⟨i, rfl, hi, rfl⟩
  have hl := bk_len SB i
  conv => whnf
  refine ⟨fun h => ?_, fun h => ?_⟩
  · have h := of_decide_eq_true h
    have hg := SB_by.g i
    ((conv => whnf); repeat ((first | refine ⟨_, rfl, ?_⟩ | refine ⟨by decide, ?_⟩ | refine ⟨rfl, ?_⟩ | refine ⟨fun _ => ?_, fun h => absurd h (by decide)⟩ | refine ⟨fun h => absurd h (by decide), fun _ => ?_⟩ | refine ⟨inI_of (by omega), ?_⟩ | refine ⟨⟨rfl, inI_of (by omega)⟩, ?_⟩ | refine ⟨⟨rfl, by decide⟩, ?_⟩ | (apply Exists.intro; refine ⟨?_, ?_⟩; ((try simp only [Nat.zero_add, Nat.mul_one, Int.toNat_natCast]); exact at_g (by omega))) | (apply Exists.intro; refine ⟨?_, ?_⟩; ((try simp only [Nat.zero_add, Nat.mul_one, Int.toNat_natCast]); exact put_flat (by omega))) | refine ⟨_, cut_all (by omega), ?_⟩ | refine ⟨_, lay_all (by omega) (by omega), ?_⟩ | refine ⟨_, lay_all (by simp only [List.length_replicate, List.length_cons, List.length_nil]; omega) (by omega), ?_⟩ | refine ⟨by omega, ?_⟩ | refine ⟨len_flat (by omega), ?_⟩ | refine ⟨apart_uv _ _ _, ?_⟩ | refine ⟨_, resSlot_own rfl (by omega) (by first | exact .inl rfl | exact .inr ⟨rfl, rfl⟩), ?_⟩ | refine ⟨(by kernel_rfl : regB _ = true), ?_⟩); conv => whnf))
    have e1 : IntKind.i64.wrap ((i : Int) + 1) = ((i + 1 : Nat) : Int) := by rw [wrap64 (by omega)]; omega
    refine ⟨[2, 3, 4, 5, 8, 9, 10, 11, 12, 13, 14, 15, 16, 17, 18, 19, 20, 21, 22, 23, 25, 26, 27, 28, 29, 30, 31, 32, 33, 34, 35, 36, 37, 38, 39, 40, 41, 42, 43, 44, 45, 46, 47, 48, 49, 50, 51, 52, 53, 54, 55, 56, 57, 58, 59, 60, 61, 62, 63, 64, 65, 66, 67, 68, 69, 70, 71, 72, 73, 74, 75, 76, 77, 78, 79, 80, 81, 82, 83, 84, 85, 86, 87, 88], [], _, ?_, i + 1, rfl, by omega, ?_⟩
    · omega
    · rw [← e1]; kernel_rfl
  · have h := of_decide_eq_false h
    have hi' : i = 256 := by omega
    subst hi'
    clear h hl hi
    rw [bk_SB]
    have hIl := IB_len
    ((conv => whnf); repeat ((first | refine ⟨_, hsch, ?_⟩ | refine ⟨_, rfl, ?_⟩ | refine ⟨by decide, ?_⟩ | refine ⟨rfl, ?_⟩ | refine ⟨fun _ => ?_, fun h => absurd h (by decide)⟩ | refine ⟨fun h => absurd h (by decide), fun _ => ?_⟩ | refine ⟨inI_of (by omega), ?_⟩ | refine ⟨⟨rfl, inI_of (by omega)⟩, ?_⟩ | refine ⟨⟨rfl, by decide⟩, ?_⟩ | (apply Exists.intro; refine ⟨?_, ?_⟩; ((try simp only [Nat.zero_add, Nat.mul_one, Int.toNat_natCast]); exact at_g (by omega))) | (apply Exists.intro; refine ⟨?_, ?_⟩; ((try simp only [Nat.zero_add, Nat.mul_one, Int.toNat_natCast]); exact put_flat (by omega))) | refine ⟨_, cut_all (by omega), ?_⟩ | refine ⟨_, lay_all (by omega) (by omega), ?_⟩ | refine ⟨_, lay_all (by simp only [List.length_replicate, List.length_cons, List.length_nil]; omega) (by omega), ?_⟩ | refine ⟨by omega, ?_⟩ | refine ⟨len_flat (by omega), ?_⟩ | refine ⟨apart_uv _ _ _, ?_⟩ | refine ⟨_, resSlot_own rfl (by omega) (by first | exact .inl rfl | exact .inr ⟨rfl, rfl⟩), ?_⟩ | refine ⟨(by kernel_rfl : regB _ = true), ?_⟩); conv => whnf))
    refine .inl ⟨fun n st => ∃ i : Nat, n = 10 - i ∧ i ≤ 10 ∧ st = ⟨[.im 1 16 c (.flat .u8 key), .im 1 16 c2 (.flat .u8 block), .poison, .poison, .poison, .poison, .ptr 48 0, .ptr 56 0, .poison, .sl 1 288 0 176 none, .ptr 80 0, iv .i64 (10 - i : Nat), .poison, .poison, .poison, .poison, .poison, .poison, .poison, .poison, .poison, .poison, .poison, .poison, .poison, .poison, .poison, .poison, .poison, .poison, .poison, .poison, .poison, .poison, .poison, .poison, .poison, .poison, .poison, .poison, .poison, .poison, .poison, .poison, .poison, .poison, .poison, .poison, .poison, .poison, .poison, .poison, .poison, .poison, .poison, .poison, .poison, .poison, .poison, .poison, .poison, .poison, .poison, .poison, .poison, .poison, .poison, .poison, .poison, .poison, .poison, .poison, .poison, .poison, .poison, .poison, .poison, .poison, .poison, .poison, .poison, .poison, .poison, .poison, .poison, .poison, .poison, .poison, .poison],
      [(48, ⟨.flat .u8 SB, 45, false⟩), (56, ⟨.flat .u8 IB, 45, false⟩), (288, ⟨.flat .u8 W, 5, true⟩), (80, ⟨.flat .u8 (decS key block i), 40, false⟩)]⟩,
      ⟨[2, 3, 4, 5, 8, 12, 13, 14, 15, 16, 17, 18, 19, 20, 21, 22, 23, 24, 25, 26, 27, 28, 29, 30, 31, 32, 33, 34, 35, 36, 37, 38, 39, 40, 41, 42, 43, 44, 45, 46, 47, 48, 49, 50, 51, 52, 53, 54, 55, 56, 57, 58, 59, 60, 61, 62, 63, 64, 65, 66, 67, 68, 69, 70, 71, 72, 73, 74, 75, 76, 77, 78, 79, 80, 81, 82, 83, 84, 85, 86, 87, 88], [], 10, 0, rfl, by omega, by kernel_rfl⟩, ?_⟩
    rintro _ _ ⟨i, rfl, hi, rfl⟩
    have hdl := decS_len (key := key) hb i
    have hdb := decS_by (key := key) hbb i
    obtain ⟨d, hd⟩ : ∃ d, d = decS key block i := ⟨_, rfl⟩
    rw [← hd] at hdl hdb ⊢
    conv => whnf
    refine ⟨fun h => ?_, fun h => ?_⟩
    · have h := of_decide_eq_true h
      obtain ⟨rd, hrd⟩ : ∃ rd, rd = 10 - i := ⟨_, rfl⟩
      rw [← hrd] at h ⊢
      obtain ⟨k1, hk1⟩ : ∃ k1, k1 = kkP key SB rd := ⟨_, rfl⟩
      have hk1l : k1.length = 16 := by rw [hk1]; exact kk_len hk _
      have hk1b : By k1 := by rw [hk1]; exact kk_by hkb SB_by _
      have hcutI := hcut rd (by omega)
      rw [← hk1] at hcutI
      have er : IntKind.i64.wrap (16 * (rd : Int)) = ((16 * rd : Nat) : Int) := by rw [wrap64 (by omega)]; omega
      have er2 : IntKind.i64.wrap (((16 * rd : Nat) : Int) + 16) = ((16 * rd + 16 : Nat) : Int) := by rw [wrap64 (by omega)]; omega
      have er3 : IntKind.i64.wrap (IntKind.i64.wrap (16 * (rd : Int)) + 16) = ((16 * rd + 16 : Nat) : Int) := by rw [er, er2]
      have hlo : LV.v (.int .i64 (IntKind.i64.wrap (16 * (rd : Int)))) = .v (.int .i64 ((16 * rd : Nat) : Int)) := by rw [er]
      have hhi : LV.v (.int .i64 (IntKind.i64.wrap (IntKind.i64.wrap (16 * (rd : Int)) + 16))) = .v (.int .i64 ((16 * rd + 16 : Nat) : Int)) := by rw [er3]
      have hcI : (Cont.flat .u8 W).cut (0 + 16 * rd * 1) (16 * 1) = some (.flat .u8 k1) := by rw [Nat.zero_add, Nat.mul_one]; exact hcutI
      have e10 : IntKind.i64.wrap ((rd : Int) - 1) = ((10 - (i + 1) : Nat) : Int) := by rw [wrap64 (by omega)]; omega
      ((conv => whnf); repeat ((first | refine ⟨_, slice_own (l := 16 * rd) (m := 16) rfl rfl hlo hhi (by omega), ?_⟩ | refine ⟨_, expo_sl rfl hcI, ?_⟩ | refine ⟨_, oRxorN _ _ hdl hk1l rfl, ?_⟩ | refine ⟨len_flat len_map, ?_⟩ | refine ⟨_, lay16 (by assumption) len_map, ?_⟩ | refine ⟨_, cut_all (by with_reducible first | assumption | exact len_map), ?_⟩ | refine ⟨_, rfl, ?_⟩ | refine ⟨by decide, ?_⟩ | refine ⟨rfl, ?_⟩ | refine ⟨fun _ => ?_, fun h => absurd h (by decide)⟩ | refine ⟨fun h => absurd h (by decide), fun _ => ?_⟩ | refine ⟨inI_of (by omega), ?_⟩ | refine ⟨⟨rfl, inI_of (by omega)⟩, ?_⟩ | refine ⟨⟨rfl, by decide⟩, ?_⟩ | (apply Exists.intro; refine ⟨?_, ?_⟩; ((try simp only [Nat.zero_add, Nat.mul_one, Int.toNat_natCast]); exact at_g (by omega))) | (apply Exists.intro; refine ⟨?_, ?_⟩; ((try simp only [Nat.zero_add, Nat.mul_one, Int.toNat_natCast]); exact put_flat (by omega))) | refine ⟨_, cut_all (by omega), ?_⟩ | refine ⟨_, lay_all (by omega) (by omega), ?_⟩ | refine ⟨_, lay_all (by simp only [List.length_replicate, List.length_cons, List.length_nil]; omega) (by omega), ?_⟩ | refine ⟨by omega, ?_⟩ | refine ⟨len_flat (by omega), ?_⟩ | refine ⟨apart_uv _ _ _, ?_⟩ | refine ⟨_, resSlot_own rfl (by omega) (by first | exact .inl rfl | exact .inr ⟨rfl, rfl⟩), ?_⟩ | refine ⟨(by kernel_rfl : regB _ = true), ?_⟩); conv => whnf))
      obtain ⟨x, hx⟩ : ∃ x, x = plusP d k1 := ⟨_, rfl⟩
      have hxl : x.length = 16 := by rw [hx]; exact len_map
      have hxb : By x := by rw [hx]; exact plusP_by hdb hk1b
      rw [← hx]
      refine ⟨fun h9 => ?br1, fun h9 => ?br2⟩
      case' br1 =>
        have h9 := of_decide_eq_true h9
        ((conv => whnf); repeat ((first | refine ⟨_, oRmix _ _ _ _ hxl, ?_⟩ | refine ⟨len_flat len_map, ?_⟩ | refine ⟨_, lay16 (by assumption) len_map, ?_⟩ | refine ⟨_, cut_all (by with_reducible first | assumption | exact len_map), ?_⟩ | refine ⟨_, rfl, ?_⟩ | refine ⟨by decide, ?_⟩ | refine ⟨rfl, ?_⟩ | refine ⟨fun _ => ?_, fun h => absurd h (by decide)⟩ | refine ⟨fun h => absurd h (by decide), fun _ => ?_⟩ | refine ⟨inI_of (by omega), ?_⟩ | refine ⟨⟨rfl, inI_of (by omega)⟩, ?_⟩ | refine ⟨⟨rfl, by decide⟩, ?_⟩ | (apply Exists.intro; refine ⟨?_, ?_⟩; ((try simp only [Nat.zero_add, Nat.mul_one, Int.toNat_natCast]); exact at_g (by omega))) | (apply Exists.intro; refine ⟨?_, ?_⟩; ((try simp only [Nat.zero_add, Nat.mul_one, Int.toNat_natCast]); exact put_flat (by omega))) | refine ⟨_, cut_all (by omega), ?_⟩ | refine ⟨_, lay_all (by omega) (by omega), ?_⟩ | refine ⟨_, lay_all (by simp only [List.length_replicate, List.length_cons, List.length_nil]; omega) (by omega), ?_⟩ | refine ⟨by omega, ?_⟩ | refine ⟨len_flat (by omega), ?_⟩ | refine ⟨apart_uv _ _ _, ?_⟩ | refine ⟨_, resSlot_own rfl (by omega) (by first | exact .inl rfl | exact .inr ⟨rfl, rfl⟩), ?_⟩ | refine ⟨(by kernel_rfl : regB _ = true), ?_⟩); conv => whnf))
        rw [rmixI hxl hxb]
        have e5 : replP (unshiftP (mixP (mixP (mixP x)))) IB = decS key block (i + 1) := by rw [decS, if_neg (by omega), hx, hk1, hd, hrd]
        have hy : By (mixP (mixP (mixP x))) := mixP_by (mixP_by (mixP_by hxb))
        have hyl : (mixP (mixP (mixP x))).length = 16 := len_map
        obtain ⟨y, hyd⟩ : ∃ y, y = mixP (mixP (mixP x)) := ⟨_, rfl⟩
        rw [← hyd] at e5 hy hyl ⊢
      case' br2 =>
        have h9 := of_decide_eq_false h9
        ((conv => whnf); repeat ((first | refine ⟨_, rfl, ?_⟩ | refine ⟨by decide, ?_⟩ | refine ⟨rfl, ?_⟩ | refine ⟨fun _ => ?_, fun h => absurd h (by decide)⟩ | refine ⟨fun h => absurd h (by decide), fun _ => ?_⟩ | refine ⟨inI_of (by omega), ?_⟩ | refine ⟨⟨rfl, inI_of (by omega)⟩, ?_⟩ | refine ⟨⟨rfl, by decide⟩, ?_⟩ | (apply Exists.intro; refine ⟨?_, ?_⟩; ((try simp only [Nat.zero_add, Nat.mul_one, Int.toNat_natCast]); exact at_g (by omega))) | (apply Exists.intro; refine ⟨?_, ?_⟩; ((try simp only [Nat.zero_add, Nat.mul_one, Int.toNat_natCast]); exact put_flat (by omega))) | refine ⟨_, cut_all (by omega), ?_⟩ | refine ⟨_, lay_all (by omega) (by omega), ?_⟩ | refine ⟨_, lay_all (by simp only [List.length_replicate, List.length_cons, List.length_nil]; omega) (by omega), ?_⟩ | refine ⟨by omega, ?_⟩ | refine ⟨len_flat (by omega), ?_⟩ | refine ⟨apart_uv _ _ _, ?_⟩ | refine ⟨_, resSlot_own rfl (by omega) (by first | exact .inl rfl | exact .inr ⟨rfl, rfl⟩), ?_⟩ | refine ⟨(by kernel_rfl : regB _ = true), ?_⟩); conv => whnf))
        have e5 : replP (unshiftP x) IB = decS key block (i + 1) := by rw [decS, if_pos (by omega), hx, hk1, hd, hrd, show 10 - i = 10 by omega]
        have hy := hxb
        have hyl := hxl
        obtain ⟨y, hyd⟩ : ∃ y, y = x := ⟨_, rfl⟩
        rw [← hyd] at e5 hy hyl ⊢
      all_goals
        refine .inl ⟨fun n st => ∃ q : Nat, n = 4 - q ∧ q ≤ 4 ∧ st = ⟨[.im 1 16 c (.flat .u8 key), .im 1 16 c2 (.flat .u8 block), .poison, .poison, .poison, .poison, .ptr 48 0, .ptr 56 0, .poison, .sl 1 288 0 176 none, .ptr 80 0, iv .i64 rd, .ptr 96 0, .poison, .poison, .poison, .poison, .poison, .poison, .poison, .poison, .poison, .poison, .poison, .poison, .poison, .poison, .poison, .poison, .poison, .poison, .poison, .poison, .poison, .poison, .poison, .poison, .poison, .poison, .poison, .poison, .poison, .poison, .poison, .poison, .poison, .poison, .poison, .poison, .poison, .poison, .poison, .poison, .poison, .poison, .poison, .poison, .poison, iv .i64 q, .poison, .poison, .poison, .poison, .poison, .poison, .poison, .poison, .poison, .poison, .poison, .poison, .poison, .poison, .poison, .poison, .poison, .poison, .poison, .poison, .poison, .poison, .poison, .poison, .poison, .poison, .poison, .poison, .poison, .poison],
          [(48, ⟨.flat .u8 SB, 45, false⟩), (56, ⟨.flat .u8 IB, 45, false⟩), (288, ⟨.flat .u8 W, 5, true⟩), (80, ⟨.flat .u8 y, 40, false⟩), (96, ⟨.flat .u8 (sq y (4 * q)), 40, false⟩)]⟩,
          ⟨[2, 3, 4, 5, 8, 13, 14, 15, 16, 17, 18, 19, 20, 21, 22, 23, 24, 25, 26, 27, 28, 29, 30, 31, 32, 33, 34, 35, 36, 37, 38, 39, 40, 41, 42, 43, 44, 45, 46, 47, 48, 49, 50, 51, 52, 53, 54, 55, 56, 57, 59, 60, 61, 62, 63, 64, 65, 66, 67, 68, 69, 70, 71, 72, 73, 74, 75, 76, 77, 78, 79, 80, 81, 82, 83, 84, 85, 86, 87, 88], [], 4, 0, rfl, by omega, by kernel_rfl⟩, ?_⟩
        rintro _ _ ⟨q, rfl, hq, rfl⟩
        conv => whnf
        refine ⟨fun h2 => ?_, fun h2 => ?_⟩
        · have h2 := of_decide_eq_true h2
          ((conv => whnf); repeat ((first | refine ⟨_, rfl, ?_⟩ | refine ⟨by decide, ?_⟩ | refine ⟨rfl, ?_⟩ | refine ⟨fun _ => ?_, fun h => absurd h (by decide)⟩ | refine ⟨fun h => absurd h (by decide), fun _ => ?_⟩ | refine ⟨inI_of (by omega), ?_⟩ | refine ⟨⟨rfl, inI_of (by omega)⟩, ?_⟩ | refine ⟨⟨rfl, by decide⟩, ?_⟩ | (apply Exists.intro; refine ⟨?_, ?_⟩; ((try simp only [Nat.zero_add, Nat.mul_one, Int.toNat_natCast]); exact at_g (by omega))) | (apply Exists.intro; refine ⟨?_, ?_⟩; ((try simp only [Nat.zero_add, Nat.mul_one, Int.toNat_natCast]); exact put_flat (by omega))) | refine ⟨_, cut_all (by omega), ?_⟩ | refine ⟨_, lay_all (by omega) (by omega), ?_⟩ | refine ⟨_, lay_all (by simp only [List.length_replicate, List.length_cons, List.length_nil]; omega) (by omega), ?_⟩ | refine ⟨by omega, ?_⟩ | refine ⟨len_flat (by omega), ?_⟩ | refine ⟨apart_uv _ _ _, ?_⟩ | refine ⟨_, resSlot_own rfl (by omega) (by first | exact .inl rfl | exact .inr ⟨rfl, rfl⟩), ?_⟩ | refine ⟨(by kernel_rfl : regB _ = true), ?_⟩); conv => whnf))
          refine .inl ⟨fun n st => ∃ r : Nat, n = 4 - r ∧ r ≤ 4 ∧ st = ⟨[.im 1 16 c (.flat .u8 key), .im 1 16 c2 (.flat .u8 block), .poison, .poison, .poison, .poison, .ptr 48 0, .ptr 56 0, .poison, .sl 1 288 0 176 none, .ptr 80 0, iv .i64 rd, .ptr 96 0, iv .i64 q, .poison, .poison, .poison, .poison, .poison, .poison, .poison, .poison, .poison, .poison, .poison, .poison, .poison, .poison, .poison, .poison, .poison, .poison, .poison, .poison, .poison, .poison, .poison, .poison, .poison, .poison, .poison, .poison, .poison, .poison, .poison, .poison, .poison, .poison, .poison, .poison, .poison, .poison, .poison, .poison, .poison, .poison, .poison, .poison, iv .i64 q, .poison, .poison, iv .i64 r, .poison, .poison, .poison, .poison, .poison, .poison, .poison, .poison, .poison, .poison, .poison, .poison, .poison, .poison, .poison, .poison, .poison, .poison, .poison, .poison, .poison, .poison, .poison, .poison, .poison, .poison, .poison],
            [(48, ⟨.flat .u8 SB, 45, false⟩), (56, ⟨.flat .u8 IB, 45, false⟩), (288, ⟨.flat .u8 W, 5, true⟩), (80, ⟨.flat .u8 y, 40, false⟩), (96, ⟨.flat .u8 (sq y (4 * q + r)), 40, false⟩)]⟩,
            ⟨[2, 3, 4, 5, 8, 14, 15, 16, 17, 18, 19, 20, 21, 22, 23, 24, 25, 26, 27, 28, 29, 30, 31, 32, 33, 34, 35, 36, 37, 38, 39, 40, 41, 42, 43, 44, 45, 46, 47, 48, 49, 50, 51, 52, 53, 54, 55, 56, 57, 59, 60, 62, 63, 64, 65, 66, 67, 68, 69, 70, 71, 72, 73, 74, 75, 76, 77, 78, 79, 80, 81, 82, 83, 84, 85, 86, 87, 88], [], 4, 0, rfl, by omega, by kernel_rfl⟩, ?_⟩
          rintro _ _ ⟨r, rfl, hr, rfl⟩
          have hul := sq_len y (4 * q + r)
          conv => whnf
          refine ⟨fun h3 => ?_, fun h3 => ?_⟩
          · have h3 := of_decide_eq_true h3
            have eq4 : IntKind.i64.wrap (4 * (q : Int)) = ((4 * q : Nat) : Int) := by rw [wrap64 (by omega)]; omega
            have eqr : IntKind.i64.wrap (((4 * q : Nat) : Int) + (r : Int)) = ((4 * q + r : Nat) : Int) := by rw [wrap64 (by omega)]; omega
            have es : IntKind.i64.wrap ((q : Int) + (r : Int)) = ((q + r : Nat) : Int) := by rw [wrap64 (by omega)]; omega
            have et : ((q + r : Nat) : Int).tmod 4 = (((q + r) % 4 : Nat) : Int) := tmod_nat _ _
            have e4 : IntKind.i64.wrap (4 * (((q + r) % 4 : Nat) : Int)) = ((4 * ((q + r) % 4) : Nat) : Int) := by rw [wrap64 (by omega)]; omega
            have e6 : IntKind.i64.wrap (((4 * ((q + r) % 4) : Nat) : Int) + (r : Int)) = ((4 * ((q + r) % 4) + r : Nat) : Int) := by rw [wrap64 (by omega)]; omega
            have hg := hy.g (4 * q + r)
            have hF : sq y (4 * q + (r + 1)) = (sq y (4 * q + r)).set (4 * ((q + r) % 4) + r) (g IB (g y (4 * q + r)).toNat) := by
              rw [← Nat.add_assoc, sq, show (4 * q + r) / 4 = q by omega, show (4 * q + r) % 4 = r by omega]
            ((conv => whnf); repeat ((first | refine ⟨_, rfl, ?_⟩ | refine ⟨by decide, ?_⟩ | refine ⟨rfl, ?_⟩ | refine ⟨fun _ => ?_, fun h => absurd h (by decide)⟩ | refine ⟨fun h => absurd h (by decide), fun _ => ?_⟩ | refine ⟨inI_of (by omega), ?_⟩ | refine ⟨⟨rfl, inI_of (by omega)⟩, ?_⟩ | refine ⟨⟨rfl, by decide⟩, ?_⟩ | refine ⟨by simp only [eq4, eqr, es, et, e4, e6]; exact inI_of (by omega), ?_⟩ | refine ⟨⟨rfl, by simp only [eq4, eqr, es, et, e4, e6]; exact inI_of (by omega)⟩, ?_⟩ | (apply Exists.intro; refine ⟨?_, ?_⟩; ((try simp only [Nat.zero_add, Nat.mul_one, Int.toNat_natCast, eq4, eqr, es, et, e4, e6]); exact at_g (by omega))) | (apply Exists.intro; refine ⟨?_, ?_⟩; ((try simp only [Nat.zero_add, Nat.mul_one, Int.toNat_natCast, eq4, eqr, es, et, e4, e6]); exact put_flat (by omega))) | refine ⟨_, cut_all (by omega), ?_⟩ | refine ⟨_, lay_all (by omega) (by omega), ?_⟩ | refine ⟨_, lay_all (by simp only [List.length_replicate, List.length_cons, List.length_nil]; omega) (by omega), ?_⟩ | refine ⟨by omega, ?_⟩ | refine ⟨len_flat (by omega), ?_⟩ | refine ⟨apart_uv _ _ _, ?_⟩ | refine ⟨_, resSlot_own rfl (by omega) (by first | exact .inl rfl | exact .inr ⟨rfl, rfl⟩), ?_⟩ | refine ⟨(by kernel_rfl : regB _ = true), ?_⟩); conv => whnf))
            have e1 : IntKind.i64.wrap ((r : Int) + 1) = ((r + 1 : Nat) : Int) := by rw [wrap64 (by omega)]; omega
            refine ⟨[2, 3, 4, 5, 8, 14, 15, 16, 17, 18, 19, 20, 21, 22, 23, 24, 25, 26, 27, 28, 29, 30, 31, 32, 33, 34, 35, 36, 37, 38, 39, 40, 41, 42, 43, 44, 45, 46, 47, 48, 49, 50, 51, 52, 53, 54, 55, 56, 57, 59, 60, 62, 63, 64, 65, 66, 67, 68, 69, 70, 71, 72, 73, 74, 75, 76, 77, 78, 79, 80, 81, 82, 83, 84, 85, 86, 87, 88], [], _, ?_, r + 1, rfl, by omega, ?_⟩
            · omega
            · rw [← e1, hF]; kernel_rfl
          · have h3 := of_decide_eq_false h3
            have hr' : r = 4 := by omega
            subst hr'
            ((conv => whnf); repeat ((first | refine ⟨_, rfl, ?_⟩ | refine ⟨by decide, ?_⟩ | refine ⟨rfl, ?_⟩ | refine ⟨fun _ => ?_, fun h => absurd h (by decide)⟩ | refine ⟨fun h => absurd h (by decide), fun _ => ?_⟩ | refine ⟨inI_of (by omega), ?_⟩ | refine ⟨⟨rfl, inI_of (by omega)⟩, ?_⟩ | refine ⟨⟨rfl, by decide⟩, ?_⟩ | (apply Exists.intro; refine ⟨?_, ?_⟩; ((try simp only [Nat.zero_add, Nat.mul_one, Int.toNat_natCast]); exact at_g (by omega))) | (apply Exists.intro; refine ⟨?_, ?_⟩; ((try simp only [Nat.zero_add, Nat.mul_one, Int.toNat_natCast]); exact put_flat (by omega))) | refine ⟨_, cut_all (by omega), ?_⟩ | refine ⟨_, lay_all (by omega) (by omega), ?_⟩ | refine ⟨_, lay_all (by simp only [List.length_replicate, List.length_cons, List.length_nil]; omega) (by omega), ?_⟩ | refine ⟨by omega, ?_⟩ | refine ⟨len_flat (by omega), ?_⟩ | refine ⟨apart_uv _ _ _, ?_⟩ | refine ⟨_, resSlot_own rfl (by omega) (by first | exact .inl rfl | exact .inr ⟨rfl, rfl⟩), ?_⟩ | refine ⟨(by kernel_rfl : regB _ = true), ?_⟩); conv => whnf))
            have e1 : IntKind.i64.wrap ((q : Int) + 1) = ((q + 1 : Nat) : Int) := by rw [wrap64 (by omega)]; omega
            refine ⟨[2, 3, 4, 5, 8, 13, 14, 15, 16, 17, 18, 19, 20, 21, 22, 23, 24, 25, 26, 27, 28, 29, 30, 31, 32, 33, 34, 35, 36, 37, 38, 39, 40, 41, 42, 43, 44, 45, 46, 47, 48, 49, 50, 51, 52, 53, 54, 55, 56, 57, 59, 60, 61, 62, 63, 64, 65, 66, 67, 68, 69, 70, 71, 72, 73, 74, 75, 76, 77, 78, 79, 80, 81, 82, 83, 84, 85, 86, 87, 88], [], _, ?_, q + 1, rfl, by omega, ?_⟩
            · omega
            · rw [← e1, show 4 * (q + 1) = 4 * q + 4 by omega]; kernel_rfl
        · have h2 := of_decide_eq_false h2
          have hq' : q = 4 := by omega
          subst hq'
          rw [show 4 * 4 = 16 from rfl, sq_all hyl, e5]
          have hnl := decS_len (key := key) hb (i + 1)
          obtain ⟨nx, hnx⟩ : ∃ nx, nx = decS key block (i + 1) := ⟨_, rfl⟩
          rw [← hnx] at hnl ⊢
          ((conv => whnf); repeat ((first | refine ⟨_, rfl, ?_⟩ | refine ⟨by decide, ?_⟩ | refine ⟨rfl, ?_⟩ | refine ⟨fun _ => ?_, fun h => absurd h (by decide)⟩ | refine ⟨fun h => absurd h (by decide), fun _ => ?_⟩ | refine ⟨inI_of (by omega), ?_⟩ | refine ⟨⟨rfl, inI_of (by omega)⟩, ?_⟩ | refine ⟨⟨rfl, by decide⟩, ?_⟩ | (apply Exists.intro; refine ⟨?_, ?_⟩; ((try simp only [Nat.zero_add, Nat.mul_one, Int.toNat_natCast]); exact at_g (by omega))) | (apply Exists.intro; refine ⟨?_, ?_⟩; ((try simp only [Nat.zero_add, Nat.mul_one, Int.toNat_natCast]); exact put_flat (by omega))) | refine ⟨_, cut_all (by omega), ?_⟩ | refine ⟨_, lay_all (by omega) (by omega), ?_⟩ | refine ⟨_, lay_all (by simp only [List.length_replicate, List.length_cons, List.length_nil]; omega) (by omega), ?_⟩ | refine ⟨by omega, ?_⟩ | refine ⟨len_flat (by omega), ?_⟩ | refine ⟨apart_uv _ _ _, ?_⟩ | refine ⟨_, resSlot_own rfl (by omega) (by first | exact .inl rfl | exact .inr ⟨rfl, rfl⟩), ?_⟩ | refine ⟨(by kernel_rfl : regB _ = true), ?_⟩); conv => whnf))
          refine ⟨[2, 3, 4, 5, 8, 12, 13, 14, 15, 16, 17, 18, 19, 20, 21, 22, 23, 24, 25, 26, 27, 28, 29, 30, 31, 32, 33, 34, 35, 36, 37, 38, 39, 40, 41, 42, 43, 44, 45, 46, 47, 48, 49, 50, 51, 52, 53, 54, 55, 56, 57, 58, 59, 60, 61, 62, 63, 64, 65, 66, 67, 68, 69, 70, 71, 72, 73, 74, 75, 76, 77, 78, 79, 80, 81, 82, 83, 84, 85, 86, 87, 88], [96], _, ?_, i + 1, rfl, by omega, ?_⟩
          · omega
          · rw [← e10, ← hnx]; kernel_rfl
    · have h := of_decide_eq_false h
      have hi' : i = 10 := by omega
      subst hi'
      have hk0 : (kkP key SB 0).length = 16 := kk_len hk 0
      have hcut0 := hcut 0 (by omega)
      obtain ⟨R, hR⟩ : ∃ R, R = plusP d (kkP key SB 0) := ⟨_, rfl⟩
      have hRl : R.length = 16 := by rw [hR]; exact len_map
      have htk : R.take (16 * 1) = R := List.take_of_length_le (by omega)
      have hca : (Cont.flat .u8 R).cut 0 (16 * 1) = some (.flat .u8 R) := cut_all hRl
      have hxo := fun cc => oRxorN 16 cc hdl hk0 rfl
      rw [← hR] at hxo
      rw [decP, ← hd, ← hR]
      ((conv => whnf); repeat ((first | refine ⟨_, expo_sl rfl hcut0, ?_⟩ | refine ⟨_, hxo _, ?_⟩ | refine ⟨_, append_nil (cnt := 16) rfl rfl (shown_sl rfl hca) rfl rfl rfl (by omega) (by omega), ?_⟩ | refine ⟨_, rfl, ?_⟩ | refine ⟨by decide, ?_⟩ | refine ⟨rfl, ?_⟩ | refine ⟨fun _ => ?_, fun h => absurd h (by decide)⟩ | refine ⟨fun h => absurd h (by decide), fun _ => ?_⟩ | refine ⟨inI_of (by omega), ?_⟩ | refine ⟨⟨rfl, inI_of (by omega)⟩, ?_⟩ | refine ⟨⟨rfl, by decide⟩, ?_⟩ | (apply Exists.intro; refine ⟨?_, ?_⟩; ((try simp only [Nat.zero_add, Nat.mul_one, Int.toNat_natCast]); exact at_g (by omega))) | (apply Exists.intro; refine ⟨?_, ?_⟩; ((try simp only [Nat.zero_add, Nat.mul_one, Int.toNat_natCast]); exact put_flat (by omega))) | refine ⟨_, cut_all (by omega), ?_⟩ | refine ⟨_, lay_all (by omega) (by omega), ?_⟩ | refine ⟨_, lay_all (by simp only [List.length_replicate, List.length_cons, List.length_nil]; omega) (by omega), ?_⟩ | refine ⟨by omega, ?_⟩ | refine ⟨len_flat (by omega), ?_⟩ | refine ⟨apart_uv _ _ _, ?_⟩ | refine ⟨_, resSlot_own rfl (by omega) (by first | exact .inl rfl | exact .inr ⟨rfl, rfl⟩), ?_⟩ | refine ⟨(by kernel_rfl : regB _ = true), ?_⟩); conv => whnf))
      refine Eq.trans ?_ (show ret2 (.own 1 16 5 (.flat .u8 (R.take (16 * 1)))) 0 = ret2 (.own 1 16 5 (.flat .u8 R)) 0 by rw [htk])
      rfl
end Go.Proofs.Ytcmceadekcfpbaa
