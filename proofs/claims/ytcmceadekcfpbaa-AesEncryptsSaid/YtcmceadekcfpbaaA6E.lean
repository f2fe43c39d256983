/-
  Layer 6: the program's Decrypt.
-/
import Derived.Test.YtcmceadekcfpbaaA6D
namespace Go.Proofs.Ytcmceadekcfpbaa
open Go.RowKit

/-! Decrypt -/
def unm (a : List Int) : List Int := mixP (mixP (mixP a))
def decS (key block : List Int) : Nat → List Int
  | 0 => block
  | m + 1 => replP (unshiftP (if m = 0 then plusP (decS key block m) (kkP key SB 10) else mixP (mixP (mixP (plusP (decS key block m) (kkP key SB (10 - m))))))) IB
def decP (key block : List Int) : List Int := plusP (decS key block 10) (kkP key SB 0)
section
variable {key block : List Int} (hkb : By key) (hbb : By block) (hb : block.length = 16)
include hb in
theorem decS_len : ∀ i, (decS key block i).length = 16
  | 0 => hb
  | _ + 1 => replP_len _ _
include hbb in
theorem decS_by : ∀ i, By (decS key block i)
  | 0 => hbb
  | _ + 1 => replP_by IB_by
end
set_option maxRecDepth 100000 in
set_option maxHeartbeats 1600000 in
theorem dec_no1 (n n2 : Nat) (c c2 : Option Nat) (x x2 : Cont) (hn : n ≠ 16) : execF EC Try.f16 [.im 1 n c x, .im 1 n2 c2 x2] (no2 1) := by
  have hq : ((n : Int) != 16) = true := by simp; omega
  ((conv => whnf); repeat ((first | refine ⟨fun _ => ?_, fun h => absurd (hq.symm.trans h) (by decide)⟩ | refine ⟨fun h => absurd (hq.symm.trans h) (by decide), fun _ => ?_⟩ | refine ⟨_, rfl, ?_⟩ | refine ⟨by decide, ?_⟩ | refine ⟨rfl, ?_⟩ | refine ⟨fun _ => ?_, fun h => absurd h (by decide)⟩ | refine ⟨fun h => absurd h (by decide), fun _ => ?_⟩ | refine ⟨inI_of (by omega), ?_⟩ | (apply Exists.intro; refine ⟨?_, ?_⟩; ((try simp only [Nat.zero_add, Nat.mul_one, Int.toNat_natCast]); exact at_g (by omega))) | (apply Exists.intro; refine ⟨?_, ?_⟩; ((try simp only [Nat.zero_add, Nat.mul_one, Int.toNat_natCast]); exact put_flat (by omega))) | refine ⟨_, cut_all (by omega), ?_⟩ | refine ⟨_, lay_all (by omega) (by omega), ?_⟩ | refine ⟨_, lay_all (by simp only [List.length_replicate, List.length_cons, List.length_nil]; omega) (by omega), ?_⟩ | refine ⟨by omega, ?_⟩ | refine ⟨len_flat (by omega), ?_⟩ | refine ⟨apart_uv _ _ _, ?_⟩ | refine ⟨_, resSlot_own rfl (by omega) (by first | exact .inl rfl | exact .inr ⟨rfl, rfl⟩), ?_⟩ | refine ⟨(by kernel_rfl : regB _ = true), ?_⟩); conv => whnf))
  rfl
set_option maxRecDepth 100000 in
set_option maxHeartbeats 1600000 in
theorem dec_no2 (n2 : Nat) (c c2 : Option Nat) (x x2 : Cont) (hn : n2 ≠ 16) : execF EC Try.f16 [.im 1 16 c x, .im 1 n2 c2 x2] (no2 1) := by
  have hq : ((n2 : Int) != 16) = true := by simp; omega
  ((conv => whnf); repeat ((first | refine ⟨fun _ => ?_, fun h => absurd (hq.symm.trans h) (by decide)⟩ | refine ⟨fun h => absurd (hq.symm.trans h) (by decide), fun _ => ?_⟩ | refine ⟨_, rfl, ?_⟩ | refine ⟨by decide, ?_⟩ | refine ⟨rfl, ?_⟩ | refine ⟨fun _ => ?_, fun h => absurd h (by decide)⟩ | refine ⟨fun h => absurd h (by decide), fun _ => ?_⟩ | refine ⟨inI_of (by omega), ?_⟩ | (apply Exists.intro; refine ⟨?_, ?_⟩; ((try simp only [Nat.zero_add, Nat.mul_one, Int.toNat_natCast]); exact at_g (by omega))) | (apply Exists.intro; refine ⟨?_, ?_⟩; ((try simp only [Nat.zero_add, Nat.mul_one, Int.toNat_natCast]); exact put_flat (by omega))) | refine ⟨_, cut_all (by omega), ?_⟩ | refine ⟨_, lay_all (by omega) (by omega), ?_⟩ | refine ⟨_, lay_all (by simp only [List.length_replicate, List.length_cons, List.length_nil]; omega) (by omega), ?_⟩ | refine ⟨by omega, ?_⟩ | refine ⟨len_flat (by omega), ?_⟩ | refine ⟨apart_uv _ _ _, ?_⟩ | refine ⟨_, resSlot_own rfl (by omega) (by first | exact .inl rfl | exact .inr ⟨rfl, rfl⟩), ?_⟩ | refine ⟨(by kernel_rfl : regB _ = true), ?_⟩); conv => whnf))
  rfl
set_option maxRecDepth 100000 in
set_option maxHeartbeats 1600000 in
theorem dec_ok (key block : List Int) (c c2 : Option Nat) (hk : key.length = 16) (hkb : By key) (hb : block.length = 16) (hbb : By block) : execF EC Try.f16 [.im 1 16 c (.flat .u8 key), .im 1 16 c2 (.flat .u8 block)] (fatR (decP key block)) := by
  have hrl := rT_len (t := SB) hk (Nat.le_refl 10)
  have hSl := SB_len
  have hIl := IB_len
  ((conv => whnf); repeat ((first | refine ⟨_, oRead c hk, ?_⟩ | refine ⟨_, oRead c2 hb, ?_⟩ | refine ⟨_, oSched hk SB_len hkb SB_by, ?_⟩ | refine ⟨_, oInv, ?_⟩ | refine ⟨_, rfl, ?_⟩ | refine ⟨by decide, ?_⟩ | refine ⟨rfl, ?_⟩ | refine ⟨fun _ => ?_, fun h => absurd h (by decide)⟩ | refine ⟨fun h => absurd h (by decide), fun _ => ?_⟩ | refine ⟨inI_of (by omega), ?_⟩ | (apply Exists.intro; refine ⟨?_, ?_⟩; ((try simp only [Nat.zero_add, Nat.mul_one, Int.toNat_natCast]); exact at_g (by omega))) | (apply Exists.intro; refine ⟨?_, ?_⟩; ((try simp only [Nat.zero_add, Nat.mul_one, Int.toNat_natCast]); exact put_flat (by omega))) | refine ⟨_, cut_all (by omega), ?_⟩ | refine ⟨_, lay_all (by omega) (by omega), ?_⟩ | refine ⟨_, lay_all (by simp only [List.length_replicate, List.length_cons, List.length_nil]; omega) (by omega), ?_⟩ | refine ⟨by omega, ?_⟩ | refine ⟨len_flat (by omega), ?_⟩ | refine ⟨apart_uv _ _ _, ?_⟩ | refine ⟨_, resSlot_own rfl (by omega) (by first | exact .inl rfl | exact .inr ⟨rfl, rfl⟩), ?_⟩ | refine ⟨(by kernel_rfl : regB _ = true), ?_⟩); conv => whnf))
  refine .inl ⟨fun n st => ∃ m : Nat, n = 10 - m ∧ m ≤ 10 ∧ st = ⟨[.im 1 16 c (.flat .u8 key), .im 1 16 c2 (.flat .u8 block), .poison, .poison, .poison, .poison, .ptr 48 0, .ptr 56 0, .ptr 64 0, .ptr 72 0, iv .i64 (9 - (m : Int)), .poison, .poison, .poison, .poison, .poison, .poison, .poison, .poison, .poison, .poison, .poison, .poison, .poison, .poison, .poison, .poison, .poison, .poison, .poison, .poison, .poison, .poison, .poison, .poison, .poison, .poison, .poison, .poison, .poison, .poison, .poison, .poison, .poison, .poison, .poison, .poison, .poison, .poison, .poison, .poison],
    [(48, ⟨.flat .u8 SB, 45, false⟩), (56, ⟨.flat .u8 (rT key SB 10), 42, false⟩), (64, ⟨.flat .u8 IB, 45, false⟩), (72, ⟨.flat .u8 (decS key block m), 41, false⟩)]⟩,
    ⟨[2, 3, 4, 5, 11, 12, 13, 14, 15, 16, 17, 18, 19, 20, 21, 22, 23, 24, 25, 26, 27, 28, 29, 30, 31, 32, 33, 34, 35, 36, 37, 38, 39, 40, 41, 42, 43, 44, 45, 46, 47, 48, 49, 50], [], 10, 0, rfl, by omega, by kernel_rfl⟩, ?_⟩
  rintro _ _ ⟨m, rfl, hm, rfl⟩
  have hel := decS_len hb (key := key) m
  have heb := decS_by hbb (key := key) m
  conv => whnf
  refine ⟨fun h => ?_, fun h => ?_⟩
  · have h := of_decide_eq_true h
    have e1 : IntKind.i64.wrap (9 - (m : Int) + 1) = ((10 - m : Nat) : Int) := by rw [wrap64 (by omega)]; omega
    have e2 : IntKind.i64.wrap (9 - (m : Int) - 1) = 9 - ((m + 1 : Nat) : Int) := by rw [wrap64 (by omega)]; omega
    obtain ⟨k1, hk1⟩ : ∃ k1, k1 = kkP key SB (10 - m) := ⟨_, rfl⟩
    have hk1l : k1.length = 16 := by rw [hk1]; exact kk_len hk _
    have hk1b : By k1 := by rw [hk1]; exact kk_by hkb SB_by _
    have cutI : (Cont.flat .u8 (rT key SB 10)).cut (0 + (IntKind.i64.wrap (9 - (m : Int) + 1)).toNat * 16) 16 = some (.flat .u8 k1) := by
      rw [e1, cut_flat (by omega), show 0 + ((10 - m : Nat) : Int).toNat * 16 = 16 * (10 - m) by omega, rT_cut hk (by omega), hk1]
    have hpb := plusP_by heb hk1b
    ((conv => whnf); repeat ((first | refine ⟨_, cutI, ?_⟩ | refine ⟨_, cut_all (by with_reducible first | assumption | exact mixP_len _ | exact shiftP_len _ | exact plusP_len _ _ | exact replP_len _ _ | exact unshiftP_len _), ?_⟩ | refine ⟨len_flat (by with_reducible first | assumption | exact mixP_len _ | exact shiftP_len _ | exact plusP_len _ _ | exact replP_len _ _ | exact unshiftP_len _), ?_⟩ | refine ⟨_, lay16 (by with_reducible first | assumption | exact mixP_len _ | exact shiftP_len _ | exact plusP_len _ _ | exact replP_len _ _ | exact unshiftP_len _) (by with_reducible first | assumption | exact mixP_len _ | exact shiftP_len _ | exact plusP_len _ _ | exact replP_len _ _ | exact unshiftP_len _), ?_⟩ | refine ⟨_, oShift (by with_reducible first | assumption | exact mixP_len _ | exact shiftP_len _ | exact plusP_len _ _ | exact replP_len _ _ | exact unshiftP_len _), ?_⟩ | refine ⟨_, oMix (by with_reducible first | assumption | exact mixP_len _ | exact shiftP_len _ | exact plusP_len _ _ | exact replP_len _ _ | exact unshiftP_len _), ?_⟩ | refine ⟨_, oUnmix (by with_reducible first | assumption | exact mixP_len _ | exact shiftP_len _ | exact plusP_len _ _ | exact replP_len _ _ | exact unshiftP_len _), ?_⟩ | refine ⟨_, oUnshift (by with_reducible first | assumption | exact mixP_len _ | exact shiftP_len _ | exact plusP_len _ _ | exact replP_len _ _ | exact unshiftP_len _), ?_⟩ | refine ⟨_, oPlus (by with_reducible first | assumption | exact mixP_len _ | exact shiftP_len _ | exact plusP_len _ _ | exact replP_len _ _ | exact unshiftP_len _) (by with_reducible first | assumption | exact mixP_len _ | exact shiftP_len _ | exact plusP_len _ _ | exact replP_len _ _ | exact unshiftP_len _), ?_⟩ | refine ⟨_, rfl, ?_⟩ | refine ⟨by decide, ?_⟩ | refine ⟨rfl, ?_⟩ | refine ⟨fun _ => ?_, fun h => absurd h (by decide)⟩ | refine ⟨fun h => absurd h (by decide), fun _ => ?_⟩ | refine ⟨inI_of (by omega), ?_⟩ | refine ⟨by simp only [e1]; exact inI_of (by omega), ?_⟩ | (apply Exists.intro; refine ⟨?_, ?_⟩; ((try simp only [Nat.zero_add, Nat.mul_one, Int.toNat_natCast, e1]); exact at_g (by omega))) | (apply Exists.intro; refine ⟨?_, ?_⟩; ((try simp only [Nat.zero_add, Nat.mul_one, Int.toNat_natCast, e1]); exact put_flat (by omega))) | refine ⟨_, cut_all (by omega), ?_⟩ | refine ⟨_, lay_all (by omega) (by omega), ?_⟩ | refine ⟨_, lay_all (by simp only [List.length_replicate, List.length_cons, List.length_nil]; omega) (by omega), ?_⟩ | refine ⟨by omega, ?_⟩ | refine ⟨len_flat (by omega), ?_⟩ | refine ⟨apart_uv _ _ _, ?_⟩ | refine ⟨_, resSlot_own rfl (by omega) (by first | exact .inl rfl | exact .inr ⟨rfl, rfl⟩), ?_⟩ | refine ⟨(by kernel_rfl : regB _ = true), ?_⟩); conv => whnf))
    refine ⟨fun h9 => ?_, fun h9 => ?_⟩
    · have h9 := of_decide_eq_true h9
      have e5 : replP (unshiftP (mixP (mixP (mixP (plusP (decS key block m) k1))))) IB = decS key block (m + 1) := by rw [decS, if_neg (by omega), hk1]
      ((conv => whnf); repeat ((first | refine ⟨_, oRepl (unshiftP_len _) IB_len (unshiftP_by (mixP_by (mixP_by (mixP_by hpb)))), ?_⟩ | refine ⟨_, cut_all (by with_reducible first | assumption | exact mixP_len _ | exact shiftP_len _ | exact plusP_len _ _ | exact replP_len _ _ | exact unshiftP_len _), ?_⟩ | refine ⟨len_flat (by with_reducible first | assumption | exact mixP_len _ | exact shiftP_len _ | exact plusP_len _ _ | exact replP_len _ _ | exact unshiftP_len _), ?_⟩ | refine ⟨_, lay16 (by with_reducible first | assumption | exact mixP_len _ | exact shiftP_len _ | exact plusP_len _ _ | exact replP_len _ _ | exact unshiftP_len _) (by with_reducible first | assumption | exact mixP_len _ | exact shiftP_len _ | exact plusP_len _ _ | exact replP_len _ _ | exact unshiftP_len _), ?_⟩ | refine ⟨_, oShift (by with_reducible first | assumption | exact mixP_len _ | exact shiftP_len _ | exact plusP_len _ _ | exact replP_len _ _ | exact unshiftP_len _), ?_⟩ | refine ⟨_, oMix (by with_reducible first | assumption | exact mixP_len _ | exact shiftP_len _ | exact plusP_len _ _ | exact replP_len _ _ | exact unshiftP_len _), ?_⟩ | refine ⟨_, oUnmix (by with_reducible first | assumption | exact mixP_len _ | exact shiftP_len _ | exact plusP_len _ _ | exact replP_len _ _ | exact unshiftP_len _), ?_⟩ | refine ⟨_, oUnshift (by with_reducible first | assumption | exact mixP_len _ | exact shiftP_len _ | exact plusP_len _ _ | exact replP_len _ _ | exact unshiftP_len _), ?_⟩ | refine ⟨_, oPlus (by with_reducible first | assumption | exact mixP_len _ | exact shiftP_len _ | exact plusP_len _ _ | exact replP_len _ _ | exact unshiftP_len _) (by with_reducible first | assumption | exact mixP_len _ | exact shiftP_len _ | exact plusP_len _ _ | exact replP_len _ _ | exact unshiftP_len _), ?_⟩ | refine ⟨_, rfl, ?_⟩ | refine ⟨by decide, ?_⟩ | refine ⟨rfl, ?_⟩ | refine ⟨fun _ => ?_, fun h => absurd h (by decide)⟩ | refine ⟨fun h => absurd h (by decide), fun _ => ?_⟩ | refine ⟨inI_of (by omega), ?_⟩ | (apply Exists.intro; refine ⟨?_, ?_⟩; ((try simp only [Nat.zero_add, Nat.mul_one, Int.toNat_natCast]); exact at_g (by omega))) | (apply Exists.intro; refine ⟨?_, ?_⟩; ((try simp only [Nat.zero_add, Nat.mul_one, Int.toNat_natCast]); exact put_flat (by omega))) | refine ⟨_, cut_all (by omega), ?_⟩ | refine ⟨_, lay_all (by omega) (by omega), ?_⟩ | refine ⟨_, lay_all (by simp only [List.length_replicate, List.length_cons, List.length_nil]; omega) (by omega), ?_⟩ | refine ⟨by omega, ?_⟩ | refine ⟨len_flat (by omega), ?_⟩ | refine ⟨apart_uv _ _ _, ?_⟩ | refine ⟨_, resSlot_own rfl (by omega) (by first | exact .inl rfl | exact .inr ⟨rfl, rfl⟩), ?_⟩ | refine ⟨(by kernel_rfl : regB _ = true), ?_⟩); conv => whnf))
      rw [e5]
      refine ⟨[2, 3, 4, 5, 11, 12, 13, 14, 15, 16, 17, 18, 19, 20, 21, 22, 23, 24, 25, 26, 27, 28, 29, 30, 31, 32, 33, 34, 35, 36, 37, 38, 39, 40, 41, 42, 43, 44, 45, 46, 47, 48, 49, 50], [], _, ?_, m + 1, rfl, by omega, ?_⟩
      · omega
      · rw [← e2]; kernel_rfl
    · have h9 := of_decide_eq_false h9
      have e5 : replP (unshiftP (plusP (decS key block m) k1)) IB = decS key block (m + 1) := by
        have : m = 0 := by omega
        subst this
        rw [hk1]; simp only [decS, if_true, Nat.sub_zero]
      ((conv => whnf); repeat ((first | refine ⟨_, oRepl (unshiftP_len _) IB_len (unshiftP_by hpb), ?_⟩ | refine ⟨_, cut_all (by with_reducible first | assumption | exact mixP_len _ | exact shiftP_len _ | exact plusP_len _ _ | exact replP_len _ _ | exact unshiftP_len _), ?_⟩ | refine ⟨len_flat (by with_reducible first | assumption | exact mixP_len _ | exact shiftP_len _ | exact plusP_len _ _ | exact replP_len _ _ | exact unshiftP_len _), ?_⟩ | refine ⟨_, lay16 (by with_reducible first | assumption | exact mixP_len _ | exact shiftP_len _ | exact plusP_len _ _ | exact replP_len _ _ | exact unshiftP_len _) (by with_reducible first | assumption | exact mixP_len _ | exact shiftP_len _ | exact plusP_len _ _ | exact replP_len _ _ | exact unshiftP_len _), ?_⟩ | refine ⟨_, oShift (by with_reducible first | assumption | exact mixP_len _ | exact shiftP_len _ | exact plusP_len _ _ | exact replP_len _ _ | exact unshiftP_len _), ?_⟩ | refine ⟨_, oMix (by with_reducible first | assumption | exact mixP_len _ | exact shiftP_len _ | exact plusP_len _ _ | exact replP_len _ _ | exact unshiftP_len _), ?_⟩ | refine ⟨_, oUnmix (by with_reducible first | assumption | exact mixP_len _ | exact shiftP_len _ | exact plusP_len _ _ | exact replP_len _ _ | exact unshiftP_len _), ?_⟩ | refine ⟨_, oUnshift (by with_reducible first | assumption | exact mixP_len _ | exact shiftP_len _ | exact plusP_len _ _ | exact replP_len _ _ | exact unshiftP_len _), ?_⟩ | refine ⟨_, oPlus (by with_reducible first | assumption | exact mixP_len _ | exact shiftP_len _ | exact plusP_len _ _ | exact replP_len _ _ | exact unshiftP_len _) (by with_reducible first | assumption | exact mixP_len _ | exact shiftP_len _ | exact plusP_len _ _ | exact replP_len _ _ | exact unshiftP_len _), ?_⟩ | refine ⟨_, rfl, ?_⟩ | refine ⟨by decide, ?_⟩ | refine ⟨rfl, ?_⟩ | refine ⟨fun _ => ?_, fun h => absurd h (by decide)⟩ | refine ⟨fun h => absurd h (by decide), fun _ => ?_⟩ | refine ⟨inI_of (by omega), ?_⟩ | (apply Exists.intro; refine ⟨?_, ?_⟩; ((try simp only [Nat.zero_add, Nat.mul_one, Int.toNat_natCast]); exact at_g (by omega))) | (apply Exists.intro; refine ⟨?_, ?_⟩; ((try simp only [Nat.zero_add, Nat.mul_one, Int.toNat_natCast]); exact put_flat (by omega))) | refine ⟨_, cut_all (by omega), ?_⟩ | refine ⟨_, lay_all (by omega) (by omega), ?_⟩ | refine ⟨_, lay_all (by simp only [List.length_replicate, List.length_cons, List.length_nil]; omega) (by omega), ?_⟩ | refine ⟨by omega, ?_⟩ | refine ⟨len_flat (by omega), ?_⟩ | refine ⟨apart_uv _ _ _, ?_⟩ | refine ⟨_, resSlot_own rfl (by omega) (by first | exact .inl rfl | exact .inr ⟨rfl, rfl⟩), ?_⟩ | refine ⟨(by kernel_rfl : regB _ = true), ?_⟩); conv => whnf))
      rw [e5]
      refine ⟨[2, 3, 4, 5, 11, 12, 13, 14, 15, 16, 17, 18, 19, 20, 21, 22, 23, 24, 25, 26, 27, 28, 29, 30, 31, 32, 33, 34, 35, 36, 37, 38, 39, 40, 41, 42, 43, 44, 45, 46, 47, 48, 49, 50], [], _, ?_, m + 1, rfl, by omega, ?_⟩
      · omega
      · rw [← e2]; kernel_rfl
  · have h := of_decide_eq_false h
    have hm' : m = 10 := by omega
    subst hm'
    obtain ⟨k0, hk0⟩ : ∃ k0, k0 = kkP key SB 0 := ⟨_, rfl⟩
    have hk0l : k0.length = 16 := by rw [hk0]; exact kk_len hk 0
    have cut0 : (Cont.flat .u8 (rT key SB 10)).cut (0 + Int.toNat 0 * 16) 16 = some (.flat .u8 k0) := by
      have := rT_cut (t := SB) hk (Nat.zero_le 10)
      rw [show 0 + Int.toNat 0 * 16 = 0 from rfl, cut_flat (by omega), show (0 : Nat) = 16 * 0 from rfl, this, hk0]
    obtain ⟨D, hD⟩ : ∃ D, D = decS key block 10 := ⟨_, rfl⟩
    rw [decP, ← hk0, ← hD]
    rw [← hD] at hel
    have hpl := plusP_len D k0
    have htk : (plusP D k0).take (16 * 1) = plusP D k0 := List.take_of_length_le (by omega)
    obtain ⟨R, hR⟩ : ∃ R, R = plusP D k0 := ⟨_, rfl⟩
    have oP : orcC 23 [.agg (.flat .u8 D), .agg (.flat .u8 k0)] = some (ret1 (arr8 R)) := by rw [hR]; exact oPlus hel hk0l
    rw [← hR] at hpl htk ⊢
    ((conv => whnf); repeat ((first | refine ⟨_, cut0, ?_⟩ | refine ⟨_, oP, ?_⟩ | refine ⟨_, lay16 hel hpl, ?_⟩ | refine ⟨_, resSlot_own (n := 16) (c := some 16) rfl (by omega) (.inr ⟨rfl, congrArg some hpl.symm⟩), ?_⟩ | refine ⟨_, rfl, ?_⟩ | refine ⟨by decide, ?_⟩ | refine ⟨rfl, ?_⟩ | refine ⟨fun _ => ?_, fun h => absurd h (by decide)⟩ | refine ⟨fun h => absurd h (by decide), fun _ => ?_⟩ | refine ⟨inI_of (by omega), ?_⟩ | (apply Exists.intro; refine ⟨?_, ?_⟩; ((try simp only [Nat.zero_add, Nat.mul_one, Int.toNat_natCast]); exact at_g (by omega))) | (apply Exists.intro; refine ⟨?_, ?_⟩; ((try simp only [Nat.zero_add, Nat.mul_one, Int.toNat_natCast]); exact put_flat (by omega))) | refine ⟨_, cut_all (by omega), ?_⟩ | refine ⟨_, lay_all (by omega) (by omega), ?_⟩ | refine ⟨_, lay_all (by simp only [List.length_replicate, List.length_cons, List.length_nil]; omega) (by omega), ?_⟩ | refine ⟨by omega, ?_⟩ | refine ⟨len_flat (by omega), ?_⟩ | refine ⟨apart_uv _ _ _, ?_⟩ | refine ⟨_, resSlot_own rfl (by omega) (by first | exact .inl rfl | exact .inr ⟨rfl, rfl⟩), ?_⟩ | refine ⟨(by kernel_rfl : regB _ = true), ?_⟩); conv => whnf))
    refine Eq.trans ?_ (show ret2 (.own 1 16 41 (.flat .u8 (R.take (16 * 1)))) 0 = fatR R by rw [htk])
    rfl
end Go.Proofs.Ytcmceadekcfpbaa
