/-
  Layer 6: the program's Expand, Encrypt, Decrypt.
-/
import Derived.Test.YtgkccfjjjamhoaaA6C
namespace Go.Proofs.Ytgkccfjjjamhoaa
open Go.RowKit

def orcC (f : Nat) (ds : List LV) : Option LRes :=
  match f with
  | 32 => match ds with
    | [] => some (ret1 (arr8 SB))
    | _ => none
  | 33 => match ds with
    | [.agg (.flat .u8 a), .agg (.flat .u8 t)] => if a.length = 16 ∧ t.length = 256 ∧ byteOk a = true ∧ byteOk t = true then some (ret1 (arr8 (rT a t 10))) else none
    | _ => none
  | _ => orcB f ds
theorem orcC_ok : Known Try.prog orcC := by
  intro f ds r h
  unfold orcC at h
  split at h
  · split at h
    · cases h
      exact ⟨⟨_, Try.func32, name_ne _ (by kernel_rfl), rfl⟩, execF_ok follows_ok EB_ok Try.func32 (subs_exec)⟩
    · cases h
  · split at h
    · split at h
      · rename_i hc
        cases h
        exact ⟨⟨_, Try.func33, name_ne _ (by kernel_rfl), rfl⟩, execF_ok follows_ok EB_ok Try.func33 (sched_exec _ _ hc.1 hc.2.1 (byteAll hc.2.2.1) (byteAll hc.2.2.2))⟩
      · cases h
    · cases h
  · exact orcB_ok f ds r h
def EC : Env := ⟨tyL, orcC, false, noWk, noOrw⟩
theorem EC_ok : EnvOk Try.prog EC := ⟨tyL_ok, orcC_ok, noOrw_ok⟩
theorem oRead (c : Option Nat) {a : List Int} (h : a.length = 16) : orcC 34 [.im 1 16 c (.flat .u8 a)] = some (ret1 (arr8 a)) := if_pos ⟨h, rfl⟩
theorem oSched {a t : List Int} (h1 : a.length = 16) (h2 : t.length = 256) (h3 : By a) (h4 : By t) : orcC 33 [.agg (.flat .u8 a), .agg (.flat .u8 t)] = some (ret1 (arr8 (rT a t 10))) := if_pos ⟨h1, h2, h3.ok, h4.ok⟩
theorem oRepl {a t : List Int} (h1 : a.length = 16) (h2 : t.length = 256) (h3 : By a) : orcC 37 [.agg (.flat .u8 a), .agg (.flat .u8 t)] = some (ret1 (arr8 (replP a t))) := if_pos ⟨h1, h2, h3.ok⟩
theorem oShift {a : List Int} (h1 : a.length = 16) : orcC 36 [.agg (.flat .u8 a)] = some (ret1 (arr8 (shiftP a))) := if_pos h1
theorem oMix {a : List Int} (h1 : a.length = 16) : orcC 38 [.agg (.flat .u8 a)] = some (ret1 (arr8 (mixP a))) := if_pos h1
theorem oPlus {a b : List Int} (h1 : a.length = 16) (h2 : b.length = 16) : orcC 35 [.agg (.flat .u8 a), .agg (.flat .u8 b)] = some (ret1 (arr8 (plusP a b))) := if_pos ⟨h1, h2⟩
set_option maxRecDepth 100000 in
theorem bk_SB : bk SB 256 = IB := by kernel_rfl
theorem lay16 {l m : List Int} (h : l.length = 16) (h2 : m.length = 16) : layOne (.flat .u8 l) 0 (.flat .u8 m) = some (.flat .u8 m) := lay_all (by omega) (by omega)
theorem len_map {f : Nat → Int} : ((List.range 16).map f).length = 16 := by simp
theorem replP_len (a t : List Int) : (replP a t).length = 16 := len_map
theorem shiftP_len (a : List Int) : (shiftP a).length = 16 := len_map
theorem unshiftP_len (a : List Int) : (unshiftP a).length = 16 := len_map
theorem mixP_len (a : List Int) : (mixP a).length = 16 := len_map
theorem plusP_len (a b : List Int) : (plusP a b).length = 16 := len_map
theorem replP_by {a t : List Int} (ht : By t) : By (replP a t) := By.map fun _ _ => ht.g _
theorem shiftP_by {a : List Int} (h : By a) : By (shiftP a) := By.map fun _ _ => h.g _
theorem unshiftP_by {a : List Int} (h : By a) : By (unshiftP a) := By.map fun _ _ => h.g _
theorem plusP_by {a b : List Int} (h : By a) (h2 : By b) : By (plusP a b) := By.map fun _ _ => x8_byte (h.g _) (h2.g _)
theorem mixP_by {a : List Int} (h : By a) : By (mixP a) := By.map fun _ _ => x8_byte (h.g _) (x8_byte (x8_byte (x8_byte (x8_byte (h.g _) (h.g _)) (h.g _)) (h.g _)) (dbl_byte (x8_byte (h.g _) (h.g _))))



/-- What has been put out after i parts. -/
def eo (key : List Int) (i : Nat) : List Int := flatK (kkP key SB) i ++ List.replicate (176 - 16 * i) 0
section
variable {key : List Int} (hk : key.length = 16)
include hk in
theorem eo_len {i : Nat} (hi : i ≤ 11) : (eo key i).length = 176 := by
  rw [eo, List.length_append, flatK_len (kk_len hk), List.length_replicate]; omega
include hk in
theorem eo_lay {i : Nat} (hi : i < 11) : (eo key i).take (16 * i) ++ kkP key SB i ++ (eo key i).drop (16 * i + 16) = eo key (i + 1) := by
  have hl := flatK_len (f := kkP key SB) (kk_len hk) i
  unfold eo
  rw [List.take_append_of_le_length (by omega), List.take_of_length_le (by omega), flatK_succ]
  congr 1
  rw [List.drop_append, List.drop_of_length_le (by omega), List.nil_append, List.drop_replicate]
  congr 1
  omega
end
def encS (key block : List Int) : Nat → List Int
  | 0 => plusP block (kkP key SB 0)
  | i + 1 => plusP (if i < 9 then mixP (shiftP (replP (encS key block i) SB)) else shiftP (replP (encS key block i) SB)) (kkP key SB (i + 1))
theorem encS_len (key block : List Int) : ∀ i, (encS key block i).length = 16
  | 0 => plusP_len _ _
  | _ + 1 => plusP_len _ _
section
variable {key block : List Int} (hkb : By key) (hbb : By block)
include hkb hbb in
theorem encS_by : ∀ i, By (encS key block i)
  | 0 => plusP_by hbb (kk_by hkb SB_by 0)
  | i + 1 => by
    have h1 : By (shiftP (replP (encS key block i) SB)) := shiftP_by (replP_by SB_by)
    rw [encS]
    split
    · exact plusP_by (mixP_by h1) (kk_by hkb SB_by _)
    · exact plusP_by h1 (kk_by hkb SB_by _)
end
abbrev fatR (l : List Int) : LRes := ret2 (.own 1 16 54 (.flat .u8 l)) 0

set_option maxRecDepth 100000 in
set_option maxHeartbeats 1600000 in
theorem enc_no1 (n n2 : Nat) (c c2 : Option Nat) (x x2 : Cont) (hn : n ≠ 16) : execF EC Try.f24 [.im 1 n c x, .im 1 n2 c2 x2] (no2 1) := by
  have hq : ((n : Int) != 16) = true := by simp; omega
  ((conv => whnf); repeat ((first | refine ⟨fun _ => ?_, fun h => absurd (hq.symm.trans h) (by decide)⟩ | refine ⟨fun h => absurd (hq.symm.trans h) (by decide), fun _ => ?_⟩ | refine ⟨_, rfl, ?_⟩ | refine ⟨by decide, ?_⟩ | refine ⟨rfl, ?_⟩ | refine ⟨fun _ => ?_, fun h => absurd h (by decide)⟩ | refine ⟨fun h => absurd h (by decide), fun _ => ?_⟩ | refine ⟨inI_of (by omega), ?_⟩ | refine ⟨⟨rfl, inI_of (by omega)⟩, ?_⟩ | refine ⟨⟨rfl, by decide⟩, ?_⟩ | (apply Exists.intro; refine ⟨?_, ?_⟩; ((try simp only); (try simp only [Nat.zero_add]); (try simp only [Nat.mul_one]); (try simp only [Int.toNat_natCast]); exact at_g (by omega))) | (apply Exists.intro; refine ⟨?_, ?_⟩; ((try simp only); (try simp only [Nat.zero_add]); (try simp only [Nat.mul_one]); (try simp only [Int.toNat_natCast]); exact put_flat (by omega))) | refine ⟨_, cut_all (by omega), ?_⟩ | refine ⟨_, lay_all (by omega) (by omega), ?_⟩ | refine ⟨_, lay_all (by (try simp only); (try simp only [List.length_replicate]); (try simp only [List.length_cons]); (try simp only [List.length_nil]); omega) (by omega), ?_⟩ | refine ⟨by omega, ?_⟩ | refine ⟨len_flat (by omega), ?_⟩ | refine ⟨apart_uv _ _ _, ?_⟩ | refine ⟨_, resSlot_own rfl (by omega) (by first | exact .inl rfl | exact .inr ⟨rfl, rfl⟩), ?_⟩ | refine ⟨(by kernel_rfl : regB _ = true), ?_⟩ | refine ⟨⟨rfl, inI_of (by omega), by decide⟩, ?_⟩ | (apply Exists.intro; refine ⟨?_, ?_⟩; ((try simp only); (try simp only [Nat.zero_add]); (try simp only [Nat.mul_one]); (try simp only [Int.toNat_natCast]); exact at_drop_g (by omega))) | (apply Exists.intro; refine ⟨?_, ?_⟩; ((try simp only); (try simp only [Nat.zero_add]); (try simp only [Nat.mul_one]); (try simp only [Int.toNat_natCast]); exact cut_rest (by omega)))); conv => whnf))
  rfl
set_option maxRecDepth 100000 in
set_option maxHeartbeats 1600000 in
theorem enc_no2 (n2 : Nat) (c c2 : Option Nat) (x x2 : Cont) (hn : n2 ≠ 16) : execF EC Try.f24 [.im 1 16 c x, .im 1 n2 c2 x2] (no2 1) := by
  have hq : ((n2 : Int) != 16) = true := by simp; omega
  ((conv => whnf); repeat ((first | refine ⟨fun _ => ?_, fun h => absurd (hq.symm.trans h) (by decide)⟩ | refine ⟨fun h => absurd (hq.symm.trans h) (by decide), fun _ => ?_⟩ | refine ⟨_, rfl, ?_⟩ | refine ⟨by decide, ?_⟩ | refine ⟨rfl, ?_⟩ | refine ⟨fun _ => ?_, fun h => absurd h (by decide)⟩ | refine ⟨fun h => absurd h (by decide), fun _ => ?_⟩ | refine ⟨inI_of (by omega), ?_⟩ | refine ⟨⟨rfl, inI_of (by omega)⟩, ?_⟩ | refine ⟨⟨rfl, by decide⟩, ?_⟩ | (apply Exists.intro; refine ⟨?_, ?_⟩; ((try simp only); (try simp only [Nat.zero_add]); (try simp only [Nat.mul_one]); (try simp only [Int.toNat_natCast]); exact at_g (by omega))) | (apply Exists.intro; refine ⟨?_, ?_⟩; ((try simp only); (try simp only [Nat.zero_add]); (try simp only [Nat.mul_one]); (try simp only [Int.toNat_natCast]); exact put_flat (by omega))) | refine ⟨_, cut_all (by omega), ?_⟩ | refine ⟨_, lay_all (by omega) (by omega), ?_⟩ | refine ⟨_, lay_all (by (try simp only); (try simp only [List.length_replicate]); (try simp only [List.length_cons]); (try simp only [List.length_nil]); omega) (by omega), ?_⟩ | refine ⟨by omega, ?_⟩ | refine ⟨len_flat (by omega), ?_⟩ | refine ⟨apart_uv _ _ _, ?_⟩ | refine ⟨_, resSlot_own rfl (by omega) (by first | exact .inl rfl | exact .inr ⟨rfl, rfl⟩), ?_⟩ | refine ⟨(by kernel_rfl : regB _ = true), ?_⟩ | refine ⟨⟨rfl, inI_of (by omega), by decide⟩, ?_⟩ | (apply Exists.intro; refine ⟨?_, ?_⟩; ((try simp only); (try simp only [Nat.zero_add]); (try simp only [Nat.mul_one]); (try simp only [Int.toNat_natCast]); exact at_drop_g (by omega))) | (apply Exists.intro; refine ⟨?_, ?_⟩; ((try simp only); (try simp only [Nat.zero_add]); (try simp only [Nat.mul_one]); (try simp only [Int.toNat_natCast]); exact cut_rest (by omega)))); conv => whnf))
  rfl
set_option maxRecDepth 100000 in
set_option maxHeartbeats 1600000 in
theorem enc_ok (key block : List Int) (c c2 : Option Nat) (hk : key.length = 16) (hkb : By key) (hb : block.length = 16) (hbb : By block) : execF EC Try.f24 [.im 1 16 c (.flat .u8 key), .im 1 16 c2 (.flat .u8 block)] (fatR (encS key block 10)) := by
  have hrl := rT_len (t := SB) hk (Nat.le_refl 10)
  have hSl := SB_len
  obtain ⟨k0, hk0⟩ : ∃ k0, k0 = kkP key SB 0 := ⟨_, rfl⟩
  have hk0l : k0.length = 16 := by rw [hk0]; exact kk_len hk 0
  have cut0 : (Cont.flat .u8 (rT key SB 10)).cut (0 + Int.toNat 0 * 16) 16 = some (.flat .u8 k0) := by
    have := rT_cut (t := SB) hk (Nat.zero_le 10)
    rw [show 0 + Int.toNat 0 * 16 = 0 from rfl, cut_flat (by omega), show (0 : Nat) = 16 * 0 from rfl, this, hk0]
  have hlay : ∀ (x : List Int), x.length = 16 → layOne (.flat .u8 (List.replicate 176 0)) 0 (.flat .u8 (rT key SB 10)) = some (.flat .u8 (rT key SB 10)) := fun _ _ => lay_all (by rw [List.length_replicate]; omega) (by omega)
  ((conv => whnf); repeat ((first | refine ⟨_, oRead c hk, ?_⟩ | refine ⟨_, oRead c2 hb, ?_⟩ | refine ⟨_, oSched hk SB_len hkb SB_by, ?_⟩ | refine ⟨_, cut0, ?_⟩ | refine ⟨_, oPlus hb hk0l, ?_⟩ | refine ⟨len_flat (plusP_len _ _), ?_⟩ | refine ⟨_, lay_all (plusP_len _ _).symm (by rw [plusP_len]; decide), ?_⟩ | refine ⟨_, rfl, ?_⟩ | refine ⟨by decide, ?_⟩ | refine ⟨rfl, ?_⟩ | refine ⟨fun _ => ?_, fun h => absurd h (by decide)⟩ | refine ⟨fun h => absurd h (by decide), fun _ => ?_⟩ | refine ⟨inI_of (by omega), ?_⟩ | refine ⟨⟨rfl, inI_of (by omega)⟩, ?_⟩ | refine ⟨⟨rfl, by decide⟩, ?_⟩ | (apply Exists.intro; refine ⟨?_, ?_⟩; ((try simp only); (try simp only [Nat.zero_add]); (try simp only [Nat.mul_one]); (try simp only [Int.toNat_natCast]); exact at_g (by omega))) | (apply Exists.intro; refine ⟨?_, ?_⟩; ((try simp only); (try simp only [Nat.zero_add]); (try simp only [Nat.mul_one]); (try simp only [Int.toNat_natCast]); exact put_flat (by omega))) | refine ⟨_, cut_all (by omega), ?_⟩ | refine ⟨_, lay_all (by omega) (by omega), ?_⟩ | refine ⟨_, lay_all (by (try simp only); (try simp only [List.length_replicate]); (try simp only [List.length_cons]); (try simp only [List.length_nil]); omega) (by omega), ?_⟩ | refine ⟨by omega, ?_⟩ | refine ⟨len_flat (by omega), ?_⟩ | refine ⟨apart_uv _ _ _, ?_⟩ | refine ⟨_, resSlot_own rfl (by omega) (by first | exact .inl rfl | exact .inr ⟨rfl, rfl⟩), ?_⟩ | refine ⟨(by kernel_rfl : regB _ = true), ?_⟩ | refine ⟨⟨rfl, inI_of (by omega), by decide⟩, ?_⟩ | (apply Exists.intro; refine ⟨?_, ?_⟩; ((try simp only); (try simp only [Nat.zero_add]); (try simp only [Nat.mul_one]); (try simp only [Int.toNat_natCast]); exact at_drop_g (by omega))) | (apply Exists.intro; refine ⟨?_, ?_⟩; ((try simp only); (try simp only [Nat.zero_add]); (try simp only [Nat.mul_one]); (try simp only [Int.toNat_natCast]); exact cut_rest (by omega)))); conv => whnf))
  rw [hk0]
  refine .inl ⟨fun n st => ∃ i : Nat, n = 10 - i ∧ i ≤ 10 ∧ st = ⟨[.im 1 16 c (.flat .u8 key), .im 1 16 c2 (.flat .u8 block), .poison, .poison, .poison, .poison, .ptr 48 0, .ptr 56 0, .ptr 64 0, .poison, .poison, .poison, .poison, .poison, .poison, .poison, .poison, .poison, .poison, .poison, .poison, .poison, .poison, .poison, .poison, .poison, .poison, .poison, iv .i64 i, .poison, .poison, .poison, .poison, .poison, .poison, .poison, .poison, .poison, .poison, .poison, .poison, .poison, .poison, .poison, .poison, .poison, .poison],
    [(48, ⟨.flat .u8 SB, 51, false⟩), (56, ⟨.flat .u8 (rT key SB 10), 55, false⟩), (64, ⟨.flat .u8 (encS key block i), 54, false⟩)]⟩,
    ⟨[2, 3, 4, 5, 9, 10, 11, 12, 13, 14, 15, 16, 17, 18, 19, 20, 21, 22, 23, 24, 25, 26, 27, 29, 30, 31, 32, 33, 34, 35, 36, 37, 38, 39, 40, 41, 42, 43, 44, 45, 46], [], 10, 0, rfl, by omega, by kernel_rfl⟩, ?_⟩
  rintro _ _ ⟨i, rfl, hi, rfl⟩
  have hel := encS_len key block i
  have heb := encS_by hkb hbb i
  conv => whnf
  refine ⟨fun h => ?_, fun h => ?_⟩
  · have h := of_decide_eq_true h
    have e1 : IntKind.i64.wrap ((i : Int) + 1) = ((i + 1 : Nat) : Int) := by rw [wrap64 (by omega)]; omega
    obtain ⟨k1, hk1⟩ : ∃ k1, k1 = kkP key SB (i + 1) := ⟨_, rfl⟩
    have hk1l : k1.length = 16 := by rw [hk1]; exact kk_len hk _
    have cutI : (Cont.flat .u8 (rT key SB 10)).cut (0 + (IntKind.i64.wrap ((i : Int) + 1)).toNat * 16) 16 = some (.flat .u8 k1) := by
      rw [e1, cut_flat (by omega), show 0 + ((i + 1 : Nat) : Int).toNat * 16 = 16 * (i + 1) by omega, rT_cut hk (by omega), hk1]
    ((conv => whnf); repeat ((first | refine ⟨_, oRepl hel SB_len heb, ?_⟩ | refine ⟨_, cut_all (by with_reducible first | assumption | exact mixP_len _ | exact shiftP_len _ | exact plusP_len _ _ | exact replP_len _ _ | exact unshiftP_len _), ?_⟩ | refine ⟨len_flat (by with_reducible first | assumption | exact mixP_len _ | exact shiftP_len _ | exact plusP_len _ _ | exact replP_len _ _ | exact unshiftP_len _), ?_⟩ | refine ⟨_, lay16 (by with_reducible first | assumption | exact mixP_len _ | exact shiftP_len _ | exact plusP_len _ _ | exact replP_len _ _ | exact unshiftP_len _) (by with_reducible first | assumption | exact mixP_len _ | exact shiftP_len _ | exact plusP_len _ _ | exact replP_len _ _ | exact unshiftP_len _), ?_⟩ | refine ⟨_, oShift (by with_reducible first | assumption | exact mixP_len _ | exact shiftP_len _ | exact plusP_len _ _ | exact replP_len _ _ | exact unshiftP_len _), ?_⟩ | refine ⟨_, oMix (by with_reducible first | assumption | exact mixP_len _ | exact shiftP_len _ | exact plusP_len _ _ | exact replP_len _ _ | exact unshiftP_len _), ?_⟩ | refine ⟨_, oPlus (by with_reducible first | assumption | exact mixP_len _ | exact shiftP_len _ | exact plusP_len _ _ | exact replP_len _ _ | exact unshiftP_len _) (by with_reducible first | assumption | exact mixP_len _ | exact shiftP_len _ | exact plusP_len _ _ | exact replP_len _ _ | exact unshiftP_len _), ?_⟩ | refine ⟨_, rfl, ?_⟩ | refine ⟨by decide, ?_⟩ | refine ⟨rfl, ?_⟩ | refine ⟨fun _ => ?_, fun h => absurd h (by decide)⟩ | refine ⟨fun h => absurd h (by decide), fun _ => ?_⟩ | refine ⟨inI_of (by omega), ?_⟩ | refine ⟨⟨rfl, inI_of (by omega)⟩, ?_⟩ | refine ⟨⟨rfl, by decide⟩, ?_⟩ | (apply Exists.intro; refine ⟨?_, ?_⟩; ((try simp only); (try simp only [Nat.zero_add]); (try simp only [Nat.mul_one]); (try simp only [Int.toNat_natCast]); exact at_g (by omega))) | (apply Exists.intro; refine ⟨?_, ?_⟩; ((try simp only); (try simp only [Nat.zero_add]); (try simp only [Nat.mul_one]); (try simp only [Int.toNat_natCast]); exact put_flat (by omega))) | refine ⟨_, cut_all (by omega), ?_⟩ | refine ⟨_, lay_all (by omega) (by omega), ?_⟩ | refine ⟨_, lay_all (by (try simp only); (try simp only [List.length_replicate]); (try simp only [List.length_cons]); (try simp only [List.length_nil]); omega) (by omega), ?_⟩ | refine ⟨by omega, ?_⟩ | refine ⟨len_flat (by omega), ?_⟩ | refine ⟨apart_uv _ _ _, ?_⟩ | refine ⟨_, resSlot_own rfl (by omega) (by first | exact .inl rfl | exact .inr ⟨rfl, rfl⟩), ?_⟩ | refine ⟨(by kernel_rfl : regB _ = true), ?_⟩ | refine ⟨⟨rfl, inI_of (by omega), by decide⟩, ?_⟩ | (apply Exists.intro; refine ⟨?_, ?_⟩; ((try simp only); (try simp only [Nat.zero_add]); (try simp only [Nat.mul_one]); (try simp only [Int.toNat_natCast]); exact at_drop_g (by omega))) | (apply Exists.intro; refine ⟨?_, ?_⟩; ((try simp only); (try simp only [Nat.zero_add]); (try simp only [Nat.mul_one]); (try simp only [Int.toNat_natCast]); exact cut_rest (by omega)))); conv => whnf))
    refine ⟨fun h9 => ?_, fun h9 => ?_⟩
    · have h9 := of_decide_eq_true h9
      have e5 : plusP (mixP (shiftP (replP (encS key block i) SB))) k1 = encS key block (i + 1) := by rw [encS, if_pos (by omega), hk1]
      ((conv => whnf); repeat ((first | refine ⟨_, cutI, ?_⟩ | refine ⟨_, cut_all (by with_reducible first | assumption | exact mixP_len _ | exact shiftP_len _ | exact plusP_len _ _ | exact replP_len _ _ | exact unshiftP_len _), ?_⟩ | refine ⟨len_flat (by with_reducible first | assumption | exact mixP_len _ | exact shiftP_len _ | exact plusP_len _ _ | exact replP_len _ _ | exact unshiftP_len _), ?_⟩ | refine ⟨_, lay16 (by with_reducible first | assumption | exact mixP_len _ | exact shiftP_len _ | exact plusP_len _ _ | exact replP_len _ _ | exact unshiftP_len _) (by with_reducible first | assumption | exact mixP_len _ | exact shiftP_len _ | exact plusP_len _ _ | exact replP_len _ _ | exact unshiftP_len _), ?_⟩ | refine ⟨_, oShift (by with_reducible first | assumption | exact mixP_len _ | exact shiftP_len _ | exact plusP_len _ _ | exact replP_len _ _ | exact unshiftP_len _), ?_⟩ | refine ⟨_, oMix (by with_reducible first | assumption | exact mixP_len _ | exact shiftP_len _ | exact plusP_len _ _ | exact replP_len _ _ | exact unshiftP_len _), ?_⟩ | refine ⟨_, oPlus (by with_reducible first | assumption | exact mixP_len _ | exact shiftP_len _ | exact plusP_len _ _ | exact replP_len _ _ | exact unshiftP_len _) (by with_reducible first | assumption | exact mixP_len _ | exact shiftP_len _ | exact plusP_len _ _ | exact replP_len _ _ | exact unshiftP_len _), ?_⟩ | refine ⟨_, rfl, ?_⟩ | refine ⟨by decide, ?_⟩ | refine ⟨rfl, ?_⟩ | refine ⟨fun _ => ?_, fun h => absurd h (by decide)⟩ | refine ⟨fun h => absurd h (by decide), fun _ => ?_⟩ | refine ⟨inI_of (by omega), ?_⟩ | refine ⟨⟨rfl, inI_of (by omega)⟩, ?_⟩ | refine ⟨⟨rfl, by decide⟩, ?_⟩ | (apply Exists.intro; refine ⟨?_, ?_⟩; ((try simp only); (try simp only [Nat.zero_add]); (try simp only [Nat.mul_one]); (try simp only [Int.toNat_natCast]); exact at_g (by omega))) | (apply Exists.intro; refine ⟨?_, ?_⟩; ((try simp only); (try simp only [Nat.zero_add]); (try simp only [Nat.mul_one]); (try simp only [Int.toNat_natCast]); exact put_flat (by omega))) | refine ⟨_, cut_all (by omega), ?_⟩ | refine ⟨_, lay_all (by omega) (by omega), ?_⟩ | refine ⟨_, lay_all (by (try simp only); (try simp only [List.length_replicate]); (try simp only [List.length_cons]); (try simp only [List.length_nil]); omega) (by omega), ?_⟩ | refine ⟨by omega, ?_⟩ | refine ⟨len_flat (by omega), ?_⟩ | refine ⟨apart_uv _ _ _, ?_⟩ | refine ⟨_, resSlot_own rfl (by omega) (by first | exact .inl rfl | exact .inr ⟨rfl, rfl⟩), ?_⟩ | refine ⟨(by kernel_rfl : regB _ = true), ?_⟩ | refine ⟨⟨rfl, inI_of (by omega), by decide⟩, ?_⟩ | (apply Exists.intro; refine ⟨?_, ?_⟩; ((try simp only); (try simp only [Nat.zero_add]); (try simp only [Nat.mul_one]); (try simp only [Int.toNat_natCast]); exact at_drop_g (by omega))) | (apply Exists.intro; refine ⟨?_, ?_⟩; ((try simp only); (try simp only [Nat.zero_add]); (try simp only [Nat.mul_one]); (try simp only [Int.toNat_natCast]); exact cut_rest (by omega)))); conv => whnf))
      rw [e5]
      refine ⟨[2, 3, 4, 5, 9, 10, 11, 12, 13, 14, 15, 16, 17, 18, 19, 20, 21, 22, 23, 24, 25, 26, 27, 29, 30, 31, 32, 33, 34, 35, 36, 37, 38, 39, 40, 41, 42, 43, 44, 45, 46], [], _, ?_, i + 1, rfl, by omega, ?_⟩
      · omega
      · rw [← e1]; kernel_rfl
    · have h9 := of_decide_eq_false h9
      have e5 : plusP (shiftP (replP (encS key block i) SB)) k1 = encS key block (i + 1) := by rw [encS, if_neg (by omega), hk1]
      ((conv => whnf); repeat ((first | refine ⟨_, cutI, ?_⟩ | refine ⟨_, cut_all (by with_reducible first | assumption | exact mixP_len _ | exact shiftP_len _ | exact plusP_len _ _ | exact replP_len _ _ | exact unshiftP_len _), ?_⟩ | refine ⟨len_flat (by with_reducible first | assumption | exact mixP_len _ | exact shiftP_len _ | exact plusP_len _ _ | exact replP_len _ _ | exact unshiftP_len _), ?_⟩ | refine ⟨_, lay16 (by with_reducible first | assumption | exact mixP_len _ | exact shiftP_len _ | exact plusP_len _ _ | exact replP_len _ _ | exact unshiftP_len _) (by with_reducible first | assumption | exact mixP_len _ | exact shiftP_len _ | exact plusP_len _ _ | exact replP_len _ _ | exact unshiftP_len _), ?_⟩ | refine ⟨_, oShift (by with_reducible first | assumption | exact mixP_len _ | exact shiftP_len _ | exact plusP_len _ _ | exact replP_len _ _ | exact unshiftP_len _), ?_⟩ | refine ⟨_, oMix (by with_reducible first | assumption | exact mixP_len _ | exact shiftP_len _ | exact plusP_len _ _ | exact replP_len _ _ | exact unshiftP_len _), ?_⟩ | refine ⟨_, oPlus (by with_reducible first | assumption | exact mixP_len _ | exact shiftP_len _ | exact plusP_len _ _ | exact replP_len _ _ | exact unshiftP_len _) (by with_reducible first | assumption | exact mixP_len _ | exact shiftP_len _ | exact plusP_len _ _ | exact replP_len _ _ | exact unshiftP_len _), ?_⟩ | refine ⟨_, rfl, ?_⟩ | refine ⟨by decide, ?_⟩ | refine ⟨rfl, ?_⟩ | refine ⟨fun _ => ?_, fun h => absurd h (by decide)⟩ | refine ⟨fun h => absurd h (by decide), fun _ => ?_⟩ | refine ⟨inI_of (by omega), ?_⟩ | refine ⟨⟨rfl, inI_of (by omega)⟩, ?_⟩ | refine ⟨⟨rfl, by decide⟩, ?_⟩ | (apply Exists.intro; refine ⟨?_, ?_⟩; ((try simp only); (try simp only [Nat.zero_add]); (try simp only [Nat.mul_one]); (try simp only [Int.toNat_natCast]); exact at_g (by omega))) | (apply Exists.intro; refine ⟨?_, ?_⟩; ((try simp only); (try simp only [Nat.zero_add]); (try simp only [Nat.mul_one]); (try simp only [Int.toNat_natCast]); exact put_flat (by omega))) | refine ⟨_, cut_all (by omega), ?_⟩ | refine ⟨_, lay_all (by omega) (by omega), ?_⟩ | refine ⟨_, lay_all (by (try simp only); (try simp only [List.length_replicate]); (try simp only [List.length_cons]); (try simp only [List.length_nil]); omega) (by omega), ?_⟩ | refine ⟨by omega, ?_⟩ | refine ⟨len_flat (by omega), ?_⟩ | refine ⟨apart_uv _ _ _, ?_⟩ | refine ⟨_, resSlot_own rfl (by omega) (by first | exact .inl rfl | exact .inr ⟨rfl, rfl⟩), ?_⟩ | refine ⟨(by kernel_rfl : regB _ = true), ?_⟩ | refine ⟨⟨rfl, inI_of (by omega), by decide⟩, ?_⟩ | (apply Exists.intro; refine ⟨?_, ?_⟩; ((try simp only); (try simp only [Nat.zero_add]); (try simp only [Nat.mul_one]); (try simp only [Int.toNat_natCast]); exact at_drop_g (by omega))) | (apply Exists.intro; refine ⟨?_, ?_⟩; ((try simp only); (try simp only [Nat.zero_add]); (try simp only [Nat.mul_one]); (try simp only [Int.toNat_natCast]); exact cut_rest (by omega)))); conv => whnf))
      rw [e5]
      refine ⟨[2, 3, 4, 5, 9, 10, 11, 12, 13, 14, 15, 16, 17, 18, 19, 20, 21, 22, 23, 24, 25, 26, 27, 29, 30, 31, 32, 33, 34, 35, 36, 37, 38, 39, 40, 41, 42, 43, 44, 45, 46], [], _, ?_, i + 1, rfl, by omega, ?_⟩
      · omega
      · rw [← e1]; kernel_rfl
  · have h := of_decide_eq_false h
    have hi' : i = 10 := by omega
    subst hi'
    obtain ⟨R, hR⟩ : ∃ R, R = encS key block 10 := ⟨_, rfl⟩
    rw [← hR] at hel ⊢
    have htk : R.take (16 * 1) = R := List.take_of_length_le (by omega)
    ((conv => whnf); repeat ((first | refine ⟨_, resSlot_own (n := 16) (c := some 16) rfl (by omega) (.inr ⟨rfl, congrArg some hel.symm⟩), ?_⟩ | refine ⟨_, rfl, ?_⟩ | refine ⟨by decide, ?_⟩ | refine ⟨rfl, ?_⟩ | refine ⟨fun _ => ?_, fun h => absurd h (by decide)⟩ | refine ⟨fun h => absurd h (by decide), fun _ => ?_⟩ | refine ⟨inI_of (by omega), ?_⟩ | refine ⟨⟨rfl, inI_of (by omega)⟩, ?_⟩ | refine ⟨⟨rfl, by decide⟩, ?_⟩ | (apply Exists.intro; refine ⟨?_, ?_⟩; ((try simp only); (try simp only [Nat.zero_add]); (try simp only [Nat.mul_one]); (try simp only [Int.toNat_natCast]); exact at_g (by omega))) | (apply Exists.intro; refine ⟨?_, ?_⟩; ((try simp only); (try simp only [Nat.zero_add]); (try simp only [Nat.mul_one]); (try simp only [Int.toNat_natCast]); exact put_flat (by omega))) | refine ⟨_, cut_all (by omega), ?_⟩ | refine ⟨_, lay_all (by omega) (by omega), ?_⟩ | refine ⟨_, lay_all (by (try simp only); (try simp only [List.length_replicate]); (try simp only [List.length_cons]); (try simp only [List.length_nil]); omega) (by omega), ?_⟩ | refine ⟨by omega, ?_⟩ | refine ⟨len_flat (by omega), ?_⟩ | refine ⟨apart_uv _ _ _, ?_⟩ | refine ⟨_, resSlot_own rfl (by omega) (by first | exact .inl rfl | exact .inr ⟨rfl, rfl⟩), ?_⟩ | refine ⟨(by kernel_rfl : regB _ = true), ?_⟩ | refine ⟨⟨rfl, inI_of (by omega), by decide⟩, ?_⟩ | (apply Exists.intro; refine ⟨?_, ?_⟩; ((try simp only); (try simp only [Nat.zero_add]); (try simp only [Nat.mul_one]); (try simp only [Int.toNat_natCast]); exact at_drop_g (by omega))) | (apply Exists.intro; refine ⟨?_, ?_⟩; ((try simp only); (try simp only [Nat.zero_add]); (try simp only [Nat.mul_one]); (try simp only [Int.toNat_natCast]); exact cut_rest (by omega)))); conv => whnf))
    refine Eq.trans ?_ (show ret2 (.own 1 16 54 (.flat .u8 (R.take (16 * 1)))) 0 = fatR R by rw [htk])
    rfl

end Go.Proofs.Ytgkccfjjjamhoaa

/-
  Layer 6: the program's Decrypt.
-/
namespace Go.Proofs.Ytgkccfjjjamhoaa
open Go.RowKit

/-! Decrypt -/
def unm (a : List Int) : List Int := mixP (mixP (mixP a))
def decS (key block : List Int) : Nat → List Int
  | 0 => block
  | m + 1 => replP (unshiftP (if m = 0 then plusP (decS key block m) (kkP key SB 10) else mixP (mixP (mixP (plusP (decS key block m) (kkP key SB (10 - m))))))) IB
def decP (key block : List Int) : List Int := plusP (decS key block 10) (kkP key SB 0)
section
variable {key block : List Int} (hkb : By key) (hbb : By block) (hb : block.length = 16)
include hb in
theorem decS_len : ∀ i, (decS key block i).length = 16
  | 0 => hb
  | _ + 1 => replP_len _ _
include hbb in
theorem decS_by : ∀ i, By (decS key block i)
  | 0 => hbb
  | _ + 1 => replP_by IB_by
end
end Go.Proofs.Ytgkccfjjjamhoaa
