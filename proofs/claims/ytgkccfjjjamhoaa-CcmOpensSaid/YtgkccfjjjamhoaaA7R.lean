/-
  Layer 7: the program's small functions.
-/
import Derived.Test.YtgkccfjjjamhoaaCat
import Derived.Test.YtgkccfjjjamhoaaA7C
namespace Go.Proofs.Ytgkccfjjjamhoaa
open Go.RowKit

/-- make of so many bytes. -/
theorem make_u8 {E : Env} {d t e n c a1 a2 a4 by_ : Nat} {g1 g2 : Bool} {o1 : Option Cont} {dd : TD} {x y : LV} (h1 : E.T t = some ⟨.slice e 1, a1, a2, g1, o1⟩) (h2 : E.T e = some ⟨dd, a4, by_, g2, some (.flat .u8 [0])⟩)
    (hx : x = .v (.int .i64 (n : Nat))) (hy : y = .v (.int .i64 (c : Nat))) (hn : n ≤ c) (hc : c * by_ ≤ 281474976710656) (hc2 : c ≤ 9223372036854775807) :
    opMakeSlice E d t x y = some (.sl 1 (8 * d) 0 n (some c), [(8 * d, ⟨.flat .u8 (List.replicate c 0), e, false⟩)]) := by
  subst hx hy
  have hr : (List.replicate c [(0 : Int)]).flatten = List.replicate c 0 := by
    apply List.ext_getElem
    · simp
    · intro i h1 h2; simp
  simp only [opMakeSlice, pickInt, h1, h2, repCont]
  rw [if_pos (by simp [Cont.len]; omega)]
  simp
set_option maxRecDepth 100000 in
theorem proom_exec (n : Nat) (c : Option Nat) (x : Cont) : execF EM Try.f55 [.im 1 n c x] (ret1 (iv .i64 (IntKind.i64.wrap (15 - (n : Int))))) := by
  ((conv => whnf); repeat ((first | refine ⟨_, rfl, ?_⟩ | refine ⟨by decide, ?_⟩ | refine ⟨rfl, ?_⟩ | refine ⟨fun _ => ?_, fun h => absurd h (by decide)⟩ | refine ⟨fun h => absurd h (by decide), fun _ => ?_⟩ | refine ⟨inI_of (by omega), ?_⟩ | refine ⟨⟨rfl, inI_of (by omega)⟩, ?_⟩ | refine ⟨⟨rfl, by decide⟩, ?_⟩ | (apply Exists.intro; refine ⟨?_, ?_⟩; ((try simp only); (try simp only [Nat.zero_add]); (try simp only [Nat.mul_one]); (try simp only [Int.toNat_natCast]); exact at_g (by omega))) | (apply Exists.intro; refine ⟨?_, ?_⟩; ((try simp only); (try simp only [Nat.zero_add]); (try simp only [Nat.mul_one]); (try simp only [Int.toNat_natCast]); exact put_flat (by omega))) | refine ⟨_, cut_all (by omega), ?_⟩ | refine ⟨_, lay_all (by omega) (by omega), ?_⟩ | refine ⟨_, lay_all (by (try simp only); (try simp only [List.length_replicate]); (try simp only [List.length_cons]); (try simp only [List.length_nil]); omega) (by omega), ?_⟩ | refine ⟨by omega, ?_⟩ | refine ⟨len_flat (by omega), ?_⟩ | refine ⟨apart_uv _ _ _, ?_⟩ | refine ⟨_, resSlot_own rfl (by omega) (by first | exact .inl rfl | exact .inr ⟨rfl, rfl⟩), ?_⟩ | refine ⟨(by kernel_rfl : regB _ = true), ?_⟩ | refine ⟨⟨rfl, inI_of (by omega), by decide⟩, ?_⟩ | (apply Exists.intro; refine ⟨?_, ?_⟩; ((try simp only); (try simp only [Nat.zero_add]); (try simp only [Nat.mul_one]); (try simp only [Int.toNat_natCast]); exact at_drop_g (by omega))) | (apply Exists.intro; refine ⟨?_, ?_⟩; ((try simp only); (try simp only [Nat.zero_add]); (try simp only [Nat.mul_one]); (try simp only [Int.toNat_natCast]); exact cut_rest (by omega)))); conv => whnf))
  rfl
set_option maxRecDepth 100000 in
theorem pblocks_exec (x : Int) : execF EM Try.f25 [iv .i64 x] (ret1 (iv .i64 (IntKind.i64.wrap ((IntKind.i64.wrap (IntKind.i64.wrap (x + 16) - 1)).tdiv 16)))) := by
  ((conv => whnf); repeat ((first | refine ⟨_, rfl, ?_⟩ | refine ⟨by decide, ?_⟩ | refine ⟨rfl, ?_⟩ | refine ⟨fun _ => ?_, fun h => absurd h (by decide)⟩ | refine ⟨fun h => absurd h (by decide), fun _ => ?_⟩ | refine ⟨inI_of (by omega), ?_⟩ | refine ⟨⟨rfl, inI_of (by omega)⟩, ?_⟩ | refine ⟨⟨rfl, by decide⟩, ?_⟩ | (apply Exists.intro; refine ⟨?_, ?_⟩; ((try simp only); (try simp only [Nat.zero_add]); (try simp only [Nat.mul_one]); (try simp only [Int.toNat_natCast]); exact at_g (by omega))) | (apply Exists.intro; refine ⟨?_, ?_⟩; ((try simp only); (try simp only [Nat.zero_add]); (try simp only [Nat.mul_one]); (try simp only [Int.toNat_natCast]); exact put_flat (by omega))) | refine ⟨_, cut_all (by omega), ?_⟩ | refine ⟨_, lay_all (by omega) (by omega), ?_⟩ | refine ⟨_, lay_all (by (try simp only); (try simp only [List.length_replicate]); (try simp only [List.length_cons]); (try simp only [List.length_nil]); omega) (by omega), ?_⟩ | refine ⟨by omega, ?_⟩ | refine ⟨len_flat (by omega), ?_⟩ | refine ⟨apart_uv _ _ _, ?_⟩ | refine ⟨_, resSlot_own rfl (by omega) (by first | exact .inl rfl | exact .inr ⟨rfl, rfl⟩), ?_⟩ | refine ⟨(by kernel_rfl : regB _ = true), ?_⟩ | refine ⟨⟨rfl, inI_of (by omega), by decide⟩, ?_⟩ | (apply Exists.intro; refine ⟨?_, ?_⟩; ((try simp only); (try simp only [Nat.zero_add]); (try simp only [Nat.mul_one]); (try simp only [Int.toNat_natCast]); exact at_drop_g (by omega))) | (apply Exists.intro; refine ⟨?_, ?_⟩; ((try simp only); (try simp only [Nat.zero_add]); (try simp only [Nat.mul_one]); (try simp only [Int.toNat_natCast]); exact cut_rest (by omega)))); conv => whnf))
  rfl
/-- The last k places of a number of m bytes. -/
def nbE (n : Int) (m j : Nat) : Int := if m ≤ j + 0 then 0 else beF n (m - 1 - j)
def nbP (n : Int) (m : Nat) : List Int := (List.range m).map fun j => beF n (m - 1 - j)
def nbK (n : Int) (m k : Nat) : List Int := (List.range m).map fun j => if m - k ≤ j then beF n (m - 1 - j) else 0
theorem nbP_len (n : Int) (m : Nat) : (nbP n m).length = m := by simp [nbP]
theorem nbP_by (n : Int) (m : Nat) : By (nbP n m) := By.map fun _ _ => w8_byte _
theorem nbK_len (n : Int) (m k : Nat) : (nbK n m k).length = m := by simp [nbK]
theorem nbK_zero (n : Int) (m : Nat) : nbK n m 0 = List.replicate m 0 := by
  apply List.ext_getElem
  · simp [nbK]
  · intro i h1 h2
    have : i < m := by simpa [nbK] using h1
    simp [nbK]
    omega
theorem nbK_all (n : Int) (m : Nat) : nbK n m m = nbP n m := by simp [nbK, nbP]
theorem nbK_succ (n : Int) (m k : Nat) (h : k < m) : (nbK n m k).set (m - 1 - k) (beF n k) = nbK n m (k + 1) := by
  apply List.ext_getElem
  · simp [nbK]
  · intro i h1 h2
    have hi : i < m := by simpa [nbK] using h2
    rw [List.getElem_set]
    by_cases e : m - 1 - k = i
    · subst e
      simp [nbK]
      rw [if_pos (by omega)]
      congr 1
      omega
    · simp only [e, if_false, nbK, List.getElem_map, List.getElem_range]
      by_cases h3 : m - k ≤ i
      · rw [if_pos h3, if_pos (by omega)]
      · rw [if_neg h3, if_neg (by omega)]
theorem beF_at (n : Int) (i : Nat) (hi : i ≤ 7) : IntKind.u8.wrap (n.fdiv (2 ^ min (IntKind.i64.wrap (8 * (i : Int))).toNat IntKind.i64.bits)) = beF n i := by
  have e : min (IntKind.i64.wrap (8 * (i : Int))).toNat IntKind.i64.bits = 8 * i := by
    rw [wrap64 (by omega)]
    simp [IntKind.bits]
    omega
  rw [e, beF]
set_option maxRecDepth 100000 in
set_option maxHeartbeats 1600000 in
theorem pnumber_exec (n : Int) (m : Nat) (hm : 0 < m ∧ m ≤ 8) : execF EM Try.f47 [iv .i64 n, iv .i64 (m : Nat)] (.one (.own 1 m 5 (.flat .u8 (nbP n m)))) := by
  ((conv => whnf); repeat ((first | refine ⟨_, make_u8 rfl rfl rfl rfl (Nat.le_refl _) (by omega) (by omega), ?_⟩ | refine ⟨_, rfl, ?_⟩ | refine ⟨by decide, ?_⟩ | refine ⟨rfl, ?_⟩ | refine ⟨fun _ => ?_, fun h => absurd h (by decide)⟩ | refine ⟨fun h => absurd h (by decide), fun _ => ?_⟩ | refine ⟨inI_of (by omega), ?_⟩ | refine ⟨⟨rfl, inI_of (by omega)⟩, ?_⟩ | refine ⟨⟨rfl, by decide⟩, ?_⟩ | (apply Exists.intro; refine ⟨?_, ?_⟩; ((try simp only); (try simp only [Nat.zero_add]); (try simp only [Nat.mul_one]); (try simp only [Int.toNat_natCast]); exact at_g (by omega))) | (apply Exists.intro; refine ⟨?_, ?_⟩; ((try simp only); (try simp only [Nat.zero_add]); (try simp only [Nat.mul_one]); (try simp only [Int.toNat_natCast]); exact put_flat (by omega))) | refine ⟨_, cut_all (by omega), ?_⟩ | refine ⟨_, lay_all (by omega) (by omega), ?_⟩ | refine ⟨_, lay_all (by (try simp only); (try simp only [List.length_replicate]); (try simp only [List.length_cons]); (try simp only [List.length_nil]); omega) (by omega), ?_⟩ | refine ⟨by omega, ?_⟩ | refine ⟨len_flat (by omega), ?_⟩ | refine ⟨apart_uv _ _ _, ?_⟩ | refine ⟨_, resSlot_own rfl (by omega) (by first | exact .inl rfl | exact .inr ⟨rfl, rfl⟩), ?_⟩ | refine ⟨(by kernel_rfl : regB _ = true), ?_⟩ | refine ⟨⟨rfl, inI_of (by omega), by decide⟩, ?_⟩ | (apply Exists.intro; refine ⟨?_, ?_⟩; ((try simp only); (try simp only [Nat.zero_add]); (try simp only [Nat.mul_one]); (try simp only [Int.toNat_natCast]); exact at_drop_g (by omega))) | (apply Exists.intro; refine ⟨?_, ?_⟩; ((try simp only); (try simp only [Nat.zero_add]); (try simp only [Nat.mul_one]); (try simp only [Int.toNat_natCast]); exact cut_rest (by omega)))); conv => whnf))
  refine .inl ⟨fun q st => ∃ k : Nat, q = m - k ∧ k ≤ m ∧ st = ⟨[iv .i64 n, iv .i64 (m : Nat), .poison, .poison, .poison, .sl 1 64 0 m (some m), .poison, .poison, .poison, .poison, iv .i64 (m : Nat), iv .i64 k, .poison, .poison, .poison, .poison, .poison, .poison, .poison, .poison, .poison, .poison, .poison, .poison, .poison, .poison, .poison],
      [(64, ⟨.flat .u8 (nbK n m k), 5, false⟩)]⟩, ⟨[2, 3, 4, 6, 7, 8, 9, 12, 13, 14, 15, 16, 17, 18, 19, 20, 21, 22, 23, 24, 25, 26], [], m, 0, rfl, by omega, by rw [nbK_zero]; kernel_rfl⟩, ?_⟩
  rintro _ _ ⟨k, rfl, hk, rfl⟩
  have hl := nbK_len n m k
  conv => whnf
  refine ⟨fun h => ?_, fun h => ?_⟩
  · have h := of_decide_eq_true h
    have e1 : IntKind.i64.wrap (IntKind.i64.wrap ((m : Int) - 1) - (k : Int)) = ((m - 1 - k : Nat) : Int) := by rw [wrap64 (x := (m : Int) - 1) (by omega), wrap64 (by omega)]; omega
    have q8 : 0 ≤ IntKind.i64.wrap (8 * (k : Int)) := by rw [wrap64 (by omega)]; omega
    ((conv => whnf); repeat ((first | refine ⟨q8, ?_⟩ | refine ⟨_, rfl, ?_⟩ | refine ⟨by decide, ?_⟩ | refine ⟨rfl, ?_⟩ | refine ⟨fun _ => ?_, fun h => absurd h (by decide)⟩ | refine ⟨fun h => absurd h (by decide), fun _ => ?_⟩ | refine ⟨inI_of (by omega), ?_⟩ | refine ⟨⟨rfl, inI_of (by omega)⟩, ?_⟩ | refine ⟨⟨rfl, by decide⟩, ?_⟩ | refine ⟨by (try simp only); (try simp only [e1]); exact inI_of (by omega), ?_⟩ | refine ⟨⟨rfl, by (try simp only); (try simp only [e1]); exact inI_of (by omega)⟩, ?_⟩ | (apply Exists.intro; refine ⟨?_, ?_⟩; ((try simp only); (try simp only [e1]); (try simp only [Nat.zero_add]); (try simp only [Nat.mul_one]); (try simp only [Int.toNat_natCast]); (try simp only [e1]); (try simp only [Nat.zero_add]); (try simp only [Nat.mul_one]); (try simp only [Int.toNat_natCast]); exact at_g (by omega))) | (apply Exists.intro; refine ⟨?_, ?_⟩; ((try simp only); (try simp only [e1]); (try simp only [Nat.zero_add]); (try simp only [Nat.mul_one]); (try simp only [Int.toNat_natCast]); (try simp only [e1]); (try simp only [Nat.zero_add]); (try simp only [Nat.mul_one]); (try simp only [Int.toNat_natCast]); exact put_flat (by omega))) | refine ⟨_, cut_all (by omega), ?_⟩ | refine ⟨_, lay_all (by omega) (by omega), ?_⟩ | refine ⟨_, lay_all (by (try simp only); (try simp only [List.length_replicate]); (try simp only [List.length_cons]); (try simp only [List.length_nil]); omega) (by omega), ?_⟩ | refine ⟨by omega, ?_⟩ | refine ⟨len_flat (by omega), ?_⟩ | refine ⟨apart_uv _ _ _, ?_⟩ | refine ⟨_, resSlot_own rfl (by omega) (by first | exact .inl rfl | exact .inr ⟨rfl, rfl⟩), ?_⟩ | refine ⟨(by kernel_rfl : regB _ = true), ?_⟩ | refine ⟨⟨rfl, inI_of (by omega), by decide⟩, ?_⟩ | refine ⟨⟨rfl, by (try simp only); (try simp only [e1]); exact inI_of (by omega), by decide⟩, ?_⟩ | (apply Exists.intro; refine ⟨?_, ?_⟩; ((try simp only); (try simp only [e1]); (try simp only [Nat.zero_add]); (try simp only [Nat.mul_one]); (try simp only [Int.toNat_natCast]); (try simp only [e1]); (try simp only [Nat.zero_add]); (try simp only [Nat.mul_one]); (try simp only [Int.toNat_natCast]); exact at_drop_g (by omega))) | (apply Exists.intro; refine ⟨?_, ?_⟩; ((try simp only); (try simp only [e1]); (try simp only [Nat.zero_add]); (try simp only [Nat.mul_one]); (try simp only [Int.toNat_natCast]); (try simp only [e1]); (try simp only [Nat.zero_add]); (try simp only [Nat.mul_one]); (try simp only [Int.toNat_natCast]); exact cut_rest (by omega)))); conv => whnf))
    have e2 := nbK_succ n m k (by omega)
    have e3 := beF_at n k (by omega)
    have e4 : IntKind.i64.wrap ((k : Int) + 1) = ((k + 1 : Nat) : Int) := by rw [wrap64 (by omega)]; omega
    refine ⟨[2, 3, 4, 6, 7, 8, 9, 12, 13, 14, 15, 16, 17, 18, 19, 20, 21, 22, 23, 24, 25, 26], [], m - (k + 1), ?_, k + 1, rfl, by omega, ?_⟩
    · omega
    · rw [e3, e2, e4]
      kernel_rfl
  · have h := of_decide_eq_false h
    have hk' : k = m := by omega
    subst hk'
    have htk : (nbK n k k).take (k * 1) = nbP n k := by rw [List.take_of_length_le (by omega), nbK_all]
    ((conv => whnf); repeat ((first | refine ⟨_, resSlot_own rfl (by omega) (.inr ⟨rfl, by simp [hl]⟩), ?_⟩ | refine ⟨_, rfl, ?_⟩ | refine ⟨by decide, ?_⟩ | refine ⟨rfl, ?_⟩ | refine ⟨fun _ => ?_, fun h => absurd h (by decide)⟩ | refine ⟨fun h => absurd h (by decide), fun _ => ?_⟩ | refine ⟨inI_of (by omega), ?_⟩ | refine ⟨⟨rfl, inI_of (by omega)⟩, ?_⟩ | refine ⟨⟨rfl, by decide⟩, ?_⟩ | (apply Exists.intro; refine ⟨?_, ?_⟩; ((try simp only); (try simp only [Nat.zero_add]); (try simp only [Nat.mul_one]); (try simp only [Int.toNat_natCast]); exact at_g (by omega))) | (apply Exists.intro; refine ⟨?_, ?_⟩; ((try simp only); (try simp only [Nat.zero_add]); (try simp only [Nat.mul_one]); (try simp only [Int.toNat_natCast]); exact put_flat (by omega))) | refine ⟨_, cut_all (by omega), ?_⟩ | refine ⟨_, lay_all (by omega) (by omega), ?_⟩ | refine ⟨_, lay_all (by (try simp only); (try simp only [List.length_replicate]); (try simp only [List.length_cons]); (try simp only [List.length_nil]); omega) (by omega), ?_⟩ | refine ⟨by omega, ?_⟩ | refine ⟨len_flat (by omega), ?_⟩ | refine ⟨apart_uv _ _ _, ?_⟩ | refine ⟨_, resSlot_own rfl (by omega) (by first | exact .inl rfl | exact .inr ⟨rfl, rfl⟩), ?_⟩ | refine ⟨(by kernel_rfl : regB _ = true), ?_⟩ | refine ⟨⟨rfl, inI_of (by omega), by decide⟩, ?_⟩ | (apply Exists.intro; refine ⟨?_, ?_⟩; ((try simp only); (try simp only [Nat.zero_add]); (try simp only [Nat.mul_one]); (try simp only [Int.toNat_natCast]); exact at_drop_g (by omega))) | (apply Exists.intro; refine ⟨?_, ?_⟩; ((try simp only); (try simp only [Nat.zero_add]); (try simp only [Nat.mul_one]); (try simp only [Int.toNat_natCast]); exact cut_rest (by omega)))); conv => whnf))
    rw [htk]
    rfl

def orcP7 (f : Nat) (ds : List LV) : Option LRes :=
  match f with
  | 55 => match ds with
    | [.im 1 n _ _] => some (ret1 (iv .i64 (IntKind.i64.wrap (15 - (n : Int)))))
    | _ => none
  | 25 => match ds with
    | [.v (.int .i64 x)] => some (ret1 (iv .i64 (IntKind.i64.wrap ((IntKind.i64.wrap (IntKind.i64.wrap (x + 16) - 1)).tdiv 16))))
    | _ => none
  | 47 => match ds with
    | [.v (.int .i64 n), .v (.int .i64 (.ofNat m))] => if 0 < m ∧ m ≤ 8 then some (LRes.one (.own 1 m 5 (.flat .u8 (nbP n m)))) else none
    | _ => none
  | 26 => match ds with
    | [.im 1 3 _ (.gen [.im 1 n1 _ (.flat .u8 l1), .im 1 n2 _ (.flat .u8 l2), .im 1 n3 _ (.flat .u8 l3)])] => if l1.length = n1 ∧ l2.length = n2 ∧ l3.length = n3 ∧ n1 ≤ 100000 ∧ n2 ≤ 100000 ∧ n3 ≤ 100000 then some (LRes.one (.own 1 (n1 + n2 + n3) 5 (.flat .u8 (l1 ++ l2 ++ l3)))) else none
    | [.im 1 2 _ (.gen [.im 1 n1 _ (.flat .u8 l1), .im 1 n2 _ (.flat .u8 l2)])] => if l1.length = n1 ∧ l2.length = n2 ∧ n1 ≤ 100000 ∧ n2 ≤ 100000 then some (LRes.one (.own 1 (n1 + n2) 5 (.flat .u8 (l1 ++ l2)))) else none
    | _ => none
  | 54 => match ds with
    | [.im 1 n _ (.flat .u8 l)] => if l.length = n ∧ byteOk l = true ∧ n ≤ 10000000 then some (LRes.one (.own 1 n 5 (.flat .u8 l))) else none
    | _ => none
  | _ => orcK f ds
theorem orcP7_ok : Known Try.prog orcP7 := by
  intro f ds r h
  unfold orcP7 at h
  split at h
  · split at h
    · cases h
      exact ⟨⟨_, Try.func55, name_ne _ (by kernel_rfl), rfl⟩, execF_ok follows_ok EM_ok Try.func55 (proom_exec _ _ _)⟩
    · cases h
  · split at h
    · cases h
      exact ⟨⟨_, Try.func25, name_ne _ (by kernel_rfl), rfl⟩, execF_ok follows_ok EM_ok Try.func25 (pblocks_exec _)⟩
    · cases h
  · split at h
    · split at h
      · rename_i hc
        cases h
        exact ⟨⟨_, Try.func47, name_ne _ (by kernel_rfl), rfl⟩, execF_ok follows_ok EM_ok Try.func47 (pnumber_exec _ _ hc)⟩
      · cases h
    · cases h
  · split at h
    · split at h
      · rename_i hc
        cases h
        exact ⟨⟨_, Try.func26, name_ne _ (by kernel_rfl), rfl⟩, execF_ok follows_ok EG_ok Try.func26 (concat3_exec _ _ _ _ _ _ _ _ _ _ hc.1 hc.2.1 hc.2.2.1 hc.2.2.2.1 hc.2.2.2.2.1 hc.2.2.2.2.2)⟩
      · cases h
    · split at h
      · rename_i hc
        cases h
        exact ⟨⟨_, Try.func26, name_ne _ (by kernel_rfl), rfl⟩, execF_ok follows_ok EG_ok Try.func26 (concat2_exec _ _ _ _ _ _ _ hc.1 hc.2.1 hc.2.2.1 hc.2.2.2)⟩
      · cases h
    · cases h
  · split at h
    · split at h
      · rename_i hc
        cases h
        exact ⟨⟨_, Try.func54, name_ne _ (by kernel_rfl), rfl⟩, clone_call _ _ _ hc.1 (byteAll hc.2.1) hc.2.2⟩
      · cases h
    · cases h
  · exact orcK_ok f ds r h
def EP7 : Env := ⟨tyL, orcP7, false, noWk, noOrw⟩
theorem EP7_ok : EnvOk Try.prog EP7 := ⟨tyL_ok, orcP7_ok, noOrw_ok⟩
theorem aNum (n x : Int) (m : Nat) (hx : x = (m : Nat)) (hm : 0 < m ∧ m ≤ 8) : EP7.orc 47 [.v (.int .i64 n), .v (.int .i64 x)] = some (LRes.one (.own 1 m 5 (.flat .u8 (nbP n m)))) := by
  subst hx
  exact if_pos hm
theorem aCat3 (n1 n2 n3 : Nat) (c c1 c2 c3 : Option Nat) (l1 l2 l3 : List Int) (h1 : l1.length = n1) (h2 : l2.length = n2) (h3 : l3.length = n3) (m1 : n1 ≤ 100000) (m2 : n2 ≤ 100000) (m3 : n3 ≤ 100000) :
    EP7.orc 26 [.im 1 3 c (.gen [.im 1 n1 c1 (.flat .u8 l1), .im 1 n2 c2 (.flat .u8 l2), .im 1 n3 c3 (.flat .u8 l3)])] = some (LRes.one (.own 1 (n1 + n2 + n3) 5 (.flat .u8 (l1 ++ l2 ++ l3)))) := if_pos ⟨h1, h2, h3, m1, m2, m3⟩
theorem aCat2 (n1 n2 : Nat) (c c1 c2 : Option Nat) (l1 l2 : List Int) (h1 : l1.length = n1) (h2 : l2.length = n2) (m1 : n1 ≤ 100000) (m2 : n2 ≤ 100000) :
    EP7.orc 26 [.im 1 2 c (.gen [.im 1 n1 c1 (.flat .u8 l1), .im 1 n2 c2 (.flat .u8 l2)])] = some (LRes.one (.own 1 (n1 + n2) 5 (.flat .u8 (l1 ++ l2)))) := if_pos ⟨h1, h2, m1, m2⟩
theorem aClone (n : Nat) (c : Option Nat) (l : List Int) (h1 : l.length = n) (h2 : By l) (h3 : n ≤ 10000000) : EP7.orc 54 [.im 1 n c (.flat .u8 l)] = some (LRes.one (.own 1 n 5 (.flat .u8 l))) := if_pos ⟨h1, h2.ok, h3⟩
theorem aEnc (c c2 : Option Nat) (k b : List Int) (h1 : k.length = 16) (h2 : b.length = 16) (h3 : By k) (h4 : By b) : EP7.orc 24 [.im 1 16 c (.flat .u8 k), .im 1 16 c2 (.flat .u8 b)] = some (ret2 (.own 1 16 54 (.flat .u8 (encS k b 10))) 0) := by
  have h : EP7.orc 24 [.im 1 16 c (.flat .u8 k), .im 1 16 c2 (.flat .u8 b)] = some (encR 54 k b) := if_pos ⟨h1, h2, h3.ok, h4.ok⟩
  rw [h, encR, if_pos ⟨h1, h2⟩]

/-- A slice of slices, shown to a callee. -/
theorem expo_l3 {β : Nat → Option Blk} {D z b off n : Nat} {c : Option Nat} {kb : Blk} {u1 u2 u3 v1 v2 v3 : LV} (hb : β b = some kb) (hc : kb.x.cut off (n * z) = some (.gen [u1, u2, u3])) (e1 : expo β D u1 = some v1) (e2 : expo β D u2 = some v2) (e3 : expo β D u3 = some v3) :
    expo β (D + 1) (.sl z b off n c) = some (.im z n c (.gen [v1, v2, v3])) := by
  simp only [expo, hb, hc, optMap, e1, e2, e3, Option.map_some]
theorem expo_l2 {β : Nat → Option Blk} {D z b off n : Nat} {c : Option Nat} {kb : Blk} {u1 u2 v1 v2 : LV} (hb : β b = some kb) (hc : kb.x.cut off (n * z) = some (.gen [u1, u2])) (e1 : expo β D u1 = some v1) (e2 : expo β D u2 = some v2) :
    expo β (D + 1) (.sl z b off n c) = some (.im z n c (.gen [v1, v2])) := by
  simp only [expo, hb, hc, optMap, e1, e2, Option.map_some]
theorem expo_im (β : Nat → Option Blk) (D z n : Nat) (c : Option Nat) (x : Cont) : expo β D (.im z n c x) = some (.im z n c x) := by
  cases D <;> rfl
theorem expo_sl5 {β : Nat → Option Blk} {z b off n : Nat} {c : Option Nat} {kb : Blk} {k : IntKind} {l : List Int} (hb : β b = some kb) (hc : kb.x.cut off (n * z) = some (.flat k l)) : expo β 5 (.sl z b off n c) = some (.im z n c (.flat k l)) := expo_sl (D := 4) hb hc

set_option maxRecDepth 100000 in
set_option maxHeartbeats 1600000 in
theorem pblock_exec (f : Int) (N : Nat) (c : Option Nat) (nonce : List Int) (n : Int) (hN : nonce.length = N) (h7 : 7 ≤ N ∧ N ≤ 13) :
    execF EP7 Try.f45 [iv .u8 (IntKind.u8.wrap f), .im 1 N c (.flat .u8 nonce), iv .i64 n] (.one (.own 1 16 5 (.flat .u8 (ctr f nonce n)))) := by
  have er : IntKind.i64.wrap (15 - (N : Int)) = ((15 - N : Nat) : Int) := by rw [wrap64 (by omega)]; omega
  have oN := aNum n _ (15 - N) er (by omega)
  have hl := nbP_len n (15 - N)
  have hc : ctr f nonce n = [IntKind.u8.wrap f] ++ nonce ++ nbP n (15 - N) := by
    rw [ctr, nbP, hN]
    have : ∀ j, 15 - N - 1 - j = 14 - N - j := fun j => by omega
    simp only [this]
    rfl
  have oC := fun c c1 c2 c3 => aCat3 1 N (15 - N) c c1 c2 c3 [IntKind.u8.wrap f] nonce (nbP n (15 - N)) rfl hN hl (by omega) (by omega) (by omega)
  rw [← hc, show 1 + N + (15 - N) = 16 by omega] at oC
  have hCl := ctr_len (first := f) (n := n) (nonce := nonce) (by omega)
  clear hc
  obtain ⟨C, hC⟩ : ∃ C, C = ctr f nonce n := ⟨_, rfl⟩
  rw [← hC] at oC hCl ⊢
  have hcN : (Cont.flat .u8 (nbP n (15 - N))).cut 0 ((15 - N) * 1) = some (.flat .u8 (nbP n (15 - N))) := cut_all (by omega)
  have htk : C.take (16 * 1) = C := List.take_of_length_le (by omega)
  ((conv => whnf); repeat ((first | refine ⟨_, oN, ?_⟩ | refine ⟨_, oC _ _ _ _, ?_⟩ | refine ⟨_, expo_l3 rfl rfl (expo_sl5 rfl rfl) (expo_im _ _ _ _ _ _) (expo_sl5 rfl hcN), ?_⟩ | refine ⟨_, rfl, ?_⟩ | refine ⟨by decide, ?_⟩ | refine ⟨rfl, ?_⟩ | refine ⟨fun _ => ?_, fun h => absurd h (by decide)⟩ | refine ⟨fun h => absurd h (by decide), fun _ => ?_⟩ | refine ⟨inI_of (by omega), ?_⟩ | refine ⟨⟨rfl, inI_of (by omega)⟩, ?_⟩ | refine ⟨⟨rfl, by decide⟩, ?_⟩ | (apply Exists.intro; refine ⟨?_, ?_⟩; ((try simp only); (try simp only [Nat.zero_add]); (try simp only [Nat.mul_one]); (try simp only [Int.toNat_natCast]); exact at_g (by omega))) | (apply Exists.intro; refine ⟨?_, ?_⟩; ((try simp only); (try simp only [Nat.zero_add]); (try simp only [Nat.mul_one]); (try simp only [Int.toNat_natCast]); exact put_flat (by omega))) | refine ⟨_, cut_all (by omega), ?_⟩ | refine ⟨_, lay_all (by omega) (by omega), ?_⟩ | refine ⟨_, lay_all (by (try simp only); (try simp only [List.length_replicate]); (try simp only [List.length_cons]); (try simp only [List.length_nil]); omega) (by omega), ?_⟩ | refine ⟨by omega, ?_⟩ | refine ⟨len_flat (by omega), ?_⟩ | refine ⟨apart_uv _ _ _, ?_⟩ | refine ⟨_, resSlot_own rfl (by omega) (by first | exact .inl rfl | exact .inr ⟨rfl, rfl⟩), ?_⟩ | refine ⟨(by kernel_rfl : regB _ = true), ?_⟩ | refine ⟨⟨rfl, inI_of (by omega), by decide⟩, ?_⟩ | (apply Exists.intro; refine ⟨?_, ?_⟩; ((try simp only); (try simp only [Nat.zero_add]); (try simp only [Nat.mul_one]); (try simp only [Int.toNat_natCast]); exact at_drop_g (by omega))) | (apply Exists.intro; refine ⟨?_, ?_⟩; ((try simp only); (try simp only [Nat.zero_add]); (try simp only [Nat.mul_one]); (try simp only [Int.toNat_natCast]); exact cut_rest (by omega)))); conv => whnf))
  rw [htk]
  rfl
/-! the first byte -/
set_option maxRecDepth 100000 in
set_option maxHeartbeats 1600000 in
theorem pflags_exec (N A : Nat) (c c2 : Option Nat) (x y : Cont) (tag : Int) (h7 : 7 ≤ N ∧ N ≤ 13) (ht : 4 ≤ tag ∧ tag ≤ 16) :
    execF EP7 Try.f46 [.im 1 N c x, .im 1 A c2 y, iv .i64 tag] (ret1 (iv .u8 (IntKind.u8.wrap (firP tag N A)))) := by
  have e1 : IntKind.i64.wrap (IntKind.i64.wrap (IntKind.i64.wrap (8 * IntKind.i64.wrap (IntKind.i64.wrap (tag.tdiv 2) - 1)) + IntKind.i64.wrap (15 - (N : Int))) - 1) = 8 * (tag / 2 - 1) + 14 - N := by
    rw [Int.tdiv_eq_ediv_of_nonneg (by omega), wrap64 (x := tag / 2) (by omega), wrap64 (x := tag / 2 - 1) (by omega), wrap64 (x := 8 * (tag / 2 - 1)) (by omega), wrap64 (x := 15 - (N : Int)) (by omega), wrap64 (x := 8 * (tag / 2 - 1) + (15 - (N : Int))) (by omega), wrap64 (by omega)]
    omega
  by_cases h0 : A = 0
  · have q : decide ((A : Int) > 0) = false := by simp; omega
    have e2 : firP tag N A = IntKind.i64.wrap (IntKind.i64.wrap (IntKind.i64.wrap (8 * IntKind.i64.wrap (IntKind.i64.wrap (tag.tdiv 2) - 1)) + IntKind.i64.wrap (15 - (N : Int))) - 1) := by
      rw [e1, firP, if_pos h0]; omega
    ((conv => whnf); repeat ((first | refine ⟨fun _ => ?_, fun h => absurd ((q).symm.trans h) (by decide)⟩ | refine ⟨fun h => absurd ((q).symm.trans h) (by decide), fun _ => ?_⟩ | refine ⟨_, rfl, ?_⟩ | refine ⟨by decide, ?_⟩ | refine ⟨rfl, ?_⟩ | refine ⟨fun _ => ?_, fun h => absurd h (by decide)⟩ | refine ⟨fun h => absurd h (by decide), fun _ => ?_⟩ | refine ⟨inI_of (by omega), ?_⟩ | refine ⟨⟨rfl, inI_of (by omega)⟩, ?_⟩ | refine ⟨⟨rfl, by decide⟩, ?_⟩ | (apply Exists.intro; refine ⟨?_, ?_⟩; ((try simp only); (try simp only [Nat.zero_add]); (try simp only [Nat.mul_one]); (try simp only [Int.toNat_natCast]); exact at_g (by omega))) | (apply Exists.intro; refine ⟨?_, ?_⟩; ((try simp only); (try simp only [Nat.zero_add]); (try simp only [Nat.mul_one]); (try simp only [Int.toNat_natCast]); exact put_flat (by omega))) | refine ⟨_, cut_all (by omega), ?_⟩ | refine ⟨_, lay_all (by omega) (by omega), ?_⟩ | refine ⟨_, lay_all (by (try simp only); (try simp only [List.length_replicate]); (try simp only [List.length_cons]); (try simp only [List.length_nil]); omega) (by omega), ?_⟩ | refine ⟨by omega, ?_⟩ | refine ⟨len_flat (by omega), ?_⟩ | refine ⟨apart_uv _ _ _, ?_⟩ | refine ⟨_, resSlot_own rfl (by omega) (by first | exact .inl rfl | exact .inr ⟨rfl, rfl⟩), ?_⟩ | refine ⟨(by kernel_rfl : regB _ = true), ?_⟩ | refine ⟨⟨rfl, inI_of (by omega), by decide⟩, ?_⟩ | (apply Exists.intro; refine ⟨?_, ?_⟩; ((try simp only); (try simp only [Nat.zero_add]); (try simp only [Nat.mul_one]); (try simp only [Int.toNat_natCast]); exact at_drop_g (by omega))) | (apply Exists.intro; refine ⟨?_, ?_⟩; ((try simp only); (try simp only [Nat.zero_add]); (try simp only [Nat.mul_one]); (try simp only [Int.toNat_natCast]); exact cut_rest (by omega)))); conv => whnf))
    rw [e2]
    rfl
  · have q : decide ((A : Int) > 0) = true := by simp; omega
    have e2 : firP tag N A = IntKind.i64.wrap (IntKind.i64.wrap (IntKind.i64.wrap (IntKind.i64.wrap (8 * IntKind.i64.wrap (IntKind.i64.wrap (tag.tdiv 2) - 1)) + IntKind.i64.wrap (15 - (N : Int))) - 1) + 64) := by
      rw [e1, firP, if_neg h0, wrap64 (by omega)]
    ((conv => whnf); repeat ((first | refine ⟨fun _ => ?_, fun h => absurd ((q).symm.trans h) (by decide)⟩ | refine ⟨fun h => absurd ((q).symm.trans h) (by decide), fun _ => ?_⟩ | refine ⟨_, rfl, ?_⟩ | refine ⟨by decide, ?_⟩ | refine ⟨rfl, ?_⟩ | refine ⟨fun _ => ?_, fun h => absurd h (by decide)⟩ | refine ⟨fun h => absurd h (by decide), fun _ => ?_⟩ | refine ⟨inI_of (by omega), ?_⟩ | refine ⟨⟨rfl, inI_of (by omega)⟩, ?_⟩ | refine ⟨⟨rfl, by decide⟩, ?_⟩ | (apply Exists.intro; refine ⟨?_, ?_⟩; ((try simp only); (try simp only [Nat.zero_add]); (try simp only [Nat.mul_one]); (try simp only [Int.toNat_natCast]); exact at_g (by omega))) | (apply Exists.intro; refine ⟨?_, ?_⟩; ((try simp only); (try simp only [Nat.zero_add]); (try simp only [Nat.mul_one]); (try simp only [Int.toNat_natCast]); exact put_flat (by omega))) | refine ⟨_, cut_all (by omega), ?_⟩ | refine ⟨_, lay_all (by omega) (by omega), ?_⟩ | refine ⟨_, lay_all (by (try simp only); (try simp only [List.length_replicate]); (try simp only [List.length_cons]); (try simp only [List.length_nil]); omega) (by omega), ?_⟩ | refine ⟨by omega, ?_⟩ | refine ⟨len_flat (by omega), ?_⟩ | refine ⟨apart_uv _ _ _, ?_⟩ | refine ⟨_, resSlot_own rfl (by omega) (by first | exact .inl rfl | exact .inr ⟨rfl, rfl⟩), ?_⟩ | refine ⟨(by kernel_rfl : regB _ = true), ?_⟩ | refine ⟨⟨rfl, inI_of (by omega), by decide⟩, ?_⟩ | (apply Exists.intro; refine ⟨?_, ?_⟩; ((try simp only); (try simp only [Nat.zero_add]); (try simp only [Nat.mul_one]); (try simp only [Int.toNat_natCast]); exact at_drop_g (by omega))) | (apply Exists.intro; refine ⟨?_, ?_⟩; ((try simp only); (try simp only [Nat.zero_add]); (try simp only [Nat.mul_one]); (try simp only [Int.toNat_natCast]); exact cut_rest (by omega)))); conv => whnf))
    rw [e2]
    rfl
/-! bytes xored with others, as far as both reach -/
def pluF (a b : List Int) (i : Nat) : Int := x8 (g a i) (g b i)
def pluP (a b : List Int) : List Int := upd (pluF a b) a (min a.length b.length)
theorem pluP_len (a b : List Int) : (pluP a b).length = a.length := upd_len _ _ _
theorem pluP_by {a b : List Int} (ha : By a) (hb : By b) : By (pluP a b) := ha.upd fun _ _ => x8_byte (ha.g _) (hb.g _)
set_option maxRecDepth 100000 in
set_option maxHeartbeats 1600000 in
theorem pplus_exec (n m : Nat) (c c2 : Option Nat) (a b : List Int) (hn : a.length = n) (hm : b.length = m) (ha : By a) (_ : By b) (hn0 : n ≤ 100000) (hm0 : m ≤ 100000) :
    execF EP7 Try.f40 [.im 1 n c (.flat .u8 a), .im 1 m c2 (.flat .u8 b)] (.one (.own 1 n 5 (.flat .u8 (pluP a b)))) := by
  have oC := fun c => aClone n c a hn ha (by omega)
  have hq : pluP a b = upd (pluF a b) a (min n m) := by rw [pluP, hn, hm]
  have emin : (if (m : Int) < (n : Int) then (m : Int) else (n : Int)) = ((min n m : Nat) : Int) := by split <;> omega
  ((conv => whnf); repeat ((first | refine ⟨_, oC _, ?_⟩ | refine ⟨_, rfl, ?_⟩ | refine ⟨by decide, ?_⟩ | refine ⟨rfl, ?_⟩ | refine ⟨fun _ => ?_, fun h => absurd h (by decide)⟩ | refine ⟨fun h => absurd h (by decide), fun _ => ?_⟩ | refine ⟨inI_of (by omega), ?_⟩ | refine ⟨⟨rfl, inI_of (by omega)⟩, ?_⟩ | refine ⟨⟨rfl, by decide⟩, ?_⟩ | (apply Exists.intro; refine ⟨?_, ?_⟩; ((try simp only); (try simp only [Nat.zero_add]); (try simp only [Nat.mul_one]); (try simp only [Int.toNat_natCast]); exact at_g (by omega))) | (apply Exists.intro; refine ⟨?_, ?_⟩; ((try simp only); (try simp only [Nat.zero_add]); (try simp only [Nat.mul_one]); (try simp only [Int.toNat_natCast]); exact put_flat (by omega))) | refine ⟨_, cut_all (by omega), ?_⟩ | refine ⟨_, lay_all (by omega) (by omega), ?_⟩ | refine ⟨_, lay_all (by (try simp only); (try simp only [List.length_replicate]); (try simp only [List.length_cons]); (try simp only [List.length_nil]); omega) (by omega), ?_⟩ | refine ⟨by omega, ?_⟩ | refine ⟨len_flat (by omega), ?_⟩ | refine ⟨apart_uv _ _ _, ?_⟩ | refine ⟨_, resSlot_own rfl (by omega) (by first | exact .inl rfl | exact .inr ⟨rfl, rfl⟩), ?_⟩ | refine ⟨(by kernel_rfl : regB _ = true), ?_⟩ | refine ⟨⟨rfl, inI_of (by omega), by decide⟩, ?_⟩ | (apply Exists.intro; refine ⟨?_, ?_⟩; ((try simp only); (try simp only [Nat.zero_add]); (try simp only [Nat.mul_one]); (try simp only [Int.toNat_natCast]); exact at_drop_g (by omega))) | (apply Exists.intro; refine ⟨?_, ?_⟩; ((try simp only); (try simp only [Nat.zero_add]); (try simp only [Nat.mul_one]); (try simp only [Int.toNat_natCast]); exact cut_rest (by omega)))); conv => whnf))
  refine .inl ⟨fun q st => ∃ k : Nat, q = min n m - k ∧ k ≤ min n m ∧ st = ⟨[.im 1 n c (.flat .u8 a), .im 1 m c2 (.flat .u8 b), .poison, .poison, .poison, .sl 1 64 0 n none, .poison, .poison, .poison, .poison, .poison, .poison, .poison, iv .i64 (min n m : Nat), iv .i64 k, .poison, .poison, .poison, .poison, .poison, .poison, .poison, .poison, .poison, .poison, .poison, .poison, .poison, .poison],
      [(64, ⟨.flat .u8 (upd (pluF a b) a k), 5, true⟩)]⟩, ⟨[2, 3, 4, 6, 7, 8, 9, 10, 11, 12, 15, 16, 17, 18, 19, 20, 21, 22, 23, 24, 25, 26, 27, 28], [], min n m, 0, rfl, by omega, by rw [upd_zero, ← emin]; kernel_rfl⟩, ?_⟩
  rintro _ _ ⟨k, rfl, hk, rfl⟩
  have hl : (upd (pluF a b) a k).length = n := by rw [upd_len, hn]
  conv => whnf
  refine ⟨fun h => ?_, fun h => ?_⟩
  · have h := of_decide_eq_true h
    have hkn : k < n := by omega
    have hkm : k < m := by omega
    ((conv => whnf); repeat ((first | refine ⟨_, rfl, ?_⟩ | refine ⟨by decide, ?_⟩ | refine ⟨rfl, ?_⟩ | refine ⟨fun _ => ?_, fun h => absurd h (by decide)⟩ | refine ⟨fun h => absurd h (by decide), fun _ => ?_⟩ | refine ⟨inI_of (by omega), ?_⟩ | refine ⟨⟨rfl, inI_of (by omega)⟩, ?_⟩ | refine ⟨⟨rfl, by decide⟩, ?_⟩ | (apply Exists.intro; refine ⟨?_, ?_⟩; ((try simp only); (try simp only [Nat.zero_add]); (try simp only [Nat.mul_one]); (try simp only [Int.toNat_natCast]); exact at_g (by omega))) | (apply Exists.intro; refine ⟨?_, ?_⟩; ((try simp only); (try simp only [Nat.zero_add]); (try simp only [Nat.mul_one]); (try simp only [Int.toNat_natCast]); exact put_flat (by omega))) | refine ⟨_, cut_all (by omega), ?_⟩ | refine ⟨_, lay_all (by omega) (by omega), ?_⟩ | refine ⟨_, lay_all (by (try simp only); (try simp only [List.length_replicate]); (try simp only [List.length_cons]); (try simp only [List.length_nil]); omega) (by omega), ?_⟩ | refine ⟨by omega, ?_⟩ | refine ⟨len_flat (by omega), ?_⟩ | refine ⟨apart_uv _ _ _, ?_⟩ | refine ⟨_, resSlot_own rfl (by omega) (by first | exact .inl rfl | exact .inr ⟨rfl, rfl⟩), ?_⟩ | refine ⟨(by kernel_rfl : regB _ = true), ?_⟩ | refine ⟨⟨rfl, inI_of (by omega), by decide⟩, ?_⟩ | (apply Exists.intro; refine ⟨?_, ?_⟩; ((try simp only); (try simp only [Nat.zero_add]); (try simp only [Nat.mul_one]); (try simp only [Int.toNat_natCast]); exact at_drop_g (by omega))) | (apply Exists.intro; refine ⟨?_, ?_⟩; ((try simp only); (try simp only [Nat.zero_add]); (try simp only [Nat.mul_one]); (try simp only [Int.toNat_natCast]); exact cut_rest (by omega)))); conv => whnf))
    have e1 : IntKind.i64.wrap ((k : Int) + 1) = ((k + 1 : Nat) : Int) := by rw [wrap64 (by omega)]; omega
    have e2 := upd_set (pluF a b) a (i := k) (by omega)
    have e4 : g (upd (pluF a b) a k) k = g a k := by rw [g_upd (by omega), if_neg (by omega)]
    have e5 : pluF a b k = x8 (g (upd (pluF a b) a k) k) (g b k) := by rw [e4, pluF]
    refine ⟨[2, 3, 4, 6, 7, 8, 9, 10, 11, 12, 15, 16, 17, 18, 19, 20, 21, 22, 23, 24, 25, 26, 27, 28], [], min n m - (k + 1), ?_, k + 1, rfl, by omega, ?_⟩
    · omega
    · rw [← e1, ← e2, e5]
      kernel_rfl
  · have h := of_decide_eq_false h
    have hk' : k = min n m := by omega
    have htk : (upd (pluF a b) a k).take (n * 1) = pluP a b := by rw [List.take_of_length_le (by omega), hq, hk']
    ((conv => whnf); repeat ((first | refine ⟨_, rfl, ?_⟩ | refine ⟨by decide, ?_⟩ | refine ⟨rfl, ?_⟩ | refine ⟨fun _ => ?_, fun h => absurd h (by decide)⟩ | refine ⟨fun h => absurd h (by decide), fun _ => ?_⟩ | refine ⟨inI_of (by omega), ?_⟩ | refine ⟨⟨rfl, inI_of (by omega)⟩, ?_⟩ | refine ⟨⟨rfl, by decide⟩, ?_⟩ | (apply Exists.intro; refine ⟨?_, ?_⟩; ((try simp only); (try simp only [Nat.zero_add]); (try simp only [Nat.mul_one]); (try simp only [Int.toNat_natCast]); exact at_g (by omega))) | (apply Exists.intro; refine ⟨?_, ?_⟩; ((try simp only); (try simp only [Nat.zero_add]); (try simp only [Nat.mul_one]); (try simp only [Int.toNat_natCast]); exact put_flat (by omega))) | refine ⟨_, cut_all (by omega), ?_⟩ | refine ⟨_, lay_all (by omega) (by omega), ?_⟩ | refine ⟨_, lay_all (by (try simp only); (try simp only [List.length_replicate]); (try simp only [List.length_cons]); (try simp only [List.length_nil]); omega) (by omega), ?_⟩ | refine ⟨by omega, ?_⟩ | refine ⟨len_flat (by omega), ?_⟩ | refine ⟨apart_uv _ _ _, ?_⟩ | refine ⟨_, resSlot_own rfl (by omega) (by first | exact .inl rfl | exact .inr ⟨rfl, rfl⟩), ?_⟩ | refine ⟨(by kernel_rfl : regB _ = true), ?_⟩ | refine ⟨⟨rfl, inI_of (by omega), by decide⟩, ?_⟩ | (apply Exists.intro; refine ⟨?_, ?_⟩; ((try simp only); (try simp only [Nat.zero_add]); (try simp only [Nat.mul_one]); (try simp only [Int.toNat_natCast]); exact at_drop_g (by omega))) | (apply Exists.intro; refine ⟨?_, ?_⟩; ((try simp only); (try simp only [Nat.zero_add]); (try simp only [Nat.mul_one]); (try simp only [Int.toNat_natCast]); exact cut_rest (by omega)))); conv => whnf))
    rw [htk]
    rfl
set_option maxRecDepth 100000 in
set_option maxHeartbeats 1600000 in
theorem pencrypt_exec (c c2 : Option Nat) (k b : List Int) (h1 : k.length = 16) (h2 : b.length = 16) (h3 : By k) (h4 : By b) :
    execF EP7 Try.f44 [.im 1 16 c (.flat .u8 k), .im 1 16 c2 (.flat .u8 b)] (.one (.own 1 16 54 (.flat .u8 (encS k b 10)))) := by
  have oE := fun c c2 => aEnc c c2 k b h1 h2 h3 h4
  have hl := encS_len k b 10
  obtain ⟨R, hR⟩ : ∃ R, R = encS k b 10 := ⟨_, rfl⟩
  rw [← hR] at oE hl ⊢
  have htk : R.take (16 * 1) = R := List.take_of_length_le (by omega)
  ((conv => whnf); repeat ((first | refine ⟨_, oE _ _, ?_⟩ | refine ⟨_, rfl, ?_⟩ | refine ⟨by decide, ?_⟩ | refine ⟨rfl, ?_⟩ | refine ⟨fun _ => ?_, fun h => absurd h (by decide)⟩ | refine ⟨fun h => absurd h (by decide), fun _ => ?_⟩ | refine ⟨inI_of (by omega), ?_⟩ | refine ⟨⟨rfl, inI_of (by omega)⟩, ?_⟩ | refine ⟨⟨rfl, by decide⟩, ?_⟩ | (apply Exists.intro; refine ⟨?_, ?_⟩; ((try simp only); (try simp only [Nat.zero_add]); (try simp only [Nat.mul_one]); (try simp only [Int.toNat_natCast]); exact at_g (by omega))) | (apply Exists.intro; refine ⟨?_, ?_⟩; ((try simp only); (try simp only [Nat.zero_add]); (try simp only [Nat.mul_one]); (try simp only [Int.toNat_natCast]); exact put_flat (by omega))) | refine ⟨_, cut_all (by omega), ?_⟩ | refine ⟨_, lay_all (by omega) (by omega), ?_⟩ | refine ⟨_, lay_all (by (try simp only); (try simp only [List.length_replicate]); (try simp only [List.length_cons]); (try simp only [List.length_nil]); omega) (by omega), ?_⟩ | refine ⟨by omega, ?_⟩ | refine ⟨len_flat (by omega), ?_⟩ | refine ⟨apart_uv _ _ _, ?_⟩ | refine ⟨_, resSlot_own rfl (by omega) (by first | exact .inl rfl | exact .inr ⟨rfl, rfl⟩), ?_⟩ | refine ⟨(by kernel_rfl : regB _ = true), ?_⟩ | refine ⟨⟨rfl, inI_of (by omega), by decide⟩, ?_⟩ | (apply Exists.intro; refine ⟨?_, ?_⟩; ((try simp only); (try simp only [Nat.zero_add]); (try simp only [Nat.mul_one]); (try simp only [Int.toNat_natCast]); exact at_drop_g (by omega))) | (apply Exists.intro; refine ⟨?_, ?_⟩; ((try simp only); (try simp only [Nat.zero_add]); (try simp only [Nat.mul_one]); (try simp only [Int.toNat_natCast]); exact cut_rest (by omega)))); conv => whnf))
  rw [htk]
  rfl
set_option maxRecDepth 100000 in
set_option maxHeartbeats 1600000 in
theorem pequal_exec (n m : Nat) (c c2 : Option Nat) (a b : List Int) (hn : a.length = n) (hm : b.length = m) (ha : By a) (hb : By b) :
    execF EP7 Try.f31 [.im 1 n c (.flat .u8 a), .im 1 m c2 (.flat .u8 b)] (ret1 (.v (.bool (a == b)))) := by
  have q := str_eql ha hb
  ((conv => whnf); repeat ((first | refine ⟨_, conv_im rfl rfl rfl hn ha, ?_⟩ | refine ⟨_, conv_im rfl rfl rfl hm hb, ?_⟩ | refine ⟨_, q, ?_⟩ | refine ⟨_, rfl, ?_⟩ | refine ⟨by decide, ?_⟩ | refine ⟨rfl, ?_⟩ | refine ⟨fun _ => ?_, fun h => absurd h (by decide)⟩ | refine ⟨fun h => absurd h (by decide), fun _ => ?_⟩ | refine ⟨inI_of (by omega), ?_⟩ | refine ⟨⟨rfl, inI_of (by omega)⟩, ?_⟩ | refine ⟨⟨rfl, by decide⟩, ?_⟩ | (apply Exists.intro; refine ⟨?_, ?_⟩; ((try simp only); (try simp only [Nat.zero_add]); (try simp only [Nat.mul_one]); (try simp only [Int.toNat_natCast]); exact at_g (by omega))) | (apply Exists.intro; refine ⟨?_, ?_⟩; ((try simp only); (try simp only [Nat.zero_add]); (try simp only [Nat.mul_one]); (try simp only [Int.toNat_natCast]); exact put_flat (by omega))) | refine ⟨_, cut_all (by omega), ?_⟩ | refine ⟨_, lay_all (by omega) (by omega), ?_⟩ | refine ⟨_, lay_all (by (try simp only); (try simp only [List.length_replicate]); (try simp only [List.length_cons]); (try simp only [List.length_nil]); omega) (by omega), ?_⟩ | refine ⟨by omega, ?_⟩ | refine ⟨len_flat (by omega), ?_⟩ | refine ⟨apart_uv _ _ _, ?_⟩ | refine ⟨_, resSlot_own rfl (by omega) (by first | exact .inl rfl | exact .inr ⟨rfl, rfl⟩), ?_⟩ | refine ⟨(by kernel_rfl : regB _ = true), ?_⟩ | refine ⟨⟨rfl, inI_of (by omega), by decide⟩, ?_⟩ | (apply Exists.intro; refine ⟨?_, ?_⟩; ((try simp only); (try simp only [Nat.zero_add]); (try simp only [Nat.mul_one]); (try simp only [Int.toNat_natCast]); exact at_drop_g (by omega))) | (apply Exists.intro; refine ⟨?_, ?_⟩; ((try simp only); (try simp only [Nat.zero_add]); (try simp only [Nat.mul_one]); (try simp only [Int.toNat_natCast]); exact cut_rest (by omega)))); conv => whnf))
  rfl
end Go.Proofs.Ytgkccfjjjamhoaa
