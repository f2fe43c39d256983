/-
  The library's slices.Chunk over bytes, sixteen at a time, and its iterator.
-/
import Derived.RangeFuncNested
import Derived.RangeFuncBound
import Derived.RangeFuncCalls
import Derived.RangeFuncLeaves
import Derived.RangeFuncWrites
import Derived.Shelf.Abstract
import Derived.Shelf.RegionOpen
import Derived.WalkKit
import Derived.OwnWalkIn
import Derived.TacticsInMore
import Derived.LoopNIn
import Derived.LoopIn
import Derived.Sort.QuietIn
import Derived.Test.YtgkccfjjjamhoaaMP
import Derived.Test.YtgkccfjjjamhoaaTypes
namespace Go.Proofs.Ytgkccfjjjamhoaa
open Go.RowKit Go.Shelf

attribute [local go_sem] Oper.semAt_some

/-- What a round of the loop keeps: all that lies below n0, but block gx. -/
structure KpX (n0 gx : Nat) (W W' : World) : Prop where
  size : W.heap.size ≤ W'.heap.size
  same : ∀ g, g < n0 → g ≠ gx → W'.heap[g]? = W.heap[g]?
theorem KpX.refl (n0 gx : Nat) (W : World) : KpX n0 gx W W := ⟨Nat.le_refl _, fun _ _ _ => rfl⟩
theorem KpX.trans {n0 gx : Nat} {A B C : World} (h : KpX n0 gx A B) (k : KpX n0 gx B C) : KpX n0 gx A C := ⟨Nat.le_trans h.size k.size, fun g h1 h2 => (k.same g h1 h2).trans (h.same g h1 h2)⟩
theorem KpX.cell {n0 gx : Nat} {W W' : World} (h : KpX n0 gx W W') {g o : Nat} (h1 : g < n0) (h2 : g ≠ gx) : W'.cell? ⟨g, o, none⟩ = W.cell? ⟨g, o, none⟩ := World.cell?_of_block (h.same g h1 h2)

abbrev Ck (len : Nat) := { k : Nat // k < (len + 15) / 16 }
def ckN {len : Nat} (ys : List (Ck len)) : List Nat := ys.map Subtype.val
theorem ckN_len {len : Nat} (ys : List (Ck len)) : (ckN ys).length = ys.length := by simp [ckN]
theorem ckN_snoc {len : Nat} (ys : List (Ck len)) (x : Ck len) : ckN (ys ++ [x]) = ckN ys ++ [x.1] := by simp [ckN]
def ckV (b off len : Nat) (x : Ck len) : Array Value := #[.slice (some ⟨b, off + 16 * x.1, none⟩) (min 16 (len - 16 * x.1)) (min 16 (len - 16 * x.1))]

set_option maxRecDepth 100000 in
set_option maxHeartbeats 4000000 in
theorem chunk1_in (n : Nat) (hn : 1 ≤ n) (l gs gn n0 gx b off len cap : Nat) (a : Option Addr) (ha : 0 < len → a = some ⟨b, off, none⟩) (hcap : len ≤ cap) (hlen : len ≤ 1000000)
    (h1 : gs < n0 ∧ gs ≠ gx) (h2 : gn < n0 ∧ gn ≠ gx) (J Jx : List (Ck len) → World → Prop) (hJd : ∀ pre W m, J pre W → J pre (W.drewN m))
    (hY : ∀ pre x W, J pre W → pre.length < (len + 15) / 16 → YieldAt Fence.wide (n - 1) Try.prog l (ckV b off len x) W fun e W' =>
      (e = .returned (.bool true) ∧ J (pre ++ [x]) W' ∧ KpX n0 gx W W') ∨ (e = .returned (.bool false) ∧ Jx (pre ++ [x]) W'))
    (W : World) (hs : W.cell? ⟨gs, 0, none⟩ = some (.slice a len cap)) (hc : W.cell? ⟨gn, 0, none⟩ = some (.int .i64 16)) (h0 : J [] W) :
    CallsIn Fence.wide n Try.prog 56 #[.func (.yield l) #[] #[], .pointer (some ⟨gs, 0, none⟩), .pointer (some ⟨gn, 0, none⟩)] W fun e W' => (∃ v, e = .returned v) ∧
      ((∃ ys : List (Ck len), ckN ys = List.range ((len + 15) / 16) ∧ J ys W') ∨ (∃ pre, True ∧ Jx pre W')) := by
  refine callsIn_of_wp Try.func56 rfl trivial ?_ rfl
  simp only [Try.ntmps56, List.size_toArray, List.length_cons, List.length_nil, Nat.reduceAdd, Nat.reduceSub, Array.replicate_succ, Array.replicate_zero, List.push_toArray, List.append_toArray, List.nil_append, List.cons_append]
  gi_wp2
  gi_loopw [4] (fun i wr => ∃ (k : Nat) (ys : List (Ck len)), k ≤ (len + 15) / 16 ∧ i = .int .i64 (16 * k : Nat) ∧ ckN ys = List.range k ∧ J ys wr ∧ KpX n0 gx W wr)
    (fun i _ => len + 16 - (intOf i).toNat)
  case atStart => exact ⟨0, [], Nat.zero_le _, rfl, rfl, h0, KpX.refl _ _ _⟩
  case round =>
    obtain ⟨k, ys, hk, rfl, hys, hJ, hkp⟩ := hrel
    have hsx := (hkp.cell (o := 0) h1.1 h1.2).trans hs
    have hcx := (hkp.cell (o := 0) h2.1 h2.2).trans hc
    by_cases hlt : 16 * k < len
    · have hlt' : ((16 * k : Nat) : Int) < (len : Int) := by omega
      obtain rfl := ha (by omega)
      have hlen' : ys.length < (len + 15) / 16 := by have := congrArg List.length hys; rw [ckN_len, List.length_range] at this; omega
      gi_wp2
      gi_quiet (fail)
      obtain ⟨fn, tmps, assign, body, hy, hR⟩ := hY ys ⟨k, by omega⟩ (wr.drewN nq) (hJd _ _ _ hJ) hlen'
      simp only [ckV] at hy
      by_cases hq : ((len - 16 * k : Nat) : Int) < 16
      · have hm : min 16 (len - 16 * k) = len - 16 * k := by omega
        rw [hm] at hy
        simp only [hq, if_true]
        gi_wp2
        refine hR.mono ?_
        rintro e W3 (⟨rfl, hJ3, hk3⟩ | ⟨rfl, hJx3⟩)
        · have hcx3 := (hk3.cell (o := 0) h2.1 h2.2).trans hcx
          gi_wp2
          go_roundw
          case rel => exact ⟨k + 1, _, by omega, by simp; omega, by rw [ckN_snoc, hys, List.range_succ], hJ3, hkp.trans ⟨hk3.size, hk3.same⟩⟩
          case measure => simp [intOf]; omega
        · gi_wp2
          refine bodyPost_ret (results_none rfl _ _ _) rfl ?_
          exact ⟨⟨_, rfl⟩, .inr ⟨_, trivial, hJx3⟩⟩
      · have hm : min 16 (len - 16 * k) = 16 := by omega
        rw [hm] at hy
        simp only [hq, if_false]
        gi_wp2
        refine hR.mono ?_
        rintro e W3 (⟨rfl, hJ3, hk3⟩ | ⟨rfl, hJx3⟩)
        · have hcx3 := (hk3.cell (o := 0) h2.1 h2.2).trans hcx
          gi_wp2
          go_roundw
          case rel => exact ⟨k + 1, _, by omega, by simp; omega, by rw [ckN_snoc, hys, List.range_succ], hJ3, hkp.trans ⟨hk3.size, hk3.same⟩⟩
          case measure => simp [intOf]; omega
        · gi_wp2
          refine bodyPost_ret (results_none rfl _ _ _) rfl ?_
          exact ⟨⟨_, rfl⟩, .inr ⟨_, trivial, hJx3⟩⟩
    · have hlt' : ¬ ((16 * k : Nat) : Int) < (len : Int) := by omega
      gi_wp2
      go_end0
      exact ⟨⟨_, rfl⟩, .inl ⟨ys, by rw [hys]; congr 1; omega, hJ⟩⟩
end Go.Proofs.Ytgkccfjjjamhoaa
