/-
  The machine of plain values, for proofs: more answers.
-/
import Derived.Test.YtcmceadekcfpbaaLst
namespace Go.Proofs.Ytcmceadekcfpbaa
open Go.RowKit

theorem tmod_nat (a b : Nat) : (a : Int).tmod b = ((a % b : Nat) : Int) := by
  rw [Int.tmod_eq_emod_of_nonneg (by omega)]; rfl
theorem g_append {a b : List Int} {i : Nat} : g (a ++ b) i = if i < a.length then g a i else g b (i - a.length) := by
  simp only [g, List.getD_eq_getElem?_getD]
  split
  · rename_i h; rw [List.getElem?_append_left h]
  · rename_i h; rw [List.getElem?_append_right (by omega)]
theorem g_take {l : List Int} {n i : Nat} (h : i < n) : g (l.take n) i = g l i := by
  simp only [g, List.getD_eq_getElem?_getD, List.getElem?_take, if_pos h]
theorem take_g {l : List Int} {n : Nat} (h : n < l.length) : l.take n ++ [g l n] = l.take (n + 1) := by
  rw [List.take_add_one, g_lt h]; rfl
theorem append_grow {E : Env} {β : Nat → Option Blk} {d t e : Nat} {s : LV} {y : Cont} {b n cnt : Nat} {l m : List Int} {k : IntKind} {a1 a2 a4 by_ : Nat} {g1 g2 : Bool} {o1 : Option Cont} {dd : TD} {zc : Cont}
    (h1 : E.T t = some ⟨.slice e 1, a1, a2, g1, o1⟩) (h2 : E.T e = some ⟨dd, a4, by_, g2, some zc⟩) (hs : shown β 1 s = some (y, cnt)) (hy : y = .flat k m)
    (hb : β b = some ⟨.flat k l, e, true⟩) (hl : l.length = n) (hz : zc.len = 1) (hby : (n + cnt) * by_ ≤ 140737488355328) (hmx : n + cnt ≤ 9223372036854775807) :
    opAppend E β d t (.sl 1 b 0 n none) s = some ⟨some b, none, .sl 1 b 0 (n + cnt) none, [(b, ⟨.flat k (l ++ m), e, true⟩)]⟩ := by
  subst hy
  have hok : appOk 1 1 by_ (n + cnt) zc = true := by simp [appOk, hby, hmx, hz]
  have happ : (Cont.flat k l).app (.flat k m) = .flat k (l ++ m) := by simp [Cont.app]
  simp only [opAppend, h1, hs, Cont.leaves, if_true, appX, h2, hb, hok, Nat.mul_one, happ]
  simp [Cont.free, Cont.len, hl]
theorem expo_sl {β : Nat → Option Blk} {D z b off n : Nat} {c : Option Nat} {kb : Blk} {k : IntKind} {l : List Int} (hb : β b = some kb) (hc : kb.x.cut off (n * z) = some (.flat k l)) : expo β (D + 1) (.sl z b off n c) = some (.im z n c (.flat k l)) := by
  simp only [expo, hb, hc]
theorem slice_own {E : Env} {t e z b off n l m a1 a2 : Nat} {g1 : Bool} {o1 : Option Cont} {x lo hi : LV} (h1 : E.T t = some ⟨.slice e z, a1, a2, g1, o1⟩) (hx : x = .sl z b off n none) (hlo : lo = .v (.int .i64 (l : Int))) (hhi : hi = .v (.int .i64 ((l + m : Nat) : Int))) (hn : l + m ≤ n) :
    opSlice E t true true false x [lo, hi] = some (.sl z b (off + l * z) m none, []) := by
  subst hx hlo hhi
  have hb : bounds [(l : Int), ((l + m : Nat) : Int)] true true false n ((none : Option Nat).getD n) = some (l, l + m, n) := by
    unfold bounds
    rw [if_pos (by simp [lowI, highI, restI, maxI]; omega)]
    simp [lowI, highI, restI, maxI]
    omega
  have hp : optMap pickInt [.v (.int .i64 (l : Int)), .v (.int .i64 ((l + m : Nat) : Int))] = some [(l : Int), ((l + m : Nat) : Int)] := rfl
  simp only [opSlice, h1, hp, if_true, hb]
  simp
theorem append_nil {E : Env} {β : Nat → Option Blk} {d t e : Nat} {s : LV} {y : Cont} {cnt : Nat} {m : List Int} {k : IntKind} {a1 a2 a4 by_ : Nat} {g1 g2 : Bool} {o1 : Option Cont} {dd : TD} {zc : Cont}
    (h1 : E.T t = some ⟨.slice e 1, a1, a2, g1, o1⟩) (h2 : E.T e = some ⟨dd, a4, by_, g2, some zc⟩) (hs : shown β 1 s = some (y, cnt)) (hy : y = .flat k m) (hn : newB β d = none) (hz : zc.len = 1) (hby : cnt * by_ ≤ 140737488355328) (hmx : cnt ≤ 9223372036854775807) :
    opAppend E β d t (.v (.slice none 0 0)) s = some ⟨none, none, .sl 1 (8 * d) 0 cnt none, [(8 * d, ⟨.flat k m, e, true⟩)]⟩ := by
  subst hy
  have hok : appOk 1 1 by_ cnt zc = true := by simp [appOk, hby, hmx, hz]
  simp only [opAppend, h1, hs, Cont.leaves, if_true, appX, h2, hok, hn]
  simp
theorem shown_sl {β : Nat → Option Blk} {z b off n : Nat} {c : Option Nat} {kb : Blk} {y : Cont} (hb : β b = some kb) (hc : kb.x.cut off (n * z) = some y) : shown β z (.sl z b off n c) = some (y, n) := by
  simp only [shown, hb, hc, if_true]
  rfl
theorem map_succ (f : Nat → Int) (i : Nat) : (List.range (i + 1)).map f = (List.range i).map f ++ [f i] := by simp [List.range_succ]
theorem u64_nn (x : Int) : 0 ≤ IntKind.u64.wrap x := by
  simp [IntKind.wrap, IntKind.signed, IntKind.bits]
  omega
end Go.Proofs.Ytcmceadekcfpbaa
