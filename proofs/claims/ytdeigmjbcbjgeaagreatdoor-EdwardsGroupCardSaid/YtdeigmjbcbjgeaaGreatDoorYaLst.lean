/-
  Plain lists of numbers: changed place by place; blocks of sixteen; bytes.
-/
import Derived.Laws.BitsAllLaws
import Derived.Test.YtdeigmjbcbjgeaaGreatDoorYaMQ
namespace Go.Proofs.YtdeigmjbcbjgeaaGreatDoor
open Go.RowKit

theorem g_lt {l : List Int} {i : Nat} (h : i < l.length) : l[i]? = some (g l i) := by simp [g, List.getD_eq_getElem?_getD, h]
theorem ext_g {a b : List Int} (h : a.length = b.length) (hg : ∀ i, i < a.length → g a i = g b i) : a = b := by
  apply List.ext_getElem?
  intro i
  by_cases hi : i < a.length
  · rw [g_lt hi, g_lt (by omega), hg i hi]
  · rw [List.getElem?_eq_none (by omega), List.getElem?_eq_none (by omega)]
theorem g_map {f : Nat → Int} {n i : Nat} (h : i < n) : g ((List.range n).map f) i = f i := by simp [g, List.getD_eq_getElem?_getD, h]

/-- Below i as f says, from there on as l. -/
def upd (f : Nat → Int) (l : List Int) (i : Nat) : List Int := (List.range l.length).map fun j => if j < i then f j else g l j
theorem upd_len (f : Nat → Int) (l : List Int) (i : Nat) : (upd f l i).length = l.length := by simp [upd]
theorem g_upd {f : Nat → Int} {l : List Int} {i j : Nat} (h : j < l.length) : g (upd f l i) j = if j < i then f j else g l j := g_map h
theorem upd_zero (f : Nat → Int) (l : List Int) : upd f l 0 = l := ext_g (upd_len _ _ _) fun i hi => by rw [g_upd (by rwa [upd_len] at hi)]; simp
theorem upd_all (f : Nat → Int) (l : List Int) {n : Nat} (h : l.length = n) : upd f l n = (List.range n).map f := by
  subst h
  exact ext_g (by simp [upd]) fun i hi => by
    rw [upd_len] at hi
    rw [g_upd hi, if_pos hi, g_map hi]
theorem g_set {l : List Int} {i j : Nat} {x : Int} (h : i < l.length) : g (l.set i x) j = if j = i then x else g l j := by
  simp only [g, List.getD_eq_getElem?_getD, List.getElem?_set]
  by_cases e : i = j
  · subst e; simp [h]
  · rw [if_neg e, if_neg (fun h => e h.symm)]
theorem upd_set (f : Nat → Int) (l : List Int) {i : Nat} (h : i < l.length) : (upd f l i).set i (f i) = upd f l (i + 1) :=
  ext_g (by simp [upd]) fun j hj => by
    have hj' : j < l.length := by simpa [upd] using hj
    rw [g_set (by rw [upd_len]; exact h), g_upd hj', g_upd hj']
    by_cases e : j = i
    · subst e; simp
    · rw [if_neg e]
      by_cases h2 : j < i
      · rw [if_pos h2, if_pos (by omega)]
      · rw [if_neg h2, if_neg (by omega)]

/-! bytes -/
def By (l : List Int) : Prop := ∀ x ∈ l, 0 ≤ x ∧ x < 256
theorem By.g {l : List Int} (h : By l) (i : Nat) : 0 ≤ g l i ∧ g l i < 256 := by
  by_cases hi : i < l.length
  · exact h _ (List.mem_of_getElem? (g_lt hi))
  · simp [Go.Proofs.YtdeigmjbcbjgeaaGreatDoor.g, List.getD_eq_getElem?_getD, List.getElem?_eq_none (Nat.not_lt.1 hi)]
theorem By.map {f : Nat → Int} {n : Nat} (h : ∀ i, i < n → 0 ≤ f i ∧ f i < 256) : By ((List.range n).map f) := by
  intro x hx
  obtain ⟨i, hi, rfl⟩ := List.mem_map.1 hx
  exact h i (List.mem_range.1 hi)
theorem By.ok {l : List Int} (h : By l) : byteOk l = true := byteOk_iff.2 h
theorem By.append {a b : List Int} (ha : By a) (hb : By b) : By (a ++ b) := by
  intro x hx
  rcases List.mem_append.1 hx with h | h
  · exact ha x h
  · exact hb x h
end Go.Proofs.YtdeigmjbcbjgeaaGreatDoor

/-
  The machine of plain values, for proofs: more answers.
-/
namespace Go.Proofs.YtdeigmjbcbjgeaaGreatDoor
open Go.RowKit

theorem tmod_nat (a b : Nat) : (a : Int).tmod b = ((a % b : Nat) : Int) := by
  rw [Int.tmod_eq_emod_of_nonneg (by omega)]; rfl
theorem append_nil {E : Env} {β : Nat → Option Blk} {d t e : Nat} {s : LV} {y : Cont} {cnt : Nat} {m : List Int} {k : IntKind} {a1 a2 a4 by_ : Nat} {g1 g2 : Bool} {o1 : Option Cont} {dd : TD} {zc : Cont}
    (h1 : E.T t = some ⟨.slice e 1, a1, a2, g1, o1⟩) (h2 : E.T e = some ⟨dd, a4, by_, g2, some zc⟩) (hs : shown β 1 s = some (y, cnt)) (hy : y = .flat k m) (hn : newB β d = none) (hz : zc.len = 1) (hby : cnt * by_ ≤ 140737488355328) (hmx : cnt ≤ 9223372036854775807) :
    opAppend E β d t (.v (.slice none 0 0)) s = some ⟨none, none, .sl 1 (8 * d) 0 cnt none, [(8 * d, ⟨.flat k m, e, true⟩)]⟩ := by
  subst hy
  have hok : appOk 1 1 by_ cnt zc = true := by simp [appOk, hby, hmx, hz]
  simp only [opAppend, h1, hs, Cont.leaves, if_true, appX, h2, hok, hn]
  simp
theorem u64_nn (x : Int) : 0 ≤ IntKind.u64.wrap x := by
  simp [IntKind.wrap, IntKind.signed, IntKind.bits]
  omega
end Go.Proofs.YtdeigmjbcbjgeaaGreatDoor

/-
  The machine of plain values, for proofs: short names; appends; results that may be nil.
-/
namespace Go.Proofs.YtdeigmjbcbjgeaaGreatDoor
open Go.RowKit

abbrev iv (k : IntKind) (n : Int) : LV := .v (.int k n)
abbrev ret1 (u : LV) : LRes := .one (.val u)
abbrev nilV : LV := .v (.slice none 0 0)
theorem byteAll {l : List Int} (h : byteOk l = true) : By l := byteOk_iff.1 h
theorem lay_flat {k : IntKind} {l m : List Int} {o : Nat} (h : o + m.length ≤ l.length) (h2 : m.length ≠ 1) : layOne (.flat k l) o (.flat k m) = some (.flat k (l.take o ++ m ++ l.drop (o + m.length))) := by
  unfold layOne
  split
  · rename_i e; cases e; simp at h2
  · rename_i e; cases e
  · simp [Cont.lay, Cont.len, h]
theorem at_drop_g {k : IntKind} {l : List Int} {o : Nat} (h : o < l.length) : (Cont.flat k (l.drop o)).at? 0 = some (.v (.int k (g l o))) := at_drop (o := o) (i := 0) h
end Go.Proofs.YtdeigmjbcbjgeaaGreatDoor
