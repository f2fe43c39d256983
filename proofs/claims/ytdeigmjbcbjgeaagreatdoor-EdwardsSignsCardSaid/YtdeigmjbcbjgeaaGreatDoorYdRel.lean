/-
  A region that draws its order and whose operations make memory but write none that was there: EVERY ORDER AT ONCE, by what each operation's value is good for.
  V i v w: what is known of the value v of operation i in world w; it must outlast new blocks. Each operation is walked once, for any frame in which the operations that it waits for have such values.
-/
import Derived.RegionTactic
import Derived.Laws.BytesArg
import Derived.Test.YtdeigmjbcbjgeaaGreatDoorYdBase
namespace Go.Proofs.YtdeigmjbcbjgeaaGreatDoor
open Go.RowKit

/-- From w to w' there are at most new blocks. -/
def More (w w' : World) : Prop := Keeps (fun _ => False) w w'
theorem More.refl (w : World) : More w w := Keeps.refl _ w
theorem More.trans {a b c : World} (h : More a b) (k : More b c) : More a c := Keeps.trans h k

structure Held (ops : Array Oper) (a0 : Act) (w0 : World) (V : Nat → Value → World → Prop) (L : Nat → Prop) (a : Act) (w : World) : Prop where
  ext : More w0 w
  dfr : a.defers = a0.defers
  siz : a.tmps.size = a0.tmps.size
  oth : ∀ t : Nat, (∀ (i : Nat) (o : Oper), ops[i]? = some o → o.dst ≠ some t) → a.tmps[t]? = a0.tmps[t]?
  got : ∀ (i : Nat) (o : Oper) (d : Tmp), ops[i]? = some o → L i → o.dst = some d → V i (a.tmps.getD d undef) w

/-- Whether o waits for operation j. -/
def waits (o : Oper) (j : Nat) : Bool := o.after.toList.any fun e => Region.binds .any e && e.on == j
/-- No operation of the region leaves its value in slot t. -/
def untouched (ops : Array Oper) (t : Nat) : Bool := ops.toList.all fun o => o.dst != some t

def RelStep (P : Program) (ops : Array Oper) (Q : Exit → Act → World → Prop) (a0 : Act) (w0 : World) (V : Nat → Value → World → Prop) (i : Nat) (o : Oper) : Prop :=
  ∀ (a : Act) (w : World), Held ops a0 w0 V (fun j => waits o j = true) a w →
    (Region.wanted o (yielded ops a.tmps) = true ∧ o.wp P a w (fun a' w' => ∃ v, a' = a.put o.dst v ∧ More w w' ∧ V i v w') Q) ∨
    (Region.wanted o (yielded ops a.tmps) = false ∧ V i undef w)

theorem count_set_true : ∀ (l : List Bool) (i : Nat), l[i]? = some false → (l.set i true).count false + 1 = l.count false
  | [], _, h => by simp at h
  | b :: l, 0, h => by simp at h; subst h; simp
  | b :: l, i + 1, h => by
    have := count_set_true l i (by simpa using h)
    simp only [List.set_cons_succ, List.count_cons]
    omega

theorem put_tmps (a : Act) (d : Tmp) (v : Value) : (a.put (some d) v).tmps = a.tmps.setIfInBounds d v := rfl

theorem Held.put {ops : Array Oper} {a0 : Act} {w0 w w' : World} {V : Nat → Value → World → Prop} {L L' : Nat → Prop} {a : Act} {i : Nat} {o : Oper} {v : Value}
    (hst : ∀ i v w w', V i v w → More w w' → V i v w')
    (hdst : ∀ (i j : Nat) (oi oj : Oper) (d : Tmp), ops[i]? = some oi → ops[j]? = some oj → oi.dst = some d → oj.dst = some d → i = j)
    (hbd : ∀ (i : Nat) (o : Oper) (d : Tmp), ops[i]? = some o → o.dst = some d → d < a0.tmps.size)
    (h : Held ops a0 w0 V L a w) (ho : ops[i]? = some o) (hw : More w w') (hv : V i v w') (hL : ∀ j, L' j → L j ∨ j = i) : Held ops a0 w0 V L' (a.put o.dst v) w' := by
  rcases hd : o.dst with _ | d
  · refine ⟨h.ext.trans hw, h.dfr, h.siz, h.oth, fun j oj d hj hl hjd => ?_⟩
    rcases hL j hl with hl | rfl
    · exact hst _ _ _ _ (h.got j oj d hj hl hjd) hw
    · rw [hj] at ho; cases ho; rw [hd] at hjd; cases hjd
  · refine ⟨h.ext.trans hw, h.dfr, by rw [put_tmps]; simpa using h.siz, fun t ht => ?_, fun j oj d' hj hl hjd => ?_⟩
    · rw [put_tmps, Array.getElem?_setIfInBounds_ne (fun e => ht i o ho (by rw [hd, e]))]
      exact h.oth t ht
    · rw [put_tmps]
      by_cases hji : j = i
      · subst hji
        rw [hj] at ho; cases ho; rw [hd] at hjd; cases hjd
        have hb := hbd j o d hj hd
        rw [← h.siz] at hb
        simpa [hb] using hv
      · have hne : d ≠ d' := fun e => hji (hdst j i oj o d' hj ho hjd (by rw [hd, e]))
        rcases hL j hl with hl | e
        · have := hst _ _ _ _ (h.got j oj d' hj hl hjd) hw
          simpa [Array.getElem?_setIfInBounds_ne hne] using this
        · exact absurd e hji

/-- The steps, one after the other. -/
def RelSteps (P : Program) (ops : Array Oper) (Q : Exit → Act → World → Prop) (a0 : Act) (w0 : World) (V : Nat → Value → World → Prop) : Nat → List Oper → Prop
  | _, [] => True
  | k, o :: rest => RelStep P ops Q a0 w0 V k o ∧ RelSteps P ops Q a0 w0 V (k + 1) rest
theorem RelSteps.at {P : Program} {ops : Array Oper} {Q : Exit → Act → World → Prop} {a0 : Act} {w0 : World} {V : Nat → Value → World → Prop} :
    ∀ (l : List Oper) (k : Nat), RelSteps P ops Q a0 w0 V k l → ∀ i o, l[i]? = some o → RelStep P ops Q a0 w0 V (k + i) o
  | [], _, _, i, o, h => by simp at h
  | p :: l, k, hs, 0, o, h => by simp at h; subst h; exact hs.1
  | p :: l, k, hs, i + 1, o, h => by
    have := RelSteps.at l (k + 1) hs.2 i o (by simpa using h)
    rwa [show k + 1 + i = k + (i + 1) by omega] at this

/-- What is known of the values, a list. -/
def relV (Vs : List (Value → World → Prop)) (i : Nat) : Value → World → Prop := Vs.getD i (fun _ _ => True)
def Lasts (p : Value → World → Prop) : Prop := ∀ v w w', p v w → More w w' → p v w'
def AllLast : List (Value → World → Prop) → Prop
  | [] => True
  | p :: l => Lasts p ∧ AllLast l
theorem AllLast.at : ∀ (l : List (Value → World → Prop)), AllLast l → ∀ i v w w', relV l i v w → More w w' → relV l i v w'
  | [], _, _, _, _, _, _, _ => trivial
  | _ :: _, h, 0, v, w, w', hv, hm => h.1 v w w' hv hm
  | _ :: l, h, i + 1, v, w, w', hv, hm => AllLast.at l h.2 i v w w' hv hm

section
variable {P : Program} {ops : Array Oper} {Q : Exit → Act → World → Prop} {a0 : Act} {w0 : World} {V : Nat → Value → World → Prop} {L : Nat → Prop} {a : Act} {w : World} {i : Nat} {o : Oper}

/-- A slot that the region does not touch. -/
theorem Held.slot (h : Held ops a0 w0 V L a w) (t : Nat) (ht : untouched ops t = true) : a.tmps.getD t undef = a0.tmps.getD t undef := by
  have := h.oth t (fun i o ho e => by
    unfold untouched at ht
    have := (List.all_eq_true.1 ht) o (by rw [← (Array.getElem?_eq_some_iff.1 ho).2]; simp)
    rw [e] at this
    simp at this)
  rw [Array.getD_eq_getD_getElem?, Array.getD_eq_getD_getElem?, this]

end

end Go.Proofs.YtdeigmjbcbjgeaaGreatDoor
