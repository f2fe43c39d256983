import Derived.RegionTactic
import Derived.Laws.BytesArg
import Derived.Test.YtdeigmjbcbjgeaaGreatDoorYcBase
namespace Go.Proofs.YtdeigmjbcbjgeaaGreatDoor
open Go.RowKit
def More (w w' : World) : Prop := Keeps (fun _ => False) w w'
theorem More.refl (w : World) : More w w := Keeps.refl _ w
theorem More.trans {a b c : World} (h : More a b) (k : More b c) : More a c := Keeps.trans h k
structure Held (ops : Array Oper) (a0 : Act) (w0 : World) (V : Nat → Value → World → Prop) (L : Nat → Prop) (a : Act) (w : World) : Prop where
 ext : More w0 w
 dfr : a.defers = a0.defers
 siz : a.tmps.size = a0.tmps.size
 oth : ∀ t : Nat, (∀ (i : Nat) (o : Oper), ops[i]? = some o → o.dst ≠ some t) → a.tmps[t]? = a0.tmps[t]?
 got : ∀ (i : Nat) (o : Oper) (d : Tmp), ops[i]? = some o → L i → o.dst = some d → V i (a.tmps.getD d undef) w
def waits (o : Oper) (j : Nat) : Bool := o.after.toList.any fun e => Region.binds .any e && e.on == j
def untouched (ops : Array Oper) (t : Nat) : Bool := ops.toList.all fun o => o.dst != some t
def RelStep (P : Program) (ops : Array Oper) (Q : Exit → Act → World → Prop) (a0 : Act) (w0 : World) (V : Nat → Value → World → Prop) (i : Nat) (o : Oper) : Prop :=
 ∀ (a : Act) (w : World), Held ops a0 w0 V (fun j => waits o j = true) a w →
  (Region.wanted o (yielded ops a.tmps) = true ∧ o.wp P a w (fun a' w' => ∃ v, a' = a.put o.dst v ∧ More w w' ∧ V i v w') Q) ∨
  (Region.wanted o (yielded ops a.tmps) = false ∧ V i undef w)
theorem count_set_true : ∀ (l : List Bool) (i : Nat), l[i]? = some false → (l.set i true).count false + 1 = l.count false
 | [], _, h => by simp at h
 | b :: l, 0, h => by simp at h; subst h; simp
 | b :: l, i + 1, h => by
  have := count_set_true l i (by simpa using h)
  simp only [List.set_cons_succ, List.count_cons]
  omega
theorem put_tmps (a : Act) (d : Tmp) (v : Value) : (a.put (some d) v).tmps = a.tmps.setIfInBounds d v := rfl
theorem Held.put {ops : Array Oper} {a0 : Act} {w0 w w' : World} {V : Nat → Value → World → Prop} {L L' : Nat → Prop} {a : Act} {i : Nat} {o : Oper} {v : Value}
  (hst : ∀ i v w w', V i v w → More w w' → V i v w')
  (hdst : ∀ (i j : Nat) (oi oj : Oper) (d : Tmp), ops[i]? = some oi → ops[j]? = some oj → oi.dst = some d → oj.dst = some d → i = j)
  (hbd : ∀ (i : Nat) (o : Oper) (d : Tmp), ops[i]? = some o → o.dst = some d → d < a0.tmps.size)
  (h : Held ops a0 w0 V L a w) (ho : ops[i]? = some o) (hw : More w w') (hv : V i v w') (hL : ∀ j, L' j → L j ∨ j = i) : Held ops a0 w0 V L' (a.put o.dst v) w' := by
 rcases hd : o.dst with _ | d
 ·refine ⟨h.ext.trans hw, h.dfr, h.siz, h.oth, fun j oj d hj hl hjd => ?_⟩
  rcases hL j hl with hl | rfl
  ·exact hst _ _ _ _ (h.got j oj d hj hl hjd) hw
  ·rw [hj] at ho; cases ho; rw [hd] at hjd; cases hjd
 ·refine ⟨h.ext.trans hw, h.dfr, by rw [put_tmps]; simpa using h.siz, fun t ht => ?_, fun j oj d' hj hl hjd => ?_⟩
  ·rw [put_tmps, Array.getElem?_setIfInBounds_ne (fun e => ht i o ho (by rw [hd, e]))]
   exact h.oth t ht
  ·rw [put_tmps]
   by_cases hji : j = i
   ·subst hji
    rw [hj] at ho; cases ho; rw [hd] at hjd; cases hjd
    have hb := hbd j o d hj hd
    rw [← h.siz] at hb
    simpa [hb] using hv
   ·have hne : d ≠ d' := fun e => hji (hdst j i oj o d' hj ho hjd (by rw [hd, e]))
    rcases hL j hl with hl | e
    ·have := hst _ _ _ _ (h.got j oj d' hj hl hjd) hw
     simpa [Array.getElem?_setIfInBounds_ne hne] using this
    ·exact absurd e hji
theorem wpAny_rel {P : Program} {ops : Array Oper} {Q : Exit → Act → World → Prop} {a0 : Act} {w0 : World} {V : Nat → Value → World → Prop}
  (hst : ∀ i v w w', V i v w → More w w' → V i v w')
  (hdst : ∀ (i j : Nat) (oi oj : Oper) (d : Tmp), ops[i]? = some oi → ops[j]? = some oj → oi.dst = some d → oj.dst = some d → i = j)
  (hbd : ∀ (i : Nat) (o : Oper) (d : Tmp), ops[i]? = some o → o.dst = some d → d < a0.tmps.size)
  (hback : ∀ (i : Nat) (o : Oper) (e : Edge), ops[i]? = some o → e ∈ o.after → e.on < i)
  (hstep : ∀ (i : Nat) (o : Oper), ops[i]? = some o → RelStep P ops Q a0 w0 V i o)
  (hfin : ∀ a w, Held ops a0 w0 V (fun _ => True) a w → Q .normal a w) :
  ∀ (fuel : Nat) (listed : Array Bool) (a : Act) (w : World), listed.size = ops.size → listed.toList.count false ≤ fuel →
   Held ops a0 w0 V (fun j => listed.getD j false = true) a w → wpAny P .any ops Q fuel listed a w := by
 have hall : ∀ (listed : Array Bool) (a : Act) (w : World), listed.size = ops.size → (∀ j, j < ops.size → listed.getD j false = true) →
   Held ops a0 w0 V (fun j => listed.getD j false = true) a w → Q .normal a w := fun listed a w _ hl h =>
  hfin a w ⟨h.ext, h.dfr, h.siz, h.oth, fun i o d hi _ hd => h.got i o d hi (hl i (Array.getElem?_eq_some_iff.1 hi).1) hd⟩
 have hempty : ∀ (listed : Array Bool), listed.size = ops.size → Region.ready .any ops listed = [] → ∀ j, j < ops.size → listed.getD j false = true := by
  intro listed hs hr j
  induction j using Nat.strongRecOn with
  | _ j ih =>
   intro hj
   rcases hb : listed.getD j false with _ | _
   ·exfalso
    have hmem : j ∈ Region.ready .any ops listed := mem_ready.2 ⟨by
     have : j < listed.size := by omega
     simpa [this] using hb, ops[j], Array.getElem?_eq_getElem hj, fun e he _ => ih e.on (hback j _ e (Array.getElem?_eq_getElem hj) he) (by
      have := hback j _ e (Array.getElem?_eq_getElem hj) he; omega)⟩
    rw [hr] at hmem
    cases hmem
   ·rfl
 intro fuel
 induction fuel with
 | zero =>
  intro listed a w hs hc h
  have hno : ∀ j, j < ops.size → listed.getD j false = true := by
   intro j hj
   rcases hb : listed.getD j false with _ | _
   ·exfalso
    have hjl : j < listed.size := by omega
    have hm : false ∈ listed.toList := by
     have : listed[j] = false := by simpa [hjl] using hb
     rw [← this]
     simp
    have := List.count_pos_iff.2 hm
    omega
   ·rfl
  refine ⟨?_, hall listed a w hs hno h⟩
  rcases hr : Region.ready .any ops listed with _ | ⟨j, rs⟩
  ·rfl
  ·exfalso
   have hm : j ∈ Region.ready .any ops listed := by rw [hr]; simp
   obtain ⟨hu, o, ho, _⟩ := mem_ready.1 hm
   have hj := (Array.getElem?_eq_some_iff.1 ho).1
   have := hno j hj
   have hjl : j < listed.size := by omega
   simp [hjl] at hu this
   rw [hu] at this
   cases this
 | succ fuel ih =>
  intro listed a w hs hc h
  refine ⟨fun hr => hall listed a w hs (hempty listed hs hr) h, fun i hi => ?_⟩
  obtain ⟨hu, o, ho, haft⟩ := mem_ready.1 hi
  have hil : i < listed.size := by have := (Array.getElem?_eq_some_iff.1 ho).1; omega
  have hcount : (listed.setIfInBounds i true).toList.count false ≤ fuel := by
   have h1 := count_set_true listed.toList i (by
    have : listed[i] = false := by simpa [hil] using hu
    simp [hil, this])
   rw [Array.toList_setIfInBounds]
   omega
  have hs' : (listed.setIfInBounds i true).size = ops.size := by simpa using hs
  have hL : ∀ j, (listed.setIfInBounds i true).getD j false = true → listed.getD j false = true ∨ j = i := by
   intro j hj
   by_cases hji : j = i
   ·exact .inr hji
   ·refine .inl ?_
    simpa [Array.getElem?_setIfInBounds_ne (fun e => hji e.symm)] using hj
  have hnext : ∀ v w', More w w' → V i v w' → wpAny P .any ops Q fuel (listed.setIfInBounds i true) (a.put o.dst v) w' := fun v w' hw hv =>
   ih _ _ _ hs' hcount (h.put hst hdst hbd ho hw hv hL)
  unfold wpOp
  simp only [ho]
  rcases hstep i o ho a w ⟨h.ext, h.dfr, h.siz, h.oth, fun j oj d hj hwj hd => by
   unfold waits at hwj
   obtain ⟨e, hk, hb⟩ := List.any_eq_true.1 hwj
   simp only [Bool.and_eq_true, beq_iff_eq] at hb
   have he := haft e (by simpa using hk) hb.1
   rw [hb.2] at he
   exact h.got j oj d hj he hd⟩ with ⟨hw, hwp⟩ | ⟨hw, hv⟩
  ·rw [if_pos hw]
   refine .inl (Oper.wp_mono (fun a' w' ⟨v, ha, hm, hv⟩ => ?_) hwp)
   subst ha
   exact hnext v w' hm hv
  ·rw [if_neg (by rw [hw]; exact Bool.false_ne_true)]
   exact hnext undef w (More.refl w) hv
def relText (ops : List Oper) (n : Nat) : Bool :=
 (List.range ops.length).all (fun i => (List.range ops.length).all fun j => i == j || match ops[i]?, ops[j]? with | some o, some p => o.dst.isNone || (o.dst != p.dst) | _, _ => true) && ops.all (fun o => match o.dst with | some d => decide (d < n) | none => true) && (List.range ops.length).all (fun i => match ops[i]? with | some o => o.after.toList.all (fun e => decide (e.on < i)) | none => true)
theorem wp_region_rel {P : Program} {id : Nat} {Q : Exit → Act → World → Prop} {a : Act} {w : World} {l : List Oper} (n : Nat) (hm : P.follows .mixedOrders = true) (hn : a.tmps.size = n) (hB : relText l n = true)
  (V : Nat → Value → World → Prop) (hst : ∀ i v w w', V i v w → More w w' → V i v w')
  (hstep : ∀ (i : Nat) (o : Oper), l[i]? = some o → RelStep P l.toArray Q a w.drew V i o)
  (hfin : ∀ a' w', Held l.toArray a w.drew V (fun _ => True) a' w' → Q .normal a' w') : (Code.region id l.toArray true).wp P Q a w := by
 simp only [relText, Bool.and_eq_true, List.all_eq_true] at hB
 obtain ⟨⟨h1, h2⟩, h3⟩ := hB
 refine wp_region_any hm (wpAny_rel (a0 := a) (w0 := w.drew) (V := V) hst ?_ ?_ ?_ (fun i o ho => hstep i o (by simpa using ho)) hfin _ _ _ _ (by simp) (by simp) ⟨More.refl _, rfl, rfl, fun _ _ => rfl, fun i o d _ hl _ => ?_⟩)
 ·intro i j oi oj d hi hj hdi hdj
  have hi' : l[i]? = some oi := by simpa using hi
  have hj' : l[j]? = some oj := by simpa using hj
  have := h1 i (by simpa using (List.getElem?_eq_some_iff.1 hi').1) j (by simpa using (List.getElem?_eq_some_iff.1 hj').1)
  rw [hi', hj'] at this
  simp only [hdi, hdj, Option.isNone_some, bne_self_eq_false, Bool.or_false, beq_iff_eq] at this
  exact this
 ·intro i o d hi hd
  have hi' : l[i]? = some o := by simpa using hi
  have := h2 o (List.mem_of_getElem? hi')
  rw [hd] at this
  rw [hn]
  exact of_decide_eq_true this
 ·intro i o e hi he
  have hi' : l[i]? = some o := by simpa using hi
  have := h3 i (by simpa using (List.getElem?_eq_some_iff.1 hi').1)
  rw [hi'] at this
  simp only [List.all_eq_true] at this
  exact of_decide_eq_true (this e (by simpa using he))
 ·exfalso
  revert hl
  simp [Array.getElem?_replicate]
  split <;> rfl
def RelSteps (P : Program) (ops : Array Oper) (Q : Exit → Act → World → Prop) (a0 : Act) (w0 : World) (V : Nat → Value → World → Prop) : Nat → List Oper → Prop
 | _, [] => True
 | k, o :: rest => RelStep P ops Q a0 w0 V k o ∧ RelSteps P ops Q a0 w0 V (k + 1) rest
theorem RelSteps.at {P : Program} {ops : Array Oper} {Q : Exit → Act → World → Prop} {a0 : Act} {w0 : World} {V : Nat → Value → World → Prop} :
  ∀ (l : List Oper) (k : Nat), RelSteps P ops Q a0 w0 V k l → ∀ i o, l[i]? = some o → RelStep P ops Q a0 w0 V (k + i) o
 | [], _, _, i, o, h => by simp at h
 | p :: l, k, hs, 0, o, h => by simp at h; subst h; exact hs.1
 | p :: l, k, hs, i + 1, o, h => by
  have := RelSteps.at l (k + 1) hs.2 i o (by simpa using h)
  rwa [show k + 1 + i = k + (i + 1) by omega] at this
def relV (Vs : List (Value → World → Prop)) (i : Nat) : Value → World → Prop := Vs.getD i (fun _ _ => True)
def Lasts (p : Value → World → Prop) : Prop := ∀ v w w', p v w → More w w' → p v w'
def AllLast : List (Value → World → Prop) → Prop
 | [] => True
 | p :: l => Lasts p ∧ AllLast l
theorem AllLast.at : ∀ (l : List (Value → World → Prop)), AllLast l → ∀ i v w w', relV l i v w → More w w' → relV l i v w'
 | [], _, _, _, _, _, _, _ => trivial
 | _ :: _, h, 0, v, w, w', hv, hm => h.1 v w w' hv hm
 | _ :: l, h, i + 1, v, w, w', hv, hm => AllLast.at l h.2 i v w w' hv hm
def Is (x : Value) : Value → World → Prop := fun v _ => v = x
theorem Is.lasts (x : Value) : Lasts (Is x) := fun _ _ _ h _ => h
def RowIs (k : IntKind) (l : List Int) : Value → World → Prop := fun v w => ∃ a c, v = .slice a l.length c ∧ CapOk a c l.length ∧ RowAt (fun _ => True) k w a l
theorem RowIs.lasts (k : IntKind) (l : List Int) : Lasts (RowIs k l) := fun _ _ _ ⟨a, c, h1, h2, h3⟩ hm => ⟨a, c, h1, h2, h3.keeps hm (fun _ _ h => h)⟩
theorem wp_region_relV {P : Program} {id : Nat} {Q : Exit → Act → World → Prop} {a : Act} {w : World} {l : List Oper} (n : Nat) (hm : P.follows .mixedOrders = true) (hn : a.tmps.size = n) (hB : relText l n = true)
  (Vs : List (Value → World → Prop)) (hst : AllLast Vs) (hstep : RelSteps P l.toArray Q a w.drew (relV Vs) 0 l)
  (hfin : ∀ a' w', Held l.toArray a w.drew (relV Vs) (fun _ => True) a' w' → Q .normal a' w') : (Code.region id l.toArray true).wp P Q a w :=
 wp_region_rel n hm hn hB (relV Vs) (AllLast.at Vs hst) (fun i o ho => by have := RelSteps.at l 0 hstep i o ho; rwa [Nat.zero_add] at this) hfin
section
variable {P : Program} {ops : Array Oper} {Q : Exit → Act → World → Prop} {a0 : Act} {w0 : World} {V : Nat → Value → World → Prop} {L : Nat → Prop} {a : Act} {w : World} {i : Nat} {o : Oper}
theorem Held.slot (h : Held ops a0 w0 V L a w) (t : Nat) (ht : untouched ops t = true) : a.tmps.getD t undef = a0.tmps.getD t undef := by
 have := h.oth t (fun i o ho e => by
  unfold untouched at ht
  have := (List.all_eq_true.1 ht) o (by rw [← (Array.getElem?_eq_some_iff.1 ho).2]; simp)
  rw [e] at this
  simp at this)
 rw [Array.getD_eq_getD_getElem?, Array.getD_eq_getD_getElem?, this]
theorem Held.slot' (h : Held ops a0 w0 V L a w) (t : Nat) (ht : untouched ops t = true) : (a.tmps[t]?).getD undef = a0.tmps.getD t undef := by
 rw [← Array.getD_eq_getD_getElem?]; exact h.slot t ht
theorem Held.has (h : Held ops a0 w0 V L a w) (i d : Nat) (ho : (ops[i]?).bind (·.dst) = some d) (hl : L i) : V i ((a.tmps[d]?).getD undef) w := by
 rw [← Array.getD_eq_getD_getElem?]
 rcases hq : ops[i]? with _ | o
 ·rw [hq] at ho; cases ho
 ·rw [hq] at ho; exact h.got i o d hq hl ho
theorem Held.more {w1 : World} (h : Held ops a0 w1.drew V L a w) : More w1 w := (Keeps.drew (Keeps.refl _ w1)).trans h.ext
theorem st_val {v : Value} (hw : Region.wanted o (yielded ops a.tmps) = true) (hrun : (execOp a.eval o).run P w = .ok (.value v) w) (hv : V i v w) :
  (Region.wanted o (yielded ops a.tmps) = true ∧ o.wp P a w (fun a' w' => ∃ v, a' = a.put o.dst v ∧ More w w' ∧ V i v w') Q) ∨ (Region.wanted o (yielded ops a.tmps) = false ∧ V i undef w) := by
 refine .inl ⟨hw, ?_⟩
 unfold Oper.wp
 rw [hrun]
 exact ⟨v, rfl, More.refl w, hv⟩
end
end Go.Proofs.YtdeigmjbcbjgeaaGreatDoor
