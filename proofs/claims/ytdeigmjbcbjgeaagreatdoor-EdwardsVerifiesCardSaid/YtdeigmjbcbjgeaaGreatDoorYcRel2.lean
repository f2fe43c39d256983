import Derived.Test.YtdeigmjbcbjgeaaGreatDoorYcRel
import Derived.Test.YtdeigmjbcbjgeaaGreatDoorYcZeros
namespace Go.Proofs.YtdeigmjbcbjgeaaGreatDoor
open Go.RowKit
structure Ghost where
 B : Nat → Option (Nat × Nat)
 D : Nat → Bool
def Ghost.none : Ghost := ⟨fun _ => Option.none, fun _ => false⟩
structure Goes (γ : Ghost) (w : World) (γ' : Ghost) (w' : World) : Prop where
 keeps : Keeps (fun k => (γ.B k).isSome = true) w w'
 dead : ∀ j, γ.D j = true → γ'.D j = true
 old : ∀ k, γ.B k = Option.none → k < w.heap.size → γ'.B k = Option.none
 own : ∀ k n j, γ.B k = some (n, j) → γ'.D j = true ∨ (γ'.B k = some (n, j) ∧ ∀ cur t fr, w.heap[k]? = some (.cells cur t fr) → ∃ cur', w'.heap[k]? = some (.cells cur' t fr) ∧ cur'.size = cur.size ∧ cur'.toList.take n = cur.toList.take n)
 isrow : ∀ k p, γ.B k = some p → ∃ p', γ'.B k = some p'
theorem Goes.refl (γ : Ghost) (w : World) : Goes γ w γ w :=
 ⟨Keeps.refl _ w, fun _ h => h, fun _ h _ => h, fun _ _ _ h => .inr ⟨h, fun cur _ _ hc => ⟨cur, hc, rfl, rfl⟩⟩, fun _ p h => ⟨p, h⟩⟩
theorem Goes.trans {γ γ' γ'' : Ghost} {a b c : World} (h : Goes γ a γ' b) (k : Goes γ' b γ'' c) : Goes γ a γ'' c := by
 refine ⟨h.keeps.step k.keeps (fun i hi hs => ?_), fun j hj => k.dead j (h.dead j hj), fun i hi hl => ?_, fun i n j hn => ?_, fun i p hp => ?_⟩
 ·rcases hq : γ.B i with _ | m
  ·rw [h.old i hq hi] at hs; cases hs
  ·rfl
 ·exact k.old i (h.old i hi hl) (Nat.lt_of_lt_of_le hl h.keeps.size)
 ·rcases h.own i n j hn with h1 | ⟨h1, h2⟩
  ·exact .inl (k.dead j h1)
  ·rcases k.own i n j h1 with h3 | ⟨h3, h4⟩
   ·exact .inl h3
   ·refine .inr ⟨h3, fun cur t fr hc => ?_⟩
    obtain ⟨c1, h5, h6, h7⟩ := h2 cur t fr hc
    obtain ⟨c2, h8, h9, h10⟩ := h4 c1 t fr h5
    exact ⟨c2, h8, h9.trans h6, h10.trans h7⟩
 ·obtain ⟨p', h1⟩ := h.isrow i p hp
  exact k.isrow i p' h1
def GhostIn (γ : Ghost) (w : World) : Prop := ∀ k, w.heap.size ≤ k → γ.B k = Option.none
theorem GhostIn.lt {γ : Ghost} {w : World} (h : GhostIn γ w) : ∀ k p, γ.B k = some p → k < w.heap.size := fun k p hk => by
 rcases Nat.lt_or_ge k w.heap.size with h1 | h1
 ·exact h1
 ·rw [h k h1] at hk; cases hk
theorem Goes.of_more (γ : Ghost) {w w' : World} (h : More w w') (hb : GhostIn γ w) : Goes γ w γ w' :=
 ⟨h.mono (fun _ _ h => h.elim), fun _ h => h, fun _ h _ => h, fun k n j hn => .inr ⟨hn, fun cur t fr hc => ⟨cur, by rw [h.block k (hb.lt k _ hn) (fun h => h)]; exact hc, rfl, rfl⟩⟩, fun _ p h => ⟨p, h⟩⟩
theorem Goes.more {γ : Ghost} {w w' : World} (h : Goes Ghost.none w γ w') : More w w' := h.keeps.mono (fun _ _ h => by simp [Ghost.none] at h)
namespace Rel2
structure Held (ops : Array Oper) (a0 : Act) (w0 : World) (V : Ghost → Nat → Value → World → Prop) (use : Nat → Nat) (M L : Nat → Prop) (γ : Ghost) (a : Act) (w : World) : Prop where
 ext : Goes Ghost.none w0 γ w
 st : GhostIn γ w
 con : ∀ j, γ.D j = true → M (use j)
 mlt : ∀ j, M j → j < ops.size
 dfr : a.defers = a0.defers
 siz : a.tmps.size = a0.tmps.size
 oth : ∀ t : Nat, (∀ (i : Nat) (o : Oper), ops[i]? = some o → o.dst ≠ some t) → a.tmps[t]? = a0.tmps[t]?
 got : ∀ (i : Nat) (o : Oper) (d : Tmp), ops[i]? = some o → L i → o.dst = some d → V γ i (a.tmps.getD d undef) w
def RelStep (P : Program) (ops : Array Oper) (Q : Exit → Act → World → Prop) (a0 : Act) (w0 : World) (V : Ghost → Nat → Value → World → Prop) (use : Nat → Nat) (i : Nat) (o : Oper) : Prop :=
 ∀ (γ : Ghost) (a : Act) (w : World) (M : Nat → Prop), ¬ M i → Held ops a0 w0 V use M (fun j => waits o j = true) γ a w →
  (Region.wanted o (yielded ops a.tmps) = true ∧ o.wp P a w (fun a' w' => ∃ v γ', a' = a.put o.dst v ∧ Goes γ w γ' w' ∧ GhostIn γ' w' ∧ (∀ j, γ'.D j = true → γ.D j = true ∨ use j = i) ∧ V γ' i v w') Q) ∨
  (Region.wanted o (yielded ops a.tmps) = false ∧ V γ i undef w)
theorem Held.put {ops : Array Oper} {a0 : Act} {w0 w w' : World} {V : Ghost → Nat → Value → World → Prop} {use : Nat → Nat} {M M' L L' : Nat → Prop} {γ γ' : Ghost} {a : Act} {i : Nat} {o : Oper} {v : Value}
  (hst : ∀ i v γ w γ' w', V γ i v w → Goes γ w γ' w' → GhostIn γ w → V γ' i v w')
  (hdst : ∀ (i j : Nat) (oi oj : Oper) (d : Tmp), ops[i]? = some oi → ops[j]? = some oj → oi.dst = some d → oj.dst = some d → i = j)
  (hbd : ∀ (i : Nat) (o : Oper) (d : Tmp), ops[i]? = some o → o.dst = some d → d < a0.tmps.size)
  (h : Held ops a0 w0 V use M L γ a w) (ho : ops[i]? = some o) (hw : Goes γ w γ' w') (hg : GhostIn γ' w') (hD : ∀ j, γ'.D j = true → γ.D j = true ∨ use j = i) (hv : V γ' i v w') (hL : ∀ j, L' j → L j ∨ j = i) (hM : ∀ j, M j ∨ j = i → M' j) (hM' : ∀ j, M' j → j < ops.size) : Held ops a0 w0 V use M' L' γ' (a.put o.dst v) w' := by
 rcases hd : o.dst with _ | d
 ·refine ⟨h.ext.trans hw, hg, fun j hj => hM _ ((hD j hj).imp (h.con j) id), hM', h.dfr, h.siz, h.oth, fun j oj d hj hl hjd => ?_⟩
  rcases hL j hl with hl | rfl
  ·exact hst _ _ _ _ _ _ (h.got j oj d hj hl hjd) hw h.st
  ·rw [hj] at ho; cases ho; rw [hd] at hjd; cases hjd
 ·refine ⟨h.ext.trans hw, hg, fun j hj => hM _ ((hD j hj).imp (h.con j) id), hM', h.dfr, by rw [put_tmps]; simpa using h.siz, fun t ht => ?_, fun j oj d' hj hl hjd => ?_⟩
  ·rw [put_tmps, Array.getElem?_setIfInBounds_ne (fun e => ht i o ho (by rw [hd, e]))]
   exact h.oth t ht
  ·rw [put_tmps]
   by_cases hji : j = i
   ·subst hji
    rw [hj] at ho; cases ho; rw [hd] at hjd; cases hjd
    have hb := hbd j o d hj hd
    rw [← h.siz] at hb
    simpa [hb] using hv
   ·have hne : d ≠ d' := fun e => hji (hdst j i oj o d' hj ho hjd (by rw [hd, e]))
    rcases hL j hl with hl | e
    ·have := hst _ _ _ _ _ _ (h.got j oj d' hj hl hjd) hw h.st
     simpa [Array.getElem?_setIfInBounds_ne hne] using this
    ·exact absurd e hji
theorem wpAny_rel {P : Program} {ops : Array Oper} {Q : Exit → Act → World → Prop} {a0 : Act} {w0 : World} {V : Ghost → Nat → Value → World → Prop} {use : Nat → Nat}
  (hst : ∀ i v γ w γ' w', V γ i v w → Goes γ w γ' w' → GhostIn γ w → V γ' i v w')
  (hdst : ∀ (i j : Nat) (oi oj : Oper) (d : Tmp), ops[i]? = some oi → ops[j]? = some oj → oi.dst = some d → oj.dst = some d → i = j)
  (hbd : ∀ (i : Nat) (o : Oper) (d : Tmp), ops[i]? = some o → o.dst = some d → d < a0.tmps.size)
  (hback : ∀ (i : Nat) (o : Oper) (e : Edge), ops[i]? = some o → e ∈ o.after → e.on < i)
  (hstep : ∀ (i : Nat) (o : Oper), ops[i]? = some o → RelStep P ops Q a0 w0 V use i o)
  (hfin : ∀ γ M a w, Held ops a0 w0 V use M (fun _ => True) γ a w → Q .normal a w) :
  ∀ (fuel : Nat) (listed : Array Bool) (γ : Ghost) (a : Act) (w : World), listed.size = ops.size → listed.toList.count false ≤ fuel →
   Held ops a0 w0 V use (fun j => listed.getD j false = true) (fun j => listed.getD j false = true) γ a w → wpAny P .any ops Q fuel listed a w := by
 have hall : ∀ (listed : Array Bool) (γ : Ghost) (a : Act) (w : World), listed.size = ops.size → (∀ j, j < ops.size → listed.getD j false = true) →
   Held ops a0 w0 V use (fun j => listed.getD j false = true) (fun j => listed.getD j false = true) γ a w → Q .normal a w := fun listed γ a w _ hl h =>
  hfin γ _ a w ⟨h.ext, h.st, h.con, h.mlt, h.dfr, h.siz, h.oth, fun i o d hi _ hd => h.got i o d hi (hl i (Array.getElem?_eq_some_iff.1 hi).1) hd⟩
 have hempty : ∀ (listed : Array Bool), listed.size = ops.size → Region.ready .any ops listed = [] → ∀ j, j < ops.size → listed.getD j false = true := by
  intro listed hs hr j
  induction j using Nat.strongRecOn with
  | _ j ih =>
   intro hj
   rcases hb : listed.getD j false with _ | _
   ·exfalso
    have hmem : j ∈ Region.ready .any ops listed := mem_ready.2 ⟨by
     have : j < listed.size := by omega
     simpa [this] using hb, ops[j], Array.getElem?_eq_getElem hj, fun e he _ => ih e.on (hback j _ e (Array.getElem?_eq_getElem hj) he) (by
      have := hback j _ e (Array.getElem?_eq_getElem hj) he; omega)⟩
    rw [hr] at hmem
    cases hmem
   ·rfl
 intro fuel
 induction fuel with
 | zero =>
  intro listed γ a w hs hc h
  have hno : ∀ j, j < ops.size → listed.getD j false = true := by
   intro j hj
   rcases hb : listed.getD j false with _ | _
   ·exfalso
    have hjl : j < listed.size := by omega
    have hm : false ∈ listed.toList := by
     have : listed[j] = false := by simpa [hjl] using hb
     rw [← this]
     simp
    have := List.count_pos_iff.2 hm
    omega
   ·rfl
  refine ⟨?_, hall listed γ a w hs hno h⟩
  rcases hr : Region.ready .any ops listed with _ | ⟨j, rs⟩
  ·rfl
  ·exfalso
   have hm : j ∈ Region.ready .any ops listed := by rw [hr]; simp
   obtain ⟨hu, o, ho, _⟩ := mem_ready.1 hm
   have hj := (Array.getElem?_eq_some_iff.1 ho).1
   have := hno j hj
   have hjl : j < listed.size := by omega
   simp [hjl] at hu this
   rw [hu] at this
   cases this
 | succ fuel ih =>
  intro listed γ a w hs hc h
  refine ⟨fun hr => hall listed γ a w hs (hempty listed hs hr) h, fun i hi => ?_⟩
  obtain ⟨hu, o, ho, haft⟩ := mem_ready.1 hi
  have hil : i < listed.size := by have := (Array.getElem?_eq_some_iff.1 ho).1; omega
  have hcount : (listed.setIfInBounds i true).toList.count false ≤ fuel := by
   have h1 := count_set_true listed.toList i (by
    have : listed[i] = false := by simpa [hil] using hu
    simp [hil, this])
   rw [Array.toList_setIfInBounds]
   omega
  have hs' : (listed.setIfInBounds i true).size = ops.size := by simpa using hs
  have hL : ∀ j, (listed.setIfInBounds i true).getD j false = true → listed.getD j false = true ∨ j = i := by
   intro j hj
   by_cases hji : j = i
   ·exact .inr hji
   ·refine .inl ?_
    simpa [Array.getElem?_setIfInBounds_ne (fun e => hji e.symm)] using hj
  have hM : ∀ j, listed.getD j false = true ∨ j = i → (listed.setIfInBounds i true).getD j false = true := by
   intro j hj
   by_cases hji : j = i
   ·subst hji; simp [hil]
   ·rcases hj with hj | hj
    ·simpa [Array.getElem?_setIfInBounds_ne (fun e => hji e.symm)] using hj
    ·exact absurd hj hji
  have hM' : ∀ j, (listed.setIfInBounds i true).getD j false = true → j < ops.size := by
   intro j hj
   rcases Nat.lt_or_ge j ops.size with h1 | h1
   ·exact h1
   ·rw [Array.getD_eq_getD_getElem?, Array.getElem?_eq_none (by omega)] at hj; simp at hj
  have hnot : ¬ (listed.getD i false = true) := by
   have : listed[i] = false := by simpa [hil] using hu
   simp [hil, this]
  have hnext : ∀ v γ' w', Goes γ w γ' w' → GhostIn γ' w' → (∀ j, γ'.D j = true → γ.D j = true ∨ use j = i) → V γ' i v w' → wpAny P .any ops Q fuel (listed.setIfInBounds i true) (a.put o.dst v) w' := fun v γ' w' hw hg hD hv =>
   ih _ _ _ _ hs' hcount (h.put hst hdst hbd ho hw hg hD hv hL hM hM')
  unfold wpOp
  simp only [ho]
  rcases hstep i o ho γ a w _ hnot ⟨h.ext, h.st, h.con, h.mlt, h.dfr, h.siz, h.oth, fun j oj d hj hwj hd => by
   unfold waits at hwj
   obtain ⟨e, hk, hb⟩ := List.any_eq_true.1 hwj
   simp only [Bool.and_eq_true, beq_iff_eq] at hb
   have he := haft e (by simpa using hk) hb.1
   rw [hb.2] at he
   exact h.got j oj d hj he hd⟩ with ⟨hw, hwp⟩ | ⟨hw, hv⟩
  ·rw [if_pos hw]
   refine .inl (Oper.wp_mono (fun a' w' ⟨v, γ', ha, hm, hg, hD, hv⟩ => ?_) hwp)
   subst ha
   exact hnext v γ' w' hm hg hD hv
  ·rw [if_neg (by rw [hw]; exact Bool.false_ne_true)]
   exact hnext undef γ w (Goes.refl γ w) h.st (fun _ h => .inl h) hv
theorem wp_region_rel {P : Program} {id : Nat} {Q : Exit → Act → World → Prop} {a : Act} {w : World} {l : List Oper} (n : Nat) (hm : P.follows .mixedOrders = true) (hn : a.tmps.size = n) (hB : relText l n = true)
  (V : Ghost → Nat → Value → World → Prop) (use : Nat → Nat) (hst : ∀ i v γ w γ' w', V γ i v w → Goes γ w γ' w' → GhostIn γ w → V γ' i v w')
  (hstep : ∀ (i : Nat) (o : Oper), l[i]? = some o → RelStep P l.toArray Q a w.drew V use i o)
  (hfin : ∀ γ M a' w', Held l.toArray a w.drew V use M (fun _ => True) γ a' w' → Q .normal a' w') : (Code.region id l.toArray true).wp P Q a w := by
 simp only [relText, Bool.and_eq_true, List.all_eq_true] at hB
 obtain ⟨⟨h1, h2⟩, h3⟩ := hB
 refine wp_region_any hm (wpAny_rel (a0 := a) (w0 := w.drew) (V := V) hst ?_ ?_ ?_ (fun i o ho => hstep i o (by simpa using ho)) hfin _ _ Ghost.none _ _ (by simp) (by simp) ⟨Goes.refl _ _, fun _ _ => rfl, fun j h => by simp [Ghost.none] at h, fun j h => by
  exfalso
  revert h
  simp [Array.getElem?_replicate]
  split <;> rfl, rfl, rfl, fun _ _ => rfl, fun i o d _ hl _ => ?_⟩)
 ·intro i j oi oj d hi hj hdi hdj
  have hi' : l[i]? = some oi := by simpa using hi
  have hj' : l[j]? = some oj := by simpa using hj
  have := h1 i (by simpa using (List.getElem?_eq_some_iff.1 hi').1) j (by simpa using (List.getElem?_eq_some_iff.1 hj').1)
  rw [hi', hj'] at this
  simp only [hdi, hdj, Option.isNone_some, bne_self_eq_false, Bool.or_false, beq_iff_eq] at this
  exact this
 ·intro i o d hi hd
  have hi' : l[i]? = some o := by simpa using hi
  have := h2 o (List.mem_of_getElem? hi')
  rw [hd] at this
  rw [hn]
  exact of_decide_eq_true this
 ·intro i o e hi he
  have hi' : l[i]? = some o := by simpa using hi
  have := h3 i (by simpa using (List.getElem?_eq_some_iff.1 hi').1)
  rw [hi'] at this
  simp only [List.all_eq_true] at this
  exact of_decide_eq_true (this e (by simpa using he))
 ·exfalso
  revert hl
  simp [Array.getElem?_replicate]
  split <;> rfl
def RelSteps (P : Program) (ops : Array Oper) (Q : Exit → Act → World → Prop) (a0 : Act) (w0 : World) (V : Ghost → Nat → Value → World → Prop) (use : Nat → Nat) : Nat → List Oper → Prop
 | _, [] => True
 | k, o :: rest => RelStep P ops Q a0 w0 V use k o ∧ RelSteps P ops Q a0 w0 V use (k + 1) rest
theorem RelSteps.at {P : Program} {ops : Array Oper} {Q : Exit → Act → World → Prop} {a0 : Act} {w0 : World} {V : Ghost → Nat → Value → World → Prop} {use : Nat → Nat} :
  ∀ (l : List Oper) (k : Nat), RelSteps P ops Q a0 w0 V use k l → ∀ i o, l[i]? = some o → RelStep P ops Q a0 w0 V use (k + i) o
 | [], _, _, i, o, h => by simp at h
 | p :: l, k, hs, 0, o, h => by simp at h; subst h; exact hs.1
 | p :: l, k, hs, i + 1, o, h => by
  have := RelSteps.at l (k + 1) hs.2 i o (by simpa using h)
  rwa [show k + 1 + i = k + (i + 1) by omega] at this
def relV (Vs : List (Ghost → Value → World → Prop)) (γ : Ghost) (i : Nat) : Value → World → Prop := Vs.getD i (fun _ _ _ => True) γ
def Lasts (p : Ghost → Value → World → Prop) : Prop := ∀ v γ w γ' w', p γ v w → Goes γ w γ' w' → GhostIn γ w → p γ' v w'
def AllLast : List (Ghost → Value → World → Prop) → Prop
 | [] => True
 | p :: l => Lasts p ∧ AllLast l
theorem AllLast.at : ∀ (l : List (Ghost → Value → World → Prop)), AllLast l → ∀ i v γ w γ' w', relV l γ i v w → Goes γ w γ' w' → GhostIn γ w → relV l γ' i v w'
 | [], _, _, _, _, _, _, _, _, _, _ => trivial
 | _ :: _, h, 0, v, γ, w, γ', w', hv, hm, hg => h.1 v γ w γ' w' hv hm hg
 | _ :: l, h, i + 1, v, γ, w, γ', w', hv, hm, hg => AllLast.at l h.2 i v γ w γ' w' hv hm hg
def Is (x : Value) : Ghost → Value → World → Prop := fun _ v _ => v = x
theorem Is.lasts (x : Value) : Lasts (Is x) := fun _ _ _ _ _ h _ _ => h
def RowIs (k : IntKind) (l : List Int) : Ghost → Value → World → Prop := fun γ v w => ∃ a c, v = .slice a l.length c ∧ CapOk a c l.length ∧ RowAt (fun g => γ.B g = Option.none) k w a l
theorem RowIs.lasts (k : IntKind) (l : List Int) : Lasts (RowIs k l) := fun v γ w γ' w' ⟨a, c, h1, h2, h3⟩ hm _ => by
 refine ⟨a, c, h1, h2, ?_⟩
 have h4 := h3.keeps hm.keeps (fun i hi hs => by rw [hi] at hs; cases hs)
 obtain ⟨h5, h6, h7⟩ := h3
 obtain ⟨_, _, h8⟩ := h4
 refine ⟨h5, h6, ?_⟩
 rcases h7 with h7 | ⟨g, off, ha, hf, hg, _⟩
 ·exact .inl h7
 ·rcases h8 with h8 | ⟨g', off', ha', _, hg', hc'⟩
  ·exact .inl h8
  ·rw [ha] at ha'
   injection ha' with ha'
   injection ha' with e1 e2
   subst e1; subst e2
   exact .inr ⟨g, off, ha, hm.old g hf hg, hg', hc'⟩
def OwnG (j : Nat) (k : IntKind) (t base : Nat) (l : List Int) : Ghost → Value → World → Prop := fun γ v w => γ.D j = true ∨ (OwnI k t base w v l ∧ ∀ g, v.ownBlock = some g → γ.B g = some (l.length, j))
theorem OwnG.lasts (j : Nat) (k : IntKind) (t base : Nat) (l : List Int) : Lasts (OwnG j k t base l) := fun v γ w γ' w' h0 hm _ => by
 rcases h0 with h0 | ⟨h1, h2⟩
 ·exact .inl (hm.dead j h0)
 ·obtain ⟨⟨hl, hrow⟩, h3, h4⟩ := h1
  rcases hrow with hn | ⟨g, cap, cur, rfl, hb, hg, hnc, hcm, hcs, htake⟩
  ·obtain ⟨rfl, hn⟩ := hn
   exact .inr ⟨⟨⟨hl, .inl ⟨rfl, hn⟩⟩, h3, h4⟩, fun g h => by simp [Value.ownBlock] at h⟩
  ·rcases hm.own g _ _ (h2 g rfl) with hd | ⟨h5, h6⟩
   ·exact .inl hd
   ·obtain ⟨cur', hc1, hc2, hc3⟩ := h6 cur t (0, 0) hg
    refine .inr ⟨⟨⟨hl, .inr ⟨g, cap, cur', rfl, hb, hc1, hnc, hcm, hc2.trans hcs, ?_⟩⟩, h3, h4⟩, fun g' hg' => ?_⟩
    ·rw [Nat.mul_one] at htake ⊢
     rw [hc3, htake]
    ·simp [Value.ownBlock] at hg'
     subst hg'
     exact h5
theorem wp_region_relV {P : Program} {id : Nat} {Q : Exit → Act → World → Prop} {a : Act} {w : World} {l : List Oper} (n : Nat) (hm : P.follows .mixedOrders = true) (hn : a.tmps.size = n) (hB : relText l n = true)
  (Vs : List (Ghost → Value → World → Prop)) (hst : AllLast Vs) (use : Nat → Nat) (hstep : RelSteps P l.toArray Q a w.drew (relV Vs) use 0 l)
  (hfin : ∀ γ M a' w', Held l.toArray a w.drew (relV Vs) use M (fun _ => True) γ a' w' → Q .normal a' w') : (Code.region id l.toArray true).wp P Q a w :=
 wp_region_rel n hm hn hB (relV Vs) use (AllLast.at Vs hst) (fun i o ho => by have := RelSteps.at l 0 hstep i o ho; rwa [Nat.zero_add] at this) hfin
section
variable {P : Program} {ops : Array Oper} {Q : Exit → Act → World → Prop} {a0 : Act} {w0 : World} {V : Ghost → Nat → Value → World → Prop} {use : Nat → Nat} {M L : Nat → Prop} {γ : Ghost} {a : Act} {w : World} {i : Nat} {o : Oper}
theorem Held.slot (h : Held ops a0 w0 V use M L γ a w) (t : Nat) (ht : untouched ops t = true) : a.tmps.getD t undef = a0.tmps.getD t undef := by
 have := h.oth t (fun i o ho e => by
  unfold untouched at ht
  have := (List.all_eq_true.1 ht) o (by rw [← (Array.getElem?_eq_some_iff.1 ho).2]; simp)
  rw [e] at this
  simp at this)
 rw [Array.getD_eq_getD_getElem?, Array.getD_eq_getD_getElem?, this]
theorem Held.slot' (h : Held ops a0 w0 V use M L γ a w) (t : Nat) (ht : untouched ops t = true) : (a.tmps[t]?).getD undef = a0.tmps.getD t undef := by
 rw [← Array.getD_eq_getD_getElem?]; exact h.slot t ht
theorem Held.has (h : Held ops a0 w0 V use M L γ a w) (i d : Nat) (ho : (ops[i]?).bind (·.dst) = some d) (hl : L i) : V γ i ((a.tmps[d]?).getD undef) w := by
 rw [← Array.getD_eq_getD_getElem?]
 rcases hq : ops[i]? with _ | o
 ·rw [hq] at ho; cases ho
 ·rw [hq] at ho; exact h.got i o d hq hl ho
theorem Held.more {w1 : World} (h : Held ops a0 w1.drew V use M L γ a w) : More w1 w := (Keeps.drew (Keeps.refl _ w1)).trans h.ext.more
theorem st_val {v : Value} (hg : GhostIn γ w) (hw : Region.wanted o (yielded ops a.tmps) = true) (hrun : (execOp a.eval o).run P w = .ok (.value v) w) (hv : V γ i v w) :
  (Region.wanted o (yielded ops a.tmps) = true ∧ o.wp P a w (fun a' w' => ∃ v γ', a' = a.put o.dst v ∧ Goes γ w γ' w' ∧ GhostIn γ' w' ∧ (∀ j, γ'.D j = true → γ.D j = true ∨ use j = i) ∧ V γ' i v w') Q) ∨ (Region.wanted o (yielded ops a.tmps) = false ∧ V γ i undef w) := by
 refine .inl ⟨hw, ?_⟩
 unfold Oper.wp
 rw [hrun]
 exact ⟨v, γ, rfl, Goes.refl γ w, hg, fun _ h => .inl h, hv⟩
theorem st_run {v : Value} {γ' : Ghost} {w' : World} (hw : Region.wanted o (yielded ops a.tmps) = true) (hrun : (execOp a.eval o).run P w = .ok (.value v) w') (hgo : Goes γ w γ' w') (hg : GhostIn γ' w') (hD : ∀ j, γ'.D j = true → γ.D j = true ∨ use j = i) (hv : V γ' i v w') :
  (Region.wanted o (yielded ops a.tmps) = true ∧ o.wp P a w (fun a' w' => ∃ v γ', a' = a.put o.dst v ∧ Goes γ w γ' w' ∧ GhostIn γ' w' ∧ (∀ j, γ'.D j = true → γ.D j = true ∨ use j = i) ∧ V γ' i v w') Q) ∨ (Region.wanted o (yielded ops a.tmps) = false ∧ V γ i undef w) := by
 refine .inl ⟨hw, ?_⟩
 unfold Oper.wp
 rw [hrun]
 exact ⟨v, γ', rfl, hgo, hg, hD, hv⟩
end
theorem news_cells {k : IntKind} {w : World} {g off : Nat} {m : List Int} (hcell : ∀ j, j < m.length → w.cell? ⟨g, off + j, Option.none⟩ = some (.int k (m.getD j 0))) :
  ∀ j u, (m.map (Value.int k))[j]? = some u → w.cell? ((⟨g, off, Option.none⟩ : Addr).add j) = some u := by
 intro j u hj
 rw [add_block_none]
 rw [List.getElem?_map] at hj
 rcases hq : m[j]? with _ | y
 ·simp [hq] at hj
 ·simp [hq] at hj
  have hlt : j < m.length := (List.getElem?_eq_some_iff.1 hq).1
  rw [hcell j hlt, ← hj]
  simp [List.getD_eq_getElem?_getD, hq]
theorem goes_new {w : World} {γ : Ghost} (hg : GhostIn γ w) (p n : Nat) (D' : Nat → Bool) (hD : ∀ j, γ.D j = true → D' j = true) (o : Obj) :
  Goes γ w ⟨fun j => if j = w.heap.size then some (n, p) else γ.B j, D'⟩ (w.drew.alloc o) ∧ GhostIn ⟨fun j => if j = w.heap.size then some (n, p) else γ.B j, D'⟩ (w.drew.alloc o) := by
 refine ⟨⟨(((Keeps.refl (fun _ => False) w).drew).alloc _).mono (fun _ _ h => h.elim), hD, fun j hj hl => ?_, fun j n' q hn => .inr ⟨?_, fun cur t fr hcur => ⟨cur, ?_, rfl, rfl⟩⟩, fun j q hq => ⟨q, ?_⟩⟩, fun j hj => ?_⟩
 ·show (if j = w.heap.size then some (n, p) else γ.B j) = Option.none
  rw [if_neg (by omega)]; exact hj
 ·have := hg.lt j _ hn
  show (if j = w.heap.size then some (n, p) else γ.B j) = some (n', q)
  rw [if_neg (by omega)]; exact hn
 ·exact (heap_alloc_old w.drew _ (hg.lt j _ hn)).trans hcur
 ·have := hg.lt j _ hq
  show (if j = w.heap.size then some (n, p) else γ.B j) = some q
  rw [if_neg (by omega)]; exact hq
 ·rw [World.size_alloc] at hj
  have hj' : w.heap.size + 1 ≤ j := hj
  show (if j = w.heap.size then some (n, p) else γ.B j) = Option.none
  rw [if_neg (by omega)]; exact hg j (by omega)
theorem run_begin {P : Program} {w : World} {γ : Ghost} (hg : GhostIn γ w) (p : Nat) (t ty e : TypeId) (i : TypeInfo) (k : IntKind) (ht : P.underlying t = some (.slice e)) (hi : P.info? e = some i) (hz : i.zero = some (.int k 0)) (hs : i.size = 1) (hby : i.bytes ≤ 8) (base : Nat) (hbase : base ≤ w.heap.size)
  (A : Option Addr) (c : Nat) (m : List Int) (hc : A = Option.none → c = 0) {F : Nat → Prop} (hrow : RowAt F k w A m) (hlen : m.length ≤ 17592186044416) :
  ∃ v γ' w', (Builtin.append_ #[t, t] ty #[.slice Option.none 0 0, .slice A m.length c]).run P w = .ok v w' ∧ Goes γ w γ' w' ∧ GhostIn γ' w' ∧ γ'.D = γ.D ∧ OwnG p k e base m γ' v w' := by
 by_cases h0 : m.length = 0
 ·have hm : m = [] := List.eq_nil_of_length_eq_zero h0
  subst hm
  refine ⟨.slice Option.none 0 0, γ, w, ?_, Goes.refl γ w, hg, rfl, .inr ⟨OwnI.nil _ _ _ _, fun g h => by simp [Value.ownBlock] at h⟩⟩
  rcases A with _ | ad
  ·rw [hc rfl]
   simp [Builtin.append_, run_underlying ht, sizeOf, typeInfo, hi, Builtin.lenOf, Builtin.firstCells]
  ·simp [Builtin.append_, run_underlying ht, sizeOf, typeInfo, hi, Builtin.lenOf, Builtin.firstCells, loadCells, loadCellsFrom]
 ·rcases hrow.2.2 with h1 | ⟨g, off, rfl, _, _, hcell⟩
  ·rw [h1] at h0; exact absurd rfl h0
  ·have hnb : m.length * i.bytes ≤ 281474976710656 := Nat.le_trans (Nat.mul_le_mul_left _ hby) (by omega)
   have hr := run_append_nil (P := P) w t ty e i (.int k 0) ht hi hz ⟨g, off, Option.none⟩ m.length c (m.map (Value.int k)) (by simp [hs]) (news_cells hcell) (by omega) (by omega) hnb
   have hge := grownCap_ge w m.length 0 e
   have hcm := grownCap_le_maxLen w m.length 0 e (by unfold maxLen; omega)
   have hgo := goes_new hg p m.length γ.D (fun _ h => h) (.cells ((m.map (Value.int k)).toArray ++ Builtin.zeroCells (Value.int k 0).cells (grownCap w m.length 0 e - m.length)) e)
   refine ⟨_, _, _, hr, hgo.1, hgo.2, rfl, .inr ⟨⟨⟨by simp, .inr ⟨w.heap.size, _, _, rfl, hbase, heap_alloc_new w.drew _, hge, hcm, ?_, ?_⟩⟩, hrow.2.1, by omega⟩, fun g' hg' => ?_⟩⟩
   ·simp only [zeroCells_int, Array.size_append, List.size_toArray, List.length_map, List.length_replicate]
    omega
   ·rw [Nat.mul_one]
    simp only [Array.toList_append]
    have : m.length = (m.map (Value.int k)).length := by simp
    conv => lhs; rw [this]
    exact List.take_left
   ·simp [Value.ownBlock] at hg'
    subst hg'
    simp
theorem run_more {P : Program} {w : World} {γ : Ghost} (hg : GhostIn γ w) (q p : Nat) (t ty e : TypeId) (i : TypeInfo) (k : IntKind) (ht : P.underlying t = some (.slice e)) (hi : P.info? e = some i) (hz : i.zero = some (.int k 0)) (hs : i.size = 1) (hby : i.bytes ≤ 8)
  (base : Nat) (hbase : base ≤ w.heap.size) (v : Value) (l : List Int) (hown : OwnI k e base w v l) (hexact : ∀ g, v.ownBlock = some g → γ.B g = some (l.length, q))
  (A : Option Addr) (c : Nat) (m : List Int) (hc : A = Option.none → c = 0) {F : Nat → Prop} (hrow : RowAt F k w A m) (hlen : l.length + m.length ≤ 17592186044416) :
  ∃ v' γ' w', (Builtin.append_ #[t, t] ty #[v, .slice A m.length c]).run P w = .ok v' w' ∧ Goes γ w γ' w' ∧ GhostIn γ' w' ∧ (∀ j, γ'.D j = true → γ.D j = true ∨ j = q) ∧ (∀ j, γ.D j = false → j ≠ q → γ'.D j = false) ∧ OwnG p k e base (l ++ m) γ' v' w' := by
 have hwf : ∀ x, x ∈ l ++ m → (Lit.int k x).wf = true := by
  intro x hx
  rcases List.mem_append.1 hx with hx | hx
  ·exact hown.2.1 x hx
  ·exact hrow.2.1 x hx
 have hll : (l ++ m).length = l.length + m.length := by simp
 have h63 : l.length + m.length ≤ maxLen := by unfold maxLen; omega
 have hbb : (l.length + m.length) * i.bytes ≤ 140737488355328 := Nat.le_trans (Nat.mul_le_mul_left _ hby) (by omega)
 have hD1 : ∀ j, γ.D j = true → (fun j => γ.D j || j == q) j = true := fun j h => by simp [h]
 have hD2 : ∀ j, (fun j => γ.D j || j == q) j = true → γ.D j = true ∨ j = q := fun j h => by simpa using h
 have hD3 : ∀ j, γ.D j = false → j ≠ q → (fun j => γ.D j || j == q) j = false := fun j h hj => by simp [h, hj]
 have grown : ∀ old : Nat, OwnG p k e base (l ++ m) ⟨fun j => if j = w.heap.size then some ((l ++ m).length, p) else γ.B j, fun j => γ.D j || j == q⟩ (.slice (some ⟨w.heap.size, 0, Option.none⟩) (l.length + m.length) (grownCap w (l.length + m.length) old e))
   (w.drew.alloc (.cells ((l.map (Value.int k)).toArray ++ (m.map (Value.int k)).toArray ++ Builtin.zeroCells (Value.int k 0).cells (grownCap w (l.length + m.length) old e - (l.length + m.length))) e)) := by
  intro old
  have hge := grownCap_ge w (l.length + m.length) old e
  have hcm := grownCap_le_maxLen w (l.length + m.length) old e h63
  refine .inr ⟨⟨⟨by simp, .inr ⟨w.heap.size, _, _, by rw [hll], hbase, heap_alloc_new w.drew _, by rw [hll]; exact hge, hcm, ?_, ?_⟩⟩, hwf, by rw [hll]; omega⟩, fun g' hg' => ?_⟩
  ·simp only [zeroCells_int, Array.size_append, List.size_toArray, List.length_map, List.length_replicate]
   omega
  ·rw [Nat.mul_one]
   simp only [Array.toList_append]
   rw [List.map_append]
   have : (l ++ m).length = (l.map (Value.int k) ++ m.map (Value.int k)).length := by simp
   rw [this]
   exact List.take_left
  ·simp [Value.ownBlock] at hg'
   subst hg'
   simp
 by_cases hm0 : m.length = 0
 ·have hm : m = [] := List.eq_nil_of_length_eq_zero hm0
  subst hm
  have hrun : (Builtin.append_ #[t, t] ty #[v, .slice A ([] : List Int).length c]).run P w = .ok v w := by
   rcases hown.1.2 with ⟨rfl, hn0⟩ | ⟨g, cap, cur, rfl, hbg, hgc, hnc, hcm, hcs, htake⟩
   ·rcases A with _ | ad
    ·rw [hc rfl]
     simp [Builtin.append_, run_underlying ht, sizeOf, typeInfo, hi, Builtin.lenOf, Builtin.firstCells]
    ·simp [Builtin.append_, run_underlying ht, sizeOf, typeInfo, hi, Builtin.lenOf, Builtin.firstCells, loadCells, loadCellsFrom]
   ·have hst := run_storeCells_at P g l.length e [] 0 cur w hgc (by simp; omega) (by simp)
    rcases A with _ | ad
    ·rw [hc rfl]
     simp [Builtin.append_, run_underlying ht, sizeOf, typeInfo, hi, Builtin.lenOf, Builtin.firstCells, hnc, storeCells]
    ·simp [Builtin.append_, run_underlying ht, sizeOf, typeInfo, hi, Builtin.lenOf, Builtin.firstCells, loadCells, loadCellsFrom, hnc, storeCells]
  refine ⟨v, ⟨fun j => match γ.B j with | some (n, r) => if r = q then some (n, p) else some (n, r) | Option.none => Option.none, fun j => γ.D j || j == q⟩, w, hrun, ⟨Keeps.refl _ w, hD1, fun j hj _ => by show (match γ.B j with | some (n, r) => if r = q then some (n, p) else some (n, r) | Option.none => Option.none) = Option.none; rw [hj], fun j n r hn => ?_, fun j x hx => ?_⟩, fun j hj => by show (match γ.B j with | some (n, r) => if r = q then some (n, p) else some (n, r) | Option.none => Option.none) = Option.none; rw [hg j hj], hD2, hD3, .inr ⟨by simpa using hown, fun g hgv => ?_⟩⟩
  ·by_cases hr : r = q
   ·exact .inl (by simp [hr])
   ·refine .inr ⟨?_, fun cur t fr hcur => ⟨cur, hcur, rfl, rfl⟩⟩
    show (match γ.B j with | some (n, r) => if r = q then some (n, p) else some (n, r) | Option.none => Option.none) = some (n, r)
    rw [hn]
    simp [hr]
  ·show ∃ p', (match γ.B j with | some (n, r) => if r = q then some (n, p) else some (n, r) | Option.none => Option.none) = some p'
   rw [hx]
   obtain ⟨n, r⟩ := x
   by_cases hr : r = q
   ·exact ⟨(n, p), by simp [hr]⟩
   ·exact ⟨(n, r), by simp [hr]⟩
  ·show (match γ.B g with | some (n, r) => if r = q then some (n, p) else some (n, r) | Option.none => Option.none) = some ((l ++ []).length, p)
   rw [hexact g hgv]
   simp
 ·rcases hrow.2.2 with h1 | ⟨g1, off, rfl, _, _, hcell⟩
  ·rw [h1] at hm0; exact absurd rfl hm0
  ·have hnews := news_cells hcell
   rcases hown.1.2 with ⟨rfl, hn0⟩ | ⟨g, cap, cur, rfl, hbg, hgc, hnc, hcm, hcs, htake⟩
   ·have hl : l = [] := List.eq_nil_of_length_eq_zero hn0
    subst hl
    have hr := run_append_nil (P := P) w t ty e i (.int k 0) ht hi hz ⟨g1, off, Option.none⟩ m.length c (m.map (Value.int k)) (by simp [hs]) hnews (by omega) (by omega) (by simp only [List.length_nil, Nat.zero_add] at hbb; omega)
    have hgr := grown 0
    have hgo := goes_new hg p ([] ++ m).length (fun j => γ.D j || j == q) hD1 (.cells ((m.map (Value.int k)).toArray ++ Builtin.zeroCells (Value.int k 0).cells (grownCap w m.length 0 e - m.length)) e)
    simp only [List.length_nil, Nat.zero_add, List.nil_append, List.map_nil, Array.empty_append] at hgr hgo ⊢
    exact ⟨_, _, _, hr, hgo.1, hgo.2, hD2, hD3, hgr⟩
   ·by_cases hroom : l.length + m.length ≤ cap
    ·have hfit : l.length * i.size + (m.map (Value.int k)).length ≤ cur.size := by rw [hs, List.length_map]; omega
     have hr := run_append_room (P := P) w t ty e i ht hi g l.length cap cur hgc ⟨g1, off, Option.none⟩ m.length c (m.map (Value.int k)) (by simp [hs]) hnews (by intro u hu; obtain ⟨_, _, rfl⟩ := List.mem_map.1 hu; rfl) hroom hfit
     rw [hs, Nat.mul_one] at hr
     rw [Nat.mul_one] at htake
     have hgq := hexact g rfl
     refine ⟨_, ⟨fun j => if j = g then some ((l ++ m).length, p) else γ.B j, fun j => γ.D j || j == q⟩, _, hr, ⟨(Keeps.refl _ w).setRow _ _ (fun _ => by rw [hgq]; rfl), hD1, fun j hj hl => ?_, fun j n r hn => ?_, fun j x hx => ?_⟩, fun j hj => ?_, hD2, hD3, .inr ⟨⟨⟨by simp, .inr ⟨g, cap, _, by rw [hll], hbg, setRow_heap w g cur _ e _ hgc, by rw [hll]; exact hroom, hcm, ?_, ?_⟩⟩, hwf, by rw [hll]; omega⟩, fun g' hg' => ?_⟩⟩
     ·have hne : j ≠ g := fun h => by rw [h, hgq] at hj; cases hj
      show (if j = g then some ((l ++ m).length, p) else γ.B j) = Option.none
      rw [if_neg hne]; exact hj
     ·by_cases hjg : j = g
      ·subst hjg
       rw [hgq] at hn
       injection hn with hn
       injection hn with hn1 hn2
       subst hn2
       exact .inl (by simp)
      ·refine .inr ⟨?_, fun cur' t' fr hcur => ⟨cur', ?_, rfl, rfl⟩⟩
       ·show (if j = g then some ((l ++ m).length, p) else γ.B j) = some (n, r)
        rw [if_neg hjg]; exact hn
       ·rw [setRow_other w g j _ hjg]; exact hcur
     ·by_cases hjg : j = g
      ·exact ⟨((l ++ m).length, p), by simp [hjg]⟩
      ·exact ⟨x, by show (if j = g then some ((l ++ m).length, p) else γ.B j) = some x; rw [if_neg hjg]; exact hx⟩
     ·rw [setRow_size] at hj
      have := hg.lt g _ hgq
      show (if j = g then some ((l ++ m).length, p) else γ.B j) = Option.none
      rw [if_neg (by omega)]; exact hg j hj
     ·simp only [List.size_toArray, List.length_append, List.length_take, List.length_drop, Array.length_toList, List.length_map]
      omega
     ·rw [Nat.mul_one, htake, List.map_append, hll]
      have : l.length + m.length = (l.map (Value.int k) ++ m.map (Value.int k)).length := by simp
      rw [this]
      exact List.take_left
     ·simp [Value.ownBlock] at hg'
      subst hg'
      simp
    ·have holds : ∀ j u, (l.map (Value.int k))[j]? = some u → w.cell? ((⟨g, 0, Option.none⟩ : Addr).add j) = some u := hown.1.cells (g := g) rfl
     have hr := run_append_grow (P := P) w t ty e i (.int k 0) ht hi hz ⟨g, 0, Option.none⟩ l.length cap (l.map (Value.int k)) (by simp [hs]) holds ⟨g1, off, Option.none⟩ m.length c (m.map (Value.int k)) (by simp [hs]) hnews (by omega) (by omega) (growslice_fits (by omega) hbb)
     have hgo := goes_new hg p (l ++ m).length (fun j => γ.D j || j == q) hD1 (.cells ((l.map (Value.int k)).toArray ++ (m.map (Value.int k)).toArray ++ Builtin.zeroCells (Value.int k 0).cells (grownCap w (l.length + m.length) cap e - (l.length + m.length))) e)
     exact ⟨_, _, _, hr, hgo.1, hgo.2, hD2, hD3, grown cap⟩
theorem exec_append {P : Program} {w w' : World} {o : Oper} {a : Act} (s x : Operand) (t tn : TypeId)
  (ho : o.op = .call { callee := .builtin .append, args := #[s, x], argTypes := #[t, tn] }) (vs vx v' : Value) (hs : a.eval s = vs) (hx : a.eval x = vx)
  (hr : (Builtin.append_ #[t, tn] o.type #[vs, vx]).run P w = .ok v' w') : (execOp a.eval o).run P w = .ok (.value v') w' := by
 unfold execOp
 simp only [ho, resolve, invoke, builtin, Sem.run_bind, Sem.run_pure, Result.andThen_ok, List.map_toArray, List.map_cons, List.map_nil, hs, hx, hr]
theorem row_new {γ : Ghost} {w : World} (hg : GhostIn γ w) (k : IntKind) (e : TypeId) (l : List Int) (h : ∀ x, x ∈ l → (Lit.int k x).wf = true) (hm : l.length ≤ 9223372036854775807) (fr : Nat × Nat := (0, 0)) :
  RowIs k l γ (.slice (some ⟨w.heap.size, 0, Option.none⟩) l.length l.length) (w.alloc (.cells (wordsOf k l) e fr)) ∧ Goes γ w γ (w.alloc (.cells (wordsOf k l) e fr)) ∧ GhostIn γ (w.alloc (.cells (wordsOf k l) e fr)) := by
 refine ⟨⟨_, _, rfl, ⟨fun h => (by cases h), Nat.le_refl _⟩, hm, h, .inr ⟨w.heap.size, 0, rfl, hg _ (Nat.le_refl _), by rw [World.size_alloc]; omega, fun j hj => ?_⟩⟩, Goes.of_more γ ((Keeps.refl _ w).alloc _) hg, fun j hj => hg j ?_⟩
 ·rw [Nat.zero_add, cell_of_row (w.alloc (.cells (wordsOf k l) e fr)) w.heap.size j _ e fr (heap_alloc_new w _), wordsOf_get k l j hj]
 ·rw [World.size_alloc] at hj; omega
end Rel2
end Go.Proofs.YtdeigmjbcbjgeaaGreatDoor
