/-
  The machine of plain values: more known, the same answer; what operations wait for; regions.
-/
import Derived.RegionTactic
import Derived.Test.YtdeigmjbcbjgeaaGreatDoorYdZ3
import Derived.Test.YtdeigmjbcbjgeaaGreatDoorYdRel
namespace Go.Proofs.YtdeigmjbcbjgeaaGreatDoor
open Go.RowKit

section
variable {E : Env} {ρ ρ' : Nat → LV} {β β' : Nat → Option Blk}

theorem evalO_mono (hρ : ∀ t, ρ t = .poison ∨ ρ t = ρ' t) {x : Operand} {u : LV} (h : evalO ρ x = some u) : evalO ρ' x = some u := by
  cases x with
  | tmp t =>
    simp only [evalO] at h ⊢
    rcases hρ t with e | e
    · rw [e] at h; cases h
    · rw [← e]; exact h
  | _ => exact h
theorem optMap_mono {α γ : Type} {f g : α → Option γ} (hf : ∀ x y, f x = some y → g x = some y) : ∀ {l : List α} {r : List γ}, optMap f l = some r → optMap g l = some r
  | [], r, h => h
  | x :: l, r, h => by
    unfold optMap at h ⊢
    split at h
    · rename_i y l' h1 h2
      rw [hf _ _ h1, optMap_mono hf h2]
      exact h
    · cases h
theorem expo_mono (hβ : ∀ b, β b = none ∨ β b = β' b) : ∀ (D : Nat) (u d : LV), expo β D u = some d → expo β' D u = some d := by
  intro D
  induction D with
  | zero =>
    intro u d h
    cases u with
    | agg x => cases x <;> exact h
    | _ => exact h
  | succ D ih =>
    intro u d h
    have hb : ∀ {b : Nat} {k : Blk}, β b = some k → β' b = some k := fun {b k} hk => by
      rcases hβ b with e | e
      · rw [e] at hk; cases hk
      · rw [← e]; exact hk
    have hm : ∀ {l r : List LV}, optMap (expo β D) l = some r → optMap (expo β' D) l = some r := fun h => optMap_mono ih h
    cases u with
    | agg x =>
      cases x with
      | flat k l => exact h
      | gen l =>
        simp only [expo] at h ⊢
        rcases hq : optMap (expo β D) l with _ | l'
        · rw [hq] at h; cases h
        · rw [hq] at h; rw [hm hq]; exact h
    | tup l =>
      simp only [expo] at h ⊢
      rcases hq : optMap (expo β D) l with _ | l'
      · rw [hq] at h; cases h
      · rw [hq] at h; rw [hm hq]; exact h
    | iface t u =>
      simp only [expo] at h ⊢
      rcases hq : expo β D u with _ | u'
      · rw [hq] at h; cases h
      · rw [hq] at h; rw [ih _ _ hq]; exact h
    | ptr b off =>
      simp only [expo] at h ⊢
      split at h
      · rename_i k hk
        rw [hb hk]
        simp only
        rcases hq : k.x.cut off (k.x.len - off) with _ | y
        · rw [hq] at h; cases h
        · rw [hq] at h
          rcases y with ⟨kk, l⟩ | l
          · exact h
          · simp only at h ⊢
            rcases hq2 : optMap (expo β D) l with _ | l'
            · rw [hq2] at h; cases h
            · rw [hq2] at h; rw [hm hq2]; exact h
      · cases h
    | sl z b off n c =>
      simp only [expo] at h ⊢
      split at h
      · rename_i k hk
        rw [hb hk]
        simp only
        rcases hq : k.x.cut off (n * z) with _ | y
        · rw [hq] at h; cases h
        · rw [hq] at h
          rcases y with ⟨kk, l⟩ | l
          · exact h
          · simp only at h ⊢
            rcases hq2 : optMap (expo β D) l with _ | l'
            · rw [hq2] at h; cases h
            · rw [hq2] at h; rw [hm hq2]; exact h
      · cases h
    | _ => exact h
theorem shown_mono (hβ : ∀ b, β b = none ∨ β b = β' b) {z : Nat} {u : LV} {r : Cont × Nat} (h : shown β z u = some r) : shown β' z u = some r := by
  unfold shown at h ⊢
  split at h
  · exact h
  · rename_i z' b off n c
    split at h
    · rename_i hz
      rw [if_pos hz]
      rcases hβ b with e | e
      · rw [e] at h; cases h
      · rw [← e]; exact h
    · cases h
  · exact h
  · cases h
theorem convV_mono (hβ : ∀ b, β b = none ∨ β b = β' b) {src dst : Nat} {u r : LV} (h : convV E β src dst u = some r) : convV E β' src dst u = some r := by
  unfold convV at h ⊢
  split at h
  · exact h
  · split at h
    · rename_i h1 h2
      simp only [h1, shown_mono hβ h2]
      exact h
    · rename_i h1 h2
      simp only [h1, shown_mono hβ h2]
      exact h
    · cases h
  · exact h
  · cases h
theorem vopX_mono (hβ : ∀ b, β b = none ∨ β b = β' b) {d : Nat} {op : Op} {xs : List LV} {r : LV × List (Nat × Blk)} (h : vopX E β d op xs = some r) : vopX E β' d op xs = some r := by
  cases op with
  | load t x =>
    obtain ⟨x', rfl, he⟩ := with1_of h
    show opLoad E β' t x' = some r
    unfold opLoad at he ⊢
    split at he
    · split at he
      · rename_i b off
        rcases hβ b with e | e
        · rw [e] at he; cases he
        · rw [← e]; exact he
      · exact he
      · cases he
    · cases he
  | convert src dst x =>
    obtain ⟨x', rfl, he⟩ := with1_of h
    obtain ⟨h1, h2⟩ := just_ok (u' := r.1) (bs := r.2) he
    show just (convV E β' src dst x') = some r
    rw [convV_mono hβ h1, ← he, h1]
  | call c =>
    obtain ⟨callee, args, ts⟩ := c
    simp only [vopX, callX] at h ⊢
    split at h
    · rename_i f
      show opCall E β' d f xs.tail = some r
      obtain ⟨ds, q, h1, h2, h3, h4, h5⟩ := opCall_of (u := r.1) (bs := r.2) h
      unfold opCall
      rw [h5]
      simp only
      rw [optMap_mono (expo_mono hβ expoD) h1]
      simp only [h2]
      rw [if_pos h3, h4]
    · exact h
    · exact h
    · cases h
  | makeFunc fn first caps => cases fn <;> exact h
  | _ => exact h
theorem vop_mono (hρ : ∀ t, ρ t = .poison ∨ ρ t = ρ' t) (hβ : ∀ b, β b = none ∨ β b = β' b) {d : Nat} {op : Op} {r : LV × List (Nat × Blk)} (h : vop E ρ β d op = some r) : vop E ρ' β' d op = some r := by
  unfold vop at h ⊢
  split at h
  · rename_i c x y
    split at h
    · rename_i hc
      rw [evalO_mono hρ hc]
      rcases hq : evalO ρ x with _ | u
      · rw [hq] at h; cases h
      · rw [hq] at h; simp only; rw [evalO_mono hρ hq]; exact h
    · rename_i hc
      rw [evalO_mono hρ hc]
      rcases hq : evalO ρ y with _ | u
      · rw [hq] at h; cases h
      · rw [hq] at h; simp only; rw [evalO_mono hρ hq]; exact h
    · cases h
  · rename_i hno
    split at h
    · rename_i xs hxs
      rw [optMap_mono (fun _ _ => evalO_mono hρ) hxs]
      exact vopX_mono hβ h
    · cases h
theorem wantL_mono (hρ : ∀ t, ρ t = .poison ∨ ρ t = ρ' t) {ops : List Oper} {o : Oper} {b : Bool} (h : wantL ops ρ o = some b) : wantL ops ρ' o = some b := by
  unfold wantL at h ⊢
  split at h
  · exact h
  · split at h
    · rename_i d hd
      rcases hρ d with e | e
      · rw [e] at h; cases h
      · rw [← e]; exact h
    · cases h

/-- The blocks that an operation makes bear its slot's number. -/
theorem vop_ids {d : Nat} {op : Op} {u : LV} {bs : List (Nat × Blk)} (h : vop E ρ β d op = some (u, bs)) : ∀ p ∈ bs, p.1 / 8 = d := by
  have one : ∀ {k : Blk}, ∀ p ∈ [(8 * d, k)], p.1 / 8 = d := fun p hp => by simp at hp; subst hp; simp
  have none' : bs = [] → ∀ p ∈ bs, p.1 / 8 = d := fun e p hp => by rw [e] at hp; simp at hp
  have hj : ∀ {x : Option LV}, just x = some (u, bs) → ∀ p ∈ bs, p.1 / 8 = d := fun h => none' (just_ok h).2
  have hjA : ∀ {x : Option Cont}, justA x = some (u, bs) → ∀ p ∈ bs, p.1 / 8 = d := fun {x} h => by
    unfold justA at h; split at h
    · cases h; exact none' rfl
    · cases h
  have hjP : ∀ {x : Option Cont}, justP x = some (u, bs) → ∀ p ∈ bs, p.1 / 8 = d := fun {x} h => by
    unfold justP at h; split at h
    · cases h; exact none' rfl
    · cases h
  have hload : ∀ {x : Cont} {o s : Nat} {g : Bool}, loadC x o s g = some (u, bs) → ∀ p ∈ bs, p.1 / 8 = d := fun {x o s g} h => by
    unfold loadC at h; split at h
    · exact hjA h
    · exact hj h
  unfold vop at h
  split at h
  · split at h
    · rename_i x y _ _
      rcases hq : evalO ρ x with _ | u' <;> rw [hq] at h <;> cases h
      exact none' rfl
    · rename_i x y _ _
      rcases hq : evalO ρ y with _ | u' <;> rw [hq] at h <;> cases h
      exact none' rfl
    · cases h
  · split at h
    · rename_i xs hxs
      cases op with
      | move x => obtain ⟨x', rfl, he⟩ := with1_of h; cases he; exact none' rfl
      | assign x => obtain ⟨x', rfl, he⟩ := with1_of h; cases he; exact none' rfl
      | alloc t =>
        simp only [vopX, opAlloc] at h
        split at h
        · cases h; exact one
        · cases h
      | box t x =>
        obtain ⟨x', rfl, he⟩ := with1_of h
        unfold opBox at he; split at he
        · cases he; exact one
        · cases he
      | build t ps =>
        simp only [vopX, opBuild] at h
        split at h
        · split at h
          · cases h; exact none' rfl
          · cases h
        · exact hjA h
        · cases h
      | buildSlice t len ps =>
        simp only [vopX, opBuildSlice] at h
        split at h
        · split at h
          · split at h
            · split at h
              · cases h; exact one
              · cases h
            · cases h
          · cases h
        · cases h
      | load t x =>
        obtain ⟨x', rfl, he⟩ := with1_of h
        unfold opLoad at he; split at he
        · split at he
          · split at he
            · exact hload he
            · cases he
          · exact hload he
          · cases he
        · cases he
      | sliceToArrayPointer t x =>
        obtain ⟨x', rfl, he⟩ := with1_of h
        unfold opToArr at he; split at he
        · split at he
          · split at he
            · cases he; exact none' rfl
            · cases he
          · split at he
            · cases he; exact none' rfl
            · cases he
          · cases he
        · cases he
      | nilCheck x =>
        obtain ⟨x', rfl, he⟩ := with1_of h
        unfold opNil at he; split at he <;> cases he <;> exact none' rfl
      | binOp op t x y ty =>
        obtain ⟨x', y', rfl, he⟩ := with2_of h
        unfold opBin at he; split at he
        · split at he
          · exact hj he
          · cases he
        · split at he
          · split at he
            · split at he
              · exact hj he
              · cases he
            · cases he
          · cases he
        · exact hj he
      | unOp op t x => obtain ⟨x', rfl, he⟩ := with1_of h; exact hj he
      | convert s t x => obtain ⟨x', rfl, he⟩ := with1_of h; exact hj he
      | fieldAddr s x f =>
        obtain ⟨x', rfl, he⟩ := with1_of h
        unfold opFieldAddr at he; split at he
        · split at he
          · split at he
            · cases he
            · split at he
              · cases he; exact none' rfl
              · exact hjP he
              · cases he
          · cases he
        · cases he
      | field s x f =>
        obtain ⟨x', rfl, he⟩ := with1_of h
        unfold opField at he; split at he
        · split at he
          · split at he
            · exact hload he
            · cases he
          · cases he
        · cases he
      | indexAddr t x i =>
        obtain ⟨x', y', rfl, he⟩ := with2_of h
        unfold opIndexAddr at he; split at he
        · split at he
          · split at he
            · cases he; exact none' rfl
            · exact hjP he
            · cases he
          · cases he
        · split at he
          · split at he
            · cases he; exact none' rfl
            · cases he
          · split at he
            · exact hjP he
            · cases he
          · cases he
        · cases he
      | index t x i =>
        obtain ⟨x', y', rfl, he⟩ := with2_of h
        unfold opIndex at he; split at he
        · split at he
          · split at he
            · exact hload he
            · cases he
          · cases he
        · cases he
      | extract x i =>
        obtain ⟨x', rfl, he⟩ := with1_of h
        unfold opExtract at he; split at he
        · exact hj he
        · cases he
      | makeSlice t l c =>
        obtain ⟨x', y', rfl, he⟩ := with2_of h
        unfold opMakeSlice at he; split at he
        · split at he
          · split at he
            · cases he; exact one
            · cases he
          · cases he
        · cases he
      | slice t x lo hi mx =>
        simp only [vopX] at h
        split at h
        · unfold opSlice at h; split at h
          · split at h
            · split at h
              · cases h; exact none' rfl
              · cases h
            · cases h
          · split at h
            · split at h
              · split at h
                · cases h; exact none' rfl
                · cases h
              · cases h
            · split at h
              · split at h
                · split at h
                  · split at h
                    · cases h; exact none' rfl
                    · cases h
                  · cases h
                · cases h
              · cases h
            · split at h
              · cases h; exact none' rfl
              · cases h
            · cases h
          · cases h
        · cases h
      | call c =>
        obtain ⟨callee, args, ts⟩ := c
        simp only [vopX, callX] at h
        split at h
        · obtain ⟨ds, q, h1, h2, h3, h4, _⟩ := opCall_of h
          cases q with
          | one r =>
            have hu : (u, bs) = r.out (8 * d) := by simpa [LRes.out] using h4.symm
            cases r with
            | val v => simp only [RC.out, Prod.mk.injEq] at hu; exact none' hu.2
            | own z n e x => simp only [RC.out, Prod.mk.injEq] at hu; rw [hu.2]; exact one
            | optr e x => simp only [RC.out, Prod.mk.injEq] at hu; rw [hu.2]; exact one
          | many l =>
            simp only [LRes.out] at h4
            split at h4
            · rename_i hl
              cases h4
              intro p hp
              obtain ⟨i, _, k, h5, _, rfl⟩ := outAll_blk l (8 * d) p hp
              have := lt_of_get h5
              simp only
              omega
            · cases h4
        · split at h
          · unfold opLen at h
            split at h
            · split at h <;> cases h <;> exact none' rfl
            · split at h
              · cases h; exact none' rfl
              · cases h
            · cases h
          · cases h
        · unfold opMin at h
          split at h
          · cases h; exact none' rfl
          · cases h
        · cases h
      | makeFunc fn first caps =>
        cases fn with
        | func f =>
          simp only [vopX] at h
          split at h
          · cases h; exact none' rfl
          · cases h
        | _ => simp [vopX] at h
      | _ => simp [vopX] at h
    · cases h
end
end Go.Proofs.YtdeigmjbcbjgeaaGreatDoor
/-
  The machine of plain values: a region whose order is drawn, whatever the order.
-/
namespace Go.Proofs.YtdeigmjbcbjgeaaGreatDoor
open Go.RowKit

/-- A region whose order is drawn, by what holds of the operations that have been carried out. -/
theorem wpAny_inv {P : Program} {ops : Array Oper} {Q : Exit → Act → World → Prop} (I : (Nat → Bool) → Act → World → Prop)
    (hback : ∀ (i : Nat) (o : Oper) (e : Edge), ops[i]? = some o → e ∈ o.after → Region.binds .any e = true → e.on < i)
    (hstep : ∀ (S : Nat → Bool) (i : Nat) (o : Oper) (a : Act) (w : World), I S a w → ops[i]? = some o → S i = false → (∀ e ∈ o.after, Region.binds .any e = true → S e.on = true) → wpOp P ops Q i (I fun j => if j = i then true else S j) a w)
    (hfin : ∀ (S : Nat → Bool) (a : Act) (w : World), I S a w → (∀ j, j < ops.size → S j = true) → Q .normal a w) :
    ∀ (fuel : Nat) (listed : Array Bool) (a : Act) (w : World), listed.size = ops.size → listed.toList.count false ≤ fuel → I (fun j => listed.getD j false) a w → wpAny P .any ops Q fuel listed a w := by
  have hempty : ∀ (listed : Array Bool), listed.size = ops.size → Region.ready .any ops listed = [] → ∀ j, j < ops.size → listed.getD j false = true := by
    intro listed hs hr j
    induction j using Nat.strongRecOn with
    | _ j ih =>
      intro hj
      rcases hb : listed.getD j false with _ | _
      · exfalso
        have hmem : j ∈ Region.ready .any ops listed := mem_ready.2 ⟨by
          have : j < listed.size := by omega
          simpa [this] using hb, ops[j], Array.getElem?_eq_getElem hj, fun e he hb => ih e.on (hback j _ e (Array.getElem?_eq_getElem hj) he hb) (by
            have := hback j _ e (Array.getElem?_eq_getElem hj) he hb; omega)⟩
        rw [hr] at hmem
        cases hmem
      · rfl
  intro fuel
  induction fuel with
  | zero =>
    intro listed a w hs hc h
    have hno : ∀ j, j < ops.size → listed.getD j false = true := by
      intro j hj
      rcases hb : listed.getD j false with _ | _
      · exfalso
        have hjl : j < listed.size := by omega
        have hm : false ∈ listed.toList := by
          have : listed[j] = false := by simpa [hjl] using hb
          rw [← this]
          simp
        have := List.count_pos_iff.2 hm
        omega
      · rfl
    refine ⟨?_, hfin _ a w h hno⟩
    rcases hr : Region.ready .any ops listed with _ | ⟨j, rs⟩
    · rfl
    · exfalso
      have hm : j ∈ Region.ready .any ops listed := by rw [hr]; simp
      obtain ⟨hu, o, ho, _⟩ := mem_ready.1 hm
      have hj := (Array.getElem?_eq_some_iff.1 ho).1
      have := hno j hj
      have hjl : j < listed.size := by omega
      simp [hjl] at hu this
      rw [hu] at this
      cases this
  | succ fuel ih =>
    intro listed a w hs hc h
    refine ⟨fun hr => hfin _ a w h (hempty listed hs hr), fun i hi => ?_⟩
    obtain ⟨hu, o, ho, haft⟩ := mem_ready.1 hi
    have hil : i < listed.size := by have := (Array.getElem?_eq_some_iff.1 ho).1; omega
    have hcount : (listed.setIfInBounds i true).toList.count false ≤ fuel := by
      have h1 := count_set_true listed.toList i (by
        have : listed[i] = false := by simpa [hil] using hu
        simp [hil, this])
      rw [Array.toList_setIfInBounds]
      omega
    have hS : (fun j => (listed.setIfInBounds i true).getD j false) = fun j => if j = i then true else listed.getD j false := by
      funext j
      simp only [Array.getD_eq_getD_getElem?]
      by_cases hji : j = i
      · subst hji; simp [hil]
      · rw [Array.getElem?_setIfInBounds_ne (fun e => hji e.symm)]; simp [hji]
    refine wpOp_mono (fun a' w' h' => ih _ a' w' (by simpa using hs) hcount (by rw [hS]; exact h')) (hstep _ i o a w h ho ?_ (fun e he hb => ?_))
    · simpa [hil] using hu
    · have := haft e he hb
      simpa using this

/-! what operations wait for -/
def maskOf (ds : List Nat) (o : Oper) : Nat := o.after.toList.foldl (fun s e => if Region.binds .any e then s ||| (1 <<< e.on) ||| ds.getD e.on 0 else s) 0
theorem maskOf_bit (ds : List Nat) : ∀ (l : List Edge) (s j : Nat), Nat.testBit (l.foldl (fun s e => if Region.binds .any e then s ||| (1 <<< e.on) ||| ds.getD e.on 0 else s) s) j = true →
    Nat.testBit s j = true ∨ ∃ e ∈ l, Region.binds .any e = true ∧ (e.on = j ∨ Nat.testBit (ds.getD e.on 0) j = true)
  | [], s, j, h => .inl h
  | e :: l, s, j, h => by
    simp only [List.foldl_cons] at h
    rcases maskOf_bit ds l _ j h with h | ⟨e', he', h⟩
    · split at h
      · rename_i hb
        simp only [Nat.testBit_or, Bool.or_eq_true] at h
        rcases h with (h | h) | h
        · exact .inl h
        · refine .inr ⟨e, List.mem_cons_self .., hb, .inl ?_⟩
          rw [Nat.one_shiftLeft, Nat.testBit_two_pow] at h
          simpa using h
        · exact .inr ⟨e, List.mem_cons_self .., hb, .inr h⟩
      · exact .inl h
    · exact .inr ⟨e', List.mem_cons_of_mem _ he', h⟩
theorem deps_spec : ∀ (l : List Oper) (acc : List Nat), (deps l acc).length = acc.length + l.length ∧ (∀ i, i < acc.length → (deps l acc)[i]? = acc[i]?) ∧
    ∀ (j : Nat) (o : Oper), l[j]? = some o → (deps l acc).getD (acc.length + j) 0 = maskOf ((deps l acc).take (acc.length + j)) o
  | [], acc => by simp [deps]
  | o :: l, acc => by
    have e : deps (o :: l) acc = deps l (acc ++ [maskOf acc o]) := by
      show natK _ _ = _
      rw [natK_eq]; rfl
    obtain ⟨h1, h2, h3⟩ := deps_spec l (acc ++ [maskOf acc o])
    rw [e]
    simp only [List.length_append, List.length_singleton] at h1 h2 h3
    have hpre : (deps l (acc ++ [maskOf acc o])).take acc.length = acc := by
      apply List.ext_getElem?
      intro i
      rw [List.getElem?_take]
      split
      · rename_i hi
        rw [h2 i (by omega), List.getElem?_append_left hi]
      · rw [List.getElem?_eq_none (by omega)]
    refine ⟨by rw [h1]; simp; omega, fun i hi => ?_, fun j o' hj => ?_⟩
    · rw [h2 i (by omega), List.getElem?_append_left hi]
    · cases j with
      | zero =>
        simp at hj
        subst hj
        rw [Nat.add_zero, hpre, List.getD_eq_getElem?_getD, h2 acc.length (by omega), List.getElem?_append_right (Nat.le_refl _)]
        simp
      | succ j =>
        have := h3 j o' (by simpa using hj)
        rwa [show acc.length + 1 + j = acc.length + (j + 1) by omega] at this
/-- All that an operation waits for lies in a set that is shut, if what it waits for at once does. -/
theorem deps_in {ops : List Oper} (hback : ∀ (i : Nat) (o : Oper) (e : Edge), ops[i]? = some o → e ∈ o.after → Region.binds .any e = true → e.on < i) {S : Nat → Bool}
    (hS : ∀ (i : Nat) (o : Oper), ops[i]? = some o → S i = true → ∀ e ∈ o.after, Region.binds .any e = true → S e.on = true) :
    ∀ (i : Nat) (o : Oper), ops[i]? = some o → (∀ e ∈ o.after, Region.binds .any e = true → S e.on = true) → ∀ j, Nat.testBit ((deps ops []).getD i 0) j = true → S j = true := by
  intro i
  induction i using Nat.strongRecOn with
  | _ i ih =>
    intro o ho hd j hj
    obtain ⟨h1, h2, h3⟩ := deps_spec ops []
    have h3' := h3 i o ho
    simp only [List.length_nil, Nat.zero_add] at h3' h1
    rw [h3'] at hj
    rcases maskOf_bit _ _ _ _ hj with h | ⟨e, he, hb, h⟩
    · simp at h
    · have hmem : e ∈ o.after := by simpa using he
      have hlt := hback i o e ho hmem hb
      have hSe := hd e hmem hb
      rcases h with h | h
      · rw [← h]; exact hSe
      · rw [List.getD_eq_getElem?_getD, List.getElem?_take, if_pos hlt, ← List.getD_eq_getElem?_getD] at h
        have hil := lt_of_get ho
        obtain ⟨o', ho'⟩ : ∃ o', ops[e.on]? = some o' := ⟨_, List.getElem?_eq_getElem (show e.on < ops.length by omega)⟩
        exact ih e.on hlt o' ho' (hS e.on o' ho' hSe) j h
theorem tailAt_spec (ds : List Nat) : ∀ N, tailAt ds N ≤ N ∧ ∀ k, tailAt ds N ≤ k → k < N → ds.getD k 0 = 2 ^ k - 1
  | 0 => by simp [tailAt]
  | N + 1 => by
    obtain ⟨h1, h2⟩ := tailAt_spec ds N
    unfold tailAt
    split
    · rename_i h
      refine ⟨by omega, fun k hk hkN => ?_⟩
      by_cases e : k = N
      · subst e; simpa using h
      · exact h2 k hk (by omega)
    · exact ⟨Nat.le_refl _, fun k hk hkN => by omega⟩

theorem backOne_spec (ops : List Oper) (st : St) (ds : List Nat) : ∀ n, backOne ops st ds n ≤ n ∧ ∀ k, backOne ops st ds n ≤ k → k < n → floatAt ops st ds k = true
  | 0 => ⟨Nat.le_refl _, fun k _ h => absurd h (by omega)⟩
  | n + 1 => by
    obtain ⟨h1, h2⟩ := backOne_spec ops st ds n
    unfold backOne
    split
    · rename_i h
      refine ⟨by omega, fun k hk hkn => ?_⟩
      by_cases e : k = n
      · rw [e]; exact h
      · exact h2 k hk (by omega)
    · exact ⟨Nat.le_refl _, fun k hk hkn => absurd hkn (by omega)⟩
theorem tail2_spec (ops : List Oper) (st : St) (ds : List Nat) : ∃ N1, tail2 ops st ds ≤ N1 ∧ N1 ≤ ops.length ∧ (∀ k, tail2 ops st ds ≤ k → k < N1 → floatAt ops st ds k = true) ∧ ∀ k, N1 ≤ k → k < ops.length → ds.getD k 0 = 2 ^ k - 1 := by
  obtain ⟨h1, h2⟩ := tailAt_spec ds ops.length
  rw [tail2, natK_eq]
  generalize tailAt ds ops.length = n at h1 h2
  obtain ⟨h3, h4⟩ := backOne_spec ops st ds n
  exact ⟨n, h3, h1, h4, h2⟩
/-- The block of an address that stays, or that is made of one that stays. -/
def AddrAt (ops : List Oper) (n : Nat) (st : St) (y b : Nat) : Prop := (∃ o, st.slot y = .ptr b o ∧ ∀ (j : Nat) (q : Oper), ops[j]? = some q → q.dst ≠ some y) ∨
  ∃ (j : Nat) (q : Oper) (z o : Nat), j < n ∧ ops[j]? = some q ∧ q.dst = some y ∧ q.guard = none ∧ y < st.tmps.length ∧ ((∃ t i, q.op = .indexAddr t (.tmp z) i) ∨ ∃ t f, q.op = .fieldAddr t (.tmp z) f) ∧ st.slot z = .ptr b o ∧ ∀ (j : Nat) (q : Oper), ops[j]? = some q → q.dst ≠ some z
def Floats (ops : List Oper) (n : Nat) (st : St) (op : Op) (x : Operand) : Prop := pureT op = true ∨ ∃ t y x' b b', op = .load t (.tmp y) ∧ x = .tmp x' ∧ AddrAt ops n st y b ∧ b ≠ b' ∧ ((∃ o', st.slot x' = .ptr b' o' ∧ ∀ (j : Nat) (q : Oper), ops[j]? = some q → q.dst ≠ some x') ∨
  (b' = 8 * x' ∧ x' < st.tmps.length ∧ ∃ j q t', j < n ∧ ops[j]? = some q ∧ q.op = .alloc t' ∧ q.guard = none ∧ q.dst = some x'))
theorem madeT_of {ops : List Oper} {k t : Nat} (h : madeT ops k t = true) : ∃ j q t', j < k ∧ ops[j]? = some q ∧ q.op = .alloc t' ∧ q.guard = none ∧ q.dst = some t := by
  unfold madeT at h
  rw [List.any_eq_true] at h
  obtain ⟨j, hj, h⟩ := h
  split at h
  · rename_i q hq
    split at h
    · rename_i t' hop hg
      exact ⟨j, q, t', List.mem_range.1 hj, hq, hop, hg, by simpa using h⟩
    · cases h
  · cases h
theorem staysT_of {ops : List Oper} {t : Nat} (h : staysT ops t = true) (j : Nat) (q : Oper) (hq : ops[j]? = some q) : q.dst ≠ some t := by
  have := List.all_eq_true.1 h q (List.mem_of_getElem? hq)
  simpa using this
theorem ptrB_of {st : St} {z b : Nat} (h : ptrB st z = some b) : ∃ o, st.slot z = .ptr b o := by
  unfold ptrB at h
  split at h
  · rename_i b' o hz
    cases h
    exact ⟨o, hz⟩
  · cases h
theorem addrB_of {ops : List Oper} {n : Nat} {st : St} {y b : Nat} (h : addrB ops n st y = some b) : AddrAt ops n st y b := by
  unfold addrB at h
  split at h
  · rename_i hs
    obtain ⟨o, ho⟩ := ptrB_of h
    exact .inl ⟨o, ho, staysT_of hs⟩
  · split at h
    · rename_i hlt
      obtain ⟨j, hj, h⟩ := List.exists_of_findSome?_eq_some h
      have hj := List.mem_range.1 hj
      split at h
      · rename_i q hq
        split at h
        · rename_i t z i hop hg
          split at h
          · rename_i hc
            rw [Bool.and_eq_true] at hc
            obtain ⟨o, ho⟩ := ptrB_of h
            exact .inr ⟨j, q, z, o, hj, hq, by simpa using hc.1, hg, hlt, .inl ⟨t, i, hop⟩, ho, staysT_of hc.2⟩
          · cases h
        · rename_i t z f hop hg
          split at h
          · rename_i hc
            rw [Bool.and_eq_true] at hc
            obtain ⟨o, ho⟩ := ptrB_of h
            exact .inr ⟨j, q, z, o, hj, hq, by simpa using hc.1, hg, hlt, .inr ⟨t, f, hop⟩, ho, staysT_of hc.2⟩
          · cases h
        · cases h
      · cases h
    · cases h
theorem floats_of {ops : List Oper} {n : Nat} {st : St} {op : Op} {x : Operand} (h : floats ops n st op x = true) : Floats ops n st op x := by
  unfold floats at h
  rw [Bool.or_eq_true] at h
  rcases h with h | h
  · exact .inl h
  · split at h
    · rename_i t y x'
      split at h
      · rename_i b hb
        have hb := addrB_of hb
        split at h
        · rename_i h2
          split at h
          · rename_i b' o' hb'
            exact .inr ⟨t, y, x', b, b', rfl, rfl, hb, by simpa using h, .inl ⟨o', hb', staysT_of h2⟩⟩
          · cases h
        · simp only [Bool.and_eq_true, decide_eq_true_eq] at h
          exact .inr ⟨t, y, x', b, 8 * x', rfl, rfl, hb, by simpa using h.1.2, .inr ⟨rfl, h.2, madeT_of h.1.1⟩⟩
      · cases h
    · cases h
theorem floatAt_of {ops : List Oper} {st : St} {ds : List Nat} {k : Nat} (h : floatAt ops st ds k = true) : ∃ o t x v, ops[k]? = some o ∧ o.op = .store t x v ∧ o.dst = none ∧ o.guard = none ∧
    ∀ j, j < k → Nat.testBit (ds.getD k 0) j = false → ∃ p d, ops[j]? = some p ∧ Floats ops k st p.op x ∧ p.dst = some d ∧ p.guard = none ∧ x ≠ .tmp d ∧ v ≠ .tmp d := by
  unfold floatAt at h
  split at h
  · rename_i o ho
    split at h
    · rename_i t x v hop hd hg
      refine ⟨o, t, x, v, ho, hop, hd, hg, fun j hj hb => ?_⟩
      have := List.all_eq_true.1 h j (by simpa using hj)
      rw [hb, Bool.false_or] at this
      split at this
      · rename_i p hp
        unfold isExt at this
        split at this
        · rename_i d hd' hg'
          simp only [Bool.and_eq_true, Bool.not_eq_true'] at this
          refine ⟨p, d, hp, floats_of this.1.1, hd', hg', ?_, ?_⟩
          · rintro rfl; simp [isTmp] at this
          · rintro rfl; simp [isTmp] at this
        · cases this
      · cases this
    · cases h
  · cases h

theorem regB_of {ops : List Oper} (h : regB ops = true) : (∀ (i j : Nat) (o p : Oper) (d : Tmp), ops[i]? = some o → ops[j]? = some p → o.dst = some d → p.dst = some d → i = j) ∧
    ∀ (i : Nat) (o : Oper) (e : Edge), ops[i]? = some o → e ∈ o.after → Region.binds .any e = true → e.on < i := by
  simp only [regB, Bool.and_eq_true, List.all_eq_true, List.mem_range] at h
  refine ⟨fun i j o p d hi hj hdi hdj => ?_, fun i o e hi he hb => ?_⟩
  · have := h.1 i (lt_of_get hi) j (lt_of_get hj)
    rw [hi, hj] at this
    simpa [hdi, hdj] using this
  · have := h.2 i (lt_of_get hi)
    rw [hi] at this
    simp only [List.all_eq_true] at this
    have := this e (by simpa using he)
    rw [hb] at this
    simpa using this
theorem vis_iff {ops : List Oper} {S : Nat → Bool} {t : Nat} : vis ops S t = true ↔ ∀ (j : Nat) (o : Oper), ops[j]? = some o → o.dst = some t → S j = true := by
  simp only [vis, List.all_eq_true, List.mem_range, Bool.or_eq_true, bne_iff_ne, ne_eq]
  constructor
  · intro h j o hj hd
    rcases h j (lt_of_get hj) with h | h
    · exact absurd (by rw [hj]; exact hd) h
    · exact h
  · intro h j hj
    rcases hq : ops[j]? with _ | o
    · rw [List.getElem?_eq_getElem hj] at hq; cases hq
    · by_cases hd : o.dst = some t
      · exact .inr (h j o hq hd)
      · exact .inl (by simpa using hd)
end Go.Proofs.YtdeigmjbcbjgeaaGreatDoor
