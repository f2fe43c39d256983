/-
  The machine of plain values: more known, the same answer; what operations wait for; regions.
-/
import Derived.RegionTactic
import Derived.Test.YtdeigmjbcbjgeaaGreatDoorYaMF
namespace Go.Proofs.YtdeigmjbcbjgeaaGreatDoor
open Go.RowKit

section
variable {E : Env} {ρ ρ' : Nat → LV} {β β' : Nat → Option Blk}

theorem evalO_mono (hρ : ∀ t, ρ t = .poison ∨ ρ t = ρ' t) {x : Operand} {u : LV} (h : evalO ρ x = some u) : evalO ρ' x = some u := by
  cases x with
  | tmp t =>
    simp only [evalO] at h ⊢
    rcases hρ t with e | e
    · rw [e] at h; cases h
    · rw [← e]; exact h
  | _ => exact h
theorem optMap_mono {α γ : Type} {f g : α → Option γ} (hf : ∀ x y, f x = some y → g x = some y) : ∀ {l : List α} {r : List γ}, optMap f l = some r → optMap g l = some r
  | [], r, h => h
  | x :: l, r, h => by
    unfold optMap at h ⊢
    split at h
    · rename_i y l' h1 h2
      rw [hf _ _ h1, optMap_mono hf h2]
      exact h
    · cases h
theorem expo_mono (hβ : ∀ b, β b = none ∨ β b = β' b) : ∀ (D : Nat) (u d : LV), expo β D u = some d → expo β' D u = some d := by
  intro D
  induction D with
  | zero =>
    intro u d h
    cases u with
    | agg x => cases x <;> exact h
    | _ => exact h
  | succ D ih =>
    intro u d h
    have hb : ∀ {b : Nat} {k : Blk}, β b = some k → β' b = some k := fun {b k} hk => by
      rcases hβ b with e | e
      · rw [e] at hk; cases hk
      · rw [← e]; exact hk
    have hm : ∀ {l r : List LV}, optMap (expo β D) l = some r → optMap (expo β' D) l = some r := fun h => optMap_mono ih h
    cases u with
    | agg x =>
      cases x with
      | flat k l => exact h
      | gen l =>
        simp only [expo] at h ⊢
        rcases hq : optMap (expo β D) l with _ | l'
        · rw [hq] at h; cases h
        · rw [hq] at h; rw [hm hq]; exact h
    | tup l =>
      simp only [expo] at h ⊢
      rcases hq : optMap (expo β D) l with _ | l'
      · rw [hq] at h; cases h
      · rw [hq] at h; rw [hm hq]; exact h
    | iface t u =>
      simp only [expo] at h ⊢
      rcases hq : expo β D u with _ | u'
      · rw [hq] at h; cases h
      · rw [hq] at h; rw [ih _ _ hq]; exact h
    | ptr b off =>
      simp only [expo] at h ⊢
      split at h
      · rename_i k hk
        rw [hb hk]
        simp only
        rcases hq : k.x.cut off (k.x.len - off) with _ | y
        · rw [hq] at h; cases h
        · rw [hq] at h
          rcases y with ⟨kk, l⟩ | l
          · exact h
          · simp only at h ⊢
            rcases hq2 : optMap (expo β D) l with _ | l'
            · rw [hq2] at h; cases h
            · rw [hq2] at h; rw [hm hq2]; exact h
      · cases h
    | sl z b off n c =>
      simp only [expo] at h ⊢
      split at h
      · rename_i k hk
        rw [hb hk]
        simp only
        rcases hq : k.x.cut off (n * z) with _ | y
        · rw [hq] at h; cases h
        · rw [hq] at h
          rcases y with ⟨kk, l⟩ | l
          · exact h
          · simp only at h ⊢
            rcases hq2 : optMap (expo β D) l with _ | l'
            · rw [hq2] at h; cases h
            · rw [hq2] at h; rw [hm hq2]; exact h
      · cases h
    | _ => exact h
theorem shown_mono (hβ : ∀ b, β b = none ∨ β b = β' b) {z : Nat} {u : LV} {r : Cont × Nat} (h : shown β z u = some r) : shown β' z u = some r := by
  unfold shown at h ⊢
  split at h
  · exact h
  · rename_i z' b off n c
    split at h
    · rename_i hz
      rw [if_pos hz]
      rcases hβ b with e | e
      · rw [e] at h; cases h
      · rw [← e]; exact h
    · cases h
  · exact h
  · cases h
theorem convV_mono (hβ : ∀ b, β b = none ∨ β b = β' b) {src dst : Nat} {u r : LV} (h : convV E β src dst u = some r) : convV E β' src dst u = some r := by
  unfold convV at h ⊢
  split at h
  · exact h
  · split at h
    · rename_i h1 h2
      simp only [h1, shown_mono hβ h2]
      exact h
    · rename_i h1 h2
      simp only [h1, shown_mono hβ h2]
      exact h
    · cases h
  · exact h
  · cases h
theorem vopX_mono (hβ : ∀ b, β b = none ∨ β b = β' b) {d : Nat} {op : Op} {xs : List LV} {r : LV × List (Nat × Blk)} (h : vopX E β d op xs = some r) : vopX E β' d op xs = some r := by
  cases op with
  | load t x =>
    obtain ⟨x', rfl, he⟩ := with1_of h
    show opLoad E β' t x' = some r
    unfold opLoad at he ⊢
    split at he
    · split at he
      · rename_i b off
        rcases hβ b with e | e
        · rw [e] at he; cases he
        · rw [← e]; exact he
      · exact he
      · cases he
    · cases he
  | convert src dst x =>
    obtain ⟨x', rfl, he⟩ := with1_of h
    obtain ⟨h1, h2⟩ := just_ok (u' := r.1) (bs := r.2) he
    show just (convV E β' src dst x') = some r
    rw [convV_mono hβ h1, ← he, h1]
  | call c =>
    obtain ⟨callee, args, ts⟩ := c
    simp only [vopX, callX] at h ⊢
    split at h
    · rename_i f
      show opCall E β' d f xs.tail = some r
      obtain ⟨ds, q, h1, h2, h3, h4, h5⟩ := opCall_of (u := r.1) (bs := r.2) h
      unfold opCall
      rw [h5]
      simp only
      rw [optMap_mono (expo_mono hβ expoD) h1]
      simp only [h2]
      rw [if_pos h3, h4]
    · exact h
    · exact h
    · cases h
  | makeFunc fn first caps => cases fn <;> exact h
  | _ => exact h
theorem vop_mono (hρ : ∀ t, ρ t = .poison ∨ ρ t = ρ' t) (hβ : ∀ b, β b = none ∨ β b = β' b) {d : Nat} {op : Op} {r : LV × List (Nat × Blk)} (h : vop E ρ β d op = some r) : vop E ρ' β' d op = some r := by
  unfold vop at h ⊢
  split at h
  · rename_i c x y
    split at h
    · rename_i hc
      rw [evalO_mono hρ hc]
      rcases hq : evalO ρ x with _ | u
      · rw [hq] at h; cases h
      · rw [hq] at h; simp only; rw [evalO_mono hρ hq]; exact h
    · rename_i hc
      rw [evalO_mono hρ hc]
      rcases hq : evalO ρ y with _ | u
      · rw [hq] at h; cases h
      · rw [hq] at h; simp only; rw [evalO_mono hρ hq]; exact h
    · cases h
  · rename_i hno
    split at h
    · rename_i xs hxs
      rw [optMap_mono (fun _ _ => evalO_mono hρ) hxs]
      exact vopX_mono hβ h
    · cases h
theorem wantL_mono (hρ : ∀ t, ρ t = .poison ∨ ρ t = ρ' t) {ops : List Oper} {o : Oper} {b : Bool} (h : wantL ops ρ o = some b) : wantL ops ρ' o = some b := by
  unfold wantL at h ⊢
  split at h
  · exact h
  · split at h
    · rename_i d hd
      rcases hρ d with e | e
      · rw [e] at h; cases h
      · rw [← e]; exact h
    · cases h

/-- The blocks that an operation makes bear its slot's number. -/
theorem vop_ids {d : Nat} {op : Op} {u : LV} {bs : List (Nat × Blk)} (h : vop E ρ β d op = some (u, bs)) : ∀ p ∈ bs, p.1 / 8 = d := by
  have one : ∀ {k : Blk}, ∀ p ∈ [(8 * d, k)], p.1 / 8 = d := fun p hp => by simp at hp; subst hp; simp
  have none' : bs = [] → ∀ p ∈ bs, p.1 / 8 = d := fun e p hp => by rw [e] at hp; simp at hp
  have hj : ∀ {x : Option LV}, just x = some (u, bs) → ∀ p ∈ bs, p.1 / 8 = d := fun h => none' (just_ok h).2
  have hjA : ∀ {x : Option Cont}, justA x = some (u, bs) → ∀ p ∈ bs, p.1 / 8 = d := fun {x} h => by
    unfold justA at h; split at h
    · cases h; exact none' rfl
    · cases h
  have hjP : ∀ {x : Option Cont}, justP x = some (u, bs) → ∀ p ∈ bs, p.1 / 8 = d := fun {x} h => by
    unfold justP at h; split at h
    · cases h; exact none' rfl
    · cases h
  have hload : ∀ {x : Cont} {o s : Nat} {g : Bool}, loadC x o s g = some (u, bs) → ∀ p ∈ bs, p.1 / 8 = d := fun {x o s g} h => by
    unfold loadC at h; split at h
    · exact hjA h
    · exact hj h
  unfold vop at h
  split at h
  · split at h
    · rename_i x y _ _
      rcases hq : evalO ρ x with _ | u' <;> rw [hq] at h <;> cases h
      exact none' rfl
    · rename_i x y _ _
      rcases hq : evalO ρ y with _ | u' <;> rw [hq] at h <;> cases h
      exact none' rfl
    · cases h
  · split at h
    · rename_i xs hxs
      cases op with
      | move x => obtain ⟨x', rfl, he⟩ := with1_of h; cases he; exact none' rfl
      | assign x => obtain ⟨x', rfl, he⟩ := with1_of h; cases he; exact none' rfl
      | alloc t =>
        simp only [vopX, opAlloc] at h
        split at h
        · cases h; exact one
        · cases h
      | box t x =>
        obtain ⟨x', rfl, he⟩ := with1_of h
        unfold opBox at he; split at he
        · cases he; exact one
        · cases he
      | build t ps =>
        simp only [vopX, opBuild] at h
        split at h
        · split at h
          · cases h; exact none' rfl
          · cases h
        · exact hjA h
        · cases h
      | buildSlice t len ps =>
        simp only [vopX, opBuildSlice] at h
        split at h
        · split at h
          · split at h
            · split at h
              · cases h; exact one
              · cases h
            · cases h
          · cases h
        · cases h
      | load t x =>
        obtain ⟨x', rfl, he⟩ := with1_of h
        unfold opLoad at he; split at he
        · split at he
          · split at he
            · exact hload he
            · cases he
          · exact hload he
          · cases he
        · cases he
      | sliceToArrayPointer t x =>
        obtain ⟨x', rfl, he⟩ := with1_of h
        unfold opToArr at he; split at he
        · split at he
          · split at he
            · cases he; exact none' rfl
            · cases he
          · split at he
            · cases he; exact none' rfl
            · cases he
          · cases he
        · cases he
      | nilCheck x =>
        obtain ⟨x', rfl, he⟩ := with1_of h
        unfold opNil at he; split at he <;> cases he <;> exact none' rfl
      | binOp op t x y ty =>
        obtain ⟨x', y', rfl, he⟩ := with2_of h
        unfold opBin at he; split at he
        · split at he
          · exact hj he
          · cases he
        · split at he
          · split at he
            · split at he
              · exact hj he
              · cases he
            · cases he
          · cases he
        · exact hj he
      | unOp op t x => obtain ⟨x', rfl, he⟩ := with1_of h; exact hj he
      | convert s t x => obtain ⟨x', rfl, he⟩ := with1_of h; exact hj he
      | fieldAddr s x f =>
        obtain ⟨x', rfl, he⟩ := with1_of h
        unfold opFieldAddr at he; split at he
        · split at he
          · split at he
            · cases he
            · split at he
              · cases he; exact none' rfl
              · exact hjP he
              · cases he
          · cases he
        · cases he
      | field s x f =>
        obtain ⟨x', rfl, he⟩ := with1_of h
        unfold opField at he; split at he
        · split at he
          · split at he
            · exact hload he
            · cases he
          · cases he
        · cases he
      | indexAddr t x i =>
        obtain ⟨x', y', rfl, he⟩ := with2_of h
        unfold opIndexAddr at he; split at he
        · split at he
          · split at he
            · cases he; exact none' rfl
            · exact hjP he
            · cases he
          · cases he
        · split at he
          · split at he
            · cases he; exact none' rfl
            · cases he
          · split at he
            · exact hjP he
            · cases he
          · cases he
        · cases he
      | index t x i =>
        obtain ⟨x', y', rfl, he⟩ := with2_of h
        unfold opIndex at he; split at he
        · split at he
          · split at he
            · exact hload he
            · cases he
          · cases he
        · cases he
      | extract x i =>
        obtain ⟨x', rfl, he⟩ := with1_of h
        unfold opExtract at he; split at he
        · exact hj he
        · cases he
      | makeSlice t l c =>
        obtain ⟨x', y', rfl, he⟩ := with2_of h
        unfold opMakeSlice at he; split at he
        · split at he
          · split at he
            · cases he; exact one
            · cases he
          · cases he
        · cases he
      | slice t x lo hi mx =>
        simp only [vopX] at h
        split at h
        · unfold opSlice at h; split at h
          · split at h
            · split at h
              · cases h; exact none' rfl
              · cases h
            · cases h
          · split at h
            · split at h
              · split at h
                · cases h; exact none' rfl
                · cases h
              · cases h
            · split at h
              · split at h
                · split at h
                  · split at h
                    · cases h; exact none' rfl
                    · cases h
                  · cases h
                · cases h
              · cases h
            · split at h
              · cases h; exact none' rfl
              · cases h
            · cases h
          · cases h
        · cases h
      | call c =>
        obtain ⟨callee, args, ts⟩ := c
        simp only [vopX, callX] at h
        split at h
        · obtain ⟨ds, q, h1, h2, h3, h4, _⟩ := opCall_of h
          cases q with
          | one r =>
            have hu : (u, bs) = r.out (8 * d) := by simpa [LRes.out] using h4.symm
            cases r with
            | val v => simp only [RC.out, Prod.mk.injEq] at hu; exact none' hu.2
            | own z n e x => simp only [RC.out, Prod.mk.injEq] at hu; rw [hu.2]; exact one
            | optr e x => simp only [RC.out, Prod.mk.injEq] at hu; rw [hu.2]; exact one
          | many l =>
            simp only [LRes.out] at h4
            split at h4
            · rename_i hl
              cases h4
              intro p hp
              obtain ⟨i, _, k, h5, _, rfl⟩ := outAll_blk l (8 * d) p hp
              have := lt_of_get h5
              simp only
              omega
            · cases h4
        · split at h
          · unfold opLen at h
            split at h
            · split at h <;> cases h <;> exact none' rfl
            · split at h
              · cases h; exact none' rfl
              · cases h
            · cases h
          · cases h
        · unfold opMin at h
          split at h
          · cases h; exact none' rfl
          · cases h
        · cases h
      | makeFunc fn first caps =>
        cases fn with
        | func f =>
          simp only [vopX] at h
          split at h
          · cases h; exact none' rfl
          · cases h
        | _ => simp [vopX] at h
      | _ => simp [vopX] at h
    · cases h
end
end Go.Proofs.YtdeigmjbcbjgeaaGreatDoor
