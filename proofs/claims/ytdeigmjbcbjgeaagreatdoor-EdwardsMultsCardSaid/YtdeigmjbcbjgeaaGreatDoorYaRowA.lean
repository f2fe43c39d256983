/-
  A row's last step 's first step: arrays opened.
-/
import Derived.ChangeSame
import Derived.ChangeSlices
import Derived.OpenShut
import Derived.Below
import Derived.Test.YtdeigmjbcbjgeaaGreatDoorYaBase
import Derived.Test.YtdeigmjbcbjgeaaGreatDoorYaFC
namespace Go.Proofs.YtdeigmjbcbjgeaaGreatDoor
open Go.RowKit Go.ChangeShapes Go.WideShapes
section
variable {H : Type} {enc : TypeId × Value → H} {P : Program}

/-- An array of integers that came in. -/
theorem open_arr {w w' : World} {base b0 : Nat} {r : Reach} {spare : Nat → Bool} {held : Bool} {t e : TypeId} {n : Nat} {k : IntKind} {v : Value} {d : DataW H} {p : List MemPlace} (ht : P.underlying t = some (.array n e)) (he : P.underlying e = some (.int k)) (hc : P.cellsOf e = 1) (hct : P.cellsOf t = n)
    (hval : Value.okWide P w' r b0 t v) (h : DataW.Trod enc P w base spare held t v d p) : ∃ l : List Int, v = .agg (l.map (Value.int k)).toArray ∧ l.length = n ∧ ∀ x ∈ l, (Lit.int k x).wf = true := by
  unfold Value.okWide at hval
  rw [ht] at hval
  obtain ⟨cs, rfl, hsz, _⟩ := hval
  obtain ⟨fuel, hf⟩ := h
  obtain ⟨xs, m, _, _, _, hl, hel⟩ := DataW.trod_array ht hf
  rw [hct] at hsz
  have hcell : ∀ i, i < n → ∃ z, cs[i]? = some (.int k z) ∧ (Lit.int k z).wf = true := by
    intro i hi
    have h1 := hel i hi
    rw [hc, Nat.mul_one] at h1
    obtain ⟨x, hx⟩ : ∃ x, xs[i]? = some x := ⟨_, List.getElem?_eq_getElem (by omega)⟩
    rw [hx] at h1
    obtain ⟨z, hz, _, hw⟩ := DataW.trod_int he h1
    refine ⟨z, ?_, hw⟩
    have h2 : ((cs.toList.drop i).take 1)[0]? = some (Value.int k z) := by
      have : (Value.agg cs).cells.toList = cs.toList := rfl
      rw [this] at hz
      rw [hz]
      rfl
    rw [List.getElem?_take, if_pos (by decide), List.getElem?_drop, Nat.add_zero] at h2
    simpa using h2
  let f : Value → Int := fun v => match v with
    | .int _ z => z
    | _ => 0
  refine ⟨cs.toList.map f, ?_, by simp [hsz], ?_⟩
  · congr 1
    apply Array.ext
    · simp
    · intro i h1 h2
      obtain ⟨z, hz, _⟩ := hcell i (by omega)
      rw [Array.getElem?_eq_getElem h1] at hz
      have hz := Option.some.inj hz
      simp [hz, f]
  · intro x hx
    obtain ⟨v, hv, rfl⟩ := List.mem_map.1 hx
    obtain ⟨i, hi, hiv⟩ := List.getElem_of_mem hv
    obtain ⟨z, hz, hw⟩ := hcell i (by simp at hi; omega)
    have : cs[i]? = some v := by
      rw [← hiv]
      simp at hi ⊢
    rw [this] at hz
    cases hz
    exact hw
end
theorem By_wf {l : List Int} (h : ∀ x ∈ l, (Lit.int .u8 x).wf = true) : By l := by
  intro x hx
  have := h x hx
  simp [Lit.wf, IntKind.min, IntKind.max, IntKind.signed, IntKind.bits] at this
  omega
theorem isF_wf {l : List Int} (hl : l.length = 32) (h : ∀ x ∈ l, (Lit.int .u8 x).wf = true) : isF l = true := isF_of hl (By_wf h)
theorem rep_arr {A : Nat → Prop} {w : World} {m : Map} {k : IntKind} (l : List Int) : Rep A w m (.agg (.flat k l)) (.agg (l.map (Value.int k)).toArray) := by
  refine .agg _ _ _ (by simp [Cont.vals]) fun i u hu => ?_
  simp only [Cont.vals, List.getElem?_map, Option.map_eq_some_iff] at hu
  obtain ⟨x, hx, rfl⟩ := hu
  simp only [Array.getD_eq_getD_getElem?, List.getElem?_toArray, List.getElem?_map, hx]
  exact .v _ _ rfl
end Go.Proofs.YtdeigmjbcbjgeaaGreatDoor
