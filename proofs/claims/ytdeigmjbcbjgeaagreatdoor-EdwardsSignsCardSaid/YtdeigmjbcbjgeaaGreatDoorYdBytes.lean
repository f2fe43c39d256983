/-
  Rows of ints cut, and new ones; append of several at once.
-/
import Derived.Maps.AppendAt
import Derived.Test.YtdeigmjbcbjgeaaGreatDoorYdBase
namespace Go.Proofs.YtdeigmjbcbjgeaaGreatDoor
open Go.RowKit

def wordsOf (k : IntKind) (l : List Int) : Array Value := (l.map (Value.int k)).toArray
theorem wordsOf_get (k : IntKind) (l : List Int) (i : Nat) (h : i < l.length) : (wordsOf k l)[i]? = some (.int k (l.getD i 0)) := by
  simp [wordsOf, List.getElem?_eq_getElem h, List.getD_eq_getElem?_getD]
theorem wordsOf_size (k : IntKind) (l : List Int) : (wordsOf k l).size = l.length := by simp [wordsOf]
theorem wordsOf_set (k : IntKind) (l : List Int) (i : Nat) (x : Int) : (wordsOf k l).setIfInBounds i (.int k x) = wordsOf k (l.set i x) := by
  apply Array.ext'
  simp [wordsOf, List.map_set]

/-- A row of the call's own, looked at: where it lies, and that its capacity holds it. -/
theorem OwnI.look {k : IntKind} {t base : Nat} {w : World} {v : Value} {l : List Int} (h : OwnI k t base w v l) (hl : 0 < l.length) :
    ∃ g c, v = .slice (some ⟨g, 0, none⟩) l.length c ∧ base ≤ g ∧ g < w.heap.size ∧ l.length ≤ c ∧ c ≤ 9223372036854775807 ∧ ∀ j, j < l.length → w.cell? ⟨g, j, none⟩ = some (.int k (l.getD j 0)) := by
  obtain ⟨h1, h2, h3⟩ := h
  rcases h1.2 with ⟨_, hn⟩ | ⟨g, cap, cur, rfl, hb, hg, hnc, hcm, hcs, htake⟩
  · omega
  · refine ⟨g, cap, rfl, hb, (Array.getElem?_eq_some_iff.1 hg).1, hnc, by simpa [maxLen] using hcm, fun j hj => ?_⟩
    have hx := h1.cells (g := g) rfl j (.int k (l.getD j 0)) (by
      rw [List.getElem?_map, List.getElem?_eq_getElem hj, List.getD_eq_getElem?_getD, List.getElem?_eq_getElem hj]; rfl)
    rw [add_block_none, Nat.zero_add] at hx
    exact hx

theorem OwnI.free {k : IntKind} {t base : Nat} {w : World} {l : List Int} {g n c : Nat} (h : OwnI k t base w (.slice (some ⟨g, 0, none⟩) n c) l) (j : Nat) : w.frozen? ⟨g, j, none⟩ = false := by
  rcases h.1.2 with ⟨h1, _⟩ | ⟨g', cap, cur, h1, _, hg, _⟩
  · cases h1
  · injection h1 with h1 _ _
    injection h1 with h1
    injection h1 with h1
    subst h1
    exact frozen_of_row w g j cur t hg

/-- A row one of whose cells is stored into. -/
theorem RowAt.set {F : Nat → Prop} {k : IntKind} {w : World} {g : Nat} {l : List Int} (h : ∀ x, x ∈ l → (Lit.int k x).wf = true) (hg : g < w.heap.size) (hf : F g) (hm : l.length ≤ 9223372036854775807)
    (hc : ∀ j, j < l.length → w.cell? ⟨g, j, none⟩ = some (.int k (l.getD j 0))) (i : Nat) (y : Int) (hy : (Lit.int k y).wf = true) (hi : i < l.length) :
    RowAt F k (w.setCell ⟨g, i, none⟩ (.int k y)) (some ⟨g, 0, none⟩) (l.set i y) := by
  refine ⟨by simpa using hm, fun x hx => ?_, .inr ⟨g, 0, rfl, hf, by simpa [World.setCell] using hg, fun j hj => ?_⟩⟩
  · rcases List.mem_or_eq_of_mem_set hx with hx | rfl
    · exact h x hx
    · exact hy
  · have hj' : j < l.length := by simpa using hj
    rw [Nat.zero_add]
    by_cases hij : i = j
    · subst hij
      obtain ⟨v, hv⟩ : ∃ v, w.cell? ⟨g, i, none⟩ = some v := ⟨_, hc i hi⟩
      rw [World.cell?_setCell_same w ⟨g, i, none⟩ (.int k y) hv]
      simp [List.getD_eq_getElem?_getD, hi]
    · rw [World.cell?_setCell_other w ⟨g, i, none⟩ ⟨g, j, none⟩ _ (fun e => hij (by injection e)), hc j hj']
      simp [List.getD_eq_getElem?_getD, hij]

theorem getD_drop_take (l : List Int) (i n j : Nat) (hj : j < n) : ((l.drop i).take n).getD j 0 = l.getD (i + j) 0 := by
  simp [List.getD_eq_getElem?_getD, hj, List.getElem?_drop]

/-- A cut of a row. -/
theorem RowAt.cut {F : Nat → Prop} {k : IntKind} {w : World} {g off : Nat} {l : List Int} (h : ∀ x, x ∈ l → (Lit.int k x).wf = true) (hg : g < w.heap.size) (hf : F g)
    (hc : ∀ j, j < l.length → w.cell? ⟨g, off + j, none⟩ = some (.int k (l.getD j 0))) (i n : Nat) (hn : i + n ≤ l.length) (hm : n ≤ 9223372036854775807) :
    RowAt F k w (some ⟨g, off + i, none⟩) ((l.drop i).take n) := by
  refine ⟨by simp; omega, fun x hx => h x (List.mem_of_mem_drop (List.mem_of_mem_take hx)), .inr ⟨g, off + i, rfl, hf, hg, fun j hj => ?_⟩⟩
  have hj' : j < n := by simp at hj; omega
  rw [getD_drop_take l i n j hj', Nat.add_assoc]
  exact hc (i + j) (by omega)

theorem OwnI.lower {k : IntKind} {t base base' : Nat} {w : World} {v : Value} {l : List Int} (h : OwnI k t base w v l) (hb : base' ≤ base) : OwnI k t base' w v l := by
  obtain ⟨⟨h1, h2⟩, h3⟩ := h
  refine ⟨⟨h1, ?_⟩, h3⟩
  rcases h2 with h2 | ⟨g, cap, cur, hv, hg, rest⟩
  · exact .inl h2
  · exact .inr ⟨g, cap, cur, hv, Nat.le_trans hb hg, rest⟩

end Go.Proofs.YtdeigmjbcbjgeaaGreatDoor
