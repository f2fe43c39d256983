import Derived.ChangeSame
import Derived.ChangeSlices
import Derived.OpenShut
import Derived.Below
import Derived.Test.YtdeigmjbcbjgeaaGreatDoorYcBase
namespace Go.Proofs.YtdeigmjbcbjgeaaGreatDoor
open Go.RowKit Go.ChangeShapes Go.WideShapes
section
variable {H : Type} {enc : TypeId × Value → H} {P : Program}
theorem open_row {w : World} {base : Nat} {spare : Nat → Bool} {held : Bool} {t e : TypeId} {k : IntKind} {a : Option Addr} {len cap : Nat} {d : DataW H} {p : List MemPlace} (ht : P.underlying t = some (.slice e)) (he : P.underlying e = some (.int k)) (hc : P.cellsOf e = 1)
  (h : DataW.Trod enc P w base spare held t (.slice a len cap) d p) : ∃ l : List Int, len = l.length ∧ CapOk a cap l.length ∧ RowAt (fun _ => True) k w a l := by
 obtain ⟨fuel, hf⟩ := h
 rcases open_ints ht he hc hf with ⟨hcs, _⟩ | ⟨x, n, c, zs, hcs, _, hl, hm, hz, _, hcell, hwz⟩
 ·simp [Value.cells] at hcs
  obtain ⟨rfl, rfl, rfl⟩ := hcs
  exact ⟨[], rfl, ⟨fun _ => rfl, by simp⟩, by simp, by simp, .inl rfl⟩
 ·simp [Value.cells] at hcs
  obtain ⟨rfl, rfl, rfl⟩ := hcs
  have hlz : len ≤ zs.length := by rw [hz]; split <;> omega
  refine ⟨zs.take len, by simp [hlz], ⟨fun h => (by cases h), by simp; omega⟩, ?_⟩
  obtain ⟨b, off, spot⟩ := x
  refine ⟨by unfold maxLen at hm; simp; omega, fun y hy => hwz y (List.mem_of_mem_take hy), ?_⟩
  rcases Nat.eq_zero_or_pos len with h0 | h0
  ·subst h0; exact .inl (by simp)
  ·have hc0 := hcell 0 (by omega)
   have hspot : spot = none := by simpa [Addr.add] using World.cell?_spot hc0
   subst hspot
   have hb : b < w.heap.size := by have := block_lt_of_cell hc0; simpa [Addr.add] using this
   refine .inr ⟨b, off, rfl, trivial, hb, fun j hj => ?_⟩
   have hj' : j < len := by simp at hj; omega
   have := hcell j (by omega)
   rw [add_block_none] at this
   rw [this]
   simp [List.getD_eq_getElem?_getD, hj']
end
end Go.Proofs.YtdeigmjbcbjgeaaGreatDoor
