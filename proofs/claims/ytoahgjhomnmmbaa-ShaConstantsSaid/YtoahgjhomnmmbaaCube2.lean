/-
  ShaConstants: the statement's cube, at a number that is the cube root up to the last bit.
-/
import Derived.Test.YtoahgjhomnmmbaaCube
namespace Go.Proofs.Ytoahgjhomnmmbaa
open Go.RowKit

set_option maxHeartbeats 1000000 in
set_option maxRecDepth 100000 in
theorem cube_any (wh fr p : Int) (w : World) (hf0 : 0 ≤ fr) (hf : fr < 18446744073709551615) (h1 : belowB fr wh p = true) (h2 : belowB (fr + 1) wh p = false) :
    Calls Try.prog 19 #[.int .u64 wh, .int .u64 fr, .int .u64 p] w fun e w' => e = .returned (.bool true) ∧ Keeps (fun _ => False) w w' := by
  have hmf : ∀ (fn : Fn) (first cap : Array Value) (w : World), (Instr.makeFunc fn first cap).run Try.prog w = .ok (.func fn first cap) w := fun _ _ _ _ => rfl
  have hne : (fr == 18446744073709551615) = false := beq_eq_false_iff_ne.2 (by omega)
  have H1 := hid h1
  have H2 := hid h2
  clear h1 h2
  have hcell : (w.alloc (Obj.cells #[.int .u64 p] 31)).cell? ⟨w.heap.size, 0, none⟩ = some (.int .u64 p) := cell_of_row _ _ _ _ _ _ (heap_alloc_new w _)
  have HC := hid hcell
  go_enter Try.func19, Try.ntmps19
  go_wp2_with fail
  refine (below_any fr wh p w.heap.size _ HC.out).mono ?_
  rintro e w' ⟨rfl, rfl⟩
  rw [H1.out]
  go_wp2_with fail
  refine (below_any (fr + 1) wh p w.heap.size _ HC.out).mono ?_
  rintro e w' ⟨rfl, rfl⟩
  rw [H2.out]
  go_wp2_with fail
  go_ret
  exact ⟨rfl, (Keeps.refl _ w).alloc _⟩
end Go.Proofs.Ytoahgjhomnmmbaa
