/-
  A row's last step: the package-level table of the program's curve, as the row lists it.
-/
import Derived.Lib.LaidTab
import Derived.Test.YtdeigmjbcbjgeaaGreatDoorCards
import Derived.Test.YtdeigmjbcbjgeaaGreatDoorYdRowA
import Derived.Test.YtdeigmjbcbjgeaaGreatDoorTie
namespace Go.Proofs.YtdeigmjbcbjgeaaGreatDoor
open Go.RowKit Go.ChangeShapes Go.WideShapes

def dL : List Int := [163, 120, 89, 19, 202, 77, 235, 117, 171, 216, 65, 65, 77, 10, 112, 0, 152, 232, 121, 119, 121, 64, 199, 140, 115, 254, 111, 43, 238, 108, 3, 82]
theorem gTab : Tryz.prog.globalNamed "coresec/edwards.d" = some 0 := by kernel_rfl
theorem gTabType : (Tryz.prog.globals[0]?).map (·.type) = some 23 := by kernel_rfl
theorem cellsF : Tryz.prog.cellsOf 23 = 32 := by kernel_rfl
theorem cellsB : Tryz.prog.cellsOf 5 = 1 := by kernel_rfl
theorem table10 {W : World} (h : laidMetH Tryz.prog [("coresec/edwards.d", Rows.laid_coresec_edwards_d)] W) : Lib.TabIs Tryz.prog W "coresec/edwards.d" .u8 dL :=
  Lib.tabIs_of_head (rest := []) gTab gTabType Tryz.underlying23 Tryz.underlying5 cellsB cellsF h
theorem glob_ok {W : World} (h : Lib.TabIs Tryz.prog W "coresec/edwards.d" .u8 dL) : GlobOk (There W) W := by
  have hc : ∀ i, i < 32 → W.cell? ⟨0, i, none⟩ = some (.int .u8 (dL.getD i 0)) := fun i hi => h.cell gTab i hi
  intro g x hx
  unfold globL at hx
  split at hx
  · cases hx
    refine .imp _ _ 0 0 (fun i => .int .u8 (dL.getD i 0)) ?_ (fun i hi => ?_) (fun i u hu => ?_)
    · exact block_lt_of_cell (hc 0 (by decide))
    · rw [Nat.zero_add]
      exact hc i (by simpa [Cont.vals] using hi)
    · have hu : (dL.map fun n => LV.v (.int .u8 n))[i]? = some u := hu
      rw [List.getElem?_map, Option.map_eq_some_iff] at hu
      obtain ⟨y, hy, rfl⟩ := hu
      show Rep _ _ _ _ (.int .u8 (dL.getD i 0))
      rw [List.getD_eq_getElem?_getD, hy]
      exact .v _ _ rfl
  · cases hx
noncomputable def laidWorld (os : Os) : World :=
  { World.holding Tryz.prog os ⟨#[], #[], []⟩ with heap := (World.holding Tryz.prog os ⟨#[], #[], []⟩).heap.modify 0 fun
      | .cells _ t frozen => .cells (dL.map (Value.int .u8)).toArray t frozen
      | o => o }
end Go.Proofs.YtdeigmjbcbjgeaaGreatDoor
