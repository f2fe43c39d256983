/-
  The seat's types, as the machine of plain values knows them.
-/
import Derived.Test.YtdeigmjbcbjgeaaGreatDoorYdMJ
import Derived.Test.YtdeigmjbcbjgeaaGreatDoorProg
namespace Go.Proofs.YtdeigmjbcbjgeaaGreatDoor
open Go.RowKit

def tyL (t : Nat) : Option TI :=
  match t with
  | 2 => some ({ d := TD.int IntKind.i64, size := 1, bytes := 8, agg := false, zero := some (Cont.flat IntKind.i64 [0]) })
  | 3 => some ({ d := TD.int IntKind.i64, size := 1, bytes := 8, agg := false, zero := some (Cont.flat IntKind.i64 [0]) })
  | 4 => some ({ d := TD.bool, size := 1, bytes := 1, agg := false, zero := some (Cont.gen [LV.v (Value.bool false)]) })
  | 5 => some ({ d := TD.int IntKind.u8, size := 1, bytes := 1, agg := false, zero := some (Cont.flat IntKind.u8 [0]) })
  | 9 => some ({ d := TD.str, size := 1, bytes := 16, agg := false, zero := some (Cont.gen [LV.str []]) })
  | 12 => some ({ d := TD.int IntKind.u64, size := 1, bytes := 8, agg := false, zero := some (Cont.flat IntKind.u64 [0]) })
  | 21 => some ({ d := TD.int IntKind.i32, size := 1, bytes := 4, agg := false, zero := some (Cont.flat IntKind.i32 [0]) })
  | 22 => some ({ d := TD.arr 32 5 1, size := 32, bytes := 32, agg := true, zero := some (Cont.flat IntKind.u8 (List.replicate 32 0)) })
  | 23 => some ({ d := TD.arr 32 5 1, size := 32, bytes := 32, agg := true, zero := some (Cont.flat IntKind.u8 (List.replicate 32 0)) })
  | 25 => some ({ d := TD.int IntKind.i64, size := 1, bytes := 8, agg := false, zero := some (Cont.flat IntKind.i64 [0]) })
  | 33 => some ({ d := TD.slice 5 1, size := 1, bytes := 24, agg := false, zero := some (Cont.gen [LV.v (Value.slice none 0 0)]) })
  | 52 => some ({ d := TD.int IntKind.u64, size := 1, bytes := 8, agg := false, zero := some (Cont.flat IntKind.u64 [0]) })
  | 53 => some ({ d := TD.arr 4 52 1, size := 4, bytes := 32, agg := true, zero := some (Cont.flat IntKind.u64 [0, 0, 0, 0]) })
  | 54 => some ({ d := TD.arr 4 52 1, size := 4, bytes := 32, agg := true, zero := some (Cont.flat IntKind.u64 [0, 0, 0, 0]) })
  | 56 => some ({ d := TD.slice 23 32, size := 1, bytes := 24, agg := false, zero := some (Cont.gen [LV.v (Value.slice none 0 0)]) })
  | 57 => some ({ d := TD.int IntKind.u64, size := 1, bytes := 8, agg := false, zero := some (Cont.flat IntKind.u64 [0]) })
  | 58 => some ({ d := TD.struct [(0, 32, true), (32, 32, true), (64, 32, true), (96, 32, true)], size := 128, bytes := 128, agg := true, zero := some (Cont.flat IntKind.u8 (List.replicate 128 0)) })
  | 59 => some ({ d := TD.struct [(0, 32, true), (32, 32, true), (64, 32, true), (96, 32, true)], size := 128, bytes := 128, agg := true, zero := some (Cont.flat IntKind.u8 (List.replicate 128 0)) })
  | 64 => some ({ d := TD.struct [(0, 4, true), (4, 4, true), (8, 4, true), (12, 4, true)], size := 16, bytes := 128, agg := true, zero := some (Cont.flat IntKind.u64 [0, 0, 0, 0, 0, 0, 0, 0, 0, 0, 0, 0, 0, 0, 0, 0]) })
  | 65 => some ({ d := TD.struct [(0, 4, true), (4, 4, true), (8, 4, true), (12, 4, true)], size := 16, bytes := 128, agg := true, zero := some (Cont.flat IntKind.u64 [0, 0, 0, 0, 0, 0, 0, 0, 0, 0, 0, 0, 0, 0, 0, 0]) })
  | 86 => some ({ d := TD.arr 8 52 1, size := 8, bytes := 64, agg := true, zero := some (Cont.flat IntKind.u64 [0, 0, 0, 0, 0, 0, 0, 0]) })
  | 87 => some ({ d := TD.arr 8 52 1, size := 8, bytes := 64, agg := true, zero := some (Cont.flat IntKind.u64 [0, 0, 0, 0, 0, 0, 0, 0]) })
  | 89 => some ({ d := TD.arr 4 52 1, size := 4, bytes := 32, agg := true, zero := some (Cont.flat IntKind.u64 [0, 0, 0, 0]) })
  | 103 => some ({ d := TD.slice 33 1, size := 1, bytes := 24, agg := false, zero := some (Cont.gen [LV.v (Value.slice none 0 0)]) })
  | 112 => some ({ d := TD.arr 80 52 1, size := 80, bytes := 640, agg := true, zero := some (Cont.flat IntKind.u64 (List.replicate 80 0)) })
  | 127 => some ({ d := TD.struct [(0, 1, false), (1, 1, false), (2, 8, true), (10, 80, true), (90, 1, false), (91, 1, false), (92, 1, false), (93, 1, false)], size := 94, bytes := 752, agg := true, zero := some (Cont.gen [LV.v (Value.int IntKind.i64 (0)), LV.v (Value.int IntKind.i64 (0)), LV.v (Value.int IntKind.u64 (0)), LV.v (Value.int IntKind.u64 (0)), LV.v (Value.int IntKind.u64 (0)), LV.v (Value.int IntKind.u64 (0)), LV.v (Value.int IntKind.u64 (0)), LV.v (Value.int IntKind.u64 (0)), LV.v (Value.int IntKind.u64 (0)), LV.v (Value.int IntKind.u64 (0)), LV.v (Value.int IntKind.u64 (0)), LV.v (Value.int IntKind.u64 (0)), LV.v (Value.int IntKind.u64 (0)), LV.v (Value.int IntKind.u64 (0)), LV.v (Value.int IntKind.u64 (0)), LV.v (Value.int IntKind.u64 (0)), LV.v (Value.int IntKind.u64 (0)), LV.v (Value.int IntKind.u64 (0)), LV.v (Value.int IntKind.u64 (0)), LV.v (Value.int IntKind.u64 (0)), LV.v (Value.int IntKind.u64 (0)), LV.v (Value.int IntKind.u64 (0)), LV.v (Value.int IntKind.u64 (0)), LV.v (Value.int IntKind.u64 (0)), LV.v (Value.int IntKind.u64 (0)), LV.v (Value.int IntKind.u64 (0)), LV.v (Value.int IntKind.u64 (0)), LV.v (Value.int IntKind.u64 (0)), LV.v (Value.int IntKind.u64 (0)), LV.v (Value.int IntKind.u64 (0)), LV.v (Value.int IntKind.u64 (0)), LV.v (Value.int IntKind.u64 (0)), LV.v (Value.int IntKind.u64 (0)), LV.v (Value.int IntKind.u64 (0)), LV.v (Value.int IntKind.u64 (0)), LV.v (Value.int IntKind.u64 (0)), LV.v (Value.int IntKind.u64 (0)), LV.v (Value.int IntKind.u64 (0)), LV.v (Value.int IntKind.u64 (0)), LV.v (Value.int IntKind.u64 (0)), LV.v (Value.int IntKind.u64 (0)), LV.v (Value.int IntKind.u64 (0)), LV.v (Value.int IntKind.u64 (0)), LV.v (Value.int IntKind.u64 (0)), LV.v (Value.int IntKind.u64 (0)), LV.v (Value.int IntKind.u64 (0)), LV.v (Value.int IntKind.u64 (0)), LV.v (Value.int IntKind.u64 (0)), LV.v (Value.int IntKind.u64 (0)), LV.v (Value.int IntKind.u64 (0)), LV.v (Value.int IntKind.u64 (0)), LV.v (Value.int IntKind.u64 (0)), LV.v (Value.int IntKind.u64 (0)), LV.v (Value.int IntKind.u64 (0)), LV.v (Value.int IntKind.u64 (0)), LV.v (Value.int IntKind.u64 (0)), LV.v (Value.int IntKind.u64 (0)), LV.v (Value.int IntKind.u64 (0)), LV.v (Value.int IntKind.u64 (0)), LV.v (Value.int IntKind.u64 (0)), LV.v (Value.int IntKind.u64 (0)), LV.v (Value.int IntKind.u64 (0)), LV.v (Value.int IntKind.u64 (0)), LV.v (Value.int IntKind.u64 (0)), LV.v (Value.int IntKind.u64 (0)), LV.v (Value.int IntKind.u64 (0)), LV.v (Value.int IntKind.u64 (0)), LV.v (Value.int IntKind.u64 (0)), LV.v (Value.int IntKind.u64 (0)), LV.v (Value.int IntKind.u64 (0)), LV.v (Value.int IntKind.u64 (0)), LV.v (Value.int IntKind.u64 (0)), LV.v (Value.int IntKind.u64 (0)), LV.v (Value.int IntKind.u64 (0)), LV.v (Value.int IntKind.u64 (0)), LV.v (Value.int IntKind.u64 (0)), LV.v (Value.int IntKind.u64 (0)), LV.v (Value.int IntKind.u64 (0)), LV.v (Value.int IntKind.u64 (0)), LV.v (Value.int IntKind.u64 (0)), LV.v (Value.int IntKind.u64 (0)), LV.v (Value.int IntKind.u64 (0)), LV.v (Value.int IntKind.u64 (0)), LV.v (Value.int IntKind.u64 (0)), LV.v (Value.int IntKind.u64 (0)), LV.v (Value.int IntKind.u64 (0)), LV.v (Value.int IntKind.u64 (0)), LV.v (Value.int IntKind.u64 (0)), LV.v (Value.int IntKind.u64 (0)), LV.v (Value.int IntKind.u64 (0)), LV.v Value.nilFunc, LV.v Value.nilFunc, LV.v Value.nilFunc, LV.v Value.nilFunc]) })
  | 128 => some ({ d := TD.struct [(0, 1, false), (1, 1, false), (2, 8, true), (10, 80, true), (90, 1, false), (91, 1, false), (92, 1, false), (93, 1, false)], size := 94, bytes := 752, agg := true, zero := some (Cont.gen [LV.v (Value.int IntKind.i64 (0)), LV.v (Value.int IntKind.i64 (0)), LV.v (Value.int IntKind.u64 (0)), LV.v (Value.int IntKind.u64 (0)), LV.v (Value.int IntKind.u64 (0)), LV.v (Value.int IntKind.u64 (0)), LV.v (Value.int IntKind.u64 (0)), LV.v (Value.int IntKind.u64 (0)), LV.v (Value.int IntKind.u64 (0)), LV.v (Value.int IntKind.u64 (0)), LV.v (Value.int IntKind.u64 (0)), LV.v (Value.int IntKind.u64 (0)), LV.v (Value.int IntKind.u64 (0)), LV.v (Value.int IntKind.u64 (0)), LV.v (Value.int IntKind.u64 (0)), LV.v (Value.int IntKind.u64 (0)), LV.v (Value.int IntKind.u64 (0)), LV.v (Value.int IntKind.u64 (0)), LV.v (Value.int IntKind.u64 (0)), LV.v (Value.int IntKind.u64 (0)), LV.v (Value.int IntKind.u64 (0)), LV.v (Value.int IntKind.u64 (0)), LV.v (Value.int IntKind.u64 (0)), LV.v (Value.int IntKind.u64 (0)), LV.v (Value.int IntKind.u64 (0)), LV.v (Value.int IntKind.u64 (0)), LV.v (Value.int IntKind.u64 (0)), LV.v (Value.int IntKind.u64 (0)), LV.v (Value.int IntKind.u64 (0)), LV.v (Value.int IntKind.u64 (0)), LV.v (Value.int IntKind.u64 (0)), LV.v (Value.int IntKind.u64 (0)), LV.v (Value.int IntKind.u64 (0)), LV.v (Value.int IntKind.u64 (0)), LV.v (Value.int IntKind.u64 (0)), LV.v (Value.int IntKind.u64 (0)), LV.v (Value.int IntKind.u64 (0)), LV.v (Value.int IntKind.u64 (0)), LV.v (Value.int IntKind.u64 (0)), LV.v (Value.int IntKind.u64 (0)), LV.v (Value.int IntKind.u64 (0)), LV.v (Value.int IntKind.u64 (0)), LV.v (Value.int IntKind.u64 (0)), LV.v (Value.int IntKind.u64 (0)), LV.v (Value.int IntKind.u64 (0)), LV.v (Value.int IntKind.u64 (0)), LV.v (Value.int IntKind.u64 (0)), LV.v (Value.int IntKind.u64 (0)), LV.v (Value.int IntKind.u64 (0)), LV.v (Value.int IntKind.u64 (0)), LV.v (Value.int IntKind.u64 (0)), LV.v (Value.int IntKind.u64 (0)), LV.v (Value.int IntKind.u64 (0)), LV.v (Value.int IntKind.u64 (0)), LV.v (Value.int IntKind.u64 (0)), LV.v (Value.int IntKind.u64 (0)), LV.v (Value.int IntKind.u64 (0)), LV.v (Value.int IntKind.u64 (0)), LV.v (Value.int IntKind.u64 (0)), LV.v (Value.int IntKind.u64 (0)), LV.v (Value.int IntKind.u64 (0)), LV.v (Value.int IntKind.u64 (0)), LV.v (Value.int IntKind.u64 (0)), LV.v (Value.int IntKind.u64 (0)), LV.v (Value.int IntKind.u64 (0)), LV.v (Value.int IntKind.u64 (0)), LV.v (Value.int IntKind.u64 (0)), LV.v (Value.int IntKind.u64 (0)), LV.v (Value.int IntKind.u64 (0)), LV.v (Value.int IntKind.u64 (0)), LV.v (Value.int IntKind.u64 (0)), LV.v (Value.int IntKind.u64 (0)), LV.v (Value.int IntKind.u64 (0)), LV.v (Value.int IntKind.u64 (0)), LV.v (Value.int IntKind.u64 (0)), LV.v (Value.int IntKind.u64 (0)), LV.v (Value.int IntKind.u64 (0)), LV.v (Value.int IntKind.u64 (0)), LV.v (Value.int IntKind.u64 (0)), LV.v (Value.int IntKind.u64 (0)), LV.v (Value.int IntKind.u64 (0)), LV.v (Value.int IntKind.u64 (0)), LV.v (Value.int IntKind.u64 (0)), LV.v (Value.int IntKind.u64 (0)), LV.v (Value.int IntKind.u64 (0)), LV.v (Value.int IntKind.u64 (0)), LV.v (Value.int IntKind.u64 (0)), LV.v (Value.int IntKind.u64 (0)), LV.v (Value.int IntKind.u64 (0)), LV.v (Value.int IntKind.u64 (0)), LV.v Value.nilFunc, LV.v Value.nilFunc, LV.v Value.nilFunc, LV.v Value.nilFunc]) })
  | 131 => some ({ d := TD.slice 52 1, size := 1, bytes := 24, agg := false, zero := some (Cont.gen [LV.v (Value.slice none 0 0)]) })
  | 132 => some ({ d := TD.ptr, size := 1, bytes := 8, agg := false, zero := some (Cont.gen [LV.v (Value.pointer none)]) })
  | 133 => some ({ d := TD.int IntKind.u16, size := 1, bytes := 2, agg := false, zero := some (Cont.flat IntKind.u16 [0]) })
  | 134 => some ({ d := TD.arr 80 133 1, size := 80, bytes := 160, agg := true, zero := some (Cont.flat IntKind.u16 (List.replicate 80 0)) })
  | 152 => some ({ d := TD.arr 0 16 1, size := 0, bytes := 0, agg := true, zero := some (Cont.gen []) })
  | 153 => some ({ d := TD.struct [(0, 0, true)], size := 0, bytes := 0, agg := true, zero := some (Cont.gen []) })
  | 156 => some ({ d := TD.int IntKind.u32, size := 1, bytes := 4, agg := false, zero := some (Cont.flat IntKind.u32 [0]) })
  | 160 => some ({ d := TD.ptr, size := 1, bytes := 8, agg := false, zero := some (Cont.gen [LV.v (Value.pointer none)]) })
  | _ => none
set_option maxRecDepth 100000 in
theorem tyL_ok : Types Tryz.prog tyL := by
  intro t i h
  unfold tyL at h
  split at h
  · cases h; kernel_rfl
  · cases h; kernel_rfl
  · cases h; kernel_rfl
  · cases h; kernel_rfl
  · cases h; kernel_rfl
  · cases h; kernel_rfl
  · cases h; kernel_rfl
  · cases h; kernel_rfl
  · cases h; kernel_rfl
  · cases h; kernel_rfl
  · cases h; kernel_rfl
  · cases h; kernel_rfl
  · cases h; kernel_rfl
  · cases h; kernel_rfl
  · cases h; kernel_rfl
  · cases h; kernel_rfl
  · cases h; kernel_rfl
  · cases h; kernel_rfl
  · cases h; kernel_rfl
  · cases h; kernel_rfl
  · cases h; kernel_rfl
  · cases h; kernel_rfl
  · cases h; kernel_rfl
  · cases h; kernel_rfl
  · cases h; kernel_rfl
  · cases h; kernel_rfl
  · cases h; kernel_rfl
  · cases h; kernel_rfl
  · cases h; kernel_rfl
  · cases h; kernel_rfl
  · cases h; kernel_rfl
  · cases h; kernel_rfl
  · cases h; kernel_rfl
  · cases h; kernel_rfl
  · cases h; kernel_rfl
  · cases h
theorem follows_ok : Tryz.prog.follows .mixedOrders = true := by kernel_rfl
theorem name_ne (f : Func) (h : (f.name == "runtime.NumGoroutine") = false) : f.name ≠ "runtime.NumGoroutine" := by
  intro e
  rw [e] at h
  simp at h
end Go.Proofs.YtdeigmjbcbjgeaaGreatDoor
