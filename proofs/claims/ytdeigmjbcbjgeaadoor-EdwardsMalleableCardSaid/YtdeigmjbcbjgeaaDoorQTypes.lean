/-
  The seat's types, as the machine of plain values knows them.
-/
import Derived.Test.YtdeigmjbcbjgeaaDoorQMJ
import Derived.Test.YtdeigmjbcbjgeaaDoorProg
namespace Go.Proofs.YtdeigmjbcbjgeaaDoor
open Go.RowKit

def tyL (t : Nat) : Option TI :=
  match t with
  | 2 => some ({ d := TD.int IntKind.i64, size := 1, bytes := 8, agg := false, zero := some (Cont.flat IntKind.i64 [0]) })
  | 3 => some ({ d := TD.int IntKind.i64, size := 1, bytes := 8, agg := false, zero := some (Cont.flat IntKind.i64 [0]) })
  | 4 => some ({ d := TD.bool, size := 1, bytes := 1, agg := false, zero := some (Cont.gen [LV.v (Value.bool false)]) })
  | 5 => some ({ d := TD.int IntKind.u8, size := 1, bytes := 1, agg := false, zero := some (Cont.flat IntKind.u8 [0]) })
  | 9 => some ({ d := TD.str, size := 1, bytes := 16, agg := false, zero := some (Cont.gen [LV.str []]) })
  | 12 => some ({ d := TD.int IntKind.u64, size := 1, bytes := 8, agg := false, zero := some (Cont.flat IntKind.u64 [0]) })
  | 21 => some ({ d := TD.int IntKind.i32, size := 1, bytes := 4, agg := false, zero := some (Cont.flat IntKind.i32 [0]) })
  | 22 => some ({ d := TD.slice 5 1, size := 1, bytes := 24, agg := false, zero := some (Cont.gen [LV.v (Value.slice none 0 0)]) })
  | 25 => some ({ d := TD.int IntKind.i64, size := 1, bytes := 8, agg := false, zero := some (Cont.flat IntKind.i64 [0]) })
  | 30 => some ({ d := TD.arr 32 5 1, size := 32, bytes := 32, agg := true, zero := some (Cont.flat IntKind.u8 (List.replicate 32 0)) })
  | 31 => some ({ d := TD.arr 32 5 1, size := 32, bytes := 32, agg := true, zero := some (Cont.flat IntKind.u8 (List.replicate 32 0)) })
  | 33 => some ({ d := TD.int IntKind.u64, size := 1, bytes := 8, agg := false, zero := some (Cont.flat IntKind.u64 [0]) })
  | 34 => some ({ d := TD.arr 4 33 1, size := 4, bytes := 32, agg := true, zero := some (Cont.flat IntKind.u64 [0, 0, 0, 0]) })
  | 35 => some ({ d := TD.arr 4 33 1, size := 4, bytes := 32, agg := true, zero := some (Cont.flat IntKind.u64 [0, 0, 0, 0]) })
  | 37 => some ({ d := TD.int IntKind.u64, size := 1, bytes := 8, agg := false, zero := some (Cont.flat IntKind.u64 [0]) })
  | 45 => some ({ d := TD.struct [(0, 32, true), (32, 32, true), (64, 32, true), (96, 32, true)], size := 128, bytes := 128, agg := true, zero := some (Cont.flat IntKind.u8 (List.replicate 128 0)) })
  | 46 => some ({ d := TD.struct [(0, 32, true), (32, 32, true), (64, 32, true), (96, 32, true)], size := 128, bytes := 128, agg := true, zero := some (Cont.flat IntKind.u8 (List.replicate 128 0)) })
  | 61 => some ({ d := TD.slice 22 1, size := 1, bytes := 24, agg := false, zero := some (Cont.gen [LV.v (Value.slice none 0 0)]) })
  | 63 => some ({ d := TD.arr 4 33 1, size := 4, bytes := 32, agg := true, zero := some (Cont.flat IntKind.u64 [0, 0, 0, 0]) })
  | 65 => some ({ d := TD.arr 8 33 1, size := 8, bytes := 64, agg := true, zero := some (Cont.flat IntKind.u64 [0, 0, 0, 0, 0, 0, 0, 0]) })
  | 66 => some ({ d := TD.arr 8 33 1, size := 8, bytes := 64, agg := true, zero := some (Cont.flat IntKind.u64 [0, 0, 0, 0, 0, 0, 0, 0]) })
  | 79 => some ({ d := TD.arr 80 33 1, size := 80, bytes := 640, agg := true, zero := some (Cont.flat IntKind.u64 (List.replicate 80 0)) })
  | 81 => some ({ d := TD.struct [(0, 1, false), (1, 1, false), (2, 8, true), (10, 80, true), (90, 1, false), (91, 1, false), (92, 1, false), (93, 1, false)], size := 94, bytes := 752, agg := true, zero := some (Cont.gen [LV.v (Value.int IntKind.i64 (0)), LV.v (Value.int IntKind.i64 (0)), LV.v (Value.int IntKind.u64 (0)), LV.v (Value.int IntKind.u64 (0)), LV.v (Value.int IntKind.u64 (0)), LV.v (Value.int IntKind.u64 (0)), LV.v (Value.int IntKind.u64 (0)), LV.v (Value.int IntKind.u64 (0)), LV.v (Value.int IntKind.u64 (0)), LV.v (Value.int IntKind.u64 (0)), LV.v (Value.int IntKind.u64 (0)), LV.v (Value.int IntKind.u64 (0)), LV.v (Value.int IntKind.u64 (0)), LV.v (Value.int IntKind.u64 (0)), LV.v (Value.int IntKind.u64 (0)), LV.v (Value.int IntKind.u64 (0)), LV.v (Value.int IntKind.u64 (0)), LV.v (Value.int IntKind.u64 (0)), LV.v (Value.int IntKind.u64 (0)), LV.v (Value.int IntKind.u64 (0)), LV.v (Value.int IntKind.u64 (0)), LV.v (Value.int IntKind.u64 (0)), LV.v (Value.int IntKind.u64 (0)), LV.v (Value.int IntKind.u64 (0)), LV.v (Value.int IntKind.u64 (0)), LV.v (Value.int IntKind.u64 (0)), LV.v (Value.int IntKind.u64 (0)), LV.v (Value.int IntKind.u64 (0)), LV.v (Value.int IntKind.u64 (0)), LV.v (Value.int IntKind.u64 (0)), LV.v (Value.int IntKind.u64 (0)), LV.v (Value.int IntKind.u64 (0)), LV.v (Value.int IntKind.u64 (0)), LV.v (Value.int IntKind.u64 (0)), LV.v (Value.int IntKind.u64 (0)), LV.v (Value.int IntKind.u64 (0)), LV.v (Value.int IntKind.u64 (0)), LV.v (Value.int IntKind.u64 (0)), LV.v (Value.int IntKind.u64 (0)), LV.v (Value.int IntKind.u64 (0)), LV.v (Value.int IntKind.u64 (0)), LV.v (Value.int IntKind.u64 (0)), LV.v (Value.int IntKind.u64 (0)), LV.v (Value.int IntKind.u64 (0)), LV.v (Value.int IntKind.u64 (0)), LV.v (Value.int IntKind.u64 (0)), LV.v (Value.int IntKind.u64 (0)), LV.v (Value.int IntKind.u64 (0)), LV.v (Value.int IntKind.u64 (0)), LV.v (Value.int IntKind.u64 (0)), LV.v (Value.int IntKind.u64 (0)), LV.v (Value.int IntKind.u64 (0)), LV.v (Value.int IntKind.u64 (0)), LV.v (Value.int IntKind.u64 (0)), LV.v (Value.int IntKind.u64 (0)), LV.v (Value.int IntKind.u64 (0)), LV.v (Value.int IntKind.u64 (0)), LV.v (Value.int IntKind.u64 (0)), LV.v (Value.int IntKind.u64 (0)), LV.v (Value.int IntKind.u64 (0)), LV.v (Value.int IntKind.u64 (0)), LV.v (Value.int IntKind.u64 (0)), LV.v (Value.int IntKind.u64 (0)), LV.v (Value.int IntKind.u64 (0)), LV.v (Value.int IntKind.u64 (0)), LV.v (Value.int IntKind.u64 (0)), LV.v (Value.int IntKind.u64 (0)), LV.v (Value.int IntKind.u64 (0)), LV.v (Value.int IntKind.u64 (0)), LV.v (Value.int IntKind.u64 (0)), LV.v (Value.int IntKind.u64 (0)), LV.v (Value.int IntKind.u64 (0)), LV.v (Value.int IntKind.u64 (0)), LV.v (Value.int IntKind.u64 (0)), LV.v (Value.int IntKind.u64 (0)), LV.v (Value.int IntKind.u64 (0)), LV.v (Value.int IntKind.u64 (0)), LV.v (Value.int IntKind.u64 (0)), LV.v (Value.int IntKind.u64 (0)), LV.v (Value.int IntKind.u64 (0)), LV.v (Value.int IntKind.u64 (0)), LV.v (Value.int IntKind.u64 (0)), LV.v (Value.int IntKind.u64 (0)), LV.v (Value.int IntKind.u64 (0)), LV.v (Value.int IntKind.u64 (0)), LV.v (Value.int IntKind.u64 (0)), LV.v (Value.int IntKind.u64 (0)), LV.v (Value.int IntKind.u64 (0)), LV.v (Value.int IntKind.u64 (0)), LV.v (Value.int IntKind.u64 (0)), LV.v Value.nilFunc, LV.v Value.nilFunc, LV.v Value.nilFunc, LV.v Value.nilFunc]) })
  | 82 => some ({ d := TD.struct [(0, 1, false), (1, 1, false), (2, 8, true), (10, 80, true), (90, 1, false), (91, 1, false), (92, 1, false), (93, 1, false)], size := 94, bytes := 752, agg := true, zero := some (Cont.gen [LV.v (Value.int IntKind.i64 (0)), LV.v (Value.int IntKind.i64 (0)), LV.v (Value.int IntKind.u64 (0)), LV.v (Value.int IntKind.u64 (0)), LV.v (Value.int IntKind.u64 (0)), LV.v (Value.int IntKind.u64 (0)), LV.v (Value.int IntKind.u64 (0)), LV.v (Value.int IntKind.u64 (0)), LV.v (Value.int IntKind.u64 (0)), LV.v (Value.int IntKind.u64 (0)), LV.v (Value.int IntKind.u64 (0)), LV.v (Value.int IntKind.u64 (0)), LV.v (Value.int IntKind.u64 (0)), LV.v (Value.int IntKind.u64 (0)), LV.v (Value.int IntKind.u64 (0)), LV.v (Value.int IntKind.u64 (0)), LV.v (Value.int IntKind.u64 (0)), LV.v (Value.int IntKind.u64 (0)), LV.v (Value.int IntKind.u64 (0)), LV.v (Value.int IntKind.u64 (0)), LV.v (Value.int IntKind.u64 (0)), LV.v (Value.int IntKind.u64 (0)), LV.v (Value.int IntKind.u64 (0)), LV.v (Value.int IntKind.u64 (0)), LV.v (Value.int IntKind.u64 (0)), LV.v (Value.int IntKind.u64 (0)), LV.v (Value.int IntKind.u64 (0)), LV.v (Value.int IntKind.u64 (0)), LV.v (Value.int IntKind.u64 (0)), LV.v (Value.int IntKind.u64 (0)), LV.v (Value.int IntKind.u64 (0)), LV.v (Value.int IntKind.u64 (0)), LV.v (Value.int IntKind.u64 (0)), LV.v (Value.int IntKind.u64 (0)), LV.v (Value.int IntKind.u64 (0)), LV.v (Value.int IntKind.u64 (0)), LV.v (Value.int IntKind.u64 (0)), LV.v (Value.int IntKind.u64 (0)), LV.v (Value.int IntKind.u64 (0)), LV.v (Value.int IntKind.u64 (0)), LV.v (Value.int IntKind.u64 (0)), LV.v (Value.int IntKind.u64 (0)), LV.v (Value.int IntKind.u64 (0)), LV.v (Value.int IntKind.u64 (0)), LV.v (Value.int IntKind.u64 (0)), LV.v (Value.int IntKind.u64 (0)), LV.v (Value.int IntKind.u64 (0)), LV.v (Value.int IntKind.u64 (0)), LV.v (Value.int IntKind.u64 (0)), LV.v (Value.int IntKind.u64 (0)), LV.v (Value.int IntKind.u64 (0)), LV.v (Value.int IntKind.u64 (0)), LV.v (Value.int IntKind.u64 (0)), LV.v (Value.int IntKind.u64 (0)), LV.v (Value.int IntKind.u64 (0)), LV.v (Value.int IntKind.u64 (0)), LV.v (Value.int IntKind.u64 (0)), LV.v (Value.int IntKind.u64 (0)), LV.v (Value.int IntKind.u64 (0)), LV.v (Value.int IntKind.u64 (0)), LV.v (Value.int IntKind.u64 (0)), LV.v (Value.int IntKind.u64 (0)), LV.v (Value.int IntKind.u64 (0)), LV.v (Value.int IntKind.u64 (0)), LV.v (Value.int IntKind.u64 (0)), LV.v (Value.int IntKind.u64 (0)), LV.v (Value.int IntKind.u64 (0)), LV.v (Value.int IntKind.u64 (0)), LV.v (Value.int IntKind.u64 (0)), LV.v (Value.int IntKind.u64 (0)), LV.v (Value.int IntKind.u64 (0)), LV.v (Value.int IntKind.u64 (0)), LV.v (Value.int IntKind.u64 (0)), LV.v (Value.int IntKind.u64 (0)), LV.v (Value.int IntKind.u64 (0)), LV.v (Value.int IntKind.u64 (0)), LV.v (Value.int IntKind.u64 (0)), LV.v (Value.int IntKind.u64 (0)), LV.v (Value.int IntKind.u64 (0)), LV.v (Value.int IntKind.u64 (0)), LV.v (Value.int IntKind.u64 (0)), LV.v (Value.int IntKind.u64 (0)), LV.v (Value.int IntKind.u64 (0)), LV.v (Value.int IntKind.u64 (0)), LV.v (Value.int IntKind.u64 (0)), LV.v (Value.int IntKind.u64 (0)), LV.v (Value.int IntKind.u64 (0)), LV.v (Value.int IntKind.u64 (0)), LV.v (Value.int IntKind.u64 (0)), LV.v (Value.int IntKind.u64 (0)), LV.v Value.nilFunc, LV.v Value.nilFunc, LV.v Value.nilFunc, LV.v Value.nilFunc]) })
  | 97 => some ({ d := TD.slice 33 1, size := 1, bytes := 24, agg := false, zero := some (Cont.gen [LV.v (Value.slice none 0 0)]) })
  | 100 => some ({ d := TD.ptr, size := 1, bytes := 8, agg := false, zero := some (Cont.gen [LV.v (Value.pointer none)]) })
  | 102 => some ({ d := TD.int IntKind.u16, size := 1, bytes := 2, agg := false, zero := some (Cont.flat IntKind.u16 [0]) })
  | 103 => some ({ d := TD.arr 80 102 1, size := 80, bytes := 160, agg := true, zero := some (Cont.flat IntKind.u16 (List.replicate 80 0)) })
  | 121 => some ({ d := TD.arr 0 16 1, size := 0, bytes := 0, agg := true, zero := some (Cont.gen []) })
  | 122 => some ({ d := TD.struct [(0, 0, true)], size := 0, bytes := 0, agg := true, zero := some (Cont.gen []) })
  | 125 => some ({ d := TD.int IntKind.u32, size := 1, bytes := 4, agg := false, zero := some (Cont.flat IntKind.u32 [0]) })
  | 129 => some ({ d := TD.ptr, size := 1, bytes := 8, agg := false, zero := some (Cont.gen [LV.v (Value.pointer none)]) })
  | _ => none
set_option maxRecDepth 100000 in
theorem tyL_ok : Types Tryd.prog tyL := by
  intro t i h
  unfold tyL at h
  split at h
  · cases h; kernel_rfl
  · cases h; kernel_rfl
  · cases h; kernel_rfl
  · cases h; kernel_rfl
  · cases h; kernel_rfl
  · cases h; kernel_rfl
  · cases h; kernel_rfl
  · cases h; kernel_rfl
  · cases h; kernel_rfl
  · cases h; kernel_rfl
  · cases h; kernel_rfl
  · cases h; kernel_rfl
  · cases h; kernel_rfl
  · cases h; kernel_rfl
  · cases h; kernel_rfl
  · cases h; kernel_rfl
  · cases h; kernel_rfl
  · cases h; kernel_rfl
  · cases h; kernel_rfl
  · cases h; kernel_rfl
  · cases h; kernel_rfl
  · cases h; kernel_rfl
  · cases h; kernel_rfl
  · cases h; kernel_rfl
  · cases h; kernel_rfl
  · cases h; kernel_rfl
  · cases h; kernel_rfl
  · cases h; kernel_rfl
  · cases h; kernel_rfl
  · cases h; kernel_rfl
  · cases h; kernel_rfl
  · cases h; kernel_rfl
  · cases h
theorem follows_ok : Tryd.prog.follows .mixedOrders = true := by kernel_rfl
theorem name_ne (f : Func) (h : (f.name == "runtime.NumGoroutine") = false) : f.name ≠ "runtime.NumGoroutine" := by
  intro e
  rw [e] at h
  simp at h
end Go.Proofs.YtdeigmjbcbjgeaaDoor
