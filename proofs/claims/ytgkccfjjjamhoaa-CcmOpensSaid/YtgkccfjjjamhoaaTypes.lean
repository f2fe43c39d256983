/-
  The seat's types, as the machine of plain values knows them.
-/
import Derived.Test.YtgkccfjjjamhoaaML
import Derived.Test.YtgkccfjjjamhoaaProg
namespace Go.Proofs.Ytgkccfjjjamhoaa
open Go.RowKit

def tyL (t : Nat) : Option TI :=
  match t with
  | 2 => some ({ d := TD.int IntKind.i64, size := 1, bytes := 8, agg := false, zero := some (Cont.flat IntKind.i64 [0]) })
  | 3 => some ({ d := TD.int IntKind.i64, size := 1, bytes := 8, agg := false, zero := some (Cont.flat IntKind.i64 [0]) })
  | 4 => some ({ d := TD.bool, size := 1, bytes := 1, agg := false, zero := some (Cont.gen [LV.v (Value.bool false)]) })
  | 5 => some ({ d := TD.int IntKind.u8, size := 1, bytes := 1, agg := false, zero := some (Cont.flat IntKind.u8 [0]) })
  | 9 => some ({ d := TD.str, size := 1, bytes := 16, agg := false, zero := some (Cont.gen [LV.str []]) })
  | 12 => some ({ d := TD.int IntKind.u64, size := 1, bytes := 8, agg := false, zero := some (Cont.flat IntKind.u64 [0]) })
  | 21 => some ({ d := TD.int IntKind.i32, size := 1, bytes := 4, agg := false, zero := some (Cont.flat IntKind.i32 [0]) })
  | 22 => some ({ d := TD.slice 5 1, size := 1, bytes := 24, agg := false, zero := some (Cont.gen [LV.v (Value.slice none 0 0)]) })
  | 28 => some ({ d := TD.arr 2 3 1, size := 2, bytes := 16, agg := true, zero := some (Cont.flat IntKind.i64 [0, 0]) })
  | 29 => some ({ d := TD.slice 28 2, size := 1, bytes := 24, agg := false, zero := some (Cont.gen [LV.v (Value.slice none 0 0)]) })
  | 33 => some ({ d := TD.int IntKind.i64, size := 1, bytes := 8, agg := false, zero := some (Cont.flat IntKind.i64 [0]) })
  | 39 => some ({ d := TD.slice 22 1, size := 1, bytes := 24, agg := false, zero := some (Cont.gen [LV.v (Value.slice none 0 0)]) })
  | 43 => some ({ d := TD.int IntKind.u64, size := 1, bytes := 8, agg := false, zero := some (Cont.flat IntKind.u64 [0]) })
  | 44 => some ({ d := TD.int IntKind.u64, size := 1, bytes := 8, agg := false, zero := some (Cont.flat IntKind.u64 [0]) })
  | 51 => some ({ d := TD.arr 256 5 1, size := 256, bytes := 256, agg := true, zero := some (Cont.flat IntKind.u8 (List.replicate 256 0)) })
  | 53 => some ({ d := TD.arr 16 5 1, size := 16, bytes := 16, agg := true, zero := some (Cont.flat IntKind.u8 [0, 0, 0, 0, 0, 0, 0, 0, 0, 0, 0, 0, 0, 0, 0, 0]) })
  | 54 => some ({ d := TD.arr 16 5 1, size := 16, bytes := 16, agg := true, zero := some (Cont.flat IntKind.u8 [0, 0, 0, 0, 0, 0, 0, 0, 0, 0, 0, 0, 0, 0, 0, 0]) })
  | 55 => some ({ d := TD.arr 11 54 16, size := 176, bytes := 176, agg := true, zero := some (Cont.flat IntKind.u8 (List.replicate 176 0)) })
  | 77 => some ({ d := TD.arr 4 5 1, size := 4, bytes := 4, agg := true, zero := some (Cont.flat IntKind.u8 [0, 0, 0, 0]) })
  | 79 => some ({ d := TD.arr 255 5 1, size := 255, bytes := 255, agg := true, zero := some (Cont.flat IntKind.u8 (List.replicate 255 0)) })
  | 84 => some ({ d := TD.arr 0 16 1, size := 0, bytes := 0, agg := true, zero := some (Cont.gen []) })
  | 85 => some ({ d := TD.struct [(0, 0, true)], size := 0, bytes := 0, agg := true, zero := some (Cont.gen []) })
  | 88 => some ({ d := TD.int IntKind.u32, size := 1, bytes := 4, agg := false, zero := some (Cont.flat IntKind.u32 [0]) })
  | 92 => some ({ d := TD.ptr, size := 1, bytes := 8, agg := false, zero := some (Cont.gen [LV.v (Value.pointer none)]) })
  | _ => none
set_option maxRecDepth 100000 in
theorem tyL_ok : Types Try.prog tyL := by
  intro t i h
  unfold tyL at h
  split at h
  · cases h; kernel_rfl
  · cases h; kernel_rfl
  · cases h; kernel_rfl
  · cases h; kernel_rfl
  · cases h; kernel_rfl
  · cases h; kernel_rfl
  · cases h; kernel_rfl
  · cases h; kernel_rfl
  · cases h; kernel_rfl
  · cases h; kernel_rfl
  · cases h; kernel_rfl
  · cases h; kernel_rfl
  · cases h; kernel_rfl
  · cases h; kernel_rfl
  · cases h; kernel_rfl
  · cases h; kernel_rfl
  · cases h; kernel_rfl
  · cases h; kernel_rfl
  · cases h; kernel_rfl
  · cases h; kernel_rfl
  · cases h; kernel_rfl
  · cases h; kernel_rfl
  · cases h; kernel_rfl
  · cases h; kernel_rfl
  · cases h
theorem follows_ok : Try.prog.follows .mixedOrders = true := by kernel_rfl
theorem name_ne (f : Func) (h : (f.name == "runtime.NumGoroutine") = false) : f.name ≠ "runtime.NumGoroutine" := by
  intro e
  rw [e] at h
  simp at h
end Go.Proofs.Ytgkccfjjjamhoaa
