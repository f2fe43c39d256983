/-
  The seat's types, as the machine of plain values knows them.
-/
import Derived.Test.YtkennahakodfnaaML
import Derived.Test.YtkennahakodfnaaProg
namespace Go.Proofs.Ytkennahakodfnaa
open Go.RowKit

def tyL (t : Nat) : Option TI :=
  match t with
  | 2 => some ({ d := TD.int IntKind.i64, size := 1, bytes := 8, agg := false, zero := some (Cont.flat IntKind.i64 [0]) })
  | 3 => some ({ d := TD.int IntKind.i64, size := 1, bytes := 8, agg := false, zero := some (Cont.flat IntKind.i64 [0]) })
  | 4 => some ({ d := TD.bool, size := 1, bytes := 1, agg := false, zero := some (Cont.gen [LV.v (Value.bool false)]) })
  | 5 => some ({ d := TD.int IntKind.u8, size := 1, bytes := 1, agg := false, zero := some (Cont.flat IntKind.u8 [0]) })
  | 9 => some ({ d := TD.str, size := 1, bytes := 16, agg := false, zero := some (Cont.gen [LV.str []]) })
  | 12 => some ({ d := TD.int IntKind.u64, size := 1, bytes := 8, agg := false, zero := some (Cont.flat IntKind.u64 [0]) })
  | 21 => some ({ d := TD.int IntKind.i32, size := 1, bytes := 4, agg := false, zero := some (Cont.flat IntKind.i32 [0]) })
  | 22 => some ({ d := TD.arr 32 5 1, size := 32, bytes := 32, agg := true, zero := some (Cont.flat IntKind.u8 (List.replicate 32 0)) })
  | 23 => some ({ d := TD.arr 32 5 1, size := 32, bytes := 32, agg := true, zero := some (Cont.flat IntKind.u8 (List.replicate 32 0)) })
  | 28 => some ({ d := TD.slice 5 1, size := 1, bytes := 24, agg := false, zero := some (Cont.gen [LV.v (Value.slice none 0 0)]) })
  | 31 => some ({ d := TD.int IntKind.u64, size := 1, bytes := 8, agg := false, zero := some (Cont.flat IntKind.u64 [0]) })
  | 32 => some ({ d := TD.arr 4 31 1, size := 4, bytes := 32, agg := true, zero := some (Cont.flat IntKind.u64 [0, 0, 0, 0]) })
  | 33 => some ({ d := TD.arr 4 31 1, size := 4, bytes := 32, agg := true, zero := some (Cont.flat IntKind.u64 [0, 0, 0, 0]) })
  | 35 => some ({ d := TD.slice 23 32, size := 1, bytes := 24, agg := false, zero := some (Cont.gen [LV.v (Value.slice none 0 0)]) })
  | 37 => some ({ d := TD.int IntKind.i64, size := 1, bytes := 8, agg := false, zero := some (Cont.flat IntKind.i64 [0]) })
  | 44 => some ({ d := TD.int IntKind.u64, size := 1, bytes := 8, agg := false, zero := some (Cont.flat IntKind.u64 [0]) })
  | 47 => some ({ d := TD.slice 28 1, size := 1, bytes := 24, agg := false, zero := some (Cont.gen [LV.v (Value.slice none 0 0)]) })
  | 58 => some ({ d := TD.arr 4 31 1, size := 4, bytes := 32, agg := true, zero := some (Cont.flat IntKind.u64 [0, 0, 0, 0]) })
  | 63 => some ({ d := TD.arr 8 31 1, size := 8, bytes := 64, agg := true, zero := some (Cont.flat IntKind.u64 [0, 0, 0, 0, 0, 0, 0, 0]) })
  | 64 => some ({ d := TD.arr 8 31 1, size := 8, bytes := 64, agg := true, zero := some (Cont.flat IntKind.u64 [0, 0, 0, 0, 0, 0, 0, 0]) })
  | 74 => some ({ d := TD.struct [(0, 32, true), (32, 32, true)], size := 64, bytes := 64, agg := true, zero := some (Cont.flat IntKind.u8 (List.replicate 64 0)) })
  | 75 => some ({ d := TD.struct [(0, 32, true), (32, 32, true)], size := 64, bytes := 64, agg := true, zero := some (Cont.flat IntKind.u8 (List.replicate 64 0)) })
  | 93 => some ({ d := TD.arr 0 16 1, size := 0, bytes := 0, agg := true, zero := some (Cont.gen []) })
  | 94 => some ({ d := TD.struct [(0, 0, true)], size := 0, bytes := 0, agg := true, zero := some (Cont.gen []) })
  | 97 => some ({ d := TD.int IntKind.u32, size := 1, bytes := 4, agg := false, zero := some (Cont.flat IntKind.u32 [0]) })
  | 101 => some ({ d := TD.ptr, size := 1, bytes := 8, agg := false, zero := some (Cont.gen [LV.v (Value.pointer none)]) })
  | _ => none
set_option maxRecDepth 100000 in
theorem tyL_ok : Types Try.prog tyL := by
  intro t i h
  unfold tyL at h
  split at h
  · cases h; kernel_rfl
  · cases h; kernel_rfl
  · cases h; kernel_rfl
  · cases h; kernel_rfl
  · cases h; kernel_rfl
  · cases h; kernel_rfl
  · cases h; kernel_rfl
  · cases h; kernel_rfl
  · cases h; kernel_rfl
  · cases h; kernel_rfl
  · cases h; kernel_rfl
  · cases h; kernel_rfl
  · cases h; kernel_rfl
  · cases h; kernel_rfl
  · cases h; kernel_rfl
  · cases h; kernel_rfl
  · cases h; kernel_rfl
  · cases h; kernel_rfl
  · cases h; kernel_rfl
  · cases h; kernel_rfl
  · cases h; kernel_rfl
  · cases h; kernel_rfl
  · cases h; kernel_rfl
  · cases h; kernel_rfl
  · cases h; kernel_rfl
  · cases h; kernel_rfl
  · cases h
theorem follows_ok : Try.prog.follows .mixedOrders = true := by kernel_rfl
theorem name_ne (f : Func) (h : (f.name == "runtime.NumGoroutine") = false) : f.name ≠ "runtime.NumGoroutine" := by
  intro e
  rw [e] at h
  simp at h
end Go.Proofs.Ytkennahakodfnaa
