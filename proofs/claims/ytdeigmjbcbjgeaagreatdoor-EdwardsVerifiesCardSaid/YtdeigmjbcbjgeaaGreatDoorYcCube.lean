import Derived.Laws.Externs
import Derived.Deep.Cut
import Derived.Test.YtdeigmjbcbjgeaaGreatDoorYcMkS
namespace Go.Proofs.YtdeigmjbcbjgeaaGreatDoor
open Go.RowKit
def mulT (x y : Int) : Int := IntKind.u64.wrap (IntKind.u64.wrap (x / 4294967296 * bits .and .u64 y 4294967295) + IntKind.u64.wrap (bits .and .u64 x 4294967295 * bits .and .u64 y 4294967295) / 4294967296)
def mulHi (x y : Int) : Int :=
 IntKind.u64.wrap (IntKind.u64.wrap (IntKind.u64.wrap (x / 4294967296 * (y / 4294967296)) + mulT x y / 4294967296) +
  IntKind.u64.wrap (bits .and .u64 (mulT x y) 4294967295 + IntKind.u64.wrap (bits .and .u64 x 4294967295 * (y / 4294967296))) / 4294967296)
def mulLo (x y : Int) : Int := IntKind.u64.wrap (x * y)
theorem mulLo_nonneg (x y : Int) : 0 ≤ mulLo x y := wrap_u64_nonneg _
set_option maxHeartbeats 400000 in
theorem Mul64_any (x y : Int) (w : World) :
  Calls Tryz.prog 113 #[.int .u64 x, .int .u64 y] w fun e w' => e = .returned (.tuple #[.int .u64 (mulHi x y), .int .u64 (mulLo x y)]) ∧ w = w' := by
 go_enter Tryz.func113, Tryz.ntmps113
 go_wp2
 go_ret2
 exact ⟨rfl, rfl⟩
theorem Add64_run (x y : Int) (w : World) (hx : 0 ≤ x) (hy : 0 ≤ y) :
  (callFunc 114 #[.int .u64 x, .int .u64 y, .int .u64 0]).run Tryz.prog w = .ok (.value (.tuple #[.int .u64 ((x + y + 0) % 18446744073709551616), .int .u64 ((x + y + 0) / 18446744073709551616)])) w := by
 rw [run_callFunc_extern Tryz.func114 (by kernel_rfl) (by kernel_rfl) (by kernel_rfl) (e := add64Entry) (by kernel_rfl), run_add64 x y 0 hx hy (by omega) (by omega)]
 rfl
end Go.Proofs.YtdeigmjbcbjgeaaGreatDoor
