/-
  Contracts of math/bits' rotations: to the left, by a count modulo the size of the word.
-/
import Derived.Deep.QuietTactic
import Derived.BigQuiet
import Derived.Test.YtdeigmjbcbjgeaaGreatDoorYdBase
import Derived.Test.YtdeigmjbcbjgeaaGreatDoorRows
namespace Go.Proofs.YtdeigmjbcbjgeaaGreatDoor
open Go.RowKit

def rot64 (x : Int) (m : Nat) : Int := bits .or .u64 (x * 2 ^ m % 18446744073709551616) (x / 2 ^ (64 - m))

set_option maxHeartbeats 400000 in
theorem Rot64_any (x n : Int) (m : Nat) (w : World) (hm : bits .and .u64 (IntKind.u64.wrap n) 63 = m) (h1 : m ≤ 63) :
    Calls Tryz.prog 121 #[.int .u64 x, .int .i64 n] w fun e w' => e = .returned (.int .u64 (rot64 x m)) ∧ w = w' := by
  have h1' : (m : Int) ≤ 63 := by omega
  have HS := hid (show (64 - (m : Int)).toNat = 64 - m by omega)
  go_enter Tryz.func121, Tryz.ntmps121
  go_wp2
  go_ret
  exact ⟨rfl, rfl⟩
end Go.Proofs.YtdeigmjbcbjgeaaGreatDoor
