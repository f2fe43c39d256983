/-
  Contracts of math/bits' rotations: to the left, by a count modulo the size of the word.
-/
import Derived.Test.YtomeeeakaejokaaMkS
namespace Go.Proofs.Ytomeeeakaejokaa
open Go.RowKit

/-- x rotated left by m places, as Go's text makes it. -/
def rot32 (x : Int) (m : Nat) : Int := bits .or .u32 (x * 2 ^ m % 4294967296) (x / 2 ^ (32 - m))
def rot64 (x : Int) (m : Nat) : Int := bits .or .u64 (x * 2 ^ m % 18446744073709551616) (x / 2 ^ (64 - m))

set_option maxHeartbeats 400000 in
theorem Rot32_any (x n : Int) (m : Nat) (w : World) (hm : bits .and .u64 (IntKind.u64.wrap n) 31 = m) (h1 : m ≤ 31) :
    Calls Try.prog 52 #[.int .u32 x, .int .i64 n] w fun e w' => e = .returned (.int .u32 (rot32 x m)) ∧ w = w' := by
  have h1' : (m : Int) ≤ 31 := by omega
  have HS := hid (show (32 - (m : Int)).toNat = 32 - m by omega)
  go_enter Try.func52, Try.ntmps52
  go_wp2
  go_ret
  exact ⟨rfl, rfl⟩

end Go.Proofs.Ytomeeeakaejokaa
