import Derived.Deep.QuietTactic
import Derived.BigQuiet
import Derived.Test.YtdeigmjbcbjgeaaGreatDoorYcBase
import Derived.Test.YtdeigmjbcbjgeaaGreatDoorRows
namespace Go.Proofs.YtdeigmjbcbjgeaaGreatDoor
open Go.RowKit
theorem ret_i64 {a b : Int} (h : a = b) : Ending.returned (.int .i64 a) = .returned (.int .i64 b) := by rw [h]
set_option maxHeartbeats 400000 in
theorem Mod_any (v n : Int) (w : World) (h1 : 1 ≤ n) (hn : n ≤ 9223372036854775807) :
  Calls Tryz.prog 23 #[.int .i64 v, .int .i64 n] w fun e w' => e = .returned (.int .i64 (v % n)) ∧ w = w' := by
 have hb := tmod_bounds v n h1
 have hz : (n == 0) = false := by simp; omega
 by_cases h : v.tmod n < 0
 ·have hd : decide (v.tmod n < 0) = true := by simpa using h
  have hb1 : -9223372036854775808 ≤ v.tmod n + n := by omega
  have hb2 : v.tmod n + n ≤ 9223372036854775807 := by omega
  have HE := hid (emod_of_tmod_neg v n h1 h)
  go_enter Tryz.func23, Tryz.ntmps23
  go_wp2
  go_ret
  exact ⟨ret_i64 HE.out, rfl⟩
 ·have hd : decide (v.tmod n < 0) = false := by simpa using h
  have HE := hid (emod_of_tmod_nonneg v n h1 h)
  go_enter Tryz.func23, Tryz.ntmps23
  go_wp2
  go_ret
  exact ⟨ret_i64 HE.out, rfl⟩
end Go.Proofs.YtdeigmjbcbjgeaaGreatDoor
namespace Go.Proofs.YtdeigmjbcbjgeaaGreatDoor
open Go.RowKit
def rot64 (x : Int) (m : Nat) : Int := bits .or .u64 (x * 2 ^ m % 18446744073709551616) (x / 2 ^ (64 - m))
set_option maxHeartbeats 400000 in
theorem Rot64_any (x n : Int) (m : Nat) (w : World) (hm : bits .and .u64 (IntKind.u64.wrap n) 63 = m) (h1 : m ≤ 63) :
  Calls Tryz.prog 121 #[.int .u64 x, .int .i64 n] w fun e w' => e = .returned (.int .u64 (rot64 x m)) ∧ w = w' := by
 have h1' : (m : Int) ≤ 63 := by omega
 have HS := hid (show (64 - (m : Int)).toNat = 64 - m by omega)
 go_enter Tryz.func121, Tryz.ntmps121
 go_wp2
 go_ret
 exact ⟨rfl, rfl⟩
end Go.Proofs.YtdeigmjbcbjgeaaGreatDoor
