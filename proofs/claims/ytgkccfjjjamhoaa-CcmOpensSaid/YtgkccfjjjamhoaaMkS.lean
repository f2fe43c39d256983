/-
  Contracts of the makers' small functions that all seats have: Mod.
-/
import Derived.Test.YtgkccfjjjamhoaaRows
import Derived.Test.YtgkccfjjjamhoaaBase
import Derived.Deep.QuietTactic
import Derived.BigQuiet
namespace Go.Proofs.Ytgkccfjjjamhoaa
open Go.RowKit

theorem ret_i64 {a b : Int} (h : a = b) : Ending.returned (.int .i64 a) = .returned (.int .i64 b) := by rw [h]

set_option maxHeartbeats 400000 in
theorem Mod_any (v n : Int) (w : World) (h1 : 1 ≤ n) (hn : n ≤ 9223372036854775807) :
    Calls Try.prog 13 #[.int .i64 v, .int .i64 n] w fun e w' => e = .returned (.int .i64 (v % n)) ∧ w = w' := by
  have hb := tmod_bounds v n h1
  have hz : (n == 0) = false := by simp; omega
  by_cases h : v.tmod n < 0
  · have hd : decide (v.tmod n < 0) = true := by simpa using h
    have hb1 : -9223372036854775808 ≤ v.tmod n + n := by omega
    have hb2 : v.tmod n + n ≤ 9223372036854775807 := by omega
    have HE := hid (emod_of_tmod_neg v n h1 h)
    go_enter Try.func13, Try.ntmps13
    go_wp2
    go_ret
    exact ⟨ret_i64 HE.out, rfl⟩
  · have hd : decide (v.tmod n < 0) = false := by simpa using h
    have HE := hid (emod_of_tmod_nonneg v n h1 h)
    go_enter Try.func13, Try.ntmps13
    go_wp2
    go_ret
    exact ⟨ret_i64 HE.out, rfl⟩

end Go.Proofs.Ytgkccfjjjamhoaa
