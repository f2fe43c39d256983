/-
  The program's numbers of blocks, and what it appends to a message: walked.
-/
import Derived.Laws.CopyOwn
import Derived.Test.YtdeigmjbcbjgeaaGreatDoorYdPrgWords
import Derived.Test.YtdeigmjbcbjgeaaGreatDoorYdShaLaw
namespace Go.Proofs.YtdeigmjbcbjgeaaGreatDoor
open Go.RowKit


set_option maxHeartbeats 1000000 in
theorem blocks128_any (n : Int) (w : World) (h : n ≤ 1099511627776) :
    Calls Tryz.prog 132 #[.int .i64 n, .int .i64 128] w fun e w' => e = .returned (.int .i64 (blocks512 n)) ∧ w = w' := by
  unfold blocks512
  by_cases h0 : n < 0
  · rw [if_pos h0]
    go_enter Tryz.func132, Tryz.ntmps132
    go_wp2_with fail
    go_ret
    exact ⟨rfl, rfl⟩
  · rw [if_neg h0]
    have h0' : 0 ≤ n := by omega
    clear h0
    by_cases h1 : 112 ≤ n % 128
    · rw [show (n + 144) / 128 = n / 128 + 2 by omega]
      go_enter Tryz.func132, Tryz.ntmps132
      go_wp2_with fail
      go_ret
      exact ⟨rfl, rfl⟩
    · have h1' : n % 128 < 112 := by omega
      rw [show (n + 144) / 128 = n / 128 + 1 by omega]
      clear h1
      go_enter Tryz.func132, Tryz.ntmps132
      go_wp2_with fail
      go_ret
      exact ⟨rfl, rfl⟩

end Go.Proofs.YtdeigmjbcbjgeaaGreatDoor
