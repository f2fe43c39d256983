/-
  The program's numbers of blocks, and what it appends to a message: walked.
-/
import Derived.Test.YtomeeeakaejokaaPrgAfter
import Derived.Test.YtomeeeakaejokaaShaLaw
import Derived.Laws.CopyOwn
namespace Go.Proofs.Ytomeeeakaejokaa
open Go.RowKit


set_option maxHeartbeats 1000000 in
theorem blocks64_any (n : Int) (w : World) (h : n ≤ 1099511627776) :
    Calls Try.prog 35 #[.int .i64 n, .int .i64 64] w fun e w' => e = .returned (.int .i64 (blocks256 n)) ∧ w = w' := by
  unfold blocks256
  by_cases h0 : n < 0
  · rw [if_pos h0]
    go_enter Try.func35, Try.ntmps35
    go_wp2_with fail
    go_ret
    exact ⟨rfl, rfl⟩
  · rw [if_neg h0]
    have h0' : 0 ≤ n := by omega
    clear h0
    by_cases h1 : 56 ≤ n % 64
    · rw [show (n + 72) / 64 = n / 64 + 2 by omega]
      go_enter Try.func35, Try.ntmps35
      go_wp2_with fail
      go_ret
      exact ⟨rfl, rfl⟩
    · have h1' : n % 64 < 56 := by omega
      rw [show (n + 72) / 64 = n / 64 + 1 by omega]
      clear h1
      go_enter Try.func35, Try.ntmps35
      go_wp2_with fail
      go_ret
      exact ⟨rfl, rfl⟩

set_option maxHeartbeats 400000 in
theorem prgBlocks256 : PBlocks256 := by
  intro n w h
  go_enter Try.func24, Try.ntmps24
  go_wp2_with fail
  refine (blocks64_any n w h).mono ?_
  rintro e w' ⟨rfl, rfl⟩
  go_wp2_with fail
  go_ret
  exact ⟨rfl, rfl⟩

set_option maxHeartbeats 1000000 in
theorem blocks128_any (n : Int) (w : World) (h : n ≤ 1099511627776) :
    Calls Try.prog 35 #[.int .i64 n, .int .i64 128] w fun e w' => e = .returned (.int .i64 (blocks512 n)) ∧ w = w' := by
  unfold blocks512
  by_cases h0 : n < 0
  · rw [if_pos h0]
    go_enter Try.func35, Try.ntmps35
    go_wp2_with fail
    go_ret
    exact ⟨rfl, rfl⟩
  · rw [if_neg h0]
    have h0' : 0 ≤ n := by omega
    clear h0
    by_cases h1 : 112 ≤ n % 128
    · rw [show (n + 144) / 128 = n / 128 + 2 by omega]
      go_enter Try.func35, Try.ntmps35
      go_wp2_with fail
      go_ret
      exact ⟨rfl, rfl⟩
    · have h1' : n % 128 < 112 := by omega
      rw [show (n + 144) / 128 = n / 128 + 1 by omega]
      clear h1
      go_enter Try.func35, Try.ntmps35
      go_wp2_with fail
      go_ret
      exact ⟨rfl, rfl⟩

end Go.Proofs.Ytomeeeakaejokaa
