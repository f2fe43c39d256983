/-
  Layer 8: the laws' element.
-/
import Derived.Test.YtkennahakodfnaaFV0
import Derived.Test.YtkennahakodfnaaFV1
import Derived.Test.YtkennahakodfnaaFV2
import Derived.Test.YtkennahakodfnaaFV3
import Derived.Test.YtkennahakodfnaaFV4
namespace Go.Proofs.Ytkennahakodfnaa
open Go.RowKit

theorem element_ex (a : Nat) (n : Int) : ∃ m, m < 2 ^ 256 ∧ CallOk Try.prog 28 [F a, iv .i64 n] (ret1 (F m)) := by
  have : n % 5 = 0 ∨ n % 5 = 1 ∨ n % 5 = 2 ∨ n % 5 = 3 ∨ n % 5 = 4 := by omega
  rcases this with h | h | h | h | h
  · exact element_0 a n h
  · exact element_1 a n h
  · exact element_2 a n h
  · exact element_3 a n h
  · exact element_4 a n h
noncomputable def elN (a : Nat) (n : Int) : Nat := Classical.choose (element_ex a n)
theorem elN_lt (a : Nat) (n : Int) : elN a n < 2 ^ 256 := (Classical.choose_spec (element_ex a n)).1
theorem element_call (a : Nat) (n : Int) : CallOk Try.prog 28 [F a, iv .i64 n] (ret1 (F (elN a n))) := (Classical.choose_spec (element_ex a n)).2
end Go.Proofs.Ytkennahakodfnaa
