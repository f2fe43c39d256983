/-
  The program's powers of words, and the 64 bits of a root: walked.
-/
import Derived.Test.YtomeeeakaejokaaPrgRoot
import Derived.Test.YtomeeeakaejokaaTail
namespace Go.Proofs.Ytomeeeakaejokaa
open Go.RowKit

theorem timesL_len (whole f : Int) (z : List Int) : (timesL whole f z).length = 4 := timesTo_len whole f z 4
theorem powerL_len (whole f : Int) : ∀ n, (powerL whole f n).length = 4
  | 0 => rfl
  | _ + 1 => timesL_len _ _ _
theorem four_of_len (l : List Int) (h : l.length = 4) : ∃ a b c d, l = [a, b, c, d] := by
  rcases l with _ | ⟨a, _ | ⟨b, _ | ⟨c, _ | ⟨d, _ | ⟨_, _⟩⟩⟩⟩⟩ <;> simp at h
  exact ⟨a, b, c, d, rfl⟩
theorem negFloat_run (P : Program) (b : Nat) (w : World) : (Op.unary .neg (.float .f64 b)).run P w = .ok (.float .f64 (Op.negFloat .f64 b)) w := rfl

end Go.Proofs.Ytomeeeakaejokaa
