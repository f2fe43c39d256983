/-
  Layer 8: FieldLaws.
-/
import Derived.Test.YtepbhihklmclaaaFK
import Derived.Test.YtepbhihklmclaaaFU
namespace Go.Proofs.Ytepbhihklmclaaa
open Go.RowKit

theorem laws_exec (a b c : Nat) (n : Int) (ha : a < 2 ^ 256) (hb : b < 2 ^ 256) (hc : c < 2 ^ 256) : execF ELb Try.f7 [F a, F b, F c, iv .i64 n] (ret1 (.v (.bool true))) := by
  by_cases h : a % pP = 0
  · exact laws_zero a b c n ha hb hc h
  · exact laws_one a b c n ha hb hc h
end Go.Proofs.Ytepbhihklmclaaa
