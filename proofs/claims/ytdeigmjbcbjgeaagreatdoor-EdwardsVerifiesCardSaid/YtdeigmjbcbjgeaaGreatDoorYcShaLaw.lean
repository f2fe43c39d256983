import Derived.Lib.SlBytesConst
import Derived.Test.YtdeigmjbcbjgeaaGreatDoorYcMkS
import Derived.Test.YtdeigmjbcbjgeaaGreatDoorYcRefBlk
namespace Go.Proofs.YtdeigmjbcbjgeaaGreatDoor
open Go.RowKit
def PSum512 : Prop := ∀ (a : Option Addr) (c : Nat) (b : List Int) (w : World), b.length ≤ 1000000 → CapOk a c b.length → RowAt (fun _ => True) .u8 w a b →
 Calls Tryz.prog 91 #[.slice a b.length c] w (Sum512Post b w)
def blocks512 (n : Int) : Int := if n < 0 then 0 else (n + 144) / 128
end Go.Proofs.YtdeigmjbcbjgeaaGreatDoor
