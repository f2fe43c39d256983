import Derived.Test.YtdeigmjbcbjgeaaGreatDoorYcFA
import Derived.Test.YtdeigmjbcbjgeaaGreatDoorYcRow
namespace Go.Proofs.YtdeigmjbcbjgeaaGreatDoor
open Go.RowKit Go.ChangeShapes Go.WideShapes
theorem row8 {A : Nat → Prop} {w : World} {a : Option Addr} {l : List Int} (h : RowAt A .u8 w a l) : By l := by
 intro x hx
 have := wf_u8 (h.2.1 x hx)
 omega
section
variable {H : Type} {enc : TypeId × Value → H} {P : Program}
end
end Go.Proofs.YtdeigmjbcbjgeaaGreatDoor
