/-
  No cell of these rows narrows 'for every input' (looked for: loops, veiled, ifaces, maps, wideKeys, modest, calm, conditions, laid).
  DERIVED. THE GIVEN ROWS OF THIS SEAT. 6 by the template 'for every input the law returns true; each argument reads behind the call as it read before'; 0 by the template 'total and deterministic' (their statements: YtkennahakodfnaaTotals.lean).
  GIVEN WITH THE SEED: the statements are not yours to turn. If you find one false, say at which input.
  Laid BY PROGRAM, IN A SANDBOX (cutbox-rows.mjs): the forced cells as the released guide's own fill.sh prints them over the translation 1f8257d3449cd0f0… (all of the seat's roots in one cut). By AI agents, Wed Nov 11 2026. No macro, syntax, notation, axiom, sorry.
-/
import Derived.Test.YtkennahakodfnaaChecked
import GoSem.Claim
import GoSem.ClaimJoined
import GoSem.ClaimMapViews
import Derived.JoinedTies
import Derived.KernelRfl
namespace Go.Proofs.Ytkennahakodfnaa
/- THE CELL 'sum', in the pinned program and in every row, IS THE sha256 OF THE DUMP (.gsa) THAT YtkennahakodfnaaProg.lean LOADS. Nothing in Lean hashes anything: it is a label: what it is worth is what the hold of that sum in a sandbox is worth. -/
noncomputable def Try.pinned : Pinned := { name := "ytkennahakodfnaa", sum := "1f8257d3449cd0f08f1c74e84b75343f7b18891b8020b52dcb1dba9c01972ff6", checked := Try.checked }
namespace Rows
def none {H : Type} : Left H := { results := [], args := [] }

/-- 'coreseclaw09.MontgomeryMults': WHATEVER THE INPUT: true; the input reads as it did. -/
def montgomeryMultsSpec : ChangeSpec := { name := "montgomeryMults", fn := fun _ => fun
  | [d1, d2] => { results := [.lit (.bool true)], args := [d1, d2] }
  | _ => none }
def montgomeryMultsRow : OpenClaim := { program := "ytkennahakodfnaa", sum := "1f8257d3449cd0f08f1c74e84b75343f7b18891b8020b52dcb1dba9c01972ff6", func := "coresec/coreseclaw09.MontgomeryMults", spec := "montgomeryMults", inPlace := ["math/bits.Add64", "math/bits.Sub64"], apart := false }
def MontgomeryMultsSaid : Prop := montgomeryMultsRow.holds Try.pinned (OpenSpec.ofChange montgomeryMultsSpec)

/-- ITS FALSE NEIGHBOUR: 'it returns false'. Refute it at one input. -/
def montgomeryMultsWrong : ChangeSpec := { name := "montgomeryMults", fn := fun _ => fun
  | [d1, d2] => { results := [.lit (.bool false)], args := [d1, d2] }
  | _ => none }
def MontgomeryMultsWrongFalsely : Prop := montgomeryMultsRow.holds Try.pinned (OpenSpec.ofChange montgomeryMultsWrong)

/-- 'coreseclaw09.MontgomeryEdges': WHATEVER THE INPUT: true; the input reads as it did. -/
def montgomeryEdgesSpec : ChangeSpec := { name := "montgomeryEdges", fn := fun _ => fun
  | [d1, d2] => { results := [.lit (.bool true)], args := [d1, d2] }
  | _ => none }
def montgomeryEdgesRow : OpenClaim := { program := "ytkennahakodfnaa", sum := "1f8257d3449cd0f08f1c74e84b75343f7b18891b8020b52dcb1dba9c01972ff6", func := "coresec/coreseclaw09.MontgomeryEdges", spec := "montgomeryEdges", inPlace := ["math/bits.Sub64", "math/bits.Add64"], apart := false }
def MontgomeryEdgesSaid : Prop := montgomeryEdgesRow.holds Try.pinned (OpenSpec.ofChange montgomeryEdgesSpec)

/-- ITS FALSE NEIGHBOUR: 'it returns false'. Refute it at one input. -/
def montgomeryEdgesWrong : ChangeSpec := { name := "montgomeryEdges", fn := fun _ => fun
  | [d1, d2] => { results := [.lit (.bool false)], args := [d1, d2] }
  | _ => none }
def MontgomeryEdgesWrongFalsely : Prop := montgomeryEdgesRow.holds Try.pinned (OpenSpec.ofChange montgomeryEdgesWrong)

/-- 'coreseclaw09.MontgomeryBytes': WHATEVER THE INPUT: true; the input reads as it did. -/
def montgomeryBytesSpec : ChangeSpec := { name := "montgomeryBytes", fn := fun _ => fun
  | [d1, d2, d3] => { results := [.lit (.bool true)], args := [d1, d2, d3] }
  | _ => none }
def montgomeryBytesRow : OpenClaim := { program := "ytkennahakodfnaa", sum := "1f8257d3449cd0f08f1c74e84b75343f7b18891b8020b52dcb1dba9c01972ff6", func := "coresec/coreseclaw09.MontgomeryBytes", spec := "montgomeryBytes", inPlace := ["math/bits.Add64", "math/bits.Sub64"], apart := false }
def MontgomeryBytesSaid : Prop := montgomeryBytesRow.holds Try.pinned (OpenSpec.ofChange montgomeryBytesSpec)

/-- ITS FALSE NEIGHBOUR: 'it returns false'. Refute it at one input. -/
def montgomeryBytesWrong : ChangeSpec := { name := "montgomeryBytes", fn := fun _ => fun
  | [d1, d2, d3] => { results := [.lit (.bool false)], args := [d1, d2, d3] }
  | _ => none }
def MontgomeryBytesWrongFalsely : Prop := montgomeryBytesRow.holds Try.pinned (OpenSpec.ofChange montgomeryBytesWrong)

/-- 'coreseclaw09.MontgomeryAgrees': WHATEVER THE INPUT: true; the input reads as it did. -/
def montgomeryAgreesSpec : ChangeSpec := { name := "montgomeryAgrees", fn := fun _ => fun
  | [d1, d2] => { results := [.lit (.bool true)], args := [d1, d2] }
  | _ => none }
def montgomeryAgreesRow : OpenClaim := { program := "ytkennahakodfnaa", sum := "1f8257d3449cd0f08f1c74e84b75343f7b18891b8020b52dcb1dba9c01972ff6", func := "coresec/coreseclaw09.MontgomeryAgrees", spec := "montgomeryAgrees", inPlace := ["math/bits.Add64", "math/bits.Sub64"], apart := false }
def MontgomeryAgreesSaid : Prop := montgomeryAgreesRow.holds Try.pinned (OpenSpec.ofChange montgomeryAgreesSpec)

/-- ITS FALSE NEIGHBOUR: 'it returns false'. Refute it at one input. -/
def montgomeryAgreesWrong : ChangeSpec := { name := "montgomeryAgrees", fn := fun _ => fun
  | [d1, d2] => { results := [.lit (.bool false)], args := [d1, d2] }
  | _ => none }
def MontgomeryAgreesWrongFalsely : Prop := montgomeryAgreesRow.holds Try.pinned (OpenSpec.ofChange montgomeryAgreesWrong)

/-- 'coreseclaw09.MontgomeryMasks': WHATEVER THE INPUT: true; the input reads as it did. -/
def montgomeryMasksSpec : ChangeSpec := { name := "montgomeryMasks", fn := fun _ => fun
  | [d1, d2, d3] => { results := [.lit (.bool true)], args := [d1, d2, d3] }
  | _ => none }
def montgomeryMasksRow : OpenClaim := { program := "ytkennahakodfnaa", sum := "1f8257d3449cd0f08f1c74e84b75343f7b18891b8020b52dcb1dba9c01972ff6", func := "coresec/coreseclaw09.MontgomeryMasks", spec := "montgomeryMasks", inPlace := ["math/bits.Add64", "math/bits.Sub64"], apart := false }
def MontgomeryMasksSaid : Prop := montgomeryMasksRow.holds Try.pinned (OpenSpec.ofChange montgomeryMasksSpec)

/-- ITS FALSE NEIGHBOUR: 'it returns false'. Refute it at one input. -/
def montgomeryMasksWrong : ChangeSpec := { name := "montgomeryMasks", fn := fun _ => fun
  | [d1, d2, d3] => { results := [.lit (.bool false)], args := [d1, d2, d3] }
  | _ => none }
def MontgomeryMasksWrongFalsely : Prop := montgomeryMasksRow.holds Try.pinned (OpenSpec.ofChange montgomeryMasksWrong)

/-- 'coreseclaw08.FieldWide': WHATEVER THE INPUT: true; the input reads as it did. -/
def fieldWideSpec : ChangeSpec := { name := "fieldWide", fn := fun _ => fun
  | [d1, d2, d3, d4, d5, d6] => { results := [.lit (.bool true)], args := [d1, d2, d3, d4, d5, d6] }
  | _ => none }
def fieldWideRow : OpenClaim := { program := "ytkennahakodfnaa", sum := "1f8257d3449cd0f08f1c74e84b75343f7b18891b8020b52dcb1dba9c01972ff6", func := "coresec/coreseclaw08.FieldWide", spec := "fieldWide", inPlace := ["math/bits.Add64", "math/bits.Sub64"], apart := false }
def FieldWideSaid : Prop := fieldWideRow.holds Try.pinned (OpenSpec.ofChange fieldWideSpec)

/-- ITS FALSE NEIGHBOUR: 'it returns false'. Refute it at one input. -/
def fieldWideWrong : ChangeSpec := { name := "fieldWide", fn := fun _ => fun
  | [d1, d2, d3, d4, d5, d6] => { results := [.lit (.bool false)], args := [d1, d2, d3, d4, d5, d6] }
  | _ => none }
def FieldWideWrongFalsely : Prop := fieldWideRow.holds Try.pinned (OpenSpec.ofChange fieldWideWrong)

/- THE SECOND FORM. 'bulk': how many values and letters a reading holds, each counted each time it is reached (what is shared counts as often as it is met; a slice's spare places count too). A statement '..UptoSaid' is the law's where the arguments, and the package variables that the reading takes, are together of bulk at most 1048576: NARROWER than '..Said'. Prove '..Said' where nothing that the law and all that it calls make is longer than what came in: it says more and counts as full. Else prove '..UptoSaid'. A law counts once. -/
mutual
def uptoBulk {H : Type} : DataW H → Nat
  | .lit (.string bytes) => bytes.length + 1
  | .lit _ => 1
  | .nil => 1
  | .ptr d => uptoBulk d + 1
  | .slice elems spare => uptoBulkAll elems + uptoBulkAll spare + 1
  | .agg parts => uptoBulkAll parts + 1
  | .iface _ d => uptoBulk d + 1
  | .map entries => uptoBulkEntries entries + 1
  | .held _ => 1
def uptoBulkAll {H : Type} : List (DataW H) → Nat
  | [] => 0
  | d :: r => uptoBulk d + uptoBulkAll r
def uptoBulkEntries {H : Type} : List (Lit × DataW H) → Nat
  | [] => 0
  | x :: r => uptoBulkEntry x + uptoBulkEntries r
def uptoBulkEntry {H : Type} : Lit × DataW H → Nat
  | (.string bytes, d) => bytes.length + uptoBulk d + 1
  | (_, d) => uptoBulk d + 1
 end
def uptoSmall : (H : Type) → List (DataW H) → Bool := fun _ ds => decide (uptoBulkAll ds ≤ 1048576)
def OpenSpec.upto (s : _root_.Go.ChangeSpec) : _root_.Go.OpenSpec := { _root_.Go.OpenSpec.ofChange s with cond := some uptoSmall }

/-- 'coreseclaw09.MontgomeryMults', WHERE WHAT IT READS IS OF BULK AT MOST 1048576: true; the input reads as it did. -/
def montgomeryMultsUptoRow : OpenClaim := { program := "ytkennahakodfnaa", sum := "1f8257d3449cd0f08f1c74e84b75343f7b18891b8020b52dcb1dba9c01972ff6", func := "coresec/coreseclaw09.MontgomeryMults", spec := "montgomeryMults", inPlace := ["math/bits.Add64", "math/bits.Sub64"], apart := false, narrowed := true }
def MontgomeryMultsUptoSaid : Prop := montgomeryMultsUptoRow.holds Try.pinned (OpenSpec.upto montgomeryMultsSpec)

/-- 'coreseclaw09.MontgomeryEdges', WHERE WHAT IT READS IS OF BULK AT MOST 1048576: true; the input reads as it did. -/
def montgomeryEdgesUptoRow : OpenClaim := { program := "ytkennahakodfnaa", sum := "1f8257d3449cd0f08f1c74e84b75343f7b18891b8020b52dcb1dba9c01972ff6", func := "coresec/coreseclaw09.MontgomeryEdges", spec := "montgomeryEdges", inPlace := ["math/bits.Sub64", "math/bits.Add64"], apart := false, narrowed := true }
def MontgomeryEdgesUptoSaid : Prop := montgomeryEdgesUptoRow.holds Try.pinned (OpenSpec.upto montgomeryEdgesSpec)

/-- 'coreseclaw09.MontgomeryBytes', WHERE WHAT IT READS IS OF BULK AT MOST 1048576: true; the input reads as it did. -/
def montgomeryBytesUptoRow : OpenClaim := { program := "ytkennahakodfnaa", sum := "1f8257d3449cd0f08f1c74e84b75343f7b18891b8020b52dcb1dba9c01972ff6", func := "coresec/coreseclaw09.MontgomeryBytes", spec := "montgomeryBytes", inPlace := ["math/bits.Add64", "math/bits.Sub64"], apart := false, narrowed := true }
def MontgomeryBytesUptoSaid : Prop := montgomeryBytesUptoRow.holds Try.pinned (OpenSpec.upto montgomeryBytesSpec)

/-- 'coreseclaw09.MontgomeryAgrees', WHERE WHAT IT READS IS OF BULK AT MOST 1048576: true; the input reads as it did. -/
def montgomeryAgreesUptoRow : OpenClaim := { program := "ytkennahakodfnaa", sum := "1f8257d3449cd0f08f1c74e84b75343f7b18891b8020b52dcb1dba9c01972ff6", func := "coresec/coreseclaw09.MontgomeryAgrees", spec := "montgomeryAgrees", inPlace := ["math/bits.Add64", "math/bits.Sub64"], apart := false, narrowed := true }
def MontgomeryAgreesUptoSaid : Prop := montgomeryAgreesUptoRow.holds Try.pinned (OpenSpec.upto montgomeryAgreesSpec)

/-- 'coreseclaw09.MontgomeryMasks', WHERE WHAT IT READS IS OF BULK AT MOST 1048576: true; the input reads as it did. -/
def montgomeryMasksUptoRow : OpenClaim := { program := "ytkennahakodfnaa", sum := "1f8257d3449cd0f08f1c74e84b75343f7b18891b8020b52dcb1dba9c01972ff6", func := "coresec/coreseclaw09.MontgomeryMasks", spec := "montgomeryMasks", inPlace := ["math/bits.Add64", "math/bits.Sub64"], apart := false, narrowed := true }
def MontgomeryMasksUptoSaid : Prop := montgomeryMasksUptoRow.holds Try.pinned (OpenSpec.upto montgomeryMasksSpec)

/-- 'coreseclaw08.FieldWide', WHERE WHAT IT READS IS OF BULK AT MOST 1048576: true; the input reads as it did. -/
def fieldWideUptoRow : OpenClaim := { program := "ytkennahakodfnaa", sum := "1f8257d3449cd0f08f1c74e84b75343f7b18891b8020b52dcb1dba9c01972ff6", func := "coresec/coreseclaw08.FieldWide", spec := "fieldWide", inPlace := ["math/bits.Add64", "math/bits.Sub64"], apart := false, narrowed := true }
def FieldWideUptoSaid : Prop := fieldWideUptoRow.holds Try.pinned (OpenSpec.upto fieldWideSpec)

end Rows
end Go.Proofs.Ytkennahakodfnaa
