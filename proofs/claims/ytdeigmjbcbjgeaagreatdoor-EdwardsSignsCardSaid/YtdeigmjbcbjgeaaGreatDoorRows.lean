/-
  NARROWER THAN 'FOR EVERY INPUT', by the rows' own cells (each row's printed sentence says how): EdwardsPoints: laid · EdwardsMults: laid · EdwardsSigns: laid · EdwardsVerifies: laid · EdwardsGroup: laid · EdwardsEquation: laid.
  DERIVED. THE GIVEN ROWS OF THIS SEAT. 6 by the template 'for every input the law returns true; each argument reads behind the call as it read before'; 0 by the template 'total and deterministic' (their statements: YtdeigmjbcbjgeaaGreatDoorTotals.lean).
  GIVEN WITH THE SEED: the statements are not yours to turn. If you find one false, say at which input.
  Laid BY PROGRAM, IN A SANDBOX (cutbox-rows.mjs): the forced cells as the released guide's own fill.sh prints them over the translation 5970b915f5d63547… (all of the seat's roots in one cut). By AI agents, Wed Nov 11 2026. No macro, syntax, notation, axiom, sorry.
-/
import Derived.Test.YtdeigmjbcbjgeaaGreatDoorChecked
import GoSem.Claim
import GoSem.ClaimJoined
import GoSem.ClaimMapViews
import Derived.JoinedTies
import Derived.KernelRfl
namespace Go.Proofs.YtdeigmjbcbjgeaaGreatDoor
/- THE CELL 'sum', in the pinned program and in every row, IS THE sha256 OF THE DUMP (.gsa) THAT YtdeigmjbcbjgeaaGreatDoorProg.lean LOADS. Nothing in Lean hashes anything: it is a label: what it is worth is what the hold of that sum in a sandbox is worth. -/
noncomputable def Tryz.pinned : Pinned := { name := "ytdeigmjbcbjgeaagreatdoor", sum := "5970b915f5d63547857db859e2eacfc36010e7923e393b071f2ec4b61534a9f1", checked := Tryz.checked }
namespace Rows
def none {H : Type} : Left H := { results := [], args := [] }

/- WHAT THE LISTED PACKAGE-LEVEL VARIABLES READ AS WHEN THE CALL BEGINS. Each datum BY PROGRAM (the guide's laid-datum.mjs) off the statement by which the dump's own 'gosem.cut.vars' lays the variable. In a bare row this is a premise. The card (YtdeigmjbcbjgeaaGreatDoorCards.lean) ties it to the program's text. -/
def laid_coresec_edwards_d {H : Type} : DataW H := .agg [.lit (.int .u8 163), .lit (.int .u8 120), .lit (.int .u8 89), .lit (.int .u8 19), .lit (.int .u8 202), .lit (.int .u8 77), .lit (.int .u8 235), .lit (.int .u8 117), .lit (.int .u8 171), .lit (.int .u8 216), .lit (.int .u8 65), .lit (.int .u8 65), .lit (.int .u8 77), .lit (.int .u8 10), .lit (.int .u8 112), .lit (.int .u8 0), .lit (.int .u8 152), .lit (.int .u8 232), .lit (.int .u8 121), .lit (.int .u8 119), .lit (.int .u8 121), .lit (.int .u8 64), .lit (.int .u8 199), .lit (.int .u8 140), .lit (.int .u8 115), .lit (.int .u8 254), .lit (.int .u8 111), .lit (.int .u8 43), .lit (.int .u8 238), .lit (.int .u8 108), .lit (.int .u8 3), .lit (.int .u8 82)]

/-- 'coreseclaw10.EdwardsPoints': WHATEVER THE INPUT: true; the input reads as it did. -/
def edwardsPointsSpec : ChangeSpec := { name := "edwardsPoints", fn := fun _ => fun
  | [d1, d2, d3, d4] => { results := [.lit (.bool true)], args := [d1, d2, d3, d4] }
  | _ => none }
def edwardsPointsRow : OpenClaim := { program := "ytdeigmjbcbjgeaagreatdoor", sum := "5970b915f5d63547857db859e2eacfc36010e7923e393b071f2ec4b61534a9f1", func := "coresec/coreseclaw10.EdwardsPoints", spec := "edwardsPoints", inPlace := ["math/bits.Sub64", "math/bits.Add64", "math.sqrt", "math.Float64bits", "math.Float64frombits", "math.archTrunc", "math.archFloor"], unfollowed := true, recurses := true, named := ["coresec/edwards.d"], apart := false, laid := [("coresec/edwards.d", laid_coresec_edwards_d)] }
def EdwardsPointsSaid : Prop := edwardsPointsRow.holds Tryz.pinned (OpenSpec.ofChange edwardsPointsSpec)

/-- ITS FALSE NEIGHBOUR: 'it returns false'. Refute it at one input. -/
def edwardsPointsWrong : ChangeSpec := { name := "edwardsPoints", fn := fun _ => fun
  | [d1, d2, d3, d4] => { results := [.lit (.bool false)], args := [d1, d2, d3, d4] }
  | _ => none }
def EdwardsPointsWrongFalsely : Prop := edwardsPointsRow.holds Tryz.pinned (OpenSpec.ofChange edwardsPointsWrong)

/-- 'coreseclaw10.EdwardsMults': WHATEVER THE INPUT: true; the input reads as it did. -/
def edwardsMultsSpec : ChangeSpec := { name := "edwardsMults", fn := fun _ => fun
  | [d1, d2, d3] => { results := [.lit (.bool true)], args := [d1, d2, d3] }
  | _ => none }
def edwardsMultsRow : OpenClaim := { program := "ytdeigmjbcbjgeaagreatdoor", sum := "5970b915f5d63547857db859e2eacfc36010e7923e393b071f2ec4b61534a9f1", func := "coresec/coreseclaw10.EdwardsMults", spec := "edwardsMults", inPlace := ["math/bits.Sub64", "math/bits.Add64", "math.sqrt", "math.Float64bits", "math.Float64frombits", "math.archTrunc", "math.archFloor"], unfollowed := true, recurses := true, named := ["coresec/edwards.d"], apart := false, laid := [("coresec/edwards.d", laid_coresec_edwards_d)] }
def EdwardsMultsSaid : Prop := edwardsMultsRow.holds Tryz.pinned (OpenSpec.ofChange edwardsMultsSpec)

/-- ITS FALSE NEIGHBOUR: 'it returns false'. Refute it at one input. -/
def edwardsMultsWrong : ChangeSpec := { name := "edwardsMults", fn := fun _ => fun
  | [d1, d2, d3] => { results := [.lit (.bool false)], args := [d1, d2, d3] }
  | _ => none }
def EdwardsMultsWrongFalsely : Prop := edwardsMultsRow.holds Tryz.pinned (OpenSpec.ofChange edwardsMultsWrong)

/-- 'coreseclaw10.EdwardsSigns': WHATEVER THE INPUT: true; the input reads as it did. -/
def edwardsSignsSpec : ChangeSpec := { name := "edwardsSigns", fn := fun _ => fun
  | [d1, d2, d3] => { results := [.lit (.bool true)], args := [d1, d2, d3] }
  | _ => none }
def edwardsSignsRow : OpenClaim := { program := "ytdeigmjbcbjgeaagreatdoor", sum := "5970b915f5d63547857db859e2eacfc36010e7923e393b071f2ec4b61534a9f1", func := "coresec/coreseclaw10.EdwardsSigns", spec := "edwardsSigns", inPlace := ["math/bits.Add64", "math/bits.Sub64", "math.sqrt", "math.Float64bits", "math.Float64frombits", "math.archTrunc", "math.archFloor"], unfollowed := true, recurses := true, named := ["coresec/edwards.d"], apart := false, laid := [("coresec/edwards.d", laid_coresec_edwards_d)] }
def EdwardsSignsSaid : Prop := edwardsSignsRow.holds Tryz.pinned (OpenSpec.ofChange edwardsSignsSpec)

/-- ITS FALSE NEIGHBOUR: 'it returns false'. Refute it at one input. -/
def edwardsSignsWrong : ChangeSpec := { name := "edwardsSigns", fn := fun _ => fun
  | [d1, d2, d3] => { results := [.lit (.bool false)], args := [d1, d2, d3] }
  | _ => none }
def EdwardsSignsWrongFalsely : Prop := edwardsSignsRow.holds Tryz.pinned (OpenSpec.ofChange edwardsSignsWrong)

/-- 'coreseclaw10.EdwardsVerifies': WHATEVER THE INPUT: true; the input reads as it did. -/
def edwardsVerifiesSpec : ChangeSpec := { name := "edwardsVerifies", fn := fun _ => fun
  | [d1, d2, d3, d4, d5, d6, d7] => { results := [.lit (.bool true)], args := [d1, d2, d3, d4, d5, d6, d7] }
  | _ => none }
def edwardsVerifiesRow : OpenClaim := { program := "ytdeigmjbcbjgeaagreatdoor", sum := "5970b915f5d63547857db859e2eacfc36010e7923e393b071f2ec4b61534a9f1", func := "coresec/coreseclaw10.EdwardsVerifies", spec := "edwardsVerifies", inPlace := ["math/bits.Add64", "math/bits.Sub64", "math.sqrt", "math.Float64bits", "math.Float64frombits", "math.archTrunc", "math.archFloor"], unfollowed := true, recurses := true, named := ["coresec/edwards.d"], apart := false, laid := [("coresec/edwards.d", laid_coresec_edwards_d)] }
def EdwardsVerifiesSaid : Prop := edwardsVerifiesRow.holds Tryz.pinned (OpenSpec.ofChange edwardsVerifiesSpec)

/-- ITS FALSE NEIGHBOUR: 'it returns false'. Refute it at one input. -/
def edwardsVerifiesWrong : ChangeSpec := { name := "edwardsVerifies", fn := fun _ => fun
  | [d1, d2, d3, d4, d5, d6, d7] => { results := [.lit (.bool false)], args := [d1, d2, d3, d4, d5, d6, d7] }
  | _ => none }
def EdwardsVerifiesWrongFalsely : Prop := edwardsVerifiesRow.holds Tryz.pinned (OpenSpec.ofChange edwardsVerifiesWrong)

/-- 'coreseclaw10.EdwardsGroup': WHATEVER THE INPUT: true; the input reads as it did. -/
def edwardsGroupSpec : ChangeSpec := { name := "edwardsGroup", fn := fun _ => fun
  | [d1, d2, d3] => { results := [.lit (.bool true)], args := [d1, d2, d3] }
  | _ => none }
def edwardsGroupRow : OpenClaim := { program := "ytdeigmjbcbjgeaagreatdoor", sum := "5970b915f5d63547857db859e2eacfc36010e7923e393b071f2ec4b61534a9f1", func := "coresec/coreseclaw10.EdwardsGroup", spec := "edwardsGroup", inPlace := ["math/bits.Sub64", "math/bits.Add64", "math.sqrt", "math.Float64bits", "math.Float64frombits", "math.archTrunc", "math.archFloor"], unfollowed := true, recurses := true, named := ["coresec/edwards.d"], apart := false, laid := [("coresec/edwards.d", laid_coresec_edwards_d)] }
def EdwardsGroupSaid : Prop := edwardsGroupRow.holds Tryz.pinned (OpenSpec.ofChange edwardsGroupSpec)

/-- ITS FALSE NEIGHBOUR: 'it returns false'. Refute it at one input. -/
def edwardsGroupWrong : ChangeSpec := { name := "edwardsGroup", fn := fun _ => fun
  | [d1, d2, d3] => { results := [.lit (.bool false)], args := [d1, d2, d3] }
  | _ => none }
def EdwardsGroupWrongFalsely : Prop := edwardsGroupRow.holds Tryz.pinned (OpenSpec.ofChange edwardsGroupWrong)

/-- 'coreseclaw10.EdwardsEquation': WHATEVER THE INPUT: true; the input reads as it did. -/
def edwardsEquationSpec : ChangeSpec := { name := "edwardsEquation", fn := fun _ => fun
  | [d1, d2] => { results := [.lit (.bool true)], args := [d1, d2] }
  | _ => none }
def edwardsEquationRow : OpenClaim := { program := "ytdeigmjbcbjgeaagreatdoor", sum := "5970b915f5d63547857db859e2eacfc36010e7923e393b071f2ec4b61534a9f1", func := "coresec/coreseclaw10.EdwardsEquation", spec := "edwardsEquation", inPlace := ["math/bits.Add64", "math/bits.Sub64", "math.sqrt", "math.Float64bits", "math.Float64frombits", "math.archTrunc", "math.archFloor"], unfollowed := true, recurses := true, named := ["coresec/edwards.d"], apart := false, laid := [("coresec/edwards.d", laid_coresec_edwards_d)] }
def EdwardsEquationSaid : Prop := edwardsEquationRow.holds Tryz.pinned (OpenSpec.ofChange edwardsEquationSpec)

/-- ITS FALSE NEIGHBOUR: 'it returns false'. Refute it at one input. -/
def edwardsEquationWrong : ChangeSpec := { name := "edwardsEquation", fn := fun _ => fun
  | [d1, d2] => { results := [.lit (.bool false)], args := [d1, d2] }
  | _ => none }
def EdwardsEquationWrongFalsely : Prop := edwardsEquationRow.holds Tryz.pinned (OpenSpec.ofChange edwardsEquationWrong)

/- THE SECOND FORM. 'bulk': how many values and letters a reading holds, each counted each time it is reached (what is shared counts as often as it is met; a slice's spare places count too). A statement '..UptoSaid' is the law's where the arguments, and the package variables that the reading takes, are together of bulk at most 1048576: NARROWER than '..Said'. Prove '..Said' where nothing that the law and all that it calls make is longer than what came in: it says more and counts as full. Else prove '..UptoSaid'. A law counts once. -/
mutual
def uptoBulk {H : Type} : DataW H → Nat
  | .lit (.string bytes) => bytes.length + 1
  | .lit _ => 1
  | .nil => 1
  | .ptr d => uptoBulk d + 1
  | .slice elems spare => uptoBulkAll elems + uptoBulkAll spare + 1
  | .agg parts => uptoBulkAll parts + 1
  | .iface _ d => uptoBulk d + 1
  | .map entries => uptoBulkEntries entries + 1
  | .held _ => 1
def uptoBulkAll {H : Type} : List (DataW H) → Nat
  | [] => 0
  | d :: r => uptoBulk d + uptoBulkAll r
def uptoBulkEntries {H : Type} : List (Lit × DataW H) → Nat
  | [] => 0
  | x :: r => uptoBulkEntry x + uptoBulkEntries r
def uptoBulkEntry {H : Type} : Lit × DataW H → Nat
  | (.string bytes, d) => bytes.length + uptoBulk d + 1
  | (_, d) => uptoBulk d + 1
 end
def uptoSmall : (H : Type) → List (DataW H) → Bool := fun _ ds => decide (uptoBulkAll ds ≤ 1048576)
def OpenSpec.upto (s : _root_.Go.ChangeSpec) : _root_.Go.OpenSpec := { _root_.Go.OpenSpec.ofChange s with cond := some uptoSmall }

/-- 'coreseclaw10.EdwardsPoints', WHERE WHAT IT READS IS OF BULK AT MOST 1048576: true; the input reads as it did. -/
def edwardsPointsUptoRow : OpenClaim := { program := "ytdeigmjbcbjgeaagreatdoor", sum := "5970b915f5d63547857db859e2eacfc36010e7923e393b071f2ec4b61534a9f1", func := "coresec/coreseclaw10.EdwardsPoints", spec := "edwardsPoints", inPlace := ["math/bits.Sub64", "math/bits.Add64", "math.sqrt", "math.Float64bits", "math.Float64frombits", "math.archTrunc", "math.archFloor"], unfollowed := true, recurses := true, named := ["coresec/edwards.d"], apart := false, laid := [("coresec/edwards.d", laid_coresec_edwards_d)], narrowed := true }
def EdwardsPointsUptoSaid : Prop := edwardsPointsUptoRow.holds Tryz.pinned (OpenSpec.upto edwardsPointsSpec)

/-- 'coreseclaw10.EdwardsMults', WHERE WHAT IT READS IS OF BULK AT MOST 1048576: true; the input reads as it did. -/
def edwardsMultsUptoRow : OpenClaim := { program := "ytdeigmjbcbjgeaagreatdoor", sum := "5970b915f5d63547857db859e2eacfc36010e7923e393b071f2ec4b61534a9f1", func := "coresec/coreseclaw10.EdwardsMults", spec := "edwardsMults", inPlace := ["math/bits.Sub64", "math/bits.Add64", "math.sqrt", "math.Float64bits", "math.Float64frombits", "math.archTrunc", "math.archFloor"], unfollowed := true, recurses := true, named := ["coresec/edwards.d"], apart := false, laid := [("coresec/edwards.d", laid_coresec_edwards_d)], narrowed := true }
def EdwardsMultsUptoSaid : Prop := edwardsMultsUptoRow.holds Tryz.pinned (OpenSpec.upto edwardsMultsSpec)

/-- 'coreseclaw10.EdwardsSigns', WHERE WHAT IT READS IS OF BULK AT MOST 1048576: true; the input reads as it did. -/
def edwardsSignsUptoRow : OpenClaim := { program := "ytdeigmjbcbjgeaagreatdoor", sum := "5970b915f5d63547857db859e2eacfc36010e7923e393b071f2ec4b61534a9f1", func := "coresec/coreseclaw10.EdwardsSigns", spec := "edwardsSigns", inPlace := ["math/bits.Add64", "math/bits.Sub64", "math.sqrt", "math.Float64bits", "math.Float64frombits", "math.archTrunc", "math.archFloor"], unfollowed := true, recurses := true, named := ["coresec/edwards.d"], apart := false, laid := [("coresec/edwards.d", laid_coresec_edwards_d)], narrowed := true }
def EdwardsSignsUptoSaid : Prop := edwardsSignsUptoRow.holds Tryz.pinned (OpenSpec.upto edwardsSignsSpec)

/-- 'coreseclaw10.EdwardsVerifies', WHERE WHAT IT READS IS OF BULK AT MOST 1048576: true; the input reads as it did. -/
def edwardsVerifiesUptoRow : OpenClaim := { program := "ytdeigmjbcbjgeaagreatdoor", sum := "5970b915f5d63547857db859e2eacfc36010e7923e393b071f2ec4b61534a9f1", func := "coresec/coreseclaw10.EdwardsVerifies", spec := "edwardsVerifies", inPlace := ["math/bits.Add64", "math/bits.Sub64", "math.sqrt", "math.Float64bits", "math.Float64frombits", "math.archTrunc", "math.archFloor"], unfollowed := true, recurses := true, named := ["coresec/edwards.d"], apart := false, laid := [("coresec/edwards.d", laid_coresec_edwards_d)], narrowed := true }
def EdwardsVerifiesUptoSaid : Prop := edwardsVerifiesUptoRow.holds Tryz.pinned (OpenSpec.upto edwardsVerifiesSpec)

/-- 'coreseclaw10.EdwardsGroup', WHERE WHAT IT READS IS OF BULK AT MOST 1048576: true; the input reads as it did. -/
def edwardsGroupUptoRow : OpenClaim := { program := "ytdeigmjbcbjgeaagreatdoor", sum := "5970b915f5d63547857db859e2eacfc36010e7923e393b071f2ec4b61534a9f1", func := "coresec/coreseclaw10.EdwardsGroup", spec := "edwardsGroup", inPlace := ["math/bits.Sub64", "math/bits.Add64", "math.sqrt", "math.Float64bits", "math.Float64frombits", "math.archTrunc", "math.archFloor"], unfollowed := true, recurses := true, named := ["coresec/edwards.d"], apart := false, laid := [("coresec/edwards.d", laid_coresec_edwards_d)], narrowed := true }
def EdwardsGroupUptoSaid : Prop := edwardsGroupUptoRow.holds Tryz.pinned (OpenSpec.upto edwardsGroupSpec)

/-- 'coreseclaw10.EdwardsEquation', WHERE WHAT IT READS IS OF BULK AT MOST 1048576: true; the input reads as it did. -/
def edwardsEquationUptoRow : OpenClaim := { program := "ytdeigmjbcbjgeaagreatdoor", sum := "5970b915f5d63547857db859e2eacfc36010e7923e393b071f2ec4b61534a9f1", func := "coresec/coreseclaw10.EdwardsEquation", spec := "edwardsEquation", inPlace := ["math/bits.Add64", "math/bits.Sub64", "math.sqrt", "math.Float64bits", "math.Float64frombits", "math.archTrunc", "math.archFloor"], unfollowed := true, recurses := true, named := ["coresec/edwards.d"], apart := false, laid := [("coresec/edwards.d", laid_coresec_edwards_d)], narrowed := true }
def EdwardsEquationUptoSaid : Prop := edwardsEquationUptoRow.holds Tryz.pinned (OpenSpec.upto edwardsEquationSpec)

end Rows
end Go.Proofs.YtdeigmjbcbjgeaaGreatDoor
