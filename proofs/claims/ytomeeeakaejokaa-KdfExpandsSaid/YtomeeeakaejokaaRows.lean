/-
  No cell of these rows narrows 'for every input' (looked for: loops, veiled, ifaces, maps, wideKeys, modest, calm, conditions, laid).
  DERIVED. THE GIVEN ROWS OF THIS SEAT. 6 by the template 'for every input the law returns true; each argument reads behind the call as it read before'; 0 by the template 'total and deterministic' (their statements: YtomeeeakaejokaaTotals.lean).
  GIVEN WITH THE SEED: the statements are not yours to turn. If you find one false, say at which input.
  Laid BY PROGRAM, IN A SANDBOX (cutbox-rows.mjs): the forced cells as the released guide's own fill.sh prints them over the translation 71fb5860a46f0ba6… (all of the seat's roots in one cut). By AI agents, Wed Nov 11 2026. No macro, syntax, notation, axiom, sorry.
-/
import Derived.Test.YtomeeeakaejokaaChecked
import GoSem.Claim
import GoSem.ClaimJoined
import GoSem.ClaimMapViews
import Derived.JoinedTies
import Derived.KernelRfl
namespace Go.Proofs.Ytomeeeakaejokaa
/- THE CELL 'sum', in the pinned program and in every row, IS THE sha256 OF THE DUMP (.gsa) THAT YtomeeeakaejokaaProg.lean LOADS. Nothing in Lean hashes anything: it is a label: what it is worth is what the hold of that sum in a sandbox is worth. -/
noncomputable def Try.pinned : Pinned := { name := "ytomeeeakaejokaa", sum := "71fb5860a46f0ba6ca1d2a86847207d5eb8f6bfd19e6f54a2a7a8806b3f94fe7", checked := Try.checked }
namespace Rows
def none {H : Type} : Left H := { results := [], args := [] }

/-- 'coreseclaw05.KdfMacs': WHATEVER THE INPUT: true; the input reads as it did. -/
def kdfMacsSpec : ChangeSpec := { name := "kdfMacs", fn := fun _ => fun
  | [d1, d2, d3] => { results := [.lit (.bool true)], args := [d1, d2, d3] }
  | _ => none }
def kdfMacsRow : OpenClaim := { program := "ytomeeeakaejokaa", sum := "71fb5860a46f0ba6ca1d2a86847207d5eb8f6bfd19e6f54a2a7a8806b3f94fe7", func := "coresec/coreseclaw05.KdfMacs", spec := "kdfMacs", inPlace := ["math.sqrt", "math.Float64bits", "math.Float64frombits", "math.archTrunc"], unfollowed := true, recurses := true, apart := false }
def KdfMacsSaid : Prop := kdfMacsRow.holds Try.pinned (OpenSpec.ofChange kdfMacsSpec)

/-- ITS FALSE NEIGHBOUR: 'it returns false'. Refute it at one input. -/
def kdfMacsWrong : ChangeSpec := { name := "kdfMacs", fn := fun _ => fun
  | [d1, d2, d3] => { results := [.lit (.bool false)], args := [d1, d2, d3] }
  | _ => none }
def KdfMacsWrongFalsely : Prop := kdfMacsRow.holds Try.pinned (OpenSpec.ofChange kdfMacsWrong)

/-- 'coreseclaw05.KdfExpands': WHATEVER THE INPUT: true; the input reads as it did. -/
def kdfExpandsSpec : ChangeSpec := { name := "kdfExpands", fn := fun _ => fun
  | [d1, d2, d3] => { results := [.lit (.bool true)], args := [d1, d2, d3] }
  | _ => none }
def kdfExpandsRow : OpenClaim := { program := "ytomeeeakaejokaa", sum := "71fb5860a46f0ba6ca1d2a86847207d5eb8f6bfd19e6f54a2a7a8806b3f94fe7", func := "coresec/coreseclaw05.KdfExpands", spec := "kdfExpands", inPlace := ["math.sqrt", "math.Float64bits", "math.Float64frombits", "math.archTrunc"], unfollowed := true, recurses := true, apart := false }
def KdfExpandsSaid : Prop := kdfExpandsRow.holds Try.pinned (OpenSpec.ofChange kdfExpandsSpec)

/-- ITS FALSE NEIGHBOUR: 'it returns false'. Refute it at one input. -/
def kdfExpandsWrong : ChangeSpec := { name := "kdfExpands", fn := fun _ => fun
  | [d1, d2, d3] => { results := [.lit (.bool false)], args := [d1, d2, d3] }
  | _ => none }
def KdfExpandsWrongFalsely : Prop := kdfExpandsRow.holds Try.pinned (OpenSpec.ofChange kdfExpandsWrong)

/-- 'coreseclaw05.KdfLongest': WHATEVER THE INPUT: true; the input reads as it did. -/
def kdfLongestSpec : ChangeSpec := { name := "kdfLongest", fn := fun _ => fun
  | [d] => { results := [.lit (.bool true)], args := [d] }
  | _ => none }
def kdfLongestRow : OpenClaim := { program := "ytomeeeakaejokaa", sum := "71fb5860a46f0ba6ca1d2a86847207d5eb8f6bfd19e6f54a2a7a8806b3f94fe7", func := "coresec/coreseclaw05.KdfLongest", spec := "kdfLongest", inPlace := ["math.sqrt", "math.Float64bits", "math.Float64frombits", "math.archTrunc"], unfollowed := true, recurses := true, apart := false }
def KdfLongestSaid : Prop := kdfLongestRow.holds Try.pinned (OpenSpec.ofChange kdfLongestSpec)

/-- ITS FALSE NEIGHBOUR: 'it returns false'. Refute it at one input. -/
def kdfLongestWrong : ChangeSpec := { name := "kdfLongest", fn := fun _ => fun
  | [d] => { results := [.lit (.bool false)], args := [d] }
  | _ => none }
def KdfLongestWrongFalsely : Prop := kdfLongestRow.holds Try.pinned (OpenSpec.ofChange kdfLongestWrong)

/-- 'coreseclaw05.KdfCalls': WHATEVER THE INPUT: true; the input reads as it did. -/
def kdfCallsSpec : ChangeSpec := { name := "kdfCalls", fn := fun _ => fun
  | [d1, d2, d3] => { results := [.lit (.bool true)], args := [d1, d2, d3] }
  | _ => none }
def kdfCallsRow : OpenClaim := { program := "ytomeeeakaejokaa", sum := "71fb5860a46f0ba6ca1d2a86847207d5eb8f6bfd19e6f54a2a7a8806b3f94fe7", func := "coresec/coreseclaw05.KdfCalls", spec := "kdfCalls", inPlace := ["math.sqrt", "math.Float64bits", "math.Float64frombits", "math.archTrunc"], unfollowed := true, recurses := true, apart := false }
def KdfCallsSaid : Prop := kdfCallsRow.holds Try.pinned (OpenSpec.ofChange kdfCallsSpec)

/-- ITS FALSE NEIGHBOUR: 'it returns false'. Refute it at one input. -/
def kdfCallsWrong : ChangeSpec := { name := "kdfCalls", fn := fun _ => fun
  | [d1, d2, d3] => { results := [.lit (.bool false)], args := [d1, d2, d3] }
  | _ => none }
def KdfCallsWrongFalsely : Prop := kdfCallsRow.holds Try.pinned (OpenSpec.ofChange kdfCallsWrong)

/-- 'coreseclaw05.KdfInner': WHATEVER THE INPUT: true; the input reads as it did. -/
def kdfInnerSpec : ChangeSpec := { name := "kdfInner", fn := fun _ => fun
  | [d1, d2] => { results := [.lit (.bool true)], args := [d1, d2] }
  | _ => none }
def kdfInnerRow : OpenClaim := { program := "ytomeeeakaejokaa", sum := "71fb5860a46f0ba6ca1d2a86847207d5eb8f6bfd19e6f54a2a7a8806b3f94fe7", func := "coresec/coreseclaw05.KdfInner", spec := "kdfInner", inPlace := ["math.sqrt", "math.Float64bits", "math.Float64frombits", "math.archTrunc"], unfollowed := true, recurses := true, apart := false }
def KdfInnerSaid : Prop := kdfInnerRow.holds Try.pinned (OpenSpec.ofChange kdfInnerSpec)

/-- ITS FALSE NEIGHBOUR: 'it returns false'. Refute it at one input. -/
def kdfInnerWrong : ChangeSpec := { name := "kdfInner", fn := fun _ => fun
  | [d1, d2] => { results := [.lit (.bool false)], args := [d1, d2] }
  | _ => none }
def KdfInnerWrongFalsely : Prop := kdfInnerRow.holds Try.pinned (OpenSpec.ofChange kdfInnerWrong)

/-- 'coreseclaw05.KdfPrefix': WHATEVER THE INPUT: true; the input reads as it did. -/
def kdfPrefixSpec : ChangeSpec := { name := "kdfPrefix", fn := fun _ => fun
  | [d1, d2, d3, d4] => { results := [.lit (.bool true)], args := [d1, d2, d3, d4] }
  | _ => none }
def kdfPrefixRow : OpenClaim := { program := "ytomeeeakaejokaa", sum := "71fb5860a46f0ba6ca1d2a86847207d5eb8f6bfd19e6f54a2a7a8806b3f94fe7", func := "coresec/coreseclaw05.KdfPrefix", spec := "kdfPrefix", inPlace := ["math.sqrt", "math.Float64bits", "math.Float64frombits", "math.archTrunc"], unfollowed := true, recurses := true, apart := false }
def KdfPrefixSaid : Prop := kdfPrefixRow.holds Try.pinned (OpenSpec.ofChange kdfPrefixSpec)

/-- ITS FALSE NEIGHBOUR: 'it returns false'. Refute it at one input. -/
def kdfPrefixWrong : ChangeSpec := { name := "kdfPrefix", fn := fun _ => fun
  | [d1, d2, d3, d4] => { results := [.lit (.bool false)], args := [d1, d2, d3, d4] }
  | _ => none }
def KdfPrefixWrongFalsely : Prop := kdfPrefixRow.holds Try.pinned (OpenSpec.ofChange kdfPrefixWrong)

/- THE SECOND FORM. 'bulk': how many values and letters a reading holds, each counted each time it is reached (what is shared counts as often as it is met; a slice's spare places count too). A statement '..UptoSaid' is the law's where the arguments, and the package variables that the reading takes, are together of bulk at most 1048576: NARROWER than '..Said'. Prove '..Said' where nothing that the law and all that it calls make is longer than what came in: it says more and counts as full. Else prove '..UptoSaid'. A law counts once. -/
mutual
def uptoBulk {H : Type} : DataW H → Nat
  | .lit (.string bytes) => bytes.length + 1
  | .lit _ => 1
  | .nil => 1
  | .ptr d => uptoBulk d + 1
  | .slice elems spare => uptoBulkAll elems + uptoBulkAll spare + 1
  | .agg parts => uptoBulkAll parts + 1
  | .iface _ d => uptoBulk d + 1
  | .map entries => uptoBulkEntries entries + 1
  | .held _ => 1
def uptoBulkAll {H : Type} : List (DataW H) → Nat
  | [] => 0
  | d :: r => uptoBulk d + uptoBulkAll r
def uptoBulkEntries {H : Type} : List (Lit × DataW H) → Nat
  | [] => 0
  | x :: r => uptoBulkEntry x + uptoBulkEntries r
def uptoBulkEntry {H : Type} : Lit × DataW H → Nat
  | (.string bytes, d) => bytes.length + uptoBulk d + 1
  | (_, d) => uptoBulk d + 1
 end
def uptoSmall : (H : Type) → List (DataW H) → Bool := fun _ ds => decide (uptoBulkAll ds ≤ 1048576)
def OpenSpec.upto (s : _root_.Go.ChangeSpec) : _root_.Go.OpenSpec := { _root_.Go.OpenSpec.ofChange s with cond := some uptoSmall }

/-- 'coreseclaw05.KdfMacs', WHERE WHAT IT READS IS OF BULK AT MOST 1048576: true; the input reads as it did. -/
def kdfMacsUptoRow : OpenClaim := { program := "ytomeeeakaejokaa", sum := "71fb5860a46f0ba6ca1d2a86847207d5eb8f6bfd19e6f54a2a7a8806b3f94fe7", func := "coresec/coreseclaw05.KdfMacs", spec := "kdfMacs", inPlace := ["math.sqrt", "math.Float64bits", "math.Float64frombits", "math.archTrunc"], unfollowed := true, recurses := true, apart := false, narrowed := true }
def KdfMacsUptoSaid : Prop := kdfMacsUptoRow.holds Try.pinned (OpenSpec.upto kdfMacsSpec)

/-- 'coreseclaw05.KdfExpands', WHERE WHAT IT READS IS OF BULK AT MOST 1048576: true; the input reads as it did. -/
def kdfExpandsUptoRow : OpenClaim := { program := "ytomeeeakaejokaa", sum := "71fb5860a46f0ba6ca1d2a86847207d5eb8f6bfd19e6f54a2a7a8806b3f94fe7", func := "coresec/coreseclaw05.KdfExpands", spec := "kdfExpands", inPlace := ["math.sqrt", "math.Float64bits", "math.Float64frombits", "math.archTrunc"], unfollowed := true, recurses := true, apart := false, narrowed := true }
def KdfExpandsUptoSaid : Prop := kdfExpandsUptoRow.holds Try.pinned (OpenSpec.upto kdfExpandsSpec)

/-- 'coreseclaw05.KdfLongest', WHERE WHAT IT READS IS OF BULK AT MOST 1048576: true; the input reads as it did. -/
def kdfLongestUptoRow : OpenClaim := { program := "ytomeeeakaejokaa", sum := "71fb5860a46f0ba6ca1d2a86847207d5eb8f6bfd19e6f54a2a7a8806b3f94fe7", func := "coresec/coreseclaw05.KdfLongest", spec := "kdfLongest", inPlace := ["math.sqrt", "math.Float64bits", "math.Float64frombits", "math.archTrunc"], unfollowed := true, recurses := true, apart := false, narrowed := true }
def KdfLongestUptoSaid : Prop := kdfLongestUptoRow.holds Try.pinned (OpenSpec.upto kdfLongestSpec)

/-- 'coreseclaw05.KdfCalls', WHERE WHAT IT READS IS OF BULK AT MOST 1048576: true; the input reads as it did. -/
def kdfCallsUptoRow : OpenClaim := { program := "ytomeeeakaejokaa", sum := "71fb5860a46f0ba6ca1d2a86847207d5eb8f6bfd19e6f54a2a7a8806b3f94fe7", func := "coresec/coreseclaw05.KdfCalls", spec := "kdfCalls", inPlace := ["math.sqrt", "math.Float64bits", "math.Float64frombits", "math.archTrunc"], unfollowed := true, recurses := true, apart := false, narrowed := true }
def KdfCallsUptoSaid : Prop := kdfCallsUptoRow.holds Try.pinned (OpenSpec.upto kdfCallsSpec)

/-- 'coreseclaw05.KdfInner', WHERE WHAT IT READS IS OF BULK AT MOST 1048576: true; the input reads as it did. -/
def kdfInnerUptoRow : OpenClaim := { program := "ytomeeeakaejokaa", sum := "71fb5860a46f0ba6ca1d2a86847207d5eb8f6bfd19e6f54a2a7a8806b3f94fe7", func := "coresec/coreseclaw05.KdfInner", spec := "kdfInner", inPlace := ["math.sqrt", "math.Float64bits", "math.Float64frombits", "math.archTrunc"], unfollowed := true, recurses := true, apart := false, narrowed := true }
def KdfInnerUptoSaid : Prop := kdfInnerUptoRow.holds Try.pinned (OpenSpec.upto kdfInnerSpec)

/-- 'coreseclaw05.KdfPrefix', WHERE WHAT IT READS IS OF BULK AT MOST 1048576: true; the input reads as it did. -/
def kdfPrefixUptoRow : OpenClaim := { program := "ytomeeeakaejokaa", sum := "71fb5860a46f0ba6ca1d2a86847207d5eb8f6bfd19e6f54a2a7a8806b3f94fe7", func := "coresec/coreseclaw05.KdfPrefix", spec := "kdfPrefix", inPlace := ["math.sqrt", "math.Float64bits", "math.Float64frombits", "math.archTrunc"], unfollowed := true, recurses := true, apart := false, narrowed := true }
def KdfPrefixUptoSaid : Prop := kdfPrefixUptoRow.holds Try.pinned (OpenSpec.upto kdfPrefixSpec)

end Rows
end Go.Proofs.Ytomeeeakaejokaa
