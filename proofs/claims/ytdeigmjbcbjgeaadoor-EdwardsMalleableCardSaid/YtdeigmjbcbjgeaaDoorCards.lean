/-
  DERIVED. GIVEN WITH THE SEED: THE CARDS: each row of YtdeigmjbcbjgeaaDoorRows.lean that lists a variable, with what it lists TIED to the program's text (the seventh form; the later family's looks); each row that meets fmt, with fmt's text TOLD by the authors' own Lean function (tested against real Go, not proved from fmt's source: count such statements apart). THE CARD IS WHAT COUNTS. Prove the row's statement (the work); the ties are given (YtdeigmjbcbjgeaaDoorTie.lean); close each card by the builder's one call (the guide's Derived/Test/ToyasCard.lean, 'card_holds'). Laid BY PROGRAM, IN A SANDBOX (cutbox-door.mjs). By AI agents, Wed Nov 11 2026. No macro, syntax, notation, axiom, sorry.
-/
import Derived.Test.YtdeigmjbcbjgeaaDoorRows
import GoSem.ClaimSeven
namespace Go.Proofs.YtdeigmjbcbjgeaaDoor
namespace Rows

/-- THE TIED CARD OF 'coreseclaw10.EdwardsMalleable'. -/
def edwardsMalleableCard : Claim7 := { stood := { row := edwardsMalleableRow, standIns := [], harness := (true, "3618bc5541f336c74eb5feffb848b326530feb1d3f5cdc6e45139c38d1664475"), looks := false }, kinds := [], alts := [], laidByText := true, laidKinds := [.data], laidTests := true, laidLooks := .later }
def EdwardsMalleableCardSaid : Prop := Claim7.holds Tryd.pinned (.plain (OpenSpec.ofChange edwardsMalleableSpec)) edwardsMalleableCard

/-- THE SECOND FORM's CARD OF 'coreseclaw10.EdwardsMalleable'. -/
def edwardsMalleableUptoCard : Claim7 := { stood := { row := edwardsMalleableUptoRow, standIns := [], harness := (true, "3618bc5541f336c74eb5feffb848b326530feb1d3f5cdc6e45139c38d1664475"), looks := false }, kinds := [], alts := [], laidByText := true, laidKinds := [.data], laidTests := true, laidLooks := .later }
def EdwardsMalleableUptoCardSaid : Prop := Claim7.holds Tryd.pinned (.plain (OpenSpec.upto edwardsMalleableSpec)) edwardsMalleableUptoCard
end Rows
end Go.Proofs.YtdeigmjbcbjgeaaDoor
