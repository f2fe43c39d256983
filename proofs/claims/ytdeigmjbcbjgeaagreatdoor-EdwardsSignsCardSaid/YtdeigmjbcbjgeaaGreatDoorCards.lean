/-
  DERIVED. GIVEN WITH THE SEED: THE CARDS: each row of YtdeigmjbcbjgeaaGreatDoorRows.lean that lists a variable, with what it lists TIED to the program's text (the seventh form; the later family's looks); each row that meets fmt, with fmt's text TOLD by the authors' own Lean function (tested against real Go, not proved from fmt's source: count such statements apart). THE CARD IS WHAT COUNTS. Prove the row's statement (the work); the ties are given (YtdeigmjbcbjgeaaGreatDoorTie.lean); close each card by the builder's one call (the guide's Derived/Test/ToyasCard.lean, 'card_holds'). Laid BY PROGRAM, IN A SANDBOX (cutbox-door.mjs). By AI agents, Wed Nov 11 2026. No macro, syntax, notation, axiom, sorry.
-/
import Derived.Test.YtdeigmjbcbjgeaaGreatDoorRows
import GoSem.ClaimSeven
namespace Go.Proofs.YtdeigmjbcbjgeaaGreatDoor
namespace Rows

/-- THE TIED CARD OF 'coreseclaw10.EdwardsPoints'. -/
def edwardsPointsCard : Claim7 := { stood := { row := edwardsPointsRow, standIns := [], harness := (true, "177979e184c68e2506787a1e947571f3bb6bafaa956c2120f496939bf979b52b"), looks := false }, kinds := [], alts := [], laidByText := true, laidKinds := [.data], laidTests := true, laidLooks := .later }
def EdwardsPointsCardSaid : Prop := Claim7.holds Tryz.pinned (.plain (OpenSpec.ofChange edwardsPointsSpec)) edwardsPointsCard

/-- THE TIED CARD OF 'coreseclaw10.EdwardsMults'. -/
def edwardsMultsCard : Claim7 := { stood := { row := edwardsMultsRow, standIns := [], harness := (true, "177979e184c68e2506787a1e947571f3bb6bafaa956c2120f496939bf979b52b"), looks := false }, kinds := [], alts := [], laidByText := true, laidKinds := [.data], laidTests := true, laidLooks := .later }
def EdwardsMultsCardSaid : Prop := Claim7.holds Tryz.pinned (.plain (OpenSpec.ofChange edwardsMultsSpec)) edwardsMultsCard

/-- THE TIED CARD OF 'coreseclaw10.EdwardsSigns'. -/
def edwardsSignsCard : Claim7 := { stood := { row := edwardsSignsRow, standIns := [], harness := (true, "177979e184c68e2506787a1e947571f3bb6bafaa956c2120f496939bf979b52b"), looks := false }, kinds := [], alts := [], laidByText := true, laidKinds := [.data], laidTests := true, laidLooks := .later }
def EdwardsSignsCardSaid : Prop := Claim7.holds Tryz.pinned (.plain (OpenSpec.ofChange edwardsSignsSpec)) edwardsSignsCard

/-- THE TIED CARD OF 'coreseclaw10.EdwardsVerifies'. -/
def edwardsVerifiesCard : Claim7 := { stood := { row := edwardsVerifiesRow, standIns := [], harness := (true, "177979e184c68e2506787a1e947571f3bb6bafaa956c2120f496939bf979b52b"), looks := false }, kinds := [], alts := [], laidByText := true, laidKinds := [.data], laidTests := true, laidLooks := .later }
def EdwardsVerifiesCardSaid : Prop := Claim7.holds Tryz.pinned (.plain (OpenSpec.ofChange edwardsVerifiesSpec)) edwardsVerifiesCard

/-- THE TIED CARD OF 'coreseclaw10.EdwardsGroup'. -/
def edwardsGroupCard : Claim7 := { stood := { row := edwardsGroupRow, standIns := [], harness := (true, "177979e184c68e2506787a1e947571f3bb6bafaa956c2120f496939bf979b52b"), looks := false }, kinds := [], alts := [], laidByText := true, laidKinds := [.data], laidTests := true, laidLooks := .later }
def EdwardsGroupCardSaid : Prop := Claim7.holds Tryz.pinned (.plain (OpenSpec.ofChange edwardsGroupSpec)) edwardsGroupCard

/-- THE TIED CARD OF 'coreseclaw10.EdwardsEquation'. -/
def edwardsEquationCard : Claim7 := { stood := { row := edwardsEquationRow, standIns := [], harness := (true, "177979e184c68e2506787a1e947571f3bb6bafaa956c2120f496939bf979b52b"), looks := false }, kinds := [], alts := [], laidByText := true, laidKinds := [.data], laidTests := true, laidLooks := .later }
def EdwardsEquationCardSaid : Prop := Claim7.holds Tryz.pinned (.plain (OpenSpec.ofChange edwardsEquationSpec)) edwardsEquationCard

/-- THE SECOND FORM's CARD OF 'coreseclaw10.EdwardsPoints'. -/
def edwardsPointsUptoCard : Claim7 := { stood := { row := edwardsPointsUptoRow, standIns := [], harness := (true, "177979e184c68e2506787a1e947571f3bb6bafaa956c2120f496939bf979b52b"), looks := false }, kinds := [], alts := [], laidByText := true, laidKinds := [.data], laidTests := true, laidLooks := .later }
def EdwardsPointsUptoCardSaid : Prop := Claim7.holds Tryz.pinned (.plain (OpenSpec.upto edwardsPointsSpec)) edwardsPointsUptoCard

/-- THE SECOND FORM's CARD OF 'coreseclaw10.EdwardsMults'. -/
def edwardsMultsUptoCard : Claim7 := { stood := { row := edwardsMultsUptoRow, standIns := [], harness := (true, "177979e184c68e2506787a1e947571f3bb6bafaa956c2120f496939bf979b52b"), looks := false }, kinds := [], alts := [], laidByText := true, laidKinds := [.data], laidTests := true, laidLooks := .later }
def EdwardsMultsUptoCardSaid : Prop := Claim7.holds Tryz.pinned (.plain (OpenSpec.upto edwardsMultsSpec)) edwardsMultsUptoCard

/-- THE SECOND FORM's CARD OF 'coreseclaw10.EdwardsSigns'. -/
def edwardsSignsUptoCard : Claim7 := { stood := { row := edwardsSignsUptoRow, standIns := [], harness := (true, "177979e184c68e2506787a1e947571f3bb6bafaa956c2120f496939bf979b52b"), looks := false }, kinds := [], alts := [], laidByText := true, laidKinds := [.data], laidTests := true, laidLooks := .later }
def EdwardsSignsUptoCardSaid : Prop := Claim7.holds Tryz.pinned (.plain (OpenSpec.upto edwardsSignsSpec)) edwardsSignsUptoCard

/-- THE SECOND FORM's CARD OF 'coreseclaw10.EdwardsVerifies'. -/
def edwardsVerifiesUptoCard : Claim7 := { stood := { row := edwardsVerifiesUptoRow, standIns := [], harness := (true, "177979e184c68e2506787a1e947571f3bb6bafaa956c2120f496939bf979b52b"), looks := false }, kinds := [], alts := [], laidByText := true, laidKinds := [.data], laidTests := true, laidLooks := .later }
def EdwardsVerifiesUptoCardSaid : Prop := Claim7.holds Tryz.pinned (.plain (OpenSpec.upto edwardsVerifiesSpec)) edwardsVerifiesUptoCard

/-- THE SECOND FORM's CARD OF 'coreseclaw10.EdwardsGroup'. -/
def edwardsGroupUptoCard : Claim7 := { stood := { row := edwardsGroupUptoRow, standIns := [], harness := (true, "177979e184c68e2506787a1e947571f3bb6bafaa956c2120f496939bf979b52b"), looks := false }, kinds := [], alts := [], laidByText := true, laidKinds := [.data], laidTests := true, laidLooks := .later }
def EdwardsGroupUptoCardSaid : Prop := Claim7.holds Tryz.pinned (.plain (OpenSpec.upto edwardsGroupSpec)) edwardsGroupUptoCard

/-- THE SECOND FORM's CARD OF 'coreseclaw10.EdwardsEquation'. -/
def edwardsEquationUptoCard : Claim7 := { stood := { row := edwardsEquationUptoRow, standIns := [], harness := (true, "177979e184c68e2506787a1e947571f3bb6bafaa956c2120f496939bf979b52b"), looks := false }, kinds := [], alts := [], laidByText := true, laidKinds := [.data], laidTests := true, laidLooks := .later }
def EdwardsEquationUptoCardSaid : Prop := Claim7.holds Tryz.pinned (.plain (OpenSpec.upto edwardsEquationSpec)) edwardsEquationUptoCard
end Rows
end Go.Proofs.YtdeigmjbcbjgeaaGreatDoor
