/-
  DERIVED. GIVEN WITH THE SEED: THE CARDS: each row of YtljcnlioiogfbaaGreatDoorRows.lean that lists a variable, with what it lists TIED to the program's text (the seventh form; the later family's looks); each row that meets fmt, with fmt's text TOLD by the authors' own Lean function (tested against real Go, not proved from fmt's source: count such statements apart). THE CARD IS WHAT COUNTS. Prove the row's statement (the work); the ties are given (YtljcnlioiogfbaaGreatDoorTie.lean); close each card by the builder's one call (the guide's Derived/Test/ToyasCard.lean, 'card_holds'). Laid BY PROGRAM, IN A SANDBOX (cutbox-door.mjs). By AI agents, Wed Nov 11 2026. No macro, syntax, notation, axiom, sorry.
-/
import Derived.Test.YtljcnlioiogfbaaGreatDoorRows
import GoSem.ClaimSeven
namespace Go.Proofs.YtljcnlioiogfbaaGreatDoor
namespace Rows

/-- THE TIED CARD OF 'synodlaw.Wires'. -/
def wiresCard : Claim7 := { stood := { row := wiresRow, standIns := [], harness := (true, "2858750a85d084ef41a64f69051e0bcf80e1f031b7cd48eef61bc45dbb45a609"), looks := true }, kinds := [], alts := [], laidByText := true, laidKinds := [.data], laidTests := true, laidLooks := .later }
def WiresCardSaid : Prop := Claim7.holds Tryz.pinned (.plain (OpenSpec.ofChange wiresSpec)) wiresCard

/-- THE TIED CARD OF 'synodlaw.Votes'. -/
def votesCard : Claim7 := { stood := { row := votesRow, standIns := [], harness := (true, "2858750a85d084ef41a64f69051e0bcf80e1f031b7cd48eef61bc45dbb45a609"), looks := true }, kinds := [], alts := [], laidByText := true, laidKinds := [.data], laidTests := true, laidLooks := .later }
def VotesCardSaid : Prop := Claim7.holds Tryz.pinned (.plain (OpenSpec.ofChange votesSpec)) votesCard

/-- THE SECOND FORM's CARD OF 'synodlaw.Wires'. -/
def wiresUptoCard : Claim7 := { stood := { row := wiresUptoRow, standIns := [], harness := (true, "2858750a85d084ef41a64f69051e0bcf80e1f031b7cd48eef61bc45dbb45a609"), looks := true }, kinds := [], alts := [], laidByText := true, laidKinds := [.data], laidTests := true, laidLooks := .later }
def WiresUptoCardSaid : Prop := Claim7.holds Tryz.pinned (.plain (OpenSpec.upto wiresSpec)) wiresUptoCard

/-- THE SECOND FORM's CARD OF 'synodlaw.Votes'. -/
def votesUptoCard : Claim7 := { stood := { row := votesUptoRow, standIns := [], harness := (true, "2858750a85d084ef41a64f69051e0bcf80e1f031b7cd48eef61bc45dbb45a609"), looks := true }, kinds := [], alts := [], laidByText := true, laidKinds := [.data], laidTests := true, laidLooks := .later }
def VotesUptoCardSaid : Prop := Claim7.holds Tryz.pinned (.plain (OpenSpec.upto votesSpec)) votesUptoCard
end Rows
end Go.Proofs.YtljcnlioiogfbaaGreatDoor
