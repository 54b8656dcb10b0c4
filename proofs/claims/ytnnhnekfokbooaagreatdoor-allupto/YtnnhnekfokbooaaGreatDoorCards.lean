/-
  DERIVED. GIVEN WITH THE SEED: THE CARDS: each row of YtnnhnekfokbooaaGreatDoorRows.lean that lists a variable, with what it lists TIED to the program's text (the seventh form; the later family's looks); each row that meets fmt, with fmt's text TOLD by the authors' own Lean function (tested against real Go, not proved from fmt's source: count such statements apart). THE CARD IS WHAT COUNTS. Prove the row's statement (the work); the ties are given (YtnnhnekfokbooaaGreatDoorTie.lean); close each card by the builder's one call (the guide's Derived/Test/ToyasCard.lean, 'card_holds'). Laid BY PROGRAM, IN A SANDBOX (cutbox-door.mjs). By AI agents, Wed Nov 11 2026. No macro, syntax, notation, axiom, sorry.
-/
import Derived.Test.YtnnhnekfokbooaaGreatDoorRows
import GoSem.ClaimSeven
namespace Go.Proofs.YtnnhnekfokbooaaGreatDoor
namespace Rows

/-- THE TIED CARD OF 'synodlaw.Wires'. -/
def wiresCard : Claim7 := { stood := { row := wiresRow, standIns := [], harness := (true, "7b70982ba200e3ba016e58ce860aa27c04a8b6d678364e3e7a9a1abf2bec54dc"), looks := true }, kinds := [], alts := [], laidByText := true, laidKinds := [.data], laidTests := true, laidLooks := .later }
def WiresCardSaid : Prop := Claim7.holds Tryz.pinned (.plain (OpenSpec.ofChange wiresSpec)) wiresCard

/-- THE TIED CARD OF 'synodlaw.Votes'. -/
def votesCard : Claim7 := { stood := { row := votesRow, standIns := [], harness := (true, "7b70982ba200e3ba016e58ce860aa27c04a8b6d678364e3e7a9a1abf2bec54dc"), looks := true }, kinds := [], alts := [], laidByText := true, laidKinds := [.data], laidTests := true, laidLooks := .later }
def VotesCardSaid : Prop := Claim7.holds Tryz.pinned (.plain (OpenSpec.ofChange votesSpec)) votesCard

/-- THE TIED CARD OF 'synodlaw.All'. -/
def allCard : Claim7 := { stood := { row := allRow, standIns := [], harness := (true, "7b70982ba200e3ba016e58ce860aa27c04a8b6d678364e3e7a9a1abf2bec54dc"), looks := true }, kinds := [], alts := [], laidByText := true, laidKinds := [.data], laidTests := true, laidLooks := .later }
def AllCardSaid : Prop := Claim7.holds Tryz.pinned (.plain (OpenSpec.ofChange allSpec)) allCard

/-- THE SECOND FORM's CARD OF 'synodlaw.Wires'. -/
def wiresUptoCard : Claim7 := { stood := { row := wiresUptoRow, standIns := [], harness := (true, "7b70982ba200e3ba016e58ce860aa27c04a8b6d678364e3e7a9a1abf2bec54dc"), looks := true }, kinds := [], alts := [], laidByText := true, laidKinds := [.data], laidTests := true, laidLooks := .later }
def WiresUptoCardSaid : Prop := Claim7.holds Tryz.pinned (.plain (OpenSpec.upto wiresSpec)) wiresUptoCard

/-- THE SECOND FORM's CARD OF 'synodlaw.Votes'. -/
def votesUptoCard : Claim7 := { stood := { row := votesUptoRow, standIns := [], harness := (true, "7b70982ba200e3ba016e58ce860aa27c04a8b6d678364e3e7a9a1abf2bec54dc"), looks := true }, kinds := [], alts := [], laidByText := true, laidKinds := [.data], laidTests := true, laidLooks := .later }
def VotesUptoCardSaid : Prop := Claim7.holds Tryz.pinned (.plain (OpenSpec.upto votesSpec)) votesUptoCard

/-- THE SECOND FORM's CARD OF 'synodlaw.All'. -/
def allUptoCard : Claim7 := { stood := { row := allUptoRow, standIns := [], harness := (true, "7b70982ba200e3ba016e58ce860aa27c04a8b6d678364e3e7a9a1abf2bec54dc"), looks := true }, kinds := [], alts := [], laidByText := true, laidKinds := [.data], laidTests := true, laidLooks := .later }
def AllUptoCardSaid : Prop := Claim7.holds Tryz.pinned (.plain (OpenSpec.upto allSpec)) allUptoCard
end Rows
end Go.Proofs.YtnnhnekfokbooaaGreatDoor
