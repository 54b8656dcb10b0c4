/-
  DERIVED. GIVEN WITH THE SEED: THE CARDS: each row of YtnnhnekfokbooaaDoorRows.lean that lists a variable, with what it lists TIED to the program's text (the seventh form; the later family's looks); each row that meets fmt, with fmt's text TOLD by the authors' own Lean function (tested against real Go, not proved from fmt's source: count such statements apart). THE CARD IS WHAT COUNTS. Prove the row's statement (the work); the ties are given (YtnnhnekfokbooaaDoorTie.lean); close each card by the builder's one call (the guide's Derived/Test/ToyasCard.lean, 'card_holds'). Laid BY PROGRAM, IN A SANDBOX (cutbox-door.mjs). By AI agents, Wed Nov 11 2026. No macro, syntax, notation, axiom, sorry.
-/
import Derived.Test.YtnnhnekfokbooaaDoorRows
import GoSem.ClaimSeven
namespace Go.Proofs.YtnnhnekfokbooaaDoor
namespace Rows

/-- THE TIED CARD OF 'synodkeep.Back'. -/
def backCard : Claim7 := { stood := { row := backRow, standIns := [], harness := (true, "bba43eaa3def45baacdabfba90d3a48b51296fe6053248d15070d131a677ff7d"), looks := false }, kinds := [], alts := [], laidByText := true, laidKinds := [.data], laidTests := true, laidLooks := .later }
def BackCardSaid : Prop := Claim7.holds Tryd.pinned (.plain (OpenSpec.ofChange backSpec)) backCard

/-- THE SECOND FORM's CARD OF 'synodkeep.Back'. -/
def backUptoCard : Claim7 := { stood := { row := backUptoRow, standIns := [], harness := (true, "bba43eaa3def45baacdabfba90d3a48b51296fe6053248d15070d131a677ff7d"), looks := false }, kinds := [], alts := [], laidByText := true, laidKinds := [.data], laidTests := true, laidLooks := .later }
def BackUptoCardSaid : Prop := Claim7.holds Tryd.pinned (.plain (OpenSpec.upto backSpec)) backUptoCard
end Rows
end Go.Proofs.YtnnhnekfokbooaaDoor
