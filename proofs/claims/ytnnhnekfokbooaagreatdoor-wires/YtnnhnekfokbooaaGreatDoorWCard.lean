/- The tied card of synodlaw.Wires: every Pack and every Unpack of a script answers as the document's own, and the lists that came out stay their owner's; the table of kinds is tied to the program's text. -/
import Derived.Test.YtnnhnekfokbooaaGreatDoorWProofs
import Derived.Test.YtnnhnekfokbooaaGreatDoorTie
import Derived.Test.YtnnhnekfokbooaaGreatDoorCards
import Derived.SevenTiedAt
namespace Go.Proofs.YtnnhnekfokbooaaGreatDoor
open Go
theorem wiresCard_holds : Rows.WiresCardSaid :=
  Claim7.holds_tied_plain_at .later [] [.data] true Rows.wiresCard.stood.harness true
    wires_holds (fun _ h => by cases h) (by kernel_rfl) (fun _ h => by cases h) wires_row_tie rfl ⟨rfl, rfl⟩ (by kernel_rfl) rfl
    (fun f fn hf hfn => by
      obtain rfl : f = 3 := Option.some.inj ((show Tryz.prog.funcNamed "synod/synodlaw.Wires" = some 3 by kernel_rfl).symm.trans hf) |>.symm
      obtain rfl : fn = Tryz.f3 := (Option.some.inj (Tryz.func3.symm.trans hfn)).symm
      exact ⟨by kernel_rfl, fun j t ht => by
        rw [Tryz.params3] at ht
        rcases j with _ | j
        · obtain rfl : t = 22 := by simpa using ht.symm
          exact (show Tryz.prog.wantsStandIn 22 = false by kernel_rfl)
        · simp at ht⟩)
    (by kernel_rfl)
end Go.Proofs.YtnnhnekfokbooaaGreatDoor
