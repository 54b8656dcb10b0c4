/- The tied card of synodkeep.Back: what is packed is unpacked as it was, what is cut or has a byte more is no message, and what is unpacked is packed as it stood; the table of kinds is tied to the program's text. -/
import Derived.Test.YtnnhnekfokbooaaDoorProofs
import Derived.Test.YtnnhnekfokbooaaDoorTie
import Derived.Test.YtnnhnekfokbooaaDoorCards
import Derived.SevenTiedAt
namespace Go.Proofs.YtnnhnekfokbooaaDoor
open Go
theorem backCard_holds : Rows.BackCardSaid :=
  Claim7.holds_tied_plain_at .later [] [.data] true Rows.backCard.stood.harness false
    back_holds (fun _ h => by cases h) (by kernel_rfl) (fun _ h => by cases h) back_row_tie rfl ⟨rfl, rfl⟩ (by kernel_rfl) rfl
    (fun f fn hf hfn => by
      obtain rfl : f = 3 := Option.some.inj ((show Tryd.prog.funcNamed "synod/synodkeep.Back" = some 3 by kernel_rfl).symm.trans hf) |>.symm
      obtain rfl : fn = Tryd.f3 := (Option.some.inj (Tryd.func3.symm.trans hfn)).symm
      exact ⟨by kernel_rfl, fun j t ht => by
        rw [Tryd.params3] at ht
        rcases j with _ | _ | _ | _ | _ | _ | j
        · obtain rfl : t = 3 := by simpa using ht.symm
          exact (show Tryd.prog.wantsStandIn 3 = false by kernel_rfl)
        · obtain rfl : t = 3 := by simpa using ht.symm
          exact (show Tryd.prog.wantsStandIn 3 = false by kernel_rfl)
        · obtain rfl : t = 3 := by simpa using ht.symm
          exact (show Tryd.prog.wantsStandIn 3 = false by kernel_rfl)
        · obtain rfl : t = 22 := by simpa using ht.symm
          exact (show Tryd.prog.wantsStandIn 22 = false by kernel_rfl)
        · obtain rfl : t = 3 := by simpa using ht.symm
          exact (show Tryd.prog.wantsStandIn 3 = false by kernel_rfl)
        · obtain rfl : t = 9 := by simpa using ht.symm
          exact (show Tryd.prog.wantsStandIn 9 = false by kernel_rfl)
        · simp at ht⟩)
    (by kernel_rfl)
end Go.Proofs.YtnnhnekfokbooaaDoor
