/- The tied card of synodkeep.Back: what is packed is unpacked as it was, what is cut or has a byte more is no message, and what is unpacked is packed as it stood; the table of kinds is tied to the program's text. -/
import Derived.Test.YtpieadjceflibaaDoorProofs
import Derived.Test.YtpieadjceflibaaDoorTie
import Derived.Test.YtpieadjceflibaaDoorCards
import Derived.SevenTiedAt
namespace Go.Proofs.YtpieadjceflibaaDoor
open Go
theorem backCard_holds : Rows.BackCardSaid :=
  Claim7.holds_tied_plain_at .later [] [.data] true Rows.backCard.stood.harness false
    back_holds (fun _ h => by cases h) (by kernel_rfl) (fun _ h => by cases h) back_row_tie rfl ⟨rfl, rfl⟩ (by kernel_rfl) rfl
    (fun f fn hf hfn => by
      obtain rfl : f = 4 := Option.some.inj ((show Tryd.prog.funcNamed "synod/synodkeep.Back" = some 4 by kernel_rfl).symm.trans hf) |>.symm
      obtain rfl : fn = Tryd.f4 := (Option.some.inj (Tryd.func4.symm.trans hfn)).symm
      exact ⟨by kernel_rfl, fun j t ht => by
        rw [Tryd.params4] at ht
        rcases j with _ | _ | _ | _ | _ | _ | j
        · obtain rfl : t = 3 := by simpa using ht.symm
          exact (show Tryd.prog.wantsStandIn 3 = false by kernel_rfl)
        · obtain rfl : t = 3 := by simpa using ht.symm
          exact (show Tryd.prog.wantsStandIn 3 = false by kernel_rfl)
        · obtain rfl : t = 3 := by simpa using ht.symm
          exact (show Tryd.prog.wantsStandIn 3 = false by kernel_rfl)
        · obtain rfl : t = 25 := by simpa using ht.symm
          exact (show Tryd.prog.wantsStandIn 25 = false by kernel_rfl)
        · obtain rfl : t = 3 := by simpa using ht.symm
          exact (show Tryd.prog.wantsStandIn 3 = false by kernel_rfl)
        · obtain rfl : t = 9 := by simpa using ht.symm
          exact (show Tryd.prog.wantsStandIn 9 = false by kernel_rfl)
        · simp at ht⟩)
    (by kernel_rfl)
end Go.Proofs.YtpieadjceflibaaDoor
