/- The tied card of synodlaw.All, where what it reads is of bulk at most 1048576: every call of a script, in every order, answers as the document's own, and the lists that came out stay their owner's; the table of kinds is tied to the program's text. -/
import Derived.Test.YtnnhnekfokbooaaGreatDoorAl52
import Derived.Test.YtnnhnekfokbooaaGreatDoorTie
import Derived.Test.YtnnhnekfokbooaaGreatDoorCards
import Derived.SevenTiedAt
set_option linter.unusedSimpArgs false
set_option linter.unusedVariables false
set_option maxRecDepth 100000
namespace Go.Proofs.YtnnhnekfokbooaaGreatDoor
section
open Go
theorem allCard_holds : Rows.AllUptoCardSaid :=
 Claim7.holds_tied_plain_at .later [] _ _ _ _
  all_holds (fun _ h => by cases h) (by kernel_rfl) (fun _ h => by cases h) allUpto_row_tie rfl ⟨rfl, rfl⟩ (by kernel_rfl) rfl
  (fun f fn hf hfn => by
   obtain rfl : f = 5 := Option.some.inj ((show Tryz.prog.funcNamed "synod/synodlaw.All" = some 5 by kernel_rfl).symm.trans hf) |>.symm
   obtain rfl : fn = Tryz.f5 := (Option.some.inj (Tryz.func5.symm.trans hfn)).symm
   exact ⟨by kernel_rfl, fun j t ht => by
    rw [Tryz.params5] at ht
    rcases j with _ | j
    ·obtain rfl : t = 22 := by simpa using ht.symm
     exact (show Tryz.prog.wantsStandIn 22 = false by kernel_rfl)
    ·simp at ht⟩)
  (by kernel_rfl)
end
end Go.Proofs.YtnnhnekfokbooaaGreatDoor
