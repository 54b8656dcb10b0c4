/- The tied card of synodlaw.Votes, where what it reads is of bulk at most 1048576: every New, Campaign, Submit and Deliver of a script answers as the document's own, Net, Log, Chat and Role tell the same wherever they are asked, and the lists that came out stay their owner's; the table of kinds is tied to the program's text. -/
import Derived.Test.YtnnhnekfokbooaaGreatDoorVo51
import Derived.Test.YtnnhnekfokbooaaGreatDoorTie
import Derived.Test.YtnnhnekfokbooaaGreatDoorCards
import Derived.SevenTiedAt
namespace Go.Proofs.YtnnhnekfokbooaaGreatDoor
open Go
theorem votesCard_holds : Rows.VotesUptoCardSaid :=
 Claim7.holds_tied_plain_at .later [] _ _ _ _
  votes_holds (fun _ h => by cases h) (by kernel_rfl) (fun _ h => by cases h) votesUpto_row_tie rfl ⟨rfl, rfl⟩ (by kernel_rfl) rfl
  (fun f fn hf hfn => by
   obtain rfl : f = 4 := Option.some.inj ((show Tryz.prog.funcNamed "synod/synodlaw.Votes" = some 4 by kernel_rfl).symm.trans hf) |>.symm
   obtain rfl : fn = Tryz.f4 := (Option.some.inj (Tryz.func4.symm.trans hfn)).symm
   exact ⟨by kernel_rfl, fun j t ht => by
    rw [Tryz.params4] at ht
    rcases j with _ | j
    ·obtain rfl : t = 22 := by simpa using ht.symm
     exact (show Tryz.prog.wantsStandIn 22 = false by kernel_rfl)
    ·simp at ht⟩)
  (by kernel_rfl)
end Go.Proofs.YtnnhnekfokbooaaGreatDoor
