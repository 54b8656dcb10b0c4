/- RefA0 -/
import Derived.Test.YtnnhnekfokbooaaGreatDoorAl01
set_option linter.unusedSimpArgs false
set_option linter.unusedVariables false
set_option maxRecDepth 100000
namespace Go.Proofs.YtnnhnekfokbooaaGreatDoor
section
open Go.RowKit
set_option maxHeartbeats 1000000 in
theorem rpost_any (c q h : Int) (t : ByteArray) (w : World) :
  Calls Tryz.prog 68 #[.agg #[I6 c, I6 q, I6 h, .string t]] w fun e w' => e = .returned (.bool (rightPostB ⟨c, q, h, t⟩)) ∧ Below w.heap.size w w' := by
 go_enter Tryz.func68, Tryz.ntmps68
 go_wp2
 all_goals
  go_ret
  exact ⟨by simp [rightPostB, withinB]; omega, (Below.refl _ _).alloc (Nat.le_refl _) _⟩
end
end Go.Proofs.YtnnhnekfokbooaaGreatDoor
