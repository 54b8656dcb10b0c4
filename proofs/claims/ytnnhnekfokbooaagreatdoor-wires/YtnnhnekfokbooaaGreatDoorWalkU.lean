/- The walk of synod.Pack. -/
import Derived.Test.YtnnhnekfokbooaaGreatDoorLaws
import Derived.BigQuiet
import Derived.WalkKit
import Derived.WalkSpells
import Derived.WalkLawsBesides
namespace Go.Proofs.YtnnhnekfokbooaaGreatDoor
open Go.RowKit

set_option maxHeartbeats 1000000 in
theorem Pack_any (m : Ms) (v : Value) (w : World) (hk : Kinds w) (hv : VAt w v m.a) :
    Calls Tryz.prog 19 #[.agg #[.int .i64 m.k, .int .i64 m.f, .int .i64 m.t, .int .i64 m.b, .int .i64 m.s, .int .i64 m.p.c, .int .i64 m.p.q, .int .i64 m.p.h, .string m.p.t, v]] w fun e w' =>
      e = .returned (if rmB m then .tuple #[.string (S (encM m)), .int .i64 0] else .tuple #[.string (S []), .int .i64 2]) ∧ Below w.heap.size w w' := by
  obtain ⟨ao, cap, hve, _⟩ := hv.form
  subst hve
  have hC := wpack_any m _ _ (hk.alloc (.cells #[.int .i64 m.k, .int .i64 m.f, .int .i64 m.t, .int .i64 m.b, .int .i64 m.s, .int .i64 m.p.c, .int .i64 m.p.q, .int .i64 m.p.h, .string m.p.t, .slice ao m.a.length cap] 36)) (hv.alloc _)
  cases hrm : rmB m
  · rw [hrm] at hC
    go_enter Tryz.func19, Tryz.ntmps19
    go_wp2_with (go_at_call 48; refine hC.mono ?_; rintro e w1 ⟨rfl, hb1⟩)
    go_ret2
    exact ⟨rfl, ((Below.refl _ _).alloc (Nat.le_refl _) _).trans (hb1.mono (by simp))⟩
  · rw [hrm] at hC
    go_enter Tryz.func19, Tryz.ntmps19
    go_wp2_with (go_at_call 48; refine hC.mono ?_; rintro e w1 ⟨rfl, hb1⟩)
    go_ret2
    exact ⟨rfl, ((Below.refl _ _).alloc (Nat.le_refl _) _).trans (hb1.mono (by simp))⟩
end Go.Proofs.YtnnhnekfokbooaaGreatDoor
