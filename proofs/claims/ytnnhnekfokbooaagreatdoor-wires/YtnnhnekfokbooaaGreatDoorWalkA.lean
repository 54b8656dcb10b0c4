/- The walks of the small tests of package wire. -/
import Derived.Test.YtnnhnekfokbooaaGreatDoorRows
import Derived.Test.YtnnhnekfokbooaaGreatDoorPlain
import Derived.Test.YtnnhnekfokbooaaGreatDoorFrame
import Derived.WalkKit
import Derived.WalkSpells
import Derived.WalkLawsBesides
namespace Go.Proofs.YtnnhnekfokbooaaGreatDoor
open Go.RowKit

set_option maxHeartbeats 400000 in
theorem within_any (n a b : Int) (w : World) :
    Calls Tryz.prog 93 #[.int .i64 n, .int .i64 a, .int .i64 b] w fun e w' => e = .returned (.bool (withinB n a b)) ∧ w' = w := by
  by_cases h1 : a ≤ n
  · by_cases h2 : n ≤ b
    · go_enter Tryz.func93, Tryz.ntmps93
      go_wp2
      go_ret
      exact ⟨by simp [withinB, h1, h2], rfl⟩
    · go_enter Tryz.func93, Tryz.ntmps93
      go_wp2
      go_ret
      exact ⟨by simp [withinB, h1]; omega, rfl⟩
  · go_enter Tryz.func93, Tryz.ntmps93
    go_wp2
    go_ret
    exact ⟨by simp [withinB]; omega, rfl⟩

set_option maxHeartbeats 400000 in
theorem rightKind_any (n : Int) (w : World) :
    Calls Tryz.prog 110 #[.int .i64 n] w fun e w' => e = .returned (.bool (withinB n 1 6)) ∧ w' = w := by
  go_enter Tryz.func110, Tryz.ntmps110
  go_wp2_with (go_at_call 93; refine (within_any _ _ _ _).mono ?_; rintro e w' ⟨rfl, rfl⟩)
  go_ret
  exact ⟨rfl, rfl⟩

set_option maxHeartbeats 400000 in
theorem rightReplica_any (n : Int) (w : World) :
    Calls Tryz.prog 111 #[.int .i64 n] w fun e w' => e = .returned (.bool (withinB n 0 6)) ∧ w' = w := by
  go_enter Tryz.func111, Tryz.ntmps111
  go_wp2_with (go_at_call 93; refine (within_any _ _ _ _).mono ?_; rintro e w' ⟨rfl, rfl⟩)
  go_ret
  exact ⟨rfl, rfl⟩

set_option maxHeartbeats 400000 in
theorem rightBallot_any (n : Int) (w : World) :
    Calls Tryz.prog 113 #[.int .i64 n] w fun e w' => e = .returned (.bool (withinB n 1 8007)) ∧ w' = w := by
  go_enter Tryz.func113, Tryz.ntmps113
  go_wp2_with (go_at_call 93; refine (within_any _ _ _ _).mono ?_; rintro e w' ⟨rfl, rfl⟩)
  go_ret
  exact ⟨rfl, rfl⟩

set_option maxHeartbeats 400000 in
theorem rightSlot_any (n : Int) (w : World) :
    Calls Tryz.prog 114 #[.int .i64 n] w fun e w' => e = .returned (.bool (withinB n 0 15)) ∧ w' = w := by
  go_enter Tryz.func114, Tryz.ntmps114
  go_wp2_with (go_at_call 93; refine (within_any _ _ _ _).mono ?_; rintro e w' ⟨rfl, rfl⟩)
  go_ret
  exact ⟨rfl, rfl⟩

def fitsB (a b c : Bool) : Bool := if a then b else c
set_option maxHeartbeats 400000 in
theorem fits_any (a b c : Bool) (w : World) :
    Calls Tryz.prog 112 #[.bool a, .bool b, .bool c] w fun e w' => e = .returned (.bool (fitsB a b c)) ∧ w' = w := by
  cases a
  · go_enter Tryz.func112, Tryz.ntmps112
    go_wp2
    go_ret
    exact ⟨rfl, rfl⟩
  · go_enter Tryz.func112, Tryz.ntmps112
    go_wp2
    go_ret
    exact ⟨rfl, rfl⟩

set_option maxHeartbeats 400000 in
theorem isNothing_any (c q h : Int) (t : ByteArray) (w : World) :
    Calls Tryz.prog 87 #[.agg #[.int .i64 c, .int .i64 q, .int .i64 h, .string t]] w fun e w' => e = .returned (.bool (nothingB ⟨c, q, h, t⟩)) ∧ Below w.heap.size w w' := by
  go_enter Tryz.func87, Tryz.ntmps87
  go_wp2
  all_goals
    go_ret
    exact ⟨by simp [nothingB, *], (Below.refl _ _).alloc (Nat.le_refl _) _⟩

set_option maxHeartbeats 800000 in
theorem rightPost_any (c q h : Int) (t : ByteArray) (w : World) :
    Calls Tryz.prog 65 #[.agg #[.int .i64 c, .int .i64 q, .int .i64 h, .string t]] w fun e w' => e = .returned (.bool (rightPostB ⟨c, q, h, t⟩)) ∧ Below w.heap.size w w' := by
  cases h1 : withinB c 1 9
  · go_enter Tryz.func65, Tryz.ntmps65
    go_wp2_with (go_at_call 93; refine (within_any _ _ _ _).mono ?_; rintro e w' ⟨rfl, rfl⟩)
    all_goals
      go_ret
      exact ⟨by simp [rightPostB, *], (Below.refl _ _).alloc (Nat.le_refl _) _⟩
  cases h2 : withinB q 1 1000
  · go_enter Tryz.func65, Tryz.ntmps65
    go_wp2_with (go_at_call 93; refine (within_any _ _ _ _).mono ?_; rintro e w' ⟨rfl, rfl⟩)
    all_goals
      go_ret
      exact ⟨by simp [rightPostB, *], (Below.refl _ _).alloc (Nat.le_refl _) _⟩
  cases h3 : withinB h 0 3
  · go_enter Tryz.func65, Tryz.ntmps65
    go_wp2_with (go_at_call 93; refine (within_any _ _ _ _).mono ?_; rintro e w' ⟨rfl, rfl⟩)
    all_goals
      go_ret
      exact ⟨by simp [rightPostB, *], (Below.refl _ _).alloc (Nat.le_refl _) _⟩
  · go_enter Tryz.func65, Tryz.ntmps65
    go_wp2_with (go_at_call 93; refine (within_any _ _ _ _).mono ?_; rintro e w' ⟨rfl, rfl⟩)
    all_goals
      go_ret
      exact ⟨by simp [rightPostB, *], (Below.refl _ _).alloc (Nat.le_refl _) _⟩

set_option maxHeartbeats 800000 in
theorem rightValue_any (c q h : Int) (t : ByteArray) (w : World) :
    Calls Tryz.prog 115 #[.agg #[.int .i64 c, .int .i64 q, .int .i64 h, .string t]] w fun e w' => e = .returned (.bool (rightValueB ⟨c, q, h, t⟩)) ∧ Below w.heap.size w w' := by
  cases h1 : nothingB ⟨c, q, h, t⟩
  · go_enter Tryz.func115, Tryz.ntmps115
    go_wp2_with fail
    refine (isNothing_any _ _ _ _ _).mono ?_
    rintro e w1 ⟨rfl, hb⟩
    obtain ⟨hc, hf⟩ := bcell hb
    go_wp2_with fail
    refine (rightPost_any _ _ _ _ _).mono ?_
    rintro e w2 ⟨rfl, hb2⟩
    go_wp2_with fail
    go_ret
    exact ⟨by simp [rightValueB, h1], ((Below.alloc (Below.refl _ _) (Nat.le_refl _) _).trans (hb.mono (by simp))).trans (hb2.mono (by have := hb.size; simp at this; omega))⟩
  · go_enter Tryz.func115, Tryz.ntmps115
    go_wp2_with (first | (go_at_call 87; refine (isNothing_any _ _ _ _ _).mono ?_; rintro e w' ⟨rfl, hb⟩))
    go_ret
    exact ⟨by simp [rightValueB, h1], (Below.alloc (Below.refl _ _) (Nat.le_refl _) _).trans (hb.mono (by simp))⟩
end Go.Proofs.YtnnhnekfokbooaaGreatDoor
