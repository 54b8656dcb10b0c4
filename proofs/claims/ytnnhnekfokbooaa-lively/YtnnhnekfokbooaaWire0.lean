/- The walks of the small tests of posts of package wire. -/
import Derived.Test.YtnnhnekfokbooaaRows
import Derived.Test.YtnnhnekfokbooaaPlain
import Derived.Test.YtnnhnekfokbooaaFrame
import Derived.WalkKit
import Derived.WalkSpells
import Derived.WalkLawsBesides
namespace Go.Proofs.Ytnnhnekfokbooaa
open Go.RowKit

set_option maxHeartbeats 400000 in
theorem within_any (n a b : Int) (w : World) :
    Calls Try.prog 45 #[.int .i64 n, .int .i64 a, .int .i64 b] w fun e w' => e = .returned (.bool (withinB n a b)) ∧ w' = w := by
  by_cases h1 : a ≤ n
  · by_cases h2 : n ≤ b
    · go_enter Try.func45, Try.ntmps45
      go_wp2
      go_ret
      exact ⟨by simp [withinB, h1, h2], rfl⟩
    · go_enter Try.func45, Try.ntmps45
      go_wp2
      go_ret
      exact ⟨by simp [withinB, h1]; omega, rfl⟩
  · go_enter Try.func45, Try.ntmps45
    go_wp2
    go_ret
    exact ⟨by simp [withinB]; omega, rfl⟩

set_option maxHeartbeats 400000 in
theorem isNothing_any (c q h : Int) (t : ByteArray) (w : World) :
    Calls Try.prog 53 #[.agg #[.int .i64 c, .int .i64 q, .int .i64 h, .string t]] w fun e w' => e = .returned (.bool (nothingB ⟨c, q, h, t⟩)) ∧ Below w.heap.size w w' := by
  go_enter Try.func53, Try.ntmps53
  go_wp2
  all_goals
    go_ret
    exact ⟨by simp [nothingB, *], (Below.refl _ _).alloc (Nat.le_refl _) _⟩

set_option maxHeartbeats 800000 in
theorem rightPost_any (c q h : Int) (t : ByteArray) (w : World) :
    Calls Try.prog 32 #[.agg #[.int .i64 c, .int .i64 q, .int .i64 h, .string t]] w fun e w' => e = .returned (.bool (rightPostB ⟨c, q, h, t⟩)) ∧ Below w.heap.size w w' := by
  cases h1 : withinB c 1 9
  · go_enter Try.func32, Try.ntmps32
    go_wp2_with (go_at_call 45; refine (within_any _ _ _ _).mono ?_; rintro e w' ⟨rfl, rfl⟩)
    all_goals
      go_ret
      exact ⟨by simp [rightPostB, *], (Below.refl _ _).alloc (Nat.le_refl _) _⟩
  cases h2 : withinB q 1 1000
  · go_enter Try.func32, Try.ntmps32
    go_wp2_with (go_at_call 45; refine (within_any _ _ _ _).mono ?_; rintro e w' ⟨rfl, rfl⟩)
    all_goals
      go_ret
      exact ⟨by simp [rightPostB, *], (Below.refl _ _).alloc (Nat.le_refl _) _⟩
  cases h3 : withinB h 0 3
  · go_enter Try.func32, Try.ntmps32
    go_wp2_with (go_at_call 45; refine (within_any _ _ _ _).mono ?_; rintro e w' ⟨rfl, rfl⟩)
    all_goals
      go_ret
      exact ⟨by simp [rightPostB, *], (Below.refl _ _).alloc (Nat.le_refl _) _⟩
  · go_enter Try.func32, Try.ntmps32
    go_wp2_with (go_at_call 45; refine (within_any _ _ _ _).mono ?_; rintro e w' ⟨rfl, rfl⟩)
    all_goals
      go_ret
      exact ⟨by simp [rightPostB, *], (Below.refl _ _).alloc (Nat.le_refl _) _⟩

end Go.Proofs.Ytnnhnekfokbooaa
