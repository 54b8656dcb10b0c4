/- The walks of the small tests of posts of package wire. strings.Clone by the shelf's contract of internal/stringslite.Clone, laid at this translation's own numbers. (Joined by merge.py.) -/
import Derived.Test.YtnnhnekfokbooaaGreatDoorVo01
import Derived.Test.YtnnhnekfokbooaaGreatDoorRows
import Derived.WalkKit
import Derived.WalkSpells
import Derived.WalkLawsBesides
import Derived.Shelf.LaysM
import Derived.Shelf.Strconv.Clone
namespace Go.Proofs.YtnnhnekfokbooaaGreatDoor
open Go.RowKit

set_option maxHeartbeats 400000 in
theorem within_any (n a b : Int) (w : World) :
  Calls Tryz.prog 93 #[.int .i64 n, .int .i64 a, .int .i64 b] w fun e w' => e = .returned (.bool (withinB n a b)) ∧ w' = w := by
 by_cases h1 : a ≤ n
 ·by_cases h2 : n ≤ b
  ·go_enter Tryz.func93, Tryz.ntmps93
   go_wp2
   go_ret
   exact ⟨by simp [withinB, h1, h2], rfl⟩
  ·go_enter Tryz.func93, Tryz.ntmps93
   go_wp2
   go_ret
   exact ⟨by simp [withinB, h1]; omega, rfl⟩
 ·go_enter Tryz.func93, Tryz.ntmps93
  go_wp2
  go_ret
  exact ⟨by simp [withinB]; omega, rfl⟩

set_option maxHeartbeats 400000 in
theorem isNothing_any (c q h : Int) (t : ByteArray) (w : World) :
  Calls Tryz.prog 87 #[.agg #[.int .i64 c, .int .i64 q, .int .i64 h, .string t]] w fun e w' => e = .returned (.bool (nothingB ⟨c, q, h, t⟩)) ∧ Below w.heap.size w w' := by
 go_enter Tryz.func87, Tryz.ntmps87
 go_wp2
 all_goals
  go_ret
  exact ⟨by simp [nothingB, *], (Below.refl _ _).alloc (Nat.le_refl _) _⟩

set_option maxHeartbeats 800000 in
theorem rightPost_any (c q h : Int) (t : ByteArray) (w : World) :
  Calls Tryz.prog 65 #[.agg #[.int .i64 c, .int .i64 q, .int .i64 h, .string t]] w fun e w' => e = .returned (.bool (rightPostB ⟨c, q, h, t⟩)) ∧ Below w.heap.size w w' := by
 cases h1 : withinB c 1 9
 ·go_enter Tryz.func65, Tryz.ntmps65
  go_wp2_with (go_at_call 93; refine (within_any _ _ _ _).mono ?_; rintro e w' ⟨rfl, rfl⟩)
  all_goals
   go_ret
   exact ⟨by simp [rightPostB, *], (Below.refl _ _).alloc (Nat.le_refl _) _⟩
 cases h2 : withinB q 1 1000
 ·go_enter Tryz.func65, Tryz.ntmps65
  go_wp2_with (go_at_call 93; refine (within_any _ _ _ _).mono ?_; rintro e w' ⟨rfl, rfl⟩)
  all_goals
   go_ret
   exact ⟨by simp [rightPostB, *], (Below.refl _ _).alloc (Nat.le_refl _) _⟩
 cases h3 : withinB h 0 3
 ·go_enter Tryz.func65, Tryz.ntmps65
  go_wp2_with (go_at_call 93; refine (within_any _ _ _ _).mono ?_; rintro e w' ⟨rfl, rfl⟩)
  all_goals
   go_ret
   exact ⟨by simp [rightPostB, *], (Below.refl _ _).alloc (Nat.le_refl _) _⟩
 ·go_enter Tryz.func65, Tryz.ntmps65
  go_wp2_with (go_at_call 93; refine (within_any _ _ _ _).mono ?_; rintro e w' ⟨rfl, rfl⟩)
  all_goals
   go_ret
   exact ⟨by simp [rightPostB, *], (Below.refl _ _).alloc (Nat.le_refl _) _⟩

end Go.Proofs.YtnnhnekfokbooaaGreatDoor

namespace Go.Proofs.YtnnhnekfokbooaaGreatDoor
open Go.Shelf Go.RowKit
def renClone : Ren := ⟨fun | 316 => 94 | n => n, fun | 9 => 9 | 3 => 3 | 4 => 4 | 37 => 141 | 0 => 0 | 127 => 179 | 5 => 5 | n => n, fun | n => n⟩
theorem laysClone : LaysM.n316 Tryz.prog renClone := {
 mixed := by kernel_rfl
 f316 := Tryz.func94.trans (congrArg some (by kernel_rfl))
 t0 := Tryz.underlying0
 a0 := Tryz.isAgg0
 z0 := Tryz.sizeOf0
 v0 := Tryz.zeroValue0
 t3 := Tryz.underlying3
 a3 := Tryz.isAgg3
 z3 := Tryz.sizeOf3
 v3 := Tryz.zeroValue3
 t4 := Tryz.underlying4
 a4 := Tryz.isAgg4
 z4 := Tryz.sizeOf4
 v4 := Tryz.zeroValue4
 t9 := Tryz.underlying9
 a9 := Tryz.isAgg9
 z9 := Tryz.sizeOf9
 v9 := Tryz.zeroValue9
 t37 := Tryz.underlying141
 a37 := Tryz.isAgg141
 z37 := Tryz.sizeOf141
 v37 := Tryz.zeroValue141
 t127 := Tryz.underlying179
 a127 := Tryz.isAgg179
 z127 := Tryz.sizeOf179
 v127 := Tryz.zeroValue179
 t5 := Tryz.underlying5
 a5 := Tryz.isAgg5
 z5 := Tryz.sizeOf5
 v5 := Tryz.zeroValue5
 i0 := by kernel_rfl
 i3 := by kernel_rfl
 i4 := by kernel_rfl
 i5 := by kernel_rfl
 i9 := by kernel_rfl
 i37 := by kernel_rfl
 i127 := by kernel_rfl }
theorem clone0_any (s : ByteArray) (w : World) (hlim : s.size ≤ 281474976710656) :
  Calls Tryz.prog 94 #[.string s] w fun e w' => e = .returned (.string s) ∧ Below w.heap.size w w' := Any.stringslite_Clone laysClone s w hlim
theorem clone_any (s : ByteArray) (w : World) (hlim : s.size ≤ 281474976710656) :
  Calls Tryz.prog 66 #[.string s] w fun e w' => e = .returned (.string s) ∧ Below w.heap.size w w' := by
 go_enter Tryz.func66, Tryz.ntmps66
 go_wp2_with (go_at_call 94; refine (clone0_any s w hlim).mono ?_; rintro e w' ⟨rfl, hb⟩)
 go_ret
 exact ⟨rfl, hb⟩
end Go.Proofs.YtnnhnekfokbooaaGreatDoor
