/- The walk of partsOf, over the laid table of kinds; the reader's message. -/
import Derived.Test.YtnnhnekfokbooaaGreatDoorWalkA
import Derived.Test.YtnnhnekfokbooaaGreatDoorWalkD
import Derived.WalkKit
import Derived.WalkSpells
import Derived.WalkLawsBesides
namespace Go.Proofs.YtnnhnekfokbooaaGreatDoor
open Go.RowKit

/-- The table of kinds, cell by cell. -/
def KT : List Bool := [false, false, false, false, true, false, false, false, true, false, false, true, true, true, true, false, true, true, false, false, false, true, true, false, true, false, false, false]
def Kinds (w : World) : Prop := 0 < w.heap.size ∧ ∀ j, j < 28 → w.cell? ⟨0, j, none⟩ = some (.bool (KT.getD j false))
theorem Kinds.kp {o o' : Option Nat} {w w' : World} (h : Kinds w) (hk : Kp o o' w w') (ho : o ≠ some 0) : Kinds w' :=
  ⟨Nat.lt_of_lt_of_le h.1 hk.size, fun j hj => by rw [hk.cell h.1 ho]; exact h.2 j hj⟩
theorem Kinds.below {w w' : World} (h : Kinds w) (hb : Below w.heap.size w w') : Kinds w' := h.kp (Kp.ofBelow (o := none) hb) (by simp)
theorem Kinds.alloc {w : World} (h : Kinds w) (o : Obj) : Kinds (w.alloc o) := h.kp ((Kp.refl none w).alloc o) (by simp)
theorem Kinds.set {w : World} (h : Kinds w) {a : Addr} (ha : 0 ≠ a.block) (u : Value) : Kinds (w.setCell a u) :=
  h.kp ((Kp.refl (some a.block) w).setCell (.inl rfl) u) (by intro e; injection e with e; exact ha e.symm)

def hasB (k : Int) : Bool := k == 1 || k == 2 || k == 3 || k == 4 || k == 6
def hasS (k : Int) : Bool := k == 3 || k == 4 || k == 5
def hasV (k : Int) : Bool := k == 3 || k == 5
def hasA (k : Int) : Bool := k == 2

set_option maxHeartbeats 2000000 in
theorem partsOf_any (k : Int) (w : World) (hk : Kinds w) :
    Calls Tryz.prog 77 #[.int .i64 k] w fun e w' => e = .returned (.agg #[.bool (hasB k), .bool (hasS k), .bool (hasV k), .bool (hasA k)]) ∧ Below w.heap.size w w' := by
  have h0 := hk.1
  have hne : (0 : Nat) ≠ w.heap.size := by omega
  cases h1 : withinB k 1 6
  · have hn := withinB_false h1
    go_enter Tryz.func77, Tryz.ntmps77
    go_wp2_with (go_at_call 110; refine (rightKind_any _ _).mono ?_; rintro e w' ⟨rfl, rfl⟩)
    refine bodyPost_ret (v := .agg #[.bool false, .bool false, .bool false, .bool false]) (by simp [results, Tryz.results77, go_sem]) rfl ⟨?_, ?_⟩
    · have e1 : hasB k = false := by simp [hasB]; omega
      have e2 : hasS k = false := by simp [hasS]; omega
      have e3 : hasV k = false := by simp [hasV]; omega
      have e4 : hasA k = false := by simp [hasA]; omega
      rw [e1, e2, e3, e4]
    · exact (Below.refl _ _).alloc (Nat.le_refl _) _
  · obtain ⟨ha, hb⟩ := withinB_true h1
    have hT := fun j hj => (hk.alloc (.cells #[.bool false, .bool false, .bool false, .bool false] 139)).2 j hj
    rcases (show k = 1 ∨ k = 2 ∨ k = 3 ∨ k = 4 ∨ k = 5 ∨ k = 6 from by omega) with rfl | rfl | rfl | rfl | rfl | rfl
    · have c0 : _ = some (Value.bool true) := hT 4 (by decide)
      have c1 : _ = some (Value.bool false) := hT 5 (by decide)
      have c2 : _ = some (Value.bool false) := hT 6 (by decide)
      have c3 : _ = some (Value.bool false) := hT 7 (by decide)
      clear hT
      go_enter Tryz.func77, Tryz.ntmps77
      go_wp2_with (go_at_call 110; refine (rightKind_any _ _).mono ?_; rintro e w' ⟨rfl, rfl⟩)
      refine bodyPost_ret (v := .agg #[.bool true, .bool false, .bool false, .bool false]) (by simp [results, Tryz.results77, go_sem]) rfl ⟨rfl, ?_⟩
      exact (Below.refl _ _).alloc (Nat.le_refl _) _
    · have c0 : _ = some (Value.bool true) := hT 8 (by decide)
      have c1 : _ = some (Value.bool false) := hT 9 (by decide)
      have c2 : _ = some (Value.bool false) := hT 10 (by decide)
      have c3 : _ = some (Value.bool true) := hT 11 (by decide)
      clear hT
      go_enter Tryz.func77, Tryz.ntmps77
      go_wp2_with (go_at_call 110; refine (rightKind_any _ _).mono ?_; rintro e w' ⟨rfl, rfl⟩)
      refine bodyPost_ret (v := .agg #[.bool true, .bool false, .bool false, .bool true]) (by simp [results, Tryz.results77, go_sem]) rfl ⟨rfl, ?_⟩
      exact (Below.refl _ _).alloc (Nat.le_refl _) _
    · have c0 : _ = some (Value.bool true) := hT 12 (by decide)
      have c1 : _ = some (Value.bool true) := hT 13 (by decide)
      have c2 : _ = some (Value.bool true) := hT 14 (by decide)
      have c3 : _ = some (Value.bool false) := hT 15 (by decide)
      clear hT
      go_enter Tryz.func77, Tryz.ntmps77
      go_wp2_with (go_at_call 110; refine (rightKind_any _ _).mono ?_; rintro e w' ⟨rfl, rfl⟩)
      refine bodyPost_ret (v := .agg #[.bool true, .bool true, .bool true, .bool false]) (by simp [results, Tryz.results77, go_sem]) rfl ⟨rfl, ?_⟩
      exact (Below.refl _ _).alloc (Nat.le_refl _) _
    · have c0 : _ = some (Value.bool true) := hT 16 (by decide)
      have c1 : _ = some (Value.bool true) := hT 17 (by decide)
      have c2 : _ = some (Value.bool false) := hT 18 (by decide)
      have c3 : _ = some (Value.bool false) := hT 19 (by decide)
      clear hT
      go_enter Tryz.func77, Tryz.ntmps77
      go_wp2_with (go_at_call 110; refine (rightKind_any _ _).mono ?_; rintro e w' ⟨rfl, rfl⟩)
      refine bodyPost_ret (v := .agg #[.bool true, .bool true, .bool false, .bool false]) (by simp [results, Tryz.results77, go_sem]) rfl ⟨rfl, ?_⟩
      exact (Below.refl _ _).alloc (Nat.le_refl _) _
    · have c0 : _ = some (Value.bool false) := hT 20 (by decide)
      have c1 : _ = some (Value.bool true) := hT 21 (by decide)
      have c2 : _ = some (Value.bool true) := hT 22 (by decide)
      have c3 : _ = some (Value.bool false) := hT 23 (by decide)
      clear hT
      go_enter Tryz.func77, Tryz.ntmps77
      go_wp2_with (go_at_call 110; refine (rightKind_any _ _).mono ?_; rintro e w' ⟨rfl, rfl⟩)
      refine bodyPost_ret (v := .agg #[.bool false, .bool true, .bool true, .bool false]) (by simp [results, Tryz.results77, go_sem]) rfl ⟨rfl, ?_⟩
      exact (Below.refl _ _).alloc (Nat.le_refl _) _
    · have c0 : _ = some (Value.bool true) := hT 24 (by decide)
      have c1 : _ = some (Value.bool false) := hT 25 (by decide)
      have c2 : _ = some (Value.bool false) := hT 26 (by decide)
      have c3 : _ = some (Value.bool false) := hT 27 (by decide)
      clear hT
      go_enter Tryz.func77, Tryz.ntmps77
      go_wp2_with (go_at_call 110; refine (rightKind_any _ _).mono ?_; rintro e w' ⟨rfl, rfl⟩)
      refine bodyPost_ret (v := .agg #[.bool true, .bool false, .bool false, .bool false]) (by simp [results, Tryz.results77, go_sem]) rfl ⟨rfl, ?_⟩
      exact (Below.refl _ _).alloc (Nat.le_refl _) _

/-- A message: its numbers, its value, its votes. -/
structure Ms where
  k : Int
  f : Int
  t : Int
  b : Int
  s : Int
  p : Pst
  a : List Vt

/-- What the reader's method message reads: part by part, each if its kind has it. -/
def Rs.m1 (s : Rs) : Rs := ((s.adv 1).adv 1).adv 1
def Rs.bal (k : Int) (s : Rs) : Int := if hasB k then s.num 2 else 0
def Rs.balAft (k : Int) (s : Rs) : Rs := if hasB k then s.adv 2 else s
def Rs.slo (k : Int) (s : Rs) : Int := if hasS k then s.num 1 else 0
def Rs.sloAft (k : Int) (s : Rs) : Rs := if hasS k then s.adv 1 else s
def Rs.vau (k : Int) (s : Rs) : Pst := if hasV k then s.val else ⟨0, 0, 0, S []⟩
def Rs.vauAft (k : Int) (s : Rs) : Rs := if hasV k then s.aft else s
def Rs.acc (k : Int) (s : Rs) : List Vt := if hasA k then Rs.vts (s.num 1).toNat (s.adv 1) else []
def Rs.accAft (k : Int) (s : Rs) : Rs := if hasA k then Rs.vtsAft (s.num 1).toNat (s.adv 1) else s
def Rs.msg (s : Rs) : Ms := ⟨s.num 1, (s.adv 1).num 1, ((s.adv 1).adv 1).num 1, s.m1.bal (s.num 1), (s.m1.balAft (s.num 1)).slo (s.num 1), ((s.m1.balAft (s.num 1)).sloAft (s.num 1)).vau (s.num 1),
  (((s.m1.balAft (s.num 1)).sloAft (s.num 1)).vauAft (s.num 1)).acc (s.num 1)⟩
def Rs.msgAft (s : Rs) : Rs := (((s.m1.balAft (s.num 1)).sloAft (s.num 1)).vauAft (s.num 1)).accAft (s.num 1)

end Go.Proofs.YtnnhnekfokbooaaGreatDoor
