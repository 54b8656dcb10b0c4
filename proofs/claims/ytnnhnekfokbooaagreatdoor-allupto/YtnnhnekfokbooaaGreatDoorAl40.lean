/- WalkE, WalkF, WalkG -/
import Derived.Test.YtnnhnekfokbooaaGreatDoorAl39
set_option linter.unusedSimpArgs false
set_option linter.unusedVariables false
set_option maxRecDepth 100000
namespace Go.Proofs.YtnnhnekfokbooaaGreatDoor
section
open Go.RowKit
def KT : List Bool := [false, false, false, false, true, false, false, false, true, false, false, true, true, true, true, false, true, true, false, false, false, true, true, false, true, false, false, false]
def Kinds (w : World) : Prop := 0 < w.heap.size ∧ ∀ j, j < 28 → w.cell? (A6 0 j) = some (.bool (KT.getD j false))
theorem Kinds.kp {o o' : Option Nat} {w w' : World} (h : Kinds w) (hk : Kp o o' w w') (ho : o ≠ some 0) : Kinds w' :=
 ⟨Nat.lt_of_lt_of_le h.1 hk.size, fun j hj => by rw [hk.cell h.1 ho]; exact h.2 j hj⟩
theorem Kinds.below {w w' : World} (h : Kinds w) (hb : Below w.heap.size w w') : Kinds w' := h.kp (Kp.ofBelow (o := none) hb) (by simp)
theorem Kinds.alloc {w : World} (h : Kinds w) (o : Obj) : Kinds (w.alloc o) := h.kp ((Kp.refl none w).alloc o) (by simp)
theorem Kinds.set {w : World} (h : Kinds w) {a : Addr} (ha : 0 ≠ a.block) (u : Value) : Kinds (w.setCell a u) :=
 h.kp ((Kp.refl (some a.block) w).setCell (.inl rfl) u) (by intro e; injection e with e; exact ha e.symm)
def hasB (k : Int) : Bool := k == 1 || k == 2 || k == 3 || k == 4 || k == 6
def hasS (k : Int) : Bool := k == 3 || k == 4 || k == 5
def hasV (k : Int) : Bool := k == 3 || k == 5
def hasA (k : Int) : Bool := k == 2
set_option maxHeartbeats 2000000 in
theorem partsOf_any (k : Int) (w : World) (hk : Kinds w) :
  Calls Tryz.prog 77 #[I6 k] w fun e w' => e = .returned (.agg #[.bool (hasB k), .bool (hasS k), .bool (hasV k), .bool (hasA k)]) ∧ Below w.heap.size w w' := by
 have h0 := hk.1
 have hne : (0 : Nat) ≠ w.heap.size := by omega
 cases h1 : withinB k 1 6
 ·have hn := withinB_false h1
  go_enter Tryz.func77, Tryz.ntmps77
  go_wp2_with (go_at_call 110; refine (rightKind_any _ _).mono ?_; rintro e w' ⟨rfl, rfl⟩)
  refine bodyPost_ret (v := .agg #[.bool false, .bool false, .bool false, .bool false]) (by simp [results, Tryz.results77, go_sem]) rfl ⟨?_, ?_⟩
  ·have e1 : hasB k = false := by simp [hasB]; omega
   have e2 : hasS k = false := by simp [hasS]; omega
   have e3 : hasV k = false := by simp [hasV]; omega
   have e4 : hasA k = false := by simp [hasA]; omega
   rw [e1, e2, e3, e4]
  ·exact (Below.refl _ _).alloc (Nat.le_refl _) _
 ·obtain ⟨ha, hb⟩ := withinB_true h1
  have hT := fun j hj => (hk.alloc (.cells #[.bool false, .bool false, .bool false, .bool false] 139)).2 j hj
  rcases (show k = 1 ∨ k = 2 ∨ k = 3 ∨ k = 4 ∨ k = 5 ∨ k = 6 from by omega) with rfl | rfl | rfl | rfl | rfl | rfl
  ·have c0 : _ = some (Value.bool true) := hT 4 (by decide)
   have c1 : _ = some (Value.bool false) := hT 5 (by decide)
   have c2 : _ = some (Value.bool false) := hT 6 (by decide)
   have c3 : _ = some (Value.bool false) := hT 7 (by decide)
   clear hT
   go_enter Tryz.func77, Tryz.ntmps77
   go_wp2_with (go_at_call 110; refine (rightKind_any _ _).mono ?_; rintro e w' ⟨rfl, rfl⟩)
   refine bodyPost_ret (v := .agg #[.bool true, .bool false, .bool false, .bool false]) (by simp [results, Tryz.results77, go_sem]) rfl ⟨rfl, ?_⟩
   exact (Below.refl _ _).alloc (Nat.le_refl _) _
  ·have c0 : _ = some (Value.bool true) := hT 8 (by decide)
   have c1 : _ = some (Value.bool false) := hT 9 (by decide)
   have c2 : _ = some (Value.bool false) := hT 10 (by decide)
   have c3 : _ = some (Value.bool true) := hT 11 (by decide)
   clear hT
   go_enter Tryz.func77, Tryz.ntmps77
   go_wp2_with (go_at_call 110; refine (rightKind_any _ _).mono ?_; rintro e w' ⟨rfl, rfl⟩)
   refine bodyPost_ret (v := .agg #[.bool true, .bool false, .bool false, .bool true]) (by simp [results, Tryz.results77, go_sem]) rfl ⟨rfl, ?_⟩
   exact (Below.refl _ _).alloc (Nat.le_refl _) _
  ·have c0 : _ = some (Value.bool true) := hT 12 (by decide)
   have c1 : _ = some (Value.bool true) := hT 13 (by decide)
   have c2 : _ = some (Value.bool true) := hT 14 (by decide)
   have c3 : _ = some (Value.bool false) := hT 15 (by decide)
   clear hT
   go_enter Tryz.func77, Tryz.ntmps77
   go_wp2_with (go_at_call 110; refine (rightKind_any _ _).mono ?_; rintro e w' ⟨rfl, rfl⟩)
   refine bodyPost_ret (v := .agg #[.bool true, .bool true, .bool true, .bool false]) (by simp [results, Tryz.results77, go_sem]) rfl ⟨rfl, ?_⟩
   exact (Below.refl _ _).alloc (Nat.le_refl _) _
  ·have c0 : _ = some (Value.bool true) := hT 16 (by decide)
   have c1 : _ = some (Value.bool true) := hT 17 (by decide)
   have c2 : _ = some (Value.bool false) := hT 18 (by decide)
   have c3 : _ = some (Value.bool false) := hT 19 (by decide)
   clear hT
   go_enter Tryz.func77, Tryz.ntmps77
   go_wp2_with (go_at_call 110; refine (rightKind_any _ _).mono ?_; rintro e w' ⟨rfl, rfl⟩)
   refine bodyPost_ret (v := .agg #[.bool true, .bool true, .bool false, .bool false]) (by simp [results, Tryz.results77, go_sem]) rfl ⟨rfl, ?_⟩
   exact (Below.refl _ _).alloc (Nat.le_refl _) _
  ·have c0 : _ = some (Value.bool false) := hT 20 (by decide)
   have c1 : _ = some (Value.bool true) := hT 21 (by decide)
   have c2 : _ = some (Value.bool true) := hT 22 (by decide)
   have c3 : _ = some (Value.bool false) := hT 23 (by decide)
   clear hT
   go_enter Tryz.func77, Tryz.ntmps77
   go_wp2_with (go_at_call 110; refine (rightKind_any _ _).mono ?_; rintro e w' ⟨rfl, rfl⟩)
   refine bodyPost_ret (v := .agg #[.bool false, .bool true, .bool true, .bool false]) (by simp [results, Tryz.results77, go_sem]) rfl ⟨rfl, ?_⟩
   exact (Below.refl _ _).alloc (Nat.le_refl _) _
  ·have c0 : _ = some (Value.bool true) := hT 24 (by decide)
   have c1 : _ = some (Value.bool false) := hT 25 (by decide)
   have c2 : _ = some (Value.bool false) := hT 26 (by decide)
   have c3 : _ = some (Value.bool false) := hT 27 (by decide)
   clear hT
   go_enter Tryz.func77, Tryz.ntmps77
   go_wp2_with (go_at_call 110; refine (rightKind_any _ _).mono ?_; rintro e w' ⟨rfl, rfl⟩)
   refine bodyPost_ret (v := .agg #[.bool true, .bool false, .bool false, .bool false]) (by simp [results, Tryz.results77, go_sem]) rfl ⟨rfl, ?_⟩
   exact (Below.refl _ _).alloc (Nat.le_refl _) _
def Rs.m1 (s : Rs) : Rs := ((s.adv 1).adv 1).adv 1
def Rs.bal (k : Int) (s : Rs) : Int := if hasB k then s.num 2 else 0
def Rs.balAft (k : Int) (s : Rs) : Rs := if hasB k then s.adv 2 else s
def Rs.slo (k : Int) (s : Rs) : Int := if hasS k then s.num 1 else 0
def Rs.sloAft (k : Int) (s : Rs) : Rs := if hasS k then s.adv 1 else s
def Rs.vau (k : Int) (s : Rs) : Pst := if hasV k then s.val else ⟨0, 0, 0, S []⟩
def Rs.vauAft (k : Int) (s : Rs) : Rs := if hasV k then s.aft else s
def Rs.acc (k : Int) (s : Rs) : List Vt := if hasA k then Rs.vts (s.num 1).toNat (s.adv 1) else []
def Rs.accAft (k : Int) (s : Rs) : Rs := if hasA k then Rs.vtsAft (s.num 1).toNat (s.adv 1) else s
def Rs.msg (s : Rs) : Ms := ⟨s.num 1, (s.adv 1).num 1, ((s.adv 1).adv 1).num 1, s.m1.bal (s.num 1), (s.m1.balAft (s.num 1)).slo (s.num 1), ((s.m1.balAft (s.num 1)).sloAft (s.num 1)).vau (s.num 1),
 (((s.m1.balAft (s.num 1)).sloAft (s.num 1)).vauAft (s.num 1)).acc (s.num 1)⟩
def Rs.msgAft (s : Rs) : Rs := (((s.m1.balAft (s.num 1)).sloAft (s.num 1)).vauAft (s.num 1)).accAft (s.num 1)
end
section
open Go.RowKit
theorem owns_slice {w : World} {base : Nat} {e : TypeId} {size : Nat} {v : Value} {n : Nat} {xs : List Value} (h : w.ownsRow base e size v n xs) : ∃ ao k cap, v = .slice ao k cap := by
 rcases h.2 with ⟨e, _⟩ | ⟨g, cap, cur, e, _⟩
 ·exact ⟨_, _, _, e⟩
 ·exact ⟨_, _, _, e⟩
theorem owns_mono {w : World} {base base' : Nat} {e : TypeId} {size : Nat} {v : Value} {n : Nat} {xs : List Value} (h : w.ownsRow base e size v n xs) (hb : base' ≤ base) : w.ownsRow base' e size v n xs := by
 refine ⟨h.1, ?_⟩
 rcases h.2 with h2 | ⟨g, cap, cur, a1, a2, a3⟩
 ·exact .inl h2
 ·exact .inr ⟨g, cap, cur, a1, Nat.le_trans hb a2, a3⟩
theorem m1_len (s : Rs) : s.m1.l.length ≤ s.l.length := by
 have h1 := adv_len 1 s
 have h2 := adv_len 1 (s.adv 1)
 have h3 := adv_len 1 ((s.adv 1).adv 1)
 unfold Rs.m1; omega
set_option maxHeartbeats 4000000 in
theorem message_a (r : Nat) (s : Rs) (w : World) (hr : Rd w r s) (hl : s.l.length ≤ 9223372036854775807) (hk : Kinds w) (hr0 : r ≠ 0)
  (h1 : hasB (s.num 1) = true) (h2 : hasS (s.num 1) = false) (h3 : hasV (s.num 1) = false) (h4 : hasA (s.num 1) = false) :
  Calls Tryz.prog 84 #[P6 r] w fun e w' => ∃ v, e = .returned (.agg #[I6 (s.num 1), I6 ((s.adv 1).num 1), I6 (((s.adv 1).adv 1).num 1), I6 ((s.m1).num 2), I6 (0), I6 0, I6 0, I6 0, .string (S []), v]) ∧
   w'.ownsRow w.heap.size 53 6 v ([] : List Vt).length (vcells ([] : List Vt)) ∧ Rd w' r ((s.m1).adv 2) ∧ Kp (some r) (some r) w w' := by
 have hlt := lt_of_block hr
 have hw0 := hk.1
 have l1 := adv_len 1 s
 have l2 := adv_len 1 (s.adv 1)
 have l3 := m1_len s
 have e3 : ((s.adv 1).adv 1).adv 1 = s.m1 := rfl
 have l4 := adv_len 2 (s.m1)
 go_enter Tryz.func84, Tryz.ntmps84
 go_wp2_with fail
 refine (num_any r 1 s _ ((hr.alloc _).alloc _) hl (by decide)).mono ?_
 rintro e w1 ⟨rfl, hr1, hk1⟩
 have hK1 := (((Kp.refl (some r) w).alloc _).alloc _).trans hk1
 have hm1 := blk_kp hk1 (blk_new _ _) (by simp; omega)
 simp only [World.size_alloc] at hm1
 have hq1 := blk_kp hk1 (blk_alloc (blk_new _ _) _) (by simp; omega)
 clear hk1
 have hc := blk_cell hm1
 have hf := blk_free hm1
 go_wp2_with fail
 clear hc hf
 have M0 := blk_set hm1 0 (I6 (s.num 1))
 have Q0 := blk_set_other hq1 (a := (A6 (w.heap.size + 1) 0)) (by simp) (I6 (s.num 1))
 have R0 := Rd.set hr1 (a := (A6 (w.heap.size + 1) 0)) (by simp; omega) (I6 (s.num 1))
 have K0 := Kp.setCell hK1 (a := (A6 (w.heap.size + 1) 0)) (.inr (by simp)) (I6 (s.num 1))
 refine (num_any r 1 (s.adv 1) _ R0 (by omega) (by decide)).mono ?_
 rintro e w2 ⟨rfl, hr2, hk2⟩
 have hK2 := K0.trans hk2
 have hm2 := blk_kp hk2 M0 (by simp; omega)
 have hq2 := blk_kp hk2 Q0 (by simp; omega)
 clear hk2 hm1 hq1 hr1 hK1 M0 Q0 R0 K0
 have hc := blk_cell hm2
 have hf := blk_free hm2
 go_wp2_with fail
 clear hc hf
 have M0 := blk_set hm2 1 (I6 ((s.adv 1).num 1))
 have Q0 := blk_set_other hq2 (a := (A6 (w.heap.size + 1) 1)) (by simp) (I6 ((s.adv 1).num 1))
 have R0 := Rd.set hr2 (a := (A6 (w.heap.size + 1) 1)) (by simp; omega) (I6 ((s.adv 1).num 1))
 have K0 := Kp.setCell hK2 (a := (A6 (w.heap.size + 1) 1)) (.inr (by simp)) (I6 ((s.adv 1).num 1))
 refine (num_any r 1 ((s.adv 1).adv 1) _ R0 (by omega) (by decide)).mono ?_
 rintro e w3 ⟨rfl, hr3, hk3⟩
 have hK3 := K0.trans hk3
 have hm3 := blk_kp hk3 M0 (by simp; omega)
 have hq3 := blk_kp hk3 Q0 (by simp; omega)
 clear hk3 hm2 hq2 hr2 hK2 M0 Q0 R0 K0
 rw [e3] at hr3
 have hc := blk_cell hm3
 have hf := blk_free hm3
 go_wp2_with fail
 clear hc hf
 have M0 := blk_set hm3 2 (I6 (((s.adv 1).adv 1).num 1))
 have Q0 := blk_set_other hq3 (a := (A6 (w.heap.size + 1) 2)) (by simp) (I6 (((s.adv 1).adv 1).num 1))
 have R0 := Rd.set hr3 (a := (A6 (w.heap.size + 1) 2)) (by simp; omega) (I6 (((s.adv 1).adv 1).num 1))
 have K0 := Kp.setCell hK3 (a := (A6 (w.heap.size + 1) 2)) (.inr (by simp)) (I6 (((s.adv 1).adv 1).num 1))
 have hkn := hk.kp K0 (by simp; omega)
 refine (partsOf_any _ _ hkn).mono ?_
 rintro e w4 ⟨rfl, hb4⟩
 rw [h1, h2, h3, h4]
 have hK4 := (K0.below hb4).alloc (.cells #[.bool true, .bool false, .bool false, .bool false] 139)
 have hm4 := blk_alloc (blk_below hb4 M0) (.cells #[.bool true, .bool false, .bool false, .bool false] 139)
 have hq4 := blk_alloc (blk_below hb4 Q0) (.cells #[.bool true, .bool false, .bool false, .bool false] 139)
 have hr4 := (R0.below hb4).alloc (.cells #[.bool true, .bool false, .bool false, .bool false] 139)
 have hh4 := blk_new w4 (.cells #[.bool true, .bool false, .bool false, .bool false] 139)
 have hz4 := lt_of_block (blk_below hb4 M0)
 clear hb4 hkn hm3 hq3 hr3 hK3 M0 Q0 R0 K0
 have hc := blk_cell hm4
 have hf := blk_free hm4
 have hhc := blk_cell hh4
 go_wp2_with fail
 clear hc hf hhc
 refine (num_any r 2 (s.m1) _ hr4 (by omega) (by decide)).mono ?_
 rintro e w5 ⟨rfl, hr5, hk5⟩
 have hK5 := hK4.trans hk5
 have hm5 := blk_kp hk5 hm4 (by simp; omega)
 have hq5 := blk_kp hk5 hq4 (by simp; omega)
 have hh5 := blk_kp hk5 hh4 (by simp; omega)
 clear hk5 hm4 hq4 hr4 hK4 hh4
 have hc := blk_cell hm5
 have hf := blk_free hm5
 have hhc := blk_cell hh5
 have hqc := blk_cell hq5
 have hqf := blk_free hq5
 go_wp2
 refine bodyPost_ret (v := .agg #[I6 (s.num 1), I6 ((s.adv 1).num 1), I6 (((s.adv 1).adv 1).num 1), I6 ((s.m1).num 2), I6 (0), I6 0, I6 0, I6 0, .string (S []), .slice none 0 0]) (by simp [results, Tryz.results84, go_sem, hqc, hqf, S]) rfl ⟨.slice none 0 0, rfl, World.ownsRow_nil _ _ _ _, ?_, ?_⟩
 ·repeat refine Rd.set ?_ (by simp; omega) _
  exact hr5
 ·repeat refine Kp.setCell ?_ (.inr (by simp)) _
  exact hK5
set_option maxHeartbeats 4000000 in
theorem message_b (r : Nat) (s : Rs) (w : World) (hr : Rd w r s) (hl : s.l.length ≤ 9223372036854775807) (hk : Kinds w) (hr0 : r ≠ 0)
  (h1 : hasB (s.num 1) = true) (h2 : hasS (s.num 1) = false) (h3 : hasV (s.num 1) = false) (h4 : hasA (s.num 1) = true) :
  Calls Tryz.prog 84 #[P6 r] w fun e w' => ∃ v, e = .returned (.agg #[I6 (s.num 1), I6 ((s.adv 1).num 1), I6 (((s.adv 1).adv 1).num 1), I6 ((s.m1).num 2), I6 (0), I6 0, I6 0, I6 0, .string (S []), v]) ∧
   w'.ownsRow w.heap.size 53 6 v (Rs.vts (((s.m1).adv 2).num 1).toNat (((s.m1).adv 2).adv 1)).length (vcells (Rs.vts (((s.m1).adv 2).num 1).toNat (((s.m1).adv 2).adv 1))) ∧ Rd w' r ((Rs.vtsAft (((s.m1).adv 2).num 1).toNat (((s.m1).adv 2).adv 1))) ∧ Kp (some r) (some r) w w' := by
 have hlt := lt_of_block hr
 have hw0 := hk.1
 have l1 := adv_len 1 s
 have l2 := adv_len 1 (s.adv 1)
 have l3 := m1_len s
 have e3 : ((s.adv 1).adv 1).adv 1 = s.m1 := rfl
 have l4 := adv_len 2 (s.m1)
 go_enter Tryz.func84, Tryz.ntmps84
 go_wp2_with fail
 refine (num_any r 1 s _ ((hr.alloc _).alloc _) hl (by decide)).mono ?_
 rintro e w1 ⟨rfl, hr1, hk1⟩
 have hK1 := (((Kp.refl (some r) w).alloc _).alloc _).trans hk1
 have hm1 := blk_kp hk1 (blk_new _ _) (by simp; omega)
 simp only [World.size_alloc] at hm1
 have hq1 := blk_kp hk1 (blk_alloc (blk_new _ _) _) (by simp; omega)
 clear hk1
 have hc := blk_cell hm1
 have hf := blk_free hm1
 go_wp2_with fail
 clear hc hf
 have M0 := blk_set hm1 0 (I6 (s.num 1))
 have Q0 := blk_set_other hq1 (a := (A6 (w.heap.size + 1) 0)) (by simp) (I6 (s.num 1))
 have R0 := Rd.set hr1 (a := (A6 (w.heap.size + 1) 0)) (by simp; omega) (I6 (s.num 1))
 have K0 := Kp.setCell hK1 (a := (A6 (w.heap.size + 1) 0)) (.inr (by simp)) (I6 (s.num 1))
 refine (num_any r 1 (s.adv 1) _ R0 (by omega) (by decide)).mono ?_
 rintro e w2 ⟨rfl, hr2, hk2⟩
 have hK2 := K0.trans hk2
 have hm2 := blk_kp hk2 M0 (by simp; omega)
 have hq2 := blk_kp hk2 Q0 (by simp; omega)
 clear hk2 hm1 hq1 hr1 hK1 M0 Q0 R0 K0
 have hc := blk_cell hm2
 have hf := blk_free hm2
 go_wp2_with fail
 clear hc hf
 have M0 := blk_set hm2 1 (I6 ((s.adv 1).num 1))
 have Q0 := blk_set_other hq2 (a := (A6 (w.heap.size + 1) 1)) (by simp) (I6 ((s.adv 1).num 1))
 have R0 := Rd.set hr2 (a := (A6 (w.heap.size + 1) 1)) (by simp; omega) (I6 ((s.adv 1).num 1))
 have K0 := Kp.setCell hK2 (a := (A6 (w.heap.size + 1) 1)) (.inr (by simp)) (I6 ((s.adv 1).num 1))
 refine (num_any r 1 ((s.adv 1).adv 1) _ R0 (by omega) (by decide)).mono ?_
 rintro e w3 ⟨rfl, hr3, hk3⟩
 have hK3 := K0.trans hk3
 have hm3 := blk_kp hk3 M0 (by simp; omega)
 have hq3 := blk_kp hk3 Q0 (by simp; omega)
 clear hk3 hm2 hq2 hr2 hK2 M0 Q0 R0 K0
 rw [e3] at hr3
 have hc := blk_cell hm3
 have hf := blk_free hm3
 go_wp2_with fail
 clear hc hf
 have M0 := blk_set hm3 2 (I6 (((s.adv 1).adv 1).num 1))
 have Q0 := blk_set_other hq3 (a := (A6 (w.heap.size + 1) 2)) (by simp) (I6 (((s.adv 1).adv 1).num 1))
 have R0 := Rd.set hr3 (a := (A6 (w.heap.size + 1) 2)) (by simp; omega) (I6 (((s.adv 1).adv 1).num 1))
 have K0 := Kp.setCell hK3 (a := (A6 (w.heap.size + 1) 2)) (.inr (by simp)) (I6 (((s.adv 1).adv 1).num 1))
 have hkn := hk.kp K0 (by simp; omega)
 refine (partsOf_any _ _ hkn).mono ?_
 rintro e w4 ⟨rfl, hb4⟩
 rw [h1, h2, h3, h4]
 have hK4 := (K0.below hb4).alloc (.cells #[.bool true, .bool false, .bool false, .bool true] 139)
 have hm4 := blk_alloc (blk_below hb4 M0) (.cells #[.bool true, .bool false, .bool false, .bool true] 139)
 have hq4 := blk_alloc (blk_below hb4 Q0) (.cells #[.bool true, .bool false, .bool false, .bool true] 139)
 have hr4 := (R0.below hb4).alloc (.cells #[.bool true, .bool false, .bool false, .bool true] 139)
 have hh4 := blk_new w4 (.cells #[.bool true, .bool false, .bool false, .bool true] 139)
 have hz4 := lt_of_block (blk_below hb4 M0)
 clear hb4 hkn hm3 hq3 hr3 hK3 M0 Q0 R0 K0
 have hc := blk_cell hm4
 have hf := blk_free hm4
 have hhc := blk_cell hh4
 go_wp2_with fail
 clear hc hf hhc
 refine (num_any r 2 (s.m1) _ hr4 (by omega) (by decide)).mono ?_
 rintro e w5 ⟨rfl, hr5, hk5⟩
 have hK5 := hK4.trans hk5
 have hm5 := blk_kp hk5 hm4 (by simp; omega)
 have hq5 := blk_kp hk5 hq4 (by simp; omega)
 have hh5 := blk_kp hk5 hh4 (by simp; omega)
 clear hk5 hm4 hq4 hr4 hK4 hh4
 have hc := blk_cell hm5
 have hf := blk_free hm5
 have hhc := blk_cell hh5
 go_wp2_with fail
 clear hc hf hhc
 have M0 := blk_set hm5 3 (I6 ((s.m1).num 2))
 have Q0 := blk_set_other hq5 (a := (A6 (w.heap.size + 1) 3)) (by simp) (I6 ((s.m1).num 2))
 have H0 := blk_set_other hh5 (a := (A6 (w.heap.size + 1) 3)) (by simp; omega) (I6 ((s.m1).num 2))
 have R0 := Rd.set hr5 (a := (A6 (w.heap.size + 1) 3)) (by simp; omega) (I6 ((s.m1).num 2))
 have K0 := Kp.setCell hK5 (a := (A6 (w.heap.size + 1) 3)) (.inr (by simp)) (I6 ((s.m1).num 2))
 have hZ5 : w.heap.size + 2 ≤ w5.heap.size := lt_of_block hm5
 refine (votes_any r ((s.m1).adv 2) _ R0 (by omega)).mono ?_
 rintro e w6 ⟨va, rfl, hown, hr6, hk6⟩
 have hK6 := K0.trans hk6
 have hm6 := blk_kp hk6 M0 (by simp; omega)
 have hq6 := blk_kp hk6 Q0 (by simp; omega)
 have hh6 := blk_kp hk6 H0 (by simp; omega)
 clear hk6 hm5 hq5 hr5 hK5 hh5 M0 Q0 R0 K0 H0
 have hc := blk_cell hm6
 have hf := blk_free hm6
 have hhc := blk_cell hh6
 have hqc := blk_cell hq6
 have hqf := blk_free hq6
 obtain ⟨ao, an, ac, rfl⟩ := owns_slice hown
 have hmlt : w.heap.size + 2 ≤ w5.heap.size := hZ5
 have hn0 : (Value.slice ao an ac).ownBlock ≠ some w.heap.size := fun e => by have := (hown.lt _ e).1; simp at this; omega
 have hn1 : (Value.slice ao an ac).ownBlock ≠ some (w.heap.size + 1) := fun e => by have := (hown.lt _ e).1; simp at this; omega
 have hown1 := owns_mono hown (base' := w.heap.size) (by simp; omega)
 clear hown
 go_wp2
 refine bodyPost_ret (v := .agg #[I6 (s.num 1), I6 ((s.adv 1).num 1), I6 (((s.adv 1).adv 1).num 1), I6 ((s.m1).num 2), I6 (0), I6 0, I6 0, I6 0, .string (S []), .slice ao an ac]) (by simp [results, Tryz.results84, go_sem, hqc, hqf, S]) rfl ⟨.slice ao an ac, rfl, ?_, ?_, ?_⟩
 ·rw [vts_length]
  iterate 11 refine ownsRow_setCell_other ?_ (by first | exact hn0 | exact hn1) _
  exact hown1
 ·repeat refine Rd.set ?_ (by simp; omega) _
  exact hr6
 ·repeat refine Kp.setCell ?_ (.inr (by simp)) _
  exact hK6
set_option maxHeartbeats 4000000 in
theorem message_c (r : Nat) (s : Rs) (w : World) (hr : Rd w r s) (hl : s.l.length ≤ 9223372036854775807) (hk : Kinds w) (hr0 : r ≠ 0)
  (h1 : hasB (s.num 1) = true) (h2 : hasS (s.num 1) = true) (h3 : hasV (s.num 1) = true) (h4 : hasA (s.num 1) = false) :
  Calls Tryz.prog 84 #[P6 r] w fun e w' => ∃ v, e = .returned (.agg #[I6 (s.num 1), I6 ((s.adv 1).num 1), I6 (((s.adv 1).adv 1).num 1), I6 ((s.m1).num 2), I6 (((s.m1).adv 2).num 1), I6 (((s.m1).adv 2).adv 1).val.c, I6 (((s.m1).adv 2).adv 1).val.q, I6 (((s.m1).adv 2).adv 1).val.h, .string (((s.m1).adv 2).adv 1).val.t, v]) ∧
   w'.ownsRow w.heap.size 53 6 v ([] : List Vt).length (vcells ([] : List Vt)) ∧ Rd w' r ((((s.m1).adv 2).adv 1).aft) ∧ Kp (some r) (some r) w w' := by
 have hlt := lt_of_block hr
 have hw0 := hk.1
 have l1 := adv_len 1 s
 have l2 := adv_len 1 (s.adv 1)
 have l3 := m1_len s
 have e3 : ((s.adv 1).adv 1).adv 1 = s.m1 := rfl
 have l4 := adv_len 2 (s.m1)
 have l5 := adv_len 1 ((s.m1).adv 2)
 have l6 := aft_len (((s.m1).adv 2).adv 1)
 go_enter Tryz.func84, Tryz.ntmps84
 go_wp2_with fail
 refine (num_any r 1 s _ ((hr.alloc _).alloc _) hl (by decide)).mono ?_
 rintro e w1 ⟨rfl, hr1, hk1⟩
 have hK1 := (((Kp.refl (some r) w).alloc _).alloc _).trans hk1
 have hm1 := blk_kp hk1 (blk_new _ _) (by simp; omega)
 simp only [World.size_alloc] at hm1
 have hq1 := blk_kp hk1 (blk_alloc (blk_new _ _) _) (by simp; omega)
 clear hk1
 have hc := blk_cell hm1
 have hf := blk_free hm1
 go_wp2_with fail
 clear hc hf
 have M0 := blk_set hm1 0 (I6 (s.num 1))
 have Q0 := blk_set_other hq1 (a := (A6 (w.heap.size + 1) 0)) (by simp) (I6 (s.num 1))
 have R0 := Rd.set hr1 (a := (A6 (w.heap.size + 1) 0)) (by simp; omega) (I6 (s.num 1))
 have K0 := Kp.setCell hK1 (a := (A6 (w.heap.size + 1) 0)) (.inr (by simp)) (I6 (s.num 1))
 refine (num_any r 1 (s.adv 1) _ R0 (by omega) (by decide)).mono ?_
 rintro e w2 ⟨rfl, hr2, hk2⟩
 have hK2 := K0.trans hk2
 have hm2 := blk_kp hk2 M0 (by simp; omega)
 have hq2 := blk_kp hk2 Q0 (by simp; omega)
 clear hk2 hm1 hq1 hr1 hK1 M0 Q0 R0 K0
 have hc := blk_cell hm2
 have hf := blk_free hm2
 go_wp2_with fail
 clear hc hf
 have M0 := blk_set hm2 1 (I6 ((s.adv 1).num 1))
 have Q0 := blk_set_other hq2 (a := (A6 (w.heap.size + 1) 1)) (by simp) (I6 ((s.adv 1).num 1))
 have R0 := Rd.set hr2 (a := (A6 (w.heap.size + 1) 1)) (by simp; omega) (I6 ((s.adv 1).num 1))
 have K0 := Kp.setCell hK2 (a := (A6 (w.heap.size + 1) 1)) (.inr (by simp)) (I6 ((s.adv 1).num 1))
 refine (num_any r 1 ((s.adv 1).adv 1) _ R0 (by omega) (by decide)).mono ?_
 rintro e w3 ⟨rfl, hr3, hk3⟩
 have hK3 := K0.trans hk3
 have hm3 := blk_kp hk3 M0 (by simp; omega)
 have hq3 := blk_kp hk3 Q0 (by simp; omega)
 clear hk3 hm2 hq2 hr2 hK2 M0 Q0 R0 K0
 rw [e3] at hr3
 have hc := blk_cell hm3
 have hf := blk_free hm3
 go_wp2_with fail
 clear hc hf
 have M0 := blk_set hm3 2 (I6 (((s.adv 1).adv 1).num 1))
 have Q0 := blk_set_other hq3 (a := (A6 (w.heap.size + 1) 2)) (by simp) (I6 (((s.adv 1).adv 1).num 1))
 have R0 := Rd.set hr3 (a := (A6 (w.heap.size + 1) 2)) (by simp; omega) (I6 (((s.adv 1).adv 1).num 1))
 have K0 := Kp.setCell hK3 (a := (A6 (w.heap.size + 1) 2)) (.inr (by simp)) (I6 (((s.adv 1).adv 1).num 1))
 have hkn := hk.kp K0 (by simp; omega)
 refine (partsOf_any _ _ hkn).mono ?_
 rintro e w4 ⟨rfl, hb4⟩
 rw [h1, h2, h3, h4]
 have hK4 := (K0.below hb4).alloc (.cells #[.bool true, .bool true, .bool true, .bool false] 139)
 have hm4 := blk_alloc (blk_below hb4 M0) (.cells #[.bool true, .bool true, .bool true, .bool false] 139)
 have hq4 := blk_alloc (blk_below hb4 Q0) (.cells #[.bool true, .bool true, .bool true, .bool false] 139)
 have hr4 := (R0.below hb4).alloc (.cells #[.bool true, .bool true, .bool true, .bool false] 139)
 have hh4 := blk_new w4 (.cells #[.bool true, .bool true, .bool true, .bool false] 139)
 have hz4 := lt_of_block (blk_below hb4 M0)
 clear hb4 hkn hm3 hq3 hr3 hK3 M0 Q0 R0 K0
 have hc := blk_cell hm4
 have hf := blk_free hm4
 have hhc := blk_cell hh4
 go_wp2_with fail
 clear hc hf hhc
 refine (num_any r 2 (s.m1) _ hr4 (by omega) (by decide)).mono ?_
 rintro e w5 ⟨rfl, hr5, hk5⟩
 have hK5 := hK4.trans hk5
 have hm5 := blk_kp hk5 hm4 (by simp; omega)
 have hq5 := blk_kp hk5 hq4 (by simp; omega)
 have hh5 := blk_kp hk5 hh4 (by simp; omega)
 clear hk5 hm4 hq4 hr4 hK4 hh4
 have hc := blk_cell hm5
 have hf := blk_free hm5
 have hhc := blk_cell hh5
 go_wp2_with fail
 clear hc hf hhc
 have M0 := blk_set hm5 3 (I6 ((s.m1).num 2))
 have Q0 := blk_set_other hq5 (a := (A6 (w.heap.size + 1) 3)) (by simp) (I6 ((s.m1).num 2))
 have H0 := blk_set_other hh5 (a := (A6 (w.heap.size + 1) 3)) (by simp; omega) (I6 ((s.m1).num 2))
 have R0 := Rd.set hr5 (a := (A6 (w.heap.size + 1) 3)) (by simp; omega) (I6 ((s.m1).num 2))
 have K0 := Kp.setCell hK5 (a := (A6 (w.heap.size + 1) 3)) (.inr (by simp)) (I6 ((s.m1).num 2))
 refine (num_any r 1 ((s.m1).adv 2) _ R0 (by omega) (by decide)).mono ?_
 rintro e w6 ⟨rfl, hr6, hk6⟩
 have hK6 := K0.trans hk6
 have hm6 := blk_kp hk6 M0 (by simp; omega)
 have hq6 := blk_kp hk6 Q0 (by simp; omega)
 have hh6 := blk_kp hk6 H0 (by simp; omega)
 clear hk6 hm5 hq5 hr5 hK5 hh5 M0 Q0 R0 K0 H0
 have hc := blk_cell hm6
 have hf := blk_free hm6
 have hhc := blk_cell hh6
 go_wp2_with fail
 clear hc hf hhc
 have M0 := blk_set hm6 4 (I6 (((s.m1).adv 2).num 1))
 have Q0 := blk_set_other hq6 (a := (A6 (w.heap.size + 1) 4)) (by simp) (I6 (((s.m1).adv 2).num 1))
 have H0 := blk_set_other hh6 (a := (A6 (w.heap.size + 1) 4)) (by simp; omega) (I6 (((s.m1).adv 2).num 1))
 have R0 := Rd.set hr6 (a := (A6 (w.heap.size + 1) 4)) (by simp; omega) (I6 (((s.m1).adv 2).num 1))
 have K0 := Kp.setCell hK6 (a := (A6 (w.heap.size + 1) 4)) (.inr (by simp)) (I6 (((s.m1).adv 2).num 1))
 refine (value_any r (((s.m1).adv 2).adv 1) _ R0 (by omega)).mono ?_
 rintro e w7 ⟨rfl, hr7, hk7⟩
 have hK7 := K0.trans hk7
 have hm7 := blk_kp hk7 M0 (by simp; omega)
 have hq7 := blk_kp hk7 Q0 (by simp; omega)
 have hh7 := blk_kp hk7 H0 (by simp; omega)
 clear hk7 hm6 hq6 hr6 hK6 hh6 M0 Q0 R0 K0 H0
 have hc := blk_cell hm7
 have hf := blk_free hm7
 have hhc := blk_cell hh7
 have hqc := blk_cell hq7
 have hqf := blk_free hq7
 go_wp2
 refine bodyPost_ret (v := .agg #[I6 (s.num 1), I6 ((s.adv 1).num 1), I6 (((s.adv 1).adv 1).num 1), I6 ((s.m1).num 2), I6 (((s.m1).adv 2).num 1), I6 (((s.m1).adv 2).adv 1).val.c, I6 (((s.m1).adv 2).adv 1).val.q, I6 (((s.m1).adv 2).adv 1).val.h, .string (((s.m1).adv 2).adv 1).val.t, .slice none 0 0]) (by simp [results, Tryz.results84, go_sem, hqc, hqf, S]) rfl ⟨.slice none 0 0, rfl, World.ownsRow_nil _ _ _ _, ?_, ?_⟩
 ·repeat refine Rd.set ?_ (by simp; omega) _
  exact hr7
 ·repeat refine Kp.setCell ?_ (.inr (by simp)) _
  exact hK7
set_option maxHeartbeats 4000000 in
theorem message_d (r : Nat) (s : Rs) (w : World) (hr : Rd w r s) (hl : s.l.length ≤ 9223372036854775807) (hk : Kinds w) (hr0 : r ≠ 0)
  (h1 : hasB (s.num 1) = true) (h2 : hasS (s.num 1) = true) (h3 : hasV (s.num 1) = false) (h4 : hasA (s.num 1) = false) :
  Calls Tryz.prog 84 #[P6 r] w fun e w' => ∃ v, e = .returned (.agg #[I6 (s.num 1), I6 ((s.adv 1).num 1), I6 (((s.adv 1).adv 1).num 1), I6 ((s.m1).num 2), I6 (((s.m1).adv 2).num 1), I6 0, I6 0, I6 0, .string (S []), v]) ∧
   w'.ownsRow w.heap.size 53 6 v ([] : List Vt).length (vcells ([] : List Vt)) ∧ Rd w' r (((s.m1).adv 2).adv 1) ∧ Kp (some r) (some r) w w' := by
 have hlt := lt_of_block hr
 have hw0 := hk.1
 have l1 := adv_len 1 s
 have l2 := adv_len 1 (s.adv 1)
 have l3 := m1_len s
 have e3 : ((s.adv 1).adv 1).adv 1 = s.m1 := rfl
 have l4 := adv_len 2 (s.m1)
 have l5 := adv_len 1 ((s.m1).adv 2)
 go_enter Tryz.func84, Tryz.ntmps84
 go_wp2_with fail
 refine (num_any r 1 s _ ((hr.alloc _).alloc _) hl (by decide)).mono ?_
 rintro e w1 ⟨rfl, hr1, hk1⟩
 have hK1 := (((Kp.refl (some r) w).alloc _).alloc _).trans hk1
 have hm1 := blk_kp hk1 (blk_new _ _) (by simp; omega)
 simp only [World.size_alloc] at hm1
 have hq1 := blk_kp hk1 (blk_alloc (blk_new _ _) _) (by simp; omega)
 clear hk1
 have hc := blk_cell hm1
 have hf := blk_free hm1
 go_wp2_with fail
 clear hc hf
 have M0 := blk_set hm1 0 (I6 (s.num 1))
 have Q0 := blk_set_other hq1 (a := (A6 (w.heap.size + 1) 0)) (by simp) (I6 (s.num 1))
 have R0 := Rd.set hr1 (a := (A6 (w.heap.size + 1) 0)) (by simp; omega) (I6 (s.num 1))
 have K0 := Kp.setCell hK1 (a := (A6 (w.heap.size + 1) 0)) (.inr (by simp)) (I6 (s.num 1))
 refine (num_any r 1 (s.adv 1) _ R0 (by omega) (by decide)).mono ?_
 rintro e w2 ⟨rfl, hr2, hk2⟩
 have hK2 := K0.trans hk2
 have hm2 := blk_kp hk2 M0 (by simp; omega)
 have hq2 := blk_kp hk2 Q0 (by simp; omega)
 clear hk2 hm1 hq1 hr1 hK1 M0 Q0 R0 K0
 have hc := blk_cell hm2
 have hf := blk_free hm2
 go_wp2_with fail
 clear hc hf
 have M0 := blk_set hm2 1 (I6 ((s.adv 1).num 1))
 have Q0 := blk_set_other hq2 (a := (A6 (w.heap.size + 1) 1)) (by simp) (I6 ((s.adv 1).num 1))
 have R0 := Rd.set hr2 (a := (A6 (w.heap.size + 1) 1)) (by simp; omega) (I6 ((s.adv 1).num 1))
 have K0 := Kp.setCell hK2 (a := (A6 (w.heap.size + 1) 1)) (.inr (by simp)) (I6 ((s.adv 1).num 1))
 refine (num_any r 1 ((s.adv 1).adv 1) _ R0 (by omega) (by decide)).mono ?_
 rintro e w3 ⟨rfl, hr3, hk3⟩
 have hK3 := K0.trans hk3
 have hm3 := blk_kp hk3 M0 (by simp; omega)
 have hq3 := blk_kp hk3 Q0 (by simp; omega)
 clear hk3 hm2 hq2 hr2 hK2 M0 Q0 R0 K0
 rw [e3] at hr3
 have hc := blk_cell hm3
 have hf := blk_free hm3
 go_wp2_with fail
 clear hc hf
 have M0 := blk_set hm3 2 (I6 (((s.adv 1).adv 1).num 1))
 have Q0 := blk_set_other hq3 (a := (A6 (w.heap.size + 1) 2)) (by simp) (I6 (((s.adv 1).adv 1).num 1))
 have R0 := Rd.set hr3 (a := (A6 (w.heap.size + 1) 2)) (by simp; omega) (I6 (((s.adv 1).adv 1).num 1))
 have K0 := Kp.setCell hK3 (a := (A6 (w.heap.size + 1) 2)) (.inr (by simp)) (I6 (((s.adv 1).adv 1).num 1))
 have hkn := hk.kp K0 (by simp; omega)
 refine (partsOf_any _ _ hkn).mono ?_
 rintro e w4 ⟨rfl, hb4⟩
 rw [h1, h2, h3, h4]
 have hK4 := (K0.below hb4).alloc (.cells #[.bool true, .bool true, .bool false, .bool false] 139)
 have hm4 := blk_alloc (blk_below hb4 M0) (.cells #[.bool true, .bool true, .bool false, .bool false] 139)
 have hq4 := blk_alloc (blk_below hb4 Q0) (.cells #[.bool true, .bool true, .bool false, .bool false] 139)
 have hr4 := (R0.below hb4).alloc (.cells #[.bool true, .bool true, .bool false, .bool false] 139)
 have hh4 := blk_new w4 (.cells #[.bool true, .bool true, .bool false, .bool false] 139)
 have hz4 := lt_of_block (blk_below hb4 M0)
 clear hb4 hkn hm3 hq3 hr3 hK3 M0 Q0 R0 K0
 have hc := blk_cell hm4
 have hf := blk_free hm4
 have hhc := blk_cell hh4
 go_wp2_with fail
 clear hc hf hhc
 refine (num_any r 2 (s.m1) _ hr4 (by omega) (by decide)).mono ?_
 rintro e w5 ⟨rfl, hr5, hk5⟩
 have hK5 := hK4.trans hk5
 have hm5 := blk_kp hk5 hm4 (by simp; omega)
 have hq5 := blk_kp hk5 hq4 (by simp; omega)
 have hh5 := blk_kp hk5 hh4 (by simp; omega)
 clear hk5 hm4 hq4 hr4 hK4 hh4
 have hc := blk_cell hm5
 have hf := blk_free hm5
 have hhc := blk_cell hh5
 go_wp2_with fail
 clear hc hf hhc
 have M0 := blk_set hm5 3 (I6 ((s.m1).num 2))
 have Q0 := blk_set_other hq5 (a := (A6 (w.heap.size + 1) 3)) (by simp) (I6 ((s.m1).num 2))
 have H0 := blk_set_other hh5 (a := (A6 (w.heap.size + 1) 3)) (by simp; omega) (I6 ((s.m1).num 2))
 have R0 := Rd.set hr5 (a := (A6 (w.heap.size + 1) 3)) (by simp; omega) (I6 ((s.m1).num 2))
 have K0 := Kp.setCell hK5 (a := (A6 (w.heap.size + 1) 3)) (.inr (by simp)) (I6 ((s.m1).num 2))
 refine (num_any r 1 ((s.m1).adv 2) _ R0 (by omega) (by decide)).mono ?_
 rintro e w6 ⟨rfl, hr6, hk6⟩
 have hK6 := K0.trans hk6
 have hm6 := blk_kp hk6 M0 (by simp; omega)
 have hq6 := blk_kp hk6 Q0 (by simp; omega)
 have hh6 := blk_kp hk6 H0 (by simp; omega)
 clear hk6 hm5 hq5 hr5 hK5 hh5 M0 Q0 R0 K0 H0
 have hc := blk_cell hm6
 have hf := blk_free hm6
 have hhc := blk_cell hh6
 have hqc := blk_cell hq6
 have hqf := blk_free hq6
 go_wp2
 refine bodyPost_ret (v := .agg #[I6 (s.num 1), I6 ((s.adv 1).num 1), I6 (((s.adv 1).adv 1).num 1), I6 ((s.m1).num 2), I6 (((s.m1).adv 2).num 1), I6 0, I6 0, I6 0, .string (S []), .slice none 0 0]) (by simp [results, Tryz.results84, go_sem, hqc, hqf, S]) rfl ⟨.slice none 0 0, rfl, World.ownsRow_nil _ _ _ _, ?_, ?_⟩
 ·repeat refine Rd.set ?_ (by simp; omega) _
  exact hr6
 ·repeat refine Kp.setCell ?_ (.inr (by simp)) _
  exact hK6
set_option maxHeartbeats 4000000 in
theorem message_e (r : Nat) (s : Rs) (w : World) (hr : Rd w r s) (hl : s.l.length ≤ 9223372036854775807) (hk : Kinds w) (hr0 : r ≠ 0)
  (h1 : hasB (s.num 1) = false) (h2 : hasS (s.num 1) = true) (h3 : hasV (s.num 1) = true) (h4 : hasA (s.num 1) = false) :
  Calls Tryz.prog 84 #[P6 r] w fun e w' => ∃ v, e = .returned (.agg #[I6 (s.num 1), I6 ((s.adv 1).num 1), I6 (((s.adv 1).adv 1).num 1), I6 (0), I6 ((s.m1).num 1), I6 ((s.m1).adv 1).val.c, I6 ((s.m1).adv 1).val.q, I6 ((s.m1).adv 1).val.h, .string ((s.m1).adv 1).val.t, v]) ∧
   w'.ownsRow w.heap.size 53 6 v ([] : List Vt).length (vcells ([] : List Vt)) ∧ Rd w' r (((s.m1).adv 1).aft) ∧ Kp (some r) (some r) w w' := by
 have hlt := lt_of_block hr
 have hw0 := hk.1
 have l1 := adv_len 1 s
 have l2 := adv_len 1 (s.adv 1)
 have l3 := m1_len s
 have e3 : ((s.adv 1).adv 1).adv 1 = s.m1 := rfl
 have l4 := adv_len 1 (s.m1)
 have l5 := aft_len ((s.m1).adv 1)
 go_enter Tryz.func84, Tryz.ntmps84
 go_wp2_with fail
 refine (num_any r 1 s _ ((hr.alloc _).alloc _) hl (by decide)).mono ?_
 rintro e w1 ⟨rfl, hr1, hk1⟩
 have hK1 := (((Kp.refl (some r) w).alloc _).alloc _).trans hk1
 have hm1 := blk_kp hk1 (blk_new _ _) (by simp; omega)
 simp only [World.size_alloc] at hm1
 have hq1 := blk_kp hk1 (blk_alloc (blk_new _ _) _) (by simp; omega)
 clear hk1
 have hc := blk_cell hm1
 have hf := blk_free hm1
 go_wp2_with fail
 clear hc hf
 have M0 := blk_set hm1 0 (I6 (s.num 1))
 have Q0 := blk_set_other hq1 (a := (A6 (w.heap.size + 1) 0)) (by simp) (I6 (s.num 1))
 have R0 := Rd.set hr1 (a := (A6 (w.heap.size + 1) 0)) (by simp; omega) (I6 (s.num 1))
 have K0 := Kp.setCell hK1 (a := (A6 (w.heap.size + 1) 0)) (.inr (by simp)) (I6 (s.num 1))
 refine (num_any r 1 (s.adv 1) _ R0 (by omega) (by decide)).mono ?_
 rintro e w2 ⟨rfl, hr2, hk2⟩
 have hK2 := K0.trans hk2
 have hm2 := blk_kp hk2 M0 (by simp; omega)
 have hq2 := blk_kp hk2 Q0 (by simp; omega)
 clear hk2 hm1 hq1 hr1 hK1 M0 Q0 R0 K0
 have hc := blk_cell hm2
 have hf := blk_free hm2
 go_wp2_with fail
 clear hc hf
 have M0 := blk_set hm2 1 (I6 ((s.adv 1).num 1))
 have Q0 := blk_set_other hq2 (a := (A6 (w.heap.size + 1) 1)) (by simp) (I6 ((s.adv 1).num 1))
 have R0 := Rd.set hr2 (a := (A6 (w.heap.size + 1) 1)) (by simp; omega) (I6 ((s.adv 1).num 1))
 have K0 := Kp.setCell hK2 (a := (A6 (w.heap.size + 1) 1)) (.inr (by simp)) (I6 ((s.adv 1).num 1))
 refine (num_any r 1 ((s.adv 1).adv 1) _ R0 (by omega) (by decide)).mono ?_
 rintro e w3 ⟨rfl, hr3, hk3⟩
 have hK3 := K0.trans hk3
 have hm3 := blk_kp hk3 M0 (by simp; omega)
 have hq3 := blk_kp hk3 Q0 (by simp; omega)
 clear hk3 hm2 hq2 hr2 hK2 M0 Q0 R0 K0
 rw [e3] at hr3
 have hc := blk_cell hm3
 have hf := blk_free hm3
 go_wp2_with fail
 clear hc hf
 have M0 := blk_set hm3 2 (I6 (((s.adv 1).adv 1).num 1))
 have Q0 := blk_set_other hq3 (a := (A6 (w.heap.size + 1) 2)) (by simp) (I6 (((s.adv 1).adv 1).num 1))
 have R0 := Rd.set hr3 (a := (A6 (w.heap.size + 1) 2)) (by simp; omega) (I6 (((s.adv 1).adv 1).num 1))
 have K0 := Kp.setCell hK3 (a := (A6 (w.heap.size + 1) 2)) (.inr (by simp)) (I6 (((s.adv 1).adv 1).num 1))
 have hkn := hk.kp K0 (by simp; omega)
 refine (partsOf_any _ _ hkn).mono ?_
 rintro e w4 ⟨rfl, hb4⟩
 rw [h1, h2, h3, h4]
 have hK4 := (K0.below hb4).alloc (.cells #[.bool false, .bool true, .bool true, .bool false] 139)
 have hm4 := blk_alloc (blk_below hb4 M0) (.cells #[.bool false, .bool true, .bool true, .bool false] 139)
 have hq4 := blk_alloc (blk_below hb4 Q0) (.cells #[.bool false, .bool true, .bool true, .bool false] 139)
 have hr4 := (R0.below hb4).alloc (.cells #[.bool false, .bool true, .bool true, .bool false] 139)
 have hh4 := blk_new w4 (.cells #[.bool false, .bool true, .bool true, .bool false] 139)
 have hz4 := lt_of_block (blk_below hb4 M0)
 clear hb4 hkn hm3 hq3 hr3 hK3 M0 Q0 R0 K0
 have hc := blk_cell hm4
 have hf := blk_free hm4
 have hhc := blk_cell hh4
 go_wp2_with fail
 clear hc hf hhc
 refine (num_any r 1 (s.m1) _ hr4 (by omega) (by decide)).mono ?_
 rintro e w5 ⟨rfl, hr5, hk5⟩
 have hK5 := hK4.trans hk5
 have hm5 := blk_kp hk5 hm4 (by simp; omega)
 have hq5 := blk_kp hk5 hq4 (by simp; omega)
 have hh5 := blk_kp hk5 hh4 (by simp; omega)
 clear hk5 hm4 hq4 hr4 hK4 hh4
 have hc := blk_cell hm5
 have hf := blk_free hm5
 have hhc := blk_cell hh5
 go_wp2_with fail
 clear hc hf hhc
 have M0 := blk_set hm5 4 (I6 ((s.m1).num 1))
 have Q0 := blk_set_other hq5 (a := (A6 (w.heap.size + 1) 4)) (by simp) (I6 ((s.m1).num 1))
 have H0 := blk_set_other hh5 (a := (A6 (w.heap.size + 1) 4)) (by simp; omega) (I6 ((s.m1).num 1))
 have R0 := Rd.set hr5 (a := (A6 (w.heap.size + 1) 4)) (by simp; omega) (I6 ((s.m1).num 1))
 have K0 := Kp.setCell hK5 (a := (A6 (w.heap.size + 1) 4)) (.inr (by simp)) (I6 ((s.m1).num 1))
 refine (value_any r ((s.m1).adv 1) _ R0 (by omega)).mono ?_
 rintro e w6 ⟨rfl, hr6, hk6⟩
 have hK6 := K0.trans hk6
 have hm6 := blk_kp hk6 M0 (by simp; omega)
 have hq6 := blk_kp hk6 Q0 (by simp; omega)
 have hh6 := blk_kp hk6 H0 (by simp; omega)
 clear hk6 hm5 hq5 hr5 hK5 hh5 M0 Q0 R0 K0 H0
 have hc := blk_cell hm6
 have hf := blk_free hm6
 have hhc := blk_cell hh6
 have hqc := blk_cell hq6
 have hqf := blk_free hq6
 go_wp2
 refine bodyPost_ret (v := .agg #[I6 (s.num 1), I6 ((s.adv 1).num 1), I6 (((s.adv 1).adv 1).num 1), I6 (0), I6 ((s.m1).num 1), I6 ((s.m1).adv 1).val.c, I6 ((s.m1).adv 1).val.q, I6 ((s.m1).adv 1).val.h, .string ((s.m1).adv 1).val.t, .slice none 0 0]) (by simp [results, Tryz.results84, go_sem, hqc, hqf, S]) rfl ⟨.slice none 0 0, rfl, World.ownsRow_nil _ _ _ _, ?_, ?_⟩
 ·repeat refine Rd.set ?_ (by simp; omega) _
  exact hr6
 ·repeat refine Kp.setCell ?_ (.inr (by simp)) _
  exact hK6
set_option maxHeartbeats 4000000 in
theorem message_f (r : Nat) (s : Rs) (w : World) (hr : Rd w r s) (hl : s.l.length ≤ 9223372036854775807) (hk : Kinds w) (hr0 : r ≠ 0)
  (h1 : hasB (s.num 1) = false) (h2 : hasS (s.num 1) = false) (h3 : hasV (s.num 1) = false) (h4 : hasA (s.num 1) = false) :
  Calls Tryz.prog 84 #[P6 r] w fun e w' => ∃ v, e = .returned (.agg #[I6 (s.num 1), I6 ((s.adv 1).num 1), I6 (((s.adv 1).adv 1).num 1), I6 (0), I6 (0), I6 0, I6 0, I6 0, .string (S []), v]) ∧
   w'.ownsRow w.heap.size 53 6 v ([] : List Vt).length (vcells ([] : List Vt)) ∧ Rd w' r (s.m1) ∧ Kp (some r) (some r) w w' := by
 have hlt := lt_of_block hr
 have hw0 := hk.1
 have l1 := adv_len 1 s
 have l2 := adv_len 1 (s.adv 1)
 have l3 := m1_len s
 have e3 : ((s.adv 1).adv 1).adv 1 = s.m1 := rfl
 go_enter Tryz.func84, Tryz.ntmps84
 go_wp2_with fail
 refine (num_any r 1 s _ ((hr.alloc _).alloc _) hl (by decide)).mono ?_
 rintro e w1 ⟨rfl, hr1, hk1⟩
 have hK1 := (((Kp.refl (some r) w).alloc _).alloc _).trans hk1
 have hm1 := blk_kp hk1 (blk_new _ _) (by simp; omega)
 simp only [World.size_alloc] at hm1
 have hq1 := blk_kp hk1 (blk_alloc (blk_new _ _) _) (by simp; omega)
 clear hk1
 have hc := blk_cell hm1
 have hf := blk_free hm1
 go_wp2_with fail
 clear hc hf
 have M0 := blk_set hm1 0 (I6 (s.num 1))
 have Q0 := blk_set_other hq1 (a := (A6 (w.heap.size + 1) 0)) (by simp) (I6 (s.num 1))
 have R0 := Rd.set hr1 (a := (A6 (w.heap.size + 1) 0)) (by simp; omega) (I6 (s.num 1))
 have K0 := Kp.setCell hK1 (a := (A6 (w.heap.size + 1) 0)) (.inr (by simp)) (I6 (s.num 1))
 refine (num_any r 1 (s.adv 1) _ R0 (by omega) (by decide)).mono ?_
 rintro e w2 ⟨rfl, hr2, hk2⟩
 have hK2 := K0.trans hk2
 have hm2 := blk_kp hk2 M0 (by simp; omega)
 have hq2 := blk_kp hk2 Q0 (by simp; omega)
 clear hk2 hm1 hq1 hr1 hK1 M0 Q0 R0 K0
 have hc := blk_cell hm2
 have hf := blk_free hm2
 go_wp2_with fail
 clear hc hf
 have M0 := blk_set hm2 1 (I6 ((s.adv 1).num 1))
 have Q0 := blk_set_other hq2 (a := (A6 (w.heap.size + 1) 1)) (by simp) (I6 ((s.adv 1).num 1))
 have R0 := Rd.set hr2 (a := (A6 (w.heap.size + 1) 1)) (by simp; omega) (I6 ((s.adv 1).num 1))
 have K0 := Kp.setCell hK2 (a := (A6 (w.heap.size + 1) 1)) (.inr (by simp)) (I6 ((s.adv 1).num 1))
 refine (num_any r 1 ((s.adv 1).adv 1) _ R0 (by omega) (by decide)).mono ?_
 rintro e w3 ⟨rfl, hr3, hk3⟩
 have hK3 := K0.trans hk3
 have hm3 := blk_kp hk3 M0 (by simp; omega)
 have hq3 := blk_kp hk3 Q0 (by simp; omega)
 clear hk3 hm2 hq2 hr2 hK2 M0 Q0 R0 K0
 rw [e3] at hr3
 have hc := blk_cell hm3
 have hf := blk_free hm3
 go_wp2_with fail
 clear hc hf
 have M0 := blk_set hm3 2 (I6 (((s.adv 1).adv 1).num 1))
 have Q0 := blk_set_other hq3 (a := (A6 (w.heap.size + 1) 2)) (by simp) (I6 (((s.adv 1).adv 1).num 1))
 have R0 := Rd.set hr3 (a := (A6 (w.heap.size + 1) 2)) (by simp; omega) (I6 (((s.adv 1).adv 1).num 1))
 have K0 := Kp.setCell hK3 (a := (A6 (w.heap.size + 1) 2)) (.inr (by simp)) (I6 (((s.adv 1).adv 1).num 1))
 have hkn := hk.kp K0 (by simp; omega)
 refine (partsOf_any _ _ hkn).mono ?_
 rintro e w4 ⟨rfl, hb4⟩
 rw [h1, h2, h3, h4]
 have hK4 := (K0.below hb4).alloc (.cells #[.bool false, .bool false, .bool false, .bool false] 139)
 have hm4 := blk_alloc (blk_below hb4 M0) (.cells #[.bool false, .bool false, .bool false, .bool false] 139)
 have hq4 := blk_alloc (blk_below hb4 Q0) (.cells #[.bool false, .bool false, .bool false, .bool false] 139)
 have hr4 := (R0.below hb4).alloc (.cells #[.bool false, .bool false, .bool false, .bool false] 139)
 have hh4 := blk_new w4 (.cells #[.bool false, .bool false, .bool false, .bool false] 139)
 have hz4 := lt_of_block (blk_below hb4 M0)
 clear hb4 hkn hm3 hq3 hr3 hK3 M0 Q0 R0 K0
 have hc := blk_cell hm4
 have hf := blk_free hm4
 have hhc := blk_cell hh4
 have hqc := blk_cell hq4
 have hqf := blk_free hq4
 go_wp2
 refine bodyPost_ret (v := .agg #[I6 (s.num 1), I6 ((s.adv 1).num 1), I6 (((s.adv 1).adv 1).num 1), I6 (0), I6 (0), I6 0, I6 0, I6 0, .string (S []), .slice none 0 0]) (by simp [results, Tryz.results84, go_sem, hqc, hqf, S]) rfl ⟨.slice none 0 0, rfl, World.ownsRow_nil _ _ _ _, ?_, ?_⟩
 ·repeat refine Rd.set ?_ (by simp; omega) _
  exact hr4
 ·repeat refine Kp.setCell ?_ (.inr (by simp)) _
  exact hK4
theorem message_any (r : Nat) (s : Rs) (w : World) (hr : Rd w r s) (hl : s.l.length ≤ 9223372036854775807) (hk : Kinds w) (hr0 : r ≠ 0) :
  Calls Tryz.prog 84 #[P6 r] w fun e w' => ∃ v, e = .returned (.agg #[I6 s.msg.k, I6 s.msg.f, I6 s.msg.t, I6 s.msg.b, I6 s.msg.s, I6 s.msg.p.c, I6 s.msg.p.q, I6 s.msg.p.h, .string s.msg.p.t, v]) ∧
   w'.ownsRow w.heap.size 53 6 v s.msg.a.length (vcells s.msg.a) ∧ Rd w' r s.msgAft ∧ Kp (some r) (some r) w w' := by
 by_cases ca : s.num 1 = 1 ∨ s.num 1 = 6
 ·have h1 : hasB (s.num 1) = true := by simp [hasB]; omega
  have h2 : hasS (s.num 1) = false := by simp [hasS]; omega
  have h3 : hasV (s.num 1) = false := by simp [hasV]; omega
  have h4 : hasA (s.num 1) = false := by simp [hasA]; omega
  simp only [Rs.msg, Rs.msgAft, Rs.bal, Rs.balAft, Rs.slo, Rs.sloAft, Rs.vau, Rs.vauAft, Rs.acc, Rs.accAft, h1, h2, h3, h4, if_true, Bool.false_eq_true, if_false]
  exact message_a r s w hr hl hk hr0 h1 h2 h3 h4
 by_cases cb : s.num 1 = 2
 ·have h1 : hasB (s.num 1) = true := by simp [hasB]; omega
  have h2 : hasS (s.num 1) = false := by simp [hasS]; omega
  have h3 : hasV (s.num 1) = false := by simp [hasV]; omega
  have h4 : hasA (s.num 1) = true := by simp [hasA]; omega
  simp only [Rs.msg, Rs.msgAft, Rs.bal, Rs.balAft, Rs.slo, Rs.sloAft, Rs.vau, Rs.vauAft, Rs.acc, Rs.accAft, h1, h2, h3, h4, if_true, Bool.false_eq_true, if_false]
  exact message_b r s w hr hl hk hr0 h1 h2 h3 h4
 by_cases cc : s.num 1 = 3
 ·have h1 : hasB (s.num 1) = true := by simp [hasB]; omega
  have h2 : hasS (s.num 1) = true := by simp [hasS]; omega
  have h3 : hasV (s.num 1) = true := by simp [hasV]; omega
  have h4 : hasA (s.num 1) = false := by simp [hasA]; omega
  simp only [Rs.msg, Rs.msgAft, Rs.bal, Rs.balAft, Rs.slo, Rs.sloAft, Rs.vau, Rs.vauAft, Rs.acc, Rs.accAft, h1, h2, h3, h4, if_true, Bool.false_eq_true, if_false]
  exact message_c r s w hr hl hk hr0 h1 h2 h3 h4
 by_cases cd : s.num 1 = 4
 ·have h1 : hasB (s.num 1) = true := by simp [hasB]; omega
  have h2 : hasS (s.num 1) = true := by simp [hasS]; omega
  have h3 : hasV (s.num 1) = false := by simp [hasV]; omega
  have h4 : hasA (s.num 1) = false := by simp [hasA]; omega
  simp only [Rs.msg, Rs.msgAft, Rs.bal, Rs.balAft, Rs.slo, Rs.sloAft, Rs.vau, Rs.vauAft, Rs.acc, Rs.accAft, h1, h2, h3, h4, if_true, Bool.false_eq_true, if_false]
  exact message_d r s w hr hl hk hr0 h1 h2 h3 h4
 by_cases ce : s.num 1 = 5
 ·have h1 : hasB (s.num 1) = false := by simp [hasB]; omega
  have h2 : hasS (s.num 1) = true := by simp [hasS]; omega
  have h3 : hasV (s.num 1) = true := by simp [hasV]; omega
  have h4 : hasA (s.num 1) = false := by simp [hasA]; omega
  simp only [Rs.msg, Rs.msgAft, Rs.bal, Rs.balAft, Rs.slo, Rs.sloAft, Rs.vau, Rs.vauAft, Rs.acc, Rs.accAft, h1, h2, h3, h4, if_true, Bool.false_eq_true, if_false]
  exact message_e r s w hr hl hk hr0 h1 h2 h3 h4
 have h1 : hasB (s.num 1) = false := by simp [hasB]; omega
 have h2 : hasS (s.num 1) = false := by simp [hasS]; omega
 have h3 : hasV (s.num 1) = false := by simp [hasV]; omega
 have h4 : hasA (s.num 1) = false := by simp [hasA]; omega
 simp only [Rs.msg, Rs.msgAft, Rs.bal, Rs.balAft, Rs.slo, Rs.sloAft, Rs.vau, Rs.vauAft, Rs.acc, Rs.accAft, h1, h2, h3, h4, if_true, Bool.false_eq_true, if_false]
 exact message_f r s w hr hl hk hr0 h1 h2 h3 h4
end
section
open Go.RowKit
def rvB (last : Int) : List Vt → Bool
 | [] => true
 | v :: l => !(decide (v.s ≤ last)) && withinB v.s 0 15 && withinB v.b 1 8007 && rightValueB v.p && rvB v.s l
theorem rvB_drop (la : Int) (l : List Vt) (k : Nat) (hk : k < l.length) :
  rvB la (l.drop k) = (!(decide (l[k].s ≤ la)) && withinB l[k].s 0 15 && withinB l[k].b 1 8007 && rightValueB l[k].p && rvB l[k].s (l.drop (k + 1))) := by
 rw [List.drop_eq_getElem_cons hk]; rfl
set_option maxHeartbeats 2000000 in
theorem rightVotes_any (v : Value) (l : List Vt) (w : World) (hv : VAt w v l) :
  Calls Tryz.prog 116 #[v] w fun e w' => e = .returned (.bool (rvB (-1) l)) ∧ Below w.heap.size w w' := by
 obtain ⟨ao, cap, rfl, hc⟩ := hv.form
 have hlen := hv.len
 clear hv
 go_enter Tryz.func116, Tryz.ntmps116
 go_wp2_with fail
 go_loopw [3, 8] (fun la i wr => ∃ k : Nat, ∃ x : Int, k ≤ l.length ∧ i = I6 k ∧ la = I6 x ∧ rvB (-1) l = rvB x (l.drop k) ∧ Below w.heap.size w wr) (fun _ i _ => l.length - (intOf i).toNat)
 case atStart => exact ⟨0, -1, Nat.zero_le _, rfl, rfl, rfl, Below.refl _ _⟩
 case round =>
  obtain ⟨k, x, hk, rfl, rfl, hrv, hb⟩ := hrel
  have HR : Hid (rvB (-1) l = rvB x (l.drop k)) := hrv
  clear hrv
  by_cases hlt : k < l.length
  ·obtain ⟨g, off, rfl, hg, hcell⟩ := hc (by intro e; subst e; simp at hlt)
   have hz := hb.size
   have c0 : wr.cell? (A6 g (off + k * 6)) = some (I6 l[k].s) := by
    rw [hb.cell (p := (A6 g (off + k * 6))) hg]; exact hcell _ _ (vcells_at l k hlt 0 (by decide))
   have c1 : wr.cell? (A6 g (off + k * 6 + 1)) = some (I6 l[k].b) := by
    rw [hb.cell (p := (A6 g (off + k * 6 + 1))) hg]; exact hcell _ _ (vcells_at l k hlt 1 (by decide))
   have c2 : wr.cell? (A6 g (off + k * 6 + 2)) = some (I6 l[k].p.c) := by
    rw [hb.cell (p := (A6 g (off + k * 6 + 2))) hg]; exact hcell _ _ (vcells_at l k hlt 2 (by decide))
   have c3 : wr.cell? (A6 g (off + k * 6 + 3)) = some (I6 l[k].p.q) := by
    rw [hb.cell (p := (A6 g (off + k * 6 + 3))) hg]; exact hcell _ _ (vcells_at l k hlt 3 (by decide))
   have c4 : wr.cell? (A6 g (off + k * 6 + 4)) = some (I6 l[k].p.h) := by
    rw [hb.cell (p := (A6 g (off + k * 6 + 4))) hg]; exact hcell _ _ (vcells_at l k hlt 4 (by decide))
   have c5 : wr.cell? (A6 g (off + k * 6 + 5)) = some (.string l[k].p.t) := by
    rw [hb.cell (p := (A6 g (off + k * 6 + 5))) hg]; exact hcell _ _ (vcells_at l k hlt 5 (by decide))
   have HE : Hid (rvB x (l.drop k) = (!(decide (l[k].s ≤ x)) && withinB l[k].s 0 15 && withinB l[k].b 1 8007 && rightValueB l[k].p && rvB l[k].s (l.drop (k + 1)))) := rvB_drop x l k hlt
   clear hcell
   generalize l[k].s = vs at *
   generalize l[k].b = vb at *
   generalize l[k].p = vp at *
   obtain ⟨pc, pq, ph, pt⟩ := vp
   by_cases h1 : vs ≤ x
   ·go_wp2
    go_ret
    exact ⟨by rw [HR.out, HE.out]; simp [h1], hb.alloc hz _⟩
   have d1 : decide (vs ≤ x) = false := by simpa using h1
   cases h2 : withinB vs 0 15
   ·go_wp2_with (first | (go_at_call 114; refine (rightSlot_any _ _).mono ?_; rintro e w' ⟨rfl, rfl⟩) | (go_at_call 113; refine (rightBallot_any _ _).mono ?_; rintro e w' ⟨rfl, rfl⟩) | (go_at_call 115; refine (rightValue_any pc pq ph pt _).mono ?_; rintro e w2 ⟨rfl, hb2⟩; obtain ⟨hc2, hf2⟩ := bcell hb2))
    go_ret
    exact ⟨by rw [HR.out, HE.out]; simp [h2], hb.alloc hz _⟩
   cases h3 : withinB vb 1 8007
   ·go_wp2_with (first | (go_at_call 114; refine (rightSlot_any _ _).mono ?_; rintro e w' ⟨rfl, rfl⟩) | (go_at_call 113; refine (rightBallot_any _ _).mono ?_; rintro e w' ⟨rfl, rfl⟩) | (go_at_call 115; refine (rightValue_any pc pq ph pt _).mono ?_; rintro e w2 ⟨rfl, hb2⟩; obtain ⟨hc2, hf2⟩ := bcell hb2))
    go_ret
    exact ⟨by rw [HR.out, HE.out]; simp [h3], hb.alloc hz _⟩
   cases h4 : rightValueB ⟨pc, pq, ph, pt⟩
   ·go_wp2_with (first | (go_at_call 114; refine (rightSlot_any _ _).mono ?_; rintro e w' ⟨rfl, rfl⟩) | (go_at_call 113; refine (rightBallot_any _ _).mono ?_; rintro e w' ⟨rfl, rfl⟩) | (go_at_call 115; refine (rightValue_any pc pq ph pt _).mono ?_; rintro e w2 ⟨rfl, hb2⟩; obtain ⟨hc2, hf2⟩ := bcell hb2))
    go_ret
    exact ⟨by rw [HR.out, HE.out]; simp [h4], (hb.alloc hz _).trans (hb2.mono (by simp; omega))⟩
   ·go_wp2_with (first | (go_at_call 114; refine (rightSlot_any _ _).mono ?_; rintro e w' ⟨rfl, rfl⟩) | (go_at_call 113; refine (rightBallot_any _ _).mono ?_; rintro e w' ⟨rfl, rfl⟩) | (go_at_call 115; refine (rightValue_any pc pq ph pt _).mono ?_; rintro e w2 ⟨rfl, hb2⟩; obtain ⟨hc2, hf2⟩ := bcell hb2))
    go_roundw
    case rel => exact ⟨k + 1, vs, by omega, by go_num, rfl, by rw [HR.out, HE.out]; simp [h1, h2, h3, h4], (hb.alloc hz _).trans (hb2.mono (by simp; omega))⟩
    case measure => simp [intOf]; omega
  ·go_wp2
   go_ret
   exact ⟨by rw [HR.out, List.drop_of_length_le (by omega)]; simp [rvB], hb⟩
end
end Go.Proofs.YtnnhnekfokbooaaGreatDoor
