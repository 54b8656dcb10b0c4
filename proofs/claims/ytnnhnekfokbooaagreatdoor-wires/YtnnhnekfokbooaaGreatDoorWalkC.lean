/- The walks of the reader of package wire: value. -/
import Derived.Test.YtnnhnekfokbooaaGreatDoorParse
import Derived.Test.YtnnhnekfokbooaaGreatDoorClone
import Derived.WalkKit
import Derived.WalkSpells
import Derived.WalkLawsBesides
namespace Go.Proofs.YtnnhnekfokbooaaGreatDoor
open Go.RowKit
set_option linter.unusedSimpArgs false
set_option linter.unusedVariables false

set_option maxHeartbeats 1000000 in
theorem value_no (r : Nat) (s : Rs) (w : World) (hr : Rd w r s) (hl : s.l.length ≤ 9223372036854775807) (h0 : (s.num 1 == 0) = true) :
    Calls Tryz.prog 118 #[.pointer (some ⟨r, 0, none⟩)] w fun e w' => e = .returned (.agg #[.int .i64 0, .int .i64 0, .int .i64 0, .string (S [])]) ∧ Rd w' r (s.adv 1) ∧ Kp (some r) (some r) w w' := by
  have hlt := lt_of_block hr
  go_enter Tryz.func118, Tryz.ntmps118
  go_wp2_with fail
  refine (num_any r 1 s _ (blk_alloc (blk_alloc hr _) _) hl (by decide)).mono ?_
  rintro e w1 ⟨rfl, hr1, hk1⟩
  have hp := blk_kp hk1 (blk_new _ _) (by simp; omega)
  have hq := blk_kp hk1 (blk_alloc (blk_new _ _) _) (by simp; omega)
  simp only [World.size_alloc] at hp
  have hpc := blk_cell hp
  have hpf := blk_free hp
  have hqc := blk_cell hq
  have hqf := blk_free hq
  clear hp hq
  go_wp2
  have hK := (((Kp.refl (some r) w).alloc _).alloc _).trans hk1
  have e0 : s.num 1 = 0 := by simpa using h0
  refine bodyPost_ret (v := .agg #[.int .i64 0, .int .i64 0, .int .i64 0, .string (S [])]) (by simp [results, Tryz.results118, go_sem, hqc, hqf, e0, S]) rfl ⟨rfl, ?_, ?_⟩
  · repeat (first | with_reducible exact hr1 | refine Rd.set ?_ (by simp; omega) _)
  · repeat (first | with_reducible exact hK | refine Kp.setCell ?_ (.inr (by simp)) _)

theorem num_nonneg (k : Nat) (s : Rs) : 0 ≤ s.num k := numOf_nonneg _
theorem num1_le (s : Rs) : s.num 1 ≤ 255 := numOf_one _
theorem num2_le (s : Rs) : s.num 2 ≤ 65535 := numOf_two _
theorem tak_any (r : Nat) (n : Int) (s : Rs) (w : World) (hr : Rd w r s) (hl : s.l.length ≤ 9223372036854775807) (h0 : 0 ≤ n) (hn : n ≤ 255) :
    Calls Tryz.prog 138 #[.pointer (some ⟨r, 0, none⟩), .int .i64 n] w fun e w' => e = .returned (.string (S (s.l.take n.toNat))) ∧ Rd w' r (s.adv n.toNat) ∧ Kp (some r) (some r) w w' := by
  obtain ⟨m, rfl⟩ := Int.eq_ofNat_of_zero_le h0
  rw [Int.toNat_natCast]
  exact take_any r m s.l s.sh w hr hl (by omega)

set_option maxHeartbeats 2000000 in
theorem value_yes (r : Nat) (s : Rs) (w : World) (hr : Rd w r s) (hl : s.l.length ≤ 9223372036854775807) (h0 : (s.num 1 == 0) = false) :
    Calls Tryz.prog 118 #[.pointer (some ⟨r, 0, none⟩)] w fun e w' =>
      e = .returned (.agg #[.int .i64 (s.num 1), .int .i64 ((s.adv 1).num 2), .int .i64 (((s.adv 1).adv 2).num 1), .string (S (s.txt.l.take ((((s.adv 1).adv 2).adv 1).num 1).toNat))])
      ∧ Rd w' r (s.txt.adv ((((s.adv 1).adv 2).adv 1).num 1).toNat) ∧ Kp (some r) (some r) w w' := by
  have hlt := lt_of_block hr
  have l1 := adv_len 1 s
  have l2 := adv_len 2 (s.adv 1)
  have l3 := adv_len 1 ((s.adv 1).adv 2)
  have l4 := adv_len 1 (((s.adv 1).adv 2).adv 1)
  have b0 := num_nonneg 1 (((s.adv 1).adv 2).adv 1)
  have b1 := num1_le (((s.adv 1).adv 2).adv 1)
  go_enter Tryz.func118, Tryz.ntmps118
  go_wp2_with fail
  refine (num_any r 1 s _ ((hr.alloc _).alloc _) hl (by decide)).mono ?_
  rintro e w1 ⟨rfl, hr1, hk1⟩
  have hK1 := (((Kp.refl (some r) w).alloc _).alloc _).trans hk1
  have hz1 : w.heap.size + 2 ≤ w1.heap.size := by have := hk1.size; simpa using this
  have hp1 := blk_kp hk1 (blk_new _ _) (by simp; omega)
  simp only [World.size_alloc] at hp1
  have hq1 := blk_kp hk1 (blk_alloc (blk_new _ _) _) (by simp; omega)
  have hc := blk_cell hp1
  have hf := blk_free hp1
  clear hk1
  go_wp2_with fail
  clear hc hf
  have hp1' := blk_set hp1 0 (.int .i64 (s.num 1))
  have hq1' := blk_set_other hq1 (a := ⟨w.heap.size + 1, 0, none⟩) (by simp) (.int .i64 (s.num 1))
  refine (num_any r 2 (s.adv 1) _ (hr1.set (by simp; omega) _) (by omega) (by decide)).mono ?_
  rintro e w2 ⟨rfl, hr2, hk2⟩
  have hK2 := (hK1.setCell (a := ⟨w.heap.size + 1, 0, none⟩) (.inr (by simp)) (.int .i64 (s.num 1))).trans hk2
  have hp2 := blk_kp hk2 hp1' (by simp; omega)
  have hq2 := blk_kp hk2 hq1' (by simp; omega)
  clear hk2 hp1' hq1' hp1 hq1 hr1 hK1
  have hc := blk_cell hp2
  have hf := blk_free hp2
  go_wp2_with fail
  clear hc hf
  have hp2' := blk_set hp2 1 (.int .i64 ((s.adv 1).num 2))
  have hq2' := blk_set_other hq2 (a := ⟨w.heap.size + 1, 1, none⟩) (by simp) (.int .i64 ((s.adv 1).num 2))
  refine (num_any r 1 ((s.adv 1).adv 2) _ (hr2.set (by simp; omega) _) (by omega) (by decide)).mono ?_
  rintro e w3 ⟨rfl, hr3, hk3⟩
  have hK3 := (hK2.setCell (a := ⟨w.heap.size + 1, 1, none⟩) (.inr (by simp)) (.int .i64 ((s.adv 1).num 2))).trans hk3
  have hp3 := blk_kp hk3 hp2' (by simp; omega)
  have hq3 := blk_kp hk3 hq2' (by simp; omega)
  clear hk3 hp2' hq2' hp2 hq2 hr2 hK2
  have hc := blk_cell hp3
  have hf := blk_free hp3
  go_wp2_with fail
  clear hc hf
  have hp3' := blk_set hp3 2 (.int .i64 (((s.adv 1).adv 2).num 1))
  have hq3' := blk_set_other hq3 (a := ⟨w.heap.size + 1, 2, none⟩) (by simp) (.int .i64 (((s.adv 1).adv 2).num 1))
  refine (num_any r 1 (((s.adv 1).adv 2).adv 1) _ (hr3.set (by simp; omega) _) (by omega) (by decide)).mono ?_
  rintro e w4 ⟨rfl, hr4, hk4⟩
  have hK4 := (hK3.setCell (a := ⟨w.heap.size + 1, 2, none⟩) (.inr (by simp)) (.int .i64 (((s.adv 1).adv 2).num 1))).trans hk4
  have hp4 := blk_kp hk4 hp3' (by simp; omega)
  have hq4 := blk_kp hk4 hq3' (by simp; omega)
  clear hk4 hp3' hq3' hp3 hq3 hr3 hK3
  go_wp2_with fail
  refine (tak_any r _ s.txt _ hr4 (by have : s.txt = (((s.adv 1).adv 2).adv 1).adv 1 := rfl; rw [this]; omega) b0 b1).mono ?_
  rintro e w5 ⟨rfl, hr5, hk5⟩
  have hK5 := hK4.trans hk5
  have hp5 := blk_kp hk5 hp4 (by simp; omega)
  have hq5 := blk_kp hk5 hq4 (by simp; omega)
  clear hk5 hp4 hq4 hr4 hK4
  go_wp2_with fail
  refine (clone_any _ _ (by rw [S_size]; simp; omega)).mono ?_
  rintro e w6 ⟨rfl, hb6⟩
  have hK6 := hK5.below hb6
  have hp6 := blk_below hb6 hp5
  have hq6 := blk_below hb6 hq5
  have hr6 := hr5.below hb6
  clear hb6 hp5 hq5 hr5 hK5
  have hc := blk_cell hp6
  have hf := blk_free hp6
  have hqc := blk_cell hq6
  have hqf := blk_free hq6
  simp only [Array.setIfInBounds, List.setIfInBounds_toArray] at hc
  go_wp2
  refine bodyPost_ret (v := .agg #[.int .i64 (s.num 1), .int .i64 ((s.adv 1).num 2), .int .i64 (((s.adv 1).adv 2).num 1), .string (S (s.txt.l.take ((((s.adv 1).adv 2).adv 1).num 1).toNat))]) (by simp [results, Tryz.results118, go_sem, hqc, hqf]) rfl ⟨rfl, ?_, ?_⟩
  · repeat (first | with_reducible exact hr6 | refine Rd.set ?_ (by simp; omega) _)
  · repeat (first | with_reducible exact hK6 | refine Kp.setCell ?_ (.inr (by simp)) _)

theorem value_any (r : Nat) (s : Rs) (w : World) (hr : Rd w r s) (hl : s.l.length ≤ 9223372036854775807) :
    Calls Tryz.prog 118 #[.pointer (some ⟨r, 0, none⟩)] w fun e w' => e = .returned (.agg #[.int .i64 s.val.c, .int .i64 s.val.q, .int .i64 s.val.h, .string s.val.t]) ∧ Rd w' r s.aft ∧ Kp (some r) (some r) w w' := by
  by_cases h0 : s.num 1 = 0
  · have e1 : s.val = ⟨0, 0, 0, S []⟩ := by simp [Rs.val, h0]
    have e2 : s.aft = s.adv 1 := by simp [Rs.aft, h0]
    rw [e1, e2]
    exact value_no r s w hr hl (by simpa using h0)
  · have e1 : s.val = ⟨s.num 1, (s.adv 1).num 2, ((s.adv 1).adv 2).num 1, S (s.txt.l.take ((((s.adv 1).adv 2).adv 1).num 1).toNat)⟩ := by simp [Rs.val, h0]
    have e2 : s.aft = s.txt.adv ((((s.adv 1).adv 2).adv 1).num 1).toNat := by simp [Rs.aft, h0]
    rw [e1, e2]
    exact value_yes r s w hr hl (by simpa using h0)
theorem aft_len (s : Rs) : s.aft.l.length ≤ s.l.length := by
  unfold Rs.aft Rs.txt
  split
  · exact adv_len _ _
  · simp [Rs.adv]
end Go.Proofs.YtnnhnekfokbooaaGreatDoor
