/- The walk of the reader's message, a theorem for each list of parts that a kind has (laid by mkmessage.py). -/
import Derived.Test.YtnnhnekfokbooaaGreatDoorWalkE
import Derived.WalkKit
import Derived.WalkSpells
import Derived.WalkLawsBesides
namespace Go.Proofs.YtnnhnekfokbooaaGreatDoor
open Go.RowKit
set_option linter.unusedSimpArgs false
set_option linter.unusedVariables false

theorem owns_slice {w : World} {base : Nat} {e : TypeId} {size : Nat} {v : Value} {n : Nat} {xs : List Value} (h : w.ownsRow base e size v n xs) : ∃ ao k cap, v = .slice ao k cap := by
  rcases h.2 with ⟨e, _⟩ | ⟨g, cap, cur, e, _⟩
  · exact ⟨_, _, _, e⟩
  · exact ⟨_, _, _, e⟩
theorem owns_mono {w : World} {base base' : Nat} {e : TypeId} {size : Nat} {v : Value} {n : Nat} {xs : List Value} (h : w.ownsRow base e size v n xs) (hb : base' ≤ base) : w.ownsRow base' e size v n xs := by
  refine ⟨h.1, ?_⟩
  rcases h.2 with h2 | ⟨g, cap, cur, a1, a2, a3⟩
  · exact .inl h2
  · exact .inr ⟨g, cap, cur, a1, Nat.le_trans hb a2, a3⟩
theorem m1_len (s : Rs) : s.m1.l.length ≤ s.l.length := by
  have h1 := adv_len 1 s
  have h2 := adv_len 1 (s.adv 1)
  have h3 := adv_len 1 ((s.adv 1).adv 1)
  unfold Rs.m1; omega

set_option maxHeartbeats 4000000 in
set_option maxRecDepth 100000 in
theorem message_a (r : Nat) (s : Rs) (w : World) (hr : Rd w r s) (hl : s.l.length ≤ 9223372036854775807) (hk : Kinds w) (hr0 : r ≠ 0)
    (h1 : hasB (s.num 1) = true) (h2 : hasS (s.num 1) = false) (h3 : hasV (s.num 1) = false) (h4 : hasA (s.num 1) = false) :
    Calls Tryz.prog 84 #[.pointer (some ⟨r, 0, none⟩)] w fun e w' => ∃ v, e = .returned (.agg #[.int .i64 (s.num 1), .int .i64 ((s.adv 1).num 1), .int .i64 (((s.adv 1).adv 1).num 1), .int .i64 ((s.m1).num 2), .int .i64 (0), .int .i64 0, .int .i64 0, .int .i64 0, .string (S []), v]) ∧
      w'.ownsRow w.heap.size 53 6 v ([] : List Vt).length (vcells ([] : List Vt)) ∧ Rd w' r ((s.m1).adv 2) ∧ Kp (some r) (some r) w w' := by
  have hlt := lt_of_block hr
  have hw0 := hk.1
  have l1 := adv_len 1 s
  have l2 := adv_len 1 (s.adv 1)
  have l3 := m1_len s
  have e3 : ((s.adv 1).adv 1).adv 1 = s.m1 := rfl
  have l4 := adv_len 2 (s.m1)
  go_enter Tryz.func84, Tryz.ntmps84
  go_wp2_with fail
  refine (num_any r 1 s _ ((hr.alloc _).alloc _) hl (by decide)).mono ?_
  rintro e w1 ⟨rfl, hr1, hk1⟩
  have hK1 := (((Kp.refl (some r) w).alloc _).alloc _).trans hk1
  have hm1 := blk_kp hk1 (blk_new _ _) (by simp; omega)
  simp only [World.size_alloc] at hm1
  have hq1 := blk_kp hk1 (blk_alloc (blk_new _ _) _) (by simp; omega)
  clear hk1
  have hc := blk_cell hm1
  have hf := blk_free hm1
  go_wp2_with fail
  clear hc hf
  have M0 := blk_set hm1 0 (.int .i64 (s.num 1))
  have Q0 := blk_set_other hq1 (a := ⟨w.heap.size + 1, 0, none⟩) (by simp) (.int .i64 (s.num 1))
  have R0 := Rd.set hr1 (a := ⟨w.heap.size + 1, 0, none⟩) (by simp; omega) (.int .i64 (s.num 1))
  have K0 := Kp.setCell hK1 (a := ⟨w.heap.size + 1, 0, none⟩) (.inr (by simp)) (.int .i64 (s.num 1))
  refine (num_any r 1 (s.adv 1) _ R0 (by omega) (by decide)).mono ?_
  rintro e w2 ⟨rfl, hr2, hk2⟩
  have hK2 := K0.trans hk2
  have hm2 := blk_kp hk2 M0 (by simp; omega)
  have hq2 := blk_kp hk2 Q0 (by simp; omega)
  clear hk2 hm1 hq1 hr1 hK1 M0 Q0 R0 K0
  have hc := blk_cell hm2
  have hf := blk_free hm2
  go_wp2_with fail
  clear hc hf
  have M0 := blk_set hm2 1 (.int .i64 ((s.adv 1).num 1))
  have Q0 := blk_set_other hq2 (a := ⟨w.heap.size + 1, 1, none⟩) (by simp) (.int .i64 ((s.adv 1).num 1))
  have R0 := Rd.set hr2 (a := ⟨w.heap.size + 1, 1, none⟩) (by simp; omega) (.int .i64 ((s.adv 1).num 1))
  have K0 := Kp.setCell hK2 (a := ⟨w.heap.size + 1, 1, none⟩) (.inr (by simp)) (.int .i64 ((s.adv 1).num 1))
  refine (num_any r 1 ((s.adv 1).adv 1) _ R0 (by omega) (by decide)).mono ?_
  rintro e w3 ⟨rfl, hr3, hk3⟩
  have hK3 := K0.trans hk3
  have hm3 := blk_kp hk3 M0 (by simp; omega)
  have hq3 := blk_kp hk3 Q0 (by simp; omega)
  clear hk3 hm2 hq2 hr2 hK2 M0 Q0 R0 K0
  rw [e3] at hr3
  have hc := blk_cell hm3
  have hf := blk_free hm3
  go_wp2_with fail
  clear hc hf
  have M0 := blk_set hm3 2 (.int .i64 (((s.adv 1).adv 1).num 1))
  have Q0 := blk_set_other hq3 (a := ⟨w.heap.size + 1, 2, none⟩) (by simp) (.int .i64 (((s.adv 1).adv 1).num 1))
  have R0 := Rd.set hr3 (a := ⟨w.heap.size + 1, 2, none⟩) (by simp; omega) (.int .i64 (((s.adv 1).adv 1).num 1))
  have K0 := Kp.setCell hK3 (a := ⟨w.heap.size + 1, 2, none⟩) (.inr (by simp)) (.int .i64 (((s.adv 1).adv 1).num 1))
  have hkn := hk.kp K0 (by simp; omega)
  refine (partsOf_any _ _ hkn).mono ?_
  rintro e w4 ⟨rfl, hb4⟩
  rw [h1, h2, h3, h4]
  have hK4 := (K0.below hb4).alloc (.cells #[.bool true, .bool false, .bool false, .bool false] 139)
  have hm4 := blk_alloc (blk_below hb4 M0) (.cells #[.bool true, .bool false, .bool false, .bool false] 139)
  have hq4 := blk_alloc (blk_below hb4 Q0) (.cells #[.bool true, .bool false, .bool false, .bool false] 139)
  have hr4 := (R0.below hb4).alloc (.cells #[.bool true, .bool false, .bool false, .bool false] 139)
  have hh4 := blk_new w4 (.cells #[.bool true, .bool false, .bool false, .bool false] 139)
  have hz4 := lt_of_block (blk_below hb4 M0)
  clear hb4 hkn hm3 hq3 hr3 hK3 M0 Q0 R0 K0
  have hc := blk_cell hm4
  have hf := blk_free hm4
  have hhc := blk_cell hh4
  go_wp2_with fail
  clear hc hf hhc
  refine (num_any r 2 (s.m1) _ hr4 (by omega) (by decide)).mono ?_
  rintro e w5 ⟨rfl, hr5, hk5⟩
  have hK5 := hK4.trans hk5
  have hm5 := blk_kp hk5 hm4 (by simp; omega)
  have hq5 := blk_kp hk5 hq4 (by simp; omega)
  have hh5 := blk_kp hk5 hh4 (by simp; omega)
  clear hk5 hm4 hq4 hr4 hK4 hh4
  have hc := blk_cell hm5
  have hf := blk_free hm5
  have hhc := blk_cell hh5
  have hqc := blk_cell hq5
  have hqf := blk_free hq5
  go_wp2
  refine bodyPost_ret (v := .agg #[.int .i64 (s.num 1), .int .i64 ((s.adv 1).num 1), .int .i64 (((s.adv 1).adv 1).num 1), .int .i64 ((s.m1).num 2), .int .i64 (0), .int .i64 0, .int .i64 0, .int .i64 0, .string (S []), .slice none 0 0]) (by simp [results, Tryz.results84, go_sem, hqc, hqf, S]) rfl ⟨.slice none 0 0, rfl, World.ownsRow_nil _ _ _ _, ?_, ?_⟩
  · repeat refine Rd.set ?_ (by simp; omega) _
    exact hr5
  · repeat refine Kp.setCell ?_ (.inr (by simp)) _
    exact hK5

set_option maxHeartbeats 4000000 in
set_option maxRecDepth 100000 in
theorem message_b (r : Nat) (s : Rs) (w : World) (hr : Rd w r s) (hl : s.l.length ≤ 9223372036854775807) (hk : Kinds w) (hr0 : r ≠ 0)
    (h1 : hasB (s.num 1) = true) (h2 : hasS (s.num 1) = false) (h3 : hasV (s.num 1) = false) (h4 : hasA (s.num 1) = true) :
    Calls Tryz.prog 84 #[.pointer (some ⟨r, 0, none⟩)] w fun e w' => ∃ v, e = .returned (.agg #[.int .i64 (s.num 1), .int .i64 ((s.adv 1).num 1), .int .i64 (((s.adv 1).adv 1).num 1), .int .i64 ((s.m1).num 2), .int .i64 (0), .int .i64 0, .int .i64 0, .int .i64 0, .string (S []), v]) ∧
      w'.ownsRow w.heap.size 53 6 v (Rs.vts (((s.m1).adv 2).num 1).toNat (((s.m1).adv 2).adv 1)).length (vcells (Rs.vts (((s.m1).adv 2).num 1).toNat (((s.m1).adv 2).adv 1))) ∧ Rd w' r ((Rs.vtsAft (((s.m1).adv 2).num 1).toNat (((s.m1).adv 2).adv 1))) ∧ Kp (some r) (some r) w w' := by
  have hlt := lt_of_block hr
  have hw0 := hk.1
  have l1 := adv_len 1 s
  have l2 := adv_len 1 (s.adv 1)
  have l3 := m1_len s
  have e3 : ((s.adv 1).adv 1).adv 1 = s.m1 := rfl
  have l4 := adv_len 2 (s.m1)
  go_enter Tryz.func84, Tryz.ntmps84
  go_wp2_with fail
  refine (num_any r 1 s _ ((hr.alloc _).alloc _) hl (by decide)).mono ?_
  rintro e w1 ⟨rfl, hr1, hk1⟩
  have hK1 := (((Kp.refl (some r) w).alloc _).alloc _).trans hk1
  have hm1 := blk_kp hk1 (blk_new _ _) (by simp; omega)
  simp only [World.size_alloc] at hm1
  have hq1 := blk_kp hk1 (blk_alloc (blk_new _ _) _) (by simp; omega)
  clear hk1
  have hc := blk_cell hm1
  have hf := blk_free hm1
  go_wp2_with fail
  clear hc hf
  have M0 := blk_set hm1 0 (.int .i64 (s.num 1))
  have Q0 := blk_set_other hq1 (a := ⟨w.heap.size + 1, 0, none⟩) (by simp) (.int .i64 (s.num 1))
  have R0 := Rd.set hr1 (a := ⟨w.heap.size + 1, 0, none⟩) (by simp; omega) (.int .i64 (s.num 1))
  have K0 := Kp.setCell hK1 (a := ⟨w.heap.size + 1, 0, none⟩) (.inr (by simp)) (.int .i64 (s.num 1))
  refine (num_any r 1 (s.adv 1) _ R0 (by omega) (by decide)).mono ?_
  rintro e w2 ⟨rfl, hr2, hk2⟩
  have hK2 := K0.trans hk2
  have hm2 := blk_kp hk2 M0 (by simp; omega)
  have hq2 := blk_kp hk2 Q0 (by simp; omega)
  clear hk2 hm1 hq1 hr1 hK1 M0 Q0 R0 K0
  have hc := blk_cell hm2
  have hf := blk_free hm2
  go_wp2_with fail
  clear hc hf
  have M0 := blk_set hm2 1 (.int .i64 ((s.adv 1).num 1))
  have Q0 := blk_set_other hq2 (a := ⟨w.heap.size + 1, 1, none⟩) (by simp) (.int .i64 ((s.adv 1).num 1))
  have R0 := Rd.set hr2 (a := ⟨w.heap.size + 1, 1, none⟩) (by simp; omega) (.int .i64 ((s.adv 1).num 1))
  have K0 := Kp.setCell hK2 (a := ⟨w.heap.size + 1, 1, none⟩) (.inr (by simp)) (.int .i64 ((s.adv 1).num 1))
  refine (num_any r 1 ((s.adv 1).adv 1) _ R0 (by omega) (by decide)).mono ?_
  rintro e w3 ⟨rfl, hr3, hk3⟩
  have hK3 := K0.trans hk3
  have hm3 := blk_kp hk3 M0 (by simp; omega)
  have hq3 := blk_kp hk3 Q0 (by simp; omega)
  clear hk3 hm2 hq2 hr2 hK2 M0 Q0 R0 K0
  rw [e3] at hr3
  have hc := blk_cell hm3
  have hf := blk_free hm3
  go_wp2_with fail
  clear hc hf
  have M0 := blk_set hm3 2 (.int .i64 (((s.adv 1).adv 1).num 1))
  have Q0 := blk_set_other hq3 (a := ⟨w.heap.size + 1, 2, none⟩) (by simp) (.int .i64 (((s.adv 1).adv 1).num 1))
  have R0 := Rd.set hr3 (a := ⟨w.heap.size + 1, 2, none⟩) (by simp; omega) (.int .i64 (((s.adv 1).adv 1).num 1))
  have K0 := Kp.setCell hK3 (a := ⟨w.heap.size + 1, 2, none⟩) (.inr (by simp)) (.int .i64 (((s.adv 1).adv 1).num 1))
  have hkn := hk.kp K0 (by simp; omega)
  refine (partsOf_any _ _ hkn).mono ?_
  rintro e w4 ⟨rfl, hb4⟩
  rw [h1, h2, h3, h4]
  have hK4 := (K0.below hb4).alloc (.cells #[.bool true, .bool false, .bool false, .bool true] 139)
  have hm4 := blk_alloc (blk_below hb4 M0) (.cells #[.bool true, .bool false, .bool false, .bool true] 139)
  have hq4 := blk_alloc (blk_below hb4 Q0) (.cells #[.bool true, .bool false, .bool false, .bool true] 139)
  have hr4 := (R0.below hb4).alloc (.cells #[.bool true, .bool false, .bool false, .bool true] 139)
  have hh4 := blk_new w4 (.cells #[.bool true, .bool false, .bool false, .bool true] 139)
  have hz4 := lt_of_block (blk_below hb4 M0)
  clear hb4 hkn hm3 hq3 hr3 hK3 M0 Q0 R0 K0
  have hc := blk_cell hm4
  have hf := blk_free hm4
  have hhc := blk_cell hh4
  go_wp2_with fail
  clear hc hf hhc
  refine (num_any r 2 (s.m1) _ hr4 (by omega) (by decide)).mono ?_
  rintro e w5 ⟨rfl, hr5, hk5⟩
  have hK5 := hK4.trans hk5
  have hm5 := blk_kp hk5 hm4 (by simp; omega)
  have hq5 := blk_kp hk5 hq4 (by simp; omega)
  have hh5 := blk_kp hk5 hh4 (by simp; omega)
  clear hk5 hm4 hq4 hr4 hK4 hh4
  have hc := blk_cell hm5
  have hf := blk_free hm5
  have hhc := blk_cell hh5
  go_wp2_with fail
  clear hc hf hhc
  have M0 := blk_set hm5 3 (.int .i64 ((s.m1).num 2))
  have Q0 := blk_set_other hq5 (a := ⟨w.heap.size + 1, 3, none⟩) (by simp) (.int .i64 ((s.m1).num 2))
  have H0 := blk_set_other hh5 (a := ⟨w.heap.size + 1, 3, none⟩) (by simp; omega) (.int .i64 ((s.m1).num 2))
  have R0 := Rd.set hr5 (a := ⟨w.heap.size + 1, 3, none⟩) (by simp; omega) (.int .i64 ((s.m1).num 2))
  have K0 := Kp.setCell hK5 (a := ⟨w.heap.size + 1, 3, none⟩) (.inr (by simp)) (.int .i64 ((s.m1).num 2))
  have hZ5 : w.heap.size + 2 ≤ w5.heap.size := lt_of_block hm5
  refine (votes_any r ((s.m1).adv 2) _ R0 (by omega)).mono ?_
  rintro e w6 ⟨va, rfl, hown, hr6, hk6⟩
  have hK6 := K0.trans hk6
  have hm6 := blk_kp hk6 M0 (by simp; omega)
  have hq6 := blk_kp hk6 Q0 (by simp; omega)
  have hh6 := blk_kp hk6 H0 (by simp; omega)
  clear hk6 hm5 hq5 hr5 hK5 hh5 M0 Q0 R0 K0 H0
  have hc := blk_cell hm6
  have hf := blk_free hm6
  have hhc := blk_cell hh6
  have hqc := blk_cell hq6
  have hqf := blk_free hq6
  obtain ⟨ao, an, ac, rfl⟩ := owns_slice hown
  have hmlt : w.heap.size + 2 ≤ w5.heap.size := hZ5
  have hn0 : (Value.slice ao an ac).ownBlock ≠ some w.heap.size := fun e => by have := (hown.lt _ e).1; simp at this; omega
  have hn1 : (Value.slice ao an ac).ownBlock ≠ some (w.heap.size + 1) := fun e => by have := (hown.lt _ e).1; simp at this; omega
  have hown1 := owns_mono hown (base' := w.heap.size) (by simp; omega)
  clear hown
  go_wp2
  refine bodyPost_ret (v := .agg #[.int .i64 (s.num 1), .int .i64 ((s.adv 1).num 1), .int .i64 (((s.adv 1).adv 1).num 1), .int .i64 ((s.m1).num 2), .int .i64 (0), .int .i64 0, .int .i64 0, .int .i64 0, .string (S []), .slice ao an ac]) (by simp [results, Tryz.results84, go_sem, hqc, hqf, S]) rfl ⟨.slice ao an ac, rfl, ?_, ?_, ?_⟩
  · rw [vts_length]
    iterate 11 refine ownsRow_setCell_other ?_ (by first | exact hn0 | exact hn1) _
    exact hown1
  · repeat refine Rd.set ?_ (by simp; omega) _
    exact hr6
  · repeat refine Kp.setCell ?_ (.inr (by simp)) _
    exact hK6

set_option maxHeartbeats 4000000 in
set_option maxRecDepth 100000 in
theorem message_c (r : Nat) (s : Rs) (w : World) (hr : Rd w r s) (hl : s.l.length ≤ 9223372036854775807) (hk : Kinds w) (hr0 : r ≠ 0)
    (h1 : hasB (s.num 1) = true) (h2 : hasS (s.num 1) = true) (h3 : hasV (s.num 1) = true) (h4 : hasA (s.num 1) = false) :
    Calls Tryz.prog 84 #[.pointer (some ⟨r, 0, none⟩)] w fun e w' => ∃ v, e = .returned (.agg #[.int .i64 (s.num 1), .int .i64 ((s.adv 1).num 1), .int .i64 (((s.adv 1).adv 1).num 1), .int .i64 ((s.m1).num 2), .int .i64 (((s.m1).adv 2).num 1), .int .i64 (((s.m1).adv 2).adv 1).val.c, .int .i64 (((s.m1).adv 2).adv 1).val.q, .int .i64 (((s.m1).adv 2).adv 1).val.h, .string (((s.m1).adv 2).adv 1).val.t, v]) ∧
      w'.ownsRow w.heap.size 53 6 v ([] : List Vt).length (vcells ([] : List Vt)) ∧ Rd w' r ((((s.m1).adv 2).adv 1).aft) ∧ Kp (some r) (some r) w w' := by
  have hlt := lt_of_block hr
  have hw0 := hk.1
  have l1 := adv_len 1 s
  have l2 := adv_len 1 (s.adv 1)
  have l3 := m1_len s
  have e3 : ((s.adv 1).adv 1).adv 1 = s.m1 := rfl
  have l4 := adv_len 2 (s.m1)
  have l5 := adv_len 1 ((s.m1).adv 2)
  have l6 := aft_len (((s.m1).adv 2).adv 1)
  go_enter Tryz.func84, Tryz.ntmps84
  go_wp2_with fail
  refine (num_any r 1 s _ ((hr.alloc _).alloc _) hl (by decide)).mono ?_
  rintro e w1 ⟨rfl, hr1, hk1⟩
  have hK1 := (((Kp.refl (some r) w).alloc _).alloc _).trans hk1
  have hm1 := blk_kp hk1 (blk_new _ _) (by simp; omega)
  simp only [World.size_alloc] at hm1
  have hq1 := blk_kp hk1 (blk_alloc (blk_new _ _) _) (by simp; omega)
  clear hk1
  have hc := blk_cell hm1
  have hf := blk_free hm1
  go_wp2_with fail
  clear hc hf
  have M0 := blk_set hm1 0 (.int .i64 (s.num 1))
  have Q0 := blk_set_other hq1 (a := ⟨w.heap.size + 1, 0, none⟩) (by simp) (.int .i64 (s.num 1))
  have R0 := Rd.set hr1 (a := ⟨w.heap.size + 1, 0, none⟩) (by simp; omega) (.int .i64 (s.num 1))
  have K0 := Kp.setCell hK1 (a := ⟨w.heap.size + 1, 0, none⟩) (.inr (by simp)) (.int .i64 (s.num 1))
  refine (num_any r 1 (s.adv 1) _ R0 (by omega) (by decide)).mono ?_
  rintro e w2 ⟨rfl, hr2, hk2⟩
  have hK2 := K0.trans hk2
  have hm2 := blk_kp hk2 M0 (by simp; omega)
  have hq2 := blk_kp hk2 Q0 (by simp; omega)
  clear hk2 hm1 hq1 hr1 hK1 M0 Q0 R0 K0
  have hc := blk_cell hm2
  have hf := blk_free hm2
  go_wp2_with fail
  clear hc hf
  have M0 := blk_set hm2 1 (.int .i64 ((s.adv 1).num 1))
  have Q0 := blk_set_other hq2 (a := ⟨w.heap.size + 1, 1, none⟩) (by simp) (.int .i64 ((s.adv 1).num 1))
  have R0 := Rd.set hr2 (a := ⟨w.heap.size + 1, 1, none⟩) (by simp; omega) (.int .i64 ((s.adv 1).num 1))
  have K0 := Kp.setCell hK2 (a := ⟨w.heap.size + 1, 1, none⟩) (.inr (by simp)) (.int .i64 ((s.adv 1).num 1))
  refine (num_any r 1 ((s.adv 1).adv 1) _ R0 (by omega) (by decide)).mono ?_
  rintro e w3 ⟨rfl, hr3, hk3⟩
  have hK3 := K0.trans hk3
  have hm3 := blk_kp hk3 M0 (by simp; omega)
  have hq3 := blk_kp hk3 Q0 (by simp; omega)
  clear hk3 hm2 hq2 hr2 hK2 M0 Q0 R0 K0
  rw [e3] at hr3
  have hc := blk_cell hm3
  have hf := blk_free hm3
  go_wp2_with fail
  clear hc hf
  have M0 := blk_set hm3 2 (.int .i64 (((s.adv 1).adv 1).num 1))
  have Q0 := blk_set_other hq3 (a := ⟨w.heap.size + 1, 2, none⟩) (by simp) (.int .i64 (((s.adv 1).adv 1).num 1))
  have R0 := Rd.set hr3 (a := ⟨w.heap.size + 1, 2, none⟩) (by simp; omega) (.int .i64 (((s.adv 1).adv 1).num 1))
  have K0 := Kp.setCell hK3 (a := ⟨w.heap.size + 1, 2, none⟩) (.inr (by simp)) (.int .i64 (((s.adv 1).adv 1).num 1))
  have hkn := hk.kp K0 (by simp; omega)
  refine (partsOf_any _ _ hkn).mono ?_
  rintro e w4 ⟨rfl, hb4⟩
  rw [h1, h2, h3, h4]
  have hK4 := (K0.below hb4).alloc (.cells #[.bool true, .bool true, .bool true, .bool false] 139)
  have hm4 := blk_alloc (blk_below hb4 M0) (.cells #[.bool true, .bool true, .bool true, .bool false] 139)
  have hq4 := blk_alloc (blk_below hb4 Q0) (.cells #[.bool true, .bool true, .bool true, .bool false] 139)
  have hr4 := (R0.below hb4).alloc (.cells #[.bool true, .bool true, .bool true, .bool false] 139)
  have hh4 := blk_new w4 (.cells #[.bool true, .bool true, .bool true, .bool false] 139)
  have hz4 := lt_of_block (blk_below hb4 M0)
  clear hb4 hkn hm3 hq3 hr3 hK3 M0 Q0 R0 K0
  have hc := blk_cell hm4
  have hf := blk_free hm4
  have hhc := blk_cell hh4
  go_wp2_with fail
  clear hc hf hhc
  refine (num_any r 2 (s.m1) _ hr4 (by omega) (by decide)).mono ?_
  rintro e w5 ⟨rfl, hr5, hk5⟩
  have hK5 := hK4.trans hk5
  have hm5 := blk_kp hk5 hm4 (by simp; omega)
  have hq5 := blk_kp hk5 hq4 (by simp; omega)
  have hh5 := blk_kp hk5 hh4 (by simp; omega)
  clear hk5 hm4 hq4 hr4 hK4 hh4
  have hc := blk_cell hm5
  have hf := blk_free hm5
  have hhc := blk_cell hh5
  go_wp2_with fail
  clear hc hf hhc
  have M0 := blk_set hm5 3 (.int .i64 ((s.m1).num 2))
  have Q0 := blk_set_other hq5 (a := ⟨w.heap.size + 1, 3, none⟩) (by simp) (.int .i64 ((s.m1).num 2))
  have H0 := blk_set_other hh5 (a := ⟨w.heap.size + 1, 3, none⟩) (by simp; omega) (.int .i64 ((s.m1).num 2))
  have R0 := Rd.set hr5 (a := ⟨w.heap.size + 1, 3, none⟩) (by simp; omega) (.int .i64 ((s.m1).num 2))
  have K0 := Kp.setCell hK5 (a := ⟨w.heap.size + 1, 3, none⟩) (.inr (by simp)) (.int .i64 ((s.m1).num 2))
  refine (num_any r 1 ((s.m1).adv 2) _ R0 (by omega) (by decide)).mono ?_
  rintro e w6 ⟨rfl, hr6, hk6⟩
  have hK6 := K0.trans hk6
  have hm6 := blk_kp hk6 M0 (by simp; omega)
  have hq6 := blk_kp hk6 Q0 (by simp; omega)
  have hh6 := blk_kp hk6 H0 (by simp; omega)
  clear hk6 hm5 hq5 hr5 hK5 hh5 M0 Q0 R0 K0 H0
  have hc := blk_cell hm6
  have hf := blk_free hm6
  have hhc := blk_cell hh6
  go_wp2_with fail
  clear hc hf hhc
  have M0 := blk_set hm6 4 (.int .i64 (((s.m1).adv 2).num 1))
  have Q0 := blk_set_other hq6 (a := ⟨w.heap.size + 1, 4, none⟩) (by simp) (.int .i64 (((s.m1).adv 2).num 1))
  have H0 := blk_set_other hh6 (a := ⟨w.heap.size + 1, 4, none⟩) (by simp; omega) (.int .i64 (((s.m1).adv 2).num 1))
  have R0 := Rd.set hr6 (a := ⟨w.heap.size + 1, 4, none⟩) (by simp; omega) (.int .i64 (((s.m1).adv 2).num 1))
  have K0 := Kp.setCell hK6 (a := ⟨w.heap.size + 1, 4, none⟩) (.inr (by simp)) (.int .i64 (((s.m1).adv 2).num 1))
  refine (value_any r (((s.m1).adv 2).adv 1) _ R0 (by omega)).mono ?_
  rintro e w7 ⟨rfl, hr7, hk7⟩
  have hK7 := K0.trans hk7
  have hm7 := blk_kp hk7 M0 (by simp; omega)
  have hq7 := blk_kp hk7 Q0 (by simp; omega)
  have hh7 := blk_kp hk7 H0 (by simp; omega)
  clear hk7 hm6 hq6 hr6 hK6 hh6 M0 Q0 R0 K0 H0
  have hc := blk_cell hm7
  have hf := blk_free hm7
  have hhc := blk_cell hh7
  have hqc := blk_cell hq7
  have hqf := blk_free hq7
  go_wp2
  refine bodyPost_ret (v := .agg #[.int .i64 (s.num 1), .int .i64 ((s.adv 1).num 1), .int .i64 (((s.adv 1).adv 1).num 1), .int .i64 ((s.m1).num 2), .int .i64 (((s.m1).adv 2).num 1), .int .i64 (((s.m1).adv 2).adv 1).val.c, .int .i64 (((s.m1).adv 2).adv 1).val.q, .int .i64 (((s.m1).adv 2).adv 1).val.h, .string (((s.m1).adv 2).adv 1).val.t, .slice none 0 0]) (by simp [results, Tryz.results84, go_sem, hqc, hqf, S]) rfl ⟨.slice none 0 0, rfl, World.ownsRow_nil _ _ _ _, ?_, ?_⟩
  · repeat refine Rd.set ?_ (by simp; omega) _
    exact hr7
  · repeat refine Kp.setCell ?_ (.inr (by simp)) _
    exact hK7

set_option maxHeartbeats 4000000 in
set_option maxRecDepth 100000 in
theorem message_d (r : Nat) (s : Rs) (w : World) (hr : Rd w r s) (hl : s.l.length ≤ 9223372036854775807) (hk : Kinds w) (hr0 : r ≠ 0)
    (h1 : hasB (s.num 1) = true) (h2 : hasS (s.num 1) = true) (h3 : hasV (s.num 1) = false) (h4 : hasA (s.num 1) = false) :
    Calls Tryz.prog 84 #[.pointer (some ⟨r, 0, none⟩)] w fun e w' => ∃ v, e = .returned (.agg #[.int .i64 (s.num 1), .int .i64 ((s.adv 1).num 1), .int .i64 (((s.adv 1).adv 1).num 1), .int .i64 ((s.m1).num 2), .int .i64 (((s.m1).adv 2).num 1), .int .i64 0, .int .i64 0, .int .i64 0, .string (S []), v]) ∧
      w'.ownsRow w.heap.size 53 6 v ([] : List Vt).length (vcells ([] : List Vt)) ∧ Rd w' r (((s.m1).adv 2).adv 1) ∧ Kp (some r) (some r) w w' := by
  have hlt := lt_of_block hr
  have hw0 := hk.1
  have l1 := adv_len 1 s
  have l2 := adv_len 1 (s.adv 1)
  have l3 := m1_len s
  have e3 : ((s.adv 1).adv 1).adv 1 = s.m1 := rfl
  have l4 := adv_len 2 (s.m1)
  have l5 := adv_len 1 ((s.m1).adv 2)
  go_enter Tryz.func84, Tryz.ntmps84
  go_wp2_with fail
  refine (num_any r 1 s _ ((hr.alloc _).alloc _) hl (by decide)).mono ?_
  rintro e w1 ⟨rfl, hr1, hk1⟩
  have hK1 := (((Kp.refl (some r) w).alloc _).alloc _).trans hk1
  have hm1 := blk_kp hk1 (blk_new _ _) (by simp; omega)
  simp only [World.size_alloc] at hm1
  have hq1 := blk_kp hk1 (blk_alloc (blk_new _ _) _) (by simp; omega)
  clear hk1
  have hc := blk_cell hm1
  have hf := blk_free hm1
  go_wp2_with fail
  clear hc hf
  have M0 := blk_set hm1 0 (.int .i64 (s.num 1))
  have Q0 := blk_set_other hq1 (a := ⟨w.heap.size + 1, 0, none⟩) (by simp) (.int .i64 (s.num 1))
  have R0 := Rd.set hr1 (a := ⟨w.heap.size + 1, 0, none⟩) (by simp; omega) (.int .i64 (s.num 1))
  have K0 := Kp.setCell hK1 (a := ⟨w.heap.size + 1, 0, none⟩) (.inr (by simp)) (.int .i64 (s.num 1))
  refine (num_any r 1 (s.adv 1) _ R0 (by omega) (by decide)).mono ?_
  rintro e w2 ⟨rfl, hr2, hk2⟩
  have hK2 := K0.trans hk2
  have hm2 := blk_kp hk2 M0 (by simp; omega)
  have hq2 := blk_kp hk2 Q0 (by simp; omega)
  clear hk2 hm1 hq1 hr1 hK1 M0 Q0 R0 K0
  have hc := blk_cell hm2
  have hf := blk_free hm2
  go_wp2_with fail
  clear hc hf
  have M0 := blk_set hm2 1 (.int .i64 ((s.adv 1).num 1))
  have Q0 := blk_set_other hq2 (a := ⟨w.heap.size + 1, 1, none⟩) (by simp) (.int .i64 ((s.adv 1).num 1))
  have R0 := Rd.set hr2 (a := ⟨w.heap.size + 1, 1, none⟩) (by simp; omega) (.int .i64 ((s.adv 1).num 1))
  have K0 := Kp.setCell hK2 (a := ⟨w.heap.size + 1, 1, none⟩) (.inr (by simp)) (.int .i64 ((s.adv 1).num 1))
  refine (num_any r 1 ((s.adv 1).adv 1) _ R0 (by omega) (by decide)).mono ?_
  rintro e w3 ⟨rfl, hr3, hk3⟩
  have hK3 := K0.trans hk3
  have hm3 := blk_kp hk3 M0 (by simp; omega)
  have hq3 := blk_kp hk3 Q0 (by simp; omega)
  clear hk3 hm2 hq2 hr2 hK2 M0 Q0 R0 K0
  rw [e3] at hr3
  have hc := blk_cell hm3
  have hf := blk_free hm3
  go_wp2_with fail
  clear hc hf
  have M0 := blk_set hm3 2 (.int .i64 (((s.adv 1).adv 1).num 1))
  have Q0 := blk_set_other hq3 (a := ⟨w.heap.size + 1, 2, none⟩) (by simp) (.int .i64 (((s.adv 1).adv 1).num 1))
  have R0 := Rd.set hr3 (a := ⟨w.heap.size + 1, 2, none⟩) (by simp; omega) (.int .i64 (((s.adv 1).adv 1).num 1))
  have K0 := Kp.setCell hK3 (a := ⟨w.heap.size + 1, 2, none⟩) (.inr (by simp)) (.int .i64 (((s.adv 1).adv 1).num 1))
  have hkn := hk.kp K0 (by simp; omega)
  refine (partsOf_any _ _ hkn).mono ?_
  rintro e w4 ⟨rfl, hb4⟩
  rw [h1, h2, h3, h4]
  have hK4 := (K0.below hb4).alloc (.cells #[.bool true, .bool true, .bool false, .bool false] 139)
  have hm4 := blk_alloc (blk_below hb4 M0) (.cells #[.bool true, .bool true, .bool false, .bool false] 139)
  have hq4 := blk_alloc (blk_below hb4 Q0) (.cells #[.bool true, .bool true, .bool false, .bool false] 139)
  have hr4 := (R0.below hb4).alloc (.cells #[.bool true, .bool true, .bool false, .bool false] 139)
  have hh4 := blk_new w4 (.cells #[.bool true, .bool true, .bool false, .bool false] 139)
  have hz4 := lt_of_block (blk_below hb4 M0)
  clear hb4 hkn hm3 hq3 hr3 hK3 M0 Q0 R0 K0
  have hc := blk_cell hm4
  have hf := blk_free hm4
  have hhc := blk_cell hh4
  go_wp2_with fail
  clear hc hf hhc
  refine (num_any r 2 (s.m1) _ hr4 (by omega) (by decide)).mono ?_
  rintro e w5 ⟨rfl, hr5, hk5⟩
  have hK5 := hK4.trans hk5
  have hm5 := blk_kp hk5 hm4 (by simp; omega)
  have hq5 := blk_kp hk5 hq4 (by simp; omega)
  have hh5 := blk_kp hk5 hh4 (by simp; omega)
  clear hk5 hm4 hq4 hr4 hK4 hh4
  have hc := blk_cell hm5
  have hf := blk_free hm5
  have hhc := blk_cell hh5
  go_wp2_with fail
  clear hc hf hhc
  have M0 := blk_set hm5 3 (.int .i64 ((s.m1).num 2))
  have Q0 := blk_set_other hq5 (a := ⟨w.heap.size + 1, 3, none⟩) (by simp) (.int .i64 ((s.m1).num 2))
  have H0 := blk_set_other hh5 (a := ⟨w.heap.size + 1, 3, none⟩) (by simp; omega) (.int .i64 ((s.m1).num 2))
  have R0 := Rd.set hr5 (a := ⟨w.heap.size + 1, 3, none⟩) (by simp; omega) (.int .i64 ((s.m1).num 2))
  have K0 := Kp.setCell hK5 (a := ⟨w.heap.size + 1, 3, none⟩) (.inr (by simp)) (.int .i64 ((s.m1).num 2))
  refine (num_any r 1 ((s.m1).adv 2) _ R0 (by omega) (by decide)).mono ?_
  rintro e w6 ⟨rfl, hr6, hk6⟩
  have hK6 := K0.trans hk6
  have hm6 := blk_kp hk6 M0 (by simp; omega)
  have hq6 := blk_kp hk6 Q0 (by simp; omega)
  have hh6 := blk_kp hk6 H0 (by simp; omega)
  clear hk6 hm5 hq5 hr5 hK5 hh5 M0 Q0 R0 K0 H0
  have hc := blk_cell hm6
  have hf := blk_free hm6
  have hhc := blk_cell hh6
  have hqc := blk_cell hq6
  have hqf := blk_free hq6
  go_wp2
  refine bodyPost_ret (v := .agg #[.int .i64 (s.num 1), .int .i64 ((s.adv 1).num 1), .int .i64 (((s.adv 1).adv 1).num 1), .int .i64 ((s.m1).num 2), .int .i64 (((s.m1).adv 2).num 1), .int .i64 0, .int .i64 0, .int .i64 0, .string (S []), .slice none 0 0]) (by simp [results, Tryz.results84, go_sem, hqc, hqf, S]) rfl ⟨.slice none 0 0, rfl, World.ownsRow_nil _ _ _ _, ?_, ?_⟩
  · repeat refine Rd.set ?_ (by simp; omega) _
    exact hr6
  · repeat refine Kp.setCell ?_ (.inr (by simp)) _
    exact hK6

set_option maxHeartbeats 4000000 in
set_option maxRecDepth 100000 in
theorem message_e (r : Nat) (s : Rs) (w : World) (hr : Rd w r s) (hl : s.l.length ≤ 9223372036854775807) (hk : Kinds w) (hr0 : r ≠ 0)
    (h1 : hasB (s.num 1) = false) (h2 : hasS (s.num 1) = true) (h3 : hasV (s.num 1) = true) (h4 : hasA (s.num 1) = false) :
    Calls Tryz.prog 84 #[.pointer (some ⟨r, 0, none⟩)] w fun e w' => ∃ v, e = .returned (.agg #[.int .i64 (s.num 1), .int .i64 ((s.adv 1).num 1), .int .i64 (((s.adv 1).adv 1).num 1), .int .i64 (0), .int .i64 ((s.m1).num 1), .int .i64 ((s.m1).adv 1).val.c, .int .i64 ((s.m1).adv 1).val.q, .int .i64 ((s.m1).adv 1).val.h, .string ((s.m1).adv 1).val.t, v]) ∧
      w'.ownsRow w.heap.size 53 6 v ([] : List Vt).length (vcells ([] : List Vt)) ∧ Rd w' r (((s.m1).adv 1).aft) ∧ Kp (some r) (some r) w w' := by
  have hlt := lt_of_block hr
  have hw0 := hk.1
  have l1 := adv_len 1 s
  have l2 := adv_len 1 (s.adv 1)
  have l3 := m1_len s
  have e3 : ((s.adv 1).adv 1).adv 1 = s.m1 := rfl
  have l4 := adv_len 1 (s.m1)
  have l5 := aft_len ((s.m1).adv 1)
  go_enter Tryz.func84, Tryz.ntmps84
  go_wp2_with fail
  refine (num_any r 1 s _ ((hr.alloc _).alloc _) hl (by decide)).mono ?_
  rintro e w1 ⟨rfl, hr1, hk1⟩
  have hK1 := (((Kp.refl (some r) w).alloc _).alloc _).trans hk1
  have hm1 := blk_kp hk1 (blk_new _ _) (by simp; omega)
  simp only [World.size_alloc] at hm1
  have hq1 := blk_kp hk1 (blk_alloc (blk_new _ _) _) (by simp; omega)
  clear hk1
  have hc := blk_cell hm1
  have hf := blk_free hm1
  go_wp2_with fail
  clear hc hf
  have M0 := blk_set hm1 0 (.int .i64 (s.num 1))
  have Q0 := blk_set_other hq1 (a := ⟨w.heap.size + 1, 0, none⟩) (by simp) (.int .i64 (s.num 1))
  have R0 := Rd.set hr1 (a := ⟨w.heap.size + 1, 0, none⟩) (by simp; omega) (.int .i64 (s.num 1))
  have K0 := Kp.setCell hK1 (a := ⟨w.heap.size + 1, 0, none⟩) (.inr (by simp)) (.int .i64 (s.num 1))
  refine (num_any r 1 (s.adv 1) _ R0 (by omega) (by decide)).mono ?_
  rintro e w2 ⟨rfl, hr2, hk2⟩
  have hK2 := K0.trans hk2
  have hm2 := blk_kp hk2 M0 (by simp; omega)
  have hq2 := blk_kp hk2 Q0 (by simp; omega)
  clear hk2 hm1 hq1 hr1 hK1 M0 Q0 R0 K0
  have hc := blk_cell hm2
  have hf := blk_free hm2
  go_wp2_with fail
  clear hc hf
  have M0 := blk_set hm2 1 (.int .i64 ((s.adv 1).num 1))
  have Q0 := blk_set_other hq2 (a := ⟨w.heap.size + 1, 1, none⟩) (by simp) (.int .i64 ((s.adv 1).num 1))
  have R0 := Rd.set hr2 (a := ⟨w.heap.size + 1, 1, none⟩) (by simp; omega) (.int .i64 ((s.adv 1).num 1))
  have K0 := Kp.setCell hK2 (a := ⟨w.heap.size + 1, 1, none⟩) (.inr (by simp)) (.int .i64 ((s.adv 1).num 1))
  refine (num_any r 1 ((s.adv 1).adv 1) _ R0 (by omega) (by decide)).mono ?_
  rintro e w3 ⟨rfl, hr3, hk3⟩
  have hK3 := K0.trans hk3
  have hm3 := blk_kp hk3 M0 (by simp; omega)
  have hq3 := blk_kp hk3 Q0 (by simp; omega)
  clear hk3 hm2 hq2 hr2 hK2 M0 Q0 R0 K0
  rw [e3] at hr3
  have hc := blk_cell hm3
  have hf := blk_free hm3
  go_wp2_with fail
  clear hc hf
  have M0 := blk_set hm3 2 (.int .i64 (((s.adv 1).adv 1).num 1))
  have Q0 := blk_set_other hq3 (a := ⟨w.heap.size + 1, 2, none⟩) (by simp) (.int .i64 (((s.adv 1).adv 1).num 1))
  have R0 := Rd.set hr3 (a := ⟨w.heap.size + 1, 2, none⟩) (by simp; omega) (.int .i64 (((s.adv 1).adv 1).num 1))
  have K0 := Kp.setCell hK3 (a := ⟨w.heap.size + 1, 2, none⟩) (.inr (by simp)) (.int .i64 (((s.adv 1).adv 1).num 1))
  have hkn := hk.kp K0 (by simp; omega)
  refine (partsOf_any _ _ hkn).mono ?_
  rintro e w4 ⟨rfl, hb4⟩
  rw [h1, h2, h3, h4]
  have hK4 := (K0.below hb4).alloc (.cells #[.bool false, .bool true, .bool true, .bool false] 139)
  have hm4 := blk_alloc (blk_below hb4 M0) (.cells #[.bool false, .bool true, .bool true, .bool false] 139)
  have hq4 := blk_alloc (blk_below hb4 Q0) (.cells #[.bool false, .bool true, .bool true, .bool false] 139)
  have hr4 := (R0.below hb4).alloc (.cells #[.bool false, .bool true, .bool true, .bool false] 139)
  have hh4 := blk_new w4 (.cells #[.bool false, .bool true, .bool true, .bool false] 139)
  have hz4 := lt_of_block (blk_below hb4 M0)
  clear hb4 hkn hm3 hq3 hr3 hK3 M0 Q0 R0 K0
  have hc := blk_cell hm4
  have hf := blk_free hm4
  have hhc := blk_cell hh4
  go_wp2_with fail
  clear hc hf hhc
  refine (num_any r 1 (s.m1) _ hr4 (by omega) (by decide)).mono ?_
  rintro e w5 ⟨rfl, hr5, hk5⟩
  have hK5 := hK4.trans hk5
  have hm5 := blk_kp hk5 hm4 (by simp; omega)
  have hq5 := blk_kp hk5 hq4 (by simp; omega)
  have hh5 := blk_kp hk5 hh4 (by simp; omega)
  clear hk5 hm4 hq4 hr4 hK4 hh4
  have hc := blk_cell hm5
  have hf := blk_free hm5
  have hhc := blk_cell hh5
  go_wp2_with fail
  clear hc hf hhc
  have M0 := blk_set hm5 4 (.int .i64 ((s.m1).num 1))
  have Q0 := blk_set_other hq5 (a := ⟨w.heap.size + 1, 4, none⟩) (by simp) (.int .i64 ((s.m1).num 1))
  have H0 := blk_set_other hh5 (a := ⟨w.heap.size + 1, 4, none⟩) (by simp; omega) (.int .i64 ((s.m1).num 1))
  have R0 := Rd.set hr5 (a := ⟨w.heap.size + 1, 4, none⟩) (by simp; omega) (.int .i64 ((s.m1).num 1))
  have K0 := Kp.setCell hK5 (a := ⟨w.heap.size + 1, 4, none⟩) (.inr (by simp)) (.int .i64 ((s.m1).num 1))
  refine (value_any r ((s.m1).adv 1) _ R0 (by omega)).mono ?_
  rintro e w6 ⟨rfl, hr6, hk6⟩
  have hK6 := K0.trans hk6
  have hm6 := blk_kp hk6 M0 (by simp; omega)
  have hq6 := blk_kp hk6 Q0 (by simp; omega)
  have hh6 := blk_kp hk6 H0 (by simp; omega)
  clear hk6 hm5 hq5 hr5 hK5 hh5 M0 Q0 R0 K0 H0
  have hc := blk_cell hm6
  have hf := blk_free hm6
  have hhc := blk_cell hh6
  have hqc := blk_cell hq6
  have hqf := blk_free hq6
  go_wp2
  refine bodyPost_ret (v := .agg #[.int .i64 (s.num 1), .int .i64 ((s.adv 1).num 1), .int .i64 (((s.adv 1).adv 1).num 1), .int .i64 (0), .int .i64 ((s.m1).num 1), .int .i64 ((s.m1).adv 1).val.c, .int .i64 ((s.m1).adv 1).val.q, .int .i64 ((s.m1).adv 1).val.h, .string ((s.m1).adv 1).val.t, .slice none 0 0]) (by simp [results, Tryz.results84, go_sem, hqc, hqf, S]) rfl ⟨.slice none 0 0, rfl, World.ownsRow_nil _ _ _ _, ?_, ?_⟩
  · repeat refine Rd.set ?_ (by simp; omega) _
    exact hr6
  · repeat refine Kp.setCell ?_ (.inr (by simp)) _
    exact hK6

set_option maxHeartbeats 4000000 in
set_option maxRecDepth 100000 in
theorem message_f (r : Nat) (s : Rs) (w : World) (hr : Rd w r s) (hl : s.l.length ≤ 9223372036854775807) (hk : Kinds w) (hr0 : r ≠ 0)
    (h1 : hasB (s.num 1) = false) (h2 : hasS (s.num 1) = false) (h3 : hasV (s.num 1) = false) (h4 : hasA (s.num 1) = false) :
    Calls Tryz.prog 84 #[.pointer (some ⟨r, 0, none⟩)] w fun e w' => ∃ v, e = .returned (.agg #[.int .i64 (s.num 1), .int .i64 ((s.adv 1).num 1), .int .i64 (((s.adv 1).adv 1).num 1), .int .i64 (0), .int .i64 (0), .int .i64 0, .int .i64 0, .int .i64 0, .string (S []), v]) ∧
      w'.ownsRow w.heap.size 53 6 v ([] : List Vt).length (vcells ([] : List Vt)) ∧ Rd w' r (s.m1) ∧ Kp (some r) (some r) w w' := by
  have hlt := lt_of_block hr
  have hw0 := hk.1
  have l1 := adv_len 1 s
  have l2 := adv_len 1 (s.adv 1)
  have l3 := m1_len s
  have e3 : ((s.adv 1).adv 1).adv 1 = s.m1 := rfl
  go_enter Tryz.func84, Tryz.ntmps84
  go_wp2_with fail
  refine (num_any r 1 s _ ((hr.alloc _).alloc _) hl (by decide)).mono ?_
  rintro e w1 ⟨rfl, hr1, hk1⟩
  have hK1 := (((Kp.refl (some r) w).alloc _).alloc _).trans hk1
  have hm1 := blk_kp hk1 (blk_new _ _) (by simp; omega)
  simp only [World.size_alloc] at hm1
  have hq1 := blk_kp hk1 (blk_alloc (blk_new _ _) _) (by simp; omega)
  clear hk1
  have hc := blk_cell hm1
  have hf := blk_free hm1
  go_wp2_with fail
  clear hc hf
  have M0 := blk_set hm1 0 (.int .i64 (s.num 1))
  have Q0 := blk_set_other hq1 (a := ⟨w.heap.size + 1, 0, none⟩) (by simp) (.int .i64 (s.num 1))
  have R0 := Rd.set hr1 (a := ⟨w.heap.size + 1, 0, none⟩) (by simp; omega) (.int .i64 (s.num 1))
  have K0 := Kp.setCell hK1 (a := ⟨w.heap.size + 1, 0, none⟩) (.inr (by simp)) (.int .i64 (s.num 1))
  refine (num_any r 1 (s.adv 1) _ R0 (by omega) (by decide)).mono ?_
  rintro e w2 ⟨rfl, hr2, hk2⟩
  have hK2 := K0.trans hk2
  have hm2 := blk_kp hk2 M0 (by simp; omega)
  have hq2 := blk_kp hk2 Q0 (by simp; omega)
  clear hk2 hm1 hq1 hr1 hK1 M0 Q0 R0 K0
  have hc := blk_cell hm2
  have hf := blk_free hm2
  go_wp2_with fail
  clear hc hf
  have M0 := blk_set hm2 1 (.int .i64 ((s.adv 1).num 1))
  have Q0 := blk_set_other hq2 (a := ⟨w.heap.size + 1, 1, none⟩) (by simp) (.int .i64 ((s.adv 1).num 1))
  have R0 := Rd.set hr2 (a := ⟨w.heap.size + 1, 1, none⟩) (by simp; omega) (.int .i64 ((s.adv 1).num 1))
  have K0 := Kp.setCell hK2 (a := ⟨w.heap.size + 1, 1, none⟩) (.inr (by simp)) (.int .i64 ((s.adv 1).num 1))
  refine (num_any r 1 ((s.adv 1).adv 1) _ R0 (by omega) (by decide)).mono ?_
  rintro e w3 ⟨rfl, hr3, hk3⟩
  have hK3 := K0.trans hk3
  have hm3 := blk_kp hk3 M0 (by simp; omega)
  have hq3 := blk_kp hk3 Q0 (by simp; omega)
  clear hk3 hm2 hq2 hr2 hK2 M0 Q0 R0 K0
  rw [e3] at hr3
  have hc := blk_cell hm3
  have hf := blk_free hm3
  go_wp2_with fail
  clear hc hf
  have M0 := blk_set hm3 2 (.int .i64 (((s.adv 1).adv 1).num 1))
  have Q0 := blk_set_other hq3 (a := ⟨w.heap.size + 1, 2, none⟩) (by simp) (.int .i64 (((s.adv 1).adv 1).num 1))
  have R0 := Rd.set hr3 (a := ⟨w.heap.size + 1, 2, none⟩) (by simp; omega) (.int .i64 (((s.adv 1).adv 1).num 1))
  have K0 := Kp.setCell hK3 (a := ⟨w.heap.size + 1, 2, none⟩) (.inr (by simp)) (.int .i64 (((s.adv 1).adv 1).num 1))
  have hkn := hk.kp K0 (by simp; omega)
  refine (partsOf_any _ _ hkn).mono ?_
  rintro e w4 ⟨rfl, hb4⟩
  rw [h1, h2, h3, h4]
  have hK4 := (K0.below hb4).alloc (.cells #[.bool false, .bool false, .bool false, .bool false] 139)
  have hm4 := blk_alloc (blk_below hb4 M0) (.cells #[.bool false, .bool false, .bool false, .bool false] 139)
  have hq4 := blk_alloc (blk_below hb4 Q0) (.cells #[.bool false, .bool false, .bool false, .bool false] 139)
  have hr4 := (R0.below hb4).alloc (.cells #[.bool false, .bool false, .bool false, .bool false] 139)
  have hh4 := blk_new w4 (.cells #[.bool false, .bool false, .bool false, .bool false] 139)
  have hz4 := lt_of_block (blk_below hb4 M0)
  clear hb4 hkn hm3 hq3 hr3 hK3 M0 Q0 R0 K0
  have hc := blk_cell hm4
  have hf := blk_free hm4
  have hhc := blk_cell hh4
  have hqc := blk_cell hq4
  have hqf := blk_free hq4
  go_wp2
  refine bodyPost_ret (v := .agg #[.int .i64 (s.num 1), .int .i64 ((s.adv 1).num 1), .int .i64 (((s.adv 1).adv 1).num 1), .int .i64 (0), .int .i64 (0), .int .i64 0, .int .i64 0, .int .i64 0, .string (S []), .slice none 0 0]) (by simp [results, Tryz.results84, go_sem, hqc, hqf, S]) rfl ⟨.slice none 0 0, rfl, World.ownsRow_nil _ _ _ _, ?_, ?_⟩
  · repeat refine Rd.set ?_ (by simp; omega) _
    exact hr4
  · repeat refine Kp.setCell ?_ (.inr (by simp)) _
    exact hK4

theorem message_any (r : Nat) (s : Rs) (w : World) (hr : Rd w r s) (hl : s.l.length ≤ 9223372036854775807) (hk : Kinds w) (hr0 : r ≠ 0) :
    Calls Tryz.prog 84 #[.pointer (some ⟨r, 0, none⟩)] w fun e w' => ∃ v, e = .returned (.agg #[.int .i64 s.msg.k, .int .i64 s.msg.f, .int .i64 s.msg.t, .int .i64 s.msg.b, .int .i64 s.msg.s, .int .i64 s.msg.p.c, .int .i64 s.msg.p.q, .int .i64 s.msg.p.h, .string s.msg.p.t, v]) ∧
      w'.ownsRow w.heap.size 53 6 v s.msg.a.length (vcells s.msg.a) ∧ Rd w' r s.msgAft ∧ Kp (some r) (some r) w w' := by
  by_cases ca : s.num 1 = 1 ∨ s.num 1 = 6
  · have h1 : hasB (s.num 1) = true := by simp [hasB]; omega
    have h2 : hasS (s.num 1) = false := by simp [hasS]; omega
    have h3 : hasV (s.num 1) = false := by simp [hasV]; omega
    have h4 : hasA (s.num 1) = false := by simp [hasA]; omega
    simp only [Rs.msg, Rs.msgAft, Rs.bal, Rs.balAft, Rs.slo, Rs.sloAft, Rs.vau, Rs.vauAft, Rs.acc, Rs.accAft, h1, h2, h3, h4, if_true, Bool.false_eq_true, if_false]
    exact message_a r s w hr hl hk hr0 h1 h2 h3 h4
  by_cases cb : s.num 1 = 2
  · have h1 : hasB (s.num 1) = true := by simp [hasB]; omega
    have h2 : hasS (s.num 1) = false := by simp [hasS]; omega
    have h3 : hasV (s.num 1) = false := by simp [hasV]; omega
    have h4 : hasA (s.num 1) = true := by simp [hasA]; omega
    simp only [Rs.msg, Rs.msgAft, Rs.bal, Rs.balAft, Rs.slo, Rs.sloAft, Rs.vau, Rs.vauAft, Rs.acc, Rs.accAft, h1, h2, h3, h4, if_true, Bool.false_eq_true, if_false]
    exact message_b r s w hr hl hk hr0 h1 h2 h3 h4
  by_cases cc : s.num 1 = 3
  · have h1 : hasB (s.num 1) = true := by simp [hasB]; omega
    have h2 : hasS (s.num 1) = true := by simp [hasS]; omega
    have h3 : hasV (s.num 1) = true := by simp [hasV]; omega
    have h4 : hasA (s.num 1) = false := by simp [hasA]; omega
    simp only [Rs.msg, Rs.msgAft, Rs.bal, Rs.balAft, Rs.slo, Rs.sloAft, Rs.vau, Rs.vauAft, Rs.acc, Rs.accAft, h1, h2, h3, h4, if_true, Bool.false_eq_true, if_false]
    exact message_c r s w hr hl hk hr0 h1 h2 h3 h4
  by_cases cd : s.num 1 = 4
  · have h1 : hasB (s.num 1) = true := by simp [hasB]; omega
    have h2 : hasS (s.num 1) = true := by simp [hasS]; omega
    have h3 : hasV (s.num 1) = false := by simp [hasV]; omega
    have h4 : hasA (s.num 1) = false := by simp [hasA]; omega
    simp only [Rs.msg, Rs.msgAft, Rs.bal, Rs.balAft, Rs.slo, Rs.sloAft, Rs.vau, Rs.vauAft, Rs.acc, Rs.accAft, h1, h2, h3, h4, if_true, Bool.false_eq_true, if_false]
    exact message_d r s w hr hl hk hr0 h1 h2 h3 h4
  by_cases ce : s.num 1 = 5
  · have h1 : hasB (s.num 1) = false := by simp [hasB]; omega
    have h2 : hasS (s.num 1) = true := by simp [hasS]; omega
    have h3 : hasV (s.num 1) = true := by simp [hasV]; omega
    have h4 : hasA (s.num 1) = false := by simp [hasA]; omega
    simp only [Rs.msg, Rs.msgAft, Rs.bal, Rs.balAft, Rs.slo, Rs.sloAft, Rs.vau, Rs.vauAft, Rs.acc, Rs.accAft, h1, h2, h3, h4, if_true, Bool.false_eq_true, if_false]
    exact message_e r s w hr hl hk hr0 h1 h2 h3 h4
  have h1 : hasB (s.num 1) = false := by simp [hasB]; omega
  have h2 : hasS (s.num 1) = false := by simp [hasS]; omega
  have h3 : hasV (s.num 1) = false := by simp [hasV]; omega
  have h4 : hasA (s.num 1) = false := by simp [hasA]; omega
  simp only [Rs.msg, Rs.msgAft, Rs.bal, Rs.balAft, Rs.slo, Rs.sloAft, Rs.vau, Rs.vauAft, Rs.acc, Rs.accAft, h1, h2, h3, h4, if_true, Bool.false_eq_true, if_false]
  exact message_f r s w hr hl hk hr0 h1 h2 h3 h4
end Go.Proofs.YtnnhnekfokbooaaGreatDoor
