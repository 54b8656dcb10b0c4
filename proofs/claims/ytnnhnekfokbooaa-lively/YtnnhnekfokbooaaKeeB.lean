/- The walk of a chat's step (laid by mkkeeb.py). -/
import Derived.Test.YtnnhnekfokbooaaKeeB0
namespace Go.Proofs.Ytnnhnekfokbooaa
open Go.RowKit
set_option linter.unusedSimpArgs false
set_option linter.unusedVariables false

theorem subE_vals (s : Sy) (i : Nat) (p : Pst) : s.subE i p = 0 ∨ s.subE i p = 3 ∨ s.subE i p = 4 ∨ s.subE i p = 5 ∨ s.subE i p = 6 := by
  unfold Sy.subE
  split
  · split
    · exact .inr (.inr (.inl rfl))
    · split
      · exact .inr (.inr (.inr (.inl rfl)))
      · split
        · exact .inl rfl
        · exact .inr (.inr (.inr (.inr rfl)))
  · exact .inr (.inl rfl)
theorem tdiv_i64 {a n : Int} (h : I64 a) (hn : 1 ≤ n) : I64 (a.tdiv n) := by
  obtain ⟨h0, h1⟩ := h
  by_cases ha : 0 ≤ a
  · rw [Int.tdiv_eq_ediv_of_nonneg ha]
    have h2 := Int.ediv_nonneg ha (show 0 ≤ n by omega)
    have h3 := Int.ediv_le_self n ha
    exact ⟨by omega, by omega⟩
  · have e : a.tdiv n = -((-a).tdiv n) := by rw [Int.neg_tdiv]; omega
    rw [e, Int.tdiv_eq_ediv_of_nonneg (by omega)]
    have h2 := Int.ediv_nonneg (show 0 ≤ -a by omega) (show 0 ≤ n by omega)
    have h3 := Int.ediv_le_self n (show 0 ≤ -a by omega)
    exact ⟨by omega, by omega⟩
theorem wrap_i64 {a : Int} (h : I64 a) : IntKind.i64.wrap a = a := by
  obtain ⟨h0, h1⟩ := h
  rw [IntKind.wrap_i64]; omega

set_option maxHeartbeats 4000000 in
set_option maxRecDepth 100000 in
theorem step_syn {w : World} {cb sb : Nat} {L : Lay} {s : Sy} {pv lv : Value} {ps : List Pst} (h : ChatAt w cb sb L s pv lv ps) (kd a b : Int) (ha : I64 a) (hb : I64 b) :
    Calls Try.prog 17 #[.pointer (some ⟨cb, 0, none⟩), .agg #[.int .i64 kd, .int .i64 a, .int .i64 b]] w fun e w' => e = .returned (.bool true) ∧ ∃ s' ps', Mvs s ps s' ps' ∧ ChatTo w cb sb L s pv lv w' s' ps' := by
  have hAt := h
  have hx := blk_new w (.cells #[.int .i64 kd, .int .i64 a, .int .i64 b] 48)
  have hB : Below w.heap.size w (w.alloc (.cells #[.int .i64 kd, .int .i64 a, .int .i64 b] 48)) := (Below.refl _ w).alloc (Nat.le_refl _) _
  have hcb0 := blk_cell (blk_below hB h.blk)
  have hN := net_syn (h.syn.below hB)
  have hn0 := h.syn.ok.n0
  have hn1 := h.syn.ok.n1
  have hfull := h.syn.ok.full
  go_enter Try.func17, Try.ntmps17
  go_wp2_with fail
  refine hN.mono ?_
  rintro e w2 ⟨v', l', rfl, hlm, hrows, hap, hown', hB2⟩
  clear hN hrows hap hcb0
  have hll : l'.length = s.net.length := by rw [← hlm, List.length_map]
  obtain ⟨va, vc, hv, _⟩ := (owns_row hown').form
  subst hv
  rw [hll] at *
  clear hlm hown'
  have hB2' : Below w.heap.size w w2 := Below.trans hB (hB2.mono hB.size)
  have h2 := hAt.below hB2'
  have hx2 := blk_below hB2 hx
  have hxc := blk_cell hx2
  have hcc := blk_cell h2.blk
  have hc1 : w2.cell? ⟨cb, 1, none⟩ = some (.int .i64 (s.n : Int)) := hcc 1
  have hP := fun W => pick_any a (s.n : Int) W ha (by omega) (by omega)
  have hi := pickZ_bound a (s.n : Int) (by omega)
  generalize pickZ a (s.n : Int) = iz at *
  obtain ⟨i, rfl⟩ := Int.eq_ofNat_of_zero_le hi.1
  have hin : i < s.n := by have h9 := hi.2; exact Int.ofNat_lt.1 h9
  by_cases hnet : s.net.length = 0
  · have hz1 : decide ((0 : Int) < (s.net.length : Int)) = false := decide_eq_false (by omega)
    have hz2 : ((s.net.length : Int) == 0) = true := by rw [hnet]; rfl
    go_wp2_with fail
    refine wp_region_held_drew (S := fun w' => w'.heap[w.heap.size]? = some (.cells #[.int .i64 kd, .int .i64 a, .int .i64 b] 48 (0, 0)) ∧ w'.cell? ⟨cb, 1, none⟩ = some (.int .i64 (s.n : Int))) (by kernel_rfl) (⟨hx2, hc1⟩) (fun hS => ?_)
    refine wpAnyH_take (i := 0) (v := ?_) rfl (by kernel_rfl) (by kernel_rfl) (by kernel_rfl) (fun _ _ _ h => h) (Or.inl ⟨by kernel_rfl, fun w' hw => ?_⟩) hS ?_
    rotate_left 1
    · have d1 := blk_cell hw.1; have d2 := hw.2; go_simp; all_goals with_reducible rfl
    try simp only [Act.put, List.getElem_toArray, List.getElem_cons_zero, List.getElem_cons_succ, List.setIfInBounds_toArray, List.set_cons_zero, List.set_cons_succ]
    refine wpAnyH_take (i := 1) (v := ?_) rfl (by kernel_rfl) (by kernel_rfl) (by kernel_rfl) (fun _ _ _ h => h) (Or.inl ⟨by kernel_rfl, fun w' hw => ?_⟩) hS ?_
    rotate_left 1
    · have d1 := blk_cell hw.1; have d2 := hw.2; go_simp; all_goals with_reducible rfl
    try simp only [Act.put, List.getElem_toArray, List.getElem_cons_zero, List.getElem_cons_succ, List.setIfInBounds_toArray, List.set_cons_zero, List.set_cons_succ]
    refine wpAnyH_take (i := 2) (v := ?_) rfl (by kernel_rfl) (by kernel_rfl) (by kernel_rfl) (fun _ _ _ h => h) (Or.inl ⟨by kernel_rfl, fun w' hw => ?_⟩) hS ?_
    rotate_left 1
    · have d1 := blk_cell hw.1; have d2 := hw.2; go_simp; all_goals with_reducible rfl
    try simp only [Act.put, List.getElem_toArray, List.getElem_cons_zero, List.getElem_cons_succ, List.setIfInBounds_toArray, List.set_cons_zero, List.set_cons_succ]
    refine wpAnyH_take (i := 3) (v := ?_) rfl (by kernel_rfl) (by kernel_rfl) (by kernel_rfl) (fun _ _ _ h => h) (Or.inl ⟨by kernel_rfl, fun w' hw => ?_⟩) hS ?_
    rotate_left 1
    · have d1 := blk_cell hw.1; have d2 := hw.2; go_simp; all_goals with_reducible rfl
    try simp only [Act.put, List.getElem_toArray, List.getElem_cons_zero, List.getElem_cons_succ, List.setIfInBounds_toArray, List.set_cons_zero, List.set_cons_succ]
    refine wpAnyH_take (i := 4) (v := ?_) rfl (by kernel_rfl) (by kernel_rfl) (by kernel_rfl) (fun _ _ _ h => h) (Or.inl ⟨by kernel_rfl, fun w' hw => ?_⟩) hS ?_
    rotate_left 1
    · have d1 := blk_cell hw.1; have d2 := hw.2; go_simp; all_goals with_reducible rfl
    try simp only [Act.put, List.getElem_toArray, List.getElem_cons_zero, List.getElem_cons_succ, List.setIfInBounds_toArray, List.set_cons_zero, List.set_cons_succ]
    refine wpAnyH_take (i := 5) (v := ?_) rfl (by kernel_rfl) (by kernel_rfl) (by kernel_rfl) (fun _ _ _ h => h) (Or.inl ⟨by kernel_rfl, fun w' hw => ?_⟩) hS ?_
    rotate_left 1
    · have d1 := blk_cell hw.1; have d2 := hw.2; go_simp; all_goals with_reducible rfl
    try simp only [Act.put, List.getElem_toArray, List.getElem_cons_zero, List.getElem_cons_succ, List.setIfInBounds_toArray, List.set_cons_zero, List.set_cons_succ]
    refine wpAnyH_ready (rs := [6]) (by kernel_rfl) (by simp) ?_
    refine AllReadyH.cons rfl (fun K hK => ?_) AllReadyH.nil
    go_simp
    refine (hP _).mono ?_
    rintro e w3 ⟨rfl, hw3⟩
    subst hw3
    clear hP
    go_wp2_with fail
    refine hK.out _ _ ⟨hx2, hc1⟩ (fun hS => ?_)
    clear hK K
    try simp only [Act.put, List.getElem_toArray, List.getElem_cons_zero, List.getElem_cons_succ, List.setIfInBounds_toArray, List.set_cons_zero, List.set_cons_succ]
    refine wpAnyH_ready (rs := [7]) (by kernel_rfl) (by simp) ?_
    refine AllReadyH.cons rfl (fun K hK => ?_) AllReadyH.nil
    go_simp
    refine hK.out _ _ ⟨hx2, hc1⟩ (fun hS => ?_)
    clear hK K
    try simp only [Act.put, List.getElem_toArray, List.getElem_cons_zero, List.getElem_cons_succ, List.setIfInBounds_toArray, List.set_cons_zero, List.set_cons_succ]
    refine wpAnyH_done (by kernel_rfl) ?_ _
    have hB3 : Below w.heap.size w w2.drew := Below.drew hB2'
    have h3 := hAt.below hB3
    by_cases k0 : kd = 0
    · subst k0
      have hC := campaign_yes h3.syn hin
      have hE : s.campE i = 0 ∨ s.campE i = 6 ∨ s.campE i = 7 := by
        unfold Sy.campE
        split
        · exact .inr (.inr rfl)
        · split
          · exact .inl rfl
          · exact .inr (.inl rfl)
      generalize s.campE i = E at *
      go_wp2_with fail
      refine hC.mono ?_
      rintro e w4 ⟨rfl, hto⟩
      clear hC
      have hch := h3.to hto (mvs_good h3.good h3.syn.ok (.camp s ps i hin)) (campaign_n _ _)
      rcases hE with rfl | rfl | rfl
      all_goals
        go_wp2_with fail
        go_ret
        exact ⟨rfl, _, _, Mvs.one hAt.syn.ok (.camp s ps i hin), ChatTo.after hB3 hch⟩
    have hk0 : (kd == 0) = false := by simpa using k0
    by_cases k1 : kd = 1
    · subst k1
      have hnz : ¬ s.n = 0 := by omega
      have hq1 : I64 (a.tdiv (s.n : Int)) := tdiv_i64 ha (by omega)
      have hwr : IntKind.i64.wrap (a.tdiv (s.n : Int)) = a.tdiv (s.n : Int) := wrap_i64 hq1
      have hPo := fun W => post_any (a.tdiv (s.n : Int)) b W hq1 hb
      go_wp2_with fail
      refine wp_region_held_drew (S := fun w' => w'.heap[w.heap.size]? = some (.cells #[.int .i64 1, .int .i64 a, .int .i64 b] 48 (0, 0)) ∧ w'.cell? ⟨cb, 1, none⟩ = some (.int .i64 (s.n : Int))) (by kernel_rfl) (⟨hx2, hc1⟩) (fun hS => ?_)
      refine wpAnyH_take (i := 0) (v := ?_) rfl (by kernel_rfl) (by kernel_rfl) (by kernel_rfl) (fun _ _ _ h => h) (Or.inl ⟨by kernel_rfl, fun w' hw => ?_⟩) hS ?_
      rotate_left 1
      · have d1 := blk_cell hw.1; have d2 := hw.2; go_simp; all_goals with_reducible rfl
      try simp only [Act.put, List.getElem_toArray, List.getElem_cons_zero, List.getElem_cons_succ, List.setIfInBounds_toArray, List.set_cons_zero, List.set_cons_succ]
      refine wpAnyH_take (i := 1) (v := ?_) rfl (by kernel_rfl) (by kernel_rfl) (by kernel_rfl) (fun _ _ _ h => h) (Or.inl ⟨by kernel_rfl, fun w' hw => ?_⟩) hS ?_
      rotate_left 1
      · have d1 := blk_cell hw.1; have d2 := hw.2; go_simp; all_goals with_reducible rfl
      try simp only [Act.put, List.getElem_toArray, List.getElem_cons_zero, List.getElem_cons_succ, List.setIfInBounds_toArray, List.set_cons_zero, List.set_cons_succ]
      refine wpAnyH_take (i := 2) (v := ?_) rfl (by kernel_rfl) (by kernel_rfl) (by kernel_rfl) (fun _ _ _ h => h) (Or.inl ⟨by kernel_rfl, fun w' hw => ?_⟩) hS ?_
      rotate_left 1
      · have d1 := blk_cell hw.1; have d2 := hw.2; go_simp; all_goals with_reducible rfl
      try simp only [Act.put, List.getElem_toArray, List.getElem_cons_zero, List.getElem_cons_succ, List.setIfInBounds_toArray, List.set_cons_zero, List.set_cons_succ]
      refine wpAnyH_take (i := 3) (v := ?_) rfl (by kernel_rfl) (by kernel_rfl) (by kernel_rfl) (fun _ _ _ h => h) (Or.inl ⟨by kernel_rfl, fun w' hw => ?_⟩) hS ?_
      rotate_left 1
      · have d1 := blk_cell hw.1; have d2 := hw.2; go_simp; all_goals with_reducible rfl
      try simp only [Act.put, List.getElem_toArray, List.getElem_cons_zero, List.getElem_cons_succ, List.setIfInBounds_toArray, List.set_cons_zero, List.set_cons_succ]
      refine wpAnyH_take (i := 4) (v := ?_) rfl (by kernel_rfl) (by kernel_rfl) (by kernel_rfl) (fun _ _ _ h => h) (Or.inl ⟨by kernel_rfl, fun w' hw => ?_⟩) hS ?_
      rotate_left 1
      · have d1 := blk_cell hw.1; have d2 := hw.2; go_simp; all_goals with_reducible rfl
      try simp only [Act.put, List.getElem_toArray, List.getElem_cons_zero, List.getElem_cons_succ, List.setIfInBounds_toArray, List.set_cons_zero, List.set_cons_succ]
      refine wpAnyH_take (i := 5) (v := ?_) rfl (by kernel_rfl) (by kernel_rfl) (by kernel_rfl) (fun _ _ _ h => h) (Or.inl ⟨by kernel_rfl, fun w' hw => ?_⟩) hS ?_
      rotate_left 1
      · have d1 := blk_cell hw.1; have d2 := hw.2; go_simp; all_goals with_reducible rfl
      try simp only [Act.put, List.getElem_toArray, List.getElem_cons_zero, List.getElem_cons_succ, List.setIfInBounds_toArray, List.set_cons_zero, List.set_cons_succ]
      refine wpAnyH_take (i := 6) (v := ?_) rfl (by kernel_rfl) (by kernel_rfl) (by kernel_rfl) (fun _ _ _ h => h) (Or.inl ⟨by kernel_rfl, fun w' hw => ?_⟩) hS ?_
      rotate_left 1
      · have d1 := blk_cell hw.1; have d2 := hw.2; go_simp; all_goals with_reducible rfl
      try simp only [Act.put, List.getElem_toArray, List.getElem_cons_zero, List.getElem_cons_succ, List.setIfInBounds_toArray, List.set_cons_zero, List.set_cons_succ]
      refine wpAnyH_take (i := 7) (v := ?_) rfl (by kernel_rfl) (by kernel_rfl) (by kernel_rfl) (fun _ _ _ h => h) (Or.inl ⟨by kernel_rfl, fun w' hw => ?_⟩) hS ?_
      rotate_left 1
      · have d1 := blk_cell hw.1; have d2 := hw.2; go_simp; all_goals with_reducible rfl
      try simp only [Act.put, List.getElem_toArray, List.getElem_cons_zero, List.getElem_cons_succ, List.setIfInBounds_toArray, List.set_cons_zero, List.set_cons_succ]
      refine wpAnyH_take (i := 8) (v := ?_) rfl (by kernel_rfl) (by kernel_rfl) (by kernel_rfl) (fun _ _ _ h => h) (Or.inl ⟨by kernel_rfl, fun w' hw => ?_⟩) hS ?_
      rotate_left 1
      · have d1 := blk_cell hw.1; have d2 := hw.2; go_simp; all_goals with_reducible rfl
      try simp only [Act.put, List.getElem_toArray, List.getElem_cons_zero, List.getElem_cons_succ, List.setIfInBounds_toArray, List.set_cons_zero, List.set_cons_succ]
      refine wpAnyH_ready (rs := [9, 10]) (by kernel_rfl) (by simp) ?_
      refine AllReadyH.cons rfl (fun K hK => ?_) (AllReadyH.cons rfl (fun K hK => ?_) AllReadyH.nil)
      · go_simp
        refine (hPo _).mono ?_
        rintro e w4 ⟨rfl, hB4⟩
        clear hPo
        have hB4' : Below w.heap.size w w4 := Below.trans (Below.drew hB3) (hB4.mono hB3.size)
        have hx4 := blk_below hB4 (w := w2.drew.drew) hx2
        have hc4 : w4.cell? ⟨cb, 1, none⟩ = some (.int .i64 (s.n : Int)) := (blk_cell (hAt.below hB4').blk 1).trans rfl
        go_wp2_with fail
        refine hK.out _ _ ⟨hx4, hc4⟩ (fun hS => ?_)
        clear hK K
        try simp only [Act.put, List.getElem_toArray, List.getElem_cons_zero, List.getElem_cons_succ, List.setIfInBounds_toArray, List.set_cons_zero, List.set_cons_succ]
        refine wpAnyH_ready (rs := [10]) (by kernel_rfl) (by simp) ?_
        refine AllReadyH.cons rfl (fun K hK => ?_) AllReadyH.nil
        go_simp
        have hz := blk_new w4 (.cells #[.int .i64 0, .int .i64 0, .int .i64 0, .string ⟨#[]⟩] 38)
        have hx5 := blk_alloc hx4 (.cells #[.int .i64 0, .int .i64 0, .int .i64 0, .string ⟨#[]⟩] 38)
        have hB5 : Below w.heap.size w (w4.alloc (.cells #[.int .i64 0, .int .i64 0, .int .i64 0, .string ⟨#[]⟩] 38)) := hB4'.alloc hB4'.size _
        have hc5 : (w4.alloc (.cells #[.int .i64 0, .int .i64 0, .int .i64 0, .string ⟨#[]⟩] 38)).cell? ⟨cb, 1, none⟩ = some (.int .i64 (s.n : Int)) := (blk_cell (hAt.below hB5).blk 1).trans rfl
        refine hK.out _ _ ⟨hx5, hc5⟩ (fun hS => ?_)
        clear hK K
        try simp only [Act.put, List.getElem_toArray, List.getElem_cons_zero, List.getElem_cons_succ, List.setIfInBounds_toArray, List.set_cons_zero, List.set_cons_succ]
        refine wpAnyH_ready (rs := [11]) (by kernel_rfl) (by simp) ?_
        refine AllReadyH.cons rfl (fun K hK => ?_) AllReadyH.nil
        rw [if_pos (by kernel_rfl)]
        have hpr := postZ_right (a.tdiv (s.n : Int)) b
        generalize postZ (a.tdiv (s.n : Int)) b = p at *
        have hth : World.there (w4.alloc (.cells #[.int .i64 0, .int .i64 0, .int .i64 0, .string ⟨#[]⟩] 38)) w4.heap.size 0 4 := fun j hj => ⟨by rw [blk_cell hz, Nat.zero_add, Array.getElem?_eq_getElem (by exact hj)]; rfl, blk_free hz _⟩
        have hi4 : (Try.prog.info? 38).map (·.size) = some (#[.int .i64 p.c, .int .i64 p.q, .int .i64 p.h, .string p.t] : Array Value).size := by kernel_rfl
        have h14 : (#[.int .i64 p.c, .int .i64 p.q, .int .i64 p.h, .string p.t] : Array Value).all (·.oneCell') = true := by simp [Value.oneCell']
        refine wp_store_mid 38 (.tmp 9) (.tmp 66) rfl w4.heap.size 0 #[.int .i64 p.c, .int .i64 p.q, .int .i64 p.h, .string p.t] rfl rfl hth hi4 h14 ?_
        have hbb : (World.setCells (w4.alloc (.cells #[.int .i64 0, .int .i64 0, .int .i64 0, .string ⟨#[]⟩] 38)) w4.heap.size 0 (#[.int .i64 p.c, .int .i64 p.q, .int .i64 p.h, .string p.t] : Array Value).toList).heap[w4.heap.size]? = some (.cells #[.int .i64 p.c, .int .i64 p.q, .int .i64 p.h, .string p.t] 38 (0, 0)) := setCells_self w4.heap.size 38 (#[.int .i64 p.c, .int .i64 p.q, .int .i64 p.h, .string p.t] : Array Value).toList 0 _ _ hz (by simp)
        have hge : w.heap.size < w4.heap.size := by have h8 := lt_of_block hx2; have h9 := hB4.size; simp at *; omega
        have hB5' : Below w.heap.size w (World.setCells (w4.alloc (.cells #[.int .i64 0, .int .i64 0, .int .i64 0, .string ⟨#[]⟩] 38)) w4.heap.size 0 (#[.int .i64 p.c, .int .i64 p.q, .int .i64 p.h, .string p.t] : Array Value).toList) := Keeps.toBelow hB5 (Keeps.ofSets (P := fun k => k = w4.heap.size) w4.heap.size rfl _ _ _) (fun k hk => by omega) hB5.size
        have hx6 : (World.setCells (w4.alloc (.cells #[.int .i64 0, .int .i64 0, .int .i64 0, .string ⟨#[]⟩] 38)) w4.heap.size 0 (#[.int .i64 p.c, .int .i64 p.q, .int .i64 p.h, .string p.t] : Array Value).toList).heap[w.heap.size]? = some (.cells #[.int .i64 1, .int .i64 a, .int .i64 b] 48 (0, 0)) := by rw [setCells_other w4.heap.size _ _ _ _ (by omega)]; exact hx5
        have hc6 : (World.setCells (w4.alloc (.cells #[.int .i64 0, .int .i64 0, .int .i64 0, .string ⟨#[]⟩] 38)) w4.heap.size 0 (#[.int .i64 p.c, .int .i64 p.q, .int .i64 p.h, .string p.t] : Array Value).toList).cell? ⟨cb, 1, none⟩ = some (.int .i64 (s.n : Int)) := (blk_cell (hAt.below hB5').blk 1).trans rfl
        refine hK.out _ _ ⟨hx6, hc6⟩ (fun hS => ?_)
        clear hK K
        try simp only [Act.put, List.getElem_toArray, List.getElem_cons_zero, List.getElem_cons_succ, List.setIfInBounds_toArray, List.set_cons_zero, List.set_cons_succ]
        refine wpAnyH_done (by kernel_rfl) ?_ _
        clear hth
        generalize World.setCells (w4.alloc (.cells #[.int .i64 0, .int .i64 0, .int .i64 0, .string ⟨#[]⟩] 38)) w4.heap.size 0 (#[.int .i64 p.c, .int .i64 p.q, .int .i64 p.h, .string p.t] : Array Value).toList = w5 at *
        generalize w4.heap.size = bb at *
        clear hB5
        have hB5 := hB5'
        clear hB5'
        have h5 := hAt.below hB5
        have hc0 : w5.cell? ⟨cb, 0, none⟩ = some (.pointer (some ⟨sb, 0, none⟩)) := (blk_cell h5.blk 0).trans rfl
        have hbcb : bb ≠ cb := by have h8 := lt_of_block hAt.blk; omega
        have hSub := submit_yes (h5.syn.below (Below.drew (Below.refl _ w5))) hin p hpr (h5.good.bal h5.syn.ok hin)
        have hE : s.subE i p = 0 ∨ s.subE i p = 3 ∨ s.subE i p = 4 ∨ s.subE i p = 5 ∨ s.subE i p = 6 := subE_vals s i p
        have hgood := mvs_good h5.good h5.syn.ok (.sub s ps i p hin hpr)
        have hEq : Hid (∀ e, s.subE i p = e → s.subE i p = e) := fun _ h => h
        obtain ⟨E, hEE⟩ : ∃ E, E = s.subE i p := ⟨_, rfl⟩
        rw [← hEE] at hSub hE hgood
        have HEE : Hid (E = s.subE i p) := hEE
        clear hEE
        go_wp2_with fail
        refine wp_region_held_drew (S := fun w' => w'.heap[bb]? = some (.cells #[.int .i64 p.c, .int .i64 p.q, .int .i64 p.h, .string p.t] 38 (0, 0)) ∧ w'.cell? ⟨cb, 0, none⟩ = some (.pointer (some ⟨sb, 0, none⟩))) (by kernel_rfl) (⟨hbb, hc0⟩) (fun hS => ?_)
        refine wpAnyH_take (i := 0) (v := ?_) rfl (by kernel_rfl) (by kernel_rfl) (by kernel_rfl) (fun _ _ _ h => h) (Or.inl ⟨by kernel_rfl, fun w' hw => ?_⟩) hS ?_
        rotate_left 1
        · have d1 := blk_cell hw.1; have d2 := hw.2; go_simp; all_goals with_reducible rfl
        try simp only [Act.put, List.getElem_toArray, List.getElem_cons_zero, List.getElem_cons_succ, List.setIfInBounds_toArray, List.set_cons_zero, List.set_cons_succ]
        refine wpAnyH_take (i := 1) (v := ?_) rfl (by kernel_rfl) (by kernel_rfl) (by kernel_rfl) (fun _ _ _ h => h) (Or.inl ⟨by kernel_rfl, fun w' hw => ?_⟩) hS ?_
        rotate_left 1
        · have d1 := blk_cell hw.1; have d2 := hw.2; go_simp; all_goals with_reducible rfl
        try simp only [Act.put, List.getElem_toArray, List.getElem_cons_zero, List.getElem_cons_succ, List.setIfInBounds_toArray, List.set_cons_zero, List.set_cons_succ]
        refine wpAnyH_take (i := 2) (v := ?_) rfl (by kernel_rfl) (by kernel_rfl) (by kernel_rfl) (fun _ _ _ h => h) (Or.inl ⟨by kernel_rfl, fun w' hw => ?_⟩) hS ?_
        rotate_left 1
        · have d1 := blk_cell hw.1; have d2 := hw.2; go_simp; all_goals with_reducible rfl
        try simp only [Act.put, List.getElem_toArray, List.getElem_cons_zero, List.getElem_cons_succ, List.setIfInBounds_toArray, List.set_cons_zero, List.set_cons_succ]
        refine wpAnyH_take (i := 3) (v := ?_) rfl (by kernel_rfl) (by kernel_rfl) (by kernel_rfl) (fun _ _ _ h => h) (Or.inl ⟨by kernel_rfl, fun w' hw => ?_⟩) hS ?_
        rotate_left 1
        · have d1 := blk_cell hw.1; have d2 := hw.2; go_simp; all_goals with_reducible rfl
        try simp only [Act.put, List.getElem_toArray, List.getElem_cons_zero, List.getElem_cons_succ, List.setIfInBounds_toArray, List.set_cons_zero, List.set_cons_succ]
        refine wpAnyH_take (i := 4) (v := ?_) rfl (by kernel_rfl) (by kernel_rfl) (by kernel_rfl) (fun _ _ _ h => h) (Or.inl ⟨by kernel_rfl, fun w' hw => ?_⟩) hS ?_
        rotate_left 1
        · have d1 := blk_cell hw.1; have d2 := hw.2; go_simp; all_goals with_reducible rfl
        try simp only [Act.put, List.getElem_toArray, List.getElem_cons_zero, List.getElem_cons_succ, List.setIfInBounds_toArray, List.set_cons_zero, List.set_cons_succ]
        refine wpAnyH_take (i := 5) (v := ?_) rfl (by kernel_rfl) (by kernel_rfl) (by kernel_rfl) (fun _ _ _ h => h) (Or.inl ⟨by kernel_rfl, fun w' hw => ?_⟩) hS ?_
        rotate_left 1
        · have d1 := blk_cell hw.1; have d2 := hw.2; go_simp; all_goals with_reducible rfl
        try simp only [Act.put, List.getElem_toArray, List.getElem_cons_zero, List.getElem_cons_succ, List.setIfInBounds_toArray, List.set_cons_zero, List.set_cons_succ]
        refine wpAnyH_ready (rs := [6]) (by kernel_rfl) (by simp) ?_
        refine AllReadyH.cons rfl (fun K hK => ?_) AllReadyH.nil
        go_simp
        refine hSub.mono ?_
        rintro e w7 ⟨rfl, hto7⟩
        clear hSub
        have hq7 : w7.heap[bb]? = some (.cells #[.int .i64 p.c, .int .i64 p.q, .int .i64 p.h, .string p.t] 38 (0, 0)) := hto7.blk (w := w5.drew) hbb (by rw [submit_n]; exact h5.syn.not_own hbb (by unfold ownT; decide))
        have hcbk : w7.heap[cb]? = some (.cells #[.pointer (some ⟨sb, 0, none⟩), .int .i64 (s.n : Int), pv, lv] 30 (0, 0)) := hto7.blk (w := w5.drew) h5.blk (by rw [submit_n]; exact h5.cbNot)
        have hc7 : w7.cell? ⟨cb, 0, none⟩ = some (.pointer (some ⟨sb, 0, none⟩)) := (blk_cell hcbk 0).trans rfl
        go_wp2_with fail
        refine hK.out _ _ ⟨hq7, hc7⟩ (fun hS => ?_)
        clear hK K
        try simp only [Act.put, List.getElem_toArray, List.getElem_cons_zero, List.getElem_cons_succ, List.setIfInBounds_toArray, List.set_cons_zero, List.set_cons_succ]
        refine wpAnyH_ready (rs := [7]) (by kernel_rfl) (by simp) ?_
        refine AllReadyH.cons rfl (fun K hK => ?_) AllReadyH.nil
        go_simp
        refine hK.out _ _ ⟨hq7, hc7⟩ (fun hS => ?_)
        clear hK K
        try simp only [Act.put, List.getElem_toArray, List.getElem_cons_zero, List.getElem_cons_succ, List.setIfInBounds_toArray, List.set_cons_zero, List.set_cons_succ]
        refine wpAnyH_done (by kernel_rfl) ?_ _
        by_cases hE0 : E = 0
        · subst hE0
          rw [if_pos rfl] at hgood
          have hmv : Mv s ps (s.submit i p) (ps ++ [p]) := by
            have m := Mv.sub s ps i p hin hpr
            rw [← HEE.out, if_pos rfl] at m
            exact m
          obtain ⟨i0, hi0, hz0, hz1', hz2'⟩ := info_parts Try.infoPost
          obtain ⟨pa, pc, hpv, _⟩ := (owns_row hAt.posts).form
          subst hpv
          have hpo7 : w7.ownsRow 0 38 4 (.slice pa ps.length pc) ps.length (pcells ps) := by
            obtain ⟨L7, _, _, _, k7⟩ := id hto7
            rw [submit_n] at k7
            exact owns_keeps (w := w5.drew) h5.posts k7 (fun g hg => h5.pvNot hg)
          have hfew := h5.good.few h5.syn.ok
          have hbd : ps.length + 1 ≤ maxLen ∧ (ps.length + 1) * 40 ≤ 140737488355328 := ⟨by unfold maxLen; omega, by omega⟩
          have h1c : ∀ u ∈ [Value.int .i64 p.c, .int .i64 p.q, .int .i64 p.h, .string p.t], u.oneCell' = true := by
            intro u hu; simp at hu; rcases hu with rfl | rfl | rfl | rfl <;> rfl
          have hpvbb : (Value.slice pa ps.length pc).ownBlock ≠ some bb := fun e => by have h8 := hAt.own_lt (.inr (.inr e)); omega
          have hpc7 : w7.cell? ⟨cb, 2, none⟩ = some (.slice pa ps.length pc) := (blk_cell hcbk 2).trans rfl
          have hpc8 : ∀ o, (w7.alloc o).cell? ⟨cb, 2, none⟩ = some (.slice pa ps.length pc) := fun o => (blk_cell (blk_alloc hcbk o) 2).trans rfl
          go_wp2_with fail
          refine wp_region_held_drew (S := fun w' => w'.heap[bb]? = some (.cells #[.int .i64 p.c, .int .i64 p.q, .int .i64 p.h, .string p.t] 38 (0, 0))) (by kernel_rfl) (hq7) (fun hS => ?_)
          refine wpAnyH_take (i := 0) (v := ?_) rfl (by kernel_rfl) (by kernel_rfl) (by kernel_rfl) (fun _ _ _ h => h) (Or.inl ⟨by kernel_rfl, fun w' hw => ?_⟩) hS ?_
          rotate_left 1
          · go_simp; all_goals with_reducible rfl
          try simp only [Act.put, List.getElem_toArray, List.getElem_cons_zero, List.getElem_cons_succ, List.setIfInBounds_toArray, List.set_cons_zero, List.set_cons_succ]
          refine wpAnyH_take (i := 1) (v := ?_) rfl (by kernel_rfl) (by kernel_rfl) (by kernel_rfl) (fun _ _ _ h => h) (Or.inl ⟨by kernel_rfl, fun w' hw => ?_⟩) hS ?_
          rotate_left 1
          · go_simp; all_goals with_reducible rfl
          try simp only [Act.put, List.getElem_toArray, List.getElem_cons_zero, List.getElem_cons_succ, List.setIfInBounds_toArray, List.set_cons_zero, List.set_cons_succ]
          refine wpAnyH_take (i := 2) (v := ?_) rfl (by kernel_rfl) (by kernel_rfl) (by kernel_rfl) (fun _ _ _ h => h) (Or.inl ⟨by kernel_rfl, fun w' hw => ?_⟩) hS ?_
          rotate_left 1
          · go_simp; all_goals with_reducible rfl
          try simp only [Act.put, List.getElem_toArray, List.getElem_cons_zero, List.getElem_cons_succ, List.setIfInBounds_toArray, List.set_cons_zero, List.set_cons_succ]
          refine wpAnyH_take (i := 3) (v := ?_) rfl (by kernel_rfl) (by kernel_rfl) (by kernel_rfl) (fun _ _ _ h => h) (Or.inl ⟨by kernel_rfl, fun w' hw => ?_⟩) hS ?_
          rotate_left 1
          · go_simp; all_goals with_reducible rfl
          try simp only [Act.put, List.getElem_toArray, List.getElem_cons_zero, List.getElem_cons_succ, List.setIfInBounds_toArray, List.set_cons_zero, List.set_cons_succ]
          refine wpAnyH_take (i := 5) (v := ?_) rfl (by kernel_rfl) (by kernel_rfl) (by kernel_rfl) (fun _ _ _ h => h) (Or.inl ⟨by kernel_rfl, fun w' hw => ?_⟩) hS ?_
          rotate_left 1
          · have d1 := blk_cell hw; go_simp; all_goals with_reducible rfl
          try simp only [Act.put, List.getElem_toArray, List.getElem_cons_zero, List.getElem_cons_succ, List.setIfInBounds_toArray, List.set_cons_zero, List.set_cons_succ]
          refine wpAnyH_ready (rs := [4, 6]) (by kernel_rfl) (by simp) ?_
          refine AllReadyH.cons rfl (fun K hK => ?_) (AllReadyH.cons rfl (fun K hK => ?_) AllReadyH.nil)
          · go_simp
            refine hK.out _ _ hq7 (fun hS => ?_)
            clear hK K
            try simp only [Act.put, List.getElem_toArray, List.getElem_cons_zero, List.getElem_cons_succ, List.setIfInBounds_toArray, List.set_cons_zero, List.set_cons_succ]
            refine wpAnyH_ready (rs := [6]) (by kernel_rfl) (by simp) ?_
            refine AllReadyH.cons rfl (fun K hK => ?_) AllReadyH.nil
            go_simp
            refine hK.out _ _ (blk_alloc hq7 _) (fun hS => ?_)
            clear hK K
            try simp only [Act.put, List.getElem_toArray, List.getElem_cons_zero, List.getElem_cons_succ, List.setIfInBounds_toArray, List.set_cons_zero, List.set_cons_succ]
            refine wpAnyH_ready (rs := [7]) (by kernel_rfl) (by simp) ?_
            refine AllReadyH.cons rfl (fun K hK => ?_) AllReadyH.nil
            refine step_append_lies _ rfl (.tmp 80) (.tmp 82) 25 rfl 0 38 i0 _ 4 40 Try.underlying25 hi0 hz0 hz1' hz2' rfl (by decide) (.slice pa ps.length pc) ps.length (pcells ps) rfl (owns_alloc (owns_drew hpo7) _) _ 1 1 [.int .i64 p.c, .int .i64 p.q, .int .i64 p.h, .string p.t] rfl rfl (news_new _ _ rfl _ _) h1c (by decide) hbd.1 hbd.2 (Nat.zero_le _) _ rfl ?_
            intro g cap w9 hown9 hgr9 hat9 hlt9
            have hq9 := blk_grown hgr9 (blk_alloc hq7 _) hpvbb
            have hcb9 := blk_grown hgr9 (blk_alloc hcbk _) h5.pvCb
            have hc9 := blk_cell hcb9
            have hf9 := blk_free hcb9
            refine hK.out _ _ hq9 (fun hS => ?_)
            clear hK K
            try simp only [Act.put, List.getElem_toArray, List.getElem_cons_zero, List.getElem_cons_succ, List.setIfInBounds_toArray, List.set_cons_zero, List.set_cons_succ]
            refine wpAnyH_take (i := 8) (v := ?_) rfl (by kernel_rfl) (by kernel_rfl) (by kernel_rfl) (fun _ _ _ h => h) (Or.inl ⟨by kernel_rfl, fun w' hw => ?_⟩) hS ?_
            rotate_left 1
            · go_simp; all_goals with_reducible rfl
            try simp only [Act.put, List.getElem_toArray, List.getElem_cons_zero, List.getElem_cons_succ, List.setIfInBounds_toArray, List.set_cons_zero, List.set_cons_succ]
            refine wpAnyH_take (i := 9) (v := ?_) rfl (by kernel_rfl) (by kernel_rfl) (by kernel_rfl) (fun _ _ _ h => h) (Or.inl ⟨by kernel_rfl, fun w' hw => ?_⟩) hS ?_
            rotate_left 1
            · go_simp; all_goals with_reducible rfl
            try simp only [Act.put, List.getElem_toArray, List.getElem_cons_zero, List.getElem_cons_succ, List.setIfInBounds_toArray, List.set_cons_zero, List.set_cons_succ]
            refine wpAnyH_ready (rs := [10]) (by kernel_rfl) (by simp) ?_
            refine AllReadyH.cons rfl (fun K hK => ?_) AllReadyH.nil
            go_simp
            have hq10 := blk_set_other hq9 (a := ⟨cb, 2, none⟩) hbcb (.slice (some ⟨g, 0, none⟩) (ps.length + 1) cap)
            refine hK.out _ _ hq10 (fun hS => ?_)
            clear hK K
            try simp only [Act.put, List.getElem_toArray, List.getElem_cons_zero, List.getElem_cons_succ, List.setIfInBounds_toArray, List.set_cons_zero, List.set_cons_succ]
            refine wpAnyH_done (by kernel_rfl) ?_ _
            have hfin := (hAt.below (Below.drew hB5)).took (o := .cells #[.int .i64 p.c, .int .i64 p.q, .int .i64 p.h, .string p.t] 38) hto7 (submit_n _ _ _) hgood hown9 ⟨hgr9.os, hgr9.tape, hgr9.output, hgr9.size, hgr9.block⟩ hat9
            clear hc9 hf9 hcb9
            go_wp2_with fail
            go_ret
            exact ⟨rfl, _, _, Mvs.one hAt.syn.ok hmv, ChatTo.after (Below.drew hB5) hfin⟩
          · go_simp
            refine hK.out _ _ (blk_alloc hq7 _) (fun hS => ?_)
            clear hK K
            try simp only [Act.put, List.getElem_toArray, List.getElem_cons_zero, List.getElem_cons_succ, List.setIfInBounds_toArray, List.set_cons_zero, List.set_cons_succ]
            refine wpAnyH_ready (rs := [4]) (by kernel_rfl) (by simp) ?_
            refine AllReadyH.cons rfl (fun K hK => ?_) AllReadyH.nil
            go_simp
            refine hK.out _ _ (blk_alloc hq7 _) (fun hS => ?_)
            clear hK K
            try simp only [Act.put, List.getElem_toArray, List.getElem_cons_zero, List.getElem_cons_succ, List.setIfInBounds_toArray, List.set_cons_zero, List.set_cons_succ]
            refine wpAnyH_ready (rs := [7]) (by kernel_rfl) (by simp) ?_
            refine AllReadyH.cons rfl (fun K hK => ?_) AllReadyH.nil
            refine step_append_lies _ rfl (.tmp 80) (.tmp 82) 25 rfl 0 38 i0 _ 4 40 Try.underlying25 hi0 hz0 hz1' hz2' rfl (by decide) (.slice pa ps.length pc) ps.length (pcells ps) rfl (owns_alloc (owns_drew hpo7) _) _ 1 1 [.int .i64 p.c, .int .i64 p.q, .int .i64 p.h, .string p.t] rfl rfl (news_new _ _ rfl _ _) h1c (by decide) hbd.1 hbd.2 (Nat.zero_le _) _ rfl ?_
            intro g cap w9 hown9 hgr9 hat9 hlt9
            have hq9 := blk_grown hgr9 (blk_alloc hq7 _) hpvbb
            have hcb9 := blk_grown hgr9 (blk_alloc hcbk _) h5.pvCb
            have hc9 := blk_cell hcb9
            have hf9 := blk_free hcb9
            refine hK.out _ _ hq9 (fun hS => ?_)
            clear hK K
            try simp only [Act.put, List.getElem_toArray, List.getElem_cons_zero, List.getElem_cons_succ, List.setIfInBounds_toArray, List.set_cons_zero, List.set_cons_succ]
            refine wpAnyH_take (i := 8) (v := ?_) rfl (by kernel_rfl) (by kernel_rfl) (by kernel_rfl) (fun _ _ _ h => h) (Or.inl ⟨by kernel_rfl, fun w' hw => ?_⟩) hS ?_
            rotate_left 1
            · go_simp; all_goals with_reducible rfl
            try simp only [Act.put, List.getElem_toArray, List.getElem_cons_zero, List.getElem_cons_succ, List.setIfInBounds_toArray, List.set_cons_zero, List.set_cons_succ]
            refine wpAnyH_take (i := 9) (v := ?_) rfl (by kernel_rfl) (by kernel_rfl) (by kernel_rfl) (fun _ _ _ h => h) (Or.inl ⟨by kernel_rfl, fun w' hw => ?_⟩) hS ?_
            rotate_left 1
            · go_simp; all_goals with_reducible rfl
            try simp only [Act.put, List.getElem_toArray, List.getElem_cons_zero, List.getElem_cons_succ, List.setIfInBounds_toArray, List.set_cons_zero, List.set_cons_succ]
            refine wpAnyH_ready (rs := [10]) (by kernel_rfl) (by simp) ?_
            refine AllReadyH.cons rfl (fun K hK => ?_) AllReadyH.nil
            go_simp
            have hq10 := blk_set_other hq9 (a := ⟨cb, 2, none⟩) hbcb (.slice (some ⟨g, 0, none⟩) (ps.length + 1) cap)
            refine hK.out _ _ hq10 (fun hS => ?_)
            clear hK K
            try simp only [Act.put, List.getElem_toArray, List.getElem_cons_zero, List.getElem_cons_succ, List.setIfInBounds_toArray, List.set_cons_zero, List.set_cons_succ]
            refine wpAnyH_done (by kernel_rfl) ?_ _
            have hfin := (hAt.below (Below.drew hB5)).took (o := .cells #[.int .i64 p.c, .int .i64 p.q, .int .i64 p.h, .string p.t] 38) hto7 (submit_n _ _ _) hgood hown9 ⟨hgr9.os, hgr9.tape, hgr9.output, hgr9.size, hgr9.block⟩ hat9
            clear hc9 hf9 hcb9
            go_wp2_with fail
            go_ret
            exact ⟨rfl, _, _, Mvs.one hAt.syn.ok hmv, ChatTo.after (Below.drew hB5) hfin⟩
        · rw [if_neg hE0] at hgood
          have hch := (hAt.below (Below.drew hB5)).to hto7 hgood (submit_n _ _ _)
          have hmv : Mv s ps (s.submit i p) ps := by
            have m := Mv.sub s ps i p hin hpr
            rw [← HEE.out, if_neg hE0] at m
            exact m
          have hEb : (E == 0) = false := by simpa using hE0
          rcases hE with hE | hE | hE | hE | hE
          · exact absurd hE hE0
          all_goals
            subst hE
            go_wp2_with fail
            go_ret
            exact ⟨rfl, _, _, Mvs.one hAt.syn.ok hmv, ChatTo.after (Below.drew hB5) hch⟩
      · go_simp
        have hz : (w2.alloc (.cells #[.int .i64 0, .int .i64 0, .int .i64 0, .string ⟨#[]⟩] 38)).heap[w2.heap.size]? = some (.cells #[.int .i64 0, .int .i64 0, .int .i64 0, .string ⟨#[]⟩] 38 (0, 0)) := blk_new w2 _
        have hx4 := blk_alloc hx2 (.cells #[.int .i64 0, .int .i64 0, .int .i64 0, .string ⟨#[]⟩] 38)
        have hB4' : Below w.heap.size w (w2.alloc (.cells #[.int .i64 0, .int .i64 0, .int .i64 0, .string ⟨#[]⟩] 38)) := hB2'.alloc hB2'.size _
        have hc4 : (w2.alloc (.cells #[.int .i64 0, .int .i64 0, .int .i64 0, .string ⟨#[]⟩] 38)).cell? ⟨cb, 1, none⟩ = some (.int .i64 (s.n : Int)) := (blk_cell (hAt.below hB4').blk 1).trans rfl
        refine hK.out _ _ ⟨hx4, hc4⟩ (fun hS => ?_)
        clear hK K
        try simp only [Act.put, List.getElem_toArray, List.getElem_cons_zero, List.getElem_cons_succ, List.setIfInBounds_toArray, List.set_cons_zero, List.set_cons_succ]
        refine wpAnyH_ready (rs := [9]) (by kernel_rfl) (by simp) ?_
        refine AllReadyH.cons rfl (fun K hK => ?_) AllReadyH.nil
        go_simp
        refine (hPo _).mono ?_
        rintro e w4 ⟨rfl, hB4⟩
        clear hPo
        have hB5 : Below w.heap.size w w4 := Below.trans hB4' (Below.trans (Below.drew (Below.drew (Below.refl _ _))) hB4 |>.mono hB4'.size)
        have hx5 := blk_below hB4 hx4
        have hz5 := blk_below hB4 hz
        have hc5 : w4.cell? ⟨cb, 1, none⟩ = some (.int .i64 (s.n : Int)) := (blk_cell (hAt.below hB5).blk 1).trans rfl
        go_wp2_with fail
        refine hK.out _ _ ⟨hx5, hc5⟩ (fun hS => ?_)
        clear hK K
        try simp only [Act.put, List.getElem_toArray, List.getElem_cons_zero, List.getElem_cons_succ, List.setIfInBounds_toArray, List.set_cons_zero, List.set_cons_succ]
        refine wpAnyH_ready (rs := [11]) (by kernel_rfl) (by simp) ?_
        refine AllReadyH.cons rfl (fun K hK => ?_) AllReadyH.nil
        rw [if_pos (by kernel_rfl)]
        have hpr := postZ_right (a.tdiv (s.n : Int)) b
        generalize postZ (a.tdiv (s.n : Int)) b = p at *
        have hth : World.there w4 w2.heap.size 0 4 := fun j hj => ⟨by rw [blk_cell hz5, Nat.zero_add, Array.getElem?_eq_getElem (by exact hj)]; rfl, blk_free hz5 _⟩
        have hi4 : (Try.prog.info? 38).map (·.size) = some (#[.int .i64 p.c, .int .i64 p.q, .int .i64 p.h, .string p.t] : Array Value).size := by kernel_rfl
        have h14 : (#[.int .i64 p.c, .int .i64 p.q, .int .i64 p.h, .string p.t] : Array Value).all (·.oneCell') = true := by simp [Value.oneCell']
        refine wp_store_mid 38 (.tmp 9) (.tmp 66) rfl w2.heap.size 0 #[.int .i64 p.c, .int .i64 p.q, .int .i64 p.h, .string p.t] rfl rfl hth hi4 h14 ?_
        have hbb : (World.setCells w4 w2.heap.size 0 (#[.int .i64 p.c, .int .i64 p.q, .int .i64 p.h, .string p.t] : Array Value).toList).heap[w2.heap.size]? = some (.cells #[.int .i64 p.c, .int .i64 p.q, .int .i64 p.h, .string p.t] 38 (0, 0)) := setCells_self w2.heap.size 38 (#[.int .i64 p.c, .int .i64 p.q, .int .i64 p.h, .string p.t] : Array Value).toList 0 _ _ hz5 (by simp)
        have hge : w.heap.size < w2.heap.size := by have h8 := lt_of_block hx2; have h9 := hB4.size; simp at *; omega
        have hB5' : Below w.heap.size w (World.setCells w4 w2.heap.size 0 (#[.int .i64 p.c, .int .i64 p.q, .int .i64 p.h, .string p.t] : Array Value).toList) := Keeps.toBelow hB5 (Keeps.ofSets (P := fun k => k = w2.heap.size) w2.heap.size rfl _ _ _) (fun k hk => by omega) hB5.size
        have hx6 : (World.setCells w4 w2.heap.size 0 (#[.int .i64 p.c, .int .i64 p.q, .int .i64 p.h, .string p.t] : Array Value).toList).heap[w.heap.size]? = some (.cells #[.int .i64 1, .int .i64 a, .int .i64 b] 48 (0, 0)) := by rw [setCells_other w2.heap.size _ _ _ _ (by omega)]; exact hx5
        have hc6 : (World.setCells w4 w2.heap.size 0 (#[.int .i64 p.c, .int .i64 p.q, .int .i64 p.h, .string p.t] : Array Value).toList).cell? ⟨cb, 1, none⟩ = some (.int .i64 (s.n : Int)) := (blk_cell (hAt.below hB5').blk 1).trans rfl
        refine hK.out _ _ ⟨hx6, hc6⟩ (fun hS => ?_)
        clear hK K
        try simp only [Act.put, List.getElem_toArray, List.getElem_cons_zero, List.getElem_cons_succ, List.setIfInBounds_toArray, List.set_cons_zero, List.set_cons_succ]
        refine wpAnyH_done (by kernel_rfl) ?_ _
        clear hth
        generalize World.setCells w4 w2.heap.size 0 (#[.int .i64 p.c, .int .i64 p.q, .int .i64 p.h, .string p.t] : Array Value).toList = w5 at *
        generalize w2.heap.size = bb at *
        clear hB5
        have hB5 := hB5'
        clear hB5'
        have h5 := hAt.below hB5
        have hc0 : w5.cell? ⟨cb, 0, none⟩ = some (.pointer (some ⟨sb, 0, none⟩)) := (blk_cell h5.blk 0).trans rfl
        have hbcb : bb ≠ cb := by have h8 := lt_of_block hAt.blk; omega
        have hSub := submit_yes (h5.syn.below (Below.drew (Below.refl _ w5))) hin p hpr (h5.good.bal h5.syn.ok hin)
        have hE : s.subE i p = 0 ∨ s.subE i p = 3 ∨ s.subE i p = 4 ∨ s.subE i p = 5 ∨ s.subE i p = 6 := subE_vals s i p
        have hgood := mvs_good h5.good h5.syn.ok (.sub s ps i p hin hpr)
        have hEq : Hid (∀ e, s.subE i p = e → s.subE i p = e) := fun _ h => h
        obtain ⟨E, hEE⟩ : ∃ E, E = s.subE i p := ⟨_, rfl⟩
        rw [← hEE] at hSub hE hgood
        have HEE : Hid (E = s.subE i p) := hEE
        clear hEE
        go_wp2_with fail
        refine wp_region_held_drew (S := fun w' => w'.heap[bb]? = some (.cells #[.int .i64 p.c, .int .i64 p.q, .int .i64 p.h, .string p.t] 38 (0, 0)) ∧ w'.cell? ⟨cb, 0, none⟩ = some (.pointer (some ⟨sb, 0, none⟩))) (by kernel_rfl) (⟨hbb, hc0⟩) (fun hS => ?_)
        refine wpAnyH_take (i := 0) (v := ?_) rfl (by kernel_rfl) (by kernel_rfl) (by kernel_rfl) (fun _ _ _ h => h) (Or.inl ⟨by kernel_rfl, fun w' hw => ?_⟩) hS ?_
        rotate_left 1
        · have d1 := blk_cell hw.1; have d2 := hw.2; go_simp; all_goals with_reducible rfl
        try simp only [Act.put, List.getElem_toArray, List.getElem_cons_zero, List.getElem_cons_succ, List.setIfInBounds_toArray, List.set_cons_zero, List.set_cons_succ]
        refine wpAnyH_take (i := 1) (v := ?_) rfl (by kernel_rfl) (by kernel_rfl) (by kernel_rfl) (fun _ _ _ h => h) (Or.inl ⟨by kernel_rfl, fun w' hw => ?_⟩) hS ?_
        rotate_left 1
        · have d1 := blk_cell hw.1; have d2 := hw.2; go_simp; all_goals with_reducible rfl
        try simp only [Act.put, List.getElem_toArray, List.getElem_cons_zero, List.getElem_cons_succ, List.setIfInBounds_toArray, List.set_cons_zero, List.set_cons_succ]
        refine wpAnyH_take (i := 2) (v := ?_) rfl (by kernel_rfl) (by kernel_rfl) (by kernel_rfl) (fun _ _ _ h => h) (Or.inl ⟨by kernel_rfl, fun w' hw => ?_⟩) hS ?_
        rotate_left 1
        · have d1 := blk_cell hw.1; have d2 := hw.2; go_simp; all_goals with_reducible rfl
        try simp only [Act.put, List.getElem_toArray, List.getElem_cons_zero, List.getElem_cons_succ, List.setIfInBounds_toArray, List.set_cons_zero, List.set_cons_succ]
        refine wpAnyH_take (i := 3) (v := ?_) rfl (by kernel_rfl) (by kernel_rfl) (by kernel_rfl) (fun _ _ _ h => h) (Or.inl ⟨by kernel_rfl, fun w' hw => ?_⟩) hS ?_
        rotate_left 1
        · have d1 := blk_cell hw.1; have d2 := hw.2; go_simp; all_goals with_reducible rfl
        try simp only [Act.put, List.getElem_toArray, List.getElem_cons_zero, List.getElem_cons_succ, List.setIfInBounds_toArray, List.set_cons_zero, List.set_cons_succ]
        refine wpAnyH_take (i := 4) (v := ?_) rfl (by kernel_rfl) (by kernel_rfl) (by kernel_rfl) (fun _ _ _ h => h) (Or.inl ⟨by kernel_rfl, fun w' hw => ?_⟩) hS ?_
        rotate_left 1
        · have d1 := blk_cell hw.1; have d2 := hw.2; go_simp; all_goals with_reducible rfl
        try simp only [Act.put, List.getElem_toArray, List.getElem_cons_zero, List.getElem_cons_succ, List.setIfInBounds_toArray, List.set_cons_zero, List.set_cons_succ]
        refine wpAnyH_take (i := 5) (v := ?_) rfl (by kernel_rfl) (by kernel_rfl) (by kernel_rfl) (fun _ _ _ h => h) (Or.inl ⟨by kernel_rfl, fun w' hw => ?_⟩) hS ?_
        rotate_left 1
        · have d1 := blk_cell hw.1; have d2 := hw.2; go_simp; all_goals with_reducible rfl
        try simp only [Act.put, List.getElem_toArray, List.getElem_cons_zero, List.getElem_cons_succ, List.setIfInBounds_toArray, List.set_cons_zero, List.set_cons_succ]
        refine wpAnyH_ready (rs := [6]) (by kernel_rfl) (by simp) ?_
        refine AllReadyH.cons rfl (fun K hK => ?_) AllReadyH.nil
        go_simp
        refine hSub.mono ?_
        rintro e w7 ⟨rfl, hto7⟩
        clear hSub
        have hq7 : w7.heap[bb]? = some (.cells #[.int .i64 p.c, .int .i64 p.q, .int .i64 p.h, .string p.t] 38 (0, 0)) := hto7.blk (w := w5.drew) hbb (by rw [submit_n]; exact h5.syn.not_own hbb (by unfold ownT; decide))
        have hcbk : w7.heap[cb]? = some (.cells #[.pointer (some ⟨sb, 0, none⟩), .int .i64 (s.n : Int), pv, lv] 30 (0, 0)) := hto7.blk (w := w5.drew) h5.blk (by rw [submit_n]; exact h5.cbNot)
        have hc7 : w7.cell? ⟨cb, 0, none⟩ = some (.pointer (some ⟨sb, 0, none⟩)) := (blk_cell hcbk 0).trans rfl
        go_wp2_with fail
        refine hK.out _ _ ⟨hq7, hc7⟩ (fun hS => ?_)
        clear hK K
        try simp only [Act.put, List.getElem_toArray, List.getElem_cons_zero, List.getElem_cons_succ, List.setIfInBounds_toArray, List.set_cons_zero, List.set_cons_succ]
        refine wpAnyH_ready (rs := [7]) (by kernel_rfl) (by simp) ?_
        refine AllReadyH.cons rfl (fun K hK => ?_) AllReadyH.nil
        go_simp
        refine hK.out _ _ ⟨hq7, hc7⟩ (fun hS => ?_)
        clear hK K
        try simp only [Act.put, List.getElem_toArray, List.getElem_cons_zero, List.getElem_cons_succ, List.setIfInBounds_toArray, List.set_cons_zero, List.set_cons_succ]
        refine wpAnyH_done (by kernel_rfl) ?_ _
        by_cases hE0 : E = 0
        · subst hE0
          rw [if_pos rfl] at hgood
          have hmv : Mv s ps (s.submit i p) (ps ++ [p]) := by
            have m := Mv.sub s ps i p hin hpr
            rw [← HEE.out, if_pos rfl] at m
            exact m
          obtain ⟨i0, hi0, hz0, hz1', hz2'⟩ := info_parts Try.infoPost
          obtain ⟨pa, pc, hpv, _⟩ := (owns_row hAt.posts).form
          subst hpv
          have hpo7 : w7.ownsRow 0 38 4 (.slice pa ps.length pc) ps.length (pcells ps) := by
            obtain ⟨L7, _, _, _, k7⟩ := id hto7
            rw [submit_n] at k7
            exact owns_keeps (w := w5.drew) h5.posts k7 (fun g hg => h5.pvNot hg)
          have hfew := h5.good.few h5.syn.ok
          have hbd : ps.length + 1 ≤ maxLen ∧ (ps.length + 1) * 40 ≤ 140737488355328 := ⟨by unfold maxLen; omega, by omega⟩
          have h1c : ∀ u ∈ [Value.int .i64 p.c, .int .i64 p.q, .int .i64 p.h, .string p.t], u.oneCell' = true := by
            intro u hu; simp at hu; rcases hu with rfl | rfl | rfl | rfl <;> rfl
          have hpvbb : (Value.slice pa ps.length pc).ownBlock ≠ some bb := fun e => by have h8 := hAt.own_lt (.inr (.inr e)); omega
          have hpc7 : w7.cell? ⟨cb, 2, none⟩ = some (.slice pa ps.length pc) := (blk_cell hcbk 2).trans rfl
          have hpc8 : ∀ o, (w7.alloc o).cell? ⟨cb, 2, none⟩ = some (.slice pa ps.length pc) := fun o => (blk_cell (blk_alloc hcbk o) 2).trans rfl
          go_wp2_with fail
          refine wp_region_held_drew (S := fun w' => w'.heap[bb]? = some (.cells #[.int .i64 p.c, .int .i64 p.q, .int .i64 p.h, .string p.t] 38 (0, 0))) (by kernel_rfl) (hq7) (fun hS => ?_)
          refine wpAnyH_take (i := 0) (v := ?_) rfl (by kernel_rfl) (by kernel_rfl) (by kernel_rfl) (fun _ _ _ h => h) (Or.inl ⟨by kernel_rfl, fun w' hw => ?_⟩) hS ?_
          rotate_left 1
          · go_simp; all_goals with_reducible rfl
          try simp only [Act.put, List.getElem_toArray, List.getElem_cons_zero, List.getElem_cons_succ, List.setIfInBounds_toArray, List.set_cons_zero, List.set_cons_succ]
          refine wpAnyH_take (i := 1) (v := ?_) rfl (by kernel_rfl) (by kernel_rfl) (by kernel_rfl) (fun _ _ _ h => h) (Or.inl ⟨by kernel_rfl, fun w' hw => ?_⟩) hS ?_
          rotate_left 1
          · go_simp; all_goals with_reducible rfl
          try simp only [Act.put, List.getElem_toArray, List.getElem_cons_zero, List.getElem_cons_succ, List.setIfInBounds_toArray, List.set_cons_zero, List.set_cons_succ]
          refine wpAnyH_take (i := 2) (v := ?_) rfl (by kernel_rfl) (by kernel_rfl) (by kernel_rfl) (fun _ _ _ h => h) (Or.inl ⟨by kernel_rfl, fun w' hw => ?_⟩) hS ?_
          rotate_left 1
          · go_simp; all_goals with_reducible rfl
          try simp only [Act.put, List.getElem_toArray, List.getElem_cons_zero, List.getElem_cons_succ, List.setIfInBounds_toArray, List.set_cons_zero, List.set_cons_succ]
          refine wpAnyH_take (i := 3) (v := ?_) rfl (by kernel_rfl) (by kernel_rfl) (by kernel_rfl) (fun _ _ _ h => h) (Or.inl ⟨by kernel_rfl, fun w' hw => ?_⟩) hS ?_
          rotate_left 1
          · go_simp; all_goals with_reducible rfl
          try simp only [Act.put, List.getElem_toArray, List.getElem_cons_zero, List.getElem_cons_succ, List.setIfInBounds_toArray, List.set_cons_zero, List.set_cons_succ]
          refine wpAnyH_take (i := 5) (v := ?_) rfl (by kernel_rfl) (by kernel_rfl) (by kernel_rfl) (fun _ _ _ h => h) (Or.inl ⟨by kernel_rfl, fun w' hw => ?_⟩) hS ?_
          rotate_left 1
          · have d1 := blk_cell hw; go_simp; all_goals with_reducible rfl
          try simp only [Act.put, List.getElem_toArray, List.getElem_cons_zero, List.getElem_cons_succ, List.setIfInBounds_toArray, List.set_cons_zero, List.set_cons_succ]
          refine wpAnyH_ready (rs := [4, 6]) (by kernel_rfl) (by simp) ?_
          refine AllReadyH.cons rfl (fun K hK => ?_) (AllReadyH.cons rfl (fun K hK => ?_) AllReadyH.nil)
          · go_simp
            refine hK.out _ _ hq7 (fun hS => ?_)
            clear hK K
            try simp only [Act.put, List.getElem_toArray, List.getElem_cons_zero, List.getElem_cons_succ, List.setIfInBounds_toArray, List.set_cons_zero, List.set_cons_succ]
            refine wpAnyH_ready (rs := [6]) (by kernel_rfl) (by simp) ?_
            refine AllReadyH.cons rfl (fun K hK => ?_) AllReadyH.nil
            go_simp
            refine hK.out _ _ (blk_alloc hq7 _) (fun hS => ?_)
            clear hK K
            try simp only [Act.put, List.getElem_toArray, List.getElem_cons_zero, List.getElem_cons_succ, List.setIfInBounds_toArray, List.set_cons_zero, List.set_cons_succ]
            refine wpAnyH_ready (rs := [7]) (by kernel_rfl) (by simp) ?_
            refine AllReadyH.cons rfl (fun K hK => ?_) AllReadyH.nil
            refine step_append_lies _ rfl (.tmp 80) (.tmp 82) 25 rfl 0 38 i0 _ 4 40 Try.underlying25 hi0 hz0 hz1' hz2' rfl (by decide) (.slice pa ps.length pc) ps.length (pcells ps) rfl (owns_alloc (owns_drew hpo7) _) _ 1 1 [.int .i64 p.c, .int .i64 p.q, .int .i64 p.h, .string p.t] rfl rfl (news_new _ _ rfl _ _) h1c (by decide) hbd.1 hbd.2 (Nat.zero_le _) _ rfl ?_
            intro g cap w9 hown9 hgr9 hat9 hlt9
            have hq9 := blk_grown hgr9 (blk_alloc hq7 _) hpvbb
            have hcb9 := blk_grown hgr9 (blk_alloc hcbk _) h5.pvCb
            have hc9 := blk_cell hcb9
            have hf9 := blk_free hcb9
            refine hK.out _ _ hq9 (fun hS => ?_)
            clear hK K
            try simp only [Act.put, List.getElem_toArray, List.getElem_cons_zero, List.getElem_cons_succ, List.setIfInBounds_toArray, List.set_cons_zero, List.set_cons_succ]
            refine wpAnyH_take (i := 8) (v := ?_) rfl (by kernel_rfl) (by kernel_rfl) (by kernel_rfl) (fun _ _ _ h => h) (Or.inl ⟨by kernel_rfl, fun w' hw => ?_⟩) hS ?_
            rotate_left 1
            · go_simp; all_goals with_reducible rfl
            try simp only [Act.put, List.getElem_toArray, List.getElem_cons_zero, List.getElem_cons_succ, List.setIfInBounds_toArray, List.set_cons_zero, List.set_cons_succ]
            refine wpAnyH_take (i := 9) (v := ?_) rfl (by kernel_rfl) (by kernel_rfl) (by kernel_rfl) (fun _ _ _ h => h) (Or.inl ⟨by kernel_rfl, fun w' hw => ?_⟩) hS ?_
            rotate_left 1
            · go_simp; all_goals with_reducible rfl
            try simp only [Act.put, List.getElem_toArray, List.getElem_cons_zero, List.getElem_cons_succ, List.setIfInBounds_toArray, List.set_cons_zero, List.set_cons_succ]
            refine wpAnyH_ready (rs := [10]) (by kernel_rfl) (by simp) ?_
            refine AllReadyH.cons rfl (fun K hK => ?_) AllReadyH.nil
            go_simp
            have hq10 := blk_set_other hq9 (a := ⟨cb, 2, none⟩) hbcb (.slice (some ⟨g, 0, none⟩) (ps.length + 1) cap)
            refine hK.out _ _ hq10 (fun hS => ?_)
            clear hK K
            try simp only [Act.put, List.getElem_toArray, List.getElem_cons_zero, List.getElem_cons_succ, List.setIfInBounds_toArray, List.set_cons_zero, List.set_cons_succ]
            refine wpAnyH_done (by kernel_rfl) ?_ _
            have hfin := (hAt.below (Below.drew hB5)).took (o := .cells #[.int .i64 p.c, .int .i64 p.q, .int .i64 p.h, .string p.t] 38) hto7 (submit_n _ _ _) hgood hown9 ⟨hgr9.os, hgr9.tape, hgr9.output, hgr9.size, hgr9.block⟩ hat9
            clear hc9 hf9 hcb9
            go_wp2_with fail
            go_ret
            exact ⟨rfl, _, _, Mvs.one hAt.syn.ok hmv, ChatTo.after (Below.drew hB5) hfin⟩
          · go_simp
            refine hK.out _ _ (blk_alloc hq7 _) (fun hS => ?_)
            clear hK K
            try simp only [Act.put, List.getElem_toArray, List.getElem_cons_zero, List.getElem_cons_succ, List.setIfInBounds_toArray, List.set_cons_zero, List.set_cons_succ]
            refine wpAnyH_ready (rs := [4]) (by kernel_rfl) (by simp) ?_
            refine AllReadyH.cons rfl (fun K hK => ?_) AllReadyH.nil
            go_simp
            refine hK.out _ _ (blk_alloc hq7 _) (fun hS => ?_)
            clear hK K
            try simp only [Act.put, List.getElem_toArray, List.getElem_cons_zero, List.getElem_cons_succ, List.setIfInBounds_toArray, List.set_cons_zero, List.set_cons_succ]
            refine wpAnyH_ready (rs := [7]) (by kernel_rfl) (by simp) ?_
            refine AllReadyH.cons rfl (fun K hK => ?_) AllReadyH.nil
            refine step_append_lies _ rfl (.tmp 80) (.tmp 82) 25 rfl 0 38 i0 _ 4 40 Try.underlying25 hi0 hz0 hz1' hz2' rfl (by decide) (.slice pa ps.length pc) ps.length (pcells ps) rfl (owns_alloc (owns_drew hpo7) _) _ 1 1 [.int .i64 p.c, .int .i64 p.q, .int .i64 p.h, .string p.t] rfl rfl (news_new _ _ rfl _ _) h1c (by decide) hbd.1 hbd.2 (Nat.zero_le _) _ rfl ?_
            intro g cap w9 hown9 hgr9 hat9 hlt9
            have hq9 := blk_grown hgr9 (blk_alloc hq7 _) hpvbb
            have hcb9 := blk_grown hgr9 (blk_alloc hcbk _) h5.pvCb
            have hc9 := blk_cell hcb9
            have hf9 := blk_free hcb9
            refine hK.out _ _ hq9 (fun hS => ?_)
            clear hK K
            try simp only [Act.put, List.getElem_toArray, List.getElem_cons_zero, List.getElem_cons_succ, List.setIfInBounds_toArray, List.set_cons_zero, List.set_cons_succ]
            refine wpAnyH_take (i := 8) (v := ?_) rfl (by kernel_rfl) (by kernel_rfl) (by kernel_rfl) (fun _ _ _ h => h) (Or.inl ⟨by kernel_rfl, fun w' hw => ?_⟩) hS ?_
            rotate_left 1
            · go_simp; all_goals with_reducible rfl
            try simp only [Act.put, List.getElem_toArray, List.getElem_cons_zero, List.getElem_cons_succ, List.setIfInBounds_toArray, List.set_cons_zero, List.set_cons_succ]
            refine wpAnyH_take (i := 9) (v := ?_) rfl (by kernel_rfl) (by kernel_rfl) (by kernel_rfl) (fun _ _ _ h => h) (Or.inl ⟨by kernel_rfl, fun w' hw => ?_⟩) hS ?_
            rotate_left 1
            · go_simp; all_goals with_reducible rfl
            try simp only [Act.put, List.getElem_toArray, List.getElem_cons_zero, List.getElem_cons_succ, List.setIfInBounds_toArray, List.set_cons_zero, List.set_cons_succ]
            refine wpAnyH_ready (rs := [10]) (by kernel_rfl) (by simp) ?_
            refine AllReadyH.cons rfl (fun K hK => ?_) AllReadyH.nil
            go_simp
            have hq10 := blk_set_other hq9 (a := ⟨cb, 2, none⟩) hbcb (.slice (some ⟨g, 0, none⟩) (ps.length + 1) cap)
            refine hK.out _ _ hq10 (fun hS => ?_)
            clear hK K
            try simp only [Act.put, List.getElem_toArray, List.getElem_cons_zero, List.getElem_cons_succ, List.setIfInBounds_toArray, List.set_cons_zero, List.set_cons_succ]
            refine wpAnyH_done (by kernel_rfl) ?_ _
            have hfin := (hAt.below (Below.drew hB5)).took (o := .cells #[.int .i64 p.c, .int .i64 p.q, .int .i64 p.h, .string p.t] 38) hto7 (submit_n _ _ _) hgood hown9 ⟨hgr9.os, hgr9.tape, hgr9.output, hgr9.size, hgr9.block⟩ hat9
            clear hc9 hf9 hcb9
            go_wp2_with fail
            go_ret
            exact ⟨rfl, _, _, Mvs.one hAt.syn.ok hmv, ChatTo.after (Below.drew hB5) hfin⟩
        · rw [if_neg hE0] at hgood
          have hch := (hAt.below (Below.drew hB5)).to hto7 hgood (submit_n _ _ _)
          have hmv : Mv s ps (s.submit i p) ps := by
            have m := Mv.sub s ps i p hin hpr
            rw [← HEE.out, if_neg hE0] at m
            exact m
          have hEb : (E == 0) = false := by simpa using hE0
          rcases hE with hE | hE | hE | hE | hE
          · exact absurd hE hE0
          all_goals
            subst hE
            go_wp2_with fail
            go_ret
            exact ⟨rfl, _, _, Mvs.one hAt.syn.ok hmv, ChatTo.after (Below.drew hB5) hch⟩
    have hk1 : (kd == 1) = false := by simpa using k1
    by_cases k3 : kd = 3
    · subst k3
      go_wp2_with fail
      go_ret
      exact ⟨rfl, _, _, Mvs.refl _ _, ChatTo.after hB3 (ChatTo.refl h3)⟩
    have hk3 : (kd == 3) = false := by simpa using k3
    by_cases k4 : kd = 4
    · subst k4
      go_wp2_with fail
      go_ret
      exact ⟨rfl, _, _, Mvs.refl _ _, ChatTo.after hB3 (ChatTo.refl h3)⟩
    have hk4 : (kd == 4) = false := by simpa using k4
    by_cases k5 : kd = 5
    · subst k5
      have hC := crash_yes h3.syn hin
      go_wp2_with fail
      refine hC.mono ?_
      rintro e w4 ⟨rfl, hto⟩
      clear hC
      have hch := h3.to hto (mvs_good h3.good h3.syn.ok (.crash s ps i hin)) rfl
      go_wp2_with fail
      go_ret
      exact ⟨rfl, _, _, Mvs.one hAt.syn.ok (.crash s ps i hin), ChatTo.after hB3 hch⟩
    have hk5 : (kd == 5) = false := by simpa using k5
    by_cases k6 : kd = 6
    · subst k6
      have hC := settled_syn h3.syn ps
      have hsn := settle_n 20000 s
      generalize Sy.settle 20000 s = S6 at *
      go_wp2_with fail
      refine hC.mono ?_
      rintro e w4 ⟨rfl, hms, hto⟩
      clear hC
      have hch := h3.to hto (goods h3.good hms) hsn
      go_wp2_with fail
      go_ret
      exact ⟨rfl, _, _, hms, ChatTo.after hB3 hch⟩
    have hk6 : (kd == 6) = false := by simpa using k6
    go_wp2_with fail
    go_ret
    exact ⟨rfl, _, _, Mvs.refl _ _, ChatTo.after hB3 (ChatTo.refl h3)⟩
  · have hpos : 0 < s.net.length := by omega
    have hz1 : decide ((0 : Int) < (s.net.length : Int)) = true := decide_eq_true (by omega)
    have hz2 : ((s.net.length : Int) == 0) = false := beq_eq_false_iff_ne.2 (by omega)
    have hJ := fun W => pick_any a (s.net.length : Int) W ha (by omega) (by omega)
    have hjb := pickZ_bound a (s.net.length : Int) (by omega)
    generalize pickZ a (s.net.length : Int) = jz at *
    obtain ⟨jn, rfl⟩ := Int.eq_ofNat_of_zero_le hjb.1
    have hjn : jn < s.net.length := by have h9 := hjb.2; exact Int.ofNat_lt.1 h9
    go_wp2_with fail
    refine (hJ _).mono ?_
    rintro e w3 ⟨rfl, hw3⟩
    have hw3' := hw3.symm
    subst hw3'
    clear hJ hw3
    go_wp2_with fail
    refine wp_region_held_drew (S := fun w' => w'.heap[w.heap.size]? = some (.cells #[.int .i64 kd, .int .i64 a, .int .i64 b] 48 (0, 0)) ∧ w'.cell? ⟨cb, 1, none⟩ = some (.int .i64 (s.n : Int))) (by kernel_rfl) (⟨hx2, hc1⟩) (fun hS => ?_)
    refine wpAnyH_take (i := 0) (v := ?_) rfl (by kernel_rfl) (by kernel_rfl) (by kernel_rfl) (fun _ _ _ h => h) (Or.inl ⟨by kernel_rfl, fun w' hw => ?_⟩) hS ?_
    rotate_left 1
    · have d1 := blk_cell hw.1; have d2 := hw.2; go_simp; all_goals with_reducible rfl
    try simp only [Act.put, List.getElem_toArray, List.getElem_cons_zero, List.getElem_cons_succ, List.setIfInBounds_toArray, List.set_cons_zero, List.set_cons_succ]
    refine wpAnyH_take (i := 1) (v := ?_) rfl (by kernel_rfl) (by kernel_rfl) (by kernel_rfl) (fun _ _ _ h => h) (Or.inl ⟨by kernel_rfl, fun w' hw => ?_⟩) hS ?_
    rotate_left 1
    · have d1 := blk_cell hw.1; have d2 := hw.2; go_simp; all_goals with_reducible rfl
    try simp only [Act.put, List.getElem_toArray, List.getElem_cons_zero, List.getElem_cons_succ, List.setIfInBounds_toArray, List.set_cons_zero, List.set_cons_succ]
    refine wpAnyH_take (i := 2) (v := ?_) rfl (by kernel_rfl) (by kernel_rfl) (by kernel_rfl) (fun _ _ _ h => h) (Or.inl ⟨by kernel_rfl, fun w' hw => ?_⟩) hS ?_
    rotate_left 1
    · have d1 := blk_cell hw.1; have d2 := hw.2; go_simp; all_goals with_reducible rfl
    try simp only [Act.put, List.getElem_toArray, List.getElem_cons_zero, List.getElem_cons_succ, List.setIfInBounds_toArray, List.set_cons_zero, List.set_cons_succ]
    refine wpAnyH_take (i := 3) (v := ?_) rfl (by kernel_rfl) (by kernel_rfl) (by kernel_rfl) (fun _ _ _ h => h) (Or.inl ⟨by kernel_rfl, fun w' hw => ?_⟩) hS ?_
    rotate_left 1
    · have d1 := blk_cell hw.1; have d2 := hw.2; go_simp; all_goals with_reducible rfl
    try simp only [Act.put, List.getElem_toArray, List.getElem_cons_zero, List.getElem_cons_succ, List.setIfInBounds_toArray, List.set_cons_zero, List.set_cons_succ]
    refine wpAnyH_take (i := 4) (v := ?_) rfl (by kernel_rfl) (by kernel_rfl) (by kernel_rfl) (fun _ _ _ h => h) (Or.inl ⟨by kernel_rfl, fun w' hw => ?_⟩) hS ?_
    rotate_left 1
    · have d1 := blk_cell hw.1; have d2 := hw.2; go_simp; all_goals with_reducible rfl
    try simp only [Act.put, List.getElem_toArray, List.getElem_cons_zero, List.getElem_cons_succ, List.setIfInBounds_toArray, List.set_cons_zero, List.set_cons_succ]
    refine wpAnyH_take (i := 5) (v := ?_) rfl (by kernel_rfl) (by kernel_rfl) (by kernel_rfl) (fun _ _ _ h => h) (Or.inl ⟨by kernel_rfl, fun w' hw => ?_⟩) hS ?_
    rotate_left 1
    · have d1 := blk_cell hw.1; have d2 := hw.2; go_simp; all_goals with_reducible rfl
    try simp only [Act.put, List.getElem_toArray, List.getElem_cons_zero, List.getElem_cons_succ, List.setIfInBounds_toArray, List.set_cons_zero, List.set_cons_succ]
    refine wpAnyH_ready (rs := [6]) (by kernel_rfl) (by simp) ?_
    refine AllReadyH.cons rfl (fun K hK => ?_) AllReadyH.nil
    go_simp
    refine (hP _).mono ?_
    rintro e w3 ⟨rfl, hw3⟩
    subst hw3
    clear hP
    go_wp2_with fail
    refine hK.out _ _ ⟨hx2, hc1⟩ (fun hS => ?_)
    clear hK K
    try simp only [Act.put, List.getElem_toArray, List.getElem_cons_zero, List.getElem_cons_succ, List.setIfInBounds_toArray, List.set_cons_zero, List.set_cons_succ]
    refine wpAnyH_ready (rs := [7]) (by kernel_rfl) (by simp) ?_
    refine AllReadyH.cons rfl (fun K hK => ?_) AllReadyH.nil
    go_simp
    refine hK.out _ _ ⟨hx2, hc1⟩ (fun hS => ?_)
    clear hK K
    try simp only [Act.put, List.getElem_toArray, List.getElem_cons_zero, List.getElem_cons_succ, List.setIfInBounds_toArray, List.set_cons_zero, List.set_cons_succ]
    refine wpAnyH_done (by kernel_rfl) ?_ _
    have hB3 : Below w.heap.size w w2.drew := Below.drew hB2'
    have h3 := hAt.below hB3
    by_cases k0 : kd = 0
    · subst k0
      have hC := campaign_yes h3.syn hin
      have hE : s.campE i = 0 ∨ s.campE i = 6 ∨ s.campE i = 7 := by
        unfold Sy.campE
        split
        · exact .inr (.inr rfl)
        · split
          · exact .inl rfl
          · exact .inr (.inl rfl)
      generalize s.campE i = E at *
      go_wp2_with fail
      refine hC.mono ?_
      rintro e w4 ⟨rfl, hto⟩
      clear hC
      have hch := h3.to hto (mvs_good h3.good h3.syn.ok (.camp s ps i hin)) (campaign_n _ _)
      rcases hE with rfl | rfl | rfl
      all_goals
        go_wp2_with fail
        go_ret
        exact ⟨rfl, _, _, Mvs.one hAt.syn.ok (.camp s ps i hin), ChatTo.after hB3 hch⟩
    have hk0 : (kd == 0) = false := by simpa using k0
    by_cases k1 : kd = 1
    · subst k1
      have hnz : ¬ s.n = 0 := by omega
      have hq1 : I64 (a.tdiv (s.n : Int)) := tdiv_i64 ha (by omega)
      have hwr : IntKind.i64.wrap (a.tdiv (s.n : Int)) = a.tdiv (s.n : Int) := wrap_i64 hq1
      have hPo := fun W => post_any (a.tdiv (s.n : Int)) b W hq1 hb
      go_wp2_with fail
      refine wp_region_held_drew (S := fun w' => w'.heap[w.heap.size]? = some (.cells #[.int .i64 1, .int .i64 a, .int .i64 b] 48 (0, 0)) ∧ w'.cell? ⟨cb, 1, none⟩ = some (.int .i64 (s.n : Int))) (by kernel_rfl) (⟨hx2, hc1⟩) (fun hS => ?_)
      refine wpAnyH_take (i := 0) (v := ?_) rfl (by kernel_rfl) (by kernel_rfl) (by kernel_rfl) (fun _ _ _ h => h) (Or.inl ⟨by kernel_rfl, fun w' hw => ?_⟩) hS ?_
      rotate_left 1
      · have d1 := blk_cell hw.1; have d2 := hw.2; go_simp; all_goals with_reducible rfl
      try simp only [Act.put, List.getElem_toArray, List.getElem_cons_zero, List.getElem_cons_succ, List.setIfInBounds_toArray, List.set_cons_zero, List.set_cons_succ]
      refine wpAnyH_take (i := 1) (v := ?_) rfl (by kernel_rfl) (by kernel_rfl) (by kernel_rfl) (fun _ _ _ h => h) (Or.inl ⟨by kernel_rfl, fun w' hw => ?_⟩) hS ?_
      rotate_left 1
      · have d1 := blk_cell hw.1; have d2 := hw.2; go_simp; all_goals with_reducible rfl
      try simp only [Act.put, List.getElem_toArray, List.getElem_cons_zero, List.getElem_cons_succ, List.setIfInBounds_toArray, List.set_cons_zero, List.set_cons_succ]
      refine wpAnyH_take (i := 2) (v := ?_) rfl (by kernel_rfl) (by kernel_rfl) (by kernel_rfl) (fun _ _ _ h => h) (Or.inl ⟨by kernel_rfl, fun w' hw => ?_⟩) hS ?_
      rotate_left 1
      · have d1 := blk_cell hw.1; have d2 := hw.2; go_simp; all_goals with_reducible rfl
      try simp only [Act.put, List.getElem_toArray, List.getElem_cons_zero, List.getElem_cons_succ, List.setIfInBounds_toArray, List.set_cons_zero, List.set_cons_succ]
      refine wpAnyH_take (i := 3) (v := ?_) rfl (by kernel_rfl) (by kernel_rfl) (by kernel_rfl) (fun _ _ _ h => h) (Or.inl ⟨by kernel_rfl, fun w' hw => ?_⟩) hS ?_
      rotate_left 1
      · have d1 := blk_cell hw.1; have d2 := hw.2; go_simp; all_goals with_reducible rfl
      try simp only [Act.put, List.getElem_toArray, List.getElem_cons_zero, List.getElem_cons_succ, List.setIfInBounds_toArray, List.set_cons_zero, List.set_cons_succ]
      refine wpAnyH_take (i := 4) (v := ?_) rfl (by kernel_rfl) (by kernel_rfl) (by kernel_rfl) (fun _ _ _ h => h) (Or.inl ⟨by kernel_rfl, fun w' hw => ?_⟩) hS ?_
      rotate_left 1
      · have d1 := blk_cell hw.1; have d2 := hw.2; go_simp; all_goals with_reducible rfl
      try simp only [Act.put, List.getElem_toArray, List.getElem_cons_zero, List.getElem_cons_succ, List.setIfInBounds_toArray, List.set_cons_zero, List.set_cons_succ]
      refine wpAnyH_take (i := 5) (v := ?_) rfl (by kernel_rfl) (by kernel_rfl) (by kernel_rfl) (fun _ _ _ h => h) (Or.inl ⟨by kernel_rfl, fun w' hw => ?_⟩) hS ?_
      rotate_left 1
      · have d1 := blk_cell hw.1; have d2 := hw.2; go_simp; all_goals with_reducible rfl
      try simp only [Act.put, List.getElem_toArray, List.getElem_cons_zero, List.getElem_cons_succ, List.setIfInBounds_toArray, List.set_cons_zero, List.set_cons_succ]
      refine wpAnyH_take (i := 6) (v := ?_) rfl (by kernel_rfl) (by kernel_rfl) (by kernel_rfl) (fun _ _ _ h => h) (Or.inl ⟨by kernel_rfl, fun w' hw => ?_⟩) hS ?_
      rotate_left 1
      · have d1 := blk_cell hw.1; have d2 := hw.2; go_simp; all_goals with_reducible rfl
      try simp only [Act.put, List.getElem_toArray, List.getElem_cons_zero, List.getElem_cons_succ, List.setIfInBounds_toArray, List.set_cons_zero, List.set_cons_succ]
      refine wpAnyH_take (i := 7) (v := ?_) rfl (by kernel_rfl) (by kernel_rfl) (by kernel_rfl) (fun _ _ _ h => h) (Or.inl ⟨by kernel_rfl, fun w' hw => ?_⟩) hS ?_
      rotate_left 1
      · have d1 := blk_cell hw.1; have d2 := hw.2; go_simp; all_goals with_reducible rfl
      try simp only [Act.put, List.getElem_toArray, List.getElem_cons_zero, List.getElem_cons_succ, List.setIfInBounds_toArray, List.set_cons_zero, List.set_cons_succ]
      refine wpAnyH_take (i := 8) (v := ?_) rfl (by kernel_rfl) (by kernel_rfl) (by kernel_rfl) (fun _ _ _ h => h) (Or.inl ⟨by kernel_rfl, fun w' hw => ?_⟩) hS ?_
      rotate_left 1
      · have d1 := blk_cell hw.1; have d2 := hw.2; go_simp; all_goals with_reducible rfl
      try simp only [Act.put, List.getElem_toArray, List.getElem_cons_zero, List.getElem_cons_succ, List.setIfInBounds_toArray, List.set_cons_zero, List.set_cons_succ]
      refine wpAnyH_ready (rs := [9, 10]) (by kernel_rfl) (by simp) ?_
      refine AllReadyH.cons rfl (fun K hK => ?_) (AllReadyH.cons rfl (fun K hK => ?_) AllReadyH.nil)
      · go_simp
        refine (hPo _).mono ?_
        rintro e w4 ⟨rfl, hB4⟩
        clear hPo
        have hB4' : Below w.heap.size w w4 := Below.trans (Below.drew hB3) (hB4.mono hB3.size)
        have hx4 := blk_below hB4 (w := w2.drew.drew) hx2
        have hc4 : w4.cell? ⟨cb, 1, none⟩ = some (.int .i64 (s.n : Int)) := (blk_cell (hAt.below hB4').blk 1).trans rfl
        go_wp2_with fail
        refine hK.out _ _ ⟨hx4, hc4⟩ (fun hS => ?_)
        clear hK K
        try simp only [Act.put, List.getElem_toArray, List.getElem_cons_zero, List.getElem_cons_succ, List.setIfInBounds_toArray, List.set_cons_zero, List.set_cons_succ]
        refine wpAnyH_ready (rs := [10]) (by kernel_rfl) (by simp) ?_
        refine AllReadyH.cons rfl (fun K hK => ?_) AllReadyH.nil
        go_simp
        have hz := blk_new w4 (.cells #[.int .i64 0, .int .i64 0, .int .i64 0, .string ⟨#[]⟩] 38)
        have hx5 := blk_alloc hx4 (.cells #[.int .i64 0, .int .i64 0, .int .i64 0, .string ⟨#[]⟩] 38)
        have hB5 : Below w.heap.size w (w4.alloc (.cells #[.int .i64 0, .int .i64 0, .int .i64 0, .string ⟨#[]⟩] 38)) := hB4'.alloc hB4'.size _
        have hc5 : (w4.alloc (.cells #[.int .i64 0, .int .i64 0, .int .i64 0, .string ⟨#[]⟩] 38)).cell? ⟨cb, 1, none⟩ = some (.int .i64 (s.n : Int)) := (blk_cell (hAt.below hB5).blk 1).trans rfl
        refine hK.out _ _ ⟨hx5, hc5⟩ (fun hS => ?_)
        clear hK K
        try simp only [Act.put, List.getElem_toArray, List.getElem_cons_zero, List.getElem_cons_succ, List.setIfInBounds_toArray, List.set_cons_zero, List.set_cons_succ]
        refine wpAnyH_ready (rs := [11]) (by kernel_rfl) (by simp) ?_
        refine AllReadyH.cons rfl (fun K hK => ?_) AllReadyH.nil
        rw [if_pos (by kernel_rfl)]
        have hpr := postZ_right (a.tdiv (s.n : Int)) b
        generalize postZ (a.tdiv (s.n : Int)) b = p at *
        have hth : World.there (w4.alloc (.cells #[.int .i64 0, .int .i64 0, .int .i64 0, .string ⟨#[]⟩] 38)) w4.heap.size 0 4 := fun j hj => ⟨by rw [blk_cell hz, Nat.zero_add, Array.getElem?_eq_getElem (by exact hj)]; rfl, blk_free hz _⟩
        have hi4 : (Try.prog.info? 38).map (·.size) = some (#[.int .i64 p.c, .int .i64 p.q, .int .i64 p.h, .string p.t] : Array Value).size := by kernel_rfl
        have h14 : (#[.int .i64 p.c, .int .i64 p.q, .int .i64 p.h, .string p.t] : Array Value).all (·.oneCell') = true := by simp [Value.oneCell']
        refine wp_store_mid 38 (.tmp 9) (.tmp 66) rfl w4.heap.size 0 #[.int .i64 p.c, .int .i64 p.q, .int .i64 p.h, .string p.t] rfl rfl hth hi4 h14 ?_
        have hbb : (World.setCells (w4.alloc (.cells #[.int .i64 0, .int .i64 0, .int .i64 0, .string ⟨#[]⟩] 38)) w4.heap.size 0 (#[.int .i64 p.c, .int .i64 p.q, .int .i64 p.h, .string p.t] : Array Value).toList).heap[w4.heap.size]? = some (.cells #[.int .i64 p.c, .int .i64 p.q, .int .i64 p.h, .string p.t] 38 (0, 0)) := setCells_self w4.heap.size 38 (#[.int .i64 p.c, .int .i64 p.q, .int .i64 p.h, .string p.t] : Array Value).toList 0 _ _ hz (by simp)
        have hge : w.heap.size < w4.heap.size := by have h8 := lt_of_block hx2; have h9 := hB4.size; simp at *; omega
        have hB5' : Below w.heap.size w (World.setCells (w4.alloc (.cells #[.int .i64 0, .int .i64 0, .int .i64 0, .string ⟨#[]⟩] 38)) w4.heap.size 0 (#[.int .i64 p.c, .int .i64 p.q, .int .i64 p.h, .string p.t] : Array Value).toList) := Keeps.toBelow hB5 (Keeps.ofSets (P := fun k => k = w4.heap.size) w4.heap.size rfl _ _ _) (fun k hk => by omega) hB5.size
        have hx6 : (World.setCells (w4.alloc (.cells #[.int .i64 0, .int .i64 0, .int .i64 0, .string ⟨#[]⟩] 38)) w4.heap.size 0 (#[.int .i64 p.c, .int .i64 p.q, .int .i64 p.h, .string p.t] : Array Value).toList).heap[w.heap.size]? = some (.cells #[.int .i64 1, .int .i64 a, .int .i64 b] 48 (0, 0)) := by rw [setCells_other w4.heap.size _ _ _ _ (by omega)]; exact hx5
        have hc6 : (World.setCells (w4.alloc (.cells #[.int .i64 0, .int .i64 0, .int .i64 0, .string ⟨#[]⟩] 38)) w4.heap.size 0 (#[.int .i64 p.c, .int .i64 p.q, .int .i64 p.h, .string p.t] : Array Value).toList).cell? ⟨cb, 1, none⟩ = some (.int .i64 (s.n : Int)) := (blk_cell (hAt.below hB5').blk 1).trans rfl
        refine hK.out _ _ ⟨hx6, hc6⟩ (fun hS => ?_)
        clear hK K
        try simp only [Act.put, List.getElem_toArray, List.getElem_cons_zero, List.getElem_cons_succ, List.setIfInBounds_toArray, List.set_cons_zero, List.set_cons_succ]
        refine wpAnyH_done (by kernel_rfl) ?_ _
        clear hth
        generalize World.setCells (w4.alloc (.cells #[.int .i64 0, .int .i64 0, .int .i64 0, .string ⟨#[]⟩] 38)) w4.heap.size 0 (#[.int .i64 p.c, .int .i64 p.q, .int .i64 p.h, .string p.t] : Array Value).toList = w5 at *
        generalize w4.heap.size = bb at *
        clear hB5
        have hB5 := hB5'
        clear hB5'
        have h5 := hAt.below hB5
        have hc0 : w5.cell? ⟨cb, 0, none⟩ = some (.pointer (some ⟨sb, 0, none⟩)) := (blk_cell h5.blk 0).trans rfl
        have hbcb : bb ≠ cb := by have h8 := lt_of_block hAt.blk; omega
        have hSub := submit_yes (h5.syn.below (Below.drew (Below.refl _ w5))) hin p hpr (h5.good.bal h5.syn.ok hin)
        have hE : s.subE i p = 0 ∨ s.subE i p = 3 ∨ s.subE i p = 4 ∨ s.subE i p = 5 ∨ s.subE i p = 6 := subE_vals s i p
        have hgood := mvs_good h5.good h5.syn.ok (.sub s ps i p hin hpr)
        have hEq : Hid (∀ e, s.subE i p = e → s.subE i p = e) := fun _ h => h
        obtain ⟨E, hEE⟩ : ∃ E, E = s.subE i p := ⟨_, rfl⟩
        rw [← hEE] at hSub hE hgood
        have HEE : Hid (E = s.subE i p) := hEE
        clear hEE
        go_wp2_with fail
        refine wp_region_held_drew (S := fun w' => w'.heap[bb]? = some (.cells #[.int .i64 p.c, .int .i64 p.q, .int .i64 p.h, .string p.t] 38 (0, 0)) ∧ w'.cell? ⟨cb, 0, none⟩ = some (.pointer (some ⟨sb, 0, none⟩))) (by kernel_rfl) (⟨hbb, hc0⟩) (fun hS => ?_)
        refine wpAnyH_take (i := 0) (v := ?_) rfl (by kernel_rfl) (by kernel_rfl) (by kernel_rfl) (fun _ _ _ h => h) (Or.inl ⟨by kernel_rfl, fun w' hw => ?_⟩) hS ?_
        rotate_left 1
        · have d1 := blk_cell hw.1; have d2 := hw.2; go_simp; all_goals with_reducible rfl
        try simp only [Act.put, List.getElem_toArray, List.getElem_cons_zero, List.getElem_cons_succ, List.setIfInBounds_toArray, List.set_cons_zero, List.set_cons_succ]
        refine wpAnyH_take (i := 1) (v := ?_) rfl (by kernel_rfl) (by kernel_rfl) (by kernel_rfl) (fun _ _ _ h => h) (Or.inl ⟨by kernel_rfl, fun w' hw => ?_⟩) hS ?_
        rotate_left 1
        · have d1 := blk_cell hw.1; have d2 := hw.2; go_simp; all_goals with_reducible rfl
        try simp only [Act.put, List.getElem_toArray, List.getElem_cons_zero, List.getElem_cons_succ, List.setIfInBounds_toArray, List.set_cons_zero, List.set_cons_succ]
        refine wpAnyH_take (i := 2) (v := ?_) rfl (by kernel_rfl) (by kernel_rfl) (by kernel_rfl) (fun _ _ _ h => h) (Or.inl ⟨by kernel_rfl, fun w' hw => ?_⟩) hS ?_
        rotate_left 1
        · have d1 := blk_cell hw.1; have d2 := hw.2; go_simp; all_goals with_reducible rfl
        try simp only [Act.put, List.getElem_toArray, List.getElem_cons_zero, List.getElem_cons_succ, List.setIfInBounds_toArray, List.set_cons_zero, List.set_cons_succ]
        refine wpAnyH_take (i := 3) (v := ?_) rfl (by kernel_rfl) (by kernel_rfl) (by kernel_rfl) (fun _ _ _ h => h) (Or.inl ⟨by kernel_rfl, fun w' hw => ?_⟩) hS ?_
        rotate_left 1
        · have d1 := blk_cell hw.1; have d2 := hw.2; go_simp; all_goals with_reducible rfl
        try simp only [Act.put, List.getElem_toArray, List.getElem_cons_zero, List.getElem_cons_succ, List.setIfInBounds_toArray, List.set_cons_zero, List.set_cons_succ]
        refine wpAnyH_take (i := 4) (v := ?_) rfl (by kernel_rfl) (by kernel_rfl) (by kernel_rfl) (fun _ _ _ h => h) (Or.inl ⟨by kernel_rfl, fun w' hw => ?_⟩) hS ?_
        rotate_left 1
        · have d1 := blk_cell hw.1; have d2 := hw.2; go_simp; all_goals with_reducible rfl
        try simp only [Act.put, List.getElem_toArray, List.getElem_cons_zero, List.getElem_cons_succ, List.setIfInBounds_toArray, List.set_cons_zero, List.set_cons_succ]
        refine wpAnyH_take (i := 5) (v := ?_) rfl (by kernel_rfl) (by kernel_rfl) (by kernel_rfl) (fun _ _ _ h => h) (Or.inl ⟨by kernel_rfl, fun w' hw => ?_⟩) hS ?_
        rotate_left 1
        · have d1 := blk_cell hw.1; have d2 := hw.2; go_simp; all_goals with_reducible rfl
        try simp only [Act.put, List.getElem_toArray, List.getElem_cons_zero, List.getElem_cons_succ, List.setIfInBounds_toArray, List.set_cons_zero, List.set_cons_succ]
        refine wpAnyH_ready (rs := [6]) (by kernel_rfl) (by simp) ?_
        refine AllReadyH.cons rfl (fun K hK => ?_) AllReadyH.nil
        go_simp
        refine hSub.mono ?_
        rintro e w7 ⟨rfl, hto7⟩
        clear hSub
        have hq7 : w7.heap[bb]? = some (.cells #[.int .i64 p.c, .int .i64 p.q, .int .i64 p.h, .string p.t] 38 (0, 0)) := hto7.blk (w := w5.drew) hbb (by rw [submit_n]; exact h5.syn.not_own hbb (by unfold ownT; decide))
        have hcbk : w7.heap[cb]? = some (.cells #[.pointer (some ⟨sb, 0, none⟩), .int .i64 (s.n : Int), pv, lv] 30 (0, 0)) := hto7.blk (w := w5.drew) h5.blk (by rw [submit_n]; exact h5.cbNot)
        have hc7 : w7.cell? ⟨cb, 0, none⟩ = some (.pointer (some ⟨sb, 0, none⟩)) := (blk_cell hcbk 0).trans rfl
        go_wp2_with fail
        refine hK.out _ _ ⟨hq7, hc7⟩ (fun hS => ?_)
        clear hK K
        try simp only [Act.put, List.getElem_toArray, List.getElem_cons_zero, List.getElem_cons_succ, List.setIfInBounds_toArray, List.set_cons_zero, List.set_cons_succ]
        refine wpAnyH_ready (rs := [7]) (by kernel_rfl) (by simp) ?_
        refine AllReadyH.cons rfl (fun K hK => ?_) AllReadyH.nil
        go_simp
        refine hK.out _ _ ⟨hq7, hc7⟩ (fun hS => ?_)
        clear hK K
        try simp only [Act.put, List.getElem_toArray, List.getElem_cons_zero, List.getElem_cons_succ, List.setIfInBounds_toArray, List.set_cons_zero, List.set_cons_succ]
        refine wpAnyH_done (by kernel_rfl) ?_ _
        by_cases hE0 : E = 0
        · subst hE0
          rw [if_pos rfl] at hgood
          have hmv : Mv s ps (s.submit i p) (ps ++ [p]) := by
            have m := Mv.sub s ps i p hin hpr
            rw [← HEE.out, if_pos rfl] at m
            exact m
          obtain ⟨i0, hi0, hz0, hz1', hz2'⟩ := info_parts Try.infoPost
          obtain ⟨pa, pc, hpv, _⟩ := (owns_row hAt.posts).form
          subst hpv
          have hpo7 : w7.ownsRow 0 38 4 (.slice pa ps.length pc) ps.length (pcells ps) := by
            obtain ⟨L7, _, _, _, k7⟩ := id hto7
            rw [submit_n] at k7
            exact owns_keeps (w := w5.drew) h5.posts k7 (fun g hg => h5.pvNot hg)
          have hfew := h5.good.few h5.syn.ok
          have hbd : ps.length + 1 ≤ maxLen ∧ (ps.length + 1) * 40 ≤ 140737488355328 := ⟨by unfold maxLen; omega, by omega⟩
          have h1c : ∀ u ∈ [Value.int .i64 p.c, .int .i64 p.q, .int .i64 p.h, .string p.t], u.oneCell' = true := by
            intro u hu; simp at hu; rcases hu with rfl | rfl | rfl | rfl <;> rfl
          have hpvbb : (Value.slice pa ps.length pc).ownBlock ≠ some bb := fun e => by have h8 := hAt.own_lt (.inr (.inr e)); omega
          have hpc7 : w7.cell? ⟨cb, 2, none⟩ = some (.slice pa ps.length pc) := (blk_cell hcbk 2).trans rfl
          have hpc8 : ∀ o, (w7.alloc o).cell? ⟨cb, 2, none⟩ = some (.slice pa ps.length pc) := fun o => (blk_cell (blk_alloc hcbk o) 2).trans rfl
          go_wp2_with fail
          refine wp_region_held_drew (S := fun w' => w'.heap[bb]? = some (.cells #[.int .i64 p.c, .int .i64 p.q, .int .i64 p.h, .string p.t] 38 (0, 0))) (by kernel_rfl) (hq7) (fun hS => ?_)
          refine wpAnyH_take (i := 0) (v := ?_) rfl (by kernel_rfl) (by kernel_rfl) (by kernel_rfl) (fun _ _ _ h => h) (Or.inl ⟨by kernel_rfl, fun w' hw => ?_⟩) hS ?_
          rotate_left 1
          · go_simp; all_goals with_reducible rfl
          try simp only [Act.put, List.getElem_toArray, List.getElem_cons_zero, List.getElem_cons_succ, List.setIfInBounds_toArray, List.set_cons_zero, List.set_cons_succ]
          refine wpAnyH_take (i := 1) (v := ?_) rfl (by kernel_rfl) (by kernel_rfl) (by kernel_rfl) (fun _ _ _ h => h) (Or.inl ⟨by kernel_rfl, fun w' hw => ?_⟩) hS ?_
          rotate_left 1
          · go_simp; all_goals with_reducible rfl
          try simp only [Act.put, List.getElem_toArray, List.getElem_cons_zero, List.getElem_cons_succ, List.setIfInBounds_toArray, List.set_cons_zero, List.set_cons_succ]
          refine wpAnyH_take (i := 2) (v := ?_) rfl (by kernel_rfl) (by kernel_rfl) (by kernel_rfl) (fun _ _ _ h => h) (Or.inl ⟨by kernel_rfl, fun w' hw => ?_⟩) hS ?_
          rotate_left 1
          · go_simp; all_goals with_reducible rfl
          try simp only [Act.put, List.getElem_toArray, List.getElem_cons_zero, List.getElem_cons_succ, List.setIfInBounds_toArray, List.set_cons_zero, List.set_cons_succ]
          refine wpAnyH_take (i := 3) (v := ?_) rfl (by kernel_rfl) (by kernel_rfl) (by kernel_rfl) (fun _ _ _ h => h) (Or.inl ⟨by kernel_rfl, fun w' hw => ?_⟩) hS ?_
          rotate_left 1
          · go_simp; all_goals with_reducible rfl
          try simp only [Act.put, List.getElem_toArray, List.getElem_cons_zero, List.getElem_cons_succ, List.setIfInBounds_toArray, List.set_cons_zero, List.set_cons_succ]
          refine wpAnyH_take (i := 5) (v := ?_) rfl (by kernel_rfl) (by kernel_rfl) (by kernel_rfl) (fun _ _ _ h => h) (Or.inl ⟨by kernel_rfl, fun w' hw => ?_⟩) hS ?_
          rotate_left 1
          · have d1 := blk_cell hw; go_simp; all_goals with_reducible rfl
          try simp only [Act.put, List.getElem_toArray, List.getElem_cons_zero, List.getElem_cons_succ, List.setIfInBounds_toArray, List.set_cons_zero, List.set_cons_succ]
          refine wpAnyH_ready (rs := [4, 6]) (by kernel_rfl) (by simp) ?_
          refine AllReadyH.cons rfl (fun K hK => ?_) (AllReadyH.cons rfl (fun K hK => ?_) AllReadyH.nil)
          · go_simp
            refine hK.out _ _ hq7 (fun hS => ?_)
            clear hK K
            try simp only [Act.put, List.getElem_toArray, List.getElem_cons_zero, List.getElem_cons_succ, List.setIfInBounds_toArray, List.set_cons_zero, List.set_cons_succ]
            refine wpAnyH_ready (rs := [6]) (by kernel_rfl) (by simp) ?_
            refine AllReadyH.cons rfl (fun K hK => ?_) AllReadyH.nil
            go_simp
            refine hK.out _ _ (blk_alloc hq7 _) (fun hS => ?_)
            clear hK K
            try simp only [Act.put, List.getElem_toArray, List.getElem_cons_zero, List.getElem_cons_succ, List.setIfInBounds_toArray, List.set_cons_zero, List.set_cons_succ]
            refine wpAnyH_ready (rs := [7]) (by kernel_rfl) (by simp) ?_
            refine AllReadyH.cons rfl (fun K hK => ?_) AllReadyH.nil
            refine step_append_lies _ rfl (.tmp 80) (.tmp 82) 25 rfl 0 38 i0 _ 4 40 Try.underlying25 hi0 hz0 hz1' hz2' rfl (by decide) (.slice pa ps.length pc) ps.length (pcells ps) rfl (owns_alloc (owns_drew hpo7) _) _ 1 1 [.int .i64 p.c, .int .i64 p.q, .int .i64 p.h, .string p.t] rfl rfl (news_new _ _ rfl _ _) h1c (by decide) hbd.1 hbd.2 (Nat.zero_le _) _ rfl ?_
            intro g cap w9 hown9 hgr9 hat9 hlt9
            have hq9 := blk_grown hgr9 (blk_alloc hq7 _) hpvbb
            have hcb9 := blk_grown hgr9 (blk_alloc hcbk _) h5.pvCb
            have hc9 := blk_cell hcb9
            have hf9 := blk_free hcb9
            refine hK.out _ _ hq9 (fun hS => ?_)
            clear hK K
            try simp only [Act.put, List.getElem_toArray, List.getElem_cons_zero, List.getElem_cons_succ, List.setIfInBounds_toArray, List.set_cons_zero, List.set_cons_succ]
            refine wpAnyH_take (i := 8) (v := ?_) rfl (by kernel_rfl) (by kernel_rfl) (by kernel_rfl) (fun _ _ _ h => h) (Or.inl ⟨by kernel_rfl, fun w' hw => ?_⟩) hS ?_
            rotate_left 1
            · go_simp; all_goals with_reducible rfl
            try simp only [Act.put, List.getElem_toArray, List.getElem_cons_zero, List.getElem_cons_succ, List.setIfInBounds_toArray, List.set_cons_zero, List.set_cons_succ]
            refine wpAnyH_take (i := 9) (v := ?_) rfl (by kernel_rfl) (by kernel_rfl) (by kernel_rfl) (fun _ _ _ h => h) (Or.inl ⟨by kernel_rfl, fun w' hw => ?_⟩) hS ?_
            rotate_left 1
            · go_simp; all_goals with_reducible rfl
            try simp only [Act.put, List.getElem_toArray, List.getElem_cons_zero, List.getElem_cons_succ, List.setIfInBounds_toArray, List.set_cons_zero, List.set_cons_succ]
            refine wpAnyH_ready (rs := [10]) (by kernel_rfl) (by simp) ?_
            refine AllReadyH.cons rfl (fun K hK => ?_) AllReadyH.nil
            go_simp
            have hq10 := blk_set_other hq9 (a := ⟨cb, 2, none⟩) hbcb (.slice (some ⟨g, 0, none⟩) (ps.length + 1) cap)
            refine hK.out _ _ hq10 (fun hS => ?_)
            clear hK K
            try simp only [Act.put, List.getElem_toArray, List.getElem_cons_zero, List.getElem_cons_succ, List.setIfInBounds_toArray, List.set_cons_zero, List.set_cons_succ]
            refine wpAnyH_done (by kernel_rfl) ?_ _
            have hfin := (hAt.below (Below.drew hB5)).took (o := .cells #[.int .i64 p.c, .int .i64 p.q, .int .i64 p.h, .string p.t] 38) hto7 (submit_n _ _ _) hgood hown9 ⟨hgr9.os, hgr9.tape, hgr9.output, hgr9.size, hgr9.block⟩ hat9
            clear hc9 hf9 hcb9
            go_wp2_with fail
            go_ret
            exact ⟨rfl, _, _, Mvs.one hAt.syn.ok hmv, ChatTo.after (Below.drew hB5) hfin⟩
          · go_simp
            refine hK.out _ _ (blk_alloc hq7 _) (fun hS => ?_)
            clear hK K
            try simp only [Act.put, List.getElem_toArray, List.getElem_cons_zero, List.getElem_cons_succ, List.setIfInBounds_toArray, List.set_cons_zero, List.set_cons_succ]
            refine wpAnyH_ready (rs := [4]) (by kernel_rfl) (by simp) ?_
            refine AllReadyH.cons rfl (fun K hK => ?_) AllReadyH.nil
            go_simp
            refine hK.out _ _ (blk_alloc hq7 _) (fun hS => ?_)
            clear hK K
            try simp only [Act.put, List.getElem_toArray, List.getElem_cons_zero, List.getElem_cons_succ, List.setIfInBounds_toArray, List.set_cons_zero, List.set_cons_succ]
            refine wpAnyH_ready (rs := [7]) (by kernel_rfl) (by simp) ?_
            refine AllReadyH.cons rfl (fun K hK => ?_) AllReadyH.nil
            refine step_append_lies _ rfl (.tmp 80) (.tmp 82) 25 rfl 0 38 i0 _ 4 40 Try.underlying25 hi0 hz0 hz1' hz2' rfl (by decide) (.slice pa ps.length pc) ps.length (pcells ps) rfl (owns_alloc (owns_drew hpo7) _) _ 1 1 [.int .i64 p.c, .int .i64 p.q, .int .i64 p.h, .string p.t] rfl rfl (news_new _ _ rfl _ _) h1c (by decide) hbd.1 hbd.2 (Nat.zero_le _) _ rfl ?_
            intro g cap w9 hown9 hgr9 hat9 hlt9
            have hq9 := blk_grown hgr9 (blk_alloc hq7 _) hpvbb
            have hcb9 := blk_grown hgr9 (blk_alloc hcbk _) h5.pvCb
            have hc9 := blk_cell hcb9
            have hf9 := blk_free hcb9
            refine hK.out _ _ hq9 (fun hS => ?_)
            clear hK K
            try simp only [Act.put, List.getElem_toArray, List.getElem_cons_zero, List.getElem_cons_succ, List.setIfInBounds_toArray, List.set_cons_zero, List.set_cons_succ]
            refine wpAnyH_take (i := 8) (v := ?_) rfl (by kernel_rfl) (by kernel_rfl) (by kernel_rfl) (fun _ _ _ h => h) (Or.inl ⟨by kernel_rfl, fun w' hw => ?_⟩) hS ?_
            rotate_left 1
            · go_simp; all_goals with_reducible rfl
            try simp only [Act.put, List.getElem_toArray, List.getElem_cons_zero, List.getElem_cons_succ, List.setIfInBounds_toArray, List.set_cons_zero, List.set_cons_succ]
            refine wpAnyH_take (i := 9) (v := ?_) rfl (by kernel_rfl) (by kernel_rfl) (by kernel_rfl) (fun _ _ _ h => h) (Or.inl ⟨by kernel_rfl, fun w' hw => ?_⟩) hS ?_
            rotate_left 1
            · go_simp; all_goals with_reducible rfl
            try simp only [Act.put, List.getElem_toArray, List.getElem_cons_zero, List.getElem_cons_succ, List.setIfInBounds_toArray, List.set_cons_zero, List.set_cons_succ]
            refine wpAnyH_ready (rs := [10]) (by kernel_rfl) (by simp) ?_
            refine AllReadyH.cons rfl (fun K hK => ?_) AllReadyH.nil
            go_simp
            have hq10 := blk_set_other hq9 (a := ⟨cb, 2, none⟩) hbcb (.slice (some ⟨g, 0, none⟩) (ps.length + 1) cap)
            refine hK.out _ _ hq10 (fun hS => ?_)
            clear hK K
            try simp only [Act.put, List.getElem_toArray, List.getElem_cons_zero, List.getElem_cons_succ, List.setIfInBounds_toArray, List.set_cons_zero, List.set_cons_succ]
            refine wpAnyH_done (by kernel_rfl) ?_ _
            have hfin := (hAt.below (Below.drew hB5)).took (o := .cells #[.int .i64 p.c, .int .i64 p.q, .int .i64 p.h, .string p.t] 38) hto7 (submit_n _ _ _) hgood hown9 ⟨hgr9.os, hgr9.tape, hgr9.output, hgr9.size, hgr9.block⟩ hat9
            clear hc9 hf9 hcb9
            go_wp2_with fail
            go_ret
            exact ⟨rfl, _, _, Mvs.one hAt.syn.ok hmv, ChatTo.after (Below.drew hB5) hfin⟩
        · rw [if_neg hE0] at hgood
          have hch := (hAt.below (Below.drew hB5)).to hto7 hgood (submit_n _ _ _)
          have hmv : Mv s ps (s.submit i p) ps := by
            have m := Mv.sub s ps i p hin hpr
            rw [← HEE.out, if_neg hE0] at m
            exact m
          have hEb : (E == 0) = false := by simpa using hE0
          rcases hE with hE | hE | hE | hE | hE
          · exact absurd hE hE0
          all_goals
            subst hE
            go_wp2_with fail
            go_ret
            exact ⟨rfl, _, _, Mvs.one hAt.syn.ok hmv, ChatTo.after (Below.drew hB5) hch⟩
      · go_simp
        have hz : (w2.alloc (.cells #[.int .i64 0, .int .i64 0, .int .i64 0, .string ⟨#[]⟩] 38)).heap[w2.heap.size]? = some (.cells #[.int .i64 0, .int .i64 0, .int .i64 0, .string ⟨#[]⟩] 38 (0, 0)) := blk_new w2 _
        have hx4 := blk_alloc hx2 (.cells #[.int .i64 0, .int .i64 0, .int .i64 0, .string ⟨#[]⟩] 38)
        have hB4' : Below w.heap.size w (w2.alloc (.cells #[.int .i64 0, .int .i64 0, .int .i64 0, .string ⟨#[]⟩] 38)) := hB2'.alloc hB2'.size _
        have hc4 : (w2.alloc (.cells #[.int .i64 0, .int .i64 0, .int .i64 0, .string ⟨#[]⟩] 38)).cell? ⟨cb, 1, none⟩ = some (.int .i64 (s.n : Int)) := (blk_cell (hAt.below hB4').blk 1).trans rfl
        refine hK.out _ _ ⟨hx4, hc4⟩ (fun hS => ?_)
        clear hK K
        try simp only [Act.put, List.getElem_toArray, List.getElem_cons_zero, List.getElem_cons_succ, List.setIfInBounds_toArray, List.set_cons_zero, List.set_cons_succ]
        refine wpAnyH_ready (rs := [9]) (by kernel_rfl) (by simp) ?_
        refine AllReadyH.cons rfl (fun K hK => ?_) AllReadyH.nil
        go_simp
        refine (hPo _).mono ?_
        rintro e w4 ⟨rfl, hB4⟩
        clear hPo
        have hB5 : Below w.heap.size w w4 := Below.trans hB4' (Below.trans (Below.drew (Below.drew (Below.refl _ _))) hB4 |>.mono hB4'.size)
        have hx5 := blk_below hB4 hx4
        have hz5 := blk_below hB4 hz
        have hc5 : w4.cell? ⟨cb, 1, none⟩ = some (.int .i64 (s.n : Int)) := (blk_cell (hAt.below hB5).blk 1).trans rfl
        go_wp2_with fail
        refine hK.out _ _ ⟨hx5, hc5⟩ (fun hS => ?_)
        clear hK K
        try simp only [Act.put, List.getElem_toArray, List.getElem_cons_zero, List.getElem_cons_succ, List.setIfInBounds_toArray, List.set_cons_zero, List.set_cons_succ]
        refine wpAnyH_ready (rs := [11]) (by kernel_rfl) (by simp) ?_
        refine AllReadyH.cons rfl (fun K hK => ?_) AllReadyH.nil
        rw [if_pos (by kernel_rfl)]
        have hpr := postZ_right (a.tdiv (s.n : Int)) b
        generalize postZ (a.tdiv (s.n : Int)) b = p at *
        have hth : World.there w4 w2.heap.size 0 4 := fun j hj => ⟨by rw [blk_cell hz5, Nat.zero_add, Array.getElem?_eq_getElem (by exact hj)]; rfl, blk_free hz5 _⟩
        have hi4 : (Try.prog.info? 38).map (·.size) = some (#[.int .i64 p.c, .int .i64 p.q, .int .i64 p.h, .string p.t] : Array Value).size := by kernel_rfl
        have h14 : (#[.int .i64 p.c, .int .i64 p.q, .int .i64 p.h, .string p.t] : Array Value).all (·.oneCell') = true := by simp [Value.oneCell']
        refine wp_store_mid 38 (.tmp 9) (.tmp 66) rfl w2.heap.size 0 #[.int .i64 p.c, .int .i64 p.q, .int .i64 p.h, .string p.t] rfl rfl hth hi4 h14 ?_
        have hbb : (World.setCells w4 w2.heap.size 0 (#[.int .i64 p.c, .int .i64 p.q, .int .i64 p.h, .string p.t] : Array Value).toList).heap[w2.heap.size]? = some (.cells #[.int .i64 p.c, .int .i64 p.q, .int .i64 p.h, .string p.t] 38 (0, 0)) := setCells_self w2.heap.size 38 (#[.int .i64 p.c, .int .i64 p.q, .int .i64 p.h, .string p.t] : Array Value).toList 0 _ _ hz5 (by simp)
        have hge : w.heap.size < w2.heap.size := by have h8 := lt_of_block hx2; have h9 := hB4.size; simp at *; omega
        have hB5' : Below w.heap.size w (World.setCells w4 w2.heap.size 0 (#[.int .i64 p.c, .int .i64 p.q, .int .i64 p.h, .string p.t] : Array Value).toList) := Keeps.toBelow hB5 (Keeps.ofSets (P := fun k => k = w2.heap.size) w2.heap.size rfl _ _ _) (fun k hk => by omega) hB5.size
        have hx6 : (World.setCells w4 w2.heap.size 0 (#[.int .i64 p.c, .int .i64 p.q, .int .i64 p.h, .string p.t] : Array Value).toList).heap[w.heap.size]? = some (.cells #[.int .i64 1, .int .i64 a, .int .i64 b] 48 (0, 0)) := by rw [setCells_other w2.heap.size _ _ _ _ (by omega)]; exact hx5
        have hc6 : (World.setCells w4 w2.heap.size 0 (#[.int .i64 p.c, .int .i64 p.q, .int .i64 p.h, .string p.t] : Array Value).toList).cell? ⟨cb, 1, none⟩ = some (.int .i64 (s.n : Int)) := (blk_cell (hAt.below hB5').blk 1).trans rfl
        refine hK.out _ _ ⟨hx6, hc6⟩ (fun hS => ?_)
        clear hK K
        try simp only [Act.put, List.getElem_toArray, List.getElem_cons_zero, List.getElem_cons_succ, List.setIfInBounds_toArray, List.set_cons_zero, List.set_cons_succ]
        refine wpAnyH_done (by kernel_rfl) ?_ _
        clear hth
        generalize World.setCells w4 w2.heap.size 0 (#[.int .i64 p.c, .int .i64 p.q, .int .i64 p.h, .string p.t] : Array Value).toList = w5 at *
        generalize w2.heap.size = bb at *
        clear hB5
        have hB5 := hB5'
        clear hB5'
        have h5 := hAt.below hB5
        have hc0 : w5.cell? ⟨cb, 0, none⟩ = some (.pointer (some ⟨sb, 0, none⟩)) := (blk_cell h5.blk 0).trans rfl
        have hbcb : bb ≠ cb := by have h8 := lt_of_block hAt.blk; omega
        have hSub := submit_yes (h5.syn.below (Below.drew (Below.refl _ w5))) hin p hpr (h5.good.bal h5.syn.ok hin)
        have hE : s.subE i p = 0 ∨ s.subE i p = 3 ∨ s.subE i p = 4 ∨ s.subE i p = 5 ∨ s.subE i p = 6 := subE_vals s i p
        have hgood := mvs_good h5.good h5.syn.ok (.sub s ps i p hin hpr)
        have hEq : Hid (∀ e, s.subE i p = e → s.subE i p = e) := fun _ h => h
        obtain ⟨E, hEE⟩ : ∃ E, E = s.subE i p := ⟨_, rfl⟩
        rw [← hEE] at hSub hE hgood
        have HEE : Hid (E = s.subE i p) := hEE
        clear hEE
        go_wp2_with fail
        refine wp_region_held_drew (S := fun w' => w'.heap[bb]? = some (.cells #[.int .i64 p.c, .int .i64 p.q, .int .i64 p.h, .string p.t] 38 (0, 0)) ∧ w'.cell? ⟨cb, 0, none⟩ = some (.pointer (some ⟨sb, 0, none⟩))) (by kernel_rfl) (⟨hbb, hc0⟩) (fun hS => ?_)
        refine wpAnyH_take (i := 0) (v := ?_) rfl (by kernel_rfl) (by kernel_rfl) (by kernel_rfl) (fun _ _ _ h => h) (Or.inl ⟨by kernel_rfl, fun w' hw => ?_⟩) hS ?_
        rotate_left 1
        · have d1 := blk_cell hw.1; have d2 := hw.2; go_simp; all_goals with_reducible rfl
        try simp only [Act.put, List.getElem_toArray, List.getElem_cons_zero, List.getElem_cons_succ, List.setIfInBounds_toArray, List.set_cons_zero, List.set_cons_succ]
        refine wpAnyH_take (i := 1) (v := ?_) rfl (by kernel_rfl) (by kernel_rfl) (by kernel_rfl) (fun _ _ _ h => h) (Or.inl ⟨by kernel_rfl, fun w' hw => ?_⟩) hS ?_
        rotate_left 1
        · have d1 := blk_cell hw.1; have d2 := hw.2; go_simp; all_goals with_reducible rfl
        try simp only [Act.put, List.getElem_toArray, List.getElem_cons_zero, List.getElem_cons_succ, List.setIfInBounds_toArray, List.set_cons_zero, List.set_cons_succ]
        refine wpAnyH_take (i := 2) (v := ?_) rfl (by kernel_rfl) (by kernel_rfl) (by kernel_rfl) (fun _ _ _ h => h) (Or.inl ⟨by kernel_rfl, fun w' hw => ?_⟩) hS ?_
        rotate_left 1
        · have d1 := blk_cell hw.1; have d2 := hw.2; go_simp; all_goals with_reducible rfl
        try simp only [Act.put, List.getElem_toArray, List.getElem_cons_zero, List.getElem_cons_succ, List.setIfInBounds_toArray, List.set_cons_zero, List.set_cons_succ]
        refine wpAnyH_take (i := 3) (v := ?_) rfl (by kernel_rfl) (by kernel_rfl) (by kernel_rfl) (fun _ _ _ h => h) (Or.inl ⟨by kernel_rfl, fun w' hw => ?_⟩) hS ?_
        rotate_left 1
        · have d1 := blk_cell hw.1; have d2 := hw.2; go_simp; all_goals with_reducible rfl
        try simp only [Act.put, List.getElem_toArray, List.getElem_cons_zero, List.getElem_cons_succ, List.setIfInBounds_toArray, List.set_cons_zero, List.set_cons_succ]
        refine wpAnyH_take (i := 4) (v := ?_) rfl (by kernel_rfl) (by kernel_rfl) (by kernel_rfl) (fun _ _ _ h => h) (Or.inl ⟨by kernel_rfl, fun w' hw => ?_⟩) hS ?_
        rotate_left 1
        · have d1 := blk_cell hw.1; have d2 := hw.2; go_simp; all_goals with_reducible rfl
        try simp only [Act.put, List.getElem_toArray, List.getElem_cons_zero, List.getElem_cons_succ, List.setIfInBounds_toArray, List.set_cons_zero, List.set_cons_succ]
        refine wpAnyH_take (i := 5) (v := ?_) rfl (by kernel_rfl) (by kernel_rfl) (by kernel_rfl) (fun _ _ _ h => h) (Or.inl ⟨by kernel_rfl, fun w' hw => ?_⟩) hS ?_
        rotate_left 1
        · have d1 := blk_cell hw.1; have d2 := hw.2; go_simp; all_goals with_reducible rfl
        try simp only [Act.put, List.getElem_toArray, List.getElem_cons_zero, List.getElem_cons_succ, List.setIfInBounds_toArray, List.set_cons_zero, List.set_cons_succ]
        refine wpAnyH_ready (rs := [6]) (by kernel_rfl) (by simp) ?_
        refine AllReadyH.cons rfl (fun K hK => ?_) AllReadyH.nil
        go_simp
        refine hSub.mono ?_
        rintro e w7 ⟨rfl, hto7⟩
        clear hSub
        have hq7 : w7.heap[bb]? = some (.cells #[.int .i64 p.c, .int .i64 p.q, .int .i64 p.h, .string p.t] 38 (0, 0)) := hto7.blk (w := w5.drew) hbb (by rw [submit_n]; exact h5.syn.not_own hbb (by unfold ownT; decide))
        have hcbk : w7.heap[cb]? = some (.cells #[.pointer (some ⟨sb, 0, none⟩), .int .i64 (s.n : Int), pv, lv] 30 (0, 0)) := hto7.blk (w := w5.drew) h5.blk (by rw [submit_n]; exact h5.cbNot)
        have hc7 : w7.cell? ⟨cb, 0, none⟩ = some (.pointer (some ⟨sb, 0, none⟩)) := (blk_cell hcbk 0).trans rfl
        go_wp2_with fail
        refine hK.out _ _ ⟨hq7, hc7⟩ (fun hS => ?_)
        clear hK K
        try simp only [Act.put, List.getElem_toArray, List.getElem_cons_zero, List.getElem_cons_succ, List.setIfInBounds_toArray, List.set_cons_zero, List.set_cons_succ]
        refine wpAnyH_ready (rs := [7]) (by kernel_rfl) (by simp) ?_
        refine AllReadyH.cons rfl (fun K hK => ?_) AllReadyH.nil
        go_simp
        refine hK.out _ _ ⟨hq7, hc7⟩ (fun hS => ?_)
        clear hK K
        try simp only [Act.put, List.getElem_toArray, List.getElem_cons_zero, List.getElem_cons_succ, List.setIfInBounds_toArray, List.set_cons_zero, List.set_cons_succ]
        refine wpAnyH_done (by kernel_rfl) ?_ _
        by_cases hE0 : E = 0
        · subst hE0
          rw [if_pos rfl] at hgood
          have hmv : Mv s ps (s.submit i p) (ps ++ [p]) := by
            have m := Mv.sub s ps i p hin hpr
            rw [← HEE.out, if_pos rfl] at m
            exact m
          obtain ⟨i0, hi0, hz0, hz1', hz2'⟩ := info_parts Try.infoPost
          obtain ⟨pa, pc, hpv, _⟩ := (owns_row hAt.posts).form
          subst hpv
          have hpo7 : w7.ownsRow 0 38 4 (.slice pa ps.length pc) ps.length (pcells ps) := by
            obtain ⟨L7, _, _, _, k7⟩ := id hto7
            rw [submit_n] at k7
            exact owns_keeps (w := w5.drew) h5.posts k7 (fun g hg => h5.pvNot hg)
          have hfew := h5.good.few h5.syn.ok
          have hbd : ps.length + 1 ≤ maxLen ∧ (ps.length + 1) * 40 ≤ 140737488355328 := ⟨by unfold maxLen; omega, by omega⟩
          have h1c : ∀ u ∈ [Value.int .i64 p.c, .int .i64 p.q, .int .i64 p.h, .string p.t], u.oneCell' = true := by
            intro u hu; simp at hu; rcases hu with rfl | rfl | rfl | rfl <;> rfl
          have hpvbb : (Value.slice pa ps.length pc).ownBlock ≠ some bb := fun e => by have h8 := hAt.own_lt (.inr (.inr e)); omega
          have hpc7 : w7.cell? ⟨cb, 2, none⟩ = some (.slice pa ps.length pc) := (blk_cell hcbk 2).trans rfl
          have hpc8 : ∀ o, (w7.alloc o).cell? ⟨cb, 2, none⟩ = some (.slice pa ps.length pc) := fun o => (blk_cell (blk_alloc hcbk o) 2).trans rfl
          go_wp2_with fail
          refine wp_region_held_drew (S := fun w' => w'.heap[bb]? = some (.cells #[.int .i64 p.c, .int .i64 p.q, .int .i64 p.h, .string p.t] 38 (0, 0))) (by kernel_rfl) (hq7) (fun hS => ?_)
          refine wpAnyH_take (i := 0) (v := ?_) rfl (by kernel_rfl) (by kernel_rfl) (by kernel_rfl) (fun _ _ _ h => h) (Or.inl ⟨by kernel_rfl, fun w' hw => ?_⟩) hS ?_
          rotate_left 1
          · go_simp; all_goals with_reducible rfl
          try simp only [Act.put, List.getElem_toArray, List.getElem_cons_zero, List.getElem_cons_succ, List.setIfInBounds_toArray, List.set_cons_zero, List.set_cons_succ]
          refine wpAnyH_take (i := 1) (v := ?_) rfl (by kernel_rfl) (by kernel_rfl) (by kernel_rfl) (fun _ _ _ h => h) (Or.inl ⟨by kernel_rfl, fun w' hw => ?_⟩) hS ?_
          rotate_left 1
          · go_simp; all_goals with_reducible rfl
          try simp only [Act.put, List.getElem_toArray, List.getElem_cons_zero, List.getElem_cons_succ, List.setIfInBounds_toArray, List.set_cons_zero, List.set_cons_succ]
          refine wpAnyH_take (i := 2) (v := ?_) rfl (by kernel_rfl) (by kernel_rfl) (by kernel_rfl) (fun _ _ _ h => h) (Or.inl ⟨by kernel_rfl, fun w' hw => ?_⟩) hS ?_
          rotate_left 1
          · go_simp; all_goals with_reducible rfl
          try simp only [Act.put, List.getElem_toArray, List.getElem_cons_zero, List.getElem_cons_succ, List.setIfInBounds_toArray, List.set_cons_zero, List.set_cons_succ]
          refine wpAnyH_take (i := 3) (v := ?_) rfl (by kernel_rfl) (by kernel_rfl) (by kernel_rfl) (fun _ _ _ h => h) (Or.inl ⟨by kernel_rfl, fun w' hw => ?_⟩) hS ?_
          rotate_left 1
          · go_simp; all_goals with_reducible rfl
          try simp only [Act.put, List.getElem_toArray, List.getElem_cons_zero, List.getElem_cons_succ, List.setIfInBounds_toArray, List.set_cons_zero, List.set_cons_succ]
          refine wpAnyH_take (i := 5) (v := ?_) rfl (by kernel_rfl) (by kernel_rfl) (by kernel_rfl) (fun _ _ _ h => h) (Or.inl ⟨by kernel_rfl, fun w' hw => ?_⟩) hS ?_
          rotate_left 1
          · have d1 := blk_cell hw; go_simp; all_goals with_reducible rfl
          try simp only [Act.put, List.getElem_toArray, List.getElem_cons_zero, List.getElem_cons_succ, List.setIfInBounds_toArray, List.set_cons_zero, List.set_cons_succ]
          refine wpAnyH_ready (rs := [4, 6]) (by kernel_rfl) (by simp) ?_
          refine AllReadyH.cons rfl (fun K hK => ?_) (AllReadyH.cons rfl (fun K hK => ?_) AllReadyH.nil)
          · go_simp
            refine hK.out _ _ hq7 (fun hS => ?_)
            clear hK K
            try simp only [Act.put, List.getElem_toArray, List.getElem_cons_zero, List.getElem_cons_succ, List.setIfInBounds_toArray, List.set_cons_zero, List.set_cons_succ]
            refine wpAnyH_ready (rs := [6]) (by kernel_rfl) (by simp) ?_
            refine AllReadyH.cons rfl (fun K hK => ?_) AllReadyH.nil
            go_simp
            refine hK.out _ _ (blk_alloc hq7 _) (fun hS => ?_)
            clear hK K
            try simp only [Act.put, List.getElem_toArray, List.getElem_cons_zero, List.getElem_cons_succ, List.setIfInBounds_toArray, List.set_cons_zero, List.set_cons_succ]
            refine wpAnyH_ready (rs := [7]) (by kernel_rfl) (by simp) ?_
            refine AllReadyH.cons rfl (fun K hK => ?_) AllReadyH.nil
            refine step_append_lies _ rfl (.tmp 80) (.tmp 82) 25 rfl 0 38 i0 _ 4 40 Try.underlying25 hi0 hz0 hz1' hz2' rfl (by decide) (.slice pa ps.length pc) ps.length (pcells ps) rfl (owns_alloc (owns_drew hpo7) _) _ 1 1 [.int .i64 p.c, .int .i64 p.q, .int .i64 p.h, .string p.t] rfl rfl (news_new _ _ rfl _ _) h1c (by decide) hbd.1 hbd.2 (Nat.zero_le _) _ rfl ?_
            intro g cap w9 hown9 hgr9 hat9 hlt9
            have hq9 := blk_grown hgr9 (blk_alloc hq7 _) hpvbb
            have hcb9 := blk_grown hgr9 (blk_alloc hcbk _) h5.pvCb
            have hc9 := blk_cell hcb9
            have hf9 := blk_free hcb9
            refine hK.out _ _ hq9 (fun hS => ?_)
            clear hK K
            try simp only [Act.put, List.getElem_toArray, List.getElem_cons_zero, List.getElem_cons_succ, List.setIfInBounds_toArray, List.set_cons_zero, List.set_cons_succ]
            refine wpAnyH_take (i := 8) (v := ?_) rfl (by kernel_rfl) (by kernel_rfl) (by kernel_rfl) (fun _ _ _ h => h) (Or.inl ⟨by kernel_rfl, fun w' hw => ?_⟩) hS ?_
            rotate_left 1
            · go_simp; all_goals with_reducible rfl
            try simp only [Act.put, List.getElem_toArray, List.getElem_cons_zero, List.getElem_cons_succ, List.setIfInBounds_toArray, List.set_cons_zero, List.set_cons_succ]
            refine wpAnyH_take (i := 9) (v := ?_) rfl (by kernel_rfl) (by kernel_rfl) (by kernel_rfl) (fun _ _ _ h => h) (Or.inl ⟨by kernel_rfl, fun w' hw => ?_⟩) hS ?_
            rotate_left 1
            · go_simp; all_goals with_reducible rfl
            try simp only [Act.put, List.getElem_toArray, List.getElem_cons_zero, List.getElem_cons_succ, List.setIfInBounds_toArray, List.set_cons_zero, List.set_cons_succ]
            refine wpAnyH_ready (rs := [10]) (by kernel_rfl) (by simp) ?_
            refine AllReadyH.cons rfl (fun K hK => ?_) AllReadyH.nil
            go_simp
            have hq10 := blk_set_other hq9 (a := ⟨cb, 2, none⟩) hbcb (.slice (some ⟨g, 0, none⟩) (ps.length + 1) cap)
            refine hK.out _ _ hq10 (fun hS => ?_)
            clear hK K
            try simp only [Act.put, List.getElem_toArray, List.getElem_cons_zero, List.getElem_cons_succ, List.setIfInBounds_toArray, List.set_cons_zero, List.set_cons_succ]
            refine wpAnyH_done (by kernel_rfl) ?_ _
            have hfin := (hAt.below (Below.drew hB5)).took (o := .cells #[.int .i64 p.c, .int .i64 p.q, .int .i64 p.h, .string p.t] 38) hto7 (submit_n _ _ _) hgood hown9 ⟨hgr9.os, hgr9.tape, hgr9.output, hgr9.size, hgr9.block⟩ hat9
            clear hc9 hf9 hcb9
            go_wp2_with fail
            go_ret
            exact ⟨rfl, _, _, Mvs.one hAt.syn.ok hmv, ChatTo.after (Below.drew hB5) hfin⟩
          · go_simp
            refine hK.out _ _ (blk_alloc hq7 _) (fun hS => ?_)
            clear hK K
            try simp only [Act.put, List.getElem_toArray, List.getElem_cons_zero, List.getElem_cons_succ, List.setIfInBounds_toArray, List.set_cons_zero, List.set_cons_succ]
            refine wpAnyH_ready (rs := [4]) (by kernel_rfl) (by simp) ?_
            refine AllReadyH.cons rfl (fun K hK => ?_) AllReadyH.nil
            go_simp
            refine hK.out _ _ (blk_alloc hq7 _) (fun hS => ?_)
            clear hK K
            try simp only [Act.put, List.getElem_toArray, List.getElem_cons_zero, List.getElem_cons_succ, List.setIfInBounds_toArray, List.set_cons_zero, List.set_cons_succ]
            refine wpAnyH_ready (rs := [7]) (by kernel_rfl) (by simp) ?_
            refine AllReadyH.cons rfl (fun K hK => ?_) AllReadyH.nil
            refine step_append_lies _ rfl (.tmp 80) (.tmp 82) 25 rfl 0 38 i0 _ 4 40 Try.underlying25 hi0 hz0 hz1' hz2' rfl (by decide) (.slice pa ps.length pc) ps.length (pcells ps) rfl (owns_alloc (owns_drew hpo7) _) _ 1 1 [.int .i64 p.c, .int .i64 p.q, .int .i64 p.h, .string p.t] rfl rfl (news_new _ _ rfl _ _) h1c (by decide) hbd.1 hbd.2 (Nat.zero_le _) _ rfl ?_
            intro g cap w9 hown9 hgr9 hat9 hlt9
            have hq9 := blk_grown hgr9 (blk_alloc hq7 _) hpvbb
            have hcb9 := blk_grown hgr9 (blk_alloc hcbk _) h5.pvCb
            have hc9 := blk_cell hcb9
            have hf9 := blk_free hcb9
            refine hK.out _ _ hq9 (fun hS => ?_)
            clear hK K
            try simp only [Act.put, List.getElem_toArray, List.getElem_cons_zero, List.getElem_cons_succ, List.setIfInBounds_toArray, List.set_cons_zero, List.set_cons_succ]
            refine wpAnyH_take (i := 8) (v := ?_) rfl (by kernel_rfl) (by kernel_rfl) (by kernel_rfl) (fun _ _ _ h => h) (Or.inl ⟨by kernel_rfl, fun w' hw => ?_⟩) hS ?_
            rotate_left 1
            · go_simp; all_goals with_reducible rfl
            try simp only [Act.put, List.getElem_toArray, List.getElem_cons_zero, List.getElem_cons_succ, List.setIfInBounds_toArray, List.set_cons_zero, List.set_cons_succ]
            refine wpAnyH_take (i := 9) (v := ?_) rfl (by kernel_rfl) (by kernel_rfl) (by kernel_rfl) (fun _ _ _ h => h) (Or.inl ⟨by kernel_rfl, fun w' hw => ?_⟩) hS ?_
            rotate_left 1
            · go_simp; all_goals with_reducible rfl
            try simp only [Act.put, List.getElem_toArray, List.getElem_cons_zero, List.getElem_cons_succ, List.setIfInBounds_toArray, List.set_cons_zero, List.set_cons_succ]
            refine wpAnyH_ready (rs := [10]) (by kernel_rfl) (by simp) ?_
            refine AllReadyH.cons rfl (fun K hK => ?_) AllReadyH.nil
            go_simp
            have hq10 := blk_set_other hq9 (a := ⟨cb, 2, none⟩) hbcb (.slice (some ⟨g, 0, none⟩) (ps.length + 1) cap)
            refine hK.out _ _ hq10 (fun hS => ?_)
            clear hK K
            try simp only [Act.put, List.getElem_toArray, List.getElem_cons_zero, List.getElem_cons_succ, List.setIfInBounds_toArray, List.set_cons_zero, List.set_cons_succ]
            refine wpAnyH_done (by kernel_rfl) ?_ _
            have hfin := (hAt.below (Below.drew hB5)).took (o := .cells #[.int .i64 p.c, .int .i64 p.q, .int .i64 p.h, .string p.t] 38) hto7 (submit_n _ _ _) hgood hown9 ⟨hgr9.os, hgr9.tape, hgr9.output, hgr9.size, hgr9.block⟩ hat9
            clear hc9 hf9 hcb9
            go_wp2_with fail
            go_ret
            exact ⟨rfl, _, _, Mvs.one hAt.syn.ok hmv, ChatTo.after (Below.drew hB5) hfin⟩
        · rw [if_neg hE0] at hgood
          have hch := (hAt.below (Below.drew hB5)).to hto7 hgood (submit_n _ _ _)
          have hmv : Mv s ps (s.submit i p) ps := by
            have m := Mv.sub s ps i p hin hpr
            rw [← HEE.out, if_neg hE0] at m
            exact m
          have hEb : (E == 0) = false := by simpa using hE0
          rcases hE with hE | hE | hE | hE | hE
          · exact absurd hE hE0
          all_goals
            subst hE
            go_wp2_with fail
            go_ret
            exact ⟨rfl, _, _, Mvs.one hAt.syn.ok hmv, ChatTo.after (Below.drew hB5) hch⟩
    have hk1 : (kd == 1) = false := by simpa using k1
    by_cases k3 : kd = 3
    · subst k3
      have hC := lose_yes h3.syn hjn
      go_wp2_with fail
      refine hC.mono ?_
      rintro e w4 ⟨rfl, hto⟩
      clear hC
      have hch := h3.to hto (mvs_good h3.good h3.syn.ok (.lose s ps jn hjn)) rfl
      go_wp2_with fail
      go_ret
      exact ⟨rfl, _, _, Mvs.one hAt.syn.ok (.lose s ps jn hjn), ChatTo.after hB3 hch⟩
    have hk3 : (kd == 3) = false := by simpa using k3
    by_cases k4 : kd = 4
    · subst k4
      by_cases hfu : s.net.length < 200
      · have hC := double_of (mdouble_yes h3.syn hjn hfu)
        go_wp2_with fail
        refine hC.mono ?_
        rintro e w4 ⟨rfl, hto⟩
        clear hC
        have hch := h3.to hto (mvs_good h3.good h3.syn.ok (.dbl s ps jn hjn)) rfl
        go_wp2_with fail
        go_ret
        exact ⟨rfl, _, _, Mvs.one hAt.syn.ok (.dbl s ps jn hjn), ChatTo.after hB3 hch⟩
      · have hC := double_of (mdouble_full h3.syn hjn (by omega))
        go_wp2_with fail
        refine hC.mono ?_
        rintro e w4 ⟨rfl, hw4⟩
        subst hw4
        clear hC
        go_wp2_with fail
        go_ret
        exact ⟨rfl, _, _, Mvs.refl _ _, ChatTo.after hB3 (ChatTo.refl h3)⟩
    have hk4 : (kd == 4) = false := by simpa using k4
    by_cases k5 : kd = 5
    · subst k5
      have hC := crash_yes h3.syn hin
      go_wp2_with fail
      refine hC.mono ?_
      rintro e w4 ⟨rfl, hto⟩
      clear hC
      have hch := h3.to hto (mvs_good h3.good h3.syn.ok (.crash s ps i hin)) rfl
      go_wp2_with fail
      go_ret
      exact ⟨rfl, _, _, Mvs.one hAt.syn.ok (.crash s ps i hin), ChatTo.after hB3 hch⟩
    have hk5 : (kd == 5) = false := by simpa using k5
    by_cases k6 : kd = 6
    · subst k6
      have hC := settled_syn h3.syn ps
      have hsn := settle_n 20000 s
      generalize Sy.settle 20000 s = S6 at *
      go_wp2_with fail
      refine hC.mono ?_
      rintro e w4 ⟨rfl, hms, hto⟩
      clear hC
      have hch := h3.to hto (goods h3.good hms) hsn
      go_wp2_with fail
      go_ret
      exact ⟨rfl, _, _, hms, ChatTo.after hB3 hch⟩
    have hk6 : (kd == 6) = false := by simpa using k6
    have hC := deliver_yes h3.syn hjn
    go_wp2_with fail
    refine hC.mono ?_
    rintro e w4 ⟨rfl, hto⟩
    clear hC
    have hch := h3.to hto (mvs_good h3.good h3.syn.ok (.dlv s ps jn hjn)) (deliver_n _ _)
    go_wp2_with fail
    go_ret
    exact ⟨rfl, _, _, Mvs.one hAt.syn.ok (.dlv s ps jn hjn), ChatTo.after hB3 hch⟩
end Go.Proofs.Ytnnhnekfokbooaa
