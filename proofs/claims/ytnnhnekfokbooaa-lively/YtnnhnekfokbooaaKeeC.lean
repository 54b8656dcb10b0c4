/- The walks of awake and begins (laid by mkkeec.py). -/
import Derived.Test.YtnnhnekfokbooaaKeeB0
namespace Go.Proofs.Ytnnhnekfokbooaa
open Go.RowKit
set_option linter.unusedSimpArgs false
set_option linter.unusedVariables false

def hiP : Pst := ⟨2, 3, 1, ⟨#[104, 105]⟩⟩
def aw1 : Sy := (newSy 3).campaign 1
def aw2 : Sy := Sy.settle 20000 aw1
def aw3 : Sy := aw2.submit 1 hiP
def aw4 : Sy := Sy.settle 20000 aw3
set_option maxRecDepth 100000 in
theorem aw_e1 : (newSy 3).campE 1 = 0 := by kernel_rfl
set_option maxRecDepth 100000 in
theorem aw_e2 : aw2.subE 1 hiP = 0 := by kernel_rfl
set_option maxRecDepth 100000 in
theorem aw_log : logOf (aw4.rep 2).dec = [hiP] := by kernel_rfl
theorem aw_n1 : aw1.n = 3 := campaign_n _ _
theorem aw_n2 : aw2.n = 3 := (settle_n _ _).trans aw_n1
theorem aw_n3 : aw3.n = 3 := (submit_n _ _ _).trans aw_n2
theorem aw_n4 : aw4.n = 3 := (settle_n _ _).trans aw_n3

set_option maxHeartbeats 4000000 in
set_option maxRecDepth 100000 in
theorem awake_any (w : World) : Calls Try.prog 24 #[] w fun e w' => e = .returned (.bool true) ∧ Below w.heap.size w w' := by
  have hN := new_yes 3 (by decide) w
  go_enter Try.func24, Try.ntmps24
  go_wp2_with fail
  refine hN.mono ?_
  rintro e w1 ⟨L, rfl, h1, hown, hB1⟩
  clear hN
  have hC := campaign_yes h1 (i := 1) (by decide)
  rw [aw_e1] at hC
  go_wp2_with fail
  refine hC.mono ?_
  rintro e w2 ⟨rfl, hto2⟩
  clear hC
  have hto2' : SynTo w1 w.heap.size L w2 aw1 := hto2
  obtain ⟨L2, h2, e2, o2, k2⟩ := id hto2'
  have hS := settled_syn h2 []
  go_wp2_with fail
  refine hS.mono ?_
  rintro e w3 ⟨rfl, hm3, hto3⟩
  clear hS
  have hto3' : SynTo w1 w.heap.size L w3 aw2 := SynTo.next e2 o2 k2 (settle_n _ _) hto3
  obtain ⟨L3, h3, e3, o3, k3⟩ := id hto3'
  have hg0 := newSy_good 3 (by decide)
  have hg1 : Good aw1 [] := (hg0.mv h1.ok (.camp (newSy 3) [] 1 (by decide))).1
  have hg2 : Good aw2 [] := goods hg1 hm3
  have hB3 : Below w3.heap.size w3 (w3.alloc (.cells #[.int .i64 2, .int .i64 3, .int .i64 1, .string ⟨#[104, 105]⟩] 38)) := (Below.refl _ w3).alloc (Nat.le_refl _) _
  have hz := blk_new w3 (.cells #[.int .i64 0, .int .i64 0, .int .i64 0, .string ⟨#[]⟩] 38)
  have hzc := blk_cell hz
  have hzf := blk_free hz
  have hbb := blk_new w3 (.cells #[.int .i64 2, .int .i64 3, .int .i64 1, .string ⟨#[104, 105]⟩] 38)
  have hbc := blk_cell hbb
  have hSub := submit_yes (h3.below hB3) (i := 1) (by rw [aw_n2]; decide) hiP (by kernel_rfl) (hg2.bal h3.ok (by rw [aw_n2]; decide))
  rw [aw_e2] at hSub
  go_wp2_with fail
  refine hSub.mono ?_
  rintro e w4 ⟨rfl, hto4⟩
  clear hSub
  have hto4' : SynTo w1 w.heap.size L w4 aw3 := SynTo.next e3 o3 k3 (submit_n _ _ _) (SynTo.after h3 (submit_n _ _ _) hB3 hto4)
  have hno : ∀ s' : Sy, s'.n = 3 → ¬ L3.own w.heap.size s'.n w3.heap.size := fun s' hn ho => by
    have := h3.own_lt (by rw [aw_n2, ← hn]; exact ho)
    omega
  have hbb4 := hto4.blk hbb (hno _ aw_n3)
  obtain ⟨L4, h4, e4, o4, k4⟩ := id hto4'
  have hS := settled_syn h4 []
  clear hzc hzf hbc
  go_wp2_with fail
  refine hS.mono ?_
  rintro e w5 ⟨rfl, hm5, hto5⟩
  clear hS
  have hto5' : SynTo w1 w.heap.size L w5 aw4 := SynTo.next e4 o4 k4 (settle_n _ _) hto5
  obtain ⟨L5, h5, e5, o5, k5⟩ := id hto5'
  have hbb5 := hto5.blk hbb4 (fun ho => by
    have hn : (Sy.settle 20000 aw3).n = 3 := aw_n4
    rw [hn] at ho
    have ht := h4.not_own hbb4 (by unfold ownT; decide)
    rw [aw_n3] at ht
    exact ht ho)
  have hL := log_yes h5 (i := 2) (by rw [aw_n4]; decide)
  rw [aw_log] at hL
  go_wp2_with fail
  refine hL.mono ?_
  rintro e w6 ⟨v6, rfl, hown6, hB6⟩
  clear hL
  have hbb6 := blk_below hB6 hbb5
  rcases hown6.2 with ⟨_, h0⟩ | ⟨g, cap, cur, rfl, hbg, hg, hnc, hcm, hcs, htake⟩
  · cases h0
  have hcell := hown6.cells (g := g) rfl
  have k0 := hcell 0 (.int .i64 2) rfl
  have k1' := hcell 1 (.int .i64 3) rfl
  have k2' := hcell 2 (.int .i64 1) rfl
  have k3' := hcell 3 (.string ⟨#[104, 105]⟩) rfl
  simp only [Addr.add_mid, Nat.zero_add] at k0 k1' k2' k3'
  have hB : Below w.heap.size w w6 := by
    refine Below.trans ?_ (hB6.mono ?_)
    · refine Keeps.toBelow hB1 k5 (fun b hb => ?_) hB1.size
      rw [aw_n4] at hb
      exact hown b hb
    · exact Nat.le_trans hB1.size k5.size
  clear hcell
  go_wp2_with fail
  refine wp_region_held_drew (S := fun w' => w'.heap[w3.heap.size]? = some (.cells #[.int .i64 2, .int .i64 3, .int .i64 1, .string ⟨#[104, 105]⟩] 38 (0, 0)) ∧ w'.cell? ⟨g, 0, none⟩ = some (.int .i64 2) ∧ w'.cell? ⟨g, 1, none⟩ = some (.int .i64 3) ∧ w'.cell? ⟨g, 2, none⟩ = some (.int .i64 1) ∧ w'.cell? ⟨g, 3, none⟩ = some (.string ⟨#[104, 105]⟩)) (by kernel_rfl) (⟨hbb6, k0, k1', k2', k3'⟩) (fun hS => ?_)
  refine wpAnyH_take (i := 0) (v := ?_) rfl (by kernel_rfl) (by kernel_rfl) (by kernel_rfl) (fun _ _ _ h => h) (Or.inl ⟨by kernel_rfl, fun w' hw => ?_⟩) hS ?_
  rotate_left 1
  · have d1 := blk_cell hw.1; have d2 := hw.2.1; have d3 := hw.2.2.1; have d4 := hw.2.2.2.1; have d5 := hw.2.2.2.2; go_simp; all_goals with_reducible rfl
  try simp only [Act.put, List.getElem_toArray, List.getElem_cons_zero, List.getElem_cons_succ, List.setIfInBounds_toArray, List.set_cons_zero, List.set_cons_succ]
  refine wpAnyH_take (i := 1) (v := ?_) rfl (by kernel_rfl) (by kernel_rfl) (by kernel_rfl) (fun _ _ _ h => h) (Or.inl ⟨by kernel_rfl, fun w' hw => ?_⟩) hS ?_
  rotate_left 1
  · have d1 := blk_cell hw.1; have d2 := hw.2.1; have d3 := hw.2.2.1; have d4 := hw.2.2.2.1; have d5 := hw.2.2.2.2; go_simp; all_goals with_reducible rfl
  try simp only [Act.put, List.getElem_toArray, List.getElem_cons_zero, List.getElem_cons_succ, List.setIfInBounds_toArray, List.set_cons_zero, List.set_cons_succ]
  refine wpAnyH_take (i := 2) (v := ?_) rfl (by kernel_rfl) (by kernel_rfl) (by kernel_rfl) (fun _ _ _ h => h) (Or.inl ⟨by kernel_rfl, fun w' hw => ?_⟩) hS ?_
  rotate_left 1
  · have d1 := blk_cell hw.1; have d2 := hw.2.1; have d3 := hw.2.2.1; have d4 := hw.2.2.2.1; have d5 := hw.2.2.2.2; go_simp; all_goals with_reducible rfl
  try simp only [Act.put, List.getElem_toArray, List.getElem_cons_zero, List.getElem_cons_succ, List.setIfInBounds_toArray, List.set_cons_zero, List.set_cons_succ]
  refine wpAnyH_take (i := 3) (v := ?_) rfl (by kernel_rfl) (by kernel_rfl) (by kernel_rfl) (fun _ _ _ h => h) (Or.inl ⟨by kernel_rfl, fun w' hw => ?_⟩) hS ?_
  rotate_left 1
  · have d1 := blk_cell hw.1; have d2 := hw.2.1; have d3 := hw.2.2.1; have d4 := hw.2.2.2.1; have d5 := hw.2.2.2.2; go_simp; all_goals with_reducible rfl
  try simp only [Act.put, List.getElem_toArray, List.getElem_cons_zero, List.getElem_cons_succ, List.setIfInBounds_toArray, List.set_cons_zero, List.set_cons_succ]
  refine wpAnyH_take (i := 4) (v := ?_) rfl (by kernel_rfl) (by kernel_rfl) (by kernel_rfl) (fun _ _ _ h => h) (Or.inl ⟨by kernel_rfl, fun w' hw => ?_⟩) hS ?_
  rotate_left 1
  · have d1 := blk_cell hw.1; have d2 := hw.2.1; have d3 := hw.2.2.1; have d4 := hw.2.2.2.1; have d5 := hw.2.2.2.2; go_simp; all_goals with_reducible rfl
  try simp only [Act.put, List.getElem_toArray, List.getElem_cons_zero, List.getElem_cons_succ, List.setIfInBounds_toArray, List.set_cons_zero, List.set_cons_succ]
  refine wpAnyH_ready (rs := [5]) (by kernel_rfl) (by simp) ?_
  refine AllReadyH.cons rfl (fun K hK => ?_) AllReadyH.nil
  go_simp
  refine hK.out _ _ ⟨hbb6, k0, k1', k2', k3'⟩ (fun hS => ?_)
  clear hK K
  try simp only [Act.put, List.getElem_toArray, List.getElem_cons_zero, List.getElem_cons_succ, List.setIfInBounds_toArray, List.set_cons_zero, List.set_cons_succ]
  refine wpAnyH_done (by kernel_rfl) ?_ _
  go_wp2_with fail
  go_ret
  exact ⟨rfl, Below.drew hB⟩

theorem Try.infoPosts : (Try.prog.info? 25).map (fun i => (i.zero, i.size, i.bytes)) = some (some (.slice none 0 0), 1, 24) := by kernel_rfl
theorem four_cases {z : Int} (h0 : 0 ≤ z) (h1 : z < 4) : z = 0 ∨ z = 1 ∨ z = 2 ∨ z = 3 := by omega
set_option maxHeartbeats 4000000 in
set_option maxRecDepth 100000 in
theorem begins_any (raw : Int) (hraw : I64 raw) (w : World) : Calls Try.prog 8 #[.int .i64 raw] w fun e w' => ∃ (cb sb : Nat) (L : Lay) (n lb : Nat), e = .returned (.pointer (some ⟨cb, 0, none⟩)) ∧ (n : Int) = 2 * pickZ raw 4 + 1 ∧ ChatAt w' cb sb L (newSy n) (.slice none 0 0) (.slice (some ⟨lb, 0, none⟩) n n) [] ∧ (∀ k, cOwn cb sb L n (.slice none 0 0) k → w.heap.size ≤ k) ∧ w'.heap[lb]? = some (.cells (List.replicate n (Value.slice none 0 0)).toArray 25 (0, 0)) ∧ w.heap.size ≤ lb ∧ Below w.heap.size w w' := by
  obtain ⟨i0, hi, hz0, hz1, hz2⟩ := info_parts Try.infoPosts
  have hA := awake_any w
  have hP := fun W => pick_any raw 4 W hraw (by decide) (by decide)
  have hb := pickZ_bound raw 4 (by decide)
  generalize pickZ raw 4 = z at *
  rcases four_cases hb.1 hb.2 with rfl | rfl | rfl | rfl
  · go_enter Try.func8, Try.ntmps8
    go_wp2_with fail
    refine hA.mono ?_
    rintro e w1 ⟨rfl, hB1⟩
    clear hA
    have hl := blk_new w1 (.cells #[.int .i64 1, .int .i64 3, .int .i64 5, .int .i64 7] 3)
    have hlc := blk_cell hl
    have hB2 := hB1.alloc hB1.size (.cells #[.int .i64 1, .int .i64 3, .int .i64 5, .int .i64 7] 3)
    go_wp2_with fail
    refine (hP _).mono ?_
    rintro e w2 ⟨rfl, hw2⟩
    subst hw2
    clear hP
    have hN := new_yes 1 (by decide) (w1.alloc (.cells #[.int .i64 1, .int .i64 3, .int .i64 5, .int .i64 7] 3))
    simp only [World.size_alloc] at hN
    go_wp2_with fail
    refine hN.mono ?_
    rintro e w3 ⟨L, rfl, h3, hown, hB3⟩
    clear hN
    have hB3' : Below w.heap.size w w3 := Below.trans hB2 (hB3.mono (by have := hB1.size; simp; omega))
    go_wp2_with (at_make; refine wpList_make_full _ rfl (.tmp 30) (.tmp 30) 28 rfl w3.heap.size 25 i0 _ 1 Try.underlying28 hi hz0 hz1 _ _ _ _ 1 rfl rfl rfl rfl (by rw [hz2]; omega) (by unfold maxLen; omega) (Nat.le_refl _) ?_; intro w4 hown4 hgr4)
    go_ret
    have hB4 : Below w3.heap.size w3 w4 := ⟨hgr4.os, hgr4.tape, hgr4.output, hgr4.size, fun k hk => hgr4.block k hk (by simp)⟩
    rcases hown4.2 with ⟨h1, _⟩ | ⟨g, cap, cur, h1, hbg, hg, hnc, hcm, hcs, htake⟩
    · cases h1
    have h2 : w3.heap.size = g ∧ 1 = cap := by injection h1 with h1 _ h3; injection h1 with h1; injection h1 with h1; exact ⟨h1, h3⟩
    obtain ⟨rfl, rfl⟩ := h2
    have hcur : cur = (List.replicate 1 (Value.slice none 0 0)).toArray := by
      have h5 : cur.toList = List.replicate 1 (Value.slice none 0 0) := by
        rw [← List.take_of_length_le (l := cur.toList) (i := 1 * 1) (by rw [Array.length_toList]; omega), htake]
        kernel_rfl
      rw [← h5]
    subst hcur
    have hsz := hB1.size
    have hB5 := hB4.alloc hB4.size (.cells #[.pointer (some ⟨w1.heap.size + 1, 0, none⟩), .int .i64 1, .slice none 0 0, .slice (some ⟨w3.heap.size, 0, none⟩) 1 1] 30)
    have hs43 := hB4.size
    have hs31 := hB3.size
    rw [World.size_alloc] at hs31
    refine ⟨w4.heap.size, w1.heap.size + 1, L, 1, w3.heap.size, rfl, rfl, ⟨h3.below hB5, newSy_good 1 (by decide), blk_new w4 _, World.ownsRow_nil _ _ _ _⟩, fun k hk => ?_, blk_alloc hg _, by omega, Below.trans hB3' (hB5.mono (by omega))⟩
    rcases hk with hk | hk | hk
    · omega
    · have := hown k hk; omega
    · cases hk
  · go_enter Try.func8, Try.ntmps8
    go_wp2_with fail
    refine hA.mono ?_
    rintro e w1 ⟨rfl, hB1⟩
    clear hA
    have hl := blk_new w1 (.cells #[.int .i64 1, .int .i64 3, .int .i64 5, .int .i64 7] 3)
    have hlc := blk_cell hl
    have hB2 := hB1.alloc hB1.size (.cells #[.int .i64 1, .int .i64 3, .int .i64 5, .int .i64 7] 3)
    go_wp2_with fail
    refine (hP _).mono ?_
    rintro e w2 ⟨rfl, hw2⟩
    subst hw2
    clear hP
    have hN := new_yes 3 (by decide) (w1.alloc (.cells #[.int .i64 1, .int .i64 3, .int .i64 5, .int .i64 7] 3))
    simp only [World.size_alloc] at hN
    go_wp2_with fail
    refine hN.mono ?_
    rintro e w3 ⟨L, rfl, h3, hown, hB3⟩
    clear hN
    have hB3' : Below w.heap.size w w3 := Below.trans hB2 (hB3.mono (by have := hB1.size; simp; omega))
    go_wp2_with (at_make; refine wpList_make_full _ rfl (.tmp 30) (.tmp 30) 28 rfl w3.heap.size 25 i0 _ 1 Try.underlying28 hi hz0 hz1 _ _ _ _ 3 rfl rfl rfl rfl (by rw [hz2]; omega) (by unfold maxLen; omega) (Nat.le_refl _) ?_; intro w4 hown4 hgr4)
    go_ret
    have hB4 : Below w3.heap.size w3 w4 := ⟨hgr4.os, hgr4.tape, hgr4.output, hgr4.size, fun k hk => hgr4.block k hk (by simp)⟩
    rcases hown4.2 with ⟨h1, _⟩ | ⟨g, cap, cur, h1, hbg, hg, hnc, hcm, hcs, htake⟩
    · cases h1
    have h2 : w3.heap.size = g ∧ 3 = cap := by injection h1 with h1 _ h3; injection h1 with h1; injection h1 with h1; exact ⟨h1, h3⟩
    obtain ⟨rfl, rfl⟩ := h2
    have hcur : cur = (List.replicate 3 (Value.slice none 0 0)).toArray := by
      have h5 : cur.toList = List.replicate 3 (Value.slice none 0 0) := by
        rw [← List.take_of_length_le (l := cur.toList) (i := 3 * 1) (by rw [Array.length_toList]; omega), htake]
        kernel_rfl
      rw [← h5]
    subst hcur
    have hsz := hB1.size
    have hB5 := hB4.alloc hB4.size (.cells #[.pointer (some ⟨w1.heap.size + 1, 0, none⟩), .int .i64 3, .slice none 0 0, .slice (some ⟨w3.heap.size, 0, none⟩) 3 3] 30)
    have hs43 := hB4.size
    have hs31 := hB3.size
    rw [World.size_alloc] at hs31
    refine ⟨w4.heap.size, w1.heap.size + 1, L, 3, w3.heap.size, rfl, rfl, ⟨h3.below hB5, newSy_good 3 (by decide), blk_new w4 _, World.ownsRow_nil _ _ _ _⟩, fun k hk => ?_, blk_alloc hg _, by omega, Below.trans hB3' (hB5.mono (by omega))⟩
    rcases hk with hk | hk | hk
    · omega
    · have := hown k hk; omega
    · cases hk
  · go_enter Try.func8, Try.ntmps8
    go_wp2_with fail
    refine hA.mono ?_
    rintro e w1 ⟨rfl, hB1⟩
    clear hA
    have hl := blk_new w1 (.cells #[.int .i64 1, .int .i64 3, .int .i64 5, .int .i64 7] 3)
    have hlc := blk_cell hl
    have hB2 := hB1.alloc hB1.size (.cells #[.int .i64 1, .int .i64 3, .int .i64 5, .int .i64 7] 3)
    go_wp2_with fail
    refine (hP _).mono ?_
    rintro e w2 ⟨rfl, hw2⟩
    subst hw2
    clear hP
    have hN := new_yes 5 (by decide) (w1.alloc (.cells #[.int .i64 1, .int .i64 3, .int .i64 5, .int .i64 7] 3))
    simp only [World.size_alloc] at hN
    go_wp2_with fail
    refine hN.mono ?_
    rintro e w3 ⟨L, rfl, h3, hown, hB3⟩
    clear hN
    have hB3' : Below w.heap.size w w3 := Below.trans hB2 (hB3.mono (by have := hB1.size; simp; omega))
    go_wp2_with (at_make; refine wpList_make_full _ rfl (.tmp 30) (.tmp 30) 28 rfl w3.heap.size 25 i0 _ 1 Try.underlying28 hi hz0 hz1 _ _ _ _ 5 rfl rfl rfl rfl (by rw [hz2]; omega) (by unfold maxLen; omega) (Nat.le_refl _) ?_; intro w4 hown4 hgr4)
    go_ret
    have hB4 : Below w3.heap.size w3 w4 := ⟨hgr4.os, hgr4.tape, hgr4.output, hgr4.size, fun k hk => hgr4.block k hk (by simp)⟩
    rcases hown4.2 with ⟨h1, _⟩ | ⟨g, cap, cur, h1, hbg, hg, hnc, hcm, hcs, htake⟩
    · cases h1
    have h2 : w3.heap.size = g ∧ 5 = cap := by injection h1 with h1 _ h3; injection h1 with h1; injection h1 with h1; exact ⟨h1, h3⟩
    obtain ⟨rfl, rfl⟩ := h2
    have hcur : cur = (List.replicate 5 (Value.slice none 0 0)).toArray := by
      have h5 : cur.toList = List.replicate 5 (Value.slice none 0 0) := by
        rw [← List.take_of_length_le (l := cur.toList) (i := 5 * 1) (by rw [Array.length_toList]; omega), htake]
        kernel_rfl
      rw [← h5]
    subst hcur
    have hsz := hB1.size
    have hB5 := hB4.alloc hB4.size (.cells #[.pointer (some ⟨w1.heap.size + 1, 0, none⟩), .int .i64 5, .slice none 0 0, .slice (some ⟨w3.heap.size, 0, none⟩) 5 5] 30)
    have hs43 := hB4.size
    have hs31 := hB3.size
    rw [World.size_alloc] at hs31
    refine ⟨w4.heap.size, w1.heap.size + 1, L, 5, w3.heap.size, rfl, rfl, ⟨h3.below hB5, newSy_good 5 (by decide), blk_new w4 _, World.ownsRow_nil _ _ _ _⟩, fun k hk => ?_, blk_alloc hg _, by omega, Below.trans hB3' (hB5.mono (by omega))⟩
    rcases hk with hk | hk | hk
    · omega
    · have := hown k hk; omega
    · cases hk
  · go_enter Try.func8, Try.ntmps8
    go_wp2_with fail
    refine hA.mono ?_
    rintro e w1 ⟨rfl, hB1⟩
    clear hA
    have hl := blk_new w1 (.cells #[.int .i64 1, .int .i64 3, .int .i64 5, .int .i64 7] 3)
    have hlc := blk_cell hl
    have hB2 := hB1.alloc hB1.size (.cells #[.int .i64 1, .int .i64 3, .int .i64 5, .int .i64 7] 3)
    go_wp2_with fail
    refine (hP _).mono ?_
    rintro e w2 ⟨rfl, hw2⟩
    subst hw2
    clear hP
    have hN := new_yes 7 (by decide) (w1.alloc (.cells #[.int .i64 1, .int .i64 3, .int .i64 5, .int .i64 7] 3))
    simp only [World.size_alloc] at hN
    go_wp2_with fail
    refine hN.mono ?_
    rintro e w3 ⟨L, rfl, h3, hown, hB3⟩
    clear hN
    have hB3' : Below w.heap.size w w3 := Below.trans hB2 (hB3.mono (by have := hB1.size; simp; omega))
    go_wp2_with (at_make; refine wpList_make_full _ rfl (.tmp 30) (.tmp 30) 28 rfl w3.heap.size 25 i0 _ 1 Try.underlying28 hi hz0 hz1 _ _ _ _ 7 rfl rfl rfl rfl (by rw [hz2]; omega) (by unfold maxLen; omega) (Nat.le_refl _) ?_; intro w4 hown4 hgr4)
    go_ret
    have hB4 : Below w3.heap.size w3 w4 := ⟨hgr4.os, hgr4.tape, hgr4.output, hgr4.size, fun k hk => hgr4.block k hk (by simp)⟩
    rcases hown4.2 with ⟨h1, _⟩ | ⟨g, cap, cur, h1, hbg, hg, hnc, hcm, hcs, htake⟩
    · cases h1
    have h2 : w3.heap.size = g ∧ 7 = cap := by injection h1 with h1 _ h3; injection h1 with h1; injection h1 with h1; exact ⟨h1, h3⟩
    obtain ⟨rfl, rfl⟩ := h2
    have hcur : cur = (List.replicate 7 (Value.slice none 0 0)).toArray := by
      have h5 : cur.toList = List.replicate 7 (Value.slice none 0 0) := by
        rw [← List.take_of_length_le (l := cur.toList) (i := 7 * 1) (by rw [Array.length_toList]; omega), htake]
        kernel_rfl
      rw [← h5]
    subst hcur
    have hsz := hB1.size
    have hB5 := hB4.alloc hB4.size (.cells #[.pointer (some ⟨w1.heap.size + 1, 0, none⟩), .int .i64 7, .slice none 0 0, .slice (some ⟨w3.heap.size, 0, none⟩) 7 7] 30)
    have hs43 := hB4.size
    have hs31 := hB3.size
    rw [World.size_alloc] at hs31
    refine ⟨w4.heap.size, w1.heap.size + 1, L, 7, w3.heap.size, rfl, rfl, ⟨h3.below hB5, newSy_good 7 (by decide), blk_new w4 _, World.ownsRow_nil _ _ _ _⟩, fun k hk => ?_, blk_alloc hg _, by omega, Below.trans hB3' (hB5.mono (by omega))⟩
    rcases hk with hk | hk | hk
    · omega
    · have := hown k hk; omega
    · cases hk
end Go.Proofs.Ytnnhnekfokbooaa
