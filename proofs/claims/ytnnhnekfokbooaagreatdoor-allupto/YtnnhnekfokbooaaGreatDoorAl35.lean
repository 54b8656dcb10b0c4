/- SynS -/
import Derived.Test.YtnnhnekfokbooaaGreatDoorAl20
set_option linter.unusedSimpArgs false
set_option linter.unusedVariables false
set_option maxRecDepth 100000
namespace Go.Proofs.YtnnhnekfokbooaaGreatDoor
section
open Go.RowKit
theorem rnew_any (i n sb : Nat) (w : World) :
  Calls Tryz.prog 47 #[I6 (i : Int), I6 (n : Int), .pointer (some (A6 sb 1))] w fun e w' => e = .returned (P6 w.heap.size) ∧ w' = w.alloc (.cells (repCells i n sb noRp idleV).toArray 137) := by
 go_enter Tryz.func47, Tryz.ntmps47
 go_wp2_with fail
 go_ret
 exact ⟨rfl, rfl⟩
def ptrs (rb : Nat → Nat) (k : Nat) : List Value := (List.range k).map fun i => Value.pointer (some (A6 (rb i) 0))
theorem ptrs_succ (rb : Nat → Nat) (k b : Nat) : ptrs (fun i => if i = k then b else rb i) (k + 1) = ptrs rb k ++ [P6 b] := by
 unfold ptrs
 rw [List.range_succ, List.map_append]
 congr 1
 ·apply List.map_congr_left
  intro i hi
  have := List.mem_range.1 hi
  show Value.pointer (some (A6 (if i = k then b else rb i) 0)) = _
  rw [if_neg (by omega)]
 ·simp
theorem Tryz.infoPtr : (Tryz.prog.info? 98).map (fun i => (i.zero, i.size, i.bytes)) = some (some (.pointer none), 1, 8) := by kernel_rfl
theorem newSy_rep (n i : Nat) (h : i < n) : (newSy n).rep i = noRp := by
 unfold newSy Sy.rep
 simp [List.getD_eq_getElem?_getD, h]
theorem noRp_ok : noRp.ok := ⟨by decide, by decide, by decide, by decide, rfl, fun v hv => by rw [List.eq_of_mem_replicate hv]; exact ⟨by decide, by decide⟩, rfl, trivial⟩
theorem newSy_ok (n : Nat) (hn : n = 1 ∨ n = 3 ∨ n = 5 ∨ n = 7) : (newSy n).ok :=
 ⟨by show 1 ≤ n; omega, by show n ≤ 7; omega, by simp [newSy], fun r hr => by rw [List.eq_of_mem_replicate hr]; exact noRp_ok, by simp [newSy], by simp [newSy]⟩
set_option maxHeartbeats 2000000 in
theorem new_yes (n : Nat) (hn : n = 1 ∨ n = 3 ∨ n = 5 ∨ n = 7) (w : World) :
  Calls Tryz.prog 16 #[I6 (n : Int)] w fun e w' => ∃ L, e = .returned (.tuple #[P6 w.heap.size, I6 0]) ∧ SynAt w' w.heap.size L (newSy n) ∧ (∀ k, L.own w.heap.size n k → w.heap.size ≤ k) ∧ Below w.heap.size w w' := by
 obtain ⟨i0, hi, hz0, hz1, hz2⟩ := info_parts Tryz.infoPtr
 have n0 : 1 ≤ n := by omega
 have n7 : n ≤ 7 := by omega
 have q0 : decide ((n : Int) < 1) = false := decide_eq_false (by omega)
 have q1 : decide ((7 : Int) < (n : Int)) = false := decide_eq_false (by omega)
 have q2 : ((n : Int) % 2 == 0) = false := by rcases hn with rfl | rfl | rfl | rfl <;> rfl
 have hz := blk_new w (.cells #[.slice none 0 0, .slice none 0 0] 97)
 go_enter Tryz.func16, Tryz.ntmps16
 go_wp2_with fail
 go_loopw [5, 20] (fun q i wr => ∃ (k : Nat) (v : Value) (rb : Nat → Nat), k ≤ n ∧ i = I6 k ∧ wr.heap[w.heap.size]? = some (.cells #[v, .slice none 0 0] 97 (0, 0)) ∧ wr.ownsRow w.heap.size 98 1 v k (ptrs rb k) ∧ (∀ j, j < k → wr.heap[rb j]? = some (.cells (repCells j n w.heap.size noRp idleV).toArray 137 (0, 0)) ∧ w.heap.size ≤ rb j) ∧ (∀ i j, i < k → j < k → rb i = rb j → i = j) ∧ Below w.heap.size w wr) (fun _ i _ => n - (intOf i).toNat)
 case atStart => exact ⟨0, .slice none 0 0, fun _ => 0, by omega, rfl, hz, World.ownsRow_nil _ _ _ _, fun j hj => by omega, fun i j hi => by omega, (Below.refl _ w).alloc (Nat.le_refl _) _⟩
 case round =>
  obtain ⟨k, v, rb, hk, rfl, hsb, hown, hrep, hinj, hB⟩ := hrel
  by_cases hkn : k < n
  ·obtain ⟨va, vc, hve, _⟩ := (owns_row hown).form
   subst hve
   have hc0 : wr.cell? (A6 w.heap.size 0) = some (.slice va k vc) := (blk_cell hsb 0).trans rfl
   have hf0 := blk_free hsb 0
   have hslt := lt_of_block hsb
   have q3 : (k : Int) < (n : Int) := by omega
   have hR := rnew_any k n w.heap.size wr.drew
   have hbb : k + 1 ≤ maxLen ∧ (k + 1) * 8 ≤ 140737488355328 := ⟨by unfold maxLen; omega, by omega⟩
   have hvb : (Value.slice va k vc).ownBlock ≠ some w.heap.size := fun e => by
    obtain ⟨cs, hc⟩ := owns_blk hown e
    rw [hsb] at hc; injection hc with e; injection e with _ e; simp at e
   have Hfin : Hid (∀ (w2 w4 : World) (g cap : Nat), Below wr.heap.size wr w2 → w2.heap.size = wr.heap.size + 1 → w2.heap[wr.heap.size]? = some (.cells (repCells k n w.heap.size noRp idleV).toArray 137 (0, 0)) → w4.ownsRow w.heap.size 98 1 (.slice (some (A6 g 0)) (k + 1) cap) (k + 1) (ptrs rb k ++ [P6 wr.heap.size]) → (w2.alloc (.cells #[P6 wr.heap.size] 98)).grownBy w4 (Value.slice va k vc).ownBlock → ((Value.slice va k vc).ownBlock = some g ∨ g = (w2.alloc (.cells #[P6 wr.heap.size] 98)).heap.size) →
     ∃ (v : Value) (rb : Nat → Nat), (w4.setCell (A6 w.heap.size 0) (.slice (some (A6 g 0)) (k + 1) cap)).heap[w.heap.size]? = some (.cells #[v, .slice none 0 0] 97 (0, 0)) ∧ (w4.setCell (A6 w.heap.size 0) (.slice (some (A6 g 0)) (k + 1) cap)).ownsRow w.heap.size 98 1 v (k + 1) (ptrs rb (k + 1)) ∧ (∀ j, j < k + 1 → (w4.setCell (A6 w.heap.size 0) (.slice (some (A6 g 0)) (k + 1) cap)).heap[rb j]? = some (.cells (repCells j n w.heap.size noRp idleV).toArray 137 (0, 0)) ∧ w.heap.size ≤ rb j) ∧ (∀ i j, i < k + 1 → j < k + 1 → rb i = rb j → i = j) ∧ Below w.heap.size w (w4.setCell (A6 w.heap.size 0) (.slice (some (A6 g 0)) (k + 1) cap))) := by
    intro w2 w4 g cap hB2 hsz2 hnew hown4 hgr hat
    have hsb2 := blk_below hB2 hsb
    have hsb3 := blk_alloc hsb2 (.cells #[P6 wr.heap.size] 98)
    have hsb4 := blk_grown hgr hsb3 hvb
    have hgne : g ≠ w.heap.size := by
     rcases hat with h | h
     ·intro e; rw [e] at h; exact hvb h
     ·rw [World.size_alloc] at h; omega
    have vne : ∀ {b : Nat} {cs : Array Value}, wr.heap[b]? = some (.cells cs 137 (0, 0)) → (Value.slice va k vc).ownBlock ≠ some b := fun hb e => by
     obtain ⟨cs, hc⟩ := owns_blk hown e
     rw [hb] at hc; injection hc with e; injection e with _ e; simp at e
    have hnew4 := blk_grown hgr (blk_alloc hnew (.cells #[P6 wr.heap.size] 98)) (fun e => by
     rcases hown.2 with ⟨e1, _⟩ | ⟨g', cap', cur', e1, _, h4, _⟩
     ·rw [e1] at e; cases e
     ·rw [e1] at e
      obtain rfl : g' = wr.heap.size := by simpa [Value.ownBlock] using e
      have := lt_of_block h4; omega)
    have hB4 : Below w.heap.size w w4 := by
     have h1 := Below.trans hB (hB2.mono hB.size)
     have h2 := h1.alloc (by have := hB.size; omega) (.cells #[P6 wr.heap.size] 98)
     refine ⟨hgr.os.trans h2.os, hgr.tape.trans h2.tape, hgr.output.trans h2.output, Nat.le_trans h2.size hgr.size, fun b hb => ?_⟩
     rw [hgr.block b (by have := h2.size; omega) (fun e => ?_), h2.block b hb]
     have := World.ownsRow.lt hown b e.symm
     omega
    refine ⟨_, fun i => if i = k then wr.heap.size else rb i, blk_set hsb4 0 _, ?_, fun j hj => ?_, fun i j hi hj e => ?_, hB4.setCell (Nat.le_refl _) _⟩
    ·rw [ptrs_succ]
     exact owns_set hown4 (fun e => hgne (by simpa [Value.ownBlock] using e)) _
    ·show (w4.setCell _ _).heap[if j = k then wr.heap.size else rb j]? = _ ∧ w.heap.size ≤ (if j = k then wr.heap.size else rb j)
     by_cases hjk : j = k
     ·rw [if_pos hjk]
      subst hjk
      exact ⟨blk_set_other hnew4 (by show wr.heap.size ≠ w.heap.size; omega) _, hB.size⟩
     ·rw [if_neg hjk]
      obtain ⟨h1, h2⟩ := hrep j (by omega)
      have h3 := lt_of_block h1
      refine ⟨blk_set_other (blk_grown hgr (blk_alloc (blk_below hB2 h1) (.cells #[P6 wr.heap.size] 98)) (vne h1)) (fun e => ?_) _, h2⟩
      have e' : rb j = w.heap.size := e
      rw [e', hsb] at h1; injection h1 with e; injection e with _ e; simp at e
    ·have e' : (if i = k then wr.heap.size else rb i) = (if j = k then wr.heap.size else rb j) := e
     by_cases h1 : i = k
     ·by_cases h2 : j = k
      ·omega
      ·rw [if_pos h1, if_neg h2] at e'
       have := lt_of_block (hrep j (by omega)).1
       omega
     ·by_cases h2 : j = k
      ·rw [if_neg h1, if_pos h2] at e'
       have := lt_of_block (hrep i (by omega)).1
       omega
      ·rw [if_neg h1, if_neg h2] at e'
       exact hinj i j (by omega) (by omega) e'
   go_wp2_with fail
   refine wp_region_held_drew (S := fun _ => True) (by kernel_rfl) (trivial) (fun hS => ?_)
   refine tk 0 rfl hS (v := ?_) (fun w' hw => ?_) ?_
   rotate_left 1
   ·go_simp; all_goals with_reducible rfl
   try simp only [ly]
   refine tk 1 rfl hS (v := ?_) (fun w' hw => ?_) ?_
   rotate_left 1
   ·go_simp; all_goals with_reducible rfl
   try simp only [ly]
   refine tk 2 rfl hS (v := ?_) (fun w' hw => ?_) ?_
   rotate_left 1
   ·go_simp; all_goals with_reducible rfl
   try simp only [ly]
   refine tk 3 rfl hS (v := ?_) (fun w' hw => ?_) ?_
   rotate_left 1
   ·go_simp; all_goals with_reducible rfl
   try simp only [ly]
   refine tk 5 rfl hS (v := ?_) (fun w' hw => ?_) ?_
   rotate_left 1
   ·go_simp; all_goals with_reducible rfl
   try simp only [ly]
   refine tk 6 rfl hS (v := ?_) (fun w' hw => ?_) ?_
   rotate_left 1
   ·go_simp; all_goals with_reducible rfl
   try simp only [ly]
   refine tk 7 rfl hS (v := ?_) (fun w' hw => ?_) ?_
   rotate_left 1
   ·go_simp; all_goals with_reducible rfl
   try simp only [ly]
   refine tk 8 rfl hS (v := ?_) (fun w' hw => ?_) ?_
   rotate_left 1
   ·go_simp; all_goals with_reducible rfl
   try simp only [ly]
   refine tk 9 rfl hS (v := ?_) (fun w' hw => ?_) ?_
   rotate_left 1
   ·go_simp; all_goals with_reducible rfl
   try simp only [ly]
   refine wpAnyH_ready (rs := [4, 10]) (by kernel_rfl) (by simp) ?_
   refine AllReadyH.cons rfl (fun K hK => ?_) (AllReadyH.cons rfl (fun K hK => ?_) AllReadyH.nil)
   ·go_simp
    refine hK.out _ _ trivial (fun hS => ?_)
    clear hK K
    try simp only [ly]
    refine r1 10 rfl (fun K hK => ?_)
    go_simp
    refine hR.mono ?_
    rintro e w2 ⟨rfl, hw2⟩
    clear hR
    have hB2 : Below wr.heap.size wr w2 := by rw [hw2]; exact (Below.drew (Below.refl _ wr)).alloc (Nat.le_refl _) _
    have hnew : w2.heap[wr.heap.size]? = some (.cells (repCells k n w.heap.size noRp idleV).toArray 137 (0, 0)) := by rw [hw2]; exact blk_new wr.drew _
    have hsz2 : w2.heap.size = wr.heap.size + 1 := by rw [hw2]; simp
    clear hw2
    have hsb2 := blk_below hB2 hsb
    have hown2 := owns_below hown hB2
    have hc2 : w2.cell? (A6 w.heap.size 0) = some (.slice va k vc) := (blk_cell hsb2 0).trans rfl
    have hsb3 := blk_alloc hsb2 (.cells #[P6 wr.heap.size] 98)
    have hc3 : (w2.alloc (.cells #[P6 wr.heap.size] 98)).cell? (A6 w.heap.size 0) = some (.slice va k vc) := (blk_cell hsb3 0).trans rfl
    go_wp2_with fail
    refine hK.out _ _ trivial (fun hS => ?_)
    clear hK K
    try simp only [ly]
    refine r1 11 rfl (fun K hK => ?_)
    go_simp
    refine hK.out _ _ trivial (fun hS => ?_)
    clear hK K
    try simp only [ly]
    refine r1 12 rfl (fun K hK => ?_)
    refine step_append_lies _ rfl (.tmp 27) (.tmp 34) 93 rfl w.heap.size 98 i0 _ 1 8 Tryz.underlying93 hi hz0 hz1 hz2 rfl (by decide) (.slice va k vc) k (ptrs rb k) rfl (owns_alloc hown2 _) _ 1 1 [P6 wr.heap.size] rfl rfl (news_new w2 _ hsz2 _ _) (by intro u hu; simp at hu; subst hu; rfl) (by decide) hbb.1 hbb.2 (by simp; omega) _ rfl ?_
    intro g cap w4 hown4 hgr hat hlt4
    have hsb4 := blk_grown hgr hsb3 hvb
    have hc4 : w4.cell? (A6 w.heap.size 0) = some (.slice va k vc) := (blk_cell hsb4 0).trans rfl
    have hf4 := blk_free hsb4 0
    refine hK.out _ _ trivial (fun hS => ?_)
    clear hK K
    try simp only [ly]
    refine tk 13 rfl hS (v := ?_) (fun w' hw => ?_) ?_
    rotate_left 1
    ·go_simp; all_goals with_reducible rfl
    try simp only [ly]
    refine tk 14 rfl hS (v := ?_) (fun w' hw => ?_) ?_
    rotate_left 1
    ·go_simp; all_goals with_reducible rfl
    try simp only [ly]
    refine r1 15 rfl (fun K hK => ?_)
    go_simp
    refine hK.out _ _ trivial (fun hS => ?_)
    clear hK K
    try simp only [ly]
    refine dn ?_ _
    go_wp2_with fail
    go_roundw
    case rel =>
     obtain ⟨v', rb', h3⟩ := Hfin.out w2 w4 g cap hB2 hsz2 hnew hown4 hgr hat
     exact ⟨k + 1, v', rb', by omega, by go_num, h3⟩
    case measure => simp [intOf]; omega
   ·go_simp
    refine hR.mono ?_
    rintro e w2 ⟨rfl, hw2⟩
    clear hR
    have hB2 : Below wr.heap.size wr w2 := by rw [hw2]; exact (Below.drew (Below.refl _ wr)).alloc (Nat.le_refl _) _
    have hnew : w2.heap[wr.heap.size]? = some (.cells (repCells k n w.heap.size noRp idleV).toArray 137 (0, 0)) := by rw [hw2]; exact blk_new wr.drew _
    have hsz2 : w2.heap.size = wr.heap.size + 1 := by rw [hw2]; simp
    clear hw2
    have hsb2 := blk_below hB2 hsb
    have hown2 := owns_below hown hB2
    have hc2 : w2.cell? (A6 w.heap.size 0) = some (.slice va k vc) := (blk_cell hsb2 0).trans rfl
    have hsb3 := blk_alloc hsb2 (.cells #[P6 wr.heap.size] 98)
    have hc3 : (w2.alloc (.cells #[P6 wr.heap.size] 98)).cell? (A6 w.heap.size 0) = some (.slice va k vc) := (blk_cell hsb3 0).trans rfl
    go_wp2_with fail
    refine hK.out _ _ trivial (fun hS => ?_)
    clear hK K
    try simp only [ly]
    refine wpAnyH_ready (rs := [4, 11]) (by kernel_rfl) (by simp) ?_
    refine AllReadyH.cons rfl (fun K hK => ?_) (AllReadyH.cons rfl (fun K hK => ?_) AllReadyH.nil)
    ·go_simp
     refine hK.out _ _ trivial (fun hS => ?_)
     clear hK K
     try simp only [ly]
     refine r1 11 rfl (fun K hK => ?_)
     go_simp
     refine hK.out _ _ trivial (fun hS => ?_)
     clear hK K
     try simp only [ly]
     refine r1 12 rfl (fun K hK => ?_)
     refine step_append_lies _ rfl (.tmp 27) (.tmp 34) 93 rfl w.heap.size 98 i0 _ 1 8 Tryz.underlying93 hi hz0 hz1 hz2 rfl (by decide) (.slice va k vc) k (ptrs rb k) rfl (owns_alloc hown2 _) _ 1 1 [P6 wr.heap.size] rfl rfl (news_new w2 _ hsz2 _ _) (by intro u hu; simp at hu; subst hu; rfl) (by decide) hbb.1 hbb.2 (by simp; omega) _ rfl ?_
     intro g cap w4 hown4 hgr hat hlt4
     have hsb4 := blk_grown hgr hsb3 hvb
     have hc4 : w4.cell? (A6 w.heap.size 0) = some (.slice va k vc) := (blk_cell hsb4 0).trans rfl
     have hf4 := blk_free hsb4 0
     refine hK.out _ _ trivial (fun hS => ?_)
     clear hK K
     try simp only [ly]
     refine tk 13 rfl hS (v := ?_) (fun w' hw => ?_) ?_
     rotate_left 1
     ·go_simp; all_goals with_reducible rfl
     try simp only [ly]
     refine tk 14 rfl hS (v := ?_) (fun w' hw => ?_) ?_
     rotate_left 1
     ·go_simp; all_goals with_reducible rfl
     try simp only [ly]
     refine r1 15 rfl (fun K hK => ?_)
     go_simp
     refine hK.out _ _ trivial (fun hS => ?_)
     clear hK K
     try simp only [ly]
     refine dn ?_ _
     go_wp2_with fail
     go_roundw
     case rel =>
      obtain ⟨v', rb', h3⟩ := Hfin.out w2 w4 g cap hB2 hsz2 hnew hown4 hgr hat
      exact ⟨k + 1, v', rb', by omega, by go_num, h3⟩
     case measure => simp [intOf]; omega
    ·go_simp
     refine hK.out _ _ trivial (fun hS => ?_)
     clear hK K
     try simp only [ly]
     refine r1 4 rfl (fun K hK => ?_)
     go_simp
     refine hK.out _ _ trivial (fun hS => ?_)
     clear hK K
     try simp only [ly]
     refine r1 12 rfl (fun K hK => ?_)
     refine step_append_lies _ rfl (.tmp 27) (.tmp 34) 93 rfl w.heap.size 98 i0 _ 1 8 Tryz.underlying93 hi hz0 hz1 hz2 rfl (by decide) (.slice va k vc) k (ptrs rb k) rfl (owns_alloc hown2 _) _ 1 1 [P6 wr.heap.size] rfl rfl (news_new w2 _ hsz2 _ _) (by intro u hu; simp at hu; subst hu; rfl) (by decide) hbb.1 hbb.2 (by simp; omega) _ rfl ?_
     intro g cap w4 hown4 hgr hat hlt4
     have hsb4 := blk_grown hgr hsb3 hvb
     have hc4 : w4.cell? (A6 w.heap.size 0) = some (.slice va k vc) := (blk_cell hsb4 0).trans rfl
     have hf4 := blk_free hsb4 0
     refine hK.out _ _ trivial (fun hS => ?_)
     clear hK K
     try simp only [ly]
     refine tk 13 rfl hS (v := ?_) (fun w' hw => ?_) ?_
     rotate_left 1
     ·go_simp; all_goals with_reducible rfl
     try simp only [ly]
     refine tk 14 rfl hS (v := ?_) (fun w' hw => ?_) ?_
     rotate_left 1
     ·go_simp; all_goals with_reducible rfl
     try simp only [ly]
     refine r1 15 rfl (fun K hK => ?_)
     go_simp
     refine hK.out _ _ trivial (fun hS => ?_)
     clear hK K
     try simp only [ly]
     refine dn ?_ _
     go_wp2_with fail
     go_roundw
     case rel =>
      obtain ⟨v', rb', h3⟩ := Hfin.out w2 w4 g cap hB2 hsz2 hnew hown4 hgr hat
      exact ⟨k + 1, v', rb', by omega, by go_num, h3⟩
     case measure => simp [intOf]; omega
  ·obtain rfl : k = n := by omega
   rcases hown.2 with ⟨_, h0⟩ | ⟨g, cap, cur, hve2, hbg, hg, hnc, hcm, hcs, htake⟩
   ·omega
   subst hve2
   go_wp2_with fail
   go_ret2
   refine ⟨⟨fun j => if j = 1000 then g else if j = 1001 then cap else rb j, fun _ => idleV, .slice none 0 0⟩, rfl, ⟨newSy_ok k hn, hsb, ⟨cur, hg, fun i hi => ?_⟩, fun i hi => ?_, fun i hi => ?_, fun i j hi hj e => ?_, fun i j b hi hj h1 => (by cases h1), [], rfl, World.ownsRow_nil _ _ _ _, by simp⟩, fun b hb => ?_, hB⟩
   ·show cur[i]? = some (.pointer (some (A6 (if i = 1000 then g else if i = 1001 then cap else rb i) 0)))
    have hi' : i < k := hi
    rw [if_neg (by omega), if_neg (by omega)]
    have e1 : cur.toList[i]? = (cur.toList.take (k * 1))[i]? := by rw [List.getElem?_take, if_pos (by omega)]
    rw [← Array.getElem?_toList, e1, htake, ptrs, List.getElem?_map, List.getElem?_range hi']
    rfl
   ·have hi' : i < k := hi
    show wr.heap[if i = 1000 then g else if i = 1001 then cap else rb i]? = _
    rw [if_neg (by omega), if_neg (by omega), newSy_rep k i hi', (hrep i hi').1]
    rfl
   ·rw [newSy_rep k i hi]; rfl
   ·have hi' : i < k := hi
    have hj' : j < k := hj
    have e' : (if i = 1000 then g else if i = 1001 then cap else rb i) = (if j = 1000 then g else if j = 1001 then cap else rb j) := e
    rw [if_neg (by omega), if_neg (by omega), if_neg (by omega), if_neg (by omega)] at e'
    exact hinj i j hi' hj' e'
   ·rcases hb with h1 | h1 | ⟨i, hi, h1 | h1⟩ | h1
    ·omega
    ·have h2 : b = g := h1
     omega
    ·have h2 : b = (if i = 1000 then g else if i = 1001 then cap else rb i) := h1
     rw [if_neg (by omega), if_neg (by omega)] at h2
     rw [h2]
     exact (hrep i hi).2
    ·cases h1
    ·cases h1
end
end Go.Proofs.YtnnhnekfokbooaaGreatDoor
