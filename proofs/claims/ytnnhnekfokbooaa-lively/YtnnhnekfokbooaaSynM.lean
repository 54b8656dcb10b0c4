/- The walks of the synod's find, Take, Deliver, Lose, Crash (laid by mksynm.py). -/
import Derived.Test.YtnnhnekfokbooaaSynL
namespace Go.Proofs.Ytnnhnekfokbooaa
open Go.RowKit
set_option linter.unusedSimpArgs false
set_option linter.unusedVariables false

theorem SynAt.ptr {w : World} {sb : Nat} {L : Lay} {s : Sy} (h : SynAt w sb L s) {i : Nat} (hi : i < s.n) : w.cell? ⟨L.gb, i, none⟩ = some (.pointer (some ⟨L.rb i, 0, none⟩)) := by
  obtain ⟨cs, hc, hp⟩ := h.ptrs
  rw [blk_cell hc]; exact hp i hi
theorem SynAt.list {w : World} {sb : Nat} {L : Lay} {s : Sy} (h : SynAt w sb L s) : w.cell? ⟨sb, 0, none⟩ = some (.slice (some ⟨L.gb, 0, none⟩) s.n L.gc) := (blk_cell h.syn 0).trans rfl
theorem SynAt.netv {w : World} {sb : Nat} {L : Lay} {s : Sy} (h : SynAt w sb L s) : w.cell? ⟨sb, 1, none⟩ = some L.v := (blk_cell h.syn 1).trans rfl

theorem find_yes {w : World} {sb : Nat} {L : Lay} {s : Sy} (h : SynAt w sb L s) {i : Nat} (hi : i < s.n) :
    Calls Try.prog 26 #[.pointer (some ⟨sb, 0, none⟩), .int .i64 (i : Int)] w fun e w' => e = .returned (.pointer (some ⟨L.rb i, 0, none⟩)) ∧ w' = w := by
  have c1 := h.ptr hi
  have c2 := h.list
  have q0 : (0 : Int) ≤ (i : Int) := by omega
  have q1 : (i : Int) < (s.n : Int) := by omega
  have d0 : decide ((i : Int) < 0) = false := decide_eq_false (by omega)
  have d1 : decide ((s.n : Int) ≤ (i : Int)) = false := decide_eq_false (by omega)
  go_enter Try.func26, Try.ntmps26
  go_wp2_with fail
  go_ret
  exact ⟨rfl, rfl⟩
theorem find_no {w : World} {sb : Nat} {L : Lay} {s : Sy} (h : SynAt w sb L s) {i : Int} (hi : i < 0 ∨ (s.n : Int) ≤ i) :
    Calls Try.prog 26 #[.pointer (some ⟨sb, 0, none⟩), .int .i64 i] w fun e w' => e = .returned (.pointer none) ∧ w' = w := by
  have c2 := h.list
  by_cases hlt : i < 0
  · have d0 : decide (i < 0) = true := decide_eq_true hlt
    go_enter Try.func26, Try.ntmps26
    go_wp2_with fail
    go_ret
    exact ⟨rfl, rfl⟩
  · have d0 : decide (i < 0) = false := decide_eq_false hlt
    have d1 : decide ((s.n : Int) ≤ i) = true := decide_eq_true (by omega)
    go_enter Try.func26, Try.ntmps26
    go_wp2_with fail
    go_ret
    exact ⟨rfl, rfl⟩

/-- A message is taken out. -/
theorem take_syn {w : World} {sb : Nat} {L : Lay} {s : Sy} (h : SynAt w sb L s) {k : Nat} (hk : k < s.net.length) :
    Calls Try.prog 50 #[.pointer (some ⟨sb, 1, none⟩), .int .i64 (k : Int)] w fun e w' => ∃ x : Nm, x.m = s.net.getD k noMs ∧ x.okt w' ∧ e = .returned (.tuple #[.agg x.cells.toArray, .bool true]) ∧ SynRv L.rv w sb L w' (s.without k) := by
  obtain ⟨l, hlm, hown, hok⟩ := h.net
  have hll : l.length = s.net.length := by rw [← hlm, List.length_map]
  have hfull := h.ok.full
  have hkl : k < l.length := by omega
  refine (take_yes sb 1 0 _ 73 L.v l k w h.syn rfl hown (fun hv => ?_) (fun x hx => (hok x hx).1) hkl (by omega)).mono ?_
  · obtain ⟨cs, hc⟩ := owns_blk hown hv
    rw [h.syn] at hc; injection hc with e; injection e with _ e; simp at e
  · rintro e w' ⟨v', rfl, hb', hown', hv', hk'⟩
    rw [ar2] at hb'
    have e1 : (l.eraseIdx k).length = l.length - 1 := List.length_eraseIdx_of_lt hkl
    have hmap : (l.eraseIdx k).map (·.m) = s.net.eraseIdx k := by rw [← eraseIdx_map, hlm]
    have hto := h.setNetR (ns := s.net.eraseIdx k) (l := l.eraseIdx k) (v := v') (by omega) (fun m hm => h.ok.net m (List.mem_of_mem_eraseIdx hm)) hmap hk' hb' (by rw [e1]; exact hown') (fun x hx => hok x (List.mem_of_mem_eraseIdx hx)) (fun g hg => .inl (by rw [← hv']; exact hg))
    refine ⟨l[k], ?_, ?_, rfl, hto⟩
    · rw [List.getD_eq_getElem?_getD, ← hlm, List.getElem?_map, List.getElem?_eq_getElem hkl]; rfl
    · refine (hok _ (List.getElem_mem hkl)).keeps hk' (fun j cs hc hx => ?_)
      rcases hx with rfl | hx
      · rw [h.syn] at hc; injection hc with e; injection e with _ e; simp at e
      · obtain ⟨cs', hc'⟩ := owns_blk hown hx
        rw [hc] at hc'; injection hc' with e; injection e with _ e; simp at e

set_option maxHeartbeats 1000000 in
set_option maxRecDepth 100000 in
theorem lose_yes {w : World} {sb : Nat} {L : Lay} {s : Sy} (h : SynAt w sb L s) {k : Nat} (hk : k < s.net.length) :
    Calls Try.prog 36 #[.pointer (some ⟨sb, 0, none⟩), .int .i64 (k : Int)] w fun e w' => e = .returned (.int .i64 0) ∧ SynTo w sb L w' (s.without k) := by
  have hT := take_syn h hk
  go_enter Try.func36, Try.ntmps36
  go_wp2_with fail
  refine hT.mono ?_
  rintro e w2 ⟨x, hxm, hx, rfl, hto⟩
  clear hT
  obtain ⟨xa, xc, hxe, _⟩ := hx.1.1.form
  obtain ⟨⟨mk, mf, mt, mb, ms, ⟨mc, mq, mh, mx⟩, ma⟩, xv⟩ := x
  simp only [Nm.cells] at *
  subst hxe
  generalize ma.length = xn at *
  clear hxm
  have hz := blk_new w2 (.cells #[.int .i64 0, .int .i64 0, .int .i64 0, .int .i64 0, .int .i64 0, .int .i64 0, .int .i64 0, .int .i64 0, .string ⟨#[]⟩, .slice none 0 0] 100)
  have hzc := blk_cell hz
  have hzf := blk_free hz
  go_wp2_with fail
  go_ret
  refine ⟨rfl, hto.to.below ?_⟩
  repeat refine Below.setCell ?_ (by simp) _
  exact (Below.refl _ w2).alloc (Nat.le_refl _) _
theorem take_none {w : World} {sb : Nat} {L : Lay} {s : Sy} (h : SynAt w sb L s) {k : Int} (hk : k < 0 ∨ (s.net.length : Int) ≤ k) :
    Calls Try.prog 50 #[.pointer (some ⟨sb, 1, none⟩), .int .i64 k] w fun e w' => e = .returned (.tuple #[.agg #[.int .i64 0, .int .i64 0, .int .i64 0, .int .i64 0, .int .i64 0, .int .i64 0, .int .i64 0, .int .i64 0, .string ⟨#[]⟩, .slice none 0 0], .bool false]) ∧ Below w.heap.size w w' := by
  obtain ⟨l, hlm, hown, hok⟩ := h.net
  have hll : l.length = s.net.length := by rw [← hlm, List.length_map]
  obtain ⟨va, vc, hv, _⟩ := (owns_row hown).form
  exact take_no sb 1 va l.length vc k w (by rw [← hv]; exact h.netv) (by rw [hll]; exact hk)
set_option maxHeartbeats 1000000 in
set_option maxRecDepth 100000 in
theorem lose_no {w : World} {sb : Nat} {L : Lay} {s : Sy} (h : SynAt w sb L s) {k : Int} (hk : k < 0 ∨ (s.net.length : Int) ≤ k) :
    Calls Try.prog 36 #[.pointer (some ⟨sb, 0, none⟩), .int .i64 k] w fun e w' => e = .returned (.int .i64 1) ∧ SynTo w sb L w' s := by
  have hT := take_none h hk
  go_enter Try.func36, Try.ntmps36
  go_wp2_with fail
  refine hT.mono ?_
  rintro e w2 ⟨rfl, hB⟩
  clear hT
  have hz := blk_new w2 (.cells #[.int .i64 0, .int .i64 0, .int .i64 0, .int .i64 0, .int .i64 0, .int .i64 0, .int .i64 0, .int .i64 0, .string ⟨#[]⟩, .slice none 0 0] 100)
  have hzc := blk_cell hz
  have hzf := blk_free hz
  have hB3 := hB.alloc hB.size (.cells #[.int .i64 0, .int .i64 0, .int .i64 0, .int .i64 0, .int .i64 0, .int .i64 0, .int .i64 0, .int .i64 0, .string ⟨#[]⟩, .slice none 0 0] 100)
  go_wp2_with fail
  go_ret
  refine ⟨rfl, (SynTo.refl h).below ?_⟩
  repeat refine Below.setCell ?_ (by have := hB.size; simp; omega) _
  exact hB3
set_option maxHeartbeats 1000000 in
set_option maxRecDepth 100000 in
theorem deliver_no {w : World} {sb : Nat} {L : Lay} {s : Sy} (h : SynAt w sb L s) {k : Int} (hk : k < 0 ∨ (s.net.length : Int) ≤ k) :
    Calls Try.prog 38 #[.pointer (some ⟨sb, 0, none⟩), .int .i64 k] w fun e w' => e = .returned (.int .i64 1) ∧ SynTo w sb L w' s := by
  have hT := take_none h hk
  go_enter Try.func38, Try.ntmps38
  go_wp2_with fail
  refine hT.mono ?_
  rintro e w2 ⟨rfl, hB⟩
  clear hT
  have hz := blk_new w2 (.cells #[.int .i64 0, .int .i64 0, .int .i64 0, .int .i64 0, .int .i64 0, .int .i64 0, .int .i64 0, .int .i64 0, .string ⟨#[]⟩, .slice none 0 0] 100)
  have hzc := blk_cell hz
  have hzf := blk_free hz
  have hB3 := hB.alloc hB.size (.cells #[.int .i64 0, .int .i64 0, .int .i64 0, .int .i64 0, .int .i64 0, .int .i64 0, .int .i64 0, .int .i64 0, .string ⟨#[]⟩, .slice none 0 0] 100)
  go_wp2_with fail
  go_ret
  refine ⟨rfl, (SynTo.refl h).below ?_⟩
  repeat refine Below.setCell ?_ (by have := hB.size; simp; omega) _
  exact hB3
set_option maxHeartbeats 1000000 in
set_option maxRecDepth 100000 in
theorem deliver_yes {w : World} {sb : Nat} {L : Lay} {s : Sy} (h : SynAt w sb L s) {k : Nat} (hk : k < s.net.length) :
    Calls Try.prog 38 #[.pointer (some ⟨sb, 0, none⟩), .int .i64 (k : Int)] w fun e w' => e = .returned (.int .i64 0) ∧ SynTo w sb L w' (s.deliver k) := by
  have hT := take_syn h hk
  have hmok : (s.net.getD k noMs).ok s.n := h.ok.net _ (by rw [List.getD_eq_getElem?_getD, List.getElem?_eq_getElem hk]; exact List.getElem_mem hk)
  unfold Sy.deliver
  generalize s.net.getD k noMs = m0 at *
  go_enter Try.func38, Try.ntmps38
  go_wp2_with fail
  refine hT.mono ?_
  rintro e w2 ⟨x, hxm, hx, rfl, hto⟩
  clear hT
  have hxm' := hxm.symm
  subst hxm'
  obtain ⟨L2, h2, e2, r2, o2, kk2⟩ := id hto
  obtain ⟨xa, xc, hxe, _⟩ := hx.1.1.form
  obtain ⟨⟨mk, mf, mt, mb, ms, ⟨mc, mq, mh, mx⟩, ma⟩, xv⟩ := x
  obtain ⟨t, rfl⟩ := Int.eq_ofNat_of_zero_le hmok.t0
  have ht : t < s.n := by have := hmok.t1; simp at this; exact this
  simp only [Nm.cells] at *
  subst hxe
  generalize hxn : ma.length = xn at *
  have hz := blk_new w2 (.cells #[.int .i64 0, .int .i64 0, .int .i64 0, .int .i64 0, .int .i64 0, .int .i64 0, .int .i64 0, .int .i64 0, .string ⟨#[]⟩, .slice none 0 0] 100)
  have hzc := blk_cell hz
  have hzf := blk_free hz
  have hbox : ((w2.alloc (.cells #[.int .i64 mk, .int .i64 mf, .int .i64 (t : Int), .int .i64 mb, .int .i64 ms, .int .i64 mc, .int .i64 mq, .int .i64 mh, .string mx, .slice xa xn xc] 100))).heap[w2.heap.size]? = some (.cells #[.int .i64 mk, .int .i64 mf, .int .i64 (t : Int), .int .i64 mb, .int .i64 ms, .int .i64 mc, .int .i64 mq, .int .i64 mh, .string mx, .slice xa xn xc] 100 (0, 0)) := blk_new w2 _
  have hB3 : Below w2.heap.size w2 ((w2.alloc (.cells #[.int .i64 mk, .int .i64 mf, .int .i64 (t : Int), .int .i64 mb, .int .i64 ms, .int .i64 mc, .int .i64 mq, .int .i64 mh, .string mx, .slice xa xn xc] 100))) :=
    (Below.refl _ w2).alloc (Nat.le_refl _) _
  have HB3 : Hid (Below w2.heap.size w2 ((w2.alloc (.cells #[.int .i64 mk, .int .i64 mf, .int .i64 (t : Int), .int .i64 mb, .int .i64 ms, .int .i64 mc, .int .i64 mq, .int .i64 mh, .string mx, .slice xa xn xc] 100)))) := hB3
  have Hbox : Hid (((w2.alloc (.cells #[.int .i64 mk, .int .i64 mf, .int .i64 (t : Int), .int .i64 mb, .int .i64 ms, .int .i64 mc, .int .i64 mq, .int .i64 mh, .string mx, .slice xa xn xc] 100))).heap[w2.heap.size]? = some (.cells #[.int .i64 mk, .int .i64 mf, .int .i64 (t : Int), .int .i64 mb, .int .i64 ms, .int .i64 mc, .int .i64 mq, .int .i64 mh, .string mx, .slice xa xn xc] 100 (0, 0))) := hbox
  clear hbox hB3
  go_wp2_with fail
  have hB3 := HB3.out
  have hbox := Hbox.out
  clear HB3 Hbox hzc hzf hz
  generalize (w2.alloc (.cells #[.int .i64 mk, .int .i64 mf, .int .i64 (t : Int), .int .i64 mb, .int .i64 ms, .int .i64 mc, .int .i64 mq, .int .i64 mh, .string mx, .slice xa xn xc] 100)) = w3 at *
  have hto2 := hto
  have ht2 : t < (s.without k).n := ht
  have hat3 := (h2.below hB3).drew
  have cl := hat3.list
  have cp := hat3.ptr ht2
  rw [e2] at cp
  have hX := receive_syn hat3 ht2 ⟨⟨mk, mf, (t : Int), mb, ms, ⟨mc, mq, mh, mx⟩, ma⟩, .slice xa xn xc⟩ (hx.keeps (Keeps.ofBelow (P := fun _ => False) (Below.drew hB3)) (fun _ _ _ => id)) hmok
  simp only [Nm.cells] at hX
  rw [e2] at hX
  have q0 : (0 : Int) ≤ (t : Int) := by omega
  have q1 : (t : Int) < ((s.without k).n : Int) := by omega
  refine wp_region_held_drew (S := fun w' => w'.heap[w2.heap.size]? = some (.cells #[.int .i64 mk, .int .i64 mf, .int .i64 (t : Int), .int .i64 mb, .int .i64 ms, .int .i64 mc, .int .i64 mq, .int .i64 mh, .string mx, .slice xa xn xc] 100 (0, 0)) ∧ w'.cell? ⟨sb, 0, none⟩ = some (.slice (some ⟨L2.gb, 0, none⟩) (s.without k).n L2.gc) ∧ w'.cell? ⟨L2.gb, t, none⟩ = some (.pointer (some ⟨L.rb t, 0, none⟩))) (by kernel_rfl) (⟨hbox, cl, cp⟩) (fun hS => ?_)
  refine wpAnyH_take (i := 0) (v := ?_) rfl (by kernel_rfl) (by kernel_rfl) (by kernel_rfl) (fun _ _ _ h => h) (Or.inl ⟨by kernel_rfl, fun w' hw => ?_⟩) hS ?_
  rotate_left 1
  · have c := blk_cell hw.1; have c2 := hw.2.1; have c3 := hw.2.2; go_simp; all_goals with_reducible rfl
  try simp only [Act.put, List.getElem_toArray, List.getElem_cons_zero, List.getElem_cons_succ, List.setIfInBounds_toArray, List.set_cons_zero, List.set_cons_succ]
  refine wpAnyH_take (i := 1) (v := ?_) rfl (by kernel_rfl) (by kernel_rfl) (by kernel_rfl) (fun _ _ _ h => h) (Or.inl ⟨by kernel_rfl, fun w' hw => ?_⟩) hS ?_
  rotate_left 1
  · have c := blk_cell hw.1; have c2 := hw.2.1; have c3 := hw.2.2; go_simp; all_goals with_reducible rfl
  try simp only [Act.put, List.getElem_toArray, List.getElem_cons_zero, List.getElem_cons_succ, List.setIfInBounds_toArray, List.set_cons_zero, List.set_cons_succ]
  refine wpAnyH_take (i := 2) (v := ?_) rfl (by kernel_rfl) (by kernel_rfl) (by kernel_rfl) (fun _ _ _ h => h) (Or.inl ⟨by kernel_rfl, fun w' hw => ?_⟩) hS ?_
  rotate_left 1
  · have c := blk_cell hw.1; have c2 := hw.2.1; have c3 := hw.2.2; go_simp; all_goals with_reducible rfl
  try simp only [Act.put, List.getElem_toArray, List.getElem_cons_zero, List.getElem_cons_succ, List.setIfInBounds_toArray, List.set_cons_zero, List.set_cons_succ]
  refine wpAnyH_take (i := 3) (v := ?_) rfl (by kernel_rfl) (by kernel_rfl) (by kernel_rfl) (fun _ _ _ h => h) (Or.inl ⟨by kernel_rfl, fun w' hw => ?_⟩) hS ?_
  rotate_left 1
  · have c := blk_cell hw.1; have c2 := hw.2.1; have c3 := hw.2.2; go_simp; all_goals with_reducible rfl
  try simp only [Act.put, List.getElem_toArray, List.getElem_cons_zero, List.getElem_cons_succ, List.setIfInBounds_toArray, List.set_cons_zero, List.set_cons_succ]
  refine wpAnyH_take (i := 4) (v := ?_) rfl (by kernel_rfl) (by kernel_rfl) (by kernel_rfl) (fun _ _ _ h => h) (Or.inl ⟨by kernel_rfl, fun w' hw => ?_⟩) hS ?_
  rotate_left 1
  · have c := blk_cell hw.1; have c2 := hw.2.1; have c3 := hw.2.2; go_simp; all_goals with_reducible rfl
  try simp only [Act.put, List.getElem_toArray, List.getElem_cons_zero, List.getElem_cons_succ, List.setIfInBounds_toArray, List.set_cons_zero, List.set_cons_succ]
  refine wpAnyH_take (i := 5) (v := ?_) rfl (by kernel_rfl) (by kernel_rfl) (by kernel_rfl) (fun _ _ _ h => h) (Or.inl ⟨by kernel_rfl, fun w' hw => ?_⟩) hS ?_
  rotate_left 1
  · have c := blk_cell hw.1; have c2 := hw.2.1; have c3 := hw.2.2; go_simp; all_goals with_reducible rfl
  try simp only [Act.put, List.getElem_toArray, List.getElem_cons_zero, List.getElem_cons_succ, List.setIfInBounds_toArray, List.set_cons_zero, List.set_cons_succ]
  refine wpAnyH_take (i := 6) (v := ?_) rfl (by kernel_rfl) (by kernel_rfl) (by kernel_rfl) (fun _ _ _ h => h) (Or.inl ⟨by kernel_rfl, fun w' hw => ?_⟩) hS ?_
  rotate_left 1
  · have c := blk_cell hw.1; have c2 := hw.2.1; have c3 := hw.2.2; go_simp; all_goals with_reducible rfl
  try simp only [Act.put, List.getElem_toArray, List.getElem_cons_zero, List.getElem_cons_succ, List.setIfInBounds_toArray, List.set_cons_zero, List.set_cons_succ]
  refine wpAnyH_take (i := 7) (v := ?_) rfl (by kernel_rfl) (by kernel_rfl) (by kernel_rfl) (fun _ _ _ h => h) (Or.inl ⟨by kernel_rfl, fun w' hw => ?_⟩) hS ?_
  rotate_left 1
  · have c := blk_cell hw.1; have c2 := hw.2.1; have c3 := hw.2.2; go_simp; all_goals with_reducible rfl
  try simp only [Act.put, List.getElem_toArray, List.getElem_cons_zero, List.getElem_cons_succ, List.setIfInBounds_toArray, List.set_cons_zero, List.set_cons_succ]
  refine wpAnyH_take (i := 8) (v := ?_) rfl (by kernel_rfl) (by kernel_rfl) (by kernel_rfl) (fun _ _ _ h => h) (Or.inl ⟨by kernel_rfl, fun w' hw => ?_⟩) hS ?_
  rotate_left 1
  · have c := blk_cell hw.1; have c2 := hw.2.1; have c3 := hw.2.2; go_simp; all_goals with_reducible rfl
  try simp only [Act.put, List.getElem_toArray, List.getElem_cons_zero, List.getElem_cons_succ, List.setIfInBounds_toArray, List.set_cons_zero, List.set_cons_succ]
  refine wpAnyH_ready (rs := [9]) (by kernel_rfl) (by simp) ?_
  refine AllReadyH.cons rfl (fun K hK => ?_) AllReadyH.nil
  go_simp
  refine hX.mono ?_
  rintro e w5 ⟨rfl, hto5⟩
  clear hX
  have hn5 : ((s.without k).receive t ⟨mk, mf, (t : Int), mb, ms, ⟨mc, mq, mh, mx⟩, ma⟩).n = s.n := receive_n _ _ _
  obtain ⟨L5, h5, e5, o5, kk5⟩ := id hto5
  have g5 : L5.gb = L2.gb := by unfold Lay.gb; rw [e5]
  have gc5 : L5.gc = L2.gc := by unfold Lay.gc; rw [e5]
  have cl5 := h5.list
  have cp5 := h5.ptr (i := t) (by rw [hn5]; exact ht)
  rw [g5, gc5, hn5] at cl5
  rw [g5, e5, e2] at cp5
  have hbox5 := hto5.blk (w := w3.drew) hbox (fun ho => by have h9 := h2.own_lt (by rw [receive_n] at ho; exact ho); omega)
  go_wp2_with fail
  refine hK.out _ _ ⟨hbox5, cl5, cp5⟩ (fun hS => ?_)
  clear hK K
  try simp only [Act.put, List.getElem_toArray, List.getElem_cons_zero, List.getElem_cons_succ, List.setIfInBounds_toArray, List.set_cons_zero, List.set_cons_succ]
  refine wpAnyH_done (by kernel_rfl) ?_ _
  go_wp2_with fail
  go_ret
  exact ⟨rfl, SynTo.next e2 o2 kk2 (receive_n _ _ _) (SynTo.after h2 (receive_n _ _ _) (Below.drew hB3) hto5)⟩

theorem SynAt.crash {w : World} {sb : Nat} {L : Lay} {s : Sy} (h : SynAt w sb L s) {i : Nat} (hi : i < s.n) : SynTo w sb L ((w.setCell ⟨L.rb i, 4, none⟩ (.int .i64 0)).setCell ⟨L.rb i, 181, none⟩ (.iface 89 (.agg #[.int .i64 0, .int .i64 0]))) (s.crash i) := by
  have hok := h.ok.repOk hi
  have hk : Keeps (fun k => k = L.rb i) w ((w.setCell ⟨L.rb i, 4, none⟩ (.int .i64 0)).setCell ⟨L.rb i, 181, none⟩ (.iface 89 (.agg #[.int .i64 0, .int .i64 0]))) := (Keeps.ofSet (P := fun k => k = L.rb i) (a := ⟨L.rb i, 4, none⟩) (.inl rfl) _).trans (Keeps.ofSet (P := fun k => k = L.rb i) (a := ⟨L.rb i, 181, none⟩) (.inl rfl) _)
  have hok1 : (Rp.mk (s.rep i).pr 0 (s.rep i).acc (s.rep i).dec (s.rep i).rl).ok := ⟨hok.pr0, hok.pr1, by show (0 : Int) ≤ 0; omega, by show (0 : Int) ≤ 8007; omega, hok.acc, hok.slot, hok.dec, hok.rl⟩
  refine h.setRep hi (rv := .iface 89 (.agg #[.int .i64 0, .int .i64 0])) ⟨hok.pr0, hok.pr1, by show (0 : Int) ≤ 0; omega, by show (0 : Int) ≤ 8007; omega, hok.acc, hok.slot, hok.dec, trivial⟩ (hk.mono (fun k _ h => .inl h)) ?_ rfl (fun k hk => by cases hk)
  rw [blk_set (blk_set (h.rep i hi) _ _), repCells_set4, repCells_set181 _ _ _ _ _ _ .idle hok1]
  rfl
theorem rcrash_syn {w : World} {sb : Nat} {L : Lay} {s : Sy} (h : SynAt w sb L s) {i : Nat} (hi : i < s.n) :
    Calls Try.prog 27 #[.pointer (some ⟨L.rb i, 0, none⟩)] w fun e w' => e = .returned (.tuple #[]) ∧ SynTo w sb L w' (s.crash i) := by
  have c4 := (h.cells hi).2.2.2.2.1
  have c5 := (h.cells hi).2.2.2.2.2
  have hf := blk_free (h.rep i hi)
  have hto := h.crash hi
  go_enter Try.func27, Try.ntmps27
  go_wp2_with fail
  go_end0
  exact ⟨rfl, hto⟩
theorem crash_yes {w : World} {sb : Nat} {L : Lay} {s : Sy} (h : SynAt w sb L s) {i : Nat} (hi : i < s.n) :
    Calls Try.prog 9 #[.pointer (some ⟨sb, 0, none⟩), .int .i64 (i : Int)] w fun e w' => e = .returned (.int .i64 0) ∧ SynTo w sb L w' (s.crash i) := by
  have hF := find_yes h hi
  have hC := rcrash_syn h hi
  go_enter Try.func9, Try.ntmps9
  go_wp2_with fail
  refine hF.mono ?_
  rintro e w2 ⟨rfl, hw2⟩
  have hw2' := hw2.symm
  subst hw2'
  clear hF hw2
  go_wp2_with fail
  refine hC.mono ?_
  rintro e w3 ⟨rfl, hto⟩
  clear hC
  go_wp2_with fail
  go_ret
  exact ⟨rfl, hto⟩
theorem crash_no {w : World} {sb : Nat} {L : Lay} {s : Sy} (h : SynAt w sb L s) {i : Int} (hi : i < 0 ∨ (s.n : Int) ≤ i) :
    Calls Try.prog 9 #[.pointer (some ⟨sb, 0, none⟩), .int .i64 i] w fun e w' => e = .returned (.int .i64 1) ∧ w' = w := by
  have hF := find_no h hi
  go_enter Try.func9, Try.ntmps9
  go_wp2_with fail
  refine hF.mono ?_
  rintro e w2 ⟨rfl, hw2⟩
  have hw2' := hw2.symm
  subst hw2'
  clear hF hw2
  go_wp2_with fail
  go_ret
  exact ⟨rfl, rfl⟩
/-- What is on its way is told. -/
theorem net_syn {w : World} {sb : Nat} {L : Lay} {s : Sy} (h : SynAt w sb L s) :
    Calls Try.prog 31 #[.pointer (some ⟨sb, 0, none⟩)] w fun e w' => ∃ v' l, e = .returned v' ∧ l.map (·.m) = s.net ∧ (∀ i (hi : i < l.length), w'.ownsRow w.heap.size 77 6 l[i].v l[i].m.a.length (vcells l[i].m.a)) ∧
      (∀ i j (hi : i < l.length) (hj : j < l.length) g, i < j → l[i].v.ownBlock = some g → l[j].v.ownBlock ≠ some g) ∧ w'.ownsRow w.heap.size 100 10 v' l.length (ncs l) ∧ Below w.heap.size w w' := by
  obtain ⟨l, hlm, hown, hok⟩ := h.net
  have hll : l.length = s.net.length := by rw [← hlm, List.length_map]
  have hfull := h.ok.full
  have hN := list_any sb 1 L.v l w h.netv (owns_row hown) (fun x hx => (hok x hx).1) (by omega)
  go_enter Try.func31, Try.ntmps31
  go_wp2_with fail
  refine hN.mono ?_
  rintro e w2 ⟨v', l', rfl, hl', hrows, hap, hown', hB⟩
  clear hN
  go_wp2_with fail
  go_ret
  refine ⟨v', l', rfl, ?_, fun i hi => ?_, hap, hown', hB⟩
  · rw [← hlm]
    apply List.ext_getElem
    · simp [hl']
    · intro i h1 h2
      simp at h1 h2
      simp [(hrows i h2 h1).1]
  · have := hrows i (by omega) hi
    rw [this.1]
    exact this.2
end Go.Proofs.Ytnnhnekfokbooaa
