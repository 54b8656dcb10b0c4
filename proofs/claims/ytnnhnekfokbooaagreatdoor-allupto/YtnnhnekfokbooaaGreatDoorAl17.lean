/- RnI -/
import Derived.Test.YtnnhnekfokbooaaGreatDoorAl16
set_option linter.unusedSimpArgs false
set_option linter.unusedVariables false
set_option maxRecDepth 100000
namespace Go.Proofs.YtnnhnekfokbooaaGreatDoor
section
open Go.RowKit
theorem QAt.turn2 {w w' : World} {qb Rb : Nat} {v : Value} {x : Qs} (h : QAt w qb Rb v x) {R' : List Rr} (hk : Keeps (fun k => k = Rb) w w') (hR : RAt w' Rb R') (hl : R'.length = x.R.length) : QAt w' qb Rb v ⟨R', x.net⟩ := by
 obtain ⟨l, h1, h2, h3⟩ := h.net
 exact ⟨by show _ = some (Obj.cells #[.slice (some (A6 Rb 0)) R'.length R'.length, v] _ _); rw [hl]; exact blk_keeps hk h.syn h.ne, hR, ⟨l, h1, owns_keeps h2 hk (fun g hg e => h.vR (by rw [← e]; exact hg)), fun y hy => (h3 y hy).keeps hk (fun k cs hc e => h.vote hc (.inr (.inl e)))⟩, by show 1 ≤ R'.length; rw [hl]; exact h.n0, by show R'.length ≤ 7; rw [hl]; exact h.n1, h.full⟩
def but (i q : Nat) : List Nat := (List.range q).filter (fun j => decide (j ≠ i))
theorem but_same (i : Nat) : but i (i + 1) = but i i := by
 unfold but
 rw [List.range_succ, List.filter_append]
 simp
theorem but_next {i q : Nat} (h : q ≠ i) : but i (q + 1) = but i q ++ [q] := by
 unfold but
 rw [List.range_succ, List.filter_append]
 simp [h]
theorem but_all {i n : Nat} (hi : i < n) : but i n = (List.range n).eraseIdx i := by
 have h1 : ∀ m, m ≤ i → but i m = List.range m := fun m hm => by
  unfold but
  rw [List.filter_eq_self]
  intro j hj
  have := List.mem_range.1 hj
  simp; omega
 have h2 : ∀ d, but i (i + 1 + d) = (List.range (i + 1 + d)).eraseIdx i := fun d => by
  induction d with
  | zero =>
   rw [Nat.add_zero, but_same, h1 i (Nat.le_refl _), List.range_succ, List.eraseIdx_append_of_length_le (by simp)]
   simp
  | succ d ih =>
   have e : i + 1 + (d + 1) = (i + 1 + d) + 1 := by omega
   rw [e, but_next (by omega), ih, List.range_succ, List.eraseIdx_append_of_lt_length (by simp; omega)]
 have e : n = i + 1 + (n - (i + 1)) := by omega
 rw [e]
 exact h2 _
theorem vote_get (y : Sl) (f : Nat) (hf : f < 7) (h : y.ok) : y.cells[17 + f]? = some (.bool (y.vo.getD f false)) := by
 have h7 : y.vo.length = 7 := h
 unfold Sl.cells
 have e : 17 + f = (([I6 y.b] ++ y.v.cells ++ [Value.bool y.is] ++ y.fin.cells ++ [Value.bool y.has, Value.bool y.mine] ++ y.kept.cells ++ [I6 y.kb] : List Value)).length + f := rfl
 rw [e, List.getElem?_append_right (by omega), Nat.add_sub_cancel_left, List.getElem?_map, List.getElem?_eq_getElem (by omega), List.getD_eq_getElem?_getD, List.getElem?_eq_getElem (by omega)]
 rfl
theorem vote_splice (y : Sl) (f : Nat) (hf : f < 7) (h : y.ok) : (y.vote f).cells = splice y.cells (17 + f) [.bool true] := by
 have h7 : y.vo.length = 7 := h
 unfold Sl.cells Sl.vote
 have e : 17 + f = (([I6 y.b] ++ y.v.cells ++ [Value.bool y.is] ++ y.fin.cells ++ [Value.bool y.has, Value.bool y.mine] ++ y.kept.cells ++ [I6 y.kb] : List Value)).length + f := rfl
 rw [e, splice_right, ← splice_one _ _ _ (by rw [List.length_map]; omega), List.map_set]
set_option maxHeartbeats 4000000 in
theorem raccepted_any {w : World} {qb Rb : Nat} {v : Value} {x : Qs} (h : QAt w qb Rb v x) (y0 : Nm) (hy : y0.okt w) {i f k : Nat} (hi : i < x.R.length) (ht : y0.m.t = (i : Int)) (hf : y0.m.f = (f : Int)) (hf7 : f < 7) (hs : y0.m.s = (k : Int)) (hk : k < 16) :
  Calls Tryz.prog 108 #[P6 qb, .agg y0.cells.toArray] w fun e w' => e = .returned (.tuple #[]) ∧ QTo w qb Rb v w' (x.accepted i y0.m) := by
 obtain ⟨⟨mk, mf, mt, mb, ms, ⟨mc, mq, mh, mx⟩, ma⟩, xv⟩ := y0
 obtain ⟨xa, xc, hxe, _⟩ := hy.1.1.form
 simp only at ht hf hs hxe
 subst hxe ht hf hs
 have h7 := h.n1
 have hkn : ((⟨mk, (f : Int), (i : Int), mb, (k : Int), ⟨mc, mq, mh, mx⟩, ma⟩ : Ms)).s.toNat = k := rfl
 have hfn : ((⟨mk, (f : Int), (i : Int), mb, (k : Int), ⟨mc, mq, mh, mx⟩, ma⟩ : Ms)).f.toNat = f := rfl
 simp only [Nm.cells]
 have hB1 : Below w.heap.size w (w.alloc (.cells #[I6 mk, I6 (f : Int), I6 (i : Int), I6 mb, I6 (k : Int), I6 mc, I6 mq, I6 mh, .string mx, .slice xa ma.length xc] 36)) := (Below.refl _ w).alloc (Nat.le_refl _) _
 have hb1 := blk_new w (.cells #[I6 mk, I6 (f : Int), I6 (i : Int), I6 mb, I6 (k : Int), I6 mc, I6 mq, I6 mh, .string mx, .slice xa ma.length xc] 36)
 have h1 := h.below hB1
 have hBw := hB1
 clear hB1
 have Hfin : Hid (∀ W, Below w.heap.size w W → QTo w qb Rb v W x) := fun W hW => (QTo.refl h).below hW
 have hno : ¬ qOwn qb Rb v w.heap.size := fun ho => by have := h.own_lt ho; omega
 have hR : x.rep i = x.R.getD i noRr := rfl
 obtain ⟨r, hr⟩ : ∃ r, r = x.R.getD i noRr := ⟨_, rfl⟩
 have HR : Hid (x.rep i = r) := by show _ = _; rw [hr]; rfl
 have q0 : (0 : Int) ≤ (i : Int) := by omega
 have q1 : (i : Int) < (x.R.length : Int) := by omega
 have q2 : (0 : Int) ≤ (k : Int) := by omega
 have q3 : (k : Int) < 16 := by omega
 have q4 : (0 : Int) ≤ (f : Int) := by omega
 have q5 : (f : Int) < 7 := by omega
 have d0 := h1.c0
 have e1 : (w.alloc (.cells #[I6 mk, I6 (f : Int), I6 (i : Int), I6 mb, I6 (k : Int), I6 mc, I6 mq, I6 mh, .string mx, .slice xa ma.length xc] 36)).cell? (A6 w.heap.size 1) = some (I6 (f : Int)) := (blk_cell hb1 1).trans rfl
 have e2 : (w.alloc (.cells #[I6 mk, I6 (f : Int), I6 (i : Int), I6 mb, I6 (k : Int), I6 mc, I6 mq, I6 mh, .string mx, .slice xa ma.length xc] 36)).cell? (A6 w.heap.size 2) = some (I6 (i : Int)) := (blk_cell hb1 2).trans rfl
 have e3 : (w.alloc (.cells #[I6 mk, I6 (f : Int), I6 (i : Int), I6 mb, I6 (k : Int), I6 mc, I6 mq, I6 mh, .string mx, .slice xa ma.length xc] 36)).cell? (A6 w.heap.size 3) = some (I6 mb) := (blk_cell hb1 3).trans rfl
 have e4 : (w.alloc (.cells #[I6 mk, I6 (f : Int), I6 (i : Int), I6 mb, I6 (k : Int), I6 mc, I6 mq, I6 mh, .string mx, .slice xa ma.length xc] 36)).cell? (A6 w.heap.size 4) = some (I6 (k : Int)) := (blk_cell hb1 4).trans rfl
 go_enter Tryz.func108, Tryz.ntmps108
 go_wp2_with fail
 generalize w.alloc (.cells #[I6 mk, I6 (f : Int), I6 (i : Int), I6 mb, I6 (k : Int), I6 mc, I6 mq, I6 mh, .string mx, .slice xa ma.length xc] 36) = w1 at *
 go_quiet (fail)
 have hBn : Below (w1).heap.size (w1) ((w1).drewN nq) := below_drewN (Below.refl _ _) nq
 have h2 := h1.below hBn
 have hBw' : Below w.heap.size w ((w1).drewN nq) := Below.trans hBw (hBn.mono hBw.size)
 have hb2 := blk_below hBn hb1
 generalize (w1).drewN nq = w2 at *
 clear hBn hBw
 have hBw := hBw'
 clear hBw'
 clear d0 e1 e2 e3 e4 h1 hb1
 have d0 := h2.c0
 have e1 : w2.cell? (A6 w.heap.size 1) = some (I6 (f : Int)) := (blk_cell hb2 1).trans rfl
 have e2 : w2.cell? (A6 w.heap.size 2) = some (I6 (i : Int)) := (blk_cell hb2 2).trans rfl
 have e3 : w2.cell? (A6 w.heap.size 3) = some (I6 mb) := (blk_cell hb2 3).trans rfl
 have e4 : w2.cell? (A6 w.heap.size 4) = some (I6 (k : Int)) := (blk_cell hb2 4).trans rfl
 go_wp2_with fail
 go_quiet (fail)
 have hBn : Below (w2).heap.size (w2) ((w2).drewN nq) := below_drewN (Below.refl _ _) nq
 have h3 := h2.below hBn
 have hBw' : Below w.heap.size w ((w2).drewN nq) := Below.trans hBw (hBn.mono hBw.size)
 have hb3 := blk_below hBn hb2
 generalize (w2).drewN nq = w3 at *
 clear hBn hBw
 have hBw := hBw'
 clear hBw'
 clear d0 e1 e2 e3 e4 h2 hb2
 have d0 := h3.c0
 have e1 : w3.cell? (A6 w.heap.size 1) = some (I6 (f : Int)) := (blk_cell hb3 1).trans rfl
 have e2 : w3.cell? (A6 w.heap.size 2) = some (I6 (i : Int)) := (blk_cell hb3 2).trans rfl
 have e3 : w3.cell? (A6 w.heap.size 3) = some (I6 mb) := (blk_cell hb3 3).trans rfl
 have e4 : w3.cell? (A6 w.heap.size 4) = some (I6 (k : Int)) := (blk_cell hb3 4).trans rfl
 have hq := h3.reps.here hi
 rw [← hr] at hq
 have hrk := hq.rok hi
 have hz := hrk.len
 have hyo := Rr.at_ok hrk k
 have g0 := hq.open hi hk
 have c2 := hq.hc hi (o := 2) (by decide) (v := I6 r.ro) rfl
 have c3 := hq.hc hi (o := 3) (by decide) (v := I6 r.ba) rfl
 generalize hy9 : r.at k = y at *
 have Hy : Hid (r.at k = y) := hy9
 have Hr : Hid (x.R.getD i noRr = r) := by show _ = _; rw [hr]
 clear hy9 hkn hfn hR hr
 have c5 := g0.gc hi hz hk (o := 5) (by decide) (v := .bool y.is) rfl
 have cv : w3.cell? (A6 Rb (i * 396 + 12 + k * 24 + 17 + f)) = some (.bool (y.vo.getD f false)) := by
  have e : i * 396 + 12 + k * 24 + 17 + f = i * 396 + 12 + k * 24 + (17 + f) := by omega
  rw [e]
  exact g0.gc hi hz hk (o := 17 + f) (by omega) (vote_get y f hf7 hyo)
 by_cases b0 : r.ro = 2
 ·have m0 : (r.ro != 2) = false := by simp [b0]
  by_cases b1 : r.ba = mb
  ·have m1 : (r.ba != mb) = false := by simp [b1]
   cases b2 : y.is
   ·rw [b2] at c5
    cases b3 : y.vo.getD f false
    ·rw [b3] at cv
     have Hb : Hid (r.ro = 2 ∧ r.ba = mb ∧ y.is = false ∧ y.vo.getD f false = false) := ⟨b0, b1, b2, b3⟩
     clear b0 b1 b2 b3
     go_wp2_with fail
     go_quiet (fail)
     have hBn : Below (w3).heap.size (w3) ((w3).drewN nq) := below_drewN (Below.refl _ _) nq
     have h4 := h3.below hBn
     have hBw' : Below w.heap.size w ((w3).drewN nq) := Below.trans hBw (hBn.mono hBw.size)
     have hb4 := blk_below hBn hb3
     generalize (w3).drewN nq = w4 at *
     clear hBn hBw
     have hBw := hBw'
     clear hBw'
     clear d0 e1 e2 e3 e4 c2 c3 c5 cv hq g0 m0 m1 h3 hb3
     have d0 := h4.c0
     have e1 : w4.cell? (A6 w.heap.size 1) = some (I6 (f : Int)) := (blk_cell hb4 1).trans rfl
     have e2 : w4.cell? (A6 w.heap.size 2) = some (I6 (i : Int)) := (blk_cell hb4 2).trans rfl
     have e3 : w4.cell? (A6 w.heap.size 3) = some (I6 mb) := (blk_cell hb4 3).trans rfl
     have e4 : w4.cell? (A6 w.heap.size 4) = some (I6 (k : Int)) := (blk_cell hb4 4).trans rfl
     have hq4 := h4.reps.here hi
     rw [Hr.out] at hq4
     have g4 := hq4.open hi hk
     rw [Hy.out] at g4
     have hAe : i * 396 + 12 + k * 24 + 17 + f = i * 396 + 12 + k * 24 + (17 + f) := by omega
     have cvd : w4.drew.cell? (A6 Rb (i * 396 + 12 + k * 24 + 17 + f)) = some (.bool (y.vo.getD f false)) := by
      show w4.cell? _ = _
      rw [hAe]
      exact g4.gc hi hz hk (o := 17 + f) (by omega) (vote_get y f hf7 hyo)
     have zvd : w4.drew.frozen? (A6 Rb (i * 396 + 12 + k * 24 + 17 + f)) = false := g4.fz _
     have hHR : w.heap.size ≠ Rb := fun e => hno (.inr (.inl e))
     have hkv : Keeps (fun b => b = Rb) w4 (w4.setCell (A6 Rb (i * 396 + 12 + k * 24 + 17 + f)) (.bool true)).drew := (keeps_set _ _ _ _).trans (Keeps.ofBelow (Below.drew (Below.refl _ _)))
     have hb5 := blk_keeps hkv hb4 hHR
     have e1v : (w4.setCell (A6 Rb (i * 396 + 12 + k * 24 + 17 + f)) (.bool true)).drew.cell? (A6 w.heap.size 1) = some (I6 (f : Int)) := (blk_cell hb5 1).trans rfl
     have g5 : RAt (w4.setCell (A6 Rb (i * 396 + 12 + k * 24 + 17 + f)) (.bool true)).drew Rb (x.R.set i (r.setAt k (y.vote f))) := by
      have h9 := g4.gs1 hi hz hk (o := 17 + f) (v := .bool true) (y.vote f) (by omega) (by show (y.vo.set f true).length = 7; rw [List.length_set]; exact hyo) (vote_splice y f hf7 hyo)
      rw [← hAe] at h9
      exact h9.below (Below.drew (Below.refl _ _))
     have hT5 := h4.turn hkv g5 (by rw [List.length_set])
     have hQ5v := h4.turn2 hkv g5 (by rw [List.length_set])
     have kw5 : Keeps (qOwn qb Rb v) w (w4.setCell (A6 Rb (i * 396 + 12 + k * 24 + 17 + f)) (.bool true)).drew := (Keeps.ofBelow hBw).trans (hkv.mono (fun b _ e => .inr (.inl e)))
     clear hAe
     go_wp2_with fail
     refine wp_region_held_drew (S := fun w' => w'.cell? (A6 w.heap.size 1) = some (I6 (f : Int))) (by kernel_rfl) (e1) (fun hS => ?_)
     refine tk 0 rfl hS (v := ?_) (fun w' hw => ?_) ?_
     rotate_left 1
     ·have d9 := hw; go_simp; all_goals with_reducible rfl
     try simp only [ly]
     refine tk 1 rfl hS (v := ?_) (fun w' hw => ?_) ?_
     rotate_left 1
     ·have d9 := hw; go_simp; all_goals with_reducible rfl
     try simp only [ly]
     refine tk 2 rfl hS (v := ?_) (fun w' hw => ?_) ?_
     rotate_left 1
     ·have d9 := hw; go_simp; all_goals with_reducible rfl
     try simp only [ly]
     refine tk 3 rfl hS (v := ?_) (fun w' hw => ?_) ?_
     rotate_left 1
     ·have d9 := hw; go_simp; all_goals with_reducible rfl
     try simp only [ly]
     refine tk 4 rfl hS (v := ?_) (fun w' hw => ?_) ?_
     rotate_left 1
     ·have d9 := hw; go_simp; all_goals with_reducible rfl
     try simp only [ly]
     refine tk 5 rfl hS (v := ?_) (fun w' hw => ?_) ?_
     rotate_left 1
     ·have d9 := hw; go_simp; all_goals with_reducible rfl
     try simp only [ly]
     refine r1 6 rfl (fun K hK => ?_)
     go_simp
     refine hK.out _ _ e1v (fun hS => ?_)
     clear hK K
     try simp only [ly]
     refine dn ?_ _
     generalize (w4.setCell (A6 Rb (i * 396 + 12 + k * 24 + 17 + f)) (.bool true)).drew = w5 at *
     clear cvd zvd e1v hkv d0 e1 e2 e3 e4 hS
     have hXp : (⟨x.R.set i (r.setAt k (y.vote f)), x.net⟩ : Qs) = x.put i (r.setAt k (y.vote f)) := rfl
     rw [hXp] at hT5
     have hT5' := QTo.after hBw hT5
     have hQ5 : QAt w5 qb Rb v (x.put i (r.setAt k (y.vote f))) := hQ5v
     clear hQ5v hT5
     have hvl : (y.vote f).vo.length = 7 := by show (y.vo.set f true).length = 7; rw [List.length_set]; exact hyo
     have Hra : Hid (World.rangeAt w5 Rb (i * 396 + 12 + k * 24 + 17) ((y.vote f).vo.map Value.bool)) := fun j u hu => by
      have hj : j < 7 := by have := (List.getElem?_eq_some_iff.1 hu).1; rw [List.length_map, hvl] at this; exact this
      have e : i * 396 + 12 + k * 24 + 17 + j = i * 396 + 12 + k * 24 + (17 + j) := by omega
      rw [e]
      refine (g5.gc hi hz hk (o := 17 + j) (by omega) (vote_get (y.vote f) j hj hvl)).trans ?_
      rw [← hu, List.getElem?_map, List.getD_eq_getElem?_getD, List.getElem?_eq_getElem (by omega)]
      rfl
     have hMo := most_any hQ5 (y.vote f).vo hvl
     have hln : (x.put i (r.setAt k (y.vote f))).R.length = x.R.length := by unfold Qs.put; simp only [List.length_set]
     rw [hln] at hMo
     have HY : Hid (x.accepted i ⟨mk, (f : Int), (i : Int), mb, (k : Int), ⟨mc, mq, mh, mx⟩, ma⟩ = if (x.R.length : Int) < 2 * yeas (y.vote f).vo then (x.put i (r.setAt k ((y.vote f).final y.kept))).sendTo (msg 5 0 (k : Int) y.kept []) i ((List.range x.R.length).eraseIdx i) else x.put i (r.setAt k (y.vote f))) := by
      show _ = _
      unfold Qs.accepted
      rw [HR.out]
      simp only [Int.toNat_natCast, Hy.out]
      obtain ⟨b0, b1, b2, b3⟩ := Hb.out
      have hneg : ¬ (r.ro ≠ 2 ∨ r.ba ≠ mb ∨ y.is = true ∨ y.vo.getD f false = true) := by
       rintro (h1 | h1 | h1 | h1)
       ·exact h1 b0
       ·exact h1 b1
       ·rw [b2] at h1; cases h1
       ·rw [b3] at h1; cases h1
      rw [if_neg hneg]
      rfl
     obtain ⟨a0, a1, a2, a3, a4, a5, a6, ha⟩ : ∃ a0 a1 a2 a3 a4 a5 a6, (y.vote f).vo = [a0, a1, a2, a3, a4, a5, a6] := by
      match (y.vote f).vo, hvl with
      | [a0, a1, a2, a3, a4, a5, a6], _ => exact ⟨a0, a1, a2, a3, a4, a5, a6, rfl⟩
     have t0 : w5.cell? (A6 Rb (i * 396 + 12 + k * 24 + 17)) = some (.bool a0) := Hra.out 0 _ (by rw [ha]; rfl)
     have t1 : w5.cell? (A6 Rb (i * 396 + 12 + k * 24 + 17 + 1)) = some (.bool a1) := Hra.out 1 _ (by rw [ha]; rfl)
     have t2 : w5.cell? (A6 Rb (i * 396 + 12 + k * 24 + 17 + 2)) = some (.bool a2) := Hra.out 2 _ (by rw [ha]; rfl)
     have t3 : w5.cell? (A6 Rb (i * 396 + 12 + k * 24 + 17 + 3)) = some (.bool a3) := Hra.out 3 _ (by rw [ha]; rfl)
     have t4 : w5.cell? (A6 Rb (i * 396 + 12 + k * 24 + 17 + 4)) = some (.bool a4) := Hra.out 4 _ (by rw [ha]; rfl)
     have t5 : w5.cell? (A6 Rb (i * 396 + 12 + k * 24 + 17 + 5)) = some (.bool a5) := Hra.out 5 _ (by rw [ha]; rfl)
     have t6 : w5.cell? (A6 Rb (i * 396 + 12 + k * 24 + 17 + 6)) = some (.bool a6) := Hra.out 6 _ (by rw [ha]; rfl)
     have hMo' := hMo
     rw [ha] at hMo'
     simp only [List.map_cons, List.map_nil] at hMo'
     rw [← ha] at hMo'
     clear hMo Hra ha
     have hMo := hMo'
     clear hMo'
     by_cases hM : (x.R.length : Int) < 2 * yeas (y.vote f).vo
     ·rw [decide_eq_true hM] at hMo
      have HX : Hid (x.accepted i ⟨mk, (f : Int), (i : Int), mb, (k : Int), ⟨mc, mq, mh, mx⟩, ma⟩ = (x.put i (r.setAt k ((y.vote f).final y.kept))).sendTo (msg 5 0 (k : Int) y.kept []) i (but i x.R.length)) := by show _ = _; rw [HY.out, if_pos hM, but_all hi]
      clear HY hM
      have Hi4 : Hid ((Tryz.prog.info? 33).map (·.size) = some (#[I6 y.kept.c, I6 y.kept.q, I6 y.kept.h, .string y.kept.t] : Array Value).size) := by show _ = _; kernel_rfl
      have H14 : Hid ((#[I6 y.kept.c, I6 y.kept.q, I6 y.kept.h, .string y.kept.t] : Array Value).all (·.oneCell') = true) := by show _ = _; simp [Value.oneCell']
      go_wp2_with fail
      refine hMo.mono ?_
      rintro e w6 ⟨rfl, hB6⟩
      clear hMo t0 t1 t2 t3 t4 t5 t6 hT5'
      have h6 := hQ5.below hB6
      have hb6 := blk_below hB6 hb5
      have g6 := g5.below hB6
      have kw6 : Keeps (qOwn qb Rb v) w w6 := kw5.trans (Keeps.ofBelow hB6)
      clear hQ5 hb5 g5 kw5 hB6 g4 hq4 hb4 h4
      have c5 := g6.gc hi hz hk (o := 5) (by decide) (v := .bool y.is) rfl
      have z5 := g6.fz (i * 396 + 12 + k * 24 + 5)
      go_upto_region 8 with (fail)
      have g7 := g6.gs1 hi hz hk (o := 5) (v := .bool true) ⟨y.b, y.v, true, y.fin, y.has, y.mine, y.kept, y.kb, (y.vote f).vo⟩ (by decide) hvl rfl
      have k7 := keeps_set w6 Rb (i * 396 + 12 + k * 24 + 5) (.bool true)
      generalize w6.setCell (A6 Rb (i * 396 + 12 + k * 24 + 5)) (.bool true) = w7 at *
      clear c5 z5 g6
      have u0 := g7.gc hi hz hk (o := 12) (by decide) (v := I6 y.kept.c) rfl
      have u1 : w7.cell? (A6 Rb (i * 396 + 12 + k * 24 + 12 + 1)) = some (I6 y.kept.q) := g7.gc hi hz hk (o := 13) (by decide) rfl
      have u2 : w7.cell? (A6 Rb (i * 396 + 12 + k * 24 + 12 + 2)) = some (I6 y.kept.h) := g7.gc hi hz hk (o := 14) (by decide) rfl
      have u3 : w7.cell? (A6 Rb (i * 396 + 12 + k * 24 + 12 + 3)) = some (.string y.kept.t) := g7.gc hi hz hk (o := 15) (by decide) rfl
      have Hth : Hid (World.there w7 Rb (i * 396 + 12 + k * 24 + 6) 4) := g7.thereS hi hk (by decide)
      go_upto_region 9 with (refine wpList_store_mid rfl 33 (.tmp 73) (.tmp 71) rfl Rb (i * 396 + 12 + k * 24 + 6) #[I6 y.kept.c, I6 y.kept.q, I6 y.kept.h, .string y.kept.t] rfl rfl Hth.out Hi4.out H14.out ?_; simp only [Act.put])
      have g8 := g7.gs hi hz hk (o := 6) (vs := (#[I6 y.kept.c, I6 y.kept.q, I6 y.kept.h, .string y.kept.t] : Array Value).toList) ((y.vote f).final y.kept) (by show 6 + 4 ≤ 24; decide) hvl rfl
      have k8 := k7.trans (keeps_sets w7 Rb (i * 396 + 12 + k * 24 + 6) (#[I6 y.kept.c, I6 y.kept.q, I6 y.kept.h, .string y.kept.t] : Array Value).toList)
      generalize w7.setCells Rb (i * 396 + 12 + k * 24 + 6) (#[I6 y.kept.c, I6 y.kept.q, I6 y.kept.h, .string y.kept.t] : Array Value).toList = w8 at *
      clear u0 u1 u2 u3 Hth g7 k7
      have h8 : QAt w8 qb Rb v (x.put i (r.setAt k ((y.vote f).final y.kept))) := h6.turn2 k8 g8 (by rw [List.length_set, hln])
      have hb8 := blk_keeps k8 hb6 hHR
      have kw8 : Keeps (qOwn qb Rb v) w w8 := kw6.trans (k8.mono (fun b _ e => .inr (.inl e)))
      clear h6 hb6 kw6 k8 g8
      have hRX : (x.put i (r.setAt k ((y.vote f).final y.kept))).R = x.R.set i (r.setAt k ((y.vote f).final y.kept)) := rfl
      have hlX : (x.put i (r.setAt k ((y.vote f).final y.kept))).R.length = x.R.length := by rw [hRX, List.length_set]
      generalize x.put i (r.setAt k ((y.vote f).final y.kept)) = X at *
      generalize hyf : (y.vote f).final y.kept = yf at *
      have hyk : yf.fin = y.kept := by rw [← hyf]; rfl
      clear hyf
      go_wp2_with fail
      go_loopw [7] (fun jv wr => ∃ (q : Nat) (v' : Value), q ≤ x.R.length ∧ jv = I6 q ∧ QAt wr qb Rb v' (X.sendTo (msg 5 0 (k : Int) y.kept []) i (but i q)) ∧ (∀ b, qOwn qb Rb v' b → qOwn qb Rb v b ∨ w.heap.size ≤ b) ∧ ¬ qOwn qb Rb v' w.heap.size ∧ Keeps (qOwn qb Rb v) w wr ∧ wr.heap[w.heap.size]? = some (.cells #[I6 mk, I6 (f : Int), I6 (i : Int), I6 mb, I6 (k : Int), I6 mc, I6 mq, I6 mh, .string mx, .slice xa ma.length xc] 36 (0, 0))) (fun jv _ => x.R.length - (intOf jv).toNat)
      case atStart => exact ⟨0, v, Nat.zero_le _, rfl, h8, fun _ h => .inl h, hno, kw8, hb8⟩
      case round =>
       clear h8 kw8 hb8
       obtain ⟨q, v9, hq9, rfl, h9, o9, hn9, kw9, hb9⟩ := hrel
       have hR9 : (X.sendTo (msg 5 0 (k : Int) y.kept []) i (but i q)).R = X.R := rsendTo_R' _ _ _ _
       have d0 := h9.c0
       rw [hR9, hlX] at d0
       have e2 : wr.cell? (A6 w.heap.size 2) = some (I6 (i : Int)) := (blk_cell hb9 2).trans rfl
       have e4 : wr.cell? (A6 w.heap.size 4) = some (I6 (k : Int)) := (blk_cell hb9 4).trans rfl
       by_cases hqn : q < x.R.length
       ·have p1 : (q : Int) < (x.R.length : Int) := by omega
        by_cases hqi : q = i
        ·have m1 : ((q : Int) != (i : Int)) = false := by simp [hqi]
         have HB9 : Hid (but i (q + 1) = but i q) := by show _ = _; rw [hqi]; exact but_same i
         clear hqi
         go_wp2_with fail
         go_roundw
         case rel => exact ⟨q + 1, v9, by omega, by go_num, by rw [HB9.out]; exact h9, o9, hn9, kw9, hb9⟩
         case measure => simp [intOf]; omega
        ·have m1 : ((q : Int) != (i : Int)) = true := by simp; omega
         have HB9 : Hid (X.sendTo (msg 5 0 (k : Int) y.kept []) i (but i (q + 1)) = (X.sendTo (msg 5 0 (k : Int) y.kept []) i (but i q)).send ⟨5, (i : Int), (q : Int), 0, (k : Int), y.kept, []⟩) := by show _ = _; rw [but_next hqi, rsendTo_snoc]; rfl
         have g9 : RAt wr Rb (x.R.set i (r.setAt k yf)) := by have h0 := h9.reps; rw [hR9, hRX] at h0; exact h0
         have f0 : wr.cell? (A6 Rb (i * 396 + 12 + k * 24 + 6)) = some (I6 y.kept.c) := g9.gc hi hz hk (o := 6) (by decide) (by rw [← hyk]; rfl)
         have f1 : wr.cell? (A6 Rb (i * 396 + 12 + k * 24 + 6 + 1)) = some (I6 y.kept.q) := g9.gc hi hz hk (o := 7) (by decide) (by rw [← hyk]; rfl)
         have f2 : wr.cell? (A6 Rb (i * 396 + 12 + k * 24 + 6 + 2)) = some (I6 y.kept.h) := g9.gc hi hz hk (o := 8) (by decide) (by rw [← hyk]; rfl)
         have f3 : wr.cell? (A6 Rb (i * 396 + 12 + k * 24 + 6 + 3)) = some (.string y.kept.t) := g9.gc hi hz hk (o := 9) (by decide) (by rw [← hyk]; rfl)
         have hSe := rsend_any (h9.below (Below.drew (Below.refl _ _))) ⟨⟨5, (i : Int), (q : Int), 0, (k : Int), y.kept, []⟩, .slice none 0 0⟩ (Nm.okt_nil _ _ rfl)
         simp only [Nm.cells] at hSe
         clear hqi
         go_wp2_with fail
         refine wp_region_held_drew (S := fun w' => w'.cell? (A6 w.heap.size 2) = some (I6 (i : Int)) ∧ w'.cell? (A6 w.heap.size 4) = some (I6 (k : Int)) ∧ w'.cell? (A6 Rb (i * 396 + 12 + k * 24 + 6)) = some (I6 y.kept.c) ∧ w'.cell? (A6 Rb (i * 396 + 12 + k * 24 + 6 + 1)) = some (I6 y.kept.q) ∧ w'.cell? (A6 Rb (i * 396 + 12 + k * 24 + 6 + 2)) = some (I6 y.kept.h) ∧ w'.cell? (A6 Rb (i * 396 + 12 + k * 24 + 6 + 3)) = some (.string y.kept.t)) (by kernel_rfl) (⟨e2, e4, f0, f1, f2, f3⟩) (fun hS => ?_)
         refine tk 0 rfl hS (v := ?_) (fun w' hw => ?_) ?_
         rotate_left 1
         ·have d1 := hw.1; have d2 := hw.2.1; have d3 := hw.2.2.1; have d4 := hw.2.2.2.1; have d5 := hw.2.2.2.2.1; have d6 := hw.2.2.2.2.2; go_simp; all_goals with_reducible rfl
         try simp only [ly]
         refine tk 1 rfl hS (v := ?_) (fun w' hw => ?_) ?_
         rotate_left 1
         ·have d1 := hw.1; have d2 := hw.2.1; have d3 := hw.2.2.1; have d4 := hw.2.2.2.1; have d5 := hw.2.2.2.2.1; have d6 := hw.2.2.2.2.2; go_simp; all_goals with_reducible rfl
         try simp only [ly]
         refine tk 2 rfl hS (v := ?_) (fun w' hw => ?_) ?_
         rotate_left 1
         ·have d1 := hw.1; have d2 := hw.2.1; have d3 := hw.2.2.1; have d4 := hw.2.2.2.1; have d5 := hw.2.2.2.2.1; have d6 := hw.2.2.2.2.2; go_simp; all_goals with_reducible rfl
         try simp only [ly]
         refine tk 3 rfl hS (v := ?_) (fun w' hw => ?_) ?_
         rotate_left 1
         ·have d1 := hw.1; have d2 := hw.2.1; have d3 := hw.2.2.1; have d4 := hw.2.2.2.1; have d5 := hw.2.2.2.2.1; have d6 := hw.2.2.2.2.2; go_simp; all_goals with_reducible rfl
         try simp only [ly]
         refine tk 4 rfl hS (v := ?_) (fun w' hw => ?_) ?_
         rotate_left 1
         ·have d1 := hw.1; have d2 := hw.2.1; have d3 := hw.2.2.1; have d4 := hw.2.2.2.1; have d5 := hw.2.2.2.2.1; have d6 := hw.2.2.2.2.2; go_simp; all_goals with_reducible rfl
         try simp only [ly]
         refine tk 5 rfl hS (v := ?_) (fun w' hw => ?_) ?_
         rotate_left 1
         ·have d1 := hw.1; have d2 := hw.2.1; have d3 := hw.2.2.1; have d4 := hw.2.2.2.1; have d5 := hw.2.2.2.2.1; have d6 := hw.2.2.2.2.2; go_simp; all_goals with_reducible rfl
         try simp only [ly]
         refine tk 6 rfl hS (v := ?_) (fun w' hw => ?_) ?_
         rotate_left 1
         ·have d1 := hw.1; have d2 := hw.2.1; have d3 := hw.2.2.1; have d4 := hw.2.2.2.1; have d5 := hw.2.2.2.2.1; have d6 := hw.2.2.2.2.2; go_simp; all_goals with_reducible rfl
         try simp only [ly]
         refine tk 7 rfl hS (v := ?_) (fun w' hw => ?_) ?_
         rotate_left 1
         ·have d1 := hw.1; have d2 := hw.2.1; have d3 := hw.2.2.1; have d4 := hw.2.2.2.1; have d5 := hw.2.2.2.2.1; have d6 := hw.2.2.2.2.2; go_simp; all_goals with_reducible rfl
         try simp only [ly]
         refine tk 8 rfl hS (v := ?_) (fun w' hw => ?_) ?_
         rotate_left 1
         ·have d1 := hw.1; have d2 := hw.2.1; have d3 := hw.2.2.1; have d4 := hw.2.2.2.1; have d5 := hw.2.2.2.2.1; have d6 := hw.2.2.2.2.2; go_simp; all_goals with_reducible rfl
         try simp only [ly]
         refine tk 9 rfl hS (v := ?_) (fun w' hw => ?_) ?_
         rotate_left 1
         ·have d1 := hw.1; have d2 := hw.2.1; have d3 := hw.2.2.1; have d4 := hw.2.2.2.1; have d5 := hw.2.2.2.2.1; have d6 := hw.2.2.2.2.2; go_simp; all_goals with_reducible rfl
         try simp only [ly]
         refine tk 10 rfl hS (v := ?_) (fun w' hw => ?_) ?_
         rotate_left 1
         ·have d1 := hw.1; have d2 := hw.2.1; have d3 := hw.2.2.1; have d4 := hw.2.2.2.1; have d5 := hw.2.2.2.2.1; have d6 := hw.2.2.2.2.2; go_simp; all_goals with_reducible rfl
         try simp only [ly]
         refine r1 11 rfl (fun K hK => ?_)
         go_simp
         refine hSe.mono ?_
         rintro e w10 ⟨rfl, v10, h10, o10, k10⟩
         clear hSe
         have hHlt := lt_of_block hb9
         have hn10 : ¬ qOwn qb Rb v10 w.heap.size := fun ho => by
          rcases o10 _ ho with h0 | h0
          ·exact hn9 h0
          ·have h0' : wr.heap.size ≤ w.heap.size := h0
           omega
         have hb10 := blk_keeps k10 (blk_below (Below.drew (Below.refl _ wr)) hb9) hn9
         have hR10 : ((X.sendTo (msg 5 0 (k : Int) y.kept []) i (but i q)).send ⟨5, (i : Int), (q : Int), 0, (k : Int), y.kept, []⟩).R = X.R := hR9
         have g10 : RAt w10 Rb (x.R.set i (r.setAt k yf)) := by have h0 := h10.reps; rw [hR10, hRX] at h0; exact h0
         have e2x : w10.cell? (A6 w.heap.size 2) = some (I6 (i : Int)) := (blk_cell hb10 2).trans rfl
         have e4x : w10.cell? (A6 w.heap.size 4) = some (I6 (k : Int)) := (blk_cell hb10 4).trans rfl
         have f0x : w10.cell? (A6 Rb (i * 396 + 12 + k * 24 + 6)) = some (I6 y.kept.c) := g10.gc hi hz hk (o := 6) (by decide) (by rw [← hyk]; rfl)
         have f1x : w10.cell? (A6 Rb (i * 396 + 12 + k * 24 + 6 + 1)) = some (I6 y.kept.q) := g10.gc hi hz hk (o := 7) (by decide) (by rw [← hyk]; rfl)
         have f2x : w10.cell? (A6 Rb (i * 396 + 12 + k * 24 + 6 + 2)) = some (I6 y.kept.h) := g10.gc hi hz hk (o := 8) (by decide) (by rw [← hyk]; rfl)
         have f3x : w10.cell? (A6 Rb (i * 396 + 12 + k * 24 + 6 + 3)) = some (.string y.kept.t) := g10.gc hi hz hk (o := 9) (by decide) (by rw [← hyk]; rfl)
         have ho10 : ∀ b, qOwn qb Rb v10 b → qOwn qb Rb v b ∨ w.heap.size ≤ b := fun b hb => by
          rcases o10 b hb with h0 | h0
          ·exact o9 b h0
          ·have h0' : wr.heap.size ≤ b := h0
           exact .inr (Nat.le_trans kw9.size h0')
         have kwd : Keeps (qOwn qb Rb v) w wr.drew := kw9.trans (Keeps.ofBelow (Below.drew (Below.refl _ _)))
         have kw10 : Keeps (qOwn qb Rb v) w w10 := ⟨k10.os.trans kwd.os, k10.tape.trans kwd.tape, k10.output.trans kwd.output, Nat.le_trans kwd.size k10.size, fun b hb hn => by
          rw [k10.block b (Nat.lt_of_lt_of_le hb kwd.size) (fun h0 => by
           rcases o9 b h0 with h8 | h8
           ·exact hn h8
           ·omega)]
          exact kwd.block b hb hn⟩
         rw [← HB9.out] at h10
         clear HB9 hR10
         go_wp2_with fail
         refine hK.out _ _ ⟨e2x, e4x, f0x, f1x, f2x, f3x⟩ (fun hS => ?_)
         clear hK K
         try simp only [ly]
         refine dn ?_ _
         clear e2 e4 f0 f1 f2 f3 e2x e4x f0x f1x f2x f3x
         go_wp2_with fail
         go_roundw
         case rel => exact ⟨q + 1, v10, by omega, by go_num, h10, ho10, hn10, kw10, hb10⟩
         case measure => simp [intOf]; omega
       ·have hqe : q = x.R.length := by omega
        have p1 : ¬ (q : Int) < (x.R.length : Int) := by omega
        have HE : Hid (x.accepted i ⟨mk, (f : Int), (i : Int), mb, (k : Int), ⟨mc, mq, mh, mx⟩, ma⟩ = X.sendTo (msg 5 0 (k : Int) y.kept []) i (but i q)) := by show _ = _; rw [HX.out, hqe]
        clear hqe
        go_wp2_with fail
        go_end0
        exact ⟨rfl, v9, by rw [HE.out]; exact h9, o9, kw9⟩
     ·rw [decide_eq_false hM] at hMo
      have HX : Hid (x.accepted i ⟨mk, (f : Int), (i : Int), mb, (k : Int), ⟨mc, mq, mh, mx⟩, ma⟩ = x.put i (r.setAt k (y.vote f))) := by show _ = _; rw [HY.out, if_neg hM]
      clear HY hM
      go_wp2_with fail
      refine hMo.mono ?_
      rintro e w6 ⟨rfl, hB6⟩
      clear hMo
      go_wp2_with fail
      refine bodyPost_ret (results_none rfl _ _ _) rfl ?_
      refine ⟨rfl, ?_⟩
      rw [HX.out]
      exact hT5'.below hB6
    ·have hcond : r.ro ≠ 2 ∨ r.ba ≠ mb ∨ y.is = true ∨ y.vo.getD f false = true := .inr (.inr (.inr b3))
     rw [b3] at cv
     clear b0 b1 b2 b3
     have HX : Hid (x.accepted i ⟨mk, (f : Int), (i : Int), mb, (k : Int), ⟨mc, mq, mh, mx⟩, ma⟩ = x) := by
      show _ = _
      unfold Qs.accepted
      rw [HR.out]
      simp only [Int.toNat_natCast, Hy.out]
      exact if_pos hcond
     clear hcond
     go_wp2_with fail
     go_quiet (fail)
     go_wp2_with fail
     refine bodyPost_ret (results_none rfl _ _ _) rfl ?_
     refine ⟨rfl, ?_⟩
     rw [HX.out]
     exact Hfin.out _ (Below.trans hBw ((below_drewN (Below.refl _ w3) nq).mono hBw.size))
   ·have hcond : r.ro ≠ 2 ∨ r.ba ≠ mb ∨ y.is = true ∨ y.vo.getD f false = true := .inr (.inr (.inl b2))
    rw [b2] at c5
    clear b0 b1 b2
    have HX : Hid (x.accepted i ⟨mk, (f : Int), (i : Int), mb, (k : Int), ⟨mc, mq, mh, mx⟩, ma⟩ = x) := by
     show _ = _
     unfold Qs.accepted
     rw [HR.out]
     simp only [Int.toNat_natCast, Hy.out]
     exact if_pos hcond
    clear hcond
    go_wp2_with fail
    go_quiet (fail)
    go_wp2_with fail
    refine bodyPost_ret (results_none rfl _ _ _) rfl ?_
    refine ⟨rfl, ?_⟩
    rw [HX.out]
    exact Hfin.out _ (Below.trans hBw ((below_drewN (Below.refl _ w3) nq).mono hBw.size))
  ·have hcond : r.ro ≠ 2 ∨ r.ba ≠ mb ∨ y.is = true ∨ y.vo.getD f false = true := .inr (.inl b1)
   have m1 : (r.ba != mb) = true := by simp [b1]
   clear b0 b1
   have HX : Hid (x.accepted i ⟨mk, (f : Int), (i : Int), mb, (k : Int), ⟨mc, mq, mh, mx⟩, ma⟩ = x) := by
    show _ = _
    unfold Qs.accepted
    rw [HR.out]
    simp only [Int.toNat_natCast, Hy.out]
    exact if_pos hcond
   clear hcond
   go_wp2_with fail
   go_quiet (fail)
   go_wp2_with fail
   refine bodyPost_ret (results_none rfl _ _ _) rfl ?_
   refine ⟨rfl, ?_⟩
   rw [HX.out]
   exact Hfin.out _ (Below.trans hBw ((below_drewN (Below.refl _ w3) nq).mono hBw.size))
 ·have hcond : r.ro ≠ 2 ∨ r.ba ≠ mb ∨ y.is = true ∨ y.vo.getD f false = true := .inl b0
  have m0 : (r.ro != 2) = true := by simp [b0]
  clear b0
  have HX : Hid (x.accepted i ⟨mk, (f : Int), (i : Int), mb, (k : Int), ⟨mc, mq, mh, mx⟩, ma⟩ = x) := by
   show _ = _
   unfold Qs.accepted
   rw [HR.out]
   simp only [Int.toNat_natCast, Hy.out]
   exact if_pos hcond
  clear hcond
  go_wp2_with fail
  go_quiet (fail)
  go_wp2_with fail
  refine bodyPost_ret (results_none rfl _ _ _) rfl ?_
  refine ⟨rfl, ?_⟩
  rw [HX.out]
  exact Hfin.out _ (Below.trans hBw ((below_drewN (Below.refl _ w3) nq).mono hBw.size))
end
end Go.Proofs.YtnnhnekfokbooaaGreatDoor
