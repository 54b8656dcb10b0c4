/- RnP1 -/
import Derived.Test.YtnnhnekfokbooaaGreatDoorAl29
set_option linter.unusedSimpArgs false
set_option linter.unusedVariables false
set_option maxRecDepth 100000
namespace Go.Proofs.YtnnhnekfokbooaaGreatDoor
section
open Go.RowKit
set_option maxHeartbeats 4000000 in
theorem rcomes1 {w : World} {qb Rb : Nat} {v : Value} {x : Qs} (h : QAt w qb Rb v x) (y0 : Nm) (hy : y0.okt w) {i f : Nat} (hi : i < x.R.length) (ht : y0.m.t = (i : Int)) (hf : y0.m.f = (f : Int)) (hf7 : f < 7) (hk : y0.m.k = 1) :
  Calls Tryz.prog 73 #[P6 qb, .agg y0.cells.toArray] w fun e w' => e = .returned (.tuple #[]) ∧ QTo w qb Rb v w' (x.comes i y0.m) := by
 obtain ⟨⟨mk, mf, mt, mb, ms, ⟨mc, mq, mh, mx⟩, ma⟩, xv⟩ := y0
 obtain ⟨xa, xc, hxe, hxf⟩ := hy.1.1.form
 simp only at *
 subst hxe ht hf hk
 have h7 := h.n1
 simp only [Nm.cells]
 have hB1 : Below w.heap.size w (w.alloc (.cells #[I6 1, I6 (f : Int), I6 (i : Int), I6 mb, I6 ms, I6 mc, I6 mq, I6 mh, .string mx, .slice xa ma.length xc] 36)) := (Below.refl _ w).alloc (Nat.le_refl _) _
 have hb1 := blk_new w (.cells #[I6 1, I6 (f : Int), I6 (i : Int), I6 mb, I6 ms, I6 mc, I6 mq, I6 mh, .string mx, .slice xa ma.length xc] 36)
 have h1 := h.below hB1
 have hBw := hB1
 clear hB1
 have hno : ¬ qOwn qb Rb v w.heap.size := fun ho => by have := h.own_lt ho; omega
 obtain ⟨r, hr⟩ : ∃ r, r = x.R.getD i noRr := ⟨_, rfl⟩
 have HR : Hid (x.rep i = r) := by show _ = _; rw [hr]; rfl
 have Hr : Hid (x.R.getD i noRr = r) := by show _ = _; rw [hr]
 clear hr
 have q0 : (0 : Int) ≤ (i : Int) := by omega
 have q1 : (i : Int) < (x.R.length : Int) := by omega
 have d0 := h1.c0
 have e0 : (w.alloc (.cells #[I6 1, I6 (f : Int), I6 (i : Int), I6 mb, I6 ms, I6 mc, I6 mq, I6 mh, .string mx, .slice xa ma.length xc] 36)).cell? (A6 w.heap.size 0) = some (I6 1) := (blk_cell hb1 0).trans rfl
 have e1 : (w.alloc (.cells #[I6 1, I6 (f : Int), I6 (i : Int), I6 mb, I6 ms, I6 mc, I6 mq, I6 mh, .string mx, .slice xa ma.length xc] 36)).cell? (A6 w.heap.size 1) = some (I6 (f : Int)) := (blk_cell hb1 1).trans rfl
 have e2 : (w.alloc (.cells #[I6 1, I6 (f : Int), I6 (i : Int), I6 mb, I6 ms, I6 mc, I6 mq, I6 mh, .string mx, .slice xa ma.length xc] 36)).cell? (A6 w.heap.size 2) = some (I6 (i : Int)) := (blk_cell hb1 2).trans rfl
 have e3 : (w.alloc (.cells #[I6 1, I6 (f : Int), I6 (i : Int), I6 mb, I6 ms, I6 mc, I6 mq, I6 mh, .string mx, .slice xa ma.length xc] 36)).cell? (A6 w.heap.size 3) = some (I6 mb) := (blk_cell hb1 3).trans rfl
 have e4 : (w.alloc (.cells #[I6 1, I6 (f : Int), I6 (i : Int), I6 mb, I6 ms, I6 mc, I6 mq, I6 mh, .string mx, .slice xa ma.length xc] 36)).cell? (A6 w.heap.size 4) = some (I6 ms) := (blk_cell hb1 4).trans rfl
 go_enter Tryz.func73, Tryz.ntmps73
 go_wp2_with fail
 generalize w.alloc (.cells #[I6 1, I6 (f : Int), I6 (i : Int), I6 mb, I6 ms, I6 mc, I6 mq, I6 mh, .string mx, .slice xa ma.length xc] 36) = w1 at *
 go_quiet (fail)
 have hBn : Below (w1).heap.size (w1) ((w1).drewN nq) := below_drewN (Below.refl _ _) nq
 have h2 := h1.below hBn
 have hBw' : Below w.heap.size w ((w1).drewN nq) := Below.trans hBw (hBn.mono hBw.size)
 have hb2 := blk_below hBn hb1
 generalize (w1).drewN nq = w2 at *
 clear hBn hBw
 have hBw := hBw'
 clear hBw'
 clear d0 e0 e1 e2 e3 e4 h1 hb1
 have d0 := h2.c0
 have e0 : w2.cell? (A6 w.heap.size 0) = some (I6 1) := (blk_cell hb2 0).trans rfl
 have e1 : w2.cell? (A6 w.heap.size 1) = some (I6 (f : Int)) := (blk_cell hb2 1).trans rfl
 have e2 : w2.cell? (A6 w.heap.size 2) = some (I6 (i : Int)) := (blk_cell hb2 2).trans rfl
 have e3 : w2.cell? (A6 w.heap.size 3) = some (I6 mb) := (blk_cell hb2 3).trans rfl
 have e4 : w2.cell? (A6 w.heap.size 4) = some (I6 ms) := (blk_cell hb2 4).trans rfl
 go_upto_region 3 with (fail)
 have hBa : Below w2.heap.size w2 (w2.alloc (.cells #[I6 0, I6 (i : Int), I6 (f : Int), I6 mb, I6 0, I6 0, I6 0, I6 0, .string ⟨#[]⟩, .slice none 0 0] 36)) := (Below.refl _ w2).alloc (Nat.le_refl _) _
 have hbk := blk_new w2 (.cells #[I6 0, I6 (i : Int), I6 (f : Int), I6 mb, I6 0, I6 0, I6 0, I6 0, .string ⟨#[]⟩, .slice none 0 0] 36)
 have h3 := h2.below hBa
 have hb3 := blk_below hBa hb2
 have hBw' := Below.trans hBw (hBa.mono hBw.size)
 have hnb : w.heap.size < w2.heap.size := lt_of_block hb2
 have hnq : ¬ qOwn qb Rb v w2.heap.size := fun ho => by have := h2.own_lt ho; omega
 generalize w2.alloc (.cells #[I6 0, I6 (i : Int), I6 (f : Int), I6 mb, I6 0, I6 0, I6 0, I6 0, .string ⟨#[]⟩, .slice none 0 0] 36) = w3 at *
 generalize w2.heap.size = nb at *
 clear hBa hBw d0 e0 e1 e2 e3 e4 h2 hb2
 have hBw := hBw'
 clear hBw'
 have hq := h3.reps.here hi
 rw [Hr.out] at hq
 have hrk := hq.rok hi
 have HC0 := h3.c0
 clear HC0
 have d0 := h3.c0
 have e0 : w3.cell? (A6 w.heap.size 0) = some (I6 1) := (blk_cell hb3 0).trans rfl
 have e1 : w3.cell? (A6 w.heap.size 1) = some (I6 (f : Int)) := (blk_cell hb3 1).trans rfl
 have e2 : w3.cell? (A6 w.heap.size 2) = some (I6 (i : Int)) := (blk_cell hb3 2).trans rfl
 have e3 : w3.cell? (A6 w.heap.size 3) = some (I6 mb) := (blk_cell hb3 3).trans rfl
 have e4 : w3.cell? (A6 w.heap.size 4) = some (I6 ms) := (blk_cell hb3 4).trans rfl
 have c0 : w3.cell? (A6 Rb (i * 396)) = some (I6 r.pr) := hq.hc hi (o := 0) (by decide) rfl
 obtain ⟨i0, hi0, hz0, hz1, hz2⟩ := info_parts Tryz.infoVote
 by_cases hlt : mb < r.pr
 ·have m0 : decide (mb < r.pr) = true := by simp; exact hlt
  have HX : Hid (x.comes i ⟨1, (f : Int), (i : Int), mb, ms, ⟨mc, mq, mh, mx⟩, ma⟩ = x.send ⟨6, (i : Int), (f : Int), r.pr, 0, noPst, []⟩) := by
   show _ = _
   unfold Qs.comes
   rw [HR.out]
   simp [hlt]
   rfl
  clear hlt
  go_wp2_with fail
  go_quiet (fail)
  have hBn : Below (w3).heap.size (w3) ((w3).drewN nq) := below_drewN (Below.refl _ _) nq
  have h4 := h3.below hBn
  have hBw' : Below w.heap.size w ((w3).drewN nq) := Below.trans hBw (hBn.mono hBw.size)
  have hb4 := blk_below hBn hb3
  have g4 := hq.below hBn
  have hbk4 := blk_below hBn hbk
  generalize (w3).drewN nq = w4 at *
  clear hBn hBw
  have hBw := hBw'
  clear hBw'
  clear d0 e0 e1 e2 e3 e4 c0 m0 h3 hb3 hq hbk
  have hRn : ¬ Rb = nb := fun e => hnq (.inr (.inl e.symm))
  have b0 : w4.cell? (A6 nb 0) = some (I6 0) := (blk_cell hbk4 0).trans rfl
  have z0 := blk_free hbk4 0
  go_upto_region 8 with (fail)
  have hbk5 : (w4.setCell (A6 nb 0) (I6 6)).heap[nb]? = some (.cells #[I6 6, I6 (i : Int), I6 (f : Int), I6 mb, I6 0, I6 0, I6 0, I6 0, .string ⟨#[]⟩, .slice none 0 0] 36 (0, 0)) := blk_set hbk4 0 _
  have k5 := keeps_set w4 nb 0 (I6 6)
  have h5 := h4.apart k5 hnq hbk4
  have g5 := g4.keeps k5 hRn
  have hBw' := below_setNew hBw k5 (Nat.le_of_lt hnb)
  generalize w4.setCell (A6 nb 0) (I6 6) = w5 at *
  clear b0 z0 h4 hb4 hbk4 g4 k5
  have c0 : w5.cell? (A6 Rb (i * 396)) = some (I6 r.pr) := g5.hc hi (o := 0) (by decide) rfl
  have b3 : w5.cell? (A6 nb 3) = some (I6 mb) := (blk_cell hbk5 3).trans rfl
  have z3 := blk_free hbk5 3
  go_upto_region 9 with (fail)
  have hbk6 : (w5.setCell (A6 nb 3) (I6 r.pr)).heap[nb]? = some (.cells #[I6 6, I6 (i : Int), I6 (f : Int), I6 r.pr, I6 0, I6 0, I6 0, I6 0, .string ⟨#[]⟩, .slice none 0 0] 36 (0, 0)) := blk_set hbk5 3 _
  have k6 := keeps_set w5 nb 3 (I6 r.pr)
  have h6 := h5.apart k6 hnq hbk5
  have g6 := g5.keeps k6 hRn
  have hBw'' := below_setNew hBw' k6 (Nat.le_of_lt hnb)
  generalize w5.setCell (A6 nb 3) (I6 r.pr) = w6 at *
  clear b3 z3 c0 h5 hbk5 g5 k6
  have hSe := rsend_any h6 ⟨⟨6, (i : Int), (f : Int), r.pr, 0, noPst, []⟩, .slice none 0 0⟩ (Nm.okt_nil _ _ rfl)
  simp only [Nm.cells, noPst] at hSe
  have hbc := blk_cell hbk6
  go_wp2_with fail
  refine hSe.mono ?_
  rintro e w7 ⟨rfl, hQ7⟩
  clear hSe hbc
  go_wp2_with fail
  refine bodyPost_ret (results_none rfl _ _ _) rfl ?_
  refine ⟨rfl, ?_⟩
  rw [HX.out]
  exact QTo.after hBw'' hQ7
 ·have m0 : decide (mb < r.pr) = false := by simp; omega
  have HX : Hid (x.comes i ⟨1, (f : Int), (i : Int), mb, ms, ⟨mc, mq, mh, mx⟩, ma⟩ = (x.put i ((r.yields mb).promise mb)).send ⟨2, (i : Int), (f : Int), mb, 0, noPst, votesR ((r.yields mb).promise mb).sl 16⟩) := by
   show _ = _
   unfold Qs.comes
   rw [HR.out]
   simp [hlt]
   rfl
  clear hlt
  go_wp2_with fail
  go_quiet (fail)
  have hBn : Below (w3).heap.size (w3) ((w3).drewN nq) := below_drewN (Below.refl _ _) nq
  have h4 := h3.below hBn
  have hBw' : Below w.heap.size w ((w3).drewN nq) := Below.trans hBw (hBn.mono hBw.size)
  have hb4 := blk_below hBn hb3
  have g4 := hq.below hBn
  have hbk4 := blk_below hBn hbk
  generalize (w3).drewN nq = w4 at *
  clear hBn hBw
  have hBw := hBw'
  clear hBw'
  clear d0 e0 e1 e2 e3 e4 c0 m0 h3 hb3 hq hbk
  have hRn : ¬ Rb = nb := fun e => hnq (.inr (.inl e.symm))
  have hHR : w.heap.size ≠ Rb := fun e => hno (.inr (.inl e))
  have hnR : nb ≠ Rb := fun e => hnq (.inr (.inl e))
  have e3 : w4.cell? (A6 w.heap.size 3) = some (I6 mb) := (blk_cell hb4 3).trans rfl
  have hY := yields_any h4.reps hi mb
  rw [Hr.out] at hY
  go_wp2_with fail
  refine hY.mono ?_
  rintro e w5 ⟨rfl, g5, k5⟩
  clear hY e3 g4
  have hb5 := blk_keeps k5 hb4 hHR
  have e3 : w5.cell? (A6 w.heap.size 3) = some (I6 mb) := (blk_cell hb5 3).trans rfl
  have c0 : w5.cell? (A6 Rb (i * 396)) = some (I6 (r.yields mb).pr) := g5.hc hi (o := 0) (by decide) rfl
  have z0 := g5.fz (i * 396)
  go_upto_region 12 with (fail)
  have g6 := g5.hd hi (v := I6 mb) ((r.yields mb).promise mb) (o := 0) (by decide) rfl rfl rfl
  have k6 := keeps_set w5 Rb (i * 396 + 0) (I6 mb)
  simp only [Nat.add_zero] at g6 k6
  have k7 := k5.trans k6
  have hkw : Keeps (qOwn qb Rb v) w (w5.setCell (A6 Rb (i * 396)) (I6 mb)) := (Keeps.ofBelow hBw).trans (k7.mono (fun b _ e => .inr (.inl e)))
  have h6 := h4.turn2 k7 g6 (by rw [List.length_set])
  have hb6 := blk_keeps k7 hb4 hHR
  have hbk6 := blk_keeps k7 hbk4 hnR
  generalize w5.setCell (A6 Rb (i * 396)) (I6 mb) = w6 at *
  generalize (r.yields mb).promise mb = Q at *
  clear c0 z0 e3 k5 k6 k7 hb5 g5 hBw
  have hzl := (g6.rok hi).len
  have d0 := h6.c0
  have e0 : w6.cell? (A6 w.heap.size 0) = some (I6 1) := (blk_cell hb6 0).trans rfl
  have e1 : w6.cell? (A6 w.heap.size 1) = some (I6 (f : Int)) := (blk_cell hb6 1).trans rfl
  have e2 : w6.cell? (A6 w.heap.size 2) = some (I6 (i : Int)) := (blk_cell hb6 2).trans rfl
  have e3 : w6.cell? (A6 w.heap.size 3) = some (I6 mb) := (blk_cell hb6 3).trans rfl
  have e4 : w6.cell? (A6 w.heap.size 4) = some (I6 ms) := (blk_cell hb6 4).trans rfl
  have HXq : Hid (x.comes i ⟨1, (f : Int), (i : Int), mb, ms, ⟨mc, mq, mh, mx⟩, ma⟩ = (x.put i Q).send ⟨2, (i : Int), (f : Int), mb, 0, noPst, votesR Q.sl 16⟩) := HX
  clear HX
  have b0 : w6.cell? (A6 nb 0) = some (I6 0) := (blk_cell hbk6 0).trans rfl
  have z0 := blk_free hbk6 0
  go_upto_region 14 with (fail)
  have hbk7 : (w6.setCell (A6 nb 0) (I6 2)).heap[nb]? = some (.cells #[I6 2, I6 (i : Int), I6 (f : Int), I6 mb, I6 0, I6 0, I6 0, I6 0, .string ⟨#[]⟩, .slice none 0 0] 36 (0, 0)) := blk_set hbk6 0 _
  have k7 := keeps_set w6 nb 0 (I6 2)
  have h7 := h6.apart k7 hnq hbk6
  have g7 := g6.keeps k7 hRn
  have hb7 := blk_keeps k7 hb6 (Nat.ne_of_lt hnb)
  have hkw' := hkw.setNew k7 (Nat.le_of_lt hnb)
  generalize w6.setCell (A6 nb 0) (I6 2) = w7 at *
  clear hkw
  have hkw := hkw'
  clear hkw' k7 hbk6 h6 g6 hb6
  clear b0 z0 d0 e0 e1 e2 e3 e4
  go_wp2_with fail
  go_loopw [6] (fun kv wr => ∃ (q : Nat) (M : List Vt) (sv : Value), q ≤ 16 ∧ kv = I6 q ∧ M = votesR Q.sl q ∧ M.length ≤ q ∧ wr.heap[nb]? = some (.cells #[I6 2, I6 (i : Int), I6 (f : Int), I6 mb, I6 0, I6 0, I6 0, I6 0, .string ⟨#[]⟩, sv] 36 (0, 0)) ∧ wr.ownsRow w7.heap.size 53 6 sv M.length (vcells M) ∧ Keeps (fun b => b = nb) w7 wr) (fun kv _ => 16 - (intOf kv).toNat)
  case atStart => exact ⟨0, [], .slice none 0 0, by omega, rfl, rfl, by simp, hbk7, World.ownsRow_nil _ _ _ _, Keeps.refl _ _⟩
  case round =>
   obtain ⟨q, M, sv, hq16, rfl, hM, hMl, hbkr, hown, kr⟩ := hrel
   have hbk7x := hbk7
   clear hbk7
   have HM : Hid (M = votesR Q.sl q) := hM
   clear hM
   obtain ⟨va, vc, hve, _⟩ := (owns_row hown).form
   subst hve
   have gr := g7.keeps kr hRn
   by_cases hqn : q < 16
   ·have p0 : (0 : Int) ≤ (q : Int) := by omega
    have p1 : (q : Int) < 16 := by omega
    have gz := gr.open hi hqn
    have HN : Hid (votesR Q.sl (q + 1) = M ++ if 0 < (Q.at q).b then [⟨(q : Int), (Q.at q).b, (Q.at q).v⟩] else []) := by show _ = _; rw [HM.out]; rfl
    generalize Q.at q = Y at *
    have c0 : wr.cell? (A6 Rb (i * 396 + 12 + q * 24)) = some (I6 Y.b) := gz.gc hi hzl hqn (o := 0) (by decide) rfl
    by_cases hyb : 0 < Y.b
    ·have m1 : decide (0 < Y.b) = true := by simp; exact hyb
     have HV : Hid (votesR Q.sl (q + 1) = M ++ [⟨(q : Int), Y.b, Y.v⟩]) := by show _ = _; rw [HN.out, if_pos hyb]
     clear HN hyb
     have hbb : M.length + 1 ≤ maxLen ∧ (M.length + 1) * 56 ≤ 140737488355328 := ⟨by unfold maxLen; omega, by omega⟩
     have h1c : ∀ u ∈ [I6 (q : Int), I6 Y.b, I6 Y.v.c, I6 Y.v.q, I6 Y.v.h, .string Y.v.t], u.oneCell' = true := by
      intro u hu; simp at hu; rcases hu with rfl | rfl | rfl | rfl | rfl | rfl <;> rfl
     have hkz := kr.size
     have f0 : wr.cell? (A6 Rb (i * 396 + 12 + q * 24 + 1)) = some (I6 Y.v.c) := gz.gc hi hzl hqn (o := 1) (by decide) rfl
     have f1 : wr.cell? (A6 Rb (i * 396 + 12 + q * 24 + 1 + 1)) = some (I6 Y.v.q) := gz.gc hi hzl hqn (o := 2) (by decide) rfl
     have f2 : wr.cell? (A6 Rb (i * 396 + 12 + q * 24 + 1 + 2)) = some (I6 Y.v.h) := gz.gc hi hzl hqn (o := 3) (by decide) rfl
     have f3 : wr.cell? (A6 Rb (i * 396 + 12 + q * 24 + 1 + 3)) = some (.string Y.v.t) := gz.gc hi hzl hqn (o := 4) (by decide) rfl
     have s9 : wr.cell? (A6 nb 9) = some (.slice va M.length vc) := (blk_cell hbkr 9).trans rfl
     have hnlt := lt_of_block hbkr
     have hca : ∀ o, (wr.alloc o).cell? (A6 nb 9) = some (.slice va M.length vc) := fun o => by rw [World.cell?_alloc_lt _ _ _ hnlt]; exact s9
     have hnown : (Value.slice va M.length vc).ownBlock ≠ some nb := fun e => by
      have h0 := (World.ownsRow.lt hown nb e).1
      have h1 := lt_of_block hb7
      have h2 := lt_of_block hbk7x
      omega
     go_wp2_with fail
     go_region_law (refine step_append_lies _ rfl (.tmp 68) (.tmp 85) 34 rfl w7.heap.size 53 i0 _ 6 56 Tryz.underlying34 hi0 hz0 hz1 hz2 rfl (by decide) (.slice va M.length vc) M.length (vcells M) rfl (owns_alloc (owns_drew hown) _) _ 1 1 [I6 (q : Int), I6 Y.b, I6 Y.v.c, I6 Y.v.q, I6 Y.v.h, .string Y.v.t] rfl rfl (news_new _ _ (by simp) _ _) h1c (by decide) hbb.1 hbb.2 (by simp; omega) _ rfl ?_; intro g cap w2 hown2 hgr2 hat2 hlt2; have hbk2 := blk_grown hgr2 (blk_alloc (blk_drew hbkr) _) hnown; have hc2 : w2.cell? (A6 nb 9) = some (.slice va M.length vc) := (blk_cell hbk2 9).trans rfl; have hf2 := blk_free hbk2 9)
     all_goals
      go_wp2_with fail
      go_roundw
      case rel =>
       have hgn : (Value.slice (some (A6 g 0)) (M.length + 1) cap).ownBlock ≠ some nb := fun e => by
        obtain rfl : g = nb := by simpa [Value.ownBlock] using e
        have h0 := (World.ownsRow.lt hown2 g rfl).1
        have h2 := lt_of_block hbk7x
        omega
       refine ⟨q + 1, M ++ [⟨(q : Int), Y.b, Y.v⟩], .slice (some (A6 g 0)) (M.length + 1) cap, by omega, by go_num, HV.out.symm, by simp; omega, blk_set hbk2 9 _, ?_, ?_⟩
       ·rw [vcells_append, List.length_append]
        have h9 := owns_set (a := (A6 nb 9)) hown2 hgn (.slice (some (A6 g 0)) (M.length + 1) cap)
        simpa [vcells, Vt.cells] using h9
       ·have K0 : Keeps (fun b => b = nb ∨ w7.heap.size ≤ b) wr w2 := ((Keeps.ofBelow ((Below.drew (Below.refl _ wr)).alloc (Nat.le_refl _) _)).trans ((Keeps.ofGrown hgr2).mono (fun b _ e => .inr (World.ownsRow.lt hown b e).1)))
        exact (kr.high K0).trans (keeps_set w2 nb 9 _)
      case measure => simp [intOf]; omega
    ·have m1 : decide (0 < Y.b) = false := by simp; omega
     have HV : Hid (votesR Q.sl (q + 1) = M) := by show _ = _; rw [HN.out, if_neg hyb, List.append_nil]
     clear HN hyb
     go_wp2_with fail
     go_roundw
     case rel => exact ⟨q + 1, M, .slice va M.length vc, by omega, by go_num, HV.out.symm, by omega, hbkr, hown, kr⟩
     case measure => simp [intOf]; omega
   ·have hqe : q = 16 := by omega
    have p1 : ¬ (q : Int) < 16 := by omega
    have HV : Hid (votesR Q.sl 16 = M) := by show _ = _; rw [HM.out, hqe]
    clear hqe
    have hQr := h7.apart kr hnq hbk7x
    have hkwr := hkw.setNew kr (Nat.le_of_lt hnb)
    have hokt : Nm.okt wr ⟨⟨2, (i : Int), (f : Int), mb, 0, noPst, M⟩, .slice va M.length vc⟩ := ⟨⟨owns_vat hown (by show M.length ≤ _; omega), by show M.length ≤ 1000; omega⟩, fun g hg => owns_blk hown hg⟩
    have hSe := rsend_any hQr ⟨⟨2, (i : Int), (f : Int), mb, 0, noPst, M⟩, .slice va M.length vc⟩ hokt
    simp only [Nm.cells, noPst] at hSe
    have hbc := blk_cell hbkr
    go_wp2_with fail
    refine hSe.mono ?_
    rintro e w11 ⟨rfl, hQ11⟩
    clear hSe hbc
    go_wp2_with fail
    go_end0
    refine ⟨rfl, ?_⟩
    rw [HXq.out, HV.out]
    exact QTo.next (fun _ h => .inl h) hkwr hQ11
end
end Go.Proofs.YtnnhnekfokbooaaGreatDoor
