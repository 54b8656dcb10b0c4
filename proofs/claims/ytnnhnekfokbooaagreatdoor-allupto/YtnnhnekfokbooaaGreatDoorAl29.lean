/- RnO, RnP -/
import Derived.Test.YtnnhnekfokbooaaGreatDoorAl19
set_option linter.unusedSimpArgs false
set_option linter.unusedVariables false
set_option maxRecDepth 100000
namespace Go.Proofs.YtnnhnekfokbooaaGreatDoor
section
open Go.RowKit
set_option maxHeartbeats 4000000 in
theorem rcomes6 {w : World} {qb Rb : Nat} {v : Value} {x : Qs} (h : QAt w qb Rb v x) (y0 : Nm) (hy : y0.okt w) {i f : Nat} (hi : i < x.R.length) (ht : y0.m.t = (i : Int)) (hf : y0.m.f = (f : Int)) (hf7 : f < 7) (hk : y0.m.k = 6) :
  Calls Tryz.prog 73 #[P6 qb, .agg y0.cells.toArray] w fun e w' => e = .returned (.tuple #[]) ∧ QTo w qb Rb v w' (x.comes i y0.m) := by
 obtain ⟨⟨mk, mf, mt, mb, ms, ⟨mc, mq, mh, mx⟩, ma⟩, xv⟩ := y0
 obtain ⟨xa, xc, hxe, hxf⟩ := hy.1.1.form
 simp only at *
 subst hxe ht hf hk
 have h7 := h.n1
 simp only [Nm.cells]
 have hB1 : Below w.heap.size w (w.alloc (.cells #[I6 6, I6 (f : Int), I6 (i : Int), I6 mb, I6 ms, I6 mc, I6 mq, I6 mh, .string mx, .slice xa ma.length xc] 36)) := (Below.refl _ w).alloc (Nat.le_refl _) _
 have hb1 := blk_new w (.cells #[I6 6, I6 (f : Int), I6 (i : Int), I6 mb, I6 ms, I6 mc, I6 mq, I6 mh, .string mx, .slice xa ma.length xc] 36)
 have h1 := h.below hB1
 have hBw := hB1
 clear hB1
 have hno : ¬ qOwn qb Rb v w.heap.size := fun ho => by have := h.own_lt ho; omega
 obtain ⟨r, hr⟩ : ∃ r, r = x.R.getD i noRr := ⟨_, rfl⟩
 have HR : Hid (x.rep i = r) := by show _ = _; rw [hr]; rfl
 have Hr : Hid (x.R.getD i noRr = r) := by show _ = _; rw [hr]
 clear hr
 have q0 : (0 : Int) ≤ (i : Int) := by omega
 have q1 : (i : Int) < (x.R.length : Int) := by omega
 have d0 := h1.c0
 have e0 : (w.alloc (.cells #[I6 6, I6 (f : Int), I6 (i : Int), I6 mb, I6 ms, I6 mc, I6 mq, I6 mh, .string mx, .slice xa ma.length xc] 36)).cell? (A6 w.heap.size 0) = some (I6 6) := (blk_cell hb1 0).trans rfl
 have e1 : (w.alloc (.cells #[I6 6, I6 (f : Int), I6 (i : Int), I6 mb, I6 ms, I6 mc, I6 mq, I6 mh, .string mx, .slice xa ma.length xc] 36)).cell? (A6 w.heap.size 1) = some (I6 (f : Int)) := (blk_cell hb1 1).trans rfl
 have e2 : (w.alloc (.cells #[I6 6, I6 (f : Int), I6 (i : Int), I6 mb, I6 ms, I6 mc, I6 mq, I6 mh, .string mx, .slice xa ma.length xc] 36)).cell? (A6 w.heap.size 2) = some (I6 (i : Int)) := (blk_cell hb1 2).trans rfl
 have e3 : (w.alloc (.cells #[I6 6, I6 (f : Int), I6 (i : Int), I6 mb, I6 ms, I6 mc, I6 mq, I6 mh, .string mx, .slice xa ma.length xc] 36)).cell? (A6 w.heap.size 3) = some (I6 mb) := (blk_cell hb1 3).trans rfl
 have e4 : (w.alloc (.cells #[I6 6, I6 (f : Int), I6 (i : Int), I6 mb, I6 ms, I6 mc, I6 mq, I6 mh, .string mx, .slice xa ma.length xc] 36)).cell? (A6 w.heap.size 4) = some (I6 ms) := (blk_cell hb1 4).trans rfl
 go_enter Tryz.func73, Tryz.ntmps73
 go_wp2_with fail
 generalize w.alloc (.cells #[I6 6, I6 (f : Int), I6 (i : Int), I6 mb, I6 ms, I6 mc, I6 mq, I6 mh, .string mx, .slice xa ma.length xc] 36) = w1 at *
 go_quiet (fail)
 have hBn : Below (w1).heap.size (w1) ((w1).drewN nq) := below_drewN (Below.refl _ _) nq
 have h2 := h1.below hBn
 have hBw' : Below w.heap.size w ((w1).drewN nq) := Below.trans hBw (hBn.mono hBw.size)
 have hb2 := blk_below hBn hb1
 generalize (w1).drewN nq = w2 at *
 clear hBn hBw
 have hBw := hBw'
 clear hBw'
 clear d0 e0 e1 e2 e3 e4 h1 hb1
 have d0 := h2.c0
 have e0 : w2.cell? (A6 w.heap.size 0) = some (I6 6) := (blk_cell hb2 0).trans rfl
 have e1 : w2.cell? (A6 w.heap.size 1) = some (I6 (f : Int)) := (blk_cell hb2 1).trans rfl
 have e2 : w2.cell? (A6 w.heap.size 2) = some (I6 (i : Int)) := (blk_cell hb2 2).trans rfl
 have e3 : w2.cell? (A6 w.heap.size 3) = some (I6 mb) := (blk_cell hb2 3).trans rfl
 have e4 : w2.cell? (A6 w.heap.size 4) = some (I6 ms) := (blk_cell hb2 4).trans rfl
 go_upto_region 3 with (fail)
 have hBa : Below w2.heap.size w2 (w2.alloc (.cells #[I6 0, I6 (i : Int), I6 (f : Int), I6 mb, I6 0, I6 0, I6 0, I6 0, .string ⟨#[]⟩, .slice none 0 0] 36)) := (Below.refl _ w2).alloc (Nat.le_refl _) _
 have hbk := blk_new w2 (.cells #[I6 0, I6 (i : Int), I6 (f : Int), I6 mb, I6 0, I6 0, I6 0, I6 0, .string ⟨#[]⟩, .slice none 0 0] 36)
 have h3 := h2.below hBa
 have hb3 := blk_below hBa hb2
 have hBw' := Below.trans hBw (hBa.mono hBw.size)
 have hnb : w.heap.size < w2.heap.size := lt_of_block hb2
 have hnq : ¬ qOwn qb Rb v w2.heap.size := fun ho => by have := h2.own_lt ho; omega
 generalize w2.alloc (.cells #[I6 0, I6 (i : Int), I6 (f : Int), I6 mb, I6 0, I6 0, I6 0, I6 0, .string ⟨#[]⟩, .slice none 0 0] 36) = w3 at *
 generalize w2.heap.size = nb at *
 clear hBa hBw d0 e0 e1 e2 e3 e4 h2 hb2
 have hBw := hBw'
 clear hBw'
 have hq := h3.reps.here hi
 rw [Hr.out] at hq
 have hrk := hq.rok hi
 have HC0 := h3.c0
 clear HC0
 have d0 := h3.c0
 have e0 : w3.cell? (A6 w.heap.size 0) = some (I6 6) := (blk_cell hb3 0).trans rfl
 have e1 : w3.cell? (A6 w.heap.size 1) = some (I6 (f : Int)) := (blk_cell hb3 1).trans rfl
 have e2 : w3.cell? (A6 w.heap.size 2) = some (I6 (i : Int)) := (blk_cell hb3 2).trans rfl
 have e3 : w3.cell? (A6 w.heap.size 3) = some (I6 mb) := (blk_cell hb3 3).trans rfl
 have e4 : w3.cell? (A6 w.heap.size 4) = some (I6 ms) := (blk_cell hb3 4).trans rfl
 have HX : Hid (x.comes i ⟨6, (f : Int), (i : Int), mb, ms, ⟨mc, mq, mh, mx⟩, ma⟩ = x.put i (r.yields mb)) := by
  show _ = _
  unfold Qs.comes
  rw [HR.out]
  simp
 have hY := yields_any h3.reps hi mb
 rw [Hr.out] at hY
 go_wp2_with fail
 refine hY.mono ?_
 rintro e w4 ⟨rfl, g4, k4⟩
 clear hY
 go_wp2_with fail
 go_end0
 refine ⟨rfl, ?_⟩
 rw [HX.out]
 exact QTo.after hBw (h3.turn k4 g4 (by rw [List.length_set]))
set_option maxHeartbeats 4000000 in
theorem rcomes2 {w : World} {qb Rb : Nat} {v : Value} {x : Qs} (h : QAt w qb Rb v x) (y0 : Nm) (hy : y0.okt w) {i f : Nat} (hi : i < x.R.length) (ht : y0.m.t = (i : Int)) (hf : y0.m.f = (f : Int)) (hf7 : f < 7) (hk : y0.m.k = 2) (hsl : ∀ u ∈ y0.m.a, 0 ≤ u.s ∧ u.s < 16) :
  Calls Tryz.prog 73 #[P6 qb, .agg y0.cells.toArray] w fun e w' => e = .returned (.tuple #[]) ∧ QTo w qb Rb v w' (x.comes i y0.m) := by
 obtain ⟨⟨mk, mf, mt, mb, ms, ⟨mc, mq, mh, mx⟩, ma⟩, xv⟩ := y0
 obtain ⟨xa, xc, hxe, hxf⟩ := hy.1.1.form
 simp only at *
 subst hxe ht hf hk
 have h7 := h.n1
 simp only [Nm.cells]
 have hB1 : Below w.heap.size w (w.alloc (.cells #[I6 2, I6 (f : Int), I6 (i : Int), I6 mb, I6 ms, I6 mc, I6 mq, I6 mh, .string mx, .slice xa ma.length xc] 36)) := (Below.refl _ w).alloc (Nat.le_refl _) _
 have hb1 := blk_new w (.cells #[I6 2, I6 (f : Int), I6 (i : Int), I6 mb, I6 ms, I6 mc, I6 mq, I6 mh, .string mx, .slice xa ma.length xc] 36)
 have h1 := h.below hB1
 have hBw := hB1
 clear hB1
 have hno : ¬ qOwn qb Rb v w.heap.size := fun ho => by have := h.own_lt ho; omega
 obtain ⟨r, hr⟩ : ∃ r, r = x.R.getD i noRr := ⟨_, rfl⟩
 have HR : Hid (x.rep i = r) := by show _ = _; rw [hr]; rfl
 have Hr : Hid (x.R.getD i noRr = r) := by show _ = _; rw [hr]
 clear hr
 have q0 : (0 : Int) ≤ (i : Int) := by omega
 have q1 : (i : Int) < (x.R.length : Int) := by omega
 have d0 := h1.c0
 have e0 : (w.alloc (.cells #[I6 2, I6 (f : Int), I6 (i : Int), I6 mb, I6 ms, I6 mc, I6 mq, I6 mh, .string mx, .slice xa ma.length xc] 36)).cell? (A6 w.heap.size 0) = some (I6 2) := (blk_cell hb1 0).trans rfl
 have e1 : (w.alloc (.cells #[I6 2, I6 (f : Int), I6 (i : Int), I6 mb, I6 ms, I6 mc, I6 mq, I6 mh, .string mx, .slice xa ma.length xc] 36)).cell? (A6 w.heap.size 1) = some (I6 (f : Int)) := (blk_cell hb1 1).trans rfl
 have e2 : (w.alloc (.cells #[I6 2, I6 (f : Int), I6 (i : Int), I6 mb, I6 ms, I6 mc, I6 mq, I6 mh, .string mx, .slice xa ma.length xc] 36)).cell? (A6 w.heap.size 2) = some (I6 (i : Int)) := (blk_cell hb1 2).trans rfl
 have e3 : (w.alloc (.cells #[I6 2, I6 (f : Int), I6 (i : Int), I6 mb, I6 ms, I6 mc, I6 mq, I6 mh, .string mx, .slice xa ma.length xc] 36)).cell? (A6 w.heap.size 3) = some (I6 mb) := (blk_cell hb1 3).trans rfl
 have e4 : (w.alloc (.cells #[I6 2, I6 (f : Int), I6 (i : Int), I6 mb, I6 ms, I6 mc, I6 mq, I6 mh, .string mx, .slice xa ma.length xc] 36)).cell? (A6 w.heap.size 4) = some (I6 ms) := (blk_cell hb1 4).trans rfl
 go_enter Tryz.func73, Tryz.ntmps73
 go_wp2_with fail
 generalize w.alloc (.cells #[I6 2, I6 (f : Int), I6 (i : Int), I6 mb, I6 ms, I6 mc, I6 mq, I6 mh, .string mx, .slice xa ma.length xc] 36) = w1 at *
 go_quiet (fail)
 have hBn : Below (w1).heap.size (w1) ((w1).drewN nq) := below_drewN (Below.refl _ _) nq
 have h2 := h1.below hBn
 have hBw' : Below w.heap.size w ((w1).drewN nq) := Below.trans hBw (hBn.mono hBw.size)
 have hb2 := blk_below hBn hb1
 generalize (w1).drewN nq = w2 at *
 clear hBn hBw
 have hBw := hBw'
 clear hBw'
 clear d0 e0 e1 e2 e3 e4 h1 hb1
 have d0 := h2.c0
 have e0 : w2.cell? (A6 w.heap.size 0) = some (I6 2) := (blk_cell hb2 0).trans rfl
 have e1 : w2.cell? (A6 w.heap.size 1) = some (I6 (f : Int)) := (blk_cell hb2 1).trans rfl
 have e2 : w2.cell? (A6 w.heap.size 2) = some (I6 (i : Int)) := (blk_cell hb2 2).trans rfl
 have e3 : w2.cell? (A6 w.heap.size 3) = some (I6 mb) := (blk_cell hb2 3).trans rfl
 have e4 : w2.cell? (A6 w.heap.size 4) = some (I6 ms) := (blk_cell hb2 4).trans rfl
 go_upto_region 3 with (fail)
 have hBa : Below w2.heap.size w2 (w2.alloc (.cells #[I6 0, I6 (i : Int), I6 (f : Int), I6 mb, I6 0, I6 0, I6 0, I6 0, .string ⟨#[]⟩, .slice none 0 0] 36)) := (Below.refl _ w2).alloc (Nat.le_refl _) _
 have hbk := blk_new w2 (.cells #[I6 0, I6 (i : Int), I6 (f : Int), I6 mb, I6 0, I6 0, I6 0, I6 0, .string ⟨#[]⟩, .slice none 0 0] 36)
 have h3 := h2.below hBa
 have hb3 := blk_below hBa hb2
 have hBw' := Below.trans hBw (hBa.mono hBw.size)
 have hnb : w.heap.size < w2.heap.size := lt_of_block hb2
 have hnq : ¬ qOwn qb Rb v w2.heap.size := fun ho => by have := h2.own_lt ho; omega
 generalize w2.alloc (.cells #[I6 0, I6 (i : Int), I6 (f : Int), I6 mb, I6 0, I6 0, I6 0, I6 0, .string ⟨#[]⟩, .slice none 0 0] 36) = w3 at *
 generalize w2.heap.size = nb at *
 clear hBa hBw d0 e0 e1 e2 e3 e4 h2 hb2
 have hBw := hBw'
 clear hBw'
 have hq := h3.reps.here hi
 rw [Hr.out] at hq
 have hrk := hq.rok hi
 have HC0 := h3.c0
 clear HC0
 have d0 := h3.c0
 have e0 : w3.cell? (A6 w.heap.size 0) = some (I6 2) := (blk_cell hb3 0).trans rfl
 have e1 : w3.cell? (A6 w.heap.size 1) = some (I6 (f : Int)) := (blk_cell hb3 1).trans rfl
 have e2 : w3.cell? (A6 w.heap.size 2) = some (I6 (i : Int)) := (blk_cell hb3 2).trans rfl
 have e3 : w3.cell? (A6 w.heap.size 3) = some (I6 mb) := (blk_cell hb3 3).trans rfl
 have e4 : w3.cell? (A6 w.heap.size 4) = some (I6 ms) := (blk_cell hb3 4).trans rfl
 have HX : Hid (x.comes i ⟨2, (f : Int), (i : Int), mb, ms, ⟨mc, mq, mh, mx⟩, ma⟩ = x.promised i ⟨2, (f : Int), (i : Int), mb, ms, ⟨mc, mq, mh, mx⟩, ma⟩) := by
  show _ = _
  unfold Qs.comes
  rw [HR.out]
  simp
 have hy3 := hy.keeps (Keeps.ofBelow (P := fun _ => False) hBw) (fun _ _ _ => id)
 have hP := rpromised_any h3 ⟨⟨2, (f : Int), (i : Int), mb, ms, ⟨mc, mq, mh, mx⟩, ma⟩, .slice xa ma.length xc⟩ hy3 hi rfl rfl hf7 hsl
 simp only [Nm.cells] at hP
 have hbc := blk_cell hb3
 go_wp2_with fail
 refine hP.mono ?_
 rintro e w4 ⟨rfl, hQ4⟩
 clear hP
 go_wp2_with fail
 go_end0
 refine ⟨rfl, ?_⟩
 rw [HX.out]
 exact QTo.after hBw hQ4
set_option maxHeartbeats 4000000 in
theorem rcomes4 {w : World} {qb Rb : Nat} {v : Value} {x : Qs} (h : QAt w qb Rb v x) (y0 : Nm) (hy : y0.okt w) {i f : Nat} (hi : i < x.R.length) (ht : y0.m.t = (i : Int)) (hf : y0.m.f = (f : Int)) (hf7 : f < 7) (hk : y0.m.k = 4) {k : Nat} (hs : y0.m.s = (k : Int)) (hk16 : k < 16) :
  Calls Tryz.prog 73 #[P6 qb, .agg y0.cells.toArray] w fun e w' => e = .returned (.tuple #[]) ∧ QTo w qb Rb v w' (x.comes i y0.m) := by
 obtain ⟨⟨mk, mf, mt, mb, ms, ⟨mc, mq, mh, mx⟩, ma⟩, xv⟩ := y0
 obtain ⟨xa, xc, hxe, hxf⟩ := hy.1.1.form
 simp only at *
 subst hxe ht hf hk
 subst hs
 have h7 := h.n1
 simp only [Nm.cells]
 have hB1 : Below w.heap.size w (w.alloc (.cells #[I6 4, I6 (f : Int), I6 (i : Int), I6 mb, I6 (k : Int), I6 mc, I6 mq, I6 mh, .string mx, .slice xa ma.length xc] 36)) := (Below.refl _ w).alloc (Nat.le_refl _) _
 have hb1 := blk_new w (.cells #[I6 4, I6 (f : Int), I6 (i : Int), I6 mb, I6 (k : Int), I6 mc, I6 mq, I6 mh, .string mx, .slice xa ma.length xc] 36)
 have h1 := h.below hB1
 have hBw := hB1
 clear hB1
 have hno : ¬ qOwn qb Rb v w.heap.size := fun ho => by have := h.own_lt ho; omega
 obtain ⟨r, hr⟩ : ∃ r, r = x.R.getD i noRr := ⟨_, rfl⟩
 have HR : Hid (x.rep i = r) := by show _ = _; rw [hr]; rfl
 have Hr : Hid (x.R.getD i noRr = r) := by show _ = _; rw [hr]
 clear hr
 have q0 : (0 : Int) ≤ (i : Int) := by omega
 have q1 : (i : Int) < (x.R.length : Int) := by omega
 have d0 := h1.c0
 have e0 : (w.alloc (.cells #[I6 4, I6 (f : Int), I6 (i : Int), I6 mb, I6 (k : Int), I6 mc, I6 mq, I6 mh, .string mx, .slice xa ma.length xc] 36)).cell? (A6 w.heap.size 0) = some (I6 4) := (blk_cell hb1 0).trans rfl
 have e1 : (w.alloc (.cells #[I6 4, I6 (f : Int), I6 (i : Int), I6 mb, I6 (k : Int), I6 mc, I6 mq, I6 mh, .string mx, .slice xa ma.length xc] 36)).cell? (A6 w.heap.size 1) = some (I6 (f : Int)) := (blk_cell hb1 1).trans rfl
 have e2 : (w.alloc (.cells #[I6 4, I6 (f : Int), I6 (i : Int), I6 mb, I6 (k : Int), I6 mc, I6 mq, I6 mh, .string mx, .slice xa ma.length xc] 36)).cell? (A6 w.heap.size 2) = some (I6 (i : Int)) := (blk_cell hb1 2).trans rfl
 have e3 : (w.alloc (.cells #[I6 4, I6 (f : Int), I6 (i : Int), I6 mb, I6 (k : Int), I6 mc, I6 mq, I6 mh, .string mx, .slice xa ma.length xc] 36)).cell? (A6 w.heap.size 3) = some (I6 mb) := (blk_cell hb1 3).trans rfl
 have e4 : (w.alloc (.cells #[I6 4, I6 (f : Int), I6 (i : Int), I6 mb, I6 (k : Int), I6 mc, I6 mq, I6 mh, .string mx, .slice xa ma.length xc] 36)).cell? (A6 w.heap.size 4) = some (I6 (k : Int)) := (blk_cell hb1 4).trans rfl
 go_enter Tryz.func73, Tryz.ntmps73
 go_wp2_with fail
 generalize w.alloc (.cells #[I6 4, I6 (f : Int), I6 (i : Int), I6 mb, I6 (k : Int), I6 mc, I6 mq, I6 mh, .string mx, .slice xa ma.length xc] 36) = w1 at *
 go_quiet (fail)
 have hBn : Below (w1).heap.size (w1) ((w1).drewN nq) := below_drewN (Below.refl _ _) nq
 have h2 := h1.below hBn
 have hBw' : Below w.heap.size w ((w1).drewN nq) := Below.trans hBw (hBn.mono hBw.size)
 have hb2 := blk_below hBn hb1
 generalize (w1).drewN nq = w2 at *
 clear hBn hBw
 have hBw := hBw'
 clear hBw'
 clear d0 e0 e1 e2 e3 e4 h1 hb1
 have d0 := h2.c0
 have e0 : w2.cell? (A6 w.heap.size 0) = some (I6 4) := (blk_cell hb2 0).trans rfl
 have e1 : w2.cell? (A6 w.heap.size 1) = some (I6 (f : Int)) := (blk_cell hb2 1).trans rfl
 have e2 : w2.cell? (A6 w.heap.size 2) = some (I6 (i : Int)) := (blk_cell hb2 2).trans rfl
 have e3 : w2.cell? (A6 w.heap.size 3) = some (I6 mb) := (blk_cell hb2 3).trans rfl
 have e4 : w2.cell? (A6 w.heap.size 4) = some (I6 (k : Int)) := (blk_cell hb2 4).trans rfl
 go_upto_region 3 with (fail)
 have hBa : Below w2.heap.size w2 (w2.alloc (.cells #[I6 0, I6 (i : Int), I6 (f : Int), I6 mb, I6 0, I6 0, I6 0, I6 0, .string ⟨#[]⟩, .slice none 0 0] 36)) := (Below.refl _ w2).alloc (Nat.le_refl _) _
 have hbk := blk_new w2 (.cells #[I6 0, I6 (i : Int), I6 (f : Int), I6 mb, I6 0, I6 0, I6 0, I6 0, .string ⟨#[]⟩, .slice none 0 0] 36)
 have h3 := h2.below hBa
 have hb3 := blk_below hBa hb2
 have hBw' := Below.trans hBw (hBa.mono hBw.size)
 have hnb : w.heap.size < w2.heap.size := lt_of_block hb2
 have hnq : ¬ qOwn qb Rb v w2.heap.size := fun ho => by have := h2.own_lt ho; omega
 generalize w2.alloc (.cells #[I6 0, I6 (i : Int), I6 (f : Int), I6 mb, I6 0, I6 0, I6 0, I6 0, .string ⟨#[]⟩, .slice none 0 0] 36) = w3 at *
 generalize w2.heap.size = nb at *
 clear hBa hBw d0 e0 e1 e2 e3 e4 h2 hb2
 have hBw := hBw'
 clear hBw'
 have hq := h3.reps.here hi
 rw [Hr.out] at hq
 have hrk := hq.rok hi
 have HC0 := h3.c0
 clear HC0
 have d0 := h3.c0
 have e0 : w3.cell? (A6 w.heap.size 0) = some (I6 4) := (blk_cell hb3 0).trans rfl
 have e1 : w3.cell? (A6 w.heap.size 1) = some (I6 (f : Int)) := (blk_cell hb3 1).trans rfl
 have e2 : w3.cell? (A6 w.heap.size 2) = some (I6 (i : Int)) := (blk_cell hb3 2).trans rfl
 have e3 : w3.cell? (A6 w.heap.size 3) = some (I6 mb) := (blk_cell hb3 3).trans rfl
 have e4 : w3.cell? (A6 w.heap.size 4) = some (I6 (k : Int)) := (blk_cell hb3 4).trans rfl
 have HX : Hid (x.comes i ⟨4, (f : Int), (i : Int), mb, (k : Int), ⟨mc, mq, mh, mx⟩, ma⟩ = x.accepted i ⟨4, (f : Int), (i : Int), mb, (k : Int), ⟨mc, mq, mh, mx⟩, ma⟩) := by
  show _ = _
  unfold Qs.comes
  rw [HR.out]
  simp
 have hy3 := hy.keeps (Keeps.ofBelow (P := fun _ => False) hBw) (fun _ _ _ => id)
 have hP := raccepted_any h3 ⟨⟨4, (f : Int), (i : Int), mb, (k : Int), ⟨mc, mq, mh, mx⟩, ma⟩, .slice xa ma.length xc⟩ hy3 hi rfl rfl hf7 rfl hk16
 simp only [Nm.cells] at hP
 have hbc := blk_cell hb3
 go_wp2_with fail
 refine hP.mono ?_
 rintro e w4 ⟨rfl, hQ4⟩
 clear hP
 go_wp2_with fail
 go_end0
 refine ⟨rfl, ?_⟩
 rw [HX.out]
 exact QTo.after hBw hQ4
set_option maxHeartbeats 4000000 in
theorem rcomes5 {w : World} {qb Rb : Nat} {v : Value} {x : Qs} (h : QAt w qb Rb v x) (y0 : Nm) (hy : y0.okt w) {i f : Nat} (hi : i < x.R.length) (ht : y0.m.t = (i : Int)) (hf : y0.m.f = (f : Int)) (hf7 : f < 7) (hk : y0.m.k = 5) {k : Nat} (hs : y0.m.s = (k : Int)) (hk16 : k < 16) :
  Calls Tryz.prog 73 #[P6 qb, .agg y0.cells.toArray] w fun e w' => e = .returned (.tuple #[]) ∧ QTo w qb Rb v w' (x.comes i y0.m) := by
 obtain ⟨⟨mk, mf, mt, mb, ms, ⟨mc, mq, mh, mx⟩, ma⟩, xv⟩ := y0
 obtain ⟨xa, xc, hxe, hxf⟩ := hy.1.1.form
 simp only at *
 subst hxe ht hf hk
 subst hs
 have h7 := h.n1
 simp only [Nm.cells]
 have hB1 : Below w.heap.size w (w.alloc (.cells #[I6 5, I6 (f : Int), I6 (i : Int), I6 mb, I6 (k : Int), I6 mc, I6 mq, I6 mh, .string mx, .slice xa ma.length xc] 36)) := (Below.refl _ w).alloc (Nat.le_refl _) _
 have hb1 := blk_new w (.cells #[I6 5, I6 (f : Int), I6 (i : Int), I6 mb, I6 (k : Int), I6 mc, I6 mq, I6 mh, .string mx, .slice xa ma.length xc] 36)
 have h1 := h.below hB1
 have hBw := hB1
 clear hB1
 have hno : ¬ qOwn qb Rb v w.heap.size := fun ho => by have := h.own_lt ho; omega
 obtain ⟨r, hr⟩ : ∃ r, r = x.R.getD i noRr := ⟨_, rfl⟩
 have HR : Hid (x.rep i = r) := by show _ = _; rw [hr]; rfl
 have Hr : Hid (x.R.getD i noRr = r) := by show _ = _; rw [hr]
 clear hr
 have q0 : (0 : Int) ≤ (i : Int) := by omega
 have q1 : (i : Int) < (x.R.length : Int) := by omega
 have d0 := h1.c0
 have e0 : (w.alloc (.cells #[I6 5, I6 (f : Int), I6 (i : Int), I6 mb, I6 (k : Int), I6 mc, I6 mq, I6 mh, .string mx, .slice xa ma.length xc] 36)).cell? (A6 w.heap.size 0) = some (I6 5) := (blk_cell hb1 0).trans rfl
 have e1 : (w.alloc (.cells #[I6 5, I6 (f : Int), I6 (i : Int), I6 mb, I6 (k : Int), I6 mc, I6 mq, I6 mh, .string mx, .slice xa ma.length xc] 36)).cell? (A6 w.heap.size 1) = some (I6 (f : Int)) := (blk_cell hb1 1).trans rfl
 have e2 : (w.alloc (.cells #[I6 5, I6 (f : Int), I6 (i : Int), I6 mb, I6 (k : Int), I6 mc, I6 mq, I6 mh, .string mx, .slice xa ma.length xc] 36)).cell? (A6 w.heap.size 2) = some (I6 (i : Int)) := (blk_cell hb1 2).trans rfl
 have e3 : (w.alloc (.cells #[I6 5, I6 (f : Int), I6 (i : Int), I6 mb, I6 (k : Int), I6 mc, I6 mq, I6 mh, .string mx, .slice xa ma.length xc] 36)).cell? (A6 w.heap.size 3) = some (I6 mb) := (blk_cell hb1 3).trans rfl
 have e4 : (w.alloc (.cells #[I6 5, I6 (f : Int), I6 (i : Int), I6 mb, I6 (k : Int), I6 mc, I6 mq, I6 mh, .string mx, .slice xa ma.length xc] 36)).cell? (A6 w.heap.size 4) = some (I6 (k : Int)) := (blk_cell hb1 4).trans rfl
 go_enter Tryz.func73, Tryz.ntmps73
 go_wp2_with fail
 generalize w.alloc (.cells #[I6 5, I6 (f : Int), I6 (i : Int), I6 mb, I6 (k : Int), I6 mc, I6 mq, I6 mh, .string mx, .slice xa ma.length xc] 36) = w1 at *
 go_quiet (fail)
 have hBn : Below (w1).heap.size (w1) ((w1).drewN nq) := below_drewN (Below.refl _ _) nq
 have h2 := h1.below hBn
 have hBw' : Below w.heap.size w ((w1).drewN nq) := Below.trans hBw (hBn.mono hBw.size)
 have hb2 := blk_below hBn hb1
 generalize (w1).drewN nq = w2 at *
 clear hBn hBw
 have hBw := hBw'
 clear hBw'
 clear d0 e0 e1 e2 e3 e4 h1 hb1
 have d0 := h2.c0
 have e0 : w2.cell? (A6 w.heap.size 0) = some (I6 5) := (blk_cell hb2 0).trans rfl
 have e1 : w2.cell? (A6 w.heap.size 1) = some (I6 (f : Int)) := (blk_cell hb2 1).trans rfl
 have e2 : w2.cell? (A6 w.heap.size 2) = some (I6 (i : Int)) := (blk_cell hb2 2).trans rfl
 have e3 : w2.cell? (A6 w.heap.size 3) = some (I6 mb) := (blk_cell hb2 3).trans rfl
 have e4 : w2.cell? (A6 w.heap.size 4) = some (I6 (k : Int)) := (blk_cell hb2 4).trans rfl
 go_upto_region 3 with (fail)
 have hBa : Below w2.heap.size w2 (w2.alloc (.cells #[I6 0, I6 (i : Int), I6 (f : Int), I6 mb, I6 0, I6 0, I6 0, I6 0, .string ⟨#[]⟩, .slice none 0 0] 36)) := (Below.refl _ w2).alloc (Nat.le_refl _) _
 have hbk := blk_new w2 (.cells #[I6 0, I6 (i : Int), I6 (f : Int), I6 mb, I6 0, I6 0, I6 0, I6 0, .string ⟨#[]⟩, .slice none 0 0] 36)
 have h3 := h2.below hBa
 have hb3 := blk_below hBa hb2
 have hBw' := Below.trans hBw (hBa.mono hBw.size)
 have hnb : w.heap.size < w2.heap.size := lt_of_block hb2
 have hnq : ¬ qOwn qb Rb v w2.heap.size := fun ho => by have := h2.own_lt ho; omega
 generalize w2.alloc (.cells #[I6 0, I6 (i : Int), I6 (f : Int), I6 mb, I6 0, I6 0, I6 0, I6 0, .string ⟨#[]⟩, .slice none 0 0] 36) = w3 at *
 generalize w2.heap.size = nb at *
 clear hBa hBw d0 e0 e1 e2 e3 e4 h2 hb2
 have hBw := hBw'
 clear hBw'
 have hq := h3.reps.here hi
 rw [Hr.out] at hq
 have hrk := hq.rok hi
 have HC0 := h3.c0
 clear HC0
 have d0 := h3.c0
 have e0 : w3.cell? (A6 w.heap.size 0) = some (I6 5) := (blk_cell hb3 0).trans rfl
 have e1 : w3.cell? (A6 w.heap.size 1) = some (I6 (f : Int)) := (blk_cell hb3 1).trans rfl
 have e2 : w3.cell? (A6 w.heap.size 2) = some (I6 (i : Int)) := (blk_cell hb3 2).trans rfl
 have e3 : w3.cell? (A6 w.heap.size 3) = some (I6 mb) := (blk_cell hb3 3).trans rfl
 have e4 : w3.cell? (A6 w.heap.size 4) = some (I6 (k : Int)) := (blk_cell hb3 4).trans rfl
 have p0 : (0 : Int) ≤ (k : Int) := by omega
 have p1 : (k : Int) < 16 := by omega
 have gz := hq.open hi hk16
 have hzl := hrk.len
 have hyo := Rr.at_ok hrk k
 obtain ⟨y, hyd⟩ : ∃ y, y = r.at k := ⟨_, rfl⟩
 have Hy : Hid (r.at k = y) := by show _ = _; rw [hyd]
 rw [← hyd] at gz hyo
 clear hyd hq
 have c5 := gz.gc hi hzl hk16 (o := 5) (by decide) (v := .bool y.is) rfl
 cases hb : y.is
 ·rw [hb] at c5
  have HX : Hid (x.comes i ⟨5, (f : Int), (i : Int), mb, (k : Int), ⟨mc, mq, mh, mx⟩, ma⟩ = x.put i (r.setAt k (y.final ⟨mc, mq, mh, mx⟩))) := by
   show _ = _
   unfold Qs.comes
   rw [HR.out]
   simp [Hy.out, hb]
  clear hb
  go_wp2_with fail
  go_quiet (fail)
  have hBn : Below (w3).heap.size (w3) ((w3).drewN nq) := below_drewN (Below.refl _ _) nq
  have h4 := h3.below hBn
  have hBw' : Below w.heap.size w ((w3).drewN nq) := Below.trans hBw (hBn.mono hBw.size)
  have hb4 := blk_below hBn hb3
  have g4 := gz.below hBn
  generalize (w3).drewN nq = w4 at *
  clear hBn hBw
  have hBw := hBw'
  clear hBw'
  clear d0 e0 e1 e2 e3 e4 c5 h3 hb3 gz hbk
  have hHR : w.heap.size ≠ Rb := fun e => hno (.inr (.inl e))
  have c5 : w4.drew.cell? (A6 Rb (i * 396 + 12 + k * 24 + 5)) = some (.bool y.is) := g4.gc hi hzl hk16 (o := 5) (by decide) rfl
  have z5 : w4.drew.frozen? (A6 Rb (i * 396 + 12 + k * 24 + 5)) = false := g4.fz _
  have k5 : Keeps (fun b => b = Rb) w4 (w4.setCell (A6 Rb (i * 396 + 12 + k * 24 + 5)) (.bool true)).drew := (keeps_set _ _ _ _).trans (Keeps.ofBelow (Below.drew (Below.refl _ _)))
  have hb5 := blk_keeps k5 hb4 hHR
  have g5 : RAt (w4.setCell (A6 Rb (i * 396 + 12 + k * 24 + 5)) (.bool true)).drew Rb (x.R.set i (r.setAt k ⟨y.b, y.v, true, y.fin, y.has, y.mine, y.kept, y.kb, y.vo⟩)) := (g4.gs1 hi hzl hk16 (o := 5) (v := .bool true) ⟨y.b, y.v, true, y.fin, y.has, y.mine, y.kept, y.kb, y.vo⟩ (by decide) hyo rfl).below (Below.drew (Below.refl _ _))
  go_wp2_with fail
  refine wp_region_held_drew (S := fun w' => w'.heap[w.heap.size]? = some (.cells #[I6 5, I6 (f : Int), I6 (i : Int), I6 mb, I6 (k : Int), I6 mc, I6 mq, I6 mh, .string mx, .slice xa ma.length xc] 36 (0, 0))) (by kernel_rfl) (hb4) (fun hS => ?_)
  refine tk 0 rfl hS (v := ?_) (fun w' hw => ?_) ?_
  rotate_left 1
  ·have d9 := blk_cell hw; go_simp; all_goals with_reducible rfl
  try simp only [ly]
  refine tk 1 rfl hS (v := ?_) (fun w' hw => ?_) ?_
  rotate_left 1
  ·have d9 := blk_cell hw; go_simp; all_goals with_reducible rfl
  try simp only [ly]
  refine tk 2 rfl hS (v := ?_) (fun w' hw => ?_) ?_
  rotate_left 1
  ·have d9 := blk_cell hw; go_simp; all_goals with_reducible rfl
  try simp only [ly]
  refine tk 3 rfl hS (v := ?_) (fun w' hw => ?_) ?_
  rotate_left 1
  ·have d9 := blk_cell hw; go_simp; all_goals with_reducible rfl
  try simp only [ly]
  refine tk 4 rfl hS (v := ?_) (fun w' hw => ?_) ?_
  rotate_left 1
  ·have d9 := blk_cell hw; go_simp; all_goals with_reducible rfl
  try simp only [ly]
  refine tk 5 rfl hS (v := ?_) (fun w' hw => ?_) ?_
  rotate_left 1
  ·have d9 := blk_cell hw; go_simp; all_goals with_reducible rfl
  try simp only [ly]
  refine tk 6 rfl hS (v := ?_) (fun w' hw => ?_) ?_
  rotate_left 1
  ·have d9 := blk_cell hw; go_simp; all_goals with_reducible rfl
  try simp only [ly]
  refine r1 7 rfl (fun K hK => ?_)
  go_simp
  refine hK.out _ _ hb5 (fun hS => ?_)
  clear hK K
  try simp only [ly]
  refine dn ?_ _
  generalize (w4.setCell (A6 Rb (i * 396 + 12 + k * 24 + 5)) (.bool true)).drew = w5 at *
  clear c5 z5 hS
  have hth : World.there w5.drew Rb (i * 396 + 12 + k * 24 + 6) 4 := g5.thereS hi hk16 (by decide)
  have hi4 : (Tryz.prog.info? 33).map (·.size) = some (#[I6 mc, I6 mq, I6 mh, .string mx] : Array Value).size := by kernel_rfl
  have h14 : (#[I6 mc, I6 mq, I6 mh, .string mx] : Array Value).all (·.oneCell') = true := by simp [Value.oneCell']
  have g6 : RAt (World.setCells w5.drew Rb (i * 396 + 12 + k * 24 + 6) (#[I6 mc, I6 mq, I6 mh, .string mx] : Array Value).toList) Rb (x.R.set i (r.setAt k (y.final ⟨mc, mq, mh, mx⟩))) := (RAt.gs (w := w5.drew) (g5.below (Below.drew (Below.refl _ _))) hi hzl hk16 (o := 6) (vs := (#[I6 mc, I6 mq, I6 mh, .string mx] : Array Value).toList) (y.final ⟨mc, mq, mh, mx⟩) (by show 6 + 4 ≤ 24; decide) hyo rfl)
  have k6 : Keeps (fun b => b = Rb) w4 (World.setCells w5.drew Rb (i * 396 + 12 + k * 24 + 6) (#[I6 mc, I6 mq, I6 mh, .string mx] : Array Value).toList) := (k5.trans (Keeps.ofBelow (Below.drew (Below.refl _ _)))).trans (keeps_sets w5.drew Rb (i * 396 + 12 + k * 24 + 6) (#[I6 mc, I6 mq, I6 mh, .string mx] : Array Value).toList)
  have hb6 := blk_keeps k6 hb4 hHR
  go_wp2_with fail
  refine wp_region_held_drew (S := fun w' => w'.heap[w.heap.size]? = some (.cells #[I6 5, I6 (f : Int), I6 (i : Int), I6 mb, I6 (k : Int), I6 mc, I6 mq, I6 mh, .string mx, .slice xa ma.length xc] 36 (0, 0))) (by kernel_rfl) (hb5) (fun hS => ?_)
  refine tk 0 rfl hS (v := ?_) (fun w' hw => ?_) ?_
  rotate_left 1
  ·have d9 := blk_cell hw; go_simp; all_goals with_reducible rfl
  try simp only [ly]
  refine tk 1 rfl hS (v := ?_) (fun w' hw => ?_) ?_
  rotate_left 1
  ·have d9 := blk_cell hw; go_simp; all_goals with_reducible rfl
  try simp only [ly]
  refine tk 2 rfl hS (v := ?_) (fun w' hw => ?_) ?_
  rotate_left 1
  ·have d9 := blk_cell hw; go_simp; all_goals with_reducible rfl
  try simp only [ly]
  refine tk 3 rfl hS (v := ?_) (fun w' hw => ?_) ?_
  rotate_left 1
  ·have d9 := blk_cell hw; go_simp; all_goals with_reducible rfl
  try simp only [ly]
  refine tk 4 rfl hS (v := ?_) (fun w' hw => ?_) ?_
  rotate_left 1
  ·have d9 := blk_cell hw; go_simp; all_goals with_reducible rfl
  try simp only [ly]
  refine tk 5 rfl hS (v := ?_) (fun w' hw => ?_) ?_
  rotate_left 1
  ·have d9 := blk_cell hw; go_simp; all_goals with_reducible rfl
  try simp only [ly]
  refine tk 6 rfl hS (v := ?_) (fun w' hw => ?_) ?_
  rotate_left 1
  ·have d9 := blk_cell hw; go_simp; all_goals with_reducible rfl
  try simp only [ly]
  refine tk 7 rfl hS (v := ?_) (fun w' hw => ?_) ?_
  rotate_left 1
  ·have d9 := blk_cell hw; go_simp; all_goals with_reducible rfl
  try simp only [ly]
  refine tk 8 rfl hS (v := ?_) (fun w' hw => ?_) ?_
  rotate_left 1
  ·have d9 := blk_cell hw; go_simp; all_goals with_reducible rfl
  try simp only [ly]
  refine r1 9 rfl (fun K hK => ?_)
  rw [if_pos (by kernel_rfl)]
  refine wp_store_mid 33 (.tmp 149) (.tmp 145) rfl Rb (i * 396 + 12 + k * 24 + 6) #[I6 mc, I6 mq, I6 mh, .string mx] rfl rfl hth hi4 h14 ?_
  refine hK.out _ _ hb6 (fun hS => ?_)
  clear hK K
  try simp only [ly]
  refine dn ?_ _
  go_wp2_with fail
  go_end0
  refine ⟨rfl, ?_⟩
  rw [HX.out]
  exact QTo.after hBw (h4.turn k6 g6 (by rw [List.length_set]))
 ·rw [hb] at c5
  have HX : Hid (x.comes i ⟨5, (f : Int), (i : Int), mb, (k : Int), ⟨mc, mq, mh, mx⟩, ma⟩ = x) := by
   show _ = _
   unfold Qs.comes
   rw [HR.out]
   simp [Hy.out, hb]
  clear hb
  go_wp2_with fail
  go_quiet (fail)
  have hBn : Below (w3).heap.size (w3) ((w3).drewN nq) := below_drewN (Below.refl _ _) nq
  have h4 := h3.below hBn
  have hBw' : Below w.heap.size w ((w3).drewN nq) := Below.trans hBw (hBn.mono hBw.size)
  have hb4 := blk_below hBn hb3
  generalize (w3).drewN nq = w4 at *
  clear hBn hBw
  have hBw := hBw'
  clear hBw'
  go_wp2_with fail
  go_end0
  refine ⟨rfl, ?_⟩
  rw [HX.out]
  exact (QTo.refl h).below hBw
end
section
open Go.RowKit
theorem QAt.apart {w w' : World} {qb Rb : Nat} {v : Value} {x : Qs} {b : Nat} {cs : Array Value} (h : QAt w qb Rb v x) (hk : Keeps (fun k => k = b) w w') (hn : ¬ qOwn qb Rb v b) (hb : w.heap[b]? = some (.cells cs 36 (0, 0))) : QAt w' qb Rb v x := by
 obtain ⟨l, h1, h2, h3⟩ := h.net
 refine ⟨blk_keeps hk h.syn (fun e => hn (.inl e.symm)), h.reps.keeps hk (fun e => hn (.inr (.inl e.symm))), ⟨l, h1, owns_keeps h2 hk (fun g hg e => hn (.inr (.inr (by rw [← e]; exact hg)))), fun y hy => (h3 y hy).keeps hk (fun k cs' hc e => ?_)⟩, h.n0, h.n1, h.full⟩
 rw [e, hb] at hc; injection hc with e1; injection e1 with _ e1; simp at e1
theorem below_setNew {w w4 w5 : World} {nb : Nat} (hB : Below w.heap.size w w4) (hk : Keeps (fun k => k = nb) w4 w5) (hn : w.heap.size ≤ nb) : Below w.heap.size w w5 :=
 hB.trans ⟨hk.os, hk.tape, hk.output, hk.size, fun b hb => hk.block b (Nat.lt_of_lt_of_le hb hB.size) (by omega)⟩
theorem Keeps.setNew {P : Nat → Prop} {w w4 w5 : World} {nb : Nat} (hB : Keeps P w w4) (hk : Keeps (fun k => k = nb) w4 w5) (hn : w.heap.size ≤ nb) : Keeps P w w5 :=
 ⟨hk.os.trans hB.os, hk.tape.trans hB.tape, hk.output.trans hB.output, Nat.le_trans hB.size hk.size, fun b hb hno => (hk.block b (Nat.lt_of_lt_of_le hb hB.size) (by omega)).trans (hB.block b hb hno)⟩
theorem Keeps.high {P : Nat → Prop} {w7 wr w2 : World} (kr : Keeps P w7 wr) (k : Keeps (fun b => P b ∨ w7.heap.size ≤ b) wr w2) : Keeps P w7 w2 :=
 ⟨k.os.trans kr.os, k.tape.trans kr.tape, k.output.trans kr.output, Nat.le_trans kr.size k.size, fun b hb hn => (k.block b (Nat.lt_of_lt_of_le hb kr.size) (fun h => by rcases h with h | h; exact hn h; omega)).trans (kr.block b hb hn)⟩
set_option maxHeartbeats 4000000 in
theorem rcomes3 {w : World} {qb Rb : Nat} {v : Value} {x : Qs} (h : QAt w qb Rb v x) (y0 : Nm) (hy : y0.okt w) {i f : Nat} (hi : i < x.R.length) (ht : y0.m.t = (i : Int)) (hf : y0.m.f = (f : Int)) (hf7 : f < 7) (hk : y0.m.k = 3) {k : Nat} (hs : y0.m.s = (k : Int)) (hk16 : k < 16) :
  Calls Tryz.prog 73 #[P6 qb, .agg y0.cells.toArray] w fun e w' => e = .returned (.tuple #[]) ∧ QTo w qb Rb v w' (x.comes i y0.m) := by
 obtain ⟨⟨mk, mf, mt, mb, ms, ⟨mc, mq, mh, mx⟩, ma⟩, xv⟩ := y0
 obtain ⟨xa, xc, hxe, hxf⟩ := hy.1.1.form
 simp only at *
 subst hxe ht hf hk
 subst hs
 have h7 := h.n1
 simp only [Nm.cells]
 have hB1 : Below w.heap.size w (w.alloc (.cells #[I6 3, I6 (f : Int), I6 (i : Int), I6 mb, I6 (k : Int), I6 mc, I6 mq, I6 mh, .string mx, .slice xa ma.length xc] 36)) := (Below.refl _ w).alloc (Nat.le_refl _) _
 have hb1 := blk_new w (.cells #[I6 3, I6 (f : Int), I6 (i : Int), I6 mb, I6 (k : Int), I6 mc, I6 mq, I6 mh, .string mx, .slice xa ma.length xc] 36)
 have h1 := h.below hB1
 have hBw := hB1
 clear hB1
 have hno : ¬ qOwn qb Rb v w.heap.size := fun ho => by have := h.own_lt ho; omega
 obtain ⟨r, hr⟩ : ∃ r, r = x.R.getD i noRr := ⟨_, rfl⟩
 have HR : Hid (x.rep i = r) := by show _ = _; rw [hr]; rfl
 have Hr : Hid (x.R.getD i noRr = r) := by show _ = _; rw [hr]
 clear hr
 have q0 : (0 : Int) ≤ (i : Int) := by omega
 have q1 : (i : Int) < (x.R.length : Int) := by omega
 have d0 := h1.c0
 have e0 : (w.alloc (.cells #[I6 3, I6 (f : Int), I6 (i : Int), I6 mb, I6 (k : Int), I6 mc, I6 mq, I6 mh, .string mx, .slice xa ma.length xc] 36)).cell? (A6 w.heap.size 0) = some (I6 3) := (blk_cell hb1 0).trans rfl
 have e1 : (w.alloc (.cells #[I6 3, I6 (f : Int), I6 (i : Int), I6 mb, I6 (k : Int), I6 mc, I6 mq, I6 mh, .string mx, .slice xa ma.length xc] 36)).cell? (A6 w.heap.size 1) = some (I6 (f : Int)) := (blk_cell hb1 1).trans rfl
 have e2 : (w.alloc (.cells #[I6 3, I6 (f : Int), I6 (i : Int), I6 mb, I6 (k : Int), I6 mc, I6 mq, I6 mh, .string mx, .slice xa ma.length xc] 36)).cell? (A6 w.heap.size 2) = some (I6 (i : Int)) := (blk_cell hb1 2).trans rfl
 have e3 : (w.alloc (.cells #[I6 3, I6 (f : Int), I6 (i : Int), I6 mb, I6 (k : Int), I6 mc, I6 mq, I6 mh, .string mx, .slice xa ma.length xc] 36)).cell? (A6 w.heap.size 3) = some (I6 mb) := (blk_cell hb1 3).trans rfl
 have e4 : (w.alloc (.cells #[I6 3, I6 (f : Int), I6 (i : Int), I6 mb, I6 (k : Int), I6 mc, I6 mq, I6 mh, .string mx, .slice xa ma.length xc] 36)).cell? (A6 w.heap.size 4) = some (I6 (k : Int)) := (blk_cell hb1 4).trans rfl
 go_enter Tryz.func73, Tryz.ntmps73
 go_wp2_with fail
 generalize w.alloc (.cells #[I6 3, I6 (f : Int), I6 (i : Int), I6 mb, I6 (k : Int), I6 mc, I6 mq, I6 mh, .string mx, .slice xa ma.length xc] 36) = w1 at *
 go_quiet (fail)
 have hBn : Below (w1).heap.size (w1) ((w1).drewN nq) := below_drewN (Below.refl _ _) nq
 have h2 := h1.below hBn
 have hBw' : Below w.heap.size w ((w1).drewN nq) := Below.trans hBw (hBn.mono hBw.size)
 have hb2 := blk_below hBn hb1
 generalize (w1).drewN nq = w2 at *
 clear hBn hBw
 have hBw := hBw'
 clear hBw'
 clear d0 e0 e1 e2 e3 e4 h1 hb1
 have d0 := h2.c0
 have e0 : w2.cell? (A6 w.heap.size 0) = some (I6 3) := (blk_cell hb2 0).trans rfl
 have e1 : w2.cell? (A6 w.heap.size 1) = some (I6 (f : Int)) := (blk_cell hb2 1).trans rfl
 have e2 : w2.cell? (A6 w.heap.size 2) = some (I6 (i : Int)) := (blk_cell hb2 2).trans rfl
 have e3 : w2.cell? (A6 w.heap.size 3) = some (I6 mb) := (blk_cell hb2 3).trans rfl
 have e4 : w2.cell? (A6 w.heap.size 4) = some (I6 (k : Int)) := (blk_cell hb2 4).trans rfl
 go_upto_region 3 with (fail)
 have hBa : Below w2.heap.size w2 (w2.alloc (.cells #[I6 0, I6 (i : Int), I6 (f : Int), I6 mb, I6 0, I6 0, I6 0, I6 0, .string ⟨#[]⟩, .slice none 0 0] 36)) := (Below.refl _ w2).alloc (Nat.le_refl _) _
 have hbk := blk_new w2 (.cells #[I6 0, I6 (i : Int), I6 (f : Int), I6 mb, I6 0, I6 0, I6 0, I6 0, .string ⟨#[]⟩, .slice none 0 0] 36)
 have h3 := h2.below hBa
 have hb3 := blk_below hBa hb2
 have hBw' := Below.trans hBw (hBa.mono hBw.size)
 have hnb : w.heap.size < w2.heap.size := lt_of_block hb2
 have hnq : ¬ qOwn qb Rb v w2.heap.size := fun ho => by have := h2.own_lt ho; omega
 generalize w2.alloc (.cells #[I6 0, I6 (i : Int), I6 (f : Int), I6 mb, I6 0, I6 0, I6 0, I6 0, .string ⟨#[]⟩, .slice none 0 0] 36) = w3 at *
 generalize w2.heap.size = nb at *
 clear hBa hBw d0 e0 e1 e2 e3 e4 h2 hb2
 have hBw := hBw'
 clear hBw'
 have hq := h3.reps.here hi
 rw [Hr.out] at hq
 have hrk := hq.rok hi
 have HC0 := h3.c0
 clear HC0
 have d0 := h3.c0
 have e0 : w3.cell? (A6 w.heap.size 0) = some (I6 3) := (blk_cell hb3 0).trans rfl
 have e1 : w3.cell? (A6 w.heap.size 1) = some (I6 (f : Int)) := (blk_cell hb3 1).trans rfl
 have e2 : w3.cell? (A6 w.heap.size 2) = some (I6 (i : Int)) := (blk_cell hb3 2).trans rfl
 have e3 : w3.cell? (A6 w.heap.size 3) = some (I6 mb) := (blk_cell hb3 3).trans rfl
 have e4 : w3.cell? (A6 w.heap.size 4) = some (I6 (k : Int)) := (blk_cell hb3 4).trans rfl
 have p0 : (0 : Int) ≤ (k : Int) := by omega
 have p1 : (k : Int) < 16 := by omega
 have c0 : w3.cell? (A6 Rb (i * 396)) = some (I6 r.pr) := hq.hc hi (o := 0) (by decide) rfl
 by_cases hlt : mb < r.pr
 ·have m0 : decide (mb < r.pr) = true := by simp; exact hlt
  have HX : Hid (x.comes i ⟨3, (f : Int), (i : Int), mb, (k : Int), ⟨mc, mq, mh, mx⟩, ma⟩ = x.send ⟨6, (i : Int), (f : Int), r.pr, 0, noPst, []⟩) := by
   show _ = _
   unfold Qs.comes
   rw [HR.out]
   simp [hlt]
   rfl
  clear hlt
  go_wp2_with fail
  go_quiet (fail)
  have hBn : Below (w3).heap.size (w3) ((w3).drewN nq) := below_drewN (Below.refl _ _) nq
  have h4 := h3.below hBn
  have hBw' : Below w.heap.size w ((w3).drewN nq) := Below.trans hBw (hBn.mono hBw.size)
  have hb4 := blk_below hBn hb3
  have g4 := hq.below hBn
  have hbk4 := blk_below hBn hbk
  generalize (w3).drewN nq = w4 at *
  clear hBn hBw
  have hBw := hBw'
  clear hBw'
  clear d0 e0 e1 e2 e3 e4 c0 m0 h3 hb3 hq hbk
  have hRn : ¬ Rb = nb := fun e => hnq (.inr (.inl e.symm))
  have b0 : w4.cell? (A6 nb 0) = some (I6 0) := (blk_cell hbk4 0).trans rfl
  have z0 := blk_free hbk4 0
  go_upto_region 8 with (fail)
  have hbk5 : (w4.setCell (A6 nb 0) (I6 6)).heap[nb]? = some (.cells #[I6 6, I6 (i : Int), I6 (f : Int), I6 mb, I6 0, I6 0, I6 0, I6 0, .string ⟨#[]⟩, .slice none 0 0] 36 (0, 0)) := blk_set hbk4 0 _
  have k5 := keeps_set w4 nb 0 (I6 6)
  have h5 := h4.apart k5 hnq hbk4
  have g5 := g4.keeps k5 hRn
  have hBw' := below_setNew hBw k5 (Nat.le_of_lt hnb)
  generalize w4.setCell (A6 nb 0) (I6 6) = w5 at *
  clear b0 z0 h4 hb4 hbk4 g4 k5
  have c0 : w5.cell? (A6 Rb (i * 396)) = some (I6 r.pr) := g5.hc hi (o := 0) (by decide) rfl
  have b3 : w5.cell? (A6 nb 3) = some (I6 mb) := (blk_cell hbk5 3).trans rfl
  have z3 := blk_free hbk5 3
  go_upto_region 9 with (fail)
  have hbk6 : (w5.setCell (A6 nb 3) (I6 r.pr)).heap[nb]? = some (.cells #[I6 6, I6 (i : Int), I6 (f : Int), I6 r.pr, I6 0, I6 0, I6 0, I6 0, .string ⟨#[]⟩, .slice none 0 0] 36 (0, 0)) := blk_set hbk5 3 _
  have k6 := keeps_set w5 nb 3 (I6 r.pr)
  have h6 := h5.apart k6 hnq hbk5
  have g6 := g5.keeps k6 hRn
  have hBw'' := below_setNew hBw' k6 (Nat.le_of_lt hnb)
  generalize w5.setCell (A6 nb 3) (I6 r.pr) = w6 at *
  clear b3 z3 c0 h5 hbk5 g5 k6
  have hSe := rsend_any h6 ⟨⟨6, (i : Int), (f : Int), r.pr, 0, noPst, []⟩, .slice none 0 0⟩ (Nm.okt_nil _ _ rfl)
  simp only [Nm.cells, noPst] at hSe
  have hbc := blk_cell hbk6
  go_wp2_with fail
  refine hSe.mono ?_
  rintro e w7 ⟨rfl, hQ7⟩
  clear hSe hbc
  go_wp2_with fail
  refine bodyPost_ret (results_none rfl _ _ _) rfl ?_
  refine ⟨rfl, ?_⟩
  rw [HX.out]
  exact QTo.after hBw'' hQ7
 ·have m0 : decide (mb < r.pr) = false := by simp; omega
  have HX : Hid (x.comes i ⟨3, (f : Int), (i : Int), mb, (k : Int), ⟨mc, mq, mh, mx⟩, ma⟩ = (x.put i (((r.yields mb).promise mb).setAt k ((((r.yields mb).promise mb).at k).accept mb ⟨mc, mq, mh, mx⟩))).send ⟨4, (i : Int), (f : Int), mb, (k : Int), noPst, []⟩) := by
   show _ = _
   unfold Qs.comes
   rw [HR.out]
   simp [hlt]
   rfl
  clear hlt
  go_wp2_with fail
  go_quiet (fail)
  have hBn : Below (w3).heap.size (w3) ((w3).drewN nq) := below_drewN (Below.refl _ _) nq
  have h4 := h3.below hBn
  have hBw' : Below w.heap.size w ((w3).drewN nq) := Below.trans hBw (hBn.mono hBw.size)
  have hb4 := blk_below hBn hb3
  have g4 := hq.below hBn
  have hbk4 := blk_below hBn hbk
  generalize (w3).drewN nq = w4 at *
  clear hBn hBw
  have hBw := hBw'
  clear hBw'
  clear d0 e0 e1 e2 e3 e4 c0 m0 h3 hb3 hq hbk
  have hRn : ¬ Rb = nb := fun e => hnq (.inr (.inl e.symm))
  have hHR : w.heap.size ≠ Rb := fun e => hno (.inr (.inl e))
  have hnR : nb ≠ Rb := fun e => hnq (.inr (.inl e))
  have e3 : w4.cell? (A6 w.heap.size 3) = some (I6 mb) := (blk_cell hb4 3).trans rfl
  have hY := yields_any h4.reps hi mb
  rw [Hr.out] at hY
  go_wp2_with fail
  refine hY.mono ?_
  rintro e w5 ⟨rfl, g5, k5⟩
  clear hY e3 g4
  have hb5 := blk_keeps k5 hb4 hHR
  have e3 : w5.cell? (A6 w.heap.size 3) = some (I6 mb) := (blk_cell hb5 3).trans rfl
  have c0 : w5.cell? (A6 Rb (i * 396)) = some (I6 (r.yields mb).pr) := g5.hc hi (o := 0) (by decide) rfl
  have z0 := g5.fz (i * 396)
  go_upto_region 12 with (fail)
  have g6 := g5.hd hi (v := I6 mb) ((r.yields mb).promise mb) (o := 0) (by decide) rfl rfl rfl
  have k6 := keeps_set w5 Rb (i * 396 + 0) (I6 mb)
  simp only [Nat.add_zero] at g6 k6
  have k7 := k5.trans k6
  have hkw : Keeps (qOwn qb Rb v) w (w5.setCell (A6 Rb (i * 396)) (I6 mb)) := (Keeps.ofBelow hBw).trans (k7.mono (fun b _ e => .inr (.inl e)))
  have h6 := h4.turn2 k7 g6 (by rw [List.length_set])
  have hb6 := blk_keeps k7 hb4 hHR
  have hbk6 := blk_keeps k7 hbk4 hnR
  generalize w5.setCell (A6 Rb (i * 396)) (I6 mb) = w6 at *
  generalize (r.yields mb).promise mb = Q at *
  clear c0 z0 e3 k5 k6 k7 hb5 g5 hBw
  have hzl := (g6.rok hi).len
  have d0 := h6.c0
  have e0 : w6.cell? (A6 w.heap.size 0) = some (I6 3) := (blk_cell hb6 0).trans rfl
  have e1 : w6.cell? (A6 w.heap.size 1) = some (I6 (f : Int)) := (blk_cell hb6 1).trans rfl
  have e2 : w6.cell? (A6 w.heap.size 2) = some (I6 (i : Int)) := (blk_cell hb6 2).trans rfl
  have e3 : w6.cell? (A6 w.heap.size 3) = some (I6 mb) := (blk_cell hb6 3).trans rfl
  have e4 : w6.cell? (A6 w.heap.size 4) = some (I6 (k : Int)) := (blk_cell hb6 4).trans rfl
  have b0 : w6.cell? (A6 nb 0) = some (I6 0) := (blk_cell hbk6 0).trans rfl
  have z0 := blk_free hbk6 0
  go_upto_region 20 with (fail)
  have hbk7 : (w6.setCell (A6 nb 0) (I6 4)).heap[nb]? = some (.cells #[I6 4, I6 (i : Int), I6 (f : Int), I6 mb, I6 0, I6 0, I6 0, I6 0, .string ⟨#[]⟩, .slice none 0 0] 36 (0, 0)) := blk_set hbk6 0 _
  have k7 := keeps_set w6 nb 0 (I6 4)
  have h7 := h6.apart k7 hnq hbk6
  have g7 := g6.keeps k7 hRn
  have hb7 := blk_keeps k7 hb6 (Nat.ne_of_lt hnb)
  have hkw' := hkw.setNew k7 (Nat.le_of_lt hnb)
  generalize w6.setCell (A6 nb 0) (I6 4) = w7 at *
  clear hkw
  have hkw := hkw'
  clear hkw' k7 hbk6 h6 g6 hb6
  clear b0 z0 d0 e0 e1 e2 e3 e4
  have e4 : w7.cell? (A6 w.heap.size 4) = some (I6 (k : Int)) := (blk_cell hb7 4).trans rfl
  have b4 : w7.cell? (A6 nb 4) = some (I6 0) := (blk_cell hbk7 4).trans rfl
  have z4 := blk_free hbk7 4
  go_upto_region 21 with (fail)
  have hbk8 : (w7.setCell (A6 nb 4) (I6 (k : Int))).heap[nb]? = some (.cells #[I6 4, I6 (i : Int), I6 (f : Int), I6 mb, I6 (k : Int), I6 0, I6 0, I6 0, .string ⟨#[]⟩, .slice none 0 0] 36 (0, 0)) := blk_set hbk7 4 _
  have k8 := keeps_set w7 nb 4 (I6 (k : Int))
  have h8 := h7.apart k8 hnq hbk7
  have g8 := g7.keeps k8 hRn
  have hb8 := blk_keeps k8 hb7 (Nat.ne_of_lt hnb)
  have hkw' := hkw.setNew k8 (Nat.le_of_lt hnb)
  generalize w7.setCell (A6 nb 4) (I6 (k : Int)) = w8 at *
  clear hkw
  have hkw := hkw'
  clear hkw' k8 hbk7 h7 g7 hb7
  clear b4 z4 e4
  have gz := g8.open hi hk16
  have hyo := Rr.at_ok (g8.rok hi) k
  have HXq : Hid (x.comes i ⟨3, (f : Int), (i : Int), mb, (k : Int), ⟨mc, mq, mh, mx⟩, ma⟩ = (x.put i (Q.setAt k ((Q.at k).accept mb ⟨mc, mq, mh, mx⟩))).send ⟨4, (i : Int), (f : Int), mb, (k : Int), noPst, []⟩) := HX
  clear HX
  generalize Q.at k = Y at *
  have c0 : w8.drew.cell? (A6 Rb (i * 396 + 12 + k * 24)) = some (I6 Y.b) := gz.gc hi hzl hk16 (o := 0) (by decide) rfl
  have z0 : w8.drew.frozen? (A6 Rb (i * 396 + 12 + k * 24)) = false := gz.fz _
  have k9 : Keeps (fun b => b = Rb) w8 (w8.setCell (A6 Rb (i * 396 + 12 + k * 24)) (I6 mb)).drew := (keeps_set _ _ _ _).trans (Keeps.ofBelow (Below.drew (Below.refl _ _)))
  have hb9 := blk_keeps k9 hb8 hHR
  have g9 : RAt (w8.setCell (A6 Rb (i * 396 + 12 + k * 24)) (I6 mb)).drew Rb (x.R.set i (Q.setAt k ⟨mb, Y.v, Y.is, Y.fin, Y.has, Y.mine, Y.kept, Y.kb, Y.vo⟩)) := (gz.gs1 hi hzl hk16 (o := 0) (v := I6 mb) ⟨mb, Y.v, Y.is, Y.fin, Y.has, Y.mine, Y.kept, Y.kb, Y.vo⟩ (by decide) hyo rfl).below (Below.drew (Below.refl _ _))
  go_wp2_with fail
  refine wp_region_held_drew (S := fun w' => w'.heap[w.heap.size]? = some (.cells #[I6 3, I6 (f : Int), I6 (i : Int), I6 mb, I6 (k : Int), I6 mc, I6 mq, I6 mh, .string mx, .slice xa ma.length xc] 36 (0, 0))) (by kernel_rfl) (hb8) (fun hS => ?_)
  refine tk 0 rfl hS (v := ?_) (fun w' hw => ?_) ?_
  rotate_left 1
  ·have d9 := blk_cell hw; go_simp; all_goals with_reducible rfl
  try simp only [ly]
  refine tk 1 rfl hS (v := ?_) (fun w' hw => ?_) ?_
  rotate_left 1
  ·have d9 := blk_cell hw; go_simp; all_goals with_reducible rfl
  try simp only [ly]
  refine tk 2 rfl hS (v := ?_) (fun w' hw => ?_) ?_
  rotate_left 1
  ·have d9 := blk_cell hw; go_simp; all_goals with_reducible rfl
  try simp only [ly]
  refine tk 3 rfl hS (v := ?_) (fun w' hw => ?_) ?_
  rotate_left 1
  ·have d9 := blk_cell hw; go_simp; all_goals with_reducible rfl
  try simp only [ly]
  refine tk 4 rfl hS (v := ?_) (fun w' hw => ?_) ?_
  rotate_left 1
  ·have d9 := blk_cell hw; go_simp; all_goals with_reducible rfl
  try simp only [ly]
  refine tk 5 rfl hS (v := ?_) (fun w' hw => ?_) ?_
  rotate_left 1
  ·have d9 := blk_cell hw; go_simp; all_goals with_reducible rfl
  try simp only [ly]
  refine tk 6 rfl hS (v := ?_) (fun w' hw => ?_) ?_
  rotate_left 1
  ·have d9 := blk_cell hw; go_simp; all_goals with_reducible rfl
  try simp only [ly]
  refine tk 7 rfl hS (v := ?_) (fun w' hw => ?_) ?_
  rotate_left 1
  ·have d9 := blk_cell hw; go_simp; all_goals with_reducible rfl
  try simp only [ly]
  refine tk 8 rfl hS (v := ?_) (fun w' hw => ?_) ?_
  rotate_left 1
  ·have d9 := blk_cell hw; go_simp; all_goals with_reducible rfl
  try simp only [ly]
  refine r1 9 rfl (fun K hK => ?_)
  go_simp
  refine hK.out _ _ hb9 (fun hS => ?_)
  clear hK K
  try simp only [ly]
  refine dn ?_ _
  generalize (w8.setCell (A6 Rb (i * 396 + 12 + k * 24)) (I6 mb)).drew = w9 at *
  clear c0 z0 hS gz
  have hth : World.there w9.drew Rb (i * 396 + 12 + k * 24 + 1) 4 := g9.thereS hi hk16 (by decide)
  have hi4 : (Tryz.prog.info? 33).map (·.size) = some (#[I6 mc, I6 mq, I6 mh, .string mx] : Array Value).size := by kernel_rfl
  have h14 : (#[I6 mc, I6 mq, I6 mh, .string mx] : Array Value).all (·.oneCell') = true := by simp [Value.oneCell']
  have g10 : RAt (World.setCells w9.drew Rb (i * 396 + 12 + k * 24 + 1) (#[I6 mc, I6 mq, I6 mh, .string mx] : Array Value).toList) Rb (x.R.set i (Q.setAt k (Y.accept mb ⟨mc, mq, mh, mx⟩))) := (RAt.gs (w := w9.drew) (g9.below (Below.drew (Below.refl _ _))) hi hzl hk16 (o := 1) (vs := (#[I6 mc, I6 mq, I6 mh, .string mx] : Array Value).toList) (Y.accept mb ⟨mc, mq, mh, mx⟩) (by show 1 + 4 ≤ 24; decide) hyo rfl)
  have k10 : Keeps (fun b => b = Rb) w8 (World.setCells w9.drew Rb (i * 396 + 12 + k * 24 + 1) (#[I6 mc, I6 mq, I6 mh, .string mx] : Array Value).toList) := (k9.trans (Keeps.ofBelow (Below.drew (Below.refl _ _)))).trans (keeps_sets w9.drew Rb (i * 396 + 12 + k * 24 + 1) (#[I6 mc, I6 mq, I6 mh, .string mx] : Array Value).toList)
  have hb10 := blk_keeps k10 hb8 hHR
  have hbk10 := blk_keeps k10 hbk8 hnR
  go_wp2_with fail
  refine wp_region_held_drew (S := fun w' => w'.heap[w.heap.size]? = some (.cells #[I6 3, I6 (f : Int), I6 (i : Int), I6 mb, I6 (k : Int), I6 mc, I6 mq, I6 mh, .string mx, .slice xa ma.length xc] 36 (0, 0))) (by kernel_rfl) (hb9) (fun hS => ?_)
  refine tk 0 rfl hS (v := ?_) (fun w' hw => ?_) ?_
  rotate_left 1
  ·have d9 := blk_cell hw; go_simp; all_goals with_reducible rfl
  try simp only [ly]
  refine tk 1 rfl hS (v := ?_) (fun w' hw => ?_) ?_
  rotate_left 1
  ·have d9 := blk_cell hw; go_simp; all_goals with_reducible rfl
  try simp only [ly]
  refine tk 2 rfl hS (v := ?_) (fun w' hw => ?_) ?_
  rotate_left 1
  ·have d9 := blk_cell hw; go_simp; all_goals with_reducible rfl
  try simp only [ly]
  refine tk 3 rfl hS (v := ?_) (fun w' hw => ?_) ?_
  rotate_left 1
  ·have d9 := blk_cell hw; go_simp; all_goals with_reducible rfl
  try simp only [ly]
  refine tk 4 rfl hS (v := ?_) (fun w' hw => ?_) ?_
  rotate_left 1
  ·have d9 := blk_cell hw; go_simp; all_goals with_reducible rfl
  try simp only [ly]
  refine tk 5 rfl hS (v := ?_) (fun w' hw => ?_) ?_
  rotate_left 1
  ·have d9 := blk_cell hw; go_simp; all_goals with_reducible rfl
  try simp only [ly]
  refine tk 6 rfl hS (v := ?_) (fun w' hw => ?_) ?_
  rotate_left 1
  ·have d9 := blk_cell hw; go_simp; all_goals with_reducible rfl
  try simp only [ly]
  refine tk 7 rfl hS (v := ?_) (fun w' hw => ?_) ?_
  rotate_left 1
  ·have d9 := blk_cell hw; go_simp; all_goals with_reducible rfl
  try simp only [ly]
  refine tk 8 rfl hS (v := ?_) (fun w' hw => ?_) ?_
  rotate_left 1
  ·have d9 := blk_cell hw; go_simp; all_goals with_reducible rfl
  try simp only [ly]
  refine r1 9 rfl (fun K hK => ?_)
  rw [if_pos (by kernel_rfl)]
  refine wp_store_mid 33 (.tmp 109) (.tmp 105) rfl Rb (i * 396 + 12 + k * 24 + 1) #[I6 mc, I6 mq, I6 mh, .string mx] rfl rfl hth hi4 h14 ?_
  refine hK.out _ _ hb10 (fun hS => ?_)
  clear hK K
  try simp only [ly]
  refine dn ?_ _
  have hkw10 := hkw.trans (k10.mono (fun b _ e => .inr (.inl e)))
  have h10 := h8.turn2 k10 g10 (by simp only [List.length_set])
  generalize World.setCells w9.drew Rb (i * 396 + 12 + k * 24 + 1) (#[I6 mc, I6 mq, I6 mh, .string mx] : Array Value).toList = w10 at *
  have hSe := rsend_any h10 ⟨⟨4, (i : Int), (f : Int), mb, (k : Int), noPst, []⟩, .slice none 0 0⟩ (Nm.okt_nil _ _ rfl)
  simp only [Nm.cells, noPst] at hSe
  have hbc := blk_cell hbk10
  clear hS hth hi4 h14
  go_wp2_with fail
  refine hSe.mono ?_
  rintro e w11 ⟨rfl, hQ11⟩
  clear hSe hbc
  go_wp2_with fail
  go_end0
  refine ⟨rfl, ?_⟩
  rw [HXq.out]
  exact QTo.next (fun _ h => .inl h) hkw10 hQ11
end
end Go.Proofs.YtnnhnekfokbooaaGreatDoor
