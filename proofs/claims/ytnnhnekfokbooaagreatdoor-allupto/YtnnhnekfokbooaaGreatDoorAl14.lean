/- RnD, RnE -/
import Derived.Test.YtnnhnekfokbooaaGreatDoorAl13
set_option linter.unusedSimpArgs false
set_option linter.unusedVariables false
set_option maxRecDepth 100000
namespace Go.Proofs.YtnnhnekfokbooaaGreatDoor
section
open Go.RowKit
section
variable {w w' : World} {qb Rb : Nat} {v : Value} {x x' : Qs}
theorem QAt.c0 (h : QAt w qb Rb v x) : w.cell? (A6 qb 0) = some (.slice (some (A6 Rb 0)) x.R.length x.R.length) := (blk_cell h.syn 0).trans rfl
theorem QAt.c1 (h : QAt w qb Rb v x) : ∃ a c, v = .slice a x.net.length c ∧ w.cell? (A6 qb 1) = some (.slice a x.net.length c) := by
 obtain ⟨l, h1, h2, _⟩ := h.net
 have hll : l.length = x.net.length := by rw [← h1, List.length_map]
 obtain ⟨va, vc, hv, _⟩ := (owns_row h2).form
 refine ⟨va, vc, by rw [← hll]; exact hv, ?_⟩
 have := blk_cell h.syn 1
 rw [← hll, ← hv]
 exact this.trans rfl
theorem QAt.own_lt (h : QAt w qb Rb v x) {k : Nat} (hk : qOwn qb Rb v k) : k < w.heap.size := by
 rcases hk with rfl | rfl | hk
 ·exact lt_of_block h.syn
 ·exact lt_of_block h.reps.1
 ·obtain ⟨l, _, h2, _⟩ := h.net
  obtain ⟨cs, hc⟩ := owns_blk h2 hk
  exact lt_of_block hc
theorem ris_yes (h : QAt w qb Rb v x) {i : Nat} (hi : i < x.R.length) : Calls Tryz.prog 59 #[P6 qb, I6 (i : Int)] w fun e w' => e = .returned (.bool true) ∧ w' = w := by
 have d0 := h.c0
 have q0 : (0 : Int) ≤ (i : Int) := by omega
 have q1 : (i : Int) < (x.R.length : Int) := by omega
 have m0 : decide ((0 : Int) ≤ (i : Int)) = true := by simp
 have m1 : decide ((i : Int) < (x.R.length : Int)) = true := by simp; omega
 go_enter Tryz.func59, Tryz.ntmps59
 go_wp2_with fail
 go_ret
 exact ⟨rfl, rfl⟩
theorem ris_no (h : QAt w qb Rb v x) {i : Int} (hi : i < 0 ∨ (x.R.length : Int) ≤ i) : Calls Tryz.prog 59 #[P6 qb, I6 i] w fun e w' => e = .returned (.bool false) ∧ w' = w := by
 have d0 := h.c0
 by_cases h0 : i < 0
 ·have m0 : decide ((0 : Int) ≤ i) = false := by simp; omega
  have m1 : ¬ (0 : Int) ≤ i := by omega
  go_enter Tryz.func59, Tryz.ntmps59
  go_wp2_with fail
  go_ret
  exact ⟨rfl, rfl⟩
 ·have q0 : (0 : Int) ≤ i := by omega
  have q1 : ¬ i < (x.R.length : Int) := by omega
  have m0 : decide ((0 : Int) ≤ i) = true := by simp; omega
  have m1 : decide (i < (x.R.length : Int)) = false := by simp; omega
  go_enter Tryz.func59, Tryz.ntmps59
  go_wp2_with fail
  go_ret
  exact ⟨rfl, rfl⟩
theorem rsendTo_snoc (m : Ms) (f : Nat) : ∀ (l : List Nat) (t : Nat) (x : Qs), x.sendTo m f (l ++ [t]) = (x.sendTo m f l).send (m.to (f : Int) (t : Int))
 | [], t, x => rfl
 | u :: l, t, x => rsendTo_snoc m f l t _
theorem rsendTo_R' (m : Ms) (f : Nat) : ∀ (l : List Nat) (x : Qs), (x.sendTo m f l).R = x.R
 | [], x => rfl
 | t :: l, x => rsendTo_R' m f l (x.send _)
set_option maxHeartbeats 4000000 in
theorem rall_any (h : QAt w qb Rb v x) (y : Nm) (hy : y.okt w) (f : Nat) (hf : y.m.f = (f : Int)) : Calls Tryz.prog 64 #[P6 qb, .agg y.cells.toArray] w fun e w' => e = .returned (.tuple #[]) ∧ QTo w qb Rb v w' (x.all y.m f) := by
 obtain ⟨⟨mk, mf, mt, mb, ms, ⟨mc, mq, mh, mx⟩, ma⟩, xv⟩ := y
 obtain ⟨xa, xc, hxe, _⟩ := hy.1.1.form
 simp only at hf hxe
 subst hxe
 have hn7 := h.n1
 have Hmf : Hid (mf = (f : Int)) := hf
 clear hf
 simp only [Nm.cells]
 have hB1 : Below w.heap.size w (w.alloc (.cells #[I6 mk, I6 mf, I6 mt, I6 mb, I6 ms, I6 mc, I6 mq, I6 mh, .string mx, .slice xa ma.length xc] 36)) := (Below.refl _ w).alloc (Nat.le_refl _) _
 have hb1 := blk_new w (.cells #[I6 mk, I6 mf, I6 mt, I6 mb, I6 ms, I6 mc, I6 mq, I6 mh, .string mx, .slice xa ma.length xc] 36)
 have h1 := h.below hB1
 have hy1 := hy.keeps (Keeps.ofBelow (P := fun _ => False) hB1) (fun _ _ _ => id)
 have hno : ¬ qOwn qb Rb v w.heap.size := fun ho => by have := h.own_lt ho; omega
 have hk1 : Keeps (qOwn qb Rb v) w (w.alloc (.cells #[I6 mk, I6 mf, I6 mt, I6 mb, I6 ms, I6 mc, I6 mq, I6 mh, .string mx, .slice xa ma.length xc] 36)) := Keeps.ofBelow hB1
 go_enter Tryz.func64, Tryz.ntmps64
 go_wp2_with fail
 generalize w.alloc (.cells #[I6 mk, I6 mf, I6 mt, I6 mb, I6 ms, I6 mc, I6 mq, I6 mh, .string mx, .slice xa ma.length xc] 36) = w1 at *
 clear hB1
 go_loopw [4] (fun i wr => ∃ (q : Nat) (tt : Int) (v' : Value), q ≤ x.R.length ∧ i = I6 q ∧ QAt wr qb Rb v' (x.sendTo ⟨mk, mf, mt, mb, ms, ⟨mc, mq, mh, mx⟩, ma⟩ f (List.range q)) ∧ (∀ k, qOwn qb Rb v' k → qOwn qb Rb v k ∨ w.heap.size ≤ k) ∧ ¬ qOwn qb Rb v' w.heap.size ∧ Keeps (qOwn qb Rb v) w wr ∧ wr.heap[w.heap.size]? = some (.cells #[I6 mk, I6 mf, I6 tt, I6 mb, I6 ms, I6 mc, I6 mq, I6 mh, .string mx, .slice xa ma.length xc] 36 (0, 0))) (fun i _ => x.R.length - (intOf i).toNat)
 case atStart => exact ⟨0, mt, v, Nat.zero_le _, rfl, h1, fun _ h => .inl h, hno, hk1, hb1⟩
 case round =>
  clear hb1 h1 hk1
  obtain ⟨q, tt, v1, hq, rfl, hq1, o1, hno1, k1, hmb⟩ := hrel
  have hR1 : (x.sendTo ⟨mk, mf, mt, mb, ms, ⟨mc, mq, mh, mx⟩, ma⟩ f (List.range q)).R = x.R := rsendTo_R' _ _ _ _
  have d0 := hq1.c0
  rw [hR1] at d0
  by_cases hqn : q < x.R.length
  ·have q1 : (q : Int) < (x.R.length : Int) := by omega
   have c2 : wr.cell? (A6 w.heap.size 2) = some (I6 tt) := (blk_cell hmb 2).trans rfl
   have z2 := blk_free hmb 2
   go_upto_region 5 with (fail)
   have hset := blk_set hmb 2 (I6 (q : Int))
   have hkS : Keeps (fun k => k = w.heap.size) wr (wr.setCell (A6 w.heap.size 2) (I6 (q : Int))) := keeps_set _ _ _ _
   have hq2 : QAt (wr.setCell (A6 w.heap.size 2) (I6 (q : Int))) qb Rb v1 (x.sendTo ⟨mk, mf, mt, mb, ms, ⟨mc, mq, mh, mx⟩, ma⟩ f (List.range q)) := by
    obtain ⟨l, g1, g2, g3⟩ := hq1.net
    refine ⟨blk_keeps hkS hq1.syn (fun e => hno1 (.inl e.symm)), hq1.reps.keeps hkS (fun e => hno1 (.inr (.inl e.symm))), ⟨l, g1, owns_keeps g2 hkS (fun g hg e => hno1 (.inr (.inr (by rw [← e]; exact hg)))), fun y hy => (g3 y hy).keeps hkS (fun k cs hc e => ?_)⟩, hq1.n0, hq1.n1, hq1.full⟩
    rw [e, hmb] at hc; injection hc with e1; injection e1 with _ e1; simp at e1
   have hyq : Nm.okt (wr.setCell (A6 w.heap.size 2) (I6 (q : Int))) ⟨⟨mk, mf, (q : Int), mb, ms, ⟨mc, mq, mh, mx⟩, ma⟩, .slice xa ma.length xc⟩ := by
    have h9 : Nm.okt (wr.setCell (A6 w.heap.size 2) (I6 (q : Int))) ⟨⟨mk, mf, mt, mb, ms, ⟨mc, mq, mh, mx⟩, ma⟩, .slice xa ma.length xc⟩ := (hy.keeps k1 (fun k cs hc => h.vote hc)).keeps hkS (fun k cs hc e => by rw [e, hmb] at hc; injection hc with e1; injection e1 with _ e1; simp at e1)
    exact ⟨⟨h9.1.1, h9.1.2⟩, h9.2⟩
   have hk2 : Keeps (qOwn qb Rb v) w (wr.setCell (A6 w.heap.size 2) (I6 (q : Int))) := ⟨hkS.os.trans k1.os, hkS.tape.trans k1.tape, hkS.output.trans k1.output, Nat.le_trans k1.size hkS.size, fun k hk hn => by rw [hkS.block k (Nat.lt_of_lt_of_le hk k1.size) (by omega)]; exact k1.block k hk hn⟩
   have hset' : (wr.setCell (A6 w.heap.size 2) (I6 (q : Int))).heap[w.heap.size]? = some (.cells #[I6 mk, I6 mf, I6 (q : Int), I6 mb, I6 ms, I6 mc, I6 mq, I6 mh, .string mx, .slice xa ma.length xc] 36 (0, 0)) := hset
   generalize wr.setCell (A6 w.heap.size 2) (I6 (q : Int)) = w2 at *
   clear hset hkS hmb c2 z2 d0 k1 hq1
   have hbc := blk_cell hset'
   have hSe := rsend_any hq2 ⟨⟨mk, mf, (q : Int), mb, ms, ⟨mc, mq, mh, mx⟩, ma⟩, .slice xa ma.length xc⟩ hyq
   simp only [Nm.cells] at hSe
   go_wp2_with fail
   refine hSe.mono ?_
   rintro e w3 ⟨rfl, v3, hq3, o3, k3⟩
   clear hSe hbc
   have hlt := lt_of_block hset'
   have hno3 : ¬ qOwn qb Rb v3 w.heap.size := fun ho => by
    rcases o3 _ ho with h9 | h9
    ·exact hno1 h9
    ·omega
   have hmb3 := blk_keeps k3 hset' hno1
   have ho3 : ∀ k, qOwn qb Rb v3 k → qOwn qb Rb v k ∨ w.heap.size ≤ k := fun k hk => by
    rcases o3 k hk with h9 | h9
    ·exact o1 k h9
    ·exact .inr (Nat.le_trans hk2.size h9)
   have hk3 : Keeps (qOwn qb Rb v) w w3 := ⟨k3.os.trans hk2.os, k3.tape.trans hk2.tape, k3.output.trans hk2.output, Nat.le_trans hk2.size k3.size, fun k hk hn => by
    rw [k3.block k (Nat.lt_of_lt_of_le hk hk2.size) (fun h9 => by
     rcases o1 k h9 with h8 | h8
     ·exact hn h8
     ·omega)]
    exact hk2.block k hk hn⟩
   have hX : (x.sendTo ⟨mk, mf, mt, mb, ms, ⟨mc, mq, mh, mx⟩, ma⟩ f (List.range q)).send ⟨mk, mf, (q : Int), mb, ms, ⟨mc, mq, mh, mx⟩, ma⟩ = x.sendTo ⟨mk, mf, mt, mb, ms, ⟨mc, mq, mh, mx⟩, ma⟩ f (List.range (q + 1)) := by
    rw [List.range_succ, rsendTo_snoc]
    show _ = Qs.send _ ⟨mk, (f : Int), (q : Int), mb, ms, ⟨mc, mq, mh, mx⟩, ma⟩
    rw [Hmf.out]
   have hq3' : QAt w3 qb Rb v3 (x.sendTo ⟨mk, mf, mt, mb, ms, ⟨mc, mq, mh, mx⟩, ma⟩ f (List.range (q + 1))) := by rw [← hX]; exact hq3
   clear hq3 hX hq2 hyq hset' hk2 k3 o3 o1
   go_wp2_with fail
   go_roundw
   case rel => exact ⟨q + 1, (q : Int), v3, by omega, by go_num, hq3', ho3, hno3, hk3, hmb3⟩
   case measure => simp [intOf]; omega
  ·obtain rfl : q = x.R.length := by omega
   go_wp2_with fail
   go_end0
   exact ⟨rfl, v1, hq1, o1, k1⟩
end
end
section
open Go.RowKit
set_option maxHeartbeats 2000000 in
theorem yields_any {w : World} {Rb i : Nat} {R : List Rr} (h0 : RAt w Rb R) (hi : i < R.length) (b : Int) :
  Calls Tryz.prog 106 #[.pointer (some (A6 Rb (i * 396))), I6 b] w fun e w' => e = .returned (.tuple #[]) ∧ RAt w' Rb (R.set i ((R.getD i noRr).yields b)) ∧ Keeps (fun k => k = Rb) w w' := by
 have hI := idle_any h0 hi
 have hq := h0.here hi
 generalize R.getD i noRr = r at *
 have c2 := hq.hc hi (o := 2) (by decide) rfl
 have c3 := hq.hc hi (o := 3) (by decide) rfl
 by_cases hro : r.ro = 0
 ·have m0 : (r.ro != 0) = false := by simp [hro]
  have HY : Hid (r.yields b = ⟨r.pr, if r.sn < b then b else r.sn, r.ro, r.ba, r.nx, r.fr, r.sl⟩) := by
   show _ = _
   unfold Rr.yields
   have hn : ¬ (r.ro ≠ 0 ∧ r.ba < b) := fun h => h.1 hro
   simp only [if_neg hn]
  clear hI
  have k0 : Keeps (fun k => k = Rb) w w := Keeps.refl _ _
  clear hro
  go_enter Tryz.func106, Tryz.ntmps106
  go_upto_region 2 with (fail)
  clear c2 c3 m0
  have c1 := hq.hc hi (o := 1) (by decide) rfl
  have z1 := hq.fz (i * 396 + 1)
  by_cases hs : (r).sn < b
  ·have m1 : decide ((r).sn < b) = true := by simp; exact hs
   go_wp2_with fail
   go_end0
   have h2 := hq.hd hi (v := I6 b) ⟨(r).pr, b, (r).ro, (r).ba, (r).nx, (r).fr, (r).sl⟩ (o := 1) (by decide) rfl rfl rfl
   refine ⟨rfl, ?_, k0.trans (keeps_set w Rb (i * 396 + 1) (I6 b))⟩
   have e : (if (r).sn < b then b else (r).sn) = b := if_pos hs
   rw [HY.out, e]; exact h2
  ·have m1 : decide ((r).sn < b) = false := by simp; omega
   go_wp2_with fail
   go_end0
   refine ⟨rfl, ?_, k0⟩
   have e : (if (r).sn < b then b else (r).sn) = (r).sn := if_neg (by omega)
   rw [HY.out, e]; exact hq
 ·have m0 : (r.ro != 0) = true := by simp [hro]
  by_cases hb : r.ba < b
  ·have m2 : decide (r.ba < b) = true := by simp; exact hb
   have HY : Hid (r.yields b = ⟨r.idle.pr, if r.idle.sn < b then b else r.idle.sn, r.idle.ro, r.idle.ba, r.idle.nx, r.idle.fr, r.idle.sl⟩) := by
    show _ = _
    unfold Rr.yields
    simp only [if_pos (show r.ro ≠ 0 ∧ r.ba < b from ⟨hro, hb⟩)]
   clear hro
   go_enter Tryz.func106, Tryz.ntmps106
   go_wp2_with fail
   refine hI.mono ?_
   rintro e w1 ⟨rfl, hq1, k1⟩
   clear hI c2 c3 m0 m2 hq
   have hq := hq1
   clear hq1
   go_upto_region 2 with (fail)
   have c1 := hq.hc hi (o := 1) (by decide) rfl
   have z1 := hq.fz (i * 396 + 1)
   by_cases hs : (r.idle).sn < b
   ·have m1 : decide ((r.idle).sn < b) = true := by simp; exact hs
    go_wp2_with fail
    go_end0
    have h2 := hq.hd hi (v := I6 b) ⟨(r.idle).pr, b, (r.idle).ro, (r.idle).ba, (r.idle).nx, (r.idle).fr, (r.idle).sl⟩ (o := 1) (by decide) rfl rfl rfl
    refine ⟨rfl, ?_, k1.trans (keeps_set w1 Rb (i * 396 + 1) (I6 b))⟩
    have e : (if (r.idle).sn < b then b else (r.idle).sn) = b := if_pos hs
    rw [HY.out, e]; exact h2
   ·have m1 : decide ((r.idle).sn < b) = false := by simp; omega
    go_wp2_with fail
    go_end0
    refine ⟨rfl, ?_, k1⟩
    have e : (if (r.idle).sn < b then b else (r.idle).sn) = (r.idle).sn := if_neg (by omega)
    rw [HY.out, e]; exact hq
  ·have m2 : decide (r.ba < b) = false := by simp; omega
   have HY : Hid (r.yields b = ⟨r.pr, if r.sn < b then b else r.sn, r.ro, r.ba, r.nx, r.fr, r.sl⟩) := by
    show _ = _
    unfold Rr.yields
    have hn : ¬ (r.ro ≠ 0 ∧ r.ba < b) := fun h => hb h.2
    simp only [if_neg hn]
   clear hI
   have k0 : Keeps (fun k => k = Rb) w w := Keeps.refl _ _
   clear hro hb
   go_enter Tryz.func106, Tryz.ntmps106
   go_upto_region 2 with (fail)
   clear c2 c3 m0 m2
   have c1 := hq.hc hi (o := 1) (by decide) rfl
   have z1 := hq.fz (i * 396 + 1)
   by_cases hs : (r).sn < b
   ·have m1 : decide ((r).sn < b) = true := by simp; exact hs
    go_wp2_with fail
    go_end0
    have h2 := hq.hd hi (v := I6 b) ⟨(r).pr, b, (r).ro, (r).ba, (r).nx, (r).fr, (r).sl⟩ (o := 1) (by decide) rfl rfl rfl
    refine ⟨rfl, ?_, k0.trans (keeps_set w Rb (i * 396 + 1) (I6 b))⟩
    have e : (if (r).sn < b then b else (r).sn) = b := if_pos hs
    rw [HY.out, e]; exact h2
   ·have m1 : decide ((r).sn < b) = false := by simp; omega
    go_wp2_with fail
    go_end0
    refine ⟨rfl, ?_, k0⟩
    have e : (if (r).sn < b then b else (r).sn) = (r).sn := if_neg (by omega)
    rw [HY.out, e]; exact hq
theorem wrap_ok (a : Int) (h0 : -9223372036854775808 ≤ a) (h1 : a ≤ 9223372036854775807) : IntKind.i64.wrap a = a := by
 rw [IntKind.wrap_i64]; omega
theorem QTo.next {w w1 w2 : World} {qb Rb : Nat} {v v1 : Value} {x2 : Qs} (o1 : ∀ k, qOwn qb Rb v1 k → qOwn qb Rb v k ∨ w.heap.size ≤ k) (k1 : Keeps (qOwn qb Rb v) w w1) (b : QTo w1 qb Rb v1 w2 x2) : QTo w qb Rb v w2 x2 := by
 obtain ⟨v2, h2, o2, k2⟩ := b
 refine ⟨v2, h2, fun k hk => ?_, ?_⟩
 ·rcases o2 k hk with h | h
  ·exact o1 k h
  ·exact .inr (Nat.le_trans k1.size h)
 ·refine ⟨k2.os.trans k1.os, k2.tape.trans k1.tape, k2.output.trans k1.output, Nat.le_trans k1.size k2.size, fun k hk hno => ?_⟩
  rw [k2.block k (Nat.lt_of_lt_of_le hk k1.size) (fun ho => by rcases o1 k ho with h | h; exact hno h; omega)]
  exact k1.block k hk hno
theorem all_same {x : Qs} {m m' : Ms} {f : Nat} (h : ∀ t : Nat, m.to (f : Int) (t : Int) = m'.to (f : Int) (t : Int)) : x.all m f = x.all m' f := by
 unfold Qs.all
 generalize List.range x.R.length = l
 induction l generalizing x with
 | nil => rfl
 | cons t l ih =>
  show (x.send _).sendTo m f l = (x.send _).sendTo m' f l
  rw [h t]
  exact ih
set_option maxHeartbeats 4000000 in
theorem rcamp_any {w : World} {qb Rb : Nat} {v : Value} {x : Qs} (h : QAt w qb Rb v x) {i : Nat} (hi : i < x.R.length) (hp : 0 ≤ (x.rep i).pr ∧ (x.rep i).pr ≤ 8007 ∧ 0 ≤ (x.rep i).sn ∧ (x.rep i).sn ≤ 8007) :
  Calls Tryz.prog 36 #[P6 qb, I6 (i : Int)] w fun e w' => e = .returned (I6 (x.campE i)) ∧ QTo w qb Rb v w' (x.campaign i) := by
 have hIs := ris_yes h hi
 have hq := h.reps.here hi
 obtain ⟨a, c, hv, d1⟩ := h.c1
 have d0 := h.c0
 have h7 := h.n1
 have hfull := h.full
 have hR : x.rep i = x.R.getD i noRr := rfl
 rw [hR] at hp
 generalize hr : x.R.getD i noRr = r at *
 have HR : Hid (x.rep i = r) := hr
 clear hr hR
 have p0 : w.cell? (A6 Rb (i * 396)) = some (I6 r.pr) := hq.hc hi (o := 0) (by decide) rfl
 have p1 := hq.hc hi (o := 1) (by decide) rfl
 have q0 : (0 : Int) ≤ (i : Int) := by omega
 have q1 : (i : Int) < (x.R.length : Int) := by omega
 obtain ⟨hp0, hp1, hp2, hp3⟩ := hp
 go_enter Tryz.func36, Tryz.ntmps36
 go_wp2_with fail
 refine hIs.mono ?_
 rintro e w' ⟨rfl, hw'⟩
 have hw9 := hw'.symm
 subst hw9
 clear hIs hw'
 by_cases hlt : r.pr < r.sn
 ·have m0 : decide (r.pr < r.sn) = true := by simp; exact hlt
  have HT : Hid (r.top = r.sn) := by show _ = _; unfold Rr.top; rw [if_pos hlt]
  have e8 : (r.sn).tdiv 8 = r.sn / 8 := Int.tdiv_eq_ediv_of_nonneg (by omega)
  have v1 : IntKind.i64.wrap ((r.sn).tdiv 8) = r.sn / 8 := by rw [e8]; exact wrap_ok _ (by omega) (by omega)
  have v2 : IntKind.i64.wrap (r.sn / 8 + 1) = r.sn / 8 + 1 := wrap_ok _ (by omega) (by omega)
  have v3 : IntKind.i64.wrap (8 * (r.sn / 8 + 1)) = 8 * (r.sn / 8 + 1) := wrap_ok _ (by omega) (by omega)
  have v4 : IntKind.i64.wrap (8 * (r.sn / 8 + 1) + (i : Int)) = 8 * (r.sn / 8 + 1) + (i : Int) := wrap_ok _ (by omega) (by omega)
  have v5 : IntKind.i64.wrap ((x.net.length : Int) + (x.R.length : Int)) = (x.net.length : Int) + (x.R.length : Int) := wrap_ok _ (by omega) (by omega)
  clear e8
  by_cases hr1 : 1000 < r.sn / 8 + 1
  ·have m1 : decide (1000 < r.sn / 8 + 1) = true := by simp; omega
   have hE : x.campE i = 7 := by unfold Qs.campE; rw [HR.out, HT.out, if_pos hr1]
   have hX : x.campaign i = x := by unfold Qs.campaign; rw [hE]; rfl
   have HE : Hid (x.campE i = 7 ∧ x.campaign i = x) := ⟨hE, hX⟩
   clear hE hX
   go_wp2_with fail
   go_ret
   rw [HE.out.1, HE.out.2]
   exact ⟨rfl, QTo.refl h⟩
  ·have m1 : decide (1000 < r.sn / 8 + 1) = false := by simp; omega
   by_cases hr2 : 200 < (x.net.length : Int) + (x.R.length : Int)
   ·have m2 : decide (200 < (x.net.length : Int) + (x.R.length : Int)) = true := by simp; omega
    have hE : x.campE i = 6 := by unfold Qs.campE; rw [HR.out, HT.out, if_neg hr1, if_pos hr2]
    have hX : x.campaign i = x := by unfold Qs.campaign; rw [hE]; rfl
    have HE : Hid (x.campE i = 6 ∧ x.campaign i = x) := ⟨hE, hX⟩
    clear hE hX
    go_wp2_with fail
    go_quiet (fail)
    go_wp2_with fail
    go_ret
    rw [HE.out.1, HE.out.2]
    exact ⟨rfl, (QTo.refl h).below (below_drewN (Below.refl _ _) _)⟩
   ·have m2 : decide (200 < (x.net.length : Int) + (x.R.length : Int)) = false := by simp; omega
    have hE : x.campE i = 0 := by unfold Qs.campE; rw [HR.out, HT.out, if_neg hr1, if_neg hr2]
    have HX : Hid (x.campaign i = (x.put i (r.prep (8 * (r.sn / 8 + 1) + i))).all (msg 1 (8 * (r.sn / 8 + 1) + i) 0 noPst []) i) := by
     show _ = _
     unfold Qs.campaign
     rw [hE, if_pos rfl, HR.out, HT.out]
    have HE : Hid (x.campE i = 0) := hE
    clear hE
    go_wp2_with fail
    go_quiet (fail)
    go_upto_region 13 with (fail)
    have hBd : Below w.heap.size w (w.drewN nq) := below_drewN (Below.refl _ _) nq
    generalize w.drewN nq = wd at *
    have hd := h.below hBd
    have hqd := hq.below hBd
    clear p0 p1 d0 d1 v1 v2 v5 m1 m2
    have e0 : wd.cell? (A6 Rb (i * 396)) = some (I6 r.pr) := hqd.hc hi (o := 0) (by decide) rfl
    have z0 := hqd.fz (i * 396)
    go_upto_region 14 with (fail)
    generalize 8 * (r.sn / 8 + 1) + (i : Int) = B at *
    have g1 := hqd.hd hi (v := I6 B) ⟨B, r.sn, r.ro, r.ba, r.nx, r.fr, r.sl⟩ (o := 0) (by decide) rfl rfl rfl
    have k1 := keeps_set wd Rb (i * 396 + 0) (I6 B)
    simp only [Nat.add_zero] at g1 k1
    generalize wd.setCell (A6 Rb (i * 396)) (I6 B) = w1 at *
    clear e0 z0
    have hI := idle_any g1 (i := i) (by rw [List.length_set]; exact hi)
    rw [getD_set_self hi, List.set_set] at hI
    go_wp2_with fail
    refine hI.mono ?_
    rintro e w2 ⟨rfl, g2, k2⟩
    clear hI
    have c2 := g2.hc hi (o := 2) (by decide) rfl
    have z2 := g2.fz (i * 396 + 2)
    go_upto_region 16 with (fail)
    have g3 := g2.hd hi (v := I6 1) ⟨B, r.sn, 1, 0, 0, no7, r.sl.map Sl.clear⟩ (o := 2) (by decide) rfl rfl rfl
    have k3 := (k1.trans k2).trans (keeps_set w2 Rb (i * 396 + 2) (I6 1))
    generalize w2.setCell (A6 Rb (i * 396 + 2)) (I6 1) = w3 at *
    clear c2 z2 g1 g2 k1 k2
    have c0 : w3.cell? (A6 Rb (i * 396)) = some (I6 B) := g3.hc hi (o := 0) (by decide) rfl
    have c3 := g3.hc hi (o := 3) (by decide) rfl
    have z3 := g3.fz (i * 396 + 3)
    go_upto_region 17 with (fail)
    have g4 := g3.hd hi (v := I6 B) ⟨B, r.sn, 1, B, 0, no7, r.sl.map Sl.clear⟩ (o := 3) (by decide) rfl rfl rfl
    have k4 := k3.trans (keeps_set w3 Rb (i * 396 + 3) (I6 B))
    generalize w3.setCell (A6 Rb (i * 396 + 3)) (I6 B) = w4 at *
    clear c0 c3 z3 g3 k3
    have c3 := g4.hc hi (o := 3) (by decide) rfl
    have hT4 := hd.turn k4 g4 (by rw [List.length_set])
    obtain ⟨v4', hq4, o4, kk4⟩ := id hT4
    have hAl := rall_any hq4 ⟨⟨1, (i : Int), 0, B, 0, noPst, []⟩, .slice none 0 0⟩ (Nm.okt_nil _ _ rfl) i rfl
    simp only [Nm.cells, noPst] at hAl
    go_wp2_with fail
    refine hAl.mono ?_
    rintro e w5 ⟨rfl, hQ5⟩
    clear hAl c3
    go_wp2_with fail
    go_ret
    refine ⟨by rw [HE.out]; rfl, ?_⟩
    rw [HX.out, all_same (m := msg 1 B 0 noPst []) (m' := ⟨1, (i : Int), 0, B, 0, noPst, []⟩) (fun _ => rfl)]
    exact QTo.after hBd (QTo.next o4 kk4 hQ5)
 ·have m0 : decide (r.pr < r.sn) = false := by simp; omega
  have HT : Hid (r.top = r.pr) := by show _ = _; unfold Rr.top; rw [if_neg hlt]
  have e8 : (r.pr).tdiv 8 = r.pr / 8 := Int.tdiv_eq_ediv_of_nonneg (by omega)
  have v1 : IntKind.i64.wrap ((r.pr).tdiv 8) = r.pr / 8 := by rw [e8]; exact wrap_ok _ (by omega) (by omega)
  have v2 : IntKind.i64.wrap (r.pr / 8 + 1) = r.pr / 8 + 1 := wrap_ok _ (by omega) (by omega)
  have v3 : IntKind.i64.wrap (8 * (r.pr / 8 + 1)) = 8 * (r.pr / 8 + 1) := wrap_ok _ (by omega) (by omega)
  have v4 : IntKind.i64.wrap (8 * (r.pr / 8 + 1) + (i : Int)) = 8 * (r.pr / 8 + 1) + (i : Int) := wrap_ok _ (by omega) (by omega)
  have v5 : IntKind.i64.wrap ((x.net.length : Int) + (x.R.length : Int)) = (x.net.length : Int) + (x.R.length : Int) := wrap_ok _ (by omega) (by omega)
  clear e8
  by_cases hr1 : 1000 < r.pr / 8 + 1
  ·have m1 : decide (1000 < r.pr / 8 + 1) = true := by simp; omega
   have hE : x.campE i = 7 := by unfold Qs.campE; rw [HR.out, HT.out, if_pos hr1]
   have hX : x.campaign i = x := by unfold Qs.campaign; rw [hE]; rfl
   have HE : Hid (x.campE i = 7 ∧ x.campaign i = x) := ⟨hE, hX⟩
   clear hE hX
   go_wp2_with fail
   go_ret
   rw [HE.out.1, HE.out.2]
   exact ⟨rfl, QTo.refl h⟩
  ·have m1 : decide (1000 < r.pr / 8 + 1) = false := by simp; omega
   by_cases hr2 : 200 < (x.net.length : Int) + (x.R.length : Int)
   ·have m2 : decide (200 < (x.net.length : Int) + (x.R.length : Int)) = true := by simp; omega
    have hE : x.campE i = 6 := by unfold Qs.campE; rw [HR.out, HT.out, if_neg hr1, if_pos hr2]
    have hX : x.campaign i = x := by unfold Qs.campaign; rw [hE]; rfl
    have HE : Hid (x.campE i = 6 ∧ x.campaign i = x) := ⟨hE, hX⟩
    clear hE hX
    go_wp2_with fail
    go_quiet (fail)
    go_wp2_with fail
    go_ret
    rw [HE.out.1, HE.out.2]
    exact ⟨rfl, (QTo.refl h).below (below_drewN (Below.refl _ _) _)⟩
   ·have m2 : decide (200 < (x.net.length : Int) + (x.R.length : Int)) = false := by simp; omega
    have hE : x.campE i = 0 := by unfold Qs.campE; rw [HR.out, HT.out, if_neg hr1, if_neg hr2]
    have HX : Hid (x.campaign i = (x.put i (r.prep (8 * (r.pr / 8 + 1) + i))).all (msg 1 (8 * (r.pr / 8 + 1) + i) 0 noPst []) i) := by
     show _ = _
     unfold Qs.campaign
     rw [hE, if_pos rfl, HR.out, HT.out]
    have HE : Hid (x.campE i = 0) := hE
    clear hE
    go_wp2_with fail
    go_quiet (fail)
    go_upto_region 13 with (fail)
    have hBd : Below w.heap.size w (w.drewN nq) := below_drewN (Below.refl _ _) nq
    generalize w.drewN nq = wd at *
    have hd := h.below hBd
    have hqd := hq.below hBd
    clear p0 p1 d0 d1 v1 v2 v5 m1 m2
    have e0 : wd.cell? (A6 Rb (i * 396)) = some (I6 r.pr) := hqd.hc hi (o := 0) (by decide) rfl
    have z0 := hqd.fz (i * 396)
    go_upto_region 14 with (fail)
    generalize 8 * (r.pr / 8 + 1) + (i : Int) = B at *
    have g1 := hqd.hd hi (v := I6 B) ⟨B, r.sn, r.ro, r.ba, r.nx, r.fr, r.sl⟩ (o := 0) (by decide) rfl rfl rfl
    have k1 := keeps_set wd Rb (i * 396 + 0) (I6 B)
    simp only [Nat.add_zero] at g1 k1
    generalize wd.setCell (A6 Rb (i * 396)) (I6 B) = w1 at *
    clear e0 z0
    have hI := idle_any g1 (i := i) (by rw [List.length_set]; exact hi)
    rw [getD_set_self hi, List.set_set] at hI
    go_wp2_with fail
    refine hI.mono ?_
    rintro e w2 ⟨rfl, g2, k2⟩
    clear hI
    have c2 := g2.hc hi (o := 2) (by decide) rfl
    have z2 := g2.fz (i * 396 + 2)
    go_upto_region 16 with (fail)
    have g3 := g2.hd hi (v := I6 1) ⟨B, r.sn, 1, 0, 0, no7, r.sl.map Sl.clear⟩ (o := 2) (by decide) rfl rfl rfl
    have k3 := (k1.trans k2).trans (keeps_set w2 Rb (i * 396 + 2) (I6 1))
    generalize w2.setCell (A6 Rb (i * 396 + 2)) (I6 1) = w3 at *
    clear c2 z2 g1 g2 k1 k2
    have c0 : w3.cell? (A6 Rb (i * 396)) = some (I6 B) := g3.hc hi (o := 0) (by decide) rfl
    have c3 := g3.hc hi (o := 3) (by decide) rfl
    have z3 := g3.fz (i * 396 + 3)
    go_upto_region 17 with (fail)
    have g4 := g3.hd hi (v := I6 B) ⟨B, r.sn, 1, B, 0, no7, r.sl.map Sl.clear⟩ (o := 3) (by decide) rfl rfl rfl
    have k4 := k3.trans (keeps_set w3 Rb (i * 396 + 3) (I6 B))
    generalize w3.setCell (A6 Rb (i * 396 + 3)) (I6 B) = w4 at *
    clear c0 c3 z3 g3 k3
    have c3 := g4.hc hi (o := 3) (by decide) rfl
    have hT4 := hd.turn k4 g4 (by rw [List.length_set])
    obtain ⟨v4', hq4, o4, kk4⟩ := id hT4
    have hAl := rall_any hq4 ⟨⟨1, (i : Int), 0, B, 0, noPst, []⟩, .slice none 0 0⟩ (Nm.okt_nil _ _ rfl) i rfl
    simp only [Nm.cells, noPst] at hAl
    go_wp2_with fail
    refine hAl.mono ?_
    rintro e w5 ⟨rfl, hQ5⟩
    clear hAl c3
    go_wp2_with fail
    go_ret
    refine ⟨by rw [HE.out]; rfl, ?_⟩
    rw [HX.out, all_same (m := msg 1 B 0 noPst []) (m' := ⟨1, (i : Int), 0, B, 0, noPst, []⟩) (fun _ => rfl)]
    exact QTo.after hBd (QTo.next o4 kk4 hQ5)
end
end Go.Proofs.YtnnhnekfokbooaaGreatDoor
