/- RnT, LawF, OpA, RefH, LawG -/
import Derived.Test.YtnnhnekfokbooaaGreatDoorAl30
import Derived.Test.YtnnhnekfokbooaaGreatDoorAl25
import Derived.Test.YtnnhnekfokbooaaGreatDoorAl28
set_option linter.unusedSimpArgs false
set_option linter.unusedVariables false
set_option maxRecDepth 100000
namespace Go.Proofs.YtnnhnekfokbooaaGreatDoor
section
open Go.RowKit
theorem rcomes_any {w : World} {qb Rb : Nat} {v : Value} {x : Qs} (h : QAt w qb Rb v x) (y0 : Nm) (hy : y0.okt w) (hm : y0.m.ok x.R.length) :
  Calls Tryz.prog 73 #[P6 qb, .agg y0.cells.toArray] w fun e w' => e = .returned (.tuple #[]) ∧ QTo w qb Rb v w' (x.comes y0.m.t.toNat y0.m) := by
 have h7 := h.n1
 have hi : y0.m.t.toNat < x.R.length := by have := hm.t0; have := hm.t1; omega
 have ht : y0.m.t = (y0.m.t.toNat : Int) := by have := hm.t0; omega
 have hf : y0.m.f = (y0.m.f.toNat : Int) := by have := hm.f0; omega
 have hf7 : y0.m.f.toNat < 7 := by have := hm.f0; have := hm.f1; omega
 have hs : y0.m.s = (y0.m.s.toNat : Int) := by have := hm.s0; omega
 have hs16 : y0.m.s.toNat < 16 := by have := hm.s0; have := hm.s1; omega
 have k0 := hm.k0
 have k1 := hm.k1
 rcases (show y0.m.k = 1 ∨ y0.m.k = 2 ∨ y0.m.k = 3 ∨ y0.m.k = 4 ∨ y0.m.k = 5 ∨ y0.m.k = 6 from by omega) with hk | hk | hk | hk | hk | hk
 ·exact rcomes1 h y0 hy hi ht hf hf7 hk
 ·exact rcomes2 h y0 hy hi ht hf hf7 hk hm.sl
 ·exact rcomes3 h y0 hy hi ht hf hf7 hk hs hs16
 ·exact rcomes4 h y0 hy hi ht hf hf7 hk hs hs16
 ·exact rcomes5 h y0 hy hi ht hf hf7 hk hs hs16
 ·exact rcomes6 h y0 hy hi ht hf hf7 hk
section
variable {w : World} {qb Rb : Nat} {v : Value} {x : Qs}
set_option maxHeartbeats 4000000 in
theorem rdeliver_yes (h : QAt w qb Rb v x) {k : Nat} (hk : k < x.net.length) (hm : (x.net.getD k noMs).ok x.R.length) : Calls Tryz.prog 40 #[P6 qb, I6 (k : Int)] w fun e w' => e = .returned (I6 0) ∧ QTo w qb Rb v w' (x.deliver k) := by
 obtain ⟨l, h1, h2, h3⟩ := h.net
 have hll : l.length = x.net.length := by rw [← h1, List.length_map]
 have hTh := rthere_yes h hk
 rcases h2.2 with ⟨_, h0⟩ | ⟨g, cap, cur, hve, hbg, hg, hnc, hcm, hcs, htake⟩
 ·omega
 have hkl : k < l.length := by omega
 have hrow : ∀ j, j < 10 → w.cell? (A6 g (k * 10 + j)) = l[k].cells[j]? := fun j hj => by
  rw [blk_cell hg, ← Array.getElem?_toList]
  have e2 : cur.toList[k * 10 + j]? = (cur.toList.take (l.length * 10))[k * 10 + j]? := by rw [List.getElem?_take, if_pos (by omega)]
  rw [e2, htake]; exact ncs_at l k hkl j hj
 have hmem : l[k] ∈ l := List.getElem_mem hkl
 have hxk := h3 l[k] hmem
 have hxm : l[k].m = x.net.getD k noMs := by
  have : x.net[k]? = some l[k].m := by rw [← h1, List.getElem?_map, List.getElem?_eq_getElem hkl]; rfl
  rw [List.getD_eq_getElem?_getD, this]; rfl
 rw [← hxm] at hm
 generalize l[k] = y at *
 have HX : Hid (x.deliver k = (x.without k).comes y.m.t.toNat y.m) := by show _ = _; unfold Qs.deliver; rw [← hxm]
 clear hxm hmem
 have hb := h.syn
 have hRl : (x.without k).R.length = x.R.length := rfl
 have Hco : Hid (∀ W v1, QAt W qb Rb v1 (x.without k) → y.okt W → Calls Tryz.prog 73 #[P6 qb, .agg y.cells.toArray] W fun e w' => e = .returned (.tuple #[]) ∧ QTo W qb Rb v1 w' ((x.without k).comes y.m.t.toNat y.m)) := fun W v1 hW hyW => rcomes_any hW y hyW (by rw [hRl]; exact hm)
 clear hm hRl
 generalize (x.without k).comes y.m.t.toNat y.m = XX at *
 obtain ⟨⟨mk, mf, mt, mb, ms, ⟨mc, mq, mh, mx⟩, ma⟩, xv⟩ := y
 obtain ⟨xa, xc, hxe, _⟩ := hxk.1.1.form
 simp only at hxe
 subst hxe
 have c0 : w.cell? (A6 g (k * 10)) = some (I6 mk) := hrow 0 (by decide)
 have c1 : w.cell? (A6 g (k * 10 + 1)) = some (I6 mf) := hrow 1 (by decide)
 have c2 : w.cell? (A6 g (k * 10 + 2)) = some (I6 mt) := hrow 2 (by decide)
 have c3 : w.cell? (A6 g (k * 10 + 3)) = some (I6 mb) := hrow 3 (by decide)
 have c4 : w.cell? (A6 g (k * 10 + 4)) = some (I6 ms) := hrow 4 (by decide)
 have c5 : w.cell? (A6 g (k * 10 + 5)) = some (I6 mc) := hrow 5 (by decide)
 have c6 : w.cell? (A6 g (k * 10 + 6)) = some (I6 mq) := hrow 6 (by decide)
 have c7 : w.cell? (A6 g (k * 10 + 7)) = some (I6 mh) := hrow 7 (by decide)
 have c8 : w.cell? (A6 g (k * 10 + 8)) = some (.string mx) := hrow 8 (by decide)
 have c9 : w.cell? (A6 g (k * 10 + 9)) = some (.slice xa ma.length xc) := hrow 9 (by decide)
 have d1 : w.cell? (A6 qb 1) = some (.slice (some (A6 g 0)) l.length cap) := by rw [← hve]; exact (blk_cell hb 1).trans rfl
 have q0 : (0 : Int) ≤ (k : Int) := by omega
 have q1 : (k : Int) < (l.length : Int) := by omega
 have Hkx : Hid (k < x.net.length) := hk
 have hno : ¬ qOwn qb Rb v w.heap.size := fun ho => by have := h.own_lt ho; omega
 clear hrow hk hll h2 hg hcs htake hnc hcm h3 h1 hbg
 simp only [Nm.cells] at Hco
 go_enter Tryz.func40, Tryz.ntmps40
 go_wp2_with fail
 refine hTh.mono ?_
 rintro e w' ⟨rfl, hw'⟩
 have hw9 := hw'.symm
 subst hw9
 clear hTh hw'
 go_upto_region 5 with (fail)
 have hBa : Below w.heap.size w (w.alloc (.cells #[I6 mk, I6 mf, I6 mt, I6 mb, I6 ms, I6 mc, I6 mq, I6 mh, .string mx, .slice xa ma.length xc] 36)) := (Below.refl _ w).alloc (Nat.le_refl _) _
 have hbm := blk_new w (.cells #[I6 mk, I6 mf, I6 mt, I6 mb, I6 ms, I6 mc, I6 mq, I6 mh, .string mx, .slice xa ma.length xc] 36)
 have ha := h.below hBa
 have hya := hxk.keeps (Keeps.ofBelow (P := fun _ => False) hBa) (fun _ _ _ => id)
 generalize w.alloc (.cells #[I6 mk, I6 mf, I6 mt, I6 mb, I6 ms, I6 mc, I6 mq, I6 mh, .string mx, .slice xa ma.length xc] 36) = wa at *
 clear c0 c1 c2 c3 c4 c5 c6 c7 c8 c9 d1
 have hTk := rtake_any ha Hkx.out
 go_wp2_with fail
 refine hTk.mono ?_
 rintro e w2 ⟨rfl, v2, ht2, o2, k2⟩
 clear hTk
 have hbm2 := blk_keeps k2 hbm hno
 have hy2 := hya.keeps k2 (fun b cs hc => ha.vote hc)
 have hbc := blk_cell hbm2
 have hC := Hco.out w2 v2 ht2 hy2
 go_wp2_with fail
 refine hC.mono ?_
 rintro e w3 ⟨rfl, hQ3⟩
 clear hC hbc
 go_wp2_with fail
 go_ret
 refine ⟨rfl, ?_⟩
 rw [HX.out]
 exact QTo.after hBa (QTo.next o2 k2 hQ3)
theorem rdeliver_no (h : QAt w qb Rb v x) {k : Int} (hk : k < 0 ∨ (x.net.length : Int) ≤ k) : Calls Tryz.prog 40 #[P6 qb, I6 k] w fun e w' => e = .returned (I6 1) ∧ w' = w := by
 have hTh := rthere_no h hk
 go_enter Tryz.func40, Tryz.ntmps40
 go_wp2_with fail
 refine hTh.mono ?_
 rintro e w' ⟨rfl, rfl⟩
 clear hTh
 go_wp2_with fail
 go_ret
 exact ⟨rfl, rfl⟩
end
end
section
open Go.RowKit
def pt (b : Nat) : Value := P6 b
def Both (p : Pr) (code ref : FuncId) (args : Value → Array Value) : Prop :=
 ∃ (n : Int) (s1 : Sy) (x2 : Qs), s1.n = p.s.n ∧ Sim s1 x2 ∧ Rn s1 ∧
  (∀ W, SynAt W p.sb p.L p.s → Calls Tryz.prog code (args (pt p.sb)) W fun e w' => e = .returned (I6 n) ∧ SynTo W p.sb p.L w' s1) ∧
  (∀ W, QAt W p.qb p.Rb p.v p.x → Calls Tryz.prog ref (args (pt p.qb)) W fun e w' => e = .returned (I6 n) ∧ QTo W p.qb p.Rb p.v w' x2)
theorem rep_bounds {s : Sy} {x : Qs} (h : Sim s x) (hok : s.ok) {i : Nat} (hi : i < s.n) : 0 ≤ (x.rep i).pr ∧ (x.rep i).pr ≤ 8007 ∧ 0 ≤ (x.rep i).sn ∧ (x.rep i).sn ≤ 8007 := by
 have hr := h.rep i hi
 have ho := hok.repOk hi
 rw [hr.pr, hr.sn]
 exact ⟨ho.pr0, ho.pr1, ho.sn0, ho.sn1⟩
theorem nx_bounds {s : Sy} {x : Qs} (h : Sim s x) (hok : s.ok) {i : Nat} (hi : i < s.n) : 0 ≤ (x.rep i).nx ∧ (x.rep i).nx ≤ 16 := by
 have hr := (h.rep i hi).role
 have ho := (hok.repOk hi).rl
 cases hrl : (s.rep i).rl with
 | idle => rw [hrl] at hr; rw [hr.2.2.1]; decide
 | prep b t k => rw [hrl] at hr; rw [hr.2.2.1]; decide
 | lead b n ps =>
  rw [hrl] at hr ho
  rw [hr.2.2.1]
  have := ho.1
  omega
section
variable {w : World} {p : Pr}
theorem both_same (h : PAt w p) {code ref : FuncId} {args : Value → Array Value} (n : Int)
  (hc : ∀ W, SynAt W p.sb p.L p.s → Calls Tryz.prog code (args (pt p.sb)) W fun e w' => e = .returned (I6 n) ∧ SynTo W p.sb p.L w' p.s)
  (hr : ∀ W, QAt W p.qb p.Rb p.v p.x → Calls Tryz.prog ref (args (pt p.qb)) W fun e w' => e = .returned (I6 n) ∧ QTo W p.qb p.Rb p.v w' p.x) : Both p code ref args :=
 ⟨n, p.s, p.x, rfl, h.sim, h.run, hc, hr⟩
theorem one_of (a : Int) (n : Nat) : (a < 0 ∨ (n : Int) ≤ a) ∨ ∃ i : Nat, a = (i : Int) ∧ i < n := by
 by_cases h : 0 ≤ a
 ·obtain ⟨i, rfl⟩ := Int.eq_ofNat_of_zero_le h
  by_cases hi : i < n
  ·exact .inr ⟨i, rfl, hi⟩
  ·exact .inl (.inr (by omega))
 ·exact .inl (.inl (by omega))
theorem both_camp (h : PAt w p) (a : Int) : Both p 35 36 (fun v => #[v, I6 a]) := by
 rcases one_of a p.s.n with hn | ⟨i, rfl, hi⟩
 ·refine both_same h 1 (fun W hW => (campaign_no hW hn).mono ?_) (fun W hW => (rcamp_no hW (by rw [h.sim.n]; exact hn)).mono ?_)
  ·rintro e w' ⟨rfl, rfl⟩; exact ⟨rfl, SynTo.refl hW⟩
  ·rintro e w' ⟨rfl, rfl⟩; exact ⟨rfl, QTo.refl hW⟩
 ·have hok := h.syn.ok
  obtain ⟨h1, h2⟩ := h.run.mv hok (s' := p.s.campaign i) (fun ps => ⟨ps, .camp _ _ i hi⟩)
  refine ⟨p.s.campE i, p.s.campaign i, p.x.campaign i, h2, h.sim.campaign hok hi, h1, fun W hW => campaign_yes hW hi, fun W hW => ?_⟩
  have := rcamp_any hW (i := i) (by rw [h.sim.n]; exact hi) (rep_bounds h.sim hok hi)
  rw [h.sim.campE hi] at this
  exact this
theorem both_sub (h : PAt w p) (a : Int) (q : Pst) : Both p 37 38 (fun v => #[v, I6 a, .agg #[I6 q.c, I6 q.q, I6 q.h, .string q.t]]) := by
 rcases one_of a p.s.n with hn | ⟨i, rfl, hi⟩
 ·refine both_same h 1 (fun W hW => (submit_none hW q hn).mono ?_) (fun W hW => (rsub_no hW (by rw [h.sim.n]; exact hn) q).mono ?_)
  ·rintro e w' ⟨rfl, hB⟩; exact ⟨rfl, (SynTo.refl hW).below hB⟩
  ·rintro e w' ⟨rfl, hB⟩; exact ⟨rfl, (QTo.refl hW).below hB⟩
 ·have hok := h.syn.ok
  have hix : i < p.x.R.length := by rw [h.sim.n]; exact hi
  cases hq : rightPostB q
  ·refine both_same h 1 (fun W hW => (submit_wrong hW hi q hq).mono ?_) (fun W hW => (rsub_bad hW hix q hq).mono ?_)
   ·rintro e w' ⟨rfl, hB⟩; exact ⟨rfl, (SynTo.refl hW).below hB⟩
   ·rintro e w' ⟨rfl, hB⟩; exact ⟨rfl, (QTo.refl hW).below hB⟩
  ·obtain ⟨h1, h2⟩ := h.run.mv hok (s' := p.s.submit i q) (fun ps => ⟨_, .sub _ ps i q hi hq⟩)
   refine ⟨p.s.subE i q, p.s.submit i q, p.x.submit i q, h2, h.sim.submit hok hi hq, h1, fun W hW => submit_yes hW hi q hq (h.run.bal hok hi), fun W hW => ?_⟩
   have := rsub_any hW hix q hq (nx_bounds h.sim hok hi)
   rw [h.sim.subE hok hi hq] at this
   exact this
theorem both_dlv (h : PAt w p) (a : Int) : Both p 39 40 (fun v => #[v, I6 a]) := by
 rcases one_of a p.s.net.length with hn | ⟨k, rfl, hk⟩
 ·refine both_same h 1 (fun W hW => deliver_no hW hn) (fun W hW => (rdeliver_no hW (by rw [h.sim.net]; exact hn)).mono ?_)
  rintro e w' ⟨rfl, rfl⟩; exact ⟨rfl, QTo.refl hW⟩
 ·have hok := h.syn.ok
  obtain ⟨h1, h2⟩ := h.run.mv hok (s' := p.s.deliver k) (fun ps => ⟨ps, .dlv _ _ k hk⟩)
  refine ⟨0, p.s.deliver k, p.x.deliver k, h2, h.sim.deliver hok hk, h1, fun W hW => deliver_yes hW hk, fun W hW => rdeliver_yes hW (by rw [h.sim.net]; exact hk) ?_⟩
  rw [h.sim.net, h.sim.n, List.getD_eq_getElem?_getD, List.getElem?_eq_getElem hk]
  exact hok.net _ (List.getElem_mem hk)
theorem both_lose (h : PAt w p) (a : Int) : Both p 41 42 (fun v => #[v, I6 a]) := by
 rcases one_of a p.s.net.length with hn | ⟨k, rfl, hk⟩
 ·refine both_same h 1 (fun W hW => lose_no hW hn) (fun W hW => (rlose_no hW (by rw [h.sim.net]; exact hn)).mono ?_)
  rintro e w' ⟨rfl, rfl⟩; exact ⟨rfl, QTo.refl hW⟩
 ·have hok := h.syn.ok
  obtain ⟨h1, h2⟩ := h.run.mv hok (s' := p.s.without k) (fun ps => ⟨ps, .lose _ _ k hk⟩)
  exact ⟨0, p.s.without k, p.x.without k, h2, h.sim.without k, h1, fun W hW => lose_yes hW hk, fun W hW => rlose_yes hW (by rw [h.sim.net]; exact hk)⟩
theorem both_dbl (h : PAt w p) (a : Int) : Both p 43 44 (fun v => #[v, I6 a]) := by
 rcases one_of a p.s.net.length with hn | ⟨k, rfl, hk⟩
 ·refine both_same h 1 (fun W hW => (double_of (R := fun w' => w' = W) (mdouble_no hW hn)).mono ?_) (fun W hW => (rdouble_no hW (by rw [h.sim.net]; exact hn)).mono ?_)
  ·rintro e w' ⟨rfl, rfl⟩; exact ⟨rfl, SynTo.refl hW⟩
  ·rintro e w' ⟨rfl, rfl⟩; exact ⟨rfl, QTo.refl hW⟩
 ·have hok := h.syn.ok
  have hkx : k < p.x.net.length := by rw [h.sim.net]; exact hk
  by_cases hf : p.s.net.length < 200
  ·obtain ⟨h1, h2⟩ := h.run.mv hok (s' := p.s.double k) (fun ps => ⟨ps, .dbl _ _ k hk⟩)
   exact ⟨0, p.s.double k, p.x.double k, h2, h.sim.double k, h1, fun W hW => double_of (R := fun w' => SynTo W p.sb p.L w' (p.s.double k)) (mdouble_yes hW hk hf), fun W hW => rdouble_yes hW hkx (by rw [h.sim.net]; exact hf)⟩
  ·refine both_same h 6 (fun W hW => (double_of (R := fun w' => w' = W) (mdouble_full hW hk (by omega))).mono ?_) (fun W hW => (rdouble_full hW hkx (by rw [h.sim.net]; omega)).mono ?_)
   ·rintro e w' ⟨rfl, rfl⟩; exact ⟨rfl, SynTo.refl hW⟩
   ·rintro e w' ⟨rfl, rfl⟩; exact ⟨rfl, QTo.refl hW⟩
theorem both_crash (h : PAt w p) (a : Int) : Both p 45 46 (fun v => #[v, I6 a]) := by
 rcases one_of a p.s.n with hn | ⟨i, rfl, hi⟩
 ·refine both_same h 1 (fun W hW => (crash_no hW hn).mono ?_) (fun W hW => (rcrash_no hW (by rw [h.sim.n]; exact hn)).mono ?_)
  ·rintro e w' ⟨rfl, rfl⟩; exact ⟨rfl, SynTo.refl hW⟩
  ·rintro e w' ⟨rfl, rfl⟩; exact ⟨rfl, QTo.refl hW⟩
 ·have hok := h.syn.ok
  obtain ⟨h1, h2⟩ := h.run.mv hok (s' := p.s.crash i) (fun ps => ⟨ps, .crash _ _ i hi⟩)
  exact ⟨0, p.s.crash i, p.x.crash i, h2, h.sim.crash hok hi, h1, fun W hW => crash_yes hW hi, fun W hW => rcrash_any hW (by rw [h.sim.n]; exact hi)⟩
end
end
section
open Go.RowKit
structure Opd where
 k : Int
 n : Int
 a : Int
 b : Int
 s : ByteArray
 p : Pst
 m : Ms
 v : Value
def Opd.cells (o : Opd) : List Value := [I6 o.k, I6 o.n, I6 o.a, I6 o.b, .string o.s, I6 o.p.c, I6 o.p.q, I6 o.p.h, .string o.p.t,
 I6 o.m.k, I6 o.m.f, I6 o.m.t, I6 o.m.b, I6 o.m.s, I6 o.m.p.c, I6 o.m.p.q, I6 o.m.p.h, .string o.m.p.t, o.v]
def ocs : List Opd → List Value
 | [] => []
 | o :: l => o.cells ++ ocs l
theorem ocs_length (l : List Opd) : (ocs l).length = l.length * 19 := by
 induction l with
 | nil => rfl
 | cons o l ih => simp [ocs, ih, Opd.cells]; omega
theorem ocs_at : ∀ (l : List Opd) (k : Nat) (hk : k < l.length) (i : Nat) (_ : i < 19), (ocs l)[k * 19 + i]? = (l[k]).cells[i]?
 | [], k, hk, _, _ => by simp at hk
 | o :: l, 0, _, i, hi => by
  rw [ocs, Nat.zero_mul, Nat.zero_add, List.getElem?_append_left (by simpa [Opd.cells] using hi)]
  rfl
 | o :: l, k + 1, hk, i, hi => by
  have e : (k + 1) * 19 + i - o.cells.length = k * 19 + i := by simp [Opd.cells]; omega
  rw [ocs, List.getElem?_append_right (by simp [Opd.cells]; omega), e]
  exact ocs_at l k (by simpa using hk) i hi
def Opd.ok (w : World) (o : Opd) : Prop := VAt w o.v o.m.a ∧ (o.m.a.length + 1) * 56 ≤ 281474976710656 ∧ o.s.size ≤ 9223372036854775807 ∧ -9223372036854775808 ≤ o.n ∧ o.n ≤ 9223372036854775807
theorem Opd.ok.below {w w' : World} {o : Opd} (h : o.ok w) (hb : Below w.heap.size w w') : o.ok w' := ⟨h.1.below hb, h.2⟩
theorem Opd.ok.slice {w : World} {o : Opd} (h : o.ok w) : ∃ ao n cap, o.v = .slice ao n cap := by
 obtain ⟨ao, cap, e, _⟩ := h.1.form
 exact ⟨ao, _, cap, e⟩
theorem Opd.one {w : World} {o : Opd} (h : o.ok w) : ∀ u ∈ o.cells, u.oneCell' = true := by
 obtain ⟨ao, n, cap, e⟩ := h.slice
 intro u hu
 simp only [Opd.cells, e, List.mem_cons, List.not_mem_nil, or_false] at hu
 rcases hu with rfl | rfl | rfl | rfl | rfl | rfl | rfl | rfl | rfl | rfl | rfl | rfl | rfl | rfl | rfl | rfl | rfl | rfl | rfl <;> rfl
theorem ocs_one {w : World} : ∀ (l : List Opd), (∀ o ∈ l, o.ok w) → ∀ u ∈ ocs l, u.oneCell' = true
 | [], _, u, hu => by simp [ocs] at hu
 | o :: l, h, u, hu => by
  rw [ocs, List.mem_append] at hu
  rcases hu with hu | hu
  ·exact Opd.one (h o List.mem_cons_self) u hu
  ·exact ocs_one l (fun x hx => h x (List.mem_cons_of_mem _ hx)) u hu
structure SAt (w : World) (v : Value) (l : List Opd) : Prop where
 len : l.length * 192 ≤ 140737488351232
 each : ∀ o ∈ l, o.ok w
 form : ∃ ao cap, v = .slice ao l.length cap ∧ (l ≠ [] → ∃ g off, ao = some (A6 g off) ∧ g < w.heap.size ∧ ∀ j u, (ocs l)[j]? = some u → w.cell? (A6 g (off + j)) = some u)
theorem Tryz.infoOp : (Tryz.prog.info? 38).map (fun i => (i.zero, i.size, i.bytes)) = some (some (.agg #[I6 0, I6 0, I6 0, I6 0, .string ⟨#[]⟩, I6 0, I6 0, I6 0, .string ⟨#[]⟩, I6 0, I6 0, I6 0, I6 0, I6 0, I6 0, I6 0, I6 0, .string ⟨#[]⟩, .slice none 0 0]), 19, 192) := by kernel_rfl
section
variable {P : Program}
theorem run_append_zero (w : World) (t ty e : TypeId) (i : TypeInfo) (ht : P.underlying t = some (.slice e)) (hi : P.info? e = some i) (g n cap : Nat) (hle : n ≤ cap) (x : Option Addr) (c : Nat) :
  (Builtin.append_ #[t, t] ty #[.slice (some (A6 g 0)) n cap, .slice x 0 c]).run P w = .ok (.slice (some (A6 g 0)) n cap) w := by
 have hl : ∀ (y : Addr), (loadCells y 0).run P w = .ok #[] w := fun y => by simpa using run_loadCells_list (P := P) w y [] (by simp)
 cases x <;> simp [Builtin.append_, run_underlying ht, sizeOf, typeInfo, hi, Builtin.lenOf, Builtin.firstCells, hle, hl, storeCells]
theorem wpList_append_steps (n : Nat) (hn : 0 < n) (hn9 : n ≤ 5) {w : World} {ops : Array Oper} {rest : List Oper} {o : Oper} {a : Act} {Q : Exit → Act → World → Prop} (hgd : o.guard = none) (s x : Operand) (t : TypeId)
  (ho : o.op = .call { callee := .builtin .append, args := #[s, x], argTypes := #[t, t] })
  (base : Nat) (e : TypeId) (i : TypeInfo) (z : Value) (ht : P.underlying t = some (.slice e)) (hi : P.info? e = some i) (hz : i.zero = some z)
  (hsize : i.size = 19) (hby : i.bytes = 192) (hzs : z.cells.size = 19)
  (g1 cap1 : Nat) (hs : a.eval s = .slice (some (A6 g1 0)) n cap1) (xs : List Value) (hown : w.ownsRow base e 19 (.slice (some (A6 g1 0)) n cap1) n xs)
  (v : Value) (l : List Opd) (hx : a.eval x = v) (hv : SAt w v l) (hbase : base ≤ w.heap.size)
  (h : ∀ g cap w', w'.ownsRow base e 19 (.slice (some (A6 g 0)) (n + l.length) cap) (n + l.length) (xs ++ ocs l) → w.grownBy w' (some g1) → wpList P ops Q rest (a.put o.dst (.slice (some (A6 g 0)) (n + l.length) cap)) w') : wpList P ops Q (o :: rest) a w := by
 obtain ⟨ao, cap, rfl, hf⟩ := hv.form
 have hlen := hv.len
 by_cases hl : l = []
 ·subst hl
  refine wpList_plain hgd fun K hK => ?_
  have hcap : n ≤ cap1 := by rcases hown.2 with ⟨h1, _⟩ | ⟨g, c, cur, h1, _, _, h2, _⟩ <;> cases h1; exact h2
  have hrun := run_append_zero (P := P) w t o.type e i ht hi g1 n cap1 hcap ao cap
  unfold Oper.wp execOp
  simp only [ho, resolve, invoke, builtin, Sem.run_bind, Sem.run_pure, Result.andThen_ok, List.map_toArray, List.map_cons, List.map_nil, hs, hx, List.length_nil, hrun]
  exact hK _ _ (h g1 cap1 w (by simpa [ocs] using hown) ⟨rfl, rfl, rfl, Nat.le_refl _, fun _ _ _ => rfl⟩)
 ·obtain ⟨g, off, rfl, hg, hc⟩ := hf hl
  have hpos : 0 < l.length := List.length_pos_iff.2 hl
  refine wpList_append_lies w hgd s x t ho base e i z 19 192 ht hi hz hsize hby hzs (by decide) _ n xs hs hown (A6 g off) l.length cap (ocs l) hx (ocs_length l) (fun j u hj => by rw [Addr.add_mid]; exact hc j u hj) (ocs_one l hv.each) hpos (by unfold maxLen; omega) (by omega) hbase _ rfl ?_
  intro g' cap' w' k1 k2 _ _
  exact h g' cap' w' k1 k2
end
end
section
open Go.RowKit
theorem num_same (n : Int) (w : World) : Calls Tryz.prog 18 #[I6 n] w fun e w' => e = .returned (I6 n) ∧ w' = w := by
 go_enter Tryz.func18, Tryz.ntmps18
 go_wp2
 go_ret
 exact ⟨rfl, rfl⟩
set_option maxHeartbeats 4000000 in
theorem sameMessage_same (m : Ms) (va vb : Value) (w : World) (hva : VAt w va m.a) (hvb : VAt w vb m.a) :
  Calls Tryz.prog 23 #[.agg #[I6 m.k, I6 m.f, I6 m.t, I6 m.b, I6 m.s, I6 m.p.c, I6 m.p.q, I6 m.p.h, .string m.p.t, va],
    .agg #[I6 m.k, I6 m.f, I6 m.t, I6 m.b, I6 m.s, I6 m.p.c, I6 m.p.q, I6 m.p.h, .string m.p.t, vb]] w fun e w' =>
   e = .returned (.bool true) ∧ Below w.heap.size w w' := by
 obtain ⟨k, f, t, b, s, ⟨c, q, h, x⟩, l⟩ := m
 dsimp only at *
 obtain ⟨aa, ca, rfl, hfa⟩ := hva.form
 obtain ⟨ab, cb, rfl, hfb⟩ := hvb.form
 have hlen := hva.len
 clear hva hvb
 go_enter Tryz.func23, Tryz.ntmps23
 go_wp2
 go_loopw [5] (fun i wr => ∃ j : Nat, j ≤ l.length ∧ i = I6 j ∧ wr.heap[w.heap.size]? = some (.cells #[I6 k, I6 f, I6 t, I6 b, I6 s, I6 c, I6 q, I6 h, .string x, .slice aa l.length ca] 36 (0, 0))
   ∧ wr.heap[w.heap.size + 1]? = some (.cells #[I6 k, I6 f, I6 t, I6 b, I6 s, I6 c, I6 q, I6 h, .string x, .slice ab l.length cb] 36 (0, 0)) ∧ Below w.heap.size w wr) (fun i _ => l.length - (intOf i).toNat)
 case atStart =>
  refine ⟨0, Nat.zero_le _, rfl, blk_alloc (blk_new _ _) _, ?_, ((Below.refl _ w).alloc (Nat.le_refl _) _).alloc (by simp) _⟩
  have := blk_new (w.alloc (.cells #[I6 k, I6 f, I6 t, I6 b, I6 s, I6 c, I6 q, I6 h, .string x, .slice aa l.length ca] 36)) (.cells #[I6 k, I6 f, I6 t, I6 b, I6 s, I6 c, I6 q, I6 h, .string x, .slice ab l.length cb] 36)
  simp only [World.size_alloc] at this
  exact this
 case round =>
  obtain ⟨j, hj, rfl, hp1, hp2, hb⟩ := hrel
  have hd1 := blk_cell hp1
  have hd2 := blk_cell hp2
  by_cases hlt : j < l.length
  ·have hne : l ≠ [] := by intro e; subst e; simp at hlt
   obtain ⟨ga, oa, rfl, hga, hca⟩ := hfa hne
   obtain ⟨gb, ob, rfl, hgb, hcb⟩ := hfb hne
   have ca0 : wr.cell? (A6 ga (oa + j * 6)) = some (I6 l[j].s) := by
    rw [hb.cell (p := (A6 ga (oa + j * 6))) hga]; exact hca _ _ (vcells_at l j hlt 0 (by decide))
   have ca1 : wr.cell? (A6 ga (oa + j * 6 + 1)) = some (I6 l[j].b) := by
    rw [hb.cell (p := (A6 ga (oa + j * 6 + 1))) hga]; exact hca _ _ (vcells_at l j hlt 1 (by decide))
   have ca2 : wr.cell? (A6 ga (oa + j * 6 + 2)) = some (I6 l[j].p.c) := by
    rw [hb.cell (p := (A6 ga (oa + j * 6 + 2))) hga]; exact hca _ _ (vcells_at l j hlt 2 (by decide))
   have ca3 : wr.cell? (A6 ga (oa + j * 6 + 3)) = some (I6 l[j].p.q) := by
    rw [hb.cell (p := (A6 ga (oa + j * 6 + 3))) hga]; exact hca _ _ (vcells_at l j hlt 3 (by decide))
   have ca4 : wr.cell? (A6 ga (oa + j * 6 + 4)) = some (I6 l[j].p.h) := by
    rw [hb.cell (p := (A6 ga (oa + j * 6 + 4))) hga]; exact hca _ _ (vcells_at l j hlt 4 (by decide))
   have ca5 : wr.cell? (A6 ga (oa + j * 6 + 5)) = some (.string l[j].p.t) := by
    rw [hb.cell (p := (A6 ga (oa + j * 6 + 5))) hga]; exact hca _ _ (vcells_at l j hlt 5 (by decide))
   have cb0 : wr.cell? (A6 gb (ob + j * 6)) = some (I6 l[j].s) := by
    rw [hb.cell (p := (A6 gb (ob + j * 6))) hgb]; exact hcb _ _ (vcells_at l j hlt 0 (by decide))
   have cb1 : wr.cell? (A6 gb (ob + j * 6 + 1)) = some (I6 l[j].b) := by
    rw [hb.cell (p := (A6 gb (ob + j * 6 + 1))) hgb]; exact hcb _ _ (vcells_at l j hlt 1 (by decide))
   have cb2 : wr.cell? (A6 gb (ob + j * 6 + 2)) = some (I6 l[j].p.c) := by
    rw [hb.cell (p := (A6 gb (ob + j * 6 + 2))) hgb]; exact hcb _ _ (vcells_at l j hlt 2 (by decide))
   have cb3 : wr.cell? (A6 gb (ob + j * 6 + 3)) = some (I6 l[j].p.q) := by
    rw [hb.cell (p := (A6 gb (ob + j * 6 + 3))) hgb]; exact hcb _ _ (vcells_at l j hlt 3 (by decide))
   have cb4 : wr.cell? (A6 gb (ob + j * 6 + 4)) = some (I6 l[j].p.h) := by
    rw [hb.cell (p := (A6 gb (ob + j * 6 + 4))) hgb]; exact hcb _ _ (vcells_at l j hlt 4 (by decide))
   have cb5 : wr.cell? (A6 gb (ob + j * 6 + 5)) = some (.string l[j].p.t) := by
    rw [hb.cell (p := (A6 gb (ob + j * 6 + 5))) hgb]; exact hcb _ _ (vcells_at l j hlt 5 (by decide))
   clear hca hcb hfa hfb
   generalize l[j].s = vs at *
   generalize l[j].b = vb at *
   generalize l[j].p = vp at *
   obtain ⟨pc, pq, ph, pt⟩ := vp
   dsimp only at *
   go_wp2
   go_quiet (fail)
   go_wp2
   go_roundw
   case rel => exact ⟨j + 1, by omega, by go_num, hp1, hp2, below_drewN hb _⟩
   case measure => simp [intOf]; omega
  ·go_wp2
   go_ret
   exact ⟨rfl, hb⟩
end
section
open Go.RowKit
def codeF (k : Int) : FuncId := if k = 2 then 35 else if k = 5 then 39 else if k = 9 then 41 else if k = 10 then 43 else 45
def refF (k : Int) : FuncId := if k = 2 then 36 else if k = 5 then 40 else if k = 9 then 42 else if k = 10 then 44 else 46
theorem five_kinds {k : Int} (hk : k = 2 ∨ k = 5 ∨ k = 9 ∨ k = 10 ∨ k = 11) : (codeF k = 35 ∧ refF k = 36 ∧ (k == 2) = true) ∨ (codeF k = 39 ∧ refF k = 40 ∧ (k == 2) = false ∧ (k == 3) = false ∧ (k == 5) = true) ∨ (codeF k = 41 ∧ refF k = 42 ∧ (k == 2) = false ∧ (k == 3) = false ∧ (k == 5) = false ∧ (k == 9) = true) ∨ (codeF k = 43 ∧ refF k = 44 ∧ (k == 2) = false ∧ (k == 3) = false ∧ (k == 5) = false ∧ (k == 9) = false ∧ (k == 10) = true) ∨ (codeF k = 45 ∧ refF k = 46 ∧ (k == 2) = false ∧ (k == 3) = false ∧ (k == 5) = false ∧ (k == 9) = false ∧ (k == 10) = false ∧ (k == 11) = true) := by
 rcases hk with rfl | rfl | rfl | rfl | rfl
 ·exact .inl ⟨rfl, rfl, rfl⟩
 ·exact .inr (.inl ⟨rfl, rfl, rfl, rfl, rfl⟩)
 ·exact .inr (.inr (.inl ⟨rfl, rfl, rfl, rfl, rfl, rfl⟩))
 ·exact .inr (.inr (.inr (.inl ⟨rfl, rfl, rfl, rfl, rfl, rfl, rfl⟩)))
 ·exact .inr (.inr (.inr (.inr (⟨rfl, rfl, rfl, rfl, rfl, rfl, rfl, rfl⟩))))
set_option maxHeartbeats 4000000 in
theorem done_one {w : World} {p : Pr} (h : PAt w p) (o : Opd) (ho : ∃ ao n cap, o.v = .slice ao n cap) (hk : o.k = 2 ∨ o.k = 5 ∨ o.k = 9 ∨ o.k = 10 ∨ o.k = 11) (hb : Both p (codeF o.k) (refF o.k) (fun v => #[v, I6 o.a])) :
  Calls Tryz.prog 14 #[.agg #[P6 p.sb, P6 p.qb], .agg o.cells.toArray] w fun e w' => e = .returned (.bool true) ∧ PTo w p w' := by
 obtain ⟨n, s1, x2, hn, hsim, hrun, hC, hQ⟩ := hb
 obtain ⟨ok, on, oa, ob, os, ⟨pc, pq, ph, pt9⟩, ⟨mk, mf, mt, mb, ms, ⟨mc, mq, mh, mx⟩, ma⟩, v⟩ := o
 obtain ⟨va, vn, vc, hve⟩ := ho
 simp only at hve hk hC hQ
 subst hve
 simp only [pt] at hC hQ
 simp only [Opd.cells]
 have hB2 : Below w.heap.size w ((w.alloc (.cells #[P6 p.sb, P6 p.qb] 47)).alloc (.cells #[I6 ok, I6 on, I6 oa, I6 ob, .string os, I6 pc, I6 pq, I6 ph, .string pt9, I6 mk, I6 mf, I6 mt, I6 mb, I6 ms, I6 mc, I6 mq, I6 mh, .string mx, .slice va vn vc] 38)) := ((Below.refl _ w).alloc (Nat.le_refl _) _).alloc (by simp) _
 have h2 := h.below hB2
 have hbp : ((w.alloc (.cells #[P6 p.sb, P6 p.qb] 47)).alloc (.cells #[I6 ok, I6 on, I6 oa, I6 ob, .string os, I6 pc, I6 pq, I6 ph, .string pt9, I6 mk, I6 mf, I6 mt, I6 mb, I6 ms, I6 mc, I6 mq, I6 mh, .string mx, .slice va vn vc] 38)).heap[w.heap.size]? = some (.cells #[P6 p.sb, P6 p.qb] 47 (0, 0)) := blk_alloc (blk_new w (.cells #[P6 p.sb, P6 p.qb] 47)) _
 have hbo : ((w.alloc (.cells #[P6 p.sb, P6 p.qb] 47)).alloc (.cells #[I6 ok, I6 on, I6 oa, I6 ob, .string os, I6 pc, I6 pq, I6 ph, .string pt9, I6 mk, I6 mf, I6 mt, I6 mb, I6 ms, I6 mc, I6 mq, I6 mh, .string mx, .slice va vn vc] 38)).heap[w.heap.size + 1]? = some (.cells #[I6 ok, I6 on, I6 oa, I6 ob, .string os, I6 pc, I6 pq, I6 ph, .string pt9, I6 mk, I6 mf, I6 mt, I6 mb, I6 ms, I6 mc, I6 mq, I6 mh, .string mx, .slice va vn vc] 38 (0, 0)) := by
  have := blk_new (w.alloc (.cells #[P6 p.sb, P6 p.qb] 47)) (.cells #[I6 ok, I6 on, I6 oa, I6 ob, .string os, I6 pc, I6 pq, I6 ph, .string pt9, I6 mk, I6 mf, I6 mt, I6 mb, I6 ms, I6 mc, I6 mq, I6 mh, .string mx, .slice va vn vc] 38)
  rwa [World.size_alloc] at this
 have hbpc := blk_cell hbp
 have hboc := blk_cell hbo
 have hno1 : ¬ p.L.own p.sb s1.n w.heap.size := fun ho => by rw [hn] at ho; have := h.syn.own_lt ho; omega
 have hno2 : ¬ p.L.own p.sb s1.n (w.heap.size + 1) := fun ho => by rw [hn] at ho; have := h.syn.own_lt ho; omega
 rcases five_kinds hk with ⟨ec, er, m2⟩ | ⟨ec, er, m2, m3, m5⟩ | ⟨ec, er, m2, m3, m5, m9⟩ | ⟨ec, er, m2, m3, m5, m9, m10⟩ | ⟨ec, er, m2, m3, m5, m9, m10, m11⟩
 all_goals
  rw [ec] at hC
  rw [er] at hQ
  clear ec er
  go_enter Tryz.func14, Tryz.ntmps14
  go_wp2_with fail
  generalize ((w.alloc (.cells #[P6 p.sb, P6 p.qb] 47)).alloc (.cells #[I6 ok, I6 on, I6 oa, I6 ob, .string os, I6 pc, I6 pq, I6 ph, .string pt9, I6 mk, I6 mf, I6 mt, I6 mb, I6 ms, I6 mc, I6 mq, I6 mh, .string mx, .slice va vn vc] 38)) = w2 at *
  refine (hC _ h2.syn).mono ?_
  rintro e w3 ⟨rfl, hto⟩
  clear hC hbpc hboc
  have hbp3 := hto.blk hbp hno1
  have hbo3 := hto.blk hbo hno2
  have hbpc := blk_cell hbp3
  have hboc := blk_cell hbo3
  have hq3 := h2.ref1 hn hto
  go_wp2_with fail
  refine (hQ _ hq3).mono ?_
  rintro e w4 ⟨rfl, hqt⟩
  clear hQ hbpc hboc
  have hfin : PTo w p w4 := PTo.after hB2 (h2.step hn hto hqt hsim hrun)
  go_wp2_with fail
  refine (num_same n _).mono ?_
  rintro e w5 ⟨rfl, rfl⟩
  go_wp2_with fail
  go_ret
  exact ⟨by simp, hfin⟩
theorem done_camp {w : World} {p : Pr} (h : PAt w p) (o : Opd) (ho : ∃ ao n cap, o.v = .slice ao n cap) (hk : o.k = 2) (hb : Both p 35 36 (fun v => #[v, I6 o.a])) :
  Calls Tryz.prog 14 #[.agg #[P6 p.sb, P6 p.qb], .agg o.cells.toArray] w fun e w' => e = .returned (.bool true) ∧ PTo w p w' := done_one h o ho (.inl hk) (by rw [hk]; exact hb)
theorem done_dlv {w : World} {p : Pr} (h : PAt w p) (o : Opd) (ho : ∃ ao n cap, o.v = .slice ao n cap) (hk : o.k = 5) (hb : Both p 39 40 (fun v => #[v, I6 o.a])) :
  Calls Tryz.prog 14 #[.agg #[P6 p.sb, P6 p.qb], .agg o.cells.toArray] w fun e w' => e = .returned (.bool true) ∧ PTo w p w' := done_one h o ho (.inr (.inl hk)) (by rw [hk]; exact hb)
theorem done_lose {w : World} {p : Pr} (h : PAt w p) (o : Opd) (ho : ∃ ao n cap, o.v = .slice ao n cap) (hk : o.k = 9) (hb : Both p 41 42 (fun v => #[v, I6 o.a])) :
  Calls Tryz.prog 14 #[.agg #[P6 p.sb, P6 p.qb], .agg o.cells.toArray] w fun e w' => e = .returned (.bool true) ∧ PTo w p w' := done_one h o ho (.inr (.inr (.inl hk))) (by rw [hk]; exact hb)
theorem done_dbl {w : World} {p : Pr} (h : PAt w p) (o : Opd) (ho : ∃ ao n cap, o.v = .slice ao n cap) (hk : o.k = 10) (hb : Both p 43 44 (fun v => #[v, I6 o.a])) :
  Calls Tryz.prog 14 #[.agg #[P6 p.sb, P6 p.qb], .agg o.cells.toArray] w fun e w' => e = .returned (.bool true) ∧ PTo w p w' := done_one h o ho (.inr (.inr (.inr (.inl hk)))) (by rw [hk]; exact hb)
theorem done_crash {w : World} {p : Pr} (h : PAt w p) (o : Opd) (ho : ∃ ao n cap, o.v = .slice ao n cap) (hk : o.k = 11) (hb : Both p 45 46 (fun v => #[v, I6 o.a])) :
  Calls Tryz.prog 14 #[.agg #[P6 p.sb, P6 p.qb], .agg o.cells.toArray] w fun e w' => e = .returned (.bool true) ∧ PTo w p w' := done_one h o ho (.inr (.inr (.inr (.inr (hk))))) (by rw [hk]; exact hb)
set_option maxHeartbeats 4000000 in
theorem done_sub {w : World} {p : Pr} (h : PAt w p) (o : Opd) (ho : ∃ ao n cap, o.v = .slice ao n cap) (hk : o.k = 3) (hb : Both p 37 38 (fun v => #[v, I6 o.a, .agg #[I6 o.p.c, I6 o.p.q, I6 o.p.h, .string o.p.t]])) :
  Calls Tryz.prog 14 #[.agg #[P6 p.sb, P6 p.qb], .agg o.cells.toArray] w fun e w' => e = .returned (.bool true) ∧ PTo w p w' := by
 obtain ⟨n, s1, x2, hn, hsim, hrun, hC, hQ⟩ := hb
 obtain ⟨ok, on, oa, ob, os, ⟨pc, pq, ph, pt9⟩, ⟨mk, mf, mt, mb, ms, ⟨mc, mq, mh, mx⟩, ma⟩, v⟩ := o
 obtain ⟨va, vn, vc, hve⟩ := ho
 simp only at hve hk
 subst hve hk
 simp only [pt] at hC hQ
 simp only [Opd.cells]
 have hB2 : Below w.heap.size w ((w.alloc (.cells #[P6 p.sb, P6 p.qb] 47)).alloc (.cells #[I6 3, I6 on, I6 oa, I6 ob, .string os, I6 pc, I6 pq, I6 ph, .string pt9, I6 mk, I6 mf, I6 mt, I6 mb, I6 ms, I6 mc, I6 mq, I6 mh, .string mx, .slice va vn vc] 38)) := ((Below.refl _ w).alloc (Nat.le_refl _) _).alloc (by simp) _
 have h2 := h.below hB2
 have hbp : ((w.alloc (.cells #[P6 p.sb, P6 p.qb] 47)).alloc (.cells #[I6 3, I6 on, I6 oa, I6 ob, .string os, I6 pc, I6 pq, I6 ph, .string pt9, I6 mk, I6 mf, I6 mt, I6 mb, I6 ms, I6 mc, I6 mq, I6 mh, .string mx, .slice va vn vc] 38)).heap[w.heap.size]? = some (.cells #[P6 p.sb, P6 p.qb] 47 (0, 0)) := blk_alloc (blk_new w (.cells #[P6 p.sb, P6 p.qb] 47)) _
 have hbo : ((w.alloc (.cells #[P6 p.sb, P6 p.qb] 47)).alloc (.cells #[I6 3, I6 on, I6 oa, I6 ob, .string os, I6 pc, I6 pq, I6 ph, .string pt9, I6 mk, I6 mf, I6 mt, I6 mb, I6 ms, I6 mc, I6 mq, I6 mh, .string mx, .slice va vn vc] 38)).heap[w.heap.size + 1]? = some (.cells #[I6 3, I6 on, I6 oa, I6 ob, .string os, I6 pc, I6 pq, I6 ph, .string pt9, I6 mk, I6 mf, I6 mt, I6 mb, I6 ms, I6 mc, I6 mq, I6 mh, .string mx, .slice va vn vc] 38 (0, 0)) := by
  have := blk_new (w.alloc (.cells #[P6 p.sb, P6 p.qb] 47)) (.cells #[I6 3, I6 on, I6 oa, I6 ob, .string os, I6 pc, I6 pq, I6 ph, .string pt9, I6 mk, I6 mf, I6 mt, I6 mb, I6 ms, I6 mc, I6 mq, I6 mh, .string mx, .slice va vn vc] 38)
  rwa [World.size_alloc] at this
 have hbpc := blk_cell hbp
 have hboc := blk_cell hbo
 have hno1 : ¬ p.L.own p.sb s1.n w.heap.size := fun ho => by rw [hn] at ho; have := h.syn.own_lt ho; omega
 have hno2 : ¬ p.L.own p.sb s1.n (w.heap.size + 1) := fun ho => by rw [hn] at ho; have := h.syn.own_lt ho; omega
 go_enter Tryz.func14, Tryz.ntmps14
 go_wp2_with fail
 generalize ((w.alloc (.cells #[P6 p.sb, P6 p.qb] 47)).alloc (.cells #[I6 3, I6 on, I6 oa, I6 ob, .string os, I6 pc, I6 pq, I6 ph, .string pt9, I6 mk, I6 mf, I6 mt, I6 mb, I6 ms, I6 mc, I6 mq, I6 mh, .string mx, .slice va vn vc] 38)) = w2 at *
 refine (hC _ h2.syn).mono ?_
 rintro e w3 ⟨rfl, hto⟩
 clear hC hbpc hboc
 have hbp3 := hto.blk hbp hno1
 have hbo3 := hto.blk hbo hno2
 have hbpc := blk_cell hbp3
 have hboc := blk_cell hbo3
 have hq3 := h2.ref1 hn hto
 go_wp2_with fail
 refine (hQ _ hq3).mono ?_
 rintro e w4 ⟨rfl, hqt⟩
 clear hQ hbpc hboc
 have hfin : PTo w p w4 := PTo.after hB2 (h2.step hn hto hqt hsim hrun)
 go_wp2_with fail
 refine (num_same n _).mono ?_
 rintro e w5 ⟨rfl, rfl⟩
 go_wp2_with fail
 go_ret
 exact ⟨by simp, hfin⟩
end
end Go.Proofs.YtnnhnekfokbooaaGreatDoor
