/- The document's synod in memory; the walk of its send. The walks of the document's is, there, all, yields, Campaign. (Joined by merge.py.) -/
import Derived.Test.YtnnhnekfokbooaaGreatDoorVo19
import Derived.Test.YtnnhnekfokbooaaGreatDoorVo08
import Derived.BigQuiet
namespace Go.Proofs.YtnnhnekfokbooaaGreatDoor
open Go.RowKit
set_option linter.unusedSimpArgs false
set_option linter.unusedVariables false

set_option maxHeartbeats 4000000 in
set_option maxRecDepth 100000 in
theorem rsend_room (b H : Nat) (rv v : Value) (l : List Nm) (x : Nm) (w : World) (hb : w.heap[b]? = some (.cells #[rv, v] 74 (0, 0))) (hown : w.ownsRow H 36 10 v l.length (ncs l)) (hne : v.ownBlock ≠ some b)
  (hx : x.ok w) (hl : l.length < 200) (hH : H ≤ w.heap.size) :
  Calls Tryz.prog 92 #[.pointer (some ⟨b, 0, none⟩), .agg x.cells.toArray] w fun e w' => ∃ v', e = .returned (.tuple #[]) ∧ w'.heap[b]? = some (.cells #[rv, v'] 74 (0, 0)) ∧ w'.ownsRow H 36 10 v' (l.length + 1) (ncs (l ++ [x])) ∧ v'.ownBlock ≠ some b ∧ (∀ g, v'.ownBlock = some g → v.ownBlock = some g ∨ w.heap.size ≤ g) ∧
   Keeps (fun k => k = b ∨ v.ownBlock = some k) w w' := by
 obtain ⟨i0, hi, hz0, hz1, hz2⟩ := info_parts Tryz.infoMessage
 have hblt := lt_of_block hb
 have hc : w.cell? ⟨b, 1, none⟩ = some v := (blk_cell hb 1).trans rfl
 have hf : w.frozen? ⟨b, 1, none⟩ = false := blk_free hb 1
 have h1 := Nm.one hx
 obtain ⟨xa, xc, hxe, _⟩ := hx.1.form
 obtain ⟨va, vc, rfl⟩ : ∃ va vc, v = .slice va l.length vc := by
  rcases hown.2 with ⟨rfl, h0⟩ | ⟨g, cap, cur, rfl, _⟩
  ·exact ⟨none, 0, by rw [h0]⟩
  ·exact ⟨_, _, rfl⟩
 obtain ⟨⟨mk, mf, mt, mb, ms, ⟨mc, mq, mh, mx⟩, ma⟩, xv⟩ := x
 simp only [Nm.cells] at *
 subst hxe
 have hd : decide ((l.length : Int) < 200) = true := by simp; omega
 have hd2 : (l.length : Int) < 200 := by omega
 have hbb : l.length + 1 ≤ maxLen ∧ (l.length + 1) * 104 ≤ 140737488355328 := ⟨by unfold maxLen; omega, by omega⟩
 have hca : ∀ o, (w.alloc o).cell? ⟨b, 1, none⟩ = some (.slice va l.length vc) := fun o => by rw [World.cell?_alloc_lt _ _ _ hblt]; exact hc
 go_enter Tryz.func92, Tryz.ntmps92
 go_wp2_with fail
 go_region_law (refine step_append_lies _ rfl (.tmp 14) (.tmp 16) 50 rfl H 36 i0 _ 10 104 Tryz.underlying50 hi hz0 hz1 hz2 rfl (by decide) (.slice va l.length vc) l.length (ncs l) rfl (owns_alloc (owns_drew (owns_alloc hown _)) _) _ 1 1 [.int .i64 mk, .int .i64 mf, .int .i64 mt, .int .i64 mb, .int .i64 ms, .int .i64 mc, .int .i64 mq, .int .i64 mh, .string mx, .slice xa ma.length xc] rfl rfl (news_new _ _ (by simp) _ _) h1 (by decide) hbb.1 hbb.2 (by simp; omega) _ rfl ?_; intro g cap w2 hown2 hgr2 hat2 hlt2; have hb2 := blk_grown hgr2 (blk_alloc (blk_drew (blk_alloc hb _)) _) hne; have hc2 : w2.cell? ⟨b, 1, none⟩ = some (.slice va l.length vc) := (blk_cell hb2 1).trans rfl; have hf2 := blk_free hb2 1)
 all_goals
  go_wp2_with fail
  go_end0
  have hgb : (Value.slice (some ⟨g, 0, none⟩) (l.length + 1) cap).ownBlock ≠ some b := by
   intro e
   obtain rfl : g = b := by simpa [Value.ownBlock] using e
   rcases hat2 with h | h
   ·exact hne h
   ·simp at h; omega
  refine ⟨_, rfl, blk_set hb2 1 _, owns_set ?_ hgb _, hgb, ?_, ?_⟩
  ·rw [ncs_append]; simpa [ncs, Nm.cells] using hown2
  ·intro g' hg'
   obtain rfl : g = g' := by simpa [Value.ownBlock] using hg'
   rcases hat2 with h | h
   ·exact .inl h
   ·right; simp at h; omega
  ·have K1 := (Keeps.ofGrown hgr2).mono (Q := fun k => k = b ∨ (Value.slice va l.length vc).ownBlock = some k) (fun k _ h => Or.inr h)
   refine Keeps.trans (Keeps.ofBelow ?_) (Keeps.trans K1 (Keeps.ofSet (Or.inl (Or.inl rfl)) _))
   exact ((((Below.refl _ w).alloc (Nat.le_refl _) _).drew).alloc (by simp) _)
set_option maxHeartbeats 4000000 in
theorem rsend_full (b : Nat) (rv v : Value) (l : List Nm) (x : Nm) (w : World) (hb : w.heap[b]? = some (.cells #[rv, v] 74 (0, 0))) (hv : ∃ va vc, v = .slice va l.length vc) (hx : x.ok w) (hl : 200 ≤ l.length) (hl2 : l.length ≤ 1000) :
  Calls Tryz.prog 92 #[.pointer (some ⟨b, 0, none⟩), .agg x.cells.toArray] w fun e w' => e = .returned (.tuple #[]) ∧ Below w.heap.size w w' := by
 have hc : w.cell? ⟨b, 1, none⟩ = some v := (blk_cell hb 1).trans rfl
 have hblt : b < w.heap.size := lt_of_block hb
 obtain ⟨xa, xc, hxe, _⟩ := hx.1.form
 obtain ⟨va, vc, rfl⟩ := hv
 obtain ⟨⟨mk, mf, mt, mb, ms, ⟨mc, mq, mh, mx⟩, ma⟩, xv⟩ := x
 simp only [Nm.cells] at *
 subst hxe
 have hd : decide ((l.length : Int) < 200) = false := by simp; omega
 have hd2 : ¬ (l.length : Int) < 200 := by omega
 have hca : ∀ o, (w.alloc o).cell? ⟨b, 1, none⟩ = some (.slice va l.length vc) := fun o => by rw [World.cell?_alloc_lt _ _ _ hblt]; exact hc
 go_enter Tryz.func92, Tryz.ntmps92
 go_wp2_with fail
 go_end0
 exact ⟨rfl, (Below.refl _ w).alloc (Nat.le_refl _) _⟩

/-! The document's synod in memory: its block, the replicas' block, the net. -/
def qOwn (qb Rb : Nat) (v : Value) (k : Nat) : Prop := k = qb ∨ k = Rb ∨ v.ownBlock = some k
structure QAt (w : World) (qb Rb : Nat) (v : Value) (x : Qs) : Prop where
 syn : w.heap[qb]? = some (.cells #[.slice (some ⟨Rb, 0, none⟩) x.R.length x.R.length, v] 74 (0, 0))
 reps : RAt w Rb x.R
 net : ∃ l : List Nm, l.map (·.m) = x.net ∧ w.ownsRow 0 36 10 v l.length (ncs l) ∧ ∀ y ∈ l, y.okt w
 n0 : 1 ≤ x.R.length
 n1 : x.R.length ≤ 7
 full : x.net.length ≤ 200
def QTo (w : World) (qb Rb : Nat) (v : Value) (w' : World) (x' : Qs) : Prop :=
 ∃ v', QAt w' qb Rb v' x' ∧ (∀ k, qOwn qb Rb v' k → qOwn qb Rb v k ∨ w.heap.size ≤ k) ∧ Keeps (qOwn qb Rb v) w w'
section
variable {w w' : World} {qb Rb : Nat} {v : Value} {x x' : Qs}
theorem QAt.ne (h : QAt w qb Rb v x) : qb ≠ Rb := fun e => by
 have h1 := h.syn
 rw [e, h.reps.1] at h1; injection h1 with e1; injection e1 with _ e1; simp at e1
theorem QAt.vq (h : QAt w qb Rb v x) : v.ownBlock ≠ some qb := fun e => by
 obtain ⟨l, _, ho, _⟩ := h.net
 obtain ⟨cs, hc⟩ := owns_blk ho e
 rw [h.syn] at hc; injection hc with e1; injection e1 with _ e1; simp at e1
theorem QAt.vR (h : QAt w qb Rb v x) : v.ownBlock ≠ some Rb := fun e => by
 obtain ⟨l, _, ho, _⟩ := h.net
 obtain ⟨cs, hc⟩ := owns_blk ho e
 rw [h.reps.1] at hc; injection hc with e1; injection e1 with _ e1; simp at e1
theorem QAt.vote (h : QAt w qb Rb v x) {k : Nat} {cs : Array Value} (hc : w.heap[k]? = some (.cells cs 53 (0, 0))) : ¬ qOwn qb Rb v k := fun ho => by
 rcases ho with rfl | rfl | ho
 ·rw [h.syn] at hc; injection hc with e1; injection e1 with _ e1; simp at e1
 ·rw [h.reps.1] at hc; injection hc with e1; injection e1 with _ e1; simp at e1
 ·obtain ⟨l, _, hl, _⟩ := h.net
  obtain ⟨cs', hc'⟩ := owns_blk hl ho
  rw [hc'] at hc; injection hc with e1; injection e1 with _ e1; simp at e1
theorem QAt.below (h : QAt w qb Rb v x) (hB : Below w.heap.size w w') : QAt w' qb Rb v x := by
 obtain ⟨l, h1, h2, h3⟩ := h.net
 exact ⟨blk_below hB h.syn, h.reps.below hB, ⟨l, h1, owns_below h2 hB, fun y hy => (h3 y hy).keeps (Keeps.ofBelow (P := fun _ => False) hB) (fun _ _ _ => id)⟩, h.n0, h.n1, h.full⟩
theorem QTo.refl (h : QAt w qb Rb v x) : QTo w qb Rb v w x := ⟨v, h, fun _ h => .inl h, Keeps.refl _ _⟩
theorem QTo.trans {w1 w2 : World} {x1 x2 : Qs} (a : QTo w qb Rb v w1 x1) (b : ∀ v1, QAt w1 qb Rb v1 x1 → QTo w1 qb Rb v1 w2 x2) : QTo w qb Rb v w2 x2 := by
 obtain ⟨v1, h1, o1, k1⟩ := a
 obtain ⟨v2, h2, o2, k2⟩ := b v1 h1
 refine ⟨v2, h2, fun k hk => ?_, ?_⟩
 ·rcases o2 k hk with h | h
  ·exact o1 k h
  ·exact .inr (Nat.le_trans k1.size h)
 ·refine ⟨k2.os.trans k1.os, k2.tape.trans k1.tape, k2.output.trans k1.output, Nat.le_trans k1.size k2.size, fun k hk hno => ?_⟩
  rw [k2.block k (Nat.lt_of_lt_of_le hk k1.size) (fun ho => by rcases o1 k ho with h | h; exact hno h; omega)]
  exact k1.block k hk hno
theorem QTo.below {w1 w2 : World} (a : QTo w qb Rb v w1 x) (hB : Below w1.heap.size w1 w2) : QTo w qb Rb v w2 x := a.trans (fun v1 h1 => ⟨v1, h1.below hB, fun _ h => .inl h, Keeps.ofBelow hB⟩)
theorem QTo.after {w1 w2 : World} {x2 : Qs} (hB : Below w.heap.size w w1) (b : QTo w1 qb Rb v w2 x2) : QTo w qb Rb v w2 x2 := by
 obtain ⟨v', h', o', k'⟩ := b
 exact ⟨v', h', fun k hk => (o' k hk).imp id (fun h => Nat.le_trans hB.size h), Keeps.trans (Keeps.ofBelow hB) k'⟩
/-- The replicas are turned. -/
theorem QAt.turn (h : QAt w qb Rb v x) {R' : List Rr} (hk : Keeps (fun k => k = Rb) w w') (hR : RAt w' Rb R') (hl : R'.length = x.R.length) : QTo w qb Rb v w' ⟨R', x.net⟩ := by
 obtain ⟨l, h1, h2, h3⟩ := h.net
 refine ⟨v, ⟨by show _ = some (Obj.cells #[.slice (some ⟨Rb, 0, none⟩) R'.length R'.length, v] _ _); rw [hl]; exact blk_keeps hk h.syn h.ne, hR, ⟨l, h1, owns_keeps h2 hk (fun g hg e => h.vR (by rw [← e]; exact hg)), fun y hy => (h3 y hy).keeps hk (fun k cs hc e => h.vote hc (.inr (.inl e)))⟩, by show 1 ≤ R'.length; rw [hl]; exact h.n0, by show R'.length ≤ 7; rw [hl]; exact h.n1, h.full⟩, fun _ h => .inl h, hk.mono (fun k _ e => .inr (.inl e))⟩
theorem rsend_any (h : QAt w qb Rb v x) (y : Nm) (hy : y.okt w) : Calls Tryz.prog 92 #[.pointer (some ⟨qb, 0, none⟩), .agg y.cells.toArray] w fun e w' => e = .returned (.tuple #[]) ∧ QTo w qb Rb v w' (x.send y.m) := by
 obtain ⟨l, h1, h2, h3⟩ := h.net
 have hll : l.length = x.net.length := by rw [← h1, List.length_map]
 have hfull := h.full
 by_cases hr : l.length < 200
 ·refine (rsend_room qb 0 _ v l y w h.syn h2 h.vq hy.1 hr (Nat.zero_le _)).mono ?_
  rintro e w' ⟨v', he, g1, g2, g3, g4, g5⟩
  have hRn : ¬ (Rb = qb ∨ v.ownBlock = some Rb) := fun ho => by
   rcases ho with e | e
   ·exact h.ne e.symm
   ·exact h.vR e
  have hV : ∀ k cs, w.heap[k]? = some (.cells cs 53 (0, 0)) → ¬ (k = qb ∨ v.ownBlock = some k) := fun k cs hc ho => h.vote hc (by rcases ho with e | e; exact .inl e; exact .inr (.inr e))
  have e1 : (x.send y.m).net = x.net ++ [y.m] := by unfold Qs.send; simp only; rw [if_pos (by omega)]
  refine ⟨he, v', ⟨g1, h.reps.keeps g5 hRn, ⟨l ++ [y], by rw [e1, List.map_append, h1]; rfl, by rw [List.length_append]; exact g2, fun z hz => ?_⟩, h.n0, h.n1, by rw [e1, List.length_append]; simp; omega⟩, fun k hk => ?_, g5.mono (fun k _ hk => ?_)⟩
  ·rcases List.mem_append.1 hz with hz | hz
   ·exact (h3 z hz).keeps g5 hV
   ·rw [List.mem_singleton.1 hz]; exact hy.keeps g5 hV
  ·rcases hk with hk | hk | hk
   ·exact .inl (.inl hk)
   ·exact .inl (.inr (.inl hk))
   ·rcases g4 k hk with h9 | h9
    ·exact .inl (.inr (.inr h9))
    ·exact .inr h9
  ·rcases hk with hk | hk
   ·exact .inl hk
   ·exact .inr (.inr hk)
 ·have hvs : ∃ va vc, v = .slice va l.length vc := by
   rcases h2.2 with ⟨rfl, h0⟩ | ⟨g, cap, cur, rfl, _⟩
   ·exact ⟨none, 0, by rw [h0]⟩
   ·exact ⟨_, _, rfl⟩
  refine (rsend_full qb _ v l y w h.syn hvs hy.1 (by omega) (by omega)).mono ?_
  rintro e w' ⟨he, hB⟩
  have e1 : x.send y.m = x := by unfold Qs.send; rw [if_neg (by omega)]
  rw [e1]
  exact ⟨he, (QTo.refl h).below hB⟩
end
end Go.Proofs.YtnnhnekfokbooaaGreatDoor

namespace Go.Proofs.YtnnhnekfokbooaaGreatDoor
open Go.RowKit
set_option linter.unusedSimpArgs false
set_option linter.unusedVariables false

section
variable {w w' : World} {qb Rb : Nat} {v : Value} {x x' : Qs}
theorem QAt.c0 (h : QAt w qb Rb v x) : w.cell? ⟨qb, 0, none⟩ = some (.slice (some ⟨Rb, 0, none⟩) x.R.length x.R.length) := (blk_cell h.syn 0).trans rfl
theorem QAt.c1 (h : QAt w qb Rb v x) : ∃ a c, v = .slice a x.net.length c ∧ w.cell? ⟨qb, 1, none⟩ = some (.slice a x.net.length c) := by
 obtain ⟨l, h1, h2, _⟩ := h.net
 have hll : l.length = x.net.length := by rw [← h1, List.length_map]
 obtain ⟨va, vc, hv, _⟩ := (owns_row h2).form
 refine ⟨va, vc, by rw [← hll]; exact hv, ?_⟩
 have := blk_cell h.syn 1
 rw [← hll, ← hv]
 exact this.trans rfl
theorem QAt.own_lt (h : QAt w qb Rb v x) {k : Nat} (hk : qOwn qb Rb v k) : k < w.heap.size := by
 rcases hk with rfl | rfl | hk
 ·exact lt_of_block h.syn
 ·exact lt_of_block h.reps.1
 ·obtain ⟨l, _, h2, _⟩ := h.net
  obtain ⟨cs, hc⟩ := owns_blk h2 hk
  exact lt_of_block hc
theorem ris_yes (h : QAt w qb Rb v x) {i : Nat} (hi : i < x.R.length) : Calls Tryz.prog 59 #[.pointer (some ⟨qb, 0, none⟩), .int .i64 (i : Int)] w fun e w' => e = .returned (.bool true) ∧ w' = w := by
 have d0 := h.c0
 have q0 : (0 : Int) ≤ (i : Int) := by omega
 have q1 : (i : Int) < (x.R.length : Int) := by omega
 have m0 : decide ((0 : Int) ≤ (i : Int)) = true := by simp
 have m1 : decide ((i : Int) < (x.R.length : Int)) = true := by simp; omega
 go_enter Tryz.func59, Tryz.ntmps59
 go_wp2_with fail
 go_ret
 exact ⟨rfl, rfl⟩
theorem ris_no (h : QAt w qb Rb v x) {i : Int} (hi : i < 0 ∨ (x.R.length : Int) ≤ i) : Calls Tryz.prog 59 #[.pointer (some ⟨qb, 0, none⟩), .int .i64 i] w fun e w' => e = .returned (.bool false) ∧ w' = w := by
 have d0 := h.c0
 by_cases h0 : i < 0
 ·have m0 : decide ((0 : Int) ≤ i) = false := by simp; omega
  have m1 : ¬ (0 : Int) ≤ i := by omega
  go_enter Tryz.func59, Tryz.ntmps59
  go_wp2_with fail
  go_ret
  exact ⟨rfl, rfl⟩
 ·have q0 : (0 : Int) ≤ i := by omega
  have q1 : ¬ i < (x.R.length : Int) := by omega
  have m0 : decide ((0 : Int) ≤ i) = true := by simp; omega
  have m1 : decide (i < (x.R.length : Int)) = false := by simp; omega
  go_enter Tryz.func59, Tryz.ntmps59
  go_wp2_with fail
  go_ret
  exact ⟨rfl, rfl⟩
theorem rsendTo_snoc (m : Ms) (f : Nat) : ∀ (l : List Nat) (t : Nat) (x : Qs), x.sendTo m f (l ++ [t]) = (x.sendTo m f l).send (m.to (f : Int) (t : Int))
 | [], t, x => rfl
 | u :: l, t, x => rsendTo_snoc m f l t _
theorem rsendTo_R' (m : Ms) (f : Nat) : ∀ (l : List Nat) (x : Qs), (x.sendTo m f l).R = x.R
 | [], x => rfl
 | t :: l, x => rsendTo_R' m f l (x.send _)
set_option maxHeartbeats 4000000 in
set_option maxRecDepth 100000 in
theorem rall_any (h : QAt w qb Rb v x) (y : Nm) (hy : y.okt w) (f : Nat) (hf : y.m.f = (f : Int)) : Calls Tryz.prog 64 #[.pointer (some ⟨qb, 0, none⟩), .agg y.cells.toArray] w fun e w' => e = .returned (.tuple #[]) ∧ QTo w qb Rb v w' (x.all y.m f) := by
 obtain ⟨⟨mk, mf, mt, mb, ms, ⟨mc, mq, mh, mx⟩, ma⟩, xv⟩ := y
 obtain ⟨xa, xc, hxe, _⟩ := hy.1.1.form
 simp only at hf hxe
 subst hxe
 have hn7 := h.n1
 have Hmf : Hid (mf = (f : Int)) := hf
 clear hf
 simp only [Nm.cells]
 have hB1 : Below w.heap.size w (w.alloc (.cells #[.int .i64 mk, .int .i64 mf, .int .i64 mt, .int .i64 mb, .int .i64 ms, .int .i64 mc, .int .i64 mq, .int .i64 mh, .string mx, .slice xa ma.length xc] 36)) := (Below.refl _ w).alloc (Nat.le_refl _) _
 have hb1 := blk_new w (.cells #[.int .i64 mk, .int .i64 mf, .int .i64 mt, .int .i64 mb, .int .i64 ms, .int .i64 mc, .int .i64 mq, .int .i64 mh, .string mx, .slice xa ma.length xc] 36)
 have h1 := h.below hB1
 have hy1 := hy.keeps (Keeps.ofBelow (P := fun _ => False) hB1) (fun _ _ _ => id)
 have hno : ¬ qOwn qb Rb v w.heap.size := fun ho => by have := h.own_lt ho; omega
 have hk1 : Keeps (qOwn qb Rb v) w (w.alloc (.cells #[.int .i64 mk, .int .i64 mf, .int .i64 mt, .int .i64 mb, .int .i64 ms, .int .i64 mc, .int .i64 mq, .int .i64 mh, .string mx, .slice xa ma.length xc] 36)) := Keeps.ofBelow hB1
 go_enter Tryz.func64, Tryz.ntmps64
 go_wp2_with fail
 generalize w.alloc (.cells #[.int .i64 mk, .int .i64 mf, .int .i64 mt, .int .i64 mb, .int .i64 ms, .int .i64 mc, .int .i64 mq, .int .i64 mh, .string mx, .slice xa ma.length xc] 36) = w1 at *
 clear hB1
 go_loopw [4] (fun i wr => ∃ (q : Nat) (tt : Int) (v' : Value), q ≤ x.R.length ∧ i = .int .i64 q ∧ QAt wr qb Rb v' (x.sendTo ⟨mk, mf, mt, mb, ms, ⟨mc, mq, mh, mx⟩, ma⟩ f (List.range q)) ∧ (∀ k, qOwn qb Rb v' k → qOwn qb Rb v k ∨ w.heap.size ≤ k) ∧ ¬ qOwn qb Rb v' w.heap.size ∧ Keeps (qOwn qb Rb v) w wr ∧ wr.heap[w.heap.size]? = some (.cells #[.int .i64 mk, .int .i64 mf, .int .i64 tt, .int .i64 mb, .int .i64 ms, .int .i64 mc, .int .i64 mq, .int .i64 mh, .string mx, .slice xa ma.length xc] 36 (0, 0))) (fun i _ => x.R.length - (intOf i).toNat)
 case atStart => exact ⟨0, mt, v, Nat.zero_le _, rfl, h1, fun _ h => .inl h, hno, hk1, hb1⟩
 case round =>
  clear hb1 h1 hk1
  obtain ⟨q, tt, v1, hq, rfl, hq1, o1, hno1, k1, hmb⟩ := hrel
  have hR1 : (x.sendTo ⟨mk, mf, mt, mb, ms, ⟨mc, mq, mh, mx⟩, ma⟩ f (List.range q)).R = x.R := rsendTo_R' _ _ _ _
  have d0 := hq1.c0
  rw [hR1] at d0
  by_cases hqn : q < x.R.length
  ·have q1 : (q : Int) < (x.R.length : Int) := by omega
   have c2 : wr.cell? ⟨w.heap.size, 2, none⟩ = some (.int .i64 tt) := (blk_cell hmb 2).trans rfl
   have z2 := blk_free hmb 2
   go_upto_region 5 with (fail)
   have hset := blk_set hmb 2 (.int .i64 (q : Int))
   have hkS : Keeps (fun k => k = w.heap.size) wr (wr.setCell ⟨w.heap.size, 2, none⟩ (.int .i64 (q : Int))) := keeps_set _ _ _ _
   have hq2 : QAt (wr.setCell ⟨w.heap.size, 2, none⟩ (.int .i64 (q : Int))) qb Rb v1 (x.sendTo ⟨mk, mf, mt, mb, ms, ⟨mc, mq, mh, mx⟩, ma⟩ f (List.range q)) := by
    obtain ⟨l, g1, g2, g3⟩ := hq1.net
    refine ⟨blk_keeps hkS hq1.syn (fun e => hno1 (.inl e.symm)), hq1.reps.keeps hkS (fun e => hno1 (.inr (.inl e.symm))), ⟨l, g1, owns_keeps g2 hkS (fun g hg e => hno1 (.inr (.inr (by rw [← e]; exact hg)))), fun y hy => (g3 y hy).keeps hkS (fun k cs hc e => ?_)⟩, hq1.n0, hq1.n1, hq1.full⟩
    rw [e, hmb] at hc; injection hc with e1; injection e1 with _ e1; simp at e1
   have hyq : Nm.okt (wr.setCell ⟨w.heap.size, 2, none⟩ (.int .i64 (q : Int))) ⟨⟨mk, mf, (q : Int), mb, ms, ⟨mc, mq, mh, mx⟩, ma⟩, .slice xa ma.length xc⟩ := by
    have h9 : Nm.okt (wr.setCell ⟨w.heap.size, 2, none⟩ (.int .i64 (q : Int))) ⟨⟨mk, mf, mt, mb, ms, ⟨mc, mq, mh, mx⟩, ma⟩, .slice xa ma.length xc⟩ := (hy.keeps k1 (fun k cs hc => h.vote hc)).keeps hkS (fun k cs hc e => by rw [e, hmb] at hc; injection hc with e1; injection e1 with _ e1; simp at e1)
    exact ⟨⟨h9.1.1, h9.1.2⟩, h9.2⟩
   have hk2 : Keeps (qOwn qb Rb v) w (wr.setCell ⟨w.heap.size, 2, none⟩ (.int .i64 (q : Int))) := ⟨hkS.os.trans k1.os, hkS.tape.trans k1.tape, hkS.output.trans k1.output, Nat.le_trans k1.size hkS.size, fun k hk hn => by rw [hkS.block k (Nat.lt_of_lt_of_le hk k1.size) (by omega)]; exact k1.block k hk hn⟩
   have hset' : (wr.setCell ⟨w.heap.size, 2, none⟩ (.int .i64 (q : Int))).heap[w.heap.size]? = some (.cells #[.int .i64 mk, .int .i64 mf, .int .i64 (q : Int), .int .i64 mb, .int .i64 ms, .int .i64 mc, .int .i64 mq, .int .i64 mh, .string mx, .slice xa ma.length xc] 36 (0, 0)) := hset
   generalize wr.setCell ⟨w.heap.size, 2, none⟩ (.int .i64 (q : Int)) = w2 at *
   clear hset hkS hmb c2 z2 d0 k1 hq1
   have hbc := blk_cell hset'
   have hSe := rsend_any hq2 ⟨⟨mk, mf, (q : Int), mb, ms, ⟨mc, mq, mh, mx⟩, ma⟩, .slice xa ma.length xc⟩ hyq
   simp only [Nm.cells] at hSe
   go_wp2_with fail
   refine hSe.mono ?_
   rintro e w3 ⟨rfl, v3, hq3, o3, k3⟩
   clear hSe hbc
   have hlt := lt_of_block hset'
   have hno3 : ¬ qOwn qb Rb v3 w.heap.size := fun ho => by
    rcases o3 _ ho with h9 | h9
    ·exact hno1 h9
    ·omega
   have hmb3 := blk_keeps k3 hset' hno1
   have ho3 : ∀ k, qOwn qb Rb v3 k → qOwn qb Rb v k ∨ w.heap.size ≤ k := fun k hk => by
    rcases o3 k hk with h9 | h9
    ·exact o1 k h9
    ·exact .inr (Nat.le_trans hk2.size h9)
   have hk3 : Keeps (qOwn qb Rb v) w w3 := ⟨k3.os.trans hk2.os, k3.tape.trans hk2.tape, k3.output.trans hk2.output, Nat.le_trans hk2.size k3.size, fun k hk hn => by
    rw [k3.block k (Nat.lt_of_lt_of_le hk hk2.size) (fun h9 => by
     rcases o1 k h9 with h8 | h8
     ·exact hn h8
     ·omega)]
    exact hk2.block k hk hn⟩
   have hX : (x.sendTo ⟨mk, mf, mt, mb, ms, ⟨mc, mq, mh, mx⟩, ma⟩ f (List.range q)).send ⟨mk, mf, (q : Int), mb, ms, ⟨mc, mq, mh, mx⟩, ma⟩ = x.sendTo ⟨mk, mf, mt, mb, ms, ⟨mc, mq, mh, mx⟩, ma⟩ f (List.range (q + 1)) := by
    rw [List.range_succ, rsendTo_snoc]
    show _ = Qs.send _ ⟨mk, (f : Int), (q : Int), mb, ms, ⟨mc, mq, mh, mx⟩, ma⟩
    rw [Hmf.out]
   have hq3' : QAt w3 qb Rb v3 (x.sendTo ⟨mk, mf, mt, mb, ms, ⟨mc, mq, mh, mx⟩, ma⟩ f (List.range (q + 1))) := by rw [← hX]; exact hq3
   clear hq3 hX hq2 hyq hset' hk2 k3 o3 o1
   go_wp2_with fail
   go_roundw
   case rel => exact ⟨q + 1, (q : Int), v3, by omega, by go_num, hq3', ho3, hno3, hk3, hmb3⟩
   case measure => simp [intOf]; omega
  ·obtain rfl : q = x.R.length := by omega
   go_wp2_with fail
   go_end0
   exact ⟨rfl, v1, hq1, o1, k1⟩
end
end Go.Proofs.YtnnhnekfokbooaaGreatDoor
