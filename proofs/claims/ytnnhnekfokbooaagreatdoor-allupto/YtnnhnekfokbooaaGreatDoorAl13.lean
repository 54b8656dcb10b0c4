/- RnB, RnC -/
import Derived.Test.YtnnhnekfokbooaaGreatDoorAl12
set_option linter.unusedSimpArgs false
set_option linter.unusedVariables false
set_option maxRecDepth 100000
namespace Go.Proofs.YtnnhnekfokbooaaGreatDoor
section
open Go.RowKit
def Rr.idleTo (r : Rr) : Nat → Rr
 | 0 => ⟨r.pr, r.sn, 0, 0, 0, no7, r.sl⟩
 | k + 1 => (r.idleTo k).setAt k ((r.idleTo k).at k).clear
theorem idleTo_len (r : Rr) : ∀ k, (r.idleTo k).sl.length = r.sl.length
 | 0 => rfl
 | k + 1 => by show ((r.idleTo k).sl.set k _).length = _; rw [List.length_set]; exact idleTo_len r k
theorem idleTo_at (r : Rr) : ∀ k, k ≤ r.sl.length → ∀ q, (r.idleTo k).sl[q]? = if q < k then (r.sl[q]?).map Sl.clear else r.sl[q]?
 | 0, _, q => by rw [if_neg (by omega)]; rfl
 | k + 1, hk, q => by
  show ((r.idleTo k).sl.set k ((r.idleTo k).at k).clear)[q]? = _
  have ih := idleTo_at r k (by omega)
  by_cases e : q = k
  ·subst e
   rw [List.getElem?_set_self (by rw [idleTo_len]; omega), if_pos (by omega)]
   unfold Rr.at
   rw [List.getD_eq_getElem?_getD, ih q, if_neg (by omega), List.getElem?_eq_getElem (by omega)]
   rfl
  ·rw [List.getElem?_set_ne (Ne.symm e), ih q]
   by_cases h1 : q < k
   ·rw [if_pos h1, if_pos (by omega)]
   ·rw [if_neg h1, if_neg (by omega)]
theorem idleTo_all {r : Rr} (h : r.sl.length = 16) : r.idleTo 16 = r.idle := by
 have e : (r.idleTo 16).sl = r.idle.sl := by
  apply List.ext_getElem?
  intro q
  rw [idleTo_at r 16 (by omega)]
  show _ = (r.sl.map Sl.clear)[q]?
  rw [List.getElem?_map]
  split
  ·rfl
  ·rw [List.getElem?_eq_none (by omega)]; rfl
 have e2 : ∀ k, (r.idleTo k).pr = r.pr ∧ (r.idleTo k).sn = r.sn ∧ (r.idleTo k).ro = 0 ∧ (r.idleTo k).ba = 0 ∧ (r.idleTo k).nx = 0 ∧ (r.idleTo k).fr = no7 := fun k => by
  induction k with
  | zero => exact ⟨rfl, rfl, rfl, rfl, rfl, rfl⟩
  | succ k ih => exact ih
 obtain ⟨a1, a2, a3, a4, a5, a6⟩ := e2 16
 generalize r.idleTo 16 = z at *
 obtain ⟨z1, z2, z3, z4, z5, z6, z7⟩ := z
 simp only at a1 a2 a3 a4 a5 a6 e
 subst a1 a2 a3 a4 a5 a6 e
 rfl
theorem clear_ok (y : Sl) : y.clear.ok := by
 show no7.length = 7
 rfl
theorem clear_cells {y : Sl} (h : y.ok) : y.clear.cells = splice (Sl.cells ⟨y.b, y.v, y.is, y.fin, false, false, noPst, 0, y.vo⟩) 17 (no7.map Value.bool) := by
 have h7 : y.vo.length = 7 := h
 have e : ∀ A B C : List Value, A.length = 17 → B.length = 7 → C.length = 7 → A ++ C = splice (A ++ B) 17 C := fun A B C hA hB hC => by
  have e17 : 17 = A.length + 0 := by omega
  rw [e17, splice_right]
  unfold splice
  simp [hB, hC]
 exact e ([I6 y.b] ++ y.v.cells ++ [.bool y.is] ++ y.fin.cells ++ [.bool false, .bool false] ++ noPst.cells ++ [I6 0]) (y.vo.map Value.bool) (no7.map Value.bool) rfl (by rw [List.length_map]; exact h7) rfl
set_option maxHeartbeats 1000000 in
theorem idle_any {w : World} {Rb i : Nat} {R : List Rr} (h0 : RAt w Rb R) (hi : i < R.length) :
  Calls Tryz.prog 63 #[.pointer (some (A6 Rb (i * 396)))] w fun e w' => e = .returned (.tuple #[]) ∧ RAt w' Rb (R.set i (R.getD i noRr).idle) ∧ Keeps (fun k => k = Rb) w w' := by
 have h := h0.here hi
 generalize R.getD i noRr = r at *
 have hrk := h.rok hi
 have hi7 : (Tryz.prog.info? 109).map (·.size) = some (no7.map Value.bool).toArray.size := by kernel_rfl
 have h17 : (no7.map Value.bool).toArray.all (·.oneCell') = true := by kernel_rfl
 have Hi4 : Hid ((Tryz.prog.info? 33).map (·.size) = some (#[I6 0, I6 0, I6 0, .string ⟨#[]⟩] : Array Value).size) := by show _ = _; kernel_rfl
 have H14 : Hid ((#[I6 0, I6 0, I6 0, .string ⟨#[]⟩] : Array Value).all (·.oneCell') = true) := by show _ = _; simp [Value.oneCell']
 have Hi7 : Hid ((Tryz.prog.info? 109).map (·.size) = some (no7.map Value.bool).toArray.size) := hi7
 have H17 : Hid ((no7.map Value.bool).toArray.all (·.oneCell') = true) := h17
 clear hi7 h17
 have c2 := h.hc hi (o := 2) (by decide) rfl
 have z2 := h.fz (i * 396 + 2)
 go_enter Tryz.func63, Tryz.ntmps63
 go_upto_region 1 with (fail)
 have h1 := h.hd hi (v := I6 0) ⟨r.pr, r.sn, 0, r.ba, r.nx, r.fr, r.sl⟩ (o := 2) (by decide) rfl rfl rfl
 have k1 := keeps_set w Rb (i * 396 + 2) (I6 0)
 generalize w.setCell (A6 Rb (i * 396 + 2)) (I6 0) = w1 at *
 clear c2 z2
 have c3 := h1.hc hi (o := 3) (by decide) rfl
 have z3 := h1.fz (i * 396 + 3)
 go_upto_region 2 with (fail)
 have h2 := h1.hd hi (v := I6 0) ⟨r.pr, r.sn, 0, 0, r.nx, r.fr, r.sl⟩ (o := 3) (by decide) rfl rfl rfl
 have k2 := k1.trans (keeps_set w1 Rb (i * 396 + 3) (I6 0))
 generalize w1.setCell (A6 Rb (i * 396 + 3)) (I6 0) = w2 at *
 clear c3 z3 h1 k1
 have c4 := h2.hc hi (o := 4) (by decide) rfl
 have z4 := h2.fz (i * 396 + 4)
 go_upto_region 3 with (fail)
 have h3 := h2.hd hi (v := I6 0) ⟨r.pr, r.sn, 0, 0, 0, r.fr, r.sl⟩ (o := 4) (by decide) rfl rfl rfl
 have k3 := k2.trans (keeps_set w2 Rb (i * 396 + 4) (I6 0))
 generalize w2.setCell (A6 Rb (i * 396 + 4)) (I6 0) = w3 at *
 clear c4 z4 h2 k2
 have Hth : Hid (World.there w3 Rb (i * 396 + 5) 7) := h3.there (by rw [List.length_set]; exact hi) (by decide)
 go_upto_region 4 with (refine wpList_store_mid rfl 109 (.tmp 15) (.tmp 13) rfl Rb (i * 396 + 5) (no7.map Value.bool).toArray rfl rfl Hth.out Hi7.out H17.out ?_; simp only [Act.put])
 have h4 := h3.from7 hi ⟨r.pr, r.sn, 0, 0, 0, no7, r.sl⟩ rfl rfl rfl
 have k4 := k3.trans (keeps_sets w3 Rb (i * 396 + 5) (no7.map Value.bool))
 generalize w3.setCells Rb (i * 396 + 5) (no7.map Value.bool) = w4 at *
 clear h3 k3 Hth
 go_wp2_with fail
 go_loopw [2] (fun v wr => ∃ (q : Nat), q ≤ 16 ∧ v = I6 q ∧ RAt wr Rb (R.set i (r.idleTo q)) ∧ Keeps (fun k => k = Rb) w wr) (fun v _ => 16 - (intOf v).toNat)
 case atStart => exact ⟨0, by omega, rfl, h4, k4⟩
 case round =>
  clear h4 k4
  obtain ⟨q, hq, rfl, hR, hK⟩ := hrel
  by_cases hq16 : q < 16
  ·have q0 : (0 : Int) ≤ (q : Int) := by omega
   have q1 : (q : Int) < 16 := by omega
   have m1 : decide ((q : Int) < 16) = true := by simp; omega
   have hz : (r.idleTo q).sl.length = 16 := by rw [idleTo_len]; exact hrk.len
   have g0 := hR.open hi hq16
   have hyo := Rr.at_ok (hR.rok hi) q
   have Hn : Hid ((r.idleTo q).setAt q ((r.idleTo q).at q).clear = r.idleTo (q + 1)) := rfl
   generalize (r.idleTo q).at q = y at *
   generalize r.idleTo q = z at *
   have c10 := g0.gc hi hz hq16 (o := 10) (by decide) rfl
   have z10 := g0.fz (i * 396 + 12 + q * 24 + 10)
   go_upto_region 8 with (fail)
   have g1 := g0.gs1 hi hz hq16 (o := 10) (v := .bool false) ⟨y.b, y.v, y.is, y.fin, false, y.mine, y.kept, y.kb, y.vo⟩ (by decide) hyo rfl
   have k1 := hK.trans (keeps_set wr Rb (i * 396 + 12 + q * 24 + 10) (.bool false))
   generalize wr.setCell (A6 Rb (i * 396 + 12 + q * 24 + 10)) (.bool false) = w5 at *
   clear c10 z10 g0
   have c11 := g1.gc hi hz hq16 (o := 11) (by decide) rfl
   have z11 := g1.fz (i * 396 + 12 + q * 24 + 11)
   go_upto_region 9 with (fail)
   have g2 := g1.gs1 hi hz hq16 (o := 11) (v := .bool false) ⟨y.b, y.v, y.is, y.fin, false, false, y.kept, y.kb, y.vo⟩ (by decide) hyo rfl
   have k2 := k1.trans (keeps_set w5 Rb (i * 396 + 12 + q * 24 + 11) (.bool false))
   generalize w5.setCell (A6 Rb (i * 396 + 12 + q * 24 + 11)) (.bool false) = w6 at *
   clear c11 z11 g1 k1
   have Hth : Hid (World.there w6 Rb (i * 396 + 12 + q * 24 + 12) 4) := g2.thereS hi hq16 (by decide)
   go_upto_region 10 with (refine wpList_store_mid rfl 33 (.tmp 38) (.tmp 34) rfl Rb (i * 396 + 12 + q * 24 + 12) #[I6 0, I6 0, I6 0, .string ⟨#[]⟩] rfl rfl Hth.out Hi4.out H14.out ?_; simp only [Act.put])
   have g3 := g2.gs hi hz hq16 (o := 12) (vs := (#[I6 0, I6 0, I6 0, .string ⟨#[]⟩] : Array Value).toList) ⟨y.b, y.v, y.is, y.fin, false, false, noPst, y.kb, y.vo⟩ (by decide) hyo rfl
   have k3 := k2.trans (keeps_sets w6 Rb (i * 396 + 12 + q * 24 + 12) (#[I6 0, I6 0, I6 0, .string ⟨#[]⟩] : Array Value).toList)
   generalize w6.setCells Rb (i * 396 + 12 + q * 24 + 12) (#[I6 0, I6 0, I6 0, .string ⟨#[]⟩] : Array Value).toList = w7 at *
   clear Hth g2 k2
   have c16 := g3.gc hi hz hq16 (o := 16) (by decide) rfl
   have z16 := g3.fz (i * 396 + 12 + q * 24 + 16)
   go_upto_region 11 with (fail)
   have g4 := g3.gs1 hi hz hq16 (o := 16) (v := I6 0) ⟨y.b, y.v, y.is, y.fin, false, false, noPst, 0, y.vo⟩ (by decide) hyo rfl
   have k4 := k3.trans (keeps_set w7 Rb (i * 396 + 12 + q * 24 + 16) (I6 0))
   generalize w7.setCell (A6 Rb (i * 396 + 12 + q * 24 + 16)) (I6 0) = w8 at *
   clear c16 z16 g3 k3
   have Hth : Hid (World.there w8 Rb (i * 396 + 12 + q * 24 + 17) 7) := g4.thereS hi hq16 (by decide)
   have hle17 : 17 + (no7.map Value.bool).length ≤ 24 := by rw [List.length_map]; exact Nat.le_refl _
   have hcl : y.clear.ok := clear_ok y
   have hsp := clear_cells hyo
   go_upto_region 6 with (refine wpList_store_mid rfl 109 (.tmp 51) (.tmp 47) rfl Rb (i * 396 + 12 + q * 24 + 17) (no7.map Value.bool).toArray rfl rfl Hth.out Hi7.out H17.out ?_; simp only [Act.put])
   have g5 := g4.gs hi hz hq16 (o := 17) (vs := no7.map Value.bool) y.clear hle17 hcl hsp
   have k5 := k4.trans (keeps_sets w8 Rb (i * 396 + 12 + q * 24 + 17) (no7.map Value.bool))
   rw [Hn.out] at g5
   generalize w8.setCells Rb (i * 396 + 12 + q * 24 + 17) (no7.map Value.bool) = w9 at *
   clear Hth
   go_wp2_with fail
   go_roundw
   case rel => exact ⟨q + 1, by omega, by go_num, g5, k5⟩
   case measure => simp [intOf]; omega
  ·have hqe : q = 16 := by omega
   have m1 : decide ((q : Int) < 16) = false := by simp; omega
   have m2 : ¬ (q : Int) < 16 := by omega
   rw [hqe, idleTo_all hrk.len] at hR
   clear hqe
   go_wp2_with fail
   go_end0
   exact ⟨rfl, hR, hK⟩
end
section
open Go.RowKit
set_option maxHeartbeats 4000000 in
theorem rsend_room (b H : Nat) (rv v : Value) (l : List Nm) (x : Nm) (w : World) (hb : w.heap[b]? = some (.cells #[rv, v] 74 (0, 0))) (hown : w.ownsRow H 36 10 v l.length (ncs l)) (hne : v.ownBlock ≠ some b)
  (hx : x.ok w) (hl : l.length < 200) (hH : H ≤ w.heap.size) :
  Calls Tryz.prog 92 #[P6 b, .agg x.cells.toArray] w fun e w' => ∃ v', e = .returned (.tuple #[]) ∧ w'.heap[b]? = some (.cells #[rv, v'] 74 (0, 0)) ∧ w'.ownsRow H 36 10 v' (l.length + 1) (ncs (l ++ [x])) ∧ v'.ownBlock ≠ some b ∧ (∀ g, v'.ownBlock = some g → v.ownBlock = some g ∨ w.heap.size ≤ g) ∧
   Keeps (fun k => k = b ∨ v.ownBlock = some k) w w' := by
 obtain ⟨i0, hi, hz0, hz1, hz2⟩ := info_parts Tryz.infoMessage
 have hblt := lt_of_block hb
 have hc : w.cell? (A6 b 1) = some v := (blk_cell hb 1).trans rfl
 have hf : w.frozen? (A6 b 1) = false := blk_free hb 1
 have h1 := Nm.one hx
 obtain ⟨xa, xc, hxe, _⟩ := hx.1.form
 obtain ⟨va, vc, rfl⟩ : ∃ va vc, v = .slice va l.length vc := by
  rcases hown.2 with ⟨rfl, h0⟩ | ⟨g, cap, cur, rfl, _⟩
  ·exact ⟨none, 0, by rw [h0]⟩
  ·exact ⟨_, _, rfl⟩
 obtain ⟨⟨mk, mf, mt, mb, ms, ⟨mc, mq, mh, mx⟩, ma⟩, xv⟩ := x
 simp only [Nm.cells] at *
 subst hxe
 have hd : decide ((l.length : Int) < 200) = true := by simp; omega
 have hd2 : (l.length : Int) < 200 := by omega
 have hbb : l.length + 1 ≤ maxLen ∧ (l.length + 1) * 104 ≤ 140737488355328 := ⟨by unfold maxLen; omega, by omega⟩
 have hca : ∀ o, (w.alloc o).cell? (A6 b 1) = some (.slice va l.length vc) := fun o => by rw [World.cell?_alloc_lt _ _ _ hblt]; exact hc
 go_enter Tryz.func92, Tryz.ntmps92
 go_wp2_with fail
 go_region_law (refine step_append_lies _ rfl (.tmp 14) (.tmp 16) 50 rfl H 36 i0 _ 10 104 Tryz.underlying50 hi hz0 hz1 hz2 rfl (by decide) (.slice va l.length vc) l.length (ncs l) rfl (owns_alloc (owns_drew (owns_alloc hown _)) _) _ 1 1 [I6 mk, I6 mf, I6 mt, I6 mb, I6 ms, I6 mc, I6 mq, I6 mh, .string mx, .slice xa ma.length xc] rfl rfl (news_new _ _ (by simp) _ _) h1 (by decide) hbb.1 hbb.2 (by simp; omega) _ rfl ?_; intro g cap w2 hown2 hgr2 hat2 hlt2; have hb2 := blk_grown hgr2 (blk_alloc (blk_drew (blk_alloc hb _)) _) hne; have hc2 : w2.cell? (A6 b 1) = some (.slice va l.length vc) := (blk_cell hb2 1).trans rfl; have hf2 := blk_free hb2 1)
 all_goals
  go_wp2_with fail
  go_end0
  have hgb : (Value.slice (some (A6 g 0)) (l.length + 1) cap).ownBlock ≠ some b := by
   intro e
   obtain rfl : g = b := by simpa [Value.ownBlock] using e
   rcases hat2 with h | h
   ·exact hne h
   ·simp at h; omega
  refine ⟨_, rfl, blk_set hb2 1 _, owns_set ?_ hgb _, hgb, ?_, ?_⟩
  ·rw [ncs_append]; simpa [ncs, Nm.cells] using hown2
  ·intro g' hg'
   obtain rfl : g = g' := by simpa [Value.ownBlock] using hg'
   rcases hat2 with h | h
   ·exact .inl h
   ·right; simp at h; omega
  ·have K1 := (Keeps.ofGrown hgr2).mono (Q := fun k => k = b ∨ (Value.slice va l.length vc).ownBlock = some k) (fun k _ h => Or.inr h)
   refine Keeps.trans (Keeps.ofBelow ?_) (Keeps.trans K1 (Keeps.ofSet (Or.inl (Or.inl rfl)) _))
   exact ((((Below.refl _ w).alloc (Nat.le_refl _) _).drew).alloc (by simp) _)
set_option maxHeartbeats 4000000 in
theorem rsend_full (b : Nat) (rv v : Value) (l : List Nm) (x : Nm) (w : World) (hb : w.heap[b]? = some (.cells #[rv, v] 74 (0, 0))) (hv : ∃ va vc, v = .slice va l.length vc) (hx : x.ok w) (hl : 200 ≤ l.length) (hl2 : l.length ≤ 1000) :
  Calls Tryz.prog 92 #[P6 b, .agg x.cells.toArray] w fun e w' => e = .returned (.tuple #[]) ∧ Below w.heap.size w w' := by
 have hc : w.cell? (A6 b 1) = some v := (blk_cell hb 1).trans rfl
 have hblt : b < w.heap.size := lt_of_block hb
 obtain ⟨xa, xc, hxe, _⟩ := hx.1.form
 obtain ⟨va, vc, rfl⟩ := hv
 obtain ⟨⟨mk, mf, mt, mb, ms, ⟨mc, mq, mh, mx⟩, ma⟩, xv⟩ := x
 simp only [Nm.cells] at *
 subst hxe
 have hd : decide ((l.length : Int) < 200) = false := by simp; omega
 have hd2 : ¬ (l.length : Int) < 200 := by omega
 have hca : ∀ o, (w.alloc o).cell? (A6 b 1) = some (.slice va l.length vc) := fun o => by rw [World.cell?_alloc_lt _ _ _ hblt]; exact hc
 go_enter Tryz.func92, Tryz.ntmps92
 go_wp2_with fail
 go_end0
 exact ⟨rfl, (Below.refl _ w).alloc (Nat.le_refl _) _⟩
def qOwn (qb Rb : Nat) (v : Value) (k : Nat) : Prop := k = qb ∨ k = Rb ∨ v.ownBlock = some k
structure QAt (w : World) (qb Rb : Nat) (v : Value) (x : Qs) : Prop where
 syn : w.heap[qb]? = some (.cells #[.slice (some (A6 Rb 0)) x.R.length x.R.length, v] 74 (0, 0))
 reps : RAt w Rb x.R
 net : ∃ l : List Nm, l.map (·.m) = x.net ∧ w.ownsRow 0 36 10 v l.length (ncs l) ∧ ∀ y ∈ l, y.okt w
 n0 : 1 ≤ x.R.length
 n1 : x.R.length ≤ 7
 full : x.net.length ≤ 200
def QTo (w : World) (qb Rb : Nat) (v : Value) (w' : World) (x' : Qs) : Prop :=
 ∃ v', QAt w' qb Rb v' x' ∧ (∀ k, qOwn qb Rb v' k → qOwn qb Rb v k ∨ w.heap.size ≤ k) ∧ Keeps (qOwn qb Rb v) w w'
section
variable {w w' : World} {qb Rb : Nat} {v : Value} {x x' : Qs}
theorem QAt.ne (h : QAt w qb Rb v x) : qb ≠ Rb := fun e => by
 have h1 := h.syn
 rw [e, h.reps.1] at h1; injection h1 with e1; injection e1 with _ e1; simp at e1
theorem QAt.vq (h : QAt w qb Rb v x) : v.ownBlock ≠ some qb := fun e => by
 obtain ⟨l, _, ho, _⟩ := h.net
 obtain ⟨cs, hc⟩ := owns_blk ho e
 rw [h.syn] at hc; injection hc with e1; injection e1 with _ e1; simp at e1
theorem QAt.vR (h : QAt w qb Rb v x) : v.ownBlock ≠ some Rb := fun e => by
 obtain ⟨l, _, ho, _⟩ := h.net
 obtain ⟨cs, hc⟩ := owns_blk ho e
 rw [h.reps.1] at hc; injection hc with e1; injection e1 with _ e1; simp at e1
theorem QAt.vote (h : QAt w qb Rb v x) {k : Nat} {cs : Array Value} (hc : w.heap[k]? = some (.cells cs 53 (0, 0))) : ¬ qOwn qb Rb v k := fun ho => by
 rcases ho with rfl | rfl | ho
 ·rw [h.syn] at hc; injection hc with e1; injection e1 with _ e1; simp at e1
 ·rw [h.reps.1] at hc; injection hc with e1; injection e1 with _ e1; simp at e1
 ·obtain ⟨l, _, hl, _⟩ := h.net
  obtain ⟨cs', hc'⟩ := owns_blk hl ho
  rw [hc'] at hc; injection hc with e1; injection e1 with _ e1; simp at e1
theorem QAt.below (h : QAt w qb Rb v x) (hB : Below w.heap.size w w') : QAt w' qb Rb v x := by
 obtain ⟨l, h1, h2, h3⟩ := h.net
 exact ⟨blk_below hB h.syn, h.reps.below hB, ⟨l, h1, owns_below h2 hB, fun y hy => (h3 y hy).keeps (Keeps.ofBelow (P := fun _ => False) hB) (fun _ _ _ => id)⟩, h.n0, h.n1, h.full⟩
theorem QTo.refl (h : QAt w qb Rb v x) : QTo w qb Rb v w x := ⟨v, h, fun _ h => .inl h, Keeps.refl _ _⟩
theorem QTo.trans {w1 w2 : World} {x1 x2 : Qs} (a : QTo w qb Rb v w1 x1) (b : ∀ v1, QAt w1 qb Rb v1 x1 → QTo w1 qb Rb v1 w2 x2) : QTo w qb Rb v w2 x2 := by
 obtain ⟨v1, h1, o1, k1⟩ := a
 obtain ⟨v2, h2, o2, k2⟩ := b v1 h1
 refine ⟨v2, h2, fun k hk => ?_, ?_⟩
 ·rcases o2 k hk with h | h
  ·exact o1 k h
  ·exact .inr (Nat.le_trans k1.size h)
 ·refine ⟨k2.os.trans k1.os, k2.tape.trans k1.tape, k2.output.trans k1.output, Nat.le_trans k1.size k2.size, fun k hk hno => ?_⟩
  rw [k2.block k (Nat.lt_of_lt_of_le hk k1.size) (fun ho => by rcases o1 k ho with h | h; exact hno h; omega)]
  exact k1.block k hk hno
theorem QTo.below {w1 w2 : World} (a : QTo w qb Rb v w1 x) (hB : Below w1.heap.size w1 w2) : QTo w qb Rb v w2 x := a.trans (fun v1 h1 => ⟨v1, h1.below hB, fun _ h => .inl h, Keeps.ofBelow hB⟩)
theorem QTo.after {w1 w2 : World} {x2 : Qs} (hB : Below w.heap.size w w1) (b : QTo w1 qb Rb v w2 x2) : QTo w qb Rb v w2 x2 := by
 obtain ⟨v', h', o', k'⟩ := b
 exact ⟨v', h', fun k hk => (o' k hk).imp id (fun h => Nat.le_trans hB.size h), Keeps.trans (Keeps.ofBelow hB) k'⟩
theorem QAt.turn (h : QAt w qb Rb v x) {R' : List Rr} (hk : Keeps (fun k => k = Rb) w w') (hR : RAt w' Rb R') (hl : R'.length = x.R.length) : QTo w qb Rb v w' ⟨R', x.net⟩ := by
 obtain ⟨l, h1, h2, h3⟩ := h.net
 refine ⟨v, ⟨by show _ = some (Obj.cells #[.slice (some (A6 Rb 0)) R'.length R'.length, v] _ _); rw [hl]; exact blk_keeps hk h.syn h.ne, hR, ⟨l, h1, owns_keeps h2 hk (fun g hg e => h.vR (by rw [← e]; exact hg)), fun y hy => (h3 y hy).keeps hk (fun k cs hc e => h.vote hc (.inr (.inl e)))⟩, by show 1 ≤ R'.length; rw [hl]; exact h.n0, by show R'.length ≤ 7; rw [hl]; exact h.n1, h.full⟩, fun _ h => .inl h, hk.mono (fun k _ e => .inr (.inl e))⟩
theorem rsend_any (h : QAt w qb Rb v x) (y : Nm) (hy : y.okt w) : Calls Tryz.prog 92 #[P6 qb, .agg y.cells.toArray] w fun e w' => e = .returned (.tuple #[]) ∧ QTo w qb Rb v w' (x.send y.m) := by
 obtain ⟨l, h1, h2, h3⟩ := h.net
 have hll : l.length = x.net.length := by rw [← h1, List.length_map]
 have hfull := h.full
 by_cases hr : l.length < 200
 ·refine (rsend_room qb 0 _ v l y w h.syn h2 h.vq hy.1 hr (Nat.zero_le _)).mono ?_
  rintro e w' ⟨v', he, g1, g2, g3, g4, g5⟩
  have hRn : ¬ (Rb = qb ∨ v.ownBlock = some Rb) := fun ho => by
   rcases ho with e | e
   ·exact h.ne e.symm
   ·exact h.vR e
  have hV : ∀ k cs, w.heap[k]? = some (.cells cs 53 (0, 0)) → ¬ (k = qb ∨ v.ownBlock = some k) := fun k cs hc ho => h.vote hc (by rcases ho with e | e; exact .inl e; exact .inr (.inr e))
  have e1 : (x.send y.m).net = x.net ++ [y.m] := by unfold Qs.send; simp only; rw [if_pos (by omega)]
  refine ⟨he, v', ⟨g1, h.reps.keeps g5 hRn, ⟨l ++ [y], by rw [e1, List.map_append, h1]; rfl, by rw [List.length_append]; exact g2, fun z hz => ?_⟩, h.n0, h.n1, by rw [e1, List.length_append]; simp; omega⟩, fun k hk => ?_, g5.mono (fun k _ hk => ?_)⟩
  ·rcases List.mem_append.1 hz with hz | hz
   ·exact (h3 z hz).keeps g5 hV
   ·rw [List.mem_singleton.1 hz]; exact hy.keeps g5 hV
  ·rcases hk with hk | hk | hk
   ·exact .inl (.inl hk)
   ·exact .inl (.inr (.inl hk))
   ·rcases g4 k hk with h9 | h9
    ·exact .inl (.inr (.inr h9))
    ·exact .inr h9
  ·rcases hk with hk | hk
   ·exact .inl hk
   ·exact .inr (.inr hk)
 ·have hvs : ∃ va vc, v = .slice va l.length vc := by
   rcases h2.2 with ⟨rfl, h0⟩ | ⟨g, cap, cur, rfl, _⟩
   ·exact ⟨none, 0, by rw [h0]⟩
   ·exact ⟨_, _, rfl⟩
  refine (rsend_full qb _ v l y w h.syn hvs hy.1 (by omega) (by omega)).mono ?_
  rintro e w' ⟨he, hB⟩
  have e1 : x.send y.m = x := by unfold Qs.send; rw [if_neg (by omega)]
  rw [e1]
  exact ⟨he, (QTo.refl h).below hB⟩
end
end
end Go.Proofs.YtnnhnekfokbooaaGreatDoor
