/- CodeC, CodeD, CodeE -/
import Derived.Test.YtnnhnekfokbooaaGreatDoorAl01
import Derived.Deep.DeepCutAuto
import Derived.Deep.CutBlock
import Derived.Deep.RegionLaw
import Derived.Deep.RegionHeld3
set_option linter.unusedSimpArgs false
set_option linter.unusedVariables false
set_option maxRecDepth 100000
namespace Go.Proofs.YtnnhnekfokbooaaGreatDoor
section
open Go.RowKit
structure Nm where
 m : Ms
 v : Value
def Nm.cells (x : Nm) : List Value := [I6 x.m.k, I6 x.m.f, I6 x.m.t, I6 x.m.b, I6 x.m.s, I6 x.m.p.c, I6 x.m.p.q, I6 x.m.p.h, .string x.m.p.t, x.v]
def ncs : List Nm → List Value
 | [] => []
 | x :: l => x.cells ++ ncs l
theorem ncs_length (l : List Nm) : (ncs l).length = l.length * 10 := by
 induction l with
 | nil => rfl
 | cons x l ih => simp [ncs, ih, Nm.cells]; omega
theorem ncs_append (a b : List Nm) : ncs (a ++ b) = ncs a ++ ncs b := by
 induction a with
 | nil => rfl
 | cons x l ih => simp [ncs, ih]
theorem ncs_at : ∀ (l : List Nm) (k : Nat) (hk : k < l.length) (i : Nat) (_ : i < 10), (ncs l)[k * 10 + i]? = (l[k]).cells[i]?
 | [], k, hk, _, _ => by simp at hk
 | x :: l, 0, _, i, hi => by
  rw [ncs, Nat.zero_mul, Nat.zero_add, List.getElem?_append_left (by simpa [Nm.cells] using hi)]
  rfl
 | x :: l, k + 1, hk, i, hi => by
  have e : (k + 1) * 10 + i - x.cells.length = k * 10 + i := by simp [Nm.cells]; omega
  rw [ncs, List.getElem?_append_right (by simp [Nm.cells]; omega), e]
  exact ncs_at l k (by simpa using hk) i hi
theorem ncs_set : ∀ (l : List Nm) (k : Nat) (hk : k < l.length) (v : Value), (ncs l).set (k * 10 + 9) v = ncs (l.set k ⟨l[k].m, v⟩)
 | [], k, hk, _ => by simp at hk
 | x :: l, 0, _, v => by
  rw [List.set_cons_zero, ncs, ncs, List.set_append_left _ _ (by simp [Nm.cells])]
  rfl
 | x :: l, k + 1, hk, v => by
  have e : (k + 1) * 10 + 9 - x.cells.length = k * 10 + 9 := by simp [Nm.cells]; omega
  rw [List.set_cons_succ, ncs, ncs, List.set_append_right _ _ (by simp [Nm.cells]; omega), e, ncs_set l k (by simpa using hk) v]
  rfl
def Nm.ok (w : World) (x : Nm) : Prop := VAt w x.v x.m.a ∧ x.m.a.length ≤ 1000
theorem Nm.one {w : World} {x : Nm} (h : x.ok w) : ∀ u ∈ x.cells, u.oneCell' = true := by
 obtain ⟨ao, cap, e, _⟩ := h.1.form
 intro u hu
 simp only [Nm.cells, e, List.mem_cons, List.not_mem_nil, or_false] at hu
 rcases hu with rfl | rfl | rfl | rfl | rfl | rfl | rfl | rfl | rfl | rfl <;> rfl
theorem ncs_one {w : World} : ∀ (l : List Nm), (∀ x ∈ l, x.ok w) → ∀ u ∈ ncs l, u.oneCell' = true
 | [], _, u, hu => by simp [ncs] at hu
 | x :: l, h, u, hu => by
  rw [ncs, List.mem_append] at hu
  rcases hu with hu | hu
  ·exact Nm.one (h x List.mem_cons_self) u hu
  ·exact ncs_one l (fun y hy => h y (List.mem_cons_of_mem _ hy)) u hu
set_option maxHeartbeats 4000000 in
theorem list_any (b o : Nat) (v : Value) (l : List Nm) (w : World) (hc : w.cell? (A6 b o) = some v) (hv : RowAt w 10 v l.length (ncs l)) (hok : ∀ x ∈ l, x.ok w) (hl : l.length ≤ 1000) :
  Calls Tryz.prog 56 #[.pointer (some (A6 b o))] w fun e w' => ∃ v' L, e = .returned v' ∧ L.length = l.length ∧ (∀ i (hi : i < l.length) (hi' : i < L.length), L[i].m = l[i].m ∧ w'.ownsRow w.heap.size 53 6 L[i].v l[i].m.a.length (vcells l[i].m.a)) ∧
   (∀ i j (hi : i < L.length) (hj : j < L.length) g, i < j → L[i].v.ownBlock = some g → L[j].v.ownBlock ≠ some g) ∧ w'.ownsRow w.heap.size 36 10 v' L.length (ncs L) ∧ Below w.heap.size w w' := by
 have hblt : b < w.heap.size := World.block_lt_of_cell? w _ hc
 obtain ⟨ao, cap, hve, hvf⟩ := hv.form
 subst hve
 have hC := cloneM_any _ _ _ w hv (ncs_one l hok) (by omega)
 go_enter Tryz.func56, Tryz.ntmps56
 go_wp2_with fail
 refine hC.mono ?_
 rintro e w1 ⟨v1, rfl, hown1, hB1⟩
 clear hC
 obtain ⟨a1, c1, rfl⟩ : ∃ a1 c1, v1 = .slice a1 l.length c1 := by
  rcases hown1.2 with ⟨rfl, h0⟩ | ⟨g, cap, cur, rfl, _⟩
  ·exact ⟨none, 0, by rw [h0]⟩
  ·exact ⟨_, _, rfl⟩
 go_wp2_with fail
 go_loopw [4, 12] (fun q i wr => ∃ (j : Nat) (L : List Nm), j ≤ l.length ∧ i = I6 j ∧ L.length = l.length ∧ (∀ i (hi : i < l.length) (hi' : i < L.length), L[i].m = l[i].m ∧ (j ≤ i → L[i] = l[i]) ∧ (i < j → wr.ownsRow w.heap.size 53 6 L[i].v l[i].m.a.length (vcells l[i].m.a))) ∧
   (∀ i k (hi : i < L.length) (hk : k < L.length) g, i < k → k < j → L[i].v.ownBlock = some g → L[k].v.ownBlock ≠ some g) ∧ wr.ownsRow w.heap.size 36 10 (.slice a1 l.length c1) L.length (ncs L) ∧ Below w.heap.size w wr) (fun _ i _ => l.length - (intOf i).toNat)
 case atStart => exact ⟨0, l, Nat.zero_le _, rfl, rfl, fun i hi hi' => ⟨rfl, fun _ => rfl, fun h => by omega⟩, fun i k hi hk g h1 h2 => by omega, hown1, hB1⟩
 case round =>
  obtain ⟨j, L, hj, rfl, hLl, hLm, hLd, hown, hB⟩ := hrel
  by_cases hlt : j < l.length
  ·obtain ⟨g1, rfl⟩ : ∃ g1, a1 = some (A6 g1 0) := by
    rcases hown.2 with ⟨h1, h2⟩ | ⟨g, cap', cur, h1, _⟩
    ·omega
    ·injection h1 with e1; exact ⟨g, e1⟩
   rcases hown.2 with ⟨h1, _⟩ | ⟨g', cap', cur, h1, hbg, hg, hnc, hcm, hcs, htake⟩
   ·cases h1
   have hg1 : g1 = g' ∧ c1 = cap' := by injection h1 with e1 e2 e3; injection e1 with e1; injection e1 with e1 _ _; exact ⟨e1, e3⟩
   obtain ⟨rfl, rfl⟩ := hg1
   clear h1
   have hjL : j < L.length := by omega
   have hcj : wr.cell? (A6 g1 (j * 10 + 9)) = some l[j].v := by
    have e := ncs_at L j hjL 9 (by decide)
    rw [(hLm j hlt hjL).2.1 (Nat.le_refl _)] at e
    rw [blk_cell hg, ← Array.getElem?_toList]
    have e2 : cur.toList[j * 10 + 9]? = (cur.toList.take (L.length * 10))[j * 10 + 9]? := by rw [List.getElem?_take, if_pos (by omega)]
    rw [e2, htake, e]
    rfl
   have hfz := blk_free hg
   have hoj := hok l[j] (List.getElem_mem hlt)
   have hCV := cloneV_any l[j].v l[j].m.a.length (vcells l[j].m.a) wr (VAt.row (hoj.1.below hB)) (vcells_one _) (by have := hoj.2; omega)
   have q0 : (0 : Int) ≤ (j : Int) := by omega
   have q1 : (j : Int) < (l.length : Int) := by omega
   obtain ⟨ja, jc, hje, _⟩ := hoj.1.form
   generalize hvj : l[j].v = vj at *
   subst hje
   go_wp2_with fail
   refine hCV.mono ?_
   rintro e w2 ⟨v2, rfl, ho2, hB2⟩
   obtain ⟨a2, n2, c2, rfl⟩ := owns_slice1 ho2
   clear hCV
   have hg2 := blk_below hB2 hg
   have hc2 := (hB2.cell (p := (A6 g1 (j * 10 + 9))) (lt_of_block hg)).trans hcj
   have hf2 := blk_free hg2
   clear hfz hcj
   go_wp2_with fail
   go_roundw
   case rel =>
    have hmj := (hLm j hlt hjL).1
    have hz := hB.size
    have hg2' := blk_set hg2 (j * 10 + 9) (.slice a2 n2 c2)
    have ho2' := owns_set ho2 (a := (A6 g1 (j * 10 + 9))) (fun e => by have x1 : wr.heap.size ≤ g1 := (World.ownsRow.lt ho2 _ e).1; have x2 := lt_of_block hg; omega) (.slice a2 n2 c2)
    refine ⟨j + 1, L.set j ⟨L[j].m, .slice a2 n2 c2⟩, by omega, by go_num, by simpa using hLl, fun i hi hi' => ?_, fun i k hi hk g h1 h2 => ?_, ?_, ?_⟩
    ·simp only [List.length_set] at hi'
     obtain ⟨m1, m2, m3⟩ := hLm i hi hi'
     by_cases hij : i = j
     ·subst hij
      simp only [List.getElem_set_self]
      exact ⟨hmj, fun h => by omega, fun _ => owns_base ho2' hz⟩
     ·rw [List.getElem_set_ne (Ne.symm hij)]
      refine ⟨m1, fun h => m2 (by omega), fun h => ?_⟩
      have ho := m3 (by omega)
      exact owns_set (owns_below ho hB2) (a := (A6 g1 (j * 10 + 9))) (owns_not_block (owns_below ho hB2) hg2 (by decide)) _
    ·simp only [List.length_set] at hi hk
     have hij : i ≠ j := by omega
     by_cases hkj : k = j
     ·subst hkj
      simp only [List.getElem_set_self]
      rw [List.getElem_set_ne (Ne.symm hij)]
      intro h3 h4
      have ho := (hLm i (by simp at hi; omega) (by simp at hi; omega)).2.2 (by omega)
      have y1 := (World.ownsRow.lt ho _ h3).2
      have y2 := (World.ownsRow.lt ho2 _ h4).1
      omega
     ·rw [List.getElem_set_ne (Ne.symm hij), List.getElem_set_ne (Ne.symm hkj)]
      exact hLd i k hi hk g h1 (by omega)
    ·rw [List.length_set, ← ncs_set L j hjL]
     refine ⟨by rw [List.length_set, ncs_length], .inr ⟨g1, c1, _, by rw [hLl], hbg, hg2', hnc, hcm, by simpa using hcs, ?_⟩⟩
     rw [Array.toList_setIfInBounds, List.take_set, htake]
    ·exact (hB.trans (hB2.mono hz)).setCell (p := (A6 g1 (j * 10 + 9))) hbg _
   case measure => simp [intOf]; omega
  ·go_wp2_with fail
   go_ret
   obtain rfl : j = l.length := by omega
   exact ⟨_, L, rfl, hLl, fun i hi hi' => ⟨(hLm i hi hi').1, (hLm i hi hi').2.2 hi⟩, fun i k hi hk g h1 => hLd i k hi hk g h1 (by omega), hown, hB⟩
end
section
open Go.RowKit
theorem blk_drew {w : World} {b : Nat} {ob : Obj} (h : w.heap[b]? = some ob) : w.drew.heap[b]? = some ob := h
theorem owns_drew {w : World} {base : Nat} {e : TypeId} {size : Nat} {v : Value} {n : Nat} {xs : List Value} (h : w.ownsRow base e size v n xs) : w.drew.ownsRow base e size v n xs := h
set_option maxHeartbeats 4000000 in
theorem put_room (b o H : Nat) (cs : Array Value) (t : TypeId) (v : Value) (l : List Nm) (x : Nm) (w : World) (hb : w.heap[b]? = some (.cells cs t (0, 0))) (ho : cs[o]? = some v) (hown : w.ownsRow H 36 10 v l.length (ncs l)) (hne : v.ownBlock ≠ some b)
  (hx : x.ok w) (hl : l.length < 200) (hH : H ≤ w.heap.size) :
  Calls Tryz.prog 109 #[.pointer (some (A6 b o)), .agg x.cells.toArray] w fun e w' => ∃ v', e = .returned (.tuple #[]) ∧ w'.heap[b]? = some (.cells (cs.setIfInBounds o v') t (0, 0)) ∧ w'.ownsRow H 36 10 v' (l.length + 1) (ncs (l ++ [x])) ∧ v'.ownBlock ≠ some b ∧ (∀ g, v'.ownBlock = some g → v.ownBlock = some g ∨ w.heap.size ≤ g) ∧
   Keeps (fun k => k = b ∨ v.ownBlock = some k) w w' := by
 obtain ⟨i0, hi, hz0, hz1, hz2⟩ := info_parts Tryz.infoMessage
 have hblt := lt_of_block hb
 have hc : w.cell? (A6 b o) = some v := by rw [blk_cell hb]; exact ho
 have hf : w.frozen? (A6 b o) = false := blk_free hb o
 have h1 := Nm.one hx
 obtain ⟨xa, xc, hxe, _⟩ := hx.1.form
 obtain ⟨va, vc, rfl⟩ : ∃ va vc, v = .slice va l.length vc := by
  rcases hown.2 with ⟨rfl, h0⟩ | ⟨g, cap, cur, rfl, _⟩
  ·exact ⟨none, 0, by rw [h0]⟩
  ·exact ⟨_, _, rfl⟩
 obtain ⟨⟨mk, mf, mt, mb, ms, ⟨mc, mq, mh, mx⟩, ma⟩, xv⟩ := x
 simp only [Nm.cells] at *
 subst hxe
 have hd : decide ((l.length : Int) + 1 ≤ 200) = true := by simp; omega
 have hR := fun W hc => room_any b o va l.length vc 1 W hc (by omega) (by decide) (by decide)
 rw [hd] at hR
 have hbb : l.length + 1 ≤ maxLen ∧ (l.length + 1) * 104 ≤ 140737488355328 := ⟨by unfold maxLen; omega, by omega⟩
 go_enter Tryz.func109, Tryz.ntmps109
 go_wp2_with fail
 refine (hR _ ?_).mono ?_
 ·rw [World.cell?_alloc_lt _ _ _ hblt]; exact hc
 rintro e w1 ⟨rfl, rfl⟩
 clear hR
 go_wp2_with fail
 go_region_law (refine step_append_lies _ rfl (.tmp 10) (.tmp 12) 50 rfl H 36 i0 _ 10 104 Tryz.underlying50 hi hz0 hz1 hz2 rfl (by decide) (.slice va l.length vc) l.length (ncs l) rfl (owns_alloc (owns_drew (owns_alloc hown _)) _) _ 1 1 [I6 mk, I6 mf, I6 mt, I6 mb, I6 ms, I6 mc, I6 mq, I6 mh, .string mx, .slice xa ma.length xc] rfl rfl (news_new _ _ (by simp) _ _) h1 (by decide) hbb.1 hbb.2 (by simp; omega) _ rfl ?_; intro g cap w2 hown2 hgr2 hat2 hlt2; have hb2 := blk_grown hgr2 (blk_alloc (blk_drew (blk_alloc hb _)) _) hne; have hc2 : w2.cell? (A6 b o) = some (.slice va l.length vc) := (blk_cell hb2 o).trans ho; have hf2 := blk_free hb2 o)
 all_goals
  go_wp2_with fail
  go_end0
  have hgb : (Value.slice (some (A6 g 0)) (l.length + 1) cap).ownBlock ≠ some b := by
   intro e
   obtain rfl : g = b := by simpa [Value.ownBlock] using e
   rcases hat2 with h | h
   ·exact hne h
   ·simp at h; omega
  refine ⟨_, rfl, blk_set hb2 o _, owns_set ?_ hgb _, hgb, ?_, ?_⟩
  ·rw [ncs_append]; simpa [ncs, Nm.cells] using hown2
  ·intro g' hg'
   obtain rfl : g = g' := by simpa [Value.ownBlock] using hg'
   rcases hat2 with h | h
   ·exact .inl h
   ·right; simp at h; omega
  ·have K1 := (Keeps.ofGrown hgr2).mono (Q := fun k => k = b ∨ (Value.slice va l.length vc).ownBlock = some k) (fun k _ h => Or.inr h)
   refine Keeps.trans (Keeps.ofBelow ?_) (Keeps.trans K1 (Keeps.ofSet (Or.inl (Or.inl rfl)) _))
   exact ((((Below.refl _ w).alloc (Nat.le_refl _) _).drew).alloc (by simp) _)
end
section
open Go.RowKit
set_option maxHeartbeats 4000000 in
theorem put_full (b o : Nat) (v : Value) (l : List Nm) (x : Nm) (w : World) (hc : w.cell? (A6 b o) = some v) (hv : ∃ va vc, v = .slice va l.length vc) (hx : x.ok w) (hl : 200 ≤ l.length) (hl2 : l.length ≤ 1000) :
  Calls Tryz.prog 109 #[.pointer (some (A6 b o)), .agg x.cells.toArray] w fun e w' => e = .returned (.tuple #[]) ∧ Below w.heap.size w w' := by
 have hblt : b < w.heap.size := World.block_lt_of_cell? w _ hc
 obtain ⟨xa, xc, hxe, _⟩ := hx.1.form
 obtain ⟨va, vc, rfl⟩ := hv
 obtain ⟨⟨mk, mf, mt, mb, ms, ⟨mc, mq, mh, mx⟩, ma⟩, xv⟩ := x
 simp only [Nm.cells] at *
 subst hxe
 have hd : decide ((l.length : Int) + 1 ≤ 200) = false := by simp; omega
 have hR := fun W hc => room_any b o va l.length vc 1 W hc (by omega) (by decide) (by decide)
 rw [hd] at hR
 go_enter Tryz.func109, Tryz.ntmps109
 go_wp2_with fail
 refine (hR _ ?_).mono ?_
 ·rw [World.cell?_alloc_lt _ _ _ hblt]; exact hc
 rintro e w1 ⟨rfl, rfl⟩
 clear hR
 go_wp2_with fail
 go_end0
 exact ⟨rfl, (Below.refl _ w).alloc (Nat.le_refl _) _⟩
def sent (l : List Nm) (x : Nm) : List Nm := if l.length < 200 then l ++ [x] else l
theorem put_any (b o H : Nat) (cs : Array Value) (t : TypeId) (v : Value) (l : List Nm) (x : Nm) (w : World) (hb : w.heap[b]? = some (.cells cs t (0, 0))) (ho : cs[o]? = some v) (hown : w.ownsRow H 36 10 v l.length (ncs l)) (hne : v.ownBlock ≠ some b)
  (hx : x.ok w) (hl : l.length ≤ 200) (hH : H ≤ w.heap.size) :
  Calls Tryz.prog 109 #[.pointer (some (A6 b o)), .agg x.cells.toArray] w fun e w' => ∃ v', e = .returned (.tuple #[]) ∧ w'.heap[b]? = some (.cells (cs.setIfInBounds o v') t (0, 0)) ∧ w'.ownsRow H 36 10 v' (sent l x).length (ncs (sent l x)) ∧ v'.ownBlock ≠ some b ∧ (∀ g, v'.ownBlock = some g → v.ownBlock = some g ∨ w.heap.size ≤ g) ∧
   Keeps (fun k => k = b ∨ v.ownBlock = some k) w w' := by
 by_cases h : l.length < 200
 ·refine (put_room b o H cs t v l x w hb ho hown hne hx h hH).mono ?_
  rintro e w' ⟨v', rfl, h1, h2, h3⟩
  refine ⟨v', rfl, h1, ?_, h3⟩
  simp only [sent, if_pos h, List.length_append, List.length_cons, List.length_nil]
  exact h2
 ·have hc : w.cell? (A6 b o) = some v := (blk_cell hb o).trans ho
  have hvs : ∃ va vc, v = .slice va l.length vc := by
   rcases hown.2 with ⟨rfl, h0⟩ | ⟨g, cap, cur, rfl, _⟩
   ·exact ⟨none, 0, by rw [h0]⟩
   ·exact ⟨_, _, rfl⟩
  refine (put_full b o v l x w hc hvs hx (by omega) (by omega)).mono ?_
  rintro e w' ⟨rfl, hB⟩
  have hse : cs.setIfInBounds o v = cs := by
   apply Array.ext_getElem?
   intro i
   by_cases e : i = o
   ·subst e
    have hlt := (Array.getElem?_eq_some_iff.1 ho).1
    rw [Array.getElem?_setIfInBounds_self_of_lt hlt, ho]
   ·rw [Array.getElem?_setIfInBounds_ne (by omega)]
  refine ⟨v, rfl, by rw [hse]; exact blk_below hB hb, ?_, hne, fun g hg => .inl hg, Keeps.ofBelow hB⟩
  simp only [sent, if_neg h]
  exact owns_below hown hB
section
variable {P : Program}
theorem run_clear_many (w : World) (t e ty : TypeId) (z : Value) (ht : P.underlying t = some (.slice e)) (hz : (zeroValue e).run P w = .ok z w) (g o n c : Nat) (hn : n ≠ 0)
  (hc : ∀ j, j < (Builtin.zeroCells z.cells n).toList.length → (w.cell? (A6 g (o + j))).isSome = true) (hf : ∀ j, j < (Builtin.zeroCells z.cells n).toList.length → w.frozen? (A6 g (o + j)) = false) (h1 : ∀ v ∈ (Builtin.zeroCells z.cells n).toList, v.oneCell' = true) :
  (Builtin.clear_ #[t] ty #[.slice (some (A6 g o)) n c]).run P w = .ok (.tuple #[]) (w.setCells g o (Builtin.zeroCells z.cells n).toList) := by
 have hst := run_storeCells_cells (P := P) g o (Builtin.zeroCells z.cells n).toList 0 w (by simpa using hc) (by simpa using hf) h1
 obtain ⟨n, rfl⟩ : ∃ k, n = k + 1 := ⟨n - 1, by omega⟩
 simp only [Nat.add_zero] at hst
 simp [Builtin.clear_, run_underlying ht, hz, hst]
theorem wpList_clear_many {w : World} {ops : Array Oper} {rest : List Oper} {o : Oper} {a : Act} {Q : Exit → Act → World → Prop} (hgd : o.guard = none) (s : Operand) (t : TypeId)
  (ho : o.op = .call { callee := .builtin .clear, args := #[s], argTypes := #[t] }) (e : TypeId) (z : Value) (ht : P.underlying t = some (.slice e)) (hz : (zeroValue e).run P w = .ok z w) (g off n c : Nat) (hs : a.eval s = .slice (some (A6 g off)) n c) (hn : n ≠ 0)
  (hc : ∀ j, j < (Builtin.zeroCells z.cells n).toList.length → (w.cell? (A6 g (off + j))).isSome = true) (hf : ∀ j, j < (Builtin.zeroCells z.cells n).toList.length → w.frozen? (A6 g (off + j)) = false) (h1 : ∀ v ∈ (Builtin.zeroCells z.cells n).toList, v.oneCell' = true)
  (h : wpList P ops Q rest (a.put o.dst (.tuple #[])) (w.setCells g off (Builtin.zeroCells z.cells n).toList)) : wpList P ops Q (o :: rest) a w := by
 refine wpList_plain hgd fun K hK => ?_
 have hrun := run_clear_many (P := P) w t e o.type z ht hz g off n c hn hc hf h1
 unfold Oper.wp execOp
 simp only [ho, resolve, invoke, builtin, Sem.run_bind, Sem.run_pure, Result.andThen_ok, List.map_toArray, List.map_cons, List.map_nil, hs, hrun]
 exact hK _ _ h
end
theorem zeroM : (Builtin.zeroCells (Value.agg #[I6 0, I6 0, I6 0, I6 0, I6 0, I6 0, I6 0, I6 0, .string ⟨#[]⟩, .slice none 0 0]).cells 1).toList = [I6 0, I6 0, I6 0, I6 0, I6 0, I6 0, I6 0, I6 0, .string ⟨#[]⟩, .slice none 0 0] := by
 first | kernel_rfl | simp [Builtin.zeroCells, Value.cells]
theorem drop_erase (l : List Nm) (k : Nat) (hk : k < l.length) : ncs (l.eraseIdx k) = ncs (l.take k) ++ ncs (l.drop (k + 1)) := by
 rw [← ncs_append, List.eraseIdx_eq_take_drop_succ]
set_option maxHeartbeats 4000000 in
theorem delete_any (H : Nat) (v : Value) (l : List Nm) (k : Nat) (w : World) (hown : w.ownsRow H 36 10 v l.length (ncs l)) (hk : k < l.length) (hl : l.length ≤ 1000) (hok : ∀ x ∈ l, x.ok w) :
  Calls Tryz.prog 99 #[v, I6 (k : Int), I6 ((k : Int) + 1)] w fun e w' => ∃ v', e = .returned v' ∧ w'.ownsRow H 36 10 v' (l.length - 1) (ncs (l.eraseIdx k)) ∧ v'.ownBlock = v.ownBlock ∧
   Keeps (fun b => v.ownBlock = some b) w w' := by
 obtain ⟨i0, hi, hz0, hz1, hz2⟩ := info_parts Tryz.infoMessage
 rcases hown.2 with ⟨_, h0⟩ | ⟨g, cap, cur, rfl, hbg, hg, hnc, hcm, hcs, htake⟩
 ·omega
 have hgf := blk_free hg
 have q0 : (0 : Int) ≤ (k : Int) := by omega
 have q1 : (k : Int) + 1 ≤ (l.length : Int) := by omega
 have q2 : (l.length : Int) ≤ (cap : Int) := by omega
 have q3 : (k : Int) ≤ (l.length : Int) := by omega
 have q4 : (k : Int) ≤ (cap : Int) := by omega
 have q5 : (k : Int) + 1 ≤ (cap : Int) := by omega
 go_enter Tryz.func99, Tryz.ntmps99
 go_wp2_with fail
 have hdrop : ∀ j u, (ncs (l.drop (k + 1)))[j]? = some u → w.drew.cell? ⟨g, (k + 1) * 10 + j, none⟩ = some u := fun j u hu => by
  show w.cell? _ = _
  rw [blk_cell hg, ← Array.getElem?_toList]
  have hjl : j < (l.length - (k + 1)) * 10 := by have := (List.getElem?_eq_some_iff.1 hu).1; rw [ncs_length, List.length_drop] at this; exact this
  have e2 : cur.toList[(k + 1) * 10 + j]? = (cur.toList.take (l.length * 10))[(k + 1) * 10 + j]? := by rw [List.getElem?_take, if_pos (by omega)]
  have e3 : ncs l = ncs (l.take (k + 1)) ++ ncs (l.drop (k + 1)) := by rw [← ncs_append, List.take_append_drop]
  have e4 : (ncs (l.take (k + 1))).length = (k + 1) * 10 := by rw [ncs_length, List.length_take, Nat.min_eq_left (by omega)]
  rw [e2, htake, e3, List.getElem?_append_right (by omega), e4, Nat.add_sub_cancel_left]
  exact hu
 have hdl : (ncs (l.drop (k + 1))).length = (l.length - (k + 1)) * 10 := by rw [ncs_length, List.length_drop]
 have hd1 : ∀ u ∈ ncs (l.drop (k + 1)), u.oneCell' = true := ncs_one _ (fun x hx => hok x (List.mem_of_mem_drop hx))
 have hsp : ∀ j, j < (ncs (l.drop (k + 1))).length → (w.drew.cell? (A6 g (0 + k * 10 + j))).isSome = true ∧ w.drew.frozen? (A6 g (0 + k * 10 + j)) = false := fun j hj => by
  refine ⟨?_, hgf _⟩
  show (w.cell? _).isSome = true
  rw [blk_cell hg, Array.getElem?_eq_getElem (by omega)]
  rfl
 have q6 : (0 : Int) ≤ (k : Int) + 1 := by omega
 by_cases hce : cap = k + 1
 ·have hl1 : l.length = k + 1 := by omega
  have q7 : (k : Int) ≤ (k : Int) + 1 := by omega
  have q9 : l.length - (k + 1) = 0 := by omega
  have q10 : cap - (k + 1) = 0 := by omega
  refine wp_region_held_drew (S := fun _ => True) (by kernel_rfl) (trivial) (fun hS => ?_)
  refine tk 0 rfl hS (v := .slice (some (A6 g 0)) l.length cap) (fun w' hw => by clear hS; go_simp) ?_
  try simp only [ly]
  refine tk 1 rfl hS (v := I6 (k : Int)) (fun w' hw => by clear hS; go_simp) ?_
  try simp only [ly]
  refine tk 2 rfl hS (v := .slice (some (A6 g 0)) k cap) (fun w' hw => by clear hS; go_simp) ?_
  try simp only [ly]
  refine tk 3 rfl hS (v := .slice (some (A6 g 0)) l.length cap) (fun w' hw => by clear hS; go_simp) ?_
  try simp only [ly]
  refine tk 4 rfl hS (v := I6 ((k : Int) + 1)) (fun w' hw => by clear hS; go_simp) ?_
  try simp only [ly]
  refine tk 5 rfl hS (v := .slice (some (A6 g 0)) 0 0) (fun w' hw => by clear hS; go_simp) ?_
  try simp only [ly]
  refine r1 6 rfl (fun K hK => ?_)
  refine step_append_room rfl (.tmp 22) (.tmp 25) 50 rfl 36 i0 10 Tryz.underlying50 hi hz1 g 0 k cap rfl (A6 g 0) 0 0 [] rfl (by simp) (fun j u hu => by simp at hu) (by simp) (by omega) (by simp) ?_
  refine hK.out _ _ trivial (fun hS => ?_)
  clear hK K
  try simp only [ly]
  refine r1 7 rfl (fun K hK => ?_)
  go_simp
  refine hK.out _ _ trivial (fun hS => ?_)
  clear hK K
  try simp only [ly]
  refine dn ?_ _
  simp only [World.setCells]
  have hg1 : w.drew.heap[g]? = some (.cells cur 36 (0, 0)) := hg
  have hK1 := Keeps.refl (fun b => (Value.slice (some (A6 g 0)) l.length cap).ownBlock = some b) w.drew
  have hK0 : Keeps (fun b => (Value.slice (some (A6 g 0)) l.length cap).ownBlock = some b) w w.drew := ⟨rfl, rfl, rfl, Nat.le_refl _, fun _ _ _ => rfl⟩
  generalize w.drew = w1 at *
  have e9 : l.length - 1 = k := by omega
  have ht1 : cur.toList.take (k * 10) = ncs (l.eraseIdx k) := by
   have hd0 : l.drop (k + 1) = [] := List.drop_of_length_le (by omega)
   rw [drop_erase l k hk, hd0]
   have : cur.toList.take (k * 10) = (cur.toList.take (l.length * 10)).take (k * 10) := by rw [List.take_take, Nat.min_eq_left (by omega)]
   rw [this, htake]
   have e3 : ncs l = ncs (l.take k) ++ ncs (l.drop k) := by rw [← ncs_append, List.take_append_drop]
   have e4 : (ncs (l.take k)).length = k * 10 := by rw [ncs_length, List.length_take, Nat.min_eq_left (by omega)]
   rw [e3, ← e4]; simp [ncs]
  have hf1 := blk_free hg1
  have hcl : ∀ j, j < (Builtin.zeroCells (Value.agg #[I6 0, I6 0, I6 0, I6 0, I6 0, I6 0, I6 0, I6 0, .string ⟨#[]⟩, .slice none 0 0]).cells 1).toList.length → (w1.cell? (A6 g (k * 10 + j))).isSome = true := fun j hj => by
   rw [blk_cell hg1, Array.getElem?_eq_getElem (by have hj' : j < 10 := (by rw [zeroM] at hj; exact hj); omega)]
   rfl
  have hfl : ∀ j, j < (Builtin.zeroCells (Value.agg #[I6 0, I6 0, I6 0, I6 0, I6 0, I6 0, I6 0, I6 0, .string ⟨#[]⟩, .slice none 0 0]).cells 1).toList.length → w1.frozen? (A6 g (k * 10 + j)) = false := fun j _ => hf1 _
  have hzv : (zeroValue 36).run Tryz.prog w1 = .ok (.agg #[I6 0, I6 0, I6 0, I6 0, I6 0, I6 0, I6 0, I6 0, .string ⟨#[]⟩, .slice none 0 0]) w1 := by simp [zeroValue, typeInfo, hi, hz0]
  have h1z : ∀ v ∈ (Builtin.zeroCells (Value.agg #[I6 0, I6 0, I6 0, I6 0, I6 0, I6 0, I6 0, I6 0, .string ⟨#[]⟩, .slice none 0 0]).cells 1).toList, v.oneCell' = true := by
   intro v hv
   have hv' : v ∈ [I6 0, I6 0, I6 0, I6 0, I6 0, I6 0, I6 0, I6 0, .string ⟨#[]⟩, .slice none 0 0] := (by rw [zeroM] at hv; exact hv)
   simp at hv'
   rcases hv' with rfl | rfl | rfl <;> rfl
  have hzl : (Builtin.zeroCells (Value.agg #[I6 0, I6 0, I6 0, I6 0, I6 0, I6 0, I6 0, I6 0, .string ⟨#[]⟩, .slice none 0 0]).cells 1).toList.length = 10 := by rw [zeroM]; rfl
  generalize hZZ : (Builtin.zeroCells (Value.agg #[I6 0, I6 0, I6 0, I6 0, I6 0, I6 0, I6 0, I6 0, .string ⟨#[]⟩, .slice none 0 0]).cells 1).toList = zz at *
  have HZ := show Hid (_ = zz) from hZZ
  clear hdrop hdl hd1 hsp hf1 hZZ
  have hcl' : Hid (∀ j, j < zz.length → (w1.cell? (A6 g (k * 10 + j))).isSome = true) := hcl
  have hfl' : Hid (∀ j, j < zz.length → w1.frozen? (A6 g (k * 10 + j)) = false) := hfl
  have hzv' : Hid ((zeroValue 36).run Tryz.prog w1 = .ok (.agg #[I6 0, I6 0, I6 0, I6 0, I6 0, I6 0, I6 0, I6 0, .string ⟨#[]⟩, .slice none 0 0]) w1) := hzv
  have h1z' : Hid (∀ v ∈ zz, v.oneCell' = true) := h1z
  clear hcl hfl hzv h1z
  have r2 : ¬ (k + 1 = k) := by omega
  go_upto_region 7 with (refine wpList_clear_many rfl (.tmp 31) 50 rfl 36 _ Tryz.underlying50 hzv'.out g (k * 10) 1 1 rfl (by decide) (by rw [HZ.out]; exact hcl'.out) (by rw [HZ.out]; exact hfl'.out) (by rw [HZ.out]; exact h1z'.out) ?_; simp only [Act.put])
  rw [HZ.out]
  go_wp2_with fail
  go_ret
  rw [e9]
  refine ⟨_, rfl, ⟨by rw [ncs_length, List.length_eraseIdx_of_lt hk, e9], .inr ⟨g, k + 1, _, rfl, hbg, setCells_self g 36 zz (k * 10) w1 cur hg1 (by omega), by omega, by omega, ?_, ?_⟩⟩, rfl, ?_⟩
  ·rw [List.size_toArray]
   simp only [List.length_append, List.length_take, List.length_drop, Array.length_toList]
   omega
  ·rw [List.toList_toArray, ht1, List.append_assoc]
   have e6 : (ncs (l.eraseIdx k)).length = k * 10 := by rw [ncs_length, List.length_eraseIdx_of_lt hk, e9]
   rw [← e6]
   exact List.take_left
  ·exact Keeps.trans hK0 (hK1.trans (Keeps.ofSets (P := fun b => (Value.slice (some (A6 g 0)) l.length cap).ownBlock = some b) g rfl zz (k * 10) w1))
 ·have hce' : ¬ (cap = k + 1) := hce
  refine wp_region_held_drew (S := fun _ => True) (by kernel_rfl) (trivial) (fun hS => ?_)
  refine tk 0 rfl hS (v := .slice (some (A6 g 0)) l.length cap) (fun w' hw => by clear hS; go_simp) ?_
  try simp only [ly]
  refine tk 1 rfl hS (v := I6 (k : Int)) (fun w' hw => by clear hS; go_simp) ?_
  try simp only [ly]
  refine tk 2 rfl hS (v := .slice (some (A6 g 0)) k cap) (fun w' hw => by clear hS; go_simp) ?_
  try simp only [ly]
  refine tk 3 rfl hS (v := .slice (some (A6 g 0)) l.length cap) (fun w' hw => by clear hS; go_simp) ?_
  try simp only [ly]
  refine tk 4 rfl hS (v := I6 ((k : Int) + 1)) (fun w' hw => by clear hS; go_simp) ?_
  try simp only [ly]
  refine tk 5 rfl hS (v := .slice (some ⟨g, (k + 1) * 10, none⟩) (l.length - (k + 1)) (cap - (k + 1))) (fun w' hw => by clear hS; go_simp) ?_
  try simp only [ly]
  refine r1 6 rfl (fun K hK => ?_)
  refine step_append_room rfl (.tmp 22) (.tmp 25) 50 rfl 36 i0 10 Tryz.underlying50 hi hz1 g 0 k cap rfl ⟨g, (k + 1) * 10, none⟩ (l.length - (k + 1)) (cap - (k + 1)) (ncs (l.drop (k + 1))) rfl hdl (fun j u hu => by rw [Addr.add_mid]; exact hdrop j u hu) hd1 (by omega) hsp ?_
  refine hK.out _ _ trivial (fun hS => ?_)
  clear hK K
  try simp only [ly]
  refine r1 7 rfl (fun K hK => ?_)
  go_simp
  refine hK.out _ _ trivial (fun hS => ?_)
  clear hK K
  try simp only [ly]
  refine dn ?_ _
  have hp : k + (l.length - (k + 1)) = l.length - 1 := by omega
  have hp1 : l.length - (l.length - 1) = 1 := by omega
  rw [hp]
  have e0 : 0 + k * 10 = k * 10 := by omega
  rw [e0] at hsp
  have hg1 := setCells_self g 36 (ncs (l.drop (k + 1))) (k * 10) w.drew cur hg (by omega)
  have hK1 := Keeps.ofSets (P := fun b => (Value.slice (some (A6 g 0)) l.length cap).ownBlock = some b) g rfl (ncs (l.drop (k + 1))) (k * 10) w.drew
  generalize w.drew.setCells g (k * 10) (ncs (l.drop (k + 1))) = w1 at *
  obtain ⟨cur1, hcur1⟩ : ∃ c1 : Array Value, c1 = (cur.toList.take (k * 10) ++ ncs (l.drop (k + 1)) ++ cur.toList.drop (k * 10 + (ncs (l.drop (k + 1))).length)).toArray := ⟨_, rfl⟩
  rw [← hcur1] at hg1
  have hs1 : cur1.size = cap * 10 := by
   rw [hcur1, List.size_toArray]
   simp only [List.length_append, List.length_take, List.length_drop, Array.length_toList]
   omega
  have ht1 : cur1.toList.take ((l.length - 1) * 10) = ncs (l.eraseIdx k) := by
   rw [hcur1, List.toList_toArray, drop_erase l k hk]
   have e1 : cur.toList.take (k * 10) = ncs (l.take k) := by
    have : cur.toList.take (k * 10) = (cur.toList.take (l.length * 10)).take (k * 10) := by rw [List.take_take, Nat.min_eq_left (by omega)]
    rw [this, htake]
    have e3 : ncs l = ncs (l.take k) ++ ncs (l.drop k) := by rw [← ncs_append, List.take_append_drop]
    have e4 : (ncs (l.take k)).length = k * 10 := by rw [ncs_length, List.length_take, Nat.min_eq_left (by omega)]
    rw [e3, ← e4]; exact List.take_left
   rw [e1]
   have e5 : (ncs (l.take k) ++ ncs (l.drop (k + 1))).length = (l.length - 1) * 10 := by
    rw [List.length_append, ncs_length, hdl, List.length_take, Nat.min_eq_left (by omega)]; omega
   rw [← e5]; exact List.take_left
  have hf1 := blk_free hg1
  have hcl : ∀ j, j < (Builtin.zeroCells (Value.agg #[I6 0, I6 0, I6 0, I6 0, I6 0, I6 0, I6 0, I6 0, .string ⟨#[]⟩, .slice none 0 0]).cells 1).toList.length → (w1.cell? ⟨g, (l.length - 1) * 10 + j, none⟩).isSome = true := fun j hj => by
   rw [blk_cell hg1, Array.getElem?_eq_getElem (by have hj' : j < 10 := (by rw [zeroM] at hj; exact hj); omega)]
   rfl
  have hfl : ∀ j, j < (Builtin.zeroCells (Value.agg #[I6 0, I6 0, I6 0, I6 0, I6 0, I6 0, I6 0, I6 0, .string ⟨#[]⟩, .slice none 0 0]).cells 1).toList.length → w1.frozen? ⟨g, (l.length - 1) * 10 + j, none⟩ = false := fun j _ => hf1 _
  have hzv : (zeroValue 36).run Tryz.prog w1 = .ok (.agg #[I6 0, I6 0, I6 0, I6 0, I6 0, I6 0, I6 0, I6 0, .string ⟨#[]⟩, .slice none 0 0]) w1 := by simp [zeroValue, typeInfo, hi, hz0]
  have h1z : ∀ v ∈ (Builtin.zeroCells (Value.agg #[I6 0, I6 0, I6 0, I6 0, I6 0, I6 0, I6 0, I6 0, .string ⟨#[]⟩, .slice none 0 0]).cells 1).toList, v.oneCell' = true := by
   intro v hv
   have hv' : v ∈ [I6 0, I6 0, I6 0, I6 0, I6 0, I6 0, I6 0, I6 0, .string ⟨#[]⟩, .slice none 0 0] := (by rw [zeroM] at hv; exact hv)
   simp at hv'
   rcases hv' with rfl | rfl | rfl <;> rfl
  have hzl : (Builtin.zeroCells (Value.agg #[I6 0, I6 0, I6 0, I6 0, I6 0, I6 0, I6 0, I6 0, .string ⟨#[]⟩, .slice none 0 0]).cells 1).toList.length = 10 := by rw [zeroM]; rfl
  generalize hZZ : (Builtin.zeroCells (Value.agg #[I6 0, I6 0, I6 0, I6 0, I6 0, I6 0, I6 0, I6 0, .string ⟨#[]⟩, .slice none 0 0]).cells 1).toList = zz at *
  have HZ := show Hid (_ = zz) from hZZ
  clear hdrop hdl hd1 hsp hf1 hZZ
  have hcl' : Hid (∀ j, j < zz.length → (w1.cell? ⟨g, (l.length - 1) * 10 + j, none⟩).isSome = true) := hcl
  have hfl' : Hid (∀ j, j < zz.length → w1.frozen? ⟨g, (l.length - 1) * 10 + j, none⟩ = false) := hfl
  have hzv' : Hid ((zeroValue 36).run Tryz.prog w1 = .ok (.agg #[I6 0, I6 0, I6 0, I6 0, I6 0, I6 0, I6 0, I6 0, .string ⟨#[]⟩, .slice none 0 0]) w1) := hzv
  have h1z' : Hid (∀ v ∈ zz, v.oneCell' = true) := h1z
  clear hcl hfl hzv h1z
  have r1 : ((l.length - 1 : Nat) : Int) ≤ (l.length : Int) := by omega
  have r2 : ¬ (cap = l.length - 1) := by omega
  go_upto_region 7 with (refine wpList_clear_many rfl (.tmp 31) 50 rfl 36 _ Tryz.underlying50 hzv'.out g ((l.length - 1) * 10) 1 (cap - (l.length - 1)) rfl (by decide) (by rw [HZ.out]; exact hcl'.out) (by rw [HZ.out]; exact hfl'.out) (by rw [HZ.out]; exact h1z'.out) ?_; simp only [Act.put])
  rw [HZ.out]
  go_wp2_with fail
  go_ret
  refine ⟨_, rfl, ⟨by rw [ncs_length, List.length_eraseIdx_of_lt hk], .inr ⟨g, cap, _, rfl, hbg, setCells_self g 36 zz ((l.length - 1) * 10) w1 cur1 hg1 (by omega), by omega, hcm, ?_, ?_⟩⟩, rfl, ?_⟩
  ·rw [List.size_toArray]
   simp only [List.length_append, List.length_take, List.length_drop, Array.length_toList]
   omega
  ·rw [List.toList_toArray, ht1, List.append_assoc]
   have e6 : (ncs (l.eraseIdx k)).length = (l.length - 1) * 10 := by rw [ncs_length, List.length_eraseIdx_of_lt hk]
   rw [← e6]
   exact List.take_left
  ·exact Keeps.trans (w1 := w.drew) ⟨rfl, rfl, rfl, Nat.le_refl _, fun _ _ _ => rfl⟩ (hK1.trans (Keeps.ofSets (P := fun b => (Value.slice (some (A6 g 0)) l.length cap).ownBlock = some b) g rfl zz ((l.length - 1) * 10) w1))
end
end Go.Proofs.YtnnhnekfokbooaaGreatDoor
