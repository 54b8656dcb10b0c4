/- The law's told: Net (laid by mklawj.py). The walk of the document's New with a wrong number. The walk of the document's New with a right number. (Joined by merge.py.) -/
import Derived.Test.YtnnhnekfokbooaaGreatDoorVo45
import Derived.Test.YtnnhnekfokbooaaGreatDoorVo01
import Derived.Test.YtnnhnekfokbooaaGreatDoorVo28
import Derived.OwnWalk
namespace Go.Proofs.YtnnhnekfokbooaaGreatDoor
open List (getElem_toArray getElem_cons_zero getElem_cons_succ setIfInBounds_toArray set_cons_zero set_cons_succ)
open Go.RowKit
set_option linter.unusedSimpArgs false
set_option linter.unusedVariables false

/-- A row of messages, read. -/
theorem ncs_read {w : World} {base : Nat} {v : Value} {l : List Nm} (h : w.ownsRow base 36 10 v l.length (ncs l)) : ∃ ao cap, v = .slice ao l.length cap ∧ (0 < l.length → ∃ g, ao = some ⟨g, 0, none⟩ ∧ g < w.heap.size ∧ ∀ j (hj : j < l.length), ∀ i, i < 10 → w.cell? ⟨g, j * 10 + i, none⟩ = l[j].cells[i]?) := by
 rcases h.2 with ⟨rfl, h0⟩ | ⟨g, cap, cur, rfl, _, hg, _, _, hcs, htk⟩
 ·exact ⟨none, 0, by rw [h0], fun h => by omega⟩
 ·refine ⟨_, cap, rfl, fun _ => ⟨g, rfl, lt_of_block hg, fun j hj i hi => ?_⟩⟩
  rw [blk_cell hg, ← Array.getElem?_toList]
  have e1 : cur.toList[j * 10 + i]? = (cur.toList.take (l.length * 10))[j * 10 + i]? := by rw [List.getElem?_take, if_pos (by omega)]
  rw [e1, htk]; exact ncs_at l j hj i hi
set_option maxHeartbeats 4000000 in
set_option maxRecDepth 100000 in
theorem told_net {w : World} {wb H : Nat} {d : Wd} {p : Pr} (hW : WAt w wb H d) (h : PAt w p) (o : Opd) (ho : ∃ ao n cap, o.v = .slice ao n cap) (hk : o.k = 4) (hlN : d.N.length ≤ 4000000000000) (hlV : d.V.length ≤ 4000000000000) :
  Calls Tryz.prog 13 #[.pointer (some ⟨wb, 0, none⟩), .agg #[.pointer (some ⟨p.sb, 0, none⟩), .pointer (some ⟨p.qb, 0, none⟩)], .agg o.cells.toArray] w fun e w' => e = .returned (.bool true) ∧ WTo w wb H d w' := by
 have hC := fun W (hS : SynAt W p.sb p.L p.s) => net_syn hS
 have hQ : True := trivial
 obtain ⟨ok, on, oa, ob, os, ⟨pc, pq, ph, pt9⟩, ⟨mk, mf, mt, mb, ms, ⟨mc, mq, mh, mx⟩, ma⟩, v⟩ := o
 obtain ⟨va, vn, vc, hve⟩ := ho
 simp only at hve hk
 subst hve hk
 try simp only [pt] at hC hQ
 simp only [Opd.cells]
 have hB2 : Below w.heap.size w ((w.alloc (.cells #[.pointer (some ⟨p.sb, 0, none⟩), .pointer (some ⟨p.qb, 0, none⟩)] 47)).alloc (.cells #[.int .i64 4, .int .i64 on, .int .i64 oa, .int .i64 ob, .string os, .int .i64 pc, .int .i64 pq, .int .i64 ph, .string pt9, .int .i64 mk, .int .i64 mf, .int .i64 mt, .int .i64 mb, .int .i64 ms, .int .i64 mc, .int .i64 mq, .int .i64 mh, .string mx, .slice va vn vc] 38)) := ((Below.refl _ w).alloc (Nat.le_refl _) _).alloc (by simp) _
 have h2 := h.below hB2
 have hbp : ((w.alloc (.cells #[.pointer (some ⟨p.sb, 0, none⟩), .pointer (some ⟨p.qb, 0, none⟩)] 47)).alloc (.cells #[.int .i64 4, .int .i64 on, .int .i64 oa, .int .i64 ob, .string os, .int .i64 pc, .int .i64 pq, .int .i64 ph, .string pt9, .int .i64 mk, .int .i64 mf, .int .i64 mt, .int .i64 mb, .int .i64 ms, .int .i64 mc, .int .i64 mq, .int .i64 mh, .string mx, .slice va vn vc] 38)).heap[w.heap.size]? = some (.cells #[.pointer (some ⟨p.sb, 0, none⟩), .pointer (some ⟨p.qb, 0, none⟩)] 47 (0, 0)) := blk_alloc (blk_new w (.cells #[.pointer (some ⟨p.sb, 0, none⟩), .pointer (some ⟨p.qb, 0, none⟩)] 47)) _
 have hbo : ((w.alloc (.cells #[.pointer (some ⟨p.sb, 0, none⟩), .pointer (some ⟨p.qb, 0, none⟩)] 47)).alloc (.cells #[.int .i64 4, .int .i64 on, .int .i64 oa, .int .i64 ob, .string os, .int .i64 pc, .int .i64 pq, .int .i64 ph, .string pt9, .int .i64 mk, .int .i64 mf, .int .i64 mt, .int .i64 mb, .int .i64 ms, .int .i64 mc, .int .i64 mq, .int .i64 mh, .string mx, .slice va vn vc] 38)).heap[w.heap.size + 1]? = some (.cells #[.int .i64 4, .int .i64 on, .int .i64 oa, .int .i64 ob, .string os, .int .i64 pc, .int .i64 pq, .int .i64 ph, .string pt9, .int .i64 mk, .int .i64 mf, .int .i64 mt, .int .i64 mb, .int .i64 ms, .int .i64 mc, .int .i64 mq, .int .i64 mh, .string mx, .slice va vn vc] 38 (0, 0)) := by
  have := blk_new (w.alloc (.cells #[.pointer (some ⟨p.sb, 0, none⟩), .pointer (some ⟨p.qb, 0, none⟩)] 47)) (.cells #[.int .i64 4, .int .i64 on, .int .i64 oa, .int .i64 ob, .string os, .int .i64 pc, .int .i64 pq, .int .i64 ph, .string pt9, .int .i64 mk, .int .i64 mf, .int .i64 mt, .int .i64 mb, .int .i64 ms, .int .i64 mc, .int .i64 mq, .int .i64 mh, .string mx, .slice va vn vc] 38)
  rwa [World.size_alloc] at this
 have hbpc := blk_cell hbp
 have hboc := blk_cell hbo
 have hlt2 := lt_of_block hbo
 go_enter Tryz.func13, Tryz.ntmps13
 go_wp2_with fail
 generalize ((w.alloc (.cells #[.pointer (some ⟨p.sb, 0, none⟩), .pointer (some ⟨p.qb, 0, none⟩)] 47)).alloc (.cells #[.int .i64 4, .int .i64 on, .int .i64 oa, .int .i64 ob, .string os, .int .i64 pc, .int .i64 pq, .int .i64 ph, .string pt9, .int .i64 mk, .int .i64 mf, .int .i64 mt, .int .i64 mb, .int .i64 ms, .int .i64 mc, .int .i64 mq, .int .i64 mh, .string mx, .slice va vn vc] 38)) = w2 at *
 clear hQ
 refine (hC _ h2.syn).mono ?_
 rintro e w3 ⟨v3, l, rfl, hlm, hel, hdis, hown3, hB3⟩
 clear hC hbpc hboc
 have h3 := h2.below hB3
 have hbp3 := blk_below hB3 hbp
 have hP1 : w3.cell? ⟨w.heap.size, 1, none⟩ = some (.pointer (some ⟨p.qb, 0, none⟩)) := (blk_cell hbp3 1).trans rfl
 have hp3 : w.heap.size < w3.heap.size := lt_of_block hbp3
 obtain ⟨l2, hlm2, hown2, hok2⟩ := h3.ref.net
 have hll : l.length = p.s.net.length := by rw [← hlm, List.length_map]
 have hll2 : l2.length = l.length := by rw [hll, ← h.sim.net, ← hlm2, List.length_map]
 have hfull := h.syn.ok.full
 have hsame : ∀ j (hj : j < l.length) (hj2 : j < l2.length), l2[j].m = l[j].m := fun j hj hj2 => by
  have e1 : l[j]?.map (·.m) = p.s.net[j]? := by rw [← hlm, List.getElem?_map]
  have e2 : l2[j]?.map (·.m) = p.s.net[j]? := by rw [← h.sim.net, ← hlm2, List.getElem?_map]
  rw [List.getElem?_eq_getElem hj] at e1
  rw [List.getElem?_eq_getElem hj2] at e2
  rw [← e1] at e2
  simpa using e2
 obtain ⟨ga, gc, hv3, hrd⟩ := ncs_read hown3
 obtain ⟨qa, qc, hv2, hrd2⟩ := ncs_read hown2
 have hQ1 : w3.cell? ⟨p.qb, 1, none⟩ = some (.slice qa l.length qc) := by rw [← hll2, ← hv2]; exact (blk_cell h3.ref.syn 1).trans rfl
 have hq3 : p.qb < w3.heap.size := lt_of_block h3.ref.syn
 subst hv3
 have Hrd : Hid (0 < l.length → ∃ g, ga = some ⟨g, 0, none⟩ ∧ g < w3.heap.size ∧ ∀ j (hj : j < l.length), ∀ i, i < 10 → w3.cell? ⟨g, j * 10 + i, none⟩ = l[j].cells[i]?) := hrd
 have Hrd2 : Hid (0 < l.length → ∃ g, qa = some ⟨g, 0, none⟩ ∧ g < w3.heap.size ∧ ∀ j (hj : j < l2.length), ∀ i, i < 10 → w3.cell? ⟨g, j * 10 + i, none⟩ = l2[j].cells[i]?) := fun h0 => hrd2 (by omega)
 have Hel : Hid (∀ i (hi : i < l.length), w3.ownsRow w2.heap.size 53 6 l[i].v l[i].m.a.length (vcells l[i].m.a)) := hel
 have Hdis : Hid (∀ i j (hi : i < l.length) (hj : j < l.length) g, i < j → l[i].v.ownBlock = some g → l[j].v.ownBlock ≠ some g) := hdis
 have Hok2 : Hid (∀ y ∈ l2, y.okt w3) := hok2
 have Hsame : Hid (∀ j (hj : j < l.length) (hj2 : j < l2.length), l2[j].m = l[j].m) := hsame
 have Hal : Hid (∀ i (hi : i < l.length), l[i].m.a.length ≤ 16) := fun i hi => by
  have hm : l[i].m ∈ p.s.net := by rw [← hlm]; exact List.mem_map.2 ⟨l[i], List.getElem_mem hi, rfl⟩
  exact (h.syn.ok.net _ hm).a
 have hl200 : l.length ≤ 200 := by omega
 have Hll2 : Hid (l2.length = l.length) := hll2
 clear hrd hrd2 hel hdis hok2 hsame hlm hlm2 hown2 hll hll2 hfull
 go_wp2_with fail
 go_loopw [8, 9] (fun sv iv wr => ∃ j : Nat, j ≤ l.length ∧ sv = .bool true ∧ iv = .int .i64 j ∧ Below w3.heap.size w3 wr) (fun _ iv _ => l.length - (intOf iv).toNat)
 case atStart => exact ⟨0, Nat.zero_le _, by simp, rfl, Below.refl _ _⟩
 case round =>
  obtain ⟨j, hj, rfl, rfl, hBj⟩ := hrel
  by_cases hjn : j < l.length
  ·obtain ⟨g, rfl, hg3, hgc⟩ := Hrd.out (by omega)
   obtain ⟨gq, rfl, hgq3, hqc⟩ := Hrd2.out (by omega)
   have hj2 : j < l2.length := by rw [Hll2.out]; exact hjn
   have hcr := hgc j hjn
   have hcr2 := hqc j hj2
   have hsm := Hsame.out j hjn hj2
   have hva : VAt w3 l[j].v l[j].m.a := owns_vat (Hel.out j hjn) (by have := Hal.out j hjn; omega)
   have hvb : VAt w3 l2[j].v l[j].m.a := by rw [← hsm]; exact (Hok2.out _ (List.getElem_mem hj2)).1.1
   clear hgc hqc
   generalize l2[j] = y2 at *
   generalize l[j] = y1 at *
   obtain ⟨⟨mk9, mf9, mt9, mb9, ms9, ⟨mc9, mq9, mh9, mx9⟩, ma9⟩, xv⟩ := y1
   obtain ⟨m2, xv2⟩ := y2
   simp only at hsm hva hvb
   subst hsm
   obtain ⟨xa, xc, rfl, _⟩ := hva.form
   obtain ⟨ya, yc, rfl, _⟩ := hvb.form
   have c0 : w3.cell? ⟨g, j * 10, none⟩ = some (.int .i64 mk9) := hcr 0 (by decide)
   have c1 : w3.cell? ⟨g, j * 10 + 1, none⟩ = some (.int .i64 mf9) := hcr 1 (by decide)
   have c2 : w3.cell? ⟨g, j * 10 + 2, none⟩ = some (.int .i64 mt9) := hcr 2 (by decide)
   have c3 : w3.cell? ⟨g, j * 10 + 3, none⟩ = some (.int .i64 mb9) := hcr 3 (by decide)
   have c4 : w3.cell? ⟨g, j * 10 + 4, none⟩ = some (.int .i64 ms9) := hcr 4 (by decide)
   have c5 : w3.cell? ⟨g, j * 10 + 5, none⟩ = some (.int .i64 mc9) := hcr 5 (by decide)
   have c6 : w3.cell? ⟨g, j * 10 + 6, none⟩ = some (.int .i64 mq9) := hcr 6 (by decide)
   have c7 : w3.cell? ⟨g, j * 10 + 7, none⟩ = some (.int .i64 mh9) := hcr 7 (by decide)
   have c8 : w3.cell? ⟨g, j * 10 + 8, none⟩ = some (.string mx9) := hcr 8 (by decide)
   have c9 : w3.cell? ⟨g, j * 10 + 9, none⟩ = some (.slice xa ma9.length xc) := hcr 9 (by decide)
   have e0 : w3.cell? ⟨gq, j * 10, none⟩ = some (.int .i64 mk9) := hcr2 0 (by decide)
   have e1 : w3.cell? ⟨gq, j * 10 + 1, none⟩ = some (.int .i64 mf9) := hcr2 1 (by decide)
   have e2 : w3.cell? ⟨gq, j * 10 + 2, none⟩ = some (.int .i64 mt9) := hcr2 2 (by decide)
   have e3 : w3.cell? ⟨gq, j * 10 + 3, none⟩ = some (.int .i64 mb9) := hcr2 3 (by decide)
   have e4 : w3.cell? ⟨gq, j * 10 + 4, none⟩ = some (.int .i64 ms9) := hcr2 4 (by decide)
   have e5 : w3.cell? ⟨gq, j * 10 + 5, none⟩ = some (.int .i64 mc9) := hcr2 5 (by decide)
   have e6 : w3.cell? ⟨gq, j * 10 + 6, none⟩ = some (.int .i64 mq9) := hcr2 6 (by decide)
   have e7 : w3.cell? ⟨gq, j * 10 + 7, none⟩ = some (.int .i64 mh9) := hcr2 7 (by decide)
   have e8 : w3.cell? ⟨gq, j * 10 + 8, none⟩ = some (.string mx9) := hcr2 8 (by decide)
   have e9 : w3.cell? ⟨gq, j * 10 + 9, none⟩ = some (.slice ya ma9.length yc) := hcr2 9 (by decide)
   clear hcr hcr2
   have q0 : (0 : Int) ≤ (j : Int) := by omega
   have q1 : (j : Int) < (l.length : Int) := by omega
   have hSm := sameMessage_same ⟨mk9, mf9, mt9, mb9, ms9, ⟨mc9, mq9, mh9, mx9⟩, ma9⟩ (.slice xa ma9.length xc) (.slice ya ma9.length yc) wr.drew (hva.below hBj.drew) (hvb.below hBj.drew)
   dsimp only at hSm
   go_wp2_with fail
   refine wp_region_held_drew (S := fun w' => Below w3.heap.size w3 w') (by kernel_rfl) (hBj.drew) (fun hS => ?_)
   refine tk 0 rfl hS (v := ?_) (fun w' hw => ?_) ?_
   rotate_left 1
   ·go_simp; all_goals with_reducible rfl
   try simp only [Act.put, getElem_toArray, getElem_cons_zero, getElem_cons_succ, setIfInBounds_toArray, set_cons_zero, set_cons_succ]
   refine tk 1 rfl hS (v := ?_) (fun w' hw => ?_) ?_
   rotate_left 1
   ·go_simp; all_goals with_reducible rfl
   try simp only [Act.put, getElem_toArray, getElem_cons_zero, getElem_cons_succ, setIfInBounds_toArray, set_cons_zero, set_cons_succ]
   refine tk 2 rfl hS (v := ?_) (fun w' hw => ?_) ?_
   rotate_left 1
   ·go_simp; all_goals with_reducible rfl
   try simp only [Act.put, getElem_toArray, getElem_cons_zero, getElem_cons_succ, setIfInBounds_toArray, set_cons_zero, set_cons_succ]
   refine tk 3 rfl hS (v := ?_) (fun w' hw => ?_) ?_
   rotate_left 1
   ·have f0 := (hw.cell (p := ⟨g, j * 10, none⟩) hg3).trans c0; have f1 := (hw.cell (p := ⟨g, j * 10 + 1, none⟩) hg3).trans c1; have f2 := (hw.cell (p := ⟨g, j * 10 + 2, none⟩) hg3).trans c2; have f3 := (hw.cell (p := ⟨g, j * 10 + 3, none⟩) hg3).trans c3; have f4 := (hw.cell (p := ⟨g, j * 10 + 4, none⟩) hg3).trans c4; have f5 := (hw.cell (p := ⟨g, j * 10 + 5, none⟩) hg3).trans c5; have f6 := (hw.cell (p := ⟨g, j * 10 + 6, none⟩) hg3).trans c6; have f7 := (hw.cell (p := ⟨g, j * 10 + 7, none⟩) hg3).trans c7; have f8 := (hw.cell (p := ⟨g, j * 10 + 8, none⟩) hg3).trans c8; have f9 := (hw.cell (p := ⟨g, j * 10 + 9, none⟩) hg3).trans c9; go_simp; all_goals with_reducible rfl
   try simp only [Act.put, getElem_toArray, getElem_cons_zero, getElem_cons_succ, setIfInBounds_toArray, set_cons_zero, set_cons_succ]
   refine tk 4 rfl hS (v := ?_) (fun w' hw => ?_) ?_
   rotate_left 1
   ·go_simp; all_goals with_reducible rfl
   try simp only [Act.put, getElem_toArray, getElem_cons_zero, getElem_cons_succ, setIfInBounds_toArray, set_cons_zero, set_cons_succ]
   refine tk 5 rfl hS (v := ?_) (fun w' hw => ?_) ?_
   rotate_left 1
   ·have f1 := (hw.cell (p := ⟨w.heap.size, 1, none⟩) hp3).trans hP1; go_simp; all_goals with_reducible rfl
   try simp only [Act.put, getElem_toArray, getElem_cons_zero, getElem_cons_succ, setIfInBounds_toArray, set_cons_zero, set_cons_succ]
   refine tk 6 rfl hS (v := ?_) (fun w' hw => ?_) ?_
   rotate_left 1
   ·go_simp; all_goals with_reducible rfl
   try simp only [Act.put, getElem_toArray, getElem_cons_zero, getElem_cons_succ, setIfInBounds_toArray, set_cons_zero, set_cons_succ]
   refine tk 7 rfl hS (v := ?_) (fun w' hw => ?_) ?_
   rotate_left 1
   ·go_simp; all_goals with_reducible rfl
   try simp only [Act.put, getElem_toArray, getElem_cons_zero, getElem_cons_succ, setIfInBounds_toArray, set_cons_zero, set_cons_succ]
   refine tk 8 rfl hS (v := ?_) (fun w' hw => ?_) ?_
   rotate_left 1
   ·have f1 := (hw.cell (p := ⟨p.qb, 1, none⟩) hq3).trans hQ1; go_simp; all_goals with_reducible rfl
   try simp only [Act.put, getElem_toArray, getElem_cons_zero, getElem_cons_succ, setIfInBounds_toArray, set_cons_zero, set_cons_succ]
   refine tk 9 rfl hS (v := ?_) (fun w' hw => ?_) ?_
   rotate_left 1
   ·go_simp; all_goals with_reducible rfl
   try simp only [Act.put, getElem_toArray, getElem_cons_zero, getElem_cons_succ, setIfInBounds_toArray, set_cons_zero, set_cons_succ]
   refine tk 10 rfl hS (v := ?_) (fun w' hw => ?_) ?_
   rotate_left 1
   ·go_simp; all_goals with_reducible rfl
   try simp only [Act.put, getElem_toArray, getElem_cons_zero, getElem_cons_succ, setIfInBounds_toArray, set_cons_zero, set_cons_succ]
   refine tk 11 rfl hS (v := ?_) (fun w' hw => ?_) ?_
   rotate_left 1
   ·have f0 := (hw.cell (p := ⟨gq, j * 10, none⟩) hgq3).trans e0; have f1 := (hw.cell (p := ⟨gq, j * 10 + 1, none⟩) hgq3).trans e1; have f2 := (hw.cell (p := ⟨gq, j * 10 + 2, none⟩) hgq3).trans e2; have f3 := (hw.cell (p := ⟨gq, j * 10 + 3, none⟩) hgq3).trans e3; have f4 := (hw.cell (p := ⟨gq, j * 10 + 4, none⟩) hgq3).trans e4; have f5 := (hw.cell (p := ⟨gq, j * 10 + 5, none⟩) hgq3).trans e5; have f6 := (hw.cell (p := ⟨gq, j * 10 + 6, none⟩) hgq3).trans e6; have f7 := (hw.cell (p := ⟨gq, j * 10 + 7, none⟩) hgq3).trans e7; have f8 := (hw.cell (p := ⟨gq, j * 10 + 8, none⟩) hgq3).trans e8; have f9 := (hw.cell (p := ⟨gq, j * 10 + 9, none⟩) hgq3).trans e9; go_simp; all_goals with_reducible rfl
   try simp only [Act.put, getElem_toArray, getElem_cons_zero, getElem_cons_succ, setIfInBounds_toArray, set_cons_zero, set_cons_succ]
   refine wpAnyH_ready (rs := [12]) (by kernel_rfl) (by simp) ?_
   refine AllReadyH.cons rfl (fun K hK => ?_) AllReadyH.nil
   go_simp
   refine hSm.mono ?_
   rintro e w5 ⟨rfl, hB5⟩
   clear hSm
   have hB5' : Below w3.heap.size w3 w5 := Below.trans hBj.drew (hB5.mono hBj.drew.size)
   go_wp2_with fail
   refine hK.out _ _ hB5' (fun hS => ?_)
   clear hK K
   try simp only [Act.put, getElem_toArray, getElem_cons_zero, getElem_cons_succ, setIfInBounds_toArray, set_cons_zero, set_cons_succ]
   refine tk 13 rfl hS (v := ?_) (fun w' hw => ?_) ?_
   rotate_left 1
   ·go_simp; all_goals with_reducible rfl
   try simp only [Act.put, getElem_toArray, getElem_cons_zero, getElem_cons_succ, setIfInBounds_toArray, set_cons_zero, set_cons_succ]
   refine wpAnyH_done (by kernel_rfl) ?_ _
   clear c0 c1 c2 c3 c4 c5 c6 c7 c8 c9 e0 e1 e2 e3 e4 e5 e6 e7 e8 e9
   go_wp2_with fail
   go_roundw
   case rel => exact ⟨j + 1, by omega, rfl, by go_num, hB5'⟩
   case measure => simp [intOf]; omega
  ·have q1 : ¬ (j : Int) < (l.length : Int) := by omega
   have hz3 := hB3.size
   have hB2r : Below w2.heap.size w2 wr := Below.trans hB3 (hBj.mono hB3.size)
   have hBwr : Below w.heap.size w wr := Below.trans hB2 (hB2r.mono hB2.size)
   have hWr := hW.below hBwr
   have hbase := hW.base
   have hz2 := hB2.size
   have hNe := netted_any wb H w2.heap.size d.wl d.wn d.wv d.wp (.slice ga l.length gc) l d.N d.V wr hWr.blk hWr.nets.own hWr.votes (owns_below hown3 hBj) (fun i hi => owns_below (Hel.out i hi) hBj) (fun i hi => by have := Hal.out i hi; omega) Hdis.out (fun k hk g hg => by
    obtain ⟨_, cs, hc⟩ := hW.votes.blkT hk hg
    have := lt_of_block hc
    omega) (by omega) (by omega) (by omega) (by omega) hB2r.size (by omega)
   go_wp2_with fail
   refine hNe.mono ?_
   rintro e w6 ⟨wn', wv', V', ua, ub, uc, rfl, hb6, ho6, m0, m1, m2, m3, hV6, hVl6, k6, hat6⟩
   clear hNe
   have kk : Keeps (fun k => k = wb ∨ d.wn.ownBlock = some k ∨ d.wv.ownBlock = some k) w w6 := Keeps.high (Keeps.ofBelow hBwr) (k6.mono (fun k _ ho => by
    rcases ho with ho | ho | ho | ho
    ·exact .inl (.inl ho)
    ·exact .inl (.inr (.inl ho))
    ·exact .inl (.inr (.inr ho))
    ·exact .inr (Nat.le_trans hz2 ho)))
   have hW6 : WAt w6 wb H ⟨d.wl, wn', wv', d.wp, d.ps, d.N ++ [.slice ga l.length gc, ua, ub, uc], V', d.P⟩ := hW.net kk hb6 (fun hnew => hW.nets.more (fun j i => mm4) kk hnew ho6 (n := l.length) (by omega) m0 m1 m2 m3) hV6 (fun k hk g hg ho => by
    by_cases hkl : k < d.N.length
    ·rw [List.getElem_append_left hkl] at hg
     exact hW.nown k hkl g hg ho
    ·have hlt9 := hW.lat.own_lt ho
     simp at hk
     rw [List.getElem_append_right (by omega)] at hg
     have : w2.heap.size ≤ g := by
      rcases (show k - d.N.length = 0 ∨ k - d.N.length = 1 ∨ k - d.N.length = 2 ∨ k - d.N.length = 3 from by omega) with hk0 | hk0 | hk0 | hk0
      ·simp only [hk0, List.getElem_cons_zero] at hg; exact hat6 _ g (.inl rfl) hg
      ·simp only [hk0, List.getElem_cons_succ, List.getElem_cons_zero] at hg; exact hat6 _ g (.inr (.inl rfl)) hg
      ·simp only [hk0, List.getElem_cons_succ, List.getElem_cons_zero] at hg; exact hat6 _ g (.inr (.inr (.inl rfl))) hg
      ·simp only [hk0, List.getElem_cons_succ, List.getElem_cons_zero] at hg; exact hat6 _ g (.inr (.inr (.inr rfl))) hg
     omega)
   have hfin : WTo w wb H d w6 := ⟨_, hW6, Nat.le_refl _, by show d.ps.length ≤ _; omega, by show (d.N ++ [_, _, _, _]).length ≤ _; simp, by show V'.length ≤ _; omega, by show d.P.length ≤ _; omega, kk.mono (fun k _ ho => by
    rcases ho with ho | ho | ho
    ·exact .inl ho
    ·exact .inr (World.ownsRow.lt hW.nets.own k ho).1
    ·exact .inr (World.ownsRow.lt hW.votes.own k ho).1)⟩
   clear m0 m1 m2 m3 ho6 hb6 k6 kk hW6 hV6 hat6
   go_wp2_with fail
   go_ret
   exact ⟨rfl, hfin⟩
end Go.Proofs.YtnnhnekfokbooaaGreatDoor

namespace Go.Proofs.YtnnhnekfokbooaaGreatDoor
open Go.RowKit
set_option linter.unusedSimpArgs false
set_option linter.unusedVariables false

theorem rnew_no (n : Int) (w : World) (h1 : n ≠ 1) (h3 : n ≠ 3) (h5 : n ≠ 5) (h7 : n ≠ 7) : Calls Tryz.prog 17 #[.int .i64 n] w fun e w' => e = .returned (.tuple #[.pointer none, .int .i64 1]) ∧ w' = w := by
 have m1 : (n != 1) = true := by simpa using h1
 have m3 : (n != 3) = true := by simpa using h3
 have m5 : (n != 5) = true := by simpa using h5
 have m7 : (n != 7) = true := by simpa using h7
 go_enter Tryz.func17, Tryz.ntmps17
 go_wp2_with fail
 go_ret2
 exact ⟨rfl, rfl⟩
end Go.Proofs.YtnnhnekfokbooaaGreatDoor

namespace Go.Proofs.YtnnhnekfokbooaaGreatDoor
open Go.RowKit
set_option linter.unusedSimpArgs false
set_option linter.unusedVariables false

theorem Tryz.infoReplica : ((Tryz.prog.info? 114).map (fun i => (i.zero, i.size))) = some (some (.agg noRr.cells.toArray), 396) ∧ ((Tryz.prog.info? 114).map (fun i => decide (i.bytes ≤ 10000))) = some true := by constructor <;> kernel_rfl
theorem noSl_ok : noSl.ok := rfl
theorem noRr_ok : noRr.ok := ⟨rfl, by decide, fun y hy => by rw [List.eq_of_mem_replicate hy]; exact noSl_ok⟩
theorem made_rcs (n : Nat) : (madeCells noRr.cells.toArray (n * 396)).toList = rcs (List.replicate n noRr) := by
 have hlen : noRr.cells.length = 396 := Rr.cells_len noRr_ok
 have hmem : ∀ r ∈ List.replicate n noRr, r.cells.length = 396 := fun r hr => by rw [List.eq_of_mem_replicate hr]; exact hlen
 have hL : (rcs (List.replicate n noRr)).length = n * 396 := by
  have := flatC_len' Rr.cells 396 (List.replicate n noRr) hmem
  rwa [List.length_replicate] at this
 apply List.ext_getElem?
 intro j
 by_cases hj : j < n * 396
 ·have hd : j = j / 396 * 396 + j % 396 := by omega
  have hq : j / 396 < n := by omega
  have ho : j % 396 < 396 := by omega
  have h1 : (rcs (List.replicate n noRr))[j]? = noRr.cells[j % 396]? := by
   have := flatC_get Rr.cells 396 noRr (List.replicate n noRr) hmem (j / 396) (j % 396) (by rw [List.length_replicate]; exact hq) ho
   rw [← hd] at this
   rw [show (rcs (List.replicate n noRr)) = flatC Rr.cells (List.replicate n noRr) from rfl, this]
   rw [List.getD_eq_getElem?_getD, List.getElem?_replicate, if_pos hq]
   rfl
  rw [h1]
  unfold madeCells
  rw [Array.toList_map, List.getElem?_map, Array.toList_range, List.getElem?_range hj]
  simp only [Option.map_some, List.size_toArray, hlen]
  rw [List.getElem?_eq_getElem (by omega)]
  simp [List.getElem!_toArray, getElem!_pos, hlen, ho]
 ·rw [List.getElem?_eq_none (by rw [Array.length_toList, size_madeCells]; omega), List.getElem?_eq_none (by omega)]
set_option maxHeartbeats 2000000 in
set_option maxRecDepth 100000 in
theorem rnew_yes (n : Nat) (hn : n = 1 ∨ n = 3 ∨ n = 5 ∨ n = 7) (w : World) :
  Calls Tryz.prog 17 #[.int .i64 (n : Int)] w fun e w' => ∃ qb Rb, e = .returned (.tuple #[.pointer (some ⟨qb, 0, none⟩), .int .i64 0]) ∧ QAt w' qb Rb (.slice none 0 0) (newRs n) ∧ w.heap.size ≤ qb ∧ w.heap.size ≤ Rb ∧ Below w.heap.size w w' := by
 obtain ⟨i0, hi0, hzz⟩ := Option.map_eq_some_iff.1 Tryz.infoReplica.1
 have hby := Tryz.infoReplica.2
 rw [hi0] at hby
 simp only [Option.map_some, Option.some.injEq, decide_eq_true_eq] at hby
 simp only [Prod.mk.injEq] at hzz
 obtain ⟨hz0, hz1⟩ := hzz
 have hb2 : i0.bytes * n ≤ 281474976710656 := by
  have : i0.bytes * n ≤ 10000 * 7 := Nat.mul_le_mul hby (by omega)
  omega
 have hb3 : n ≤ maxLen := by unfold maxLen; omega
 have m1 : ((n : Int) != 1 && ((n : Int) != 3 && ((n : Int) != 5 && (n : Int) != 7))) = false := by
  rcases hn with rfl | rfl | rfl | rfl <;> rfl
 have Hn : Hid (n = 1 ∨ n = 3 ∨ n = 5 ∨ n = 7) := hn
 go_enter Tryz.func17, Tryz.ntmps17
 have hfin : ∀ w1, w1.ownsRow w.heap.size 114 396 (.slice (some ⟨w.heap.size, 0, none⟩) n n) n (madeCells noRr.cells.toArray (n * 396)).toList → w.grownBy w1 none → ∀ w2, w2 = w1.alloc (.cells #[.slice (some ⟨w.heap.size, 0, none⟩) n n, .slice none 0 0] 74) →
   QAt w2 w1.heap.size w.heap.size (.slice none 0 0) (newRs n) ∧ w.heap.size ≤ w1.heap.size ∧ Below w.heap.size w w2 := by
  intro w1 hown hgr w2 hw2
  subst hw2
  have hB1 : Below w.heap.size w w1 := ⟨hgr.os, hgr.tape, hgr.output, hgr.size, fun k hk => hgr.block k hk (by simp)⟩
  have hRB : w1.heap[w.heap.size]? = some (.cells (rcs (List.replicate n noRr)).toArray 114 (0, 0)) := by
   rcases hown.2 with ⟨h1, _⟩ | ⟨g, cap, cur, h1, hbg, hg, hnc, hcm, hcs, htake⟩
   ·cases h1
   ·cases h1
    rw [hg]
    have e1 : cur.toList = rcs (List.replicate n noRr) := by
     rw [← made_rcs, ← htake, List.take_of_length_le (by rw [Array.length_toList, hcs]; omega)]
    rw [← e1]
  have hlen : (newRs n).R.length = n := by unfold newRs; simp
  refine ⟨⟨?_, ⟨blk_alloc hRB _, fun r hr => by rw [List.eq_of_mem_replicate hr]; exact noRr_ok⟩, ⟨[], rfl, World.ownsRow_nil _ _ _ _, fun y hy => by cases hy⟩, ?_, ?_, by show ([] : List Ms).length ≤ 200; decide⟩, hB1.size, hB1.trans ((Below.refl _ w1).alloc (Nat.le_refl _) _ |>.mono hB1.size)⟩
  ·rw [hlen]; exact blk_new w1 _
  ·rw [hlen]; rcases Hn.out with h | h | h | h <;> omega
  ·rw [hlen]; rcases Hn.out with h | h | h | h <;> omega
 rcases hn with rfl | rfl | rfl | rfl
 all_goals
  go_wp2_with (at_make; refine wpList_make_full _ rfl _ _ 72 rfl w.heap.size 114 i0 _ 396 Tryz.underlying72 hi0 hz0 hz1 _ _ _ _ _ rfl rfl rfl rfl hb2 hb3 (Nat.le_refl _) ?_; intro w1 hown hgr)
  go_ret2
  obtain ⟨h1, h2, h3⟩ := hfin w1 hown hgr _ rfl
  first | exact ⟨_, _, rfl, h1, h2, Nat.le_refl _, h3⟩ | exact ⟨_, rfl, _, h1, h2, Nat.le_refl _, h3⟩
end Go.Proofs.YtnnhnekfokbooaaGreatDoor
