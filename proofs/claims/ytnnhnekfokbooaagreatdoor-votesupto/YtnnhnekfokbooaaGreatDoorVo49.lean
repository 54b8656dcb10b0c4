/- The law's step (laid by mklawl.py). The law's step, whatever the kind from 1 to 11. (Joined by merge.py.) -/
import Derived.Test.YtnnhnekfokbooaaGreatDoorVo48
import Derived.Test.YtnnhnekfokbooaaGreatDoorVo01
namespace Go.Proofs.YtnnhnekfokbooaaGreatDoor
open List (getElem_toArray getElem_cons_zero getElem_cons_succ setIfInBounds_toArray set_cons_zero set_cons_succ)
open Go.RowKit
set_option linter.unusedSimpArgs false
set_option linter.unusedVariables false

set_option maxHeartbeats 8000000 in
set_option maxRecDepth 100000 in
theorem step_told {w : World} {wb H : Nat} {d : Wd} (hW : WAt w wb H d) (o : Opd) (ho : ∃ ao n cap, o.v = .slice ao n cap) (hon : -9223372036854775808 ≤ o.n ∧ o.n ≤ 9223372036854775807) (m1 : (o.k == 1) = false) (m12 : (o.k == 12) = false) (m13 : (o.k == 13) = false) (hk : o.k = 4 ∨ o.k = 6 ∨ o.k = 7 ∨ o.k = 8) (hl0 : 0 < d.ps.length) (hl9 : d.ps.length ≤ 1000000000)
  (hT : ∀ W p, WAt W wb H d → PAt W p → Calls Tryz.prog 13 #[.pointer (some ⟨wb, 0, none⟩), .agg #[.pointer (some ⟨p.sb, 0, none⟩), .pointer (some ⟨p.qb, 0, none⟩)], .agg o.cells.toArray] W fun e w' => e = .returned (.bool true) ∧ WTo W wb H d w') :
  Calls Tryz.prog 7 #[.pointer (some ⟨wb, 0, none⟩), .agg o.cells.toArray] w fun e w' => e = .returned (.bool true) ∧ WTo w wb H d w' := by
 obtain ⟨ok, on, oa, ob, os, ⟨pc, pq, ph, pt9⟩, ⟨mk, mf, mt, mb, ms, ⟨mc, mq, mh, mx⟩, ma⟩, v⟩ := o
 obtain ⟨va, vn, vc, hve⟩ := ho
 simp only at hve hon m1 m12 m13 hk
 subst hve
 have Hkk : Hid ((ok == 4) = true ∨ ((ok == 4) = false ∧ (ok == 6) = true) ∨ ((ok == 4) = false ∧ (ok == 6) = false ∧ (ok == 7) = true) ∨ ((ok == 4) = false ∧ (ok == 6) = false ∧ (ok == 7) = false ∧ (ok == 8) = true)) := by
  rcases hk with rfl | rfl | rfl | rfl
  ·exact .inl rfl
  ·exact .inr (.inl ⟨rfl, rfl⟩)
  ·exact .inr (.inr (.inl ⟨rfl, rfl, rfl⟩))
  ·exact .inr (.inr (.inr ⟨rfl, rfl, rfl, rfl⟩))
 clear hk
 simp only [Opd.cells] at hT ⊢
 have hB2 : Below w.heap.size w (w.alloc (.cells #[.int .i64 ok, .int .i64 on, .int .i64 oa, .int .i64 ob, .string os, .int .i64 pc, .int .i64 pq, .int .i64 ph, .string pt9, .int .i64 mk, .int .i64 mf, .int .i64 mt, .int .i64 mb, .int .i64 ms, .int .i64 mc, .int .i64 mq, .int .i64 mh, .string mx, .slice va vn vc] 38)) := (Below.refl _ w).alloc (Nat.le_refl _) _
 have h2 := hW.below hB2
 have hbo := blk_new w (.cells #[.int .i64 ok, .int .i64 on, .int .i64 oa, .int .i64 ob, .string os, .int .i64 pc, .int .i64 pq, .int .i64 ph, .string pt9, .int .i64 mk, .int .i64 mf, .int .i64 mt, .int .i64 mb, .int .i64 ms, .int .i64 mc, .int .i64 mq, .int .i64 mh, .string mx, .slice va vn vc] 38)
 have hboc := blk_cell hbo
 have hlist : (w.alloc (.cells #[.int .i64 ok, .int .i64 on, .int .i64 oa, .int .i64 ob, .string os, .int .i64 pc, .int .i64 pq, .int .i64 ph, .string pt9, .int .i64 mk, .int .i64 mf, .int .i64 mt, .int .i64 mb, .int .i64 ms, .int .i64 mc, .int .i64 mq, .int .i64 mh, .string mx, .slice va vn vc] 38)).cell? ⟨wb, 0, none⟩ = some d.wl := (blk_cell h2.blk 0).trans rfl
 obtain ⟨la0, lc0, hwl⟩ : ∃ a c, d.wl = .slice a d.ps.length c := by
  rcases h2.prs.2 with ⟨h1, h0⟩ | ⟨g, cap, cur, h1, _⟩
  ·omega
  ·exact ⟨_, _, h1⟩
 rw [hwl] at hlist
 clear hwl
 have qz : ((d.ps.length : Int) == 0) = false := by rw [beq_eq_false_iff_ne]; omega
 go_enter Tryz.func7, Tryz.ntmps7
 go_upto_region 10 with (fail)
 clear hlist qz
 generalize w.alloc (.cells #[.int .i64 ok, .int .i64 on, .int .i64 oa, .int .i64 ob, .string os, .int .i64 pc, .int .i64 pq, .int .i64 ph, .string pt9, .int .i64 mk, .int .i64 mf, .int .i64 mt, .int .i64 mb, .int .i64 ms, .int .i64 mc, .int .i64 mq, .int .i64 mh, .string mx, .slice va vn vc] 38) = w2 at *
 obtain ⟨la, ln, lc, hle⟩ := owns_slice1 h2.prs
 have hprs := h2.prs
 have hblk := h2.blk
 rw [hle] at hprs hblk
 obtain rfl : ln = d.ps.length := by
  rcases hprs.2 with ⟨h1, h2⟩ | ⟨g, cap, cur, h1, _⟩
  ·cases h1; exact h2.symm
  ·cases h1; rfl
 obtain ⟨g, rfl, hglt, hrd⟩ : ∃ g, la = some ⟨g, 0, none⟩ ∧ g < w2.heap.size ∧ ∀ k (hk : k < d.ps.length), w2.cell? ⟨g, k * 2, none⟩ = some (.pointer (some ⟨d.ps[k].sb, 0, none⟩)) ∧ w2.cell? ⟨g, k * 2 + 1, none⟩ = some (.pointer (some ⟨d.ps[k].qb, 0, none⟩)) := by
  rcases hprs.2 with ⟨h1, h2⟩ | ⟨g, cap, cur, h1, _, hg, _, _, hcs, htk⟩
  ·omega
  ·cases h1
   refine ⟨g, rfl, lt_of_block hg, fun k hk => ?_⟩
   have hat := pcs_at d.ps k hk
   refine ⟨?_, ?_⟩
   ·rw [blk_cell hg, ← Array.getElem?_toList]
    have e1 : cur.toList[k * 2]? = (cur.toList.take (d.ps.length * 2))[k * 2]? := by rw [List.getElem?_take, if_pos (by omega)]
    rw [e1, htk]; exact hat.1
   ·rw [blk_cell hg, ← Array.getElem?_toList]
    have e1 : cur.toList[k * 2 + 1]? = (cur.toList.take (d.ps.length * 2))[k * 2 + 1]? := by rw [List.getElem?_take, if_pos (by omega)]
    rw [e1, htk]; exact hat.2
 have hpin := pickN_in on (d.ps.length : Int) (by omega)
 obtain ⟨i, hie⟩ := Int.eq_ofNat_of_zero_le hpin.1
 have hi : i < d.ps.length := by have := hpin.2; omega
 have hPk := pick_law on (d.ps.length : Int) w2.drew hon (by omega) (by omega)
 have hPkz := pick_law on (d.ps.length : Int) (w2.alloc (.cells #[.pointer none, .pointer none] 47)).drew hon (by omega) (by omega)
 rw [hie] at hPk hPkz
 clear hpin hie
 obtain ⟨hp0, hp1⟩ := hrd i hi
 obtain ⟨p, hpe⟩ : ∃ p, p = d.ps[i] := ⟨_, rfl⟩
 rw [← hpe] at hp0 hp1
 have hwc0 : w2.cell? ⟨wb, 0, none⟩ = some (.slice (some ⟨g, 0, none⟩) d.ps.length lc) := (blk_cell hblk 0).trans rfl
 have hwlt := lt_of_block hblk
 have ho1 : w2.cell? ⟨w.heap.size, 1, none⟩ = some (.int .i64 on) := (blk_cell hbo 1).trans rfl
 have holt := lt_of_block hbo
 have q0 : (0 : Int) ≤ (i : Int) := by omega
 have q1 : (i : Int) < (d.ps.length : Int) := by omega
 have q2 : ((d.ps.length : Int) == 0) = false := by rw [beq_eq_false_iff_ne]; omega
 have hBz : Below w2.heap.size w2 (w2.alloc (.cells #[.pointer none, .pointer none] 47)).drew := Below.drew ((Below.refl _ w2).alloc (Nat.le_refl _) _)
 have hzb : (w2.alloc (.cells #[.pointer none, .pointer none] 47)).drew.heap[w2.heap.size]? = some (.cells #[.pointer none, .pointer none] 47 (0, 0)) := blk_drew (blk_new w2 (.cells #[.pointer none, .pointer none] 47))
 have hth : World.there (w2.alloc (.cells #[.pointer none, .pointer none] 47)).drew w2.heap.size 0 2 := fun j hj => ⟨by rw [blk_cell hzb, Nat.zero_add, Array.getElem?_eq_getElem (by show j < 2; exact hj)]; rfl, blk_free hzb _⟩
 have hi2 : (Tryz.prog.info? 47).map (·.size) = some (#[.pointer (some ⟨p.sb, 0, none⟩), .pointer (some ⟨p.qb, 0, none⟩)] : Array Value).size := by kernel_rfl
 have h12 : (#[.pointer (some ⟨p.sb, 0, none⟩), .pointer (some ⟨p.qb, 0, none⟩)] : Array Value).all (·.oneCell') = true := by simp [Value.oneCell']
 have hbx : (World.setCells (w2.alloc (.cells #[.pointer none, .pointer none] 47)).drew w2.heap.size 0 [.pointer (some ⟨p.sb, 0, none⟩), .pointer (some ⟨p.qb, 0, none⟩)]).heap[w2.heap.size]? = some (.cells #[.pointer (some ⟨p.sb, 0, none⟩), .pointer (some ⟨p.qb, 0, none⟩)] 47 (0, 0)) := by
  rw [setCells_self w2.heap.size 47 [.pointer (some ⟨p.sb, 0, none⟩), .pointer (some ⟨p.qb, 0, none⟩)] 0 _ _ hzb (by show 0 + 2 ≤ 2; decide)]
  rfl
 have hB4 : Below w2.heap.size w2 (World.setCells (w2.alloc (.cells #[.pointer none, .pointer none] 47)).drew w2.heap.size 0 [.pointer (some ⟨p.sb, 0, none⟩), .pointer (some ⟨p.qb, 0, none⟩)]) := hBz.trans ⟨(keeps_sets _ _ _ _).os, (keeps_sets _ _ _ _).tape, (keeps_sets _ _ _ _).output, (keeps_sets _ _ _ _).size, fun b hb => (keeps_sets _ _ _ _).block b (by simp; omega) (by omega)⟩
 have hPs := h2.lat.each i hi
 rw [← hpe] at hPs
 have Hpe : Hid (p = d.ps[i]) := hpe
 clear hpe
 clear hboc
 refine wp_region_held_drew (S := fun w' => Below w2.heap.size w2 w') (by kernel_rfl) (Below.drew (Below.refl _ w2)) (fun hS => ?_)
 refine tk 0 rfl hS (v := ?_) (fun w' hw => ?_) ?_
 rotate_left 1
 ·go_simp; all_goals with_reducible rfl
 try simp only [Act.put, getElem_toArray, getElem_cons_zero, getElem_cons_succ, setIfInBounds_toArray, set_cons_zero, set_cons_succ]
 refine tk 1 rfl hS (v := ?_) (fun w' hw => ?_) ?_
 rotate_left 1
 ·go_simp; all_goals with_reducible rfl
 try simp only [Act.put, getElem_toArray, getElem_cons_zero, getElem_cons_succ, setIfInBounds_toArray, set_cons_zero, set_cons_succ]
 refine tk 2 rfl hS (v := ?_) (fun w' hw => ?_) ?_
 rotate_left 1
 ·go_simp; all_goals with_reducible rfl
 try simp only [Act.put, getElem_toArray, getElem_cons_zero, getElem_cons_succ, setIfInBounds_toArray, set_cons_zero, set_cons_succ]
 refine tk 3 rfl hS (v := ?_) (fun w' hw => ?_) ?_
 rotate_left 1
 ·have f0 := (hw.cell (p := ⟨wb, 0, none⟩) hwlt).trans hwc0; go_simp; all_goals with_reducible rfl
 try simp only [Act.put, getElem_toArray, getElem_cons_zero, getElem_cons_succ, setIfInBounds_toArray, set_cons_zero, set_cons_succ]
 refine tk 4 rfl hS (v := ?_) (fun w' hw => ?_) ?_
 rotate_left 1
 ·go_simp; all_goals with_reducible rfl
 try simp only [Act.put, getElem_toArray, getElem_cons_zero, getElem_cons_succ, setIfInBounds_toArray, set_cons_zero, set_cons_succ]
 refine tk 5 rfl hS (v := ?_) (fun w' hw => ?_) ?_
 rotate_left 1
 ·have f1 := (hw.cell (p := ⟨w.heap.size, 1, none⟩) holt).trans ho1; go_simp; all_goals with_reducible rfl
 try simp only [Act.put, getElem_toArray, getElem_cons_zero, getElem_cons_succ, setIfInBounds_toArray, set_cons_zero, set_cons_succ]
 refine tk 6 rfl hS (v := ?_) (fun w' hw => ?_) ?_
 rotate_left 1
 ·go_simp; all_goals with_reducible rfl
 try simp only [Act.put, getElem_toArray, getElem_cons_zero, getElem_cons_succ, setIfInBounds_toArray, set_cons_zero, set_cons_succ]
 refine tk 7 rfl hS (v := ?_) (fun w' hw => ?_) ?_
 rotate_left 1
 ·go_simp; all_goals with_reducible rfl
 try simp only [Act.put, getElem_toArray, getElem_cons_zero, getElem_cons_succ, setIfInBounds_toArray, set_cons_zero, set_cons_succ]
 refine tk 8 rfl hS (v := ?_) (fun w' hw => ?_) ?_
 rotate_left 1
 ·go_simp; all_goals with_reducible rfl
 try simp only [Act.put, getElem_toArray, getElem_cons_zero, getElem_cons_succ, setIfInBounds_toArray, set_cons_zero, set_cons_succ]
 refine tk 9 rfl hS (v := ?_) (fun w' hw => ?_) ?_
 rotate_left 1
 ·have f0 := (hw.cell (p := ⟨wb, 0, none⟩) hwlt).trans hwc0; go_simp; all_goals with_reducible rfl
 try simp only [Act.put, getElem_toArray, getElem_cons_zero, getElem_cons_succ, setIfInBounds_toArray, set_cons_zero, set_cons_succ]
 refine tk 10 rfl hS (v := ?_) (fun w' hw => ?_) ?_
 rotate_left 1
 ·go_simp; all_goals with_reducible rfl
 try simp only [Act.put, getElem_toArray, getElem_cons_zero, getElem_cons_succ, setIfInBounds_toArray, set_cons_zero, set_cons_succ]
 refine wpAnyH_ready (rs := [11, 14]) (by kernel_rfl) (by simp) ?_
 refine AllReadyH.cons rfl (fun K hK => ?_) (AllReadyH.cons rfl (fun K hK => ?_) AllReadyH.nil)
 ·go_simp
  refine hPk.mono ?_
  rintro e w3 ⟨rfl, hw3⟩
  have hw9 := hw3.symm
  subst hw9
  clear hw3
  go_wp2_with fail
  refine hK.out _ _ (Below.drew (Below.refl _ w2)) (fun hS => ?_)
  clear hK K
  try simp only [Act.put, getElem_toArray, getElem_cons_zero, getElem_cons_succ, setIfInBounds_toArray, set_cons_zero, set_cons_succ]
  refine tk 12 rfl hS (v := ?_) (fun w' hw => ?_) ?_
  rotate_left 1
  ·go_simp; all_goals with_reducible rfl
  try simp only [Act.put, getElem_toArray, getElem_cons_zero, getElem_cons_succ, setIfInBounds_toArray, set_cons_zero, set_cons_succ]
  refine tk 13 rfl hS (v := ?_) (fun w' hw => ?_) ?_
  rotate_left 1
  ·have f2 := (hw.cell (p := ⟨g, i * 2, none⟩) hglt).trans hp0; have f3 := (hw.cell (p := ⟨g, i * 2 + 1, none⟩) hglt).trans hp1; go_simp; all_goals with_reducible rfl
  try simp only [Act.put, getElem_toArray, getElem_cons_zero, getElem_cons_succ, setIfInBounds_toArray, set_cons_zero, set_cons_succ]
  refine wpAnyH_ready (rs := [14]) (by kernel_rfl) (by simp) ?_
  refine AllReadyH.cons rfl (fun K hK => ?_) AllReadyH.nil
  go_simp
  refine hK.out _ _ hBz (fun hS => ?_)
  clear hK K
  try simp only [Act.put, getElem_toArray, getElem_cons_zero, getElem_cons_succ, setIfInBounds_toArray, set_cons_zero, set_cons_succ]
  refine wpAnyH_ready (rs := [15]) (by kernel_rfl) (by simp) ?_
  refine AllReadyH.cons rfl (fun K hK => ?_) AllReadyH.nil
  rw [if_pos (by kernel_rfl)]
  refine wp_store_mid 47 (.tmp 5) (.tmp 44) rfl w2.heap.size 0 #[.pointer (some ⟨p.sb, 0, none⟩), .pointer (some ⟨p.qb, 0, none⟩)] rfl rfl hth hi2 h12 ?_
  refine hK.out _ _ hB4 (fun hS => ?_)
  clear hK K
  try simp only [Act.put, getElem_toArray, getElem_cons_zero, getElem_cons_succ, setIfInBounds_toArray, set_cons_zero, set_cons_succ]
  refine wpAnyH_done (by kernel_rfl) ?_ _
  have hb4 := blk_below hB4 hbo
  have h4 := h2.below hB4
  have hp4 := hPs.below hB4
  have hBw4 : Below w.heap.size w (World.setCells (w2.alloc (.cells #[.pointer none, .pointer none] 47)).drew w2.heap.size 0 [.pointer (some ⟨p.sb, 0, none⟩), .pointer (some ⟨p.qb, 0, none⟩)]) := Below.trans hB2 (hB4.mono hB2.size)
  have hbx4 : (World.setCells (w2.alloc (.cells #[.pointer none, .pointer none] 47)).drew w2.heap.size 0 [.pointer (some ⟨p.sb, 0, none⟩), .pointer (some ⟨p.qb, 0, none⟩)]).heap[w2.heap.size]? = some (.cells #[.pointer (some ⟨p.sb, 0, none⟩), .pointer (some ⟨p.qb, 0, none⟩)] 47 (0, 0)) := hbx
  generalize (World.setCells (w2.alloc (.cells #[.pointer none, .pointer none] 47)).drew w2.heap.size 0 [.pointer (some ⟨p.sb, 0, none⟩), .pointer (some ⟨p.qb, 0, none⟩)]) = w4 at *
  clear hB4 hBz hth hPk hPkz hbx hp0 hp1 hwc0 ho1 hrd hi2 h12
  have e0 : w4.cell? ⟨w.heap.size, 0, none⟩ = some (.int .i64 ok) := (blk_cell hb4 0).trans rfl
  have b0 : w4.cell? ⟨w2.heap.size, 0, none⟩ = some (.pointer (some ⟨p.sb, 0, none⟩)) := (blk_cell hbx4 0).trans rfl
  have b1 : w4.cell? ⟨w2.heap.size, 1, none⟩ = some (.pointer (some ⟨p.qb, 0, none⟩)) := (blk_cell hbx4 1).trans rfl
  have Hra : Hid (World.rangeAt w4 w.heap.size 0 [.int .i64 ok, .int .i64 on, .int .i64 oa, .int .i64 ob, .string os, .int .i64 pc, .int .i64 pq, .int .i64 ph, .string pt9, .int .i64 mk, .int .i64 mf, .int .i64 mt, .int .i64 mb, .int .i64 ms, .int .i64 mc, .int .i64 mq, .int .i64 mh, .string mx, .slice va vn vc]) := fun j u hu => by
   rw [blk_cell hb4, Nat.zero_add, List.getElem?_toArray]; exact hu
  have Hi19 : Hid ((Tryz.prog.info? 38).map (·.size) = some 19) := by show _ = _; kernel_rfl
  rcases Hkk.out with m4 | ⟨m4, m6⟩ | ⟨m4, m6, m7⟩ | ⟨m4, m6, m7, m8⟩
  all_goals
   have hC := hT _ p h4 hp4
   go_upto_region 16 with (fail)
   go_wp2_with (refine wpList_load_mid rfl 38 (.tmp 3) rfl w.heap.size 0 rfl [.int .i64 ok, .int .i64 on, .int .i64 oa, .int .i64 ob, .string os, .int .i64 pc, .int .i64 pq, .int .i64 ph, .string pt9, .int .i64 mk, .int .i64 mf, .int .i64 mt, .int .i64 mb, .int .i64 ms, .int .i64 mc, .int .i64 mq, .int .i64 mh, .string mx, .slice va vn vc] _ Hra.out Tryz.underlying38 rfl Hi19.out ?_)
   refine hC.mono ?_
   rintro e w5 ⟨rfl, hto⟩
   clear hC hT
   go_wp2_with fail
   go_ret
   exact ⟨rfl, WTo.after hBw4 hto⟩
 ·go_simp
  refine hK.out _ _ hBz (fun hS => ?_)
  clear hK K
  try simp only [Act.put, getElem_toArray, getElem_cons_zero, getElem_cons_succ, setIfInBounds_toArray, set_cons_zero, set_cons_succ]
  refine wpAnyH_ready (rs := [11]) (by kernel_rfl) (by simp) ?_
  refine AllReadyH.cons rfl (fun K hK => ?_) AllReadyH.nil
  go_simp
  refine hPkz.mono ?_
  rintro e w3 ⟨rfl, hw3⟩
  have hw9 := hw3.symm
  subst hw9
  clear hw3
  go_wp2_with fail
  refine hK.out _ _ hBz (fun hS => ?_)
  clear hK K
  try simp only [Act.put, getElem_toArray, getElem_cons_zero, getElem_cons_succ, setIfInBounds_toArray, set_cons_zero, set_cons_succ]
  refine tk 12 rfl hS (v := ?_) (fun w' hw => ?_) ?_
  rotate_left 1
  ·go_simp; all_goals with_reducible rfl
  try simp only [Act.put, getElem_toArray, getElem_cons_zero, getElem_cons_succ, setIfInBounds_toArray, set_cons_zero, set_cons_succ]
  refine tk 13 rfl hS (v := ?_) (fun w' hw => ?_) ?_
  rotate_left 1
  ·have f2 := (hw.cell (p := ⟨g, i * 2, none⟩) hglt).trans hp0; have f3 := (hw.cell (p := ⟨g, i * 2 + 1, none⟩) hglt).trans hp1; go_simp; all_goals with_reducible rfl
  try simp only [Act.put, getElem_toArray, getElem_cons_zero, getElem_cons_succ, setIfInBounds_toArray, set_cons_zero, set_cons_succ]
  refine wpAnyH_ready (rs := [15]) (by kernel_rfl) (by simp) ?_
  refine AllReadyH.cons rfl (fun K hK => ?_) AllReadyH.nil
  rw [if_pos (by kernel_rfl)]
  refine wp_store_mid 47 (.tmp 5) (.tmp 44) rfl w2.heap.size 0 #[.pointer (some ⟨p.sb, 0, none⟩), .pointer (some ⟨p.qb, 0, none⟩)] rfl rfl hth hi2 h12 ?_
  refine hK.out _ _ hB4 (fun hS => ?_)
  clear hK K
  try simp only [Act.put, getElem_toArray, getElem_cons_zero, getElem_cons_succ, setIfInBounds_toArray, set_cons_zero, set_cons_succ]
  refine wpAnyH_done (by kernel_rfl) ?_ _
  have hb4 := blk_below hB4 hbo
  have h4 := h2.below hB4
  have hp4 := hPs.below hB4
  have hBw4 : Below w.heap.size w (World.setCells (w2.alloc (.cells #[.pointer none, .pointer none] 47)).drew w2.heap.size 0 [.pointer (some ⟨p.sb, 0, none⟩), .pointer (some ⟨p.qb, 0, none⟩)]) := Below.trans hB2 (hB4.mono hB2.size)
  have hbx4 : (World.setCells (w2.alloc (.cells #[.pointer none, .pointer none] 47)).drew w2.heap.size 0 [.pointer (some ⟨p.sb, 0, none⟩), .pointer (some ⟨p.qb, 0, none⟩)]).heap[w2.heap.size]? = some (.cells #[.pointer (some ⟨p.sb, 0, none⟩), .pointer (some ⟨p.qb, 0, none⟩)] 47 (0, 0)) := hbx
  generalize (World.setCells (w2.alloc (.cells #[.pointer none, .pointer none] 47)).drew w2.heap.size 0 [.pointer (some ⟨p.sb, 0, none⟩), .pointer (some ⟨p.qb, 0, none⟩)]) = w4 at *
  clear hB4 hBz hth hPk hPkz hbx hp0 hp1 hwc0 ho1 hrd hi2 h12
  have e0 : w4.cell? ⟨w.heap.size, 0, none⟩ = some (.int .i64 ok) := (blk_cell hb4 0).trans rfl
  have b0 : w4.cell? ⟨w2.heap.size, 0, none⟩ = some (.pointer (some ⟨p.sb, 0, none⟩)) := (blk_cell hbx4 0).trans rfl
  have b1 : w4.cell? ⟨w2.heap.size, 1, none⟩ = some (.pointer (some ⟨p.qb, 0, none⟩)) := (blk_cell hbx4 1).trans rfl
  have Hra : Hid (World.rangeAt w4 w.heap.size 0 [.int .i64 ok, .int .i64 on, .int .i64 oa, .int .i64 ob, .string os, .int .i64 pc, .int .i64 pq, .int .i64 ph, .string pt9, .int .i64 mk, .int .i64 mf, .int .i64 mt, .int .i64 mb, .int .i64 ms, .int .i64 mc, .int .i64 mq, .int .i64 mh, .string mx, .slice va vn vc]) := fun j u hu => by
   rw [blk_cell hb4, Nat.zero_add, List.getElem?_toArray]; exact hu
  have Hi19 : Hid ((Tryz.prog.info? 38).map (·.size) = some 19) := by show _ = _; kernel_rfl
  rcases Hkk.out with m4 | ⟨m4, m6⟩ | ⟨m4, m6, m7⟩ | ⟨m4, m6, m7, m8⟩
  all_goals
   have hC := hT _ p h4 hp4
   go_upto_region 16 with (fail)
   go_wp2_with (refine wpList_load_mid rfl 38 (.tmp 3) rfl w.heap.size 0 rfl [.int .i64 ok, .int .i64 on, .int .i64 oa, .int .i64 ob, .string os, .int .i64 pc, .int .i64 pq, .int .i64 ph, .string pt9, .int .i64 mk, .int .i64 mf, .int .i64 mt, .int .i64 mb, .int .i64 ms, .int .i64 mc, .int .i64 mq, .int .i64 mh, .string mx, .slice va vn vc] _ Hra.out Tryz.underlying38 rfl Hi19.out ?_)
   refine hC.mono ?_
   rintro e w5 ⟨rfl, hto⟩
   clear hC hT
   go_wp2_with fail
   go_ret
   exact ⟨rfl, WTo.after hBw4 hto⟩
end Go.Proofs.YtnnhnekfokbooaaGreatDoor

namespace Go.Proofs.YtnnhnekfokbooaaGreatDoor
open Go.RowKit
set_option linter.unusedSimpArgs false
set_option linter.unusedVariables false

set_option maxHeartbeats 4000000 in
set_option maxRecDepth 100000 in
theorem step_new {w : World} {wb : Nat} {Q : World → Prop} (o : Opd) (ho : ∃ ao n cap, o.v = .slice ao n cap) (hk : o.k = 1)
  (hN : ∀ W, Below w.heap.size w W → Calls Tryz.prog 9 #[.pointer (some ⟨wb, 0, none⟩), .int .i64 o.a] W fun e w' => e = .returned (.bool true) ∧ Q w') :
  Calls Tryz.prog 7 #[.pointer (some ⟨wb, 0, none⟩), .agg o.cells.toArray] w fun e w' => e = .returned (.bool true) ∧ Q w' := by
 obtain ⟨ok, on, oa, ob, os, ⟨pc, pq, ph, pt9⟩, ⟨mk, mf, mt, mb, ms, ⟨mc, mq, mh, mx⟩, ma⟩, v⟩ := o
 obtain ⟨va, vn, vc, hve⟩ := ho
 simp only at hve hk
 subst hve hk
 simp only [Opd.cells]
 go_enter Tryz.func7, Tryz.ntmps7
 go_wp2_with fail
 refine (hN _ ((Below.refl _ w).alloc (Nat.le_refl _) _)).mono ?_
 rintro e w1 ⟨rfl, hq⟩
 clear hN
 go_wp2_with fail
 go_ret
 exact ⟨rfl, hq⟩
set_option maxHeartbeats 4000000 in
set_option maxRecDepth 100000 in
theorem step_none {w : World} {wb H : Nat} {d : Wd} (hW : WAt w wb H d) (o : Opd) (ho : ∃ ao n cap, o.v = .slice ao n cap) (m1 : (o.k == 1) = false) (m12 : (o.k == 12) = false) (m13 : (o.k == 13) = false) (hl0 : d.ps.length = 0) :
  Calls Tryz.prog 7 #[.pointer (some ⟨wb, 0, none⟩), .agg o.cells.toArray] w fun e w' => e = .returned (.bool true) ∧ Below w.heap.size w w' := by
 obtain ⟨ok, on, oa, ob, os, ⟨pc, pq, ph, pt9⟩, ⟨mk, mf, mt, mb, ms, ⟨mc, mq, mh, mx⟩, ma⟩, v⟩ := o
 obtain ⟨va, vn, vc, hve⟩ := ho
 simp only at hve m1 m12 m13
 subst hve
 simp only [Opd.cells]
 have hB2 : Below w.heap.size w (w.alloc (.cells #[.int .i64 ok, .int .i64 on, .int .i64 oa, .int .i64 ob, .string os, .int .i64 pc, .int .i64 pq, .int .i64 ph, .string pt9, .int .i64 mk, .int .i64 mf, .int .i64 mt, .int .i64 mb, .int .i64 ms, .int .i64 mc, .int .i64 mq, .int .i64 mh, .string mx, .slice va vn vc] 38)) := (Below.refl _ w).alloc (Nat.le_refl _) _
 have h2 := hW.below hB2
 obtain ⟨la0, lc0, hwl⟩ : ∃ a c, d.wl = .slice a 0 c := by
  rcases h2.prs.2 with ⟨h1, h0⟩ | ⟨g, cap, cur, h1, _⟩
  ·exact ⟨none, 0, h1⟩
  ·rw [hl0] at h1; exact ⟨_, _, h1⟩
 have hlist := (blk_cell h2.blk 0).trans (show _ = some (.slice la0 0 lc0) by rw [hwl]; rfl)
 go_enter Tryz.func7, Tryz.ntmps7
 go_wp2_with fail
 go_ret
 exact ⟨rfl, hB2⟩
/-- A step of the kinds from 1 to 11. -/
theorem step_any {w : World} {wb H : Nat} {d : Wd} (hW : WAt w wb H d) (o : Opd) (hok : o.ok w) (hlo : 1 ≤ o.k) (hhi : o.k ≤ 11) (hlp : d.ps.length ≤ 1000000000) (hlN : d.N.length ≤ 4000000000000) (hlV : d.V.length ≤ 4000000000000) (hlP : d.P.length ≤ 4000000000000) :
  Calls Tryz.prog 7 #[.pointer (some ⟨wb, 0, none⟩), .agg o.cells.toArray] w fun e w' => e = .returned (.bool true) ∧ WTo w wb H d w' := by
 have ho := hok.slice
 have hon := hok.2.2.2
 by_cases hk1 : o.k = 1
 ·refine step_new o ho hk1 (fun W hBW => ?_)
  have hWW := hW.below hBW
  by_cases hn : o.a = 1 ∨ o.a = 3 ∨ o.a = 5 ∨ o.a = 7
  ·obtain ⟨n, hn2⟩ := Int.eq_ofNat_of_zero_le (show 0 ≤ o.a by omega)
   rw [hn2]
   refine (begins_yes hWW n (by omega) (by omega)).mono ?_
   rintro e w' ⟨rfl, d', h1, h2, h3, h4, h5, h6⟩
   exact ⟨rfl, d', h1, by omega, by omega, by rw [h3]; omega, by rw [h4]; omega, by rw [h5]; omega, (Keeps.ofBelow hBW).trans h6⟩
  ·refine (begins_no hWW o.a (by omega) (by omega) (by omega) (by omega)).mono ?_
   rintro e w' ⟨rfl, rfl⟩
   exact ⟨rfl, d, hWW, Nat.le_refl _, by omega, by omega, by omega, by omega, Keeps.ofBelow hBW⟩
 ·have m1 : (o.k == 1) = false := by rw [beq_eq_false_iff_ne]; exact hk1
  have m12 : (o.k == 12) = false := by rw [beq_eq_false_iff_ne]; omega
  have m13 : (o.k == 13) = false := by rw [beq_eq_false_iff_ne]; omega
  by_cases hl0 : d.ps.length = 0
  ·refine (step_none hW o ho m1 m12 m13 hl0).mono ?_
   rintro e w' ⟨rfl, hB⟩
   exact ⟨rfl, d, hW.below hB, Nat.le_refl _, by omega, by omega, by omega, by omega, Keeps.ofBelow hB⟩
  ·have hpos : 0 < d.ps.length := by omega
   rcases (show o.k = 2 ∨ o.k = 3 ∨ o.k = 4 ∨ o.k = 5 ∨ o.k = 6 ∨ o.k = 7 ∨ o.k = 8 ∨ o.k = 9 ∨ o.k = 10 ∨ o.k = 11 from by omega) with hk | hk | hk | hk | hk | hk | hk | hk | hk | hk
   ·exact step_done hW o ho hon m1 m12 m13 (by rw [hk]; rfl) (by rw [hk]; rfl) (by rw [hk]; rfl) (by rw [hk]; rfl) hpos hlp (fun W p hp => done_camp hp o ho hk (both_camp hp o.a))
   ·exact step_done hW o ho hon m1 m12 m13 (by rw [hk]; rfl) (by rw [hk]; rfl) (by rw [hk]; rfl) (by rw [hk]; rfl) hpos hlp (fun W p hp => done_sub hp o ho hk (both_sub hp o.a o.p))
   ·exact step_told hW o ho hon m1 m12 m13 (.inl hk) hpos hlp (fun W p hWW hp => told_net hWW hp o ho hk hlN hlV)
   ·exact step_done hW o ho hon m1 m12 m13 (by rw [hk]; rfl) (by rw [hk]; rfl) (by rw [hk]; rfl) (by rw [hk]; rfl) hpos hlp (fun W p hp => done_dlv hp o ho hk (both_dlv hp o.a))
   ·exact step_told hW o ho hon m1 m12 m13 (.inr (.inl hk)) hpos hlp (fun W p hWW hp => told_log hWW hp o ho hk hlP (both_log hp o.a))
   ·exact step_told hW o ho hon m1 m12 m13 (.inr (.inr (.inl hk))) hpos hlp (fun W p hWW hp => told_chat hWW hp o ho hk hlP (both_chat hp o.a o.b))
   ·refine step_told hW o ho hon m1 m12 m13 (.inr (.inr (.inr hk))) hpos hlp (fun W p hWW hp => (told_role hp o ho hk (both_role hp o.a)).mono ?_)
    rintro e w' ⟨rfl, hB⟩
    exact ⟨rfl, d, hWW.below hB, Nat.le_refl _, by omega, by omega, by omega, by omega, Keeps.ofBelow hB⟩
   ·exact step_done hW o ho hon m1 m12 m13 (by rw [hk]; rfl) (by rw [hk]; rfl) (by rw [hk]; rfl) (by rw [hk]; rfl) hpos hlp (fun W p hp => done_lose hp o ho hk (both_lose hp o.a))
   ·exact step_done hW o ho hon m1 m12 m13 (by rw [hk]; rfl) (by rw [hk]; rfl) (by rw [hk]; rfl) (by rw [hk]; rfl) hpos hlp (fun W p hp => done_dbl hp o ho hk (both_dbl hp o.a))
   ·exact step_done hW o ho hon m1 m12 m13 (by rw [hk]; rfl) (by rw [hk]; rfl) (by rw [hk]; rfl) (by rw [hk]; rfl) hpos hlp (fun W p hp => done_crash hp o ho hk (both_crash hp o.a))
/-- The first step of every script: a synod of one replica. -/
theorem step_first {w : World} {wb H : Nat} {d : Wd} (hW : WAt w wb H d) (o : Opd) (ho : ∃ ao n cap, o.v = .slice ao n cap) (hk : o.k = 1) (ha : o.a = 1) (hlp : d.ps.length ≤ 1000000000) :
  Calls Tryz.prog 7 #[.pointer (some ⟨wb, 0, none⟩), .agg o.cells.toArray] w fun e w' => e = .returned (.bool true) ∧ WNew w wb H d w' := by
 refine step_new o ho hk (fun W hBW => ?_)
 rw [ha]
 refine (begins_yes (hW.below hBW) 1 (.inl rfl) (by omega)).mono ?_
 rintro e w' ⟨rfl, d', h1, h2, h3, h4, h5, h6⟩
 exact ⟨rfl, d', h1, h2, h3, h4, h5, (Keeps.ofBelow hBW).trans h6⟩
end Go.Proofs.YtnnhnekfokbooaaGreatDoor
