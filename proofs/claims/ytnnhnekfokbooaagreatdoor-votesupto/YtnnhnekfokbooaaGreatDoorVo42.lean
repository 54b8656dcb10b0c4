/- The law's done, kind by kind (laid by mklawg.py). A slice of posts in memory. (Joined by merge.py.) -/
import Derived.Test.YtnnhnekfokbooaaGreatDoorVo41
import Derived.Test.YtnnhnekfokbooaaGreatDoorVo06
namespace Go.Proofs.YtnnhnekfokbooaaGreatDoor
open Go.RowKit
set_option linter.unusedSimpArgs false
set_option linter.unusedVariables false

set_option maxHeartbeats 4000000 in
set_option maxRecDepth 100000 in
theorem done_camp {w : World} {p : Pr} (h : PAt w p) (o : Opd) (ho : ∃ ao n cap, o.v = .slice ao n cap) (hk : o.k = 2) (hb : Both p 35 36 (fun v => #[v, .int .i64 o.a])) :
  Calls Tryz.prog 14 #[.agg #[.pointer (some ⟨p.sb, 0, none⟩), .pointer (some ⟨p.qb, 0, none⟩)], .agg o.cells.toArray] w fun e w' => e = .returned (.bool true) ∧ PTo w p w' := by
 obtain ⟨n, s1, x2, hn, hsim, hrun, hC, hQ⟩ := hb
 obtain ⟨ok, on, oa, ob, os, ⟨pc, pq, ph, pt9⟩, ⟨mk, mf, mt, mb, ms, ⟨mc, mq, mh, mx⟩, ma⟩, v⟩ := o
 obtain ⟨va, vn, vc, hve⟩ := ho
 simp only at hve hk
 subst hve hk
 simp only [pt] at hC hQ
 simp only [Opd.cells]
 have hB2 : Below w.heap.size w ((w.alloc (.cells #[.pointer (some ⟨p.sb, 0, none⟩), .pointer (some ⟨p.qb, 0, none⟩)] 47)).alloc (.cells #[.int .i64 2, .int .i64 on, .int .i64 oa, .int .i64 ob, .string os, .int .i64 pc, .int .i64 pq, .int .i64 ph, .string pt9, .int .i64 mk, .int .i64 mf, .int .i64 mt, .int .i64 mb, .int .i64 ms, .int .i64 mc, .int .i64 mq, .int .i64 mh, .string mx, .slice va vn vc] 38)) := ((Below.refl _ w).alloc (Nat.le_refl _) _).alloc (by simp) _
 have h2 := h.below hB2
 have hbp : ((w.alloc (.cells #[.pointer (some ⟨p.sb, 0, none⟩), .pointer (some ⟨p.qb, 0, none⟩)] 47)).alloc (.cells #[.int .i64 2, .int .i64 on, .int .i64 oa, .int .i64 ob, .string os, .int .i64 pc, .int .i64 pq, .int .i64 ph, .string pt9, .int .i64 mk, .int .i64 mf, .int .i64 mt, .int .i64 mb, .int .i64 ms, .int .i64 mc, .int .i64 mq, .int .i64 mh, .string mx, .slice va vn vc] 38)).heap[w.heap.size]? = some (.cells #[.pointer (some ⟨p.sb, 0, none⟩), .pointer (some ⟨p.qb, 0, none⟩)] 47 (0, 0)) := blk_alloc (blk_new w (.cells #[.pointer (some ⟨p.sb, 0, none⟩), .pointer (some ⟨p.qb, 0, none⟩)] 47)) _
 have hbo : ((w.alloc (.cells #[.pointer (some ⟨p.sb, 0, none⟩), .pointer (some ⟨p.qb, 0, none⟩)] 47)).alloc (.cells #[.int .i64 2, .int .i64 on, .int .i64 oa, .int .i64 ob, .string os, .int .i64 pc, .int .i64 pq, .int .i64 ph, .string pt9, .int .i64 mk, .int .i64 mf, .int .i64 mt, .int .i64 mb, .int .i64 ms, .int .i64 mc, .int .i64 mq, .int .i64 mh, .string mx, .slice va vn vc] 38)).heap[w.heap.size + 1]? = some (.cells #[.int .i64 2, .int .i64 on, .int .i64 oa, .int .i64 ob, .string os, .int .i64 pc, .int .i64 pq, .int .i64 ph, .string pt9, .int .i64 mk, .int .i64 mf, .int .i64 mt, .int .i64 mb, .int .i64 ms, .int .i64 mc, .int .i64 mq, .int .i64 mh, .string mx, .slice va vn vc] 38 (0, 0)) := by
  have := blk_new (w.alloc (.cells #[.pointer (some ⟨p.sb, 0, none⟩), .pointer (some ⟨p.qb, 0, none⟩)] 47)) (.cells #[.int .i64 2, .int .i64 on, .int .i64 oa, .int .i64 ob, .string os, .int .i64 pc, .int .i64 pq, .int .i64 ph, .string pt9, .int .i64 mk, .int .i64 mf, .int .i64 mt, .int .i64 mb, .int .i64 ms, .int .i64 mc, .int .i64 mq, .int .i64 mh, .string mx, .slice va vn vc] 38)
  rwa [World.size_alloc] at this
 have hbpc := blk_cell hbp
 have hboc := blk_cell hbo
 have hno1 : ¬ p.L.own p.sb s1.n w.heap.size := fun ho => by rw [hn] at ho; have := h.syn.own_lt ho; omega
 have hno2 : ¬ p.L.own p.sb s1.n (w.heap.size + 1) := fun ho => by rw [hn] at ho; have := h.syn.own_lt ho; omega
 go_enter Tryz.func14, Tryz.ntmps14
 go_wp2_with fail
 generalize ((w.alloc (.cells #[.pointer (some ⟨p.sb, 0, none⟩), .pointer (some ⟨p.qb, 0, none⟩)] 47)).alloc (.cells #[.int .i64 2, .int .i64 on, .int .i64 oa, .int .i64 ob, .string os, .int .i64 pc, .int .i64 pq, .int .i64 ph, .string pt9, .int .i64 mk, .int .i64 mf, .int .i64 mt, .int .i64 mb, .int .i64 ms, .int .i64 mc, .int .i64 mq, .int .i64 mh, .string mx, .slice va vn vc] 38)) = w2 at *
 refine (hC _ h2.syn).mono ?_
 rintro e w3 ⟨rfl, hto⟩
 clear hC hbpc hboc
 have hbp3 := hto.blk hbp hno1
 have hbo3 := hto.blk hbo hno2
 have hbpc := blk_cell hbp3
 have hboc := blk_cell hbo3
 have hq3 := h2.ref1 hn hto
 go_wp2_with fail
 refine (hQ _ hq3).mono ?_
 rintro e w4 ⟨rfl, hqt⟩
 clear hQ hbpc hboc
 have hfin : PTo w p w4 := PTo.after hB2 (h2.step hn hto hqt hsim hrun)
 go_wp2_with fail
 refine (num_same n _).mono ?_
 rintro e w5 ⟨rfl, rfl⟩
 go_wp2_with fail
 go_ret
 exact ⟨by simp, hfin⟩
set_option maxHeartbeats 4000000 in
set_option maxRecDepth 100000 in
theorem done_sub {w : World} {p : Pr} (h : PAt w p) (o : Opd) (ho : ∃ ao n cap, o.v = .slice ao n cap) (hk : o.k = 3) (hb : Both p 37 38 (fun v => #[v, .int .i64 o.a, .agg #[.int .i64 o.p.c, .int .i64 o.p.q, .int .i64 o.p.h, .string o.p.t]])) :
  Calls Tryz.prog 14 #[.agg #[.pointer (some ⟨p.sb, 0, none⟩), .pointer (some ⟨p.qb, 0, none⟩)], .agg o.cells.toArray] w fun e w' => e = .returned (.bool true) ∧ PTo w p w' := by
 obtain ⟨n, s1, x2, hn, hsim, hrun, hC, hQ⟩ := hb
 obtain ⟨ok, on, oa, ob, os, ⟨pc, pq, ph, pt9⟩, ⟨mk, mf, mt, mb, ms, ⟨mc, mq, mh, mx⟩, ma⟩, v⟩ := o
 obtain ⟨va, vn, vc, hve⟩ := ho
 simp only at hve hk
 subst hve hk
 simp only [pt] at hC hQ
 simp only [Opd.cells]
 have hB2 : Below w.heap.size w ((w.alloc (.cells #[.pointer (some ⟨p.sb, 0, none⟩), .pointer (some ⟨p.qb, 0, none⟩)] 47)).alloc (.cells #[.int .i64 3, .int .i64 on, .int .i64 oa, .int .i64 ob, .string os, .int .i64 pc, .int .i64 pq, .int .i64 ph, .string pt9, .int .i64 mk, .int .i64 mf, .int .i64 mt, .int .i64 mb, .int .i64 ms, .int .i64 mc, .int .i64 mq, .int .i64 mh, .string mx, .slice va vn vc] 38)) := ((Below.refl _ w).alloc (Nat.le_refl _) _).alloc (by simp) _
 have h2 := h.below hB2
 have hbp : ((w.alloc (.cells #[.pointer (some ⟨p.sb, 0, none⟩), .pointer (some ⟨p.qb, 0, none⟩)] 47)).alloc (.cells #[.int .i64 3, .int .i64 on, .int .i64 oa, .int .i64 ob, .string os, .int .i64 pc, .int .i64 pq, .int .i64 ph, .string pt9, .int .i64 mk, .int .i64 mf, .int .i64 mt, .int .i64 mb, .int .i64 ms, .int .i64 mc, .int .i64 mq, .int .i64 mh, .string mx, .slice va vn vc] 38)).heap[w.heap.size]? = some (.cells #[.pointer (some ⟨p.sb, 0, none⟩), .pointer (some ⟨p.qb, 0, none⟩)] 47 (0, 0)) := blk_alloc (blk_new w (.cells #[.pointer (some ⟨p.sb, 0, none⟩), .pointer (some ⟨p.qb, 0, none⟩)] 47)) _
 have hbo : ((w.alloc (.cells #[.pointer (some ⟨p.sb, 0, none⟩), .pointer (some ⟨p.qb, 0, none⟩)] 47)).alloc (.cells #[.int .i64 3, .int .i64 on, .int .i64 oa, .int .i64 ob, .string os, .int .i64 pc, .int .i64 pq, .int .i64 ph, .string pt9, .int .i64 mk, .int .i64 mf, .int .i64 mt, .int .i64 mb, .int .i64 ms, .int .i64 mc, .int .i64 mq, .int .i64 mh, .string mx, .slice va vn vc] 38)).heap[w.heap.size + 1]? = some (.cells #[.int .i64 3, .int .i64 on, .int .i64 oa, .int .i64 ob, .string os, .int .i64 pc, .int .i64 pq, .int .i64 ph, .string pt9, .int .i64 mk, .int .i64 mf, .int .i64 mt, .int .i64 mb, .int .i64 ms, .int .i64 mc, .int .i64 mq, .int .i64 mh, .string mx, .slice va vn vc] 38 (0, 0)) := by
  have := blk_new (w.alloc (.cells #[.pointer (some ⟨p.sb, 0, none⟩), .pointer (some ⟨p.qb, 0, none⟩)] 47)) (.cells #[.int .i64 3, .int .i64 on, .int .i64 oa, .int .i64 ob, .string os, .int .i64 pc, .int .i64 pq, .int .i64 ph, .string pt9, .int .i64 mk, .int .i64 mf, .int .i64 mt, .int .i64 mb, .int .i64 ms, .int .i64 mc, .int .i64 mq, .int .i64 mh, .string mx, .slice va vn vc] 38)
  rwa [World.size_alloc] at this
 have hbpc := blk_cell hbp
 have hboc := blk_cell hbo
 have hno1 : ¬ p.L.own p.sb s1.n w.heap.size := fun ho => by rw [hn] at ho; have := h.syn.own_lt ho; omega
 have hno2 : ¬ p.L.own p.sb s1.n (w.heap.size + 1) := fun ho => by rw [hn] at ho; have := h.syn.own_lt ho; omega
 go_enter Tryz.func14, Tryz.ntmps14
 go_wp2_with fail
 generalize ((w.alloc (.cells #[.pointer (some ⟨p.sb, 0, none⟩), .pointer (some ⟨p.qb, 0, none⟩)] 47)).alloc (.cells #[.int .i64 3, .int .i64 on, .int .i64 oa, .int .i64 ob, .string os, .int .i64 pc, .int .i64 pq, .int .i64 ph, .string pt9, .int .i64 mk, .int .i64 mf, .int .i64 mt, .int .i64 mb, .int .i64 ms, .int .i64 mc, .int .i64 mq, .int .i64 mh, .string mx, .slice va vn vc] 38)) = w2 at *
 refine (hC _ h2.syn).mono ?_
 rintro e w3 ⟨rfl, hto⟩
 clear hC hbpc hboc
 have hbp3 := hto.blk hbp hno1
 have hbo3 := hto.blk hbo hno2
 have hbpc := blk_cell hbp3
 have hboc := blk_cell hbo3
 have hq3 := h2.ref1 hn hto
 go_wp2_with fail
 refine (hQ _ hq3).mono ?_
 rintro e w4 ⟨rfl, hqt⟩
 clear hQ hbpc hboc
 have hfin : PTo w p w4 := PTo.after hB2 (h2.step hn hto hqt hsim hrun)
 go_wp2_with fail
 refine (num_same n _).mono ?_
 rintro e w5 ⟨rfl, rfl⟩
 go_wp2_with fail
 go_ret
 exact ⟨by simp, hfin⟩
set_option maxHeartbeats 4000000 in
set_option maxRecDepth 100000 in
theorem done_dlv {w : World} {p : Pr} (h : PAt w p) (o : Opd) (ho : ∃ ao n cap, o.v = .slice ao n cap) (hk : o.k = 5) (hb : Both p 39 40 (fun v => #[v, .int .i64 o.a])) :
  Calls Tryz.prog 14 #[.agg #[.pointer (some ⟨p.sb, 0, none⟩), .pointer (some ⟨p.qb, 0, none⟩)], .agg o.cells.toArray] w fun e w' => e = .returned (.bool true) ∧ PTo w p w' := by
 obtain ⟨n, s1, x2, hn, hsim, hrun, hC, hQ⟩ := hb
 obtain ⟨ok, on, oa, ob, os, ⟨pc, pq, ph, pt9⟩, ⟨mk, mf, mt, mb, ms, ⟨mc, mq, mh, mx⟩, ma⟩, v⟩ := o
 obtain ⟨va, vn, vc, hve⟩ := ho
 simp only at hve hk
 subst hve hk
 simp only [pt] at hC hQ
 simp only [Opd.cells]
 have hB2 : Below w.heap.size w ((w.alloc (.cells #[.pointer (some ⟨p.sb, 0, none⟩), .pointer (some ⟨p.qb, 0, none⟩)] 47)).alloc (.cells #[.int .i64 5, .int .i64 on, .int .i64 oa, .int .i64 ob, .string os, .int .i64 pc, .int .i64 pq, .int .i64 ph, .string pt9, .int .i64 mk, .int .i64 mf, .int .i64 mt, .int .i64 mb, .int .i64 ms, .int .i64 mc, .int .i64 mq, .int .i64 mh, .string mx, .slice va vn vc] 38)) := ((Below.refl _ w).alloc (Nat.le_refl _) _).alloc (by simp) _
 have h2 := h.below hB2
 have hbp : ((w.alloc (.cells #[.pointer (some ⟨p.sb, 0, none⟩), .pointer (some ⟨p.qb, 0, none⟩)] 47)).alloc (.cells #[.int .i64 5, .int .i64 on, .int .i64 oa, .int .i64 ob, .string os, .int .i64 pc, .int .i64 pq, .int .i64 ph, .string pt9, .int .i64 mk, .int .i64 mf, .int .i64 mt, .int .i64 mb, .int .i64 ms, .int .i64 mc, .int .i64 mq, .int .i64 mh, .string mx, .slice va vn vc] 38)).heap[w.heap.size]? = some (.cells #[.pointer (some ⟨p.sb, 0, none⟩), .pointer (some ⟨p.qb, 0, none⟩)] 47 (0, 0)) := blk_alloc (blk_new w (.cells #[.pointer (some ⟨p.sb, 0, none⟩), .pointer (some ⟨p.qb, 0, none⟩)] 47)) _
 have hbo : ((w.alloc (.cells #[.pointer (some ⟨p.sb, 0, none⟩), .pointer (some ⟨p.qb, 0, none⟩)] 47)).alloc (.cells #[.int .i64 5, .int .i64 on, .int .i64 oa, .int .i64 ob, .string os, .int .i64 pc, .int .i64 pq, .int .i64 ph, .string pt9, .int .i64 mk, .int .i64 mf, .int .i64 mt, .int .i64 mb, .int .i64 ms, .int .i64 mc, .int .i64 mq, .int .i64 mh, .string mx, .slice va vn vc] 38)).heap[w.heap.size + 1]? = some (.cells #[.int .i64 5, .int .i64 on, .int .i64 oa, .int .i64 ob, .string os, .int .i64 pc, .int .i64 pq, .int .i64 ph, .string pt9, .int .i64 mk, .int .i64 mf, .int .i64 mt, .int .i64 mb, .int .i64 ms, .int .i64 mc, .int .i64 mq, .int .i64 mh, .string mx, .slice va vn vc] 38 (0, 0)) := by
  have := blk_new (w.alloc (.cells #[.pointer (some ⟨p.sb, 0, none⟩), .pointer (some ⟨p.qb, 0, none⟩)] 47)) (.cells #[.int .i64 5, .int .i64 on, .int .i64 oa, .int .i64 ob, .string os, .int .i64 pc, .int .i64 pq, .int .i64 ph, .string pt9, .int .i64 mk, .int .i64 mf, .int .i64 mt, .int .i64 mb, .int .i64 ms, .int .i64 mc, .int .i64 mq, .int .i64 mh, .string mx, .slice va vn vc] 38)
  rwa [World.size_alloc] at this
 have hbpc := blk_cell hbp
 have hboc := blk_cell hbo
 have hno1 : ¬ p.L.own p.sb s1.n w.heap.size := fun ho => by rw [hn] at ho; have := h.syn.own_lt ho; omega
 have hno2 : ¬ p.L.own p.sb s1.n (w.heap.size + 1) := fun ho => by rw [hn] at ho; have := h.syn.own_lt ho; omega
 go_enter Tryz.func14, Tryz.ntmps14
 go_wp2_with fail
 generalize ((w.alloc (.cells #[.pointer (some ⟨p.sb, 0, none⟩), .pointer (some ⟨p.qb, 0, none⟩)] 47)).alloc (.cells #[.int .i64 5, .int .i64 on, .int .i64 oa, .int .i64 ob, .string os, .int .i64 pc, .int .i64 pq, .int .i64 ph, .string pt9, .int .i64 mk, .int .i64 mf, .int .i64 mt, .int .i64 mb, .int .i64 ms, .int .i64 mc, .int .i64 mq, .int .i64 mh, .string mx, .slice va vn vc] 38)) = w2 at *
 refine (hC _ h2.syn).mono ?_
 rintro e w3 ⟨rfl, hto⟩
 clear hC hbpc hboc
 have hbp3 := hto.blk hbp hno1
 have hbo3 := hto.blk hbo hno2
 have hbpc := blk_cell hbp3
 have hboc := blk_cell hbo3
 have hq3 := h2.ref1 hn hto
 go_wp2_with fail
 refine (hQ _ hq3).mono ?_
 rintro e w4 ⟨rfl, hqt⟩
 clear hQ hbpc hboc
 have hfin : PTo w p w4 := PTo.after hB2 (h2.step hn hto hqt hsim hrun)
 go_wp2_with fail
 refine (num_same n _).mono ?_
 rintro e w5 ⟨rfl, rfl⟩
 go_wp2_with fail
 go_ret
 exact ⟨by simp, hfin⟩
set_option maxHeartbeats 4000000 in
set_option maxRecDepth 100000 in
theorem done_lose {w : World} {p : Pr} (h : PAt w p) (o : Opd) (ho : ∃ ao n cap, o.v = .slice ao n cap) (hk : o.k = 9) (hb : Both p 41 42 (fun v => #[v, .int .i64 o.a])) :
  Calls Tryz.prog 14 #[.agg #[.pointer (some ⟨p.sb, 0, none⟩), .pointer (some ⟨p.qb, 0, none⟩)], .agg o.cells.toArray] w fun e w' => e = .returned (.bool true) ∧ PTo w p w' := by
 obtain ⟨n, s1, x2, hn, hsim, hrun, hC, hQ⟩ := hb
 obtain ⟨ok, on, oa, ob, os, ⟨pc, pq, ph, pt9⟩, ⟨mk, mf, mt, mb, ms, ⟨mc, mq, mh, mx⟩, ma⟩, v⟩ := o
 obtain ⟨va, vn, vc, hve⟩ := ho
 simp only at hve hk
 subst hve hk
 simp only [pt] at hC hQ
 simp only [Opd.cells]
 have hB2 : Below w.heap.size w ((w.alloc (.cells #[.pointer (some ⟨p.sb, 0, none⟩), .pointer (some ⟨p.qb, 0, none⟩)] 47)).alloc (.cells #[.int .i64 9, .int .i64 on, .int .i64 oa, .int .i64 ob, .string os, .int .i64 pc, .int .i64 pq, .int .i64 ph, .string pt9, .int .i64 mk, .int .i64 mf, .int .i64 mt, .int .i64 mb, .int .i64 ms, .int .i64 mc, .int .i64 mq, .int .i64 mh, .string mx, .slice va vn vc] 38)) := ((Below.refl _ w).alloc (Nat.le_refl _) _).alloc (by simp) _
 have h2 := h.below hB2
 have hbp : ((w.alloc (.cells #[.pointer (some ⟨p.sb, 0, none⟩), .pointer (some ⟨p.qb, 0, none⟩)] 47)).alloc (.cells #[.int .i64 9, .int .i64 on, .int .i64 oa, .int .i64 ob, .string os, .int .i64 pc, .int .i64 pq, .int .i64 ph, .string pt9, .int .i64 mk, .int .i64 mf, .int .i64 mt, .int .i64 mb, .int .i64 ms, .int .i64 mc, .int .i64 mq, .int .i64 mh, .string mx, .slice va vn vc] 38)).heap[w.heap.size]? = some (.cells #[.pointer (some ⟨p.sb, 0, none⟩), .pointer (some ⟨p.qb, 0, none⟩)] 47 (0, 0)) := blk_alloc (blk_new w (.cells #[.pointer (some ⟨p.sb, 0, none⟩), .pointer (some ⟨p.qb, 0, none⟩)] 47)) _
 have hbo : ((w.alloc (.cells #[.pointer (some ⟨p.sb, 0, none⟩), .pointer (some ⟨p.qb, 0, none⟩)] 47)).alloc (.cells #[.int .i64 9, .int .i64 on, .int .i64 oa, .int .i64 ob, .string os, .int .i64 pc, .int .i64 pq, .int .i64 ph, .string pt9, .int .i64 mk, .int .i64 mf, .int .i64 mt, .int .i64 mb, .int .i64 ms, .int .i64 mc, .int .i64 mq, .int .i64 mh, .string mx, .slice va vn vc] 38)).heap[w.heap.size + 1]? = some (.cells #[.int .i64 9, .int .i64 on, .int .i64 oa, .int .i64 ob, .string os, .int .i64 pc, .int .i64 pq, .int .i64 ph, .string pt9, .int .i64 mk, .int .i64 mf, .int .i64 mt, .int .i64 mb, .int .i64 ms, .int .i64 mc, .int .i64 mq, .int .i64 mh, .string mx, .slice va vn vc] 38 (0, 0)) := by
  have := blk_new (w.alloc (.cells #[.pointer (some ⟨p.sb, 0, none⟩), .pointer (some ⟨p.qb, 0, none⟩)] 47)) (.cells #[.int .i64 9, .int .i64 on, .int .i64 oa, .int .i64 ob, .string os, .int .i64 pc, .int .i64 pq, .int .i64 ph, .string pt9, .int .i64 mk, .int .i64 mf, .int .i64 mt, .int .i64 mb, .int .i64 ms, .int .i64 mc, .int .i64 mq, .int .i64 mh, .string mx, .slice va vn vc] 38)
  rwa [World.size_alloc] at this
 have hbpc := blk_cell hbp
 have hboc := blk_cell hbo
 have hno1 : ¬ p.L.own p.sb s1.n w.heap.size := fun ho => by rw [hn] at ho; have := h.syn.own_lt ho; omega
 have hno2 : ¬ p.L.own p.sb s1.n (w.heap.size + 1) := fun ho => by rw [hn] at ho; have := h.syn.own_lt ho; omega
 go_enter Tryz.func14, Tryz.ntmps14
 go_wp2_with fail
 generalize ((w.alloc (.cells #[.pointer (some ⟨p.sb, 0, none⟩), .pointer (some ⟨p.qb, 0, none⟩)] 47)).alloc (.cells #[.int .i64 9, .int .i64 on, .int .i64 oa, .int .i64 ob, .string os, .int .i64 pc, .int .i64 pq, .int .i64 ph, .string pt9, .int .i64 mk, .int .i64 mf, .int .i64 mt, .int .i64 mb, .int .i64 ms, .int .i64 mc, .int .i64 mq, .int .i64 mh, .string mx, .slice va vn vc] 38)) = w2 at *
 refine (hC _ h2.syn).mono ?_
 rintro e w3 ⟨rfl, hto⟩
 clear hC hbpc hboc
 have hbp3 := hto.blk hbp hno1
 have hbo3 := hto.blk hbo hno2
 have hbpc := blk_cell hbp3
 have hboc := blk_cell hbo3
 have hq3 := h2.ref1 hn hto
 go_wp2_with fail
 refine (hQ _ hq3).mono ?_
 rintro e w4 ⟨rfl, hqt⟩
 clear hQ hbpc hboc
 have hfin : PTo w p w4 := PTo.after hB2 (h2.step hn hto hqt hsim hrun)
 go_wp2_with fail
 refine (num_same n _).mono ?_
 rintro e w5 ⟨rfl, rfl⟩
 go_wp2_with fail
 go_ret
 exact ⟨by simp, hfin⟩
set_option maxHeartbeats 4000000 in
set_option maxRecDepth 100000 in
theorem done_dbl {w : World} {p : Pr} (h : PAt w p) (o : Opd) (ho : ∃ ao n cap, o.v = .slice ao n cap) (hk : o.k = 10) (hb : Both p 43 44 (fun v => #[v, .int .i64 o.a])) :
  Calls Tryz.prog 14 #[.agg #[.pointer (some ⟨p.sb, 0, none⟩), .pointer (some ⟨p.qb, 0, none⟩)], .agg o.cells.toArray] w fun e w' => e = .returned (.bool true) ∧ PTo w p w' := by
 obtain ⟨n, s1, x2, hn, hsim, hrun, hC, hQ⟩ := hb
 obtain ⟨ok, on, oa, ob, os, ⟨pc, pq, ph, pt9⟩, ⟨mk, mf, mt, mb, ms, ⟨mc, mq, mh, mx⟩, ma⟩, v⟩ := o
 obtain ⟨va, vn, vc, hve⟩ := ho
 simp only at hve hk
 subst hve hk
 simp only [pt] at hC hQ
 simp only [Opd.cells]
 have hB2 : Below w.heap.size w ((w.alloc (.cells #[.pointer (some ⟨p.sb, 0, none⟩), .pointer (some ⟨p.qb, 0, none⟩)] 47)).alloc (.cells #[.int .i64 10, .int .i64 on, .int .i64 oa, .int .i64 ob, .string os, .int .i64 pc, .int .i64 pq, .int .i64 ph, .string pt9, .int .i64 mk, .int .i64 mf, .int .i64 mt, .int .i64 mb, .int .i64 ms, .int .i64 mc, .int .i64 mq, .int .i64 mh, .string mx, .slice va vn vc] 38)) := ((Below.refl _ w).alloc (Nat.le_refl _) _).alloc (by simp) _
 have h2 := h.below hB2
 have hbp : ((w.alloc (.cells #[.pointer (some ⟨p.sb, 0, none⟩), .pointer (some ⟨p.qb, 0, none⟩)] 47)).alloc (.cells #[.int .i64 10, .int .i64 on, .int .i64 oa, .int .i64 ob, .string os, .int .i64 pc, .int .i64 pq, .int .i64 ph, .string pt9, .int .i64 mk, .int .i64 mf, .int .i64 mt, .int .i64 mb, .int .i64 ms, .int .i64 mc, .int .i64 mq, .int .i64 mh, .string mx, .slice va vn vc] 38)).heap[w.heap.size]? = some (.cells #[.pointer (some ⟨p.sb, 0, none⟩), .pointer (some ⟨p.qb, 0, none⟩)] 47 (0, 0)) := blk_alloc (blk_new w (.cells #[.pointer (some ⟨p.sb, 0, none⟩), .pointer (some ⟨p.qb, 0, none⟩)] 47)) _
 have hbo : ((w.alloc (.cells #[.pointer (some ⟨p.sb, 0, none⟩), .pointer (some ⟨p.qb, 0, none⟩)] 47)).alloc (.cells #[.int .i64 10, .int .i64 on, .int .i64 oa, .int .i64 ob, .string os, .int .i64 pc, .int .i64 pq, .int .i64 ph, .string pt9, .int .i64 mk, .int .i64 mf, .int .i64 mt, .int .i64 mb, .int .i64 ms, .int .i64 mc, .int .i64 mq, .int .i64 mh, .string mx, .slice va vn vc] 38)).heap[w.heap.size + 1]? = some (.cells #[.int .i64 10, .int .i64 on, .int .i64 oa, .int .i64 ob, .string os, .int .i64 pc, .int .i64 pq, .int .i64 ph, .string pt9, .int .i64 mk, .int .i64 mf, .int .i64 mt, .int .i64 mb, .int .i64 ms, .int .i64 mc, .int .i64 mq, .int .i64 mh, .string mx, .slice va vn vc] 38 (0, 0)) := by
  have := blk_new (w.alloc (.cells #[.pointer (some ⟨p.sb, 0, none⟩), .pointer (some ⟨p.qb, 0, none⟩)] 47)) (.cells #[.int .i64 10, .int .i64 on, .int .i64 oa, .int .i64 ob, .string os, .int .i64 pc, .int .i64 pq, .int .i64 ph, .string pt9, .int .i64 mk, .int .i64 mf, .int .i64 mt, .int .i64 mb, .int .i64 ms, .int .i64 mc, .int .i64 mq, .int .i64 mh, .string mx, .slice va vn vc] 38)
  rwa [World.size_alloc] at this
 have hbpc := blk_cell hbp
 have hboc := blk_cell hbo
 have hno1 : ¬ p.L.own p.sb s1.n w.heap.size := fun ho => by rw [hn] at ho; have := h.syn.own_lt ho; omega
 have hno2 : ¬ p.L.own p.sb s1.n (w.heap.size + 1) := fun ho => by rw [hn] at ho; have := h.syn.own_lt ho; omega
 go_enter Tryz.func14, Tryz.ntmps14
 go_wp2_with fail
 generalize ((w.alloc (.cells #[.pointer (some ⟨p.sb, 0, none⟩), .pointer (some ⟨p.qb, 0, none⟩)] 47)).alloc (.cells #[.int .i64 10, .int .i64 on, .int .i64 oa, .int .i64 ob, .string os, .int .i64 pc, .int .i64 pq, .int .i64 ph, .string pt9, .int .i64 mk, .int .i64 mf, .int .i64 mt, .int .i64 mb, .int .i64 ms, .int .i64 mc, .int .i64 mq, .int .i64 mh, .string mx, .slice va vn vc] 38)) = w2 at *
 refine (hC _ h2.syn).mono ?_
 rintro e w3 ⟨rfl, hto⟩
 clear hC hbpc hboc
 have hbp3 := hto.blk hbp hno1
 have hbo3 := hto.blk hbo hno2
 have hbpc := blk_cell hbp3
 have hboc := blk_cell hbo3
 have hq3 := h2.ref1 hn hto
 go_wp2_with fail
 refine (hQ _ hq3).mono ?_
 rintro e w4 ⟨rfl, hqt⟩
 clear hQ hbpc hboc
 have hfin : PTo w p w4 := PTo.after hB2 (h2.step hn hto hqt hsim hrun)
 go_wp2_with fail
 refine (num_same n _).mono ?_
 rintro e w5 ⟨rfl, rfl⟩
 go_wp2_with fail
 go_ret
 exact ⟨by simp, hfin⟩
set_option maxHeartbeats 4000000 in
set_option maxRecDepth 100000 in
theorem done_crash {w : World} {p : Pr} (h : PAt w p) (o : Opd) (ho : ∃ ao n cap, o.v = .slice ao n cap) (hk : o.k = 11) (hb : Both p 45 46 (fun v => #[v, .int .i64 o.a])) :
  Calls Tryz.prog 14 #[.agg #[.pointer (some ⟨p.sb, 0, none⟩), .pointer (some ⟨p.qb, 0, none⟩)], .agg o.cells.toArray] w fun e w' => e = .returned (.bool true) ∧ PTo w p w' := by
 obtain ⟨n, s1, x2, hn, hsim, hrun, hC, hQ⟩ := hb
 obtain ⟨ok, on, oa, ob, os, ⟨pc, pq, ph, pt9⟩, ⟨mk, mf, mt, mb, ms, ⟨mc, mq, mh, mx⟩, ma⟩, v⟩ := o
 obtain ⟨va, vn, vc, hve⟩ := ho
 simp only at hve hk
 subst hve hk
 simp only [pt] at hC hQ
 simp only [Opd.cells]
 have hB2 : Below w.heap.size w ((w.alloc (.cells #[.pointer (some ⟨p.sb, 0, none⟩), .pointer (some ⟨p.qb, 0, none⟩)] 47)).alloc (.cells #[.int .i64 11, .int .i64 on, .int .i64 oa, .int .i64 ob, .string os, .int .i64 pc, .int .i64 pq, .int .i64 ph, .string pt9, .int .i64 mk, .int .i64 mf, .int .i64 mt, .int .i64 mb, .int .i64 ms, .int .i64 mc, .int .i64 mq, .int .i64 mh, .string mx, .slice va vn vc] 38)) := ((Below.refl _ w).alloc (Nat.le_refl _) _).alloc (by simp) _
 have h2 := h.below hB2
 have hbp : ((w.alloc (.cells #[.pointer (some ⟨p.sb, 0, none⟩), .pointer (some ⟨p.qb, 0, none⟩)] 47)).alloc (.cells #[.int .i64 11, .int .i64 on, .int .i64 oa, .int .i64 ob, .string os, .int .i64 pc, .int .i64 pq, .int .i64 ph, .string pt9, .int .i64 mk, .int .i64 mf, .int .i64 mt, .int .i64 mb, .int .i64 ms, .int .i64 mc, .int .i64 mq, .int .i64 mh, .string mx, .slice va vn vc] 38)).heap[w.heap.size]? = some (.cells #[.pointer (some ⟨p.sb, 0, none⟩), .pointer (some ⟨p.qb, 0, none⟩)] 47 (0, 0)) := blk_alloc (blk_new w (.cells #[.pointer (some ⟨p.sb, 0, none⟩), .pointer (some ⟨p.qb, 0, none⟩)] 47)) _
 have hbo : ((w.alloc (.cells #[.pointer (some ⟨p.sb, 0, none⟩), .pointer (some ⟨p.qb, 0, none⟩)] 47)).alloc (.cells #[.int .i64 11, .int .i64 on, .int .i64 oa, .int .i64 ob, .string os, .int .i64 pc, .int .i64 pq, .int .i64 ph, .string pt9, .int .i64 mk, .int .i64 mf, .int .i64 mt, .int .i64 mb, .int .i64 ms, .int .i64 mc, .int .i64 mq, .int .i64 mh, .string mx, .slice va vn vc] 38)).heap[w.heap.size + 1]? = some (.cells #[.int .i64 11, .int .i64 on, .int .i64 oa, .int .i64 ob, .string os, .int .i64 pc, .int .i64 pq, .int .i64 ph, .string pt9, .int .i64 mk, .int .i64 mf, .int .i64 mt, .int .i64 mb, .int .i64 ms, .int .i64 mc, .int .i64 mq, .int .i64 mh, .string mx, .slice va vn vc] 38 (0, 0)) := by
  have := blk_new (w.alloc (.cells #[.pointer (some ⟨p.sb, 0, none⟩), .pointer (some ⟨p.qb, 0, none⟩)] 47)) (.cells #[.int .i64 11, .int .i64 on, .int .i64 oa, .int .i64 ob, .string os, .int .i64 pc, .int .i64 pq, .int .i64 ph, .string pt9, .int .i64 mk, .int .i64 mf, .int .i64 mt, .int .i64 mb, .int .i64 ms, .int .i64 mc, .int .i64 mq, .int .i64 mh, .string mx, .slice va vn vc] 38)
  rwa [World.size_alloc] at this
 have hbpc := blk_cell hbp
 have hboc := blk_cell hbo
 have hno1 : ¬ p.L.own p.sb s1.n w.heap.size := fun ho => by rw [hn] at ho; have := h.syn.own_lt ho; omega
 have hno2 : ¬ p.L.own p.sb s1.n (w.heap.size + 1) := fun ho => by rw [hn] at ho; have := h.syn.own_lt ho; omega
 go_enter Tryz.func14, Tryz.ntmps14
 go_wp2_with fail
 generalize ((w.alloc (.cells #[.pointer (some ⟨p.sb, 0, none⟩), .pointer (some ⟨p.qb, 0, none⟩)] 47)).alloc (.cells #[.int .i64 11, .int .i64 on, .int .i64 oa, .int .i64 ob, .string os, .int .i64 pc, .int .i64 pq, .int .i64 ph, .string pt9, .int .i64 mk, .int .i64 mf, .int .i64 mt, .int .i64 mb, .int .i64 ms, .int .i64 mc, .int .i64 mq, .int .i64 mh, .string mx, .slice va vn vc] 38)) = w2 at *
 refine (hC _ h2.syn).mono ?_
 rintro e w3 ⟨rfl, hto⟩
 clear hC hbpc hboc
 have hbp3 := hto.blk hbp hno1
 have hbo3 := hto.blk hbo hno2
 have hbpc := blk_cell hbp3
 have hboc := blk_cell hbo3
 have hq3 := h2.ref1 hn hto
 go_wp2_with fail
 refine (hQ _ hq3).mono ?_
 rintro e w4 ⟨rfl, hqt⟩
 clear hQ hbpc hboc
 have hfin : PTo w p w4 := PTo.after hB2 (h2.step hn hto hqt hsim hrun)
 go_wp2_with fail
 refine (num_same n _).mono ?_
 rintro e w5 ⟨rfl, rfl⟩
 go_wp2_with fail
 go_ret
 exact ⟨by simp, hfin⟩
end Go.Proofs.YtnnhnekfokbooaaGreatDoor

namespace Go.Proofs.YtnnhnekfokbooaaGreatDoor
open Go.RowKit
set_option linter.unusedSimpArgs false
set_option linter.unusedVariables false

/-- v is a slice of the posts l, in a block outside own. -/
structure PsAt (own : Nat → Prop) (w : World) (v : Value) (l : List Pst) : Prop where
 len : l.length ≤ 1000000
 form : ∃ ao cap, v = .slice ao l.length cap ∧ (l ≠ [] → ∃ g, ao = some ⟨g, 0, none⟩ ∧ g < w.heap.size ∧ ¬ own g ∧ ∀ j (hj : j < l.length), ∀ k, k < 4 → w.cell? ⟨g, j * 4 + k, none⟩ = l[j].cells[k]?)
theorem PsAt.nil (own : Nat → Prop) (w : World) : PsAt own w (.slice none 0 0) [] := ⟨by simp, none, 0, rfl, fun h => absurd rfl h⟩
theorem PsAt.mono {own own' : Nat → Prop} {w : World} {v : Value} {l : List Pst} (h : PsAt own w v l) (ho : ∀ g, g < w.heap.size → own' g → own g) : PsAt own' w v l := by
 obtain ⟨hl, ao, cap, rfl, hf⟩ := h
 refine ⟨hl, ao, cap, rfl, fun hne => ?_⟩
 obtain ⟨g, rfl, hg, hno, hc⟩ := hf hne
 exact ⟨g, rfl, hg, fun h => hno (ho g hg h), hc⟩
theorem PsAt.keeps {own Q : Nat → Prop} {w w' : World} {v : Value} {l : List Pst} (h : PsAt own w v l) (hk : Keeps Q w w') (hQ : ∀ g, Q g → own g) : PsAt own w' v l := by
 obtain ⟨hl, ao, cap, rfl, hf⟩ := h
 refine ⟨hl, ao, cap, rfl, fun hne => ?_⟩
 obtain ⟨g, rfl, hg, hno, hc⟩ := hf hne
 refine ⟨g, rfl, Nat.lt_of_lt_of_le hg hk.size, hno, fun j hj k hk4 => ?_⟩
 rw [← hc j hj k hk4]
 exact World.cell?_of_block (hk.block g hg (fun h => hno (hQ g h))) 
theorem pcells_at' : ∀ (l : List Pst) (j : Nat) (hj : j < l.length) (k : Nat), k < 4 → (pcells l)[j * 4 + k]? = l[j].cells[k]?
 | [], j, hj, _, _ => by simp at hj
 | p :: l, 0, _, k, hk => by
  show (p.cells ++ pcells l)[0 * 4 + k]? = p.cells[k]?
  rw [List.getElem?_append_left (by show 0 * 4 + k < 4; omega)]
  simp
 | p :: l, j + 1, hj, k, hk => by
  have hj' : j < l.length := by simpa using hj
  show (p.cells ++ pcells l)[(j + 1) * 4 + k]? = l[j].cells[k]?
  rw [List.getElem?_append_right (by show 4 ≤ _; omega)]
  have e : (j + 1) * 4 + k - p.cells.length = j * 4 + k := by show (j + 1) * 4 + k - 4 = _; omega
  rw [e]
  exact pcells_at' l j (by simpa using hj) k hk
theorem psAt_owns {own : Nat → Prop} {w : World} {base : Nat} {v : Value} {l : List Pst} (h : w.ownsRow base 33 4 v l.length (pcells l)) (hl : l.length ≤ 1000000) (hno : ∀ g, base ≤ g → ¬ own g) : PsAt own w v l := by
 rcases h.2 with ⟨h1, h0⟩ | ⟨g, cap, cur, rfl, hbg, hg, hnc, hcm, hcs, htake⟩
 ·have : l = [] := by
   cases l with
   | nil => rfl
   | cons x l => cases h0
  subst this
  rw [h1]
  exact ⟨by simp, none, 0, rfl, fun h => absurd rfl h⟩
 ·refine ⟨hl, _, _, rfl, fun _ => ⟨g, rfl, lt_of_block hg, hno g hbg, fun j hj k hk => ?_⟩⟩
  rw [blk_cell hg, ← pcells_at' l j hj k hk, ← htake, List.getElem?_take, if_pos (by omega), Array.getElem?_toList]
end Go.Proofs.YtnnhnekfokbooaaGreatDoor
