/- LawK, LawL, LawM -/
import Derived.Test.YtnnhnekfokbooaaGreatDoorAl34
import Derived.Test.YtnnhnekfokbooaaGreatDoorAl35
set_option linter.unusedSimpArgs false
set_option linter.unusedVariables false
set_option maxRecDepth 100000
namespace Go.Proofs.YtnnhnekfokbooaaGreatDoor
section
open Go.RowKit
def pickN (c n : Int) : Int := if c < 0 then (-(c + 1)) % n else c % n
theorem pickN_in (c n : Int) (hn : 0 < n) : 0 ≤ pickN c n ∧ pickN c n < n := by
 unfold pickN
 split
 ·exact ⟨Int.emod_nonneg _ (by omega), Int.emod_lt_of_pos _ hn⟩
 ·exact ⟨Int.emod_nonneg _ (by omega), Int.emod_lt_of_pos _ hn⟩
theorem pick_law (c n : Int) (w : World) (hc : -9223372036854775808 ≤ c ∧ c ≤ 9223372036854775807) (hn0 : 0 < n) (hn1 : n ≤ 1000000000000) :
  Calls Tryz.prog 12 #[I6 c, I6 n] w fun e w' => e = .returned (I6 (pickN c n)) ∧ w' = w := by
 obtain ⟨hc0, hc1⟩ := hc
 by_cases h : c < 0
 ·have e : -(c + 1).tmod n = pickN c n := by
   unfold pickN
   rw [if_pos h, ← Int.neg_tmod, Int.tmod_eq_emod_of_nonneg (by omega)]
  have He : Hid (-(c + 1).tmod n = pickN c n) := e
  clear e
  go_enter Tryz.func12, Tryz.ntmps12
  go_wp2
  go_ret
  refine ⟨?_, rfl⟩
  rw [← He.out]; rfl
 ·have e : c % n = pickN c n := by unfold pickN; rw [if_neg h]
  have He : Hid (c % n = pickN c n) := e
  clear e
  go_enter Tryz.func12, Tryz.ntmps12
  go_wp2
  go_ret
  refine ⟨?_, rfl⟩
  rw [← He.out]; rfl
theorem new_no (n : Int) (w : World) (h1 : n ≠ 1) (h3 : n ≠ 3) (h5 : n ≠ 5) (h7 : n ≠ 7) : Calls Tryz.prog 16 #[I6 n] w fun e w' => e = .returned (.tuple #[.pointer none, I6 1]) ∧ w' = w := by
 by_cases hlo : n < 1
 ·have m1 : decide (n < 1) = true := by simp; omega
  go_enter Tryz.func16, Tryz.ntmps16
  go_wp2_with fail
  go_ret2
  exact ⟨rfl, rfl⟩
 ·by_cases hhi : 7 < n
  ·have m1 : decide (n < 1) = false := by simp; omega
   have m2 : decide (7 < n) = true := by simp; omega
   go_enter Tryz.func16, Tryz.ntmps16
   go_wp2_with fail
   go_ret2
   exact ⟨rfl, rfl⟩
  ·rcases (show n = 2 ∨ n = 4 ∨ n = 6 from by omega) with rfl | rfl | rfl
   all_goals
    go_enter Tryz.func16, Tryz.ntmps16
    go_wp2_with fail
    go_ret2
    exact ⟨rfl, rfl⟩
theorem WAt.more {w w1 w' : World} {wb H : Nat} {d : Wd} (h : WAt w wb H d) (hB : Below w.heap.size w w1) {p : Pr} (hp : PAt w1 p) (hnew : ∀ k, p.own k → w.heap.size ≤ k) {wl' : Value} (kk : Keeps (fun k => k = wb ∨ d.wl.ownBlock = some k) w1 w')
  (hb : w'.heap[wb]? = some (.cells #[wl', d.wn, d.wv, d.wp] 31 (0, 0))) (own' : w'.ownsRow H 47 2 wl' (d.ps.length + 1) (pcs (d.ps ++ [p]))) :
  WAt w' wb H ⟨wl', d.wn, d.wv, d.wp, d.ps ++ [p], d.N, d.V, d.P⟩ := by
 have h1 := h.below hB
 have hT : ∀ {k : Nat} {cs : Array Value} {t : TypeId}, w1.heap[k]? = some (.cells cs t (0, 0)) → t ≠ 31 → t ≠ 47 → ¬ (k = wb ∨ d.wl.ownBlock = some k) := fun hc h2 h3 ho => by
  rcases ho with rfl | ho
  ·exact h2 (blk_type hc h1.blk)
  ·obtain ⟨cs', hc'⟩ := owns_blk h1.prs ho
   exact h3 (blk_type hc hc')
 have hl := h.lat.more hB hp hnew
 refine ⟨hb, by simpa using own', h1.nets.keeps kk (fun g hg => by obtain ⟨cs, hc⟩ := owns_blk h1.nets.own hg; exact hT hc (by decide) (by decide)) (fun k hk g hg => by obtain ⟨_, cs, hc⟩ := h1.nets.blkT hk hg; exact hT hc (by decide) (by decide)), h1.votes.keeps kk (fun g hg => by obtain ⟨cs, hc⟩ := owns_blk h1.votes.own hg; exact hT hc (by decide) (by decide)) (fun k hk g hg => by obtain ⟨_, cs, hc⟩ := h1.votes.blkT hk hg; exact hT hc (by decide) (by decide)), h1.posts.keeps kk (fun g hg => by obtain ⟨cs, hc⟩ := owns_blk h1.posts.own hg; exact hT hc (by decide) (by decide)) (fun k hk g hg => by obtain ⟨_, cs, hc⟩ := h1.posts.blkT hk hg; exact hT hc (by decide) (by decide)), ?_, ⟨h.base.1, h.base.2.1, Nat.le_trans h1.base.2.2 kk.size⟩, fun k hk => ?_, fun k hk g hg ho => ?_⟩
 ·refine hl.frame kk (fun k _ ho => ?_) (fun k cs hc => hT hc (by decide) (by decide))
  rcases ho with rfl | ho
  ·exact hl.not_own h1.blk (lawT_not (.inl rfl))
  ·obtain ⟨cs, hc⟩ := owns_blk h1.prs ho
   exact hl.not_own hc (lawT_not (.inr (.inl rfl)))
 ·rcases lOwn_more hk with hk | hk
  ·exact h.high k hk
  ·exact Nat.le_trans h.base.2.2 (hnew k hk)
 ·rcases lOwn_more ho with ho | ho
  ·exact h.nown k hk g hg ho
  ·have h2 := hnew g ho
   obtain ⟨_, cs, hc⟩ := h.nets.blkT hk hg
   have := lt_of_block hc
   omega
theorem begins_no {w : World} {wb H : Nat} {d : Wd} (hW : WAt w wb H d) (a : Int) (h1 : a ≠ 1) (h3 : a ≠ 3) (h5 : a ≠ 5) (h7 : a ≠ 7) :
  Calls Tryz.prog 9 #[P6 wb, I6 a] w fun e w' => e = .returned (.bool true) ∧ w' = w := by
 have hN := new_no a w h1 h3 h5 h7
 have hR := rnew_no a w h1 h3 h5 h7
 go_enter Tryz.func9, Tryz.ntmps9
 go_wp2_with fail
 refine hN.mono ?_
 rintro e w1 ⟨rfl, hw1⟩
 have hw9 := hw1.symm
 subst hw9
 clear hN hw1
 go_wp2_with fail
 refine hR.mono ?_
 rintro e w1 ⟨rfl, hw1⟩
 have hw9 := hw1.symm
 subst hw9
 clear hR hw1
 go_wp2_with fail
 refine (num_same 1 _).mono ?_
 rintro e w7 ⟨rfl, rfl⟩
 go_wp2_with fail
 go_ret
 exact ⟨rfl, rfl⟩
theorem Tryz.infoPair : (Tryz.prog.info? 47).map (fun i => (i.zero, i.size, i.bytes)) = some (some (.agg #[.pointer none, .pointer none]), 2, 16) := by kernel_rfl
def WNew (w : World) (wb H : Nat) (d : Wd) (w' : World) : Prop :=
 ∃ d' : Wd, WAt w' wb H d' ∧ d'.ps.length = d.ps.length + 1 ∧ d'.N = d.N ∧ d'.V = d.V ∧ d'.P = d.P ∧ Keeps (fun k => k = wb ∨ H ≤ k) w w'
set_option maxHeartbeats 4000000 in
theorem begins_yes {w : World} {wb H : Nat} {d : Wd} (hW : WAt w wb H d) (n : Nat) (hn : n = 1 ∨ n = 3 ∨ n = 5 ∨ n = 7) (hl : d.ps.length ≤ 1000000000000) :
  Calls Tryz.prog 9 #[P6 wb, I6 (n : Int)] w fun e w' => e = .returned (.bool true) ∧ WNew w wb H d w' := by
 obtain ⟨i0, hi, hz0, hz1, hz2⟩ := info_parts Tryz.infoPair
 have hN := new_yes n hn w
 have hR := fun W => rnew_yes n hn W
 go_enter Tryz.func9, Tryz.ntmps9
 go_wp2_with fail
 refine hN.mono ?_
 rintro e w1 ⟨L, rfl, hS1, ho1, hB1⟩
 clear hN
 go_wp2_with fail
 refine (hR _).mono ?_
 rintro e w2 ⟨qb, Rb, rfl, hQ2, hqb, hRb, hB2⟩
 clear hR
 have hB12 : Below w.heap.size w w2 := Below.trans hB1 (hB2.mono hB1.size)
 have hz1' := hB1.size
 have hnn : (newSy n).n = n := rfl
 have hp : PAt w2 ⟨w.heap.size, L, newSy n, qb, Rb, .slice none 0 0, newRs n⟩ := ⟨hS1.below hB2, hQ2, sim_new n, (fun k hk hq => by
  have hk1 := hS1.own_lt hk
  rcases hq with rfl | rfl | hq
  ·omega
  ·omega
  ·cases hq), Rn.new n (by omega)⟩
 have hnew : ∀ k, (Pr.mk w.heap.size L (newSy n) qb Rb (.slice none 0 0) (newRs n)).own k → w.heap.size ≤ k := fun k hk => by
  rcases hk with hk | hk
  ·exact ho1 k hk
  ·rcases hk with rfl | rfl | hk
   ·omega
   ·omega
   ·cases hk
 have hW2 := hW.below hB12
 obtain ⟨la, ln, lc, hle⟩ := owns_slice1 hW2.prs
 have hprs := hW2.prs
 have hblk := hW2.blk
 rw [hle] at hprs hblk
 obtain rfl : ln = d.ps.length := by
  rcases hprs.2 with ⟨h1, h2⟩ | ⟨g, cap, cur, h1, _⟩
  ·cases h1; exact h2.symm
  ·cases h1; rfl
 have hc0 : w2.cell? (A6 wb 0) = some (.slice la d.ps.length lc) := (blk_cell hblk 0).trans rfl
 have hne : (Value.slice la d.ps.length lc).ownBlock ≠ some wb := owns_not_block hprs hblk (by decide)
 have hHw := hW2.base.2.2
 have h1c : ∀ u ∈ [Value.pointer (some (A6 w.heap.size 0)), P6 qb], u.oneCell' = true := by
  intro u hu; simp at hu; rcases hu with rfl | rfl <;> rfl
 have hbb : d.ps.length + 1 ≤ maxLen ∧ (d.ps.length + 1) * 16 ≤ 140737488355328 := ⟨by unfold maxLen; omega, by omega⟩
 go_wp2_with fail
 refine (num_same 0 _).mono ?_
 rintro e w7 ⟨rfl, hw7⟩
 have hw9 := hw7.symm
 subst hw9
 clear hw7
 go_wp2_with (at_builtin; refine wpList_append_lies _ rfl (.tmp 36) (.tmp 40) 26 rfl H 47 i0 _ 2 16 Tryz.underlying26 hi hz0 hz1 hz2 rfl (by decide) (.slice la d.ps.length lc) d.ps.length (pcs d.ps) rfl (owns_alloc hprs _) _ 1 1 [P6 w.heap.size, P6 qb] rfl rfl (news_new _ _ (by simp) _ _) h1c (by decide) hbb.1 hbb.2 (by simp; omega) _ rfl ?_; intro g4 cap4 w4 hown4 hgr4 hat4 hlt4; have hbw4 := blk_grown hgr4 (blk_alloc hblk _) hne; have hwc4 := blk_cell hbw4; have hwf4 := blk_free hbw4)
 go_ret
 refine ⟨rfl, _, hW.more hB12 hp hnew (w' := w4.setCell (A6 wb 0) (.slice (some (A6 g4 0)) (d.ps.length + 1) cap4)) ?_ (blk_set hbw4 0 _) ?_, by simp, rfl, rfl, rfl, ?_⟩
 ·rw [hle]
  exact (Keeps.ofAlloc _ _).trans (((Keeps.ofGrown hgr4).mono (fun k _ h => .inr h)).trans (Keeps.ofSet (.inl (.inl rfl)) _))
 ·rw [pcs_append]
  exact owns_set hown4 (owns_not_block hown4 hbw4 (by decide)) _
 ·refine (Keeps.ofBelow hB12).trans ((Keeps.ofAlloc _ _).trans (((Keeps.ofGrown hgr4).mono (fun k _ h => .inr ?_)).trans (Keeps.ofSet (.inl (.inl rfl)) _)))
  exact (World.ownsRow.lt hprs k h).1
end
section
open Go.RowKit
theorem WTo.after {w w1 w2 : World} {wb H : Nat} {d : Wd} (hB : Below w.heap.size w w1) (a : WTo w1 wb H d w2) : WTo w wb H d w2 := by
 obtain ⟨d', h1, h2, h3, h4, h5, h6, h7⟩ := a
 exact ⟨d', h1, h2, h3, h4, h5, h6, (Keeps.ofBelow hB).trans h7⟩
theorem WTo.ofStep {w w' : World} {wb H : Nat} {d : Wd} {i : Nat} (h : (∃ p', WAt w' wb H ⟨d.wl, d.wn, d.wv, d.wp, d.ps.set i p', d.N, d.V, d.P⟩) ∧ Keeps (fun k => k = wb ∨ H ≤ k) w w') : WTo w wb H d w' := by
 obtain ⟨⟨p', h1⟩, h2⟩ := h
 exact ⟨_, h1, by simp, by simp, by simp, by simp, by simp, h2⟩
theorem four_kinds {k : Int} (hk : k = 4 ∨ k = 6 ∨ k = 7 ∨ k = 8) : (k == 4) = true ∨ ((k == 4) = false ∧ (k == 6) = true) ∨ ((k == 4) = false ∧ (k == 6) = false ∧ (k == 7) = true) ∨ ((k == 4) = false ∧ (k == 6) = false ∧ (k == 7) = false ∧ (k == 8) = true) := by
 rcases hk with rfl | rfl | rfl | rfl
 ·exact .inl rfl
 ·exact .inr (.inl ⟨rfl, rfl⟩)
 ·exact .inr (.inr (.inl ⟨rfl, rfl, rfl⟩))
 ·exact .inr (.inr (.inr ⟨rfl, rfl, rfl, rfl⟩))
set_option maxHeartbeats 8000000 in
theorem step_pick {w : World} {wb H : Nat} {d : Wd} (hW : WAt w wb H d) (o : Opd) (ho : ∃ ao n cap, o.v = .slice ao n cap) (hon : -9223372036854775808 ≤ o.n ∧ o.n ≤ 9223372036854775807) (m1 : (o.k == 1) = false) (m12 : (o.k == 12) = false) (m13 : (o.k == 13) = false) (hl0 : 0 < d.ps.length) (hl9 : d.ps.length ≤ 1000000000)
  (hh : ((o.k = 4 ∨ o.k = 6 ∨ o.k = 7 ∨ o.k = 8) ∧ ∀ W p, WAt W wb H d → PAt W p → Calls Tryz.prog 13 #[P6 wb, .agg #[P6 p.sb, P6 p.qb], .agg o.cells.toArray] W fun e w' => e = .returned (.bool true) ∧ WTo W wb H d w') ∨ (((o.k == 4) = false ∧ (o.k == 6) = false ∧ (o.k == 7) = false ∧ (o.k == 8) = false) ∧ ∀ W p, PAt W p → Calls Tryz.prog 14 #[.agg #[P6 p.sb, P6 p.qb], .agg o.cells.toArray] W fun e w' => e = .returned (.bool true) ∧ PTo W p w')) :
  Calls Tryz.prog 7 #[P6 wb, .agg o.cells.toArray] w fun e w' => e = .returned (.bool true) ∧ WTo w wb H d w' := by
 obtain ⟨ok, on, oa, ob, os, ⟨pc, pq, ph, pt9⟩, ⟨mk, mf, mt, mb, ms, ⟨mc, mq, mh, mx⟩, ma⟩, v⟩ := o
 obtain ⟨va, vn, vc, hve⟩ := ho
 simp only at hve hon m1 m12 m13
 subst hve
 simp only [Opd.cells] at hh ⊢
 have Hh := show Hid _ from hh
 clear hh
 have hB2 : Below w.heap.size w (w.alloc (.cells #[I6 ok, I6 on, I6 oa, I6 ob, .string os, I6 pc, I6 pq, I6 ph, .string pt9, I6 mk, I6 mf, I6 mt, I6 mb, I6 ms, I6 mc, I6 mq, I6 mh, .string mx, .slice va vn vc] 38)) := (Below.refl _ w).alloc (Nat.le_refl _) _
 have h2 := hW.below hB2
 have hbo := blk_new w (.cells #[I6 ok, I6 on, I6 oa, I6 ob, .string os, I6 pc, I6 pq, I6 ph, .string pt9, I6 mk, I6 mf, I6 mt, I6 mb, I6 ms, I6 mc, I6 mq, I6 mh, .string mx, .slice va vn vc] 38)
 have hboc := blk_cell hbo
 have hlist : (w.alloc (.cells #[I6 ok, I6 on, I6 oa, I6 ob, .string os, I6 pc, I6 pq, I6 ph, .string pt9, I6 mk, I6 mf, I6 mt, I6 mb, I6 ms, I6 mc, I6 mq, I6 mh, .string mx, .slice va vn vc] 38)).cell? (A6 wb 0) = some d.wl := (blk_cell h2.blk 0).trans rfl
 obtain ⟨la0, lc0, hwl⟩ : ∃ a c, d.wl = .slice a d.ps.length c := by
  rcases h2.prs.2 with ⟨h1, h0⟩ | ⟨g, cap, cur, h1, _⟩
  ·omega
  ·exact ⟨_, _, h1⟩
 rw [hwl] at hlist
 clear hwl
 have qz : ((d.ps.length : Int) == 0) = false := by rw [beq_eq_false_iff_ne]; omega
 go_enter Tryz.func7, Tryz.ntmps7
 go_upto_region 10 with (fail)
 clear hlist qz
 generalize w.alloc (.cells #[I6 ok, I6 on, I6 oa, I6 ob, .string os, I6 pc, I6 pq, I6 ph, .string pt9, I6 mk, I6 mf, I6 mt, I6 mb, I6 ms, I6 mc, I6 mq, I6 mh, .string mx, .slice va vn vc] 38) = w2 at *
 obtain ⟨la, ln, lc, hle⟩ := owns_slice1 h2.prs
 have hprs := h2.prs
 have hblk := h2.blk
 rw [hle] at hprs hblk
 obtain rfl : ln = d.ps.length := by
  rcases hprs.2 with ⟨h1, h2⟩ | ⟨g, cap, cur, h1, _⟩
  ·cases h1; exact h2.symm
  ·cases h1; rfl
 obtain ⟨g, rfl, hglt, hrd⟩ : ∃ g, la = some (A6 g 0) ∧ g < w2.heap.size ∧ ∀ k (hk : k < d.ps.length), w2.cell? (A6 g (k * 2)) = some (.pointer (some (A6 (d.ps[k].sb) 0))) ∧ w2.cell? (A6 g (k * 2 + 1)) = some (.pointer (some (A6 (d.ps[k].qb) 0))) := by
  rcases hprs.2 with ⟨h1, h2⟩ | ⟨g, cap, cur, h1, _, hg, _, _, hcs, htk⟩
  ·omega
  ·cases h1
   refine ⟨g, rfl, lt_of_block hg, fun k hk => ?_⟩
   have hat := pcs_at d.ps k hk
   refine ⟨?_, ?_⟩
   ·rw [blk_cell hg, ← Array.getElem?_toList]
    have e1 : cur.toList[k * 2]? = (cur.toList.take (d.ps.length * 2))[k * 2]? := by rw [List.getElem?_take, if_pos (by omega)]
    rw [e1, htk]; exact hat.1
   ·rw [blk_cell hg, ← Array.getElem?_toList]
    have e1 : cur.toList[k * 2 + 1]? = (cur.toList.take (d.ps.length * 2))[k * 2 + 1]? := by rw [List.getElem?_take, if_pos (by omega)]
    rw [e1, htk]; exact hat.2
 have hpin := pickN_in on (d.ps.length : Int) (by omega)
 obtain ⟨i, hie⟩ := Int.eq_ofNat_of_zero_le hpin.1
 have hi : i < d.ps.length := by have := hpin.2; omega
 have hPk := pick_law on (d.ps.length : Int) w2.drew hon (by omega) (by omega)
 have hPkz := pick_law on (d.ps.length : Int) (w2.alloc (.cells #[.pointer none, .pointer none] 47)).drew hon (by omega) (by omega)
 rw [hie] at hPk hPkz
 clear hpin hie
 obtain ⟨hp0, hp1⟩ := hrd i hi
 obtain ⟨p, hpe⟩ : ∃ p, p = d.ps[i] := ⟨_, rfl⟩
 rw [← hpe] at hp0 hp1
 have hwc0 : w2.cell? (A6 wb 0) = some (.slice (some (A6 g 0)) d.ps.length lc) := (blk_cell hblk 0).trans rfl
 have hwlt := lt_of_block hblk
 have ho1 : w2.cell? (A6 w.heap.size 1) = some (I6 on) := (blk_cell hbo 1).trans rfl
 have holt := lt_of_block hbo
 have q0 : (0 : Int) ≤ (i : Int) := by omega
 have q1 : (i : Int) < (d.ps.length : Int) := by omega
 have q2 : ((d.ps.length : Int) == 0) = false := by rw [beq_eq_false_iff_ne]; omega
 have hBz : Below w2.heap.size w2 (w2.alloc (.cells #[.pointer none, .pointer none] 47)).drew := Below.drew ((Below.refl _ w2).alloc (Nat.le_refl _) _)
 have hzb : (w2.alloc (.cells #[.pointer none, .pointer none] 47)).drew.heap[w2.heap.size]? = some (.cells #[.pointer none, .pointer none] 47 (0, 0)) := blk_drew (blk_new w2 (.cells #[.pointer none, .pointer none] 47))
 have hth : World.there (w2.alloc (.cells #[.pointer none, .pointer none] 47)).drew w2.heap.size 0 2 := fun j hj => ⟨by rw [blk_cell hzb, Nat.zero_add, Array.getElem?_eq_getElem (by show j < 2; exact hj)]; rfl, blk_free hzb _⟩
 have hi2 : (Tryz.prog.info? 47).map (·.size) = some (#[P6 p.sb, P6 p.qb] : Array Value).size := by kernel_rfl
 have h12 : (#[P6 p.sb, P6 p.qb] : Array Value).all (·.oneCell') = true := by simp [Value.oneCell']
 have hbx : (World.setCells (w2.alloc (.cells #[.pointer none, .pointer none] 47)).drew w2.heap.size 0 [P6 p.sb, P6 p.qb]).heap[w2.heap.size]? = some (.cells #[P6 p.sb, P6 p.qb] 47 (0, 0)) := by
  rw [setCells_self w2.heap.size 47 [P6 p.sb, P6 p.qb] 0 _ _ hzb (by show 0 + 2 ≤ 2; decide)]
  rfl
 have hB4 : Below w2.heap.size w2 (World.setCells (w2.alloc (.cells #[.pointer none, .pointer none] 47)).drew w2.heap.size 0 [P6 p.sb, P6 p.qb]) := hBz.trans ⟨(keeps_sets _ _ _ _).os, (keeps_sets _ _ _ _).tape, (keeps_sets _ _ _ _).output, (keeps_sets _ _ _ _).size, fun b hb => (keeps_sets _ _ _ _).block b (by simp; omega) (by omega)⟩
 have hPs := h2.lat.each i hi
 rw [← hpe] at hPs
 have Hpe : Hid (p = d.ps[i]) := hpe
 clear hpe
 clear hboc
 refine wp_region_held_drew (S := fun w' => Below w2.heap.size w2 w') (by kernel_rfl) (Below.drew (Below.refl _ w2)) (fun hS => ?_)
 refine tk 0 rfl hS (v := ?_) (fun w' hw => ?_) ?_
 rotate_left 1
 ·go_simp; all_goals with_reducible rfl
 try simp only [ly]
 refine tk 1 rfl hS (v := ?_) (fun w' hw => ?_) ?_
 rotate_left 1
 ·go_simp; all_goals with_reducible rfl
 try simp only [ly]
 refine tk 2 rfl hS (v := ?_) (fun w' hw => ?_) ?_
 rotate_left 1
 ·go_simp; all_goals with_reducible rfl
 try simp only [ly]
 refine tk 3 rfl hS (v := ?_) (fun w' hw => ?_) ?_
 rotate_left 1
 ·have f0 := (hw.cell (p := (A6 wb 0)) hwlt).trans hwc0; go_simp; all_goals with_reducible rfl
 try simp only [ly]
 refine tk 4 rfl hS (v := ?_) (fun w' hw => ?_) ?_
 rotate_left 1
 ·go_simp; all_goals with_reducible rfl
 try simp only [ly]
 refine tk 5 rfl hS (v := ?_) (fun w' hw => ?_) ?_
 rotate_left 1
 ·have f1 := (hw.cell (p := (A6 w.heap.size 1)) holt).trans ho1; go_simp; all_goals with_reducible rfl
 try simp only [ly]
 refine tk 6 rfl hS (v := ?_) (fun w' hw => ?_) ?_
 rotate_left 1
 ·go_simp; all_goals with_reducible rfl
 try simp only [ly]
 refine tk 7 rfl hS (v := ?_) (fun w' hw => ?_) ?_
 rotate_left 1
 ·go_simp; all_goals with_reducible rfl
 try simp only [ly]
 refine tk 8 rfl hS (v := ?_) (fun w' hw => ?_) ?_
 rotate_left 1
 ·go_simp; all_goals with_reducible rfl
 try simp only [ly]
 refine tk 9 rfl hS (v := ?_) (fun w' hw => ?_) ?_
 rotate_left 1
 ·have f0 := (hw.cell (p := (A6 wb 0)) hwlt).trans hwc0; go_simp; all_goals with_reducible rfl
 try simp only [ly]
 refine tk 10 rfl hS (v := ?_) (fun w' hw => ?_) ?_
 rotate_left 1
 ·go_simp; all_goals with_reducible rfl
 try simp only [ly]
 refine wpAnyH_ready (rs := [11, 14]) (by kernel_rfl) (by simp) ?_
 refine AllReadyH.cons rfl (fun K hK => ?_) (AllReadyH.cons rfl (fun K hK => ?_) AllReadyH.nil)
 ·go_simp
  refine hPk.mono ?_
  rintro e w3 ⟨rfl, hw3⟩
  have hw9 := hw3.symm
  subst hw9
  clear hw3
  go_wp2_with fail
  refine hK.out _ _ (Below.drew (Below.refl _ w2)) (fun hS => ?_)
  clear hK K
  try simp only [ly]
  refine tk 12 rfl hS (v := ?_) (fun w' hw => ?_) ?_
  rotate_left 1
  ·go_simp; all_goals with_reducible rfl
  try simp only [ly]
  refine tk 13 rfl hS (v := ?_) (fun w' hw => ?_) ?_
  rotate_left 1
  ·have f2 := (hw.cell (p := (A6 g (i * 2))) hglt).trans hp0; have f3 := (hw.cell (p := (A6 g (i * 2 + 1))) hglt).trans hp1; go_simp; all_goals with_reducible rfl
  try simp only [ly]
  refine r1 14 rfl (fun K hK => ?_)
  go_simp
  refine hK.out _ _ hBz (fun hS => ?_)
  clear hK K
  try simp only [ly]
  refine r1 15 rfl (fun K hK => ?_)
  rw [if_pos (by kernel_rfl)]
  refine wp_store_mid 47 (.tmp 5) (.tmp 44) rfl w2.heap.size 0 #[P6 p.sb, P6 p.qb] rfl rfl hth hi2 h12 ?_
  refine hK.out _ _ hB4 (fun hS => ?_)
  clear hK K
  try simp only [ly]
  refine dn ?_ _
  have hb4 := blk_below hB4 hbo
  have h4 := h2.below hB4
  have hp4 := hPs.below hB4
  have hBw4 : Below w.heap.size w (World.setCells (w2.alloc (.cells #[.pointer none, .pointer none] 47)).drew w2.heap.size 0 [P6 p.sb, P6 p.qb]) := Below.trans hB2 (hB4.mono hB2.size)
  have hbx4 : (World.setCells (w2.alloc (.cells #[.pointer none, .pointer none] 47)).drew w2.heap.size 0 [P6 p.sb, P6 p.qb]).heap[w2.heap.size]? = some (.cells #[P6 p.sb, P6 p.qb] 47 (0, 0)) := hbx
  generalize (World.setCells (w2.alloc (.cells #[.pointer none, .pointer none] 47)).drew w2.heap.size 0 [P6 p.sb, P6 p.qb]) = w4 at *
  clear hB4 hBz hth hPk hPkz hbx hp0 hp1 hwc0 ho1 hrd hi2 h12
  have e0 : w4.cell? (A6 w.heap.size 0) = some (I6 ok) := (blk_cell hb4 0).trans rfl
  have b0 : w4.cell? (A6 w2.heap.size 0) = some (P6 p.sb) := (blk_cell hbx4 0).trans rfl
  have b1 : w4.cell? (A6 w2.heap.size 1) = some (P6 p.qb) := (blk_cell hbx4 1).trans rfl
  have Hra : Hid (World.rangeAt w4 w.heap.size 0 [I6 ok, I6 on, I6 oa, I6 ob, .string os, I6 pc, I6 pq, I6 ph, .string pt9, I6 mk, I6 mf, I6 mt, I6 mb, I6 ms, I6 mc, I6 mq, I6 mh, .string mx, .slice va vn vc]) := fun j u hu => by
   rw [blk_cell hb4, Nat.zero_add, List.getElem?_toArray]; exact hu
  have Hi19 : Hid ((Tryz.prog.info? 38).map (·.size) = some 19) := by show _ = _; kernel_rfl
  rcases Hh.out with ⟨hk, hT⟩ | ⟨⟨m4, m6, m7, m8⟩, hD⟩
  ·rcases four_kinds hk with m4 | ⟨m4, m6⟩ | ⟨m4, m6, m7⟩ | ⟨m4, m6, m7, m8⟩
   all_goals
    have hC := hT _ p h4 hp4
    go_upto_region 16 with (fail)
    go_wp2_with (refine wpList_load_mid rfl 38 (.tmp 3) rfl w.heap.size 0 rfl [I6 ok, I6 on, I6 oa, I6 ob, .string os, I6 pc, I6 pq, I6 ph, .string pt9, I6 mk, I6 mf, I6 mt, I6 mb, I6 ms, I6 mc, I6 mq, I6 mh, .string mx, .slice va vn vc] _ Hra.out Tryz.underlying38 rfl Hi19.out ?_)
    refine hC.mono ?_
    rintro e w5 ⟨rfl, hto⟩
    clear hC hT
    go_wp2_with fail
    go_ret
    exact ⟨rfl, WTo.after hBw4 hto⟩
  ·have hC := hD _ p hp4
   go_upto_region 17 with (fail)
   go_wp2_with (refine wpList_load_mid rfl 38 (.tmp 3) rfl w.heap.size 0 rfl [I6 ok, I6 on, I6 oa, I6 ob, .string os, I6 pc, I6 pq, I6 ph, .string pt9, I6 mk, I6 mf, I6 mt, I6 mb, I6 ms, I6 mc, I6 mq, I6 mh, .string mx, .slice va vn vc] _ Hra.out Tryz.underlying38 rfl Hi19.out ?_)
   refine hC.mono ?_
   rintro e w5 ⟨rfl, hto⟩
   clear hC hD
   rw [Hpe.out] at hto
   have hst := h4.step hi hto
   go_wp2_with fail
   go_ret
   exact ⟨rfl, WTo.after hBw4 (WTo.ofStep hst)⟩
 ·go_simp
  refine hK.out _ _ hBz (fun hS => ?_)
  clear hK K
  try simp only [ly]
  refine r1 11 rfl (fun K hK => ?_)
  go_simp
  refine hPkz.mono ?_
  rintro e w3 ⟨rfl, hw3⟩
  have hw9 := hw3.symm
  subst hw9
  clear hw3
  go_wp2_with fail
  refine hK.out _ _ hBz (fun hS => ?_)
  clear hK K
  try simp only [ly]
  refine tk 12 rfl hS (v := ?_) (fun w' hw => ?_) ?_
  rotate_left 1
  ·go_simp; all_goals with_reducible rfl
  try simp only [ly]
  refine tk 13 rfl hS (v := ?_) (fun w' hw => ?_) ?_
  rotate_left 1
  ·have f2 := (hw.cell (p := (A6 g (i * 2))) hglt).trans hp0; have f3 := (hw.cell (p := (A6 g (i * 2 + 1))) hglt).trans hp1; go_simp; all_goals with_reducible rfl
  try simp only [ly]
  refine r1 15 rfl (fun K hK => ?_)
  rw [if_pos (by kernel_rfl)]
  refine wp_store_mid 47 (.tmp 5) (.tmp 44) rfl w2.heap.size 0 #[P6 p.sb, P6 p.qb] rfl rfl hth hi2 h12 ?_
  refine hK.out _ _ hB4 (fun hS => ?_)
  clear hK K
  try simp only [ly]
  refine dn ?_ _
  have hb4 := blk_below hB4 hbo
  have h4 := h2.below hB4
  have hp4 := hPs.below hB4
  have hBw4 : Below w.heap.size w (World.setCells (w2.alloc (.cells #[.pointer none, .pointer none] 47)).drew w2.heap.size 0 [P6 p.sb, P6 p.qb]) := Below.trans hB2 (hB4.mono hB2.size)
  have hbx4 : (World.setCells (w2.alloc (.cells #[.pointer none, .pointer none] 47)).drew w2.heap.size 0 [P6 p.sb, P6 p.qb]).heap[w2.heap.size]? = some (.cells #[P6 p.sb, P6 p.qb] 47 (0, 0)) := hbx
  generalize (World.setCells (w2.alloc (.cells #[.pointer none, .pointer none] 47)).drew w2.heap.size 0 [P6 p.sb, P6 p.qb]) = w4 at *
  clear hB4 hBz hth hPk hPkz hbx hp0 hp1 hwc0 ho1 hrd hi2 h12
  have e0 : w4.cell? (A6 w.heap.size 0) = some (I6 ok) := (blk_cell hb4 0).trans rfl
  have b0 : w4.cell? (A6 w2.heap.size 0) = some (P6 p.sb) := (blk_cell hbx4 0).trans rfl
  have b1 : w4.cell? (A6 w2.heap.size 1) = some (P6 p.qb) := (blk_cell hbx4 1).trans rfl
  have Hra : Hid (World.rangeAt w4 w.heap.size 0 [I6 ok, I6 on, I6 oa, I6 ob, .string os, I6 pc, I6 pq, I6 ph, .string pt9, I6 mk, I6 mf, I6 mt, I6 mb, I6 ms, I6 mc, I6 mq, I6 mh, .string mx, .slice va vn vc]) := fun j u hu => by
   rw [blk_cell hb4, Nat.zero_add, List.getElem?_toArray]; exact hu
  have Hi19 : Hid ((Tryz.prog.info? 38).map (·.size) = some 19) := by show _ = _; kernel_rfl
  rcases Hh.out with ⟨hk, hT⟩ | ⟨⟨m4, m6, m7, m8⟩, hD⟩
  ·rcases four_kinds hk with m4 | ⟨m4, m6⟩ | ⟨m4, m6, m7⟩ | ⟨m4, m6, m7, m8⟩
   all_goals
    have hC := hT _ p h4 hp4
    go_upto_region 16 with (fail)
    go_wp2_with (refine wpList_load_mid rfl 38 (.tmp 3) rfl w.heap.size 0 rfl [I6 ok, I6 on, I6 oa, I6 ob, .string os, I6 pc, I6 pq, I6 ph, .string pt9, I6 mk, I6 mf, I6 mt, I6 mb, I6 ms, I6 mc, I6 mq, I6 mh, .string mx, .slice va vn vc] _ Hra.out Tryz.underlying38 rfl Hi19.out ?_)
    refine hC.mono ?_
    rintro e w5 ⟨rfl, hto⟩
    clear hC hT
    go_wp2_with fail
    go_ret
    exact ⟨rfl, WTo.after hBw4 hto⟩
  ·have hC := hD _ p hp4
   go_upto_region 17 with (fail)
   go_wp2_with (refine wpList_load_mid rfl 38 (.tmp 3) rfl w.heap.size 0 rfl [I6 ok, I6 on, I6 oa, I6 ob, .string os, I6 pc, I6 pq, I6 ph, .string pt9, I6 mk, I6 mf, I6 mt, I6 mb, I6 ms, I6 mc, I6 mq, I6 mh, .string mx, .slice va vn vc] _ Hra.out Tryz.underlying38 rfl Hi19.out ?_)
   refine hC.mono ?_
   rintro e w5 ⟨rfl, hto⟩
   clear hC hD
   rw [Hpe.out] at hto
   have hst := h4.step hi hto
   go_wp2_with fail
   go_ret
   exact ⟨rfl, WTo.after hBw4 (WTo.ofStep hst)⟩
theorem step_told {w : World} {wb H : Nat} {d : Wd} (hW : WAt w wb H d) (o : Opd) (ho : ∃ ao n cap, o.v = .slice ao n cap) (hon : -9223372036854775808 ≤ o.n ∧ o.n ≤ 9223372036854775807) (m1 : (o.k == 1) = false) (m12 : (o.k == 12) = false) (m13 : (o.k == 13) = false) (hk : o.k = 4 ∨ o.k = 6 ∨ o.k = 7 ∨ o.k = 8) (hl0 : 0 < d.ps.length) (hl9 : d.ps.length ≤ 1000000000) (hT : ∀ W p, WAt W wb H d → PAt W p → Calls Tryz.prog 13 #[P6 wb, .agg #[P6 p.sb, P6 p.qb], .agg o.cells.toArray] W fun e w' => e = .returned (.bool true) ∧ WTo W wb H d w') :
  Calls Tryz.prog 7 #[P6 wb, .agg o.cells.toArray] w fun e w' => e = .returned (.bool true) ∧ WTo w wb H d w' := step_pick hW o ho hon m1 m12 m13 hl0 hl9 (.inl ⟨hk, hT⟩)
theorem step_done {w : World} {wb H : Nat} {d : Wd} (hW : WAt w wb H d) (o : Opd) (ho : ∃ ao n cap, o.v = .slice ao n cap) (hon : -9223372036854775808 ≤ o.n ∧ o.n ≤ 9223372036854775807) (m1 : (o.k == 1) = false) (m12 : (o.k == 12) = false) (m13 : (o.k == 13) = false) (m4 : (o.k == 4) = false) (m6 : (o.k == 6) = false) (m7 : (o.k == 7) = false) (m8 : (o.k == 8) = false) (hl0 : 0 < d.ps.length) (hl9 : d.ps.length ≤ 1000000000) (hD : ∀ W p, PAt W p → Calls Tryz.prog 14 #[.agg #[P6 p.sb, P6 p.qb], .agg o.cells.toArray] W fun e w' => e = .returned (.bool true) ∧ PTo W p w') :
  Calls Tryz.prog 7 #[P6 wb, .agg o.cells.toArray] w fun e w' => e = .returned (.bool true) ∧ WTo w wb H d w' := step_pick hW o ho hon m1 m12 m13 hl0 hl9 (.inr ⟨⟨m4, m6, m7, m8⟩, hD⟩)
end
section
open Go.RowKit
set_option maxHeartbeats 4000000 in
theorem step_new {w : World} {wb : Nat} {Q : World → Prop} (o : Opd) (ho : ∃ ao n cap, o.v = .slice ao n cap) (hk : o.k = 1)
  (hN : ∀ W, Below w.heap.size w W → Calls Tryz.prog 9 #[P6 wb, I6 o.a] W fun e w' => e = .returned (.bool true) ∧ Q w') :
  Calls Tryz.prog 7 #[P6 wb, .agg o.cells.toArray] w fun e w' => e = .returned (.bool true) ∧ Q w' := by
 obtain ⟨ok, on, oa, ob, os, ⟨pc, pq, ph, pt9⟩, ⟨mk, mf, mt, mb, ms, ⟨mc, mq, mh, mx⟩, ma⟩, v⟩ := o
 obtain ⟨va, vn, vc, hve⟩ := ho
 simp only at hve hk
 subst hve hk
 simp only [Opd.cells]
 go_enter Tryz.func7, Tryz.ntmps7
 go_wp2_with fail
 refine (hN _ ((Below.refl _ w).alloc (Nat.le_refl _) _)).mono ?_
 rintro e w1 ⟨rfl, hq⟩
 clear hN
 go_wp2_with fail
 go_ret
 exact ⟨rfl, hq⟩
set_option maxHeartbeats 4000000 in
theorem step_none {w : World} {wb H : Nat} {d : Wd} (hW : WAt w wb H d) (o : Opd) (ho : ∃ ao n cap, o.v = .slice ao n cap) (m1 : (o.k == 1) = false) (m12 : (o.k == 12) = false) (m13 : (o.k == 13) = false) (hl0 : d.ps.length = 0) :
  Calls Tryz.prog 7 #[P6 wb, .agg o.cells.toArray] w fun e w' => e = .returned (.bool true) ∧ Below w.heap.size w w' := by
 obtain ⟨ok, on, oa, ob, os, ⟨pc, pq, ph, pt9⟩, ⟨mk, mf, mt, mb, ms, ⟨mc, mq, mh, mx⟩, ma⟩, v⟩ := o
 obtain ⟨va, vn, vc, hve⟩ := ho
 simp only at hve m1 m12 m13
 subst hve
 simp only [Opd.cells]
 have hB2 : Below w.heap.size w (w.alloc (.cells #[I6 ok, I6 on, I6 oa, I6 ob, .string os, I6 pc, I6 pq, I6 ph, .string pt9, I6 mk, I6 mf, I6 mt, I6 mb, I6 ms, I6 mc, I6 mq, I6 mh, .string mx, .slice va vn vc] 38)) := (Below.refl _ w).alloc (Nat.le_refl _) _
 have h2 := hW.below hB2
 obtain ⟨la0, lc0, hwl⟩ : ∃ a c, d.wl = .slice a 0 c := by
  rcases h2.prs.2 with ⟨h1, h0⟩ | ⟨g, cap, cur, h1, _⟩
  ·exact ⟨none, 0, h1⟩
  ·rw [hl0] at h1; exact ⟨_, _, h1⟩
 have hlist := (blk_cell h2.blk 0).trans (show _ = some (.slice la0 0 lc0) by rw [hwl]; rfl)
 go_enter Tryz.func7, Tryz.ntmps7
 go_wp2_with fail
 go_ret
 exact ⟨rfl, hB2⟩
theorem step_any {w : World} {wb H : Nat} {d : Wd} (hW : WAt w wb H d) (o : Opd) (hok : o.ok w) (hlo : 1 ≤ o.k) (hhi : o.k ≤ 11) (hlp : d.ps.length ≤ 1000000000) (hlN : d.N.length ≤ 4000000000000) (hlV : d.V.length ≤ 4000000000000) (hlP : d.P.length ≤ 4000000000000) :
  Calls Tryz.prog 7 #[P6 wb, .agg o.cells.toArray] w fun e w' => e = .returned (.bool true) ∧ WTo w wb H d w' := by
 have ho := hok.slice
 have hon := hok.2.2.2
 by_cases hk1 : o.k = 1
 ·refine step_new o ho hk1 (fun W hBW => ?_)
  have hWW := hW.below hBW
  by_cases hn : o.a = 1 ∨ o.a = 3 ∨ o.a = 5 ∨ o.a = 7
  ·obtain ⟨n, hn2⟩ := Int.eq_ofNat_of_zero_le (show 0 ≤ o.a by omega)
   rw [hn2]
   refine (begins_yes hWW n (by omega) (by omega)).mono ?_
   rintro e w' ⟨rfl, d', h1, h2, h3, h4, h5, h6⟩
   exact ⟨rfl, d', h1, by omega, by omega, by rw [h3]; omega, by rw [h4]; omega, by rw [h5]; omega, (Keeps.ofBelow hBW).trans h6⟩
  ·refine (begins_no hWW o.a (by omega) (by omega) (by omega) (by omega)).mono ?_
   rintro e w' ⟨rfl, rfl⟩
   exact ⟨rfl, d, hWW, Nat.le_refl _, by omega, by omega, by omega, by omega, Keeps.ofBelow hBW⟩
 ·have m1 : (o.k == 1) = false := by rw [beq_eq_false_iff_ne]; exact hk1
  have m12 : (o.k == 12) = false := by rw [beq_eq_false_iff_ne]; omega
  have m13 : (o.k == 13) = false := by rw [beq_eq_false_iff_ne]; omega
  by_cases hl0 : d.ps.length = 0
  ·refine (step_none hW o ho m1 m12 m13 hl0).mono ?_
   rintro e w' ⟨rfl, hB⟩
   exact ⟨rfl, d, hW.below hB, Nat.le_refl _, by omega, by omega, by omega, by omega, Keeps.ofBelow hB⟩
  ·have hpos : 0 < d.ps.length := by omega
   rcases (show o.k = 2 ∨ o.k = 3 ∨ o.k = 4 ∨ o.k = 5 ∨ o.k = 6 ∨ o.k = 7 ∨ o.k = 8 ∨ o.k = 9 ∨ o.k = 10 ∨ o.k = 11 from by omega) with hk | hk | hk | hk | hk | hk | hk | hk | hk | hk
   ·exact step_done hW o ho hon m1 m12 m13 (by rw [hk]; rfl) (by rw [hk]; rfl) (by rw [hk]; rfl) (by rw [hk]; rfl) hpos hlp (fun W p hp => done_camp hp o ho hk (both_camp hp o.a))
   ·exact step_done hW o ho hon m1 m12 m13 (by rw [hk]; rfl) (by rw [hk]; rfl) (by rw [hk]; rfl) (by rw [hk]; rfl) hpos hlp (fun W p hp => done_sub hp o ho hk (both_sub hp o.a o.p))
   ·exact step_told hW o ho hon m1 m12 m13 (.inl hk) hpos hlp (fun W p hWW hp => told_net hWW hp o ho hk hlN hlV)
   ·exact step_done hW o ho hon m1 m12 m13 (by rw [hk]; rfl) (by rw [hk]; rfl) (by rw [hk]; rfl) (by rw [hk]; rfl) hpos hlp (fun W p hp => done_dlv hp o ho hk (both_dlv hp o.a))
   ·exact step_told hW o ho hon m1 m12 m13 (.inr (.inl hk)) hpos hlp (fun W p hWW hp => told_log hWW hp o ho hk hlP (both_log hp o.a))
   ·exact step_told hW o ho hon m1 m12 m13 (.inr (.inr (.inl hk))) hpos hlp (fun W p hWW hp => told_chat hWW hp o ho hk hlP (both_chat hp o.a o.b))
   ·refine step_told hW o ho hon m1 m12 m13 (.inr (.inr (.inr hk))) hpos hlp (fun W p hWW hp => (told_role hp o ho hk (both_role hp o.a)).mono ?_)
    rintro e w' ⟨rfl, hB⟩
    exact ⟨rfl, d, hWW.below hB, Nat.le_refl _, by omega, by omega, by omega, by omega, Keeps.ofBelow hB⟩
   ·exact step_done hW o ho hon m1 m12 m13 (by rw [hk]; rfl) (by rw [hk]; rfl) (by rw [hk]; rfl) (by rw [hk]; rfl) hpos hlp (fun W p hp => done_lose hp o ho hk (both_lose hp o.a))
   ·exact step_done hW o ho hon m1 m12 m13 (by rw [hk]; rfl) (by rw [hk]; rfl) (by rw [hk]; rfl) (by rw [hk]; rfl) hpos hlp (fun W p hp => done_dbl hp o ho hk (both_dbl hp o.a))
   ·exact step_done hW o ho hon m1 m12 m13 (by rw [hk]; rfl) (by rw [hk]; rfl) (by rw [hk]; rfl) (by rw [hk]; rfl) hpos hlp (fun W p hp => done_crash hp o ho hk (both_crash hp o.a))
theorem step_first {w : World} {wb H : Nat} {d : Wd} (hW : WAt w wb H d) (o : Opd) (ho : ∃ ao n cap, o.v = .slice ao n cap) (hk : o.k = 1) (ha : o.a = 1) (hlp : d.ps.length ≤ 1000000000) :
  Calls Tryz.prog 7 #[P6 wb, .agg o.cells.toArray] w fun e w' => e = .returned (.bool true) ∧ WNew w wb H d w' := by
 refine step_new o ho hk (fun W hBW => ?_)
 rw [ha]
 refine (begins_yes (hW.below hBW) 1 (.inl rfl) (by omega)).mono ?_
 rintro e w' ⟨rfl, d', h1, h2, h3, h4, h5, h6⟩
 exact ⟨rfl, d', h1, h2, h3, h4, h5, (Keeps.ofBelow hBW).trans h6⟩
end
end Go.Proofs.YtnnhnekfokbooaaGreatDoor
