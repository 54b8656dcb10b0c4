/- LawI, LawJ, RnN, RnR -/
import Derived.Test.YtnnhnekfokbooaaGreatDoorAl33
import Derived.OwnWalk
set_option linter.unusedSimpArgs false
set_option linter.unusedVariables false
set_option maxRecDepth 100000
namespace Go.Proofs.YtnnhnekfokbooaaGreatDoor
section
open Go.RowKit
theorem chat_none {w : World} {sb : Nat} {L : Lay} {s : Sy} (h : SynAt w sb L s) {i : Int} (hi : i < 0 ∨ (s.n : Int) ≤ i) (ch : Int) :
  Calls Tryz.prog 31 #[P6 sb, I6 i, I6 ch] w fun e w' => e = .returned (.tuple #[.slice none 0 0, I6 1]) ∧ w' = w := by
 have hF := find_no h hi
 go_enter Tryz.func31, Tryz.ntmps31
 go_wp2_with fail
 refine hF.mono ?_
 rintro e w2 ⟨rfl, rfl⟩
 clear hF
 go_wp2_with fail
 go_ret2
 exact ⟨rfl, rfl⟩
theorem chat_wrong {w : World} {sb : Nat} {L : Lay} {s : Sy} (h : SynAt w sb L s) {i : Nat} (hi : i < s.n) (ch : Int) (hc : ch < 0 ∨ 4 ≤ ch) :
  Calls Tryz.prog 31 #[P6 sb, I6 (i : Int), I6 ch] w fun e w' => e = .returned (.tuple #[.slice none 0 0, I6 1]) ∧ w' = w := by
 have hF := find_yes h hi
 by_cases hc0 : ch < 0
 ·have n0 : decide (ch < 0) = true := by simp; omega
  go_enter Tryz.func31, Tryz.ntmps31
  go_wp2_with fail
  refine hF.mono ?_
  rintro e w2 ⟨rfl, rfl⟩
  clear hF
  go_wp2_with fail
  go_ret2
  exact ⟨rfl, rfl⟩
 ·have n0 : decide (ch < 0) = false := by simp; omega
  have n1 : decide (4 ≤ ch) = true := by simp; omega
  go_enter Tryz.func31, Tryz.ntmps31
  go_wp2_with fail
  refine hF.mono ?_
  rintro e w2 ⟨rfl, rfl⟩
  clear hF
  go_wp2_with fail
  go_ret2
  exact ⟨rfl, rfl⟩
def WTo (w : World) (wb H : Nat) (d : Wd) (w' : World) : Prop :=
 ∃ d' : Wd, WAt w' wb H d' ∧ d.ps.length ≤ d'.ps.length ∧ d'.ps.length ≤ d.ps.length + 1 ∧ d'.N.length ≤ d.N.length + 4 ∧ d'.V.length ≤ d.V.length + 800 ∧ d'.P.length ≤ d.P.length + 4 ∧ Keeps (fun k => k = wb ∨ H ≤ k) w w'
def BothR (p : Pr) (a : Int) : Prop :=
 ∃ (r0 r1 r2 r3 n : Int),
  (∀ W, SynAt W p.sb p.L p.s → Calls Tryz.prog 33 #[pt p.sb, I6 a] W fun e w' => e = .returned (.tuple #[.agg #[I6 r0, I6 r1, I6 r2, I6 r3], I6 n]) ∧ Below W.heap.size W w') ∧
  (∀ W, QAt W p.qb p.Rb p.v p.x → Calls Tryz.prog 34 #[pt p.qb, I6 a] W fun e w' => e = .returned (.tuple #[.agg #[I6 r0, I6 r1, I6 r2, I6 r3], I6 n]) ∧ Below W.heap.size W w')
def BothP (p : Pr) (code ref : FuncId) (args : Value → Array Value) : Prop :=
 ∃ (l : List Pst) (n : Int), l.length ≤ 16 ∧
  (∀ W, SynAt W p.sb p.L p.s → Calls Tryz.prog code (args (pt p.sb)) W fun e w' => ∃ v', e = .returned (.tuple #[v', I6 n]) ∧ w'.ownsRow W.heap.size 33 4 v' l.length (pcells l) ∧ Below W.heap.size W w') ∧
  (∀ W, QAt W p.qb p.Rb p.v p.x → Calls Tryz.prog ref (args (pt p.qb)) W fun e w' => ∃ v', e = .returned (.tuple #[v', I6 n]) ∧ w'.ownsRow W.heap.size 33 4 v' l.length (pcells l) ∧ Below W.heap.size W w')
theorem both_role {w : World} {p : Pr} (h : PAt w p) (a : Int) : BothR p a := by
 rcases one_of a p.s.n with hn | ⟨i, rfl, hi⟩
 ·exact ⟨0, 0, 0, 0, 1, fun W hW => role_no hW hn, fun W hW => rrole_no hW (by rw [h.sim.n]; exact hn)⟩
 ·obtain ⟨e0, e1, e2, e3⟩ := sim_role (h.sim.rep i hi)
  refine ⟨_, _, _, _, 0, fun W hW => role_yes hW hi, fun W hW => ?_⟩
  have := rrole_yes hW (i := i) (by rw [h.sim.n]; exact hi)
  rw [e0, e1, e2, e3] at this
  exact this
theorem both_log {w : World} {p : Pr} (h : PAt w p) (a : Int) : BothP p 27 28 (fun v => #[v, I6 a]) := by
 rcases one_of a p.s.n with hn | ⟨i, rfl, hi⟩
 ·refine ⟨[], 1, by simp, fun W hW => (log_no hW hn).mono ?_, fun W hW => (rlog_no hW (by rw [h.sim.n]; exact hn)).mono ?_⟩
  ·rintro e w' ⟨rfl, rfl⟩; exact ⟨_, rfl, World.ownsRow_nil _ _ _ _, Below.refl _ _⟩
  ·rintro e w' ⟨rfl, rfl⟩; exact ⟨_, rfl, World.ownsRow_nil _ _ _ _, Below.refl _ _⟩
 ·have hok := h.syn.ok.repOk hi
  have he := sim_log (h.sim.rep i hi) hok
  have hl16 : (logOf (p.s.rep i).dec).length ≤ 16 := by have := log_le (p.s.rep i).dec; have := hok.dec; omega
  refine ⟨logOf (p.s.rep i).dec, 0, hl16, fun W hW => log_yes hW hi, fun W hW => ?_⟩
  have := rlog_yes hW (i := i) (by rw [h.sim.n]; exact hi)
  rw [he] at this
  exact this
theorem both_chat {w : World} {p : Pr} (h : PAt w p) (a ch : Int) : BothP p 31 32 (fun v => #[v, I6 a, I6 ch]) := by
 rcases one_of a p.s.n with hn | ⟨i, rfl, hi⟩
 ·refine ⟨[], 1, by simp, fun W hW => (chat_none hW hn ch).mono ?_, fun W hW => (rchatQ_no hW (by rw [h.sim.n]; exact hn) ch).mono ?_⟩
  ·rintro e w' ⟨rfl, rfl⟩; exact ⟨_, rfl, World.ownsRow_nil _ _ _ _, Below.refl _ _⟩
  ·rintro e w' ⟨rfl, hB⟩; exact ⟨_, rfl, World.ownsRow_nil _ _ _ _, hB⟩
 ·have hix : i < p.x.R.length := by rw [h.sim.n]; exact hi
  by_cases hc : ch < 0 ∨ 4 ≤ ch
  ·refine ⟨[], 1, by simp, fun W hW => (chat_wrong hW hi ch hc).mono ?_, fun W hW => (rchatQ_ch hW hix ch hc).mono ?_⟩
   ·rintro e w' ⟨rfl, rfl⟩; exact ⟨_, rfl, World.ownsRow_nil _ _ _ _, Below.refl _ _⟩
   ·rintro e w' ⟨rfl, hB⟩; exact ⟨_, rfl, World.ownsRow_nil _ _ _ _, hB⟩
  ·have hok := h.syn.ok.repOk hi
   have he := sim_log (h.sim.rep i hi) hok
   have hl16 : (logOf (p.s.rep i).dec).length ≤ 16 := by have := log_le (p.s.rep i).dec; have := hok.dec; omega
   refine ⟨_, 0, ?_, fun W hW => chat_yes hW hi ch (by omega) (by omega), fun W hW => ?_⟩
   ·have := chatTo_len ch (logOf (p.s.rep i).dec) (logOf (p.s.rep i).dec).length
    omega
   ·have := rchatQ_yes hW hix ch (by omega) (by omega) (by rw [he]; exact h.run.log i)
    rw [he] at this
    exact this
set_option maxHeartbeats 4000000 in
theorem told_role {w : World} {wb : Nat} {p : Pr} (h : PAt w p) (o : Opd) (ho : ∃ ao n cap, o.v = .slice ao n cap) (hk : o.k = 8) (hb : BothR p o.a) :
  Calls Tryz.prog 13 #[P6 wb, .agg #[P6 p.sb, P6 p.qb], .agg o.cells.toArray] w fun e w' => e = .returned (.bool true) ∧ Below w.heap.size w w' := by
 obtain ⟨r0, r1, r2, r3, n, hC, hQ⟩ := hb
 obtain ⟨ok, on, oa, ob, os, ⟨pc, pq, ph, pt9⟩, ⟨mk, mf, mt, mb, ms, ⟨mc, mq, mh, mx⟩, ma⟩, v⟩ := o
 obtain ⟨va, vn, vc, hve⟩ := ho
 simp only at hve hk
 subst hve hk
 try simp only [pt] at hC hQ
 simp only [Opd.cells]
 have hB2 : Below w.heap.size w ((w.alloc (.cells #[P6 p.sb, P6 p.qb] 47)).alloc (.cells #[I6 8, I6 on, I6 oa, I6 ob, .string os, I6 pc, I6 pq, I6 ph, .string pt9, I6 mk, I6 mf, I6 mt, I6 mb, I6 ms, I6 mc, I6 mq, I6 mh, .string mx, .slice va vn vc] 38)) := ((Below.refl _ w).alloc (Nat.le_refl _) _).alloc (by simp) _
 have h2 := h.below hB2
 have hbp : ((w.alloc (.cells #[P6 p.sb, P6 p.qb] 47)).alloc (.cells #[I6 8, I6 on, I6 oa, I6 ob, .string os, I6 pc, I6 pq, I6 ph, .string pt9, I6 mk, I6 mf, I6 mt, I6 mb, I6 ms, I6 mc, I6 mq, I6 mh, .string mx, .slice va vn vc] 38)).heap[w.heap.size]? = some (.cells #[P6 p.sb, P6 p.qb] 47 (0, 0)) := blk_alloc (blk_new w (.cells #[P6 p.sb, P6 p.qb] 47)) _
 have hbo : ((w.alloc (.cells #[P6 p.sb, P6 p.qb] 47)).alloc (.cells #[I6 8, I6 on, I6 oa, I6 ob, .string os, I6 pc, I6 pq, I6 ph, .string pt9, I6 mk, I6 mf, I6 mt, I6 mb, I6 ms, I6 mc, I6 mq, I6 mh, .string mx, .slice va vn vc] 38)).heap[w.heap.size + 1]? = some (.cells #[I6 8, I6 on, I6 oa, I6 ob, .string os, I6 pc, I6 pq, I6 ph, .string pt9, I6 mk, I6 mf, I6 mt, I6 mb, I6 ms, I6 mc, I6 mq, I6 mh, .string mx, .slice va vn vc] 38 (0, 0)) := by
  have := blk_new (w.alloc (.cells #[P6 p.sb, P6 p.qb] 47)) (.cells #[I6 8, I6 on, I6 oa, I6 ob, .string os, I6 pc, I6 pq, I6 ph, .string pt9, I6 mk, I6 mf, I6 mt, I6 mb, I6 ms, I6 mc, I6 mq, I6 mh, .string mx, .slice va vn vc] 38)
  rwa [World.size_alloc] at this
 have hbpc := blk_cell hbp
 have hboc := blk_cell hbo
 have hlt2 := lt_of_block hbo
 go_enter Tryz.func13, Tryz.ntmps13
 go_wp2_with fail
 generalize ((w.alloc (.cells #[P6 p.sb, P6 p.qb] 47)).alloc (.cells #[I6 8, I6 on, I6 oa, I6 ob, .string os, I6 pc, I6 pq, I6 ph, .string pt9, I6 mk, I6 mf, I6 mt, I6 mb, I6 ms, I6 mc, I6 mq, I6 mh, .string mx, .slice va vn vc] 38)) = w2 at *
 refine (hC _ h2.syn).mono ?_
 rintro e w3 ⟨rfl, hB3⟩
 clear hC hbpc hboc
 have hz3 := hB3.size
 go_upto_region 24 with (fail)
 have hBa : Below w2.heap.size w2 (w3.alloc (.cells #[I6 r0, I6 r1, I6 r2, I6 r3] 85)) := hB3.alloc hz3 _
 have hr3 := blk_new w3 (.cells #[I6 r0, I6 r1, I6 r2, I6 r3] 85)
 generalize w3.alloc (.cells #[I6 r0, I6 r1, I6 r2, I6 r3] 85) = w4 at *
 have hbpc := blk_cell (blk_below hBa hbp)
 have hboc := blk_cell (blk_below hBa hbo)
 have h4 := h2.below hBa
 go_wp2_with fail
 refine (hQ _ h4.ref).mono ?_
 rintro e w5 ⟨rfl, hB5⟩
 clear hQ hbpc hboc
 have hr5 := blk_below hB5 hr3
 have hBw5 : Below w.heap.size w w5 := Below.trans hB2 ((Below.trans hBa (hB5.mono hBa.size)).mono hB2.size)
 go_upto_region 25 with (fail)
 have hBw6 := hBw5.alloc hBw5.size (.cells #[I6 r0, I6 r1, I6 r2, I6 r3] 85)
 have hq6 := blk_new w5 (.cells #[I6 r0, I6 r1, I6 r2, I6 r3] 85)
 have hr6 := blk_alloc hr5 (.cells #[I6 r0, I6 r1, I6 r2, I6 r3] 85)
 generalize w5.alloc (.cells #[I6 r0, I6 r1, I6 r2, I6 r3] 85) = w6 at *
 have hc1 := blk_cell hr6
 have hc2 := blk_cell hq6
 go_wp2_with fail
 refine (num_same n _).mono ?_
 rintro e w7 ⟨rfl, rfl⟩
 go_wp2_with fail
 go_ret
 exact ⟨by simp, hBw6⟩
set_option maxHeartbeats 4000000 in
theorem told_posts {w : World} {wb H : Nat} {d : Wd} {p : Pr} (hW : WAt w wb H d) (h : PAt w p) (o : Opd) (ho : ∃ ao n cap, o.v = .slice ao n cap) (hl : d.P.length ≤ 4000000000000)
  (hh : (((o.k == 4) = false ∧ (o.k == 6) = true) ∧ BothP p 27 28 (fun v => #[v, I6 o.a])) ∨ (((o.k == 4) = false ∧ (o.k == 6) = false ∧ (o.k == 7) = true) ∧ BothP p 31 32 (fun v => #[v, I6 o.a, I6 o.b]))) :
  Calls Tryz.prog 13 #[P6 wb, .agg #[P6 p.sb, P6 p.qb], .agg o.cells.toArray] w fun e w' => e = .returned (.bool true) ∧ WTo w wb H d w' := by
 rcases hh with ⟨⟨m4, m6⟩, hb⟩ | ⟨⟨m4, m6, m7⟩, hb⟩
 all_goals
  obtain ⟨l, n, hl16, hC, hQ⟩ := hb
  obtain ⟨ok, on, oa, ob, os, ⟨pc, pq, ph, pt9⟩, ⟨mk, mf, mt, mb, ms, ⟨mc, mq, mh, mx⟩, ma⟩, v⟩ := o
  obtain ⟨va, vn, vc, hve⟩ := ho
  simp only at hve m4 m6 hC hQ
  try simp only at m7
  subst hve
  try simp only [pt] at hC hQ
  simp only [Opd.cells]
  have hB2 : Below w.heap.size w ((w.alloc (.cells #[P6 p.sb, P6 p.qb] 47)).alloc (.cells #[I6 ok, I6 on, I6 oa, I6 ob, .string os, I6 pc, I6 pq, I6 ph, .string pt9, I6 mk, I6 mf, I6 mt, I6 mb, I6 ms, I6 mc, I6 mq, I6 mh, .string mx, .slice va vn vc] 38)) := ((Below.refl _ w).alloc (Nat.le_refl _) _).alloc (by simp) _
  have h2 := h.below hB2
  have hbp : ((w.alloc (.cells #[P6 p.sb, P6 p.qb] 47)).alloc (.cells #[I6 ok, I6 on, I6 oa, I6 ob, .string os, I6 pc, I6 pq, I6 ph, .string pt9, I6 mk, I6 mf, I6 mt, I6 mb, I6 ms, I6 mc, I6 mq, I6 mh, .string mx, .slice va vn vc] 38)).heap[w.heap.size]? = some (.cells #[P6 p.sb, P6 p.qb] 47 (0, 0)) := blk_alloc (blk_new w (.cells #[P6 p.sb, P6 p.qb] 47)) _
  have hbo : ((w.alloc (.cells #[P6 p.sb, P6 p.qb] 47)).alloc (.cells #[I6 ok, I6 on, I6 oa, I6 ob, .string os, I6 pc, I6 pq, I6 ph, .string pt9, I6 mk, I6 mf, I6 mt, I6 mb, I6 ms, I6 mc, I6 mq, I6 mh, .string mx, .slice va vn vc] 38)).heap[w.heap.size + 1]? = some (.cells #[I6 ok, I6 on, I6 oa, I6 ob, .string os, I6 pc, I6 pq, I6 ph, .string pt9, I6 mk, I6 mf, I6 mt, I6 mb, I6 ms, I6 mc, I6 mq, I6 mh, .string mx, .slice va vn vc] 38 (0, 0)) := by
   have := blk_new (w.alloc (.cells #[P6 p.sb, P6 p.qb] 47)) (.cells #[I6 ok, I6 on, I6 oa, I6 ob, .string os, I6 pc, I6 pq, I6 ph, .string pt9, I6 mk, I6 mf, I6 mt, I6 mb, I6 ms, I6 mc, I6 mq, I6 mh, .string mx, .slice va vn vc] 38)
   rwa [World.size_alloc] at this
  have hbpc := blk_cell hbp
  have hboc := blk_cell hbo
  have hlt2 := lt_of_block hbo
  go_enter Tryz.func13, Tryz.ntmps13
  go_wp2_with fail
  generalize ((w.alloc (.cells #[P6 p.sb, P6 p.qb] 47)).alloc (.cells #[I6 ok, I6 on, I6 oa, I6 ob, .string os, I6 pc, I6 pq, I6 ph, .string pt9, I6 mk, I6 mf, I6 mt, I6 mb, I6 ms, I6 mc, I6 mq, I6 mh, .string mx, .slice va vn vc] 38)) = w2 at *
  refine (hC _ h2.syn).mono ?_
  rintro e w3 ⟨v3, rfl, hown3, hB3⟩
  clear hC hbpc hboc
  obtain ⟨a3, c3, hv3, _⟩ := (owns_row hown3).form
  subst hv3
  have hbpc := blk_cell (blk_below hB3 hbp)
  have hboc := blk_cell (blk_below hB3 hbo)
  have h3 := h2.below hB3
  go_wp2_with fail
  refine (hQ _ h3.ref).mono ?_
  rintro e w4 ⟨v4, rfl, hown4, hB4⟩
  clear hQ hbpc hboc
  obtain ⟨a4, c4, hv4, _⟩ := (owns_row hown4).form
  subst hv4
  have hown3' := owns_below hown3 hB4
  have hSa := samePosts_same (psAt_owns (own := fun _ => False) hown3' (by omega) (fun _ _ h => h)) (psAt_owns (own := fun _ => False) hown4 (by omega) (fun _ _ h => h))
  go_wp2_with fail
  refine hSa.mono ?_
  rintro e w5 ⟨rfl, hB5⟩
  clear hSa
  have hB35 : Below w3.heap.size w3 w5 := Below.trans hB4 (hB5.mono hB4.size)
  have hB25 : Below w2.heap.size w2 w5 := Below.trans hB3 (hB35.mono hB3.size)
  have hBw5 : Below w.heap.size w w5 := Below.trans hB2 (hB25.mono hB2.size)
  have hW5 := hW.below hBw5
  have hown5 := owns_below hown3 hB35
  have hHw := hW.base.2.2
  have hPo := posted_any wb H d.wl d.wn d.wv d.wp (.slice a3 l.length c3) l.length (pcells l) d.P w5 hW5.blk hW5.posts.own (owns_base hown5 (by have := hB2.size; omega)) (by omega) (by omega) hW5.base.2.2
  have hge : ∀ g, (Value.slice a3 l.length c3).ownBlock = some g → w.heap.size ≤ g := fun g hg => by have := (World.ownsRow.lt hown3 g hg).1; have := hB2.size; omega
  clear hown3 hown4 hown3'
  go_wp2_with fail
  refine hPo.mono ?_
  rintro e w6 ⟨wp', ua, ub, uc, rfl, hb6, ho6, m0, m1, m2, m3, k6, _, _⟩
  clear hPo
  have kk : Keeps (fun k => k = wb ∨ d.wp.ownBlock = some k) w w6 := Keeps.high (Keeps.ofBelow hBw5) (k6.mono (fun k _ ho => by
   rcases ho with ho | ho | ho
   ·exact .inl (.inl ho)
   ·exact .inr (hge k ho)
   ·exact .inl (.inr ho)))
  have hW6 := hW.post kk hb6 ho6 (n := l.length) (by omega) m0 m1 m2 m3
  have hfin : WTo w wb H d w6 := ⟨_, hW6, Nat.le_refl _, by show d.ps.length ≤ _; omega, by show d.N.length ≤ _; omega, by show d.V.length ≤ _; omega, by show (d.P ++ [_, _, _, _]).length ≤ _; simp, kk.mono (fun k _ ho => by
   rcases ho with ho | ho
   ·exact .inl ho
   ·exact .inr (World.ownsRow.lt hW.posts.own k ho).1)⟩
  clear m0 m1 m2 m3 ho6 hb6 k6 kk hW6 hW5
  go_wp2_with fail
  refine (num_same n _).mono ?_
  rintro e w7 ⟨rfl, rfl⟩
  go_wp2_with fail
  go_ret
  exact ⟨by simp, hfin⟩
theorem told_log {w : World} {wb H : Nat} {d : Wd} {p : Pr} (hW : WAt w wb H d) (h : PAt w p) (o : Opd) (ho : ∃ ao n cap, o.v = .slice ao n cap) (hk : o.k = 6) (hl : d.P.length ≤ 4000000000000) (hb : BothP p 27 28 (fun v => #[v, I6 o.a])) :
  Calls Tryz.prog 13 #[P6 wb, .agg #[P6 p.sb, P6 p.qb], .agg o.cells.toArray] w fun e w' => e = .returned (.bool true) ∧ WTo w wb H d w' := told_posts hW h o ho hl (.inl ⟨⟨by rw [hk]; rfl, by rw [hk]; rfl⟩, hb⟩)
theorem told_chat {w : World} {wb H : Nat} {d : Wd} {p : Pr} (hW : WAt w wb H d) (h : PAt w p) (o : Opd) (ho : ∃ ao n cap, o.v = .slice ao n cap) (hk : o.k = 7) (hl : d.P.length ≤ 4000000000000) (hb : BothP p 31 32 (fun v => #[v, I6 o.a, I6 o.b])) :
  Calls Tryz.prog 13 #[P6 wb, .agg #[P6 p.sb, P6 p.qb], .agg o.cells.toArray] w fun e w' => e = .returned (.bool true) ∧ WTo w wb H d w' := told_posts hW h o ho hl (.inr ⟨⟨by rw [hk]; rfl, by rw [hk]; rfl, by rw [hk]; rfl⟩, hb⟩)
end
section
open Go.RowKit
theorem ncs_read {w : World} {base : Nat} {v : Value} {l : List Nm} (h : w.ownsRow base 36 10 v l.length (ncs l)) : ∃ ao cap, v = .slice ao l.length cap ∧ (0 < l.length → ∃ g, ao = some (A6 g 0) ∧ g < w.heap.size ∧ ∀ j (hj : j < l.length), ∀ i, i < 10 → w.cell? (A6 g (j * 10 + i)) = l[j].cells[i]?) := by
 rcases h.2 with ⟨rfl, h0⟩ | ⟨g, cap, cur, rfl, _, hg, _, _, hcs, htk⟩
 ·exact ⟨none, 0, by rw [h0], fun h => by omega⟩
 ·refine ⟨_, cap, rfl, fun _ => ⟨g, rfl, lt_of_block hg, fun j hj i hi => ?_⟩⟩
  rw [blk_cell hg, ← Array.getElem?_toList]
  have e1 : cur.toList[j * 10 + i]? = (cur.toList.take (l.length * 10))[j * 10 + i]? := by rw [List.getElem?_take, if_pos (by omega)]
  rw [e1, htk]; exact ncs_at l j hj i hi
set_option maxHeartbeats 4000000 in
theorem told_net {w : World} {wb H : Nat} {d : Wd} {p : Pr} (hW : WAt w wb H d) (h : PAt w p) (o : Opd) (ho : ∃ ao n cap, o.v = .slice ao n cap) (hk : o.k = 4) (hlN : d.N.length ≤ 4000000000000) (hlV : d.V.length ≤ 4000000000000) :
  Calls Tryz.prog 13 #[P6 wb, .agg #[P6 p.sb, P6 p.qb], .agg o.cells.toArray] w fun e w' => e = .returned (.bool true) ∧ WTo w wb H d w' := by
 have hC := fun W (hS : SynAt W p.sb p.L p.s) => net_syn hS
 have hQ : True := trivial
 obtain ⟨ok, on, oa, ob, os, ⟨pc, pq, ph, pt9⟩, ⟨mk, mf, mt, mb, ms, ⟨mc, mq, mh, mx⟩, ma⟩, v⟩ := o
 obtain ⟨va, vn, vc, hve⟩ := ho
 simp only at hve hk
 subst hve hk
 try simp only [pt] at hC hQ
 simp only [Opd.cells]
 have hB2 : Below w.heap.size w ((w.alloc (.cells #[P6 p.sb, P6 p.qb] 47)).alloc (.cells #[I6 4, I6 on, I6 oa, I6 ob, .string os, I6 pc, I6 pq, I6 ph, .string pt9, I6 mk, I6 mf, I6 mt, I6 mb, I6 ms, I6 mc, I6 mq, I6 mh, .string mx, .slice va vn vc] 38)) := ((Below.refl _ w).alloc (Nat.le_refl _) _).alloc (by simp) _
 have h2 := h.below hB2
 have hbp : ((w.alloc (.cells #[P6 p.sb, P6 p.qb] 47)).alloc (.cells #[I6 4, I6 on, I6 oa, I6 ob, .string os, I6 pc, I6 pq, I6 ph, .string pt9, I6 mk, I6 mf, I6 mt, I6 mb, I6 ms, I6 mc, I6 mq, I6 mh, .string mx, .slice va vn vc] 38)).heap[w.heap.size]? = some (.cells #[P6 p.sb, P6 p.qb] 47 (0, 0)) := blk_alloc (blk_new w (.cells #[P6 p.sb, P6 p.qb] 47)) _
 have hbo : ((w.alloc (.cells #[P6 p.sb, P6 p.qb] 47)).alloc (.cells #[I6 4, I6 on, I6 oa, I6 ob, .string os, I6 pc, I6 pq, I6 ph, .string pt9, I6 mk, I6 mf, I6 mt, I6 mb, I6 ms, I6 mc, I6 mq, I6 mh, .string mx, .slice va vn vc] 38)).heap[w.heap.size + 1]? = some (.cells #[I6 4, I6 on, I6 oa, I6 ob, .string os, I6 pc, I6 pq, I6 ph, .string pt9, I6 mk, I6 mf, I6 mt, I6 mb, I6 ms, I6 mc, I6 mq, I6 mh, .string mx, .slice va vn vc] 38 (0, 0)) := by
  have := blk_new (w.alloc (.cells #[P6 p.sb, P6 p.qb] 47)) (.cells #[I6 4, I6 on, I6 oa, I6 ob, .string os, I6 pc, I6 pq, I6 ph, .string pt9, I6 mk, I6 mf, I6 mt, I6 mb, I6 ms, I6 mc, I6 mq, I6 mh, .string mx, .slice va vn vc] 38)
  rwa [World.size_alloc] at this
 have hbpc := blk_cell hbp
 have hboc := blk_cell hbo
 have hlt2 := lt_of_block hbo
 go_enter Tryz.func13, Tryz.ntmps13
 go_wp2_with fail
 generalize ((w.alloc (.cells #[P6 p.sb, P6 p.qb] 47)).alloc (.cells #[I6 4, I6 on, I6 oa, I6 ob, .string os, I6 pc, I6 pq, I6 ph, .string pt9, I6 mk, I6 mf, I6 mt, I6 mb, I6 ms, I6 mc, I6 mq, I6 mh, .string mx, .slice va vn vc] 38)) = w2 at *
 clear hQ
 refine (hC _ h2.syn).mono ?_
 rintro e w3 ⟨v3, l, rfl, hlm, hel, hdis, hown3, hB3⟩
 clear hC hbpc hboc
 have h3 := h2.below hB3
 have hbp3 := blk_below hB3 hbp
 have hP1 : w3.cell? (A6 w.heap.size 1) = some (P6 p.qb) := (blk_cell hbp3 1).trans rfl
 have hp3 : w.heap.size < w3.heap.size := lt_of_block hbp3
 obtain ⟨l2, hlm2, hown2, hok2⟩ := h3.ref.net
 have hll : l.length = p.s.net.length := by rw [← hlm, List.length_map]
 have hll2 : l2.length = l.length := by rw [hll, ← h.sim.net, ← hlm2, List.length_map]
 have hfull := h.syn.ok.full
 have hsame : ∀ j (hj : j < l.length) (hj2 : j < l2.length), l2[j].m = l[j].m := fun j hj hj2 => by
  have e1 : l[j]?.map (·.m) = p.s.net[j]? := by rw [← hlm, List.getElem?_map]
  have e2 : l2[j]?.map (·.m) = p.s.net[j]? := by rw [← h.sim.net, ← hlm2, List.getElem?_map]
  rw [List.getElem?_eq_getElem hj] at e1
  rw [List.getElem?_eq_getElem hj2] at e2
  rw [← e1] at e2
  simpa using e2
 obtain ⟨ga, gc, hv3, hrd⟩ := ncs_read hown3
 obtain ⟨qa, qc, hv2, hrd2⟩ := ncs_read hown2
 have hQ1 : w3.cell? (A6 p.qb 1) = some (.slice qa l.length qc) := by rw [← hll2, ← hv2]; exact (blk_cell h3.ref.syn 1).trans rfl
 have hq3 : p.qb < w3.heap.size := lt_of_block h3.ref.syn
 subst hv3
 have Hrd : Hid (0 < l.length → ∃ g, ga = some (A6 g 0) ∧ g < w3.heap.size ∧ ∀ j (hj : j < l.length), ∀ i, i < 10 → w3.cell? (A6 g (j * 10 + i)) = l[j].cells[i]?) := hrd
 have Hrd2 : Hid (0 < l.length → ∃ g, qa = some (A6 g 0) ∧ g < w3.heap.size ∧ ∀ j (hj : j < l2.length), ∀ i, i < 10 → w3.cell? (A6 g (j * 10 + i)) = l2[j].cells[i]?) := fun h0 => hrd2 (by omega)
 have Hel : Hid (∀ i (hi : i < l.length), w3.ownsRow w2.heap.size 53 6 l[i].v l[i].m.a.length (vcells l[i].m.a)) := hel
 have Hdis : Hid (∀ i j (hi : i < l.length) (hj : j < l.length) g, i < j → l[i].v.ownBlock = some g → l[j].v.ownBlock ≠ some g) := hdis
 have Hok2 : Hid (∀ y ∈ l2, y.okt w3) := hok2
 have Hsame : Hid (∀ j (hj : j < l.length) (hj2 : j < l2.length), l2[j].m = l[j].m) := hsame
 have Hal : Hid (∀ i (hi : i < l.length), l[i].m.a.length ≤ 16) := fun i hi => by
  have hm : l[i].m ∈ p.s.net := by rw [← hlm]; exact List.mem_map.2 ⟨l[i], List.getElem_mem hi, rfl⟩
  exact (h.syn.ok.net _ hm).a
 have hl200 : l.length ≤ 200 := by omega
 have Hll2 : Hid (l2.length = l.length) := hll2
 clear hrd hrd2 hel hdis hok2 hsame hlm hlm2 hown2 hll hll2 hfull
 go_wp2_with fail
 go_loopw [8, 9] (fun sv iv wr => ∃ j : Nat, j ≤ l.length ∧ sv = .bool true ∧ iv = I6 j ∧ Below w3.heap.size w3 wr) (fun _ iv _ => l.length - (intOf iv).toNat)
 case atStart => exact ⟨0, Nat.zero_le _, by simp, rfl, Below.refl _ _⟩
 case round =>
  obtain ⟨j, hj, rfl, rfl, hBj⟩ := hrel
  by_cases hjn : j < l.length
  ·obtain ⟨g, rfl, hg3, hgc⟩ := Hrd.out (by omega)
   obtain ⟨gq, rfl, hgq3, hqc⟩ := Hrd2.out (by omega)
   have hj2 : j < l2.length := by rw [Hll2.out]; exact hjn
   have hcr := hgc j hjn
   have hcr2 := hqc j hj2
   have hsm := Hsame.out j hjn hj2
   have hva : VAt w3 l[j].v l[j].m.a := owns_vat (Hel.out j hjn) (by have := Hal.out j hjn; omega)
   have hvb : VAt w3 l2[j].v l[j].m.a := by rw [← hsm]; exact (Hok2.out _ (List.getElem_mem hj2)).1.1
   clear hgc hqc
   generalize l2[j] = y2 at *
   generalize l[j] = y1 at *
   obtain ⟨⟨mk9, mf9, mt9, mb9, ms9, ⟨mc9, mq9, mh9, mx9⟩, ma9⟩, xv⟩ := y1
   obtain ⟨m2, xv2⟩ := y2
   simp only at hsm hva hvb
   subst hsm
   obtain ⟨xa, xc, rfl, _⟩ := hva.form
   obtain ⟨ya, yc, rfl, _⟩ := hvb.form
   have c0 : w3.cell? (A6 g (j * 10)) = some (I6 mk9) := hcr 0 (by decide)
   have c1 : w3.cell? (A6 g (j * 10 + 1)) = some (I6 mf9) := hcr 1 (by decide)
   have c2 : w3.cell? (A6 g (j * 10 + 2)) = some (I6 mt9) := hcr 2 (by decide)
   have c3 : w3.cell? (A6 g (j * 10 + 3)) = some (I6 mb9) := hcr 3 (by decide)
   have c4 : w3.cell? (A6 g (j * 10 + 4)) = some (I6 ms9) := hcr 4 (by decide)
   have c5 : w3.cell? (A6 g (j * 10 + 5)) = some (I6 mc9) := hcr 5 (by decide)
   have c6 : w3.cell? (A6 g (j * 10 + 6)) = some (I6 mq9) := hcr 6 (by decide)
   have c7 : w3.cell? (A6 g (j * 10 + 7)) = some (I6 mh9) := hcr 7 (by decide)
   have c8 : w3.cell? (A6 g (j * 10 + 8)) = some (.string mx9) := hcr 8 (by decide)
   have c9 : w3.cell? (A6 g (j * 10 + 9)) = some (.slice xa ma9.length xc) := hcr 9 (by decide)
   have e0 : w3.cell? (A6 gq (j * 10)) = some (I6 mk9) := hcr2 0 (by decide)
   have e1 : w3.cell? (A6 gq (j * 10 + 1)) = some (I6 mf9) := hcr2 1 (by decide)
   have e2 : w3.cell? (A6 gq (j * 10 + 2)) = some (I6 mt9) := hcr2 2 (by decide)
   have e3 : w3.cell? (A6 gq (j * 10 + 3)) = some (I6 mb9) := hcr2 3 (by decide)
   have e4 : w3.cell? (A6 gq (j * 10 + 4)) = some (I6 ms9) := hcr2 4 (by decide)
   have e5 : w3.cell? (A6 gq (j * 10 + 5)) = some (I6 mc9) := hcr2 5 (by decide)
   have e6 : w3.cell? (A6 gq (j * 10 + 6)) = some (I6 mq9) := hcr2 6 (by decide)
   have e7 : w3.cell? (A6 gq (j * 10 + 7)) = some (I6 mh9) := hcr2 7 (by decide)
   have e8 : w3.cell? (A6 gq (j * 10 + 8)) = some (.string mx9) := hcr2 8 (by decide)
   have e9 : w3.cell? (A6 gq (j * 10 + 9)) = some (.slice ya ma9.length yc) := hcr2 9 (by decide)
   clear hcr hcr2
   have q0 : (0 : Int) ≤ (j : Int) := by omega
   have q1 : (j : Int) < (l.length : Int) := by omega
   have hSm := sameMessage_same ⟨mk9, mf9, mt9, mb9, ms9, ⟨mc9, mq9, mh9, mx9⟩, ma9⟩ (.slice xa ma9.length xc) (.slice ya ma9.length yc) wr.drew (hva.below hBj.drew) (hvb.below hBj.drew)
   dsimp only at hSm
   go_wp2_with fail
   refine wp_region_held_drew (S := fun w' => Below w3.heap.size w3 w') (by kernel_rfl) (hBj.drew) (fun hS => ?_)
   refine tk 0 rfl hS (v := ?_) (fun w' hw => ?_) ?_
   rotate_left 1
   ·go_simp; all_goals with_reducible rfl
   try simp only [ly]
   refine tk 1 rfl hS (v := ?_) (fun w' hw => ?_) ?_
   rotate_left 1
   ·go_simp; all_goals with_reducible rfl
   try simp only [ly]
   refine tk 2 rfl hS (v := ?_) (fun w' hw => ?_) ?_
   rotate_left 1
   ·go_simp; all_goals with_reducible rfl
   try simp only [ly]
   refine tk 3 rfl hS (v := ?_) (fun w' hw => ?_) ?_
   rotate_left 1
   ·have f0 := (hw.cell (p := (A6 g (j * 10))) hg3).trans c0; have f1 := (hw.cell (p := (A6 g (j * 10 + 1))) hg3).trans c1; have f2 := (hw.cell (p := (A6 g (j * 10 + 2))) hg3).trans c2; have f3 := (hw.cell (p := (A6 g (j * 10 + 3))) hg3).trans c3; have f4 := (hw.cell (p := (A6 g (j * 10 + 4))) hg3).trans c4; have f5 := (hw.cell (p := (A6 g (j * 10 + 5))) hg3).trans c5; have f6 := (hw.cell (p := (A6 g (j * 10 + 6))) hg3).trans c6; have f7 := (hw.cell (p := (A6 g (j * 10 + 7))) hg3).trans c7; have f8 := (hw.cell (p := (A6 g (j * 10 + 8))) hg3).trans c8; have f9 := (hw.cell (p := (A6 g (j * 10 + 9))) hg3).trans c9; go_simp; all_goals with_reducible rfl
   try simp only [ly]
   refine tk 4 rfl hS (v := ?_) (fun w' hw => ?_) ?_
   rotate_left 1
   ·go_simp; all_goals with_reducible rfl
   try simp only [ly]
   refine tk 5 rfl hS (v := ?_) (fun w' hw => ?_) ?_
   rotate_left 1
   ·have f1 := (hw.cell (p := (A6 w.heap.size 1)) hp3).trans hP1; go_simp; all_goals with_reducible rfl
   try simp only [ly]
   refine tk 6 rfl hS (v := ?_) (fun w' hw => ?_) ?_
   rotate_left 1
   ·go_simp; all_goals with_reducible rfl
   try simp only [ly]
   refine tk 7 rfl hS (v := ?_) (fun w' hw => ?_) ?_
   rotate_left 1
   ·go_simp; all_goals with_reducible rfl
   try simp only [ly]
   refine tk 8 rfl hS (v := ?_) (fun w' hw => ?_) ?_
   rotate_left 1
   ·have f1 := (hw.cell (p := (A6 p.qb 1)) hq3).trans hQ1; go_simp; all_goals with_reducible rfl
   try simp only [ly]
   refine tk 9 rfl hS (v := ?_) (fun w' hw => ?_) ?_
   rotate_left 1
   ·go_simp; all_goals with_reducible rfl
   try simp only [ly]
   refine tk 10 rfl hS (v := ?_) (fun w' hw => ?_) ?_
   rotate_left 1
   ·go_simp; all_goals with_reducible rfl
   try simp only [ly]
   refine tk 11 rfl hS (v := ?_) (fun w' hw => ?_) ?_
   rotate_left 1
   ·have f0 := (hw.cell (p := (A6 gq (j * 10))) hgq3).trans e0; have f1 := (hw.cell (p := (A6 gq (j * 10 + 1))) hgq3).trans e1; have f2 := (hw.cell (p := (A6 gq (j * 10 + 2))) hgq3).trans e2; have f3 := (hw.cell (p := (A6 gq (j * 10 + 3))) hgq3).trans e3; have f4 := (hw.cell (p := (A6 gq (j * 10 + 4))) hgq3).trans e4; have f5 := (hw.cell (p := (A6 gq (j * 10 + 5))) hgq3).trans e5; have f6 := (hw.cell (p := (A6 gq (j * 10 + 6))) hgq3).trans e6; have f7 := (hw.cell (p := (A6 gq (j * 10 + 7))) hgq3).trans e7; have f8 := (hw.cell (p := (A6 gq (j * 10 + 8))) hgq3).trans e8; have f9 := (hw.cell (p := (A6 gq (j * 10 + 9))) hgq3).trans e9; go_simp; all_goals with_reducible rfl
   try simp only [ly]
   refine r1 12 rfl (fun K hK => ?_)
   go_simp
   refine hSm.mono ?_
   rintro e w5 ⟨rfl, hB5⟩
   clear hSm
   have hB5' : Below w3.heap.size w3 w5 := Below.trans hBj.drew (hB5.mono hBj.drew.size)
   go_wp2_with fail
   refine hK.out _ _ hB5' (fun hS => ?_)
   clear hK K
   try simp only [ly]
   refine tk 13 rfl hS (v := ?_) (fun w' hw => ?_) ?_
   rotate_left 1
   ·go_simp; all_goals with_reducible rfl
   try simp only [ly]
   refine dn ?_ _
   clear c0 c1 c2 c3 c4 c5 c6 c7 c8 c9 e0 e1 e2 e3 e4 e5 e6 e7 e8 e9
   go_wp2_with fail
   go_roundw
   case rel => exact ⟨j + 1, by omega, rfl, by go_num, hB5'⟩
   case measure => simp [intOf]; omega
  ·have q1 : ¬ (j : Int) < (l.length : Int) := by omega
   have hz3 := hB3.size
   have hB2r : Below w2.heap.size w2 wr := Below.trans hB3 (hBj.mono hB3.size)
   have hBwr : Below w.heap.size w wr := Below.trans hB2 (hB2r.mono hB2.size)
   have hWr := hW.below hBwr
   have hbase := hW.base
   have hz2 := hB2.size
   have hNe := netted_any wb H w2.heap.size d.wl d.wn d.wv d.wp (.slice ga l.length gc) l d.N d.V wr hWr.blk hWr.nets.own hWr.votes (owns_below hown3 hBj) (fun i hi => owns_below (Hel.out i hi) hBj) (fun i hi => by have := Hal.out i hi; omega) Hdis.out (fun k hk g hg => by
    obtain ⟨_, cs, hc⟩ := hW.votes.blkT hk hg
    have := lt_of_block hc
    omega) (by omega) (by omega) (by omega) (by omega) hB2r.size (by omega)
   go_wp2_with fail
   refine hNe.mono ?_
   rintro e w6 ⟨wn', wv', V', ua, ub, uc, rfl, hb6, ho6, m0, m1, m2, m3, hV6, hVl6, k6, hat6⟩
   clear hNe
   have kk : Keeps (fun k => k = wb ∨ d.wn.ownBlock = some k ∨ d.wv.ownBlock = some k) w w6 := Keeps.high (Keeps.ofBelow hBwr) (k6.mono (fun k _ ho => by
    rcases ho with ho | ho | ho | ho
    ·exact .inl (.inl ho)
    ·exact .inl (.inr (.inl ho))
    ·exact .inl (.inr (.inr ho))
    ·exact .inr (Nat.le_trans hz2 ho)))
   have hW6 : WAt w6 wb H ⟨d.wl, wn', wv', d.wp, d.ps, d.N ++ [.slice ga l.length gc, ua, ub, uc], V', d.P⟩ := hW.net kk hb6 (fun hnew => hW.nets.more (fun j i => mm4) kk hnew ho6 (n := l.length) (by omega) m0 m1 m2 m3) hV6 (fun k hk g hg ho => by
    by_cases hkl : k < d.N.length
    ·rw [List.getElem_append_left hkl] at hg
     exact hW.nown k hkl g hg ho
    ·have hlt9 := hW.lat.own_lt ho
     simp at hk
     rw [List.getElem_append_right (by omega)] at hg
     have : w2.heap.size ≤ g := by
      rcases (show k - d.N.length = 0 ∨ k - d.N.length = 1 ∨ k - d.N.length = 2 ∨ k - d.N.length = 3 from by omega) with hk0 | hk0 | hk0 | hk0
      ·simp only [hk0, List.getElem_cons_zero] at hg; exact hat6 _ g (.inl rfl) hg
      ·simp only [hk0, List.getElem_cons_succ, List.getElem_cons_zero] at hg; exact hat6 _ g (.inr (.inl rfl)) hg
      ·simp only [hk0, List.getElem_cons_succ, List.getElem_cons_zero] at hg; exact hat6 _ g (.inr (.inr (.inl rfl))) hg
      ·simp only [hk0, List.getElem_cons_succ, List.getElem_cons_zero] at hg; exact hat6 _ g (.inr (.inr (.inr rfl))) hg
     omega)
   have hfin : WTo w wb H d w6 := ⟨_, hW6, Nat.le_refl _, by show d.ps.length ≤ _; omega, by show (d.N ++ [_, _, _, _]).length ≤ _; simp, by show V'.length ≤ _; omega, by show d.P.length ≤ _; omega, kk.mono (fun k _ ho => by
    rcases ho with ho | ho | ho
    ·exact .inl ho
    ·exact .inr (World.ownsRow.lt hW.nets.own k ho).1
    ·exact .inr (World.ownsRow.lt hW.votes.own k ho).1)⟩
   clear m0 m1 m2 m3 ho6 hb6 k6 kk hW6 hV6 hat6
   go_wp2_with fail
   go_ret
   exact ⟨rfl, hfin⟩
end
section
open Go.RowKit
theorem rnew_no (n : Int) (w : World) (h1 : n ≠ 1) (h3 : n ≠ 3) (h5 : n ≠ 5) (h7 : n ≠ 7) : Calls Tryz.prog 17 #[I6 n] w fun e w' => e = .returned (.tuple #[.pointer none, I6 1]) ∧ w' = w := by
 have m1 : (n != 1) = true := by simpa using h1
 have m3 : (n != 3) = true := by simpa using h3
 have m5 : (n != 5) = true := by simpa using h5
 have m7 : (n != 7) = true := by simpa using h7
 go_enter Tryz.func17, Tryz.ntmps17
 go_wp2_with fail
 go_ret2
 exact ⟨rfl, rfl⟩
end
section
open Go.RowKit
theorem Tryz.infoReplica : ((Tryz.prog.info? 114).map (fun i => (i.zero, i.size))) = some (some (.agg noRr.cells.toArray), 396) ∧ ((Tryz.prog.info? 114).map (fun i => decide (i.bytes ≤ 10000))) = some true := by constructor <;> kernel_rfl
theorem noSl_ok : noSl.ok := rfl
theorem noRr_ok : noRr.ok := ⟨rfl, by decide, fun y hy => by rw [List.eq_of_mem_replicate hy]; exact noSl_ok⟩
theorem made_rcs (n : Nat) : (madeCells noRr.cells.toArray (n * 396)).toList = rcs (List.replicate n noRr) := by
 have hlen : noRr.cells.length = 396 := Rr.cells_len noRr_ok
 have hmem : ∀ r ∈ List.replicate n noRr, r.cells.length = 396 := fun r hr => by rw [List.eq_of_mem_replicate hr]; exact hlen
 have hL : (rcs (List.replicate n noRr)).length = n * 396 := by
  have := flatC_len' Rr.cells 396 (List.replicate n noRr) hmem
  rwa [List.length_replicate] at this
 apply List.ext_getElem?
 intro j
 by_cases hj : j < n * 396
 ·have hd : j = j / 396 * 396 + j % 396 := by omega
  have hq : j / 396 < n := by omega
  have ho : j % 396 < 396 := by omega
  have h1 : (rcs (List.replicate n noRr))[j]? = noRr.cells[j % 396]? := by
   have := flatC_get Rr.cells 396 noRr (List.replicate n noRr) hmem (j / 396) (j % 396) (by rw [List.length_replicate]; exact hq) ho
   rw [← hd] at this
   rw [show (rcs (List.replicate n noRr)) = flatC Rr.cells (List.replicate n noRr) from rfl, this]
   rw [List.getD_eq_getElem?_getD, List.getElem?_replicate, if_pos hq]
   rfl
  rw [h1]
  unfold madeCells
  rw [Array.toList_map, List.getElem?_map, Array.toList_range, List.getElem?_range hj]
  simp only [Option.map_some, List.size_toArray, hlen]
  rw [List.getElem?_eq_getElem (by omega)]
  simp [List.getElem!_toArray, getElem!_pos, hlen, ho]
 ·rw [List.getElem?_eq_none (by rw [Array.length_toList, size_madeCells]; omega), List.getElem?_eq_none (by omega)]
set_option maxHeartbeats 2000000 in
theorem rnew_yes (n : Nat) (hn : n = 1 ∨ n = 3 ∨ n = 5 ∨ n = 7) (w : World) :
  Calls Tryz.prog 17 #[I6 (n : Int)] w fun e w' => ∃ qb Rb, e = .returned (.tuple #[P6 qb, I6 0]) ∧ QAt w' qb Rb (.slice none 0 0) (newRs n) ∧ w.heap.size ≤ qb ∧ w.heap.size ≤ Rb ∧ Below w.heap.size w w' := by
 obtain ⟨i0, hi0, hzz⟩ := Option.map_eq_some_iff.1 Tryz.infoReplica.1
 have hby := Tryz.infoReplica.2
 rw [hi0] at hby
 simp only [Option.map_some, Option.some.injEq, decide_eq_true_eq] at hby
 simp only [Prod.mk.injEq] at hzz
 obtain ⟨hz0, hz1⟩ := hzz
 have hb2 : i0.bytes * n ≤ 281474976710656 := by
  have : i0.bytes * n ≤ 10000 * 7 := Nat.mul_le_mul hby (by omega)
  omega
 have hb3 : n ≤ maxLen := by unfold maxLen; omega
 have m1 : ((n : Int) != 1 && ((n : Int) != 3 && ((n : Int) != 5 && (n : Int) != 7))) = false := by
  rcases hn with rfl | rfl | rfl | rfl <;> rfl
 have Hn : Hid (n = 1 ∨ n = 3 ∨ n = 5 ∨ n = 7) := hn
 go_enter Tryz.func17, Tryz.ntmps17
 have hfin : ∀ w1, w1.ownsRow w.heap.size 114 396 (.slice (some (A6 w.heap.size 0)) n n) n (madeCells noRr.cells.toArray (n * 396)).toList → w.grownBy w1 none → ∀ w2, w2 = w1.alloc (.cells #[.slice (some (A6 w.heap.size 0)) n n, .slice none 0 0] 74) →
   QAt w2 w1.heap.size w.heap.size (.slice none 0 0) (newRs n) ∧ w.heap.size ≤ w1.heap.size ∧ Below w.heap.size w w2 := by
  intro w1 hown hgr w2 hw2
  subst hw2
  have hB1 : Below w.heap.size w w1 := ⟨hgr.os, hgr.tape, hgr.output, hgr.size, fun k hk => hgr.block k hk (by simp)⟩
  have hRB : w1.heap[w.heap.size]? = some (.cells (rcs (List.replicate n noRr)).toArray 114 (0, 0)) := by
   rcases hown.2 with ⟨h1, _⟩ | ⟨g, cap, cur, h1, hbg, hg, hnc, hcm, hcs, htake⟩
   ·cases h1
   ·cases h1
    rw [hg]
    have e1 : cur.toList = rcs (List.replicate n noRr) := by
     rw [← made_rcs, ← htake, List.take_of_length_le (by rw [Array.length_toList, hcs]; omega)]
    rw [← e1]
  have hlen : (newRs n).R.length = n := by unfold newRs; simp
  refine ⟨⟨?_, ⟨blk_alloc hRB _, fun r hr => by rw [List.eq_of_mem_replicate hr]; exact noRr_ok⟩, ⟨[], rfl, World.ownsRow_nil _ _ _ _, fun y hy => by cases hy⟩, ?_, ?_, by show ([] : List Ms).length ≤ 200; decide⟩, hB1.size, hB1.trans ((Below.refl _ w1).alloc (Nat.le_refl _) _ |>.mono hB1.size)⟩
  ·rw [hlen]; exact blk_new w1 _
  ·rw [hlen]; rcases Hn.out with h | h | h | h <;> omega
  ·rw [hlen]; rcases Hn.out with h | h | h | h <;> omega
 rcases hn with rfl | rfl | rfl | rfl
 all_goals
  go_wp2_with (at_make; refine wpList_make_full _ rfl _ _ 72 rfl w.heap.size 114 i0 _ 396 Tryz.underlying72 hi0 hz0 hz1 _ _ _ _ _ rfl rfl rfl rfl hb2 hb3 (Nat.le_refl _) ?_; intro w1 hown hgr)
  go_ret2
  obtain ⟨h1, h2, h3⟩ := hfin w1 hown hgr _ rfl
  first | exact ⟨_, _, rfl, h1, h2, Nat.le_refl _, h3⟩ | exact ⟨_, rfl, _, h1, h2, Nat.le_refl _, h3⟩
end
end Go.Proofs.YtnnhnekfokbooaaGreatDoor
