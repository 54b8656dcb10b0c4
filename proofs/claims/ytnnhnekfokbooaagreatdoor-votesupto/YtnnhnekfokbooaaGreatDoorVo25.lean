/- The walk of the document's Double. -/
import Derived.Test.YtnnhnekfokbooaaGreatDoorVo24
namespace Go.Proofs.YtnnhnekfokbooaaGreatDoor
open Go.RowKit
set_option linter.unusedSimpArgs false
set_option linter.unusedVariables false

section
variable {w : World} {qb Rb : Nat} {v : Value} {x : Qs}
set_option maxHeartbeats 4000000 in
set_option maxRecDepth 100000 in
theorem rdouble_yes (h : QAt w qb Rb v x) {k : Nat} (hk : k < x.net.length) (hr : x.net.length < 200) : Calls Tryz.prog 44 #[.pointer (some ⟨qb, 0, none⟩), .int .i64 (k : Int)] w fun e w' => e = .returned (.int .i64 0) ∧ QTo w qb Rb v w' (x.double k) := by
 obtain ⟨i0, hi, hz0, hz1, hz2⟩ := info_parts Tryz.infoMessage
 obtain ⟨l, h1, h2, h3⟩ := h.net
 have hll : l.length = x.net.length := by rw [← h1, List.length_map]
 have hTh := rthere_yes h hk
 rcases h2.2 with ⟨_, h0⟩ | ⟨g, cap, cur, hve, hbg, hg, hnc, hcm, hcs, htake⟩
 ·omega
 have hkl : k < l.length := by omega
 have hrow : ∀ j, j < 10 → w.cell? ⟨g, k * 10 + j, none⟩ = l[k].cells[j]? := fun j hj => by
  rw [blk_cell hg, ← Array.getElem?_toList]
  have e2 : cur.toList[k * 10 + j]? = (cur.toList.take (l.length * 10))[k * 10 + j]? := by rw [List.getElem?_take, if_pos (by omega)]
  rw [e2, htake]; exact ncs_at l k hkl j hj
 have hmem : l[k] ∈ l := List.getElem_mem hkl
 have hxk := h3 l[k] hmem
 have hxm : l[k].m = x.net.getD k noMs := by
  have : x.net[k]? = some l[k].m := by rw [← h1, List.getElem?_map, List.getElem?_eq_getElem hkl]; rfl
  rw [List.getD_eq_getElem?_getD, this]; rfl
 have h1c := Nm.one hxk.1
 generalize l[k] = y at *
 have HX : Hid (x.double k = x.send y.m) := by show _ = _; unfold Qs.double; rw [← hxm]
 have Hsend : Hid (∀ W v', W.heap[qb]? = some (.cells #[.slice (some ⟨Rb, 0, none⟩) x.R.length x.R.length, v'] 74 (0, 0)) → W.ownsRow 0 36 10 v' (l.length + 1) (ncs (l ++ [y])) → (∀ b, v'.ownBlock = some b → v.ownBlock = some b ∨ w.heap.size ≤ b) → Keeps (fun b => b = qb ∨ v.ownBlock = some b) w W → QTo w qb Rb v W (x.send y.m)) := fun W v' g1 g2 g4 g5 => by
  have hRn : ¬ (Rb = qb ∨ v.ownBlock = some Rb) := fun ho => by
   rcases ho with e | e
   ·exact h.ne e.symm
   ·exact h.vR e
  have hV : ∀ k cs, w.heap[k]? = some (.cells cs 53 (0, 0)) → ¬ (k = qb ∨ v.ownBlock = some k) := fun k cs hc ho => h.vote hc (by rcases ho with e | e; exact .inl e; exact .inr (.inr e))
  have e1 : (x.send y.m).net = x.net ++ [y.m] := by unfold Qs.send; simp only; rw [if_pos hr]
  refine ⟨v', ⟨g1, h.reps.keeps g5 hRn, ⟨l ++ [y], by rw [e1, List.map_append, h1]; rfl, by rw [List.length_append]; exact g2, fun z hz => ?_⟩, h.n0, h.n1, by rw [e1, List.length_append]; simp; omega⟩, fun k hk => ?_, g5.mono (fun k _ hk => ?_)⟩
  ·rcases List.mem_append.1 hz with hz | hz
   ·exact (h3 z hz).keeps g5 hV
   ·rw [List.mem_singleton.1 hz]; exact hxk.keeps g5 hV
  ·rcases hk with hk | hk | hk
   ·exact .inl (.inl hk)
   ·exact .inl (.inr (.inl hk))
   ·rcases g4 k hk with h9 | h9
    ·exact .inl (.inr (.inr h9))
    ·exact .inr h9
  ·rcases hk with hk | hk
   ·exact .inl hk
   ·exact .inr (.inr hk)
 have hne := h.vq
 have hb := h.syn
 subst hve
 obtain ⟨⟨mk, mf, mt, mb, ms, ⟨mc, mq, mh, mx⟩, ma⟩, xv⟩ := y
 obtain ⟨xa, xc, hxe, _⟩ := hxk.1.1.form
 simp only at hxe
 subst hxe
 have c0 : w.cell? ⟨g, k * 10, none⟩ = some (.int .i64 mk) := hrow 0 (by decide)
 have c1 : w.cell? ⟨g, k * 10 + 1, none⟩ = some (.int .i64 mf) := hrow 1 (by decide)
 have c2 : w.cell? ⟨g, k * 10 + 2, none⟩ = some (.int .i64 mt) := hrow 2 (by decide)
 have c3 : w.cell? ⟨g, k * 10 + 3, none⟩ = some (.int .i64 mb) := hrow 3 (by decide)
 have c4 : w.cell? ⟨g, k * 10 + 4, none⟩ = some (.int .i64 ms) := hrow 4 (by decide)
 have c5 : w.cell? ⟨g, k * 10 + 5, none⟩ = some (.int .i64 mc) := hrow 5 (by decide)
 have c6 : w.cell? ⟨g, k * 10 + 6, none⟩ = some (.int .i64 mq) := hrow 6 (by decide)
 have c7 : w.cell? ⟨g, k * 10 + 7, none⟩ = some (.int .i64 mh) := hrow 7 (by decide)
 have c8 : w.cell? ⟨g, k * 10 + 8, none⟩ = some (.string mx) := hrow 8 (by decide)
 have c9 : w.cell? ⟨g, k * 10 + 9, none⟩ = some (.slice xa ma.length xc) := hrow 9 (by decide)
 simp only [Nm.cells] at h1c
 have hblt := lt_of_block hb
 have d1 : w.cell? ⟨qb, 1, none⟩ = some (.slice (some ⟨g, 0, none⟩) l.length cap) := (blk_cell hb 1).trans rfl
 have hd : decide ((200 : Int) ≤ (l.length : Int)) = false := by simp; omega
 have hd2 : ¬ (200 : Int) ≤ (l.length : Int) := by omega
 have q0 : (0 : Int) ≤ (k : Int) := by omega
 have q1 : (k : Int) < (l.length : Int) := by omega
 have hbb : l.length + 1 ≤ maxLen ∧ (l.length + 1) * 104 ≤ 140737488355328 := ⟨by unfold maxLen; omega, by omega⟩
 have Hll : Hid (l.length = x.net.length) := hll
 clear hll hrow hk hr
 go_enter Tryz.func44, Tryz.ntmps44
 go_wp2_with fail
 refine hTh.mono ?_
 rintro e w' ⟨rfl, hw'⟩
 have hw9 := hw'.symm
 subst hw9
 clear hTh hw'
 go_wp2_with fail
 go_region_law (refine step_append_lies _ rfl (.tmp 21) (.tmp 29) 50 rfl 0 36 i0 _ 10 104 Tryz.underlying50 hi hz0 hz1 hz2 rfl (by decide) (.slice (some ⟨g, 0, none⟩) l.length cap) l.length (ncs l) rfl (owns_alloc (owns_drew h2) _) _ 1 1 [.int .i64 mk, .int .i64 mf, .int .i64 mt, .int .i64 mb, .int .i64 ms, .int .i64 mc, .int .i64 mq, .int .i64 mh, .string mx, .slice xa ma.length xc] rfl rfl (news_new _ _ (by simp) _ _) h1c (by decide) hbb.1 hbb.2 (Nat.zero_le _) _ rfl ?_; intro g9 cap9 w2 hown2 hgr2 hat2 hlt2; have hb2 := blk_grown hgr2 (blk_alloc (blk_drew hb) _) hne; have hc2 : w2.cell? ⟨qb, 1, none⟩ = some (.slice (some ⟨g, 0, none⟩) l.length cap) := (blk_cell hb2 1).trans rfl; have hf2 := blk_free hb2 1)
 all_goals
  go_wp2_with fail
  go_ret
  have hgb : (Value.slice (some ⟨g9, 0, none⟩) (l.length + 1) cap9).ownBlock ≠ some qb := by
   intro e
   obtain rfl : g9 = qb := by simpa [Value.ownBlock] using e
   rcases hat2 with h | h
   ·exact hne h
   ·simp at h; omega
  refine ⟨rfl, ?_⟩
  rw [HX.out]
  refine Hsend.out _ (.slice (some ⟨g9, 0, none⟩) (l.length + 1) cap9) ((blk_set hb2 1 _).trans rfl) (owns_set ?_ hgb _) ?_ ?_
  ·rw [ncs_append]; simpa [ncs, Nm.cells] using hown2
  ·intro g' hg'
   obtain rfl : g9 = g' := by simpa [Value.ownBlock] using hg'
   rcases hat2 with h | h
   ·exact .inl h
   ·right; simp at h; omega
  ·have K1 := (Keeps.ofGrown hgr2).mono (Q := fun k => k = qb ∨ (Value.slice (some ⟨g, 0, none⟩) l.length cap).ownBlock = some k) (fun k _ h => Or.inr h)
   refine Keeps.trans (Keeps.ofBelow ?_) (Keeps.trans K1 (Keeps.ofSet (Or.inl (Or.inl rfl)) _))
   exact ((Below.refl _ w).drew).alloc (by simp) _
theorem rdouble_full (h : QAt w qb Rb v x) {k : Nat} (hk : k < x.net.length) (hr : 200 ≤ x.net.length) : Calls Tryz.prog 44 #[.pointer (some ⟨qb, 0, none⟩), .int .i64 (k : Int)] w fun e w' => e = .returned (.int .i64 6) ∧ w' = w := by
 have hTh := rthere_yes h hk
 obtain ⟨a, c, _, d1⟩ := h.c1
 have hd : decide ((200 : Int) ≤ (x.net.length : Int)) = true := by simp; omega
 have hd2 : (200 : Int) ≤ (x.net.length : Int) := by omega
 go_enter Tryz.func44, Tryz.ntmps44
 go_wp2_with fail
 refine hTh.mono ?_
 rintro e w' ⟨rfl, hw'⟩
 have hw9 := hw'.symm
 subst hw9
 clear hTh hw'
 go_wp2_with fail
 go_ret
 exact ⟨rfl, rfl⟩
end
end Go.Proofs.YtnnhnekfokbooaaGreatDoor
