/- RnJ, RnK -/
import Derived.Test.YtnnhnekfokbooaaGreatDoorAl17
set_option linter.unusedSimpArgs false
set_option linter.unusedVariables false
set_option maxRecDepth 100000
namespace Go.Proofs.YtnnhnekfokbooaaGreatDoor
section
open Go.RowKit
section
variable {w : World} {qb Rb : Nat} {v : Value} {x : Qs}
set_option maxHeartbeats 4000000 in
theorem rdouble_yes (h : QAt w qb Rb v x) {k : Nat} (hk : k < x.net.length) (hr : x.net.length < 200) : Calls Tryz.prog 44 #[P6 qb, I6 (k : Int)] w fun e w' => e = .returned (I6 0) ∧ QTo w qb Rb v w' (x.double k) := by
 obtain ⟨i0, hi, hz0, hz1, hz2⟩ := info_parts Tryz.infoMessage
 obtain ⟨l, h1, h2, h3⟩ := h.net
 have hll : l.length = x.net.length := by rw [← h1, List.length_map]
 have hTh := rthere_yes h hk
 rcases h2.2 with ⟨_, h0⟩ | ⟨g, cap, cur, hve, hbg, hg, hnc, hcm, hcs, htake⟩
 ·omega
 have hkl : k < l.length := by omega
 have hrow : ∀ j, j < 10 → w.cell? (A6 g (k * 10 + j)) = l[k].cells[j]? := fun j hj => by
  rw [blk_cell hg, ← Array.getElem?_toList]
  have e2 : cur.toList[k * 10 + j]? = (cur.toList.take (l.length * 10))[k * 10 + j]? := by rw [List.getElem?_take, if_pos (by omega)]
  rw [e2, htake]; exact ncs_at l k hkl j hj
 have hmem : l[k] ∈ l := List.getElem_mem hkl
 have hxk := h3 l[k] hmem
 have hxm : l[k].m = x.net.getD k noMs := by
  have : x.net[k]? = some l[k].m := by rw [← h1, List.getElem?_map, List.getElem?_eq_getElem hkl]; rfl
  rw [List.getD_eq_getElem?_getD, this]; rfl
 have h1c := Nm.one hxk.1
 generalize l[k] = y at *
 have HX : Hid (x.double k = x.send y.m) := by show _ = _; unfold Qs.double; rw [← hxm]
 have Hsend : Hid (∀ W v', W.heap[qb]? = some (.cells #[.slice (some (A6 Rb 0)) x.R.length x.R.length, v'] 74 (0, 0)) → W.ownsRow 0 36 10 v' (l.length + 1) (ncs (l ++ [y])) → (∀ b, v'.ownBlock = some b → v.ownBlock = some b ∨ w.heap.size ≤ b) → Keeps (fun b => b = qb ∨ v.ownBlock = some b) w W → QTo w qb Rb v W (x.send y.m)) := fun W v' g1 g2 g4 g5 => by
  have hRn : ¬ (Rb = qb ∨ v.ownBlock = some Rb) := fun ho => by
   rcases ho with e | e
   ·exact h.ne e.symm
   ·exact h.vR e
  have hV : ∀ k cs, w.heap[k]? = some (.cells cs 53 (0, 0)) → ¬ (k = qb ∨ v.ownBlock = some k) := fun k cs hc ho => h.vote hc (by rcases ho with e | e; exact .inl e; exact .inr (.inr e))
  have e1 : (x.send y.m).net = x.net ++ [y.m] := by unfold Qs.send; simp only; rw [if_pos hr]
  refine ⟨v', ⟨g1, h.reps.keeps g5 hRn, ⟨l ++ [y], by rw [e1, List.map_append, h1]; rfl, by rw [List.length_append]; exact g2, fun z hz => ?_⟩, h.n0, h.n1, by rw [e1, List.length_append]; simp; omega⟩, fun k hk => ?_, g5.mono (fun k _ hk => ?_)⟩
  ·rcases List.mem_append.1 hz with hz | hz
   ·exact (h3 z hz).keeps g5 hV
   ·rw [List.mem_singleton.1 hz]; exact hxk.keeps g5 hV
  ·rcases hk with hk | hk | hk
   ·exact .inl (.inl hk)
   ·exact .inl (.inr (.inl hk))
   ·rcases g4 k hk with h9 | h9
    ·exact .inl (.inr (.inr h9))
    ·exact .inr h9
  ·rcases hk with hk | hk
   ·exact .inl hk
   ·exact .inr (.inr hk)
 have hne := h.vq
 have hb := h.syn
 subst hve
 obtain ⟨⟨mk, mf, mt, mb, ms, ⟨mc, mq, mh, mx⟩, ma⟩, xv⟩ := y
 obtain ⟨xa, xc, hxe, _⟩ := hxk.1.1.form
 simp only at hxe
 subst hxe
 have c0 : w.cell? (A6 g (k * 10)) = some (I6 mk) := hrow 0 (by decide)
 have c1 : w.cell? (A6 g (k * 10 + 1)) = some (I6 mf) := hrow 1 (by decide)
 have c2 : w.cell? (A6 g (k * 10 + 2)) = some (I6 mt) := hrow 2 (by decide)
 have c3 : w.cell? (A6 g (k * 10 + 3)) = some (I6 mb) := hrow 3 (by decide)
 have c4 : w.cell? (A6 g (k * 10 + 4)) = some (I6 ms) := hrow 4 (by decide)
 have c5 : w.cell? (A6 g (k * 10 + 5)) = some (I6 mc) := hrow 5 (by decide)
 have c6 : w.cell? (A6 g (k * 10 + 6)) = some (I6 mq) := hrow 6 (by decide)
 have c7 : w.cell? (A6 g (k * 10 + 7)) = some (I6 mh) := hrow 7 (by decide)
 have c8 : w.cell? (A6 g (k * 10 + 8)) = some (.string mx) := hrow 8 (by decide)
 have c9 : w.cell? (A6 g (k * 10 + 9)) = some (.slice xa ma.length xc) := hrow 9 (by decide)
 simp only [Nm.cells] at h1c
 have hblt := lt_of_block hb
 have d1 : w.cell? (A6 qb 1) = some (.slice (some (A6 g 0)) l.length cap) := (blk_cell hb 1).trans rfl
 have hd : decide ((200 : Int) ≤ (l.length : Int)) = false := by simp; omega
 have hd2 : ¬ (200 : Int) ≤ (l.length : Int) := by omega
 have q0 : (0 : Int) ≤ (k : Int) := by omega
 have q1 : (k : Int) < (l.length : Int) := by omega
 have hbb : l.length + 1 ≤ maxLen ∧ (l.length + 1) * 104 ≤ 140737488355328 := ⟨by unfold maxLen; omega, by omega⟩
 have Hll : Hid (l.length = x.net.length) := hll
 clear hll hrow hk hr
 go_enter Tryz.func44, Tryz.ntmps44
 go_wp2_with fail
 refine hTh.mono ?_
 rintro e w' ⟨rfl, hw'⟩
 have hw9 := hw'.symm
 subst hw9
 clear hTh hw'
 go_wp2_with fail
 go_region_law (refine step_append_lies _ rfl (.tmp 21) (.tmp 29) 50 rfl 0 36 i0 _ 10 104 Tryz.underlying50 hi hz0 hz1 hz2 rfl (by decide) (.slice (some (A6 g 0)) l.length cap) l.length (ncs l) rfl (owns_alloc (owns_drew h2) _) _ 1 1 [I6 mk, I6 mf, I6 mt, I6 mb, I6 ms, I6 mc, I6 mq, I6 mh, .string mx, .slice xa ma.length xc] rfl rfl (news_new _ _ (by simp) _ _) h1c (by decide) hbb.1 hbb.2 (Nat.zero_le _) _ rfl ?_; intro g9 cap9 w2 hown2 hgr2 hat2 hlt2; have hb2 := blk_grown hgr2 (blk_alloc (blk_drew hb) _) hne; have hc2 : w2.cell? (A6 qb 1) = some (.slice (some (A6 g 0)) l.length cap) := (blk_cell hb2 1).trans rfl; have hf2 := blk_free hb2 1)
 all_goals
  go_wp2_with fail
  go_ret
  have hgb : (Value.slice (some (A6 g9 0)) (l.length + 1) cap9).ownBlock ≠ some qb := by
   intro e
   obtain rfl : g9 = qb := by simpa [Value.ownBlock] using e
   rcases hat2 with h | h
   ·exact hne h
   ·simp at h; omega
  refine ⟨rfl, ?_⟩
  rw [HX.out]
  refine Hsend.out _ (.slice (some (A6 g9 0)) (l.length + 1) cap9) ((blk_set hb2 1 _).trans rfl) (owns_set ?_ hgb _) ?_ ?_
  ·rw [ncs_append]; simpa [ncs, Nm.cells] using hown2
  ·intro g' hg'
   obtain rfl : g9 = g' := by simpa [Value.ownBlock] using hg'
   rcases hat2 with h | h
   ·exact .inl h
   ·right; simp at h; omega
  ·have K1 := (Keeps.ofGrown hgr2).mono (Q := fun k => k = qb ∨ (Value.slice (some (A6 g 0)) l.length cap).ownBlock = some k) (fun k _ h => Or.inr h)
   refine Keeps.trans (Keeps.ofBelow ?_) (Keeps.trans K1 (Keeps.ofSet (Or.inl (Or.inl rfl)) _))
   exact ((Below.refl _ w).drew).alloc (by simp) _
theorem rdouble_full (h : QAt w qb Rb v x) {k : Nat} (hk : k < x.net.length) (hr : 200 ≤ x.net.length) : Calls Tryz.prog 44 #[P6 qb, I6 (k : Int)] w fun e w' => e = .returned (I6 6) ∧ w' = w := by
 have hTh := rthere_yes h hk
 obtain ⟨a, c, _, d1⟩ := h.c1
 have hd : decide ((200 : Int) ≤ (x.net.length : Int)) = true := by simp; omega
 have hd2 : (200 : Int) ≤ (x.net.length : Int) := by omega
 go_enter Tryz.func44, Tryz.ntmps44
 go_wp2_with fail
 refine hTh.mono ?_
 rintro e w' ⟨rfl, hw'⟩
 have hw9 := hw'.symm
 subst hw9
 clear hTh hw'
 go_wp2_with fail
 go_ret
 exact ⟨rfl, rfl⟩
end
end
section
open Go.RowKit
def logR (r : Rr) : List Pst := (r.sl.takeWhile (·.is)).map (·.fin)
theorem logR_eq {r : Rr} (hl : r.sl.length = 16) {q : Nat} (hq : q ≤ 16) (h1 : ∀ j, j < q → (r.at j).is = true) (h2 : q = 16 ∨ (r.at q).is = false) : logR r = (r.sl.take q).map (·.fin) := by
 unfold logR
 congr 1
 have gen : ∀ (l : List Sl) (q : Nat), (∀ j, j < q → (l.getD j noSl).is = true) → (l.length ≤ q ∨ (l.getD q noSl).is = false) → l.takeWhile (·.is) = l.take q := by
  intro l
  induction l with
  | nil => intro q _ _; simp
  | cons y l ih =>
   intro q h1 h2
   cases q with
   | zero =>
    have hy : y.is = false := by
     rcases h2 with h2 | h2
     ·simp at h2
     ·simpa using h2
    simp [hy]
   | succ q =>
    have hy : y.is = true := by simpa using h1 0 (by omega)
    rw [List.takeWhile_cons, if_pos hy, List.take_succ_cons, ih q (fun j hj => by simpa using h1 (j + 1) (by omega)) (by rcases h2 with h2 | h2; exact .inl (by simpa using h2); exact .inr (by simpa using h2))]
 exact gen r.sl q h1 (by rcases h2 with h2 | h2; exact .inl (by omega); exact .inr h2)
theorem fin_snoc {r : Rr} (hl : r.sl.length = 16) {q : Nat} (hq : q < 16) : (r.sl.take (q + 1)).map (·.fin) = (r.sl.take q).map (·.fin) ++ [(r.at q).fin] := by
 rw [List.take_add_one, List.getElem?_eq_getElem (by omega), List.map_append]
 unfold Rr.at
 rw [List.getD_eq_getElem?_getD, List.getElem?_eq_getElem (by omega)]
 rfl
section
variable {w : World} {qb Rb : Nat} {v : Value} {x : Qs}
set_option maxHeartbeats 4000000 in
theorem rlog_yes (h : QAt w qb Rb v x) {i : Nat} (hi : i < x.R.length) : Calls Tryz.prog 28 #[P6 qb, I6 (i : Int)] w fun e w' => ∃ v', e = .returned (.tuple #[v', I6 0]) ∧ w'.ownsRow w.heap.size 33 4 v' (logR (x.rep i)).length (pcells (logR (x.rep i))) ∧ Below w.heap.size w w' := by
 obtain ⟨i0, hi0, hz0, hz1, hz2⟩ := info_parts Tryz.infoPost
 have hIs := ris_yes h hi
 have hq := h.reps.here hi
 have hR : x.rep i = x.R.getD i noRr := rfl
 generalize hr : x.R.getD i noRr = r at *
 have HR : Hid (x.rep i = r) := hR
 clear hr hR
 have hrk := hq.rok hi
 have hlen := hrk.len
 have q0 : (0 : Int) ≤ (i : Int) := by omega
 have q1 : (i : Int) < (x.R.length : Int) := by omega
 go_enter Tryz.func28, Tryz.ntmps28
 go_wp2_with fail
 refine hIs.mono ?_
 rintro e w' ⟨rfl, hw'⟩
 have hw9 := hw'.symm
 subst hw9
 clear hIs hw'
 go_wp2_with fail
 go_loopw [7, 8] (fun ov kv wr => ∃ (q : Nat) (M : List Pst), q ≤ 16 ∧ kv = I6 q ∧ M = (r.sl.take q).map (·.fin) ∧ M.length = q ∧ (∀ j, j < q → (r.at j).is = true) ∧ wr.ownsRow w.heap.size 33 4 ov M.length (pcells M) ∧ Below w.heap.size w wr) (fun _ kv _ => 16 - (intOf kv).toNat)
 case atStart => exact ⟨0, [], by omega, rfl, rfl, rfl, fun j hj => by omega, World.ownsRow_nil _ _ _ _, Below.refl _ _⟩
 case round =>
  obtain ⟨q, M, hq16, rfl, hM, hMl, hall, hown, hB⟩ := hrel
  obtain ⟨va, vc, rfl, _⟩ := (owns_row hown).form
  have HM : Hid (M = (r.sl.take q).map (·.fin)) := hM
  have HA : Hid (∀ j, j < q → (r.at j).is = true) := hall
  have HL : Hid (M.length = q) := hMl
  have hM16 : M.length ≤ 16 := by omega
  clear hM hall hMl
  have hqr := hq.below hB
  have hR9 := h.below hB
  have d0 := hR9.c0
  by_cases hq16' : q < 16
  ·have p0 : (0 : Int) ≤ (q : Int) := by omega
   have p1 : (q : Int) < 16 := by omega
   have m1 : decide ((q : Int) < 16) = true := by simp; omega
   have c5 := hqr.sc hi hq16' (o := 5) (by decide) (v := .bool (r.at q).is) rfl
   cases hb : (r.at q).is
   ·rw [hb] at c5
    have HE : Hid (logR (x.rep i) = M) := by show _ = _; rw [HR.out, HM.out]; exact logR_eq hlen hq16 HA.out (.inr hb)
    clear hb
    go_wp2_with fail
    go_ret2
    refine ⟨_, rfl, ?_, hB⟩
    rw [HE.out]; exact hown
   ·rw [hb] at c5
    have f0 := hqr.sc hi hq16' (o := 6) (by decide) (v := I6 (r.at q).fin.c) rfl
    have f1 : wr.cell? (A6 Rb (i * 396 + 12 + q * 24 + 6 + 1)) = some (I6 (r.at q).fin.q) := hqr.sc hi hq16' (o := 7) (by decide) rfl
    have f2 : wr.cell? (A6 Rb (i * 396 + 12 + q * 24 + 6 + 2)) = some (I6 (r.at q).fin.h) := hqr.sc hi hq16' (o := 8) (by decide) rfl
    have f3 : wr.cell? (A6 Rb (i * 396 + 12 + q * 24 + 6 + 3)) = some (.string (r.at q).fin.t) := hqr.sc hi hq16' (o := 9) (by decide) rfl
    have HN : Hid ((r.sl.take (q + 1)).map (·.fin) = M ++ [(r.at q).fin]) := by show _ = _; rw [fin_snoc hlen hq16', HM.out]
    have HA2 : Hid (∀ j, j < q + 1 → (r.at j).is = true) := fun j hj => by
     by_cases e : j = q
     ·rw [e]; exact hb
     ·exact HA.out j (by omega)
    clear hb
    generalize (r.at q).fin = p at *
    obtain ⟨pc, pq, ph, pt⟩ := p
    have hbd : M.length + 1 ≤ maxLen ∧ (M.length + 1) * 40 ≤ 140737488355328 := ⟨by unfold maxLen; omega, by omega⟩
    have h1c : ∀ u ∈ [I6 pc, I6 pq, I6 ph, .string pt], u.oneCell' = true := by
     intro u hu; simp at hu; rcases hu with rfl | rfl | rfl | rfl <;> rfl
    have hz := hB.size
    go_wp2_with (at_builtin; refine wpList_append_lies _ rfl (.tmp 31) (.tmp 43) 54 rfl w.heap.size 33 i0 _ 4 40 Tryz.underlying54 hi0 hz0 hz1 hz2 rfl (by decide) (.slice va M.length vc) M.length (pcells M) rfl (owns_alloc hown _) _ 1 1 [I6 pc, I6 pq, I6 ph, .string pt] rfl rfl (news_new _ _ (by simp) _ _) h1c (by decide) hbd.1 hbd.2 (by simp; omega) _ rfl ?_; intro g2 cap2 w9 hown9 hgr hat hlt9)
    go_roundw
    case rel =>
     refine ⟨q + 1, M ++ [⟨pc, pq, ph, pt⟩], by omega, by go_num, HN.out.symm, by rw [List.length_append, HL.out]; rfl, HA2.out, ?_, ?_⟩
     ·rw [pcells_append, List.length_append]
      simpa [pcells, Pst.cells] using hown9
     ·refine (hB.alloc (by omega) _).trans ⟨hgr.os, hgr.tape, hgr.output, hgr.size, fun b hb => hgr.block b (by simp; omega) (fun e => by have := (World.ownsRow.lt hown b e.symm).1; omega)⟩
    case measure => simp [intOf]; omega
  ·have hqe : q = 16 := by omega
   have m1 : decide ((q : Int) < 16) = false := by simp; omega
   have m2 : ¬ (q : Int) < 16 := by omega
   have HE : Hid (logR (x.rep i) = M) := by show _ = _; rw [HR.out, HM.out]; exact logR_eq hlen hq16 HA.out (.inl hqe)
   clear hqe
   go_wp2_with fail
   go_ret2
   refine ⟨_, rfl, ?_, hB⟩
   rw [HE.out]; exact hown
theorem rlog_no (h : QAt w qb Rb v x) {i : Int} (hi : i < 0 ∨ (x.R.length : Int) ≤ i) : Calls Tryz.prog 28 #[P6 qb, I6 i] w fun e w' => e = .returned (.tuple #[.slice none 0 0, I6 1]) ∧ w' = w := by
 have hIs := ris_no h hi
 go_enter Tryz.func28, Tryz.ntmps28
 go_wp2_with fail
 refine hIs.mono ?_
 rintro e w' ⟨rfl, hw'⟩
 clear hIs
 go_wp2_with fail
 go_ret2
 exact ⟨rfl, rfl⟩
end
end
end Go.Proofs.YtnnhnekfokbooaaGreatDoor
