/- The walk of how a replica comes to lead (laid by mksyni.py). -/
import Derived.Test.YtnnhnekfokbooaaGreatDoorVo13
import Derived.Test.YtnnhnekfokbooaaGreatDoorVo01
namespace Go.Proofs.YtnnhnekfokbooaaGreatDoor
open List (getElem_toArray getElem_cons_zero getElem_cons_succ setIfInBounds_toArray set_cons_zero set_cons_succ)
open Go.RowKit
set_option linter.unusedSimpArgs false
set_option linter.unusedVariables false

/-- A new role. -/
theorem SynAt.newRole {w w1 : World} {sb : Nat} {L : Lay} {s : Sy} (h : SynAt w sb L s) {i : Nat} (hi : i < s.n) (hB : Below w.heap.size w w1) {rv : Value} {l : Rl} (hl : l.ok) (hrole : RoleIs w1 rv l) (hnew : ∀ k, roleBlk rv = some k → w.heap.size ≤ k) :
  SynRv (upd L.rv i rv) w sb L (w1.setCell ⟨L.rb i, 181, none⟩ rv) (s.put i ((s.rep i).role l)) := by
 have hok := h.ok.repOk hi
 have hb := h.rep i hi
 have hlt := lt_of_block hb
 have hk1 : Keeps (fun k => k = L.rb i) w1 (w1.setCell ⟨L.rb i, 181, none⟩ rv) := Keeps.ofSet (P := fun k => k = L.rb i) (a := ⟨L.rb i, 181, none⟩) (.inl rfl) _
 have hk : Keeps (fun k => k = L.rb i ∨ roleBlk (L.rv i) = some k) w (w1.setCell ⟨L.rb i, 181, none⟩ rv) := (Keeps.ofBelow hB).trans (hk1.mono (fun k _ e => .inl e))
 refine h.setRepR hi (r := (s.rep i).role l) ⟨hok.pr0, hok.pr1, hok.sn0, hok.sn1, hok.acc, hok.slot, hok.dec, hl⟩ hk ?_ (hrole.keeps hk1 (fun k hk e => by have := hnew k hk; omega)) (fun k hk => .inr (hnew k hk))
 rw [blk_set (blk_below hB hb), repCells_set181 _ _ _ _ _ _ l hok]

theorem propose_n (s : Sy) (i k : Nat) (p : Pst) : (s.propose i k p).n = s.n := by
 unfold Sy.propose
 split
 ·exact sendTo_n _ _ _ _
 ·rfl
theorem propose_rep {s : Sy} (h : s.ok) {i : Nat} (hi : i < s.n) {b : Int} {next : Nat} {ps : List Pp} (hrl : (s.rep i).rl = .lead b next ps) (k : Nat) (p : Pst) : (s.propose i k p).rep i = (s.rep i).role (.lead b next (ps.set k ⟨p, (ps.getD k noPp).t⟩)) := by
 unfold Sy.propose
 rw [hrl]
 simp only
 rw [rep_sendTo, Sy.rep_put (by rw [h.len]; exact hi)]
theorem leadTo_n (s : Sy) (i : Nat) (kept : List Vt) : ∀ k, (s.leadTo i kept k).n = s.n
 | 0 => rfl
 | k + 1 => by
  unfold Sy.leadTo
  split
  ·exact leadTo_n s i kept k
  ·rw [propose_n]; exact leadTo_n s i kept k
theorem leadTo_len (s : Sy) (i : Nat) (kept : List Vt) : ∀ k, (s.leadTo i kept k).reps.length = s.reps.length
 | 0 => rfl
 | k + 1 => by
  unfold Sy.leadTo
  split
  ·exact leadTo_len s i kept k
  ·unfold Sy.propose
   split
   ·rw [sendTo_reps]; simp only [Sy.put, List.length_set]; exact leadTo_len s i kept k
   ·exact leadTo_len s i kept k
theorem leadTo_rep {s : Sy} {i : Nat} (hi : i < s.reps.length) {b : Int} {next : Nat} {ps : List Pp} (hrl : (s.rep i).rl = .lead b next ps) (kept : List Vt) : ∀ k, ∃ ps', (s.leadTo i kept k).rep i = (s.rep i).role (.lead b next ps')
 | 0 => ⟨ps, by unfold Sy.leadTo; rw [← hrl]; rfl⟩
 | k + 1 => by
  obtain ⟨ps1, h1⟩ := leadTo_rep hi hrl kept k
  unfold Sy.leadTo
  split
  ·exact ⟨ps1, h1⟩
  ·refine ⟨ps1.set k ⟨(kept.getD k noVt).p, (ps1.getD k noPp).t⟩, ?_⟩
   unfold Sy.propose
   rw [h1]
   simp only [Rp.role]
   rw [rep_sendTo, Sy.rep_put (by rw [leadTo_len]; exact hi)]
theorem kept_at {w : World} {pb : Nat} {hd : List Value} {kept : List Vt} {t : TypeId} (hb : w.heap[pb]? = some (.cells (hd ++ vcells kept).toArray t (0, 0))) (hh : hd.length = 10) (k : Nat) (hk : k < kept.length) (j : Nat) (hj : j < 6) : w.cell? ⟨pb, 10 + k * 6 + j, none⟩ = (kept.getD k noVt).cells[j]? := by
 have e1 : 10 + k * 6 + j - 10 = k * 6 + j := by omega
 rw [blk_cell hb, List.getElem?_toArray, List.getElem?_append_right (by omega), hh, e1]
 have e2 := vcells_cut kept k hk
 rw [List.getD_eq_getElem?_getD, List.getElem?_eq_getElem hk, Option.getD_some, ← e2, List.getElem?_take, if_pos hj, List.getElem?_drop]

set_option maxHeartbeats 1000000 in
set_option maxRecDepth 100000 in
theorem lead_syn {w : World} {sb : Nat} {L : Lay} {s : Sy} (h : SynAt w sb L s) {i : Nat} (hi : i < s.n) {b : Int} {t : Tl} {kept : List Vt} (hrl : (s.rep i).rl = .prep b t kept) (b0 : 0 ≤ b) (b1 : b ≤ 8007) {pb : Nat} (hrv : L.rv i = .iface 152 (.pointer (some ⟨pb, 0, none⟩))) :
  Calls Tryz.prog 132 #[.pointer (some ⟨L.rb i, 0, none⟩), .pointer (some ⟨pb, 0, none⟩)] w fun e w' => e = .returned (.tuple #[]) ∧ SynTo w sb L w' (s.lead i b kept) := by
 have hAt := h
 have hro := (h.ok.repOk hi).rl
 have hrb := h.role i hi
 rw [hrl] at hro hrb
 obtain ⟨htok, hkl⟩ : t.ok ∧ kept.length = 16 := hro
 obtain ⟨pb', e, hpb⟩ := hrb
 rw [hrv] at e
 cases e
 have hplt := lt_of_block hpb
 have hhl : (prepHead b t).length = 10 := by simp [prepHead, Tl.cells, htok.1]
 have hb1 : w.cell? ⟨pb, 1, none⟩ = some (.int .i64 b) := (blk_cell hpb 1).trans rfl
 have hN := nextBehind_any (L.rb i) pb (s.rep i).dm (fun k => (kept.getD k noVt).b) w.drew (fun k hk => h.drew.dms hi k hk) (fun k hk => (kept_at (w := w.drew) hpb hhl k (by omega) 1 (by omega)).trans rfl)
 have hfin : Hid (s.lead i b kept = (s.put i ((s.rep i).role (.lead b (s.nextOf i kept) (List.replicate 16 noPp)))).leadTo i kept (s.nextOf i kept)) := rfl
 have hnx : nextB (s.rep i).dm (fun k => (kept.getD k noVt).b) 16 = s.nextOf i kept := rfl
 rw [hnx] at hN
 have hnle : s.nextOf i kept ≤ 16 := by
  have : ∀ k, nextB (s.rep i).dm (fun k => (kept.getD k noVt).b) k ≤ k := by
   intro k
   induction k with
   | zero => exact Nat.le_refl _
   | succ k ih => unfold nextB; split; omega; omega
  exact this 16
 clear hnx
 generalize hnn : s.nextOf i kept = nx at *
 have Hnn : Hid (s.nextOf i kept = nx) := hnn
 clear hnn
 go_enter Tryz.func132, Tryz.ntmps132
 go_wp2_with fail
 refine wp_region_held_drew (S := fun w' => w'.cell? ⟨pb, 1, none⟩ = some (.int .i64 b)) (by kernel_rfl) (hb1) (fun hS => ?_)
 refine tk 0 rfl hS (v := ?_) (fun w' hw => ?_) ?_
 rotate_left 1
 ·have c := hw; go_simp; all_goals with_reducible rfl
 try simp only [Act.put, getElem_toArray, getElem_cons_zero, getElem_cons_succ, setIfInBounds_toArray, set_cons_zero, set_cons_succ]
 refine tk 1 rfl hS (v := ?_) (fun w' hw => ?_) ?_
 rotate_left 1
 ·have c := hw; go_simp; all_goals with_reducible rfl
 try simp only [Act.put, getElem_toArray, getElem_cons_zero, getElem_cons_succ, setIfInBounds_toArray, set_cons_zero, set_cons_succ]
 refine tk 2 rfl hS (v := ?_) (fun w' hw => ?_) ?_
 rotate_left 1
 ·have c := hw; go_simp; all_goals with_reducible rfl
 try simp only [Act.put, getElem_toArray, getElem_cons_zero, getElem_cons_succ, setIfInBounds_toArray, set_cons_zero, set_cons_succ]
 refine tk 3 rfl hS (v := ?_) (fun w' hw => ?_) ?_
 rotate_left 1
 ·have c := hw; go_simp; all_goals with_reducible rfl
 try simp only [Act.put, getElem_toArray, getElem_cons_zero, getElem_cons_succ, setIfInBounds_toArray, set_cons_zero, set_cons_succ]
 refine tk 4 rfl hS (v := ?_) (fun w' hw => ?_) ?_
 rotate_left 1
 ·have c := hw; go_simp; all_goals with_reducible rfl
 try simp only [Act.put, getElem_toArray, getElem_cons_zero, getElem_cons_succ, setIfInBounds_toArray, set_cons_zero, set_cons_succ]
 refine tk 5 rfl hS (v := ?_) (fun w' hw => ?_) ?_
 rotate_left 1
 ·have c := hw; go_simp; all_goals with_reducible rfl
 try simp only [Act.put, getElem_toArray, getElem_cons_zero, getElem_cons_succ, setIfInBounds_toArray, set_cons_zero, set_cons_succ]
 refine tk 6 rfl hS (v := ?_) (fun w' hw => ?_) ?_
 rotate_left 1
 ·have c := hw; go_simp; all_goals with_reducible rfl
 try simp only [Act.put, getElem_toArray, getElem_cons_zero, getElem_cons_succ, setIfInBounds_toArray, set_cons_zero, set_cons_succ]
 refine tk 7 rfl hS (v := ?_) (fun w' hw => ?_) ?_
 rotate_left 1
 ·have c := hw; go_simp; all_goals with_reducible rfl
 try simp only [Act.put, getElem_toArray, getElem_cons_zero, getElem_cons_succ, setIfInBounds_toArray, set_cons_zero, set_cons_succ]
 refine wpAnyH_ready (rs := [8]) (by kernel_rfl) (by simp) ?_
 refine AllReadyH.cons rfl (fun K hK => ?_) AllReadyH.nil
 go_simp
 refine hN.mono ?_
 rintro e w2 ⟨rfl, hB2⟩
 have hB2' : Below w.heap.size w w2 := Below.trans (Below.drew (Below.refl _ w)) hB2
 have hb2 := (blk_cell (blk_below hB2' hpb) 1).trans (show _ = some (.int .i64 b) from rfl)
 clear hN
 go_wp2_with fail
 refine hK.out _ _ hb2 (fun hS => ?_)
 clear hK K
 try simp only [Act.put, getElem_toArray, getElem_cons_zero, getElem_cons_succ, setIfInBounds_toArray, set_cons_zero, set_cons_succ]
 refine wpAnyH_take (i := 9) (v := .agg (leadHead b nx ++ ppcells (List.replicate 16 noPp)).toArray) rfl (by kernel_rfl) (by kernel_rfl) (by kernel_rfl) (fun _ _ _ h => h) (Or.inl ⟨by kernel_rfl, fun w' hw => by go_simp; rfl⟩) hS ?_
 try simp only [Act.put, getElem_toArray, getElem_cons_zero, getElem_cons_succ, setIfInBounds_toArray, set_cons_zero, set_cons_succ]
 generalize hXX : (leadHead b nx ++ ppcells (List.replicate 16 noPp)).toArray = X at *
 have HXX : Hid (_ = X) := hXX
 clear hXX
 refine wpAnyH_ready (rs := [10]) (by kernel_rfl) (by simp) ?_
 refine AllReadyH.cons rfl (fun K hK => ?_) AllReadyH.nil
 go_simp
 refine hK.out _ _ (by show World.cell? (World.alloc w2 _) _ = _; rw [World.cell?_alloc_lt _ _ _ (Nat.lt_of_lt_of_le hplt hB2.size)]; exact hb2) (fun hS => ?_)
 clear hK K
 try simp only [Act.put, getElem_toArray, getElem_cons_zero, getElem_cons_succ, setIfInBounds_toArray, set_cons_zero, set_cons_succ]
 refine wpAnyH_ready (rs := [11]) (by kernel_rfl) (by simp) ?_
 refine AllReadyH.cons rfl (fun K hK => ?_) AllReadyH.nil
 go_simp
 refine hK.out _ _ (by show World.cell? (World.alloc w2 _) _ = _; rw [World.cell?_alloc_lt _ _ _ (Nat.lt_of_lt_of_le hplt hB2.size)]; exact hb2) (fun hS => ?_)
 clear hK K
 try simp only [Act.put, getElem_toArray, getElem_cons_zero, getElem_cons_succ, setIfInBounds_toArray, set_cons_zero, set_cons_succ]
 refine wpAnyH_done (by kernel_rfl) ?_ _
 have hB3 : Below w.heap.size w (w2.alloc (.cells X 166)) := Below.alloc hB2' hB2'.size _
 have hpb3 := blk_below hB3 hpb
 have hlb3 := blk_new w2 (.cells X 166)
 have hrb3 := blk_below hB3 (hAt.rep i hi)
 have hc3 := (blk_cell hrb3 181).trans (repCells_role _ _ _ _ _ (hAt.ok.repOk hi))
 have hf3 := blk_free hrb3 181
 have hrlt := lt_of_block (hAt.rep i hi)
 have hsz2 := hB2'.size
 have hto3 := hAt.newRole (w1 := w2.alloc (.cells X 166)) hi hB3 (rv := .iface 160 (.pointer (some ⟨w2.heap.size, 0, none⟩))) (l := .lead b nx (List.replicate 16 noPp)) ⟨hnle, by simp, fun x hx => by rw [List.eq_of_mem_replicate hx]; exact ⟨rfl, rfl⟩⟩ ⟨_, rfl, by rw [HXX.out]; exact hlb3⟩ (fun k hk => by obtain rfl : w2.heap.size = k := (by simpa [roleBlk] using hk); exact hsz2)
 have hkp : Keeps (fun k => k = L.rb i) (w2.alloc (.cells X 166)) ((w2.alloc (.cells X 166)).setCell ⟨L.rb i, 181, none⟩ (.iface 160 (.pointer (some ⟨w2.heap.size, 0, none⟩)))) := Keeps.ofSet (P := fun k => k = L.rb i) (a := ⟨L.rb i, 181, none⟩) (.inl rfl) _
 have hpb4 := blk_keeps hkp hpb3 (fun e => hAt.roleNe hi hi (by rw [hrv]; rw [e]; rfl))
 have hlb4 := blk_keeps hkp hlb3 (by omega)
 have hl4 : ((w2.alloc (.cells X 166)).setCell ⟨L.rb i, 181, none⟩ (.iface 160 (.pointer (some ⟨w2.heap.size, 0, none⟩)))).cell? ⟨w2.heap.size, 2, none⟩ = some (.int .i64 (nx : Int)) := (blk_cell hlb4 2).trans (by rw [← HXX.out]; rfl)
 go_wp2_with fail
 generalize (w2.alloc (.cells X 166)).setCell ⟨L.rb i, 181, none⟩ (.iface 160 (.pointer (some ⟨w2.heap.size, 0, none⟩))) = w4 at *
 generalize w2.heap.size = lb at *
 have hrep1 := Sy.rep_put (s := s) (i := i) (r := (s.rep i).role (.lead b nx (List.replicate 16 noPp))) (by rw [hAt.ok.len]; exact hi)
 have hlen1 : i < (s.put i ((s.rep i).role (.lead b nx (List.replicate 16 noPp)))).reps.length := by simp only [Sy.put, List.length_set]; rw [hAt.ok.len]; exact hi
 have hn1 : (s.put i ((s.rep i).role (.lead b nx (List.replicate 16 noPp)))).n = s.n := rfl
 generalize hs1 : s.put i ((s.rep i).role (.lead b nx (List.replicate 16 noPp))) = s1 at *
 have hrl1 : (s1.rep i).rl = .lead b nx (List.replicate 16 noPp) := by rw [hrep1]; rfl
 have hdm1 : (s1.rep i).dec = (s.rep i).dec := by rw [hrep1]; rfl
 clear hs1 hS hl4 hlb4 hkp hf3 hc3 hrb3 hlb3 hpb3 hB3 hb2
 have hre := leadTo_rep hlen1 hrl1 kept
 have Hre : Hid (∀ k, ∃ ps', (s1.leadTo i kept k).rep i = (s1.rep i).role (.lead b nx ps')) := hre
 clear hre hrep1
 go_loopw [5, 26] (fun q ii wr => ∃ j : Nat, j ≤ nx ∧ ii = .int .i64 j ∧ SynRv (upd L.rv i (.iface 160 (.pointer (some ⟨lb, 0, none⟩)))) w sb L wr (s1.leadTo i kept j) ∧ wr.heap[pb]? = some (.cells (prepHead b t ++ vcells kept).toArray 156 (0, 0))) (fun _ ii _ => nx - (intOf ii).toNat)
 case atStart => exact ⟨0, Nat.zero_le _, rfl, hto3, hpb4⟩
 case round =>
  obtain ⟨j, hj, rfl, htoj, hpbj⟩ := hrel
  obtain ⟨Lj, hatj, ej, rj, oj, kj⟩ := id htoj
  by_cases hjn : j < nx
  ·obtain ⟨psj, hrepj⟩ := Hre.out j
   have hnj : (s1.leadTo i kept j).n = s.n := (leadTo_n _ _ _ _).trans hn1
   have hij : i < (s1.leadTo i kept j).n := by rw [hnj]; exact hi
   have hdj := hatj.dms hij j (by omega)
   have hdmj : ((s1.leadTo i kept j).rep i).dm j = (s1.rep i).dm j := by rw [hrepj]; rfl
   rw [hdmj, ej] at hdj
   have hstep : Hid (s1.leadTo i kept (j + 1) = if (s1.rep i).dm j then s1.leadTo i kept j else (s1.leadTo i kept j).propose i j (kept.getD j noVt).p) := rfl
   have q0 : (0 : Int) ≤ (j : Int) := by omega
   have q1 : (j : Int) < 16 := by omega
   have q2 : (j : Int) < (nx : Int) := by omega
   cases hd : (s1.rep i).dm j
   ·rw [hd] at hdj
    have hstep' : Hid (s1.leadTo i kept (j + 1) = (s1.leadTo i kept j).propose i j (kept.getD j noVt).p) := by
     have := hstep.out; rw [hd] at this; exact this
    have hP := propose_rv hatj hij (by rw [hrepj]; rfl) b0 b1 (pb := lb) (by rw [rj, upd_same]) j (by omega) (kept.getD j noVt).p
    rw [ej] at hP
    have k2 := (kept_at hpbj hhl j (by omega) 2 (by omega)).trans (show _ = some (.int .i64 (kept.getD j noVt).p.c) from rfl)
    have k3 := (kept_at hpbj hhl j (by omega) 3 (by omega)).trans (show _ = some (.int .i64 (kept.getD j noVt).p.q) from rfl)
    have k4 := (kept_at hpbj hhl j (by omega) 4 (by omega)).trans (show _ = some (.int .i64 (kept.getD j noVt).p.h) from rfl)
    have k5 := (kept_at hpbj hhl j (by omega) 5 (by omega)).trans (show _ = some (.string (kept.getD j noVt).p.t) from rfl)
    have hnoj : ¬ Lj.own sb (s1.leadTo i kept j).n pb := fun ho => by
     rcases ho with rfl | rfl | ⟨i', hi', rfl | hr⟩ | hv
     ·have h9 := hatj.syn; rw [hpbj] at h9; injection h9 with e; injection e with _ e; simp at e
     ·obtain ⟨cs, hc, _⟩ := hatj.ptrs; rw [hpbj] at hc; injection hc with e; injection e with _ e; simp at e
     ·have h9 := hatj.rep i' hi'; rw [hpbj] at h9; injection h9 with e; injection e with _ e; simp at e
     ·by_cases e : i' = i
      ·subst e
       rw [rj, upd_same] at hr
       have e9 : lb = pb := by simpa [roleBlk] using hr
       have h9 := hatj.role i' hij
       rw [hrepj, rj, upd_same] at h9
       obtain ⟨pb', e8, h8⟩ := h9
       cases e8
       rw [e9, hpbj] at h8; injection h8 with e7; injection e7 with _ e7; simp at e7
      ·rw [rj, upd_ne e] at hr
       have := hAt.rinj i' i pb (by rw [← hnj]; exact hi') hi hr (by rw [hrv]; rfl)
       exact e this
     ·obtain ⟨l, _, ho, _⟩ := hatj.net
      obtain ⟨cs, hc⟩ := owns_blk ho hv
      rw [hpbj] at hc; injection hc with e; injection e with _ e; simp at e
    generalize (kept.getD j noVt).p = pj at *
    generalize s1.leadTo i kept j = sj at *
    clear hstep hd hdmj
    go_wp2_with fail
    refine hP.mono ?_
    rintro e w5 ⟨rfl, hto5⟩
    clear hP
    have hpb5 := hto5.blk hpbj (fun ho => hnoj (by rw [propose_n] at ho; exact ho))
    have hto6 := SynRv.next ej oj kj (propose_n _ _ _ _) hto5
    rw [rj] at hto6
    go_wp2_with fail
    go_roundw
    case rel => exact ⟨j + 1, by omega, by go_num, by rw [hstep'.out]; exact hto6, hpb5⟩
    case measure => simp [intOf]; omega
   ·rw [hd] at hdj
    have hstep' : Hid (s1.leadTo i kept (j + 1) = s1.leadTo i kept j) := by
     have := hstep.out; rw [hd] at this; exact this
    clear hstep hd hdmj
    go_wp2_with fail
    go_roundw
    case rel => exact ⟨j + 1, by omega, by go_num, by rw [hstep'.out]; exact htoj, hpbj⟩
    case measure => simp [intOf]; omega
  ·obtain rfl : j = nx := by omega
   go_wp2_with fail
   go_end0
   refine ⟨rfl, ?_⟩
   rw [hfin.out]
   exact htoj.to
end Go.Proofs.YtnnhnekfokbooaaGreatDoor
