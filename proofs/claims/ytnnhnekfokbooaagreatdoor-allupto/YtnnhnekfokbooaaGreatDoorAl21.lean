/- SynO -/
import Derived.Test.YtnnhnekfokbooaaGreatDoorAl20
set_option linter.unusedSimpArgs false
set_option linter.unusedVariables false
set_option maxRecDepth 100000
namespace Go.Proofs.YtnnhnekfokbooaaGreatDoor
section
open Go.RowKit
theorem SynAt.prep {w : World} {sb : Nat} {L : Lay} {s : Sy} (h : SynAt w sb L s) {i : Nat} (hi : i < s.n) (b : Int) (b0 : 0 ≤ b) (b1 : b ≤ 8007) (X : Array Value) (hX : X = (prepHead b noTl ++ vcells (List.replicate 16 noVt)).toArray) :
  SynRv (upd L.rv i (.iface 152 (P6 w.heap.size))) w sb L (((w.setCell (A6 (L.rb i) 3) (I6 b)).setCell (A6 (L.rb i) 181) (.iface 152 (P6 w.heap.size))).alloc (.cells X 156)) (s.put i (((s.rep i).promise b).role (.prep b noTl (List.replicate 16 noVt)))) := by
 have hok := h.ok.repOk hi
 have hlt := lt_of_block (h.rep i hi)
 have hk : Keeps (fun k => k = L.rb i) w (((w.setCell (A6 (L.rb i) 3) (I6 b)).setCell (A6 (L.rb i) 181) (.iface 152 (P6 w.heap.size))).alloc (.cells X 156)) := ((Keeps.ofSet (P := fun k => k = L.rb i) (a := (A6 (L.rb i) 3)) (.inl rfl) _).trans (Keeps.ofSet (P := fun k => k = L.rb i) (a := (A6 (L.rb i) 181)) (.inl rfl) _)).trans (Keeps.ofAlloc _ _)
 have hsz : ((w.setCell (A6 (L.rb i) 3) (I6 b)).setCell (A6 (L.rb i) 181) (.iface 152 (P6 w.heap.size))).heap.size = w.heap.size := by simp [World.setCell]
 have hnew := blk_new ((w.setCell (A6 (L.rb i) 3) (I6 b)).setCell (A6 (L.rb i) 181) (.iface 152 (P6 w.heap.size))) (.cells X 156)
 rw [hsz, hX] at hnew
 subst hX
 refine h.setRepR hi (r := ((s.rep i).promise b).role (.prep b noTl (List.replicate 16 noVt))) ⟨b0, b1, hok.sn0, hok.sn1, hok.acc, hok.slot, hok.dec, ⟨rfl, rfl⟩, by simp⟩ (hk.mono (fun k _ h => .inl h)) ?_ ⟨_, rfl, hnew⟩ (fun k hk => .inr (by obtain rfl : w.heap.size = k := (by simpa [roleBlk] using hk); exact Nat.le_refl _))
 rw [blk_alloc (blk_set (blk_set (h.rep i hi) _ _) _ _), repCells_set3, repCells_set181 _ _ _ _ _ _ (.prep b noTl (List.replicate 16 noVt)) (promise_ok hok b0 b1)]
theorem round_wrap {r : Rp} (h : r.ok) : IntKind.i64.wrap (IntKind.i64.wrap ((if r.pr < r.sn then r.sn else r.pr).tdiv 8) + 1) = r.round := by
 have h1 := h.pr0
 have h2 := h.pr1
 have h3 := h.sn0
 have h4 := h.sn1
 have e : (if r.pr < r.sn then r.sn else r.pr) = max r.pr r.sn := by split <;> omega
 have a := wrap_of (max r.pr r.sn / 8) (by omega) (by omega)
 have b := wrap_of (max r.pr r.sn / 8 + 1) (by omega) (by omega)
 rw [e, Int.tdiv_eq_ediv_of_nonneg (by omega), a, b]
 rfl
set_option maxHeartbeats 1000000 in
theorem rcampaign_syn {w : World} {sb : Nat} {L : Lay} {s : Sy} (h : SynAt w sb L s) {i : Nat} (hi : i < s.n) :
  Calls Tryz.prog 62 #[.pointer (some (A6 (L.rb i) 0))] w fun e w' => e = .returned (I6 (s.campE i)) ∧ SynTo w sb L w' (s.campaign i) := by
 have hAt := h
 obtain ⟨c0, c1, c2, c3, c4, c5⟩ := h.cells hi
 have hok := h.ok.repOk hi
 have hround := round_wrap hok
 have hR0 : 1 ≤ (s.rep i).round := by unfold Rp.round; have := hok.pr0; have := hok.sn0; omega
 have hR1 : (s.rep i).round ≤ 1001 := by unfold Rp.round; have := hok.pr1; have := hok.sn1; omega
 obtain ⟨l, hlm, hown, hokn⟩ := h.net
 have hll : l.length = s.net.length := by rw [← hlm, List.length_map]
 have hfull := h.ok.full
 have hn1 := h.ok.n1
 obtain ⟨va, vc, hv, _⟩ := (owns_row hown).form
 have hnv := h.netv
 rw [hv] at hnv
 have hRm := room_any sb 1 va l.length vc (s.n : Int) w.drew.drew hnv (by omega) (by omega) (by omega)
 rw [hll] at hRm
 have Hround : Hid (IntKind.i64.wrap (IntKind.i64.wrap ((if (s.rep i).pr < (s.rep i).sn then (s.rep i).sn else (s.rep i).pr).tdiv 8) + 1) = (s.rep i).round) := hround
 clear hround hv hnv
 by_cases h7 : 1000 < (s.rep i).round
 ·have hE : s.campE i = 7 := if_pos h7
  have hS : s.campaign i = s := if_neg (by rw [hE]; decide)
  rw [hE, hS]
  have hd : decide (1000 < (s.rep i).round) = true := decide_eq_true h7
  clear hE hRm
  go_enter Tryz.func62, Tryz.ntmps62
  go_wp2_with fail
  refine wp_region_held_drew (S := fun w' => w'.cell? (A6 (L.rb i) 3) = some (I6 (s.rep i).pr) ∧ w'.cell? (A6 (L.rb i) 4) = some (I6 (s.rep i).sn)) (by kernel_rfl) (⟨c3, c4⟩) (fun hS => ?_)
  refine tk 0 rfl hS (v := ?_) (fun w' hw => ?_) ?_
  rotate_left 1
  ·have d1 := hw.1; have d2 := hw.2; go_simp; all_goals with_reducible rfl
  try simp only [ly]
  refine tk 1 rfl hS (v := ?_) (fun w' hw => ?_) ?_
  rotate_left 1
  ·have d1 := hw.1; have d2 := hw.2; go_simp; all_goals with_reducible rfl
  try simp only [ly]
  refine tk 2 rfl hS (v := ?_) (fun w' hw => ?_) ?_
  rotate_left 1
  ·have d1 := hw.1; have d2 := hw.2; go_simp; all_goals with_reducible rfl
  try simp only [ly]
  refine tk 3 rfl hS (v := ?_) (fun w' hw => ?_) ?_
  rotate_left 1
  ·have d1 := hw.1; have d2 := hw.2; go_simp; all_goals with_reducible rfl
  try simp only [ly]
  refine tk 4 rfl hS (v := ?_) (fun w' hw => ?_) ?_
  rotate_left 1
  ·have d1 := hw.1; have d2 := hw.2; go_simp; all_goals with_reducible rfl
  try simp only [ly]
  refine tk 5 rfl hS (v := ?_) (fun w' hw => ?_) ?_
  rotate_left 1
  ·have d1 := hw.1; have d2 := hw.2; go_simp; all_goals with_reducible rfl
  try simp only [ly]
  refine tk 6 rfl hS (v := ?_) (fun w' hw => ?_) ?_
  rotate_left 1
  ·have d1 := hw.1; have d2 := hw.2; go_simp; all_goals with_reducible rfl
  try simp only [ly]
  refine tk 7 rfl hS (v := ?_) (fun w' hw => ?_) ?_
  rotate_left 1
  ·have d1 := hw.1; have d2 := hw.2; go_simp; all_goals with_reducible rfl
  try simp only [ly]
  refine r1 8 rfl (fun K hK => ?_)
  go_simp
  refine hK.out _ _ ⟨c3, c4⟩ (fun hS => ?_)
  clear hK K
  try simp only [ly]
  refine tk 9 rfl hS (v := ?_) (fun w' hw => ?_) ?_
  rotate_left 1
  ·go_simp; all_goals with_reducible rfl
  try simp only [ly]
  refine tk 10 rfl hS (v := ?_) (fun w' hw => ?_) ?_
  rotate_left 1
  ·go_simp; all_goals with_reducible rfl
  try simp only [ly]
  refine r1 11 rfl (fun K hK => ?_)
  go_simp
  refine hK.out _ _ ⟨c3, c4⟩ (fun hS => ?_)
  clear hK K
  try simp only [ly]
  refine dn ?_ _
  rw [Hround.out]
  generalize (if (s.rep i).pr < (s.rep i).sn then (s.rep i).sn else (s.rep i).pr) = mx at *
  generalize IntKind.i64.wrap (mx.tdiv 8) = mx8 at *
  generalize (s.rep i).round = R at *
  go_wp2_with fail
  go_ret
  exact ⟨rfl, (SynTo.refl hAt).below (Below.drew (Below.refl _ w))⟩
 have hd7 : decide (1000 < (s.rep i).round) = false := decide_eq_false h7
 by_cases h6 : (s.net.length : Int) + s.n ≤ 200
 ·have hd : decide ((s.net.length : Int) + s.n ≤ 200) = true := decide_eq_true h6
  rw [hd] at hRm
  have hE : s.campE i = 0 := by unfold Sy.campE; rw [if_neg h7, if_pos h6]
  have hSfin : Hid (s.campaign i = (s.put i (((s.rep i).promise (8 * (s.rep i).round + i)).role (.prep (8 * (s.rep i).round + i) noTl (List.replicate 16 noVt)))).sendTo (msg 1 (8 * (s.rep i).round + i) 0 noPst []) i s.all) := if_pos hE
  rw [hE]
  clear hE
  have hrb := h.rep i hi
  have hwr := wrap_of (8 * (s.rep i).round) (by omega) (by omega)
  have hwr2 := wrap_of (8 * (s.rep i).round + i) (by omega) (by omega)
  have hf := blk_free hrb
  have hlt := lt_of_block hrb
  go_enter Tryz.func62, Tryz.ntmps62
  go_wp2_with fail
  refine wp_region_held_drew (S := fun w' => w'.cell? (A6 (L.rb i) 3) = some (I6 (s.rep i).pr) ∧ w'.cell? (A6 (L.rb i) 4) = some (I6 (s.rep i).sn)) (by kernel_rfl) (⟨c3, c4⟩) (fun hS => ?_)
  refine tk 0 rfl hS (v := ?_) (fun w' hw => ?_) ?_
  rotate_left 1
  ·have d1 := hw.1; have d2 := hw.2; go_simp; all_goals with_reducible rfl
  try simp only [ly]
  refine tk 1 rfl hS (v := ?_) (fun w' hw => ?_) ?_
  rotate_left 1
  ·have d1 := hw.1; have d2 := hw.2; go_simp; all_goals with_reducible rfl
  try simp only [ly]
  refine tk 2 rfl hS (v := ?_) (fun w' hw => ?_) ?_
  rotate_left 1
  ·have d1 := hw.1; have d2 := hw.2; go_simp; all_goals with_reducible rfl
  try simp only [ly]
  refine tk 3 rfl hS (v := ?_) (fun w' hw => ?_) ?_
  rotate_left 1
  ·have d1 := hw.1; have d2 := hw.2; go_simp; all_goals with_reducible rfl
  try simp only [ly]
  refine tk 4 rfl hS (v := ?_) (fun w' hw => ?_) ?_
  rotate_left 1
  ·have d1 := hw.1; have d2 := hw.2; go_simp; all_goals with_reducible rfl
  try simp only [ly]
  refine tk 5 rfl hS (v := ?_) (fun w' hw => ?_) ?_
  rotate_left 1
  ·have d1 := hw.1; have d2 := hw.2; go_simp; all_goals with_reducible rfl
  try simp only [ly]
  refine tk 6 rfl hS (v := ?_) (fun w' hw => ?_) ?_
  rotate_left 1
  ·have d1 := hw.1; have d2 := hw.2; go_simp; all_goals with_reducible rfl
  try simp only [ly]
  refine tk 7 rfl hS (v := ?_) (fun w' hw => ?_) ?_
  rotate_left 1
  ·have d1 := hw.1; have d2 := hw.2; go_simp; all_goals with_reducible rfl
  try simp only [ly]
  refine r1 8 rfl (fun K hK => ?_)
  go_simp
  refine hK.out _ _ ⟨c3, c4⟩ (fun hS => ?_)
  clear hK K
  try simp only [ly]
  refine tk 9 rfl hS (v := ?_) (fun w' hw => ?_) ?_
  rotate_left 1
  ·go_simp; all_goals with_reducible rfl
  try simp only [ly]
  refine tk 10 rfl hS (v := ?_) (fun w' hw => ?_) ?_
  rotate_left 1
  ·go_simp; all_goals with_reducible rfl
  try simp only [ly]
  refine r1 11 rfl (fun K hK => ?_)
  go_simp
  refine hK.out _ _ ⟨c3, c4⟩ (fun hS => ?_)
  clear hK K
  try simp only [ly]
  refine dn ?_ _
  rw [Hround.out]
  generalize (if (s.rep i).pr < (s.rep i).sn then (s.rep i).sn else (s.rep i).pr) = mx at *
  generalize IntKind.i64.wrap (mx.tdiv 8) = mx8 at *
  go_wp2_with fail
  refine wp_region_held_drew (S := fun w' => w'.cell? (A6 (L.rb i) 1) = some (I6 (s.n : Int)) ∧ w'.cell? (A6 (L.rb i) 2) = some (.pointer (some (A6 sb 1)))) (by kernel_rfl) (⟨c1, c2⟩) (fun hS => ?_)
  refine tk 0 rfl hS (v := ?_) (fun w' hw => ?_) ?_
  rotate_left 1
  ·have d1 := hw.1; have d2 := hw.2; go_simp; all_goals with_reducible rfl
  try simp only [ly]
  refine tk 1 rfl hS (v := ?_) (fun w' hw => ?_) ?_
  rotate_left 1
  ·have d1 := hw.1; have d2 := hw.2; go_simp; all_goals with_reducible rfl
  try simp only [ly]
  refine tk 2 rfl hS (v := ?_) (fun w' hw => ?_) ?_
  rotate_left 1
  ·have d1 := hw.1; have d2 := hw.2; go_simp; all_goals with_reducible rfl
  try simp only [ly]
  refine tk 3 rfl hS (v := ?_) (fun w' hw => ?_) ?_
  rotate_left 1
  ·have d1 := hw.1; have d2 := hw.2; go_simp; all_goals with_reducible rfl
  try simp only [ly]
  refine tk 4 rfl hS (v := ?_) (fun w' hw => ?_) ?_
  rotate_left 1
  ·have d1 := hw.1; have d2 := hw.2; go_simp; all_goals with_reducible rfl
  try simp only [ly]
  refine tk 5 rfl hS (v := ?_) (fun w' hw => ?_) ?_
  rotate_left 1
  ·have d1 := hw.1; have d2 := hw.2; go_simp; all_goals with_reducible rfl
  try simp only [ly]
  refine tk 6 rfl hS (v := ?_) (fun w' hw => ?_) ?_
  rotate_left 1
  ·have d1 := hw.1; have d2 := hw.2; go_simp; all_goals with_reducible rfl
  try simp only [ly]
  refine tk 7 rfl hS (v := ?_) (fun w' hw => ?_) ?_
  rotate_left 1
  ·have d1 := hw.1; have d2 := hw.2; go_simp; all_goals with_reducible rfl
  try simp only [ly]
  refine r1 8 rfl (fun K hK => ?_)
  go_simp
  refine hRm.mono ?_
  rintro e w2 ⟨rfl, hw2⟩
  have hw2' := hw2.symm
  subst hw2'
  clear hRm hw2
  go_wp2_with fail
  refine hK.out _ _ ⟨c1, c2⟩ (fun hS => ?_)
  clear hK K
  try simp only [ly]
  refine tk 9 rfl hS (v := ?_) (fun w' hw => ?_) ?_
  rotate_left 1
  ·go_simp; all_goals with_reducible rfl
  try simp only [ly]
  refine dn ?_ _
  clear Hround
  go_wp2_with fail
  have hpr := hAt.drew.drew.prep hi (8 * (s.rep i).round + i) (by omega) (by omega) ((Tryz.zeroCells156.setIfInBounds 0 (I6 1)).setIfInBounds 1 (I6 (8 * (s.rep i).round + i))) rfl
  have hpr2 : SynRv (upd L.rv i (.iface 152 (P6 w.heap.size))) w.drew.drew sb L (((w.setCell (A6 (L.rb i) 3) (I6 (8 * (s.rep i).round + i))).setCell (A6 (L.rb i) 181) (.iface 152 (P6 w.heap.size))).alloc (.cells ((Tryz.zeroCells156.setIfInBounds 0 (I6 1)).setIfInBounds 1 (I6 (8 * (s.rep i).round + i))) 156)).drew.drew (s.put i (((s.rep i).promise (8 * (s.rep i).round + i)).role (.prep (8 * (s.rep i).round + i) noTl (List.replicate 16 noVt)))) := hpr
  clear hpr
  generalize (((w.setCell (A6 (L.rb i) 3) (I6 (8 * (s.rep i).round + i))).setCell (A6 (L.rb i) 181) (.iface 152 (P6 w.heap.size))).alloc (.cells ((Tryz.zeroCells156.setIfInBounds 0 (I6 1)).setIfInBounds 1 (I6 (8 * (s.rep i).round + i))) 156)).drew.drew = w3 at *
  have hto3 := SynRv.after (s := s.put i (((s.rep i).promise (8 * (s.rep i).round + i)).role (.prep (8 * (s.rep i).round + i) noTl (List.replicate 16 noVt)))) hAt rfl (Below.drew (Below.drew (Below.refl _ w))) hpr2
  clear hpr2 hwr hwr2
  have b0 : 0 ≤ 8 * (s.rep i).round + (i : Int) := by omega
  have b1 : 8 * (s.rep i).round + (i : Int) ≤ 8007 := by omega
  generalize 8 * (s.rep i).round + (i : Int) = b at *
  generalize (Tryz.zeroCells156.setIfInBounds 0 (I6 1)).setIfInBounds 1 (I6 b) = X at *
  obtain ⟨L3, h3, e3, r3, o3, kk3⟩ := id hto3
  have hrep3 := Sy.rep_put (s := s) (i := i) (r := ((s.rep i).promise b).role (.prep b noTl (List.replicate 16 noVt))) (by rw [hAt.ok.len]; exact hi)
  obtain ⟨_, d1, _, d3, _⟩ := h3.cells hi
  rw [e3] at d1 d3
  rw [hrep3] at d3
  have d1' : w3.drew.cell? (A6 (L.rb i) 1) = some (I6 (s.n : Int)) := d1
  have d3' : w3.cell? (A6 (L.rb i) 3) = some (I6 b) := d3
  clear d1 d3 hrep3
  have hA := all_any (L.rb i) s.n w3.drew d1' (by omega)
  have hn3 : (s.put i (((s.rep i).promise b).role (.prep b noTl (List.replicate 16 noVt)))).n = s.n := rfl
  generalize hs3 : s.put i (((s.rep i).promise b).role (.prep b noTl (List.replicate 16 noVt))) = s3 at *
  clear d1'
  refine wp_region_held_drew (S := fun w' => w'.cell? (A6 (L.rb i) 3) = some (I6 b)) (by kernel_rfl) (d3') (fun hS => ?_)
  refine tk 0 rfl hS (v := ?_) (fun w' hw => ?_) ?_
  rotate_left 1
  ·have d1 := hw; go_simp; all_goals with_reducible rfl
  try simp only [ly]
  refine tk 1 rfl hS (v := ?_) (fun w' hw => ?_) ?_
  rotate_left 1
  ·have d1 := hw; go_simp; all_goals with_reducible rfl
  try simp only [ly]
  refine tk 2 rfl hS (v := ?_) (fun w' hw => ?_) ?_
  rotate_left 1
  ·have d1 := hw; go_simp; all_goals with_reducible rfl
  try simp only [ly]
  refine tk 3 rfl hS (v := ?_) (fun w' hw => ?_) ?_
  rotate_left 1
  ·have d1 := hw; go_simp; all_goals with_reducible rfl
  try simp only [ly]
  refine tk 4 rfl hS (v := ?_) (fun w' hw => ?_) ?_
  rotate_left 1
  ·have d1 := hw; go_simp; all_goals with_reducible rfl
  try simp only [ly]
  refine tk 5 rfl hS (v := ?_) (fun w' hw => ?_) ?_
  rotate_left 1
  ·have d1 := hw; go_simp; all_goals with_reducible rfl
  try simp only [ly]
  refine tk 6 rfl hS (v := ?_) (fun w' hw => ?_) ?_
  rotate_left 1
  ·have d1 := hw; go_simp; all_goals with_reducible rfl
  try simp only [ly]
  refine r1 7 rfl (fun K hK => ?_)
  go_simp
  refine hA.mono ?_
  rintro e w4 ⟨v1, rfl, hown4, hB4⟩
  clear hA
  obtain ⟨va4, vn4, vc4, rfl⟩ := owns_slice1 hown4
  have hB4' : Below w3.heap.size w3 w4 := Below.trans (Below.drew (Below.refl _ w3)) hB4
  have h4 := h3.below hB4'
  have d4 := (h4.cells (by rw [hn3]; exact hi)).2.2.2.1
  have hrep4 : (s3.rep i).pr = b := by
   rw [← hs3, Sy.rep_put (by rw [hAt.ok.len]; exact hi)]; rfl
  rw [e3, hrep4] at d4
  go_wp2_with fail
  refine hK.out _ _ d4 (fun hS => ?_)
  clear hK K
  try simp only [ly]
  refine r1 8 rfl (fun K hK => ?_)
  go_simp
  have hX := send_rv h4 (by rw [hn3]; exact hi) ⟨msg 1 b 0 noPst [], .slice none 0 0⟩ (Nm.okt_nil _ _ rfl) (msg_ok h3.ok.n0 (by decide) (by decide) b0 b1 (by decide) (by decide) (by simp) (by simp)) (List.range s.n) (fun t ht => by rw [hn3]; exact List.mem_range.1 ht) _ (nums_row hown4) (fun g hg => owns_blk hown4 hg) (by rw [List.length_range]; omega)
  rw [e3] at hX
  refine hX.mono ?_
  rintro e w5 ⟨rfl, hto5⟩
  clear hX
  obtain ⟨L5, h5, e5, r5, o5, kk5⟩ := id hto5
  have d5 := (h5.cells (by rw [sendTo_n, hn3]; exact hi)).2.2.2.1
  rw [rep_sendTo, e5, e3, hrep4] at d5
  have hto6 := SynRv.next e3 o3 kk3 (sendTo_n _ _ _ _) (SynRv.after h3 (sendTo_n _ _ _ _) hB4' hto5)
  go_wp2_with fail
  refine hK.out _ _ d5 (fun hS => ?_)
  clear hK K
  try simp only [ly]
  refine dn ?_ _
  go_wp2_with fail
  go_ret
  refine ⟨rfl, ?_⟩
  rw [hSfin.out]
  exact hto6.to
 ·have hd : decide ((s.net.length : Int) + s.n ≤ 200) = false := decide_eq_false h6
  rw [hd] at hRm
  have hE : s.campE i = 6 := by unfold Sy.campE; rw [if_neg h7, if_neg h6]
  have hS : s.campaign i = s := if_neg (by rw [hE]; decide)
  rw [hE, hS]
  clear hE
  go_enter Tryz.func62, Tryz.ntmps62
  go_wp2_with fail
  refine wp_region_held_drew (S := fun w' => w'.cell? (A6 (L.rb i) 3) = some (I6 (s.rep i).pr) ∧ w'.cell? (A6 (L.rb i) 4) = some (I6 (s.rep i).sn)) (by kernel_rfl) (⟨c3, c4⟩) (fun hS => ?_)
  refine tk 0 rfl hS (v := ?_) (fun w' hw => ?_) ?_
  rotate_left 1
  ·have d1 := hw.1; have d2 := hw.2; go_simp; all_goals with_reducible rfl
  try simp only [ly]
  refine tk 1 rfl hS (v := ?_) (fun w' hw => ?_) ?_
  rotate_left 1
  ·have d1 := hw.1; have d2 := hw.2; go_simp; all_goals with_reducible rfl
  try simp only [ly]
  refine tk 2 rfl hS (v := ?_) (fun w' hw => ?_) ?_
  rotate_left 1
  ·have d1 := hw.1; have d2 := hw.2; go_simp; all_goals with_reducible rfl
  try simp only [ly]
  refine tk 3 rfl hS (v := ?_) (fun w' hw => ?_) ?_
  rotate_left 1
  ·have d1 := hw.1; have d2 := hw.2; go_simp; all_goals with_reducible rfl
  try simp only [ly]
  refine tk 4 rfl hS (v := ?_) (fun w' hw => ?_) ?_
  rotate_left 1
  ·have d1 := hw.1; have d2 := hw.2; go_simp; all_goals with_reducible rfl
  try simp only [ly]
  refine tk 5 rfl hS (v := ?_) (fun w' hw => ?_) ?_
  rotate_left 1
  ·have d1 := hw.1; have d2 := hw.2; go_simp; all_goals with_reducible rfl
  try simp only [ly]
  refine tk 6 rfl hS (v := ?_) (fun w' hw => ?_) ?_
  rotate_left 1
  ·have d1 := hw.1; have d2 := hw.2; go_simp; all_goals with_reducible rfl
  try simp only [ly]
  refine tk 7 rfl hS (v := ?_) (fun w' hw => ?_) ?_
  rotate_left 1
  ·have d1 := hw.1; have d2 := hw.2; go_simp; all_goals with_reducible rfl
  try simp only [ly]
  refine r1 8 rfl (fun K hK => ?_)
  go_simp
  refine hK.out _ _ ⟨c3, c4⟩ (fun hS => ?_)
  clear hK K
  try simp only [ly]
  refine tk 9 rfl hS (v := ?_) (fun w' hw => ?_) ?_
  rotate_left 1
  ·go_simp; all_goals with_reducible rfl
  try simp only [ly]
  refine tk 10 rfl hS (v := ?_) (fun w' hw => ?_) ?_
  rotate_left 1
  ·go_simp; all_goals with_reducible rfl
  try simp only [ly]
  refine r1 11 rfl (fun K hK => ?_)
  go_simp
  refine hK.out _ _ ⟨c3, c4⟩ (fun hS => ?_)
  clear hK K
  try simp only [ly]
  refine dn ?_ _
  rw [Hround.out]
  generalize (if (s.rep i).pr < (s.rep i).sn then (s.rep i).sn else (s.rep i).pr) = mx at *
  generalize IntKind.i64.wrap (mx.tdiv 8) = mx8 at *
  generalize (s.rep i).round = R at *
  go_wp2_with fail
  refine wp_region_held_drew (S := fun w' => w'.cell? (A6 (L.rb i) 1) = some (I6 (s.n : Int)) ∧ w'.cell? (A6 (L.rb i) 2) = some (.pointer (some (A6 sb 1)))) (by kernel_rfl) (⟨c1, c2⟩) (fun hS => ?_)
  refine tk 0 rfl hS (v := ?_) (fun w' hw => ?_) ?_
  rotate_left 1
  ·have d1 := hw.1; have d2 := hw.2; go_simp; all_goals with_reducible rfl
  try simp only [ly]
  refine tk 1 rfl hS (v := ?_) (fun w' hw => ?_) ?_
  rotate_left 1
  ·have d1 := hw.1; have d2 := hw.2; go_simp; all_goals with_reducible rfl
  try simp only [ly]
  refine tk 2 rfl hS (v := ?_) (fun w' hw => ?_) ?_
  rotate_left 1
  ·have d1 := hw.1; have d2 := hw.2; go_simp; all_goals with_reducible rfl
  try simp only [ly]
  refine tk 3 rfl hS (v := ?_) (fun w' hw => ?_) ?_
  rotate_left 1
  ·have d1 := hw.1; have d2 := hw.2; go_simp; all_goals with_reducible rfl
  try simp only [ly]
  refine tk 4 rfl hS (v := ?_) (fun w' hw => ?_) ?_
  rotate_left 1
  ·have d1 := hw.1; have d2 := hw.2; go_simp; all_goals with_reducible rfl
  try simp only [ly]
  refine tk 5 rfl hS (v := ?_) (fun w' hw => ?_) ?_
  rotate_left 1
  ·have d1 := hw.1; have d2 := hw.2; go_simp; all_goals with_reducible rfl
  try simp only [ly]
  refine tk 6 rfl hS (v := ?_) (fun w' hw => ?_) ?_
  rotate_left 1
  ·have d1 := hw.1; have d2 := hw.2; go_simp; all_goals with_reducible rfl
  try simp only [ly]
  refine tk 7 rfl hS (v := ?_) (fun w' hw => ?_) ?_
  rotate_left 1
  ·have d1 := hw.1; have d2 := hw.2; go_simp; all_goals with_reducible rfl
  try simp only [ly]
  refine r1 8 rfl (fun K hK => ?_)
  go_simp
  refine hRm.mono ?_
  rintro e w2 ⟨rfl, hw2⟩
  have hw2' := hw2.symm
  subst hw2'
  clear hRm hw2
  go_wp2_with fail
  refine hK.out _ _ ⟨c1, c2⟩ (fun hS => ?_)
  clear hK K
  try simp only [ly]
  refine tk 9 rfl hS (v := ?_) (fun w' hw => ?_) ?_
  rotate_left 1
  ·go_simp; all_goals with_reducible rfl
  try simp only [ly]
  refine dn ?_ _
  go_wp2_with fail
  go_ret
  exact ⟨rfl, (SynTo.refl hAt).below (Below.drew (Below.drew (Below.refl _ w)))⟩
end
end Go.Proofs.YtnnhnekfokbooaaGreatDoor
