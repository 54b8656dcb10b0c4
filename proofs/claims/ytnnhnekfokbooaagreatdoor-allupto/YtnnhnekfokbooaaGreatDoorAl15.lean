/- RnF, RnG -/
import Derived.Test.YtnnhnekfokbooaaGreatDoorAl14
set_option linter.unusedSimpArgs false
set_option linter.unusedVariables false
set_option maxRecDepth 100000
namespace Go.Proofs.YtnnhnekfokbooaaGreatDoor
section
open Go.RowKit
theorem yeas_next (l : List Bool) (q : Nat) (h : q < l.length) : yeas (l.take (q + 1)) = yeas (l.take q) + (if l.getD q false then 1 else 0) := by
 unfold yeas
 rw [List.take_add_one, List.getElem?_eq_getElem h, List.getD_eq_getElem?_getD, List.getElem?_eq_getElem h, List.filter_append, List.length_append]
 show _ = _ + (if l[q] = true then 1 else 0)
 cases l[q] <;> simp
theorem yeas_bound (l : List Bool) : 0 ≤ yeas l ∧ yeas l ≤ l.length := by
 unfold yeas
 have := List.length_filter_le id l
 omega
set_option maxHeartbeats 2000000 in
theorem most_any {w : World} {qb Rb : Nat} {v : Value} {x : Qs} (h : QAt w qb Rb v x) (l : List Bool) (hl : l.length = 7) :
  Calls Tryz.prog 136 #[P6 qb, .agg (l.map Value.bool).toArray] w fun e w' => e = .returned (.bool (decide ((x.R.length : Int) < 2 * yeas l))) ∧ Below w.heap.size w w' := by
 obtain ⟨a0, a1, a2, a3, a4, a5, a6, rfl⟩ : ∃ a0 a1 a2 a3 a4 a5 a6, l = [a0, a1, a2, a3, a4, a5, a6] := by
  match l, hl with
  | [a0, a1, a2, a3, a4, a5, a6], _ => exact ⟨a0, a1, a2, a3, a4, a5, a6, rfl⟩
 obtain ⟨Y, hY⟩ : ∃ Y : Nat → Int, ∀ q, Y q = yeas ([a0, a1, a2, a3, a4, a5, a6].take q) := ⟨_, fun _ => rfl⟩
 obtain ⟨B, hBq⟩ : ∃ B : Nat → Bool, ∀ q, B q = [a0, a1, a2, a3, a4, a5, a6].getD q false := ⟨_, fun _ => rfl⟩
 have HY : Hid (∀ q, q < 7 → Y (q + 1) = Y q + (if B q then 1 else 0)) := fun q hq => by rw [hY, hY, hBq]; exact yeas_next _ q hq
 have HF : Hid (Y 7 = yeas [a0, a1, a2, a3, a4, a5, a6]) := hY 7
 have HB : Hid (∀ q, 0 ≤ Y q ∧ Y q ≤ 7) := fun q => by
  have h1 := yeas_bound ([a0, a1, a2, a3, a4, a5, a6].take q)
  rw [← hY, List.length_take] at h1
  simp only [List.length_cons, List.length_nil] at h1
  omega
 have h0 : Y 0 = 0 := hY 0
 have h7 := h.n1
 simp only [List.map_cons, List.map_nil]
 have hb := blk_new w (.cells #[.bool a0, .bool a1, .bool a2, .bool a3, .bool a4, .bool a5, .bool a6] 109)
 have hB : Below w.heap.size w (w.alloc (.cells #[.bool a0, .bool a1, .bool a2, .bool a3, .bool a4, .bool a5, .bool a6] 109)) := (Below.refl _ w).alloc (Nat.le_refl _) _
 have d0 := (h.below hB).c0
 have Hbc : Hid (∀ q, q < 7 → (w.alloc (.cells #[.bool a0, .bool a1, .bool a2, .bool a3, .bool a4, .bool a5, .bool a6] 109)).cell? (A6 w.heap.size q) = some (.bool (B q))) := fun q hq => by
  rw [blk_cell hb q, hBq]
  match q, hq with
  | 0, _ => rfl
  | 1, _ => rfl
  | 2, _ => rfl
  | 3, _ => rfl
  | 4, _ => rfl
  | 5, _ => rfl
  | 6, _ => rfl
 have H0 : Hid (Y 0 = 0) := h0
 clear hb hY hBq h0
 go_enter Tryz.func136, Tryz.ntmps136
 go_wp2_with fail
 generalize w.alloc (.cells #[.bool a0, .bool a1, .bool a2, .bool a3, .bool a4, .bool a5, .bool a6] 109) = w1 at *
 go_loopw [5, 6] (fun c i wr => ∃ (q : Nat), q ≤ 7 ∧ i = I6 q ∧ c = I6 (Y q) ∧ wr = w1) (fun _ i _ => 7 - (intOf i).toNat)
 case atStart => exact ⟨0, by omega, rfl, by rw [H0.out], rfl⟩
 case round =>
  obtain ⟨q, hq, rfl, rfl, hwe⟩ := hrel
  have hwe' := hwe.symm
  subst hwe'
  clear hwe
  by_cases hq7 : q < 7
  ·have q0 : (0 : Int) ≤ (q : Int) := by omega
   have q1 : (q : Int) < 7 := by omega
   have m1 : decide ((q : Int) < 7) = true := by simp; omega
   have cq := Hbc.out q hq7
   have HN : Hid (Y (q + 1) = Y q + (if B q then 1 else 0)) := HY.out q hq7
   have hbd := HB.out q
   cases hBv : B q
   ·rw [hBv] at cq
    have HN' : Hid (Y (q + 1) = Y q) := by show _ = _; rw [HN.out, hBv]; simp
    clear HN hBv
    go_wp2_with fail
    go_roundw
    case rel => exact ⟨q + 1, by omega, by go_num, by rw [HN'.out], trivial⟩
    case measure => simp [intOf]; omega
   ·rw [hBv] at cq
    have HN' : Hid (Y (q + 1) = Y q + 1) := by show _ = _; rw [HN.out, hBv]; simp
    clear HN hBv
    have vw : IntKind.i64.wrap (Y q + 1) = Y q + 1 := wrap_ok _ (by omega) (by omega)
    go_wp2_with fail
    go_roundw
    case rel => exact ⟨q + 1, by omega, by go_num, by rw [HN'.out], trivial⟩
    case measure => simp [intOf]; omega
  ·have hqe : q = 7 := by omega
   have m1 : decide ((q : Int) < 7) = false := by simp; omega
   have m2 : ¬ (q : Int) < 7 := by omega
   have hbd := HB.out q
   have HQ : Hid (Y q = yeas [a0, a1, a2, a3, a4, a5, a6]) := by show _ = _; rw [hqe]; exact HF.out
   have vw : IntKind.i64.wrap (2 * Y q) = 2 * Y q := wrap_ok _ (by omega) (by omega)
   clear hqe
   go_wp2_with fail
   go_ret
   exact ⟨by rw [← HQ.out]; rfl, hB⟩
theorem nextR_le (l : Nat → Sl) : ∀ k, nextR l k ≤ k
 | 0 => Nat.le_refl _
 | k + 1 => by
  unfold nextR
  split
  ·exact Nat.le_refl _
  ·exact Nat.le_succ_of_le (nextR_le l k)
theorem rall_rep (x : Qs) (m : Ms) (f j : Nat) : (x.all m f).rep j = x.rep j := by unfold Qs.all Qs.rep; rw [rsendTo_R']
theorem rall_R (x : Qs) (m : Ms) (f : Nat) : (x.all m f).R = x.R := by unfold Qs.all; rw [rsendTo_R']
theorem rlead_R {x : Qs} {i : Nat} : ∀ k, (x.leadTo i k).R.length = x.R.length
 | 0 => rfl
 | k + 1 => by
  unfold Qs.leadTo
  dsimp only
  split
  ·exact rlead_R k
  ·rw [rall_R]; unfold Qs.put; simp only [List.length_set]; exact rlead_R k
theorem rlead_nx {x : Qs} {i : Nat} (hi : i < x.R.length) : ∀ k, ((x.leadTo i k).rep i).nx = (x.rep i).nx
 | 0 => rfl
 | k + 1 => by
  unfold Qs.leadTo
  dsimp only
  split
  ·exact rlead_nx hi k
  ·rw [rall_rep, Qs.rep_put (by rw [rlead_R]; exact hi), if_pos rfl]; exact rlead_nx hi k
set_option maxHeartbeats 4000000 in
theorem rleads_any {w : World} {qb Rb : Nat} {v : Value} {x : Qs} (h : QAt w qb Rb v x) {i : Nat} (hi : i < x.R.length) :
  Calls Tryz.prog 137 #[P6 qb, I6 (i : Int)] w fun e w' => e = .returned (.tuple #[]) ∧ QTo w qb Rb v w' (x.leads i) := by
 have hq := h.reps.here hi
 have d0 := h.c0
 have h7 := h.n1
 generalize hr : x.R.getD i noRr = r at *
 have HR : Hid (x.rep i = r) := hr
 clear hr
 have q0 : (0 : Int) ≤ (i : Int) := by omega
 have q1 : (i : Int) < (x.R.length : Int) := by omega
 have c2 := hq.hc hi (o := 2) (by decide) rfl
 have z2 := hq.fz (i * 396 + 2)
 go_enter Tryz.func137, Tryz.ntmps137
 go_upto_region 2 with (fail)
 have g1 := hq.hd hi (v := I6 2) ⟨r.pr, r.sn, 2, r.ba, r.nx, r.fr, r.sl⟩ (o := 2) (by decide) rfl rfl rfl
 have k1 := keeps_set w Rb (i * 396 + 2) (I6 2)
 generalize w.setCell (A6 Rb (i * 396 + 2)) (I6 2) = w1 at *
 clear c2 z2 d0
 have c4 := g1.hc hi (o := 4) (by decide) rfl
 have z4 := g1.fz (i * 396 + 4)
 go_upto_region 3 with (fail)
 have g2 := g1.hd hi (v := I6 0) ⟨r.pr, r.sn, 2, r.ba, 0, r.fr, r.sl⟩ (o := 4) (by decide) rfl rfl rfl
 have k2 := k1.trans (keeps_set w1 Rb (i * 396 + 4) (I6 0))
 generalize w1.setCell (A6 Rb (i * 396 + 4)) (I6 0) = w2 at *
 clear c4 z4 g1 k1
 go_wp2_with fail
 go_loopw [5] (fun kv wr => ∃ (q N : Nat), q ≤ 16 ∧ kv = I6 q ∧ N = nextR r.at q ∧ RAt wr Rb (x.R.set i ⟨r.pr, r.sn, 2, r.ba, (N : Int), r.fr, r.sl⟩) ∧ Keeps (fun k => k = Rb) w wr) (fun kv _ => 16 - (intOf kv).toNat)
 case atStart => exact ⟨0, 0, by omega, rfl, rfl, g2, k2⟩
 case round =>
  clear g2 k2
  obtain ⟨q, N, hq16', rfl, hN, g, kk⟩ := hrel
  by_cases hq16 : q < 16
  ·have p0 : (0 : Int) ≤ (q : Int) := by omega
   have p1 : (q : Int) < 16 := by omega
   have m1 : decide ((q : Int) < 16) = true := by simp; omega
   have c5 := g.sc hi hq16 (o := 5) (by decide) (v := .bool (r.at q).is) rfl
   have c10 := g.sc hi hq16 (o := 10) (by decide) (v := .bool (r.at q).has) rfl
   have HS : Hid (nextR r.at (q + 1) = if (r.at q).is || (r.at q).has then q + 1 else nextR r.at q) := rfl
   have HN : Hid (N = nextR r.at q) := hN
   clear hN
   have c4 := g.hc hi (o := 4) (by decide) rfl
   have z4 := g.fz (i * 396 + 4)
   have vq : IntKind.i64.wrap ((q : Int) + 1) = (q : Int) + 1 := wrap_ok _ (by omega) (by omega)
   cases hB : ((r.at q).is || (r.at q).has)
   ·have hB1 : (r.at q).is = false := by cases h9 : (r.at q).is; rfl; rw [h9] at hB; cases hB
    have hB2 : (r.at q).has = false := by cases h9 : (r.at q).has; rfl; rw [h9] at hB; simp at hB
    rw [hB1] at c5
    rw [hB2] at c10
    have HN2 : Hid (N = nextR r.at (q + 1)) := by show _ = _; rw [HS.out, hB]; exact HN.out
    clear HS HN hB hB1 hB2
    go_wp2_with fail
    go_roundw
    case rel => exact ⟨q + 1, N, by omega, by go_num, HN2.out, g, kk⟩
    case measure => simp [intOf]; omega
   ·have HN2 : Hid (q + 1 = nextR r.at (q + 1)) := by show _ = _; rw [HS.out, hB]; rfl
    have g3 := g.hd hi (v := I6 ((q : Int) + 1)) ⟨r.pr, r.sn, 2, r.ba, (q : Int) + 1, r.fr, r.sl⟩ (o := 4) (by decide) rfl rfl rfl
    have k3 := kk.trans (keeps_set wr Rb (i * 396 + 4) (I6 ((q : Int) + 1)))
    have g3' : RAt (wr.setCell (A6 Rb (i * 396 + 4)) (I6 ((q : Int) + 1))) Rb (x.R.set i ⟨r.pr, r.sn, 2, r.ba, ((q + 1 : Nat) : Int), r.fr, r.sl⟩) := by
     have e : ((q + 1 : Nat) : Int) = (q : Int) + 1 := by omega
     rw [e]; exact g3
    clear g3 HS HN
    cases hB1 : (r.at q).is
    ·have hB2 : (r.at q).has = true := by rw [hB1] at hB; simpa using hB
     rw [hB1] at c5
     rw [hB2] at c10
     clear hB hB1 hB2
     go_wp2_with fail
     go_roundw
     case rel => exact ⟨q + 1, q + 1, by omega, by go_num, HN2.out, g3', k3⟩
     case measure => simp [intOf]; omega
    ·rw [hB1] at c5
     clear hB hB1 c10
     go_wp2_with fail
     go_roundw
     case rel => exact ⟨q + 1, q + 1, by omega, by go_num, HN2.out, g3', k3⟩
     case measure => simp [intOf]; omega
  ·have hqe : q = 16 := by omega
   have m1 : decide ((q : Int) < 16) = false := by simp; omega
   have m2 : ¬ (q : Int) < 16 := by omega
   have HN : Hid (N = nextR r.at 16) := by show _ = _; rw [hN, hqe]
   have hN16 : N ≤ 16 := by rw [hN, hqe]; exact nextR_le _ _
   clear hN hqe
   have hT := h.turn kk g (by rw [List.length_set])
   obtain ⟨v1, hQ1, o1, kk1⟩ := id hT
   have hX1 : (⟨x.R.set i ⟨r.pr, r.sn, 2, r.ba, (N : Int), r.fr, r.sl⟩, x.net⟩ : Qs) = x.put i r.leads := by
    unfold Qs.put Rr.leads
    rw [← HN.out]
   rw [hX1] at hQ1 hT
   have HX : Hid (x.leads i = (x.put i r.leads).leadTo i N) := by
    show _ = _
    unfold Qs.leads
    rw [HR.out, HN.out]
   have hlen : (x.put i r.leads).R.length = x.R.length := by unfold Qs.put; simp only [List.length_set]
   have hnx : ((x.put i r.leads).rep i).nx = (N : Int) := by
    rw [Qs.rep_put hi, if_pos rfl]
    show ((nextR r.at 16 : Nat) : Int) = _
    rw [HN.out]
   generalize x.put i r.leads = x1 at *
   clear hX1 g kk hT hq
   go_wp2_with fail
   go_loopw [6] (fun kv w3 => ∃ (q : Nat) (v' : Value), q ≤ N ∧ kv = I6 q ∧ QAt w3 qb Rb v' (x1.leadTo i q) ∧ (∀ k, qOwn qb Rb v' k → qOwn qb Rb v k ∨ w.heap.size ≤ k) ∧ Keeps (qOwn qb Rb v) w w3) (fun kv _ => N - (intOf kv).toNat)
   case atStart => exact ⟨0, v1, Nat.zero_le _, rfl, hQ1, o1, kk1⟩
   case round =>
    clear hQ1 o1 kk1 m1 m2 hq16 hq16'
    obtain ⟨q, v2, hqN, rfl, hQ2, o2, kk2⟩ := hrel
    have hln : (x1.leadTo i q).R.length = x.R.length := (rlead_R q).trans hlen
    have hiz : i < (x1.leadTo i q).R.length := by rw [hln]; exact hi
    have hq2 := hQ2.reps.here hiz
    have hznx : ((x1.leadTo i q).rep i).nx = (N : Int) := (rlead_nx (by rw [hlen]; exact hi) q).trans hnx
    have HL : Hid (x1.leadTo i (q + 1) = if (((x1.leadTo i q).rep i).at q).is then x1.leadTo i q else ((x1.leadTo i q).put i (((x1.leadTo i q).rep i).setAt q (((x1.leadTo i q).rep i).at q).claim)).all (msg 3 ((x1.leadTo i q).rep i).ba (q : Int) (((x1.leadTo i q).rep i).at q).kept []) i) := rfl
    have hz0 : (x1.leadTo i q).rep i = (x1.leadTo i q).R.getD i noRr := rfl
    rw [← hz0] at hq2
    clear hz0
    generalize (x1.leadTo i q).rep i = z at *
    generalize hxq : x1.leadTo i q = xq at *
    have HXq : Hid (x1.leadTo i q = xq) := hxq
    clear hxq
    have cn := hq2.hc hiz (o := 4) (by decide) (v := I6 z.nx) rfl
    rw [hznx] at cn
    by_cases hqn : q < N
    ·have hq16 : q < 16 := by omega
     have p0 : (0 : Int) ≤ (q : Int) := by omega
     have p1 : (q : Int) < 16 := by omega
     have p2 : (q : Int) < (N : Int) := by omega
     have hzl := (hq2.rok hiz).len
     have hyo := Rr.at_ok (hq2.rok hiz) q
     have g0 := hq2.open hiz hq16
     generalize z.at q = y at *
     have c5 := g0.gc hiz hzl hq16 (o := 5) (by decide) (v := .bool y.is) rfl
     cases hB : y.is
     ·rw [hB] at c5
      rw [hB] at HL
      have c10 := g0.gc hiz hzl hq16 (o := 10) (by decide) rfl
      have z10 := g0.fz (i * 396 + 12 + q * 24 + 10)
      go_upto_region 13 with (fail)
      have g1 := g0.gs1 hiz hzl hq16 (o := 10) (v := .bool true) ⟨y.b, y.v, y.is, y.fin, true, y.mine, y.kept, y.kb, y.vo⟩ (by decide) hyo rfl
      have k3 := keeps_set wr Rb (i * 396 + 12 + q * 24 + 10) (.bool true)
      generalize wr.setCell (A6 Rb (i * 396 + 12 + q * 24 + 10)) (.bool true) = w3 at *
      clear c10 z10 c5 cn g0
      have c11 := g1.gc hiz hzl hq16 (o := 11) (by decide) rfl
      have z11 := g1.fz (i * 396 + 12 + q * 24 + 11)
      go_upto_region 14 with (fail)
      have g2 := g1.gs1 hiz hzl hq16 (o := 11) (v := .bool true) y.claim (by decide) hyo rfl
      have k4 := k3.trans (keeps_set w3 Rb (i * 396 + 12 + q * 24 + 11) (.bool true))
      generalize w3.setCell (A6 Rb (i * 396 + 12 + q * 24 + 11)) (.bool true) = w4 at *
      clear c11 z11 g1 k3
      have hT4 := hQ2.turn k4 g2 (by rw [List.length_set])
      have hXp : (⟨xq.R.set i (z.setAt q y.claim), xq.net⟩ : Qs) = xq.put i (z.setAt q y.claim) := rfl
      rw [hXp] at hT4
      obtain ⟨v4, hQ4, o4, kk4⟩ := hT4
      have b3 := g2.hc hiz (o := 3) (by decide) (v := I6 z.ba) rfl
      have t0 := g2.gc hiz hzl hq16 (o := 12) (by decide) (v := I6 y.kept.c) rfl
      have t1 : w4.cell? (A6 Rb (i * 396 + 12 + q * 24 + 12 + 1)) = some (I6 y.kept.q) := g2.gc hiz hzl hq16 (o := 13) (by decide) rfl
      have t2 : w4.cell? (A6 Rb (i * 396 + 12 + q * 24 + 12 + 2)) = some (I6 y.kept.h) := g2.gc hiz hzl hq16 (o := 14) (by decide) rfl
      have t3 : w4.cell? (A6 Rb (i * 396 + 12 + q * 24 + 12 + 3)) = some (.string y.kept.t) := g2.gc hiz hzl hq16 (o := 15) (by decide) rfl
      have hAl := rall_any (hQ4.below (Below.drew (Below.refl _ _))) ⟨⟨3, (i : Int), 0, z.ba, (q : Int), y.kept, []⟩, .slice none 0 0⟩ (Nm.okt_nil _ _ rfl) i rfl
      simp only [Nm.cells] at hAl
      have HL2 : Hid (x1.leadTo i (q + 1) = (xq.put i (z.setAt q y.claim)).all ⟨3, (i : Int), 0, z.ba, (q : Int), y.kept, []⟩ i) := by
       show _ = _
       rw [HL.out]
       exact all_same (m := msg 3 z.ba (q : Int) y.kept []) (m' := ⟨3, (i : Int), 0, z.ba, (q : Int), y.kept, []⟩) (fun _ => rfl)
      clear HL
      go_wp2_with fail
      refine wp_region_held_drew (S := fun w' => w'.cell? (A6 Rb (i * 396 + 3)) = some (I6 z.ba) ∧ w'.cell? (A6 Rb (i * 396 + 12 + q * 24 + 12)) = some (I6 y.kept.c) ∧ w'.cell? (A6 Rb (i * 396 + 12 + q * 24 + 12 + 1)) = some (I6 y.kept.q) ∧ w'.cell? (A6 Rb (i * 396 + 12 + q * 24 + 12 + 2)) = some (I6 y.kept.h) ∧ w'.cell? (A6 Rb (i * 396 + 12 + q * 24 + 12 + 3)) = some (.string y.kept.t)) (by kernel_rfl) (⟨b3, t0, t1, t2, t3⟩) (fun hS => ?_)
      refine tk 0 rfl hS (v := ?_) (fun w' hw => ?_) ?_
      rotate_left 1
      ·have d1 := hw.1; have d2 := hw.2.1; have d3 := hw.2.2.1; have d4 := hw.2.2.2.1; have d5 := hw.2.2.2.2; go_simp; all_goals with_reducible rfl
      try simp only [ly]
      refine tk 1 rfl hS (v := ?_) (fun w' hw => ?_) ?_
      rotate_left 1
      ·have d1 := hw.1; have d2 := hw.2.1; have d3 := hw.2.2.1; have d4 := hw.2.2.2.1; have d5 := hw.2.2.2.2; go_simp; all_goals with_reducible rfl
      try simp only [ly]
      refine tk 2 rfl hS (v := ?_) (fun w' hw => ?_) ?_
      rotate_left 1
      ·have d1 := hw.1; have d2 := hw.2.1; have d3 := hw.2.2.1; have d4 := hw.2.2.2.1; have d5 := hw.2.2.2.2; go_simp; all_goals with_reducible rfl
      try simp only [ly]
      refine tk 3 rfl hS (v := ?_) (fun w' hw => ?_) ?_
      rotate_left 1
      ·have d1 := hw.1; have d2 := hw.2.1; have d3 := hw.2.2.1; have d4 := hw.2.2.2.1; have d5 := hw.2.2.2.2; go_simp; all_goals with_reducible rfl
      try simp only [ly]
      refine tk 4 rfl hS (v := ?_) (fun w' hw => ?_) ?_
      rotate_left 1
      ·have d1 := hw.1; have d2 := hw.2.1; have d3 := hw.2.2.1; have d4 := hw.2.2.2.1; have d5 := hw.2.2.2.2; go_simp; all_goals with_reducible rfl
      try simp only [ly]
      refine tk 5 rfl hS (v := ?_) (fun w' hw => ?_) ?_
      rotate_left 1
      ·have d1 := hw.1; have d2 := hw.2.1; have d3 := hw.2.2.1; have d4 := hw.2.2.2.1; have d5 := hw.2.2.2.2; go_simp; all_goals with_reducible rfl
      try simp only [ly]
      refine tk 6 rfl hS (v := ?_) (fun w' hw => ?_) ?_
      rotate_left 1
      ·have d1 := hw.1; have d2 := hw.2.1; have d3 := hw.2.2.1; have d4 := hw.2.2.2.1; have d5 := hw.2.2.2.2; go_simp; all_goals with_reducible rfl
      try simp only [ly]
      refine tk 7 rfl hS (v := ?_) (fun w' hw => ?_) ?_
      rotate_left 1
      ·have d1 := hw.1; have d2 := hw.2.1; have d3 := hw.2.2.1; have d4 := hw.2.2.2.1; have d5 := hw.2.2.2.2; go_simp; all_goals with_reducible rfl
      try simp only [ly]
      refine tk 8 rfl hS (v := ?_) (fun w' hw => ?_) ?_
      rotate_left 1
      ·have d1 := hw.1; have d2 := hw.2.1; have d3 := hw.2.2.1; have d4 := hw.2.2.2.1; have d5 := hw.2.2.2.2; go_simp; all_goals with_reducible rfl
      try simp only [ly]
      refine tk 9 rfl hS (v := ?_) (fun w' hw => ?_) ?_
      rotate_left 1
      ·have d1 := hw.1; have d2 := hw.2.1; have d3 := hw.2.2.1; have d4 := hw.2.2.2.1; have d5 := hw.2.2.2.2; go_simp; all_goals with_reducible rfl
      try simp only [ly]
      refine tk 10 rfl hS (v := ?_) (fun w' hw => ?_) ?_
      rotate_left 1
      ·have d1 := hw.1; have d2 := hw.2.1; have d3 := hw.2.2.1; have d4 := hw.2.2.2.1; have d5 := hw.2.2.2.2; go_simp; all_goals with_reducible rfl
      try simp only [ly]
      refine tk 11 rfl hS (v := ?_) (fun w' hw => ?_) ?_
      rotate_left 1
      ·have d1 := hw.1; have d2 := hw.2.1; have d3 := hw.2.2.1; have d4 := hw.2.2.2.1; have d5 := hw.2.2.2.2; go_simp; all_goals with_reducible rfl
      try simp only [ly]
      refine tk 12 rfl hS (v := ?_) (fun w' hw => ?_) ?_
      rotate_left 1
      ·have d1 := hw.1; have d2 := hw.2.1; have d3 := hw.2.2.1; have d4 := hw.2.2.2.1; have d5 := hw.2.2.2.2; go_simp; all_goals with_reducible rfl
      try simp only [ly]
      refine tk 13 rfl hS (v := ?_) (fun w' hw => ?_) ?_
      rotate_left 1
      ·have d1 := hw.1; have d2 := hw.2.1; have d3 := hw.2.2.1; have d4 := hw.2.2.2.1; have d5 := hw.2.2.2.2; go_simp; all_goals with_reducible rfl
      try simp only [ly]
      refine tk 14 rfl hS (v := ?_) (fun w' hw => ?_) ?_
      rotate_left 1
      ·have d1 := hw.1; have d2 := hw.2.1; have d3 := hw.2.2.1; have d4 := hw.2.2.2.1; have d5 := hw.2.2.2.2; go_simp; all_goals with_reducible rfl
      try simp only [ly]
      refine r1 15 rfl (fun K hK => ?_)
      go_simp
      refine hAl.mono ?_
      rintro e w5 ⟨rfl, v5, hQ5, o5, kk5⟩
      clear hAl
      have hR5 : RAt w5 Rb (xq.R.set i (z.setAt q y.claim)) := by
       have := hQ5.reps
       rw [rall_R] at this
       exact this
      have b3' := hR5.hc hiz (o := 3) (by decide) (v := I6 z.ba) rfl
      have t0' := hR5.gc hiz hzl hq16 (o := 12) (by decide) (v := I6 y.kept.c) rfl
      have t1' : w5.cell? (A6 Rb (i * 396 + 12 + q * 24 + 12 + 1)) = some (I6 y.kept.q) := hR5.gc hiz hzl hq16 (o := 13) (by decide) rfl
      have t2' : w5.cell? (A6 Rb (i * 396 + 12 + q * 24 + 12 + 2)) = some (I6 y.kept.h) := hR5.gc hiz hzl hq16 (o := 14) (by decide) rfl
      have t3' : w5.cell? (A6 Rb (i * 396 + 12 + q * 24 + 12 + 3)) = some (.string y.kept.t) := hR5.gc hiz hzl hq16 (o := 15) (by decide) rfl
      have hfin := QTo.next o2 kk2 (QTo.next o4 kk4 (QTo.after (Below.drew (Below.refl _ w4)) ⟨v5, hQ5, o5, kk5⟩))
      rw [← HL2.out] at hfin
      obtain ⟨v6, hQ6, o6, kk6⟩ := hfin
      clear hQ5 o5 kk5
      go_wp2_with fail
      refine hK.out _ _ ⟨b3', t0', t1', t2', t3'⟩ (fun hS => ?_)
      clear hK K
      try simp only [ly]
      refine dn ?_ _
      clear b3 t0 t1 t2 t3 b3' t0' t1' t2' t3'
      go_wp2_with fail
      go_roundw
      case rel => exact ⟨q + 1, v6, by omega, by go_num, hQ6, o6, kk6⟩
      case measure => simp [intOf]; omega
     ·rw [hB] at c5
      rw [hB] at HL
      have HL2 : Hid (x1.leadTo i (q + 1) = xq) := HL.out
      clear HL hB
      go_wp2_with fail
      go_roundw
      case rel => exact ⟨q + 1, v2, by omega, by go_num, by rw [HL2.out]; exact hQ2, o2, kk2⟩
      case measure => simp [intOf]; omega
    ·have hqe : q = N := by omega
     have m2 : ¬ (q : Int) < (N : Int) := by omega
     have HE : Hid (x.leads i = xq) := by show _ = _; rw [HX.out, ← hqe]; exact HXq.out
     clear hqe
     go_wp2_with fail
     go_end0
     exact ⟨rfl, v2, by rw [HE.out]; exact hQ2, o2, kk2⟩
end
section
open Go.RowKit
section
variable {w : World} {qb Rb : Nat} {v : Value} {x : Qs}
set_option maxHeartbeats 2000000 in
theorem rcrash_any (h : QAt w qb Rb v x) {i : Nat} (hi : i < x.R.length) :
  Calls Tryz.prog 46 #[P6 qb, I6 (i : Int)] w fun e w' => e = .returned (I6 0) ∧ QTo w qb Rb v w' (x.crash i) := by
 have hIs := ris_yes h hi
 have hI := idle_any h.reps hi
 have d0 := h.c0
 have q0 : (0 : Int) ≤ (i : Int) := by omega
 have q1 : (i : Int) < (x.R.length : Int) := by omega
 go_enter Tryz.func46, Tryz.ntmps46
 go_wp2_with fail
 refine hIs.mono ?_
 rintro e w' ⟨rfl, hw'⟩
 have hw9 := hw'.symm
 subst hw9
 clear hIs hw'
 go_wp2_with fail
 refine hI.mono ?_
 rintro e w1 ⟨rfl, g1, k1⟩
 clear hI d0
 have d1 : w1.cell? (A6 qb 0) = some (.slice (some (A6 Rb 0)) x.R.length x.R.length) := (blk_cell (blk_keeps k1 h.syn h.ne) 0).trans rfl
 have c1 := g1.hc hi (o := 1) (by decide) rfl
 have z1 := g1.fz (i * 396 + 1)
 have g2 := g1.hd hi (v := I6 0) (x.rep i).crash (o := 1) (by decide) rfl rfl rfl
 have k2 := k1.trans (keeps_set w1 Rb (i * 396 + 1) (I6 0))
 go_wp2_with fail
 go_ret
 exact ⟨rfl, h.turn k2 g2 (by rw [List.length_set])⟩
theorem rcrash_no (h : QAt w qb Rb v x) {i : Int} (hi : i < 0 ∨ (x.R.length : Int) ≤ i) :
  Calls Tryz.prog 46 #[P6 qb, I6 i] w fun e w' => e = .returned (I6 1) ∧ w' = w := by
 have hIs := ris_no h hi
 go_enter Tryz.func46, Tryz.ntmps46
 go_wp2_with fail
 refine hIs.mono ?_
 rintro e w' ⟨rfl, hw'⟩
 clear hIs
 go_wp2_with fail
 go_ret
 exact ⟨rfl, rfl⟩
theorem rcamp_no (h : QAt w qb Rb v x) {i : Int} (hi : i < 0 ∨ (x.R.length : Int) ≤ i) :
  Calls Tryz.prog 36 #[P6 qb, I6 i] w fun e w' => e = .returned (I6 1) ∧ w' = w := by
 have hIs := ris_no h hi
 go_enter Tryz.func36, Tryz.ntmps36
 go_wp2_with fail
 refine hIs.mono ?_
 rintro e w' ⟨rfl, hw'⟩
 clear hIs
 go_wp2_with fail
 go_ret
 exact ⟨rfl, rfl⟩
end
end
end Go.Proofs.YtnnhnekfokbooaaGreatDoor
