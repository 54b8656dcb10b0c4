/- The walks of the document's yields, Campaign (laid by mkrne.py). -/
import Derived.Test.YtnnhnekfokbooaaGreatDoorVo20
import Derived.Test.YtnnhnekfokbooaaGreatDoorVo09
namespace Go.Proofs.YtnnhnekfokbooaaGreatDoor
open Go.RowKit
set_option linter.unusedSimpArgs false
set_option linter.unusedVariables false

set_option maxHeartbeats 2000000 in
set_option maxRecDepth 100000 in
theorem yields_any {w : World} {Rb i : Nat} {R : List Rr} (h0 : RAt w Rb R) (hi : i < R.length) (b : Int) :
  Calls Tryz.prog 106 #[.pointer (some ⟨Rb, i * 396, none⟩), .int .i64 b] w fun e w' => e = .returned (.tuple #[]) ∧ RAt w' Rb (R.set i ((R.getD i noRr).yields b)) ∧ Keeps (fun k => k = Rb) w w' := by
 have hI := idle_any h0 hi
 have hq := h0.here hi
 generalize R.getD i noRr = r at *
 have c2 := hq.hc hi (o := 2) (by decide) rfl
 have c3 := hq.hc hi (o := 3) (by decide) rfl
 by_cases hro : r.ro = 0
 ·have m0 : (r.ro != 0) = false := by simp [hro]
  have HY : Hid (r.yields b = ⟨r.pr, if r.sn < b then b else r.sn, r.ro, r.ba, r.nx, r.fr, r.sl⟩) := by
   show _ = _
   unfold Rr.yields
   have hn : ¬ (r.ro ≠ 0 ∧ r.ba < b) := fun h => h.1 hro
   simp only [if_neg hn]
  clear hI
  have k0 : Keeps (fun k => k = Rb) w w := Keeps.refl _ _
  clear hro
  go_enter Tryz.func106, Tryz.ntmps106
  go_upto_region 2 with (fail)
  clear c2 c3 m0
  have c1 := hq.hc hi (o := 1) (by decide) rfl
  have z1 := hq.fz (i * 396 + 1)
  by_cases hs : (r).sn < b
  ·have m1 : decide ((r).sn < b) = true := by simp; exact hs
   go_wp2_with fail
   go_end0
   have h2 := hq.hd hi (v := .int .i64 b) ⟨(r).pr, b, (r).ro, (r).ba, (r).nx, (r).fr, (r).sl⟩ (o := 1) (by decide) rfl rfl rfl
   refine ⟨rfl, ?_, k0.trans (keeps_set w Rb (i * 396 + 1) (.int .i64 b))⟩
   have e : (if (r).sn < b then b else (r).sn) = b := if_pos hs
   rw [HY.out, e]; exact h2
  ·have m1 : decide ((r).sn < b) = false := by simp; omega
   go_wp2_with fail
   go_end0
   refine ⟨rfl, ?_, k0⟩
   have e : (if (r).sn < b then b else (r).sn) = (r).sn := if_neg (by omega)
   rw [HY.out, e]; exact hq
 ·have m0 : (r.ro != 0) = true := by simp [hro]
  by_cases hb : r.ba < b
  ·have m2 : decide (r.ba < b) = true := by simp; exact hb
   have HY : Hid (r.yields b = ⟨r.idle.pr, if r.idle.sn < b then b else r.idle.sn, r.idle.ro, r.idle.ba, r.idle.nx, r.idle.fr, r.idle.sl⟩) := by
    show _ = _
    unfold Rr.yields
    simp only [if_pos (show r.ro ≠ 0 ∧ r.ba < b from ⟨hro, hb⟩)]
   clear hro
   go_enter Tryz.func106, Tryz.ntmps106
   go_wp2_with fail
   refine hI.mono ?_
   rintro e w1 ⟨rfl, hq1, k1⟩
   clear hI c2 c3 m0 m2 hq
   have hq := hq1
   clear hq1
   go_upto_region 2 with (fail)
   have c1 := hq.hc hi (o := 1) (by decide) rfl
   have z1 := hq.fz (i * 396 + 1)
   by_cases hs : (r.idle).sn < b
   ·have m1 : decide ((r.idle).sn < b) = true := by simp; exact hs
    go_wp2_with fail
    go_end0
    have h2 := hq.hd hi (v := .int .i64 b) ⟨(r.idle).pr, b, (r.idle).ro, (r.idle).ba, (r.idle).nx, (r.idle).fr, (r.idle).sl⟩ (o := 1) (by decide) rfl rfl rfl
    refine ⟨rfl, ?_, k1.trans (keeps_set w1 Rb (i * 396 + 1) (.int .i64 b))⟩
    have e : (if (r.idle).sn < b then b else (r.idle).sn) = b := if_pos hs
    rw [HY.out, e]; exact h2
   ·have m1 : decide ((r.idle).sn < b) = false := by simp; omega
    go_wp2_with fail
    go_end0
    refine ⟨rfl, ?_, k1⟩
    have e : (if (r.idle).sn < b then b else (r.idle).sn) = (r.idle).sn := if_neg (by omega)
    rw [HY.out, e]; exact hq
  ·have m2 : decide (r.ba < b) = false := by simp; omega
   have HY : Hid (r.yields b = ⟨r.pr, if r.sn < b then b else r.sn, r.ro, r.ba, r.nx, r.fr, r.sl⟩) := by
    show _ = _
    unfold Rr.yields
    have hn : ¬ (r.ro ≠ 0 ∧ r.ba < b) := fun h => hb h.2
    simp only [if_neg hn]
   clear hI
   have k0 : Keeps (fun k => k = Rb) w w := Keeps.refl _ _
   clear hro hb
   go_enter Tryz.func106, Tryz.ntmps106
   go_upto_region 2 with (fail)
   clear c2 c3 m0 m2
   have c1 := hq.hc hi (o := 1) (by decide) rfl
   have z1 := hq.fz (i * 396 + 1)
   by_cases hs : (r).sn < b
   ·have m1 : decide ((r).sn < b) = true := by simp; exact hs
    go_wp2_with fail
    go_end0
    have h2 := hq.hd hi (v := .int .i64 b) ⟨(r).pr, b, (r).ro, (r).ba, (r).nx, (r).fr, (r).sl⟩ (o := 1) (by decide) rfl rfl rfl
    refine ⟨rfl, ?_, k0.trans (keeps_set w Rb (i * 396 + 1) (.int .i64 b))⟩
    have e : (if (r).sn < b then b else (r).sn) = b := if_pos hs
    rw [HY.out, e]; exact h2
   ·have m1 : decide ((r).sn < b) = false := by simp; omega
    go_wp2_with fail
    go_end0
    refine ⟨rfl, ?_, k0⟩
    have e : (if (r).sn < b then b else (r).sn) = (r).sn := if_neg (by omega)
    rw [HY.out, e]; exact hq
theorem wrap_ok (a : Int) (h0 : -9223372036854775808 ≤ a) (h1 : a ≤ 9223372036854775807) : IntKind.i64.wrap a = a := by
 rw [IntKind.wrap_i64]; omega
theorem QTo.next {w w1 w2 : World} {qb Rb : Nat} {v v1 : Value} {x2 : Qs} (o1 : ∀ k, qOwn qb Rb v1 k → qOwn qb Rb v k ∨ w.heap.size ≤ k) (k1 : Keeps (qOwn qb Rb v) w w1) (b : QTo w1 qb Rb v1 w2 x2) : QTo w qb Rb v w2 x2 := by
 obtain ⟨v2, h2, o2, k2⟩ := b
 refine ⟨v2, h2, fun k hk => ?_, ?_⟩
 ·rcases o2 k hk with h | h
  ·exact o1 k h
  ·exact .inr (Nat.le_trans k1.size h)
 ·refine ⟨k2.os.trans k1.os, k2.tape.trans k1.tape, k2.output.trans k1.output, Nat.le_trans k1.size k2.size, fun k hk hno => ?_⟩
  rw [k2.block k (Nat.lt_of_lt_of_le hk k1.size) (fun ho => by rcases o1 k ho with h | h; exact hno h; omega)]
  exact k1.block k hk hno
theorem all_same {x : Qs} {m m' : Ms} {f : Nat} (h : ∀ t : Nat, m.to (f : Int) (t : Int) = m'.to (f : Int) (t : Int)) : x.all m f = x.all m' f := by
 unfold Qs.all
 generalize List.range x.R.length = l
 induction l generalizing x with
 | nil => rfl
 | cons t l ih =>
  show (x.send _).sendTo m f l = (x.send _).sendTo m' f l
  rw [h t]
  exact ih
set_option maxHeartbeats 4000000 in
set_option maxRecDepth 100000 in
theorem rcamp_any {w : World} {qb Rb : Nat} {v : Value} {x : Qs} (h : QAt w qb Rb v x) {i : Nat} (hi : i < x.R.length) (hp : 0 ≤ (x.rep i).pr ∧ (x.rep i).pr ≤ 8007 ∧ 0 ≤ (x.rep i).sn ∧ (x.rep i).sn ≤ 8007) :
  Calls Tryz.prog 36 #[.pointer (some ⟨qb, 0, none⟩), .int .i64 (i : Int)] w fun e w' => e = .returned (.int .i64 (x.campE i)) ∧ QTo w qb Rb v w' (x.campaign i) := by
 have hIs := ris_yes h hi
 have hq := h.reps.here hi
 obtain ⟨a, c, hv, d1⟩ := h.c1
 have d0 := h.c0
 have h7 := h.n1
 have hfull := h.full
 have hR : x.rep i = x.R.getD i noRr := rfl
 rw [hR] at hp
 generalize hr : x.R.getD i noRr = r at *
 have HR : Hid (x.rep i = r) := hr
 clear hr hR
 have p0 : w.cell? ⟨Rb, i * 396, none⟩ = some (.int .i64 r.pr) := hq.hc hi (o := 0) (by decide) rfl
 have p1 := hq.hc hi (o := 1) (by decide) rfl
 have q0 : (0 : Int) ≤ (i : Int) := by omega
 have q1 : (i : Int) < (x.R.length : Int) := by omega
 obtain ⟨hp0, hp1, hp2, hp3⟩ := hp
 go_enter Tryz.func36, Tryz.ntmps36
 go_wp2_with fail
 refine hIs.mono ?_
 rintro e w' ⟨rfl, hw'⟩
 have hw9 := hw'.symm
 subst hw9
 clear hIs hw'
 by_cases hlt : r.pr < r.sn
 ·have m0 : decide (r.pr < r.sn) = true := by simp; exact hlt
  have HT : Hid (r.top = r.sn) := by show _ = _; unfold Rr.top; rw [if_pos hlt]
  have e8 : (r.sn).tdiv 8 = r.sn / 8 := Int.tdiv_eq_ediv_of_nonneg (by omega)
  have v1 : IntKind.i64.wrap ((r.sn).tdiv 8) = r.sn / 8 := by rw [e8]; exact wrap_ok _ (by omega) (by omega)
  have v2 : IntKind.i64.wrap (r.sn / 8 + 1) = r.sn / 8 + 1 := wrap_ok _ (by omega) (by omega)
  have v3 : IntKind.i64.wrap (8 * (r.sn / 8 + 1)) = 8 * (r.sn / 8 + 1) := wrap_ok _ (by omega) (by omega)
  have v4 : IntKind.i64.wrap (8 * (r.sn / 8 + 1) + (i : Int)) = 8 * (r.sn / 8 + 1) + (i : Int) := wrap_ok _ (by omega) (by omega)
  have v5 : IntKind.i64.wrap ((x.net.length : Int) + (x.R.length : Int)) = (x.net.length : Int) + (x.R.length : Int) := wrap_ok _ (by omega) (by omega)
  clear e8
  by_cases hr1 : 1000 < r.sn / 8 + 1
  ·have m1 : decide (1000 < r.sn / 8 + 1) = true := by simp; omega
   have hE : x.campE i = 7 := by unfold Qs.campE; rw [HR.out, HT.out, if_pos hr1]
   have hX : x.campaign i = x := by unfold Qs.campaign; rw [hE]; rfl
   have HE : Hid (x.campE i = 7 ∧ x.campaign i = x) := ⟨hE, hX⟩
   clear hE hX
   go_wp2_with fail
   go_ret
   rw [HE.out.1, HE.out.2]
   exact ⟨rfl, QTo.refl h⟩
  ·have m1 : decide (1000 < r.sn / 8 + 1) = false := by simp; omega
   by_cases hr2 : 200 < (x.net.length : Int) + (x.R.length : Int)
   ·have m2 : decide (200 < (x.net.length : Int) + (x.R.length : Int)) = true := by simp; omega
    have hE : x.campE i = 6 := by unfold Qs.campE; rw [HR.out, HT.out, if_neg hr1, if_pos hr2]
    have hX : x.campaign i = x := by unfold Qs.campaign; rw [hE]; rfl
    have HE : Hid (x.campE i = 6 ∧ x.campaign i = x) := ⟨hE, hX⟩
    clear hE hX
    go_wp2_with fail
    go_quiet (fail)
    go_wp2_with fail
    go_ret
    rw [HE.out.1, HE.out.2]
    exact ⟨rfl, (QTo.refl h).below (below_drewN (Below.refl _ _) _)⟩
   ·have m2 : decide (200 < (x.net.length : Int) + (x.R.length : Int)) = false := by simp; omega
    have hE : x.campE i = 0 := by unfold Qs.campE; rw [HR.out, HT.out, if_neg hr1, if_neg hr2]
    have HX : Hid (x.campaign i = (x.put i (r.prep (8 * (r.sn / 8 + 1) + i))).all (msg 1 (8 * (r.sn / 8 + 1) + i) 0 noPst []) i) := by
     show _ = _
     unfold Qs.campaign
     rw [hE, if_pos rfl, HR.out, HT.out]
    have HE : Hid (x.campE i = 0) := hE
    clear hE
    go_wp2_with fail
    go_quiet (fail)
    go_upto_region 13 with (fail)
    have hBd : Below w.heap.size w (w.drewN nq) := below_drewN (Below.refl _ _) nq
    generalize w.drewN nq = wd at *
    have hd := h.below hBd
    have hqd := hq.below hBd
    clear p0 p1 d0 d1 v1 v2 v5 m1 m2
    have e0 : wd.cell? ⟨Rb, i * 396, none⟩ = some (.int .i64 r.pr) := hqd.hc hi (o := 0) (by decide) rfl
    have z0 := hqd.fz (i * 396)
    go_upto_region 14 with (fail)
    generalize 8 * (r.sn / 8 + 1) + (i : Int) = B at *
    have g1 := hqd.hd hi (v := .int .i64 B) ⟨B, r.sn, r.ro, r.ba, r.nx, r.fr, r.sl⟩ (o := 0) (by decide) rfl rfl rfl
    have k1 := keeps_set wd Rb (i * 396 + 0) (.int .i64 B)
    simp only [Nat.add_zero] at g1 k1
    generalize wd.setCell ⟨Rb, i * 396, none⟩ (.int .i64 B) = w1 at *
    clear e0 z0
    have hI := idle_any g1 (i := i) (by rw [List.length_set]; exact hi)
    rw [getD_set_self hi, List.set_set] at hI
    go_wp2_with fail
    refine hI.mono ?_
    rintro e w2 ⟨rfl, g2, k2⟩
    clear hI
    have c2 := g2.hc hi (o := 2) (by decide) rfl
    have z2 := g2.fz (i * 396 + 2)
    go_upto_region 16 with (fail)
    have g3 := g2.hd hi (v := .int .i64 1) ⟨B, r.sn, 1, 0, 0, no7, r.sl.map Sl.clear⟩ (o := 2) (by decide) rfl rfl rfl
    have k3 := (k1.trans k2).trans (keeps_set w2 Rb (i * 396 + 2) (.int .i64 1))
    generalize w2.setCell ⟨Rb, i * 396 + 2, none⟩ (.int .i64 1) = w3 at *
    clear c2 z2 g1 g2 k1 k2
    have c0 : w3.cell? ⟨Rb, i * 396, none⟩ = some (.int .i64 B) := g3.hc hi (o := 0) (by decide) rfl
    have c3 := g3.hc hi (o := 3) (by decide) rfl
    have z3 := g3.fz (i * 396 + 3)
    go_upto_region 17 with (fail)
    have g4 := g3.hd hi (v := .int .i64 B) ⟨B, r.sn, 1, B, 0, no7, r.sl.map Sl.clear⟩ (o := 3) (by decide) rfl rfl rfl
    have k4 := k3.trans (keeps_set w3 Rb (i * 396 + 3) (.int .i64 B))
    generalize w3.setCell ⟨Rb, i * 396 + 3, none⟩ (.int .i64 B) = w4 at *
    clear c0 c3 z3 g3 k3
    have c3 := g4.hc hi (o := 3) (by decide) rfl
    have hT4 := hd.turn k4 g4 (by rw [List.length_set])
    obtain ⟨v4', hq4, o4, kk4⟩ := id hT4
    have hAl := rall_any hq4 ⟨⟨1, (i : Int), 0, B, 0, noPst, []⟩, .slice none 0 0⟩ (Nm.okt_nil _ _ rfl) i rfl
    simp only [Nm.cells, noPst] at hAl
    go_wp2_with fail
    refine hAl.mono ?_
    rintro e w5 ⟨rfl, hQ5⟩
    clear hAl c3
    go_wp2_with fail
    go_ret
    refine ⟨by rw [HE.out]; rfl, ?_⟩
    rw [HX.out, all_same (m := msg 1 B 0 noPst []) (m' := ⟨1, (i : Int), 0, B, 0, noPst, []⟩) (fun _ => rfl)]
    exact QTo.after hBd (QTo.next o4 kk4 hQ5)
 ·have m0 : decide (r.pr < r.sn) = false := by simp; omega
  have HT : Hid (r.top = r.pr) := by show _ = _; unfold Rr.top; rw [if_neg hlt]
  have e8 : (r.pr).tdiv 8 = r.pr / 8 := Int.tdiv_eq_ediv_of_nonneg (by omega)
  have v1 : IntKind.i64.wrap ((r.pr).tdiv 8) = r.pr / 8 := by rw [e8]; exact wrap_ok _ (by omega) (by omega)
  have v2 : IntKind.i64.wrap (r.pr / 8 + 1) = r.pr / 8 + 1 := wrap_ok _ (by omega) (by omega)
  have v3 : IntKind.i64.wrap (8 * (r.pr / 8 + 1)) = 8 * (r.pr / 8 + 1) := wrap_ok _ (by omega) (by omega)
  have v4 : IntKind.i64.wrap (8 * (r.pr / 8 + 1) + (i : Int)) = 8 * (r.pr / 8 + 1) + (i : Int) := wrap_ok _ (by omega) (by omega)
  have v5 : IntKind.i64.wrap ((x.net.length : Int) + (x.R.length : Int)) = (x.net.length : Int) + (x.R.length : Int) := wrap_ok _ (by omega) (by omega)
  clear e8
  by_cases hr1 : 1000 < r.pr / 8 + 1
  ·have m1 : decide (1000 < r.pr / 8 + 1) = true := by simp; omega
   have hE : x.campE i = 7 := by unfold Qs.campE; rw [HR.out, HT.out, if_pos hr1]
   have hX : x.campaign i = x := by unfold Qs.campaign; rw [hE]; rfl
   have HE : Hid (x.campE i = 7 ∧ x.campaign i = x) := ⟨hE, hX⟩
   clear hE hX
   go_wp2_with fail
   go_ret
   rw [HE.out.1, HE.out.2]
   exact ⟨rfl, QTo.refl h⟩
  ·have m1 : decide (1000 < r.pr / 8 + 1) = false := by simp; omega
   by_cases hr2 : 200 < (x.net.length : Int) + (x.R.length : Int)
   ·have m2 : decide (200 < (x.net.length : Int) + (x.R.length : Int)) = true := by simp; omega
    have hE : x.campE i = 6 := by unfold Qs.campE; rw [HR.out, HT.out, if_neg hr1, if_pos hr2]
    have hX : x.campaign i = x := by unfold Qs.campaign; rw [hE]; rfl
    have HE : Hid (x.campE i = 6 ∧ x.campaign i = x) := ⟨hE, hX⟩
    clear hE hX
    go_wp2_with fail
    go_quiet (fail)
    go_wp2_with fail
    go_ret
    rw [HE.out.1, HE.out.2]
    exact ⟨rfl, (QTo.refl h).below (below_drewN (Below.refl _ _) _)⟩
   ·have m2 : decide (200 < (x.net.length : Int) + (x.R.length : Int)) = false := by simp; omega
    have hE : x.campE i = 0 := by unfold Qs.campE; rw [HR.out, HT.out, if_neg hr1, if_neg hr2]
    have HX : Hid (x.campaign i = (x.put i (r.prep (8 * (r.pr / 8 + 1) + i))).all (msg 1 (8 * (r.pr / 8 + 1) + i) 0 noPst []) i) := by
     show _ = _
     unfold Qs.campaign
     rw [hE, if_pos rfl, HR.out, HT.out]
    have HE : Hid (x.campE i = 0) := hE
    clear hE
    go_wp2_with fail
    go_quiet (fail)
    go_upto_region 13 with (fail)
    have hBd : Below w.heap.size w (w.drewN nq) := below_drewN (Below.refl _ _) nq
    generalize w.drewN nq = wd at *
    have hd := h.below hBd
    have hqd := hq.below hBd
    clear p0 p1 d0 d1 v1 v2 v5 m1 m2
    have e0 : wd.cell? ⟨Rb, i * 396, none⟩ = some (.int .i64 r.pr) := hqd.hc hi (o := 0) (by decide) rfl
    have z0 := hqd.fz (i * 396)
    go_upto_region 14 with (fail)
    generalize 8 * (r.pr / 8 + 1) + (i : Int) = B at *
    have g1 := hqd.hd hi (v := .int .i64 B) ⟨B, r.sn, r.ro, r.ba, r.nx, r.fr, r.sl⟩ (o := 0) (by decide) rfl rfl rfl
    have k1 := keeps_set wd Rb (i * 396 + 0) (.int .i64 B)
    simp only [Nat.add_zero] at g1 k1
    generalize wd.setCell ⟨Rb, i * 396, none⟩ (.int .i64 B) = w1 at *
    clear e0 z0
    have hI := idle_any g1 (i := i) (by rw [List.length_set]; exact hi)
    rw [getD_set_self hi, List.set_set] at hI
    go_wp2_with fail
    refine hI.mono ?_
    rintro e w2 ⟨rfl, g2, k2⟩
    clear hI
    have c2 := g2.hc hi (o := 2) (by decide) rfl
    have z2 := g2.fz (i * 396 + 2)
    go_upto_region 16 with (fail)
    have g3 := g2.hd hi (v := .int .i64 1) ⟨B, r.sn, 1, 0, 0, no7, r.sl.map Sl.clear⟩ (o := 2) (by decide) rfl rfl rfl
    have k3 := (k1.trans k2).trans (keeps_set w2 Rb (i * 396 + 2) (.int .i64 1))
    generalize w2.setCell ⟨Rb, i * 396 + 2, none⟩ (.int .i64 1) = w3 at *
    clear c2 z2 g1 g2 k1 k2
    have c0 : w3.cell? ⟨Rb, i * 396, none⟩ = some (.int .i64 B) := g3.hc hi (o := 0) (by decide) rfl
    have c3 := g3.hc hi (o := 3) (by decide) rfl
    have z3 := g3.fz (i * 396 + 3)
    go_upto_region 17 with (fail)
    have g4 := g3.hd hi (v := .int .i64 B) ⟨B, r.sn, 1, B, 0, no7, r.sl.map Sl.clear⟩ (o := 3) (by decide) rfl rfl rfl
    have k4 := k3.trans (keeps_set w3 Rb (i * 396 + 3) (.int .i64 B))
    generalize w3.setCell ⟨Rb, i * 396 + 3, none⟩ (.int .i64 B) = w4 at *
    clear c0 c3 z3 g3 k3
    have c3 := g4.hc hi (o := 3) (by decide) rfl
    have hT4 := hd.turn k4 g4 (by rw [List.length_set])
    obtain ⟨v4', hq4, o4, kk4⟩ := id hT4
    have hAl := rall_any hq4 ⟨⟨1, (i : Int), 0, B, 0, noPst, []⟩, .slice none 0 0⟩ (Nm.okt_nil _ _ rfl) i rfl
    simp only [Nm.cells, noPst] at hAl
    go_wp2_with fail
    refine hAl.mono ?_
    rintro e w5 ⟨rfl, hQ5⟩
    clear hAl c3
    go_wp2_with fail
    go_ret
    refine ⟨by rw [HE.out]; rfl, ?_⟩
    rw [HX.out, all_same (m := msg 1 B 0 noPst []) (m' := ⟨1, (i : Int), 0, B, 0, noPst, []⟩) (fun _ => rfl)]
    exact QTo.after hBd (QTo.next o4 kk4 hQ5)
end Go.Proofs.YtnnhnekfokbooaaGreatDoor
