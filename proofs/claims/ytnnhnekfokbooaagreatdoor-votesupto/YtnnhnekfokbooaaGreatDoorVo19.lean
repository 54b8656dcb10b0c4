/- The walks of the document's own small methods: idle, yields, is, there, most. -/
import Derived.Test.YtnnhnekfokbooaaGreatDoorVo18
namespace Go.Proofs.YtnnhnekfokbooaaGreatDoor
open Go.RowKit
set_option linter.unusedSimpArgs false
set_option linter.unusedVariables false

def Rr.idleTo (r : Rr) : Nat → Rr
 | 0 => ⟨r.pr, r.sn, 0, 0, 0, no7, r.sl⟩
 | k + 1 => (r.idleTo k).setAt k ((r.idleTo k).at k).clear
theorem idleTo_len (r : Rr) : ∀ k, (r.idleTo k).sl.length = r.sl.length
 | 0 => rfl
 | k + 1 => by show ((r.idleTo k).sl.set k _).length = _; rw [List.length_set]; exact idleTo_len r k
theorem idleTo_at (r : Rr) : ∀ k, k ≤ r.sl.length → ∀ q, (r.idleTo k).sl[q]? = if q < k then (r.sl[q]?).map Sl.clear else r.sl[q]?
 | 0, _, q => by rw [if_neg (by omega)]; rfl
 | k + 1, hk, q => by
  show ((r.idleTo k).sl.set k ((r.idleTo k).at k).clear)[q]? = _
  have ih := idleTo_at r k (by omega)
  by_cases e : q = k
  ·subst e
   rw [List.getElem?_set_self (by rw [idleTo_len]; omega), if_pos (by omega)]
   unfold Rr.at
   rw [List.getD_eq_getElem?_getD, ih q, if_neg (by omega), List.getElem?_eq_getElem (by omega)]
   rfl
  ·rw [List.getElem?_set_ne (Ne.symm e), ih q]
   by_cases h1 : q < k
   ·rw [if_pos h1, if_pos (by omega)]
   ·rw [if_neg h1, if_neg (by omega)]
theorem idleTo_all {r : Rr} (h : r.sl.length = 16) : r.idleTo 16 = r.idle := by
 have e : (r.idleTo 16).sl = r.idle.sl := by
  apply List.ext_getElem?
  intro q
  rw [idleTo_at r 16 (by omega)]
  show _ = (r.sl.map Sl.clear)[q]?
  rw [List.getElem?_map]
  split
  ·rfl
  ·rw [List.getElem?_eq_none (by omega)]; rfl
 have e2 : ∀ k, (r.idleTo k).pr = r.pr ∧ (r.idleTo k).sn = r.sn ∧ (r.idleTo k).ro = 0 ∧ (r.idleTo k).ba = 0 ∧ (r.idleTo k).nx = 0 ∧ (r.idleTo k).fr = no7 := fun k => by
  induction k with
  | zero => exact ⟨rfl, rfl, rfl, rfl, rfl, rfl⟩
  | succ k ih => exact ih
 obtain ⟨a1, a2, a3, a4, a5, a6⟩ := e2 16
 generalize r.idleTo 16 = z at *
 obtain ⟨z1, z2, z3, z4, z5, z6, z7⟩ := z
 simp only at a1 a2 a3 a4 a5 a6 e
 subst a1 a2 a3 a4 a5 a6 e
 rfl
theorem clear_ok (y : Sl) : y.clear.ok := by
 show no7.length = 7
 rfl
theorem clear_cells {y : Sl} (h : y.ok) : y.clear.cells = splice (Sl.cells ⟨y.b, y.v, y.is, y.fin, false, false, noPst, 0, y.vo⟩) 17 (no7.map Value.bool) := by
 have h7 : y.vo.length = 7 := h
 have e : ∀ A B C : List Value, A.length = 17 → B.length = 7 → C.length = 7 → A ++ C = splice (A ++ B) 17 C := fun A B C hA hB hC => by
  have e17 : 17 = A.length + 0 := by omega
  rw [e17, splice_right]
  unfold splice
  simp [hB, hC]
 exact e ([.int .i64 y.b] ++ y.v.cells ++ [.bool y.is] ++ y.fin.cells ++ [.bool false, .bool false] ++ noPst.cells ++ [.int .i64 0]) (y.vo.map Value.bool) (no7.map Value.bool) rfl (by rw [List.length_map]; exact h7) rfl
set_option maxHeartbeats 1000000 in
set_option maxRecDepth 100000 in
theorem idle_any {w : World} {Rb i : Nat} {R : List Rr} (h0 : RAt w Rb R) (hi : i < R.length) :
  Calls Tryz.prog 63 #[.pointer (some ⟨Rb, i * 396, none⟩)] w fun e w' => e = .returned (.tuple #[]) ∧ RAt w' Rb (R.set i (R.getD i noRr).idle) ∧ Keeps (fun k => k = Rb) w w' := by
 have h := h0.here hi
 generalize R.getD i noRr = r at *
 have hrk := h.rok hi
 have hi7 : (Tryz.prog.info? 109).map (·.size) = some (no7.map Value.bool).toArray.size := by kernel_rfl
 have h17 : (no7.map Value.bool).toArray.all (·.oneCell') = true := by kernel_rfl
 have Hi4 : Hid ((Tryz.prog.info? 33).map (·.size) = some (#[.int .i64 0, .int .i64 0, .int .i64 0, .string ⟨#[]⟩] : Array Value).size) := by show _ = _; kernel_rfl
 have H14 : Hid ((#[.int .i64 0, .int .i64 0, .int .i64 0, .string ⟨#[]⟩] : Array Value).all (·.oneCell') = true) := by show _ = _; simp [Value.oneCell']
 have Hi7 : Hid ((Tryz.prog.info? 109).map (·.size) = some (no7.map Value.bool).toArray.size) := hi7
 have H17 : Hid ((no7.map Value.bool).toArray.all (·.oneCell') = true) := h17
 clear hi7 h17
 have c2 := h.hc hi (o := 2) (by decide) rfl
 have z2 := h.fz (i * 396 + 2)
 go_enter Tryz.func63, Tryz.ntmps63
 go_upto_region 1 with (fail)
 have h1 := h.hd hi (v := .int .i64 0) ⟨r.pr, r.sn, 0, r.ba, r.nx, r.fr, r.sl⟩ (o := 2) (by decide) rfl rfl rfl
 have k1 := keeps_set w Rb (i * 396 + 2) (.int .i64 0)
 generalize w.setCell ⟨Rb, i * 396 + 2, none⟩ (.int .i64 0) = w1 at *
 clear c2 z2
 have c3 := h1.hc hi (o := 3) (by decide) rfl
 have z3 := h1.fz (i * 396 + 3)
 go_upto_region 2 with (fail)
 have h2 := h1.hd hi (v := .int .i64 0) ⟨r.pr, r.sn, 0, 0, r.nx, r.fr, r.sl⟩ (o := 3) (by decide) rfl rfl rfl
 have k2 := k1.trans (keeps_set w1 Rb (i * 396 + 3) (.int .i64 0))
 generalize w1.setCell ⟨Rb, i * 396 + 3, none⟩ (.int .i64 0) = w2 at *
 clear c3 z3 h1 k1
 have c4 := h2.hc hi (o := 4) (by decide) rfl
 have z4 := h2.fz (i * 396 + 4)
 go_upto_region 3 with (fail)
 have h3 := h2.hd hi (v := .int .i64 0) ⟨r.pr, r.sn, 0, 0, 0, r.fr, r.sl⟩ (o := 4) (by decide) rfl rfl rfl
 have k3 := k2.trans (keeps_set w2 Rb (i * 396 + 4) (.int .i64 0))
 generalize w2.setCell ⟨Rb, i * 396 + 4, none⟩ (.int .i64 0) = w3 at *
 clear c4 z4 h2 k2
 have Hth : Hid (World.there w3 Rb (i * 396 + 5) 7) := h3.there (by rw [List.length_set]; exact hi) (by decide)
 go_upto_region 4 with (refine wpList_store_mid rfl 109 (.tmp 15) (.tmp 13) rfl Rb (i * 396 + 5) (no7.map Value.bool).toArray rfl rfl Hth.out Hi7.out H17.out ?_; simp only [Act.put])
 have h4 := h3.from7 hi ⟨r.pr, r.sn, 0, 0, 0, no7, r.sl⟩ rfl rfl rfl
 have k4 := k3.trans (keeps_sets w3 Rb (i * 396 + 5) (no7.map Value.bool))
 generalize w3.setCells Rb (i * 396 + 5) (no7.map Value.bool) = w4 at *
 clear h3 k3 Hth
 go_wp2_with fail
 go_loopw [2] (fun v wr => ∃ (q : Nat), q ≤ 16 ∧ v = .int .i64 q ∧ RAt wr Rb (R.set i (r.idleTo q)) ∧ Keeps (fun k => k = Rb) w wr) (fun v _ => 16 - (intOf v).toNat)
 case atStart => exact ⟨0, by omega, rfl, h4, k4⟩
 case round =>
  clear h4 k4
  obtain ⟨q, hq, rfl, hR, hK⟩ := hrel
  by_cases hq16 : q < 16
  ·have q0 : (0 : Int) ≤ (q : Int) := by omega
   have q1 : (q : Int) < 16 := by omega
   have m1 : decide ((q : Int) < 16) = true := by simp; omega
   have hz : (r.idleTo q).sl.length = 16 := by rw [idleTo_len]; exact hrk.len
   have g0 := hR.open hi hq16
   have hyo := Rr.at_ok (hR.rok hi) q
   have Hn : Hid ((r.idleTo q).setAt q ((r.idleTo q).at q).clear = r.idleTo (q + 1)) := rfl
   generalize (r.idleTo q).at q = y at *
   generalize r.idleTo q = z at *
   have c10 := g0.gc hi hz hq16 (o := 10) (by decide) rfl
   have z10 := g0.fz (i * 396 + 12 + q * 24 + 10)
   go_upto_region 8 with (fail)
   have g1 := g0.gs1 hi hz hq16 (o := 10) (v := .bool false) ⟨y.b, y.v, y.is, y.fin, false, y.mine, y.kept, y.kb, y.vo⟩ (by decide) hyo rfl
   have k1 := hK.trans (keeps_set wr Rb (i * 396 + 12 + q * 24 + 10) (.bool false))
   generalize wr.setCell ⟨Rb, i * 396 + 12 + q * 24 + 10, none⟩ (.bool false) = w5 at *
   clear c10 z10 g0
   have c11 := g1.gc hi hz hq16 (o := 11) (by decide) rfl
   have z11 := g1.fz (i * 396 + 12 + q * 24 + 11)
   go_upto_region 9 with (fail)
   have g2 := g1.gs1 hi hz hq16 (o := 11) (v := .bool false) ⟨y.b, y.v, y.is, y.fin, false, false, y.kept, y.kb, y.vo⟩ (by decide) hyo rfl
   have k2 := k1.trans (keeps_set w5 Rb (i * 396 + 12 + q * 24 + 11) (.bool false))
   generalize w5.setCell ⟨Rb, i * 396 + 12 + q * 24 + 11, none⟩ (.bool false) = w6 at *
   clear c11 z11 g1 k1
   have Hth : Hid (World.there w6 Rb (i * 396 + 12 + q * 24 + 12) 4) := g2.thereS hi hq16 (by decide)
   go_upto_region 10 with (refine wpList_store_mid rfl 33 (.tmp 38) (.tmp 34) rfl Rb (i * 396 + 12 + q * 24 + 12) #[.int .i64 0, .int .i64 0, .int .i64 0, .string ⟨#[]⟩] rfl rfl Hth.out Hi4.out H14.out ?_; simp only [Act.put])
   have g3 := g2.gs hi hz hq16 (o := 12) (vs := (#[.int .i64 0, .int .i64 0, .int .i64 0, .string ⟨#[]⟩] : Array Value).toList) ⟨y.b, y.v, y.is, y.fin, false, false, noPst, y.kb, y.vo⟩ (by decide) hyo rfl
   have k3 := k2.trans (keeps_sets w6 Rb (i * 396 + 12 + q * 24 + 12) (#[.int .i64 0, .int .i64 0, .int .i64 0, .string ⟨#[]⟩] : Array Value).toList)
   generalize w6.setCells Rb (i * 396 + 12 + q * 24 + 12) (#[.int .i64 0, .int .i64 0, .int .i64 0, .string ⟨#[]⟩] : Array Value).toList = w7 at *
   clear Hth g2 k2
   have c16 := g3.gc hi hz hq16 (o := 16) (by decide) rfl
   have z16 := g3.fz (i * 396 + 12 + q * 24 + 16)
   go_upto_region 11 with (fail)
   have g4 := g3.gs1 hi hz hq16 (o := 16) (v := .int .i64 0) ⟨y.b, y.v, y.is, y.fin, false, false, noPst, 0, y.vo⟩ (by decide) hyo rfl
   have k4 := k3.trans (keeps_set w7 Rb (i * 396 + 12 + q * 24 + 16) (.int .i64 0))
   generalize w7.setCell ⟨Rb, i * 396 + 12 + q * 24 + 16, none⟩ (.int .i64 0) = w8 at *
   clear c16 z16 g3 k3
   have Hth : Hid (World.there w8 Rb (i * 396 + 12 + q * 24 + 17) 7) := g4.thereS hi hq16 (by decide)
   have hle17 : 17 + (no7.map Value.bool).length ≤ 24 := by rw [List.length_map]; exact Nat.le_refl _
   have hcl : y.clear.ok := clear_ok y
   have hsp := clear_cells hyo
   go_upto_region 6 with (refine wpList_store_mid rfl 109 (.tmp 51) (.tmp 47) rfl Rb (i * 396 + 12 + q * 24 + 17) (no7.map Value.bool).toArray rfl rfl Hth.out Hi7.out H17.out ?_; simp only [Act.put])
   have g5 := g4.gs hi hz hq16 (o := 17) (vs := no7.map Value.bool) y.clear hle17 hcl hsp
   have k5 := k4.trans (keeps_sets w8 Rb (i * 396 + 12 + q * 24 + 17) (no7.map Value.bool))
   rw [Hn.out] at g5
   generalize w8.setCells Rb (i * 396 + 12 + q * 24 + 17) (no7.map Value.bool) = w9 at *
   clear Hth
   go_wp2_with fail
   go_roundw
   case rel => exact ⟨q + 1, by omega, by go_num, g5, k5⟩
   case measure => simp [intOf]; omega
  ·have hqe : q = 16 := by omega
   have m1 : decide ((q : Int) < 16) = false := by simp; omega
   have m2 : ¬ (q : Int) < 16 := by omega
   rw [hqe, idleTo_all hrk.len] at hR
   clear hqe
   go_wp2_with fail
   go_end0
   exact ⟨rfl, hR, hK⟩
end Go.Proofs.YtnnhnekfokbooaaGreatDoor
