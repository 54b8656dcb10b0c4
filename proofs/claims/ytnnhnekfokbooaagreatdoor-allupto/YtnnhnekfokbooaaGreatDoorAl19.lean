/- RnL -/
import Derived.Test.YtnnhnekfokbooaaGreatDoorAl18
set_option linter.unusedSimpArgs false
set_option linter.unusedVariables false
set_option maxRecDepth 100000
namespace Go.Proofs.YtnnhnekfokbooaaGreatDoor
section
open Go.RowKit
theorem from_get {r : Rr} (h : r.ok) {f : Nat} (hf : f < 7) : r.cells[5 + f]? = some (.bool (r.fr.getD f false)) := by
 unfold Rr.cells
 have e : 5 + f = r.head.length + f := rfl
 have h7 := h.fr
 rw [e, List.getElem?_append_right (by omega), Nat.add_sub_cancel_left, List.getElem?_append_left (by rw [List.length_map]; omega), List.getElem?_map, List.getElem?_eq_getElem (by omega), List.getD_eq_getElem?_getD, List.getElem?_eq_getElem (by omega)]
 rfl
theorem rkeep_snoc : ∀ (a : List Vt) (u : Vt) (r : Rr), r.keepAll (a ++ [u]) = (r.keepAll a).setAt u.s.toNat (((r.keepAll a).at u.s.toNat).keep u)
 | [], u, r => rfl
 | b :: a, u, r => rkeep_snoc a u _
set_option maxHeartbeats 4000000 in
theorem rpromised_any {w : World} {qb Rb : Nat} {v : Value} {x : Qs} (h : QAt w qb Rb v x) (y0 : Nm) (hy : y0.okt w) {i f : Nat} (hi : i < x.R.length) (ht : y0.m.t = (i : Int)) (hf : y0.m.f = (f : Int)) (hf7 : f < 7) (hsl : ∀ u ∈ y0.m.a, 0 ≤ u.s ∧ u.s < 16) :
  Calls Tryz.prog 107 #[P6 qb, .agg y0.cells.toArray] w fun e w' => e = .returned (.tuple #[]) ∧ QTo w qb Rb v w' (x.promised i y0.m) := by
 obtain ⟨⟨mk, mf, mt, mb, ms, ⟨mc, mq, mh, mx⟩, ma⟩, xv⟩ := y0
 obtain ⟨xa, xc, hxe, hxf⟩ := hy.1.1.form
 simp only at ht hf hxe hsl hxf
 subst hxe ht hf
 have h7 := h.n1
 have hma : ma.length ≤ 1000 := hy.1.2
 simp only [Nm.cells]
 have hB1 : Below w.heap.size w (w.alloc (.cells #[I6 mk, I6 (f : Int), I6 (i : Int), I6 mb, I6 ms, I6 mc, I6 mq, I6 mh, .string mx, .slice xa ma.length xc] 36)) := (Below.refl _ w).alloc (Nat.le_refl _) _
 have hb1 := blk_new w (.cells #[I6 mk, I6 (f : Int), I6 (i : Int), I6 mb, I6 ms, I6 mc, I6 mq, I6 mh, .string mx, .slice xa ma.length xc] 36)
 have h1 := h.below hB1
 have hBw := hB1
 clear hB1
 have Hfin : Hid (∀ W, Below w.heap.size w W → QTo w qb Rb v W x) := fun W hW => (QTo.refl h).below hW
 have hno : ¬ qOwn qb Rb v w.heap.size := fun ho => by have := h.own_lt ho; omega
 obtain ⟨r, hr⟩ : ∃ r, r = x.R.getD i noRr := ⟨_, rfl⟩
 have HR : Hid (x.rep i = r) := by show _ = _; rw [hr]; rfl
 have Hr : Hid (x.R.getD i noRr = r) := by show _ = _; rw [hr]
 clear hr
 have q0 : (0 : Int) ≤ (i : Int) := by omega
 have q1 : (i : Int) < (x.R.length : Int) := by omega
 have q4 : (0 : Int) ≤ (f : Int) := by omega
 have q5 : (f : Int) < 7 := by omega
 have d0 := h1.c0
 have e1 : (w.alloc (.cells #[I6 mk, I6 (f : Int), I6 (i : Int), I6 mb, I6 ms, I6 mc, I6 mq, I6 mh, .string mx, .slice xa ma.length xc] 36)).cell? (A6 w.heap.size 1) = some (I6 (f : Int)) := (blk_cell hb1 1).trans rfl
 have e2 : (w.alloc (.cells #[I6 mk, I6 (f : Int), I6 (i : Int), I6 mb, I6 ms, I6 mc, I6 mq, I6 mh, .string mx, .slice xa ma.length xc] 36)).cell? (A6 w.heap.size 2) = some (I6 (i : Int)) := (blk_cell hb1 2).trans rfl
 have e3 : (w.alloc (.cells #[I6 mk, I6 (f : Int), I6 (i : Int), I6 mb, I6 ms, I6 mc, I6 mq, I6 mh, .string mx, .slice xa ma.length xc] 36)).cell? (A6 w.heap.size 3) = some (I6 mb) := (blk_cell hb1 3).trans rfl
 go_enter Tryz.func107, Tryz.ntmps107
 go_wp2_with fail
 generalize w.alloc (.cells #[I6 mk, I6 (f : Int), I6 (i : Int), I6 mb, I6 ms, I6 mc, I6 mq, I6 mh, .string mx, .slice xa ma.length xc] 36) = w1 at *
 go_quiet (fail)
 have hBn : Below (w1).heap.size (w1) ((w1).drewN nq) := below_drewN (Below.refl _ _) nq
 have h2 := h1.below hBn
 have hBw' : Below w.heap.size w ((w1).drewN nq) := Below.trans hBw (hBn.mono hBw.size)
 have hb2 := blk_below hBn hb1
 generalize (w1).drewN nq = w2 at *
 clear hBn hBw
 have hBw := hBw'
 clear hBw'
 clear d0 e1 e2 e3 h1 hb1
 have d0 := h2.c0
 have e1 : w2.cell? (A6 w.heap.size 1) = some (I6 (f : Int)) := (blk_cell hb2 1).trans rfl
 have e2 : w2.cell? (A6 w.heap.size 2) = some (I6 (i : Int)) := (blk_cell hb2 2).trans rfl
 have e3 : w2.cell? (A6 w.heap.size 3) = some (I6 mb) := (blk_cell hb2 3).trans rfl
 have hq := h2.reps.here hi
 rw [Hr.out] at hq
 have hrk := hq.rok hi
 have c2 := hq.hc hi (o := 2) (by decide) (v := I6 r.ro) rfl
 have c3 := hq.hc hi (o := 3) (by decide) (v := I6 r.ba) rfl
 have cf : w2.cell? (A6 Rb (i * 396 + 5 + f)) = some (.bool (r.fr.getD f false)) := by
  have e : i * 396 + 5 + f = i * 396 + (5 + f) := by omega
  rw [e]
  exact hq.hc hi (o := 5 + f) (by omega) (from_get hrk hf7)
 by_cases b0 : r.ro = 1
 ·have m0 : (r.ro != 1) = false := by simp [b0]
  by_cases b1 : r.ba = mb
  ·have m1 : (r.ba != mb) = false := by simp [b1]
   cases b3 : r.fr.getD f false
   ·rw [b3] at cf
    have Hb : Hid (r.ro = 1 ∧ r.ba = mb ∧ r.fr.getD f false = false) := ⟨b0, b1, b3⟩
    clear b0 b1 b3
    go_wp2_with fail
    go_quiet (fail)
    have hBn : Below (w2).heap.size (w2) ((w2).drewN nq) := below_drewN (Below.refl _ _) nq
    have h3 := h2.below hBn
    have hBw' : Below w.heap.size w ((w2).drewN nq) := Below.trans hBw (hBn.mono hBw.size)
    have hb3 := blk_below hBn hb2
    generalize (w2).drewN nq = w3 at *
    clear hBn hBw
    have hBw := hBw'
    clear hBw'
    clear d0 e1 e2 e3 c2 c3 cf hq m0 m1 h2 hb2
    have d0 := h3.c0
    have e1 : w3.cell? (A6 w.heap.size 1) = some (I6 (f : Int)) := (blk_cell hb3 1).trans rfl
    have e2 : w3.cell? (A6 w.heap.size 2) = some (I6 (i : Int)) := (blk_cell hb3 2).trans rfl
    have e3 : w3.cell? (A6 w.heap.size 3) = some (I6 mb) := (blk_cell hb3 3).trans rfl
    have hq3 := h3.reps.here hi
    rw [Hr.out] at hq3
    have cvd : w3.drew.cell? (A6 Rb (i * 396 + 5 + f)) = some (.bool (r.fr.getD f false)) := by
     show w3.cell? _ = _
     have e : i * 396 + 5 + f = i * 396 + (5 + f) := by omega
     rw [e]
     exact hq3.hc hi (o := 5 + f) (by omega) (from_get hrk hf7)
    have zvd : w3.drew.frozen? (A6 Rb (i * 396 + 5 + f)) = false := hq3.fz _
    have hHR : w.heap.size ≠ Rb := fun e => hno (.inr (.inl e))
    have hkv : Keeps (fun b => b = Rb) w3 (w3.setCell (A6 Rb (i * 396 + 5 + f)) (.bool true)).drew := (keeps_set _ _ _ _).trans (Keeps.ofBelow (Below.drew (Below.refl _ _)))
    have hb4 := blk_keeps hkv hb3 hHR
    have e1v : (w3.setCell (A6 Rb (i * 396 + 5 + f)) (.bool true)).drew.cell? (A6 w.heap.size 1) = some (I6 (f : Int)) := (blk_cell hb4 1).trans rfl
    have g4 : RAt (w3.setCell (A6 Rb (i * 396 + 5 + f)) (.bool true)).drew Rb (x.R.set i (r.from f)) := (hq3.vote1 hi hf7 (r.from f) rfl rfl rfl).below (Below.drew (Below.refl _ _))
    have h4 := h3.turn2 hkv g4 (by rw [List.length_set])
    have kw4 : Keeps (qOwn qb Rb v) w (w3.setCell (A6 Rb (i * 396 + 5 + f)) (.bool true)).drew := (Keeps.ofBelow hBw).trans (hkv.mono (fun b _ e => .inr (.inl e)))
    go_wp2_with fail
    refine wp_region_held_drew (S := fun w' => w'.cell? (A6 w.heap.size 1) = some (I6 (f : Int))) (by kernel_rfl) (e1) (fun hS => ?_)
    refine tk 0 rfl hS (v := ?_) (fun w' hw => ?_) ?_
    rotate_left 1
    ·have d9 := hw; go_simp; all_goals with_reducible rfl
    try simp only [ly]
    refine tk 1 rfl hS (v := ?_) (fun w' hw => ?_) ?_
    rotate_left 1
    ·have d9 := hw; go_simp; all_goals with_reducible rfl
    try simp only [ly]
    refine tk 2 rfl hS (v := ?_) (fun w' hw => ?_) ?_
    rotate_left 1
    ·have d9 := hw; go_simp; all_goals with_reducible rfl
    try simp only [ly]
    refine tk 3 rfl hS (v := ?_) (fun w' hw => ?_) ?_
    rotate_left 1
    ·have d9 := hw; go_simp; all_goals with_reducible rfl
    try simp only [ly]
    refine tk 4 rfl hS (v := ?_) (fun w' hw => ?_) ?_
    rotate_left 1
    ·have d9 := hw; go_simp; all_goals with_reducible rfl
    try simp only [ly]
    refine tk 5 rfl hS (v := ?_) (fun w' hw => ?_) ?_
    rotate_left 1
    ·have d9 := hw; go_simp; all_goals with_reducible rfl
    try simp only [ly]
    refine r1 6 rfl (fun K hK => ?_)
    go_simp
    refine hK.out _ _ e1v (fun hS => ?_)
    clear hK K
    try simp only [ly]
    refine dn ?_ _
    generalize (w3.setCell (A6 Rb (i * 396 + 5 + f)) (.bool true)).drew = w4 at *
    clear cvd zvd e1v hkv d0 e1 e2 e3 hS hq3 h3 hb3 hBw
    go_wp2_with fail
    go_loopw [5] (fun kv wr => ∃ (q : Nat), q ≤ ma.length ∧ kv = I6 q ∧ RAt wr Rb (x.R.set i ((r.from f).keepAll (ma.take q))) ∧ Keeps (fun b => b = Rb) w4 wr) (fun kv _ => ma.length - (intOf kv).toNat)
    case atStart => exact ⟨0, Nat.zero_le _, rfl, g4, Keeps.refl _ _⟩
    case round =>
     clear g4
     obtain ⟨q, hqm, rfl, gq, kq⟩ := hrel
     have hbq := blk_keeps kq hb4 hHR
     have e9 : wr.cell? (A6 w.heap.size 9) = some (.slice xa ma.length xc) := (blk_cell hbq 9).trans rfl
     by_cases hqn : q < ma.length
     ·obtain ⟨g, off, rfl, hg, hcells⟩ := hxf (by intro e; rw [e] at hqn; simp at hqn)
      obtain ⟨cs, hgc⟩ := hy.2 g rfl
      have hgc4 := blk_keeps kw4 hgc (h.vote hgc)
      have hgR : g ≠ Rb := fun e => by
       have h0 := h4.reps.1
       rw [← e, hgc4] at h0; injection h0 with e1; injection e1 with _ e1; simp at e1
      have hgcr := blk_keeps kq hgc4 hgR
      have hrd : ∀ j, j < 6 → wr.cell? ⟨g, off + (q * 6 + j), none⟩ = ma[q].cells[j]? := fun j hj => by
       have h0 : (vcells ma)[q * 6 + j]? = ma[q].cells[j]? := by
        rw [← vcells_cut ma q hqn, List.getElem?_take, if_pos hj, List.getElem?_drop]
       have h1 : ∃ u, ma[q].cells[j]? = some u := ⟨_, List.getElem?_eq_getElem (by show j < 6; exact hj)⟩
       obtain ⟨u, hu⟩ := h1
       rw [hu]
       have h2 := hcells (q * 6 + j) u (h0.trans hu)
       rw [blk_cell hgcr, ← blk_cell hgc]
       exact h2
      have hus := hsl ma[q] (List.getElem_mem hqn)
      have HN : Hid ((r.from f).keepAll (ma.take (q + 1)) = ((r.from f).keepAll (ma.take q)).setAt ma[q].s.toNat ((((r.from f).keepAll (ma.take q)).at ma[q].s.toNat).keep ma[q])) := by
       show _ = _
       rw [List.take_add_one, List.getElem?_eq_getElem hqn]
       exact rkeep_snoc _ _ _
      generalize ma[q] = u at *
      obtain ⟨us, ub, ⟨uc, uq, uh, ut⟩⟩ := u
      have o1 : ∀ j, off + (q * 6 + j) = off + q * 6 + j := fun j => by omega
      have t0 : wr.cell? (A6 g (off + q * 6)) = some (I6 us) := (o1 0) ▸ hrd 0 (by decide)
      have t1 : wr.cell? (A6 g (off + q * 6 + 1)) = some (I6 ub) := (o1 1) ▸ hrd 1 (by decide)
      have t2 : wr.cell? (A6 g (off + q * 6 + 2)) = some (I6 uc) := (o1 2) ▸ hrd 2 (by decide)
      have t3 : wr.cell? (A6 g (off + q * 6 + 3)) = some (I6 uq) := (o1 3) ▸ hrd 3 (by decide)
      have t4 : wr.cell? (A6 g (off + q * 6 + 4)) = some (I6 uh) := (o1 4) ▸ hrd 4 (by decide)
      have t5 : wr.cell? (A6 g (off + q * 6 + 5)) = some (.string ut) := (o1 5) ▸ hrd 5 (by decide)
      obtain ⟨sn, rfl⟩ := Int.eq_ofNat_of_zero_le hus.1
      have hs16 : sn < 16 := by have := hus.2; simp only at this; omega
      simp only [Int.toNat_natCast] at HN
      have p0 : (0 : Int) ≤ (q : Int) := by omega
      have p1 : (q : Int) < (ma.length : Int) := by omega
      have p2 : (0 : Int) ≤ (sn : Int) := by omega
      have p3 : (sn : Int) < 16 := by omega
      clear hrd hcells o1 hus
      go_upto_region 8 with (fail)
      have hva := blk_new wr (.cells #[I6 (sn : Int), I6 ub, I6 uc, I6 uq, I6 uh, .string ut] 53)
      have ka : Keeps (fun b => b = Rb) w4 (wr.alloc (.cells #[I6 (sn : Int), I6 ub, I6 uc, I6 uq, I6 uh, .string ut] 53)) := kq.trans (Keeps.ofBelow ((Below.refl _ wr).alloc (Nat.le_refl _) _))
      have ga := gq.below ((Below.refl _ wr).alloc (Nat.le_refl _) (.cells #[I6 (sn : Int), I6 ub, I6 uc, I6 uq, I6 uh, .string ut] 53))
      have hVR : wr.heap.size ≠ Rb := fun e => by have := lt_of_block gq.1; omega
      have hzl := (gq.rok hi).len
      have hyo := Rr.at_ok (gq.rok hi) sn
      generalize wr.alloc (.cells #[I6 (sn : Int), I6 ub, I6 uc, I6 uq, I6 uh, .string ut] 53) = wa at *
      generalize (r.from f).keepAll (ma.take q) = z at *
      clear t0 t1 t2 t3 t4 t5 e9 gq kq hbq hgcr hgc4
      have s0 : wa.cell? (A6 wr.heap.size 0) = some (I6 (sn : Int)) := (blk_cell hva 0).trans rfl
      go_quiet (fail)
      have hBn : Below (wa).heap.size (wa) ((wa).drewN nq) := below_drewN (Below.refl _ _) nq
      have gb := ga.below hBn
      have kb := ka.trans (Keeps.ofBelow hBn)
      have hvb := blk_below hBn hva
      generalize (wa).drewN nq = wb at *
      clear hBn ga ka hva
      clear s0
      have s1 : wb.cell? (A6 wr.heap.size 1) = some (I6 ub) := (blk_cell hvb 1).trans rfl
      have gz := gb.open hi hs16
      generalize z.at sn = y at *
      have c16 := gz.gc hi hzl hs16 (o := 16) (by decide) (v := I6 y.kb) rfl
      clear gb
      by_cases hlt : y.kb < ub
      ·have m1 : decide (y.kb < ub) = true := by simp; exact hlt
       have HK : Hid ((r.from f).keepAll (ma.take (q + 1)) = z.setAt sn ⟨y.b, y.v, y.is, y.fin, true, y.mine, ⟨uc, uq, uh, ut⟩, ub, y.vo⟩) := by
        show _ = _
        rw [HN.out]
        unfold Sl.keep
        rw [if_pos hlt]
       clear HN hlt
       have Hi4 : Hid ((Tryz.prog.info? 33).map (·.size) = some (#[I6 uc, I6 uq, I6 uh, .string ut] : Array Value).size) := by show _ = _; kernel_rfl
       have H14 : Hid ((#[I6 uc, I6 uq, I6 uh, .string ut] : Array Value).all (·.oneCell') = true) := by show _ = _; simp [Value.oneCell']
       go_wp2_with fail
       go_quiet (fail)
       have hBn : Below (wb).heap.size (wb) ((wb).drewN nq) := below_drewN (Below.refl _ _) nq
       have gc := gz.below hBn
       have kc := kb.trans (Keeps.ofBelow hBn)
       have hvc := blk_below hBn hvb
       generalize (wb).drewN nq = wc at *
       clear hBn gz kb hvb
       clear s1 c16
       have c10 := gc.gc hi hzl hs16 (o := 10) (by decide) rfl
       have z10 := gc.fz (i * 396 + 12 + sn * 24 + 10)
       go_upto_region 11 with (fail)
       have g10 := gc.gs1 hi hzl hs16 (o := 10) (v := .bool true) ⟨y.b, y.v, y.is, y.fin, true, y.mine, y.kept, y.kb, y.vo⟩ (by decide) hyo rfl
       have k10 := keeps_set wc Rb (i * 396 + 12 + sn * 24 + 10) (.bool true)
       have hv10 := blk_keeps k10 hvc hVR
       have kd := kc.trans k10
       generalize wc.setCell (A6 Rb (i * 396 + 12 + sn * 24 + 10)) (.bool true) = wd at *
       clear c10 z10 gc kc k10 hvc
       have s2 : wd.cell? (A6 wr.heap.size 2) = some (I6 uc) := (blk_cell hv10 2).trans rfl
       have s3 : wd.cell? (A6 wr.heap.size 3) = some (I6 uq) := (blk_cell hv10 3).trans rfl
       have s4 : wd.cell? (A6 wr.heap.size 4) = some (I6 uh) := (blk_cell hv10 4).trans rfl
       have s5 : wd.cell? (A6 wr.heap.size 5) = some (.string ut) := (blk_cell hv10 5).trans rfl
       have Hth : Hid (World.there wd Rb (i * 396 + 12 + sn * 24 + 12) 4) := g10.thereS hi hs16 (by decide)
       go_upto_region 12 with (refine wpList_store_mid rfl 33 (.tmp 77) (.tmp 75) rfl Rb (i * 396 + 12 + sn * 24 + 12) #[I6 uc, I6 uq, I6 uh, .string ut] rfl rfl Hth.out Hi4.out H14.out ?_; simp only [Act.put])
       have g12 := g10.gs hi hzl hs16 (o := 12) (vs := (#[I6 uc, I6 uq, I6 uh, .string ut] : Array Value).toList) ⟨y.b, y.v, y.is, y.fin, true, y.mine, ⟨uc, uq, uh, ut⟩, y.kb, y.vo⟩ (by show 12 + 4 ≤ 24; decide) hyo rfl
       have k12 := keeps_sets wd Rb (i * 396 + 12 + sn * 24 + 12) (#[I6 uc, I6 uq, I6 uh, .string ut] : Array Value).toList
       have hv12 := blk_keeps k12 hv10 hVR
       have ke := kd.trans k12
       generalize wd.setCells Rb (i * 396 + 12 + sn * 24 + 12) (#[I6 uc, I6 uq, I6 uh, .string ut] : Array Value).toList = we at *
       clear s2 s3 s4 s5 Hth g10 kd k12 hv10
       have s1 : we.cell? (A6 wr.heap.size 1) = some (I6 ub) := (blk_cell hv12 1).trans rfl
       have c16 := g12.gc hi hzl hs16 (o := 16) (by decide) rfl
       have z16 := g12.fz (i * 396 + 12 + sn * 24 + 16)
       have g16 := g12.gs1 hi hzl hs16 (o := 16) (v := I6 ub) ⟨y.b, y.v, y.is, y.fin, true, y.mine, ⟨uc, uq, uh, ut⟩, ub, y.vo⟩ (by decide) hyo rfl
       have k16 := ke.trans (keeps_set we Rb (i * 396 + 12 + sn * 24 + 16) (I6 ub))
       rw [← HK.out] at g16
       go_wp2_with fail
       go_roundw
       case rel => exact ⟨q + 1, by omega, by go_num, g16, k16⟩
       case measure => simp [intOf]; omega
      ·have m1 : decide (y.kb < ub) = false := by simp; omega
       have HK : Hid ((r.from f).keepAll (ma.take (q + 1)) = z.setAt sn y) := by
        show _ = _
        rw [HN.out]
        unfold Sl.keep
        rw [if_neg hlt]
       clear HN hlt
       go_wp2_with fail
       go_quiet (fail)
       have hBn : Below (wb).heap.size (wb) ((wb).drewN nq) := below_drewN (Below.refl _ _) nq
       have gc := gz.below hBn
       have kc := kb.trans (Keeps.ofBelow hBn)
       have hvc := blk_below hBn hvb
       generalize (wb).drewN nq = wc at *
       clear hBn gz kb hvb
       rw [← HK.out] at gc
       go_wp2_with fail
       go_roundw
       case rel => exact ⟨q + 1, by omega, by go_num, gc, kc⟩
       case measure => simp [intOf]; omega
     ·have hqe : q = ma.length := by omega
      have p1 : ¬ (q : Int) < (ma.length : Int) := by omega
      have hta : ma.take q = ma := by rw [hqe, List.take_length]
      rw [hta] at gq
      clear hqe hta hqn
      have hln : (x.put i ((r.from f).keepAll ma)).R.length = x.R.length := by unfold Qs.put; simp only [List.length_set]
      have hQr : QAt wr qb Rb v (x.put i ((r.from f).keepAll ma)) := h4.turn2 kq gq (by simp only [List.length_set])
      have kwr : Keeps (qOwn qb Rb v) w wr := kw4.trans (kq.mono (fun b _ e => .inr (.inl e)))
      have hfl : ((r.from f).keepAll ma).fr.length = 7 := (gq.rok hi).fr
      have hMo := most_any hQr ((r.from f).keepAll ma).fr hfl
      rw [hln] at hMo
      have HY : Hid (x.promised i ⟨mk, (f : Int), (i : Int), mb, ms, ⟨mc, mq, mh, mx⟩, ma⟩ = if (x.R.length : Int) < 2 * yeas ((r.from f).keepAll ma).fr then (x.put i ((r.from f).keepAll ma)).leads i else x.put i ((r.from f).keepAll ma)) := by
       show _ = _
       unfold Qs.promised
       rw [HR.out]
       simp only [Int.toNat_natCast]
       obtain ⟨b0, b1, b3⟩ := Hb.out
       have hneg : ¬ (r.ro ≠ 1 ∨ r.ba ≠ mb ∨ r.fr.getD f false = true) := by
        rintro (h1 | h1 | h1)
        ·exact h1 b0
        ·exact h1 b1
        ·rw [b3] at h1; cases h1
       rw [if_neg hneg]
      obtain ⟨a0, a1, a2, a3, a4, a5, a6, ha⟩ : ∃ a0 a1 a2 a3 a4 a5 a6, ((r.from f).keepAll ma).fr = [a0, a1, a2, a3, a4, a5, a6] := by
       match ((r.from f).keepAll ma).fr, hfl with
       | [a0, a1, a2, a3, a4, a5, a6], _ => exact ⟨a0, a1, a2, a3, a4, a5, a6, rfl⟩
      have t0 : wr.cell? (A6 Rb (i * 396 + 5)) = some (.bool a0) := gq.hc hi (o := 5) (by decide) ((from_get (gq.rok hi) (f := 0) (by decide)).trans (by rw [ha]; rfl))
      have t1 : wr.cell? (A6 Rb (i * 396 + 5 + 1)) = some (.bool a1) := gq.hc hi (o := 6) (by decide) ((from_get (gq.rok hi) (f := 1) (by decide)).trans (by rw [ha]; rfl))
      have t2 : wr.cell? (A6 Rb (i * 396 + 5 + 2)) = some (.bool a2) := gq.hc hi (o := 7) (by decide) ((from_get (gq.rok hi) (f := 2) (by decide)).trans (by rw [ha]; rfl))
      have t3 : wr.cell? (A6 Rb (i * 396 + 5 + 3)) = some (.bool a3) := gq.hc hi (o := 8) (by decide) ((from_get (gq.rok hi) (f := 3) (by decide)).trans (by rw [ha]; rfl))
      have t4 : wr.cell? (A6 Rb (i * 396 + 5 + 4)) = some (.bool a4) := gq.hc hi (o := 9) (by decide) ((from_get (gq.rok hi) (f := 4) (by decide)).trans (by rw [ha]; rfl))
      have t5 : wr.cell? (A6 Rb (i * 396 + 5 + 5)) = some (.bool a5) := gq.hc hi (o := 10) (by decide) ((from_get (gq.rok hi) (f := 5) (by decide)).trans (by rw [ha]; rfl))
      have t6 : wr.cell? (A6 Rb (i * 396 + 5 + 6)) = some (.bool a6) := gq.hc hi (o := 11) (by decide) ((from_get (gq.rok hi) (f := 6) (by decide)).trans (by rw [ha]; rfl))
      have hMo' := hMo
      rw [ha] at hMo'
      simp only [List.map_cons, List.map_nil] at hMo'
      rw [← ha] at hMo'
      clear hMo ha
      have hMo := hMo'
      clear hMo'
      by_cases hM : (x.R.length : Int) < 2 * yeas ((r.from f).keepAll ma).fr
      ·rw [decide_eq_true hM] at hMo
       have HX : Hid (x.promised i ⟨mk, (f : Int), (i : Int), mb, ms, ⟨mc, mq, mh, mx⟩, ma⟩ = (x.put i ((r.from f).keepAll ma)).leads i) := by show _ = _; rw [HY.out, if_pos hM]
       clear HY hM
       generalize x.put i ((r.from f).keepAll ma) = X at *
       go_wp2_with fail
       refine hMo.mono ?_
       rintro e w6 ⟨rfl, hB6⟩
       clear hMo t0 t1 t2 t3 t4 t5 t6 e9
       have hb6 := blk_below hB6 hbq
       have e2 : w6.cell? (A6 w.heap.size 2) = some (I6 (i : Int)) := (blk_cell hb6 2).trans rfl
       have hLe := rleads_any (hQr.below hB6) (i := i) (by rw [hln]; exact hi)
       have kw6 : Keeps (qOwn qb Rb v) w w6 := kwr.trans (Keeps.ofBelow hB6)
       go_wp2_with fail
       refine hLe.mono ?_
       rintro e w7 ⟨rfl, hQ7⟩
       clear hLe e2
       go_wp2_with fail
       go_end0
       refine ⟨rfl, ?_⟩
       rw [HX.out]
       exact QTo.next (fun _ h => .inl h) kw6 hQ7
      ·rw [decide_eq_false hM] at hMo
       have HX : Hid (x.promised i ⟨mk, (f : Int), (i : Int), mb, ms, ⟨mc, mq, mh, mx⟩, ma⟩ = x.put i ((r.from f).keepAll ma)) := by show _ = _; rw [HY.out, if_neg hM]
       clear HY hM
       go_wp2_with fail
       refine hMo.mono ?_
       rintro e w6 ⟨rfl, hB6⟩
       clear hMo t0 t1 t2 t3 t4 t5 t6 e9
       go_wp2_with fail
       go_end0
       refine ⟨rfl, ?_⟩
       rw [HX.out]
       exact ⟨v, hQr.below hB6, fun _ h => .inl h, kwr.trans (Keeps.ofBelow hB6)⟩
   ·have hcond : r.ro ≠ 1 ∨ r.ba ≠ mb ∨ r.fr.getD f false = true := .inr (.inr b3)
    rw [b3] at cf
    clear b0 b1 b3
    have HX : Hid (x.promised i ⟨mk, (f : Int), (i : Int), mb, ms, ⟨mc, mq, mh, mx⟩, ma⟩ = x) := by
     show _ = _
     unfold Qs.promised
     rw [HR.out]
     simp only [Int.toNat_natCast]
     exact if_pos hcond
    clear hcond
    go_wp2_with fail
    go_quiet (fail)
    go_wp2_with fail
    refine bodyPost_ret (results_none rfl _ _ _) rfl ?_
    refine ⟨rfl, ?_⟩
    rw [HX.out]
    exact Hfin.out _ (Below.trans hBw ((below_drewN (Below.refl _ w2) nq).mono hBw.size))
  ·have hcond : r.ro ≠ 1 ∨ r.ba ≠ mb ∨ r.fr.getD f false = true := .inr (.inl b1)
   have m1 : (r.ba != mb) = true := by simp [b1]
   clear b0 b1
   have HX : Hid (x.promised i ⟨mk, (f : Int), (i : Int), mb, ms, ⟨mc, mq, mh, mx⟩, ma⟩ = x) := by
    show _ = _
    unfold Qs.promised
    rw [HR.out]
    simp only [Int.toNat_natCast]
    exact if_pos hcond
   clear hcond
   go_wp2_with fail
   go_quiet (fail)
   go_wp2_with fail
   refine bodyPost_ret (results_none rfl _ _ _) rfl ?_
   refine ⟨rfl, ?_⟩
   rw [HX.out]
   exact Hfin.out _ (Below.trans hBw ((below_drewN (Below.refl _ w2) nq).mono hBw.size))
 ·have hcond : r.ro ≠ 1 ∨ r.ba ≠ mb ∨ r.fr.getD f false = true := .inl b0
  have m0 : (r.ro != 1) = true := by simp [b0]
  clear b0
  have HX : Hid (x.promised i ⟨mk, (f : Int), (i : Int), mb, ms, ⟨mc, mq, mh, mx⟩, ma⟩ = x) := by
   show _ = _
   unfold Qs.promised
   rw [HR.out]
   simp only [Int.toNat_natCast]
   exact if_pos hcond
  clear hcond
  go_wp2_with fail
  go_quiet (fail)
  go_wp2_with fail
  refine bodyPost_ret (results_none rfl _ _ _) rfl ?_
  refine ⟨rfl, ?_⟩
  rw [HX.out]
  exact Hfin.out _ (Below.trans hBw ((below_drewN (Below.refl _ w2) nq).mono hBw.size))
end
end Go.Proofs.YtnnhnekfokbooaaGreatDoor
