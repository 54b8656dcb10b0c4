/- SynQ -/
import Derived.Test.YtnnhnekfokbooaaGreatDoorAl21
import Derived.Test.YtnnhnekfokbooaaGreatDoorAl22
set_option linter.unusedSimpArgs false
set_option linter.unusedVariables false
set_option maxRecDepth 100000
namespace Go.Proofs.YtnnhnekfokbooaaGreatDoor
section
open Go.RowKit
theorem SynAt.decs {w : World} {sb : Nat} {L : Lay} {s : Sy} (h : SynAt w sb L s) {i : Nat} (hi : i < s.n) : w.rangeAt (L.rb i) 101 (dcells (s.rep i).dec) := fun j u hu => by
 have hb := h.rep i hi
 have hok := h.ok.repOk hi
 have h1 : (repHead i s.n sb (s.rep i)).length = 5 := rfl
 have h2 : (vcells (s.rep i).acc).length = 96 := by rw [vcells_length, hok.acc]
 have hl : j < (dcells (s.rep i).dec).length := (List.getElem?_eq_some_iff.1 hu).1
 have e : 101 + j - 5 - 96 = j := by omega
 rw [blk_cell hb, List.getElem?_toArray, repCells, List.getElem?_append_right (by omega), h1, List.getElem?_append_right (by omega), h2, e, List.getElem?_append_left hl]
 exact hu
theorem hasDecided_syn {w : World} {sb : Nat} {L : Lay} {s : Sy} (h : SynAt w sb L s) {i : Nat} (hi : i < s.n) (p : Pst) :
  Calls Tryz.prog 95 #[.pointer (some (A6 (L.rb i) 0)), .agg #[I6 p.c, I6 p.q, I6 p.h, .string p.t]] w fun e w' => e = .returned (.bool ((s.rep i).dec.any (fun d => sameB d.p p))) ∧ Below w.heap.size w w' := by
 have hbox := blk_new w (.cells #[I6 p.c, I6 p.q, I6 p.h, .string p.t] 33)
 have hok := h.ok.repOk hi
 have hX := decHas_any (L.rb i) w.heap.size 16 (s.rep i).dec p (w.alloc (.cells #[I6 p.c, I6 p.q, I6 p.h, .string p.t] 33)) ((h.alloc (.cells #[I6 p.c, I6 p.q, I6 p.h, .string p.t] 33)).decs hi) (by rw [hok.dec]; omega) hbox
 rw [hok.dec] at hX
 go_enter Tryz.func95, Tryz.ntmps95
 go_wp2_with fail
 refine hX.mono ?_
 rintro e w2 ⟨rfl, hB⟩
 clear hX
 go_wp2_with fail
 go_ret
 exact ⟨rfl, Below.trans ((Below.refl _ w).alloc (Nat.le_refl _) _) (hB.mono (by simp))⟩
theorem hasProposed_any (pb : Nat) (b : Int) (next : Nat) (ps : List Pp) (p : Pst) (w : World) (hb : w.heap[pb]? = some (.cells (leadHead b next ++ ppcells ps).toArray 166 (0, 0))) (hl : ps.length = 16) (ho : ∀ x ∈ ps, x.t.ok) :
  Calls Tryz.prog 96 #[P6 pb, .agg #[I6 p.c, I6 p.q, I6 p.h, .string p.t]] w fun e w' => e = .returned (.bool (ps.any (fun d => sameB d.p p))) ∧ Below w.heap.size w w' := by
 have hbox := blk_new w (.cells #[I6 p.c, I6 p.q, I6 p.h, .string p.t] 33)
 have hpb := blk_alloc hb (.cells #[I6 p.c, I6 p.q, I6 p.h, .string p.t] 33)
 have hX := proHas_any pb w.heap.size 16 ps p (w.alloc (.cells #[I6 p.c, I6 p.q, I6 p.h, .string p.t] 33)) (fun j hj => ⟨lt_of_block hpb, (ho _ (List.getElem_mem hj)).1, fun k hk => by
  rw [blk_cell hpb, lead_at b next ps hl ho j (by omega) k hk, List.getD_eq_getElem?_getD, List.getElem?_eq_getElem hj]; rfl⟩) (by omega) hbox
 rw [hl] at hX
 go_enter Tryz.func96, Tryz.ntmps96
 go_wp2_with fail
 refine hX.mono ?_
 rintro e w2 ⟨rfl, hB⟩
 clear hX
 go_wp2_with fail
 go_ret
 exact ⟨rfl, Below.trans ((Below.refl _ w).alloc (Nat.le_refl _) _) (hB.mono (by simp))⟩
theorem SynAt.bump {w : World} {sb : Nat} {L : Lay} {s : Sy} (h : SynAt w sb L s) {i : Nat} (hi : i < s.n) {b : Int} {next : Nat} {ps : List Pp} (hrl : (s.rep i).rl = .lead b next ps) {pb : Nat} (hrv : L.rv i = .iface 160 (P6 pb)) (hn : next < 16) :
  SynRv L.rv w sb L (w.setCell (A6 pb 2) (I6 ((next : Int) + 1))) (s.put i (s.rep i).bump) := by
 have hr := h.role i hi
 have hro := (h.ok.repOk hi).rl
 rw [hrl] at hr hro
 obtain ⟨_, hl, ho⟩ := Rl.ok_lead hro
 obtain ⟨pb', e, hb⟩ := hr
 rw [hrv] at e
 cases e
 have hkp : Keeps (fun k => k = pb) w (w.setCell (A6 pb 2) (I6 ((next : Int) + 1))) := Keeps.ofSet (P := fun k => k = pb) (a := (A6 pb 2)) (.inl rfl) _
 have hbump : (s.rep i).bump = (s.rep i).role (.lead b (next + 1) ps) := by unfold Rp.bump; rw [hrl]
 rw [hbump]
 refine h.setRole hi (by rw [hrv]; rfl) hkp ⟨pb, hrv, ?_⟩ ⟨by omega, hl, ho⟩
 rw [blk_set hb]
 simp [leadHead]
set_option maxHeartbeats 1000000 in
theorem rsubmit_no {w : World} {sb : Nat} {L : Lay} {s : Sy} (h : SynAt w sb L s) {i : Nat} (hi : i < s.n) (p : Pst) (hno : ∀ b next ps, (s.rep i).rl ≠ .lead b next ps) :
  Calls Tryz.prog 67 #[.pointer (some (A6 (L.rb i) 0)), .agg #[I6 p.c, I6 p.q, I6 p.h, .string p.t]] w fun e w' => e = .returned (I6 3) ∧ SynTo w sb L w' s := by
 have hAt := h
 have hbox := blk_new w (.cells #[I6 p.c, I6 p.q, I6 p.h, .string p.t] 33)
 have hB : Below w.heap.size w (w.alloc (.cells #[I6 p.c, I6 p.q, I6 p.h, .string p.t] 33)) := (Below.refl _ w).alloc (Nat.le_refl _) _
 have c5 := ((h.alloc (.cells #[I6 p.c, I6 p.q, I6 p.h, .string p.t] 33)).cells hi).2.2.2.2.2
 have hro := h.role i hi
 cases hrl : (s.rep i).rl with
 | idle =>
  rw [hrl] at hro
  have hrv : L.rv i = idleV := hro
  rw [hrv, idleV] at c5
  have has := asL_idle
  clear hrv hro hrl
  go_enter Tryz.func67, Tryz.ntmps67
  go_wp2_with fail
  go_ret
  exact ⟨rfl, (SynTo.refl hAt).below hB⟩
 | prep b t kept =>
  rw [hrl] at hro
  obtain ⟨pb, hrv, _⟩ := hro
  rw [hrv] at c5
  have has := asL_prep
  clear hrv hrl
  go_enter Tryz.func67, Tryz.ntmps67
  go_wp2_with fail
  go_ret
  exact ⟨rfl, (SynTo.refl hAt).below hB⟩
 | lead b next ps => exact absurd hrl (hno b next ps)
set_option maxHeartbeats 2000000 in
theorem rsubmit_lead {w : World} {sb : Nat} {L : Lay} {s : Sy} (h : SynAt w sb L s) {i : Nat} (hi : i < s.n) (p : Pst) {b : Int} {next : Nat} {ps : List Pp} (hrl : (s.rep i).rl = .lead b next ps) (b0 : 0 ≤ b) (b1 : b ≤ 8007) :
  Calls Tryz.prog 67 #[.pointer (some (A6 (L.rb i) 0)), .agg #[I6 p.c, I6 p.q, I6 p.h, .string p.t]] w fun e w' => e = .returned (I6 (s.subE i p)) ∧ SynTo w sb L w' (s.submit i p) := by
 have hAt := h
 have hbox := blk_new w (.cells #[I6 p.c, I6 p.q, I6 p.h, .string p.t] 33)
 have hB : Below w.heap.size w (w.alloc (.cells #[I6 p.c, I6 p.q, I6 p.h, .string p.t] 33)) := (Below.refl _ w).alloc (Nat.le_refl _) _
 have c5 := ((h.alloc (.cells #[I6 p.c, I6 p.q, I6 p.h, .string p.t] 33)).cells hi).2.2.2.2.2
 have hro := h.role i hi
 have hrok := (h.ok.repOk hi).rl
 rw [hrl] at hro hrok
 obtain ⟨hnx, hpl, hpo⟩ := Rl.ok_lead hrok
 obtain ⟨pb, hrv, hpb⟩ := hro
 rw [hrv] at c5
 have has := asL_lead
 have hplt := lt_of_block hpb
 have hpbA := blk_alloc hpb (.cells #[I6 p.c, I6 p.q, I6 p.h, .string p.t] 33)
 have hbc := blk_cell hbox
 have hD := hasDecided_syn (h.alloc (.cells #[I6 p.c, I6 p.q, I6 p.h, .string p.t] 33)) hi p
 have hE0 : s.subE i p = if (s.rep i).dec.any (fun d => sameB d.p p) || ps.any (fun x => sameB x.p p) then 4 else if next = 16 then 5 else if (s.net.length : Int) + s.n ≤ 200 then 0 else 6 := by unfold Sy.subE; rw [hrl]
 cases hdd : (s.rep i).dec.any (fun d => sameB d.p p)
 ·rw [hdd] at hD hE0
  cases hpp : ps.any (fun x => sameB x.p p)
  ·rw [hpp] at hE0
   by_cases h16 : next = 16
   ·have hE : s.subE i p = 5 := by rw [hE0]; simp [h16]
    have hS : s.submit i p = s := if_neg (by rw [hE]; decide)
    rw [hE, hS]
    clear hE hE0 hS
    have hq : ((next : Int) == 16) = true := by simp; omega
    go_enter Tryz.func67, Tryz.ntmps67
    go_wp2_with fail
    refine hD.mono ?_
    rintro e w2 ⟨rfl, hB2⟩
    clear hD
    have hbx2 := blk_cell (blk_below hB2 hbox)
    have hP := hasProposed_any pb b next ps p w2 (blk_below hB2 hpbA) hpl hpo
    rw [hpp] at hP
    go_wp2_with fail
    refine hP.mono ?_
    rintro e w3 ⟨rfl, hB3⟩
    clear hP hbx2
    have hB3' : Below w.heap.size w w3 := Below.trans (Below.trans hB (hB2.mono hB.size)) (hB3.mono (Nat.le_trans hB.size hB2.size))
    have hpb3 := blk_below hB3' hpb
    have hn3 : w3.cell? (A6 pb 2) = some (I6 (next : Int)) := (blk_cell hpb3 2).trans rfl
    go_wp2_with fail
    go_ret
    exact ⟨rfl, (SynTo.refl hAt).below hB3'⟩
   ·have hq : ((next : Int) == 16) = false := by simp; omega
    have hn16 : next < 16 := by omega
    obtain ⟨l, hlm, hown, hokn⟩ := h.net
    have hll : l.length = s.net.length := by rw [← hlm, List.length_map]
    have hfull := h.ok.full
    have hn1 := h.ok.n1
    obtain ⟨va, vc, hv, _⟩ := (owns_row hown).form
    have hRm := fun (W : World) (hB : Below w.heap.size w W) => room_any sb 1 va l.length vc (s.n : Int) W (by rw [← hv]; exact (hAt.below hB).netv) (by omega) (by omega) (by omega)
    rw [hll] at hRm
    by_cases h6 : (s.net.length : Int) + s.n ≤ 200
    ·have hd : decide ((s.net.length : Int) + s.n ≤ 200) = true := decide_eq_true h6
     rw [hd] at hRm
     have hE : s.subE i p = 0 := by rw [hE0, if_neg (by simp), if_neg h16, if_pos h6]
     have hnext : (s.rep i).next = next := by unfold Rp.next; rw [hrl]
     have hSfin : Hid (s.submit i p = (s.propose i next p).put i ((s.propose i next p).rep i).bump) := by
      show s.submit i p = _
      unfold Sy.submit; rw [if_pos hE, hnext]
     rw [hE]
     clear hE hE0 hnext
     go_enter Tryz.func67, Tryz.ntmps67
     go_wp2_with fail
     refine hD.mono ?_
     rintro e w2 ⟨rfl, hB2⟩
     clear hD
     have hbx2 := blk_cell (blk_below hB2 hbox)
     have hP := hasProposed_any pb b next ps p w2 (blk_below hB2 hpbA) hpl hpo
     rw [hpp] at hP
     go_wp2_with fail
     refine hP.mono ?_
     rintro e w3 ⟨rfl, hB3⟩
     clear hP hbx2
     have hB3' : Below w.heap.size w w3 := Below.trans (Below.trans hB (hB2.mono hB.size)) (hB3.mono (Nat.le_trans hB.size hB2.size))
     have hpb3 := blk_below hB3' hpb
     have hn3 : w3.cell? (A6 pb 2) = some (I6 (next : Int)) := (blk_cell hpb3 2).trans rfl
     have h3 := hAt.below hB3'
     obtain ⟨_, e1, e2, _⟩ := h3.cells hi
     have hbx := blk_below (Below.trans hB2 (hB3.mono hB2.size)) hbox
     go_wp2_with fail
     refine wp_region_held_drew (S := fun w' => w'.cell? (A6 (L.rb i) 1) = some (I6 (s.n : Int)) ∧ w'.cell? (A6 (L.rb i) 2) = some (.pointer (some (A6 sb 1)))) (by kernel_rfl) (⟨e1, e2⟩) (fun hS => ?_)
     refine tk 0 rfl hS (v := ?_) (fun w' hw => ?_) ?_
     rotate_left 1
     ·have d1 := hw.1; have d2 := hw.2; go_simp; all_goals with_reducible rfl
     try simp only [ly]
     refine tk 1 rfl hS (v := ?_) (fun w' hw => ?_) ?_
     rotate_left 1
     ·have d1 := hw.1; have d2 := hw.2; go_simp; all_goals with_reducible rfl
     try simp only [ly]
     refine tk 2 rfl hS (v := ?_) (fun w' hw => ?_) ?_
     rotate_left 1
     ·have d1 := hw.1; have d2 := hw.2; go_simp; all_goals with_reducible rfl
     try simp only [ly]
     refine tk 3 rfl hS (v := ?_) (fun w' hw => ?_) ?_
     rotate_left 1
     ·have d1 := hw.1; have d2 := hw.2; go_simp; all_goals with_reducible rfl
     try simp only [ly]
     refine tk 4 rfl hS (v := ?_) (fun w' hw => ?_) ?_
     rotate_left 1
     ·have d1 := hw.1; have d2 := hw.2; go_simp; all_goals with_reducible rfl
     try simp only [ly]
     refine tk 5 rfl hS (v := ?_) (fun w' hw => ?_) ?_
     rotate_left 1
     ·have d1 := hw.1; have d2 := hw.2; go_simp; all_goals with_reducible rfl
     try simp only [ly]
     refine tk 6 rfl hS (v := ?_) (fun w' hw => ?_) ?_
     rotate_left 1
     ·have d1 := hw.1; have d2 := hw.2; go_simp; all_goals with_reducible rfl
     try simp only [ly]
     refine tk 7 rfl hS (v := ?_) (fun w' hw => ?_) ?_
     rotate_left 1
     ·have d1 := hw.1; have d2 := hw.2; go_simp; all_goals with_reducible rfl
     try simp only [ly]
     refine r1 8 rfl (fun K hK => ?_)
     go_simp
     refine (hRm w3.drew (Below.drew hB3')).mono ?_
     rintro e w4 ⟨rfl, hw4⟩
     subst hw4
     clear hRm
     go_wp2_with fail
     refine hK.out _ _ ⟨e1, e2⟩ (fun hS => ?_)
     clear hK K
     try simp only [ly]
     refine tk 9 rfl hS (v := ?_) (fun w' hw => ?_) ?_
     rotate_left 1
     ·go_simp; all_goals with_reducible rfl
     try simp only [ly]
     refine r1 10 rfl (fun K hK => ?_)
     go_simp
     refine hK.out _ _ ⟨e1, e2⟩ (fun hS => ?_)
     clear hK K
     try simp only [ly]
     refine dn ?_ _
     have hX := propose_rv (h3.drew.drew) hi hrl b0 b1 hrv next hn16 p
     go_wp2_with fail
     refine wp_region_held_drew (S := fun w' => w'.heap[w.heap.size]? = some (.cells #[I6 p.c, I6 p.q, I6 p.h, .string p.t] 33 (0, 0)) ∧ w'.cell? (A6 pb 2) = some (I6 (next : Int))) (by kernel_rfl) (⟨hbx, hn3⟩) (fun hS => ?_)
     refine tk 0 rfl hS (v := ?_) (fun w' hw => ?_) ?_
     rotate_left 1
     ·have d1 := blk_cell hw.1; have d2 := hw.2; go_simp; all_goals with_reducible rfl
     try simp only [ly]
     refine tk 1 rfl hS (v := ?_) (fun w' hw => ?_) ?_
     rotate_left 1
     ·have d1 := blk_cell hw.1; have d2 := hw.2; go_simp; all_goals with_reducible rfl
     try simp only [ly]
     refine tk 2 rfl hS (v := ?_) (fun w' hw => ?_) ?_
     rotate_left 1
     ·have d1 := blk_cell hw.1; have d2 := hw.2; go_simp; all_goals with_reducible rfl
     try simp only [ly]
     refine tk 3 rfl hS (v := ?_) (fun w' hw => ?_) ?_
     rotate_left 1
     ·have d1 := blk_cell hw.1; have d2 := hw.2; go_simp; all_goals with_reducible rfl
     try simp only [ly]
     refine tk 4 rfl hS (v := ?_) (fun w' hw => ?_) ?_
     rotate_left 1
     ·have d1 := blk_cell hw.1; have d2 := hw.2; go_simp; all_goals with_reducible rfl
     try simp only [ly]
     refine tk 5 rfl hS (v := ?_) (fun w' hw => ?_) ?_
     rotate_left 1
     ·have d1 := blk_cell hw.1; have d2 := hw.2; go_simp; all_goals with_reducible rfl
     try simp only [ly]
     refine tk 6 rfl hS (v := ?_) (fun w' hw => ?_) ?_
     rotate_left 1
     ·have d1 := blk_cell hw.1; have d2 := hw.2; go_simp; all_goals with_reducible rfl
     try simp only [ly]
     refine r1 7 rfl (fun K hK => ?_)
     go_simp
     refine hX.mono ?_
     rintro e w5 ⟨rfl, hto5⟩
     clear hX
     obtain ⟨L5, h5, e5, r5, o5, kk5⟩ := id hto5
     have hrep5 := propose_rep hAt.ok hi hrl next p
     have hpn := propose_n s i next p
     generalize s.propose i next p = s5 at *
     have hrl5 : (s5.rep i).rl = .lead b next (ps.set next ⟨p, (ps.getD next noPp).t⟩) := by rw [hrep5]; rfl
     have hro5 := h5.role i (by rw [hpn]; exact hi)
     rw [hrl5, r5, hrv] at hro5
     obtain ⟨pb', e9, hpb5⟩ := hro5
     cases e9
     have hbx5 := hto5.blk (w := w3.drew.drew) hbx (fun ho => by have h9 := hAt.own_lt (by rw [hpn] at ho; exact ho); omega)
     have hn5 : w5.cell? (A6 pb 2) = some (I6 (next : Int)) := (blk_cell hpb5 2).trans rfl
     have hbp := h5.bump (by rw [hpn]; exact hi) hrl5 (pb := pb) (by rw [r5]; exact hrv) hn16
     have hto6 := SynRv.after (s := s5.put i (s5.rep i).bump) hAt hpn (Below.drew (Below.drew hB3')) (SynRv.next (s2 := s5.put i (s5.rep i).bump) e5 o5 kk5 rfl hbp)
     have hf5 := blk_free hpb5 2
     clear hrep5 hbp hrl5
     go_wp2_with fail
     refine hK.out _ _ ⟨hbx5, hn5⟩ (fun hS => ?_)
     clear hK K
     try simp only [ly]
     refine dn ?_ _
     go_wp2_with fail
     go_ret
     refine ⟨rfl, ?_⟩
     rw [hSfin.out]
     exact hto6.to
    ·have hd : decide ((s.net.length : Int) + s.n ≤ 200) = false := decide_eq_false h6
     rw [hd] at hRm
     have hE : s.subE i p = 6 := by rw [hE0, if_neg (by simp), if_neg h16, if_neg h6]
     have hS : s.submit i p = s := if_neg (by rw [hE]; decide)
     rw [hE, hS]
     clear hE hE0 hS
     go_enter Tryz.func67, Tryz.ntmps67
     go_wp2_with fail
     refine hD.mono ?_
     rintro e w2 ⟨rfl, hB2⟩
     clear hD
     have hbx2 := blk_cell (blk_below hB2 hbox)
     have hP := hasProposed_any pb b next ps p w2 (blk_below hB2 hpbA) hpl hpo
     rw [hpp] at hP
     go_wp2_with fail
     refine hP.mono ?_
     rintro e w3 ⟨rfl, hB3⟩
     clear hP hbx2
     have hB3' : Below w.heap.size w w3 := Below.trans (Below.trans hB (hB2.mono hB.size)) (hB3.mono (Nat.le_trans hB.size hB2.size))
     have hpb3 := blk_below hB3' hpb
     have hn3 : w3.cell? (A6 pb 2) = some (I6 (next : Int)) := (blk_cell hpb3 2).trans rfl
     have h3 := hAt.below hB3'
     obtain ⟨_, e1, e2, _⟩ := h3.cells hi
     go_wp2_with fail
     refine wp_region_held_drew (S := fun w' => w'.cell? (A6 (L.rb i) 1) = some (I6 (s.n : Int)) ∧ w'.cell? (A6 (L.rb i) 2) = some (.pointer (some (A6 sb 1)))) (by kernel_rfl) (⟨e1, e2⟩) (fun hS => ?_)
     refine tk 0 rfl hS (v := ?_) (fun w' hw => ?_) ?_
     rotate_left 1
     ·have d1 := hw.1; have d2 := hw.2; go_simp; all_goals with_reducible rfl
     try simp only [ly]
     refine tk 1 rfl hS (v := ?_) (fun w' hw => ?_) ?_
     rotate_left 1
     ·have d1 := hw.1; have d2 := hw.2; go_simp; all_goals with_reducible rfl
     try simp only [ly]
     refine tk 2 rfl hS (v := ?_) (fun w' hw => ?_) ?_
     rotate_left 1
     ·have d1 := hw.1; have d2 := hw.2; go_simp; all_goals with_reducible rfl
     try simp only [ly]
     refine tk 3 rfl hS (v := ?_) (fun w' hw => ?_) ?_
     rotate_left 1
     ·have d1 := hw.1; have d2 := hw.2; go_simp; all_goals with_reducible rfl
     try simp only [ly]
     refine tk 4 rfl hS (v := ?_) (fun w' hw => ?_) ?_
     rotate_left 1
     ·have d1 := hw.1; have d2 := hw.2; go_simp; all_goals with_reducible rfl
     try simp only [ly]
     refine tk 5 rfl hS (v := ?_) (fun w' hw => ?_) ?_
     rotate_left 1
     ·have d1 := hw.1; have d2 := hw.2; go_simp; all_goals with_reducible rfl
     try simp only [ly]
     refine tk 6 rfl hS (v := ?_) (fun w' hw => ?_) ?_
     rotate_left 1
     ·have d1 := hw.1; have d2 := hw.2; go_simp; all_goals with_reducible rfl
     try simp only [ly]
     refine tk 7 rfl hS (v := ?_) (fun w' hw => ?_) ?_
     rotate_left 1
     ·have d1 := hw.1; have d2 := hw.2; go_simp; all_goals with_reducible rfl
     try simp only [ly]
     refine r1 8 rfl (fun K hK => ?_)
     go_simp
     refine (hRm w3.drew (Below.drew hB3')).mono ?_
     rintro e w4 ⟨rfl, hw4⟩
     subst hw4
     clear hRm
     go_wp2_with fail
     refine hK.out _ _ ⟨e1, e2⟩ (fun hS => ?_)
     clear hK K
     try simp only [ly]
     refine tk 9 rfl hS (v := ?_) (fun w' hw => ?_) ?_
     rotate_left 1
     ·go_simp; all_goals with_reducible rfl
     try simp only [ly]
     refine r1 10 rfl (fun K hK => ?_)
     go_simp
     refine hK.out _ _ ⟨e1, e2⟩ (fun hS => ?_)
     clear hK K
     try simp only [ly]
     refine dn ?_ _
     go_wp2_with fail
     go_ret
     exact ⟨rfl, (SynTo.refl hAt).below (Below.drew hB3')⟩
  ·rw [hpp] at hE0
   have hE : s.subE i p = 4 := by rw [hE0]; rfl
   have hS : s.submit i p = s := if_neg (by rw [hE]; decide)
   rw [hE, hS]
   clear hE hE0 hS
   go_enter Tryz.func67, Tryz.ntmps67
   go_wp2_with fail
   refine hD.mono ?_
   rintro e w2 ⟨rfl, hB2⟩
   clear hD
   have hbx2 := blk_cell (blk_below hB2 hbox)
   have hP := hasProposed_any pb b next ps p w2 (blk_below hB2 hpbA) hpl hpo
   rw [hpp] at hP
   go_wp2_with fail
   refine hP.mono ?_
   rintro e w3 ⟨rfl, hB3⟩
   clear hP
   go_wp2_with fail
   go_ret
   exact ⟨rfl, (SynTo.refl hAt).below (Below.trans (Below.trans hB (hB2.mono hB.size)) (hB3.mono (Nat.le_trans hB.size hB2.size)))⟩
 ·rw [hdd] at hD hE0
  have hE : s.subE i p = 4 := by rw [hE0]; rfl
  have hS : s.submit i p = s := if_neg (by rw [hE]; decide)
  rw [hE, hS]
  clear hE hE0 hS
  go_enter Tryz.func67, Tryz.ntmps67
  go_wp2_with fail
  refine hD.mono ?_
  rintro e w2 ⟨rfl, hB2⟩
  clear hD
  go_wp2_with fail
  go_ret
  exact ⟨rfl, (SynTo.refl hAt).below (Below.trans hB (hB2.mono hB.size))⟩
theorem rsubmit_syn {w : World} {sb : Nat} {L : Lay} {s : Sy} (h : SynAt w sb L s) {i : Nat} (hi : i < s.n) (p : Pst) (hbal : 0 ≤ (s.rep i).rl.bal ∧ (s.rep i).rl.bal ≤ 8007) :
  Calls Tryz.prog 67 #[.pointer (some (A6 (L.rb i) 0)), .agg #[I6 p.c, I6 p.q, I6 p.h, .string p.t]] w fun e w' => e = .returned (I6 (s.subE i p)) ∧ SynTo w sb L w' (s.submit i p) := by
 cases hrl : (s.rep i).rl with
 | lead b next ps =>
  rw [hrl] at hbal
  exact rsubmit_lead h hi p hrl hbal.1 hbal.2
 | idle =>
  have e1 : s.subE i p = 3 := by unfold Sy.subE; rw [hrl]
  have e2 : s.submit i p = s := if_neg (by rw [e1]; decide)
  rw [e1, e2]
  exact rsubmit_no h hi p (fun b n ps h => by rw [hrl] at h; cases h)
 | prep b t kept =>
  have e1 : s.subE i p = 3 := by unfold Sy.subE; rw [hrl]
  have e2 : s.submit i p = s := if_neg (by rw [e1]; decide)
  rw [e1, e2]
  exact rsubmit_no h hi p (fun b n ps h => by rw [hrl] at h; cases h)
theorem campaign_yes {w : World} {sb : Nat} {L : Lay} {s : Sy} (h : SynAt w sb L s) {i : Nat} (hi : i < s.n) :
  Calls Tryz.prog 35 #[P6 sb, I6 (i : Int)] w fun e w' => e = .returned (I6 (s.campE i)) ∧ SynTo w sb L w' (s.campaign i) := by
 have hF := find_yes h hi
 have hC := rcampaign_syn h hi
 generalize s.campE i = E at *
 go_enter Tryz.func35, Tryz.ntmps35
 go_wp2_with fail
 refine hF.mono ?_
 rintro e w2 ⟨rfl, hw2⟩
 have hw2' := hw2.symm
 subst hw2'
 clear hF hw2
 go_wp2_with fail
 refine hC.mono ?_
 rintro e w3 ⟨rfl, hto⟩
 clear hC
 go_wp2_with fail
 go_ret
 exact ⟨rfl, hto⟩
theorem campaign_no {w : World} {sb : Nat} {L : Lay} {s : Sy} (h : SynAt w sb L s) {i : Int} (hi : i < 0 ∨ (s.n : Int) ≤ i) :
  Calls Tryz.prog 35 #[P6 sb, I6 i] w fun e w' => e = .returned (I6 1) ∧ w' = w := by
 have hF := find_no h hi
 go_enter Tryz.func35, Tryz.ntmps35
 go_wp2_with fail
 refine hF.mono ?_
 rintro e w2 ⟨rfl, hw2⟩
 have hw2' := hw2.symm
 subst hw2'
 clear hF hw2
 go_wp2_with fail
 go_ret
 exact ⟨rfl, rfl⟩
end
end Go.Proofs.YtnnhnekfokbooaaGreatDoor
