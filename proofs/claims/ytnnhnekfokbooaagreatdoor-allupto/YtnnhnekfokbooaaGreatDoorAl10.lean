/- SynK -/
import Derived.Test.YtnnhnekfokbooaaGreatDoorAl09
set_option linter.unusedSimpArgs false
set_option linter.unusedVariables false
set_option maxRecDepth 100000
namespace Go.Proofs.YtnnhnekfokbooaaGreatDoor
section
open Go.RowKit
theorem four {w : World} {b o : Nat} {p : Pst} (h : ∀ j, j < 4 → w.cell? (A6 b (o + j)) = (Pst.cells p)[j]?) : w.cell? (A6 b o) = some (I6 p.c) ∧ w.cell? (A6 b (o + 1)) = some (I6 p.q) ∧ w.cell? (A6 b (o + 2)) = some (I6 p.h) ∧ w.cell? (A6 b (o + 3)) = some (.string p.t) :=
 ⟨h 0 (by decide), h 1 (by decide), h 2 (by decide), h 3 (by decide)⟩
theorem pp_at : ∀ (ps : List Pp) (k : Nat) (_ : k < ps.length) (_ : ∀ x ∈ ps, x.t.ok) (j : Nat) (_ : j < 12), (ppcells ps)[k * 12 + j]? = (ps.getD k noPp).cells[j]?
 | [], k, hk, _, _, _ => by simp at hk
 | x :: l, 0, _, ho, j, hj => by
  have hx := Pp.cells_length (ho x List.mem_cons_self)
  simp only [ppcells, List.getD_cons_zero, Nat.zero_mul, Nat.zero_add]
  rw [List.getElem?_append_left (by omega)]
 | x :: l, k + 1, hk, ho, j, hj => by
  have hx := Pp.cells_length (ho x List.mem_cons_self)
  have e : (k + 1) * 12 + j - x.cells.length = k * 12 + j := by omega
  rw [ppcells, List.getElem?_append_right (by omega), e, List.getD_cons_succ]
  exact pp_at l k (by simpa using hk) (fun y hy => ho y (List.mem_cons_of_mem _ hy)) j hj
theorem Pp.at_votes (x : Pp) (h : x.t.ok) (f : Nat) (hf : f < 7) : x.cells[4 + f]? = some (.bool (x.t.has f)) ∧ x.cells[11]? = some (I6 x.t.c) := by
 obtain ⟨p, v, c⟩ := x
 obtain ⟨h1, h2⟩ := h
 have h1' : v.length = 7 := h1
 match v, h1' with
 | [a0, a1, a2, a3, a4, a5, a6], _ =>
  match f, hf with
  | 0, _ => simp [Pp.cells, Pst.cells, Tl.cells, Tl.has]
  | 1, _ => simp [Pp.cells, Pst.cells, Tl.cells, Tl.has]
  | 2, _ => simp [Pp.cells, Pst.cells, Tl.cells, Tl.has]
  | 3, _ => simp [Pp.cells, Pst.cells, Tl.cells, Tl.has]
  | 4, _ => simp [Pp.cells, Pst.cells, Tl.cells, Tl.has]
  | 5, _ => simp [Pp.cells, Pst.cells, Tl.cells, Tl.has]
  | 6, _ => simp [Pp.cells, Pst.cells, Tl.cells, Tl.has]
theorem Pp.set_votes (x : Pp) (h : x.t.ok) (f : Nat) (hf : f < 7) : (x.cells.set (4 + f) (.bool true)).set 11 (I6 (x.t.c + 1)) = (Pp.mk x.p (x.t.add f)).cells := by
 obtain ⟨p, v, c⟩ := x
 obtain ⟨h1, h2⟩ := h
 have h1' : v.length = 7 := h1
 match v, h1' with
 | [a0, a1, a2, a3, a4, a5, a6], _ =>
  match f, hf with
  | 0, _ => simp [Pp.cells, Pst.cells, Tl.cells, Tl.add]
  | 1, _ => simp [Pp.cells, Pst.cells, Tl.cells, Tl.add]
  | 2, _ => simp [Pp.cells, Pst.cells, Tl.cells, Tl.add]
  | 3, _ => simp [Pp.cells, Pst.cells, Tl.cells, Tl.add]
  | 4, _ => simp [Pp.cells, Pst.cells, Tl.cells, Tl.add]
  | 5, _ => simp [Pp.cells, Pst.cells, Tl.cells, Tl.add]
  | 6, _ => simp [Pp.cells, Pst.cells, Tl.cells, Tl.add]
theorem pp_set : ∀ (ps : List Pp) (k : Nat) (_ : k < ps.length) (_ : ∀ x ∈ ps, x.t.ok) (f : Nat) (_ : f < 7), ((ppcells ps).set (k * 12 + (4 + f)) (.bool true)).set (k * 12 + 11) (I6 ((ps.getD k noPp).t.c + 1)) = ppcells (ps.set k ⟨(ps.getD k noPp).p, (ps.getD k noPp).t.add f⟩)
 | [], k, hk, _, _, _ => by simp at hk
 | x :: l, 0, _, ho, f, hf => by
  have hx := Pp.cells_length (ho x List.mem_cons_self)
  simp only [ppcells, List.getD_cons_zero, Nat.zero_mul, Nat.zero_add, List.set_cons_zero]
  rw [List.set_append_left _ _ (by omega), List.set_append_left _ _ (by rw [List.length_set]; omega), Pp.set_votes x (ho x List.mem_cons_self) f hf]
 | x :: l, k + 1, hk, ho, f, hf => by
  have hx := Pp.cells_length (ho x List.mem_cons_self)
  have e : (k + 1) * 12 + (4 + f) - x.cells.length = k * 12 + (4 + f) := by omega
  have e2 : (k + 1) * 12 + 11 - x.cells.length = k * 12 + 11 := by omega
  rw [ppcells, List.set_append_right _ _ (by omega), e, List.set_append_right _ _ (by omega), e2, List.getD_cons_succ, List.set_cons_succ, ppcells, pp_set l k (by simpa using hk) (fun y hy => ho y (List.mem_cons_of_mem _ hy)) f hf]
theorem lead_at (b : Int) (next : Nat) (ps : List Pp) (hl : ps.length = 16) (ho : ∀ x ∈ ps, x.t.ok) (k : Nat) (hk : k < 16) (j : Nat) (hj : j < 12) : (leadHead b next ++ ppcells ps).toArray[3 + k * 12 + j]? = (ps.getD k noPp).cells[j]? := by
 have h1 : (leadHead b next).length = 3 := rfl
 have e : 3 + k * 12 + j - 3 = k * 12 + j := by omega
 rw [List.getElem?_toArray, List.getElem?_append_right (by omega), h1, e, pp_at ps k (by omega) ho j hj]
theorem lead_has (b : Int) (next : Nat) (ps : List Pp) (hl : ps.length = 16) (ho : ∀ x ∈ ps, x.t.ok) (k : Nat) (hk : k < 16) (f : Nat) (hf : f < 7) : (leadHead b next ++ ppcells ps).toArray[3 + k * 12 + 4 + f]? = some (.bool ((ps.getD k noPp).t.has f)) := by
 have e : 3 + k * 12 + 4 + f = 3 + k * 12 + (4 + f) := by omega
 rw [e, lead_at b next ps hl ho k hk (4 + f) (by omega), (Pp.at_votes _ (getD_ok ho (by omega)) f hf).1]
theorem lead_cnt (b : Int) (next : Nat) (ps : List Pp) (hl : ps.length = 16) (ho : ∀ x ∈ ps, x.t.ok) (k : Nat) (hk : k < 16) : (leadHead b next ++ ppcells ps).toArray[3 + k * 12 + 4 + 7]? = some (I6 (ps.getD k noPp).t.c) := by
 have e : 3 + k * 12 + 4 + 7 = 3 + k * 12 + 11 := by omega
 rw [e, lead_at b next ps hl ho k hk 11 (by omega), (Pp.at_votes _ (getD_ok ho (by omega)) 0 (by decide)).2]
theorem lead_add (b : Int) (next : Nat) (ps : List Pp) (hl : ps.length = 16) (ho : ∀ x ∈ ps, x.t.ok) (k : Nat) (hk : k < 16) (f : Nat) (hf : f < 7) : ((leadHead b next ++ ppcells ps).toArray.setIfInBounds (3 + k * 12 + 4 + f) (.bool true)).setIfInBounds (3 + k * 12 + 4 + 7) (I6 ((ps.getD k noPp).t.c + 1)) = (leadHead b next ++ ppcells (ps.set k ⟨(ps.getD k noPp).p, (ps.getD k noPp).t.add f⟩)).toArray := by
 have h1 : (leadHead b next).length = 3 := rfl
 have e : 3 + k * 12 + 4 + f - 3 = k * 12 + (4 + f) := by omega
 have e2 : 3 + k * 12 + 4 + 7 - 3 = k * 12 + 11 := by omega
 rw [List.setIfInBounds_toArray, List.setIfInBounds_toArray, List.set_append_right _ _ (by omega), h1, e, List.set_append_right _ _ (by omega), h1, e2, pp_set ps k (by omega) ho f hf]
set_option maxHeartbeats 1000000 in
theorem takeAccept_no {w : World} {sb : Nat} {L : Lay} {s : Sy} (h : SynAt w sb L s) {i : Nat} (hi : i < s.n) (x : Nm) (hx : x.okt w) (hm : x.m.ok s.n) (hno : ∀ b next ps, (s.rep i).rl ≠ .lead b next ps) :
  Calls Tryz.prog 103 #[.pointer (some (A6 (L.rb i) 0)), .agg x.cells.toArray] w fun e w' => e = .returned (.tuple #[]) ∧ SynTo w sb L w' s := by
 have hAt := h
 obtain ⟨xa, xc, hxe, _⟩ := hx.1.1.form
 obtain ⟨⟨mk, mf, mt, mb, ms, ⟨mc, mq, mh, mx⟩, ma⟩, xv⟩ := x
 obtain ⟨f, rfl⟩ := Int.eq_ofNat_of_zero_le hm.f0
 obtain ⟨sl, rfl⟩ := Int.eq_ofNat_of_zero_le hm.s0
 have hf : f < s.n := by have := hm.f1; simp at this; exact this
 have hsl : sl < 16 := by have := hm.s1; simp at this; omega
 have b0 : 0 ≤ mb := hm.b0
 have b1 : mb ≤ 8007 := hm.b1
 simp only [Nm.cells] at *
 subst hxe
 generalize hxn : ma.length = xn at *
 have hbox := blk_new w (.cells #[I6 mk, I6 (f : Int), I6 mt, I6 mb, I6 (sl : Int), I6 mc, I6 mq, I6 mh, .string mx, .slice xa xn xc] 36)
 have hB : Below w.heap.size w (w.alloc (.cells #[I6 mk, I6 (f : Int), I6 mt, I6 mb, I6 (sl : Int), I6 mc, I6 mq, I6 mh, .string mx, .slice xa xn xc] 36)) := (Below.refl _ w).alloc (Nat.le_refl _) _
 have c5 := ((h.alloc (.cells #[I6 mk, I6 (f : Int), I6 mt, I6 mb, I6 (sl : Int), I6 mc, I6 mq, I6 mh, .string mx, .slice xa xn xc] 36)).cells hi).2.2.2.2.2
 have hro := h.role i hi
 cases hrl : (s.rep i).rl with
 | idle =>
  rw [hrl] at hro
  have hrv : L.rv i = idleV := hro
  rw [hrv, idleV] at c5
  clear hrv hro hrl
  have has := asL_idle
  go_enter Tryz.func103, Tryz.ntmps103
  go_wp2_with fail
  refine wp_region_held_drew (S := fun w' => w'.heap[w.heap.size]? = some (.cells #[I6 mk, I6 (f : Int), I6 mt, I6 mb, I6 (sl : Int), I6 mc, I6 mq, I6 mh, .string mx, .slice xa xn xc] 36 (0, 0))) (by kernel_rfl) (hbox) (fun hS => ?_)
  refine tk 0 rfl hS (v := ?_) (fun w' hw => ?_) ?_
  rotate_left 1
  ·go_simp; all_goals with_reducible rfl
  try simp only [ly]
  refine tk 1 rfl hS (v := ?_) (fun w' hw => ?_) ?_
  rotate_left 1
  ·go_simp; all_goals with_reducible rfl
  try simp only [ly]
  refine tk 2 rfl hS (v := ?_) (fun w' hw => ?_) ?_
  rotate_left 1
  ·go_simp; all_goals with_reducible rfl
  try simp only [ly]
  refine tn 3 rfl hS ?_
  try simp only [ly]
  refine tn 4 rfl hS ?_
  try simp only [ly]
  refine tn 5 rfl hS ?_
  try simp only [ly]
  refine tn 6 rfl hS ?_
  try simp only [ly]
  refine tn 7 rfl hS ?_
  try simp only [ly]
  refine tn 8 rfl hS ?_
  try simp only [ly]
  refine tn 9 rfl hS ?_
  try simp only [ly]
  refine tn 10 rfl hS ?_
  try simp only [ly]
  refine tk 11 rfl hS (v := ?_) (fun w' hw => ?_) ?_
  rotate_left 1
  ·go_simp; all_goals with_reducible rfl
  try simp only [ly]
  refine tk 12 rfl hS (v := ?_) (fun w' hw => ?_) ?_
  rotate_left 1
  ·go_simp; all_goals with_reducible rfl
  try simp only [ly]
  refine tn 13 rfl hS ?_
  try simp only [ly]
  refine tn 14 rfl hS ?_
  try simp only [ly]
  refine tn 15 rfl hS ?_
  try simp only [ly]
  refine tn 16 rfl hS ?_
  try simp only [ly]
  refine tn 17 rfl hS ?_
  try simp only [ly]
  refine tn 18 rfl hS ?_
  try simp only [ly]
  refine tn 19 rfl hS ?_
  try simp only [ly]
  refine tn 20 rfl hS ?_
  try simp only [ly]
  refine tk 21 rfl hS (v := ?_) (fun w' hw => ?_) ?_
  rotate_left 1
  ·go_simp; all_goals with_reducible rfl
  try simp only [ly]
  refine dn ?_ _
  go_wp2_with fail
  refine bodyPost_ret (results_none rfl _ _ _) rfl ?_
  exact ⟨rfl, (SynTo.refl hAt).below (Below.drew hB)⟩
 | prep b t kept =>
  rw [hrl] at hro
  obtain ⟨pb, hrv, _⟩ := hro
  rw [hrv] at c5
  clear hrv hrl
  have has := asL_prep
  go_enter Tryz.func103, Tryz.ntmps103
  go_wp2_with fail
  refine wp_region_held_drew (S := fun w' => w'.heap[w.heap.size]? = some (.cells #[I6 mk, I6 (f : Int), I6 mt, I6 mb, I6 (sl : Int), I6 mc, I6 mq, I6 mh, .string mx, .slice xa xn xc] 36 (0, 0))) (by kernel_rfl) (hbox) (fun hS => ?_)
  refine tk 0 rfl hS (v := ?_) (fun w' hw => ?_) ?_
  rotate_left 1
  ·go_simp; all_goals with_reducible rfl
  try simp only [ly]
  refine tk 1 rfl hS (v := ?_) (fun w' hw => ?_) ?_
  rotate_left 1
  ·go_simp; all_goals with_reducible rfl
  try simp only [ly]
  refine tk 2 rfl hS (v := ?_) (fun w' hw => ?_) ?_
  rotate_left 1
  ·go_simp; all_goals with_reducible rfl
  try simp only [ly]
  refine tn 3 rfl hS ?_
  try simp only [ly]
  refine tn 4 rfl hS ?_
  try simp only [ly]
  refine tn 5 rfl hS ?_
  try simp only [ly]
  refine tn 6 rfl hS ?_
  try simp only [ly]
  refine tn 7 rfl hS ?_
  try simp only [ly]
  refine tn 8 rfl hS ?_
  try simp only [ly]
  refine tn 9 rfl hS ?_
  try simp only [ly]
  refine tn 10 rfl hS ?_
  try simp only [ly]
  refine tk 11 rfl hS (v := ?_) (fun w' hw => ?_) ?_
  rotate_left 1
  ·go_simp; all_goals with_reducible rfl
  try simp only [ly]
  refine tk 12 rfl hS (v := ?_) (fun w' hw => ?_) ?_
  rotate_left 1
  ·go_simp; all_goals with_reducible rfl
  try simp only [ly]
  refine tn 13 rfl hS ?_
  try simp only [ly]
  refine tn 14 rfl hS ?_
  try simp only [ly]
  refine tn 15 rfl hS ?_
  try simp only [ly]
  refine tn 16 rfl hS ?_
  try simp only [ly]
  refine tn 17 rfl hS ?_
  try simp only [ly]
  refine tn 18 rfl hS ?_
  try simp only [ly]
  refine tn 19 rfl hS ?_
  try simp only [ly]
  refine tn 20 rfl hS ?_
  try simp only [ly]
  refine tk 21 rfl hS (v := ?_) (fun w' hw => ?_) ?_
  rotate_left 1
  ·go_simp; all_goals with_reducible rfl
  try simp only [ly]
  refine dn ?_ _
  go_wp2_with fail
  refine bodyPost_ret (results_none rfl _ _ _) rfl ?_
  exact ⟨rfl, (SynTo.refl hAt).below (Below.drew hB)⟩
 | lead b next ps => exact absurd hrl (hno b next ps)
set_option maxHeartbeats 2000000 in
theorem takeAccept_lead {w : World} {sb : Nat} {L : Lay} {s : Sy} (h : SynAt w sb L s) {i : Nat} (hi : i < s.n) (x : Nm) (hx : x.okt w) (hm : x.m.ok s.n) {b : Int} {next : Nat} {ps : List Pp} (hrl : (s.rep i).rl = .lead b next ps) :
  Calls Tryz.prog 103 #[.pointer (some (A6 (L.rb i) 0)), .agg x.cells.toArray] w fun e w' => e = .returned (.tuple #[]) ∧ SynTo w sb L w' (s.takeAccept i x.m) := by
 have hAt := h
 obtain ⟨xa, xc, hxe, _⟩ := hx.1.1.form
 obtain ⟨⟨mk, mf, mt, mb, ms, ⟨mc, mq, mh, mx⟩, ma⟩, xv⟩ := x
 obtain ⟨f, rfl⟩ := Int.eq_ofNat_of_zero_le hm.f0
 obtain ⟨sl, rfl⟩ := Int.eq_ofNat_of_zero_le hm.s0
 have hf : f < s.n := by have := hm.f1; simp at this; exact this
 have hsl : sl < 16 := by have := hm.s1; simp at this; omega
 have b0 : 0 ≤ mb := hm.b0
 have b1 : mb ≤ 8007 := hm.b1
 simp only [Nm.cells] at *
 subst hxe
 generalize hxn : ma.length = xn at *
 have hbox := blk_new w (.cells #[I6 mk, I6 (f : Int), I6 mt, I6 mb, I6 (sl : Int), I6 mc, I6 mq, I6 mh, .string mx, .slice xa xn xc] 36)
 have hB : Below w.heap.size w (w.alloc (.cells #[I6 mk, I6 (f : Int), I6 mt, I6 mb, I6 (sl : Int), I6 mc, I6 mq, I6 mh, .string mx, .slice xa xn xc] 36)) := (Below.refl _ w).alloc (Nat.le_refl _) _
 have c5 := ((h.alloc (.cells #[I6 mk, I6 (f : Int), I6 mt, I6 mb, I6 (sl : Int), I6 mc, I6 mq, I6 mh, .string mx, .slice xa xn xc] 36)).cells hi).2.2.2.2.2
 have hcn := ((h.alloc (.cells #[I6 mk, I6 (f : Int), I6 mt, I6 mb, I6 (sl : Int), I6 mc, I6 mq, I6 mh, .string mx, .slice xa xn xc] 36)).cells hi).2.1
 have hro := h.role i hi
 have hrok := (h.ok.repOk hi).rl
 rw [hrl] at hro hrok
 obtain ⟨hnx, hpl, hpo⟩ := Rl.ok_lead hrok
 obtain ⟨pb, hrv, hpb⟩ := hro
 rw [hrv] at c5
 have has := asL_lead
 have hf7 : f < 7 := by have := h.ok.n1; omega
 have hplt := lt_of_block hpb
 have hpbA := blk_alloc hpb (.cells #[I6 mk, I6 (f : Int), I6 mt, I6 mb, I6 (sl : Int), I6 mc, I6 mq, I6 mh, .string mx, .slice xa xn xc] 36)
 have hpb1 : (w.alloc (.cells #[I6 mk, I6 (f : Int), I6 mt, I6 mb, I6 (sl : Int), I6 mc, I6 mq, I6 mh, .string mx, .slice xa xn xc] 36)).cell? (A6 pb 1) = some (I6 b) := (blk_cell hpbA 1).trans rfl
 have hdm := (h.alloc (.cells #[I6 mk, I6 (f : Int), I6 mt, I6 mb, I6 (sl : Int), I6 mc, I6 mq, I6 mh, .string mx, .slice xa xn xc] 36)).dms hi sl hsl
 have q0 : (0 : Int) ≤ (sl : Int) := by omega
 have q1 : (sl : Int) < 16 := by omega
 unfold Sy.takeAccept
 simp only [hrl, Int.toNat_natCast]
 by_cases hbb : b = mb
 ·have hbb' := hbb.symm
  subst hbb'
  have hbq : (mb == mb) = true := by simp
  have hbr : (mb != mb) = false := by simp
  cases hdd : (s.rep i).dm sl
  ·rw [hdd] at hdm
   have htok := getD_ok hpo (k := sl) (by omega)
   have hhas := lead_has mb next ps hpl hpo sl hsl f hf7
   have hcnt := lead_cnt mb next ps hpl hpo sl hsl
   have hadd := lead_add mb next ps hpl hpo sl hsl f hf7
   generalize hpp : ps.getD sl noPp = pp at *
   have Hpp : Hid (ps.getD sl noPp = pp) := hpp
   clear hpp
   cases hth : pp.t.has f
   ·rw [if_pos ⟨rfl, rfl, rfl⟩]
    have hAdd := add_any pb (3 + sl * 12 + 4) f false pp.t.c (w.alloc (.cells #[I6 mk, I6 (f : Int), I6 mt, I6 mb, I6 (sl : Int), I6 mc, I6 mq, I6 mh, .string mx, .slice xa xn xc] 36)).drew.drew.drew hf7 ((blk_cell (w := (w.alloc (.cells #[I6 mk, I6 (f : Int), I6 mt, I6 mb, I6 (sl : Int), I6 mc, I6 mq, I6 mh, .string mx, .slice xa xn xc] 36)).drew.drew.drew) hpbA (3 + sl * 12 + 4 + f)).trans (by rw [hhas, hth])) ((blk_cell (w := (w.alloc (.cells #[I6 mk, I6 (f : Int), I6 mt, I6 mb, I6 (sl : Int), I6 mc, I6 mq, I6 mh, .string mx, .slice xa xn xc] 36)).drew.drew.drew) hpbA (3 + sl * 12 + 4 + 7)).trans hcnt) (blk_free (w := (w.alloc (.cells #[I6 mk, I6 (f : Int), I6 mt, I6 mb, I6 (sl : Int), I6 mc, I6 mq, I6 mh, .string mx, .slice xa xn xc] 36)).drew.drew.drew) hpbA) htok.le.1 (by have := htok.le.2; omega)
    have htok2 := Tl.add_ok htok hf7 hth
    have hpo2 : ∀ x ∈ ps.set sl ⟨pp.p, pp.t.add f⟩, x.t.ok := set_ok hpo htok2
    have hpl2 : (ps.set sl ⟨pp.p, pp.t.add f⟩).length = 16 := by rw [List.length_set]; exact hpl
    have hcnt2 := lead_cnt mb next _ hpl2 hpo2 sl hsl
    have hval2 := lead_at mb next _ hpl2 hpo2 sl hsl
    have hgs : (ps.set sl ⟨pp.p, pp.t.add f⟩).getD sl noPp = ⟨pp.p, pp.t.add f⟩ := by
     rw [List.getD_eq_getElem?_getD, List.getElem?_set_self (by omega)]; rfl
    rw [hgs] at hcnt2 hval2
    have hval2' : ∀ j, j < 4 → (leadHead mb next ++ ppcells (ps.set sl ⟨pp.p, pp.t.add f⟩)).toArray[3 + sl * 12 + j]? = (Pst.cells pp.p)[j]? := fun j hj => by
     rw [hval2 j (by omega)]
     simp only [Pp.cells]
     rw [List.getElem?_append_left (by exact hj)]
    clear hval2 hgs
    have Hval : Hid (∀ j, j < 4 → (leadHead mb next ++ ppcells (ps.set sl ⟨pp.p, pp.t.add f⟩)).toArray[3 + sl * 12 + j]? = (Pst.cells pp.p)[j]?) := hval2'
    have Hcnt : Hid ((leadHead mb next ++ ppcells (ps.set sl ⟨pp.p, pp.t.add f⟩)).toArray[3 + sl * 12 + 4 + 7]? = some (I6 (pp.t.c + 1))) := hcnt2
    have Hadd : Hid (((leadHead mb next ++ ppcells ps).toArray.setIfInBounds (3 + sl * 12 + 4 + f) (.bool true)).setIfInBounds (3 + sl * 12 + 4 + 7) (I6 (pp.t.c + 1)) = (leadHead mb next ++ ppcells (ps.set sl ⟨pp.p, pp.t.add f⟩)).toArray) := hadd
    clear hval2' hcnt2 hadd
    go_enter Tryz.func103, Tryz.ntmps103
    go_wp2_with fail
    refine wp_region_held_drew (S := fun w' => w'.heap[w.heap.size]? = some (.cells #[I6 mk, I6 (f : Int), I6 mt, I6 mb, I6 (sl : Int), I6 mc, I6 mq, I6 mh, .string mx, .slice xa xn xc] 36 (0, 0)) ∧ w'.cell? (A6 pb 1) = some (I6 mb) ∧ w'.cell? (A6 (L.rb i) (101 + sl * 5)) = some (.bool false)) (by kernel_rfl) (⟨hbox, hpb1, hdm⟩) (fun hS => ?_)
    refine tk 0 rfl hS (v := ?_) (fun w' hw => ?_) ?_
    rotate_left 1
    ·go_simp; all_goals with_reducible rfl
    try simp only [ly]
    refine tk 1 rfl hS (v := ?_) (fun w' hw => ?_) ?_
    rotate_left 1
    ·go_simp; all_goals with_reducible rfl
    try simp only [ly]
    refine tk 2 rfl hS (v := ?_) (fun w' hw => ?_) ?_
    rotate_left 1
    ·go_simp; all_goals with_reducible rfl
    try simp only [ly]
    refine tk 3 rfl hS (v := ?_) (fun w' hw => ?_) ?_
    rotate_left 1
    ·have c := blk_cell hw.1; have c2 := hw.2.1; have c3 := hw.2.2; go_simp; all_goals with_reducible rfl
    try simp only [ly]
    refine tk 4 rfl hS (v := ?_) (fun w' hw => ?_) ?_
    rotate_left 1
    ·have c := blk_cell hw.1; have c2 := hw.2.1; have c3 := hw.2.2; go_simp; all_goals with_reducible rfl
    try simp only [ly]
    refine tk 5 rfl hS (v := ?_) (fun w' hw => ?_) ?_
    rotate_left 1
    ·have c := blk_cell hw.1; have c2 := hw.2.1; have c3 := hw.2.2; go_simp; all_goals with_reducible rfl
    try simp only [ly]
    refine tk 6 rfl hS (v := ?_) (fun w' hw => ?_) ?_
    rotate_left 1
    ·have c := blk_cell hw.1; have c2 := hw.2.1; have c3 := hw.2.2; go_simp; all_goals with_reducible rfl
    try simp only [ly]
    refine tk 7 rfl hS (v := ?_) (fun w' hw => ?_) ?_
    rotate_left 1
    ·have c := blk_cell hw.1; have c2 := hw.2.1; have c3 := hw.2.2; go_simp; all_goals with_reducible rfl
    try simp only [ly]
    refine tk 8 rfl hS (v := ?_) (fun w' hw => ?_) ?_
    rotate_left 1
    ·have c := blk_cell hw.1; have c2 := hw.2.1; have c3 := hw.2.2; go_simp; all_goals with_reducible rfl
    try simp only [ly]
    refine tk 9 rfl hS (v := ?_) (fun w' hw => ?_) ?_
    rotate_left 1
    ·have c := blk_cell hw.1; have c2 := hw.2.1; have c3 := hw.2.2; go_simp; all_goals with_reducible rfl
    try simp only [ly]
    refine tk 10 rfl hS (v := ?_) (fun w' hw => ?_) ?_
    rotate_left 1
    ·have c := blk_cell hw.1; have c2 := hw.2.1; have c3 := hw.2.2; go_simp; all_goals with_reducible rfl
    try simp only [ly]
    refine tk 11 rfl hS (v := ?_) (fun w' hw => ?_) ?_
    rotate_left 1
    ·go_simp; all_goals with_reducible rfl
    try simp only [ly]
    refine tk 12 rfl hS (v := ?_) (fun w' hw => ?_) ?_
    rotate_left 1
    ·go_simp; all_goals with_reducible rfl
    try simp only [ly]
    refine tk 13 rfl hS (v := ?_) (fun w' hw => ?_) ?_
    rotate_left 1
    ·have c := blk_cell hw.1; have c2 := hw.2.1; have c3 := hw.2.2; go_simp; all_goals with_reducible rfl
    try simp only [ly]
    refine tk 14 rfl hS (v := ?_) (fun w' hw => ?_) ?_
    rotate_left 1
    ·have c := blk_cell hw.1; have c2 := hw.2.1; have c3 := hw.2.2; go_simp; all_goals with_reducible rfl
    try simp only [ly]
    refine tk 15 rfl hS (v := ?_) (fun w' hw => ?_) ?_
    rotate_left 1
    ·have c := blk_cell hw.1; have c2 := hw.2.1; have c3 := hw.2.2; go_simp; all_goals with_reducible rfl
    try simp only [ly]
    refine tk 16 rfl hS (v := ?_) (fun w' hw => ?_) ?_
    rotate_left 1
    ·have c := blk_cell hw.1; have c2 := hw.2.1; have c3 := hw.2.2; go_simp; all_goals with_reducible rfl
    try simp only [ly]
    refine tk 17 rfl hS (v := ?_) (fun w' hw => ?_) ?_
    rotate_left 1
    ·have c := blk_cell hw.1; have c2 := hw.2.1; have c3 := hw.2.2; go_simp; all_goals with_reducible rfl
    try simp only [ly]
    refine tk 18 rfl hS (v := ?_) (fun w' hw => ?_) ?_
    rotate_left 1
    ·have c := blk_cell hw.1; have c2 := hw.2.1; have c3 := hw.2.2; go_simp; all_goals with_reducible rfl
    try simp only [ly]
    refine tk 19 rfl hS (v := ?_) (fun w' hw => ?_) ?_
    rotate_left 1
    ·have c := blk_cell hw.1; have c2 := hw.2.1; have c3 := hw.2.2; go_simp; all_goals with_reducible rfl
    try simp only [ly]
    refine tk 20 rfl hS (v := ?_) (fun w' hw => ?_) ?_
    rotate_left 1
    ·have c := blk_cell hw.1; have c2 := hw.2.1; have c3 := hw.2.2; go_simp; all_goals with_reducible rfl
    try simp only [ly]
    refine tk 21 rfl hS (v := ?_) (fun w' hw => ?_) ?_
    rotate_left 1
    ·go_simp; all_goals with_reducible rfl
    try simp only [ly]
    refine dn ?_ _
    go_wp2_with fail
    refine wp_region_held_drew (S := fun w' => w'.heap[w.heap.size]? = some (.cells #[I6 mk, I6 (f : Int), I6 mt, I6 mb, I6 (sl : Int), I6 mc, I6 mq, I6 mh, .string mx, .slice xa xn xc] 36 (0, 0))) (by kernel_rfl) (hbox) (fun hS => ?_)
    refine tk 0 rfl hS (v := ?_) (fun w' hw => ?_) ?_
    rotate_left 1
    ·have c := blk_cell hw; go_simp; all_goals with_reducible rfl
    try simp only [ly]
    refine tk 1 rfl hS (v := ?_) (fun w' hw => ?_) ?_
    rotate_left 1
    ·have c := blk_cell hw; go_simp; all_goals with_reducible rfl
    try simp only [ly]
    refine tk 2 rfl hS (v := ?_) (fun w' hw => ?_) ?_
    rotate_left 1
    ·have c := blk_cell hw; go_simp; all_goals with_reducible rfl
    try simp only [ly]
    refine tk 3 rfl hS (v := ?_) (fun w' hw => ?_) ?_
    rotate_left 1
    ·have c := blk_cell hw; go_simp; all_goals with_reducible rfl
    try simp only [ly]
    refine tk 4 rfl hS (v := ?_) (fun w' hw => ?_) ?_
    rotate_left 1
    ·have c := blk_cell hw; go_simp; all_goals with_reducible rfl
    try simp only [ly]
    refine tk 5 rfl hS (v := ?_) (fun w' hw => ?_) ?_
    rotate_left 1
    ·have c := blk_cell hw; go_simp; all_goals with_reducible rfl
    try simp only [ly]
    refine r1 6 rfl (fun K hK => ?_)
    go_simp
    refine hK.out _ _ hbox (fun hS => ?_)
    clear hK K
    try simp only [ly]
    refine dn ?_ _
    go_wp2_with fail
    refine wp_region_held_drew (S := fun w' => w'.heap[w.heap.size]? = some (.cells #[I6 mk, I6 (f : Int), I6 mt, I6 mb, I6 (sl : Int), I6 mc, I6 mq, I6 mh, .string mx, .slice xa xn xc] 36 (0, 0)) ∧ w'.cell? (A6 (L.rb i) 1) = some (I6 (s.n : Int))) (by kernel_rfl) (⟨hbox, hcn⟩) (fun hS => ?_)
    refine tk 0 rfl hS (v := ?_) (fun w' hw => ?_) ?_
    rotate_left 1
    ·have c := blk_cell hw.1; have c2 := hw.2; go_simp; all_goals with_reducible rfl
    try simp only [ly]
    refine tk 1 rfl hS (v := ?_) (fun w' hw => ?_) ?_
    rotate_left 1
    ·have c := blk_cell hw.1; have c2 := hw.2; go_simp; all_goals with_reducible rfl
    try simp only [ly]
    refine tk 2 rfl hS (v := ?_) (fun w' hw => ?_) ?_
    rotate_left 1
    ·have c := blk_cell hw.1; have c2 := hw.2; go_simp; all_goals with_reducible rfl
    try simp only [ly]
    refine tk 3 rfl hS (v := ?_) (fun w' hw => ?_) ?_
    rotate_left 1
    ·have c := blk_cell hw.1; have c2 := hw.2; go_simp; all_goals with_reducible rfl
    try simp only [ly]
    refine tk 4 rfl hS (v := ?_) (fun w' hw => ?_) ?_
    rotate_left 1
    ·have c := blk_cell hw.1; have c2 := hw.2; go_simp; all_goals with_reducible rfl
    try simp only [ly]
    refine r1 5 rfl (fun K hK => ?_)
    go_simp
    refine hAdd.mono ?_
    rintro e w2 ⟨rfl, hw2⟩
    rw [if_neg (by simp)] at hw2
    clear hAdd
    have hpb2 : w2.heap[pb]? = some (.cells (leadHead mb next ++ ppcells (ps.set sl ⟨pp.p, pp.t.add f⟩)).toArray 166 (0, 0)) := by
     rw [hw2, blk_set (blk_set (w := (w.alloc (.cells #[I6 mk, I6 (f : Int), I6 mt, I6 mb, I6 (sl : Int), I6 mc, I6 mq, I6 mh, .string mx, .slice xa xn xc] 36)).drew.drew.drew) hpbA _ _), Hadd.out]
    have hk2 : Keeps (fun k => k = pb) (w.alloc (.cells #[I6 mk, I6 (f : Int), I6 mt, I6 mb, I6 (sl : Int), I6 mc, I6 mq, I6 mh, .string mx, .slice xa xn xc] 36)).drew.drew.drew w2 := by
     rw [hw2]
     exact (Keeps.ofSet (P := fun k => k = pb) (a := (A6 pb (3 + sl * 12 + 4 + f))) (.inl rfl) _).trans (Keeps.ofSet (P := fun k => k = pb) (a := (A6 pb (3 + sl * 12 + 4 + 7))) (.inl rfl) _)
    clear hw2
    have hbox2 : w2.heap[w.heap.size]? = some (.cells #[I6 mk, I6 (f : Int), I6 mt, I6 mb, I6 (sl : Int), I6 mc, I6 mq, I6 mh, .string mx, .slice xa xn xc] 36 (0, 0)) := blk_keeps hk2 (b := w.heap.size) hbox (by omega)
    have hBd : Below w.heap.size w (w.alloc (.cells #[I6 mk, I6 (f : Int), I6 mt, I6 mb, I6 (sl : Int), I6 mc, I6 mq, I6 mh, .string mx, .slice xa xn xc] 36)).drew.drew.drew := Below.drew (Below.drew (Below.drew hB))
    have hto2D := ((hAt.below hBd).setRole hi (pb := pb) (l := .lead mb next (ps.set sl ⟨pp.p, pp.t.add f⟩)) (by rw [hrv]; rfl) hk2 ⟨pb, hrv, hpb2⟩ ⟨hnx, hpl2, hpo2⟩)
    have hto2 := SynRv.after (s := s.put i ((s.rep i).role (.lead mb next (ps.set sl ⟨pp.p, pp.t.add f⟩)))) hAt rfl hBd hto2D
    obtain ⟨L2, h2, e2, r2, o2, kk2⟩ := id hto2D
    have hcn2 := (h2.cells hi).2.1
    rw [e2] at hcn2
    have hcn2' : w2.cell? (A6 (L.rb i) 1) = some (I6 (s.n : Int)) := hcn2
    have hv2 : ∀ j, j < 4 → w2.cell? (A6 pb (3 + sl * 12 + j)) = (Pst.cells pp.p)[j]? := fun j hj => (blk_cell hpb2 _).trans (Hval.out j hj)
    have Hv2 : Hid (∀ j, j < 4 → w2.cell? (A6 pb (3 + sl * 12 + j)) = (Pst.cells pp.p)[j]?) := hv2
    clear hcn2 hv2
    have hMaj := majority_any pb (3 + sl * 12 + 4) (pp.t.c + 1) (s.n : Int) w2 ((blk_cell hpb2 (3 + sl * 12 + 4 + 7)).trans Hcnt.out) (by have := htok.le; omega) (by have := htok.le; omega)
    go_wp2_with fail
    refine hK.out _ _ ⟨hbox2, hcn2'⟩ (fun hS => ?_)
    clear hK K
    try simp only [ly]
    refine tk 6 rfl hS (v := ?_) (fun w' hw => ?_) ?_
    rotate_left 1
    ·have c := blk_cell hw.1; have c2 := hw.2; go_simp; all_goals with_reducible rfl
    try simp only [ly]
    refine tk 7 rfl hS (v := ?_) (fun w' hw => ?_) ?_
    rotate_left 1
    ·have c := blk_cell hw.1; have c2 := hw.2; go_simp; all_goals with_reducible rfl
    try simp only [ly]
    refine tk 8 rfl hS (v := ?_) (fun w' hw => ?_) ?_
    rotate_left 1
    ·have c := blk_cell hw.1; have c2 := hw.2; go_simp; all_goals with_reducible rfl
    try simp only [ly]
    refine tk 9 rfl hS (v := ?_) (fun w' hw => ?_) ?_
    rotate_left 1
    ·have c := blk_cell hw.1; have c2 := hw.2; go_simp; all_goals with_reducible rfl
    try simp only [ly]
    refine tk 10 rfl hS (v := ?_) (fun w' hw => ?_) ?_
    rotate_left 1
    ·have c := blk_cell hw.1; have c2 := hw.2; go_simp; all_goals with_reducible rfl
    try simp only [ly]
    refine tk 11 rfl hS (v := ?_) (fun w' hw => ?_) ?_
    rotate_left 1
    ·have c := blk_cell hw.1; have c2 := hw.2; go_simp; all_goals with_reducible rfl
    try simp only [ly]
    refine tk 12 rfl hS (v := ?_) (fun w' hw => ?_) ?_
    rotate_left 1
    ·have c := blk_cell hw.1; have c2 := hw.2; go_simp; all_goals with_reducible rfl
    try simp only [ly]
    refine tk 13 rfl hS (v := ?_) (fun w' hw => ?_) ?_
    rotate_left 1
    ·have c := blk_cell hw.1; have c2 := hw.2; go_simp; all_goals with_reducible rfl
    try simp only [ly]
    refine r1 14 rfl (fun K hK => ?_)
    go_simp
    refine hMaj.mono ?_
    rintro e w4 ⟨rfl, hw4⟩
    have hw4' := hw4.symm
    subst hw4'
    clear hw4
    clear hMaj
    by_cases hq : (s.n : Int) < 2 * (pp.t.c + 1)
    ·have hqd : decide ((s.n : Int) < 2 * (pp.t.c + 1)) = true := decide_eq_true hq
     simp only [hqd, if_pos hq]
     go_wp2_with fail
     refine hK.out _ _ ⟨hbox2, hcn2'⟩ (fun hS => ?_)
     clear hK K
     try simp only [ly]
     refine tk 15 rfl hS (v := ?_) (fun w' hw => ?_) ?_
     rotate_left 1
     ·go_simp; all_goals with_reducible rfl
     try simp only [ly]
     refine dn ?_ _
     have hno2 : ¬ L2.own sb s.n w.heap.size := fun ho => by
      rcases o2 _ ho with h9 | h9
      ·have := hAt.own_lt h9; omega
      ·rw [show ((w.alloc (.cells #[I6 mk, I6 (f : Int), I6 mt, I6 mb, I6 (sl : Int), I6 mc, I6 mq, I6 mh, .string mx, .slice xa xn xc] 36)).drew.drew.drew).heap.size = w.heap.size + 1 from World.size_alloc _ _] at h9; omega
     have hD := decide_rv h2.drew hi sl hsl pp.p
     rw [e2] at hD
     go_wp2_with fail
     refine wp_region_held_drew (S := fun w' => w'.heap[w.heap.size]? = some (.cells #[I6 mk, I6 (f : Int), I6 mt, I6 mb, I6 (sl : Int), I6 mc, I6 mq, I6 mh, .string mx, .slice xa xn xc] 36 (0, 0)) ∧ w'.cell? (A6 pb (3 + sl * 12)) = some (I6 pp.p.c) ∧ w'.cell? (A6 pb (3 + sl * 12 + 1)) = some (I6 pp.p.q) ∧ w'.cell? (A6 pb (3 + sl * 12 + 2)) = some (I6 pp.p.h) ∧ w'.cell? (A6 pb (3 + sl * 12 + 3)) = some (.string pp.p.t)) (by kernel_rfl) (⟨hbox2, four Hv2.out⟩) (fun hS => ?_)
     refine tk 0 rfl hS (v := ?_) (fun w' hw => ?_) ?_
     rotate_left 1
     ·have c := blk_cell hw.1; have d0 := hw.2.1; have d1 := hw.2.2.1; have d2 := hw.2.2.2.1; have d3 := hw.2.2.2.2; go_simp; all_goals with_reducible rfl
     try simp only [ly]
     refine tk 1 rfl hS (v := ?_) (fun w' hw => ?_) ?_
     rotate_left 1
     ·have c := blk_cell hw.1; have d0 := hw.2.1; have d1 := hw.2.2.1; have d2 := hw.2.2.2.1; have d3 := hw.2.2.2.2; go_simp; all_goals with_reducible rfl
     try simp only [ly]
     refine tk 2 rfl hS (v := ?_) (fun w' hw => ?_) ?_
     rotate_left 1
     ·have c := blk_cell hw.1; have d0 := hw.2.1; have d1 := hw.2.2.1; have d2 := hw.2.2.2.1; have d3 := hw.2.2.2.2; go_simp; all_goals with_reducible rfl
     try simp only [ly]
     refine tk 3 rfl hS (v := ?_) (fun w' hw => ?_) ?_
     rotate_left 1
     ·have c := blk_cell hw.1; have d0 := hw.2.1; have d1 := hw.2.2.1; have d2 := hw.2.2.2.1; have d3 := hw.2.2.2.2; go_simp; all_goals with_reducible rfl
     try simp only [ly]
     refine tk 4 rfl hS (v := ?_) (fun w' hw => ?_) ?_
     rotate_left 1
     ·have c := blk_cell hw.1; have d0 := hw.2.1; have d1 := hw.2.2.1; have d2 := hw.2.2.2.1; have d3 := hw.2.2.2.2; go_simp; all_goals with_reducible rfl
     try simp only [ly]
     refine tk 5 rfl hS (v := ?_) (fun w' hw => ?_) ?_
     rotate_left 1
     ·have c := blk_cell hw.1; have d0 := hw.2.1; have d1 := hw.2.2.1; have d2 := hw.2.2.2.1; have d3 := hw.2.2.2.2; go_simp; all_goals with_reducible rfl
     try simp only [ly]
     refine tk 6 rfl hS (v := ?_) (fun w' hw => ?_) ?_
     rotate_left 1
     ·have c := blk_cell hw.1; have d0 := hw.2.1; have d1 := hw.2.2.1; have d2 := hw.2.2.2.1; have d3 := hw.2.2.2.2; go_simp; all_goals with_reducible rfl
     try simp only [ly]
     refine r1 7 rfl (fun K hK => ?_)
     go_simp
     refine hD.mono ?_
     rintro e w5 ⟨rfl, hto5⟩
     clear hD
     have hbox5 := hto5.blk (w := w2.drew) hbox2 hno2
     rw [put_put, Sy.rep_put (by rw [hAt.ok.len]; exact hi), r2] at hto5
     have hto5D := SynRv.next (s2 := s.put i (((s.rep i).role (.lead mb next (ps.set sl ⟨pp.p, pp.t.add f⟩))).decide sl pp.p)) e2 o2 kk2 rfl (SynRv.after (s := s.put i (((s.rep i).role (.lead mb next (ps.set sl ⟨pp.p, pp.t.add f⟩))).decide sl pp.p)) h2 rfl (Below.drew (Below.refl _ w2)) hto5)
     obtain ⟨L5, h5, e5, r5, o5, kk5⟩ := id hto5D
     have hrl5 := h5.role i hi
     rw [Sy.rep_put (by rw [hAt.ok.len]; exact hi), r5, hrv] at hrl5
     obtain ⟨pb', e9, hpb5⟩ := hrl5
     cases e9
     have hv5 : ∀ j, j < 4 → w5.cell? (A6 pb (3 + sl * 12 + j)) = (Pst.cells pp.p)[j]? := fun j hj => (blk_cell hpb5 _).trans (Hval.out j hj)
     have Hv5 : Hid (∀ j, j < 4 → w5.cell? (A6 pb (3 + sl * 12 + j)) = (Pst.cells pp.p)[j]?) := hv5
     clear hv5
     obtain ⟨c50, c51, _⟩ := h5.cells hi
     rw [e5] at c50 c51
     have hO := others_any (L.rb i) s.n i w5.drew c50 c51 hi (by have := hAt.ok.n1; omega)
     clear c50 c51
     have hn5 : (s.put i (((s.rep i).role (.lead mb next (ps.set sl ⟨pp.p, pp.t.add f⟩))).decide sl pp.p)).n = s.n := rfl
     generalize hs5 : s.put i (((s.rep i).role (.lead mb next (ps.set sl ⟨pp.p, pp.t.add f⟩))).decide sl pp.p) = s5 at *
     have Hs5 : Hid (s.put i (((s.rep i).role (.lead mb next (ps.set sl ⟨pp.p, pp.t.add f⟩))).decide sl pp.p) = s5) := hs5
     clear hs5
     go_wp2_with fail
     refine hK.out _ _ ⟨hbox5, four Hv5.out⟩ (fun hS => ?_)
     clear hK K
     try simp only [ly]
     refine dn ?_ _
     go_wp2_with fail
     refine wp_region_held_drew (S := fun w' => w'.heap[w.heap.size]? = some (.cells #[I6 mk, I6 (f : Int), I6 mt, I6 mb, I6 (sl : Int), I6 mc, I6 mq, I6 mh, .string mx, .slice xa xn xc] 36 (0, 0)) ∧ w'.cell? (A6 pb (3 + sl * 12)) = some (I6 pp.p.c) ∧ w'.cell? (A6 pb (3 + sl * 12 + 1)) = some (I6 pp.p.q) ∧ w'.cell? (A6 pb (3 + sl * 12 + 2)) = some (I6 pp.p.h) ∧ w'.cell? (A6 pb (3 + sl * 12 + 3)) = some (.string pp.p.t)) (by kernel_rfl) (⟨hbox5, four Hv5.out⟩) (fun hS => ?_)
     refine tk 0 rfl hS (v := ?_) (fun w' hw => ?_) ?_
     rotate_left 1
     ·have c := blk_cell hw.1; have d0 := hw.2.1; have d1 := hw.2.2.1; have d2 := hw.2.2.2.1; have d3 := hw.2.2.2.2; go_simp; all_goals with_reducible rfl
     try simp only [ly]
     refine tk 1 rfl hS (v := ?_) (fun w' hw => ?_) ?_
     rotate_left 1
     ·have c := blk_cell hw.1; have d0 := hw.2.1; have d1 := hw.2.2.1; have d2 := hw.2.2.2.1; have d3 := hw.2.2.2.2; go_simp; all_goals with_reducible rfl
     try simp only [ly]
     refine tk 2 rfl hS (v := ?_) (fun w' hw => ?_) ?_
     rotate_left 1
     ·have c := blk_cell hw.1; have d0 := hw.2.1; have d1 := hw.2.2.1; have d2 := hw.2.2.2.1; have d3 := hw.2.2.2.2; go_simp; all_goals with_reducible rfl
     try simp only [ly]
     refine tk 3 rfl hS (v := ?_) (fun w' hw => ?_) ?_
     rotate_left 1
     ·have c := blk_cell hw.1; have d0 := hw.2.1; have d1 := hw.2.2.1; have d2 := hw.2.2.2.1; have d3 := hw.2.2.2.2; go_simp; all_goals with_reducible rfl
     try simp only [ly]
     refine tk 4 rfl hS (v := ?_) (fun w' hw => ?_) ?_
     rotate_left 1
     ·have c := blk_cell hw.1; have d0 := hw.2.1; have d1 := hw.2.2.1; have d2 := hw.2.2.2.1; have d3 := hw.2.2.2.2; go_simp; all_goals with_reducible rfl
     try simp only [ly]
     refine tk 5 rfl hS (v := ?_) (fun w' hw => ?_) ?_
     rotate_left 1
     ·have c := blk_cell hw.1; have d0 := hw.2.1; have d1 := hw.2.2.1; have d2 := hw.2.2.2.1; have d3 := hw.2.2.2.2; go_simp; all_goals with_reducible rfl
     try simp only [ly]
     refine tk 6 rfl hS (v := ?_) (fun w' hw => ?_) ?_
     rotate_left 1
     ·have c := blk_cell hw.1; have d0 := hw.2.1; have d1 := hw.2.2.1; have d2 := hw.2.2.2.1; have d3 := hw.2.2.2.2; go_simp; all_goals with_reducible rfl
     try simp only [ly]
     refine tk 7 rfl hS (v := ?_) (fun w' hw => ?_) ?_
     rotate_left 1
     ·have c := blk_cell hw.1; have d0 := hw.2.1; have d1 := hw.2.2.1; have d2 := hw.2.2.2.1; have d3 := hw.2.2.2.2; go_simp; all_goals with_reducible rfl
     try simp only [ly]
     refine tk 8 rfl hS (v := ?_) (fun w' hw => ?_) ?_
     rotate_left 1
     ·have c := blk_cell hw.1; have d0 := hw.2.1; have d1 := hw.2.2.1; have d2 := hw.2.2.2.1; have d3 := hw.2.2.2.2; go_simp; all_goals with_reducible rfl
     try simp only [ly]
     refine r1 9 rfl (fun K hK => ?_)
     go_simp
     refine hO.mono ?_
     rintro e w6 ⟨v6, rfl, hrow6, hvd6, hB6⟩
     clear hO
     have hB6' : Below w5.heap.size w5 w6 := Below.trans (Below.drew (Below.refl _ w5)) hB6
     have hbox6 := blk_below hB6' hbox5
     have hpb6 := blk_below hB6' hpb5
     have hv6 : ∀ j, j < 4 → w6.cell? (A6 pb (3 + sl * 12 + j)) = (Pst.cells pp.p)[j]? := fun j hj => (blk_cell hpb6 _).trans (Hval.out j hj)
     have Hv6 : Hid (∀ j, j < 4 → w6.cell? (A6 pb (3 + sl * 12 + j)) = (Pst.cells pp.p)[j]?) := hv6
     clear hv6
     have hle6 : ((List.range s.n).eraseIdx i).length ≤ 1000 := by
      have := List.length_eraseIdx_le (List.range s.n) i
      have := hAt.ok.n1
      simp only [List.length_range] at *
      omega
     have hX := send_rv (h5.below hB6') (by rw [hn5]; exact hi) ⟨msg 5 0 (sl : Int) pp.p [], .slice none 0 0⟩ (Nm.okt_nil _ _ rfl) (msg_ok h5.ok.n0 (by decide) (by decide) (by decide) (by decide) q0 q1 (by simp) (by simp)) ((List.range s.n).eraseIdx i) (fun t ht => by rw [hn5]; exact List.mem_range.1 (List.mem_of_mem_eraseIdx ht)) v6 hrow6 hvd6 hle6
     rw [e5] at hX
     obtain ⟨v6a, v6c, hv6e, _⟩ := hrow6.form
     subst hv6e
     generalize ((List.range s.n).eraseIdx i).length = l6 at *
     go_wp2_with fail
     refine hK.out _ _ ⟨hbox6, four Hv6.out⟩ (fun hS => ?_)
     clear hK K
     try simp only [ly]
     refine r1 10 rfl (fun K hK => ?_)
     go_simp
     refine hX.mono ?_
     rintro e w7 ⟨rfl, hto7⟩
     clear hX
     have hno5 : ¬ L5.own sb s5.n w.heap.size := fun ho => by
      rcases o5 _ ho with h9 | h9
      ·rw [hn5] at h9; have := hAt.own_lt h9; omega
      ·rw [show ((w.alloc (.cells #[I6 mk, I6 (f : Int), I6 mt, I6 mb, I6 (sl : Int), I6 mc, I6 mq, I6 mh, .string mx, .slice xa xn xc] 36)).drew.drew.drew).heap.size = w.heap.size + 1 from World.size_alloc _ _] at h9; omega
     have hbox7 := hto7.blk hbox6 (fun ho => hno5 (by rw [sendTo_n] at ho; exact ho))
     have hto7D := SynRv.next e5 o5 kk5 (sendTo_n _ _ _ _) (SynRv.after h5 (sendTo_n _ _ _ _) hB6' hto7)
     have hto8 := SynRv.after hAt ((sendTo_n _ _ _ _).trans hn5) hBd hto7D
     rw [r5] at hto8
     obtain ⟨L7, h7, e7, r7, _, _⟩ := id hto8
     have hrl7 := h7.role i (by rw [sendTo_n, hn5]; exact hi)
     rw [rep_sendTo, ← Hs5.out, Sy.rep_put (by rw [hAt.ok.len]; exact hi), r7, hrv] at hrl7
     obtain ⟨pb', e9, hpb7⟩ := hrl7
     cases e9
     have hv7 : ∀ j, j < 4 → w7.cell? (A6 pb (3 + sl * 12 + j)) = (Pst.cells pp.p)[j]? := fun j hj => (blk_cell hpb7 _).trans (Hval.out j hj)
     have Hv7 : Hid (∀ j, j < 4 → w7.cell? (A6 pb (3 + sl * 12 + j)) = (Pst.cells pp.p)[j]?) := hv7
     clear hv7
     go_wp2_with fail
     refine hK.out _ _ ⟨hbox7, four Hv7.out⟩ (fun hS => ?_)
     clear hK K
     try simp only [ly]
     refine dn ?_ _
     go_wp2_with fail
     go_end0
     refine ⟨rfl, ?_⟩
     rw [Hs5.out]
     exact hto8.to
    ·have hqd : decide ((s.n : Int) < 2 * (pp.t.c + 1)) = false := decide_eq_false hq
     simp only [hqd, if_neg hq]
     go_wp2_with fail
     refine hK.out _ _ ⟨hbox2, hcn2'⟩ (fun hS => ?_)
     clear hK K
     try simp only [ly]
     refine tk 15 rfl hS (v := ?_) (fun w' hw => ?_) ?_
     rotate_left 1
     ·go_simp; all_goals with_reducible rfl
     try simp only [ly]
     refine dn ?_ _
     go_wp2_with fail
     go_end0
     exact ⟨rfl, hto2.to⟩
   ·rw [if_neg (by rintro ⟨_, _, h⟩; cases h)]
    have hAdd := add_any pb (3 + sl * 12 + 4) f true pp.t.c (w.alloc (.cells #[I6 mk, I6 (f : Int), I6 mt, I6 mb, I6 (sl : Int), I6 mc, I6 mq, I6 mh, .string mx, .slice xa xn xc] 36)).drew.drew.drew hf7 ((blk_cell (w := (w.alloc (.cells #[I6 mk, I6 (f : Int), I6 mt, I6 mb, I6 (sl : Int), I6 mc, I6 mq, I6 mh, .string mx, .slice xa xn xc] 36)).drew.drew.drew) hpbA (3 + sl * 12 + 4 + f)).trans (by rw [hhas, hth])) ((blk_cell (w := (w.alloc (.cells #[I6 mk, I6 (f : Int), I6 mt, I6 mb, I6 (sl : Int), I6 mc, I6 mq, I6 mh, .string mx, .slice xa xn xc] 36)).drew.drew.drew) hpbA (3 + sl * 12 + 4 + 7)).trans hcnt) (blk_free (w := (w.alloc (.cells #[I6 mk, I6 (f : Int), I6 mt, I6 mb, I6 (sl : Int), I6 mc, I6 mq, I6 mh, .string mx, .slice xa xn xc] 36)).drew.drew.drew) hpbA) htok.le.1 (by have := htok.le.2; omega)
    go_enter Tryz.func103, Tryz.ntmps103
    go_wp2_with fail
    refine wp_region_held_drew (S := fun w' => w'.heap[w.heap.size]? = some (.cells #[I6 mk, I6 (f : Int), I6 mt, I6 mb, I6 (sl : Int), I6 mc, I6 mq, I6 mh, .string mx, .slice xa xn xc] 36 (0, 0)) ∧ w'.cell? (A6 pb 1) = some (I6 mb) ∧ w'.cell? (A6 (L.rb i) (101 + sl * 5)) = some (.bool false)) (by kernel_rfl) (⟨hbox, hpb1, hdm⟩) (fun hS => ?_)
    refine tk 0 rfl hS (v := ?_) (fun w' hw => ?_) ?_
    rotate_left 1
    ·go_simp; all_goals with_reducible rfl
    try simp only [ly]
    refine tk 1 rfl hS (v := ?_) (fun w' hw => ?_) ?_
    rotate_left 1
    ·go_simp; all_goals with_reducible rfl
    try simp only [ly]
    refine tk 2 rfl hS (v := ?_) (fun w' hw => ?_) ?_
    rotate_left 1
    ·go_simp; all_goals with_reducible rfl
    try simp only [ly]
    refine tk 3 rfl hS (v := ?_) (fun w' hw => ?_) ?_
    rotate_left 1
    ·have c := blk_cell hw.1; have c2 := hw.2.1; have c3 := hw.2.2; go_simp; all_goals with_reducible rfl
    try simp only [ly]
    refine tk 4 rfl hS (v := ?_) (fun w' hw => ?_) ?_
    rotate_left 1
    ·have c := blk_cell hw.1; have c2 := hw.2.1; have c3 := hw.2.2; go_simp; all_goals with_reducible rfl
    try simp only [ly]
    refine tk 5 rfl hS (v := ?_) (fun w' hw => ?_) ?_
    rotate_left 1
    ·have c := blk_cell hw.1; have c2 := hw.2.1; have c3 := hw.2.2; go_simp; all_goals with_reducible rfl
    try simp only [ly]
    refine tk 6 rfl hS (v := ?_) (fun w' hw => ?_) ?_
    rotate_left 1
    ·have c := blk_cell hw.1; have c2 := hw.2.1; have c3 := hw.2.2; go_simp; all_goals with_reducible rfl
    try simp only [ly]
    refine tk 7 rfl hS (v := ?_) (fun w' hw => ?_) ?_
    rotate_left 1
    ·have c := blk_cell hw.1; have c2 := hw.2.1; have c3 := hw.2.2; go_simp; all_goals with_reducible rfl
    try simp only [ly]
    refine tk 8 rfl hS (v := ?_) (fun w' hw => ?_) ?_
    rotate_left 1
    ·have c := blk_cell hw.1; have c2 := hw.2.1; have c3 := hw.2.2; go_simp; all_goals with_reducible rfl
    try simp only [ly]
    refine tk 9 rfl hS (v := ?_) (fun w' hw => ?_) ?_
    rotate_left 1
    ·have c := blk_cell hw.1; have c2 := hw.2.1; have c3 := hw.2.2; go_simp; all_goals with_reducible rfl
    try simp only [ly]
    refine tk 10 rfl hS (v := ?_) (fun w' hw => ?_) ?_
    rotate_left 1
    ·have c := blk_cell hw.1; have c2 := hw.2.1; have c3 := hw.2.2; go_simp; all_goals with_reducible rfl
    try simp only [ly]
    refine tk 11 rfl hS (v := ?_) (fun w' hw => ?_) ?_
    rotate_left 1
    ·go_simp; all_goals with_reducible rfl
    try simp only [ly]
    refine tk 12 rfl hS (v := ?_) (fun w' hw => ?_) ?_
    rotate_left 1
    ·go_simp; all_goals with_reducible rfl
    try simp only [ly]
    refine tk 13 rfl hS (v := ?_) (fun w' hw => ?_) ?_
    rotate_left 1
    ·have c := blk_cell hw.1; have c2 := hw.2.1; have c3 := hw.2.2; go_simp; all_goals with_reducible rfl
    try simp only [ly]
    refine tk 14 rfl hS (v := ?_) (fun w' hw => ?_) ?_
    rotate_left 1
    ·have c := blk_cell hw.1; have c2 := hw.2.1; have c3 := hw.2.2; go_simp; all_goals with_reducible rfl
    try simp only [ly]
    refine tk 15 rfl hS (v := ?_) (fun w' hw => ?_) ?_
    rotate_left 1
    ·have c := blk_cell hw.1; have c2 := hw.2.1; have c3 := hw.2.2; go_simp; all_goals with_reducible rfl
    try simp only [ly]
    refine tk 16 rfl hS (v := ?_) (fun w' hw => ?_) ?_
    rotate_left 1
    ·have c := blk_cell hw.1; have c2 := hw.2.1; have c3 := hw.2.2; go_simp; all_goals with_reducible rfl
    try simp only [ly]
    refine tk 17 rfl hS (v := ?_) (fun w' hw => ?_) ?_
    rotate_left 1
    ·have c := blk_cell hw.1; have c2 := hw.2.1; have c3 := hw.2.2; go_simp; all_goals with_reducible rfl
    try simp only [ly]
    refine tk 18 rfl hS (v := ?_) (fun w' hw => ?_) ?_
    rotate_left 1
    ·have c := blk_cell hw.1; have c2 := hw.2.1; have c3 := hw.2.2; go_simp; all_goals with_reducible rfl
    try simp only [ly]
    refine tk 19 rfl hS (v := ?_) (fun w' hw => ?_) ?_
    rotate_left 1
    ·have c := blk_cell hw.1; have c2 := hw.2.1; have c3 := hw.2.2; go_simp; all_goals with_reducible rfl
    try simp only [ly]
    refine tk 20 rfl hS (v := ?_) (fun w' hw => ?_) ?_
    rotate_left 1
    ·have c := blk_cell hw.1; have c2 := hw.2.1; have c3 := hw.2.2; go_simp; all_goals with_reducible rfl
    try simp only [ly]
    refine tk 21 rfl hS (v := ?_) (fun w' hw => ?_) ?_
    rotate_left 1
    ·go_simp; all_goals with_reducible rfl
    try simp only [ly]
    refine dn ?_ _
    go_wp2_with fail
    refine wp_region_held_drew (S := fun w' => w'.heap[w.heap.size]? = some (.cells #[I6 mk, I6 (f : Int), I6 mt, I6 mb, I6 (sl : Int), I6 mc, I6 mq, I6 mh, .string mx, .slice xa xn xc] 36 (0, 0))) (by kernel_rfl) (hbox) (fun hS => ?_)
    refine tk 0 rfl hS (v := ?_) (fun w' hw => ?_) ?_
    rotate_left 1
    ·have c := blk_cell hw; go_simp; all_goals with_reducible rfl
    try simp only [ly]
    refine tk 1 rfl hS (v := ?_) (fun w' hw => ?_) ?_
    rotate_left 1
    ·have c := blk_cell hw; go_simp; all_goals with_reducible rfl
    try simp only [ly]
    refine tk 2 rfl hS (v := ?_) (fun w' hw => ?_) ?_
    rotate_left 1
    ·have c := blk_cell hw; go_simp; all_goals with_reducible rfl
    try simp only [ly]
    refine tk 3 rfl hS (v := ?_) (fun w' hw => ?_) ?_
    rotate_left 1
    ·have c := blk_cell hw; go_simp; all_goals with_reducible rfl
    try simp only [ly]
    refine tk 4 rfl hS (v := ?_) (fun w' hw => ?_) ?_
    rotate_left 1
    ·have c := blk_cell hw; go_simp; all_goals with_reducible rfl
    try simp only [ly]
    refine tk 5 rfl hS (v := ?_) (fun w' hw => ?_) ?_
    rotate_left 1
    ·have c := blk_cell hw; go_simp; all_goals with_reducible rfl
    try simp only [ly]
    refine r1 6 rfl (fun K hK => ?_)
    go_simp
    refine hK.out _ _ hbox (fun hS => ?_)
    clear hK K
    try simp only [ly]
    refine dn ?_ _
    go_wp2_with fail
    refine wp_region_held_drew (S := fun w' => w'.heap[w.heap.size]? = some (.cells #[I6 mk, I6 (f : Int), I6 mt, I6 mb, I6 (sl : Int), I6 mc, I6 mq, I6 mh, .string mx, .slice xa xn xc] 36 (0, 0)) ∧ w'.cell? (A6 (L.rb i) 1) = some (I6 (s.n : Int))) (by kernel_rfl) (⟨hbox, hcn⟩) (fun hS => ?_)
    refine tk 0 rfl hS (v := ?_) (fun w' hw => ?_) ?_
    rotate_left 1
    ·have c := blk_cell hw.1; have c2 := hw.2; go_simp; all_goals with_reducible rfl
    try simp only [ly]
    refine tk 1 rfl hS (v := ?_) (fun w' hw => ?_) ?_
    rotate_left 1
    ·have c := blk_cell hw.1; have c2 := hw.2; go_simp; all_goals with_reducible rfl
    try simp only [ly]
    refine tk 2 rfl hS (v := ?_) (fun w' hw => ?_) ?_
    rotate_left 1
    ·have c := blk_cell hw.1; have c2 := hw.2; go_simp; all_goals with_reducible rfl
    try simp only [ly]
    refine tk 3 rfl hS (v := ?_) (fun w' hw => ?_) ?_
    rotate_left 1
    ·have c := blk_cell hw.1; have c2 := hw.2; go_simp; all_goals with_reducible rfl
    try simp only [ly]
    refine tk 4 rfl hS (v := ?_) (fun w' hw => ?_) ?_
    rotate_left 1
    ·have c := blk_cell hw.1; have c2 := hw.2; go_simp; all_goals with_reducible rfl
    try simp only [ly]
    refine r1 5 rfl (fun K hK => ?_)
    go_simp
    refine hAdd.mono ?_
    rintro e w2 ⟨rfl, hw2⟩
    rw [if_pos trivial] at hw2
    subst hw2
    clear hAdd
    go_wp2_with fail
    refine hK.out _ _ ⟨hbox, hcn⟩ (fun hS => ?_)
    clear hK K
    try simp only [ly]
    refine tk 6 rfl hS (v := ?_) (fun w' hw => ?_) ?_
    rotate_left 1
    ·go_simp; all_goals with_reducible rfl
    try simp only [ly]
    refine tn 7 rfl hS ?_
    try simp only [ly]
    refine tn 8 rfl hS ?_
    try simp only [ly]
    refine tn 9 rfl hS ?_
    try simp only [ly]
    refine tn 10 rfl hS ?_
    try simp only [ly]
    refine tn 11 rfl hS ?_
    try simp only [ly]
    refine tn 12 rfl hS ?_
    try simp only [ly]
    refine tn 13 rfl hS ?_
    try simp only [ly]
    refine tn 14 rfl hS ?_
    try simp only [ly]
    refine tk 15 rfl hS (v := ?_) (fun w' hw => ?_) ?_
    rotate_left 1
    ·go_simp; all_goals with_reducible rfl
    try simp only [ly]
    refine dn ?_ _
    go_wp2_with fail
    go_end0
    exact ⟨rfl, (SynTo.refl hAt).below (Below.drew (Below.drew (Below.drew hB)))⟩
  ·rw [hdd] at hdm
   rw [if_neg (by rintro ⟨_, h, _⟩; cases h)]
   go_enter Tryz.func103, Tryz.ntmps103
   go_wp2_with fail
   refine wp_region_held_drew (S := fun w' => w'.heap[w.heap.size]? = some (.cells #[I6 mk, I6 (f : Int), I6 mt, I6 mb, I6 (sl : Int), I6 mc, I6 mq, I6 mh, .string mx, .slice xa xn xc] 36 (0, 0)) ∧ w'.cell? (A6 pb 1) = some (I6 mb) ∧ w'.cell? (A6 (L.rb i) (101 + sl * 5)) = some (.bool true)) (by kernel_rfl) (⟨hbox, hpb1, hdm⟩) (fun hS => ?_)
   refine tk 0 rfl hS (v := ?_) (fun w' hw => ?_) ?_
   rotate_left 1
   ·go_simp; all_goals with_reducible rfl
   try simp only [ly]
   refine tk 1 rfl hS (v := ?_) (fun w' hw => ?_) ?_
   rotate_left 1
   ·go_simp; all_goals with_reducible rfl
   try simp only [ly]
   refine tk 2 rfl hS (v := ?_) (fun w' hw => ?_) ?_
   rotate_left 1
   ·go_simp; all_goals with_reducible rfl
   try simp only [ly]
   refine tk 3 rfl hS (v := ?_) (fun w' hw => ?_) ?_
   rotate_left 1
   ·have c := blk_cell hw.1; have c2 := hw.2.1; have c3 := hw.2.2; go_simp; all_goals with_reducible rfl
   try simp only [ly]
   refine tk 4 rfl hS (v := ?_) (fun w' hw => ?_) ?_
   rotate_left 1
   ·have c := blk_cell hw.1; have c2 := hw.2.1; have c3 := hw.2.2; go_simp; all_goals with_reducible rfl
   try simp only [ly]
   refine tk 5 rfl hS (v := ?_) (fun w' hw => ?_) ?_
   rotate_left 1
   ·have c := blk_cell hw.1; have c2 := hw.2.1; have c3 := hw.2.2; go_simp; all_goals with_reducible rfl
   try simp only [ly]
   refine tk 6 rfl hS (v := ?_) (fun w' hw => ?_) ?_
   rotate_left 1
   ·have c := blk_cell hw.1; have c2 := hw.2.1; have c3 := hw.2.2; go_simp; all_goals with_reducible rfl
   try simp only [ly]
   refine tk 7 rfl hS (v := ?_) (fun w' hw => ?_) ?_
   rotate_left 1
   ·have c := blk_cell hw.1; have c2 := hw.2.1; have c3 := hw.2.2; go_simp; all_goals with_reducible rfl
   try simp only [ly]
   refine tk 8 rfl hS (v := ?_) (fun w' hw => ?_) ?_
   rotate_left 1
   ·have c := blk_cell hw.1; have c2 := hw.2.1; have c3 := hw.2.2; go_simp; all_goals with_reducible rfl
   try simp only [ly]
   refine tk 9 rfl hS (v := ?_) (fun w' hw => ?_) ?_
   rotate_left 1
   ·have c := blk_cell hw.1; have c2 := hw.2.1; have c3 := hw.2.2; go_simp; all_goals with_reducible rfl
   try simp only [ly]
   refine tk 10 rfl hS (v := ?_) (fun w' hw => ?_) ?_
   rotate_left 1
   ·have c := blk_cell hw.1; have c2 := hw.2.1; have c3 := hw.2.2; go_simp; all_goals with_reducible rfl
   try simp only [ly]
   refine tk 11 rfl hS (v := ?_) (fun w' hw => ?_) ?_
   rotate_left 1
   ·go_simp; all_goals with_reducible rfl
   try simp only [ly]
   refine tk 12 rfl hS (v := ?_) (fun w' hw => ?_) ?_
   rotate_left 1
   ·go_simp; all_goals with_reducible rfl
   try simp only [ly]
   refine tk 13 rfl hS (v := ?_) (fun w' hw => ?_) ?_
   rotate_left 1
   ·have c := blk_cell hw.1; have c2 := hw.2.1; have c3 := hw.2.2; go_simp; all_goals with_reducible rfl
   try simp only [ly]
   refine tk 14 rfl hS (v := ?_) (fun w' hw => ?_) ?_
   rotate_left 1
   ·have c := blk_cell hw.1; have c2 := hw.2.1; have c3 := hw.2.2; go_simp; all_goals with_reducible rfl
   try simp only [ly]
   refine tk 15 rfl hS (v := ?_) (fun w' hw => ?_) ?_
   rotate_left 1
   ·have c := blk_cell hw.1; have c2 := hw.2.1; have c3 := hw.2.2; go_simp; all_goals with_reducible rfl
   try simp only [ly]
   refine tk 16 rfl hS (v := ?_) (fun w' hw => ?_) ?_
   rotate_left 1
   ·have c := blk_cell hw.1; have c2 := hw.2.1; have c3 := hw.2.2; go_simp; all_goals with_reducible rfl
   try simp only [ly]
   refine tk 17 rfl hS (v := ?_) (fun w' hw => ?_) ?_
   rotate_left 1
   ·have c := blk_cell hw.1; have c2 := hw.2.1; have c3 := hw.2.2; go_simp; all_goals with_reducible rfl
   try simp only [ly]
   refine tk 18 rfl hS (v := ?_) (fun w' hw => ?_) ?_
   rotate_left 1
   ·have c := blk_cell hw.1; have c2 := hw.2.1; have c3 := hw.2.2; go_simp; all_goals with_reducible rfl
   try simp only [ly]
   refine tk 19 rfl hS (v := ?_) (fun w' hw => ?_) ?_
   rotate_left 1
   ·have c := blk_cell hw.1; have c2 := hw.2.1; have c3 := hw.2.2; go_simp; all_goals with_reducible rfl
   try simp only [ly]
   refine tk 20 rfl hS (v := ?_) (fun w' hw => ?_) ?_
   rotate_left 1
   ·have c := blk_cell hw.1; have c2 := hw.2.1; have c3 := hw.2.2; go_simp; all_goals with_reducible rfl
   try simp only [ly]
   refine tk 21 rfl hS (v := ?_) (fun w' hw => ?_) ?_
   rotate_left 1
   ·go_simp; all_goals with_reducible rfl
   try simp only [ly]
   refine dn ?_ _
   go_wp2_with fail
   refine bodyPost_ret (results_none rfl _ _ _) rfl ?_
   exact ⟨rfl, (SynTo.refl hAt).below (Below.drew hB)⟩
 ·have hbq : (b == mb) = false := by simpa using hbb
  have hbr : (b != mb) = true := by simpa using hbb
  rw [if_neg (by rintro ⟨h, _⟩; exact hbb h)]
  go_enter Tryz.func103, Tryz.ntmps103
  go_wp2_with fail
  refine wp_region_held_drew (S := fun w' => w'.heap[w.heap.size]? = some (.cells #[I6 mk, I6 (f : Int), I6 mt, I6 mb, I6 (sl : Int), I6 mc, I6 mq, I6 mh, .string mx, .slice xa xn xc] 36 (0, 0)) ∧ w'.cell? (A6 pb 1) = some (I6 b) ∧ w'.cell? (A6 (L.rb i) (101 + sl * 5)) = some (.bool ((s.rep i).dm sl))) (by kernel_rfl) (⟨hbox, hpb1, hdm⟩) (fun hS => ?_)
  refine tk 0 rfl hS (v := ?_) (fun w' hw => ?_) ?_
  rotate_left 1
  ·go_simp; all_goals with_reducible rfl
  try simp only [ly]
  refine tk 1 rfl hS (v := ?_) (fun w' hw => ?_) ?_
  rotate_left 1
  ·go_simp; all_goals with_reducible rfl
  try simp only [ly]
  refine tk 2 rfl hS (v := ?_) (fun w' hw => ?_) ?_
  rotate_left 1
  ·go_simp; all_goals with_reducible rfl
  try simp only [ly]
  refine tk 3 rfl hS (v := ?_) (fun w' hw => ?_) ?_
  rotate_left 1
  ·have c := blk_cell hw.1; have c2 := hw.2.1; have c3 := hw.2.2; go_simp; all_goals with_reducible rfl
  try simp only [ly]
  refine tk 4 rfl hS (v := ?_) (fun w' hw => ?_) ?_
  rotate_left 1
  ·have c := blk_cell hw.1; have c2 := hw.2.1; have c3 := hw.2.2; go_simp; all_goals with_reducible rfl
  try simp only [ly]
  refine tk 5 rfl hS (v := ?_) (fun w' hw => ?_) ?_
  rotate_left 1
  ·have c := blk_cell hw.1; have c2 := hw.2.1; have c3 := hw.2.2; go_simp; all_goals with_reducible rfl
  try simp only [ly]
  refine tk 6 rfl hS (v := ?_) (fun w' hw => ?_) ?_
  rotate_left 1
  ·have c := blk_cell hw.1; have c2 := hw.2.1; have c3 := hw.2.2; go_simp; all_goals with_reducible rfl
  try simp only [ly]
  refine tk 7 rfl hS (v := ?_) (fun w' hw => ?_) ?_
  rotate_left 1
  ·have c := blk_cell hw.1; have c2 := hw.2.1; have c3 := hw.2.2; go_simp; all_goals with_reducible rfl
  try simp only [ly]
  refine tk 8 rfl hS (v := ?_) (fun w' hw => ?_) ?_
  rotate_left 1
  ·have c := blk_cell hw.1; have c2 := hw.2.1; have c3 := hw.2.2; go_simp; all_goals with_reducible rfl
  try simp only [ly]
  refine tk 9 rfl hS (v := ?_) (fun w' hw => ?_) ?_
  rotate_left 1
  ·have c := blk_cell hw.1; have c2 := hw.2.1; have c3 := hw.2.2; go_simp; all_goals with_reducible rfl
  try simp only [ly]
  refine tk 10 rfl hS (v := ?_) (fun w' hw => ?_) ?_
  rotate_left 1
  ·have c := blk_cell hw.1; have c2 := hw.2.1; have c3 := hw.2.2; go_simp; all_goals with_reducible rfl
  try simp only [ly]
  refine tk 11 rfl hS (v := ?_) (fun w' hw => ?_) ?_
  rotate_left 1
  ·go_simp; all_goals with_reducible rfl
  try simp only [ly]
  refine tk 12 rfl hS (v := ?_) (fun w' hw => ?_) ?_
  rotate_left 1
  ·go_simp; all_goals with_reducible rfl
  try simp only [ly]
  refine tn 13 rfl hS ?_
  try simp only [ly]
  refine tn 14 rfl hS ?_
  try simp only [ly]
  refine tn 15 rfl hS ?_
  try simp only [ly]
  refine tn 16 rfl hS ?_
  try simp only [ly]
  refine tn 17 rfl hS ?_
  try simp only [ly]
  refine tn 18 rfl hS ?_
  try simp only [ly]
  refine tn 19 rfl hS ?_
  try simp only [ly]
  refine tn 20 rfl hS ?_
  try simp only [ly]
  refine tk 21 rfl hS (v := ?_) (fun w' hw => ?_) ?_
  rotate_left 1
  ·go_simp; all_goals with_reducible rfl
  try simp only [ly]
  refine dn ?_ _
  go_wp2_with fail
  refine bodyPost_ret (results_none rfl _ _ _) rfl ?_
  exact ⟨rfl, (SynTo.refl hAt).below (Below.drew hB)⟩
end
end Go.Proofs.YtnnhnekfokbooaaGreatDoor
