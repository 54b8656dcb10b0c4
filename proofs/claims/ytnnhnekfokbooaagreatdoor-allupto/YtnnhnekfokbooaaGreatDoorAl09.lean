/- SynJ -/
import Derived.Test.YtnnhnekfokbooaaGreatDoorAl08
set_option linter.unusedSimpArgs false
set_option linter.unusedVariables false
set_option maxRecDepth 100000
namespace Go.Proofs.YtnnhnekfokbooaaGreatDoor
section
open Go.RowKit
theorem lead_n (s : Sy) (i : Nat) (b : Int) (kept : List Vt) : (s.lead i b kept).n = s.n := leadTo_n _ _ _ _
theorem filter_set : ∀ (l : List Bool) (k : Nat), k < l.length → l.getD k false = false → ((l.set k true).filter id).length = (l.filter id).length + 1
 | [], k, hk, _ => by simp at hk
 | x :: l, 0, _, h => by
  have : x = false := by simpa using h
  subst this; simp
 | x :: l, k + 1, hk, h => by
  have := filter_set l k (by simpa using hk) (by simpa using h)
  cases x <;> simp [List.filter_cons, this]
theorem Tl.add_ok {t : Tl} (h : t.ok) {k : Nat} (hk : k < 7) (hn : t.has k = false) : (t.add k).ok := by
 refine ⟨by simp [Tl.add, h.1], ?_⟩
 show t.c + 1 = (((t.v.set k true).filter id).length : Int)
 rw [filter_set t.v k (by rw [h.1]; exact hk) hn, h.2]
 simp
theorem prep_add (b : Int) (t : Tl) (kept : List Vt) (ht : t.ok) (f : Nat) (hf : f < 7) : (((prepHead b t ++ vcells kept).toArray.setIfInBounds (2 + f) (.bool true)).setIfInBounds (2 + 7) (I6 (t.c + 1))) = (prepHead b (t.add f) ++ vcells kept).toArray := by
 obtain ⟨v, c⟩ := t
 obtain ⟨h1, h2⟩ := ht
 have h1' : v.length = 7 := h1
 match v, h1' with
 | [a0, a1, a2, a3, a4, a5, a6], _ =>
  match f, hf with
  | 0, _ => simp [prepHead, Tl.cells, Tl.add]
  | 1, _ => simp [prepHead, Tl.cells, Tl.add]
  | 2, _ => simp [prepHead, Tl.cells, Tl.add]
  | 3, _ => simp [prepHead, Tl.cells, Tl.add]
  | 4, _ => simp [prepHead, Tl.cells, Tl.add]
  | 5, _ => simp [prepHead, Tl.cells, Tl.add]
  | 6, _ => simp [prepHead, Tl.cells, Tl.add]
theorem prep_has (b : Int) (t : Tl) (kept : List Vt) (ht : t.ok) (f : Nat) (hf : f < 7) : (prepHead b t ++ vcells kept).toArray[2 + f]? = some (.bool (t.has f)) ∧ (prepHead b t ++ vcells kept).toArray[2 + 7]? = some (I6 t.c) := by
 obtain ⟨v, c⟩ := t
 obtain ⟨h1, h2⟩ := ht
 have h1' : v.length = 7 := h1
 match v, h1' with
 | [a0, a1, a2, a3, a4, a5, a6], _ =>
  match f, hf with
  | 0, _ => simp [prepHead, Tl.cells, Tl.has]
  | 1, _ => simp [prepHead, Tl.cells, Tl.has]
  | 2, _ => simp [prepHead, Tl.cells, Tl.has]
  | 3, _ => simp [prepHead, Tl.cells, Tl.has]
  | 4, _ => simp [prepHead, Tl.cells, Tl.has]
  | 5, _ => simp [prepHead, Tl.cells, Tl.has]
  | 6, _ => simp [prepHead, Tl.cells, Tl.has]
theorem asP_idle (v : Value) (W : World) : (Instr.typeAssert (.iface 129 v) 135 152 true).run Tryz.prog W = .ok (.tuple #[.pointer none, .bool false]) W := by kernel_rfl
theorem asP_lead (v : Value) (W : World) : (Instr.typeAssert (.iface 160 v) 135 152 true).run Tryz.prog W = .ok (.tuple #[.pointer none, .bool false]) W := by kernel_rfl
theorem asP_prep (v : Value) (W : World) : (Instr.typeAssert (.iface 152 v) 135 152 true).run Tryz.prog W = .ok (.tuple #[v, .bool true]) W := by kernel_rfl
theorem asL_idle (v : Value) (W : World) : (Instr.typeAssert (.iface 129 v) 135 160 true).run Tryz.prog W = .ok (.tuple #[.pointer none, .bool false]) W := by kernel_rfl
theorem asL_lead (v : Value) (W : World) : (Instr.typeAssert (.iface 160 v) 135 160 true).run Tryz.prog W = .ok (.tuple #[v, .bool true]) W := by kernel_rfl
theorem asL_prep (v : Value) (W : World) : (Instr.typeAssert (.iface 152 v) 135 160 true).run Tryz.prog W = .ok (.tuple #[.pointer none, .bool false]) W := by kernel_rfl
set_option maxHeartbeats 1000000 in
theorem takePromise_no {w : World} {sb : Nat} {L : Lay} {s : Sy} (h : SynAt w sb L s) {i : Nat} (hi : i < s.n) (x : Nm) (hx : x.okt w) (hm : x.m.ok s.n) (hno : ∀ b t kept, (s.rep i).rl ≠ .prep b t kept) :
  Calls Tryz.prog 101 #[.pointer (some (A6 (L.rb i) 0)), .agg x.cells.toArray] w fun e w' => e = .returned (.tuple #[]) ∧ SynTo w sb L w' s := by
 have hAt := h
 obtain ⟨xa, xc, hxe, _⟩ := hx.1.1.form
 obtain ⟨⟨mk, mf, mt, mb, ms, ⟨mc, mq, mh, mx⟩, ma⟩, xv⟩ := x
 obtain ⟨f, rfl⟩ := Int.eq_ofNat_of_zero_le hm.f0
 obtain ⟨sl, rfl⟩ := Int.eq_ofNat_of_zero_le hm.s0
 have hf : f < s.n := by have := hm.f1; simp at this; exact this
 have hsl : sl < 16 := by have := hm.s1; simp at this; omega
 have b0 : 0 ≤ mb := hm.b0
 have b1 : mb ≤ 8007 := hm.b1
 simp only [Nm.cells] at *
 subst hxe
 generalize hxn : ma.length = xn at *
 have hbox := blk_new w (.cells #[I6 mk, I6 (f : Int), I6 mt, I6 mb, I6 (sl : Int), I6 mc, I6 mq, I6 mh, .string mx, .slice xa xn xc] 36)
 have hB : Below w.heap.size w (w.alloc (.cells #[I6 mk, I6 (f : Int), I6 mt, I6 mb, I6 (sl : Int), I6 mc, I6 mq, I6 mh, .string mx, .slice xa xn xc] 36)) := (Below.refl _ w).alloc (Nat.le_refl _) _
 have c5 := ((h.alloc (.cells #[I6 mk, I6 (f : Int), I6 mt, I6 mb, I6 (sl : Int), I6 mc, I6 mq, I6 mh, .string mx, .slice xa xn xc] 36)).cells hi).2.2.2.2.2
 have hro := h.role i hi
 cases hrl : (s.rep i).rl with
 | idle =>
  rw [hrl] at hro
  have hrv : L.rv i = idleV := hro
  rw [hrv, idleV] at c5
  clear hrv hro hrl
  have has := asP_idle
  go_enter Tryz.func101, Tryz.ntmps101
  go_wp2_with fail
  refine wp_region_held_drew (S := fun w' => w'.heap[w.heap.size]? = some (.cells #[I6 mk, I6 (f : Int), I6 mt, I6 mb, I6 (sl : Int), I6 mc, I6 mq, I6 mh, .string mx, .slice xa xn xc] 36 (0, 0))) (by kernel_rfl) (hbox) (fun hS => ?_)
  refine tk 0 rfl hS (v := ?_) (fun w' hw => ?_) ?_
  rotate_left 1
  ·go_simp; all_goals with_reducible rfl
  try simp only [ly]
  refine tk 1 rfl hS (v := ?_) (fun w' hw => ?_) ?_
  rotate_left 1
  ·go_simp; all_goals with_reducible rfl
  try simp only [ly]
  refine tk 2 rfl hS (v := ?_) (fun w' hw => ?_) ?_
  rotate_left 1
  ·go_simp; all_goals with_reducible rfl
  try simp only [ly]
  refine tn 3 rfl hS ?_
  try simp only [ly]
  refine tn 4 rfl hS ?_
  try simp only [ly]
  refine tn 5 rfl hS ?_
  try simp only [ly]
  refine tn 6 rfl hS ?_
  try simp only [ly]
  refine tn 7 rfl hS ?_
  try simp only [ly]
  refine tn 8 rfl hS ?_
  try simp only [ly]
  refine tn 9 rfl hS ?_
  try simp only [ly]
  refine tn 10 rfl hS ?_
  try simp only [ly]
  refine tk 11 rfl hS (v := ?_) (fun w' hw => ?_) ?_
  rotate_left 1
  ·go_simp; all_goals with_reducible rfl
  try simp only [ly]
  refine tk 12 rfl hS (v := ?_) (fun w' hw => ?_) ?_
  rotate_left 1
  ·go_simp; all_goals with_reducible rfl
  try simp only [ly]
  refine tn 13 rfl hS ?_
  try simp only [ly]
  refine tn 14 rfl hS ?_
  try simp only [ly]
  refine tn 15 rfl hS ?_
  try simp only [ly]
  refine tn 16 rfl hS ?_
  try simp only [ly]
  refine tn 17 rfl hS ?_
  try simp only [ly]
  refine tn 18 rfl hS ?_
  try simp only [ly]
  refine tn 19 rfl hS ?_
  try simp only [ly]
  refine tk 20 rfl hS (v := ?_) (fun w' hw => ?_) ?_
  rotate_left 1
  ·go_simp; all_goals with_reducible rfl
  try simp only [ly]
  refine dn ?_ _
  go_wp2_with fail
  refine bodyPost_ret (results_none rfl _ _ _) rfl ?_
  exact ⟨rfl, (SynTo.refl hAt).below (Below.drew hB)⟩
 | lead b next ps =>
  rw [hrl] at hro
  obtain ⟨pb, hrv, _⟩ := hro
  rw [hrv] at c5
  clear hrv hrl
  have has := asP_lead
  go_enter Tryz.func101, Tryz.ntmps101
  go_wp2_with fail
  refine wp_region_held_drew (S := fun w' => w'.heap[w.heap.size]? = some (.cells #[I6 mk, I6 (f : Int), I6 mt, I6 mb, I6 (sl : Int), I6 mc, I6 mq, I6 mh, .string mx, .slice xa xn xc] 36 (0, 0))) (by kernel_rfl) (hbox) (fun hS => ?_)
  refine tk 0 rfl hS (v := ?_) (fun w' hw => ?_) ?_
  rotate_left 1
  ·go_simp; all_goals with_reducible rfl
  try simp only [ly]
  refine tk 1 rfl hS (v := ?_) (fun w' hw => ?_) ?_
  rotate_left 1
  ·go_simp; all_goals with_reducible rfl
  try simp only [ly]
  refine tk 2 rfl hS (v := ?_) (fun w' hw => ?_) ?_
  rotate_left 1
  ·go_simp; all_goals with_reducible rfl
  try simp only [ly]
  refine tn 3 rfl hS ?_
  try simp only [ly]
  refine tn 4 rfl hS ?_
  try simp only [ly]
  refine tn 5 rfl hS ?_
  try simp only [ly]
  refine tn 6 rfl hS ?_
  try simp only [ly]
  refine tn 7 rfl hS ?_
  try simp only [ly]
  refine tn 8 rfl hS ?_
  try simp only [ly]
  refine tn 9 rfl hS ?_
  try simp only [ly]
  refine tn 10 rfl hS ?_
  try simp only [ly]
  refine tk 11 rfl hS (v := ?_) (fun w' hw => ?_) ?_
  rotate_left 1
  ·go_simp; all_goals with_reducible rfl
  try simp only [ly]
  refine tk 12 rfl hS (v := ?_) (fun w' hw => ?_) ?_
  rotate_left 1
  ·go_simp; all_goals with_reducible rfl
  try simp only [ly]
  refine tn 13 rfl hS ?_
  try simp only [ly]
  refine tn 14 rfl hS ?_
  try simp only [ly]
  refine tn 15 rfl hS ?_
  try simp only [ly]
  refine tn 16 rfl hS ?_
  try simp only [ly]
  refine tn 17 rfl hS ?_
  try simp only [ly]
  refine tn 18 rfl hS ?_
  try simp only [ly]
  refine tn 19 rfl hS ?_
  try simp only [ly]
  refine tk 20 rfl hS (v := ?_) (fun w' hw => ?_) ?_
  rotate_left 1
  ·go_simp; all_goals with_reducible rfl
  try simp only [ly]
  refine dn ?_ _
  go_wp2_with fail
  refine bodyPost_ret (results_none rfl _ _ _) rfl ?_
  exact ⟨rfl, (SynTo.refl hAt).below (Below.drew hB)⟩
 | prep b t kept => exact absurd hrl (hno b t kept)
set_option maxHeartbeats 1000000 in
theorem takePromise_prep {w : World} {sb : Nat} {L : Lay} {s : Sy} (h : SynAt w sb L s) {i : Nat} (hi : i < s.n) (x : Nm) (hx : x.okt w) (hm : x.m.ok s.n) {b : Int} {t : Tl} {kept : List Vt} (hrl : (s.rep i).rl = .prep b t kept) :
  Calls Tryz.prog 101 #[.pointer (some (A6 (L.rb i) 0)), .agg x.cells.toArray] w fun e w' => e = .returned (.tuple #[]) ∧ SynTo w sb L w' (s.takePromise i x.m) := by
 have hAt := h
 obtain ⟨xa, xc, hxe, _⟩ := hx.1.1.form
 obtain ⟨⟨mk, mf, mt, mb, ms, ⟨mc, mq, mh, mx⟩, ma⟩, xv⟩ := x
 obtain ⟨f, rfl⟩ := Int.eq_ofNat_of_zero_le hm.f0
 obtain ⟨sl, rfl⟩ := Int.eq_ofNat_of_zero_le hm.s0
 have hf : f < s.n := by have := hm.f1; simp at this; exact this
 have hsl : sl < 16 := by have := hm.s1; simp at this; omega
 have b0 : 0 ≤ mb := hm.b0
 have b1 : mb ≤ 8007 := hm.b1
 simp only [Nm.cells] at *
 subst hxe
 generalize hxn : ma.length = xn at *
 have hbox := blk_new w (.cells #[I6 mk, I6 (f : Int), I6 mt, I6 mb, I6 (sl : Int), I6 mc, I6 mq, I6 mh, .string mx, .slice xa xn xc] 36)
 have hB : Below w.heap.size w (w.alloc (.cells #[I6 mk, I6 (f : Int), I6 mt, I6 mb, I6 (sl : Int), I6 mc, I6 mq, I6 mh, .string mx, .slice xa xn xc] 36)) := (Below.refl _ w).alloc (Nat.le_refl _) _
 have c5 := ((h.alloc (.cells #[I6 mk, I6 (f : Int), I6 mt, I6 mb, I6 (sl : Int), I6 mc, I6 mq, I6 mh, .string mx, .slice xa xn xc] 36)).cells hi).2.2.2.2.2
 have hro := h.role i hi
 have hrok := (h.ok.repOk hi).rl
 rw [hrl] at hro hrok
 obtain ⟨htok, hkl⟩ : t.ok ∧ kept.length = 16 := hrok
 obtain ⟨pb, hrv, hpb⟩ := hro
 rw [hrv] at c5
 have has := asP_prep
 have hf7 : f < 7 := by have := h.ok.n1; omega
 have hplt := lt_of_block hpb
 have hpbA := blk_alloc hpb (.cells #[I6 mk, I6 (f : Int), I6 mt, I6 mb, I6 (sl : Int), I6 mc, I6 mq, I6 mh, .string mx, .slice xa xn xc] 36)
 have hpb1 : (w.alloc (.cells #[I6 mk, I6 (f : Int), I6 mt, I6 mb, I6 (sl : Int), I6 mc, I6 mq, I6 mh, .string mx, .slice xa xn xc] 36)).cell? (A6 pb 1) = some (I6 b) := (blk_cell hpbA 1).trans rfl
 unfold Sy.takePromise
 simp only [hrl, Int.toNat_natCast]
 by_cases hbb : b = mb
 ·have hbb' := hbb.symm
  subst hbb'
  have hbq : (mb == mb) = true := by simp
  have hbr : (mb != mb) = false := by simp
  obtain ⟨hhas, hcnt⟩ := prep_has mb t kept htok f hf7
  cases hth : t.has f
  ·rw [if_pos ⟨rfl, rfl⟩]
   have hAdd := add_any pb 2 f false t.c (w.alloc (.cells #[I6 mk, I6 (f : Int), I6 mt, I6 mb, I6 (sl : Int), I6 mc, I6 mq, I6 mh, .string mx, .slice xa xn xc] 36)).drew hf7 ((blk_cell (w := (w.alloc (.cells #[I6 mk, I6 (f : Int), I6 mt, I6 mb, I6 (sl : Int), I6 mc, I6 mq, I6 mh, .string mx, .slice xa xn xc] 36)).drew) hpbA (2 + f)).trans (by rw [hhas, hth])) ((blk_cell (w := (w.alloc (.cells #[I6 mk, I6 (f : Int), I6 mt, I6 mb, I6 (sl : Int), I6 mc, I6 mq, I6 mh, .string mx, .slice xa xn xc] 36)).drew) hpbA (2 + 7)).trans hcnt) (blk_free (w := (w.alloc (.cells #[I6 mk, I6 (f : Int), I6 mt, I6 mb, I6 (sl : Int), I6 mc, I6 mq, I6 mh, .string mx, .slice xa xn xc] 36)).drew) hpbA) htok.le.1 (by have := htok.le.2; omega)
   have hxk := hx
   go_enter Tryz.func101, Tryz.ntmps101
   go_wp2_with fail
   refine wp_region_held_drew (S := fun w' => w'.heap[w.heap.size]? = some (.cells #[I6 mk, I6 (f : Int), I6 mt, I6 mb, I6 (sl : Int), I6 mc, I6 mq, I6 mh, .string mx, .slice xa xn xc] 36 (0, 0)) ∧ w'.cell? (A6 pb 1) = some (I6 mb)) (by kernel_rfl) (⟨hbox, hpb1⟩) (fun hS => ?_)
   refine tk 0 rfl hS (v := ?_) (fun w' hw => ?_) ?_
   rotate_left 1
   ·go_simp; all_goals with_reducible rfl
   try simp only [ly]
   refine tk 1 rfl hS (v := ?_) (fun w' hw => ?_) ?_
   rotate_left 1
   ·go_simp; all_goals with_reducible rfl
   try simp only [ly]
   refine tk 2 rfl hS (v := ?_) (fun w' hw => ?_) ?_
   rotate_left 1
   ·go_simp; all_goals with_reducible rfl
   try simp only [ly]
   refine tk 3 rfl hS (v := ?_) (fun w' hw => ?_) ?_
   rotate_left 1
   ·have c := blk_cell hw.1; have c2 := hw.2; go_simp; all_goals with_reducible rfl
   try simp only [ly]
   refine tk 4 rfl hS (v := ?_) (fun w' hw => ?_) ?_
   rotate_left 1
   ·have c := blk_cell hw.1; have c2 := hw.2; go_simp; all_goals with_reducible rfl
   try simp only [ly]
   refine tk 5 rfl hS (v := ?_) (fun w' hw => ?_) ?_
   rotate_left 1
   ·have c := blk_cell hw.1; have c2 := hw.2; go_simp; all_goals with_reducible rfl
   try simp only [ly]
   refine tk 6 rfl hS (v := ?_) (fun w' hw => ?_) ?_
   rotate_left 1
   ·have c := blk_cell hw.1; have c2 := hw.2; go_simp; all_goals with_reducible rfl
   try simp only [ly]
   refine tk 7 rfl hS (v := ?_) (fun w' hw => ?_) ?_
   rotate_left 1
   ·have c := blk_cell hw.1; have c2 := hw.2; go_simp; all_goals with_reducible rfl
   try simp only [ly]
   refine tk 8 rfl hS (v := ?_) (fun w' hw => ?_) ?_
   rotate_left 1
   ·have c := blk_cell hw.1; have c2 := hw.2; go_simp; all_goals with_reducible rfl
   try simp only [ly]
   refine tk 9 rfl hS (v := ?_) (fun w' hw => ?_) ?_
   rotate_left 1
   ·have c := blk_cell hw.1; have c2 := hw.2; go_simp; all_goals with_reducible rfl
   try simp only [ly]
   refine tk 10 rfl hS (v := ?_) (fun w' hw => ?_) ?_
   rotate_left 1
   ·have c := blk_cell hw.1; have c2 := hw.2; go_simp; all_goals with_reducible rfl
   try simp only [ly]
   refine tk 11 rfl hS (v := ?_) (fun w' hw => ?_) ?_
   rotate_left 1
   ·go_simp; all_goals with_reducible rfl
   try simp only [ly]
   refine tk 12 rfl hS (v := ?_) (fun w' hw => ?_) ?_
   rotate_left 1
   ·go_simp; all_goals with_reducible rfl
   try simp only [ly]
   refine tk 13 rfl hS (v := ?_) (fun w' hw => ?_) ?_
   rotate_left 1
   ·have c := blk_cell hw.1; have c2 := hw.2; go_simp; all_goals with_reducible rfl
   try simp only [ly]
   refine tk 14 rfl hS (v := ?_) (fun w' hw => ?_) ?_
   rotate_left 1
   ·have c := blk_cell hw.1; have c2 := hw.2; go_simp; all_goals with_reducible rfl
   try simp only [ly]
   refine tk 15 rfl hS (v := ?_) (fun w' hw => ?_) ?_
   rotate_left 1
   ·have c := blk_cell hw.1; have c2 := hw.2; go_simp; all_goals with_reducible rfl
   try simp only [ly]
   refine tk 16 rfl hS (v := ?_) (fun w' hw => ?_) ?_
   rotate_left 1
   ·have c := blk_cell hw.1; have c2 := hw.2; go_simp; all_goals with_reducible rfl
   try simp only [ly]
   refine tk 17 rfl hS (v := ?_) (fun w' hw => ?_) ?_
   rotate_left 1
   ·have c := blk_cell hw.1; have c2 := hw.2; go_simp; all_goals with_reducible rfl
   try simp only [ly]
   refine r1 18 rfl (fun K hK => ?_)
   go_simp
   refine hAdd.mono ?_
   rintro e w2 ⟨rfl, hw2⟩
   rw [if_neg (by simp)] at hw2
   clear hAdd
   have hpb2 : w2.heap[pb]? = some (.cells (prepHead mb (t.add f) ++ vcells kept).toArray 156 (0, 0)) := by
    rw [hw2, blk_set (blk_set (w := (w.alloc (.cells #[I6 mk, I6 (f : Int), I6 mt, I6 mb, I6 (sl : Int), I6 mc, I6 mq, I6 mh, .string mx, .slice xa xn xc] 36)).drew) hpbA _ _), prep_add mb t kept htok f hf7]
   have hk2 : Keeps (fun k => k = pb) (w.alloc (.cells #[I6 mk, I6 (f : Int), I6 mt, I6 mb, I6 (sl : Int), I6 mc, I6 mq, I6 mh, .string mx, .slice xa xn xc] 36)).drew w2 := by
    rw [hw2]
    exact (Keeps.ofSet (P := fun k => k = pb) (a := (A6 pb (2 + f))) (.inl rfl) _).trans (Keeps.ofSet (P := fun k => k = pb) (a := (A6 pb (2 + 7))) (.inl rfl) _)
   clear hw2
   have hbox2 : w2.heap[w.heap.size]? = some (.cells #[I6 mk, I6 (f : Int), I6 mt, I6 mb, I6 (sl : Int), I6 mc, I6 mq, I6 mh, .string mx, .slice xa xn xc] 36 (0, 0)) := blk_keeps hk2 (b := w.heap.size) hbox (by omega)
   have htok2 := Tl.add_ok htok hf7 hth
   have hhl2 : (prepHead mb (t.add f)).length = 10 := by simp [prepHead, Tl.cells, htok2.1]
   have hpb12 : w2.cell? (A6 pb 1) = some (I6 mb) := (blk_cell hpb2 1).trans rfl
   have hto2 := (hAt.alloc (.cells #[I6 mk, I6 (f : Int), I6 mt, I6 mb, I6 (sl : Int), I6 mc, I6 mq, I6 mh, .string mx, .slice xa xn xc] 36)).drew.setRole hi (pb := pb) (l := .prep mb (t.add f) kept) (by rw [hrv]; rfl) hk2 ⟨pb, hrv, hpb2⟩ ⟨htok2, hkl⟩
   have hkw : Keeps (fun k => k = pb) w w2 := (Keeps.ofBelow (Below.drew hB)).trans hk2
   have hx2 := hxk.keeps hkw (fun k cs hc e => by rw [e, hpb] at hc; injection hc with e1; injection e1 with _ e1; simp at e1)
   have hKeep := keep_any pb (prepHead mb (t.add f)) kept ma (.slice xa xn xc) w2 hpb2 hhl2 hkl hx2.1.1 (fun g hg e => by obtain ⟨cs, hc⟩ := hx2.2 g hg; rw [e, hpb2] at hc; injection hc with e1; injection e1 with _ e1; simp at e1) (by have := hm.a; simp only at this; omega) hm.sl
   have hbc := blk_cell hbox2
   go_wp2_with fail
   refine hK.out _ _ ⟨hbox2, hpb12⟩ (fun hS => ?_)
   clear hK K
   try simp only [ly]
   refine tk 19 rfl hS (v := ?_) (fun w' hw => ?_) ?_
   rotate_left 1
   ·go_simp; all_goals with_reducible rfl
   try simp only [ly]
   refine tk 20 rfl hS (v := ?_) (fun w' hw => ?_) ?_
   rotate_left 1
   ·go_simp; all_goals with_reducible rfl
   try simp only [ly]
   refine dn ?_ _
   go_wp2_with fail
   refine hKeep.mono ?_
   rintro e w3 ⟨rfl, hpb3, hk3⟩
   clear hKeep
   obtain ⟨L2, h2, e2, r2, o2, kk2⟩ := id hto2
   have hto3 := h2.setRole hi (pb := pb) (l := .prep mb (t.add f) (keepAll kept ma)) (by rw [r2, hrv]; rfl) hk3 ⟨pb, by rw [r2]; exact hrv, hpb3⟩ ⟨htok2, by rw [keepAll_length]; exact hkl⟩
   rw [put_put, Sy.rep_put (by rw [hAt.ok.len]; exact hi)] at hto3
   have hto3' : SynRv L.rv w sb L w3 (s.put i ((s.rep i).role (.prep mb (t.add f) (keepAll kept ma)))) := by
    have := SynRv.after (s := s.put i ((s.rep i).role (.prep mb (t.add f) (keepAll kept ma)))) hAt rfl (Below.drew hB) (SynRv.next e2 o2 kk2 rfl hto3)
    rw [r2] at this
    exact this
   clear hto3 hto2 h2 o2 kk2 hbc
   obtain ⟨L3, h3, e3, r3, o3, kk3⟩ := id hto3'
   have hc3 := (h3.cells hi).2.1
   rw [e3] at hc3
   have hc3' : w3.cell? (A6 (L.rb i) 1) = some (I6 (s.n : Int)) := hc3
   clear hc3
   have hc3 := hc3'
   have hmaj := majority_any pb 2 (t.c + 1) (s.n : Int) w3.drew ((blk_cell (w := w3.drew) hpb3 (2 + 7)).trans (prep_has mb (t.add f) _ htok2 f hf7).2) (by have := htok.le; omega) (by have := htok.le; omega)
   have hlead := lead_syn (h3.drew) hi (b := mb) (t := t.add f) (kept := keepAll kept ma) (by rw [Sy.rep_put (by rw [hAt.ok.len]; exact hi)]; rfl) b0 b1 (pb := pb) (by rw [r3]; exact hrv)
   rw [e3] at hlead
   generalize hs3 : s.put i ((s.rep i).role (.prep mb (t.add f) (keepAll kept ma))) = s3 at *
   have hn3 : s3.n = s.n := by rw [← hs3]; rfl
   have Hs3 : Hid (s.put i ((s.rep i).role (.prep mb (t.add f) (keepAll kept ma))) = s3) := hs3
   clear hs3
   go_wp2_with fail
   refine wp_region_held_drew (S := fun w' => w'.cell? (A6 (L.rb i) 1) = some (I6 (s.n : Int))) (by kernel_rfl) (hc3) (fun hS => ?_)
   refine tk 0 rfl hS (v := ?_) (fun w' hw => ?_) ?_
   rotate_left 1
   ·have c := hw; go_simp; all_goals with_reducible rfl
   try simp only [ly]
   refine tk 1 rfl hS (v := ?_) (fun w' hw => ?_) ?_
   rotate_left 1
   ·have c := hw; go_simp; all_goals with_reducible rfl
   try simp only [ly]
   refine tk 2 rfl hS (v := ?_) (fun w' hw => ?_) ?_
   rotate_left 1
   ·have c := hw; go_simp; all_goals with_reducible rfl
   try simp only [ly]
   refine tk 3 rfl hS (v := ?_) (fun w' hw => ?_) ?_
   rotate_left 1
   ·have c := hw; go_simp; all_goals with_reducible rfl
   try simp only [ly]
   refine tk 4 rfl hS (v := ?_) (fun w' hw => ?_) ?_
   rotate_left 1
   ·have c := hw; go_simp; all_goals with_reducible rfl
   try simp only [ly]
   refine tk 5 rfl hS (v := ?_) (fun w' hw => ?_) ?_
   rotate_left 1
   ·have c := hw; go_simp; all_goals with_reducible rfl
   try simp only [ly]
   refine tk 6 rfl hS (v := ?_) (fun w' hw => ?_) ?_
   rotate_left 1
   ·have c := hw; go_simp; all_goals with_reducible rfl
   try simp only [ly]
   refine r1 7 rfl (fun K hK => ?_)
   go_simp
   refine hmaj.mono ?_
   rintro e w4 ⟨rfl, hw4⟩
   subst hw4
   clear hmaj
   by_cases hq : (s.n : Int) < 2 * (t.c + 1)
   ·have hqd : decide ((s.n : Int) < 2 * (t.c + 1)) = true := decide_eq_true hq
    simp only [hqd, if_pos hq]
    go_wp2_with fail
    refine hK.out _ _ hc3 (fun hS => ?_)
    clear hK K
    try simp only [ly]
    refine dn ?_ _
    go_wp2_with fail
    refine hlead.mono ?_
    rintro e w5 ⟨rfl, hto5⟩
    clear hlead
    go_wp2_with fail
    go_end0
    refine ⟨rfl, ?_⟩
    rw [Hs3.out]
    exact SynTo.next (s1 := s3) e3 o3 kk3 (lead_n _ _ _ _) (SynTo.after h3 (lead_n _ _ _ _) (Below.drew (Below.refl _ w3)) hto5)
   ·have hqd : decide ((s.n : Int) < 2 * (t.c + 1)) = false := decide_eq_false hq
    simp only [hqd, if_neg hq]
    go_wp2_with fail
    refine hK.out _ _ hc3 (fun hS => ?_)
    clear hK K
    try simp only [ly]
    refine dn ?_ _
    go_wp2_with fail
    go_end0
    refine ⟨rfl, ?_⟩
    rw [Hs3.out]
    exact hto3'.to.below (Below.drew (Below.refl _ w3))
  ·rw [if_neg (by rintro ⟨_, h⟩; cases h)]
   have hAdd := add_any pb 2 f true t.c (w.alloc (.cells #[I6 mk, I6 (f : Int), I6 mt, I6 mb, I6 (sl : Int), I6 mc, I6 mq, I6 mh, .string mx, .slice xa xn xc] 36)).drew hf7 ((blk_cell (w := (w.alloc (.cells #[I6 mk, I6 (f : Int), I6 mt, I6 mb, I6 (sl : Int), I6 mc, I6 mq, I6 mh, .string mx, .slice xa xn xc] 36)).drew) hpbA (2 + f)).trans (by rw [hhas, hth])) ((blk_cell (w := (w.alloc (.cells #[I6 mk, I6 (f : Int), I6 mt, I6 mb, I6 (sl : Int), I6 mc, I6 mq, I6 mh, .string mx, .slice xa xn xc] 36)).drew) hpbA (2 + 7)).trans hcnt) (blk_free (w := (w.alloc (.cells #[I6 mk, I6 (f : Int), I6 mt, I6 mb, I6 (sl : Int), I6 mc, I6 mq, I6 mh, .string mx, .slice xa xn xc] 36)).drew) hpbA) htok.le.1 (by have := htok.le.2; omega)
   go_enter Tryz.func101, Tryz.ntmps101
   go_wp2_with fail
   refine wp_region_held_drew (S := fun w' => w'.heap[w.heap.size]? = some (.cells #[I6 mk, I6 (f : Int), I6 mt, I6 mb, I6 (sl : Int), I6 mc, I6 mq, I6 mh, .string mx, .slice xa xn xc] 36 (0, 0)) ∧ w'.cell? (A6 pb 1) = some (I6 mb)) (by kernel_rfl) (⟨hbox, hpb1⟩) (fun hS => ?_)
   refine tk 0 rfl hS (v := ?_) (fun w' hw => ?_) ?_
   rotate_left 1
   ·go_simp; all_goals with_reducible rfl
   try simp only [ly]
   refine tk 1 rfl hS (v := ?_) (fun w' hw => ?_) ?_
   rotate_left 1
   ·go_simp; all_goals with_reducible rfl
   try simp only [ly]
   refine tk 2 rfl hS (v := ?_) (fun w' hw => ?_) ?_
   rotate_left 1
   ·go_simp; all_goals with_reducible rfl
   try simp only [ly]
   refine tk 3 rfl hS (v := ?_) (fun w' hw => ?_) ?_
   rotate_left 1
   ·have c := blk_cell hw.1; have c2 := hw.2; go_simp; all_goals with_reducible rfl
   try simp only [ly]
   refine tk 4 rfl hS (v := ?_) (fun w' hw => ?_) ?_
   rotate_left 1
   ·have c := blk_cell hw.1; have c2 := hw.2; go_simp; all_goals with_reducible rfl
   try simp only [ly]
   refine tk 5 rfl hS (v := ?_) (fun w' hw => ?_) ?_
   rotate_left 1
   ·have c := blk_cell hw.1; have c2 := hw.2; go_simp; all_goals with_reducible rfl
   try simp only [ly]
   refine tk 6 rfl hS (v := ?_) (fun w' hw => ?_) ?_
   rotate_left 1
   ·have c := blk_cell hw.1; have c2 := hw.2; go_simp; all_goals with_reducible rfl
   try simp only [ly]
   refine tk 7 rfl hS (v := ?_) (fun w' hw => ?_) ?_
   rotate_left 1
   ·have c := blk_cell hw.1; have c2 := hw.2; go_simp; all_goals with_reducible rfl
   try simp only [ly]
   refine tk 8 rfl hS (v := ?_) (fun w' hw => ?_) ?_
   rotate_left 1
   ·have c := blk_cell hw.1; have c2 := hw.2; go_simp; all_goals with_reducible rfl
   try simp only [ly]
   refine tk 9 rfl hS (v := ?_) (fun w' hw => ?_) ?_
   rotate_left 1
   ·have c := blk_cell hw.1; have c2 := hw.2; go_simp; all_goals with_reducible rfl
   try simp only [ly]
   refine tk 10 rfl hS (v := ?_) (fun w' hw => ?_) ?_
   rotate_left 1
   ·have c := blk_cell hw.1; have c2 := hw.2; go_simp; all_goals with_reducible rfl
   try simp only [ly]
   refine tk 11 rfl hS (v := ?_) (fun w' hw => ?_) ?_
   rotate_left 1
   ·go_simp; all_goals with_reducible rfl
   try simp only [ly]
   refine tk 12 rfl hS (v := ?_) (fun w' hw => ?_) ?_
   rotate_left 1
   ·go_simp; all_goals with_reducible rfl
   try simp only [ly]
   refine tk 13 rfl hS (v := ?_) (fun w' hw => ?_) ?_
   rotate_left 1
   ·have c := blk_cell hw.1; have c2 := hw.2; go_simp; all_goals with_reducible rfl
   try simp only [ly]
   refine tk 14 rfl hS (v := ?_) (fun w' hw => ?_) ?_
   rotate_left 1
   ·have c := blk_cell hw.1; have c2 := hw.2; go_simp; all_goals with_reducible rfl
   try simp only [ly]
   refine tk 15 rfl hS (v := ?_) (fun w' hw => ?_) ?_
   rotate_left 1
   ·have c := blk_cell hw.1; have c2 := hw.2; go_simp; all_goals with_reducible rfl
   try simp only [ly]
   refine tk 16 rfl hS (v := ?_) (fun w' hw => ?_) ?_
   rotate_left 1
   ·have c := blk_cell hw.1; have c2 := hw.2; go_simp; all_goals with_reducible rfl
   try simp only [ly]
   refine tk 17 rfl hS (v := ?_) (fun w' hw => ?_) ?_
   rotate_left 1
   ·have c := blk_cell hw.1; have c2 := hw.2; go_simp; all_goals with_reducible rfl
   try simp only [ly]
   refine r1 18 rfl (fun K hK => ?_)
   go_simp
   refine hAdd.mono ?_
   rintro e w2 ⟨rfl, hw2⟩
   rw [if_pos trivial] at hw2
   subst hw2
   clear hAdd
   go_wp2_with fail
   refine hK.out _ _ ⟨hbox, hpb1⟩ (fun hS => ?_)
   clear hK K
   try simp only [ly]
   refine tk 19 rfl hS (v := ?_) (fun w' hw => ?_) ?_
   rotate_left 1
   ·go_simp; all_goals with_reducible rfl
   try simp only [ly]
   refine tk 20 rfl hS (v := ?_) (fun w' hw => ?_) ?_
   rotate_left 1
   ·go_simp; all_goals with_reducible rfl
   try simp only [ly]
   refine dn ?_ _
   go_wp2_with fail
   refine bodyPost_ret (results_none rfl _ _ _) rfl ?_
   exact ⟨rfl, (SynTo.refl hAt).below (Below.drew hB)⟩
 ·have hbq : (b == mb) = false := by simpa using hbb
  have hbr : (b != mb) = true := by simpa using hbb
  rw [if_neg (by rintro ⟨h, _⟩; exact hbb h)]
  go_enter Tryz.func101, Tryz.ntmps101
  go_wp2_with fail
  refine wp_region_held_drew (S := fun w' => w'.heap[w.heap.size]? = some (.cells #[I6 mk, I6 (f : Int), I6 mt, I6 mb, I6 (sl : Int), I6 mc, I6 mq, I6 mh, .string mx, .slice xa xn xc] 36 (0, 0)) ∧ w'.cell? (A6 pb 1) = some (I6 b)) (by kernel_rfl) (⟨hbox, hpb1⟩) (fun hS => ?_)
  refine tk 0 rfl hS (v := ?_) (fun w' hw => ?_) ?_
  rotate_left 1
  ·go_simp; all_goals with_reducible rfl
  try simp only [ly]
  refine tk 1 rfl hS (v := ?_) (fun w' hw => ?_) ?_
  rotate_left 1
  ·go_simp; all_goals with_reducible rfl
  try simp only [ly]
  refine tk 2 rfl hS (v := ?_) (fun w' hw => ?_) ?_
  rotate_left 1
  ·go_simp; all_goals with_reducible rfl
  try simp only [ly]
  refine tk 3 rfl hS (v := ?_) (fun w' hw => ?_) ?_
  rotate_left 1
  ·have c := blk_cell hw.1; have c2 := hw.2; go_simp; all_goals with_reducible rfl
  try simp only [ly]
  refine tk 4 rfl hS (v := ?_) (fun w' hw => ?_) ?_
  rotate_left 1
  ·have c := blk_cell hw.1; have c2 := hw.2; go_simp; all_goals with_reducible rfl
  try simp only [ly]
  refine tk 5 rfl hS (v := ?_) (fun w' hw => ?_) ?_
  rotate_left 1
  ·have c := blk_cell hw.1; have c2 := hw.2; go_simp; all_goals with_reducible rfl
  try simp only [ly]
  refine tk 6 rfl hS (v := ?_) (fun w' hw => ?_) ?_
  rotate_left 1
  ·have c := blk_cell hw.1; have c2 := hw.2; go_simp; all_goals with_reducible rfl
  try simp only [ly]
  refine tk 7 rfl hS (v := ?_) (fun w' hw => ?_) ?_
  rotate_left 1
  ·have c := blk_cell hw.1; have c2 := hw.2; go_simp; all_goals with_reducible rfl
  try simp only [ly]
  refine tk 8 rfl hS (v := ?_) (fun w' hw => ?_) ?_
  rotate_left 1
  ·have c := blk_cell hw.1; have c2 := hw.2; go_simp; all_goals with_reducible rfl
  try simp only [ly]
  refine tk 9 rfl hS (v := ?_) (fun w' hw => ?_) ?_
  rotate_left 1
  ·have c := blk_cell hw.1; have c2 := hw.2; go_simp; all_goals with_reducible rfl
  try simp only [ly]
  refine tk 10 rfl hS (v := ?_) (fun w' hw => ?_) ?_
  rotate_left 1
  ·have c := blk_cell hw.1; have c2 := hw.2; go_simp; all_goals with_reducible rfl
  try simp only [ly]
  refine tk 11 rfl hS (v := ?_) (fun w' hw => ?_) ?_
  rotate_left 1
  ·go_simp; all_goals with_reducible rfl
  try simp only [ly]
  refine tk 12 rfl hS (v := ?_) (fun w' hw => ?_) ?_
  rotate_left 1
  ·go_simp; all_goals with_reducible rfl
  try simp only [ly]
  refine tn 13 rfl hS ?_
  try simp only [ly]
  refine tn 14 rfl hS ?_
  try simp only [ly]
  refine tn 15 rfl hS ?_
  try simp only [ly]
  refine tn 16 rfl hS ?_
  try simp only [ly]
  refine tn 17 rfl hS ?_
  try simp only [ly]
  refine tn 18 rfl hS ?_
  try simp only [ly]
  refine tn 19 rfl hS ?_
  try simp only [ly]
  refine tk 20 rfl hS (v := ?_) (fun w' hw => ?_) ?_
  rotate_left 1
  ·go_simp; all_goals with_reducible rfl
  try simp only [ly]
  refine dn ?_ _
  go_wp2_with fail
  refine bodyPost_ret (results_none rfl _ _ _) rfl ?_
  exact ⟨rfl, (SynTo.refl hAt).below (Below.drew hB)⟩
end
end Go.Proofs.YtnnhnekfokbooaaGreatDoor
