/- The walks of what a replica proposes (laid by mksynf.py). -/
import Derived.Test.YtnnhnekfokbooaaGreatDoorVo11
import Derived.Test.YtnnhnekfokbooaaGreatDoorVo01
namespace Go.Proofs.YtnnhnekfokbooaaGreatDoor
open List (getElem_toArray getElem_cons_zero getElem_cons_succ setIfInBounds_toArray set_cons_zero set_cons_succ)
open Go.RowKit
set_option linter.unusedSimpArgs false
set_option linter.unusedVariables false

/-- A role's block is written. -/
theorem SynAt.setRole {w w' : World} {sb : Nat} {L : Lay} {s : Sy} (h : SynAt w sb L s) {i : Nat} (hi : i < s.n) {pb : Nat} {l : Rl} (hpb : roleBlk (L.rv i) = some pb) (hk : Keeps (fun k => k = pb) w w') (hrole : RoleIs w' (L.rv i) l) (hl : l.ok) : SynRv L.rv w sb L w' (s.put i ((s.rep i).role l)) := by
 have hok := h.ok.repOk hi
 have hR := h.setRepR hi (r := (s.rep i).role l) (rv := L.rv i) ⟨hok.pr0, hok.pr1, hok.sn0, hok.sn1, hok.acc, hok.slot, hok.dec, hl⟩ (hk.mono (fun k _ e => .inr (by rw [e]; exact hpb))) (by rw [repCells_rl]; exact blk_keeps hk (h.rep i hi) (fun e => h.roleNe hi hi (e ▸ hpb))) hrole (fun k hk => .inl hk)
 rw [upd_self] at hR
 exact hR
theorem Rl.ok_lead {b : Int} {next : Nat} {ps : List Pp} (h : Rl.ok (.lead b next ps)) : next ≤ 16 ∧ ps.length = 16 ∧ ∀ x ∈ ps, x.t.ok := h
theorem Pp.cells_length {x : Pp} (h : x.t.ok) : x.cells.length = 12 := by
 simp [Pp.cells, Pst.cells, Tl.cells, h.1]
theorem ppcells_value : ∀ (ps : List Pp) (k : Nat) (_ : k < ps.length) (_ : ∀ x ∈ ps, x.t.ok) (p : Pst), (ppcells ps).take (k * 12) ++ p.cells ++ (ppcells ps).drop (k * 12 + 4) = ppcells (ps.set k ⟨p, (ps.getD k noPp).t⟩)
 | [], k, hk, _, _ => by simp at hk
 | x :: l, 0, _, _, p => by
  simp only [List.set_cons_zero, ppcells, Pp.cells, List.getD_cons_zero, Nat.zero_mul, List.take_zero, List.nil_append, Nat.zero_add]
  have e : x.p.cells.length = 4 := rfl
  rw [List.append_assoc, List.drop_append, List.drop_of_length_le (by omega), e]
  simp
 | x :: l, k + 1, hk, ho, p => by
  have hx := Pp.cells_length (ho x List.mem_cons_self)
  have e1 : (k + 1) * 12 = x.cells.length + k * 12 := by rw [hx]; omega
  have e2 : (k + 1) * 12 + 4 = x.cells.length + (k * 12 + 4) := by rw [hx]; omega
  rw [List.set_cons_succ, ppcells, ppcells, e2, e1, List.getD_cons_succ, ← ppcells_value l k (by simpa using hk) (fun y hy => ho y (List.mem_cons_of_mem _ hy)) p]
  rw [List.take_append, List.take_of_length_le (by omega), List.drop_append, List.drop_of_length_le (by omega), Nat.add_sub_cancel_left, Nat.add_sub_cancel_left]
  simp
theorem getD_ok {ps : List Pp} (h : ∀ x ∈ ps, x.t.ok) {k : Nat} (hk : k < ps.length) : (ps.getD k noPp).t.ok := by
 rw [List.getD_eq_getElem?_getD, List.getElem?_eq_getElem hk]
 exact h _ (List.getElem_mem hk)
theorem set_ok {ps : List Pp} (h : ∀ x ∈ ps, x.t.ok) {k : Nat} {y : Pp} (hy : y.t.ok) : ∀ x ∈ ps.set k y, x.t.ok := fun x hx => by
 rcases List.mem_or_eq_of_mem_set hx with h1 | h1
 ·exact h x h1
 ·rw [h1]; exact hy
theorem lead_size (b : Int) (next : Nat) (ps : List Pp) (hl : ps.length = 16) (ho : ∀ x ∈ ps, x.t.ok) : (leadHead b next ++ ppcells ps).length = 195 := by
 rw [List.length_append, ppcells_length ps (fun x hx => (ho x hx).1), hl]; rfl
theorem lead_value (b : Int) (next : Nat) (ps : List Pp) (hl : ps.length = 16) (ho : ∀ x ∈ ps, x.t.ok) (k : Nat) (hk : k < 16) (p : Pst) : (leadHead b next ++ ppcells ps).take (3 + k * 12) ++ p.cells ++ (leadHead b next ++ ppcells ps).drop (3 + k * 12 + 4) = leadHead b next ++ ppcells (ps.set k ⟨p, (ps.getD k noPp).t⟩) := by
 have h1 : (leadHead b next).length = 3 := rfl
 have e1 : 3 + k * 12 - 3 = k * 12 := by omega
 have e2 : 3 + k * 12 + 4 - 3 = k * 12 + 4 := by omega
 rw [List.take_append, List.take_of_length_le (by omega), List.drop_append, List.drop_of_length_le (by omega), h1, e1, e2, ← ppcells_value ps k (by omega) ho p]
 simp
/-- What is proposed is written. -/
theorem SynAt.value {w : World} {sb : Nat} {L : Lay} {s : Sy} (h : SynAt w sb L s) {i : Nat} (hi : i < s.n) {b : Int} {next : Nat} {ps : List Pp} (hrl : (s.rep i).rl = .lead b next ps) {pb : Nat} (hrv : L.rv i = .iface 160 (.pointer (some ⟨pb, 0, none⟩))) (k : Nat) (hk : k < 16) (p : Pst) :
  SynRv L.rv w sb L (w.setCells pb (3 + k * 12) p.cells) (s.put i ((s.rep i).role (.lead b next (ps.set k ⟨p, (ps.getD k noPp).t⟩)))) := by
 have hr := h.role i hi
 have hro := (h.ok.repOk hi).rl
 rw [hrl] at hr hro
 obtain ⟨hn, hl, ho⟩ := Rl.ok_lead hro
 obtain ⟨pb', e, hb⟩ := hr
 rw [hrv] at e
 cases e
 have hkp : Keeps (fun k => k = pb) w (w.setCells pb (3 + k * 12) p.cells) := Keeps.ofSets (P := fun k => k = pb) _ rfl _ _ _
 have hpl : p.cells.length = 4 := rfl
 refine h.setRole hi (by rw [hrv]; rfl) hkp ⟨pb, hrv, ?_⟩ ⟨hn, by simp [hl], set_ok ho (getD_ok ho (by omega))⟩
 rw [setCells_self pb _ p.cells (3 + k * 12) w _ hb (by rw [List.size_toArray, lead_size _ _ _ hl ho, hpl]; omega), hpl, List.toList_toArray, lead_value _ _ _ hl ho k hk]
theorem rep_sendTo (m : Ms) (f : Nat) (a : List Nat) (s : Sy) (i : Nat) : (s.sendTo m f a).rep i = s.rep i := by
 unfold Sy.rep; rw [sendTo_reps]
theorem nums_row {w : World} {base : Nat} {v : Value} {n : Nat} (h : w.ownsRow base 3 1 v n (nums n)) : RowAt w 1 v (List.range n).length ((List.range n).map fun (i : Nat) => Value.int .i64 (i : Int)) := by
 have := owns_row h
 rw [List.length_range]
 exact this

set_option maxHeartbeats 1000000 in
set_option maxRecDepth 100000 in
theorem propose_rv {w : World} {sb : Nat} {L : Lay} {s : Sy} (h : SynAt w sb L s) {i : Nat} (hi : i < s.n) {b : Int} {next : Nat} {ps : List Pp} (hrl : (s.rep i).rl = .lead b next ps) (b0 : 0 ≤ b) (b1 : b ≤ 8007) {pb : Nat} (hrv : L.rv i = .iface 160 (.pointer (some ⟨pb, 0, none⟩))) (k : Nat) (hk : k < 16) (p : Pst) :
  Calls Tryz.prog 97 #[.pointer (some ⟨L.rb i, 0, none⟩), .pointer (some ⟨pb, 0, none⟩), .int .i64 (k : Int), .agg #[.int .i64 p.c, .int .i64 p.q, .int .i64 p.h, .string p.t]] w fun e w' => e = .returned (.tuple #[]) ∧ SynRv L.rv w sb L w' (s.propose i k p) := by
 have hAt := h
 have hbox := blk_new w (.cells #[.int .i64 p.c, .int .i64 p.q, .int .i64 p.h, .string p.t] 33)
 have hB : Below w.heap.size w (w.alloc (.cells #[.int .i64 p.c, .int .i64 p.q, .int .i64 p.h, .string p.t] 33)) := (Below.refl _ w).alloc (Nat.le_refl _) _
 have hro := (h.ok.repOk hi).rl
 have hrb := h.role i hi
 rw [hrl] at hro hrb
 obtain ⟨hnx, hpl, hpo⟩ := Rl.ok_lead hro
 obtain ⟨pb', e, hpb⟩ := hrb
 rw [hrv] at e
 cases e
 have hplt := lt_of_block hpb
 have q0 : (0 : Int) ≤ (k : Int) := by omega
 have q1 : (k : Int) < 16 := by omega
 have hpb0 := blk_alloc hpb (.cells #[.int .i64 p.c, .int .i64 p.q, .int .i64 p.h, .string p.t] 33)
 have hth : World.there (w.alloc (.cells #[.int .i64 p.c, .int .i64 p.q, .int .i64 p.h, .string p.t] 33)).drew pb (3 + k * 12) 4 := fun j hj => ⟨by show (World.cell? (w.alloc (.cells #[.int .i64 p.c, .int .i64 p.q, .int .i64 p.h, .string p.t] 33)) _).isSome = true; rw [blk_cell hpb0, Array.getElem?_eq_getElem (by rw [List.size_toArray, lead_size _ _ _ hpl hpo]; omega)]; rfl, blk_free (w := (w.alloc (.cells #[.int .i64 p.c, .int .i64 p.q, .int .i64 p.h, .string p.t] 33)).drew) hpb0 _⟩
 have hi4 : (Tryz.prog.info? 33).map (·.size) = some (#[.int .i64 p.c, .int .i64 p.q, .int .i64 p.h, .string p.t] : Array Value).size := by kernel_rfl
 have h14 : (#[.int .i64 p.c, .int .i64 p.q, .int .i64 p.h, .string p.t] : Array Value).all (·.oneCell') = true := by simp [Value.oneCell']
 have hne : w.heap.size ≠ pb := by omega
 have hval := (h.alloc (.cells #[.int .i64 p.c, .int .i64 p.q, .int .i64 p.h, .string p.t] 33)).drew.value hi hrl hrv k hk p
 have hfin : s.propose i k p = (s.put i ((s.rep i).role (.lead b next (ps.set k ⟨p, (ps.getD k noPp).t⟩)))).sendTo (msg 3 b (k : Int) p []) i (List.range s.n) := by
  unfold Sy.propose; rw [hrl]; rfl
 have hfin' : Hid (s.propose i k p = (s.put i ((s.rep i).role (.lead b next (ps.set k ⟨p, (ps.getD k noPp).t⟩)))).sendTo (msg 3 b (k : Int) p []) i (List.range s.n)) := hfin
 clear hfin
 go_enter Tryz.func97, Tryz.ntmps97
 go_wp2_with fail
 refine wp_region_held_drew (S := fun w' => w'.heap[w.heap.size]? = some (.cells #[.int .i64 p.c, .int .i64 p.q, .int .i64 p.h, .string p.t] 33 (0, 0))) (by kernel_rfl) (hbox) (fun hS => ?_)
 refine tk 0 rfl hS (v := ?_) (fun w' hw => ?_) ?_
 rotate_left 1
 ·have c := blk_cell hw; go_simp; all_goals with_reducible rfl
 try simp only [Act.put, getElem_toArray, getElem_cons_zero, getElem_cons_succ, setIfInBounds_toArray, set_cons_zero, set_cons_succ]
 refine tk 1 rfl hS (v := ?_) (fun w' hw => ?_) ?_
 rotate_left 1
 ·have c := blk_cell hw; go_simp; all_goals with_reducible rfl
 try simp only [Act.put, getElem_toArray, getElem_cons_zero, getElem_cons_succ, setIfInBounds_toArray, set_cons_zero, set_cons_succ]
 refine tk 2 rfl hS (v := ?_) (fun w' hw => ?_) ?_
 rotate_left 1
 ·have c := blk_cell hw; go_simp; all_goals with_reducible rfl
 try simp only [Act.put, getElem_toArray, getElem_cons_zero, getElem_cons_succ, setIfInBounds_toArray, set_cons_zero, set_cons_succ]
 refine tk 3 rfl hS (v := ?_) (fun w' hw => ?_) ?_
 rotate_left 1
 ·have c := blk_cell hw; go_simp; all_goals with_reducible rfl
 try simp only [Act.put, getElem_toArray, getElem_cons_zero, getElem_cons_succ, setIfInBounds_toArray, set_cons_zero, set_cons_succ]
 refine tk 4 rfl hS (v := ?_) (fun w' hw => ?_) ?_
 rotate_left 1
 ·have c := blk_cell hw; go_simp; all_goals with_reducible rfl
 try simp only [Act.put, getElem_toArray, getElem_cons_zero, getElem_cons_succ, setIfInBounds_toArray, set_cons_zero, set_cons_succ]
 refine tk 5 rfl hS (v := ?_) (fun w' hw => ?_) ?_
 rotate_left 1
 ·have c := blk_cell hw; go_simp; all_goals with_reducible rfl
 try simp only [Act.put, getElem_toArray, getElem_cons_zero, getElem_cons_succ, setIfInBounds_toArray, set_cons_zero, set_cons_succ]
 refine tk 6 rfl hS (v := ?_) (fun w' hw => ?_) ?_
 rotate_left 1
 ·have c := blk_cell hw; go_simp; all_goals with_reducible rfl
 try simp only [Act.put, getElem_toArray, getElem_cons_zero, getElem_cons_succ, setIfInBounds_toArray, set_cons_zero, set_cons_succ]
 refine wpAnyH_ready (rs := [7]) (by kernel_rfl) (by simp) ?_
 refine AllReadyH.cons rfl (fun K hK => ?_) AllReadyH.nil
 rw [if_pos (by kernel_rfl)]
 refine wp_store_mid 33 (.tmp 14) (.tmp 10) rfl pb (3 + k * 12) #[.int .i64 p.c, .int .i64 p.q, .int .i64 p.h, .string p.t] rfl rfl hth hi4 h14 ?_
 have hbox3 : (World.setCells (w.alloc (.cells #[.int .i64 p.c, .int .i64 p.q, .int .i64 p.h, .string p.t] 33)).drew pb (3 + k * 12) #[.int .i64 p.c, .int .i64 p.q, .int .i64 p.h, .string p.t].toList).heap[w.heap.size]? = some (.cells #[.int .i64 p.c, .int .i64 p.q, .int .i64 p.h, .string p.t] 33 (0, 0)) := by
  rw [setCells_other pb _ _ _ _ hne]; exact hbox
 refine hK.out _ _ hbox3 (fun hS => ?_)
 clear hK K
 try simp only [Act.put, getElem_toArray, getElem_cons_zero, getElem_cons_succ, setIfInBounds_toArray, set_cons_zero, set_cons_succ]
 refine wpAnyH_done (by kernel_rfl) ?_ _
 have hval2 : SynRv L.rv (w.alloc (.cells #[.int .i64 p.c, .int .i64 p.q, .int .i64 p.h, .string p.t] 33)).drew sb L (World.setCells (w.alloc (.cells #[.int .i64 p.c, .int .i64 p.q, .int .i64 p.h, .string p.t] 33)).drew pb (3 + k * 12) #[.int .i64 p.c, .int .i64 p.q, .int .i64 p.h, .string p.t].toList) (s.put i ((s.rep i).role (.lead b next (ps.set k ⟨p, (ps.getD k noPp).t⟩)))) := hval
 generalize World.setCells (w.alloc (.cells #[.int .i64 p.c, .int .i64 p.q, .int .i64 p.h, .string p.t] 33)).drew pb (3 + k * 12) #[.int .i64 p.c, .int .i64 p.q, .int .i64 p.h, .string p.t].toList = w3 at *
 have hto3 := SynRv.after (s := s.put i ((s.rep i).role (.lead b next (ps.set k ⟨p, (ps.getD k noPp).t⟩)))) hAt rfl (Below.drew hB) hval2
 obtain ⟨L3, h3, e3, r3, ho3, hk3⟩ := id hto3
 have hrb3 := h3.role i hi
 rw [Sy.rep_put (by rw [hAt.ok.len]; exact hi), r3, hrv] at hrb3
 obtain ⟨pb', e, hpb3⟩ := hrb3
 cases e
 have hb3 : w3.cell? ⟨pb, 1, none⟩ = some (.int .i64 b) := (blk_cell hpb3 1).trans rfl
 have hc3 := (h3.cells hi).2.1
 rw [e3] at hc3
 have hc3' : w3.drew.cell? ⟨L.rb i, 1, none⟩ = some (.int .i64 (s.n : Int)) := hc3
 clear hc3
 have hn3 : (s.put i ((s.rep i).role (.lead b next (ps.set k ⟨p, (ps.getD k noPp).t⟩)))).n = s.n := rfl
 have hA := fun W hc => all_any (L.rb i) s.n W hc (by have := hAt.ok.n1; omega)
 generalize hs3 : s.put i ((s.rep i).role (.lead b next (ps.set k ⟨p, (ps.getD k noPp).t⟩))) = s3 at *
 have Hs3 : Hid (_ = s3) := hs3
 clear hs3 hval hval2
 go_wp2_with fail
 refine wp_region_held_drew (S := fun w' => w'.heap[w.heap.size]? = some (.cells #[.int .i64 p.c, .int .i64 p.q, .int .i64 p.h, .string p.t] 33 (0, 0)) ∧ w'.cell? ⟨pb, 1, none⟩ = some (.int .i64 b)) (by kernel_rfl) (⟨hbox3, hb3⟩) (fun hS => ?_)
 refine tk 0 rfl hS (v := ?_) (fun w' hw => ?_) ?_
 rotate_left 1
 ·have c := blk_cell hw.1; have c2 := hw.2; go_simp; all_goals with_reducible rfl
 try simp only [Act.put, getElem_toArray, getElem_cons_zero, getElem_cons_succ, setIfInBounds_toArray, set_cons_zero, set_cons_succ]
 refine tk 1 rfl hS (v := ?_) (fun w' hw => ?_) ?_
 rotate_left 1
 ·have c := blk_cell hw.1; have c2 := hw.2; go_simp; all_goals with_reducible rfl
 try simp only [Act.put, getElem_toArray, getElem_cons_zero, getElem_cons_succ, setIfInBounds_toArray, set_cons_zero, set_cons_succ]
 refine tk 2 rfl hS (v := ?_) (fun w' hw => ?_) ?_
 rotate_left 1
 ·have c := blk_cell hw.1; have c2 := hw.2; go_simp; all_goals with_reducible rfl
 try simp only [Act.put, getElem_toArray, getElem_cons_zero, getElem_cons_succ, setIfInBounds_toArray, set_cons_zero, set_cons_succ]
 refine tk 3 rfl hS (v := ?_) (fun w' hw => ?_) ?_
 rotate_left 1
 ·have c := blk_cell hw.1; have c2 := hw.2; go_simp; all_goals with_reducible rfl
 try simp only [Act.put, getElem_toArray, getElem_cons_zero, getElem_cons_succ, setIfInBounds_toArray, set_cons_zero, set_cons_succ]
 refine tk 4 rfl hS (v := ?_) (fun w' hw => ?_) ?_
 rotate_left 1
 ·have c := blk_cell hw.1; have c2 := hw.2; go_simp; all_goals with_reducible rfl
 try simp only [Act.put, getElem_toArray, getElem_cons_zero, getElem_cons_succ, setIfInBounds_toArray, set_cons_zero, set_cons_succ]
 refine tk 5 rfl hS (v := ?_) (fun w' hw => ?_) ?_
 rotate_left 1
 ·have c := blk_cell hw.1; have c2 := hw.2; go_simp; all_goals with_reducible rfl
 try simp only [Act.put, getElem_toArray, getElem_cons_zero, getElem_cons_succ, setIfInBounds_toArray, set_cons_zero, set_cons_succ]
 refine tk 6 rfl hS (v := ?_) (fun w' hw => ?_) ?_
 rotate_left 1
 ·have c := blk_cell hw.1; have c2 := hw.2; go_simp; all_goals with_reducible rfl
 try simp only [Act.put, getElem_toArray, getElem_cons_zero, getElem_cons_succ, setIfInBounds_toArray, set_cons_zero, set_cons_succ]
 refine tk 7 rfl hS (v := ?_) (fun w' hw => ?_) ?_
 rotate_left 1
 ·have c := blk_cell hw.1; have c2 := hw.2; go_simp; all_goals with_reducible rfl
 try simp only [Act.put, getElem_toArray, getElem_cons_zero, getElem_cons_succ, setIfInBounds_toArray, set_cons_zero, set_cons_succ]
 refine tk 8 rfl hS (v := ?_) (fun w' hw => ?_) ?_
 rotate_left 1
 ·have c := blk_cell hw.1; have c2 := hw.2; go_simp; all_goals with_reducible rfl
 try simp only [Act.put, getElem_toArray, getElem_cons_zero, getElem_cons_succ, setIfInBounds_toArray, set_cons_zero, set_cons_succ]
 refine tk 9 rfl hS (v := ?_) (fun w' hw => ?_) ?_
 rotate_left 1
 ·have c := blk_cell hw.1; have c2 := hw.2; go_simp; all_goals with_reducible rfl
 try simp only [Act.put, getElem_toArray, getElem_cons_zero, getElem_cons_succ, setIfInBounds_toArray, set_cons_zero, set_cons_succ]
 refine wpAnyH_ready (rs := [10]) (by kernel_rfl) (by simp) ?_
 refine AllReadyH.cons rfl (fun K hK => ?_) AllReadyH.nil
 go_simp
 refine (hA w3.drew hc3').mono ?_
 rintro e w4 ⟨v1, rfl, hown4, hB4⟩
 obtain ⟨va, vn, vc, rfl⟩ := owns_slice1 hown4
 have hB4' : Below w3.heap.size w3 w4 := Below.trans (Below.drew (Below.refl _ w3)) hB4
 have hbox4 := blk_below hB4' hbox3
 have hb4 := (blk_cell (blk_below hB4' hpb3) 1).trans (show _ = some (.int .i64 b) from rfl)
 clear hA
 go_wp2_with fail
 refine hK.out _ _ ⟨hbox4, hb4⟩ (fun hS => ?_)
 clear hK K
 try simp only [Act.put, getElem_toArray, getElem_cons_zero, getElem_cons_succ, setIfInBounds_toArray, set_cons_zero, set_cons_succ]
 refine wpAnyH_ready (rs := [11]) (by kernel_rfl) (by simp) ?_
 refine AllReadyH.cons rfl (fun K hK => ?_) AllReadyH.nil
 go_simp
 have hX := send_rv (h3.below hB4') (by rw [hn3]; exact hi) ⟨msg 3 b (k : Int) p [], .slice none 0 0⟩ (Nm.okt_nil _ _ rfl) (msg_ok h3.ok.n0 (by decide) (by decide) b0 b1 q0 q1 (by simp) (by simp)) (List.range s.n) (fun t ht => by rw [hn3]; exact List.mem_range.1 ht) _ (nums_row hown4) (fun g hg => owns_blk hown4 hg) (by rw [List.length_range]; have := hAt.ok.n1; omega)
 rw [e3] at hX
 refine hX.mono ?_
 rintro e w5 ⟨rfl, hto5⟩
 clear hX
 have hno3 : ¬ L3.own sb s3.n w.heap.size := h3.not_own hbox3 (by unfold ownT; decide)
 have hbox5 := hto5.blk hbox4 (fun ho => hno3 (by rw [sendTo_n] at ho; exact ho))
 have hto6 := SynRv.next e3 ho3 hk3 (sendTo_n _ _ _ _) (SynRv.after h3 (sendTo_n _ _ _ _) hB4' hto5)
 rw [r3] at hto6
 obtain ⟨L5, h5, e5, r5, _, _⟩ := id hto6
 have hrb5 := h5.role i (by rw [sendTo_n, hn3]; exact hi)
 rw [r5, hrv] at hrb5
 have hrep5 : ((s3.sendTo (msg 3 b (k : Int) p []) i (List.range s.n)).rep i).rl = .lead b next (ps.set k ⟨p, (ps.getD k noPp).t⟩) := by
  rw [rep_sendTo, ← Hs3.out, Sy.rep_put (by rw [hAt.ok.len]; exact hi)]; rfl
 rw [hrep5] at hrb5
 obtain ⟨pb', e, hpb5⟩ := hrb5
 cases e
 have hb5 : w5.cell? ⟨pb, 1, none⟩ = some (.int .i64 b) := (blk_cell hpb5 1).trans rfl
 clear hrep5
 go_wp2_with fail
 refine hK.out _ _ ⟨hbox5, hb5⟩ (fun hS => ?_)
 clear hK K
 try simp only [Act.put, getElem_toArray, getElem_cons_zero, getElem_cons_succ, setIfInBounds_toArray, set_cons_zero, set_cons_succ]
 refine wpAnyH_done (by kernel_rfl) ?_ _
 go_wp2_with fail
 go_end0
 refine ⟨rfl, ?_⟩
 rw [hfin'.out]
 exact hto6
end Go.Proofs.YtnnhnekfokbooaaGreatDoor
