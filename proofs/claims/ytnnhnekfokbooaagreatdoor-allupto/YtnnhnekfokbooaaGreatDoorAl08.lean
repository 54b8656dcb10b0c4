/- SynG, SynH, SynI -/
import Derived.Test.YtnnhnekfokbooaaGreatDoorAl07
set_option linter.unusedSimpArgs false
set_option linter.unusedVariables false
set_option maxRecDepth 100000
namespace Go.Proofs.YtnnhnekfokbooaaGreatDoor
section
open Go.RowKit
def ics (l : List Int) : List Value := l.map (Value.int .i64)
theorem ics_length (l : List Int) : (ics l).length = l.length := by simp [ics]
theorem ics_append (a b : List Int) : ics (a ++ b) = ics a ++ ics b := by simp [ics]
theorem ics_one (l : List Int) : ∀ u ∈ ics l, u.oneCell' = true := by
 intro u hu
 simp [ics] at hu
 obtain ⟨a, _, rfl⟩ := hu
 rfl
theorem take_len {α : Type} {a b : List α} {n : Nat} (h : a.length = n) : (a ++ b).take n = a := by
 subst h; exact List.take_left
theorem zeroI : (Builtin.zeroCells (I6 0).cells 1).toList = [I6 0] := by
 first | kernel_rfl | simp [Builtin.zeroCells, Value.cells]
theorem idrop_erase (l : List Int) (k : Nat) (hk : k < l.length) : ics (l.eraseIdx k) = ics (l.take k) ++ ics (l.drop (k + 1)) := by
 rw [← ics_append, List.eraseIdx_eq_take_drop_succ]
set_option maxHeartbeats 4000000 in
theorem idelete_any (H : Nat) (v : Value) (l : List Int) (k : Nat) (w : World) (hown : w.ownsRow H 3 1 v l.length (ics l)) (hk : k < l.length) (hl : l.length ≤ 1000) :
  Calls Tryz.prog 143 #[v, I6 (k : Int), I6 ((k : Int) + 1)] w fun e w' => ∃ v', e = .returned v' ∧ w'.ownsRow H 3 1 v' (l.length - 1) (ics (l.eraseIdx k)) ∧ v'.ownBlock = v.ownBlock ∧
   Keeps (fun b => v.ownBlock = some b) w w' := by
 obtain ⟨i0, hi, hz0, hz1, hz2⟩ := info_parts Tryz.infoInt
 rcases hown.2 with ⟨_, h0⟩ | ⟨g, cap, cur, rfl, hbg, hg, hnc, hcm, hcs, htake⟩
 ·omega
 rw [Nat.mul_one] at hcs htake
 have hgf := blk_free hg
 have q0 : (0 : Int) ≤ (k : Int) := by omega
 have q1 : (k : Int) + 1 ≤ (l.length : Int) := by omega
 have q2 : (l.length : Int) ≤ (cap : Int) := by omega
 have q3 : (k : Int) ≤ (l.length : Int) := by omega
 have q4 : (k : Int) ≤ (cap : Int) := by omega
 have q5 : (k : Int) + 1 ≤ (cap : Int) := by omega
 go_enter Tryz.func143, Tryz.ntmps143
 go_wp2_with fail
 have hdrop : ∀ j u, (ics (l.drop (k + 1)))[j]? = some u → w.drew.cell? ⟨g, (k + 1) + j, none⟩ = some u := fun j u hu => by
  show w.cell? _ = _
  rw [blk_cell hg, ← Array.getElem?_toList]
  have hjl : j < (l.length - (k + 1)) := by have := (List.getElem?_eq_some_iff.1 hu).1; rw [ics_length, List.length_drop] at this; exact this
  have e2 : cur.toList[(k + 1) + j]? = (cur.toList.take (l.length))[(k + 1) + j]? := by rw [List.getElem?_take, if_pos (by omega)]
  have e3 : ics l = ics (l.take (k + 1)) ++ ics (l.drop (k + 1)) := by rw [← ics_append, List.take_append_drop]
  have e4 : (ics (l.take (k + 1))).length = (k + 1) := by rw [ics_length, List.length_take, Nat.min_eq_left (by omega)]
  rw [e2, htake, e3, List.getElem?_append_right (by omega), e4, Nat.add_sub_cancel_left]
  exact hu
 have hdl : (ics (l.drop (k + 1))).length = (l.length - (k + 1)) := by rw [ics_length, List.length_drop]
 have hd1 : ∀ u ∈ ics (l.drop (k + 1)), u.oneCell' = true := ics_one _
 have hsp : ∀ j, j < (ics (l.drop (k + 1))).length → (w.drew.cell? (A6 g (0 + k + j))).isSome = true ∧ w.drew.frozen? (A6 g (0 + k + j)) = false := fun j hj => by
  refine ⟨?_, hgf _⟩
  show (w.cell? _).isSome = true
  rw [blk_cell hg, Array.getElem?_eq_getElem (by omega)]
  rfl
 have q6 : (0 : Int) ≤ (k : Int) + 1 := by omega
 by_cases hce : cap = k + 1
 ·have hl1 : l.length = k + 1 := by omega
  have q7 : (k : Int) ≤ (k : Int) + 1 := by omega
  have q9 : l.length - (k + 1) = 0 := by omega
  have q10 : cap - (k + 1) = 0 := by omega
  refine wp_region_held_drew (S := fun _ => True) (by kernel_rfl) (trivial) (fun hS => ?_)
  refine tk 0 rfl hS (v := .slice (some (A6 g 0)) l.length cap) (fun w' hw => by clear hS; go_simp) ?_
  try simp only [ly]
  refine tk 1 rfl hS (v := I6 (k : Int)) (fun w' hw => by clear hS; go_simp) ?_
  try simp only [ly]
  refine tk 2 rfl hS (v := .slice (some (A6 g 0)) k cap) (fun w' hw => by clear hS; go_simp) ?_
  try simp only [ly]
  refine tk 3 rfl hS (v := .slice (some (A6 g 0)) l.length cap) (fun w' hw => by clear hS; go_simp) ?_
  try simp only [ly]
  refine tk 4 rfl hS (v := I6 ((k : Int) + 1)) (fun w' hw => by clear hS; go_simp) ?_
  try simp only [ly]
  refine tk 5 rfl hS (v := .slice (some (A6 g 0)) 0 0) (fun w' hw => by clear hS; go_simp) ?_
  try simp only [ly]
  refine r1 6 rfl (fun K hK => ?_)
  refine step_append_room rfl (.tmp 22) (.tmp 25) 158 rfl 3 i0 1 Tryz.underlying158 hi hz1 g 0 k cap rfl (A6 g 0) 0 0 [] rfl (by simp) (fun j u hu => by simp at hu) (by simp) (by omega) (by simp) ?_
  refine hK.out _ _ trivial (fun hS => ?_)
  clear hK K
  try simp only [ly]
  refine r1 7 rfl (fun K hK => ?_)
  go_simp
  refine hK.out _ _ trivial (fun hS => ?_)
  clear hK K
  try simp only [ly]
  refine dn ?_ _
  simp only [World.setCells]
  have hg1 : w.drew.heap[g]? = some (.cells cur 3 (0, 0)) := hg
  have hK1 := Keeps.refl (fun b => (Value.slice (some (A6 g 0)) l.length cap).ownBlock = some b) w.drew
  have hK0 : Keeps (fun b => (Value.slice (some (A6 g 0)) l.length cap).ownBlock = some b) w w.drew := ⟨rfl, rfl, rfl, Nat.le_refl _, fun _ _ _ => rfl⟩
  generalize w.drew = w1 at *
  have e9 : l.length - 1 = k := by omega
  have ht1 : cur.toList.take (k) = ics (l.eraseIdx k) := by
   have hd0 : l.drop (k + 1) = [] := List.drop_of_length_le (by omega)
   rw [idrop_erase l k hk, hd0]
   have : cur.toList.take (k) = (cur.toList.take (l.length)).take (k) := by rw [List.take_take, Nat.min_eq_left (by omega)]
   rw [this, htake]
   have e3 : ics l = ics (l.take k) ++ ics (l.drop k) := by rw [← ics_append, List.take_append_drop]
   have e4 : (ics (l.take k)).length = k := by rw [ics_length, List.length_take, Nat.min_eq_left (by omega)]
   rw [e3, show ics ([] : List Int) = [] from rfl, List.append_nil]; exact take_len e4
  have hf1 := blk_free hg1
  have hcl : ∀ j, j < (Builtin.zeroCells (I6 0).cells 1).toList.length → (w1.cell? (A6 g (k + j))).isSome = true := fun j hj => by
   rw [blk_cell hg1, Array.getElem?_eq_getElem (by have hj' : j < 1 := (by rw [zeroI] at hj; exact hj); omega)]
   rfl
  have hfl : ∀ j, j < (Builtin.zeroCells (I6 0).cells 1).toList.length → w1.frozen? (A6 g (k + j)) = false := fun j _ => hf1 _
  have hzv : (zeroValue 3).run Tryz.prog w1 = .ok (I6 0) w1 := by simp [zeroValue, typeInfo, hi, hz0]
  have h1z : ∀ v ∈ (Builtin.zeroCells (I6 0).cells 1).toList, v.oneCell' = true := by
   intro v hv
   have hv' : v ∈ [I6 0] := (by rw [zeroI] at hv; exact hv)
   simp at hv'
   rw [hv']; rfl
  have hzl : (Builtin.zeroCells (I6 0).cells 1).toList.length = 1 := by rw [zeroI]; rfl
  generalize hZZ : (Builtin.zeroCells (I6 0).cells 1).toList = zz at *
  have HZ := show Hid (_ = zz) from hZZ
  clear hdrop hdl hd1 hsp hf1 hZZ
  have hcl' : Hid (∀ j, j < zz.length → (w1.cell? (A6 g (k + j))).isSome = true) := hcl
  have hfl' : Hid (∀ j, j < zz.length → w1.frozen? (A6 g (k + j)) = false) := hfl
  have hzv' : Hid ((zeroValue 3).run Tryz.prog w1 = .ok (I6 0) w1) := hzv
  have h1z' : Hid (∀ v ∈ zz, v.oneCell' = true) := h1z
  clear hcl hfl hzv h1z
  have r2 : ¬ (k + 1 = k) := by omega
  go_upto_region 7 with (refine wpList_clear_many rfl (.tmp 31) 158 rfl 3 _ Tryz.underlying158 hzv'.out g (k) 1 1 rfl (by decide) (by rw [HZ.out]; exact hcl'.out) (by rw [HZ.out]; exact hfl'.out) (by rw [HZ.out]; exact h1z'.out) ?_; simp only [Act.put])
  rw [HZ.out]
  go_wp2_with fail
  go_ret
  rw [e9]
  refine ⟨_, rfl, ⟨by rw [ics_length, List.length_eraseIdx_of_lt hk, e9, Nat.mul_one], .inr ⟨g, k + 1, _, rfl, hbg, setCells_self g 3 zz (k) w1 cur hg1 (by omega), by omega, by omega, ?_, ?_⟩⟩, rfl, ?_⟩
  ·rw [List.size_toArray]
   simp only [List.length_append, List.length_take, List.length_drop, Array.length_toList]
   omega
  ·rw [List.toList_toArray, ht1, List.append_assoc]
   have e6 : (ics (l.eraseIdx k)).length = k := by rw [ics_length, List.length_eraseIdx_of_lt hk, e9]
   rw [Nat.mul_one]
   exact take_len e6
  ·exact Keeps.trans hK0 (hK1.trans (Keeps.ofSets (P := fun b => (Value.slice (some (A6 g 0)) l.length cap).ownBlock = some b) g rfl zz (k) w1))
 ·have hce' : ¬ (cap = k + 1) := hce
  refine wp_region_held_drew (S := fun _ => True) (by kernel_rfl) (trivial) (fun hS => ?_)
  refine tk 0 rfl hS (v := .slice (some (A6 g 0)) l.length cap) (fun w' hw => by clear hS; go_simp) ?_
  try simp only [ly]
  refine tk 1 rfl hS (v := I6 (k : Int)) (fun w' hw => by clear hS; go_simp) ?_
  try simp only [ly]
  refine tk 2 rfl hS (v := .slice (some (A6 g 0)) k cap) (fun w' hw => by clear hS; go_simp) ?_
  try simp only [ly]
  refine tk 3 rfl hS (v := .slice (some (A6 g 0)) l.length cap) (fun w' hw => by clear hS; go_simp) ?_
  try simp only [ly]
  refine tk 4 rfl hS (v := I6 ((k : Int) + 1)) (fun w' hw => by clear hS; go_simp) ?_
  try simp only [ly]
  refine tk 5 rfl hS (v := .slice (some ⟨g, (k + 1), none⟩) (l.length - (k + 1)) (cap - (k + 1))) (fun w' hw => by clear hS; go_simp) ?_
  try simp only [ly]
  refine r1 6 rfl (fun K hK => ?_)
  refine step_append_room rfl (.tmp 22) (.tmp 25) 158 rfl 3 i0 1 Tryz.underlying158 hi hz1 g 0 k cap rfl ⟨g, (k + 1), none⟩ (l.length - (k + 1)) (cap - (k + 1)) (ics (l.drop (k + 1))) rfl (by rw [Nat.mul_one]; exact hdl) (fun j u hu => by rw [Addr.add_mid]; exact hdrop j u hu) hd1 (by omega) (by rw [Nat.mul_one]; exact hsp) ?_
  refine hK.out _ _ trivial (fun hS => ?_)
  clear hK K
  try simp only [ly]
  refine r1 7 rfl (fun K hK => ?_)
  go_simp
  refine hK.out _ _ trivial (fun hS => ?_)
  clear hK K
  try simp only [ly]
  refine dn ?_ _
  have hp : k + (l.length - (k + 1)) = l.length - 1 := by omega
  have hp1 : l.length - (l.length - 1) = 1 := by omega
  rw [hp]
  have e0 : 0 + k = k := by omega
  rw [e0] at hsp
  have hg1 := setCells_self g 3 (ics (l.drop (k + 1))) (k) w.drew cur hg (by omega)
  have hK1 := Keeps.ofSets (P := fun b => (Value.slice (some (A6 g 0)) l.length cap).ownBlock = some b) g rfl (ics (l.drop (k + 1))) (k) w.drew
  generalize w.drew.setCells g (k) (ics (l.drop (k + 1))) = w1 at *
  obtain ⟨cur1, hcur1⟩ : ∃ c1 : Array Value, c1 = (cur.toList.take (k) ++ ics (l.drop (k + 1)) ++ cur.toList.drop (k + (ics (l.drop (k + 1))).length)).toArray := ⟨_, rfl⟩
  rw [← hcur1] at hg1
  have hs1 : cur1.size = cap := by
   rw [hcur1, List.size_toArray]
   simp only [List.length_append, List.length_take, List.length_drop, Array.length_toList]
   omega
  have ht1 : cur1.toList.take ((l.length - 1)) = ics (l.eraseIdx k) := by
   rw [hcur1, List.toList_toArray, idrop_erase l k hk]
   have e1 : cur.toList.take (k) = ics (l.take k) := by
    have : cur.toList.take (k) = (cur.toList.take (l.length)).take (k) := by rw [List.take_take, Nat.min_eq_left (by omega)]
    rw [this, htake]
    have e3 : ics l = ics (l.take k) ++ ics (l.drop k) := by rw [← ics_append, List.take_append_drop]
    have e4 : (ics (l.take k)).length = k := by rw [ics_length, List.length_take, Nat.min_eq_left (by omega)]
    rw [e3]; exact take_len e4
   rw [e1]
   have e5 : (ics (l.take k) ++ ics (l.drop (k + 1))).length = (l.length - 1) := by
    rw [List.length_append, ics_length, hdl, List.length_take, Nat.min_eq_left (by omega)]; omega
   exact take_len e5
  have hf1 := blk_free hg1
  have hcl : ∀ j, j < (Builtin.zeroCells (I6 0).cells 1).toList.length → (w1.cell? ⟨g, (l.length - 1) + j, none⟩).isSome = true := fun j hj => by
   rw [blk_cell hg1, Array.getElem?_eq_getElem (by have hj' : j < 1 := (by rw [zeroI] at hj; exact hj); omega)]
   rfl
  have hfl : ∀ j, j < (Builtin.zeroCells (I6 0).cells 1).toList.length → w1.frozen? ⟨g, (l.length - 1) + j, none⟩ = false := fun j _ => hf1 _
  have hzv : (zeroValue 3).run Tryz.prog w1 = .ok (I6 0) w1 := by simp [zeroValue, typeInfo, hi, hz0]
  have h1z : ∀ v ∈ (Builtin.zeroCells (I6 0).cells 1).toList, v.oneCell' = true := by
   intro v hv
   have hv' : v ∈ [I6 0] := (by rw [zeroI] at hv; exact hv)
   simp at hv'
   rw [hv']; rfl
  have hzl : (Builtin.zeroCells (I6 0).cells 1).toList.length = 1 := by rw [zeroI]; rfl
  generalize hZZ : (Builtin.zeroCells (I6 0).cells 1).toList = zz at *
  have HZ := show Hid (_ = zz) from hZZ
  clear hdrop hdl hd1 hsp hf1 hZZ
  have hcl' : Hid (∀ j, j < zz.length → (w1.cell? ⟨g, (l.length - 1) + j, none⟩).isSome = true) := hcl
  have hfl' : Hid (∀ j, j < zz.length → w1.frozen? ⟨g, (l.length - 1) + j, none⟩ = false) := hfl
  have hzv' : Hid ((zeroValue 3).run Tryz.prog w1 = .ok (I6 0) w1) := hzv
  have h1z' : Hid (∀ v ∈ zz, v.oneCell' = true) := h1z
  clear hcl hfl hzv h1z
  have r1 : ((l.length - 1 : Nat) : Int) ≤ (l.length : Int) := by omega
  have r2 : ¬ (cap = l.length - 1) := by omega
  go_upto_region 7 with (refine wpList_clear_many rfl (.tmp 31) 158 rfl 3 _ Tryz.underlying158 hzv'.out g ((l.length - 1)) 1 (cap - (l.length - 1)) rfl (by decide) (by rw [HZ.out]; exact hcl'.out) (by rw [HZ.out]; exact hfl'.out) (by rw [HZ.out]; exact h1z'.out) ?_; simp only [Act.put])
  rw [HZ.out]
  go_wp2_with fail
  go_ret
  refine ⟨_, rfl, ⟨by rw [ics_length, List.length_eraseIdx_of_lt hk, Nat.mul_one], .inr ⟨g, cap, _, rfl, hbg, setCells_self g 3 zz ((l.length - 1)) w1 cur1 hg1 (by omega), by omega, hcm, ?_, ?_⟩⟩, rfl, ?_⟩
  ·rw [List.size_toArray]
   simp only [List.length_append, List.length_take, List.length_drop, Array.length_toList]
   omega
  ·rw [List.toList_toArray, ht1, List.append_assoc]
   have e6 : (ics (l.eraseIdx k)).length = (l.length - 1) := by rw [ics_length, List.length_eraseIdx_of_lt hk]
   rw [Nat.mul_one]
   exact take_len e6
  ·exact Keeps.trans (w1 := w.drew) ⟨rfl, rfl, rfl, Nat.le_refl _, fun _ _ _ => rfl⟩ (hK1.trans (Keeps.ofSets (P := fun b => (Value.slice (some (A6 g 0)) l.length cap).ownBlock = some b) g rfl zz ((l.length - 1)) w1))
end
section
open Go.RowKit
theorem wrap_of (r : Int) (h0 : -1000000 ≤ r) (h1 : r ≤ 1000000) : IntKind.i64.wrap r = r := by
 rw [IntKind.wrap_i64]; omega
theorem nums_ics (n : Nat) : nums n = ics ((List.range n).map fun (i : Nat) => (i : Int)) := by simp [nums, ics]
theorem Keeps.toBelow {P : Nat → Prop} {w w1 w2 : World} {B : Nat} (h : Below B w w1) (k : Keeps P w1 w2) (hP : ∀ b, P b → B ≤ b) (hB : B ≤ w1.heap.size) : Below B w w2 :=
 ⟨k.os.trans h.os, k.tape.trans h.tape, k.output.trans h.output, Nat.le_trans h.size k.size, fun b hb => (k.block b (by omega) (fun p => by have := hP b p; omega)).trans (h.block b hb)⟩
theorem eraseIdx_map {α β : Type} (f : α → β) : ∀ (l : List α) (k : Nat), (l.map f).eraseIdx k = (l.eraseIdx k).map f
 | [], _ => rfl
 | _ :: _, 0 => rfl
 | x :: l, k + 1 => by simp [eraseIdx_map f l k]
set_option maxHeartbeats 1000000 in
theorem others_any (rb n i : Nat) (w : World) (hc0 : w.cell? (A6 rb 0) = some (I6 (i : Int))) (hc1 : w.cell? (A6 rb 1) = some (I6 (n : Int))) (hi : i < n) (hn : n ≤ 1000) :
  Calls Tryz.prog 134 #[P6 rb] w fun e w' => ∃ v', e = .returned v' ∧ RowAt w' 1 v' ((List.range n).eraseIdx i).length (((List.range n).eraseIdx i).map fun (i : Nat) => I6 (i : Int)) ∧ (∀ g, v'.ownBlock = some g → ∃ cs, w'.heap[g]? = some (.cells cs 3 (0, 0))) ∧ Below w.heap.size w w' := by
 have hlt := World.block_lt_of_cell? w _ hc0
 have q0 : (0 : Int) ≤ (i : Int) := by omega
 have q1 : (i : Int) ≤ 1000 := by omega
 have hwr := wrap_of ((i : Int) + 1) (by omega) (by omega)
 have hA := fun W hc => all_any rb n W hc hn
 go_enter Tryz.func134, Tryz.ntmps134
 go_wp2_with fail
 refine wp_region_held_drew (S := fun w' => w'.cell? (A6 rb 0) = some (I6 (i : Int))) (by kernel_rfl) (hc0) (fun hS => ?_)
 refine tk 0 rfl hS (v := ?_) (fun w' hw => ?_) ?_
 rotate_left 1
 ·go_simp; all_goals with_reducible rfl
 try simp only [ly]
 refine tk 2 rfl hS (v := ?_) (fun w' hw => ?_) ?_
 rotate_left 1
 ·have c := hw; go_simp; all_goals with_reducible rfl
 try simp only [ly]
 refine tk 3 rfl hS (v := ?_) (fun w' hw => ?_) ?_
 rotate_left 1
 ·have c := hw; go_simp; all_goals with_reducible rfl
 try simp only [ly]
 refine tk 4 rfl hS (v := ?_) (fun w' hw => ?_) ?_
 rotate_left 1
 ·have c := hw; go_simp; all_goals with_reducible rfl
 try simp only [ly]
 refine tk 5 rfl hS (v := ?_) (fun w' hw => ?_) ?_
 rotate_left 1
 ·have c := hw; go_simp; all_goals with_reducible rfl
 try simp only [ly]
 refine tk 6 rfl hS (v := ?_) (fun w' hw => ?_) ?_
 rotate_left 1
 ·have c := hw; go_simp; all_goals with_reducible rfl
 try simp only [ly]
 refine tk 7 rfl hS (v := ?_) (fun w' hw => ?_) ?_
 rotate_left 1
 ·have c := hw; go_simp; all_goals with_reducible rfl
 try simp only [ly]
 refine tk 8 rfl hS (v := ?_) (fun w' hw => ?_) ?_
 rotate_left 1
 ·have c := hw; go_simp; all_goals with_reducible rfl
 try simp only [ly]
 refine tk 9 rfl hS (v := ?_) (fun w' hw => ?_) ?_
 rotate_left 1
 ·have c := hw; go_simp; all_goals with_reducible rfl
 try simp only [ly]
 refine tk 10 rfl hS (v := ?_) (fun w' hw => ?_) ?_
 rotate_left 1
 ·have c := hw; go_simp; all_goals with_reducible rfl
 try simp only [ly]
 refine r1 1 rfl (fun K hK => ?_)
 go_simp
 refine (hA w.drew hc1).mono ?_
 rintro e w4 ⟨v1, rfl, hown4, hB4⟩
 have hB4' : Below w.heap.size w w4 := Below.trans (Below.drew (Below.refl _ w)) hB4
 have hc4 : w4.cell? (A6 rb 0) = some (I6 (i : Int)) := (hB4'.cell (p := (A6 rb 0)) hlt).trans hc0
 clear hA
 rw [nums_ics] at hown4
 have hown5 : w4.ownsRow w.heap.size 3 1 v1 ((List.range n).map fun (i : Nat) => (i : Int)).length (ics ((List.range n).map fun (i : Nat) => (i : Int))) := by
  rw [List.length_map, List.length_range]; exact hown4
 have hD := idelete_any w.heap.size v1 ((List.range n).map fun (i : Nat) => (i : Int)) i w4 hown5 (by simpa using hi) (by simpa using hn)
 obtain ⟨va, vn, vc, rfl⟩ := owns_slice1 hown4
 go_wp2_with fail
 refine hK.out _ _ hc4 (fun hS => ?_)
 clear hK K
 try simp only [ly]
 refine r1 11 rfl (fun K hK => ?_)
 go_simp
 refine hD.mono ?_
 rintro e w5 ⟨v2, rfl, hown6, hv2, hk5⟩
 clear hD
 have hbase : ∀ g, (Value.slice va vn vc).ownBlock = some g → w.heap.size ≤ g := fun g hg => by
  rcases hown4.2 with ⟨e, _⟩ | ⟨g', cap, cur, e, hb, _⟩
  ·rw [e] at hg; cases hg
  ·rw [e] at hg
   obtain rfl : g' = g := by simpa [Value.ownBlock] using hg
   exact hb
 have hB5 := Keeps.toBelow hB4' hk5 hbase hB4'.size
 have hc5 : w5.cell? (A6 rb 0) = some (I6 (i : Int)) := (hB5.cell (p := (A6 rb 0)) hlt).trans hc0
 obtain ⟨v2a, v2n, v2c, rfl⟩ := owns_slice1 hown6
 go_wp2_with fail
 refine hK.out _ _ hc5 (fun hS => ?_)
 clear hK K
 try simp only [ly]
 refine r1 12 rfl (fun K hK => ?_)
 go_simp
 refine hK.out _ _ hc5 (fun hS => ?_)
 clear hK K
 try simp only [ly]
 refine dn ?_ _
 go_wp2_with fail
 go_ret
 refine ⟨_, rfl, ?_, fun g hg => owns_blk hown6 hg, hB5⟩
 have := owns_row hown6
 rw [eraseIdx_map] at this
 have e1 : ((List.range n).map fun (i : Nat) => (i : Int)).length - 1 = ((List.range n).eraseIdx i).length := by
  rw [List.length_eraseIdx_of_lt (by simpa using hi)]; simp
 rw [e1] at this
 simp only [ics, List.map_map] at this
 exact this
end
section
open Go.RowKit
theorem SynAt.newRole {w w1 : World} {sb : Nat} {L : Lay} {s : Sy} (h : SynAt w sb L s) {i : Nat} (hi : i < s.n) (hB : Below w.heap.size w w1) {rv : Value} {l : Rl} (hl : l.ok) (hrole : RoleIs w1 rv l) (hnew : ∀ k, roleBlk rv = some k → w.heap.size ≤ k) :
  SynRv (upd L.rv i rv) w sb L (w1.setCell (A6 (L.rb i) 181) rv) (s.put i ((s.rep i).role l)) := by
 have hok := h.ok.repOk hi
 have hb := h.rep i hi
 have hlt := lt_of_block hb
 have hk1 : Keeps (fun k => k = L.rb i) w1 (w1.setCell (A6 (L.rb i) 181) rv) := Keeps.ofSet (P := fun k => k = L.rb i) (a := (A6 (L.rb i) 181)) (.inl rfl) _
 have hk : Keeps (fun k => k = L.rb i ∨ roleBlk (L.rv i) = some k) w (w1.setCell (A6 (L.rb i) 181) rv) := (Keeps.ofBelow hB).trans (hk1.mono (fun k _ e => .inl e))
 refine h.setRepR hi (r := (s.rep i).role l) ⟨hok.pr0, hok.pr1, hok.sn0, hok.sn1, hok.acc, hok.slot, hok.dec, hl⟩ hk ?_ (hrole.keeps hk1 (fun k hk e => by have := hnew k hk; omega)) (fun k hk => .inr (hnew k hk))
 rw [blk_set (blk_below hB hb), repCells_set181 _ _ _ _ _ _ l hok]
theorem propose_n (s : Sy) (i k : Nat) (p : Pst) : (s.propose i k p).n = s.n := by
 unfold Sy.propose
 split
 ·exact sendTo_n _ _ _ _
 ·rfl
theorem propose_rep {s : Sy} (h : s.ok) {i : Nat} (hi : i < s.n) {b : Int} {next : Nat} {ps : List Pp} (hrl : (s.rep i).rl = .lead b next ps) (k : Nat) (p : Pst) : (s.propose i k p).rep i = (s.rep i).role (.lead b next (ps.set k ⟨p, (ps.getD k noPp).t⟩)) := by
 unfold Sy.propose
 rw [hrl]
 simp only
 rw [rep_sendTo, Sy.rep_put (by rw [h.len]; exact hi)]
theorem leadTo_n (s : Sy) (i : Nat) (kept : List Vt) : ∀ k, (s.leadTo i kept k).n = s.n
 | 0 => rfl
 | k + 1 => by
  unfold Sy.leadTo
  split
  ·exact leadTo_n s i kept k
  ·rw [propose_n]; exact leadTo_n s i kept k
theorem leadTo_len (s : Sy) (i : Nat) (kept : List Vt) : ∀ k, (s.leadTo i kept k).reps.length = s.reps.length
 | 0 => rfl
 | k + 1 => by
  unfold Sy.leadTo
  split
  ·exact leadTo_len s i kept k
  ·unfold Sy.propose
   split
   ·rw [sendTo_reps]; simp only [Sy.put, List.length_set]; exact leadTo_len s i kept k
   ·exact leadTo_len s i kept k
theorem leadTo_rep {s : Sy} {i : Nat} (hi : i < s.reps.length) {b : Int} {next : Nat} {ps : List Pp} (hrl : (s.rep i).rl = .lead b next ps) (kept : List Vt) : ∀ k, ∃ ps', (s.leadTo i kept k).rep i = (s.rep i).role (.lead b next ps')
 | 0 => ⟨ps, by unfold Sy.leadTo; rw [← hrl]; rfl⟩
 | k + 1 => by
  obtain ⟨ps1, h1⟩ := leadTo_rep hi hrl kept k
  unfold Sy.leadTo
  split
  ·exact ⟨ps1, h1⟩
  ·refine ⟨ps1.set k ⟨(kept.getD k noVt).p, (ps1.getD k noPp).t⟩, ?_⟩
   unfold Sy.propose
   rw [h1]
   simp only [Rp.role]
   rw [rep_sendTo, Sy.rep_put (by rw [leadTo_len]; exact hi)]
theorem kept_at {w : World} {pb : Nat} {hd : List Value} {kept : List Vt} {t : TypeId} (hb : w.heap[pb]? = some (.cells (hd ++ vcells kept).toArray t (0, 0))) (hh : hd.length = 10) (k : Nat) (hk : k < kept.length) (j : Nat) (hj : j < 6) : w.cell? (A6 pb (10 + k * 6 + j)) = (kept.getD k noVt).cells[j]? := by
 have e1 : 10 + k * 6 + j - 10 = k * 6 + j := by omega
 rw [blk_cell hb, List.getElem?_toArray, List.getElem?_append_right (by omega), hh, e1]
 have e2 := vcells_cut kept k hk
 rw [List.getD_eq_getElem?_getD, List.getElem?_eq_getElem hk, Option.getD_some, ← e2, List.getElem?_take, if_pos hj, List.getElem?_drop]
set_option maxHeartbeats 1000000 in
theorem lead_syn {w : World} {sb : Nat} {L : Lay} {s : Sy} (h : SynAt w sb L s) {i : Nat} (hi : i < s.n) {b : Int} {t : Tl} {kept : List Vt} (hrl : (s.rep i).rl = .prep b t kept) (b0 : 0 ≤ b) (b1 : b ≤ 8007) {pb : Nat} (hrv : L.rv i = .iface 152 (P6 pb)) :
  Calls Tryz.prog 132 #[.pointer (some (A6 (L.rb i) 0)), P6 pb] w fun e w' => e = .returned (.tuple #[]) ∧ SynTo w sb L w' (s.lead i b kept) := by
 have hAt := h
 have hro := (h.ok.repOk hi).rl
 have hrb := h.role i hi
 rw [hrl] at hro hrb
 obtain ⟨htok, hkl⟩ : t.ok ∧ kept.length = 16 := hro
 obtain ⟨pb', e, hpb⟩ := hrb
 rw [hrv] at e
 cases e
 have hplt := lt_of_block hpb
 have hhl : (prepHead b t).length = 10 := by simp [prepHead, Tl.cells, htok.1]
 have hb1 : w.cell? (A6 pb 1) = some (I6 b) := (blk_cell hpb 1).trans rfl
 have hN := nextBehind_any (L.rb i) pb (s.rep i).dm (fun k => (kept.getD k noVt).b) w.drew (fun k hk => h.drew.dms hi k hk) (fun k hk => (kept_at (w := w.drew) hpb hhl k (by omega) 1 (by omega)).trans rfl)
 have hfin : Hid (s.lead i b kept = (s.put i ((s.rep i).role (.lead b (s.nextOf i kept) (List.replicate 16 noPp)))).leadTo i kept (s.nextOf i kept)) := rfl
 have hnx : nextB (s.rep i).dm (fun k => (kept.getD k noVt).b) 16 = s.nextOf i kept := rfl
 rw [hnx] at hN
 have hnle : s.nextOf i kept ≤ 16 := by
  have : ∀ k, nextB (s.rep i).dm (fun k => (kept.getD k noVt).b) k ≤ k := by
   intro k
   induction k with
   | zero => exact Nat.le_refl _
   | succ k ih => unfold nextB; split; omega; omega
  exact this 16
 clear hnx
 generalize hnn : s.nextOf i kept = nx at *
 have Hnn : Hid (s.nextOf i kept = nx) := hnn
 clear hnn
 go_enter Tryz.func132, Tryz.ntmps132
 go_wp2_with fail
 refine wp_region_held_drew (S := fun w' => w'.cell? (A6 pb 1) = some (I6 b)) (by kernel_rfl) (hb1) (fun hS => ?_)
 refine tk 0 rfl hS (v := ?_) (fun w' hw => ?_) ?_
 rotate_left 1
 ·have c := hw; go_simp; all_goals with_reducible rfl
 try simp only [ly]
 refine tk 1 rfl hS (v := ?_) (fun w' hw => ?_) ?_
 rotate_left 1
 ·have c := hw; go_simp; all_goals with_reducible rfl
 try simp only [ly]
 refine tk 2 rfl hS (v := ?_) (fun w' hw => ?_) ?_
 rotate_left 1
 ·have c := hw; go_simp; all_goals with_reducible rfl
 try simp only [ly]
 refine tk 3 rfl hS (v := ?_) (fun w' hw => ?_) ?_
 rotate_left 1
 ·have c := hw; go_simp; all_goals with_reducible rfl
 try simp only [ly]
 refine tk 4 rfl hS (v := ?_) (fun w' hw => ?_) ?_
 rotate_left 1
 ·have c := hw; go_simp; all_goals with_reducible rfl
 try simp only [ly]
 refine tk 5 rfl hS (v := ?_) (fun w' hw => ?_) ?_
 rotate_left 1
 ·have c := hw; go_simp; all_goals with_reducible rfl
 try simp only [ly]
 refine tk 6 rfl hS (v := ?_) (fun w' hw => ?_) ?_
 rotate_left 1
 ·have c := hw; go_simp; all_goals with_reducible rfl
 try simp only [ly]
 refine tk 7 rfl hS (v := ?_) (fun w' hw => ?_) ?_
 rotate_left 1
 ·have c := hw; go_simp; all_goals with_reducible rfl
 try simp only [ly]
 refine r1 8 rfl (fun K hK => ?_)
 go_simp
 refine hN.mono ?_
 rintro e w2 ⟨rfl, hB2⟩
 have hB2' : Below w.heap.size w w2 := Below.trans (Below.drew (Below.refl _ w)) hB2
 have hb2 := (blk_cell (blk_below hB2' hpb) 1).trans (show _ = some (I6 b) from rfl)
 clear hN
 go_wp2_with fail
 refine hK.out _ _ hb2 (fun hS => ?_)
 clear hK K
 try simp only [ly]
 refine tk 9 rfl hS (v := .agg (leadHead b nx ++ ppcells (List.replicate 16 noPp)).toArray) (fun w' hw => by go_simp; rfl) ?_
 try simp only [ly]
 generalize hXX : (leadHead b nx ++ ppcells (List.replicate 16 noPp)).toArray = X at *
 have HXX : Hid (_ = X) := hXX
 clear hXX
 refine r1 10 rfl (fun K hK => ?_)
 go_simp
 refine hK.out _ _ (by show World.cell? (World.alloc w2 _) _ = _; rw [World.cell?_alloc_lt _ _ _ (Nat.lt_of_lt_of_le hplt hB2.size)]; exact hb2) (fun hS => ?_)
 clear hK K
 try simp only [ly]
 refine r1 11 rfl (fun K hK => ?_)
 go_simp
 refine hK.out _ _ (by show World.cell? (World.alloc w2 _) _ = _; rw [World.cell?_alloc_lt _ _ _ (Nat.lt_of_lt_of_le hplt hB2.size)]; exact hb2) (fun hS => ?_)
 clear hK K
 try simp only [ly]
 refine dn ?_ _
 have hB3 : Below w.heap.size w (w2.alloc (.cells X 166)) := Below.alloc hB2' hB2'.size _
 have hpb3 := blk_below hB3 hpb
 have hlb3 := blk_new w2 (.cells X 166)
 have hrb3 := blk_below hB3 (hAt.rep i hi)
 have hc3 := (blk_cell hrb3 181).trans (repCells_role _ _ _ _ _ (hAt.ok.repOk hi))
 have hf3 := blk_free hrb3 181
 have hrlt := lt_of_block (hAt.rep i hi)
 have hsz2 := hB2'.size
 have hto3 := hAt.newRole (w1 := w2.alloc (.cells X 166)) hi hB3 (rv := .iface 160 (P6 w2.heap.size)) (l := .lead b nx (List.replicate 16 noPp)) ⟨hnle, by simp, fun x hx => by rw [List.eq_of_mem_replicate hx]; exact ⟨rfl, rfl⟩⟩ ⟨_, rfl, by rw [HXX.out]; exact hlb3⟩ (fun k hk => by obtain rfl : w2.heap.size = k := (by simpa [roleBlk] using hk); exact hsz2)
 have hkp : Keeps (fun k => k = L.rb i) (w2.alloc (.cells X 166)) ((w2.alloc (.cells X 166)).setCell (A6 (L.rb i) 181) (.iface 160 (P6 w2.heap.size))) := Keeps.ofSet (P := fun k => k = L.rb i) (a := (A6 (L.rb i) 181)) (.inl rfl) _
 have hpb4 := blk_keeps hkp hpb3 (fun e => hAt.roleNe hi hi (by rw [hrv]; rw [e]; rfl))
 have hlb4 := blk_keeps hkp hlb3 (by omega)
 have hl4 : ((w2.alloc (.cells X 166)).setCell (A6 (L.rb i) 181) (.iface 160 (P6 w2.heap.size))).cell? (A6 w2.heap.size 2) = some (I6 (nx : Int)) := (blk_cell hlb4 2).trans (by rw [← HXX.out]; rfl)
 go_wp2_with fail
 generalize (w2.alloc (.cells X 166)).setCell (A6 (L.rb i) 181) (.iface 160 (P6 w2.heap.size)) = w4 at *
 generalize w2.heap.size = lb at *
 have hrep1 := Sy.rep_put (s := s) (i := i) (r := (s.rep i).role (.lead b nx (List.replicate 16 noPp))) (by rw [hAt.ok.len]; exact hi)
 have hlen1 : i < (s.put i ((s.rep i).role (.lead b nx (List.replicate 16 noPp)))).reps.length := by simp only [Sy.put, List.length_set]; rw [hAt.ok.len]; exact hi
 have hn1 : (s.put i ((s.rep i).role (.lead b nx (List.replicate 16 noPp)))).n = s.n := rfl
 generalize hs1 : s.put i ((s.rep i).role (.lead b nx (List.replicate 16 noPp))) = s1 at *
 have hrl1 : (s1.rep i).rl = .lead b nx (List.replicate 16 noPp) := by rw [hrep1]; rfl
 have hdm1 : (s1.rep i).dec = (s.rep i).dec := by rw [hrep1]; rfl
 clear hs1 hS hl4 hlb4 hkp hf3 hc3 hrb3 hlb3 hpb3 hB3 hb2
 have hre := leadTo_rep hlen1 hrl1 kept
 have Hre : Hid (∀ k, ∃ ps', (s1.leadTo i kept k).rep i = (s1.rep i).role (.lead b nx ps')) := hre
 clear hre hrep1
 go_loopw [5, 26] (fun q ii wr => ∃ j : Nat, j ≤ nx ∧ ii = I6 j ∧ SynRv (upd L.rv i (.iface 160 (P6 lb))) w sb L wr (s1.leadTo i kept j) ∧ wr.heap[pb]? = some (.cells (prepHead b t ++ vcells kept).toArray 156 (0, 0))) (fun _ ii _ => nx - (intOf ii).toNat)
 case atStart => exact ⟨0, Nat.zero_le _, rfl, hto3, hpb4⟩
 case round =>
  obtain ⟨j, hj, rfl, htoj, hpbj⟩ := hrel
  obtain ⟨Lj, hatj, ej, rj, oj, kj⟩ := id htoj
  by_cases hjn : j < nx
  ·obtain ⟨psj, hrepj⟩ := Hre.out j
   have hnj : (s1.leadTo i kept j).n = s.n := (leadTo_n _ _ _ _).trans hn1
   have hij : i < (s1.leadTo i kept j).n := by rw [hnj]; exact hi
   have hdj := hatj.dms hij j (by omega)
   have hdmj : ((s1.leadTo i kept j).rep i).dm j = (s1.rep i).dm j := by rw [hrepj]; rfl
   rw [hdmj, ej] at hdj
   have hstep : Hid (s1.leadTo i kept (j + 1) = if (s1.rep i).dm j then s1.leadTo i kept j else (s1.leadTo i kept j).propose i j (kept.getD j noVt).p) := rfl
   have q0 : (0 : Int) ≤ (j : Int) := by omega
   have q1 : (j : Int) < 16 := by omega
   have q2 : (j : Int) < (nx : Int) := by omega
   cases hd : (s1.rep i).dm j
   ·rw [hd] at hdj
    have hstep' : Hid (s1.leadTo i kept (j + 1) = (s1.leadTo i kept j).propose i j (kept.getD j noVt).p) := by
     have := hstep.out; rw [hd] at this; exact this
    have hP := propose_rv hatj hij (by rw [hrepj]; rfl) b0 b1 (pb := lb) (by rw [rj, upd_same]) j (by omega) (kept.getD j noVt).p
    rw [ej] at hP
    have k2 := (kept_at hpbj hhl j (by omega) 2 (by omega)).trans (show _ = some (I6 (kept.getD j noVt).p.c) from rfl)
    have k3 := (kept_at hpbj hhl j (by omega) 3 (by omega)).trans (show _ = some (I6 (kept.getD j noVt).p.q) from rfl)
    have k4 := (kept_at hpbj hhl j (by omega) 4 (by omega)).trans (show _ = some (I6 (kept.getD j noVt).p.h) from rfl)
    have k5 := (kept_at hpbj hhl j (by omega) 5 (by omega)).trans (show _ = some (.string (kept.getD j noVt).p.t) from rfl)
    have hnoj : ¬ Lj.own sb (s1.leadTo i kept j).n pb := fun ho => by
     rcases ho with rfl | rfl | ⟨i', hi', rfl | hr⟩ | hv
     ·have h9 := hatj.syn; rw [hpbj] at h9; injection h9 with e; injection e with _ e; simp at e
     ·obtain ⟨cs, hc, _⟩ := hatj.ptrs; rw [hpbj] at hc; injection hc with e; injection e with _ e; simp at e
     ·have h9 := hatj.rep i' hi'; rw [hpbj] at h9; injection h9 with e; injection e with _ e; simp at e
     ·by_cases e : i' = i
      ·subst e
       rw [rj, upd_same] at hr
       have e9 : lb = pb := by simpa [roleBlk] using hr
       have h9 := hatj.role i' hij
       rw [hrepj, rj, upd_same] at h9
       obtain ⟨pb', e8, h8⟩ := h9
       cases e8
       rw [e9, hpbj] at h8; injection h8 with e7; injection e7 with _ e7; simp at e7
      ·rw [rj, upd_ne e] at hr
       have := hAt.rinj i' i pb (by rw [← hnj]; exact hi') hi hr (by rw [hrv]; rfl)
       exact e this
     ·obtain ⟨l, _, ho, _⟩ := hatj.net
      obtain ⟨cs, hc⟩ := owns_blk ho hv
      rw [hpbj] at hc; injection hc with e; injection e with _ e; simp at e
    generalize (kept.getD j noVt).p = pj at *
    generalize s1.leadTo i kept j = sj at *
    clear hstep hd hdmj
    go_wp2_with fail
    refine hP.mono ?_
    rintro e w5 ⟨rfl, hto5⟩
    clear hP
    have hpb5 := hto5.blk hpbj (fun ho => hnoj (by rw [propose_n] at ho; exact ho))
    have hto6 := SynRv.next ej oj kj (propose_n _ _ _ _) hto5
    rw [rj] at hto6
    go_wp2_with fail
    go_roundw
    case rel => exact ⟨j + 1, by omega, by go_num, by rw [hstep'.out]; exact hto6, hpb5⟩
    case measure => simp [intOf]; omega
   ·rw [hd] at hdj
    have hstep' : Hid (s1.leadTo i kept (j + 1) = s1.leadTo i kept j) := by
     have := hstep.out; rw [hd] at this; exact this
    clear hstep hd hdmj
    go_wp2_with fail
    go_roundw
    case rel => exact ⟨j + 1, by omega, by go_num, by rw [hstep'.out]; exact htoj, hpbj⟩
    case measure => simp [intOf]; omega
  ·obtain rfl : j = nx := by omega
   go_wp2_with fail
   go_end0
   refine ⟨rfl, ?_⟩
   rw [hfin.out]
   exact htoj.to
end
end Go.Proofs.YtnnhnekfokbooaaGreatDoor
