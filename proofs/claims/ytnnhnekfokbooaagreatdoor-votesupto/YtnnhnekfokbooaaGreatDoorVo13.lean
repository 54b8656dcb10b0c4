/- The walks of slices.Delete of a number, and of a replica's others (laid by mksyng.py). The walk of a replica's others (laid by mksynh.py). (Joined by merge.py.) -/
import Derived.Test.YtnnhnekfokbooaaGreatDoorVo12
import Derived.Test.YtnnhnekfokbooaaGreatDoorVo01
namespace Go.Proofs.YtnnhnekfokbooaaGreatDoor
open List (getElem_toArray getElem_cons_zero getElem_cons_succ setIfInBounds_toArray set_cons_zero set_cons_succ)
open Go.RowKit
set_option linter.unusedSimpArgs false
set_option linter.unusedVariables false

def ics (l : List Int) : List Value := l.map (Value.int .i64)
theorem ics_length (l : List Int) : (ics l).length = l.length := by simp [ics]
theorem ics_append (a b : List Int) : ics (a ++ b) = ics a ++ ics b := by simp [ics]
theorem ics_one (l : List Int) : ∀ u ∈ ics l, u.oneCell' = true := by
 intro u hu
 simp [ics] at hu
 obtain ⟨a, _, rfl⟩ := hu
 rfl
theorem take_len {α : Type} {a b : List α} {n : Nat} (h : a.length = n) : (a ++ b).take n = a := by
 subst h; exact List.take_left
theorem zeroI : (Builtin.zeroCells (Value.int .i64 0).cells 1).toList = [Value.int .i64 0] := by
 first | kernel_rfl | simp [Builtin.zeroCells, Value.cells]
theorem idrop_erase (l : List Int) (k : Nat) (hk : k < l.length) : ics (l.eraseIdx k) = ics (l.take k) ++ ics (l.drop (k + 1)) := by
 rw [← ics_append, List.eraseIdx_eq_take_drop_succ]
set_option maxHeartbeats 4000000 in
set_option maxRecDepth 100000 in
theorem idelete_any (H : Nat) (v : Value) (l : List Int) (k : Nat) (w : World) (hown : w.ownsRow H 3 1 v l.length (ics l)) (hk : k < l.length) (hl : l.length ≤ 1000) :
  Calls Tryz.prog 143 #[v, .int .i64 (k : Int), .int .i64 ((k : Int) + 1)] w fun e w' => ∃ v', e = .returned v' ∧ w'.ownsRow H 3 1 v' (l.length - 1) (ics (l.eraseIdx k)) ∧ v'.ownBlock = v.ownBlock ∧
   Keeps (fun b => v.ownBlock = some b) w w' := by
 obtain ⟨i0, hi, hz0, hz1, hz2⟩ := info_parts Tryz.infoInt
 rcases hown.2 with ⟨_, h0⟩ | ⟨g, cap, cur, rfl, hbg, hg, hnc, hcm, hcs, htake⟩
 ·omega
 rw [Nat.mul_one] at hcs htake
 have hgf := blk_free hg
 have q0 : (0 : Int) ≤ (k : Int) := by omega
 have q1 : (k : Int) + 1 ≤ (l.length : Int) := by omega
 have q2 : (l.length : Int) ≤ (cap : Int) := by omega
 have q3 : (k : Int) ≤ (l.length : Int) := by omega
 have q4 : (k : Int) ≤ (cap : Int) := by omega
 have q5 : (k : Int) + 1 ≤ (cap : Int) := by omega
 go_enter Tryz.func143, Tryz.ntmps143
 go_wp2_with fail
 have hdrop : ∀ j u, (ics (l.drop (k + 1)))[j]? = some u → w.drew.cell? ⟨g, (k + 1) + j, none⟩ = some u := fun j u hu => by
  show w.cell? _ = _
  rw [blk_cell hg, ← Array.getElem?_toList]
  have hjl : j < (l.length - (k + 1)) := by have := (List.getElem?_eq_some_iff.1 hu).1; rw [ics_length, List.length_drop] at this; exact this
  have e2 : cur.toList[(k + 1) + j]? = (cur.toList.take (l.length))[(k + 1) + j]? := by rw [List.getElem?_take, if_pos (by omega)]
  have e3 : ics l = ics (l.take (k + 1)) ++ ics (l.drop (k + 1)) := by rw [← ics_append, List.take_append_drop]
  have e4 : (ics (l.take (k + 1))).length = (k + 1) := by rw [ics_length, List.length_take, Nat.min_eq_left (by omega)]
  rw [e2, htake, e3, List.getElem?_append_right (by omega), e4, Nat.add_sub_cancel_left]
  exact hu
 have hdl : (ics (l.drop (k + 1))).length = (l.length - (k + 1)) := by rw [ics_length, List.length_drop]
 have hd1 : ∀ u ∈ ics (l.drop (k + 1)), u.oneCell' = true := ics_one _
 have hsp : ∀ j, j < (ics (l.drop (k + 1))).length → (w.drew.cell? ⟨g, 0 + k + j, none⟩).isSome = true ∧ w.drew.frozen? ⟨g, 0 + k + j, none⟩ = false := fun j hj => by
  refine ⟨?_, hgf _⟩
  show (w.cell? _).isSome = true
  rw [blk_cell hg, Array.getElem?_eq_getElem (by omega)]
  rfl
 have q6 : (0 : Int) ≤ (k : Int) + 1 := by omega
 by_cases hce : cap = k + 1
 ·have hl1 : l.length = k + 1 := by omega
  have q7 : (k : Int) ≤ (k : Int) + 1 := by omega
  have q9 : l.length - (k + 1) = 0 := by omega
  have q10 : cap - (k + 1) = 0 := by omega
  refine wp_region_held_drew (S := fun _ => True) (by kernel_rfl) (trivial) (fun hS => ?_)
  refine wpAnyH_take (i := 0) (v := .slice (some ⟨g, 0, none⟩) l.length cap) rfl (by kernel_rfl) (by kernel_rfl) (by kernel_rfl) (fun _ _ _ h => h) (Or.inl ⟨by kernel_rfl, fun w' hw => by clear hS; go_simp⟩) hS ?_
  try simp only [Act.put, getElem_toArray, getElem_cons_zero, getElem_cons_succ, setIfInBounds_toArray, set_cons_zero, set_cons_succ]
  refine wpAnyH_take (i := 1) (v := .int .i64 (k : Int)) rfl (by kernel_rfl) (by kernel_rfl) (by kernel_rfl) (fun _ _ _ h => h) (Or.inl ⟨by kernel_rfl, fun w' hw => by clear hS; go_simp⟩) hS ?_
  try simp only [Act.put, getElem_toArray, getElem_cons_zero, getElem_cons_succ, setIfInBounds_toArray, set_cons_zero, set_cons_succ]
  refine wpAnyH_take (i := 2) (v := .slice (some ⟨g, 0, none⟩) k cap) rfl (by kernel_rfl) (by kernel_rfl) (by kernel_rfl) (fun _ _ _ h => h) (Or.inl ⟨by kernel_rfl, fun w' hw => by clear hS; go_simp⟩) hS ?_
  try simp only [Act.put, getElem_toArray, getElem_cons_zero, getElem_cons_succ, setIfInBounds_toArray, set_cons_zero, set_cons_succ]
  refine wpAnyH_take (i := 3) (v := .slice (some ⟨g, 0, none⟩) l.length cap) rfl (by kernel_rfl) (by kernel_rfl) (by kernel_rfl) (fun _ _ _ h => h) (Or.inl ⟨by kernel_rfl, fun w' hw => by clear hS; go_simp⟩) hS ?_
  try simp only [Act.put, getElem_toArray, getElem_cons_zero, getElem_cons_succ, setIfInBounds_toArray, set_cons_zero, set_cons_succ]
  refine wpAnyH_take (i := 4) (v := .int .i64 ((k : Int) + 1)) rfl (by kernel_rfl) (by kernel_rfl) (by kernel_rfl) (fun _ _ _ h => h) (Or.inl ⟨by kernel_rfl, fun w' hw => by clear hS; go_simp⟩) hS ?_
  try simp only [Act.put, getElem_toArray, getElem_cons_zero, getElem_cons_succ, setIfInBounds_toArray, set_cons_zero, set_cons_succ]
  refine wpAnyH_take (i := 5) (v := .slice (some ⟨g, 0, none⟩) 0 0) rfl (by kernel_rfl) (by kernel_rfl) (by kernel_rfl) (fun _ _ _ h => h) (Or.inl ⟨by kernel_rfl, fun w' hw => by clear hS; go_simp⟩) hS ?_
  try simp only [Act.put, getElem_toArray, getElem_cons_zero, getElem_cons_succ, setIfInBounds_toArray, set_cons_zero, set_cons_succ]
  refine wpAnyH_ready (rs := [6]) (by kernel_rfl) (by simp) ?_
  refine AllReadyH.cons rfl (fun K hK => ?_) AllReadyH.nil
  refine step_append_room rfl (.tmp 22) (.tmp 25) 158 rfl 3 i0 1 Tryz.underlying158 hi hz1 g 0 k cap rfl ⟨g, 0, none⟩ 0 0 [] rfl (by simp) (fun j u hu => by simp at hu) (by simp) (by omega) (by simp) ?_
  refine hK.out _ _ trivial (fun hS => ?_)
  clear hK K
  try simp only [Act.put, getElem_toArray, getElem_cons_zero, getElem_cons_succ, setIfInBounds_toArray, set_cons_zero, set_cons_succ]
  refine wpAnyH_ready (rs := [7]) (by kernel_rfl) (by simp) ?_
  refine AllReadyH.cons rfl (fun K hK => ?_) AllReadyH.nil
  go_simp
  refine hK.out _ _ trivial (fun hS => ?_)
  clear hK K
  try simp only [Act.put, getElem_toArray, getElem_cons_zero, getElem_cons_succ, setIfInBounds_toArray, set_cons_zero, set_cons_succ]
  refine wpAnyH_done (by kernel_rfl) ?_ _
  simp only [World.setCells]
  have hg1 : w.drew.heap[g]? = some (.cells cur 3 (0, 0)) := hg
  have hK1 := Keeps.refl (fun b => (Value.slice (some ⟨g, 0, none⟩) l.length cap).ownBlock = some b) w.drew
  have hK0 : Keeps (fun b => (Value.slice (some ⟨g, 0, none⟩) l.length cap).ownBlock = some b) w w.drew := ⟨rfl, rfl, rfl, Nat.le_refl _, fun _ _ _ => rfl⟩
  generalize w.drew = w1 at *
  have e9 : l.length - 1 = k := by omega
  have ht1 : cur.toList.take (k) = ics (l.eraseIdx k) := by
   have hd0 : l.drop (k + 1) = [] := List.drop_of_length_le (by omega)
   rw [idrop_erase l k hk, hd0]
   have : cur.toList.take (k) = (cur.toList.take (l.length)).take (k) := by rw [List.take_take, Nat.min_eq_left (by omega)]
   rw [this, htake]
   have e3 : ics l = ics (l.take k) ++ ics (l.drop k) := by rw [← ics_append, List.take_append_drop]
   have e4 : (ics (l.take k)).length = k := by rw [ics_length, List.length_take, Nat.min_eq_left (by omega)]
   rw [e3, show ics ([] : List Int) = [] from rfl, List.append_nil]; exact take_len e4
  have hf1 := blk_free hg1
  have hcl : ∀ j, j < (Builtin.zeroCells (Value.int .i64 0).cells 1).toList.length → (w1.cell? ⟨g, k + j, none⟩).isSome = true := fun j hj => by
   rw [blk_cell hg1, Array.getElem?_eq_getElem (by have hj' : j < 1 := (by rw [zeroI] at hj; exact hj); omega)]
   rfl
  have hfl : ∀ j, j < (Builtin.zeroCells (Value.int .i64 0).cells 1).toList.length → w1.frozen? ⟨g, k + j, none⟩ = false := fun j _ => hf1 _
  have hzv : (zeroValue 3).run Tryz.prog w1 = .ok (.int .i64 0) w1 := by simp [zeroValue, typeInfo, hi, hz0]
  have h1z : ∀ v ∈ (Builtin.zeroCells (Value.int .i64 0).cells 1).toList, v.oneCell' = true := by
   intro v hv
   have hv' : v ∈ [Value.int .i64 0] := (by rw [zeroI] at hv; exact hv)
   simp at hv'
   rw [hv']; rfl
  have hzl : (Builtin.zeroCells (Value.int .i64 0).cells 1).toList.length = 1 := by rw [zeroI]; rfl
  generalize hZZ : (Builtin.zeroCells (Value.int .i64 0).cells 1).toList = zz at *
  have HZ := show Hid (_ = zz) from hZZ
  clear hdrop hdl hd1 hsp hf1 hZZ
  have hcl' : Hid (∀ j, j < zz.length → (w1.cell? ⟨g, k + j, none⟩).isSome = true) := hcl
  have hfl' : Hid (∀ j, j < zz.length → w1.frozen? ⟨g, k + j, none⟩ = false) := hfl
  have hzv' : Hid ((zeroValue 3).run Tryz.prog w1 = .ok (.int .i64 0) w1) := hzv
  have h1z' : Hid (∀ v ∈ zz, v.oneCell' = true) := h1z
  clear hcl hfl hzv h1z
  have r2 : ¬ (k + 1 = k) := by omega
  go_upto_region 7 with (refine wpList_clear_many rfl (.tmp 31) 158 rfl 3 _ Tryz.underlying158 hzv'.out g (k) 1 1 rfl (by decide) (by rw [HZ.out]; exact hcl'.out) (by rw [HZ.out]; exact hfl'.out) (by rw [HZ.out]; exact h1z'.out) ?_; simp only [Act.put])
  rw [HZ.out]
  go_wp2_with fail
  go_ret
  rw [e9]
  refine ⟨_, rfl, ⟨by rw [ics_length, List.length_eraseIdx_of_lt hk, e9, Nat.mul_one], .inr ⟨g, k + 1, _, rfl, hbg, setCells_self g 3 zz (k) w1 cur hg1 (by omega), by omega, by omega, ?_, ?_⟩⟩, rfl, ?_⟩
  ·rw [List.size_toArray]
   simp only [List.length_append, List.length_take, List.length_drop, Array.length_toList]
   omega
  ·rw [List.toList_toArray, ht1, List.append_assoc]
   have e6 : (ics (l.eraseIdx k)).length = k := by rw [ics_length, List.length_eraseIdx_of_lt hk, e9]
   rw [Nat.mul_one]
   exact take_len e6
  ·exact Keeps.trans hK0 (hK1.trans (Keeps.ofSets (P := fun b => (Value.slice (some ⟨g, 0, none⟩) l.length cap).ownBlock = some b) g rfl zz (k) w1))
 ·have hce' : ¬ (cap = k + 1) := hce
  refine wp_region_held_drew (S := fun _ => True) (by kernel_rfl) (trivial) (fun hS => ?_)
  refine wpAnyH_take (i := 0) (v := .slice (some ⟨g, 0, none⟩) l.length cap) rfl (by kernel_rfl) (by kernel_rfl) (by kernel_rfl) (fun _ _ _ h => h) (Or.inl ⟨by kernel_rfl, fun w' hw => by clear hS; go_simp⟩) hS ?_
  try simp only [Act.put, getElem_toArray, getElem_cons_zero, getElem_cons_succ, setIfInBounds_toArray, set_cons_zero, set_cons_succ]
  refine wpAnyH_take (i := 1) (v := .int .i64 (k : Int)) rfl (by kernel_rfl) (by kernel_rfl) (by kernel_rfl) (fun _ _ _ h => h) (Or.inl ⟨by kernel_rfl, fun w' hw => by clear hS; go_simp⟩) hS ?_
  try simp only [Act.put, getElem_toArray, getElem_cons_zero, getElem_cons_succ, setIfInBounds_toArray, set_cons_zero, set_cons_succ]
  refine wpAnyH_take (i := 2) (v := .slice (some ⟨g, 0, none⟩) k cap) rfl (by kernel_rfl) (by kernel_rfl) (by kernel_rfl) (fun _ _ _ h => h) (Or.inl ⟨by kernel_rfl, fun w' hw => by clear hS; go_simp⟩) hS ?_
  try simp only [Act.put, getElem_toArray, getElem_cons_zero, getElem_cons_succ, setIfInBounds_toArray, set_cons_zero, set_cons_succ]
  refine wpAnyH_take (i := 3) (v := .slice (some ⟨g, 0, none⟩) l.length cap) rfl (by kernel_rfl) (by kernel_rfl) (by kernel_rfl) (fun _ _ _ h => h) (Or.inl ⟨by kernel_rfl, fun w' hw => by clear hS; go_simp⟩) hS ?_
  try simp only [Act.put, getElem_toArray, getElem_cons_zero, getElem_cons_succ, setIfInBounds_toArray, set_cons_zero, set_cons_succ]
  refine wpAnyH_take (i := 4) (v := .int .i64 ((k : Int) + 1)) rfl (by kernel_rfl) (by kernel_rfl) (by kernel_rfl) (fun _ _ _ h => h) (Or.inl ⟨by kernel_rfl, fun w' hw => by clear hS; go_simp⟩) hS ?_
  try simp only [Act.put, getElem_toArray, getElem_cons_zero, getElem_cons_succ, setIfInBounds_toArray, set_cons_zero, set_cons_succ]
  refine wpAnyH_take (i := 5) (v := .slice (some ⟨g, (k + 1), none⟩) (l.length - (k + 1)) (cap - (k + 1))) rfl (by kernel_rfl) (by kernel_rfl) (by kernel_rfl) (fun _ _ _ h => h) (Or.inl ⟨by kernel_rfl, fun w' hw => by clear hS; go_simp⟩) hS ?_
  try simp only [Act.put, getElem_toArray, getElem_cons_zero, getElem_cons_succ, setIfInBounds_toArray, set_cons_zero, set_cons_succ]
  refine wpAnyH_ready (rs := [6]) (by kernel_rfl) (by simp) ?_
  refine AllReadyH.cons rfl (fun K hK => ?_) AllReadyH.nil
  refine step_append_room rfl (.tmp 22) (.tmp 25) 158 rfl 3 i0 1 Tryz.underlying158 hi hz1 g 0 k cap rfl ⟨g, (k + 1), none⟩ (l.length - (k + 1)) (cap - (k + 1)) (ics (l.drop (k + 1))) rfl (by rw [Nat.mul_one]; exact hdl) (fun j u hu => by rw [Addr.add_mid]; exact hdrop j u hu) hd1 (by omega) (by rw [Nat.mul_one]; exact hsp) ?_
  refine hK.out _ _ trivial (fun hS => ?_)
  clear hK K
  try simp only [Act.put, getElem_toArray, getElem_cons_zero, getElem_cons_succ, setIfInBounds_toArray, set_cons_zero, set_cons_succ]
  refine wpAnyH_ready (rs := [7]) (by kernel_rfl) (by simp) ?_
  refine AllReadyH.cons rfl (fun K hK => ?_) AllReadyH.nil
  go_simp
  refine hK.out _ _ trivial (fun hS => ?_)
  clear hK K
  try simp only [Act.put, getElem_toArray, getElem_cons_zero, getElem_cons_succ, setIfInBounds_toArray, set_cons_zero, set_cons_succ]
  refine wpAnyH_done (by kernel_rfl) ?_ _
  have hp : k + (l.length - (k + 1)) = l.length - 1 := by omega
  have hp1 : l.length - (l.length - 1) = 1 := by omega
  rw [hp]
  have e0 : 0 + k = k := by omega
  rw [e0] at hsp
  have hg1 := setCells_self g 3 (ics (l.drop (k + 1))) (k) w.drew cur hg (by omega)
  have hK1 := Keeps.ofSets (P := fun b => (Value.slice (some ⟨g, 0, none⟩) l.length cap).ownBlock = some b) g rfl (ics (l.drop (k + 1))) (k) w.drew
  generalize w.drew.setCells g (k) (ics (l.drop (k + 1))) = w1 at *
  obtain ⟨cur1, hcur1⟩ : ∃ c1 : Array Value, c1 = (cur.toList.take (k) ++ ics (l.drop (k + 1)) ++ cur.toList.drop (k + (ics (l.drop (k + 1))).length)).toArray := ⟨_, rfl⟩
  rw [← hcur1] at hg1
  have hs1 : cur1.size = cap := by
   rw [hcur1, List.size_toArray]
   simp only [List.length_append, List.length_take, List.length_drop, Array.length_toList]
   omega
  have ht1 : cur1.toList.take ((l.length - 1)) = ics (l.eraseIdx k) := by
   rw [hcur1, List.toList_toArray, idrop_erase l k hk]
   have e1 : cur.toList.take (k) = ics (l.take k) := by
    have : cur.toList.take (k) = (cur.toList.take (l.length)).take (k) := by rw [List.take_take, Nat.min_eq_left (by omega)]
    rw [this, htake]
    have e3 : ics l = ics (l.take k) ++ ics (l.drop k) := by rw [← ics_append, List.take_append_drop]
    have e4 : (ics (l.take k)).length = k := by rw [ics_length, List.length_take, Nat.min_eq_left (by omega)]
    rw [e3]; exact take_len e4
   rw [e1]
   have e5 : (ics (l.take k) ++ ics (l.drop (k + 1))).length = (l.length - 1) := by
    rw [List.length_append, ics_length, hdl, List.length_take, Nat.min_eq_left (by omega)]; omega
   exact take_len e5
  have hf1 := blk_free hg1
  have hcl : ∀ j, j < (Builtin.zeroCells (Value.int .i64 0).cells 1).toList.length → (w1.cell? ⟨g, (l.length - 1) + j, none⟩).isSome = true := fun j hj => by
   rw [blk_cell hg1, Array.getElem?_eq_getElem (by have hj' : j < 1 := (by rw [zeroI] at hj; exact hj); omega)]
   rfl
  have hfl : ∀ j, j < (Builtin.zeroCells (Value.int .i64 0).cells 1).toList.length → w1.frozen? ⟨g, (l.length - 1) + j, none⟩ = false := fun j _ => hf1 _
  have hzv : (zeroValue 3).run Tryz.prog w1 = .ok (.int .i64 0) w1 := by simp [zeroValue, typeInfo, hi, hz0]
  have h1z : ∀ v ∈ (Builtin.zeroCells (Value.int .i64 0).cells 1).toList, v.oneCell' = true := by
   intro v hv
   have hv' : v ∈ [Value.int .i64 0] := (by rw [zeroI] at hv; exact hv)
   simp at hv'
   rw [hv']; rfl
  have hzl : (Builtin.zeroCells (Value.int .i64 0).cells 1).toList.length = 1 := by rw [zeroI]; rfl
  generalize hZZ : (Builtin.zeroCells (Value.int .i64 0).cells 1).toList = zz at *
  have HZ := show Hid (_ = zz) from hZZ
  clear hdrop hdl hd1 hsp hf1 hZZ
  have hcl' : Hid (∀ j, j < zz.length → (w1.cell? ⟨g, (l.length - 1) + j, none⟩).isSome = true) := hcl
  have hfl' : Hid (∀ j, j < zz.length → w1.frozen? ⟨g, (l.length - 1) + j, none⟩ = false) := hfl
  have hzv' : Hid ((zeroValue 3).run Tryz.prog w1 = .ok (.int .i64 0) w1) := hzv
  have h1z' : Hid (∀ v ∈ zz, v.oneCell' = true) := h1z
  clear hcl hfl hzv h1z
  have r1 : ((l.length - 1 : Nat) : Int) ≤ (l.length : Int) := by omega
  have r2 : ¬ (cap = l.length - 1) := by omega
  go_upto_region 7 with (refine wpList_clear_many rfl (.tmp 31) 158 rfl 3 _ Tryz.underlying158 hzv'.out g ((l.length - 1)) 1 (cap - (l.length - 1)) rfl (by decide) (by rw [HZ.out]; exact hcl'.out) (by rw [HZ.out]; exact hfl'.out) (by rw [HZ.out]; exact h1z'.out) ?_; simp only [Act.put])
  rw [HZ.out]
  go_wp2_with fail
  go_ret
  refine ⟨_, rfl, ⟨by rw [ics_length, List.length_eraseIdx_of_lt hk, Nat.mul_one], .inr ⟨g, cap, _, rfl, hbg, setCells_self g 3 zz ((l.length - 1)) w1 cur1 hg1 (by omega), by omega, hcm, ?_, ?_⟩⟩, rfl, ?_⟩
  ·rw [List.size_toArray]
   simp only [List.length_append, List.length_take, List.length_drop, Array.length_toList]
   omega
  ·rw [List.toList_toArray, ht1, List.append_assoc]
   have e6 : (ics (l.eraseIdx k)).length = (l.length - 1) := by rw [ics_length, List.length_eraseIdx_of_lt hk]
   rw [Nat.mul_one]
   exact take_len e6
  ·exact Keeps.trans (w1 := w.drew) ⟨rfl, rfl, rfl, Nat.le_refl _, fun _ _ _ => rfl⟩ (hK1.trans (Keeps.ofSets (P := fun b => (Value.slice (some ⟨g, 0, none⟩) l.length cap).ownBlock = some b) g rfl zz ((l.length - 1)) w1))
end Go.Proofs.YtnnhnekfokbooaaGreatDoor

namespace Go.Proofs.YtnnhnekfokbooaaGreatDoor
open List (getElem_toArray getElem_cons_zero getElem_cons_succ setIfInBounds_toArray set_cons_zero set_cons_succ)
open Go.RowKit
set_option linter.unusedSimpArgs false
set_option linter.unusedVariables false

theorem wrap_of (r : Int) (h0 : -1000000 ≤ r) (h1 : r ≤ 1000000) : IntKind.i64.wrap r = r := by
 rw [IntKind.wrap_i64]; omega
theorem nums_ics (n : Nat) : nums n = ics ((List.range n).map fun (i : Nat) => (i : Int)) := by simp [nums, ics]
theorem Keeps.toBelow {P : Nat → Prop} {w w1 w2 : World} {B : Nat} (h : Below B w w1) (k : Keeps P w1 w2) (hP : ∀ b, P b → B ≤ b) (hB : B ≤ w1.heap.size) : Below B w w2 :=
 ⟨k.os.trans h.os, k.tape.trans h.tape, k.output.trans h.output, Nat.le_trans h.size k.size, fun b hb => (k.block b (by omega) (fun p => by have := hP b p; omega)).trans (h.block b hb)⟩
theorem eraseIdx_map {α β : Type} (f : α → β) : ∀ (l : List α) (k : Nat), (l.map f).eraseIdx k = (l.eraseIdx k).map f
 | [], _ => rfl
 | _ :: _, 0 => rfl
 | x :: l, k + 1 => by simp [eraseIdx_map f l k]

set_option maxHeartbeats 1000000 in
set_option maxRecDepth 100000 in
theorem others_any (rb n i : Nat) (w : World) (hc0 : w.cell? ⟨rb, 0, none⟩ = some (.int .i64 (i : Int))) (hc1 : w.cell? ⟨rb, 1, none⟩ = some (.int .i64 (n : Int))) (hi : i < n) (hn : n ≤ 1000) :
  Calls Tryz.prog 134 #[.pointer (some ⟨rb, 0, none⟩)] w fun e w' => ∃ v', e = .returned v' ∧ RowAt w' 1 v' ((List.range n).eraseIdx i).length (((List.range n).eraseIdx i).map fun (i : Nat) => Value.int .i64 (i : Int)) ∧ (∀ g, v'.ownBlock = some g → ∃ cs, w'.heap[g]? = some (.cells cs 3 (0, 0))) ∧ Below w.heap.size w w' := by
 have hlt := World.block_lt_of_cell? w _ hc0
 have q0 : (0 : Int) ≤ (i : Int) := by omega
 have q1 : (i : Int) ≤ 1000 := by omega
 have hwr := wrap_of ((i : Int) + 1) (by omega) (by omega)
 have hA := fun W hc => all_any rb n W hc hn
 go_enter Tryz.func134, Tryz.ntmps134
 go_wp2_with fail
 refine wp_region_held_drew (S := fun w' => w'.cell? ⟨rb, 0, none⟩ = some (.int .i64 (i : Int))) (by kernel_rfl) (hc0) (fun hS => ?_)
 refine tk 0 rfl hS (v := ?_) (fun w' hw => ?_) ?_
 rotate_left 1
 ·go_simp; all_goals with_reducible rfl
 try simp only [Act.put, getElem_toArray, getElem_cons_zero, getElem_cons_succ, setIfInBounds_toArray, set_cons_zero, set_cons_succ]
 refine tk 2 rfl hS (v := ?_) (fun w' hw => ?_) ?_
 rotate_left 1
 ·have c := hw; go_simp; all_goals with_reducible rfl
 try simp only [Act.put, getElem_toArray, getElem_cons_zero, getElem_cons_succ, setIfInBounds_toArray, set_cons_zero, set_cons_succ]
 refine tk 3 rfl hS (v := ?_) (fun w' hw => ?_) ?_
 rotate_left 1
 ·have c := hw; go_simp; all_goals with_reducible rfl
 try simp only [Act.put, getElem_toArray, getElem_cons_zero, getElem_cons_succ, setIfInBounds_toArray, set_cons_zero, set_cons_succ]
 refine tk 4 rfl hS (v := ?_) (fun w' hw => ?_) ?_
 rotate_left 1
 ·have c := hw; go_simp; all_goals with_reducible rfl
 try simp only [Act.put, getElem_toArray, getElem_cons_zero, getElem_cons_succ, setIfInBounds_toArray, set_cons_zero, set_cons_succ]
 refine tk 5 rfl hS (v := ?_) (fun w' hw => ?_) ?_
 rotate_left 1
 ·have c := hw; go_simp; all_goals with_reducible rfl
 try simp only [Act.put, getElem_toArray, getElem_cons_zero, getElem_cons_succ, setIfInBounds_toArray, set_cons_zero, set_cons_succ]
 refine tk 6 rfl hS (v := ?_) (fun w' hw => ?_) ?_
 rotate_left 1
 ·have c := hw; go_simp; all_goals with_reducible rfl
 try simp only [Act.put, getElem_toArray, getElem_cons_zero, getElem_cons_succ, setIfInBounds_toArray, set_cons_zero, set_cons_succ]
 refine tk 7 rfl hS (v := ?_) (fun w' hw => ?_) ?_
 rotate_left 1
 ·have c := hw; go_simp; all_goals with_reducible rfl
 try simp only [Act.put, getElem_toArray, getElem_cons_zero, getElem_cons_succ, setIfInBounds_toArray, set_cons_zero, set_cons_succ]
 refine tk 8 rfl hS (v := ?_) (fun w' hw => ?_) ?_
 rotate_left 1
 ·have c := hw; go_simp; all_goals with_reducible rfl
 try simp only [Act.put, getElem_toArray, getElem_cons_zero, getElem_cons_succ, setIfInBounds_toArray, set_cons_zero, set_cons_succ]
 refine tk 9 rfl hS (v := ?_) (fun w' hw => ?_) ?_
 rotate_left 1
 ·have c := hw; go_simp; all_goals with_reducible rfl
 try simp only [Act.put, getElem_toArray, getElem_cons_zero, getElem_cons_succ, setIfInBounds_toArray, set_cons_zero, set_cons_succ]
 refine tk 10 rfl hS (v := ?_) (fun w' hw => ?_) ?_
 rotate_left 1
 ·have c := hw; go_simp; all_goals with_reducible rfl
 try simp only [Act.put, getElem_toArray, getElem_cons_zero, getElem_cons_succ, setIfInBounds_toArray, set_cons_zero, set_cons_succ]
 refine wpAnyH_ready (rs := [1]) (by kernel_rfl) (by simp) ?_
 refine AllReadyH.cons rfl (fun K hK => ?_) AllReadyH.nil
 go_simp
 refine (hA w.drew hc1).mono ?_
 rintro e w4 ⟨v1, rfl, hown4, hB4⟩
 have hB4' : Below w.heap.size w w4 := Below.trans (Below.drew (Below.refl _ w)) hB4
 have hc4 : w4.cell? ⟨rb, 0, none⟩ = some (.int .i64 (i : Int)) := (hB4'.cell (p := ⟨rb, 0, none⟩) hlt).trans hc0
 clear hA
 rw [nums_ics] at hown4
 have hown5 : w4.ownsRow w.heap.size 3 1 v1 ((List.range n).map fun (i : Nat) => (i : Int)).length (ics ((List.range n).map fun (i : Nat) => (i : Int))) := by
  rw [List.length_map, List.length_range]; exact hown4
 have hD := idelete_any w.heap.size v1 ((List.range n).map fun (i : Nat) => (i : Int)) i w4 hown5 (by simpa using hi) (by simpa using hn)
 obtain ⟨va, vn, vc, rfl⟩ := owns_slice1 hown4
 go_wp2_with fail
 refine hK.out _ _ hc4 (fun hS => ?_)
 clear hK K
 try simp only [Act.put, getElem_toArray, getElem_cons_zero, getElem_cons_succ, setIfInBounds_toArray, set_cons_zero, set_cons_succ]
 refine wpAnyH_ready (rs := [11]) (by kernel_rfl) (by simp) ?_
 refine AllReadyH.cons rfl (fun K hK => ?_) AllReadyH.nil
 go_simp
 refine hD.mono ?_
 rintro e w5 ⟨v2, rfl, hown6, hv2, hk5⟩
 clear hD
 have hbase : ∀ g, (Value.slice va vn vc).ownBlock = some g → w.heap.size ≤ g := fun g hg => by
  rcases hown4.2 with ⟨e, _⟩ | ⟨g', cap, cur, e, hb, _⟩
  ·rw [e] at hg; cases hg
  ·rw [e] at hg
   obtain rfl : g' = g := by simpa [Value.ownBlock] using hg
   exact hb
 have hB5 := Keeps.toBelow hB4' hk5 hbase hB4'.size
 have hc5 : w5.cell? ⟨rb, 0, none⟩ = some (.int .i64 (i : Int)) := (hB5.cell (p := ⟨rb, 0, none⟩) hlt).trans hc0
 obtain ⟨v2a, v2n, v2c, rfl⟩ := owns_slice1 hown6
 go_wp2_with fail
 refine hK.out _ _ hc5 (fun hS => ?_)
 clear hK K
 try simp only [Act.put, getElem_toArray, getElem_cons_zero, getElem_cons_succ, setIfInBounds_toArray, set_cons_zero, set_cons_succ]
 refine wpAnyH_ready (rs := [12]) (by kernel_rfl) (by simp) ?_
 refine AllReadyH.cons rfl (fun K hK => ?_) AllReadyH.nil
 go_simp
 refine hK.out _ _ hc5 (fun hS => ?_)
 clear hK K
 try simp only [Act.put, getElem_toArray, getElem_cons_zero, getElem_cons_succ, setIfInBounds_toArray, set_cons_zero, set_cons_succ]
 refine wpAnyH_done (by kernel_rfl) ?_ _
 go_wp2_with fail
 go_ret
 refine ⟨_, rfl, ?_, fun g hg => owns_blk hown6 hg, hB5⟩
 have := owns_row hown6
 rw [eraseIdx_map] at this
 have e1 : ((List.range n).map fun (i : Nat) => (i : Int)).length - 1 = ((List.range n).eraseIdx i).length := by
  rw [List.length_eraseIdx_of_lt (by simpa using hi)]; simp
 rw [e1] at this
 simp only [ics, List.map_map] at this
 exact this
end Go.Proofs.YtnnhnekfokbooaaGreatDoor
