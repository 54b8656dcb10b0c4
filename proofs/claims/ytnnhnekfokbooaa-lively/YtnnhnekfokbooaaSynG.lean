/- The walks of slices.Delete of a number, and of a replica's others (laid by mksyng.py). -/
import Derived.Test.YtnnhnekfokbooaaSynF
namespace Go.Proofs.Ytnnhnekfokbooaa
open Go.RowKit
set_option linter.unusedSimpArgs false
set_option linter.unusedVariables false

def ics (l : List Int) : List Value := l.map (Value.int .i64)
theorem ics_length (l : List Int) : (ics l).length = l.length := by simp [ics]
theorem ics_append (a b : List Int) : ics (a ++ b) = ics a ++ ics b := by simp [ics]
theorem ics_one (l : List Int) : ∀ u ∈ ics l, u.oneCell' = true := by
  intro u hu
  simp [ics] at hu
  obtain ⟨a, _, rfl⟩ := hu
  rfl
theorem take_len {α : Type} {a b : List α} {n : Nat} (h : a.length = n) : (a ++ b).take n = a := by
  subst h; exact List.take_left
theorem zeroI : (Builtin.zeroCells (Value.int .i64 0).cells 1).toList = [Value.int .i64 0] := by
  first | kernel_rfl | simp [Builtin.zeroCells, Value.cells]
theorem idrop_erase (l : List Int) (k : Nat) (hk : k < l.length) : ics (l.eraseIdx k) = ics (l.take k) ++ ics (l.drop (k + 1)) := by
  rw [← ics_append, List.eraseIdx_eq_take_drop_succ]
set_option maxHeartbeats 4000000 in
set_option maxRecDepth 100000 in
theorem idelete_any (H : Nat) (v : Value) (l : List Int) (k : Nat) (w : World) (hown : w.ownsRow H 3 1 v l.length (ics l)) (hk : k < l.length) (hl : l.length ≤ 1000) :
    Calls Try.prog 86 #[v, .int .i64 (k : Int), .int .i64 ((k : Int) + 1)] w fun e w' => ∃ v', e = .returned v' ∧ w'.ownsRow H 3 1 v' (l.length - 1) (ics (l.eraseIdx k)) ∧ v'.ownBlock = v.ownBlock ∧
      Keeps (fun b => v.ownBlock = some b) w w' := by
  obtain ⟨i0, hi, hz0, hz1, hz2⟩ := info_parts Try.infoInt
  rcases hown.2 with ⟨_, h0⟩ | ⟨g, cap, cur, rfl, hbg, hg, hnc, hcm, hcs, htake⟩
  · omega
  rw [Nat.mul_one] at hcs htake
  have hgf := blk_free hg
  have q0 : (0 : Int) ≤ (k : Int) := by omega
  have q1 : (k : Int) + 1 ≤ (l.length : Int) := by omega
  have q2 : (l.length : Int) ≤ (cap : Int) := by omega
  have q3 : (k : Int) ≤ (l.length : Int) := by omega
  have q4 : (k : Int) ≤ (cap : Int) := by omega
  have q5 : (k : Int) + 1 ≤ (cap : Int) := by omega
  go_enter Try.func86, Try.ntmps86
  go_wp2_with fail
  have hdrop : ∀ j u, (ics (l.drop (k + 1)))[j]? = some u → w.drew.cell? ⟨g, (k + 1) + j, none⟩ = some u := fun j u hu => by
    show w.cell? _ = _
    rw [blk_cell hg, ← Array.getElem?_toList]
    have hjl : j < (l.length - (k + 1)) := by have := (List.getElem?_eq_some_iff.1 hu).1; rw [ics_length, List.length_drop] at this; exact this
    have e2 : cur.toList[(k + 1) + j]? = (cur.toList.take (l.length))[(k + 1) + j]? := by rw [List.getElem?_take, if_pos (by omega)]
    have e3 : ics l = ics (l.take (k + 1)) ++ ics (l.drop (k + 1)) := by rw [← ics_append, List.take_append_drop]
    have e4 : (ics (l.take (k + 1))).length = (k + 1) := by rw [ics_length, List.length_take, Nat.min_eq_left (by omega)]
    rw [e2, htake, e3, List.getElem?_append_right (by omega), e4, Nat.add_sub_cancel_left]
    exact hu
  have hdl : (ics (l.drop (k + 1))).length = (l.length - (k + 1)) := by rw [ics_length, List.length_drop]
  have hd1 : ∀ u ∈ ics (l.drop (k + 1)), u.oneCell' = true := ics_one _
  have hsp : ∀ j, j < (ics (l.drop (k + 1))).length → (w.drew.cell? ⟨g, 0 + k + j, none⟩).isSome = true ∧ w.drew.frozen? ⟨g, 0 + k + j, none⟩ = false := fun j hj => by
    refine ⟨?_, hgf _⟩
    show (w.cell? _).isSome = true
    rw [blk_cell hg, Array.getElem?_eq_getElem (by omega)]
    rfl
  have q6 : (0 : Int) ≤ (k : Int) + 1 := by omega
  by_cases hce : cap = k + 1
  · have hl1 : l.length = k + 1 := by omega
    have q7 : (k : Int) ≤ (k : Int) + 1 := by omega
    have q9 : l.length - (k + 1) = 0 := by omega
    have q10 : cap - (k + 1) = 0 := by omega
    refine wp_region_held_drew (S := fun _ => True) (by kernel_rfl) (trivial) (fun hS => ?_)
    refine wpAnyH_take (i := 0) (v := .slice (some ⟨g, 0, none⟩) l.length cap) rfl (by kernel_rfl) (by kernel_rfl) (by kernel_rfl) (fun _ _ _ h => h) (Or.inl ⟨by kernel_rfl, fun w' hw => by clear hS; go_simp⟩) hS ?_
    try simp only [Act.put, List.getElem_toArray, List.getElem_cons_zero, List.getElem_cons_succ, List.setIfInBounds_toArray, List.set_cons_zero, List.set_cons_succ]
    refine wpAnyH_take (i := 1) (v := .int .i64 (k : Int)) rfl (by kernel_rfl) (by kernel_rfl) (by kernel_rfl) (fun _ _ _ h => h) (Or.inl ⟨by kernel_rfl, fun w' hw => by clear hS; go_simp⟩) hS ?_
    try simp only [Act.put, List.getElem_toArray, List.getElem_cons_zero, List.getElem_cons_succ, List.setIfInBounds_toArray, List.set_cons_zero, List.set_cons_succ]
    refine wpAnyH_take (i := 2) (v := .slice (some ⟨g, 0, none⟩) k cap) rfl (by kernel_rfl) (by kernel_rfl) (by kernel_rfl) (fun _ _ _ h => h) (Or.inl ⟨by kernel_rfl, fun w' hw => by clear hS; go_simp⟩) hS ?_
    try simp only [Act.put, List.getElem_toArray, List.getElem_cons_zero, List.getElem_cons_succ, List.setIfInBounds_toArray, List.set_cons_zero, List.set_cons_succ]
    refine wpAnyH_take (i := 3) (v := .slice (some ⟨g, 0, none⟩) l.length cap) rfl (by kernel_rfl) (by kernel_rfl) (by kernel_rfl) (fun _ _ _ h => h) (Or.inl ⟨by kernel_rfl, fun w' hw => by clear hS; go_simp⟩) hS ?_
    try simp only [Act.put, List.getElem_toArray, List.getElem_cons_zero, List.getElem_cons_succ, List.setIfInBounds_toArray, List.set_cons_zero, List.set_cons_succ]
    refine wpAnyH_take (i := 4) (v := .int .i64 ((k : Int) + 1)) rfl (by kernel_rfl) (by kernel_rfl) (by kernel_rfl) (fun _ _ _ h => h) (Or.inl ⟨by kernel_rfl, fun w' hw => by clear hS; go_simp⟩) hS ?_
    try simp only [Act.put, List.getElem_toArray, List.getElem_cons_zero, List.getElem_cons_succ, List.setIfInBounds_toArray, List.set_cons_zero, List.set_cons_succ]
    refine wpAnyH_take (i := 5) (v := .slice (some ⟨g, 0, none⟩) 0 0) rfl (by kernel_rfl) (by kernel_rfl) (by kernel_rfl) (fun _ _ _ h => h) (Or.inl ⟨by kernel_rfl, fun w' hw => by clear hS; go_simp⟩) hS ?_
    try simp only [Act.put, List.getElem_toArray, List.getElem_cons_zero, List.getElem_cons_succ, List.setIfInBounds_toArray, List.set_cons_zero, List.set_cons_succ]
    refine wpAnyH_ready (rs := [6]) (by kernel_rfl) (by simp) ?_
    refine AllReadyH.cons rfl (fun K hK => ?_) AllReadyH.nil
    refine step_append_room rfl (.tmp 22) (.tmp 25) 22 rfl 3 i0 1 Try.underlying22 hi hz1 g 0 k cap rfl ⟨g, 0, none⟩ 0 0 [] rfl (by simp) (fun j u hu => by simp at hu) (by simp) (by omega) (by simp) ?_
    refine hK.out _ _ trivial (fun hS => ?_)
    clear hK K
    try simp only [Act.put, List.getElem_toArray, List.getElem_cons_zero, List.getElem_cons_succ, List.setIfInBounds_toArray, List.set_cons_zero, List.set_cons_succ]
    refine wpAnyH_ready (rs := [7]) (by kernel_rfl) (by simp) ?_
    refine AllReadyH.cons rfl (fun K hK => ?_) AllReadyH.nil
    go_simp
    refine hK.out _ _ trivial (fun hS => ?_)
    clear hK K
    try simp only [Act.put, List.getElem_toArray, List.getElem_cons_zero, List.getElem_cons_succ, List.setIfInBounds_toArray, List.set_cons_zero, List.set_cons_succ]
    refine wpAnyH_done (by kernel_rfl) ?_ _
    simp only [World.setCells]
    have hg1 : w.drew.heap[g]? = some (.cells cur 3 (0, 0)) := hg
    have hK1 := Keeps.refl (fun b => (Value.slice (some ⟨g, 0, none⟩) l.length cap).ownBlock = some b) w.drew
    have hK0 : Keeps (fun b => (Value.slice (some ⟨g, 0, none⟩) l.length cap).ownBlock = some b) w w.drew := ⟨rfl, rfl, rfl, Nat.le_refl _, fun _ _ _ => rfl⟩
    generalize w.drew = w1 at *
    have e9 : l.length - 1 = k := by omega
    have ht1 : cur.toList.take (k) = ics (l.eraseIdx k) := by
      have hd0 : l.drop (k + 1) = [] := List.drop_of_length_le (by omega)
      rw [idrop_erase l k hk, hd0]
      have : cur.toList.take (k) = (cur.toList.take (l.length)).take (k) := by rw [List.take_take, Nat.min_eq_left (by omega)]
      rw [this, htake]
      have e3 : ics l = ics (l.take k) ++ ics (l.drop k) := by rw [← ics_append, List.take_append_drop]
      have e4 : (ics (l.take k)).length = k := by rw [ics_length, List.length_take, Nat.min_eq_left (by omega)]
      rw [e3, show ics ([] : List Int) = [] from rfl, List.append_nil]; exact take_len e4
    have hf1 := blk_free hg1
    have hcl : ∀ j, j < (Builtin.zeroCells (Value.int .i64 0).cells 1).toList.length → (w1.cell? ⟨g, k + j, none⟩).isSome = true := fun j hj => by
      rw [blk_cell hg1, Array.getElem?_eq_getElem (by have hj' : j < 1 := (by rw [zeroI] at hj; exact hj); omega)]
      rfl
    have hfl : ∀ j, j < (Builtin.zeroCells (Value.int .i64 0).cells 1).toList.length → w1.frozen? ⟨g, k + j, none⟩ = false := fun j _ => hf1 _
    have hzv : (zeroValue 3).run Try.prog w1 = .ok (.int .i64 0) w1 := by simp [zeroValue, typeInfo, hi, hz0]
    have h1z : ∀ v ∈ (Builtin.zeroCells (Value.int .i64 0).cells 1).toList, v.oneCell' = true := by
      intro v hv
      have hv' : v ∈ [Value.int .i64 0] := (by rw [zeroI] at hv; exact hv)
      simp at hv'
      rw [hv']; rfl
    have hzl : (Builtin.zeroCells (Value.int .i64 0).cells 1).toList.length = 1 := by rw [zeroI]; rfl
    generalize hZZ : (Builtin.zeroCells (Value.int .i64 0).cells 1).toList = zz at *
    have HZ := show Hid (_ = zz) from hZZ
    clear hdrop hdl hd1 hsp hf1 hZZ
    have hcl' : Hid (∀ j, j < zz.length → (w1.cell? ⟨g, k + j, none⟩).isSome = true) := hcl
    have hfl' : Hid (∀ j, j < zz.length → w1.frozen? ⟨g, k + j, none⟩ = false) := hfl
    have hzv' : Hid ((zeroValue 3).run Try.prog w1 = .ok (.int .i64 0) w1) := hzv
    have h1z' : Hid (∀ v ∈ zz, v.oneCell' = true) := h1z
    clear hcl hfl hzv h1z
    have r2 : ¬ (k + 1 = k) := by omega
    go_upto_region 7 with (refine wpList_clear_many rfl (.tmp 31) 22 rfl 3 _ Try.underlying22 hzv'.out g (k) 1 1 rfl (by decide) (by rw [HZ.out]; exact hcl'.out) (by rw [HZ.out]; exact hfl'.out) (by rw [HZ.out]; exact h1z'.out) ?_; simp only [Act.put])
    rw [HZ.out]
    go_wp2_with fail
    go_ret
    rw [e9]
    refine ⟨_, rfl, ⟨by rw [ics_length, List.length_eraseIdx_of_lt hk, e9, Nat.mul_one], .inr ⟨g, k + 1, _, rfl, hbg, setCells_self g 3 zz (k) w1 cur hg1 (by omega), by omega, by omega, ?_, ?_⟩⟩, rfl, ?_⟩
    · rw [List.size_toArray]
      simp only [List.length_append, List.length_take, List.length_drop, Array.length_toList]
      omega
    · rw [List.toList_toArray, ht1, List.append_assoc]
      have e6 : (ics (l.eraseIdx k)).length = k := by rw [ics_length, List.length_eraseIdx_of_lt hk, e9]
      rw [Nat.mul_one]
      exact take_len e6
    · exact Keeps.trans hK0 (hK1.trans (Keeps.ofSets (P := fun b => (Value.slice (some ⟨g, 0, none⟩) l.length cap).ownBlock = some b) g rfl zz (k) w1))
  · have hce' : ¬ (cap = k + 1) := hce
    refine wp_region_held_drew (S := fun _ => True) (by kernel_rfl) (trivial) (fun hS => ?_)
    refine wpAnyH_take (i := 0) (v := .slice (some ⟨g, 0, none⟩) l.length cap) rfl (by kernel_rfl) (by kernel_rfl) (by kernel_rfl) (fun _ _ _ h => h) (Or.inl ⟨by kernel_rfl, fun w' hw => by clear hS; go_simp⟩) hS ?_
    try simp only [Act.put, List.getElem_toArray, List.getElem_cons_zero, List.getElem_cons_succ, List.setIfInBounds_toArray, List.set_cons_zero, List.set_cons_succ]
    refine wpAnyH_take (i := 1) (v := .int .i64 (k : Int)) rfl (by kernel_rfl) (by kernel_rfl) (by kernel_rfl) (fun _ _ _ h => h) (Or.inl ⟨by kernel_rfl, fun w' hw => by clear hS; go_simp⟩) hS ?_
    try simp only [Act.put, List.getElem_toArray, List.getElem_cons_zero, List.getElem_cons_succ, List.setIfInBounds_toArray, List.set_cons_zero, List.set_cons_succ]
    refine wpAnyH_take (i := 2) (v := .slice (some ⟨g, 0, none⟩) k cap) rfl (by kernel_rfl) (by kernel_rfl) (by kernel_rfl) (fun _ _ _ h => h) (Or.inl ⟨by kernel_rfl, fun w' hw => by clear hS; go_simp⟩) hS ?_
    try simp only [Act.put, List.getElem_toArray, List.getElem_cons_zero, List.getElem_cons_succ, List.setIfInBounds_toArray, List.set_cons_zero, List.set_cons_succ]
    refine wpAnyH_take (i := 3) (v := .slice (some ⟨g, 0, none⟩) l.length cap) rfl (by kernel_rfl) (by kernel_rfl) (by kernel_rfl) (fun _ _ _ h => h) (Or.inl ⟨by kernel_rfl, fun w' hw => by clear hS; go_simp⟩) hS ?_
    try simp only [Act.put, List.getElem_toArray, List.getElem_cons_zero, List.getElem_cons_succ, List.setIfInBounds_toArray, List.set_cons_zero, List.set_cons_succ]
    refine wpAnyH_take (i := 4) (v := .int .i64 ((k : Int) + 1)) rfl (by kernel_rfl) (by kernel_rfl) (by kernel_rfl) (fun _ _ _ h => h) (Or.inl ⟨by kernel_rfl, fun w' hw => by clear hS; go_simp⟩) hS ?_
    try simp only [Act.put, List.getElem_toArray, List.getElem_cons_zero, List.getElem_cons_succ, List.setIfInBounds_toArray, List.set_cons_zero, List.set_cons_succ]
    refine wpAnyH_take (i := 5) (v := .slice (some ⟨g, (k + 1), none⟩) (l.length - (k + 1)) (cap - (k + 1))) rfl (by kernel_rfl) (by kernel_rfl) (by kernel_rfl) (fun _ _ _ h => h) (Or.inl ⟨by kernel_rfl, fun w' hw => by clear hS; go_simp⟩) hS ?_
    try simp only [Act.put, List.getElem_toArray, List.getElem_cons_zero, List.getElem_cons_succ, List.setIfInBounds_toArray, List.set_cons_zero, List.set_cons_succ]
    refine wpAnyH_ready (rs := [6]) (by kernel_rfl) (by simp) ?_
    refine AllReadyH.cons rfl (fun K hK => ?_) AllReadyH.nil
    refine step_append_room rfl (.tmp 22) (.tmp 25) 22 rfl 3 i0 1 Try.underlying22 hi hz1 g 0 k cap rfl ⟨g, (k + 1), none⟩ (l.length - (k + 1)) (cap - (k + 1)) (ics (l.drop (k + 1))) rfl (by rw [Nat.mul_one]; exact hdl) (fun j u hu => by rw [Addr.add_mid]; exact hdrop j u hu) hd1 (by omega) (by rw [Nat.mul_one]; exact hsp) ?_
    refine hK.out _ _ trivial (fun hS => ?_)
    clear hK K
    try simp only [Act.put, List.getElem_toArray, List.getElem_cons_zero, List.getElem_cons_succ, List.setIfInBounds_toArray, List.set_cons_zero, List.set_cons_succ]
    refine wpAnyH_ready (rs := [7]) (by kernel_rfl) (by simp) ?_
    refine AllReadyH.cons rfl (fun K hK => ?_) AllReadyH.nil
    go_simp
    refine hK.out _ _ trivial (fun hS => ?_)
    clear hK K
    try simp only [Act.put, List.getElem_toArray, List.getElem_cons_zero, List.getElem_cons_succ, List.setIfInBounds_toArray, List.set_cons_zero, List.set_cons_succ]
    refine wpAnyH_done (by kernel_rfl) ?_ _
    have hp : k + (l.length - (k + 1)) = l.length - 1 := by omega
    have hp1 : l.length - (l.length - 1) = 1 := by omega
    rw [hp]
    have e0 : 0 + k = k := by omega
    rw [e0] at hsp
    have hg1 := setCells_self g 3 (ics (l.drop (k + 1))) (k) w.drew cur hg (by omega)
    have hK1 := Keeps.ofSets (P := fun b => (Value.slice (some ⟨g, 0, none⟩) l.length cap).ownBlock = some b) g rfl (ics (l.drop (k + 1))) (k) w.drew
    generalize w.drew.setCells g (k) (ics (l.drop (k + 1))) = w1 at *
    obtain ⟨cur1, hcur1⟩ : ∃ c1 : Array Value, c1 = (cur.toList.take (k) ++ ics (l.drop (k + 1)) ++ cur.toList.drop (k + (ics (l.drop (k + 1))).length)).toArray := ⟨_, rfl⟩
    rw [← hcur1] at hg1
    have hs1 : cur1.size = cap := by
      rw [hcur1, List.size_toArray]
      simp only [List.length_append, List.length_take, List.length_drop, Array.length_toList]
      omega
    have ht1 : cur1.toList.take ((l.length - 1)) = ics (l.eraseIdx k) := by
      rw [hcur1, List.toList_toArray, idrop_erase l k hk]
      have e1 : cur.toList.take (k) = ics (l.take k) := by
        have : cur.toList.take (k) = (cur.toList.take (l.length)).take (k) := by rw [List.take_take, Nat.min_eq_left (by omega)]
        rw [this, htake]
        have e3 : ics l = ics (l.take k) ++ ics (l.drop k) := by rw [← ics_append, List.take_append_drop]
        have e4 : (ics (l.take k)).length = k := by rw [ics_length, List.length_take, Nat.min_eq_left (by omega)]
        rw [e3]; exact take_len e4
      rw [e1]
      have e5 : (ics (l.take k) ++ ics (l.drop (k + 1))).length = (l.length - 1) := by
        rw [List.length_append, ics_length, hdl, List.length_take, Nat.min_eq_left (by omega)]; omega
      exact take_len e5
    have hf1 := blk_free hg1
    have hcl : ∀ j, j < (Builtin.zeroCells (Value.int .i64 0).cells 1).toList.length → (w1.cell? ⟨g, (l.length - 1) + j, none⟩).isSome = true := fun j hj => by
      rw [blk_cell hg1, Array.getElem?_eq_getElem (by have hj' : j < 1 := (by rw [zeroI] at hj; exact hj); omega)]
      rfl
    have hfl : ∀ j, j < (Builtin.zeroCells (Value.int .i64 0).cells 1).toList.length → w1.frozen? ⟨g, (l.length - 1) + j, none⟩ = false := fun j _ => hf1 _
    have hzv : (zeroValue 3).run Try.prog w1 = .ok (.int .i64 0) w1 := by simp [zeroValue, typeInfo, hi, hz0]
    have h1z : ∀ v ∈ (Builtin.zeroCells (Value.int .i64 0).cells 1).toList, v.oneCell' = true := by
      intro v hv
      have hv' : v ∈ [Value.int .i64 0] := (by rw [zeroI] at hv; exact hv)
      simp at hv'
      rw [hv']; rfl
    have hzl : (Builtin.zeroCells (Value.int .i64 0).cells 1).toList.length = 1 := by rw [zeroI]; rfl
    generalize hZZ : (Builtin.zeroCells (Value.int .i64 0).cells 1).toList = zz at *
    have HZ := show Hid (_ = zz) from hZZ
    clear hdrop hdl hd1 hsp hf1 hZZ
    have hcl' : Hid (∀ j, j < zz.length → (w1.cell? ⟨g, (l.length - 1) + j, none⟩).isSome = true) := hcl
    have hfl' : Hid (∀ j, j < zz.length → w1.frozen? ⟨g, (l.length - 1) + j, none⟩ = false) := hfl
    have hzv' : Hid ((zeroValue 3).run Try.prog w1 = .ok (.int .i64 0) w1) := hzv
    have h1z' : Hid (∀ v ∈ zz, v.oneCell' = true) := h1z
    clear hcl hfl hzv h1z
    have r1 : ((l.length - 1 : Nat) : Int) ≤ (l.length : Int) := by omega
    have r2 : ¬ (cap = l.length - 1) := by omega
    go_upto_region 7 with (refine wpList_clear_many rfl (.tmp 31) 22 rfl 3 _ Try.underlying22 hzv'.out g ((l.length - 1)) 1 (cap - (l.length - 1)) rfl (by decide) (by rw [HZ.out]; exact hcl'.out) (by rw [HZ.out]; exact hfl'.out) (by rw [HZ.out]; exact h1z'.out) ?_; simp only [Act.put])
    rw [HZ.out]
    go_wp2_with fail
    go_ret
    refine ⟨_, rfl, ⟨by rw [ics_length, List.length_eraseIdx_of_lt hk, Nat.mul_one], .inr ⟨g, cap, _, rfl, hbg, setCells_self g 3 zz ((l.length - 1)) w1 cur1 hg1 (by omega), by omega, hcm, ?_, ?_⟩⟩, rfl, ?_⟩
    · rw [List.size_toArray]
      simp only [List.length_append, List.length_take, List.length_drop, Array.length_toList]
      omega
    · rw [List.toList_toArray, ht1, List.append_assoc]
      have e6 : (ics (l.eraseIdx k)).length = (l.length - 1) := by rw [ics_length, List.length_eraseIdx_of_lt hk]
      rw [Nat.mul_one]
      exact take_len e6
    · exact Keeps.trans (w1 := w.drew) ⟨rfl, rfl, rfl, Nat.le_refl _, fun _ _ _ => rfl⟩ (hK1.trans (Keeps.ofSets (P := fun b => (Value.slice (some ⟨g, 0, none⟩) l.length cap).ownBlock = some b) g rfl zz ((l.length - 1)) w1))
end Go.Proofs.Ytnnhnekfokbooaa
