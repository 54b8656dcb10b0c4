/- The walk of a replica's others (laid by mksynh.py). -/
import Derived.Test.YtnnhnekfokbooaaSynG
namespace Go.Proofs.Ytnnhnekfokbooaa
open Go.RowKit
set_option linter.unusedSimpArgs false
set_option linter.unusedVariables false

theorem wrap_of (r : Int) (h0 : -1000000 ≤ r) (h1 : r ≤ 1000000) : IntKind.i64.wrap r = r := by
  rw [IntKind.wrap_i64]; omega
theorem nums_ics (n : Nat) : nums n = ics ((List.range n).map fun (i : Nat) => (i : Int)) := by simp [nums, ics]
theorem Keeps.toBelow {P : Nat → Prop} {w w1 w2 : World} {B : Nat} (h : Below B w w1) (k : Keeps P w1 w2) (hP : ∀ b, P b → B ≤ b) (hB : B ≤ w1.heap.size) : Below B w w2 :=
  ⟨k.os.trans h.os, k.tape.trans h.tape, k.output.trans h.output, Nat.le_trans h.size k.size, fun b hb => (k.block b (by omega) (fun p => by have := hP b p; omega)).trans (h.block b hb)⟩
theorem eraseIdx_map {α β : Type} (f : α → β) : ∀ (l : List α) (k : Nat), (l.map f).eraseIdx k = (l.eraseIdx k).map f
  | [], _ => rfl
  | _ :: _, 0 => rfl
  | x :: l, k + 1 => by simp [eraseIdx_map f l k]

set_option maxHeartbeats 1000000 in
set_option maxRecDepth 100000 in
theorem others_any (rb n i : Nat) (w : World) (hc0 : w.cell? ⟨rb, 0, none⟩ = some (.int .i64 (i : Int))) (hc1 : w.cell? ⟨rb, 1, none⟩ = some (.int .i64 (n : Int))) (hi : i < n) (hn : n ≤ 1000) :
    Calls Try.prog 82 #[.pointer (some ⟨rb, 0, none⟩)] w fun e w' => ∃ v', e = .returned v' ∧ RowAt w' 1 v' ((List.range n).eraseIdx i).length (((List.range n).eraseIdx i).map fun (i : Nat) => Value.int .i64 (i : Int)) ∧ (∀ g, v'.ownBlock = some g → ∃ cs, w'.heap[g]? = some (.cells cs 3 (0, 0))) ∧ Below w.heap.size w w' := by
  have hlt := World.block_lt_of_cell? w _ hc0
  have q0 : (0 : Int) ≤ (i : Int) := by omega
  have q1 : (i : Int) ≤ 1000 := by omega
  have hwr := wrap_of ((i : Int) + 1) (by omega) (by omega)
  have hA := fun W hc => all_any rb n W hc hn
  go_enter Try.func82, Try.ntmps82
  go_wp2_with fail
  refine wp_region_held_drew (S := fun w' => w'.cell? ⟨rb, 0, none⟩ = some (.int .i64 (i : Int))) (by kernel_rfl) (hc0) (fun hS => ?_)
  refine wpAnyH_take (i := 0) (v := ?_) rfl (by kernel_rfl) (by kernel_rfl) (by kernel_rfl) (fun _ _ _ h => h) (Or.inl ⟨by kernel_rfl, fun w' hw => ?_⟩) hS ?_
  rotate_left 1
  · go_simp; all_goals with_reducible rfl
  try simp only [Act.put, List.getElem_toArray, List.getElem_cons_zero, List.getElem_cons_succ, List.setIfInBounds_toArray, List.set_cons_zero, List.set_cons_succ]
  refine wpAnyH_take (i := 2) (v := ?_) rfl (by kernel_rfl) (by kernel_rfl) (by kernel_rfl) (fun _ _ _ h => h) (Or.inl ⟨by kernel_rfl, fun w' hw => ?_⟩) hS ?_
  rotate_left 1
  · have c := hw; go_simp; all_goals with_reducible rfl
  try simp only [Act.put, List.getElem_toArray, List.getElem_cons_zero, List.getElem_cons_succ, List.setIfInBounds_toArray, List.set_cons_zero, List.set_cons_succ]
  refine wpAnyH_take (i := 3) (v := ?_) rfl (by kernel_rfl) (by kernel_rfl) (by kernel_rfl) (fun _ _ _ h => h) (Or.inl ⟨by kernel_rfl, fun w' hw => ?_⟩) hS ?_
  rotate_left 1
  · have c := hw; go_simp; all_goals with_reducible rfl
  try simp only [Act.put, List.getElem_toArray, List.getElem_cons_zero, List.getElem_cons_succ, List.setIfInBounds_toArray, List.set_cons_zero, List.set_cons_succ]
  refine wpAnyH_take (i := 4) (v := ?_) rfl (by kernel_rfl) (by kernel_rfl) (by kernel_rfl) (fun _ _ _ h => h) (Or.inl ⟨by kernel_rfl, fun w' hw => ?_⟩) hS ?_
  rotate_left 1
  · have c := hw; go_simp; all_goals with_reducible rfl
  try simp only [Act.put, List.getElem_toArray, List.getElem_cons_zero, List.getElem_cons_succ, List.setIfInBounds_toArray, List.set_cons_zero, List.set_cons_succ]
  refine wpAnyH_take (i := 5) (v := ?_) rfl (by kernel_rfl) (by kernel_rfl) (by kernel_rfl) (fun _ _ _ h => h) (Or.inl ⟨by kernel_rfl, fun w' hw => ?_⟩) hS ?_
  rotate_left 1
  · have c := hw; go_simp; all_goals with_reducible rfl
  try simp only [Act.put, List.getElem_toArray, List.getElem_cons_zero, List.getElem_cons_succ, List.setIfInBounds_toArray, List.set_cons_zero, List.set_cons_succ]
  refine wpAnyH_take (i := 6) (v := ?_) rfl (by kernel_rfl) (by kernel_rfl) (by kernel_rfl) (fun _ _ _ h => h) (Or.inl ⟨by kernel_rfl, fun w' hw => ?_⟩) hS ?_
  rotate_left 1
  · have c := hw; go_simp; all_goals with_reducible rfl
  try simp only [Act.put, List.getElem_toArray, List.getElem_cons_zero, List.getElem_cons_succ, List.setIfInBounds_toArray, List.set_cons_zero, List.set_cons_succ]
  refine wpAnyH_take (i := 7) (v := ?_) rfl (by kernel_rfl) (by kernel_rfl) (by kernel_rfl) (fun _ _ _ h => h) (Or.inl ⟨by kernel_rfl, fun w' hw => ?_⟩) hS ?_
  rotate_left 1
  · have c := hw; go_simp; all_goals with_reducible rfl
  try simp only [Act.put, List.getElem_toArray, List.getElem_cons_zero, List.getElem_cons_succ, List.setIfInBounds_toArray, List.set_cons_zero, List.set_cons_succ]
  refine wpAnyH_take (i := 8) (v := ?_) rfl (by kernel_rfl) (by kernel_rfl) (by kernel_rfl) (fun _ _ _ h => h) (Or.inl ⟨by kernel_rfl, fun w' hw => ?_⟩) hS ?_
  rotate_left 1
  · have c := hw; go_simp; all_goals with_reducible rfl
  try simp only [Act.put, List.getElem_toArray, List.getElem_cons_zero, List.getElem_cons_succ, List.setIfInBounds_toArray, List.set_cons_zero, List.set_cons_succ]
  refine wpAnyH_take (i := 9) (v := ?_) rfl (by kernel_rfl) (by kernel_rfl) (by kernel_rfl) (fun _ _ _ h => h) (Or.inl ⟨by kernel_rfl, fun w' hw => ?_⟩) hS ?_
  rotate_left 1
  · have c := hw; go_simp; all_goals with_reducible rfl
  try simp only [Act.put, List.getElem_toArray, List.getElem_cons_zero, List.getElem_cons_succ, List.setIfInBounds_toArray, List.set_cons_zero, List.set_cons_succ]
  refine wpAnyH_take (i := 10) (v := ?_) rfl (by kernel_rfl) (by kernel_rfl) (by kernel_rfl) (fun _ _ _ h => h) (Or.inl ⟨by kernel_rfl, fun w' hw => ?_⟩) hS ?_
  rotate_left 1
  · have c := hw; go_simp; all_goals with_reducible rfl
  try simp only [Act.put, List.getElem_toArray, List.getElem_cons_zero, List.getElem_cons_succ, List.setIfInBounds_toArray, List.set_cons_zero, List.set_cons_succ]
  refine wpAnyH_ready (rs := [1]) (by kernel_rfl) (by simp) ?_
  refine AllReadyH.cons rfl (fun K hK => ?_) AllReadyH.nil
  go_simp
  refine (hA w.drew hc1).mono ?_
  rintro e w4 ⟨v1, rfl, hown4, hB4⟩
  have hB4' : Below w.heap.size w w4 := Below.trans (Below.drew (Below.refl _ w)) hB4
  have hc4 : w4.cell? ⟨rb, 0, none⟩ = some (.int .i64 (i : Int)) := (hB4'.cell (p := ⟨rb, 0, none⟩) hlt).trans hc0
  clear hA
  rw [nums_ics] at hown4
  have hown5 : w4.ownsRow w.heap.size 3 1 v1 ((List.range n).map fun (i : Nat) => (i : Int)).length (ics ((List.range n).map fun (i : Nat) => (i : Int))) := by
    rw [List.length_map, List.length_range]; exact hown4
  have hD := idelete_any w.heap.size v1 ((List.range n).map fun (i : Nat) => (i : Int)) i w4 hown5 (by simpa using hi) (by simpa using hn)
  obtain ⟨va, vn, vc, rfl⟩ := owns_slice1 hown4
  go_wp2_with fail
  refine hK.out _ _ hc4 (fun hS => ?_)
  clear hK K
  try simp only [Act.put, List.getElem_toArray, List.getElem_cons_zero, List.getElem_cons_succ, List.setIfInBounds_toArray, List.set_cons_zero, List.set_cons_succ]
  refine wpAnyH_ready (rs := [11]) (by kernel_rfl) (by simp) ?_
  refine AllReadyH.cons rfl (fun K hK => ?_) AllReadyH.nil
  go_simp
  refine hD.mono ?_
  rintro e w5 ⟨v2, rfl, hown6, hv2, hk5⟩
  clear hD
  have hbase : ∀ g, (Value.slice va vn vc).ownBlock = some g → w.heap.size ≤ g := fun g hg => by
    rcases hown4.2 with ⟨e, _⟩ | ⟨g', cap, cur, e, hb, _⟩
    · rw [e] at hg; cases hg
    · rw [e] at hg
      obtain rfl : g' = g := by simpa [Value.ownBlock] using hg
      exact hb
  have hB5 := Keeps.toBelow hB4' hk5 hbase hB4'.size
  have hc5 : w5.cell? ⟨rb, 0, none⟩ = some (.int .i64 (i : Int)) := (hB5.cell (p := ⟨rb, 0, none⟩) hlt).trans hc0
  obtain ⟨v2a, v2n, v2c, rfl⟩ := owns_slice1 hown6
  go_wp2_with fail
  refine hK.out _ _ hc5 (fun hS => ?_)
  clear hK K
  try simp only [Act.put, List.getElem_toArray, List.getElem_cons_zero, List.getElem_cons_succ, List.setIfInBounds_toArray, List.set_cons_zero, List.set_cons_succ]
  refine wpAnyH_ready (rs := [12]) (by kernel_rfl) (by simp) ?_
  refine AllReadyH.cons rfl (fun K hK => ?_) AllReadyH.nil
  go_simp
  refine hK.out _ _ hc5 (fun hS => ?_)
  clear hK K
  try simp only [Act.put, List.getElem_toArray, List.getElem_cons_zero, List.getElem_cons_succ, List.setIfInBounds_toArray, List.set_cons_zero, List.set_cons_succ]
  refine wpAnyH_done (by kernel_rfl) ?_ _
  go_wp2_with fail
  go_ret
  refine ⟨_, rfl, ?_, fun g hg => owns_blk hown6 hg, hB5⟩
  have := owns_row hown6
  rw [eraseIdx_map] at this
  have e1 : ((List.range n).map fun (i : Nat) => (i : Int)).length - 1 = ((List.range n).eraseIdx i).length := by
    rw [List.length_eraseIdx_of_lt (by simpa using hi)]; simp
  rw [e1] at this
  simp only [ics, List.map_map] at this
  exact this
end Go.Proofs.Ytnnhnekfokbooaa
