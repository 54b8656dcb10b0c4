/- The walk of the document's answer: a value as text (laid by mkref.py). -/
import Derived.Test.YtnnhnekfokbooaaGreatDoorRefA
import Derived.Deep.RegionHeld3
namespace Go.Proofs.YtnnhnekfokbooaaGreatDoor
open Go.RowKit
set_option linter.unusedSimpArgs false
set_option linter.unusedVariables false

set_option maxHeartbeats 4000000 in
set_option maxRecDepth 100000 in
theorem text_yes (c q h : Int) (t : ByteArray) (w : World) (hc : (c == 0) = false) (n1 : 0 ≤ c ∧ c ≤ 1000000) (n2 : 0 ≤ q ∧ q ≤ 1000000) (n3 : 0 ≤ h ∧ h ≤ 1000000) (n4 : t.size ≤ 1000) :
    Calls Tryz.prog 52 #[.agg #[.int .i64 c, .int .i64 q, .int .i64 h, .string t]] w fun e w' => e = .returned (.string (S (encA 1 [c] ++ encA 2 [q] ++ encA 1 [h] ++ encA 1 [(t.size : Int)] ++ t.data.toList))) ∧ Below w.heap.size w w' := by
  go_enter Tryz.func52, Tryz.ntmps52
  go_wp2
  refine wp_region_held_drew (S := BS w w.heap.size #[.int .i64 c, .int .i64 q, .int .i64 h, .string t] 33) (by kernel_rfl) (BS.drew ⟨blk_new _ _, (Below.refl _ _).alloc (Nat.le_refl _) _⟩) (fun hS => ?_)
  refine wpAnyH_take (i := 0) (v := .pointer (some ⟨w.heap.size, 0, none⟩)) rfl (by kernel_rfl) (by kernel_rfl) (by kernel_rfl) (fun _ _ _ h => h) (Or.inl ⟨by kernel_rfl, fun w' hw => by clear hS; go_simp⟩) hS ?_
  try simp only [Act.put, List.getElem_toArray, List.getElem_cons_zero, List.getElem_cons_succ, List.setIfInBounds_toArray, List.set_cons_zero, List.set_cons_succ]
  refine wpAnyH_take (i := 1) (v := .int .i64 c) rfl (by kernel_rfl) (by kernel_rfl) (by kernel_rfl) (fun _ _ _ h => h) (Or.inl ⟨by kernel_rfl, fun w' hw => by have c := blk_cell hw.1; clear hS; go_simp⟩) hS ?_
  try simp only [Act.put, List.getElem_toArray, List.getElem_cons_zero, List.getElem_cons_succ, List.setIfInBounds_toArray, List.set_cons_zero, List.set_cons_succ]
  refine wpAnyH_take (i := 3) (v := .pointer (some ⟨w.heap.size, 1, none⟩)) rfl (by kernel_rfl) (by kernel_rfl) (by kernel_rfl) (fun _ _ _ h => h) (Or.inl ⟨by kernel_rfl, fun w' hw => by clear hS; go_simp⟩) hS ?_
  try simp only [Act.put, List.getElem_toArray, List.getElem_cons_zero, List.getElem_cons_succ, List.setIfInBounds_toArray, List.set_cons_zero, List.set_cons_succ]
  refine wpAnyH_take (i := 4) (v := .int .i64 q) rfl (by kernel_rfl) (by kernel_rfl) (by kernel_rfl) (fun _ _ _ h => h) (Or.inl ⟨by kernel_rfl, fun w' hw => by have c := blk_cell hw.1; clear hS; go_simp⟩) hS ?_
  try simp only [Act.put, List.getElem_toArray, List.getElem_cons_zero, List.getElem_cons_succ, List.setIfInBounds_toArray, List.set_cons_zero, List.set_cons_succ]
  refine wpAnyH_take (i := 7) (v := .pointer (some ⟨w.heap.size, 2, none⟩)) rfl (by kernel_rfl) (by kernel_rfl) (by kernel_rfl) (fun _ _ _ h => h) (Or.inl ⟨by kernel_rfl, fun w' hw => by clear hS; go_simp⟩) hS ?_
  try simp only [Act.put, List.getElem_toArray, List.getElem_cons_zero, List.getElem_cons_succ, List.setIfInBounds_toArray, List.set_cons_zero, List.set_cons_succ]
  refine wpAnyH_take (i := 8) (v := .int .i64 h) rfl (by kernel_rfl) (by kernel_rfl) (by kernel_rfl) (fun _ _ _ h => h) (Or.inl ⟨by kernel_rfl, fun w' hw => by have c := blk_cell hw.1; clear hS; go_simp⟩) hS ?_
  try simp only [Act.put, List.getElem_toArray, List.getElem_cons_zero, List.getElem_cons_succ, List.setIfInBounds_toArray, List.set_cons_zero, List.set_cons_succ]
  refine wpAnyH_take (i := 11) (v := .pointer (some ⟨w.heap.size, 3, none⟩)) rfl (by kernel_rfl) (by kernel_rfl) (by kernel_rfl) (fun _ _ _ h => h) (Or.inl ⟨by kernel_rfl, fun w' hw => by clear hS; go_simp⟩) hS ?_
  try simp only [Act.put, List.getElem_toArray, List.getElem_cons_zero, List.getElem_cons_succ, List.setIfInBounds_toArray, List.set_cons_zero, List.set_cons_succ]
  refine wpAnyH_take (i := 12) (v := .string t) rfl (by kernel_rfl) (by kernel_rfl) (by kernel_rfl) (fun _ _ _ h => h) (Or.inl ⟨by kernel_rfl, fun w' hw => by have c := blk_cell hw.1; clear hS; go_simp⟩) hS ?_
  try simp only [Act.put, List.getElem_toArray, List.getElem_cons_zero, List.getElem_cons_succ, List.setIfInBounds_toArray, List.set_cons_zero, List.set_cons_succ]
  refine wpAnyH_take (i := 13) (v := .int .i64 (t.size : Int)) rfl (by kernel_rfl) (by kernel_rfl) (by kernel_rfl) (fun _ _ _ h => h) (Or.inl ⟨by kernel_rfl, fun w' hw => by clear hS; go_simp⟩) hS ?_
  try simp only [Act.put, List.getElem_toArray, List.getElem_cons_zero, List.getElem_cons_succ, List.setIfInBounds_toArray, List.set_cons_zero, List.set_cons_succ]
  refine wpAnyH_take (i := 16) (v := .pointer (some ⟨w.heap.size, 3, none⟩)) rfl (by kernel_rfl) (by kernel_rfl) (by kernel_rfl) (fun _ _ _ h => h) (Or.inl ⟨by kernel_rfl, fun w' hw => by clear hS; go_simp⟩) hS ?_
  try simp only [Act.put, List.getElem_toArray, List.getElem_cons_zero, List.getElem_cons_succ, List.setIfInBounds_toArray, List.set_cons_zero, List.set_cons_succ]
  refine wpAnyH_take (i := 17) (v := .string t) rfl (by kernel_rfl) (by kernel_rfl) (by kernel_rfl) (fun _ _ _ h => h) (Or.inl ⟨by kernel_rfl, fun w' hw => by have c := blk_cell hw.1; clear hS; go_simp⟩) hS ?_
  try simp only [Act.put, List.getElem_toArray, List.getElem_cons_zero, List.getElem_cons_succ, List.setIfInBounds_toArray, List.set_cons_zero, List.set_cons_succ]
  refine wpAnyH_ready (rs := [2]) (by kernel_rfl) (by simp) ?_
  refine AllReadyH.cons rfl (fun K hK => ?_) AllReadyH.nil
  go_simp
  refine (one_any c _ n1.1 n1.2).mono ?_
  rintro e w' ⟨rfl, hbb⟩
  go_wp2_with fail
  refine hK.out _ _ (hS.below hbb) (fun hS => ?_)
  clear hK K hbb
  try simp only [Act.put, List.getElem_toArray, List.getElem_cons_zero, List.getElem_cons_succ, List.setIfInBounds_toArray, List.set_cons_zero, List.set_cons_succ]
  refine wpAnyH_ready (rs := [5]) (by kernel_rfl) (by simp) ?_
  refine AllReadyH.cons rfl (fun K hK => ?_) AllReadyH.nil
  go_simp
  refine (two_any q _ n2.1 n2.2).mono ?_
  rintro e w' ⟨rfl, hbb⟩
  go_wp2_with fail
  refine hK.out _ _ (hS.below hbb) (fun hS => ?_)
  clear hK K hbb
  try simp only [Act.put, List.getElem_toArray, List.getElem_cons_zero, List.getElem_cons_succ, List.setIfInBounds_toArray, List.set_cons_zero, List.set_cons_succ]
  refine wpAnyH_take (i := 6) (v := .string (S (encA 1 [c] ++ encA 2 [q]))) rfl (by kernel_rfl) (by kernel_rfl) (by kernel_rfl) (fun _ _ _ h => h) (Or.inl ⟨by kernel_rfl, fun w' hw => by have he := S_add (encA 1 [c]) (encA 2 [q]); have hz : ¬ 9223372036854775807 < (S (encA 1 [c])).size + (S (encA 2 [q])).size := (by rw [S_size, S_size]; simp [encA, encN]); clear hS; go_simp⟩) hS ?_
  try simp only [Act.put, List.getElem_toArray, List.getElem_cons_zero, List.getElem_cons_succ, List.setIfInBounds_toArray, List.set_cons_zero, List.set_cons_succ]
  refine wpAnyH_ready (rs := [9]) (by kernel_rfl) (by simp) ?_
  refine AllReadyH.cons rfl (fun K hK => ?_) AllReadyH.nil
  go_simp
  refine (one_any h _ n3.1 n3.2).mono ?_
  rintro e w' ⟨rfl, hbb⟩
  go_wp2_with fail
  refine hK.out _ _ (hS.below hbb) (fun hS => ?_)
  clear hK K hbb
  try simp only [Act.put, List.getElem_toArray, List.getElem_cons_zero, List.getElem_cons_succ, List.setIfInBounds_toArray, List.set_cons_zero, List.set_cons_succ]
  refine wpAnyH_take (i := 10) (v := .string (S (encA 1 [c] ++ (encA 2 [q] ++ encA 1 [h])))) rfl (by kernel_rfl) (by kernel_rfl) (by kernel_rfl) (fun _ _ _ h => h) (Or.inl ⟨by kernel_rfl, fun w' hw => by have he := S_add (encA 1 [c] ++ encA 2 [q]) (encA 1 [h]); have hz : ¬ 9223372036854775807 < (S (encA 1 [c] ++ encA 2 [q])).size + (S (encA 1 [h])).size := (by rw [S_size, S_size]; simp [encA, encN]); clear hS; go_simp⟩) hS ?_
  try simp only [Act.put, List.getElem_toArray, List.getElem_cons_zero, List.getElem_cons_succ, List.setIfInBounds_toArray, List.set_cons_zero, List.set_cons_succ]
  refine wpAnyH_ready (rs := [14]) (by kernel_rfl) (by simp) ?_
  refine AllReadyH.cons rfl (fun K hK => ?_) AllReadyH.nil
  go_simp
  refine (one_any (t.size : Int) _ (by omega) (by omega)).mono ?_
  rintro e w' ⟨rfl, hbb⟩
  go_wp2_with fail
  refine hK.out _ _ (hS.below hbb) (fun hS => ?_)
  clear hK K hbb
  try simp only [Act.put, List.getElem_toArray, List.getElem_cons_zero, List.getElem_cons_succ, List.setIfInBounds_toArray, List.set_cons_zero, List.set_cons_succ]
  refine wpAnyH_take (i := 15) (v := .string (S (encA 1 [c] ++ (encA 2 [q] ++ (encA 1 [h] ++ encA 1 [(t.size : Int)]))))) rfl (by kernel_rfl) (by kernel_rfl) (by kernel_rfl) (fun _ _ _ h => h) (Or.inl ⟨by kernel_rfl, fun w' hw => by have he := S_add (encA 1 [c] ++ (encA 2 [q] ++ encA 1 [h])) (encA 1 [(t.size : Int)]); have hz : ¬ 9223372036854775807 < (S (encA 1 [c] ++ (encA 2 [q] ++ encA 1 [h]))).size + (S (encA 1 [(t.size : Int)])).size := (by rw [S_size, S_size]; simp [encA, encN]); clear hS; go_simp⟩) hS ?_
  try simp only [Act.put, List.getElem_toArray, List.getElem_cons_zero, List.getElem_cons_succ, List.setIfInBounds_toArray, List.set_cons_zero, List.set_cons_succ]
  refine wpAnyH_take (i := 18) (v := .string (S (encA 1 [c] ++ (encA 2 [q] ++ (encA 1 [h] ++ (encA 1 [(t.size : Int)] ++ t.data.toList)))))) rfl (by kernel_rfl) (by kernel_rfl) (by kernel_rfl) (fun _ _ _ h => h) (Or.inl ⟨by kernel_rfl, fun w' hw => by have he := S_add' (encA 1 [c] ++ (encA 2 [q] ++ (encA 1 [h] ++ encA 1 [(t.size : Int)]))) t; have hz : ¬ 9223372036854775807 < (S (encA 1 [c] ++ (encA 2 [q] ++ (encA 1 [h] ++ encA 1 [(t.size : Int)])))).size + t.size := (by rw [S_size]; simp [encA, encN]; omega); clear hS; go_simp⟩) hS ?_
  try simp only [Act.put, List.getElem_toArray, List.getElem_cons_zero, List.getElem_cons_succ, List.setIfInBounds_toArray, List.set_cons_zero, List.set_cons_succ]
  refine wpAnyH_take (i := 19) (v := .string (S (encA 1 [c] ++ (encA 2 [q] ++ (encA 1 [h] ++ (encA 1 [(t.size : Int)] ++ t.data.toList)))))) rfl (by kernel_rfl) (by kernel_rfl) (by kernel_rfl) (fun _ _ _ h => h) (Or.inl ⟨by kernel_rfl, fun w' hw => by clear hS; go_simp⟩) hS ?_
  try simp only [Act.put, List.getElem_toArray, List.getElem_cons_zero, List.getElem_cons_succ, List.setIfInBounds_toArray, List.set_cons_zero, List.set_cons_succ]
  refine wpAnyH_done (by kernel_rfl) ?_ _
  go_wp2
  go_ret
  exact ⟨by simp only [List.append_assoc]; rfl, hS.2⟩
end Go.Proofs.YtnnhnekfokbooaaGreatDoor
