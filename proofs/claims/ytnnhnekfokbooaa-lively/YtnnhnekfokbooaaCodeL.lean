/- The walk of a replica's decide (laid by mkdecide.py). -/
import Derived.Test.YtnnhnekfokbooaaCodeK
namespace Go.Proofs.Ytnnhnekfokbooaa
open Go.RowKit
set_option linter.unusedSimpArgs false
set_option linter.unusedVariables false

set_option maxHeartbeats 4000000 in
set_option maxRecDepth 100000 in
theorem decide_any (rb slot : Nat) (cs : Array Value) (c q h : Int) (t : ByteArray) (w : World) (hb : w.heap[rb]? = some (.cells cs 85 (0, 0))) (hcs : cs.size = 182) (hs : slot < 16) :
    Calls Try.prog 81 #[.pointer (some ⟨rb, 0, none⟩), .int .i64 (slot : Int), .agg #[.int .i64 c, .int .i64 q, .int .i64 h, .string t]] w fun e w' => e = .returned (.tuple #[]) ∧
      w'.heap[rb]? = some (.cells (cs.toList.take (101 + slot * 5) ++ [Value.bool true, Value.int .i64 c, Value.int .i64 q, Value.int .i64 h, Value.string t] ++ cs.toList.drop (101 + slot * 5 + 5)).toArray 85 (0, 0)) ∧ Keeps (fun k => k = rb) w w' := by
  have hlt := lt_of_block hb
  have q0 : (0 : Int) ≤ (slot : Int) := by omega
  have q1 : (slot : Int) < 16 := by omega
  have hbox := blk_new w (.cells #[.int .i64 c, .int .i64 q, .int .i64 h, .string t] 38)
  have hb1 := blk_alloc hb (.cells #[.int .i64 c, .int .i64 q, .int .i64 h, .string t] 38)
  have hf1 := blk_free hb1
  go_enter Try.func81, Try.ntmps81
  go_wp2_with fail
  have hth : World.there (w.alloc (.cells #[.int .i64 c, .int .i64 q, .int .i64 h, .string t] 38)).drew rb (101 + slot * 5) 5 := fun j hj => ⟨by show (World.cell? (w.alloc _) _).isSome = true; rw [blk_cell hb1, Array.getElem?_eq_getElem (by omega)]; rfl, hf1 _⟩
  have hi5 : (Try.prog.info? 80).map (·.size) = some (#[.bool true, .int .i64 c, .int .i64 q, .int .i64 h, .string t] : Array Value).size := by kernel_rfl
  have h15 : (#[.bool true, .int .i64 c, .int .i64 q, .int .i64 h, .string t] : Array Value).all (·.oneCell') = true := by simp [Value.oneCell']
  refine wp_region_held_drew (S := fun w' => w'.heap[w.heap.size]? = some (.cells #[.int .i64 c, .int .i64 q, .int .i64 h, .string t] 38 (0, 0))) (by kernel_rfl) (hbox) (fun hS => ?_)
  refine wpAnyH_take (i := 0) (v := .pointer (some ⟨rb, 0, none⟩)) rfl (by kernel_rfl) (by kernel_rfl) (by kernel_rfl) (fun _ _ _ h => h) (Or.inl ⟨by kernel_rfl, fun w' hw => by clear hS; go_simp⟩) hS ?_
  try simp only [Act.put, List.getElem_toArray, List.getElem_cons_zero, List.getElem_cons_succ, List.setIfInBounds_toArray, List.set_cons_zero, List.set_cons_succ]
  refine wpAnyH_take (i := 1) (v := .int .i64 (slot : Int)) rfl (by kernel_rfl) (by kernel_rfl) (by kernel_rfl) (fun _ _ _ h => h) (Or.inl ⟨by kernel_rfl, fun w' hw => by clear hS; go_simp⟩) hS ?_
  try simp only [Act.put, List.getElem_toArray, List.getElem_cons_zero, List.getElem_cons_succ, List.setIfInBounds_toArray, List.set_cons_zero, List.set_cons_succ]
  refine wpAnyH_take (i := 2) (v := .agg #[.int .i64 c, .int .i64 q, .int .i64 h, .string t]) rfl (by kernel_rfl) (by kernel_rfl) (by kernel_rfl) (fun _ _ _ h => h) (Or.inl ⟨by kernel_rfl, fun w' hw => by have c := blk_cell hw; clear hS; go_simp⟩) hS ?_
  try simp only [Act.put, List.getElem_toArray, List.getElem_cons_zero, List.getElem_cons_succ, List.setIfInBounds_toArray, List.set_cons_zero, List.set_cons_succ]
  refine wpAnyH_take (i := 3) (v := .agg #[.bool true, .int .i64 c, .int .i64 q, .int .i64 h, .string t]) rfl (by kernel_rfl) (by kernel_rfl) (by kernel_rfl) (fun _ _ _ h => h) (Or.inl ⟨by kernel_rfl, fun w' hw => by clear hS; go_simp⟩) hS ?_
  try simp only [Act.put, List.getElem_toArray, List.getElem_cons_zero, List.getElem_cons_succ, List.setIfInBounds_toArray, List.set_cons_zero, List.set_cons_succ]
  refine wpAnyH_take (i := 4) (v := .pointer (some ⟨rb, 0, none⟩)) rfl (by kernel_rfl) (by kernel_rfl) (by kernel_rfl) (fun _ _ _ h => h) (Or.inl ⟨by kernel_rfl, fun w' hw => by clear hS; go_simp⟩) hS ?_
  try simp only [Act.put, List.getElem_toArray, List.getElem_cons_zero, List.getElem_cons_succ, List.setIfInBounds_toArray, List.set_cons_zero, List.set_cons_succ]
  refine wpAnyH_take (i := 5) (v := .pointer (some ⟨rb, 101, none⟩)) rfl (by kernel_rfl) (by kernel_rfl) (by kernel_rfl) (fun _ _ _ h => h) (Or.inl ⟨by kernel_rfl, fun w' hw => by clear hS; go_simp⟩) hS ?_
  try simp only [Act.put, List.getElem_toArray, List.getElem_cons_zero, List.getElem_cons_succ, List.setIfInBounds_toArray, List.set_cons_zero, List.set_cons_succ]
  refine wpAnyH_take (i := 6) (v := .pointer (some ⟨rb, 101 + slot * 5, none⟩)) rfl (by kernel_rfl) (by kernel_rfl) (by kernel_rfl) (fun _ _ _ h => h) (Or.inl ⟨by kernel_rfl, fun w' hw => by clear hS; go_simp⟩) hS ?_
  try simp only [Act.put, List.getElem_toArray, List.getElem_cons_zero, List.getElem_cons_succ, List.setIfInBounds_toArray, List.set_cons_zero, List.set_cons_succ]
  refine wpAnyH_ready (rs := [7]) (by kernel_rfl) (by simp) ?_
  refine AllReadyH.cons rfl (fun K hK => ?_) AllReadyH.nil
  rw [if_pos (by kernel_rfl)]
  refine wp_store_mid 80 (.tmp 12) (.tmp 9) rfl rb (101 + slot * 5) #[.bool true, .int .i64 c, .int .i64 q, .int .i64 h, .string t] rfl rfl hth hi5 h15 ?_
  refine hK.out _ _ ?_ (fun hS => ?_)
  · show (World.setCells _ _ _ _).heap[_]? = _
    rw [setCells_other rb _ _ _ _ (by omega)]
    exact hbox
  clear hK K
  try simp only [Act.put, List.getElem_toArray, List.getElem_cons_zero, List.getElem_cons_succ, List.setIfInBounds_toArray, List.set_cons_zero, List.set_cons_succ]
  refine wpAnyH_done (by kernel_rfl) ?_ _
  go_wp2_with fail
  go_end0
  refine ⟨rfl, ?_, ?_⟩
  · have X := setCells_self rb 85 [.bool true, .int .i64 c, .int .i64 q, .int .i64 h, .string t] (101 + slot * 5) _ cs (blk_drew hb1) (by simp; omega)
    simpa using X
  · exact Keeps.trans (Keeps.ofBelow (((Below.refl _ w).alloc (Nat.le_refl _) (.cells #[.int .i64 c, .int .i64 q, .int .i64 h, .string t] 38)).drew)) (Keeps.ofSets (P := fun k => k = rb) rb rfl _ _ _)
end Go.Proofs.Ytnnhnekfokbooaa
