/- The walks of what roles tell. -/
import Derived.Test.YtnnhnekfokbooaaCodeN
namespace Go.Proofs.Ytnnhnekfokbooaa
open Go.RowKit
set_option linter.unusedSimpArgs false
set_option linter.unusedVariables false

set_option maxHeartbeats 4000000 in
theorem tell_any (k b : Int) (w : World) :
    Calls Try.prog 103 #[.agg #[.int .i64 k, .int .i64 b]] w fun e w' => e = .returned (.agg #[.int .i64 k, .int .i64 b, .int .i64 0, .int .i64 0]) ∧ Below w.heap.size w w' := by
  go_enter Try.func103, Try.ntmps103
  go_wp2
  refine bodyPost_ret (v := .agg #[.int .i64 k, .int .i64 b, .int .i64 0, .int .i64 0]) (by simp [results, Try.results103, go_sem]) rfl ⟨rfl, ?_⟩
  repeat refine Below.setCell ?_ (by simp) _
  exact ((Below.refl _ w).alloc (Nat.le_refl _) _).alloc (by simp) _
set_option maxHeartbeats 4000000 in
theorem ltell_any (lb : Nat) (k b n : Int) (w : World) (h0 : w.cell? ⟨lb, 0, none⟩ = some (.int .i64 k)) (h1 : w.cell? ⟨lb, 1, none⟩ = some (.int .i64 b)) (h2 : w.cell? ⟨lb, 2, none⟩ = some (.int .i64 n)) :
    Calls Try.prog 104 #[.pointer (some ⟨lb, 0, none⟩)] w fun e w' => e = .returned (.agg #[.int .i64 k, .int .i64 b, .int .i64 0, .int .i64 n]) ∧ Below w.heap.size w w' := by
  have hlt := World.block_lt_of_cell? w _ h0
  have hq := blk_new w (.cells #[.int .i64 0, .int .i64 0, .int .i64 0, .int .i64 0] 33)
  go_enter Try.func104, Try.ntmps104
  go_wp2_with fail
  refine (tell_any k b _).mono ?_
  rintro e w1 ⟨rfl, hB1⟩
  have hq1 := blk_below hB1 hq
  have hqc := blk_cell hq1
  have hqf := blk_free hq1
  have hz1 := lt_of_block hq1
  have c2 : w1.cell? ⟨lb, 2, none⟩ = some (.int .i64 n) := by
    rw [hB1.cell (p := ⟨lb, 2, none⟩) (by simp; omega), World.cell?_alloc_lt _ _ _ hlt]; exact h2
  have hlb1 : lb < w1.heap.size := by omega
  have hlb2 : w.heap.size ≠ w1.heap.size := by omega
  go_wp2
  refine bodyPost_ret (v := .agg #[.int .i64 k, .int .i64 b, .int .i64 0, .int .i64 n]) (by simp [results, Try.results104, go_sem, hqc, hz1]) rfl ⟨rfl, ?_⟩
  refine Below.alloc ?_ (by simp [World.setCell]; omega) _
  repeat refine Below.setCell ?_ (by simp) _
  exact ((Below.refl _ w).alloc (Nat.le_refl _) _).trans (hB1.mono (by simp))
end Go.Proofs.Ytnnhnekfokbooaa
