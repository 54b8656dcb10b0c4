/- The walk of the list of all replicas' numbers. -/
import Derived.Test.YtnnhnekfokbooaaCodeG
namespace Go.Proofs.Ytnnhnekfokbooaa
open Go.RowKit
set_option linter.unusedSimpArgs false
set_option linter.unusedVariables false

/-- The numbers below n, as cells. -/
def nums (n : Nat) : List Value := (List.range n).map fun (i : Nat) => Value.int .i64 (i : Int)
theorem nums_length (n : Nat) : (nums n).length = n := by simp [nums]
theorem nums_at (n i : Nat) (h : i < n) : (nums n)[i]? = some (.int .i64 (i : Int)) := by simp [nums, h]
theorem Try.infoInt : (Try.prog.info? 3).map (fun i => (i.zero, i.size, i.bytes)) = some (some (.int .i64 0), 1, 8) := by kernel_rfl

set_option maxHeartbeats 4000000 in
set_option maxRecDepth 100000 in
theorem all_any (rb n : Nat) (w : World) (hc : w.cell? ⟨rb, 1, none⟩ = some (.int .i64 (n : Int))) (hn : n ≤ 1000) :
    Calls Try.prog 43 #[.pointer (some ⟨rb, 0, none⟩)] w fun e w' => ∃ v', e = .returned v' ∧ w'.ownsRow w.heap.size 3 1 v' n (nums n) ∧ Below w.heap.size w w' := by
  obtain ⟨i0, hi, hz0, hz1, hz2⟩ := info_parts Try.infoInt
  have hlt := World.block_lt_of_cell? w _ hc
  go_enter Try.func43, Try.ntmps43
  go_wp2_with (at_make; refine wpList_make_full _ rfl (.tmp 8) (.tmp 8) 22 rfl w.heap.size 3 i0 _ 1 Try.underlying22 hi hz0 hz1 _ _ _ _ n rfl rfl rfl rfl (by rw [hz2]; omega) (by unfold maxLen; omega) (Nat.le_refl _) ?_; intro w1 hown1 hgr1)
  obtain ⟨cur, hg1, hcs⟩ : ∃ cur : Array Value, w1.heap[w.heap.size]? = some (.cells cur 3 (0, 0)) ∧ cur.size = n := by
    rcases hown1.2 with ⟨h1, _⟩ | ⟨g, cap', cur, h1, _, h2, _, _, h3, _⟩
    · cases h1
    · cases h1; exact ⟨cur, h2, by simpa using h3⟩
  have hB1 : Below w.heap.size w w1 := ⟨hgr1.os, hgr1.tape, hgr1.output, hgr1.size, fun k hk => hgr1.block k hk (by simp)⟩
  clear hown1 hgr1
  go_loopw [4, 12] (fun q i wr => ∃ (j : Nat) (cz : Array Value), j ≤ n ∧ i = .int .i64 j ∧ wr.heap[w.heap.size]? = some (.cells cz 3 (0, 0)) ∧ cz.size = n ∧ (∀ x, x < j → cz[x]? = some (.int .i64 (x : Int))) ∧ Below w.heap.size w wr) (fun _ i _ => n - (intOf i).toNat)
  case atStart => exact ⟨0, cur, Nat.zero_le _, rfl, hg1, hcs, fun x hx => by omega, hB1⟩
  case round =>
    obtain ⟨j, cz, hj, rfl, hg, hsz, hx, hB⟩ := hrel
    by_cases hjn : j < n
    · have hc0 : wr.cell? ⟨w.heap.size, j, none⟩ = some cz[j] := by rw [blk_cell hg]; exact Array.getElem?_eq_getElem (by omega)
      have hf0 := blk_free hg
      generalize cz[j] = y at *
      have q0 : (0 : Int) ≤ (j : Int) := by omega
      have q1 : (j : Int) < (n : Int) := by omega
      go_wp2_with fail
      go_roundw
      case rel =>
        refine ⟨j + 1, _, by omega, by go_num, blk_set hg j (.int .i64 (j : Int)), by simpa using hsz, fun x hxj => ?_, hB.setCell (by simp) _⟩
        by_cases e : x = j
        · subst e
          rw [Array.getElem?_setIfInBounds_self_of_lt (by omega)]
        · rw [Array.getElem?_setIfInBounds_ne (by omega)]
          exact hx x (by omega)
      case measure => simp [intOf]; omega
    · obtain rfl : j = n := by omega
      go_wp2_with fail
      go_ret
      refine ⟨_, rfl, ⟨by simp [nums_length], .inr ⟨w.heap.size, j, cz, rfl, Nat.le_refl _, hg, Nat.le_refl _, by unfold maxLen; omega, by omega, ?_⟩⟩, hB⟩
      rw [Nat.mul_one, List.take_of_length_le (by simp; omega)]
      refine List.ext_getElem? fun x => ?_
      by_cases hxj : x < j
      · rw [Array.getElem?_toList, hx x hxj, nums_at j x hxj]
      · rw [List.getElem?_eq_none (by simp; omega), List.getElem?_eq_none (by rw [nums_length]; omega)]
end Go.Proofs.Ytnnhnekfokbooaa
