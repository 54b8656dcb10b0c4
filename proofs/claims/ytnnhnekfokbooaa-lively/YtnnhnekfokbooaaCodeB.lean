/- The walks of slices.Clone, of votes and of messages. -/
import Derived.Test.YtnnhnekfokbooaaCodeA
import Derived.Test.YtnnhnekfokbooaaData
import Derived.Test.YtnnhnekfokbooaaKeep
namespace Go.Proofs.Ytnnhnekfokbooaa
open Go.RowKit
set_option linter.unusedSimpArgs false
set_option linter.unusedVariables false

/-- A slice value, and what lies behind it. -/
structure RowAt (w : World) (size : Nat) (v : Value) (n : Nat) (xs : List Value) : Prop where
  len : xs.length = n * size
  form : ∃ ao cap, v = .slice ao n cap ∧ (n ≠ 0 → ∃ g off, ao = some ⟨g, off, none⟩ ∧ g < w.heap.size ∧ ∀ j u, xs[j]? = some u → w.cell? ⟨g, off + j, none⟩ = some u)
theorem VAt.row {w : World} {v : Value} {l : List Vt} (h : VAt w v l) : RowAt w 6 v l.length (vcells l) := by
  refine ⟨vcells_length l, ?_⟩
  obtain ⟨ao, cap, e, hf⟩ := h.form
  exact ⟨ao, cap, e, fun hn => hf (fun hl => hn (by rw [hl]; rfl))⟩
theorem owns_row {w : World} {base : Nat} {e : TypeId} {size : Nat} {v : Value} {n : Nat} {xs : List Value} (h : w.ownsRow base e size v n xs) : RowAt w size v n xs := by
  refine ⟨h.1, ?_⟩
  rcases h.2 with ⟨rfl, rfl⟩ | ⟨g, cap, cur, rfl, h3, h4, h5, h6, h7, h8⟩
  · exact ⟨none, 0, rfl, fun hn => absurd rfl hn⟩
  · refine ⟨_, cap, rfl, fun _ => ⟨g, 0, rfl, lt_of_block h4, fun j u hu => ?_⟩⟩
    rw [Nat.zero_add, blk_cell h4, ← Array.getElem?_toList]
    rw [← h8, List.getElem?_take] at hu
    split at hu
    · exact hu
    · cases hu

section
variable {P : Program}
theorem run_append_none (w : World) (t ty e : TypeId) (i : TypeInfo) (ht : P.underlying t = some (.slice e)) (hi : P.info? e = some i) (g n cap : Nat) (hle : n ≤ cap) (x : Option Addr) (c : Nat) :
    (Builtin.append_ #[t, t] ty #[.slice (some ⟨g, 0, none⟩) n cap, .slice x 0 c]).run P w = .ok (.slice (some ⟨g, 0, none⟩) n cap) w := by
  have hl : ∀ (y : Addr), (loadCells y 0).run P w = .ok #[] w := fun y => by simpa using run_loadCells_list (P := P) w y [] (by simp)
  cases x <;> simp [Builtin.append_, run_underlying ht, sizeOf, typeInfo, hi, Builtin.lenOf, Builtin.firstCells, hle, hl, storeCells]
theorem run_eql_nil (w : World) (t e : TypeId) (a : Option Addr) (l c : Nat) (h : P.underlying t = some (.slice e)) : (binOp .eql t (.slice a l c) (.slice none 0 0)).run P w = .ok (.bool a.isNone) w := by
  simp only [binOp]
  simp [run_equal_slice_nil w t e a l c h]
end

theorem Try.infoMessage : (Try.prog.info? 100).map (fun i => (i.zero, i.size, i.bytes)) = some (some (.agg #[.int .i64 0, .int .i64 0, .int .i64 0, .int .i64 0, .int .i64 0, .int .i64 0, .int .i64 0, .int .i64 0, .string ⟨#[]⟩, .slice none 0 0]), 10, 104) := by kernel_rfl

set_option maxHeartbeats 2000000 in
set_option maxRecDepth 100000 in
theorem cloneV_any (v : Value) (n : Nat) (xs : List Value) (w : World) (hv : RowAt w 6 v n xs) (h1 : ∀ u ∈ xs, u.oneCell' = true) (hl : n ≤ 1000000) :
    Calls Try.prog 57 #[v] w fun e w' => ∃ v', e = .returned v' ∧ w'.ownsRow w.heap.size 77 6 v' n xs ∧ Below w.heap.size w w' := by
  obtain ⟨i0, hi, hz0, hz1, hz2⟩ := info_parts Try.infoVote
  obtain ⟨ao, cap, rfl, hf⟩ := hv.form
  have hxl := hv.len
  have heq := fun (W : World) => run_eql_nil (P := Try.prog) W 98 _ ao n cap Try.underlying98
  cases ao with
  | none =>
    have hn : n = 0 := by
      by_cases h : n = 0
      · exact h
      · obtain ⟨g, off, e, _⟩ := hf h; cases e
    subst hn
    obtain rfl : xs = [] := List.eq_nil_of_length_eq_zero (by omega)
    simp only [Option.isNone_none] at *
    go_enter Try.func57, Try.ntmps57
    go_wp2
    go_ret
    exact ⟨_, rfl, World.ownsRow_nil _ _ _ _, Below.refl _ _⟩
  | some a =>
    simp only [Option.isNone_some] at heq
    by_cases hne : n = 0
    · subst hne
      obtain rfl : xs = [] := List.eq_nil_of_length_eq_zero (by omega)
      go_enter Try.func57, Try.ntmps57
      go_wp2
      go_ret
      exact ⟨_, rfl, ⟨by simp, .inr ⟨w.heap.size, 0, #[], rfl, Nat.le_refl _, blk_new w _, Nat.le_refl _, by unfold maxLen; omega, rfl, rfl⟩⟩, (Below.refl _ _).alloc (Nat.le_refl _) _⟩
    · obtain ⟨g, off, e, hg, hc⟩ := hf hne
      injection e with e
      subst e
      have hpos : 0 < n := by omega
      have hown0 : (w.alloc (.cells #[] 77)).ownsRow w.heap.size 77 6 (.slice (some ⟨w.heap.size, 0, none⟩) 0 0) 0 [] := ⟨by simp, .inr ⟨w.heap.size, 0, #[], rfl, Nat.le_refl _, blk_new w _, Nat.le_refl _, by unfold maxLen; omega, rfl, rfl⟩⟩
      have hsrc : ∀ j u, xs[j]? = some u → (w.alloc (.cells #[] 77)).cell? ((⟨g, off, none⟩ : Addr).add j) = some u := fun j u hu => by
        rw [Addr.add_mid, World.cell?_alloc_lt _ _ _ hg]
        exact hc j u hu
      have hb1 : 0 + n ≤ maxLen ∧ (0 + n) * 56 ≤ 140737488355328 := ⟨by unfold maxLen; omega, by omega⟩
      go_enter Try.func57, Try.ntmps57
      go_wp2_with (at_builtin; refine wpList_append_lies _ rfl (.tmp 5) (.tmp 6) 98 rfl w.heap.size 77 i0 _ 6 56 Try.underlying98 hi hz0 hz1 hz2 rfl (by decide) (.slice (some ⟨w.heap.size, 0, none⟩) 0 0) 0 [] rfl hown0 _ n cap xs rfl hxl hsrc h1 hpos hb1.1 hb1.2 (by simp) _ rfl ?_; intro g' cap' w' hown hgr _ _)
      go_ret
      refine ⟨_, rfl, by simpa using hown, ?_⟩
      exact ((Below.refl _ w).alloc (Nat.le_refl _) (.cells #[] 77)).trans ⟨hgr.os, hgr.tape, hgr.output, hgr.size, fun k hk => hgr.block k (by rw [World.size_alloc]; omega) (by intro e; simp [Value.ownBlock] at e; omega)⟩

set_option maxHeartbeats 2000000 in
set_option maxRecDepth 100000 in
theorem cloneM_any (v : Value) (n : Nat) (xs : List Value) (w : World) (hv : RowAt w 10 v n xs) (h1 : ∀ u ∈ xs, u.oneCell' = true) (hl : n ≤ 1000000) :
    Calls Try.prog 56 #[v] w fun e w' => ∃ v', e = .returned v' ∧ w'.ownsRow w.heap.size 100 10 v' n xs ∧ Below w.heap.size w w' := by
  obtain ⟨i0, hi, hz0, hz1, hz2⟩ := info_parts Try.infoMessage
  obtain ⟨ao, cap, rfl, hf⟩ := hv.form
  have hxl := hv.len
  have heq := fun (W : World) => run_eql_nil (P := Try.prog) W 62 _ ao n cap Try.underlying62
  cases ao with
  | none =>
    have hn : n = 0 := by
      by_cases h : n = 0
      · exact h
      · obtain ⟨g, off, e, _⟩ := hf h; cases e
    subst hn
    obtain rfl : xs = [] := List.eq_nil_of_length_eq_zero (by omega)
    simp only [Option.isNone_none] at *
    go_enter Try.func56, Try.ntmps56
    go_wp2
    go_ret
    exact ⟨_, rfl, World.ownsRow_nil _ _ _ _, Below.refl _ _⟩
  | some a =>
    simp only [Option.isNone_some] at heq
    by_cases hne : n = 0
    · subst hne
      obtain rfl : xs = [] := List.eq_nil_of_length_eq_zero (by omega)
      go_enter Try.func56, Try.ntmps56
      go_wp2
      go_ret
      exact ⟨_, rfl, ⟨by simp, .inr ⟨w.heap.size, 0, #[], rfl, Nat.le_refl _, blk_new w _, Nat.le_refl _, by unfold maxLen; omega, rfl, rfl⟩⟩, (Below.refl _ _).alloc (Nat.le_refl _) _⟩
    · obtain ⟨g, off, e, hg, hc⟩ := hf hne
      injection e with e
      subst e
      have hpos : 0 < n := by omega
      have hown0 : (w.alloc (.cells #[] 100)).ownsRow w.heap.size 100 10 (.slice (some ⟨w.heap.size, 0, none⟩) 0 0) 0 [] := ⟨by simp, .inr ⟨w.heap.size, 0, #[], rfl, Nat.le_refl _, blk_new w _, Nat.le_refl _, by unfold maxLen; omega, rfl, rfl⟩⟩
      have hsrc : ∀ j u, xs[j]? = some u → (w.alloc (.cells #[] 100)).cell? ((⟨g, off, none⟩ : Addr).add j) = some u := fun j u hu => by
        rw [Addr.add_mid, World.cell?_alloc_lt _ _ _ hg]
        exact hc j u hu
      have hb1 : 0 + n ≤ maxLen ∧ (0 + n) * 104 ≤ 140737488355328 := ⟨by unfold maxLen; omega, by omega⟩
      go_enter Try.func56, Try.ntmps56
      go_wp2_with (at_builtin; refine wpList_append_lies _ rfl (.tmp 5) (.tmp 6) 62 rfl w.heap.size 100 i0 _ 10 104 Try.underlying62 hi hz0 hz1 hz2 rfl (by decide) (.slice (some ⟨w.heap.size, 0, none⟩) 0 0) 0 [] rfl hown0 _ n cap xs rfl hxl hsrc h1 hpos hb1.1 hb1.2 (by simp) _ rfl ?_; intro g' cap' w' hown hgr _ _)
      go_ret
      refine ⟨_, rfl, by simpa using hown, ?_⟩
      exact ((Below.refl _ w).alloc (Nat.le_refl _) (.cells #[] 100)).trans ⟨hgr.os, hgr.tape, hgr.output, hgr.size, fun k hk => hgr.block k (by rw [World.size_alloc]; omega) (by intro e; simp [Value.ownBlock] at e; omega)⟩
end Go.Proofs.Ytnnhnekfokbooaa
