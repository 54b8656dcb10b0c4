/- The walk of a replica's list of what it accepted. -/
import Derived.Test.YtnnhnekfokbooaaCodeI
namespace Go.Proofs.Ytnnhnekfokbooaa
open Go.RowKit
set_option linter.unusedSimpArgs false
set_option linter.unusedVariables false

/-- Votes with a ballot. -/
def voted (l : List Vt) : List Vt := l.filter fun v => decide (0 < v.b)

theorem vcells_cut : ∀ (l : List Vt) (k : Nat) (hk : k < l.length), (List.drop (k * 6) (vcells l)).take 6 = l[k].cells
  | [], k, hk => by simp at hk
  | v :: l, 0, _ => by
    show (v.cells ++ vcells l).take 6 = v.cells
    exact List.take_left' rfl
  | v :: l, k + 1, hk => by
    have e : (k + 1) * 6 = v.cells.length + k * 6 := by show _ = 6 + _; omega
    rw [vcells, e, List.drop_append, List.drop_of_length_le (by omega), List.nil_append, Nat.add_sub_cancel_left]
    exact vcells_cut l k (by simpa using hk)
theorem voted_snoc (acc : List Vt) (k : Nat) (hk : k < acc.length) : voted (acc.take (k + 1)) = voted (acc.take k) ++ (if 0 < acc[k].b then [acc[k]] else []) := by
  rw [List.take_add_one, List.getElem?_eq_getElem hk]
  unfold voted
  rw [List.filter_append]
  congr 1
  by_cases h : 0 < acc[k].b
  · simp [h]
  · simp [h]
theorem voted_le (l : List Vt) : (voted l).length ≤ l.length := List.length_filter_le _ _

set_option maxRecDepth 100000 in
theorem index_vote (acc : List Vt) (hl : acc.length = 16) (k : Nat) (hk : k < acc.length) (w : World) :
    (Instr.index 78 (.agg (vcells acc).toArray) (.int .i64 (k : Int))).run Try.prog w = .ok (.agg acc[k].cells.toArray) w := by
  obtain ⟨i0, hi, hz0, hz1, hz2⟩ := info_parts Try.infoVote
  have q0 : (0 : Int) ≤ (k : Int) ∧ (k : Int) < 16 := by omega
  have q1 : (k : Int) < 16 := q0.2
  have hagg : (isAgg 77).run Try.prog w = .ok true w := by
    unfold isAgg
    rw [Sem.run_bind, run_underlying Try.underlying77 w]
    rfl
  simp [Instr.index, asIntOf, run_underlying Try.underlying78, q1, sizeOf, typeInfo, hi, hz1, part, hagg]
  rw [if_pos (by omega), vcells_cut acc k hk]

set_option maxHeartbeats 4000000 in
set_option maxRecDepth 100000 in
theorem allAccepted_any (rb : Nat) (acc : List Vt) (w : World) (hr : w.rangeAt rb 5 (vcells acc)) (hl : acc.length = 16) :
    Calls Try.prog 76 #[.pointer (some ⟨rb, 0, none⟩)] w fun e w' => ∃ v', e = .returned v' ∧ w'.ownsRow w.heap.size 77 6 v' (voted acc).length (vcells (voted acc)) ∧ Below w.heap.size w w' := by
  obtain ⟨i0, hi, hz0, hz1, hz2⟩ := info_parts Try.infoVote
  have hvl := vcells_length acc
  have hra : Hid (w.rangeAt rb 5 (vcells acc)) := hr
  have hi96 : Hid ((Try.prog.info? 78).map (·.size) = some (vcells acc).length) := show _ = _ from (by rw [hvl, hl]; kernel_rfl)
  go_enter Try.func76, Try.ntmps76
  go_upto_region 3 with (refine wpList_load_mid rfl 78 (.tmp 8) rfl rb 5 rfl (vcells acc) _ hra.out Try.underlying78 rfl hi96.out ?_)
  go_loopw [3, 10] (fun v i wr => ∃ k : Nat, k ≤ 16 ∧ i = .int .i64 k ∧ wr.ownsRow w.heap.size 77 6 v (voted (acc.take k)).length (vcells (voted (acc.take k))) ∧ Below w.heap.size w wr) (fun _ i _ => 16 - (intOf i).toNat)
  case atStart => exact ⟨0, by omega, rfl, World.ownsRow_nil _ _ _ _, Below.refl _ _⟩
  case round =>
    obtain ⟨k, hk, rfl, hown, hB⟩ := hrel
    obtain ⟨va, vn, vc, rfl⟩ := owns_slice1 hown
    by_cases hlt : k < 16
    · have q0 : (0 : Int) ≤ (k : Int) := by omega
      have q1 : (k : Int) < 16 := by omega
      have hka : k < acc.length := by omega
      have hix := index_vote acc hl k hka wr
      have hsn := voted_snoc acc k hka
      have hvn := voted_le (acc.take k)
      rw [List.length_take] at hvn
      generalize voted (acc.take k) = L at *
      have h1c := vcells_one [acc[k]]
      generalize acc[k] = y at *
      obtain ⟨ys, yb, ⟨yc, yq, yh, yt⟩⟩ := y
      simp only [Vt.cells] at hix hsn
      have HS := show Hid (voted (acc.take (k + 1)) = _) from hsn
      clear hsn
      have hLn : L.length ≤ 16 := by omega
      have hbb : L.length + 1 ≤ maxLen ∧ (L.length + 1) * 56 ≤ 140737488355328 := ⟨by unfold maxLen; omega, by omega⟩
      have hz := hB.size
      by_cases hyb : 0 < yb
      · have hd : decide (0 < yb) = true := by simpa using hyb
        go_wp2_with (at_builtin; refine wpList_append_lies _ rfl (.tmp 16) (.tmp 18) 98 rfl w.heap.size 77 i0 _ 6 56 Try.underlying98 hi hz0 hz1 hz2 rfl (by decide) (.slice va vn vc) L.length (vcells L) rfl (owns_alloc (owns_alloc hown _) _) _ 1 1 [.int .i64 ys, .int .i64 yb, .int .i64 yc, .int .i64 yq, .int .i64 yh, .string yt] rfl rfl (news_new _ _ (by simp) _ _) (by simpa [vcells, Vt.cells] using h1c) (by decide) hbb.1 hbb.2 (by simp; omega) _ rfl ?_; intro g cap w4 hown4 hgr hat hlt4)
        go_roundw
        case rel =>
          refine ⟨k + 1, by omega, by go_num, ?_, ?_⟩
          · rw [HS.out, if_pos hyb, vcells_append, List.length_append]
            simpa [vcells, Vt.cells] using hown4
          · refine ((hB.alloc (by omega) _).alloc (by simp; omega) _).trans ⟨hgr.os, hgr.tape, hgr.output, hgr.size, fun b hb => hgr.block b (by simp; omega) (fun e => by have := (World.ownsRow.lt hown b e.symm).1; omega)⟩
        case measure => simp [intOf]; omega
      · have hd : decide (0 < yb) = false := by simpa using hyb
        go_wp2_with fail
        go_roundw
        case rel =>
          refine ⟨k + 1, by omega, by go_num, ?_, hB.alloc (by omega) _⟩
          rw [HS.out, if_neg hyb, List.append_nil]
          exact owns_alloc hown _
        case measure => simp [intOf]; omega
    · obtain rfl : k = 16 := by omega
      go_wp2_with fail
      go_ret
      rw [List.take_of_length_le (by omega)] at hown
      exact ⟨_, rfl, hown, hB⟩
end Go.Proofs.Ytnnhnekfokbooaa
