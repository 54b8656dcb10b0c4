/- The walk of a replica's log. -/
import Derived.Test.YtnnhnekfokbooaaCodeJ
namespace Go.Proofs.Ytnnhnekfokbooaa
open Go.RowKit
set_option linter.unusedSimpArgs false
set_option linter.unusedVariables false

/-- What is decided for a slot: is it, and what. -/
structure Dn where
  m : Bool
  p : Pst
def Dn.cells (d : Dn) : List Value := [.bool d.m, .int .i64 d.p.c, .int .i64 d.p.q, .int .i64 d.p.h, .string d.p.t]
def dcells : List Dn → List Value
  | [] => []
  | d :: l => d.cells ++ dcells l
theorem dcells_length (l : List Dn) : (dcells l).length = l.length * 5 := by
  induction l with
  | nil => rfl
  | cons x l ih => simp [dcells, ih, Dn.cells]; omega
def pcells : List Pst → List Value
  | [] => []
  | p :: l => p.cells ++ pcells l
theorem pcells_append (a b : List Pst) : pcells (a ++ b) = pcells a ++ pcells b := by
  induction a with
  | nil => rfl
  | cons x l ih => simp [pcells, ih]
theorem pcells_length (l : List Pst) : (pcells l).length = l.length * 4 := by
  induction l with
  | nil => rfl
  | cons x l ih => simp [pcells, ih, Pst.cells]; omega
/-- The log: what is decided, up to the first slot that is not. -/
def logOf (l : List Dn) : List Pst := (l.takeWhile (·.m)).map (·.p)
theorem log_le (l : List Dn) : (logOf l).length ≤ l.length := by
  unfold logOf
  rw [List.length_map]
  exact (List.takeWhile_prefix _).length_le
theorem Try.infoPost : (Try.prog.info? 38).map (fun i => (i.zero, i.size, i.bytes)) = some (some (.agg #[.int .i64 0, .int .i64 0, .int .i64 0, .string ⟨#[]⟩]), 4, 40) := by kernel_rfl
theorem Try.infoDecision : (Try.prog.info? 80).map (fun i => (i.zero, i.size, i.bytes)) = some (some (.agg #[.bool false, .int .i64 0, .int .i64 0, .int .i64 0, .string ⟨#[]⟩]), 5, 48) := by kernel_rfl
theorem dcells_cut : ∀ (l : List Dn) (k : Nat) (hk : k < l.length), (List.drop (k * 5) (dcells l)).take 5 = l[k].cells
  | [], k, hk => by simp at hk
  | v :: l, 0, _ => by
    show (v.cells ++ dcells l).take 5 = v.cells
    exact List.take_left' rfl
  | v :: l, k + 1, hk => by
    have e : (k + 1) * 5 = v.cells.length + k * 5 := by show _ = 5 + _; omega
    rw [dcells, e, List.drop_append, List.drop_of_length_le (by omega), List.nil_append, Nat.add_sub_cancel_left]
    exact dcells_cut l k (by simpa using hk)
set_option maxRecDepth 100000 in
theorem index_dec (acc : List Dn) (hl : acc.length = 16) (k : Nat) (hk : k < acc.length) (w : World) :
    (Instr.index 81 (.agg (dcells acc).toArray) (.int .i64 (k : Int))).run Try.prog w = .ok (.agg acc[k].cells.toArray) w := by
  obtain ⟨i0, hi, hz0, hz1, hz2⟩ := info_parts Try.infoDecision
  have q1 : (k : Int) < 16 := by omega
  have hagg : (isAgg 80).run Try.prog w = .ok true w := by
    unfold isAgg
    rw [Sem.run_bind, run_underlying Try.underlying80 w]
    rfl
  simp [Instr.index, asIntOf, run_underlying Try.underlying81, q1, sizeOf, typeInfo, hi, hz1, part, hagg]
  rw [if_pos (by omega), dcells_cut acc k hk]

set_option maxHeartbeats 4000000 in
set_option maxRecDepth 100000 in
theorem log_any (rb : Nat) (dec : List Dn) (w : World) (hr : w.rangeAt rb 101 (dcells dec)) (hl : dec.length = 16) :
    Calls Try.prog 35 #[.pointer (some ⟨rb, 0, none⟩)] w fun e w' => ∃ v', e = .returned v' ∧ w'.ownsRow w.heap.size 38 4 v' (logOf dec).length (pcells (logOf dec)) ∧ Below w.heap.size w w' := by
  obtain ⟨i0, hi, hz0, hz1, hz2⟩ := info_parts Try.infoPost
  have hvl := dcells_length dec
  have hra : Hid (w.rangeAt rb 101 (dcells dec)) := hr
  have hi80 : Hid ((Try.prog.info? 81).map (·.size) = some (dcells dec).length) := show _ = _ from (by rw [hvl, hl]; kernel_rfl)
  go_enter Try.func35, Try.ntmps35
  go_upto_region 3 with (refine wpList_load_mid rfl 81 (.tmp 8) rfl rb 101 rfl (dcells dec) _ hra.out Try.underlying81 rfl hi80.out ?_)
  go_loopw [3, 10] (fun v i wr => ∃ (k : Nat) (L : List Pst), k ≤ 16 ∧ i = .int .i64 k ∧ L.length = k ∧ logOf dec = L ++ logOf (dec.drop k) ∧ wr.ownsRow w.heap.size 38 4 v L.length (pcells L) ∧ Below w.heap.size w wr) (fun _ i _ => 16 - (intOf i).toNat)
  case atStart => exact ⟨0, [], by omega, rfl, rfl, rfl, World.ownsRow_nil _ _ _ _, Below.refl _ _⟩
  case round =>
    obtain ⟨k, L, hk, rfl, hLk, hlog, hown, hB⟩ := hrel
    obtain ⟨va, vn, vc, rfl⟩ := owns_slice1 hown
    have HL : Hid (logOf dec = L ++ logOf (dec.drop k)) := hlog
    clear hlog
    by_cases hlt : k < 16
    · have q0 : (0 : Int) ≤ (k : Int) := by omega
      have q1 : (k : Int) < 16 := by omega
      have hka : k < dec.length := by omega
      have hix := index_dec dec hl k hka wr
      have hdr : dec.drop k = dec[k] :: dec.drop (k + 1) := List.drop_eq_getElem_cons hka
      generalize dec[k] = y at *
      have HD : Hid (dec.drop k = y :: dec.drop (k + 1)) := hdr
      clear hdr
      obtain ⟨ym, ⟨yc, yq, yh, yt⟩⟩ := y
      simp only [Dn.cells] at hix
      have hbb : L.length + 1 ≤ maxLen ∧ (L.length + 1) * 40 ≤ 140737488355328 := ⟨by unfold maxLen; omega, by omega⟩
      have hz := hB.size
      have h1c : ∀ u ∈ [Value.int .i64 yc, .int .i64 yq, .int .i64 yh, .string yt], u.oneCell' = true := by
        intro u hu; simp at hu; rcases hu with rfl | rfl | rfl | rfl <;> rfl
      cases ym
      · go_wp2_with fail
        go_ret
        have e0 : logOf dec = L := by rw [HL.out, HD.out]; simp [logOf]
        rw [e0]
        exact ⟨_, rfl, owns_alloc hown _, hB.alloc (by omega) _⟩
      · go_wp2_with (at_builtin; refine wpList_append_lies _ rfl (.tmp 16) (.tmp 19) 25 rfl w.heap.size 38 i0 _ 4 40 Try.underlying25 hi hz0 hz1 hz2 rfl (by decide) (.slice va vn vc) L.length (pcells L) rfl (owns_alloc (owns_alloc hown _) _) _ 1 1 [.int .i64 yc, .int .i64 yq, .int .i64 yh, .string yt] rfl rfl (news_new _ _ (by simp) _ _) h1c (by decide) hbb.1 hbb.2 (by simp; omega) _ rfl ?_; intro g cap w4 hown4 hgr hat hlt4)
        go_roundw
        case rel =>
          refine ⟨k + 1, L ++ [⟨yc, yq, yh, yt⟩], by omega, by go_num, by simp [hLk], ?_, ?_, ?_⟩
          · rw [HL.out, HD.out]; simp [logOf]
          · rw [pcells_append, List.length_append]
            simpa [pcells, Pst.cells, hLk] using hown4
          · refine ((hB.alloc (by omega) _).alloc (by simp; omega) _).trans ⟨hgr.os, hgr.tape, hgr.output, hgr.size, fun b hb => hgr.block b (by simp; omega) (fun e => by have := (World.ownsRow.lt hown b e.symm).1; omega)⟩
        case measure => simp [intOf]; omega
    · go_wp2_with fail
      go_ret
      have e0 : logOf dec = L := by rw [HL.out, List.drop_of_length_le (by omega)]; simp [logOf]
      rw [e0]
      exact ⟨_, rfl, hown, hB⟩
end Go.Proofs.Ytnnhnekfokbooaa
