/- The walk of preparing's keep (laid by mkkeep.py). -/
import Derived.Test.YtnnhnekfokbooaaCodeM
namespace Go.Proofs.Ytnnhnekfokbooaa
open Go.RowKit
set_option linter.unusedSimpArgs false
set_option linter.unusedVariables false

/-- Of each slot the vote of the greatest ballot is kept. -/
def keep1 (kept : List Vt) (v : Vt) : List Vt := if (kept.getD v.s.toNat ⟨0, 0, ⟨0, 0, 0, ⟨#[]⟩⟩⟩).b < v.b then kept.set v.s.toNat v else kept
def keepAll (kept : List Vt) : List Vt → List Vt
  | [] => kept
  | v :: l => keepAll (keep1 kept v) l
theorem keepAll_snoc : ∀ (a : List Vt) (v : Vt) (kept : List Vt), keepAll kept (a ++ [v]) = keep1 (keepAll kept a) v
  | [], v, kept => rfl
  | x :: a, v, kept => keepAll_snoc a v _
theorem keep1_length (kept : List Vt) (v : Vt) : (keep1 kept v).length = kept.length := by
  unfold keep1; split <;> simp
theorem keepAll_length : ∀ (a : List Vt) (kept : List Vt), (keepAll kept a).length = kept.length
  | [], kept => rfl
  | v :: a, kept => by rw [keepAll, keepAll_length a, keep1_length]
theorem vcells_set : ∀ (l : List Vt) (k : Nat) (hk : k < l.length) (v : Vt), (vcells l).take (k * 6) ++ v.cells ++ (vcells l).drop (k * 6 + 6) = vcells (l.set k v)
  | [], k, hk, _ => by simp at hk
  | x :: l, 0, _, v => by
    rw [List.set_cons_zero, vcells, vcells]
    have e : (x.cells ++ vcells l).drop (0 * 6 + 6) = vcells l := List.drop_left' rfl
    rw [e]; simp
  | x :: l, k + 1, hk, v => by
    have e1 : (k + 1) * 6 = x.cells.length + k * 6 := by show _ = 6 + _; omega
    have e2 : (k + 1) * 6 + 6 = x.cells.length + (k * 6 + 6) := by show _ = 6 + _; omega
    rw [List.set_cons_succ, vcells, vcells, e2, e1, ← vcells_set l k (by simpa using hk) v]
    rw [List.take_append, List.take_of_length_le (by omega), List.drop_append, List.drop_of_length_le (by omega), Nat.add_sub_cancel_left, Nat.add_sub_cancel_left]
    simp

set_option maxHeartbeats 4000000 in
set_option maxRecDepth 100000 in
theorem keep_any (pb : Nat) (hd : List Value) (kept l : List Vt) (v : Value) (w : World) (hb : w.heap[pb]? = some (.cells (hd ++ vcells kept).toArray 96 (0, 0))) (hhd : hd.length = 10) (hkl : kept.length = 16) (hv : VAt w v l) (hvp : ∀ g, v.ownBlock = some g → g ≠ pb)
    (hl : l.length ≤ 1000) (hs : ∀ x ∈ l, 0 ≤ x.s ∧ x.s < 16) :
    Calls Try.prog 78 #[.pointer (some ⟨pb, 0, none⟩), v] w fun e w' => e = .returned (.tuple #[]) ∧ w'.heap[pb]? = some (.cells (hd ++ vcells (keepAll kept l)).toArray 96 (0, 0)) ∧ Keeps (fun k => k = pb) w w' := by
  have hlt := lt_of_block hb
  obtain ⟨ao, cap, rfl, hf⟩ := hv.form
  go_enter Try.func78, Try.ntmps78
  go_wp2_with fail
  go_loopw [8] (fun i wr => ∃ j : Nat, j ≤ l.length ∧ i = .int .i64 j ∧ wr.heap[pb]? = some (.cells (hd ++ vcells (keepAll kept (l.take j))).toArray 96 (0, 0)) ∧ Keeps (fun k => k = pb) w wr) (fun i _ => l.length - (intOf i).toNat)
  case atStart => exact ⟨0, Nat.zero_le _, rfl, hb, Keeps.refl _ _⟩
  case round =>
    obtain ⟨j, hj, rfl, hbj, hKp⟩ := hrel
    have hpl := lt_of_block hbj
    by_cases hjn : j < l.length
    · obtain ⟨g, off, rfl, hg, hc⟩ := hf (by intro e; subst e; simp at hjn)
      have hgp := hvp g rfl
      have src : ∀ i (hi : i < 6), wr.cell? ⟨g, off + j * 6 + i, none⟩ = l[j].cells[i]? := fun i hi => by
        have e := vcells_at l j hjn i hi
        rw [World.cell?_of_block (w := w) (hKp.block g hg hgp), Nat.add_assoc]
        have hl6 : i < l[j].cells.length := by simpa [Vt.cells] using hi
        rw [List.getElem?_eq_getElem hl6] at e ⊢
        exact hc _ _ e
      have c0 := src 0 (by decide)
      have c1 := src 1 (by decide)
      have c2 := src 2 (by decide)
      have c3 := src 3 (by decide)
      have c4 := src 4 (by decide)
      have c5 := src 5 (by decide)
      have hsj := hs l[j] (List.getElem_mem hjn)
      have hgz : g < wr.heap.size := Nat.lt_of_lt_of_le hg hKp.size
      have hpz : pb < wr.heap.size := hpl
      have htk : l.take (j + 1) = l.take j ++ [l[j]] := by rw [List.take_add_one, List.getElem?_eq_getElem hjn]; rfl
      have hkn := keepAll_snoc (l.take j) l[j] kept
      rw [← htk] at hkn
      have hkl2 := keepAll_length (l.take j) kept
      generalize keepAll kept (l.take j) = kj at *
      have HK : Hid (keepAll kept (l.take (j + 1)) = keep1 kj l[j]) := hkn
      clear hkn
      generalize l[j] = y at *
      obtain ⟨ys, yb, ⟨yc, yq, yh, yt⟩⟩ := y
      obtain ⟨s, rfl⟩ := Int.eq_ofNat_of_zero_le hsj.1
      have hs16 : s < kj.length := by have := hsj.2; simp at this; omega
      simp only [Vt.cells, List.getElem?_cons_zero, List.getElem?_cons_succ, Nat.add_zero] at c0 c1 c2 c3 c4 c5
      have q0 : (0 : Int) ≤ (j : Int) := by omega
      have q1 : (j : Int) < (l.length : Int) := by omega
      have q2 : (0 : Int) ≤ (s : Int) := by omega
      have q3 : (s : Int) < 16 := by omega
      have ck : wr.cell? ⟨pb, 10 + s * 6 + 1, none⟩ = some (.int .i64 kj[s].b) := by
        rw [blk_cell hbj, List.getElem?_toArray, List.getElem?_append_right (by omega), hhd]
        have e1 : 10 + s * 6 + 1 - 10 = s * 6 + 1 := by omega
        rw [e1, vcells_at kj s hs16 1 (by decide)]
        rfl
      have hgd : (kj.getD s ⟨0, 0, ⟨0, 0, 0, ⟨#[]⟩⟩⟩).b = kj[s].b := by rw [List.getD_eq_getElem?_getD, List.getElem?_eq_getElem hs16]; rfl
      have hbf := blk_free hbj
      have hle : (hd ++ vcells kj).length = 106 := by rw [List.length_append, vcells_length]; omega
      clear src
      have hboxq : ∀ q, ((wr.alloc (.cells #[.int .i64 (s : Int), .int .i64 yb, .int .i64 yc, .int .i64 yq, .int .i64 yh, .string yt] 77)).drewN q).heap[wr.heap.size]? = some (.cells #[.int .i64 (s : Int), .int .i64 yb, .int .i64 yc, .int .i64 yq, .int .i64 yh, .string yt] 77 (0, 0)) := fun q => blk_new wr _
      have hthq : ∀ q, World.there ((wr.alloc (.cells #[.int .i64 (s : Int), .int .i64 yb, .int .i64 yc, .int .i64 yq, .int .i64 yh, .string yt] 77)).drewN q) pb (10 + s * 6) 6 := fun q j hj => ⟨by show (World.cell? (wr.alloc _) _).isSome = true; rw [blk_cell (blk_alloc hbj _), Array.getElem?_eq_getElem (by rw [List.size_toArray]; omega)]; rfl, blk_free (blk_alloc hbj _) _⟩
      have hi6 : (Try.prog.info? 77).map (·.size) = some (#[.int .i64 (s : Int), .int .i64 yb, .int .i64 yc, .int .i64 yq, .int .i64 yh, .string yt] : Array Value).size := by kernel_rfl
      have h16 : (#[.int .i64 (s : Int), .int .i64 yb, .int .i64 yc, .int .i64 yq, .int .i64 yh, .string yt] : Array Value).all (·.oneCell') = true := by simp [Value.oneCell']
      by_cases hlt2 : kj[s].b < yb
      · have hdd : decide (kj[s].b < yb) = true := by simpa using hlt2
        have hk1 : keep1 kj ⟨(s : Int), yb, ⟨yc, yq, yh, yt⟩⟩ = kj.set s ⟨(s : Int), yb, ⟨yc, yq, yh, yt⟩⟩ := by simp only [keep1, Int.toNat_natCast]; rw [hgd, if_pos hlt2]
        generalize kj[s].b = kb at *
        go_wp2_with fail
        go_quiet (fail)
        go_wp2_with fail
        refine wp_region_held_drew (S := fun w' => w'.heap[wr.heap.size]? = some (.cells #[.int .i64 (s : Int), .int .i64 yb, .int .i64 yc, .int .i64 yq, .int .i64 yh, .string yt] 77 (0, 0))) (by kernel_rfl) (hboxq 0) (fun hS => ?_)
        refine wpAnyH_take (i := 0) (v := .pointer (some ⟨pb, 0, none⟩)) rfl (by kernel_rfl) (by kernel_rfl) (by kernel_rfl) (fun _ _ _ h => h) (Or.inl ⟨by kernel_rfl, fun w' hw => by clear hS; go_simp⟩) hS ?_
        try simp only [Act.put, List.getElem_toArray, List.getElem_cons_zero, List.getElem_cons_succ, List.setIfInBounds_toArray, List.set_cons_zero, List.set_cons_succ]
        refine wpAnyH_take (i := 1) (v := .pointer (some ⟨wr.heap.size, 0, none⟩)) rfl (by kernel_rfl) (by kernel_rfl) (by kernel_rfl) (fun _ _ _ h => h) (Or.inl ⟨by kernel_rfl, fun w' hw => by clear hS; go_simp⟩) hS ?_
        try simp only [Act.put, List.getElem_toArray, List.getElem_cons_zero, List.getElem_cons_succ, List.setIfInBounds_toArray, List.set_cons_zero, List.set_cons_succ]
        refine wpAnyH_take (i := 2) (v := .int .i64 (s : Int)) rfl (by kernel_rfl) (by kernel_rfl) (by kernel_rfl) (fun _ _ _ h => h) (Or.inl ⟨by kernel_rfl, fun w' hw => by have c := blk_cell hw; clear hS; go_simp⟩) hS ?_
        try simp only [Act.put, List.getElem_toArray, List.getElem_cons_zero, List.getElem_cons_succ, List.setIfInBounds_toArray, List.set_cons_zero, List.set_cons_succ]
        refine wpAnyH_take (i := 3) (v := .agg #[.int .i64 (s : Int), .int .i64 yb, .int .i64 yc, .int .i64 yq, .int .i64 yh, .string yt]) rfl (by kernel_rfl) (by kernel_rfl) (by kernel_rfl) (fun _ _ _ h => h) (Or.inl ⟨by kernel_rfl, fun w' hw => by have c := blk_cell hw; clear hS; go_simp⟩) hS ?_
        try simp only [Act.put, List.getElem_toArray, List.getElem_cons_zero, List.getElem_cons_succ, List.setIfInBounds_toArray, List.set_cons_zero, List.set_cons_succ]
        refine wpAnyH_take (i := 4) (v := .pointer (some ⟨pb, 0, none⟩)) rfl (by kernel_rfl) (by kernel_rfl) (by kernel_rfl) (fun _ _ _ h => h) (Or.inl ⟨by kernel_rfl, fun w' hw => by clear hS; go_simp⟩) hS ?_
        try simp only [Act.put, List.getElem_toArray, List.getElem_cons_zero, List.getElem_cons_succ, List.setIfInBounds_toArray, List.set_cons_zero, List.set_cons_succ]
        refine wpAnyH_take (i := 5) (v := .pointer (some ⟨pb, 10, none⟩)) rfl (by kernel_rfl) (by kernel_rfl) (by kernel_rfl) (fun _ _ _ h => h) (Or.inl ⟨by kernel_rfl, fun w' hw => by clear hS; go_simp⟩) hS ?_
        try simp only [Act.put, List.getElem_toArray, List.getElem_cons_zero, List.getElem_cons_succ, List.setIfInBounds_toArray, List.set_cons_zero, List.set_cons_succ]
        refine wpAnyH_take (i := 6) (v := .pointer (some ⟨pb, 10 + s * 6, none⟩)) rfl (by kernel_rfl) (by kernel_rfl) (by kernel_rfl) (fun _ _ _ h => h) (Or.inl ⟨by kernel_rfl, fun w' hw => by clear hS; go_simp⟩) hS ?_
        try simp only [Act.put, List.getElem_toArray, List.getElem_cons_zero, List.getElem_cons_succ, List.setIfInBounds_toArray, List.set_cons_zero, List.set_cons_succ]
        refine wpAnyH_ready (rs := [7]) (by kernel_rfl) (by simp) ?_
        refine AllReadyH.cons rfl (fun K hK => ?_) AllReadyH.nil
        rw [if_pos (by kernel_rfl)]
        refine wp_store_mid 77 (.tmp 29) (.tmp 26) rfl pb (10 + s * 6) #[.int .i64 (s : Int), .int .i64 yb, .int .i64 yc, .int .i64 yq, .int .i64 yh, .string yt] rfl rfl (hthq 0) hi6 h16 ?_
        refine hK.out _ _ ?_ (fun hS => ?_)
        · show (World.setCells _ _ _ _).heap[_]? = _
          rw [setCells_other pb _ _ _ _ (by omega)]
          exact hboxq 0
        clear hK K
        try simp only [Act.put, List.getElem_toArray, List.getElem_cons_zero, List.getElem_cons_succ, List.setIfInBounds_toArray, List.set_cons_zero, List.set_cons_succ]
        refine wpAnyH_done (by kernel_rfl) ?_ _
        go_wp2_with fail
        go_roundw
        case rel =>
          refine ⟨j + 1, by omega, by go_num, ?_, ?_⟩
          · rw [HK.out, hk1]
            have X := setCells_self pb 96 [.int .i64 (s : Int), .int .i64 yb, .int .i64 yc, .int .i64 yq, .int .i64 yh, .string yt] (10 + s * 6) (wr.alloc (.cells #[.int .i64 (s : Int), .int .i64 yb, .int .i64 yc, .int .i64 yq, .int .i64 yh, .string yt] 77)) _ (blk_alloc hbj _) (by rw [List.size_toArray, hle]; simp; omega)
            have e2 : (hd ++ vcells kj).toArray.toList.take (10 + s * 6) ++ [Value.int .i64 (s : Int), .int .i64 yb, .int .i64 yc, .int .i64 yq, .int .i64 yh, .string yt] ++ (hd ++ vcells kj).toArray.toList.drop (10 + s * 6 + 6) = hd ++ vcells (kj.set s ⟨(s : Int), yb, ⟨yc, yq, yh, yt⟩⟩) := by
              rw [List.toList_toArray, ← vcells_set kj s hs16, ← hhd, List.take_append, List.take_of_length_le (by omega), List.drop_append, List.drop_of_length_le (by omega)]
              have e3 : hd.length + s * 6 - hd.length = s * 6 := by omega
              have e4 : hd.length + s * 6 + 6 - hd.length = s * 6 + 6 := by omega
              rw [e3, e4]
              simp [Vt.cells]
            have e5 : [Value.int .i64 (s : Int), .int .i64 yb, .int .i64 yc, .int .i64 yq, .int .i64 yh, .string yt].length = 6 := rfl
            rw [e5, e2] at X
            exact X
          · refine hKp.trans (Keeps.trans (Keeps.ofBelow ?_) (Keeps.ofSets (P := fun k => k = pb) pb rfl _ _ _))
            exact below_drewN ((Below.refl _ wr).alloc (Nat.le_refl _) _) _
        case measure => simp [intOf]; omega
      · have hdd : decide (kj[s].b < yb) = false := by simpa using hlt2
        have hk1 : keep1 kj ⟨(s : Int), yb, ⟨yc, yq, yh, yt⟩⟩ = kj := by simp only [keep1, Int.toNat_natCast]; rw [hgd, if_neg hlt2]
        generalize kj[s].b = kb at *
        go_wp2_with fail
        go_quiet (fail)
        go_wp2_with fail
        go_roundw
        case rel =>
          refine ⟨j + 1, by omega, by go_num, ?_, ?_⟩
          · rw [HK.out, hk1]; exact blk_alloc hbj _
          · exact hKp.trans (Keeps.ofBelow (below_drewN ((Below.refl _ wr).alloc (Nat.le_refl _) _) _))
        case measure => simp [intOf]; omega
    · go_wp2_with fail
      go_end0
      obtain rfl : j = l.length := by omega
      rw [List.take_length] at hbj
      exact ⟨rfl, hbj, hKp⟩
end Go.Proofs.Ytnnhnekfokbooaa
