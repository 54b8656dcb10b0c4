/- The walk of the document's Pack: a promise (laid by mkref2.py). -/
import Derived.Test.YtnnhnekfokbooaaGreatDoorRefE
namespace Go.Proofs.YtnnhnekfokbooaaGreatDoor
open Go.RowKit
set_option linter.unusedSimpArgs false
set_option linter.unusedVariables false

set_option maxHeartbeats 8000000 in
set_option maxRecDepth 100000 in
theorem rpack_b (m : Ms) (v : Value) (w : World) (hv : VAt w v m.a) (hrm : rmB m = true)
    (e5 : m.k = 2) (n2 : 0 ≤ m.b ∧ m.b ≤ 1000000) (n8 : m.a.length ≤ 16) (n9 : ∀ x ∈ m.a, x.ok ∧ rightValueB x.p = true) (n1 : (0 ≤ m.k ∧ m.k ≤ 1000000) ∧ (0 ≤ m.f ∧ m.f ≤ 1000000) ∧ (0 ≤ m.t ∧ m.t ≤ 1000000)) :
    Calls Tryz.prog 20 #[.agg #[.int .i64 m.k, .int .i64 m.f, .int .i64 m.t, .int .i64 m.b, .int .i64 m.s, .int .i64 m.p.c, .int .i64 m.p.q, .int .i64 m.p.h, .string m.p.t, v]] w fun e w' =>
      e = .returned (.tuple #[.string (S ((encA 1 [m.k] ++ (encA 1 [m.f] ++ (encA 1 [m.t] ++ (encA 2 [m.b] ++ encA 1 [(m.a.length : Int)])))) ++ encVs m.a)), .int .i64 0]) ∧ Below w.heap.size w w' := by
  have e1 : (m.k == 3) = false := by rw [e5]; rfl
  have e2 : (m.k == 4) = false := by rw [e5]; rfl
  have e3 : (m.k == 5) = false := by rw [e5]; rfl
  have e4 : (m.k == 2) = true := by rw [e5]; rfl
  clear e5
  obtain ⟨ao, cap, hve, hvf⟩ := hv.form
  subst hve
  go_enter Tryz.func20, Tryz.ntmps20
  go_wp2_with fail
  refine (right_any m.k m.f m.t m.b m.s m.p.c m.p.q m.p.h m.p.t _ m.a _ (hv.alloc _)).mono ?_
  rintro e w1 ⟨rfl, hb1⟩
  have hrm' : rmB ⟨m.k, m.f, m.t, m.b, m.s, ⟨m.p.c, m.p.q, m.p.h, m.p.t⟩, m.a⟩ = true := hrm
  have hS0 : BS w w.heap.size #[.int .i64 m.k, .int .i64 m.f, .int .i64 m.t, .int .i64 m.b, .int .i64 m.s, .int .i64 m.p.c, .int .i64 m.p.q, .int .i64 m.p.h, .string m.p.t, .slice ao m.a.length cap] 36 w1 := ⟨blk_below hb1 (blk_new w _), ((Below.refl _ _).alloc (Nat.le_refl _) _).trans (hb1.mono (by simp))⟩
  clear hb1
  go_wp2
  refine wp_region_held_drew (S := BS w w.heap.size #[.int .i64 m.k, .int .i64 m.f, .int .i64 m.t, .int .i64 m.b, .int .i64 m.s, .int .i64 m.p.c, .int .i64 m.p.q, .int .i64 m.p.h, .string m.p.t, .slice ao m.a.length cap] 36) (by kernel_rfl) (BS.drew hS0) (fun hS => ?_)
  refine wpAnyH_take (i := 0) (v := .pointer (some ⟨w.heap.size, 0, none⟩)) rfl (by kernel_rfl) (by kernel_rfl) (by kernel_rfl) (fun _ _ _ h => h) (Or.inl ⟨by kernel_rfl, fun w' hw => by clear hS; go_simp⟩) hS ?_
  try simp only [Act.put, List.getElem_toArray, List.getElem_cons_zero, List.getElem_cons_succ, List.setIfInBounds_toArray, List.set_cons_zero, List.set_cons_succ]
  refine wpAnyH_take (i := 1) (v := .int .i64 m.k) rfl (by kernel_rfl) (by kernel_rfl) (by kernel_rfl) (fun _ _ _ h => h) (Or.inl ⟨by kernel_rfl, fun w' hw => by have c := blk_cell hw.1; clear hS; go_simp⟩) hS ?_
  try simp only [Act.put, List.getElem_toArray, List.getElem_cons_zero, List.getElem_cons_succ, List.setIfInBounds_toArray, List.set_cons_zero, List.set_cons_succ]
  refine wpAnyH_take (i := 3) (v := .pointer (some ⟨w.heap.size, 1, none⟩)) rfl (by kernel_rfl) (by kernel_rfl) (by kernel_rfl) (fun _ _ _ h => h) (Or.inl ⟨by kernel_rfl, fun w' hw => by clear hS; go_simp⟩) hS ?_
  try simp only [Act.put, List.getElem_toArray, List.getElem_cons_zero, List.getElem_cons_succ, List.setIfInBounds_toArray, List.set_cons_zero, List.set_cons_succ]
  refine wpAnyH_take (i := 4) (v := .int .i64 m.f) rfl (by kernel_rfl) (by kernel_rfl) (by kernel_rfl) (fun _ _ _ h => h) (Or.inl ⟨by kernel_rfl, fun w' hw => by have c := blk_cell hw.1; clear hS; go_simp⟩) hS ?_
  try simp only [Act.put, List.getElem_toArray, List.getElem_cons_zero, List.getElem_cons_succ, List.setIfInBounds_toArray, List.set_cons_zero, List.set_cons_succ]
  refine wpAnyH_take (i := 7) (v := .pointer (some ⟨w.heap.size, 2, none⟩)) rfl (by kernel_rfl) (by kernel_rfl) (by kernel_rfl) (fun _ _ _ h => h) (Or.inl ⟨by kernel_rfl, fun w' hw => by clear hS; go_simp⟩) hS ?_
  try simp only [Act.put, List.getElem_toArray, List.getElem_cons_zero, List.getElem_cons_succ, List.setIfInBounds_toArray, List.set_cons_zero, List.set_cons_succ]
  refine wpAnyH_take (i := 8) (v := .int .i64 m.t) rfl (by kernel_rfl) (by kernel_rfl) (by kernel_rfl) (fun _ _ _ h => h) (Or.inl ⟨by kernel_rfl, fun w' hw => by have c := blk_cell hw.1; clear hS; go_simp⟩) hS ?_
  try simp only [Act.put, List.getElem_toArray, List.getElem_cons_zero, List.getElem_cons_succ, List.setIfInBounds_toArray, List.set_cons_zero, List.set_cons_succ]
  refine wpAnyH_ready (rs := [2]) (by kernel_rfl) (by simp) ?_
  refine AllReadyH.cons rfl (fun K hK => ?_) AllReadyH.nil
  go_simp
  refine (one_any m.k _ n1.1.1 n1.1.2).mono ?_
  rintro e w' ⟨rfl, hbb⟩
  go_wp2_with fail
  refine hK.out _ _ (hS.below hbb) (fun hS => ?_)
  clear hK K hbb
  try simp only [Act.put, List.getElem_toArray, List.getElem_cons_zero, List.getElem_cons_succ, List.setIfInBounds_toArray, List.set_cons_zero, List.set_cons_succ]
  refine wpAnyH_ready (rs := [5]) (by kernel_rfl) (by simp) ?_
  refine AllReadyH.cons rfl (fun K hK => ?_) AllReadyH.nil
  go_simp
  refine (one_any m.f _ n1.2.1.1 n1.2.1.2).mono ?_
  rintro e w' ⟨rfl, hbb⟩
  go_wp2_with fail
  refine hK.out _ _ (hS.below hbb) (fun hS => ?_)
  clear hK K hbb
  try simp only [Act.put, List.getElem_toArray, List.getElem_cons_zero, List.getElem_cons_succ, List.setIfInBounds_toArray, List.set_cons_zero, List.set_cons_succ]
  refine wpAnyH_take (i := 6) (v := .string (S (encA 1 [m.k] ++ encA 1 [m.f]))) rfl (by kernel_rfl) (by kernel_rfl) (by kernel_rfl) (fun _ _ _ h => h) (Or.inl ⟨by kernel_rfl, fun w' hw => by have he := S_add (encA 1 [m.k]) (encA 1 [m.f]); have hz : ¬ 9223372036854775807 < (S (encA 1 [m.k])).size + (S (encA 1 [m.f])).size := (by rw [S_size, S_size]; simp [encA, encN]); clear hS; go_simp⟩) hS ?_
  try simp only [Act.put, List.getElem_toArray, List.getElem_cons_zero, List.getElem_cons_succ, List.setIfInBounds_toArray, List.set_cons_zero, List.set_cons_succ]
  refine wpAnyH_ready (rs := [9]) (by kernel_rfl) (by simp) ?_
  refine AllReadyH.cons rfl (fun K hK => ?_) AllReadyH.nil
  go_simp
  refine (one_any m.t _ n1.2.2.1 n1.2.2.2).mono ?_
  rintro e w' ⟨rfl, hbb⟩
  go_wp2_with fail
  refine hK.out _ _ (hS.below hbb) (fun hS => ?_)
  clear hK K hbb
  try simp only [Act.put, List.getElem_toArray, List.getElem_cons_zero, List.getElem_cons_succ, List.setIfInBounds_toArray, List.set_cons_zero, List.set_cons_succ]
  refine wpAnyH_take (i := 10) (v := .string (S (encA 1 [m.k] ++ (encA 1 [m.f] ++ encA 1 [m.t])))) rfl (by kernel_rfl) (by kernel_rfl) (by kernel_rfl) (fun _ _ _ h => h) (Or.inl ⟨by kernel_rfl, fun w' hw => by have he := S_add (encA 1 [m.k] ++ encA 1 [m.f]) (encA 1 [m.t]); have hz : ¬ 9223372036854775807 < (S (encA 1 [m.k] ++ encA 1 [m.f])).size + (S (encA 1 [m.t])).size := (by rw [S_size, S_size]; simp [encA, encN]); clear hS; go_simp⟩) hS ?_
  try simp only [Act.put, List.getElem_toArray, List.getElem_cons_zero, List.getElem_cons_succ, List.setIfInBounds_toArray, List.set_cons_zero, List.set_cons_succ]
  refine wpAnyH_take (i := 11) (v := .string (S (encA 1 [m.k] ++ (encA 1 [m.f] ++ encA 1 [m.t])))) rfl (by kernel_rfl) (by kernel_rfl) (by kernel_rfl) (fun _ _ _ h => h) (Or.inl ⟨by kernel_rfl, fun w' hw => by clear hS; go_simp⟩) hS ?_
  try simp only [Act.put, List.getElem_toArray, List.getElem_cons_zero, List.getElem_cons_succ, List.setIfInBounds_toArray, List.set_cons_zero, List.set_cons_succ]
  refine wpAnyH_done (by kernel_rfl) ?_ _
  have hmc := blk_cell hS.1
  have he := S_add (encA 1 [m.k] ++ (encA 1 [m.f] ++ encA 1 [m.t])) (encA 2 [m.b])
  have hz : ¬ 9223372036854775807 < (S (encA 1 [m.k] ++ (encA 1 [m.f] ++ encA 1 [m.t]))).size + (S (encA 2 [m.b])).size := (by rw [S_size, S_size]; simp [encA, encN])
  have he2 := S_add (encA 1 [m.k] ++ (encA 1 [m.f] ++ (encA 1 [m.t] ++ encA 2 [m.b]))) (encA 1 [(m.a.length : Int)])
  have hz2 : ¬ 9223372036854775807 < (S (encA 1 [m.k] ++ (encA 1 [m.f] ++ (encA 1 [m.t] ++ encA 2 [m.b])))).size + (S (encA 1 [(m.a.length : Int)])).size := (by rw [S_size, S_size]; simp [encA, encN])
  go_wp2_with fail
  refine (two_any m.b _ n2.1 n2.2).mono ?_
  rintro e w3 ⟨rfl, hb3⟩
  have hS3 := hS.below hb3
  clear hmc hS hb3
  have hmc := blk_cell hS3.1
  go_wp2_with fail
  refine (one_any (m.a.length : Int) _ (by omega) (by omega)).mono ?_
  rintro e w4 ⟨rfl, hb4⟩
  have hS4 := hS3.below hb4
  clear hmc hS3 hb4
  have hmc := blk_cell hS4.1
  have hpl : (encA 1 [m.k] ++ (encA 1 [m.f] ++ (encA 1 [m.t] ++ (encA 2 [m.b] ++ encA 1 [(m.a.length : Int)])))).length ≤ 10 := by simp [encA, encN]
  go_wp2_with fail
  clear he hz he2 hz2
  generalize hpre : encA 1 [m.k] ++ (encA 1 [m.f] ++ (encA 1 [m.t] ++ (encA 2 [m.b] ++ encA 1 [(m.a.length : Int)]))) = pre at *
  have HP := hide hpre
  clear hpre
  go_loopw [5, 6] (fun sv i wr => ∃ (j : Nat) (cur : List UInt8), j ≤ m.a.length ∧ i = .int .i64 j ∧ sv = .string (S cur) ∧ cur = pre ++ encVs (m.a.take j) ∧ wr.heap[w.heap.size]? = some (.cells #[.int .i64 m.k, .int .i64 m.f, .int .i64 m.t, .int .i64 m.b, .int .i64 m.s, .int .i64 m.p.c, .int .i64 m.p.q, .int .i64 m.p.h, .string m.p.t, .slice ao m.a.length cap] 36 (0, 0)) ∧ Below w.heap.size w wr) (fun _ i _ => m.a.length - (intOf i).toNat)
  case atStart => exact ⟨0, pre, Nat.zero_le _, rfl, rfl, by simp [encVs], hS4.1, hS4.2⟩
  case round =>
    clear hmc
    obtain ⟨j, cur, hj, rfl, rfl, hcur, hm, hB⟩ := hrel
    have HC := hide hcur
    have hz := hB.size
    have hmc := blk_cell hm
    by_cases hlt : j < m.a.length
    · obtain ⟨g, off, rfl, hg, hcell⟩ := hvf (by intro e; rw [e] at hlt; simp at hlt)
      have c0 : wr.cell? ⟨g, off + j * 6, none⟩ = some (.int .i64 m.a[j].s) := by
        rw [hB.cell (p := ⟨g, off + j * 6, none⟩) hg]; exact hcell _ _ (vcells_at m.a j hlt 0 (by decide))
      have c1 : wr.cell? ⟨g, off + j * 6 + 1, none⟩ = some (.int .i64 m.a[j].b) := by
        rw [hB.cell (p := ⟨g, off + j * 6 + 1, none⟩) hg]; exact hcell _ _ (vcells_at m.a j hlt 1 (by decide))
      have c2 : wr.cell? ⟨g, off + j * 6 + 2, none⟩ = some (.int .i64 m.a[j].p.c) := by
        rw [hB.cell (p := ⟨g, off + j * 6 + 2, none⟩) hg]; exact hcell _ _ (vcells_at m.a j hlt 2 (by decide))
      have c3 : wr.cell? ⟨g, off + j * 6 + 3, none⟩ = some (.int .i64 m.a[j].p.q) := by
        rw [hB.cell (p := ⟨g, off + j * 6 + 3, none⟩) hg]; exact hcell _ _ (vcells_at m.a j hlt 3 (by decide))
      have c4 : wr.cell? ⟨g, off + j * 6 + 4, none⟩ = some (.int .i64 m.a[j].p.h) := by
        rw [hB.cell (p := ⟨g, off + j * 6 + 4, none⟩) hg]; exact hcell _ _ (vcells_at m.a j hlt 4 (by decide))
      have c5 : wr.cell? ⟨g, off + j * 6 + 5, none⟩ = some (.string m.a[j].p.t) := by
        rw [hB.cell (p := ⟨g, off + j * 6 + 5, none⟩) hg]; exact hcell _ _ (vcells_at m.a j hlt 5 (by decide))
      obtain ⟨⟨k1, k2, k3, k4, k5, k6⟩, k7⟩ := n9 m.a[j] (List.getElem_mem hlt)
      have HE := hide (show encVs (m.a.take (j + 1)) = encVs (m.a.take j) ++ encX m.a[j] from by
        rw [List.take_succ_eq_append_getElem hlt, encVs_append]; simp [encVs])
      have HX := hide (show encX m.a[j] = encA 1 [m.a[j].s] ++ encA 2 [m.a[j].b] ++ encV m.a[j].p from rfl)
      have hcl : cur.length ≤ 17000 := by
        have h1 := encVs_length_le (m.a.take j) (fun x hx => (n9 x (List.mem_of_mem_take hx)).1)
        rw [hcur, List.length_append]
        simp only [List.length_take] at h1
        have h2 : min j m.a.length * 1010 ≤ 16 * 1010 := Nat.mul_le_mul_right _ (by omega)
        omega
      have hev : (encV m.a[j].p).length ≤ 1005 := encV_length_le _ k6
      clear hcell hcur
      generalize m.a[j] = xx at *
      obtain ⟨xs, xb, ⟨pc, pq, ph, pt⟩⟩ := xx
      dsimp only at *
      have hS0 : BS wr wr.heap.size #[.int .i64 xs, .int .i64 xb, .int .i64 pc, .int .i64 pq, .int .i64 ph, .string pt] 53 (wr.alloc (.cells #[.int .i64 xs, .int .i64 xb, .int .i64 pc, .int .i64 pq, .int .i64 ph, .string pt] 53)) := ⟨blk_new _ _, (Below.refl _ _).alloc (Nat.le_refl _) _⟩
      have hT := fun w => text_any ⟨pc, pq, ph, pt⟩ w k7
      dsimp only at hT
      have HT := hide hT
      clear hT
      go_wp2
      refine wp_region_held_drew (S := BS wr wr.heap.size #[.int .i64 xs, .int .i64 xb, .int .i64 pc, .int .i64 pq, .int .i64 ph, .string pt] 53) (by kernel_rfl) (BS.drew hS0) (fun hS => ?_)
      refine wpAnyH_take (i := 0) (v := .string (S cur)) rfl (by kernel_rfl) (by kernel_rfl) (by kernel_rfl) (fun _ _ _ h => h) (Or.inl ⟨by kernel_rfl, fun w' hw => by clear hS; go_simp⟩) hS ?_
      try simp only [Act.put, List.getElem_toArray, List.getElem_cons_zero, List.getElem_cons_succ, List.setIfInBounds_toArray, List.set_cons_zero, List.set_cons_succ]
      refine wpAnyH_take (i := 1) (v := .pointer (some ⟨wr.heap.size, 0, none⟩)) rfl (by kernel_rfl) (by kernel_rfl) (by kernel_rfl) (fun _ _ _ h => h) (Or.inl ⟨by kernel_rfl, fun w' hw => by clear hS; go_simp⟩) hS ?_
      try simp only [Act.put, List.getElem_toArray, List.getElem_cons_zero, List.getElem_cons_succ, List.setIfInBounds_toArray, List.set_cons_zero, List.set_cons_succ]
      refine wpAnyH_take (i := 2) (v := .int .i64 xs) rfl (by kernel_rfl) (by kernel_rfl) (by kernel_rfl) (fun _ _ _ h => h) (Or.inl ⟨by kernel_rfl, fun w' hw => by have c := blk_cell hw.1; clear hS; go_simp⟩) hS ?_
      try simp only [Act.put, List.getElem_toArray, List.getElem_cons_zero, List.getElem_cons_succ, List.setIfInBounds_toArray, List.set_cons_zero, List.set_cons_succ]
      refine wpAnyH_take (i := 5) (v := .pointer (some ⟨wr.heap.size, 1, none⟩)) rfl (by kernel_rfl) (by kernel_rfl) (by kernel_rfl) (fun _ _ _ h => h) (Or.inl ⟨by kernel_rfl, fun w' hw => by clear hS; go_simp⟩) hS ?_
      try simp only [Act.put, List.getElem_toArray, List.getElem_cons_zero, List.getElem_cons_succ, List.setIfInBounds_toArray, List.set_cons_zero, List.set_cons_succ]
      refine wpAnyH_take (i := 6) (v := .int .i64 xb) rfl (by kernel_rfl) (by kernel_rfl) (by kernel_rfl) (fun _ _ _ h => h) (Or.inl ⟨by kernel_rfl, fun w' hw => by have c := blk_cell hw.1; clear hS; go_simp⟩) hS ?_
      try simp only [Act.put, List.getElem_toArray, List.getElem_cons_zero, List.getElem_cons_succ, List.setIfInBounds_toArray, List.set_cons_zero, List.set_cons_succ]
      refine wpAnyH_take (i := 9) (v := .pointer (some ⟨wr.heap.size, 2, none⟩)) rfl (by kernel_rfl) (by kernel_rfl) (by kernel_rfl) (fun _ _ _ h => h) (Or.inl ⟨by kernel_rfl, fun w' hw => by clear hS; go_simp⟩) hS ?_
      try simp only [Act.put, List.getElem_toArray, List.getElem_cons_zero, List.getElem_cons_succ, List.setIfInBounds_toArray, List.set_cons_zero, List.set_cons_succ]
      refine wpAnyH_take (i := 10) (v := .agg #[.int .i64 pc, .int .i64 pq, .int .i64 ph, .string pt]) rfl (by kernel_rfl) (by kernel_rfl) (by kernel_rfl) (fun _ _ _ h => h) (Or.inl ⟨by kernel_rfl, fun w' hw => by have c := blk_cell hw.1; clear hS; go_simp⟩) hS ?_
      try simp only [Act.put, List.getElem_toArray, List.getElem_cons_zero, List.getElem_cons_succ, List.setIfInBounds_toArray, List.set_cons_zero, List.set_cons_succ]
      refine wpAnyH_ready (rs := [3]) (by kernel_rfl) (by simp) ?_
      refine AllReadyH.cons rfl (fun K hK => ?_) AllReadyH.nil
      go_simp
      refine (one_any xs _ k1.1 k1.2).mono ?_
      rintro e w' ⟨rfl, hbb⟩
      go_wp2_with fail
      refine hK.out _ _ (hS.below hbb) (fun hS => ?_)
      clear hK K hbb
      try simp only [Act.put, List.getElem_toArray, List.getElem_cons_zero, List.getElem_cons_succ, List.setIfInBounds_toArray, List.set_cons_zero, List.set_cons_succ]
      refine wpAnyH_take (i := 4) (v := .string (S (cur ++ encA 1 [xs]))) rfl (by kernel_rfl) (by kernel_rfl) (by kernel_rfl) (fun _ _ _ h => h) (Or.inl ⟨by kernel_rfl, fun w' hw => by have he := S_add (cur) (encA 1 [xs]); have hz : ¬ 9223372036854775807 < (S (cur)).size + (S (encA 1 [xs])).size := (by rw [S_size, S_size]; have := hcl; have := hev; simp [encA, encN]; omega); clear hS; go_simp⟩) hS ?_
      try simp only [Act.put, List.getElem_toArray, List.getElem_cons_zero, List.getElem_cons_succ, List.setIfInBounds_toArray, List.set_cons_zero, List.set_cons_succ]
      refine wpAnyH_ready (rs := [7]) (by kernel_rfl) (by simp) ?_
      refine AllReadyH.cons rfl (fun K hK => ?_) AllReadyH.nil
      go_simp
      refine (two_any xb _ k2.1 k2.2).mono ?_
      rintro e w' ⟨rfl, hbb⟩
      go_wp2_with fail
      refine hK.out _ _ (hS.below hbb) (fun hS => ?_)
      clear hK K hbb
      try simp only [Act.put, List.getElem_toArray, List.getElem_cons_zero, List.getElem_cons_succ, List.setIfInBounds_toArray, List.set_cons_zero, List.set_cons_succ]
      refine wpAnyH_take (i := 8) (v := .string (S (cur ++ (encA 1 [xs] ++ encA 2 [xb])))) rfl (by kernel_rfl) (by kernel_rfl) (by kernel_rfl) (fun _ _ _ h => h) (Or.inl ⟨by kernel_rfl, fun w' hw => by have he := S_add (cur ++ encA 1 [xs]) (encA 2 [xb]); have hz : ¬ 9223372036854775807 < (S (cur ++ encA 1 [xs])).size + (S (encA 2 [xb])).size := (by rw [S_size, S_size]; have := hcl; have := hev; simp [encA, encN]; omega); clear hS; go_simp⟩) hS ?_
      try simp only [Act.put, List.getElem_toArray, List.getElem_cons_zero, List.getElem_cons_succ, List.setIfInBounds_toArray, List.set_cons_zero, List.set_cons_succ]
      refine wpAnyH_ready (rs := [11]) (by kernel_rfl) (by simp) ?_
      refine AllReadyH.cons rfl (fun K hK => ?_) AllReadyH.nil
      go_simp
      refine (unhide HT _).mono ?_
      rintro e w' ⟨rfl, hbb⟩
      go_wp2_with fail
      refine hK.out _ _ (hS.below hbb) (fun hS => ?_)
      clear hK K hbb
      try simp only [Act.put, List.getElem_toArray, List.getElem_cons_zero, List.getElem_cons_succ, List.setIfInBounds_toArray, List.set_cons_zero, List.set_cons_succ]
      refine wpAnyH_take (i := 12) (v := .string (S (cur ++ (encA 1 [xs] ++ (encA 2 [xb] ++ encV ⟨pc, pq, ph, pt⟩))))) rfl (by kernel_rfl) (by kernel_rfl) (by kernel_rfl) (fun _ _ _ h => h) (Or.inl ⟨by kernel_rfl, fun w' hw => by have he := S_add (cur ++ (encA 1 [xs] ++ encA 2 [xb])) (encV ⟨pc, pq, ph, pt⟩); have hz : ¬ 9223372036854775807 < (S (cur ++ (encA 1 [xs] ++ encA 2 [xb]))).size + (S (encV ⟨pc, pq, ph, pt⟩)).size := (by rw [S_size, S_size]; have := hcl; have := hev; simp [encA, encN]; omega); clear hS; go_simp⟩) hS ?_
      try simp only [Act.put, List.getElem_toArray, List.getElem_cons_zero, List.getElem_cons_succ, List.setIfInBounds_toArray, List.set_cons_zero, List.set_cons_succ]
      refine wpAnyH_take (i := 13) (v := .string (S (cur ++ (encA 1 [xs] ++ (encA 2 [xb] ++ encV ⟨pc, pq, ph, pt⟩))))) rfl (by kernel_rfl) (by kernel_rfl) (by kernel_rfl) (fun _ _ _ h => h) (Or.inl ⟨by kernel_rfl, fun w' hw => by clear hS; go_simp⟩) hS ?_
      try simp only [Act.put, List.getElem_toArray, List.getElem_cons_zero, List.getElem_cons_succ, List.setIfInBounds_toArray, List.set_cons_zero, List.set_cons_succ]
      refine wpAnyH_done (by kernel_rfl) ?_ _
      have hm9 := blk_below hS.2 hm
      have hB9 := hB.trans (hS.2.mono hz)
      go_wp2
      go_roundw
      case rel => exact ⟨j + 1, cur ++ (encA 1 [xs] ++ (encA 2 [xb] ++ encV ⟨pc, pq, ph, pt⟩)), by omega, by go_num, rfl, by rw [unhide HE, unhide HX, unhide HC]; simp, hm9, hB9⟩
      case measure => simp [intOf]; omega
    · have hjl : j = m.a.length := by omega
      have hfin : cur = pre ++ encVs m.a := by rw [hcur, hjl, List.take_length]
      clear hcur HC
      have HF := hide hfin
      clear hfin
      go_wp2
      go_ret2
      exact ⟨by rw [unhide HP, ← unhide HF]; rfl, hB⟩
end Go.Proofs.YtnnhnekfokbooaaGreatDoor
