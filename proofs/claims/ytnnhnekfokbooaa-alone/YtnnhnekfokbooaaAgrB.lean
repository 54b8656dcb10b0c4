/- The walk of begun (laid by mkagrb.py). -/
import Derived.Test.YtnnhnekfokbooaaAgrA
namespace Go.Proofs.Ytnnhnekfokbooaa
open Go.RowKit
set_option linter.unusedSimpArgs false
set_option linter.unusedVariables false

theorem bytes_one {a b : ByteArray} (h : a.toList = b.toList) : a = b := by
  rw [ByteArray.toList_eq, ByteArray.toList_eq] at h
  cases a; cases b
  congr 1
  exact Array.toList_inj.1 h
theorem pre_all {a b : List Pst} (h : a.take a.length = b.take a.length) : a <+: b := by
  rw [List.take_length] at h
  exact List.prefix_iff_eq_take.2 h
theorem pre_not {a b : List Pst} {j : Nat} {x y : Pst} (ha : a[j]? = some x) (hb : b[j]? = some y) (hxy : x ≠ y) : ¬ a <+: b := fun h => by
  obtain ⟨t, rfl⟩ := h
  have hj : j < a.length := by
    apply Classical.byContradiction
    intro h9
    rw [List.getElem?_eq_none (by omega)] at ha; cases ha
  rw [List.getElem?_append_left hj, ha] at hb
  injection hb with e
  exact hxy e
def BegunTo (w : World) (a b : List Pst) (e : Ending) (w' : World) : Prop := ∃ r : Bool, e = .returned (.bool r) ∧ (r = true ↔ a <+: b) ∧ Below w.heap.size w w'
set_option maxHeartbeats 1000000 in
set_option maxRecDepth 100000 in
theorem begun_any {oa ob : Nat → Prop} {va vb : Value} {a b : List Pst} {w : World} (ha : PsAt oa w va a) (hb : PsAt ob w vb b) :
    Calls Try.prog 16 #[va, vb] w (BegunTo w a b) := by
  have hla := ha.len
  have hlb := hb.len
  obtain ⟨pa, ca, rfl, hfa⟩ := ha.form
  obtain ⟨pb, cb, rfl, hfb⟩ := hb.form
  clear ha hb
  go_enter Try.func16, Try.ntmps16
  by_cases hlen : b.length < a.length
  · go_wp2_with fail
    go_ret
    refine ⟨false, rfl, ⟨fun h => (nomatch h), fun h => ?_⟩, Below.refl _ _⟩
    have := h.length_le
    omega
  go_wp2_with fail
  go_loopw [5] (fun i wr => ∃ j : Nat, j ≤ a.length ∧ i = .int .i64 j ∧ a.take j = b.take j ∧ Below w.heap.size w wr) (fun i _ => a.length - (intOf i).toNat)
  case atStart => exact ⟨0, Nat.zero_le _, rfl, by simp, Below.refl _ _⟩
  case round =>
    obtain ⟨j, hj, rfl, htk, hB⟩ := hrel
    by_cases hjn : j < a.length
    · obtain ⟨ga, rfl, hga, _, hca⟩ := hfa (by intro e; rw [e] at hjn; simp at hjn)
      have hjb : j < b.length := by omega
      obtain ⟨gb, rfl, hgb, _, hcb⟩ := hfb (by intro e; rw [e] at hjb; simp at hjb)
      have q0 : (0 : Int) ≤ (j : Int) := by omega
      have q1 : (j : Int) < (a.length : Int) := by omega
      have q2 : (j : Int) < (b.length : Int) := by omega
      have ka := fun k hk => (hB.cell (p := ⟨ga, j * 4 + k, none⟩) hga).trans (hca j hjn k hk)
      have kb := fun k hk => (hB.cell (p := ⟨gb, j * 4 + k, none⟩) hgb).trans (hcb j hjb k hk)
      have xa : a[j]? = some a[j] := List.getElem?_eq_getElem hjn
      have xb : b[j]? = some b[j] := List.getElem?_eq_getElem hjb
      generalize a[j] = x at *
      generalize b[j] = y at *
      obtain ⟨ac, aq, ah, aT⟩ := x
      obtain ⟨bc, bq, bh, bT⟩ := y
      have c0 : wr.cell? ⟨ga, j * 4, none⟩ = some (.int .i64 ac) := ka 0 (by decide)
      have c1 : wr.cell? ⟨ga, j * 4 + 1, none⟩ = some (.int .i64 aq) := ka 1 (by decide)
      have c2 : wr.cell? ⟨ga, j * 4 + 2, none⟩ = some (.int .i64 ah) := ka 2 (by decide)
      have c3 : wr.cell? ⟨ga, j * 4 + 3, none⟩ = some (.string aT) := ka 3 (by decide)
      have d0 : wr.cell? ⟨gb, j * 4, none⟩ = some (.int .i64 bc) := kb 0 (by decide)
      have d1 : wr.cell? ⟨gb, j * 4 + 1, none⟩ = some (.int .i64 bq) := kb 1 (by decide)
      have d2 : wr.cell? ⟨gb, j * 4 + 2, none⟩ = some (.int .i64 bh) := kb 2 (by decide)
      have d3 : wr.cell? ⟨gb, j * 4 + 3, none⟩ = some (.string bT) := kb 3 (by decide)
      have Hx : Hid (a[j]? = some ⟨ac, aq, ah, aT⟩) := xa
      have Hy : Hid (b[j]? = some ⟨bc, bq, bh, bT⟩) := xb
      have Ht : Hid (a.take j = b.take j) := htk
      clear ka kb hca hcb xa xb htk
      obtain ⟨E, hE⟩ : ∃ E : Bool, E = true ↔ ¬ (ac = bc ∧ aq = bq ∧ ah = bh ∧ aT.toList = bT.toList) := ⟨decide (¬ (ac = bc ∧ aq = bq ∧ ah = bh ∧ aT.toList = bT.toList)), decide_eq_true_iff⟩
      have HE : Hid (E = true ↔ ¬ (ac = bc ∧ aq = bq ∧ ah = bh ∧ aT.toList = bT.toList)) := hE
      clear hE
      go_wp2_with fail
      refine wp_region_held_drew (S := fun w' => w'.cell? ⟨ga, j * 4, none⟩ = some (.int .i64 ac) ∧ w'.cell? ⟨ga, j * 4 + 1, none⟩ = some (.int .i64 aq) ∧ w'.cell? ⟨ga, j * 4 + 2, none⟩ = some (.int .i64 ah) ∧ w'.cell? ⟨ga, j * 4 + 3, none⟩ = some (.string aT) ∧ w'.cell? ⟨gb, j * 4, none⟩ = some (.int .i64 bc) ∧ w'.cell? ⟨gb, j * 4 + 1, none⟩ = some (.int .i64 bq) ∧ w'.cell? ⟨gb, j * 4 + 2, none⟩ = some (.int .i64 bh) ∧ w'.cell? ⟨gb, j * 4 + 3, none⟩ = some (.string bT)) (by kernel_rfl) (⟨c0, c1, c2, c3, d0, d1, d2, d3⟩) (fun hS => ?_)
      refine wpAnyH_take (i := 0) (v := ?_) rfl (by kernel_rfl) (by kernel_rfl) (by kernel_rfl) (fun _ _ _ h => h) (Or.inl ⟨by kernel_rfl, fun w' hw => ?_⟩) hS ?_
      rotate_left 1
      · obtain ⟨e0, e1, e2, e3, e4, e5, e6, e7⟩ := hw; go_simp; all_goals with_reducible rfl
      try simp only [Act.put, List.getElem_toArray, List.getElem_cons_zero, List.getElem_cons_succ, List.setIfInBounds_toArray, List.set_cons_zero, List.set_cons_succ]
      refine wpAnyH_take (i := 1) (v := ?_) rfl (by kernel_rfl) (by kernel_rfl) (by kernel_rfl) (fun _ _ _ h => h) (Or.inl ⟨by kernel_rfl, fun w' hw => ?_⟩) hS ?_
      rotate_left 1
      · obtain ⟨e0, e1, e2, e3, e4, e5, e6, e7⟩ := hw; go_simp; all_goals with_reducible rfl
      try simp only [Act.put, List.getElem_toArray, List.getElem_cons_zero, List.getElem_cons_succ, List.setIfInBounds_toArray, List.set_cons_zero, List.set_cons_succ]
      refine wpAnyH_take (i := 2) (v := ?_) rfl (by kernel_rfl) (by kernel_rfl) (by kernel_rfl) (fun _ _ _ h => h) (Or.inl ⟨by kernel_rfl, fun w' hw => ?_⟩) hS ?_
      rotate_left 1
      · obtain ⟨e0, e1, e2, e3, e4, e5, e6, e7⟩ := hw; go_simp; all_goals with_reducible rfl
      try simp only [Act.put, List.getElem_toArray, List.getElem_cons_zero, List.getElem_cons_succ, List.setIfInBounds_toArray, List.set_cons_zero, List.set_cons_succ]
      refine wpAnyH_take (i := 3) (v := ?_) rfl (by kernel_rfl) (by kernel_rfl) (by kernel_rfl) (fun _ _ _ h => h) (Or.inl ⟨by kernel_rfl, fun w' hw => ?_⟩) hS ?_
      rotate_left 1
      · obtain ⟨e0, e1, e2, e3, e4, e5, e6, e7⟩ := hw; go_simp; all_goals with_reducible rfl
      try simp only [Act.put, List.getElem_toArray, List.getElem_cons_zero, List.getElem_cons_succ, List.setIfInBounds_toArray, List.set_cons_zero, List.set_cons_succ]
      refine wpAnyH_take (i := 4) (v := ?_) rfl (by kernel_rfl) (by kernel_rfl) (by kernel_rfl) (fun _ _ _ h => h) (Or.inl ⟨by kernel_rfl, fun w' hw => ?_⟩) hS ?_
      rotate_left 1
      · obtain ⟨e0, e1, e2, e3, e4, e5, e6, e7⟩ := hw; go_simp; all_goals with_reducible rfl
      try simp only [Act.put, List.getElem_toArray, List.getElem_cons_zero, List.getElem_cons_succ, List.setIfInBounds_toArray, List.set_cons_zero, List.set_cons_succ]
      refine wpAnyH_take (i := 5) (v := ?_) rfl (by kernel_rfl) (by kernel_rfl) (by kernel_rfl) (fun _ _ _ h => h) (Or.inl ⟨by kernel_rfl, fun w' hw => ?_⟩) hS ?_
      rotate_left 1
      · obtain ⟨e0, e1, e2, e3, e4, e5, e6, e7⟩ := hw; go_simp; all_goals with_reducible rfl
      try simp only [Act.put, List.getElem_toArray, List.getElem_cons_zero, List.getElem_cons_succ, List.setIfInBounds_toArray, List.set_cons_zero, List.set_cons_succ]
      refine wpAnyH_take (i := 6) (v := ?_) rfl (by kernel_rfl) (by kernel_rfl) (by kernel_rfl) (fun _ _ _ h => h) (Or.inl ⟨by kernel_rfl, fun w' hw => ?_⟩) hS ?_
      rotate_left 1
      · obtain ⟨e0, e1, e2, e3, e4, e5, e6, e7⟩ := hw; go_simp; all_goals with_reducible rfl
      try simp only [Act.put, List.getElem_toArray, List.getElem_cons_zero, List.getElem_cons_succ, List.setIfInBounds_toArray, List.set_cons_zero, List.set_cons_succ]
      refine wpAnyH_take (i := 7) (v := ?_) rfl (by kernel_rfl) (by kernel_rfl) (by kernel_rfl) (fun _ _ _ h => h) (Or.inl ⟨by kernel_rfl, fun w' hw => ?_⟩) hS ?_
      rotate_left 1
      · obtain ⟨e0, e1, e2, e3, e4, e5, e6, e7⟩ := hw; go_simp; all_goals with_reducible rfl
      try simp only [Act.put, List.getElem_toArray, List.getElem_cons_zero, List.getElem_cons_succ, List.setIfInBounds_toArray, List.set_cons_zero, List.set_cons_succ]
      refine wpAnyH_take (i := 8) (v := .bool E) rfl (by kernel_rfl) (by kernel_rfl) (by kernel_rfl) (fun _ _ _ h => h) (Or.inl ⟨by kernel_rfl, fun w' hw => ?_⟩) hS ?_
      · go_simp
        have hE := HE.out
        by_cases h1 : ac = bc <;> by_cases h2 : aq = bq <;> by_cases h3 : ah = bh <;> by_cases h4 : aT.toList = bT.toList <;> (cases E <;> simp [h1, h2, h3, h4] at hE ⊢)
      try simp only [Act.put, List.getElem_toArray, List.getElem_cons_zero, List.getElem_cons_succ, List.setIfInBounds_toArray, List.set_cons_zero, List.set_cons_succ]
      refine wpAnyH_done (by kernel_rfl) ?_ _
      cases E with
      | true =>
        have hne := HE.out.1 rfl
        go_wp2_with fail
        go_ret
        refine ⟨false, rfl, ⟨fun h => (nomatch h), fun h => ?_⟩, Below.drew hB⟩
        refine absurd h (pre_not Hx.out Hy.out (fun e => hne ?_))
        injection e with e1 e2 e3 e4
        exact ⟨e1, e2, e3, by rw [e4]⟩
      | false =>
        have heq : ac = bc ∧ aq = bq ∧ ah = bh ∧ aT.toList = bT.toList := Classical.byContradiction (fun h => (nomatch HE.out.2 h))
        obtain ⟨rfl, rfl, rfl, h4⟩ := heq
        have h5 : aT = bT := bytes_one h4
        subst h5
        clear h4
        go_wp2_with fail
        go_roundw
        case rel =>
          refine ⟨j + 1, by omega, by go_num, ?_, Below.drew hB⟩
          rw [List.take_add_one, List.take_add_one, Ht.out, Hx.out, Hy.out]
        case measure => simp [intOf]; omega
    · obtain rfl : j = a.length := by omega
      have Ht : Hid (a.take a.length = b.take a.length) := htk
      clear htk
      go_wp2_with fail
      go_ret
      exact ⟨true, rfl, ⟨fun _ => pre_all Ht.out, fun _ => rfl⟩, hB⟩
end Go.Proofs.Ytnnhnekfokbooaa
