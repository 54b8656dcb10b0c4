/- The walk of Pack, a theorem for each list of parts that a kind has (laid by mkpack.py). -/
import Derived.Test.YtnnhnekfokbooaaGreatDoorWalkQ
import Derived.Test.YtnnhnekfokbooaaGreatDoorWalkI
import Derived.WalkKit
import Derived.WalkSpells
import Derived.WalkLawsBesides
namespace Go.Proofs.YtnnhnekfokbooaaGreatDoor
open Go.RowKit
set_option linter.unusedSimpArgs false
set_option linter.unusedVariables false

/-- A message as bytes. -/
def encM (m : Ms) : List UInt8 :=
  encA 1 [m.k, m.f, m.t] ++ (if hasB m.k then encA 2 [m.b] else []) ++ (if hasS m.k then encA 1 [m.s] else []) ++ (if hasV m.k then encV m.p else []) ++ (if hasA m.k then encA 1 [(m.a.length : Int)] ++ encVs m.a else [])

theorem S_eta (t : ByteArray) : S t.data.toList = t := by
  apply ByteArray.ext; simp [S]
theorem rv_ok (p : Pst) (h : rightValueB p = true) : (0 ≤ p.c ∧ p.c ≤ 9) ∧ (0 ≤ p.q ∧ p.q ≤ 1000) ∧ (0 ≤ p.h ∧ p.h ≤ 3) ∧ p.t.size ≤ 12 := by
  unfold rightValueB at h
  rw [Bool.or_eq_true] at h
  rcases h with h | h
  · simp [nothingB] at h
    have : p.t.size = 0 := by
      have h2 := h.2
      rw [← S_eta p.t, S_toList] at h2
      have h3 : p.t.data.toList.length = p.t.size := by rw [Array.length_toList]; rfl
      rw [h2] at h3
      exact h3.symm
    omega
  · simp [rightPostB] at h
    obtain ⟨⟨⟨h1, h2⟩, h3⟩, h4⟩ := h
    have := withinB_true h1; have := withinB_true h2; have := withinB_true h3
    omega
theorem rvB_ok : ∀ (l : List Vt) (la : Int), -1 ≤ la → rvB la l = true → (∀ x ∈ l, x.ok ∧ (0 ≤ x.s ∧ x.s ≤ 15) ∧ (1 ≤ x.b ∧ x.b ≤ 8007) ∧ rightValueB x.p = true) ∧ (la ≤ 15 → (l.length : Int) ≤ 15 - la)
  | [], la, _, _ => ⟨by simp, fun h => by simp; omega⟩
  | x :: l, la, hla, h => by
    simp only [rvB, Bool.and_eq_true] at h
    obtain ⟨⟨⟨⟨h1, h2⟩, h3⟩, h4⟩, h5⟩ := h
    have h1' : ¬ x.s ≤ la := by simpa using h1
    have b2 := withinB_true h2
    have b3 := withinB_true h3
    obtain ⟨i1, i2⟩ := rvB_ok l x.s (by omega) h5
    obtain ⟨r1, r2, r3, r4⟩ := rv_ok x.p h4
    refine ⟨fun y hy => ?_, fun _ => ?_⟩
    · rcases List.mem_cons.1 hy with rfl | hy
      · exact ⟨⟨by omega, by omega, by omega, by omega, by omega, by omega⟩, by omega, by omega, h4⟩
      · exact i1 y hy
    · have := i2 (by omega); simp; omega

theorem Own.keep {w w' : World} {B : Nat} {v : Value} {bs : List UInt8} (h : Own w B v bs) (hne : bs ≠ []) : ∃ g cap, v = .slice (some ⟨g, 0, none⟩) bs.length cap ∧ ∀ j (hj : j < bs.length), w.cell? ((⟨g, 0, none⟩ : Addr).add j) = some (.int .u8 (bs[j].toNat : Int)) := by
  have hpos : 0 < bs.length := List.length_pos_iff.2 hne
  obtain ⟨g, cap, rfl, _, _⟩ := World.ownsRow.form h hpos
  exact ⟨g, cap, rfl, fun j hj => World.ownsRow.cells h rfl j _ (by simp [bcs, hj])⟩
theorem own_string {w : World} {B : Nat} {v : Value} {bs : List UInt8} (h : Own w B v bs) (hne : bs ≠ []) : (convert 141 9 v).run Tryz.prog w = .ok (.string (S bs)) w := by
  obtain ⟨g, cap, rfl, hc⟩ := h.keep (w' := w) hne
  exact run_convert_bytes_back w _ _ 5 _ cap bs Tryz.underlying141 Tryz.underlying5 Tryz.underlying9 hc

set_option maxHeartbeats 1000000 in
theorem pack_no (m : Ms) (v : Value) (w : World) (hk : Kinds w) (hv : VAt w v m.a) (hrm : rmB m = false) :
    Calls Tryz.prog 48 #[.agg #[.int .i64 m.k, .int .i64 m.f, .int .i64 m.t, .int .i64 m.b, .int .i64 m.s, .int .i64 m.p.c, .int .i64 m.p.q, .int .i64 m.p.h, .string m.p.t, v]] w fun e w' =>
      e = .returned (.tuple #[.string (S []), .int .i64 2]) ∧ Below w.heap.size w w' := by
  obtain ⟨ao, cap, hve, _⟩ := hv.form
  subst hve
  go_enter Tryz.func48, Tryz.ntmps48
  go_wp2_with (go_at_call 76; refine (rightMessage_any m _ _ (hk.alloc _) (hv.alloc _)).mono ?_; rintro e w1 ⟨rfl, hb1⟩)
  go_ret2
  exact ⟨rfl, ((Below.refl _ _).alloc (Nat.le_refl _) _).trans (hb1.mono (by simp))⟩

set_option maxHeartbeats 4000000 in
set_option maxRecDepth 100000 in
theorem pack_a (m : Ms) (v : Value) (w : World) (hk : Kinds w) (hv : VAt w v m.a) (hrm : rmB m = true)
    (h1 : hasB m.k = true) (h2 : hasS m.k = false) (h3 : hasV m.k = false) (h4 : hasA m.k = false)
    (n1 : (0 ≤ m.k ∧ m.k ≤ 1000000) ∧ (0 ≤ m.f ∧ m.f ≤ 1000000) ∧ (0 ≤ m.t ∧ m.t ≤ 1000000)) (n2 : 0 ≤ m.b ∧ m.b ≤ 1000000) :
    Calls Tryz.prog 48 #[.agg #[.int .i64 m.k, .int .i64 m.f, .int .i64 m.t, .int .i64 m.b, .int .i64 m.s, .int .i64 m.p.c, .int .i64 m.p.q, .int .i64 m.p.h, .string m.p.t, v]] w fun e w' =>
      e = .returned (.tuple #[.string (S (encA 1 [m.k, m.f, m.t] ++ encA 2 [m.b])), .int .i64 0]) ∧ Below w.heap.size w w' := by
  obtain ⟨ao, cap, hve, hvf⟩ := hv.form
  subst hve
  go_enter Tryz.func48, Tryz.ntmps48
  go_wp2_with fail
  refine (rightMessage_any m _ _ (hk.alloc _) (hv.alloc _)).mono ?_
  rintro e w1 ⟨rfl, hb1⟩
  have hm1 := blk_below hb1 (blk_new w _)
  have hk1 := (hk.alloc _).below hb1
  have hv1 := (hv.alloc _).below hb1
  have hB1 : Below w.heap.size w w1 := ((Below.refl _ _).alloc (Nat.le_refl _) _).trans (hb1.mono (by simp))
  clear hb1
  have hc := blk_cell hm1
  go_wp2_with fail
  refine (partsOf_any _ _ hk1).mono ?_
  rintro e w2 ⟨rfl, hb2⟩
  rw [h1, h2, h3, h4]
  have hm2 := blk_alloc (blk_below hb2 hm1) (.cells #[.bool true, .bool false, .bool false, .bool false] 139)
  have hh2 := blk_new w2 (.cells #[.bool true, .bool false, .bool false, .bool false] 139)
  have hv2 := (hv1.below hb2).alloc (.cells #[.bool true, .bool false, .bool false, .bool false] 139)
  have hz2 : w.heap.size < w2.heap.size := lt_of_block (blk_below hb2 hm1)
  have hzz := hB1.size
  have hB2 : Below w.heap.size w (w2.alloc (.cells #[.bool true, .bool false, .bool false, .bool false] 139)) := (hB1.trans (hb2.mono hzz)).alloc (by omega) _
  have hgb : m.a ≠ [] → ∀ g, (Value.slice ao m.a.length cap).ownBlock = some g → g < w2.heap.size + 1 := fun hne g e => by
    obtain ⟨g', off, rfl, hg', _⟩ := hvf hne
    simp [Value.ownBlock] at e
    omega
  clear hb2 hv1 hk1 hm1 hc hB1 hvf hv hk
  have ho2 : Own (w2.alloc (.cells #[.bool true, .bool false, .bool false, .bool false] 139)) (w2.heap.size + 1) (.slice none 0 0) [] := World.ownsRow_nil _ _ _ _
  have hc := blk_cell hm2
  have hhc := blk_cell hh2
  go_wp2_with fail
  refine (putNumbers_any (w2.heap.size + 1) _ _ 1 [m.k, m.f, m.t] (w2.heap.size + 1) _ (ho2.alloc _) (by simp) (by simp) (by simp [Value.ownBlock]) (cells_three _ _ _ _ _ (by simp) _) (by simp; omega) (by decide) (by simp) (by simp)).mono ?_
  rintro e w3 ⟨v3, rfl, ho3, hk3⟩
  have hb3 : Below (w2.heap.size + 1) (w2.alloc (.cells #[.bool true, .bool false, .bool false, .bool false] 139)) w3 := ((Below.refl _ _).alloc (by simp) _).trans (hk3.toBelow (by simp) (by simp [Value.ownBlock]))
  clear hc hhc hk3 ho2
  have hz3 : w2.heap.size + 1 ≤ w3.heap.size := by have := hb3.size; simpa using this
  have hm3 : w3.heap[w.heap.size]? = _ := (hb3.block w.heap.size (by omega)).trans hm2
  have hh3 : w3.heap[w2.heap.size]? = _ := (hb3.block w2.heap.size (by omega)).trans hh2
  have hc := blk_cell hm3
  have hhc := blk_cell hh3
  obtain ⟨a3, n3', c3, rfl⟩ := owns_slice' ho3
  go_wp2_with fail
  refine (putNumbers_any (w2.heap.size + 1) _ _ 2 [m.b] w3.heap.size _ (ho3.alloc _) (by simp; omega) (by simp) (ho3.ne (Nat.le_refl _)) (cells_one _ _ _ rfl _) (by simpa using n2) (by decide) (by simp [encA, encN]) (by simp)).mono ?_
  rintro e w4 ⟨v4, rfl, ho4, hk4⟩
  have hb4 := (hb3.alloc (by omega) (.cells #[.int .i64 (m.b)] 3)).trans (hk4.toBelow (B := w2.heap.size + 1) (by simp; omega) (fun k e => (ho3.lt k e).1))
  have hz4 : w2.heap.size + 1 ≤ w4.heap.size := by have := hk4.size; simp at this; omega
  clear hc hhc hk4 hm3 hh3 ho3
  have hm4 : w4.heap[w.heap.size]? = _ := (hb4.block w.heap.size (by omega)).trans hm2
  have hh4 : w4.heap[w2.heap.size]? = _ := (hb4.block w2.heap.size (by omega)).trans hh2
  have hc := blk_cell hm4
  have hhc := blk_cell hh4
  obtain ⟨a4, n4', c4, rfl⟩ := owns_slice' ho4
  have hstr := own_string ho4 (by simp [encA, encN])
  go_wp2
  go_ret2
  exact ⟨by simp, hB2.trans (hb4.mono (by omega))⟩

set_option maxHeartbeats 4000000 in
set_option maxRecDepth 100000 in
theorem pack_b (m : Ms) (v : Value) (w : World) (hk : Kinds w) (hv : VAt w v m.a) (hrm : rmB m = true)
    (h1 : hasB m.k = true) (h2 : hasS m.k = false) (h3 : hasV m.k = false) (h4 : hasA m.k = true)
    (n1 : (0 ≤ m.k ∧ m.k ≤ 1000000) ∧ (0 ≤ m.f ∧ m.f ≤ 1000000) ∧ (0 ≤ m.t ∧ m.t ≤ 1000000)) (n2 : 0 ≤ m.b ∧ m.b ≤ 1000000) (n8 : m.a.length ≤ 16) (n9 : ∀ x ∈ m.a, x.ok) :
    Calls Tryz.prog 48 #[.agg #[.int .i64 m.k, .int .i64 m.f, .int .i64 m.t, .int .i64 m.b, .int .i64 m.s, .int .i64 m.p.c, .int .i64 m.p.q, .int .i64 m.p.h, .string m.p.t, v]] w fun e w' =>
      e = .returned (.tuple #[.string (S (encA 1 [m.k, m.f, m.t] ++ encA 2 [m.b] ++ encA 1 [(m.a.length : Int)] ++ encVs m.a)), .int .i64 0]) ∧ Below w.heap.size w w' := by
  obtain ⟨ao, cap, hve, hvf⟩ := hv.form
  subst hve
  go_enter Tryz.func48, Tryz.ntmps48
  go_wp2_with fail
  refine (rightMessage_any m _ _ (hk.alloc _) (hv.alloc _)).mono ?_
  rintro e w1 ⟨rfl, hb1⟩
  have hm1 := blk_below hb1 (blk_new w _)
  have hk1 := (hk.alloc _).below hb1
  have hv1 := (hv.alloc _).below hb1
  have hB1 : Below w.heap.size w w1 := ((Below.refl _ _).alloc (Nat.le_refl _) _).trans (hb1.mono (by simp))
  clear hb1
  have hc := blk_cell hm1
  go_wp2_with fail
  refine (partsOf_any _ _ hk1).mono ?_
  rintro e w2 ⟨rfl, hb2⟩
  rw [h1, h2, h3, h4]
  have hm2 := blk_alloc (blk_below hb2 hm1) (.cells #[.bool true, .bool false, .bool false, .bool true] 139)
  have hh2 := blk_new w2 (.cells #[.bool true, .bool false, .bool false, .bool true] 139)
  have hv2 := (hv1.below hb2).alloc (.cells #[.bool true, .bool false, .bool false, .bool true] 139)
  have hz2 : w.heap.size < w2.heap.size := lt_of_block (blk_below hb2 hm1)
  have hzz := hB1.size
  have hB2 : Below w.heap.size w (w2.alloc (.cells #[.bool true, .bool false, .bool false, .bool true] 139)) := (hB1.trans (hb2.mono hzz)).alloc (by omega) _
  have hgb : m.a ≠ [] → ∀ g, (Value.slice ao m.a.length cap).ownBlock = some g → g < w2.heap.size + 1 := fun hne g e => by
    obtain ⟨g', off, rfl, hg', _⟩ := hvf hne
    simp [Value.ownBlock] at e
    omega
  clear hb2 hv1 hk1 hm1 hc hB1 hvf hv hk
  have ho2 : Own (w2.alloc (.cells #[.bool true, .bool false, .bool false, .bool true] 139)) (w2.heap.size + 1) (.slice none 0 0) [] := World.ownsRow_nil _ _ _ _
  have hc := blk_cell hm2
  have hhc := blk_cell hh2
  go_wp2_with fail
  refine (putNumbers_any (w2.heap.size + 1) _ _ 1 [m.k, m.f, m.t] (w2.heap.size + 1) _ (ho2.alloc _) (by simp) (by simp) (by simp [Value.ownBlock]) (cells_three _ _ _ _ _ (by simp) _) (by simp; omega) (by decide) (by simp) (by simp)).mono ?_
  rintro e w3 ⟨v3, rfl, ho3, hk3⟩
  have hb3 : Below (w2.heap.size + 1) (w2.alloc (.cells #[.bool true, .bool false, .bool false, .bool true] 139)) w3 := ((Below.refl _ _).alloc (by simp) _).trans (hk3.toBelow (by simp) (by simp [Value.ownBlock]))
  clear hc hhc hk3 ho2
  have hz3 : w2.heap.size + 1 ≤ w3.heap.size := by have := hb3.size; simpa using this
  have hm3 : w3.heap[w.heap.size]? = _ := (hb3.block w.heap.size (by omega)).trans hm2
  have hh3 : w3.heap[w2.heap.size]? = _ := (hb3.block w2.heap.size (by omega)).trans hh2
  have hc := blk_cell hm3
  have hhc := blk_cell hh3
  obtain ⟨a3, n3', c3, rfl⟩ := owns_slice' ho3
  go_wp2_with fail
  refine (putNumbers_any (w2.heap.size + 1) _ _ 2 [m.b] w3.heap.size _ (ho3.alloc _) (by simp; omega) (by simp) (ho3.ne (Nat.le_refl _)) (cells_one _ _ _ rfl _) (by simpa using n2) (by decide) (by simp [encA, encN]) (by simp)).mono ?_
  rintro e w4 ⟨v4, rfl, ho4, hk4⟩
  have hb4 := (hb3.alloc (by omega) (.cells #[.int .i64 (m.b)] 3)).trans (hk4.toBelow (B := w2.heap.size + 1) (by simp; omega) (fun k e => (ho3.lt k e).1))
  have hz4 : w2.heap.size + 1 ≤ w4.heap.size := by have := hk4.size; simp at this; omega
  clear hc hhc hk4 hm3 hh3 ho3
  have hm4 : w4.heap[w.heap.size]? = _ := (hb4.block w.heap.size (by omega)).trans hm2
  have hh4 : w4.heap[w2.heap.size]? = _ := (hb4.block w2.heap.size (by omega)).trans hh2
  have hc := blk_cell hm4
  have hhc := blk_cell hh4
  obtain ⟨a4, n4', c4, rfl⟩ := owns_slice' ho4
  have hvv : VAt w4 (.slice ao m.a.length cap) m.a := by
    refine ⟨hv2.len, ao, cap, rfl, fun hne => ?_⟩
    obtain ⟨ao', cap', e', hf'⟩ := hv2.form
    injection e' with e1 e2 e3
    subst e1
    obtain ⟨g, off, rfl, hg, hcell⟩ := hf' hne
    have hgl := hgb hne g rfl
    exact ⟨g, off, rfl, by omega, fun j u hu => by rw [hb4.cell (p := ⟨g, off + j, none⟩) hgl]; exact hcell j u hu⟩
  go_wp2_with fail
  refine (putVotes_any (w2.heap.size + 1) _ _ _ m.a _ ho4 hz4 (by simp [encA, encN]) hvv hgb n8 n9).mono ?_
  rintro e w5 ⟨v5, rfl, ho5, hy5⟩
  have hb5 := hb4.trans hy5
  have hz5 : w2.heap.size + 1 ≤ w5.heap.size := by have := hy5.size; omega
  clear hc hhc hy5 hm4 hh4 ho4 hvv
  have hm5 : w5.heap[w.heap.size]? = _ := (hb5.block w.heap.size (by omega)).trans hm2
  have hh5 : w5.heap[w2.heap.size]? = _ := (hb5.block w2.heap.size (by omega)).trans hh2
  have hc := blk_cell hm5
  have hhc := blk_cell hh5
  obtain ⟨a5, n5', c5, rfl⟩ := owns_slice' ho5
  have hstr := own_string ho5 (by simp [encA, encN])
  go_wp2
  go_ret2
  exact ⟨by simp, hB2.trans (hb5.mono (by omega))⟩

set_option maxHeartbeats 4000000 in
set_option maxRecDepth 100000 in
theorem pack_c (m : Ms) (v : Value) (w : World) (hk : Kinds w) (hv : VAt w v m.a) (hrm : rmB m = true)
    (h1 : hasB m.k = true) (h2 : hasS m.k = true) (h3 : hasV m.k = true) (h4 : hasA m.k = false)
    (n1 : (0 ≤ m.k ∧ m.k ≤ 1000000) ∧ (0 ≤ m.f ∧ m.f ≤ 1000000) ∧ (0 ≤ m.t ∧ m.t ≤ 1000000)) (n2 : 0 ≤ m.b ∧ m.b ≤ 1000000) (n3 : 0 ≤ m.s ∧ m.s ≤ 1000000) (n4 : 0 ≤ m.p.c ∧ m.p.c ≤ 1000000) (n5 : 0 ≤ m.p.q ∧ m.p.q ≤ 1000000) (n6 : 0 ≤ m.p.h ∧ m.p.h ≤ 1000000) (n7 : m.p.t.size ≤ 1000) :
    Calls Tryz.prog 48 #[.agg #[.int .i64 m.k, .int .i64 m.f, .int .i64 m.t, .int .i64 m.b, .int .i64 m.s, .int .i64 m.p.c, .int .i64 m.p.q, .int .i64 m.p.h, .string m.p.t, v]] w fun e w' =>
      e = .returned (.tuple #[.string (S (encA 1 [m.k, m.f, m.t] ++ encA 2 [m.b] ++ encA 1 [m.s] ++ encV m.p)), .int .i64 0]) ∧ Below w.heap.size w w' := by
  obtain ⟨ao, cap, hve, hvf⟩ := hv.form
  subst hve
  go_enter Tryz.func48, Tryz.ntmps48
  go_wp2_with fail
  refine (rightMessage_any m _ _ (hk.alloc _) (hv.alloc _)).mono ?_
  rintro e w1 ⟨rfl, hb1⟩
  have hm1 := blk_below hb1 (blk_new w _)
  have hk1 := (hk.alloc _).below hb1
  have hv1 := (hv.alloc _).below hb1
  have hB1 : Below w.heap.size w w1 := ((Below.refl _ _).alloc (Nat.le_refl _) _).trans (hb1.mono (by simp))
  clear hb1
  have hc := blk_cell hm1
  go_wp2_with fail
  refine (partsOf_any _ _ hk1).mono ?_
  rintro e w2 ⟨rfl, hb2⟩
  rw [h1, h2, h3, h4]
  have hm2 := blk_alloc (blk_below hb2 hm1) (.cells #[.bool true, .bool true, .bool true, .bool false] 139)
  have hh2 := blk_new w2 (.cells #[.bool true, .bool true, .bool true, .bool false] 139)
  have hv2 := (hv1.below hb2).alloc (.cells #[.bool true, .bool true, .bool true, .bool false] 139)
  have hz2 : w.heap.size < w2.heap.size := lt_of_block (blk_below hb2 hm1)
  have hzz := hB1.size
  have hB2 : Below w.heap.size w (w2.alloc (.cells #[.bool true, .bool true, .bool true, .bool false] 139)) := (hB1.trans (hb2.mono hzz)).alloc (by omega) _
  have hgb : m.a ≠ [] → ∀ g, (Value.slice ao m.a.length cap).ownBlock = some g → g < w2.heap.size + 1 := fun hne g e => by
    obtain ⟨g', off, rfl, hg', _⟩ := hvf hne
    simp [Value.ownBlock] at e
    omega
  clear hb2 hv1 hk1 hm1 hc hB1 hvf hv hk
  have ho2 : Own (w2.alloc (.cells #[.bool true, .bool true, .bool true, .bool false] 139)) (w2.heap.size + 1) (.slice none 0 0) [] := World.ownsRow_nil _ _ _ _
  have hc := blk_cell hm2
  have hhc := blk_cell hh2
  go_wp2_with fail
  refine (putNumbers_any (w2.heap.size + 1) _ _ 1 [m.k, m.f, m.t] (w2.heap.size + 1) _ (ho2.alloc _) (by simp) (by simp) (by simp [Value.ownBlock]) (cells_three _ _ _ _ _ (by simp) _) (by simp; omega) (by decide) (by simp) (by simp)).mono ?_
  rintro e w3 ⟨v3, rfl, ho3, hk3⟩
  have hb3 : Below (w2.heap.size + 1) (w2.alloc (.cells #[.bool true, .bool true, .bool true, .bool false] 139)) w3 := ((Below.refl _ _).alloc (by simp) _).trans (hk3.toBelow (by simp) (by simp [Value.ownBlock]))
  clear hc hhc hk3 ho2
  have hz3 : w2.heap.size + 1 ≤ w3.heap.size := by have := hb3.size; simpa using this
  have hm3 : w3.heap[w.heap.size]? = _ := (hb3.block w.heap.size (by omega)).trans hm2
  have hh3 : w3.heap[w2.heap.size]? = _ := (hb3.block w2.heap.size (by omega)).trans hh2
  have hc := blk_cell hm3
  have hhc := blk_cell hh3
  obtain ⟨a3, n3', c3, rfl⟩ := owns_slice' ho3
  go_wp2_with fail
  refine (putNumbers_any (w2.heap.size + 1) _ _ 2 [m.b] w3.heap.size _ (ho3.alloc _) (by simp; omega) (by simp) (ho3.ne (Nat.le_refl _)) (cells_one _ _ _ rfl _) (by simpa using n2) (by decide) (by simp [encA, encN]) (by simp)).mono ?_
  rintro e w4 ⟨v4, rfl, ho4, hk4⟩
  have hb4 := (hb3.alloc (by omega) (.cells #[.int .i64 (m.b)] 3)).trans (hk4.toBelow (B := w2.heap.size + 1) (by simp; omega) (fun k e => (ho3.lt k e).1))
  have hz4 : w2.heap.size + 1 ≤ w4.heap.size := by have := hk4.size; simp at this; omega
  clear hc hhc hk4 hm3 hh3 ho3
  have hm4 : w4.heap[w.heap.size]? = _ := (hb4.block w.heap.size (by omega)).trans hm2
  have hh4 : w4.heap[w2.heap.size]? = _ := (hb4.block w2.heap.size (by omega)).trans hh2
  have hc := blk_cell hm4
  have hhc := blk_cell hh4
  obtain ⟨a4, n4', c4, rfl⟩ := owns_slice' ho4
  go_wp2_with fail
  refine (putNumbers_any (w2.heap.size + 1) _ _ 1 [m.s] w4.heap.size _ (ho4.alloc _) (by simp; omega) (by simp) (ho4.ne (Nat.le_refl _)) (cells_one _ _ _ rfl _) (by simpa using n3) (by decide) (by simp [encA, encN]) (by simp)).mono ?_
  rintro e w5 ⟨v5, rfl, ho5, hk5⟩
  have hb5 := (hb4.alloc (by omega) (.cells #[.int .i64 (m.s)] 3)).trans (hk5.toBelow (B := w2.heap.size + 1) (by simp; omega) (fun k e => (ho4.lt k e).1))
  have hz5 : w2.heap.size + 1 ≤ w5.heap.size := by have := hk5.size; simp at this; omega
  clear hc hhc hk5 hm4 hh4 ho4
  have hm5 : w5.heap[w.heap.size]? = _ := (hb5.block w.heap.size (by omega)).trans hm2
  have hh5 : w5.heap[w2.heap.size]? = _ := (hb5.block w2.heap.size (by omega)).trans hh2
  have hc := blk_cell hm5
  have hhc := blk_cell hh5
  obtain ⟨a5, n5', c5, rfl⟩ := owns_slice' ho5
  go_wp2_with fail
  refine (putValue_any (w2.heap.size + 1) _ _ m.p.c m.p.q m.p.h m.p.t _ ho5 hz5 (by simp [encA, encN]) n4 n5 n6 n7).mono ?_
  rintro e w6 ⟨v6, rfl, ho6, hy6⟩
  have hb6 := hb5.trans hy6
  have hz6 : w2.heap.size + 1 ≤ w6.heap.size := by have := hy6.size; omega
  clear hc hhc hy6 hm5 hh5 ho5
  have hm6 : w6.heap[w.heap.size]? = _ := (hb6.block w.heap.size (by omega)).trans hm2
  have hh6 : w6.heap[w2.heap.size]? = _ := (hb6.block w2.heap.size (by omega)).trans hh2
  have hc := blk_cell hm6
  have hhc := blk_cell hh6
  obtain ⟨a6, n6', c6, rfl⟩ := owns_slice' ho6
  have hstr := own_string ho6 (by simp [encA, encN])
  go_wp2
  go_ret2
  exact ⟨by simp, hB2.trans (hb6.mono (by omega))⟩

set_option maxHeartbeats 4000000 in
set_option maxRecDepth 100000 in
theorem pack_d (m : Ms) (v : Value) (w : World) (hk : Kinds w) (hv : VAt w v m.a) (hrm : rmB m = true)
    (h1 : hasB m.k = true) (h2 : hasS m.k = true) (h3 : hasV m.k = false) (h4 : hasA m.k = false)
    (n1 : (0 ≤ m.k ∧ m.k ≤ 1000000) ∧ (0 ≤ m.f ∧ m.f ≤ 1000000) ∧ (0 ≤ m.t ∧ m.t ≤ 1000000)) (n2 : 0 ≤ m.b ∧ m.b ≤ 1000000) (n3 : 0 ≤ m.s ∧ m.s ≤ 1000000) :
    Calls Tryz.prog 48 #[.agg #[.int .i64 m.k, .int .i64 m.f, .int .i64 m.t, .int .i64 m.b, .int .i64 m.s, .int .i64 m.p.c, .int .i64 m.p.q, .int .i64 m.p.h, .string m.p.t, v]] w fun e w' =>
      e = .returned (.tuple #[.string (S (encA 1 [m.k, m.f, m.t] ++ encA 2 [m.b] ++ encA 1 [m.s])), .int .i64 0]) ∧ Below w.heap.size w w' := by
  obtain ⟨ao, cap, hve, hvf⟩ := hv.form
  subst hve
  go_enter Tryz.func48, Tryz.ntmps48
  go_wp2_with fail
  refine (rightMessage_any m _ _ (hk.alloc _) (hv.alloc _)).mono ?_
  rintro e w1 ⟨rfl, hb1⟩
  have hm1 := blk_below hb1 (blk_new w _)
  have hk1 := (hk.alloc _).below hb1
  have hv1 := (hv.alloc _).below hb1
  have hB1 : Below w.heap.size w w1 := ((Below.refl _ _).alloc (Nat.le_refl _) _).trans (hb1.mono (by simp))
  clear hb1
  have hc := blk_cell hm1
  go_wp2_with fail
  refine (partsOf_any _ _ hk1).mono ?_
  rintro e w2 ⟨rfl, hb2⟩
  rw [h1, h2, h3, h4]
  have hm2 := blk_alloc (blk_below hb2 hm1) (.cells #[.bool true, .bool true, .bool false, .bool false] 139)
  have hh2 := blk_new w2 (.cells #[.bool true, .bool true, .bool false, .bool false] 139)
  have hv2 := (hv1.below hb2).alloc (.cells #[.bool true, .bool true, .bool false, .bool false] 139)
  have hz2 : w.heap.size < w2.heap.size := lt_of_block (blk_below hb2 hm1)
  have hzz := hB1.size
  have hB2 : Below w.heap.size w (w2.alloc (.cells #[.bool true, .bool true, .bool false, .bool false] 139)) := (hB1.trans (hb2.mono hzz)).alloc (by omega) _
  have hgb : m.a ≠ [] → ∀ g, (Value.slice ao m.a.length cap).ownBlock = some g → g < w2.heap.size + 1 := fun hne g e => by
    obtain ⟨g', off, rfl, hg', _⟩ := hvf hne
    simp [Value.ownBlock] at e
    omega
  clear hb2 hv1 hk1 hm1 hc hB1 hvf hv hk
  have ho2 : Own (w2.alloc (.cells #[.bool true, .bool true, .bool false, .bool false] 139)) (w2.heap.size + 1) (.slice none 0 0) [] := World.ownsRow_nil _ _ _ _
  have hc := blk_cell hm2
  have hhc := blk_cell hh2
  go_wp2_with fail
  refine (putNumbers_any (w2.heap.size + 1) _ _ 1 [m.k, m.f, m.t] (w2.heap.size + 1) _ (ho2.alloc _) (by simp) (by simp) (by simp [Value.ownBlock]) (cells_three _ _ _ _ _ (by simp) _) (by simp; omega) (by decide) (by simp) (by simp)).mono ?_
  rintro e w3 ⟨v3, rfl, ho3, hk3⟩
  have hb3 : Below (w2.heap.size + 1) (w2.alloc (.cells #[.bool true, .bool true, .bool false, .bool false] 139)) w3 := ((Below.refl _ _).alloc (by simp) _).trans (hk3.toBelow (by simp) (by simp [Value.ownBlock]))
  clear hc hhc hk3 ho2
  have hz3 : w2.heap.size + 1 ≤ w3.heap.size := by have := hb3.size; simpa using this
  have hm3 : w3.heap[w.heap.size]? = _ := (hb3.block w.heap.size (by omega)).trans hm2
  have hh3 : w3.heap[w2.heap.size]? = _ := (hb3.block w2.heap.size (by omega)).trans hh2
  have hc := blk_cell hm3
  have hhc := blk_cell hh3
  obtain ⟨a3, n3', c3, rfl⟩ := owns_slice' ho3
  go_wp2_with fail
  refine (putNumbers_any (w2.heap.size + 1) _ _ 2 [m.b] w3.heap.size _ (ho3.alloc _) (by simp; omega) (by simp) (ho3.ne (Nat.le_refl _)) (cells_one _ _ _ rfl _) (by simpa using n2) (by decide) (by simp [encA, encN]) (by simp)).mono ?_
  rintro e w4 ⟨v4, rfl, ho4, hk4⟩
  have hb4 := (hb3.alloc (by omega) (.cells #[.int .i64 (m.b)] 3)).trans (hk4.toBelow (B := w2.heap.size + 1) (by simp; omega) (fun k e => (ho3.lt k e).1))
  have hz4 : w2.heap.size + 1 ≤ w4.heap.size := by have := hk4.size; simp at this; omega
  clear hc hhc hk4 hm3 hh3 ho3
  have hm4 : w4.heap[w.heap.size]? = _ := (hb4.block w.heap.size (by omega)).trans hm2
  have hh4 : w4.heap[w2.heap.size]? = _ := (hb4.block w2.heap.size (by omega)).trans hh2
  have hc := blk_cell hm4
  have hhc := blk_cell hh4
  obtain ⟨a4, n4', c4, rfl⟩ := owns_slice' ho4
  go_wp2_with fail
  refine (putNumbers_any (w2.heap.size + 1) _ _ 1 [m.s] w4.heap.size _ (ho4.alloc _) (by simp; omega) (by simp) (ho4.ne (Nat.le_refl _)) (cells_one _ _ _ rfl _) (by simpa using n3) (by decide) (by simp [encA, encN]) (by simp)).mono ?_
  rintro e w5 ⟨v5, rfl, ho5, hk5⟩
  have hb5 := (hb4.alloc (by omega) (.cells #[.int .i64 (m.s)] 3)).trans (hk5.toBelow (B := w2.heap.size + 1) (by simp; omega) (fun k e => (ho4.lt k e).1))
  have hz5 : w2.heap.size + 1 ≤ w5.heap.size := by have := hk5.size; simp at this; omega
  clear hc hhc hk5 hm4 hh4 ho4
  have hm5 : w5.heap[w.heap.size]? = _ := (hb5.block w.heap.size (by omega)).trans hm2
  have hh5 : w5.heap[w2.heap.size]? = _ := (hb5.block w2.heap.size (by omega)).trans hh2
  have hc := blk_cell hm5
  have hhc := blk_cell hh5
  obtain ⟨a5, n5', c5, rfl⟩ := owns_slice' ho5
  have hstr := own_string ho5 (by simp [encA, encN])
  go_wp2
  go_ret2
  exact ⟨by simp, hB2.trans (hb5.mono (by omega))⟩

set_option maxHeartbeats 4000000 in
set_option maxRecDepth 100000 in
theorem pack_e (m : Ms) (v : Value) (w : World) (hk : Kinds w) (hv : VAt w v m.a) (hrm : rmB m = true)
    (h1 : hasB m.k = false) (h2 : hasS m.k = true) (h3 : hasV m.k = true) (h4 : hasA m.k = false)
    (n1 : (0 ≤ m.k ∧ m.k ≤ 1000000) ∧ (0 ≤ m.f ∧ m.f ≤ 1000000) ∧ (0 ≤ m.t ∧ m.t ≤ 1000000)) (n3 : 0 ≤ m.s ∧ m.s ≤ 1000000) (n4 : 0 ≤ m.p.c ∧ m.p.c ≤ 1000000) (n5 : 0 ≤ m.p.q ∧ m.p.q ≤ 1000000) (n6 : 0 ≤ m.p.h ∧ m.p.h ≤ 1000000) (n7 : m.p.t.size ≤ 1000) :
    Calls Tryz.prog 48 #[.agg #[.int .i64 m.k, .int .i64 m.f, .int .i64 m.t, .int .i64 m.b, .int .i64 m.s, .int .i64 m.p.c, .int .i64 m.p.q, .int .i64 m.p.h, .string m.p.t, v]] w fun e w' =>
      e = .returned (.tuple #[.string (S (encA 1 [m.k, m.f, m.t] ++ encA 1 [m.s] ++ encV m.p)), .int .i64 0]) ∧ Below w.heap.size w w' := by
  obtain ⟨ao, cap, hve, hvf⟩ := hv.form
  subst hve
  go_enter Tryz.func48, Tryz.ntmps48
  go_wp2_with fail
  refine (rightMessage_any m _ _ (hk.alloc _) (hv.alloc _)).mono ?_
  rintro e w1 ⟨rfl, hb1⟩
  have hm1 := blk_below hb1 (blk_new w _)
  have hk1 := (hk.alloc _).below hb1
  have hv1 := (hv.alloc _).below hb1
  have hB1 : Below w.heap.size w w1 := ((Below.refl _ _).alloc (Nat.le_refl _) _).trans (hb1.mono (by simp))
  clear hb1
  have hc := blk_cell hm1
  go_wp2_with fail
  refine (partsOf_any _ _ hk1).mono ?_
  rintro e w2 ⟨rfl, hb2⟩
  rw [h1, h2, h3, h4]
  have hm2 := blk_alloc (blk_below hb2 hm1) (.cells #[.bool false, .bool true, .bool true, .bool false] 139)
  have hh2 := blk_new w2 (.cells #[.bool false, .bool true, .bool true, .bool false] 139)
  have hv2 := (hv1.below hb2).alloc (.cells #[.bool false, .bool true, .bool true, .bool false] 139)
  have hz2 : w.heap.size < w2.heap.size := lt_of_block (blk_below hb2 hm1)
  have hzz := hB1.size
  have hB2 : Below w.heap.size w (w2.alloc (.cells #[.bool false, .bool true, .bool true, .bool false] 139)) := (hB1.trans (hb2.mono hzz)).alloc (by omega) _
  have hgb : m.a ≠ [] → ∀ g, (Value.slice ao m.a.length cap).ownBlock = some g → g < w2.heap.size + 1 := fun hne g e => by
    obtain ⟨g', off, rfl, hg', _⟩ := hvf hne
    simp [Value.ownBlock] at e
    omega
  clear hb2 hv1 hk1 hm1 hc hB1 hvf hv hk
  have ho2 : Own (w2.alloc (.cells #[.bool false, .bool true, .bool true, .bool false] 139)) (w2.heap.size + 1) (.slice none 0 0) [] := World.ownsRow_nil _ _ _ _
  have hc := blk_cell hm2
  have hhc := blk_cell hh2
  go_wp2_with fail
  refine (putNumbers_any (w2.heap.size + 1) _ _ 1 [m.k, m.f, m.t] (w2.heap.size + 1) _ (ho2.alloc _) (by simp) (by simp) (by simp [Value.ownBlock]) (cells_three _ _ _ _ _ (by simp) _) (by simp; omega) (by decide) (by simp) (by simp)).mono ?_
  rintro e w3 ⟨v3, rfl, ho3, hk3⟩
  have hb3 : Below (w2.heap.size + 1) (w2.alloc (.cells #[.bool false, .bool true, .bool true, .bool false] 139)) w3 := ((Below.refl _ _).alloc (by simp) _).trans (hk3.toBelow (by simp) (by simp [Value.ownBlock]))
  clear hc hhc hk3 ho2
  have hz3 : w2.heap.size + 1 ≤ w3.heap.size := by have := hb3.size; simpa using this
  have hm3 : w3.heap[w.heap.size]? = _ := (hb3.block w.heap.size (by omega)).trans hm2
  have hh3 : w3.heap[w2.heap.size]? = _ := (hb3.block w2.heap.size (by omega)).trans hh2
  have hc := blk_cell hm3
  have hhc := blk_cell hh3
  obtain ⟨a3, n3', c3, rfl⟩ := owns_slice' ho3
  go_wp2_with fail
  refine (putNumbers_any (w2.heap.size + 1) _ _ 1 [m.s] w3.heap.size _ (ho3.alloc _) (by simp; omega) (by simp) (ho3.ne (Nat.le_refl _)) (cells_one _ _ _ rfl _) (by simpa using n3) (by decide) (by simp [encA, encN]) (by simp)).mono ?_
  rintro e w4 ⟨v4, rfl, ho4, hk4⟩
  have hb4 := (hb3.alloc (by omega) (.cells #[.int .i64 (m.s)] 3)).trans (hk4.toBelow (B := w2.heap.size + 1) (by simp; omega) (fun k e => (ho3.lt k e).1))
  have hz4 : w2.heap.size + 1 ≤ w4.heap.size := by have := hk4.size; simp at this; omega
  clear hc hhc hk4 hm3 hh3 ho3
  have hm4 : w4.heap[w.heap.size]? = _ := (hb4.block w.heap.size (by omega)).trans hm2
  have hh4 : w4.heap[w2.heap.size]? = _ := (hb4.block w2.heap.size (by omega)).trans hh2
  have hc := blk_cell hm4
  have hhc := blk_cell hh4
  obtain ⟨a4, n4', c4, rfl⟩ := owns_slice' ho4
  go_wp2_with fail
  refine (putValue_any (w2.heap.size + 1) _ _ m.p.c m.p.q m.p.h m.p.t _ ho4 hz4 (by simp [encA, encN]) n4 n5 n6 n7).mono ?_
  rintro e w5 ⟨v5, rfl, ho5, hy5⟩
  have hb5 := hb4.trans hy5
  have hz5 : w2.heap.size + 1 ≤ w5.heap.size := by have := hy5.size; omega
  clear hc hhc hy5 hm4 hh4 ho4
  have hm5 : w5.heap[w.heap.size]? = _ := (hb5.block w.heap.size (by omega)).trans hm2
  have hh5 : w5.heap[w2.heap.size]? = _ := (hb5.block w2.heap.size (by omega)).trans hh2
  have hc := blk_cell hm5
  have hhc := blk_cell hh5
  obtain ⟨a5, n5', c5, rfl⟩ := owns_slice' ho5
  have hstr := own_string ho5 (by simp [encA, encN])
  go_wp2
  go_ret2
  exact ⟨by simp, hB2.trans (hb5.mono (by omega))⟩

theorem wpack_any (m : Ms) (v : Value) (w : World) (hk : Kinds w) (hv : VAt w v m.a) :
    Calls Tryz.prog 48 #[.agg #[.int .i64 m.k, .int .i64 m.f, .int .i64 m.t, .int .i64 m.b, .int .i64 m.s, .int .i64 m.p.c, .int .i64 m.p.q, .int .i64 m.p.h, .string m.p.t, v]] w fun e w' =>
      e = .returned (if rmB m then .tuple #[.string (S (encM m)), .int .i64 0] else .tuple #[.string (S []), .int .i64 2]) ∧ Below w.heap.size w w' := by
  cases hrm : rmB m
  · simpa using pack_no m v w hk hv hrm
  · have hr := hrm
    simp only [rmB, Bool.and_eq_true] at hr
    obtain ⟨⟨⟨⟨⟨⟨r1, r2⟩, r3⟩, r4⟩, r5⟩, r6⟩, r7⟩ := hr
    have b1 := withinB_true r1
    have b2 := withinB_true r2
    have b3 := withinB_true r3
    have n1 : (0 ≤ m.k ∧ m.k ≤ 1000000) ∧ (0 ≤ m.f ∧ m.f ≤ 1000000) ∧ (0 ≤ m.t ∧ m.t ≤ 1000000) := by omega
    rw [if_pos rfl]
    rcases (show m.k = 1 ∨ m.k = 6 ∨ m.k = 2 ∨ m.k = 3 ∨ m.k = 4 ∨ m.k = 5 from by omega) with e | e | e | e | e | e
    · have h1 : hasB m.k = true := by rw [e]; rfl
      have h2 : hasS m.k = false := by rw [e]; rfl
      have h3 : hasV m.k = false := by rw [e]; rfl
      have h4 : hasA m.k = false := by rw [e]; rfl
      rw [h1] at r4; rw [h2] at r5; rw [h3] at r6; rw [h4] at r7
      have c2 := withinB_true (show withinB m.b 1 8007 = true from r4)
      have P := pack_a m v w hk hv hrm h1 h2 h3 h4 n1 (by omega)
      simpa [encM, h1, h2, h3, h4] using P
    · have h1 : hasB m.k = true := by rw [e]; rfl
      have h2 : hasS m.k = false := by rw [e]; rfl
      have h3 : hasV m.k = false := by rw [e]; rfl
      have h4 : hasA m.k = false := by rw [e]; rfl
      rw [h1] at r4; rw [h2] at r5; rw [h3] at r6; rw [h4] at r7
      have c2 := withinB_true (show withinB m.b 1 8007 = true from r4)
      have P := pack_a m v w hk hv hrm h1 h2 h3 h4 n1 (by omega)
      simpa [encM, h1, h2, h3, h4] using P
    · have h1 : hasB m.k = true := by rw [e]; rfl
      have h2 : hasS m.k = false := by rw [e]; rfl
      have h3 : hasV m.k = false := by rw [e]; rfl
      have h4 : hasA m.k = true := by rw [e]; rfl
      rw [h1] at r4; rw [h2] at r5; rw [h3] at r6; rw [h4] at r7
      have c2 := withinB_true (show withinB m.b 1 8007 = true from r4)
      obtain ⟨c8, c9⟩ := rvB_ok m.a (-1) (by omega) (show rvB (-1) m.a = true from r7)
      have P := pack_b m v w hk hv hrm h1 h2 h3 h4 n1 (by omega) (by have := c9 (by omega); omega) (fun x hx => (c8 x hx).1)
      simpa [encM, h1, h2, h3, h4] using P
    · have h1 : hasB m.k = true := by rw [e]; rfl
      have h2 : hasS m.k = true := by rw [e]; rfl
      have h3 : hasV m.k = true := by rw [e]; rfl
      have h4 : hasA m.k = false := by rw [e]; rfl
      rw [h1] at r4; rw [h2] at r5; rw [h3] at r6; rw [h4] at r7
      have c2 := withinB_true (show withinB m.b 1 8007 = true from r4)
      have c3 := withinB_true (show withinB m.s 0 15 = true from r5)
      obtain ⟨c4, c5, c6, c7⟩ := rv_ok m.p (show rightValueB m.p = true from r6)
      have P := pack_c m v w hk hv hrm h1 h2 h3 h4 n1 (by omega) (by omega) (by omega) (by omega) (by omega) (by omega)
      simpa [encM, h1, h2, h3, h4] using P
    · have h1 : hasB m.k = true := by rw [e]; rfl
      have h2 : hasS m.k = true := by rw [e]; rfl
      have h3 : hasV m.k = false := by rw [e]; rfl
      have h4 : hasA m.k = false := by rw [e]; rfl
      rw [h1] at r4; rw [h2] at r5; rw [h3] at r6; rw [h4] at r7
      have c2 := withinB_true (show withinB m.b 1 8007 = true from r4)
      have c3 := withinB_true (show withinB m.s 0 15 = true from r5)
      have P := pack_d m v w hk hv hrm h1 h2 h3 h4 n1 (by omega) (by omega)
      simpa [encM, h1, h2, h3, h4] using P
    · have h1 : hasB m.k = false := by rw [e]; rfl
      have h2 : hasS m.k = true := by rw [e]; rfl
      have h3 : hasV m.k = true := by rw [e]; rfl
      have h4 : hasA m.k = false := by rw [e]; rfl
      rw [h1] at r4; rw [h2] at r5; rw [h3] at r6; rw [h4] at r7
      have c3 := withinB_true (show withinB m.s 0 15 = true from r5)
      obtain ⟨c4, c5, c6, c7⟩ := rv_ok m.p (show rightValueB m.p = true from r6)
      have P := pack_e m v w hk hv hrm h1 h2 h3 h4 n1 (by omega) (by omega) (by omega) (by omega) (by omega)
      simpa [encM, h1, h2, h3, h4] using P
end Go.Proofs.YtnnhnekfokbooaaGreatDoor
