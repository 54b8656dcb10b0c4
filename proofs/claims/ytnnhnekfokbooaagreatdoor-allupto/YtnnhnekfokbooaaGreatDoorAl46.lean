/- WalkR, Laws, RefA -/
import Derived.Test.YtnnhnekfokbooaaGreatDoorAl45
import Derived.Test.YtnnhnekfokbooaaGreatDoorAl27
set_option linter.unusedSimpArgs false
set_option linter.unusedVariables false
set_option maxRecDepth 100000
namespace Go.Proofs.YtnnhnekfokbooaaGreatDoor
section
open Go.RowKit
def encM (m : Ms) : List UInt8 :=
 encA 1 [m.k, m.f, m.t] ++ (if hasB m.k then encA 2 [m.b] else []) ++ (if hasS m.k then encA 1 [m.s] else []) ++ (if hasV m.k then encV m.p else []) ++ (if hasA m.k then encA 1 [(m.a.length : Int)] ++ encVs m.a else [])
theorem S_eta (t : ByteArray) : S t.data.toList = t := by
 apply ByteArray.ext; simp [S]
theorem rv_ok (p : Pst) (h : rightValueB p = true) : (0 ≤ p.c ∧ p.c ≤ 9) ∧ (0 ≤ p.q ∧ p.q ≤ 1000) ∧ (0 ≤ p.h ∧ p.h ≤ 3) ∧ p.t.size ≤ 12 := by
 unfold rightValueB at h
 rw [Bool.or_eq_true] at h
 rcases h with h | h
 ·simp [nothingB] at h
  have : p.t.size = 0 := by
   have h2 := h.2
   rw [← S_eta p.t, S_toList] at h2
   have h3 : p.t.data.toList.length = p.t.size := by rw [Array.length_toList]; rfl
   rw [h2] at h3
   exact h3.symm
  omega
 ·simp [rightPostB] at h
  obtain ⟨⟨⟨h1, h2⟩, h3⟩, h4⟩ := h
  have := withinB_true h1; have := withinB_true h2; have := withinB_true h3
  omega
theorem rvB_ok : ∀ (l : List Vt) (la : Int), -1 ≤ la → rvB la l = true → (∀ x ∈ l, x.ok ∧ (0 ≤ x.s ∧ x.s ≤ 15) ∧ (1 ≤ x.b ∧ x.b ≤ 8007) ∧ rightValueB x.p = true) ∧ (la ≤ 15 → (l.length : Int) ≤ 15 - la)
 | [], la, _, _ => ⟨by simp, fun h => by simp; omega⟩
 | x :: l, la, hla, h => by
  simp only [rvB, Bool.and_eq_true] at h
  obtain ⟨⟨⟨⟨h1, h2⟩, h3⟩, h4⟩, h5⟩ := h
  have h1' : ¬ x.s ≤ la := by simpa using h1
  have b2 := withinB_true h2
  have b3 := withinB_true h3
  obtain ⟨i1, i2⟩ := rvB_ok l x.s (by omega) h5
  obtain ⟨r1, r2, r3, r4⟩ := rv_ok x.p h4
  refine ⟨fun y hy => ?_, fun _ => ?_⟩
  ·rcases List.mem_cons.1 hy with rfl | hy
   ·exact ⟨⟨by omega, by omega, by omega, by omega, by omega, by omega⟩, by omega, by omega, h4⟩
   ·exact i1 y hy
  ·have := i2 (by omega); simp; omega
theorem Own.keep {w w' : World} {B : Nat} {v : Value} {bs : List UInt8} (h : Own w B v bs) (hne : bs ≠ []) : ∃ g cap, v = .slice (some (A6 g 0)) bs.length cap ∧ ∀ j (hj : j < bs.length), w.cell? (((A6 g 0) : Addr).add j) = some (.int .u8 (bs[j].toNat : Int)) := by
 have hpos : 0 < bs.length := List.length_pos_iff.2 hne
 obtain ⟨g, cap, rfl, _, _⟩ := World.ownsRow.form h hpos
 exact ⟨g, cap, rfl, fun j hj => World.ownsRow.cells h rfl j _ (by simp [bcs, hj])⟩
theorem own_string {w : World} {B : Nat} {v : Value} {bs : List UInt8} (h : Own w B v bs) (hne : bs ≠ []) : (convert 141 9 v).run Tryz.prog w = .ok (.string (S bs)) w := by
 obtain ⟨g, cap, rfl, hc⟩ := h.keep (w' := w) hne
 exact run_convert_bytes_back w _ _ 5 _ cap bs Tryz.underlying141 Tryz.underlying5 Tryz.underlying9 hc
set_option maxHeartbeats 1000000 in
theorem pack_no (m : Ms) (v : Value) (w : World) (hk : Kinds w) (hv : VAt w v m.a) (hrm : rmB m = false) :
  Calls Tryz.prog 48 #[.agg #[I6 m.k, I6 m.f, I6 m.t, I6 m.b, I6 m.s, I6 m.p.c, I6 m.p.q, I6 m.p.h, .string m.p.t, v]] w fun e w' =>
   e = .returned (.tuple #[.string (S []), I6 2]) ∧ Below w.heap.size w w' := by
 obtain ⟨ao, cap, hve, _⟩ := hv.form
 subst hve
 go_enter Tryz.func48, Tryz.ntmps48
 go_wp2_with (go_at_call 76; refine (rightMessage_any m _ _ (hk.alloc _) (hv.alloc _)).mono ?_; rintro e w1 ⟨rfl, hb1⟩)
 go_ret2
 exact ⟨rfl, ((Below.refl _ _).alloc (Nat.le_refl _) _).trans (hb1.mono (by simp))⟩
set_option maxHeartbeats 4000000 in
theorem pack_a (m : Ms) (v : Value) (w : World) (hk : Kinds w) (hv : VAt w v m.a) (hrm : rmB m = true)
  (h1 : hasB m.k = true) (h2 : hasS m.k = false) (h3 : hasV m.k = false) (h4 : hasA m.k = false)
  (n1 : (0 ≤ m.k ∧ m.k ≤ 1000000) ∧ (0 ≤ m.f ∧ m.f ≤ 1000000) ∧ (0 ≤ m.t ∧ m.t ≤ 1000000)) (n2 : 0 ≤ m.b ∧ m.b ≤ 1000000) :
  Calls Tryz.prog 48 #[.agg #[I6 m.k, I6 m.f, I6 m.t, I6 m.b, I6 m.s, I6 m.p.c, I6 m.p.q, I6 m.p.h, .string m.p.t, v]] w fun e w' =>
   e = .returned (.tuple #[.string (S (encA 1 [m.k, m.f, m.t] ++ encA 2 [m.b])), I6 0]) ∧ Below w.heap.size w w' := by
 obtain ⟨ao, cap, hve, hvf⟩ := hv.form
 subst hve
 go_enter Tryz.func48, Tryz.ntmps48
 go_wp2_with fail
 refine (rightMessage_any m _ _ (hk.alloc _) (hv.alloc _)).mono ?_
 rintro e w1 ⟨rfl, hb1⟩
 have hm1 := blk_below hb1 (blk_new w _)
 have hk1 := (hk.alloc _).below hb1
 have hv1 := (hv.alloc _).below hb1
 have hB1 : Below w.heap.size w w1 := ((Below.refl _ _).alloc (Nat.le_refl _) _).trans (hb1.mono (by simp))
 clear hb1
 have hc := blk_cell hm1
 go_wp2_with fail
 refine (partsOf_any _ _ hk1).mono ?_
 rintro e w2 ⟨rfl, hb2⟩
 rw [h1, h2, h3, h4]
 have hm2 := blk_alloc (blk_below hb2 hm1) (.cells #[.bool true, .bool false, .bool false, .bool false] 139)
 have hh2 := blk_new w2 (.cells #[.bool true, .bool false, .bool false, .bool false] 139)
 have hv2 := (hv1.below hb2).alloc (.cells #[.bool true, .bool false, .bool false, .bool false] 139)
 have hz2 : w.heap.size < w2.heap.size := lt_of_block (blk_below hb2 hm1)
 have hzz := hB1.size
 have hB2 : Below w.heap.size w (w2.alloc (.cells #[.bool true, .bool false, .bool false, .bool false] 139)) := (hB1.trans (hb2.mono hzz)).alloc (by omega) _
 have hgb : m.a ≠ [] → ∀ g, (Value.slice ao m.a.length cap).ownBlock = some g → g < w2.heap.size + 1 := fun hne g e => by
  obtain ⟨g', off, rfl, hg', _⟩ := hvf hne
  simp [Value.ownBlock] at e
  omega
 clear hb2 hv1 hk1 hm1 hc hB1 hvf hv hk
 have ho2 : Own (w2.alloc (.cells #[.bool true, .bool false, .bool false, .bool false] 139)) (w2.heap.size + 1) (.slice none 0 0) [] := World.ownsRow_nil _ _ _ _
 have hc := blk_cell hm2
 have hhc := blk_cell hh2
 go_wp2_with fail
 refine (putNumbers_any (w2.heap.size + 1) _ _ 1 [m.k, m.f, m.t] (w2.heap.size + 1) _ (ho2.alloc _) (by simp) (by simp) (by simp [Value.ownBlock]) (cells_three _ _ _ _ _ (by simp) _) (by simp; omega) (by decide) (by simp) (by simp)).mono ?_
 rintro e w3 ⟨v3, rfl, ho3, hk3⟩
 have hb3 : Below (w2.heap.size + 1) (w2.alloc (.cells #[.bool true, .bool false, .bool false, .bool false] 139)) w3 := ((Below.refl _ _).alloc (by simp) _).trans (hk3.toBelow (by simp) (by simp [Value.ownBlock]))
 clear hc hhc hk3 ho2
 have hz3 : w2.heap.size + 1 ≤ w3.heap.size := by have := hb3.size; simpa using this
 have hm3 : w3.heap[w.heap.size]? = _ := (hb3.block w.heap.size (by omega)).trans hm2
 have hh3 : w3.heap[w2.heap.size]? = _ := (hb3.block w2.heap.size (by omega)).trans hh2
 have hc := blk_cell hm3
 have hhc := blk_cell hh3
 obtain ⟨a3, n3', c3, rfl⟩ := owns_slice' ho3
 go_wp2_with fail
 refine (putNumbers_any (w2.heap.size + 1) _ _ 2 [m.b] w3.heap.size _ (ho3.alloc _) (by simp; omega) (by simp) (ho3.ne (Nat.le_refl _)) (cells_one _ _ _ rfl _) (by simpa using n2) (by decide) (by simp [encA, encN]) (by simp)).mono ?_
 rintro e w4 ⟨v4, rfl, ho4, hk4⟩
 have hb4 := (hb3.alloc (by omega) (.cells #[I6 (m.b)] 3)).trans (hk4.toBelow (B := w2.heap.size + 1) (by simp; omega) (fun k e => (ho3.lt k e).1))
 have hz4 : w2.heap.size + 1 ≤ w4.heap.size := by have := hk4.size; simp at this; omega
 clear hc hhc hk4 hm3 hh3 ho3
 have hm4 : w4.heap[w.heap.size]? = _ := (hb4.block w.heap.size (by omega)).trans hm2
 have hh4 : w4.heap[w2.heap.size]? = _ := (hb4.block w2.heap.size (by omega)).trans hh2
 have hc := blk_cell hm4
 have hhc := blk_cell hh4
 obtain ⟨a4, n4', c4, rfl⟩ := owns_slice' ho4
 have hstr := own_string ho4 (by simp [encA, encN])
 go_wp2
 go_ret2
 exact ⟨by simp, hB2.trans (hb4.mono (by omega))⟩
set_option maxHeartbeats 4000000 in
theorem pack_b (m : Ms) (v : Value) (w : World) (hk : Kinds w) (hv : VAt w v m.a) (hrm : rmB m = true)
  (h1 : hasB m.k = true) (h2 : hasS m.k = false) (h3 : hasV m.k = false) (h4 : hasA m.k = true)
  (n1 : (0 ≤ m.k ∧ m.k ≤ 1000000) ∧ (0 ≤ m.f ∧ m.f ≤ 1000000) ∧ (0 ≤ m.t ∧ m.t ≤ 1000000)) (n2 : 0 ≤ m.b ∧ m.b ≤ 1000000) (n8 : m.a.length ≤ 16) (n9 : ∀ x ∈ m.a, x.ok) :
  Calls Tryz.prog 48 #[.agg #[I6 m.k, I6 m.f, I6 m.t, I6 m.b, I6 m.s, I6 m.p.c, I6 m.p.q, I6 m.p.h, .string m.p.t, v]] w fun e w' =>
   e = .returned (.tuple #[.string (S (encA 1 [m.k, m.f, m.t] ++ encA 2 [m.b] ++ encA 1 [(m.a.length : Int)] ++ encVs m.a)), I6 0]) ∧ Below w.heap.size w w' := by
 obtain ⟨ao, cap, hve, hvf⟩ := hv.form
 subst hve
 go_enter Tryz.func48, Tryz.ntmps48
 go_wp2_with fail
 refine (rightMessage_any m _ _ (hk.alloc _) (hv.alloc _)).mono ?_
 rintro e w1 ⟨rfl, hb1⟩
 have hm1 := blk_below hb1 (blk_new w _)
 have hk1 := (hk.alloc _).below hb1
 have hv1 := (hv.alloc _).below hb1
 have hB1 : Below w.heap.size w w1 := ((Below.refl _ _).alloc (Nat.le_refl _) _).trans (hb1.mono (by simp))
 clear hb1
 have hc := blk_cell hm1
 go_wp2_with fail
 refine (partsOf_any _ _ hk1).mono ?_
 rintro e w2 ⟨rfl, hb2⟩
 rw [h1, h2, h3, h4]
 have hm2 := blk_alloc (blk_below hb2 hm1) (.cells #[.bool true, .bool false, .bool false, .bool true] 139)
 have hh2 := blk_new w2 (.cells #[.bool true, .bool false, .bool false, .bool true] 139)
 have hv2 := (hv1.below hb2).alloc (.cells #[.bool true, .bool false, .bool false, .bool true] 139)
 have hz2 : w.heap.size < w2.heap.size := lt_of_block (blk_below hb2 hm1)
 have hzz := hB1.size
 have hB2 : Below w.heap.size w (w2.alloc (.cells #[.bool true, .bool false, .bool false, .bool true] 139)) := (hB1.trans (hb2.mono hzz)).alloc (by omega) _
 have hgb : m.a ≠ [] → ∀ g, (Value.slice ao m.a.length cap).ownBlock = some g → g < w2.heap.size + 1 := fun hne g e => by
  obtain ⟨g', off, rfl, hg', _⟩ := hvf hne
  simp [Value.ownBlock] at e
  omega
 clear hb2 hv1 hk1 hm1 hc hB1 hvf hv hk
 have ho2 : Own (w2.alloc (.cells #[.bool true, .bool false, .bool false, .bool true] 139)) (w2.heap.size + 1) (.slice none 0 0) [] := World.ownsRow_nil _ _ _ _
 have hc := blk_cell hm2
 have hhc := blk_cell hh2
 go_wp2_with fail
 refine (putNumbers_any (w2.heap.size + 1) _ _ 1 [m.k, m.f, m.t] (w2.heap.size + 1) _ (ho2.alloc _) (by simp) (by simp) (by simp [Value.ownBlock]) (cells_three _ _ _ _ _ (by simp) _) (by simp; omega) (by decide) (by simp) (by simp)).mono ?_
 rintro e w3 ⟨v3, rfl, ho3, hk3⟩
 have hb3 : Below (w2.heap.size + 1) (w2.alloc (.cells #[.bool true, .bool false, .bool false, .bool true] 139)) w3 := ((Below.refl _ _).alloc (by simp) _).trans (hk3.toBelow (by simp) (by simp [Value.ownBlock]))
 clear hc hhc hk3 ho2
 have hz3 : w2.heap.size + 1 ≤ w3.heap.size := by have := hb3.size; simpa using this
 have hm3 : w3.heap[w.heap.size]? = _ := (hb3.block w.heap.size (by omega)).trans hm2
 have hh3 : w3.heap[w2.heap.size]? = _ := (hb3.block w2.heap.size (by omega)).trans hh2
 have hc := blk_cell hm3
 have hhc := blk_cell hh3
 obtain ⟨a3, n3', c3, rfl⟩ := owns_slice' ho3
 go_wp2_with fail
 refine (putNumbers_any (w2.heap.size + 1) _ _ 2 [m.b] w3.heap.size _ (ho3.alloc _) (by simp; omega) (by simp) (ho3.ne (Nat.le_refl _)) (cells_one _ _ _ rfl _) (by simpa using n2) (by decide) (by simp [encA, encN]) (by simp)).mono ?_
 rintro e w4 ⟨v4, rfl, ho4, hk4⟩
 have hb4 := (hb3.alloc (by omega) (.cells #[I6 (m.b)] 3)).trans (hk4.toBelow (B := w2.heap.size + 1) (by simp; omega) (fun k e => (ho3.lt k e).1))
 have hz4 : w2.heap.size + 1 ≤ w4.heap.size := by have := hk4.size; simp at this; omega
 clear hc hhc hk4 hm3 hh3 ho3
 have hm4 : w4.heap[w.heap.size]? = _ := (hb4.block w.heap.size (by omega)).trans hm2
 have hh4 : w4.heap[w2.heap.size]? = _ := (hb4.block w2.heap.size (by omega)).trans hh2
 have hc := blk_cell hm4
 have hhc := blk_cell hh4
 obtain ⟨a4, n4', c4, rfl⟩ := owns_slice' ho4
 have hvv : VAt w4 (.slice ao m.a.length cap) m.a := by
  refine ⟨hv2.len, ao, cap, rfl, fun hne => ?_⟩
  obtain ⟨ao', cap', e', hf'⟩ := hv2.form
  injection e' with e1 e2 e3
  subst e1
  obtain ⟨g, off, rfl, hg, hcell⟩ := hf' hne
  have hgl := hgb hne g rfl
  exact ⟨g, off, rfl, by omega, fun j u hu => by rw [hb4.cell (p := (A6 g (off + j))) hgl]; exact hcell j u hu⟩
 go_wp2_with fail
 refine (putVotes_any (w2.heap.size + 1) _ _ _ m.a _ ho4 hz4 (by simp [encA, encN]) hvv hgb n8 n9).mono ?_
 rintro e w5 ⟨v5, rfl, ho5, hy5⟩
 have hb5 := hb4.trans hy5
 have hz5 : w2.heap.size + 1 ≤ w5.heap.size := by have := hy5.size; omega
 clear hc hhc hy5 hm4 hh4 ho4 hvv
 have hm5 : w5.heap[w.heap.size]? = _ := (hb5.block w.heap.size (by omega)).trans hm2
 have hh5 : w5.heap[w2.heap.size]? = _ := (hb5.block w2.heap.size (by omega)).trans hh2
 have hc := blk_cell hm5
 have hhc := blk_cell hh5
 obtain ⟨a5, n5', c5, rfl⟩ := owns_slice' ho5
 have hstr := own_string ho5 (by simp [encA, encN])
 go_wp2
 go_ret2
 exact ⟨by simp, hB2.trans (hb5.mono (by omega))⟩
set_option maxHeartbeats 4000000 in
theorem pack_c (m : Ms) (v : Value) (w : World) (hk : Kinds w) (hv : VAt w v m.a) (hrm : rmB m = true)
  (h1 : hasB m.k = true) (h2 : hasS m.k = true) (h3 : hasV m.k = true) (h4 : hasA m.k = false)
  (n1 : (0 ≤ m.k ∧ m.k ≤ 1000000) ∧ (0 ≤ m.f ∧ m.f ≤ 1000000) ∧ (0 ≤ m.t ∧ m.t ≤ 1000000)) (n2 : 0 ≤ m.b ∧ m.b ≤ 1000000) (n3 : 0 ≤ m.s ∧ m.s ≤ 1000000) (n4 : 0 ≤ m.p.c ∧ m.p.c ≤ 1000000) (n5 : 0 ≤ m.p.q ∧ m.p.q ≤ 1000000) (n6 : 0 ≤ m.p.h ∧ m.p.h ≤ 1000000) (n7 : m.p.t.size ≤ 1000) :
  Calls Tryz.prog 48 #[.agg #[I6 m.k, I6 m.f, I6 m.t, I6 m.b, I6 m.s, I6 m.p.c, I6 m.p.q, I6 m.p.h, .string m.p.t, v]] w fun e w' =>
   e = .returned (.tuple #[.string (S (encA 1 [m.k, m.f, m.t] ++ encA 2 [m.b] ++ encA 1 [m.s] ++ encV m.p)), I6 0]) ∧ Below w.heap.size w w' := by
 obtain ⟨ao, cap, hve, hvf⟩ := hv.form
 subst hve
 go_enter Tryz.func48, Tryz.ntmps48
 go_wp2_with fail
 refine (rightMessage_any m _ _ (hk.alloc _) (hv.alloc _)).mono ?_
 rintro e w1 ⟨rfl, hb1⟩
 have hm1 := blk_below hb1 (blk_new w _)
 have hk1 := (hk.alloc _).below hb1
 have hv1 := (hv.alloc _).below hb1
 have hB1 : Below w.heap.size w w1 := ((Below.refl _ _).alloc (Nat.le_refl _) _).trans (hb1.mono (by simp))
 clear hb1
 have hc := blk_cell hm1
 go_wp2_with fail
 refine (partsOf_any _ _ hk1).mono ?_
 rintro e w2 ⟨rfl, hb2⟩
 rw [h1, h2, h3, h4]
 have hm2 := blk_alloc (blk_below hb2 hm1) (.cells #[.bool true, .bool true, .bool true, .bool false] 139)
 have hh2 := blk_new w2 (.cells #[.bool true, .bool true, .bool true, .bool false] 139)
 have hv2 := (hv1.below hb2).alloc (.cells #[.bool true, .bool true, .bool true, .bool false] 139)
 have hz2 : w.heap.size < w2.heap.size := lt_of_block (blk_below hb2 hm1)
 have hzz := hB1.size
 have hB2 : Below w.heap.size w (w2.alloc (.cells #[.bool true, .bool true, .bool true, .bool false] 139)) := (hB1.trans (hb2.mono hzz)).alloc (by omega) _
 have hgb : m.a ≠ [] → ∀ g, (Value.slice ao m.a.length cap).ownBlock = some g → g < w2.heap.size + 1 := fun hne g e => by
  obtain ⟨g', off, rfl, hg', _⟩ := hvf hne
  simp [Value.ownBlock] at e
  omega
 clear hb2 hv1 hk1 hm1 hc hB1 hvf hv hk
 have ho2 : Own (w2.alloc (.cells #[.bool true, .bool true, .bool true, .bool false] 139)) (w2.heap.size + 1) (.slice none 0 0) [] := World.ownsRow_nil _ _ _ _
 have hc := blk_cell hm2
 have hhc := blk_cell hh2
 go_wp2_with fail
 refine (putNumbers_any (w2.heap.size + 1) _ _ 1 [m.k, m.f, m.t] (w2.heap.size + 1) _ (ho2.alloc _) (by simp) (by simp) (by simp [Value.ownBlock]) (cells_three _ _ _ _ _ (by simp) _) (by simp; omega) (by decide) (by simp) (by simp)).mono ?_
 rintro e w3 ⟨v3, rfl, ho3, hk3⟩
 have hb3 : Below (w2.heap.size + 1) (w2.alloc (.cells #[.bool true, .bool true, .bool true, .bool false] 139)) w3 := ((Below.refl _ _).alloc (by simp) _).trans (hk3.toBelow (by simp) (by simp [Value.ownBlock]))
 clear hc hhc hk3 ho2
 have hz3 : w2.heap.size + 1 ≤ w3.heap.size := by have := hb3.size; simpa using this
 have hm3 : w3.heap[w.heap.size]? = _ := (hb3.block w.heap.size (by omega)).trans hm2
 have hh3 : w3.heap[w2.heap.size]? = _ := (hb3.block w2.heap.size (by omega)).trans hh2
 have hc := blk_cell hm3
 have hhc := blk_cell hh3
 obtain ⟨a3, n3', c3, rfl⟩ := owns_slice' ho3
 go_wp2_with fail
 refine (putNumbers_any (w2.heap.size + 1) _ _ 2 [m.b] w3.heap.size _ (ho3.alloc _) (by simp; omega) (by simp) (ho3.ne (Nat.le_refl _)) (cells_one _ _ _ rfl _) (by simpa using n2) (by decide) (by simp [encA, encN]) (by simp)).mono ?_
 rintro e w4 ⟨v4, rfl, ho4, hk4⟩
 have hb4 := (hb3.alloc (by omega) (.cells #[I6 (m.b)] 3)).trans (hk4.toBelow (B := w2.heap.size + 1) (by simp; omega) (fun k e => (ho3.lt k e).1))
 have hz4 : w2.heap.size + 1 ≤ w4.heap.size := by have := hk4.size; simp at this; omega
 clear hc hhc hk4 hm3 hh3 ho3
 have hm4 : w4.heap[w.heap.size]? = _ := (hb4.block w.heap.size (by omega)).trans hm2
 have hh4 : w4.heap[w2.heap.size]? = _ := (hb4.block w2.heap.size (by omega)).trans hh2
 have hc := blk_cell hm4
 have hhc := blk_cell hh4
 obtain ⟨a4, n4', c4, rfl⟩ := owns_slice' ho4
 go_wp2_with fail
 refine (putNumbers_any (w2.heap.size + 1) _ _ 1 [m.s] w4.heap.size _ (ho4.alloc _) (by simp; omega) (by simp) (ho4.ne (Nat.le_refl _)) (cells_one _ _ _ rfl _) (by simpa using n3) (by decide) (by simp [encA, encN]) (by simp)).mono ?_
 rintro e w5 ⟨v5, rfl, ho5, hk5⟩
 have hb5 := (hb4.alloc (by omega) (.cells #[I6 (m.s)] 3)).trans (hk5.toBelow (B := w2.heap.size + 1) (by simp; omega) (fun k e => (ho4.lt k e).1))
 have hz5 : w2.heap.size + 1 ≤ w5.heap.size := by have := hk5.size; simp at this; omega
 clear hc hhc hk5 hm4 hh4 ho4
 have hm5 : w5.heap[w.heap.size]? = _ := (hb5.block w.heap.size (by omega)).trans hm2
 have hh5 : w5.heap[w2.heap.size]? = _ := (hb5.block w2.heap.size (by omega)).trans hh2
 have hc := blk_cell hm5
 have hhc := blk_cell hh5
 obtain ⟨a5, n5', c5, rfl⟩ := owns_slice' ho5
 go_wp2_with fail
 refine (putValue_any (w2.heap.size + 1) _ _ m.p.c m.p.q m.p.h m.p.t _ ho5 hz5 (by simp [encA, encN]) n4 n5 n6 n7).mono ?_
 rintro e w6 ⟨v6, rfl, ho6, hy6⟩
 have hb6 := hb5.trans hy6
 have hz6 : w2.heap.size + 1 ≤ w6.heap.size := by have := hy6.size; omega
 clear hc hhc hy6 hm5 hh5 ho5
 have hm6 : w6.heap[w.heap.size]? = _ := (hb6.block w.heap.size (by omega)).trans hm2
 have hh6 : w6.heap[w2.heap.size]? = _ := (hb6.block w2.heap.size (by omega)).trans hh2
 have hc := blk_cell hm6
 have hhc := blk_cell hh6
 obtain ⟨a6, n6', c6, rfl⟩ := owns_slice' ho6
 have hstr := own_string ho6 (by simp [encA, encN])
 go_wp2
 go_ret2
 exact ⟨by simp, hB2.trans (hb6.mono (by omega))⟩
set_option maxHeartbeats 4000000 in
theorem pack_d (m : Ms) (v : Value) (w : World) (hk : Kinds w) (hv : VAt w v m.a) (hrm : rmB m = true)
  (h1 : hasB m.k = true) (h2 : hasS m.k = true) (h3 : hasV m.k = false) (h4 : hasA m.k = false)
  (n1 : (0 ≤ m.k ∧ m.k ≤ 1000000) ∧ (0 ≤ m.f ∧ m.f ≤ 1000000) ∧ (0 ≤ m.t ∧ m.t ≤ 1000000)) (n2 : 0 ≤ m.b ∧ m.b ≤ 1000000) (n3 : 0 ≤ m.s ∧ m.s ≤ 1000000) :
  Calls Tryz.prog 48 #[.agg #[I6 m.k, I6 m.f, I6 m.t, I6 m.b, I6 m.s, I6 m.p.c, I6 m.p.q, I6 m.p.h, .string m.p.t, v]] w fun e w' =>
   e = .returned (.tuple #[.string (S (encA 1 [m.k, m.f, m.t] ++ encA 2 [m.b] ++ encA 1 [m.s])), I6 0]) ∧ Below w.heap.size w w' := by
 obtain ⟨ao, cap, hve, hvf⟩ := hv.form
 subst hve
 go_enter Tryz.func48, Tryz.ntmps48
 go_wp2_with fail
 refine (rightMessage_any m _ _ (hk.alloc _) (hv.alloc _)).mono ?_
 rintro e w1 ⟨rfl, hb1⟩
 have hm1 := blk_below hb1 (blk_new w _)
 have hk1 := (hk.alloc _).below hb1
 have hv1 := (hv.alloc _).below hb1
 have hB1 : Below w.heap.size w w1 := ((Below.refl _ _).alloc (Nat.le_refl _) _).trans (hb1.mono (by simp))
 clear hb1
 have hc := blk_cell hm1
 go_wp2_with fail
 refine (partsOf_any _ _ hk1).mono ?_
 rintro e w2 ⟨rfl, hb2⟩
 rw [h1, h2, h3, h4]
 have hm2 := blk_alloc (blk_below hb2 hm1) (.cells #[.bool true, .bool true, .bool false, .bool false] 139)
 have hh2 := blk_new w2 (.cells #[.bool true, .bool true, .bool false, .bool false] 139)
 have hv2 := (hv1.below hb2).alloc (.cells #[.bool true, .bool true, .bool false, .bool false] 139)
 have hz2 : w.heap.size < w2.heap.size := lt_of_block (blk_below hb2 hm1)
 have hzz := hB1.size
 have hB2 : Below w.heap.size w (w2.alloc (.cells #[.bool true, .bool true, .bool false, .bool false] 139)) := (hB1.trans (hb2.mono hzz)).alloc (by omega) _
 have hgb : m.a ≠ [] → ∀ g, (Value.slice ao m.a.length cap).ownBlock = some g → g < w2.heap.size + 1 := fun hne g e => by
  obtain ⟨g', off, rfl, hg', _⟩ := hvf hne
  simp [Value.ownBlock] at e
  omega
 clear hb2 hv1 hk1 hm1 hc hB1 hvf hv hk
 have ho2 : Own (w2.alloc (.cells #[.bool true, .bool true, .bool false, .bool false] 139)) (w2.heap.size + 1) (.slice none 0 0) [] := World.ownsRow_nil _ _ _ _
 have hc := blk_cell hm2
 have hhc := blk_cell hh2
 go_wp2_with fail
 refine (putNumbers_any (w2.heap.size + 1) _ _ 1 [m.k, m.f, m.t] (w2.heap.size + 1) _ (ho2.alloc _) (by simp) (by simp) (by simp [Value.ownBlock]) (cells_three _ _ _ _ _ (by simp) _) (by simp; omega) (by decide) (by simp) (by simp)).mono ?_
 rintro e w3 ⟨v3, rfl, ho3, hk3⟩
 have hb3 : Below (w2.heap.size + 1) (w2.alloc (.cells #[.bool true, .bool true, .bool false, .bool false] 139)) w3 := ((Below.refl _ _).alloc (by simp) _).trans (hk3.toBelow (by simp) (by simp [Value.ownBlock]))
 clear hc hhc hk3 ho2
 have hz3 : w2.heap.size + 1 ≤ w3.heap.size := by have := hb3.size; simpa using this
 have hm3 : w3.heap[w.heap.size]? = _ := (hb3.block w.heap.size (by omega)).trans hm2
 have hh3 : w3.heap[w2.heap.size]? = _ := (hb3.block w2.heap.size (by omega)).trans hh2
 have hc := blk_cell hm3
 have hhc := blk_cell hh3
 obtain ⟨a3, n3', c3, rfl⟩ := owns_slice' ho3
 go_wp2_with fail
 refine (putNumbers_any (w2.heap.size + 1) _ _ 2 [m.b] w3.heap.size _ (ho3.alloc _) (by simp; omega) (by simp) (ho3.ne (Nat.le_refl _)) (cells_one _ _ _ rfl _) (by simpa using n2) (by decide) (by simp [encA, encN]) (by simp)).mono ?_
 rintro e w4 ⟨v4, rfl, ho4, hk4⟩
 have hb4 := (hb3.alloc (by omega) (.cells #[I6 (m.b)] 3)).trans (hk4.toBelow (B := w2.heap.size + 1) (by simp; omega) (fun k e => (ho3.lt k e).1))
 have hz4 : w2.heap.size + 1 ≤ w4.heap.size := by have := hk4.size; simp at this; omega
 clear hc hhc hk4 hm3 hh3 ho3
 have hm4 : w4.heap[w.heap.size]? = _ := (hb4.block w.heap.size (by omega)).trans hm2
 have hh4 : w4.heap[w2.heap.size]? = _ := (hb4.block w2.heap.size (by omega)).trans hh2
 have hc := blk_cell hm4
 have hhc := blk_cell hh4
 obtain ⟨a4, n4', c4, rfl⟩ := owns_slice' ho4
 go_wp2_with fail
 refine (putNumbers_any (w2.heap.size + 1) _ _ 1 [m.s] w4.heap.size _ (ho4.alloc _) (by simp; omega) (by simp) (ho4.ne (Nat.le_refl _)) (cells_one _ _ _ rfl _) (by simpa using n3) (by decide) (by simp [encA, encN]) (by simp)).mono ?_
 rintro e w5 ⟨v5, rfl, ho5, hk5⟩
 have hb5 := (hb4.alloc (by omega) (.cells #[I6 (m.s)] 3)).trans (hk5.toBelow (B := w2.heap.size + 1) (by simp; omega) (fun k e => (ho4.lt k e).1))
 have hz5 : w2.heap.size + 1 ≤ w5.heap.size := by have := hk5.size; simp at this; omega
 clear hc hhc hk5 hm4 hh4 ho4
 have hm5 : w5.heap[w.heap.size]? = _ := (hb5.block w.heap.size (by omega)).trans hm2
 have hh5 : w5.heap[w2.heap.size]? = _ := (hb5.block w2.heap.size (by omega)).trans hh2
 have hc := blk_cell hm5
 have hhc := blk_cell hh5
 obtain ⟨a5, n5', c5, rfl⟩ := owns_slice' ho5
 have hstr := own_string ho5 (by simp [encA, encN])
 go_wp2
 go_ret2
 exact ⟨by simp, hB2.trans (hb5.mono (by omega))⟩
set_option maxHeartbeats 4000000 in
theorem pack_e (m : Ms) (v : Value) (w : World) (hk : Kinds w) (hv : VAt w v m.a) (hrm : rmB m = true)
  (h1 : hasB m.k = false) (h2 : hasS m.k = true) (h3 : hasV m.k = true) (h4 : hasA m.k = false)
  (n1 : (0 ≤ m.k ∧ m.k ≤ 1000000) ∧ (0 ≤ m.f ∧ m.f ≤ 1000000) ∧ (0 ≤ m.t ∧ m.t ≤ 1000000)) (n3 : 0 ≤ m.s ∧ m.s ≤ 1000000) (n4 : 0 ≤ m.p.c ∧ m.p.c ≤ 1000000) (n5 : 0 ≤ m.p.q ∧ m.p.q ≤ 1000000) (n6 : 0 ≤ m.p.h ∧ m.p.h ≤ 1000000) (n7 : m.p.t.size ≤ 1000) :
  Calls Tryz.prog 48 #[.agg #[I6 m.k, I6 m.f, I6 m.t, I6 m.b, I6 m.s, I6 m.p.c, I6 m.p.q, I6 m.p.h, .string m.p.t, v]] w fun e w' =>
   e = .returned (.tuple #[.string (S (encA 1 [m.k, m.f, m.t] ++ encA 1 [m.s] ++ encV m.p)), I6 0]) ∧ Below w.heap.size w w' := by
 obtain ⟨ao, cap, hve, hvf⟩ := hv.form
 subst hve
 go_enter Tryz.func48, Tryz.ntmps48
 go_wp2_with fail
 refine (rightMessage_any m _ _ (hk.alloc _) (hv.alloc _)).mono ?_
 rintro e w1 ⟨rfl, hb1⟩
 have hm1 := blk_below hb1 (blk_new w _)
 have hk1 := (hk.alloc _).below hb1
 have hv1 := (hv.alloc _).below hb1
 have hB1 : Below w.heap.size w w1 := ((Below.refl _ _).alloc (Nat.le_refl _) _).trans (hb1.mono (by simp))
 clear hb1
 have hc := blk_cell hm1
 go_wp2_with fail
 refine (partsOf_any _ _ hk1).mono ?_
 rintro e w2 ⟨rfl, hb2⟩
 rw [h1, h2, h3, h4]
 have hm2 := blk_alloc (blk_below hb2 hm1) (.cells #[.bool false, .bool true, .bool true, .bool false] 139)
 have hh2 := blk_new w2 (.cells #[.bool false, .bool true, .bool true, .bool false] 139)
 have hv2 := (hv1.below hb2).alloc (.cells #[.bool false, .bool true, .bool true, .bool false] 139)
 have hz2 : w.heap.size < w2.heap.size := lt_of_block (blk_below hb2 hm1)
 have hzz := hB1.size
 have hB2 : Below w.heap.size w (w2.alloc (.cells #[.bool false, .bool true, .bool true, .bool false] 139)) := (hB1.trans (hb2.mono hzz)).alloc (by omega) _
 have hgb : m.a ≠ [] → ∀ g, (Value.slice ao m.a.length cap).ownBlock = some g → g < w2.heap.size + 1 := fun hne g e => by
  obtain ⟨g', off, rfl, hg', _⟩ := hvf hne
  simp [Value.ownBlock] at e
  omega
 clear hb2 hv1 hk1 hm1 hc hB1 hvf hv hk
 have ho2 : Own (w2.alloc (.cells #[.bool false, .bool true, .bool true, .bool false] 139)) (w2.heap.size + 1) (.slice none 0 0) [] := World.ownsRow_nil _ _ _ _
 have hc := blk_cell hm2
 have hhc := blk_cell hh2
 go_wp2_with fail
 refine (putNumbers_any (w2.heap.size + 1) _ _ 1 [m.k, m.f, m.t] (w2.heap.size + 1) _ (ho2.alloc _) (by simp) (by simp) (by simp [Value.ownBlock]) (cells_three _ _ _ _ _ (by simp) _) (by simp; omega) (by decide) (by simp) (by simp)).mono ?_
 rintro e w3 ⟨v3, rfl, ho3, hk3⟩
 have hb3 : Below (w2.heap.size + 1) (w2.alloc (.cells #[.bool false, .bool true, .bool true, .bool false] 139)) w3 := ((Below.refl _ _).alloc (by simp) _).trans (hk3.toBelow (by simp) (by simp [Value.ownBlock]))
 clear hc hhc hk3 ho2
 have hz3 : w2.heap.size + 1 ≤ w3.heap.size := by have := hb3.size; simpa using this
 have hm3 : w3.heap[w.heap.size]? = _ := (hb3.block w.heap.size (by omega)).trans hm2
 have hh3 : w3.heap[w2.heap.size]? = _ := (hb3.block w2.heap.size (by omega)).trans hh2
 have hc := blk_cell hm3
 have hhc := blk_cell hh3
 obtain ⟨a3, n3', c3, rfl⟩ := owns_slice' ho3
 go_wp2_with fail
 refine (putNumbers_any (w2.heap.size + 1) _ _ 1 [m.s] w3.heap.size _ (ho3.alloc _) (by simp; omega) (by simp) (ho3.ne (Nat.le_refl _)) (cells_one _ _ _ rfl _) (by simpa using n3) (by decide) (by simp [encA, encN]) (by simp)).mono ?_
 rintro e w4 ⟨v4, rfl, ho4, hk4⟩
 have hb4 := (hb3.alloc (by omega) (.cells #[I6 (m.s)] 3)).trans (hk4.toBelow (B := w2.heap.size + 1) (by simp; omega) (fun k e => (ho3.lt k e).1))
 have hz4 : w2.heap.size + 1 ≤ w4.heap.size := by have := hk4.size; simp at this; omega
 clear hc hhc hk4 hm3 hh3 ho3
 have hm4 : w4.heap[w.heap.size]? = _ := (hb4.block w.heap.size (by omega)).trans hm2
 have hh4 : w4.heap[w2.heap.size]? = _ := (hb4.block w2.heap.size (by omega)).trans hh2
 have hc := blk_cell hm4
 have hhc := blk_cell hh4
 obtain ⟨a4, n4', c4, rfl⟩ := owns_slice' ho4
 go_wp2_with fail
 refine (putValue_any (w2.heap.size + 1) _ _ m.p.c m.p.q m.p.h m.p.t _ ho4 hz4 (by simp [encA, encN]) n4 n5 n6 n7).mono ?_
 rintro e w5 ⟨v5, rfl, ho5, hy5⟩
 have hb5 := hb4.trans hy5
 have hz5 : w2.heap.size + 1 ≤ w5.heap.size := by have := hy5.size; omega
 clear hc hhc hy5 hm4 hh4 ho4
 have hm5 : w5.heap[w.heap.size]? = _ := (hb5.block w.heap.size (by omega)).trans hm2
 have hh5 : w5.heap[w2.heap.size]? = _ := (hb5.block w2.heap.size (by omega)).trans hh2
 have hc := blk_cell hm5
 have hhc := blk_cell hh5
 obtain ⟨a5, n5', c5, rfl⟩ := owns_slice' ho5
 have hstr := own_string ho5 (by simp [encA, encN])
 go_wp2
 go_ret2
 exact ⟨by simp, hB2.trans (hb5.mono (by omega))⟩
theorem wpack_any (m : Ms) (v : Value) (w : World) (hk : Kinds w) (hv : VAt w v m.a) :
  Calls Tryz.prog 48 #[.agg #[I6 m.k, I6 m.f, I6 m.t, I6 m.b, I6 m.s, I6 m.p.c, I6 m.p.q, I6 m.p.h, .string m.p.t, v]] w fun e w' =>
   e = .returned (if rmB m then .tuple #[.string (S (encM m)), I6 0] else .tuple #[.string (S []), I6 2]) ∧ Below w.heap.size w w' := by
 cases hrm : rmB m
 ·simpa using pack_no m v w hk hv hrm
 ·have hr := hrm
  simp only [rmB, Bool.and_eq_true] at hr
  obtain ⟨⟨⟨⟨⟨⟨r1, r2⟩, r3⟩, r4⟩, r5⟩, r6⟩, r7⟩ := hr
  have b1 := withinB_true r1
  have b2 := withinB_true r2
  have b3 := withinB_true r3
  have n1 : (0 ≤ m.k ∧ m.k ≤ 1000000) ∧ (0 ≤ m.f ∧ m.f ≤ 1000000) ∧ (0 ≤ m.t ∧ m.t ≤ 1000000) := by omega
  rw [if_pos rfl]
  rcases (show m.k = 1 ∨ m.k = 6 ∨ m.k = 2 ∨ m.k = 3 ∨ m.k = 4 ∨ m.k = 5 from by omega) with e | e | e | e | e | e
  ·have h1 : hasB m.k = true := by rw [e]; rfl
   have h2 : hasS m.k = false := by rw [e]; rfl
   have h3 : hasV m.k = false := by rw [e]; rfl
   have h4 : hasA m.k = false := by rw [e]; rfl
   rw [h1] at r4; rw [h2] at r5; rw [h3] at r6; rw [h4] at r7
   have c2 := withinB_true (show withinB m.b 1 8007 = true from r4)
   have P := pack_a m v w hk hv hrm h1 h2 h3 h4 n1 (by omega)
   simpa [encM, h1, h2, h3, h4] using P
  ·have h1 : hasB m.k = true := by rw [e]; rfl
   have h2 : hasS m.k = false := by rw [e]; rfl
   have h3 : hasV m.k = false := by rw [e]; rfl
   have h4 : hasA m.k = false := by rw [e]; rfl
   rw [h1] at r4; rw [h2] at r5; rw [h3] at r6; rw [h4] at r7
   have c2 := withinB_true (show withinB m.b 1 8007 = true from r4)
   have P := pack_a m v w hk hv hrm h1 h2 h3 h4 n1 (by omega)
   simpa [encM, h1, h2, h3, h4] using P
  ·have h1 : hasB m.k = true := by rw [e]; rfl
   have h2 : hasS m.k = false := by rw [e]; rfl
   have h3 : hasV m.k = false := by rw [e]; rfl
   have h4 : hasA m.k = true := by rw [e]; rfl
   rw [h1] at r4; rw [h2] at r5; rw [h3] at r6; rw [h4] at r7
   have c2 := withinB_true (show withinB m.b 1 8007 = true from r4)
   obtain ⟨c8, c9⟩ := rvB_ok m.a (-1) (by omega) (show rvB (-1) m.a = true from r7)
   have P := pack_b m v w hk hv hrm h1 h2 h3 h4 n1 (by omega) (by have := c9 (by omega); omega) (fun x hx => (c8 x hx).1)
   simpa [encM, h1, h2, h3, h4] using P
  ·have h1 : hasB m.k = true := by rw [e]; rfl
   have h2 : hasS m.k = true := by rw [e]; rfl
   have h3 : hasV m.k = true := by rw [e]; rfl
   have h4 : hasA m.k = false := by rw [e]; rfl
   rw [h1] at r4; rw [h2] at r5; rw [h3] at r6; rw [h4] at r7
   have c2 := withinB_true (show withinB m.b 1 8007 = true from r4)
   have c3 := withinB_true (show withinB m.s 0 15 = true from r5)
   obtain ⟨c4, c5, c6, c7⟩ := rv_ok m.p (show rightValueB m.p = true from r6)
   have P := pack_c m v w hk hv hrm h1 h2 h3 h4 n1 (by omega) (by omega) (by omega) (by omega) (by omega) (by omega)
   simpa [encM, h1, h2, h3, h4] using P
  ·have h1 : hasB m.k = true := by rw [e]; rfl
   have h2 : hasS m.k = true := by rw [e]; rfl
   have h3 : hasV m.k = false := by rw [e]; rfl
   have h4 : hasA m.k = false := by rw [e]; rfl
   rw [h1] at r4; rw [h2] at r5; rw [h3] at r6; rw [h4] at r7
   have c2 := withinB_true (show withinB m.b 1 8007 = true from r4)
   have c3 := withinB_true (show withinB m.s 0 15 = true from r5)
   have P := pack_d m v w hk hv hrm h1 h2 h3 h4 n1 (by omega) (by omega)
   simpa [encM, h1, h2, h3, h4] using P
  ·have h1 : hasB m.k = false := by rw [e]; rfl
   have h2 : hasS m.k = true := by rw [e]; rfl
   have h3 : hasV m.k = true := by rw [e]; rfl
   have h4 : hasA m.k = false := by rw [e]; rfl
   rw [h1] at r4; rw [h2] at r5; rw [h3] at r6; rw [h4] at r7
   have c3 := withinB_true (show withinB m.s 0 15 = true from r5)
   obtain ⟨c4, c5, c6, c7⟩ := rv_ok m.p (show rightValueB m.p = true from r6)
   have P := pack_e m v w hk hv hrm h1 h2 h3 h4 n1 (by omega) (by omega) (by omega) (by omega) (by omega)
   simpa [encM, h1, h2, h3, h4] using P
end
section
open Go.RowKit
theorem num1_enc (n : Int) (h0 : 0 ≤ n) (h1 : n < 256) (r : List UInt8) (sh : Bool) : Rs.num 1 ⟨encA 1 [n] ++ r, sh⟩ = n := by
 simp [Rs.num, encA, encN, numOf, byteOf_nat]; omega
theorem adv1_enc (n : Int) (r : List UInt8) (sh : Bool) : Rs.adv 1 ⟨encA 1 [n] ++ r, sh⟩ = ⟨r, sh⟩ := by
 simp [Rs.adv, encA, encN]
theorem num2_enc (n : Int) (h0 : 0 ≤ n) (h1 : n < 65536) (r : List UInt8) (sh : Bool) : Rs.num 2 ⟨encA 2 [n] ++ r, sh⟩ = n := by
 simp [Rs.num, encA, encN, numOf, byteOf_nat]; omega
theorem adv2_enc (n : Int) (r : List UInt8) (sh : Bool) : Rs.adv 2 ⟨encA 2 [n] ++ r, sh⟩ = ⟨r, sh⟩ := by
 simp [Rs.adv, encA, encN]; omega
theorem nothing_eq {p : Pst} (h : nothingB p = true) : p = ⟨0, 0, 0, S []⟩ := by
 obtain ⟨c, q, hh, t⟩ := p
 simp [nothingB] at h
 obtain ⟨⟨⟨h1, h2⟩, h3⟩, h4⟩ := h
 rw [← S_eta t, S_toList] at h4
 rw [← S_eta t, h4, h1, h2, h3]
theorem encA_two (a b : Int) : encA 1 [a, b] = encA 1 [a] ++ encA 1 [b] := by simp [encA]
theorem encA_three (a b c : Int) : encA 1 [a, b, c] = encA 1 [a] ++ (encA 1 [b] ++ encA 1 [c]) := by simp [encA]
theorem val_enc (p : Pst) (h : rightValueB p = true) (r : List UInt8) (sh : Bool) : Rs.val ⟨encV p ++ r, sh⟩ = p ∧ Rs.aft ⟨encV p ++ r, sh⟩ = ⟨r, sh⟩ := by
 cases hn : nothingB p
 ·have hp : rightPostB p = true := by simpa [rightValueB, hn] using h
  simp only [rightPostB, Bool.and_eq_true] at hp
  obtain ⟨⟨⟨p1, p2⟩, p3⟩, p4⟩ := hp
  have b1 := withinB_true p1; have b2 := withinB_true p2; have b3 := withinB_true p3
  have b4 : p.t.size ≤ 12 := by simp at p4; omega
  have hl : p.t.data.toList.length = p.t.size := by rw [Array.length_toList]; rfl
  have e : encV p ++ r = encA 1 [p.c] ++ (encA 2 [p.q] ++ (encA 1 [p.h] ++ (encA 1 [(p.t.size : Int)] ++ (p.t.data.toList ++ r)))) := by simp [encV, hn, encA_two]
  rw [e]
  have e0 : ¬ Rs.num 1 ⟨encA 1 [p.c] ++ (encA 2 [p.q] ++ (encA 1 [p.h] ++ (encA 1 [(p.t.size : Int)] ++ (p.t.data.toList ++ r)))), sh⟩ = 0 := by rw [num1_enc _ (by omega) (by omega)]; omega
  unfold Rs.val Rs.aft Rs.txt
  rw [if_neg e0, if_neg e0]
  simp only [adv1_enc, adv2_enc]
  rw [num1_enc _ (by omega) (by omega), num2_enc _ (by omega) (by omega), num1_enc _ (by omega) (by omega), num1_enc _ (by omega) (by omega)]
  rw [Int.toNat_natCast, ← hl]
  refine ⟨?_, ?_⟩
  ·simp only [List.take_left', List.take_left]
   rw [S_eta]
  ·simp [Rs.adv]; intro hh; omega
 ·obtain rfl := nothing_eq hn
  have e : encV ⟨0, 0, 0, S []⟩ ++ r = encA 1 [0] ++ r := by simp [encV, hn]
  rw [e]
  have e0 : Rs.num 1 ⟨encA 1 [0] ++ r, sh⟩ = 0 := num1_enc 0 (by omega) (by omega) r sh
  unfold Rs.val Rs.aft
  rw [if_pos e0, if_pos e0, adv1_enc]
  exact ⟨rfl, rfl⟩
theorem vtsAft_succ (k : Nat) (s : Rs) : Rs.vtsAft (k + 1) s = Rs.vtsAft k s.voteAft := by
 induction k with
 | zero => rfl
 | succ k ih => show (Rs.vtsAft (k + 1) s).voteAft = (Rs.vtsAft k s.voteAft).voteAft; rw [ih]
theorem vts_succ (k : Nat) (s : Rs) : Rs.vts (k + 1) s = s.vote :: Rs.vts k s.voteAft := by
 induction k with
 | zero => rfl
 | succ k ih =>
  show Rs.vts (k + 1) s ++ [(Rs.vtsAft (k + 1) s).vote] = s.vote :: (Rs.vts k s.voteAft ++ [(Rs.vtsAft k s.voteAft).vote])
  rw [ih, vtsAft_succ]; rfl
theorem vts_enc : ∀ (l : List Vt), (∀ x ∈ l, (0 ≤ x.s ∧ x.s ≤ 15) ∧ (1 ≤ x.b ∧ x.b ≤ 8007) ∧ rightValueB x.p = true) → ∀ (r : List UInt8) (sh : Bool),
  Rs.vts l.length ⟨encVs l ++ r, sh⟩ = l ∧ Rs.vtsAft l.length ⟨encVs l ++ r, sh⟩ = ⟨r, sh⟩
 | [], _, r, sh => ⟨rfl, rfl⟩
 | x :: l, h, r, sh => by
  obtain ⟨h1, h2, h3⟩ := h x List.mem_cons_self
  have e : encVs (x :: l) ++ r = encA 1 [x.s] ++ (encA 2 [x.b] ++ (encV x.p ++ (encVs l ++ r))) := by simp [encVs, encX]
  rw [List.length_cons, vts_succ, vtsAft_succ, e]
  have hv := val_enc x.p h3 (encVs l ++ r) sh
  have e1 : Rs.vote ⟨encA 1 [x.s] ++ (encA 2 [x.b] ++ (encV x.p ++ (encVs l ++ r))), sh⟩ = x := by
   unfold Rs.vote
   rw [num1_enc _ (by omega) (by omega), adv1_enc, num2_enc _ (by omega) (by omega), adv2_enc, hv.1]
  have e2 : Rs.voteAft ⟨encA 1 [x.s] ++ (encA 2 [x.b] ++ (encV x.p ++ (encVs l ++ r))), sh⟩ = ⟨encVs l ++ r, sh⟩ := by
   unfold Rs.voteAft
   rw [adv1_enc, adv2_enc, hv.2]
  rw [e1, e2]
  obtain ⟨i1, i2⟩ := vts_enc l (fun y hy => h y (List.mem_cons_of_mem _ hy)) r sh
  exact ⟨by rw [i1], i2⟩
theorem msg_enc (m : Ms) (h : rmB m = true) (r : List UInt8) (sh : Bool) : Rs.msg ⟨encM m ++ r, sh⟩ = m ∧ Rs.msgAft ⟨encM m ++ r, sh⟩ = ⟨r, sh⟩ := by
 simp only [rmB, Bool.and_eq_true] at h
 obtain ⟨⟨⟨⟨⟨⟨r1, r2⟩, r3⟩, r4⟩, r5⟩, r6⟩, r7⟩ := h
 have b1 := withinB_true r1
 have b2 := withinB_true r2
 have b3 := withinB_true r3
 generalize hB : (if hasB m.k then encA 2 [m.b] else []) = eb
 generalize hS : (if hasS m.k then encA 1 [m.s] else []) = es
 generalize hV : (if hasV m.k then encV m.p else []) = ev
 generalize hA : (if hasA m.k then encA 1 [(m.a.length : Int)] ++ encVs m.a else []) = ea
 have e : encM m ++ r = encA 1 [m.k] ++ (encA 1 [m.f] ++ (encA 1 [m.t] ++ (eb ++ (es ++ (ev ++ (ea ++ r)))))) := by
  unfold encM
  rw [hB, hS, hV, hA, encA_three]
  simp only [List.append_assoc]
 rw [e]
 have k1 : Rs.num 1 ⟨encA 1 [m.k] ++ (encA 1 [m.f] ++ (encA 1 [m.t] ++ (eb ++ (es ++ (ev ++ (ea ++ r)))))), sh⟩ = m.k := num1_enc _ (by omega) (by omega) _ _
 have k2 : Rs.m1 ⟨encA 1 [m.k] ++ (encA 1 [m.f] ++ (encA 1 [m.t] ++ (eb ++ (es ++ (ev ++ (ea ++ r)))))), sh⟩ = ⟨eb ++ (es ++ (ev ++ (ea ++ r))), sh⟩ := by
  unfold Rs.m1; rw [adv1_enc, adv1_enc, adv1_enc]
 have kb : Rs.bal m.k ⟨eb ++ (es ++ (ev ++ (ea ++ r))), sh⟩ = m.b ∧ Rs.balAft m.k ⟨eb ++ (es ++ (ev ++ (ea ++ r))), sh⟩ = ⟨es ++ (ev ++ (ea ++ r)), sh⟩ := by
  unfold Rs.bal Rs.balAft
  cases hb : hasB m.k
  ·rw [hb] at r4 hB; subst hB
   have : m.b = 0 := by simpa [fitsB] using r4
   simp [this]
  ·rw [hb] at r4 hB; subst hB
   have := withinB_true (show withinB m.b 1 8007 = true from r4)
   simp only [if_true]
   exact ⟨num2_enc _ (by omega) (by omega) _ _, adv2_enc _ _ _⟩
 have ks : Rs.slo m.k ⟨es ++ (ev ++ (ea ++ r)), sh⟩ = m.s ∧ Rs.sloAft m.k ⟨es ++ (ev ++ (ea ++ r)), sh⟩ = ⟨ev ++ (ea ++ r), sh⟩ := by
  unfold Rs.slo Rs.sloAft
  cases hb : hasS m.k
  ·rw [hb] at r5 hS; subst hS
   have : m.s = 0 := by simpa [fitsB] using r5
   simp [this]
  ·rw [hb] at r5 hS; subst hS
   have := withinB_true (show withinB m.s 0 15 = true from r5)
   simp only [if_true]
   exact ⟨num1_enc _ (by omega) (by omega) _ _, adv1_enc _ _ _⟩
 have kv : Rs.vau m.k ⟨ev ++ (ea ++ r), sh⟩ = m.p ∧ Rs.vauAft m.k ⟨ev ++ (ea ++ r), sh⟩ = ⟨ea ++ r, sh⟩ := by
  unfold Rs.vau Rs.vauAft
  cases hb : hasV m.k
  ·rw [hb] at r6 hV; subst hV
   have := nothing_eq (show nothingB m.p = true from r6)
   simp [this]
  ·rw [hb] at r6 hV; subst hV
   simp only [if_true]
   exact val_enc m.p (show rightValueB m.p = true from r6) _ _
 have ka : Rs.acc m.k ⟨ea ++ r, sh⟩ = m.a ∧ Rs.accAft m.k ⟨ea ++ r, sh⟩ = ⟨r, sh⟩ := by
  unfold Rs.acc Rs.accAft
  cases hb : hasA m.k
  ·rw [hb] at r7 hA; subst hA
   have : m.a = [] := by simpa [fitsB] using r7
   simp [this]
  ·rw [hb] at r7 hA; subst hA
   obtain ⟨c8, c9⟩ := rvB_ok m.a (-1) (by omega) (show rvB (-1) m.a = true from r7)
   have c9' := c9 (by omega)
   simp only [if_true, List.append_assoc]
   rw [num1_enc _ (by omega) (by omega), adv1_enc, Int.toNat_natCast]
   exact vts_enc m.a (fun x hx => (c8 x hx).2) r sh
 unfold Rs.msg Rs.msgAft
 rw [k1, k2, kb.1, kb.2, ks.1, ks.2, kv.1, kv.2, ka.1, ka.2, adv1_enc, adv1_enc, num1_enc _ (by omega) (by omega), num1_enc _ (by omega) (by omega)]
 exact ⟨rfl, rfl⟩
theorem byteOf_byte (a : UInt8) : byteOf (a.toNat : Int) = a := by
 apply UInt8.toNat_inj.1
 have h := byteOf_nat (a.toNat : Int)
 have := byte_lt a
 omega
theorem read1 (s : Rs) (h : (s.adv 1).sh = false) : s.sh = false ∧ s.l = encA 1 [s.num 1] ++ (s.adv 1).l := by
 obtain ⟨l, sh⟩ := s
 rcases l with _ | ⟨a, l⟩
 ·simp [Rs.adv] at h
 ·simp [Rs.adv] at h
  simp [Rs.adv, Rs.num, numOf, encA, encN, byteOf_byte, h]
theorem read2 (s : Rs) (h : (s.adv 2).sh = false) : s.sh = false ∧ s.l = encA 2 [s.num 2] ++ (s.adv 2).l := by
 obtain ⟨l, sh⟩ := s
 rcases l with _ | ⟨a, _ | ⟨b, l⟩⟩
 ·simp [Rs.adv] at h
 ·simp [Rs.adv] at h
 ·have h1 := byte_lt a
  have h2 := byte_lt b
  have e1 : byteOf ((a.toNat : Int) + 256 * (b.toNat : Int)) = a := by
   apply UInt8.toNat_inj.1
   have h := byteOf_nat ((a.toNat : Int) + 256 * (b.toNat : Int))
   omega
  have e2 : ((a.toNat : Int) + 256 * (b.toNat : Int)) / 256 = (b.toNat : Int) := by omega
  simp [Rs.adv] at h
  have h' : sh = false := by
   cases sh
   ·rfl
   ·simp at h
  simp [Rs.adv, Rs.num, numOf, encA, encN, e1, e2, byteOf_byte, h']
theorem nothing_not {c q h : Int} {t : ByteArray} (hc : c ≠ 0) : nothingB ⟨c, q, h, t⟩ = false := by simp [nothingB, hc]
theorem readV (s : Rs) (h : s.aft.sh = false) : s.sh = false ∧ s.l = encV s.val ++ s.aft.l := by
 by_cases h0 : s.num 1 = 0
 ·have e1 : s.val = ⟨0, 0, 0, S []⟩ := by simp [Rs.val, h0]
  have e2 : s.aft = s.adv 1 := by simp [Rs.aft, h0]
  rw [e2] at h
  obtain ⟨i1, i2⟩ := read1 s h
  refine ⟨i1, ?_⟩
  rw [e1, e2]
  have e3 : encV ⟨0, 0, 0, S []⟩ = encA 1 [0] := by
   have : nothingB ⟨0, 0, 0, S []⟩ = true := by simp [nothingB, S]
   simp [encV, this]
  rw [e3, ← h0]; exact i2
 ·have e1 : s.val = ⟨s.num 1, (s.adv 1).num 2, ((s.adv 1).adv 2).num 1, S (s.txt.l.take ((((s.adv 1).adv 2).adv 1).num 1).toNat)⟩ := by simp [Rs.val, h0]
  have e2 : s.aft = s.txt.adv ((((s.adv 1).adv 2).adv 1).num 1).toNat := by simp [Rs.aft, h0]
  have hn0 := num_nonneg 1 (((s.adv 1).adv 2).adv 1)
  rw [e2] at h
  rw [e1, e2]
  generalize hn : (((s.adv 1).adv 2).adv 1).num 1 = n at *
  obtain ⟨n, rfl⟩ := Int.eq_ofNat_of_zero_le hn0
  rw [Int.toNat_natCast] at *
  have ht : s.txt.sh = false ∧ n ≤ s.txt.l.length := by
   simp [Rs.adv] at h; exact h
  have q4 := read1 (((s.adv 1).adv 2).adv 1) ht.1
  have q3 := read1 ((s.adv 1).adv 2) q4.1
  have q2 := read2 (s.adv 1) q3.1
  have q1 := read1 s q2.1
  refine ⟨q1.1, ?_⟩
  have hsz : (S (s.txt.l.take n)).size = n := by rw [S_size]; simp; omega
  have hno : nothingB ⟨s.num 1, (s.adv 1).num 2, ((s.adv 1).adv 2).num 1, S (s.txt.l.take n)⟩ = false := nothing_not h0
  have hda : (S (s.txt.l.take n)).data.toList = s.txt.l.take n := by simp [S]
  simp only [encV, hno, hsz, hda, encA_two]
  have q5 : (((s.adv 1).adv 2).adv 1).l = encA 1 [(n : Int)] ++ s.txt.l := by rw [q4.2, hn]; rfl
  rw [q1.2, q2.2, q3.2, q5]
  simp only [Bool.false_eq_true, if_false, List.append_assoc, Rs.adv, List.take_append_drop]
theorem readX (s : Rs) (h : s.voteAft.sh = false) : s.sh = false ∧ s.l = encX s.vote ++ s.voteAft.l := by
 have q3 := readV ((s.adv 1).adv 2) h
 have q2 := read2 (s.adv 1) q3.1
 have q1 := read1 s q2.1
 refine ⟨q1.1, ?_⟩
 show s.l = (encA 1 [s.num 1] ++ encA 2 [(s.adv 1).num 2] ++ encV ((s.adv 1).adv 2).val) ++ ((s.adv 1).adv 2).aft.l
 rw [q1.2, q2.2, q3.2]
 simp only [List.append_assoc]
theorem readVs (k : Nat) (s : Rs) (h : (Rs.vtsAft k s).sh = false) : s.sh = false ∧ s.l = encVs (Rs.vts k s) ++ (Rs.vtsAft k s).l := by
 induction k with
 | zero => exact ⟨h, rfl⟩
 | succ k ih =>
  obtain ⟨q1, q2⟩ := readX (Rs.vtsAft k s) h
  obtain ⟨i1, i2⟩ := ih q1
  refine ⟨i1, ?_⟩
  show s.l = encVs (Rs.vts k s ++ [(Rs.vtsAft k s).vote]) ++ (Rs.vtsAft k s).voteAft.l
  rw [encVs_append, i2, q2]
  simp [encVs]
theorem readM (s : Rs) (h : s.msgAft.sh = false) : s.sh = false ∧ s.l = encM s.msg ++ s.msgAft.l := by
 generalize hk : s.num 1 = k
 have eA : s.msgAft = (((s.m1.balAft k).sloAft k).vauAft k).accAft k := by unfold Rs.msgAft; rw [hk]
 have eM : s.msg = ⟨k, (s.adv 1).num 1, ((s.adv 1).adv 1).num 1, s.m1.bal k, (s.m1.balAft k).slo k, ((s.m1.balAft k).sloAft k).vau k, (((s.m1.balAft k).sloAft k).vauAft k).acc k⟩ := by unfold Rs.msg; rw [hk]
 rw [eA] at h
 rw [eA, eM]
 generalize hs1 : s.m1.balAft k = s1 at *
 generalize hs2 : s1.sloAft k = s2 at *
 generalize hs3 : s2.vauAft k = s3 at *
 have q4 : s3.sh = false ∧ s3.l = (if hasA k then encA 1 [((s3.acc k).length : Int)] ++ encVs (s3.acc k) else []) ++ (s3.accAft k).l := by
  unfold Rs.acc Rs.accAft at *
  cases hb : hasA k
  ·rw [hb] at h; simpa using h
  ·rw [hb] at h
   simp only [if_true] at h ⊢
   have j2 := readVs _ _ h
   have j1 := read1 s3 j2.1
   refine ⟨j1.1, ?_⟩
   have hn : ((s3.num 1).toNat : Int) = s3.num 1 := Int.toNat_of_nonneg (num_nonneg 1 s3)
   rw [vts_length, hn, List.append_assoc, ← j2.2]
   exact j1.2
 have q3 : s2.sh = false ∧ s2.l = (if hasV k then encV (s2.vau k) else []) ++ s3.l := by
  have hx := q4.1
  rw [← hs3] at hx ⊢
  unfold Rs.vau Rs.vauAft at *
  cases hb : hasV k
  ·rw [hb] at hx; simpa using hx
  ·rw [hb] at hx
   simp only [if_true] at hx ⊢
   exact readV s2 hx
 have q2 : s1.sh = false ∧ s1.l = (if hasS k then encA 1 [s1.slo k] else []) ++ s2.l := by
  have hx := q3.1
  rw [← hs2] at hx ⊢
  unfold Rs.slo Rs.sloAft at *
  cases hb : hasS k
  ·rw [hb] at hx; simpa using hx
  ·rw [hb] at hx
   simp only [if_true] at hx ⊢
   exact read1 s1 hx
 have q1 : s.m1.sh = false ∧ s.m1.l = (if hasB k then encA 2 [s.m1.bal k] else []) ++ s1.l := by
  have hx := q2.1
  rw [← hs1] at hx ⊢
  unfold Rs.bal Rs.balAft at *
  cases hb : hasB k
  ·rw [hb] at hx; simpa using hx
  ·rw [hb] at hx
   simp only [if_true] at hx ⊢
   exact read2 s.m1 hx
 have p3 := read1 ((s.adv 1).adv 1) q1.1
 have p2 := read1 (s.adv 1) p3.1
 have p1 := read1 s p2.1
 refine ⟨p1.1, ?_⟩
 have p3' : ((s.adv 1).adv 1).l = encA 1 [((s.adv 1).adv 1).num 1] ++ s.m1.l := p3.2
 rw [p1.2, p2.2, p3', q1.2, q2.2, q3.2, q4.2, hk]
 unfold encM
 simp only [encA_three, List.append_assoc]
theorem un_enc {l : List UInt8} (h : unB l = true) : encM (Rs.msg ⟨l, false⟩) = l ∧ rmB (Rs.msg ⟨l, false⟩) = true := by
 simp only [unB, Bool.and_eq_true] at h
 obtain ⟨⟨h1, h2⟩, h3⟩ := h
 have h2' : (Rs.msgAft ⟨l, false⟩).l = [] := by simpa using h2
 have q := (readM ⟨l, false⟩ (by simpa using h1)).2
 rw [h2', List.append_nil] at q
 exact ⟨q.symm, h3⟩
theorem enc_un {m : Ms} (h : rmB m = true) : unB (encM m) = true ∧ Rs.msg ⟨encM m, false⟩ = m := by
 have e := msg_enc m h [] false
 rw [List.append_nil] at e
 exact ⟨by simp [unB, e.1, e.2, h], e.1⟩
end
section
open Go.RowKit
set_option maxHeartbeats 400000 in
theorem between_any (n a b : Int) (w : World) :
  Calls Tryz.prog 81 #[I6 n, I6 a, I6 b] w fun e w' => e = .returned (.bool (withinB n a b)) ∧ w' = w := by
 by_cases h1 : a ≤ n
 ·by_cases h2 : n ≤ b
  ·go_enter Tryz.func81, Tryz.ntmps81
   go_wp2
   go_ret
   exact ⟨by simp [withinB, h1, h2], rfl⟩
  ·go_enter Tryz.func81, Tryz.ntmps81
   go_wp2
   go_ret
   exact ⟨by simp [withinB, h1]; omega, rfl⟩
 ·go_enter Tryz.func81, Tryz.ntmps81
  go_wp2
  go_ret
  exact ⟨by simp [withinB]; omega, rfl⟩
set_option maxHeartbeats 400000 in
theorem rballot_any (n : Int) (w : World) :
  Calls Tryz.prog 82 #[I6 n] w fun e w' => e = .returned (.bool (withinB n 1 8007)) ∧ w' = w := by
 by_cases h1 : 1 ≤ n
 ·by_cases h2 : n ≤ 8007
  ·go_enter Tryz.func82, Tryz.ntmps82
   go_wp2
   go_ret
   exact ⟨by simp [withinB, h1, h2], rfl⟩
  ·go_enter Tryz.func82, Tryz.ntmps82
   go_wp2
   go_ret
   exact ⟨by simp [withinB, h1]; omega, rfl⟩
 ·go_enter Tryz.func82, Tryz.ntmps82
  go_wp2
  go_ret
  exact ⟨by simp [withinB]; omega, rfl⟩
set_option maxHeartbeats 1000000 in
theorem rvalue_any (c q h : Int) (t : ByteArray) (w : World) :
  Calls Tryz.prog 83 #[.agg #[I6 c, I6 q, I6 h, .string t]] w fun e w' => e = .returned (.bool (rightValueB ⟨c, q, h, t⟩)) ∧ Below w.heap.size w w' := by
 cases h1 : rightPostB ⟨c, q, h, t⟩
 ·have HE : Hid (rightValueB ⟨c, q, h, t⟩ = nothingB ⟨c, q, h, t⟩) := by
   show _ = _
   simp [rightValueB, h1]
  go_enter Tryz.func83, Tryz.ntmps83
  go_wp2_with fail
  refine (rpost_any _ _ _ _ _).mono ?_
  rintro e w1 ⟨rfl, hb⟩
  have hp := blk_cell (blk_below hb (blk_new w _))
  go_wp2
  all_goals
   go_ret
   exact ⟨by rw [HE.out]; simp [nothingB, *], ((Below.refl _ _).alloc (Nat.le_refl _) _).trans (hb.mono (by simp))⟩
 ·go_enter Tryz.func83, Tryz.ntmps83
  go_wp2_with fail
  refine (rpost_any _ _ _ _ _).mono ?_
  rintro e w1 ⟨rfl, hb⟩
  go_wp2
  go_ret
  exact ⟨by simp [rightValueB, h1], ((Below.refl _ _).alloc (Nat.le_refl _) _).trans (hb.mono (by simp))⟩
set_option maxHeartbeats 1000000 in
theorem one_any (n : Int) (w : World) (h0 : 0 ≤ n) (h1 : n ≤ 1000000) :
  Calls Tryz.prog 50 #[I6 n] w fun e w' => e = .returned (.string (S (encA 1 [n]))) ∧ Below w.heap.size w w' := by
 have hcv : ∀ W : World, (convert 141 9 (.slice (some (A6 W.heap.size 0)) 1 1)).run Tryz.prog (W.alloc (.cells #[.int .u8 (n % 256)] 5)) = .ok (.string (S (encA 1 [n]))) (W.alloc (.cells #[.int .u8 (n % 256)] 5)) := fun W =>
  run_convert_bytes_back _ _ _ 5 _ 1 [byteOf n] Tryz.underlying141 Tryz.underlying5 Tryz.underlying9 (fun j hj => by
   have hj0 : j = 0 := by simpa using hj
   subst hj0
   have := news_new W W.heap.size rfl #[.int .u8 (n % 256)] 5 0 _ rfl
   rw [this]
   simp [byteOf_nat])
 go_enter Tryz.func50, Tryz.ntmps50
 go_wp2
 go_ret
 exact ⟨rfl, (Below.refl _ _).alloc (Nat.le_refl _) _⟩
set_option maxHeartbeats 1000000 in
theorem two_any (n : Int) (w : World) (h0 : 0 ≤ n) (h1 : n ≤ 1000000) :
  Calls Tryz.prog 51 #[I6 n] w fun e w' => e = .returned (.string (S (encA 2 [n]))) ∧ Below w.heap.size w w' := by
 have e1 : n % 256 % 256 = n % 256 := by omega
 have hcv : ∀ W : World, (convert 141 9 (.slice (some (A6 W.heap.size 0)) 2 2)).run Tryz.prog (W.alloc (.cells #[.int .u8 (n % 256), .int .u8 (n / 256 % 256)] 5)) = .ok (.string (S (encA 2 [n]))) (W.alloc (.cells #[.int .u8 (n % 256), .int .u8 (n / 256 % 256)] 5)) := fun W =>
  run_convert_bytes_back _ _ _ 5 _ 2 [byteOf n, byteOf (n / 256)] Tryz.underlying141 Tryz.underlying5 Tryz.underlying9 (fun j hj => by
   rcases j with _ | _ | j
   ·have := news_new W W.heap.size rfl #[.int .u8 (n % 256), .int .u8 (n / 256 % 256)] 5 0 _ rfl
    rw [this]
    simp [byteOf_nat]
   ·have := news_new W W.heap.size rfl #[.int .u8 (n % 256), .int .u8 (n / 256 % 256)] 5 1 _ rfl
    rw [this]
    simp [byteOf_nat]
   ·simp at hj; omega)
 go_enter Tryz.func51, Tryz.ntmps51
 go_wp2
 go_ret
 exact ⟨rfl, (Below.refl _ _).alloc (Nat.le_refl _) _⟩
def BS (W : World) (b : Nat) (cs : Array Value) (t : TypeId) (w : World) : Prop := w.heap[b]? = some (.cells cs t (0, 0)) ∧ Below W.heap.size W w
theorem BS.drew {W w : World} {b : Nat} {cs : Array Value} {t : TypeId} (h : BS W b cs t w) : BS W b cs t w.drew := ⟨h.1, h.2.drew⟩
theorem BS.below {W w w' : World} {b : Nat} {cs : Array Value} {t : TypeId} (h : BS W b cs t w) (hb : Below w.heap.size w w') : BS W b cs t w' :=
 ⟨blk_below hb h.1, h.2.trans (hb.mono h.2.size)⟩
theorem S_add (a b : List UInt8) : S a ++ S b = S (a ++ b) := by
 apply ByteArray.ext; simp [S]
theorem S_add' (a : List UInt8) (t : ByteArray) : S a ++ t = S (a ++ t.data.toList) := by
 have := S_add a t.data.toList
 rw [S_eta] at this
 exact this
theorem text_no (c q h : Int) (t : ByteArray) (w : World) (hc : (c == 0) = true) :
  Calls Tryz.prog 52 #[.agg #[I6 c, I6 q, I6 h, .string t]] w fun e w' => e = .returned (.string (S (encA 1 [0]))) ∧ Below w.heap.size w w' := by
 go_enter Tryz.func52, Tryz.ntmps52
 go_wp2_with fail
 refine (one_any 0 _ (by decide) (by decide)).mono ?_
 rintro e w1 ⟨rfl, hb⟩
 go_wp2
 go_ret
 exact ⟨rfl, ((Below.refl _ _).alloc (Nat.le_refl _) _).trans (hb.mono (by simp))⟩
end
end Go.Proofs.YtnnhnekfokbooaaGreatDoor
