/- The walk of Back. -/
import Derived.Test.YtnnhnekfokbooaaDoorWalkS
import Derived.Deep.DeepCutAuto
import Derived.Deep.CutBlock
import Derived.Deep.RegionHeld3
import Derived.WalkKit
import Derived.WalkSpells
import Derived.WalkLawsBesides
namespace Go.Proofs.YtnnhnekfokbooaaDoor
open Go.RowKit
set_option linter.unusedSimpArgs false
set_option linter.unusedVariables false

/-- A number of the kind int. -/
def I64 (n : Int) : Prop := -9223372036854775808 ≤ n ∧ n ≤ 9223372036854775807
/-- A slice of ints that came in. -/
structure IAt (w : World) (v : Value) (zs : List Int) : Prop where
  len : zs.length ≤ 9223372036854775807
  ok : ∀ z ∈ zs, I64 z
  form : ∃ ao cap, v = .slice ao zs.length cap ∧ (zs ≠ [] → ∃ g off, ao = some ⟨g, off, none⟩ ∧ g < w.heap.size ∧ ∀ j (hj : j < zs.length), w.cell? ⟨g, off + j, none⟩ = some (.int .i64 zs[j]))

theorem encM_le (m : Ms) (h : rmB m = true) : (encM m).length ≤ 20000 := by
  simp only [rmB, Bool.and_eq_true] at h
  obtain ⟨⟨_, r6⟩, r7⟩ := h
  have e3 : (if hasV m.k then encV m.p else []).length ≤ 1005 := by
    cases hb : hasV m.k
    · simp
    · rw [hb] at r6
      have := (rv_ok m.p r6).2.2.2
      exact encV_length_le m.p (by omega)
  have e4 : (if hasA m.k then encA 1 [(m.a.length : Int)] ++ encVs m.a else []).length ≤ 16200 := by
    cases hb : hasA m.k
    · simp
    · rw [hb] at r7
      obtain ⟨c8, c9⟩ := rvB_ok m.a (-1) (by omega) r7
      have h2 := encVs_length_le m.a (fun x hx => (c8 x hx).1)
      have h3 := c9 (by omega)
      simp only [if_true, List.length_append, encA_length]
      simp
      omega
  have e1 : (if hasB m.k then encA 2 [m.b] else []).length ≤ 2 := by
    split <;> simp [encA_length]
  have e2 : (if hasS m.k then encA 1 [m.s] else []).length ≤ 1 := by
    split <;> simp [encA_length]
  unfold encM
  simp only [List.length_append, encA_length, List.length_cons, List.length_nil]
  omega
/-- Votes for the slots from 0 on, each right. -/
def VOk (vs : List Vt) : Prop := ∀ i (h : i < vs.length), vs[i].s = i ∧ (1 ≤ vs[i].b ∧ vs[i].b ≤ 8007) ∧ rightValueB vs[i].p = true
theorem VOk.rv : ∀ (l : List Vt) (k : Nat), (∀ i (h : i < l.length), l[i].s = k + i ∧ (1 ≤ l[i].b ∧ l[i].b ≤ 8007) ∧ rightValueB l[i].p = true) → l.length + k ≤ 16 → rvB ((k : Int) - 1) l = true
  | [], _, _, _ => rfl
  | x :: l, k, h, hl => by
    obtain ⟨h1, h2, h3⟩ := h 0 (by simp)
    simp at h1 h2 h3
    have ih := VOk.rv l (k + 1) (fun i hi => by
      have := h (i + 1) (by simpa using hi)
      simp at this
      refine ⟨?_, this.2⟩
      rw [this.1]; omega) (by simp at hl; omega)
    have e : (((k + 1 : Nat) : Int) - 1) = x.s := by omega
    rw [e] at ih
    simp at hl
    simp only [rvB, ih, h3, Bool.and_true]
    simp [withinB]
    omega
theorem VOk.snoc {vs : List Vt} (h : VOk vs) {x : Vt} (h1 : x.s = vs.length) (h2 : 1 ≤ x.b ∧ x.b ≤ 8007) (h3 : rightValueB x.p = true) : VOk (vs ++ [x]) := by
  intro i hi
  by_cases hlt : i < vs.length
  · rw [List.getElem_append_left hlt]; exact h i hlt
  · have : i = vs.length := by simp at hi; omega
    subst this
    simp [h1, h2, h3]
/-- A world in which one cell of old holds what it held, and nothing that was there has turned. -/
def HS (W : World) (g o : Nat) (x : Value) (w : World) : Prop := w.cell? ⟨g, o, none⟩ = some x ∧ Below W.heap.size W w ∧ g < W.heap.size
theorem HS.drew {W w : World} {g o : Nat} {x : Value} (h : HS W g o x w) : HS W g o x w.drew := ⟨h.1, h.2.1.drew, h.2.2⟩
theorem HS.below {W w w' : World} {g o : Nat} {x : Value} (h : HS W g o x w) (hb : Below w.heap.size w w') : HS W g o x w' :=
  ⟨by rw [hb.cell (p := ⟨g, o, none⟩) (Nat.lt_of_lt_of_le h.2.2 h.2.1.size)]; exact h.1, h.2.1.trans (hb.mono h.2.1.size), h.2.2⟩
theorem HS.alloc {W w : World} {g o : Nat} {x : Value} (h : HS W g o x w) (ob : Obj) : HS W g o x (w.alloc ob) := h.below ((Below.refl _ _).alloc (Nat.le_refl _) _)
theorem HS.set {W w : World} {g o : Nat} {x : Value} (h : HS W g o x w) {a : Addr} (ha : W.heap.size ≤ a.block) (u : Value) : HS W g o x (w.setCell a u) :=
  ⟨by rw [World.cell?_of_block (w := w) (Below.heap_setCell _ _ _ _ (by have := h.2.2; show g ≠ _; omega))]; exact h.1, h.2.1.setCell ha u, h.2.2⟩
theorem wrap_small (r : Int) (h0 : 0 ≤ r) (h1 : r ≤ 1000000) : IntKind.i64.wrap (1 + r) = 1 + r := by
  unfold IntKind.wrap
  simp [IntKind.bits, IntKind.signed]
  omega
theorem vat_nil (w : World) : VAt w (.slice none 0 0) [] := ⟨by simp, none, 0, rfl, fun h => absurd rfl h⟩

set_option maxHeartbeats 8000000 in
set_option maxRecDepth 100000 in
theorem back_any (kind a b : Int) (vv : Value) (zs : List Int) (cut : Int) (l : List UInt8) (w : World) (hkn : Kinds w) (h1 : I64 kind) (h2 : I64 a) (h3 : I64 b) (hz : IAt w vv zs) (h4 : I64 cut) (hl : l.length ≤ 9223372036854775807) :
    Calls Tryd.prog 3 #[.int .i64 kind, .int .i64 a, .int .i64 b, vv, .int .i64 cut, .string (S l)] w fun e w' => e = .returned (.bool true) ∧ Below w.heap.size w w' := by
  obtain ⟨ao, cap, rfl, hzf⟩ := hz.form
  go_enter Tryd.func3, Tryd.ntmps3
  go_wp2_with fail
  refine (pick_any kind 6 _ h1.1 h1.2 (by decide) (by decide)).mono ?_
  rintro e w' ⟨r1, rfl, r10, r11, rfl⟩
  go_wp2_with fail
  refine (pick_any a 7 _ h2.1 h2.2 (by decide) (by decide)).mono ?_
  rintro e w' ⟨r2, rfl, r20, r21, rfl⟩
  go_wp2_with fail
  refine (pick_any b 7 _ h3.1 h3.2 (by decide) (by decide)).mono ?_
  rintro e w' ⟨r3, rfl, r30, r31, rfl⟩
  go_wp2_with fail
  refine (pick_any a 8007 _ h2.1 h2.2 (by decide) (by decide)).mono ?_
  rintro e w' ⟨r4, rfl, r40, r41, rfl⟩
  go_wp2_with fail
  refine (post_any a b _ h2.1 h2.2 h3.1 h3.2).mono ?_
  rintro e w1 ⟨pc, pq, ph, pt, rfl, hrp, hb1⟩
  go_wp2_with fail
  refine (pick_any b 3 _ h3.1 h3.2 (by decide) (by decide)).mono ?_
  rintro e w' ⟨r5, rfl, r50, r51, rfl⟩
  have hm1 := blk_below hb1 (blk_new w _)
  have hB1 : Below w.heap.size w w1 := ((Below.refl _ _).alloc (Nat.le_refl _) _).trans (hb1.mono (by simp))
  have hz1 : w.heap.size < w1.heap.size := lt_of_block hm1
  clear hb1
  go_upto_if 47 with (fail)
  go_cut [47] (fun _ wc => ∃ p : Pst, rightValueB p = true ∧ wc.heap[w.heap.size]? = some (.cells #[.int .i64 (1 + r1), .int .i64 r2, .int .i64 r3, .int .i64 (1 + r4), .int .i64 0, .int .i64 0, .int .i64 0, .int .i64 0, .string ⟨#[]⟩, .slice none 0 0] 28 (0, 0))
      ∧ wc.heap[w1.heap.size]? = some (.cells #[.int .i64 p.c, .int .i64 p.q, .int .i64 p.h, .string p.t] 25 (0, 0)) ∧ Below w.heap.size w wc)
  case first =>
    cases hr5 : (r5 == 0)
    · go_wp2
      go_meet
      case rel =>
        refine ⟨⟨pc, pq, ph, pt⟩, by simp [rightValueB, hrp], blk_alloc hm1 _, blk_new _ _, hB1.alloc (by omega) _⟩
    · go_wp2
      go_meet
      case rel =>
        refine ⟨⟨0, 0, 0, S []⟩, by simp [rightValueB, nothingB, S], ?_, ?_, ?_⟩
        · exact blk_alloc hm1 _
        · exact blk_new _ _
        · exact hB1.alloc (by omega) _
  case rest =>
    obtain ⟨p, hrv, hm2, hp2, hB2⟩ := hcut
    obtain ⟨pc, pq, ph, pt⟩ := p
    have hmc := blk_cell hm2
    have hmf := blk_free hm2
    have hpc := blk_cell hp2
    go_upto_block 0 with (fail)
    go_cut [15] (fun _ wd => ∃ (m : Ms) (v : Value), rmB m = true ∧ wd.heap[w.heap.size]? = some (.cells #[.int .i64 m.k, .int .i64 m.f, .int .i64 m.t, .int .i64 m.b, .int .i64 m.s, .int .i64 m.p.c, .int .i64 m.p.q, .int .i64 m.p.h, .string m.p.t, v] 28 (0, 0))
      ∧ VAt wd v m.a ∧ Below w.heap.size w wd)
    case first =>
      rcases (show r1 = 0 ∨ r1 = 1 ∨ r1 = 2 ∨ r1 = 3 ∨ r1 = 4 ∨ r1 = 5 from by omega) with rfl | rfl | rfl | rfl | rfl | rfl
      · go_wp2
        go_meet
        case rel =>
          refine ⟨⟨1, r2, r3, 1 + r4, 0, ⟨0, 0, 0, S []⟩, []⟩, .slice none 0 0, ?_, hm2, vat_nil _, hB2⟩
          simp [rmB, withinB, fitsB, hasB, hasS, hasV, hasA, rvB, nothingB, S, hrv]; omega
      · have hH0 : w.heap.size < wc.heap.size := lt_of_block hm2
        have hzl := hz.len
        have hzok := hz.ok
        obtain ⟨H0, hHe⟩ : ∃ H0, H0 = wc.heap.size := ⟨_, rfl⟩
        have hH1 : w.heap.size < H0 := by omega
        have hH2 : H0 ≤ wc.heap.size := by omega
        obtain ⟨i0, hi, hz0, hzi1, hzi2⟩ := info_parts Tryd.infoVote
        clear hHe
        go_wp2_with fail
        clear hmc hmf hpc
        go_loopw [15] (fun i wr => ∃ (j : Nat) (vs : List Vt) (v : Value), j ≤ zs.length ∧ j ≤ 16 ∧ i = .int .i64 j ∧ vs.length = j ∧ VOk vs ∧ wr.ownsRow H0 31 6 v j (vcells vs)
            ∧ wr.heap[w.heap.size]? = some (.cells #[.int .i64 2, .int .i64 r2, .int .i64 r3, .int .i64 (1 + r4), .int .i64 0, .int .i64 0, .int .i64 0, .int .i64 0, .string ⟨#[]⟩, v] 28 (0, 0)) ∧ Below w.heap.size w wr ∧ H0 ≤ wr.heap.size) (fun i _ => zs.length - (intOf i).toNat)
        case atStart => exact ⟨0, [], .slice none 0 0, Nat.zero_le _, by decide, rfl, rfl, fun i h => by simp at h, World.ownsRow_nil _ _ _ _, hm2, hB2, hH2⟩
        case round =>
          obtain ⟨j, vs, v, hj, hj16, rfl, hvl, hvok, hown, hmb, hB, hzz⟩ := hrel
          obtain ⟨xa, xn, xc, rfl⟩ := owns_slice hown
          have hmc := blk_cell hmb
          have hmf := blk_free hmb
          have fin : rmB ⟨2, r2, r3, 1 + r4, 0, ⟨0, 0, 0, S []⟩, vs⟩ = true := by
            have := VOk.rv vs 0 (fun i hi => by simpa using hvok i hi) (by omega)
            simp [rmB, withinB, fitsB, hasB, hasS, hasV, hasA, nothingB, S]
            refine ⟨by omega, ?_⟩
            simpa using this
          by_cases hlt : j < zs.length
          · by_cases hlt16 : j < 16
            · obtain ⟨g, off, rfl, hg, hcell⟩ := hzf (by intro e; subst e; simp at hlt)
              have hcz : wr.cell? ⟨g, off + j, none⟩ = some (.int .i64 zs[j]) := by rw [hB.cell (p := ⟨g, off + j, none⟩) hg]; exact hcell j hlt
              have hzo := hzok zs[j] (List.getElem_mem hlt)
              generalize zs[j] = z at *
              clear hcell
              have hd16 : decide ((j : Int) < 16) = true := by simp; omega
              have hdl : decide ((j : Int) < (zs.length : Int)) = true := by simp; omega
              have hgr : g < wr.heap.size := by omega
              have hj0 : (0 : Int) ≤ (j : Int) := by omega
              have hj1 : (j : Int) < (zs.length : Int) := by omega
              go_upto_region 19 with (fail)
              go_cut [16] (fun s16 wd => ∃ (nb : Nat) (y : Vt), s16 = .pointer (some ⟨nb, 0, none⟩) ∧ wd.heap[nb]? = some (.cells #[.int .i64 y.s, .int .i64 y.b, .int .i64 y.p.c, .int .i64 y.p.q, .int .i64 y.p.h, .string y.p.t] 31 (0, 0)) ∧ y.s = j ∧ (1 ≤ y.b ∧ y.b ≤ 8007) ∧ rightValueB y.p = true ∧ wr.heap.size ≤ nb ∧ Below wr.heap.size wr wd)
              case first =>
                refine wp_region_held_drew (S := HS wr g (off + j) (.int .i64 z)) (by kernel_rfl) (HS.drew ⟨hcz, Below.refl _ _, hgr⟩) (fun hS => ?_)
                refine wpAnyH_take (i := 0) (v := .int .i64 (j : Int)) rfl (by kernel_rfl) (by kernel_rfl) (by kernel_rfl) (fun _ _ _ h => h) (Or.inl ⟨by kernel_rfl, fun w' hw => by clear hS; go_simp⟩) hS ?_
                try simp only [Act.put, List.getElem_toArray, List.getElem_cons_zero, List.getElem_cons_succ, List.setIfInBounds_toArray, List.set_cons_zero, List.set_cons_succ]
                refine wpAnyH_take (i := 1) (v := .slice (some ⟨g, off, none⟩) zs.length cap) rfl (by kernel_rfl) (by kernel_rfl) (by kernel_rfl) (fun _ _ _ h => h) (Or.inl ⟨by kernel_rfl, fun w' hw => by clear hS; go_simp⟩) hS ?_
                try simp only [Act.put, List.getElem_toArray, List.getElem_cons_zero, List.getElem_cons_succ, List.setIfInBounds_toArray, List.set_cons_zero, List.set_cons_succ]
                refine wpAnyH_take (i := 2) (v := .int .i64 (j : Int)) rfl (by kernel_rfl) (by kernel_rfl) (by kernel_rfl) (fun _ _ _ h => h) (Or.inl ⟨by kernel_rfl, fun w' hw => by clear hS; go_simp⟩) hS ?_
                try simp only [Act.put, List.getElem_toArray, List.getElem_cons_zero, List.getElem_cons_succ, List.setIfInBounds_toArray, List.set_cons_zero, List.set_cons_succ]
                refine wpAnyH_take (i := 3) (v := .pointer (some ⟨g, off + j, none⟩)) rfl (by kernel_rfl) (by kernel_rfl) (by kernel_rfl) (fun _ _ _ h => h) (Or.inl ⟨by kernel_rfl, fun w' hw => by clear hS; go_simp⟩) hS ?_
                try simp only [Act.put, List.getElem_toArray, List.getElem_cons_zero, List.getElem_cons_succ, List.setIfInBounds_toArray, List.set_cons_zero, List.set_cons_succ]
                refine wpAnyH_take (i := 4) (v := .int .i64 z) rfl (by kernel_rfl) (by kernel_rfl) (by kernel_rfl) (fun _ _ _ h => h) (Or.inl ⟨by kernel_rfl, fun w' hw => by have c := hw.1; clear hS; go_simp⟩) hS ?_
                try simp only [Act.put, List.getElem_toArray, List.getElem_cons_zero, List.getElem_cons_succ, List.setIfInBounds_toArray, List.set_cons_zero, List.set_cons_succ]
                refine wpAnyH_take (i := 7) (v := .slice (some ⟨g, off, none⟩) zs.length cap) rfl (by kernel_rfl) (by kernel_rfl) (by kernel_rfl) (fun _ _ _ h => h) (Or.inl ⟨by kernel_rfl, fun w' hw => by clear hS; go_simp⟩) hS ?_
                try simp only [Act.put, List.getElem_toArray, List.getElem_cons_zero, List.getElem_cons_succ, List.setIfInBounds_toArray, List.set_cons_zero, List.set_cons_succ]
                refine wpAnyH_take (i := 8) (v := .int .i64 (j : Int)) rfl (by kernel_rfl) (by kernel_rfl) (by kernel_rfl) (fun _ _ _ h => h) (Or.inl ⟨by kernel_rfl, fun w' hw => by clear hS; go_simp⟩) hS ?_
                try simp only [Act.put, List.getElem_toArray, List.getElem_cons_zero, List.getElem_cons_succ, List.setIfInBounds_toArray, List.set_cons_zero, List.set_cons_succ]
                refine wpAnyH_take (i := 9) (v := .pointer (some ⟨g, off + j, none⟩)) rfl (by kernel_rfl) (by kernel_rfl) (by kernel_rfl) (fun _ _ _ h => h) (Or.inl ⟨by kernel_rfl, fun w' hw => by clear hS; go_simp⟩) hS ?_
                try simp only [Act.put, List.getElem_toArray, List.getElem_cons_zero, List.getElem_cons_succ, List.setIfInBounds_toArray, List.set_cons_zero, List.set_cons_succ]
                refine wpAnyH_take (i := 10) (v := .int .i64 z) rfl (by kernel_rfl) (by kernel_rfl) (by kernel_rfl) (fun _ _ _ h => h) (Or.inl ⟨by kernel_rfl, fun w' hw => by have c := hw.1; clear hS; go_simp⟩) hS ?_
                try simp only [Act.put, List.getElem_toArray, List.getElem_cons_zero, List.getElem_cons_succ, List.setIfInBounds_toArray, List.set_cons_zero, List.set_cons_succ]
                refine wpAnyH_take (i := 11) (v := .int .i64 (j : Int)) rfl (by kernel_rfl) (by kernel_rfl) (by kernel_rfl) (fun _ _ _ h => h) (Or.inl ⟨by kernel_rfl, fun w' hw => by clear hS; go_simp⟩) hS ?_
                try simp only [Act.put, List.getElem_toArray, List.getElem_cons_zero, List.getElem_cons_succ, List.setIfInBounds_toArray, List.set_cons_zero, List.set_cons_succ]
                refine wpAnyH_ready (rs := [5, 14]) (by kernel_rfl) (by simp) ?_
                refine AllReadyH.cons rfl (fun K hK => ?_) (AllReadyH.cons rfl (fun K hK => ?_) AllReadyH.nil)
                · go_simp
                  refine (pick_any z 8007 _ hzo.1 hzo.2 (by decide) (by decide)).mono ?_
                  rintro e w' ⟨r7, rfl, r70, r71, rfl⟩
                  have hw7 := wrap_small r7 r70 (by omega)
                  go_wp2_with fail
                  refine hK.out _ _ hS (fun hS => ?_)
                  clear hK K
                  try simp only [Act.put, List.getElem_toArray, List.getElem_cons_zero, List.getElem_cons_succ, List.setIfInBounds_toArray, List.set_cons_zero, List.set_cons_succ]
                  refine wpAnyH_take (i := 6) (v := .int .i64 (1 + r7)) rfl (by kernel_rfl) (by kernel_rfl) (by kernel_rfl) (fun _ _ _ h => h) (Or.inl ⟨by kernel_rfl, fun w' hw => by clear hS; go_simp⟩) hS ?_
                  try simp only [Act.put, List.getElem_toArray, List.getElem_cons_zero, List.getElem_cons_succ, List.setIfInBounds_toArray, List.set_cons_zero, List.set_cons_succ]
                  refine wpAnyH_ready (rs := [12, 14]) (by kernel_rfl) (by simp) ?_
                  refine AllReadyH.cons rfl (fun K hK => ?_) (AllReadyH.cons rfl (fun K hK => ?_) AllReadyH.nil)
                  · go_simp
                    refine (post_any z j _ hzo.1 hzo.2 (by omega) (by omega)).mono ?_
                    rintro e w8 ⟨qc, qq, qh, qt, rfl, hrq, hb8⟩
                    go_wp2_with fail
                    refine hK.out _ _ (hS.below hb8) (fun hS => ?_)
                    clear hK K
                    try simp only [Act.put, List.getElem_toArray, List.getElem_cons_zero, List.getElem_cons_succ, List.setIfInBounds_toArray, List.set_cons_zero, List.set_cons_succ]
                    have hz8 : wr.heap.size ≤ w8.heap.size := hb8.size
                    refine wpAnyH_take (i := 13) (v := .agg #[.int .i64 (j : Int), .int .i64 (1 + r7), .int .i64 qc, .int .i64 qq, .int .i64 qh, .string qt]) rfl (by kernel_rfl) (by kernel_rfl) (by kernel_rfl) (fun _ _ _ h => h) (Or.inl ⟨by kernel_rfl, fun w' hw => by clear hS; go_simp⟩) hS ?_
                    try simp only [Act.put, List.getElem_toArray, List.getElem_cons_zero, List.getElem_cons_succ, List.setIfInBounds_toArray, List.set_cons_zero, List.set_cons_succ]
                    refine wpAnyH_ready (rs := [14]) (by kernel_rfl) (by simp) ?_
                    refine AllReadyH.cons rfl (fun K hK => ?_) AllReadyH.nil
                    go_simp
                    refine hK.out _ _ (hS.alloc _) (fun hS2 => ?_)
                    clear hK K hS2
                    try simp only [Act.put, List.getElem_toArray, List.getElem_cons_zero, List.getElem_cons_succ, List.setIfInBounds_toArray, List.set_cons_zero, List.set_cons_succ]
                    refine wpAnyH_ready (rs := [15]) (by kernel_rfl) (by simp) ?_
                    refine AllReadyH.cons rfl (fun K hK => ?_) AllReadyH.nil
                    go_simp
                    refine hK.out _ _ (hS.alloc _) (fun hS => ?_)
                    clear hK K
                    try simp only [Act.put, List.getElem_toArray, List.getElem_cons_zero, List.getElem_cons_succ, List.setIfInBounds_toArray, List.set_cons_zero, List.set_cons_succ]
                    refine wpAnyH_done (by kernel_rfl) ?_ _
                    go_wp2_with fail
                    go_meet
                    case rel => exact ⟨w8.heap.size, ⟨(j : Int), 1 + r7, ⟨qc, qq, qh, qt⟩⟩, rfl, blk_new _ _, rfl, ⟨by show (1 : Int) ≤ 1 + r7; omega, by show 1 + r7 ≤ (8007 : Int); omega⟩, by simp [rightValueB, hrq], by omega, hS.2.1⟩
                  · go_simp
                    refine hK.out _ _ (hS.alloc _) (fun hS => ?_)
                    clear hK K
                    try simp only [Act.put, List.getElem_toArray, List.getElem_cons_zero, List.getElem_cons_succ, List.setIfInBounds_toArray, List.set_cons_zero, List.set_cons_succ]
                    refine wpAnyH_ready (rs := [12]) (by kernel_rfl) (by simp) ?_
                    refine AllReadyH.cons rfl (fun K hK => ?_) AllReadyH.nil
                    go_simp
                    refine (post_any z j _ hzo.1 hzo.2 (by omega) (by omega)).mono ?_
                    rintro e w8 ⟨qc, qq, qh, qt, rfl, hrq, hb8⟩
                    go_wp2_with fail
                    refine hK.out _ _ (hS.below hb8) (fun hS => ?_)
                    clear hK K
                    try simp only [Act.put, List.getElem_toArray, List.getElem_cons_zero, List.getElem_cons_succ, List.setIfInBounds_toArray, List.set_cons_zero, List.set_cons_succ]
                    have hnb := blk_below hb8 (blk_new wr _)
                    have hnf := blk_free hnb
                    have hnc := blk_cell hnb
                    refine wpAnyH_take (i := 13) (v := .agg #[.int .i64 (j : Int), .int .i64 (1 + r7), .int .i64 qc, .int .i64 qq, .int .i64 qh, .string qt]) rfl (by kernel_rfl) (by kernel_rfl) (by kernel_rfl) (fun _ _ _ h => h) (Or.inl ⟨by kernel_rfl, fun w' hw => by clear hS; go_simp⟩) hS ?_
                    try simp only [Act.put, List.getElem_toArray, List.getElem_cons_zero, List.getElem_cons_succ, List.setIfInBounds_toArray, List.set_cons_zero, List.set_cons_succ]
                    refine wpAnyH_ready (rs := [15]) (by kernel_rfl) (by simp) ?_
                    refine AllReadyH.cons rfl (fun K hK => ?_) AllReadyH.nil
                    go_simp
                    refine hK.out _ _ ((((((hS.set (by simp) _).set (by simp) _).set (by simp) _).set (by simp) _).set (by simp) _).set (by simp) _) (fun hS => ?_)
                    clear hK K
                    try simp only [Act.put, List.getElem_toArray, List.getElem_cons_zero, List.getElem_cons_succ, List.setIfInBounds_toArray, List.set_cons_zero, List.set_cons_succ]
                    have hset := blk_set (blk_set (blk_set (blk_set (blk_set (blk_set hnb 0 (.int .i64 (j : Int))) 1 (.int .i64 (1 + r7))) 2 (.int .i64 qc)) 3 (.int .i64 qq)) 4 (.int .i64 qh)) 5 (.string qt)
                    refine wpAnyH_done (by kernel_rfl) ?_ _
                    go_wp2_with fail
                    go_meet
                    case rel => exact ⟨wr.heap.size, ⟨(j : Int), 1 + r7, ⟨qc, qq, qh, qt⟩⟩, rfl, by simpa using hset, rfl, ⟨by show (1 : Int) ≤ 1 + r7; omega, by show 1 + r7 ≤ (8007 : Int); omega⟩, by simp [rightValueB, hrq], Nat.le_refl _, hS.2.1⟩
                · go_simp
                  refine hK.out _ _ (hS.alloc _) (fun hS => ?_)
                  clear hK K
                  try simp only [Act.put, List.getElem_toArray, List.getElem_cons_zero, List.getElem_cons_succ, List.setIfInBounds_toArray, List.set_cons_zero, List.set_cons_succ]
                  refine wpAnyH_ready (rs := [5]) (by kernel_rfl) (by simp) ?_
                  refine AllReadyH.cons rfl (fun K hK => ?_) AllReadyH.nil
                  go_simp
                  refine (pick_any z 8007 _ hzo.1 hzo.2 (by decide) (by decide)).mono ?_
                  rintro e w' ⟨r7, rfl, r70, r71, rfl⟩
                  have hw7 := wrap_small r7 r70 (by omega)
                  go_wp2_with fail
                  refine hK.out _ _ hS (fun hS => ?_)
                  clear hK K
                  try simp only [Act.put, List.getElem_toArray, List.getElem_cons_zero, List.getElem_cons_succ, List.setIfInBounds_toArray, List.set_cons_zero, List.set_cons_succ]
                  refine wpAnyH_take (i := 6) (v := .int .i64 (1 + r7)) rfl (by kernel_rfl) (by kernel_rfl) (by kernel_rfl) (fun _ _ _ h => h) (Or.inl ⟨by kernel_rfl, fun w' hw => by clear hS; go_simp⟩) hS ?_
                  try simp only [Act.put, List.getElem_toArray, List.getElem_cons_zero, List.getElem_cons_succ, List.setIfInBounds_toArray, List.set_cons_zero, List.set_cons_succ]
                  refine wpAnyH_ready (rs := [12]) (by kernel_rfl) (by simp) ?_
                  refine AllReadyH.cons rfl (fun K hK => ?_) AllReadyH.nil
                  go_simp
                  refine (post_any z j _ hzo.1 hzo.2 (by omega) (by omega)).mono ?_
                  rintro e w8 ⟨qc, qq, qh, qt, rfl, hrq, hb8⟩
                  go_wp2_with fail
                  refine hK.out _ _ (hS.below hb8) (fun hS => ?_)
                  clear hK K
                  try simp only [Act.put, List.getElem_toArray, List.getElem_cons_zero, List.getElem_cons_succ, List.setIfInBounds_toArray, List.set_cons_zero, List.set_cons_succ]
                  have hnb := blk_below hb8 (blk_new wr _)
                  have hnf := blk_free hnb
                  have hnc := blk_cell hnb
                  refine wpAnyH_take (i := 13) (v := .agg #[.int .i64 (j : Int), .int .i64 (1 + r7), .int .i64 qc, .int .i64 qq, .int .i64 qh, .string qt]) rfl (by kernel_rfl) (by kernel_rfl) (by kernel_rfl) (fun _ _ _ h => h) (Or.inl ⟨by kernel_rfl, fun w' hw => by clear hS; go_simp⟩) hS ?_
                  try simp only [Act.put, List.getElem_toArray, List.getElem_cons_zero, List.getElem_cons_succ, List.setIfInBounds_toArray, List.set_cons_zero, List.set_cons_succ]
                  refine wpAnyH_ready (rs := [15]) (by kernel_rfl) (by simp) ?_
                  refine AllReadyH.cons rfl (fun K hK => ?_) AllReadyH.nil
                  go_simp
                  refine hK.out _ _ ((((((hS.set (by simp) _).set (by simp) _).set (by simp) _).set (by simp) _).set (by simp) _).set (by simp) _) (fun hS => ?_)
                  clear hK K
                  try simp only [Act.put, List.getElem_toArray, List.getElem_cons_zero, List.getElem_cons_succ, List.setIfInBounds_toArray, List.set_cons_zero, List.set_cons_succ]
                  have hset := blk_set (blk_set (blk_set (blk_set (blk_set (blk_set hnb 0 (.int .i64 (j : Int))) 1 (.int .i64 (1 + r7))) 2 (.int .i64 qc)) 3 (.int .i64 qq)) 4 (.int .i64 qh)) 5 (.string qt)
                  refine wpAnyH_done (by kernel_rfl) ?_ _
                  go_wp2_with fail
                  go_meet
                  case rel => exact ⟨wr.heap.size, ⟨(j : Int), 1 + r7, ⟨qc, qq, qh, qt⟩⟩, rfl, by simpa using hset, rfl, ⟨by show (1 : Int) ≤ 1 + r7; omega, by show 1 + r7 ≤ (8007 : Int); omega⟩, by simp [rightValueB, hrq], Nat.le_refl _, hS.2.1⟩
              case rest =>
                obtain ⟨nb, y, rfl, hnb, hys, hyb, hyp, hnbl, hBd⟩ := hcut
                obtain ⟨ys, yb, ⟨yc, yq, yh, yt⟩⟩ := y
                dsimp only at hys hyb hyp hnb
                subst hys
                have hmD := blk_below hBd hmb
                have hownD : wc.ownsRow H0 31 6 (.slice xa xn xc) j (vcells vs) := by
                  refine World.ownsRow.kept hown (Kp.ofBelow (o := none) hBd).grownBy ?_
                  cases hx : (Value.slice xa xn xc).ownBlock with
                  | none => exact .inl rfl
                  | some g => exact .inr (by simp)
                have hBD : Below w.heap.size w wc := hB.trans (hBd.mono (by omega))
                have hzD := hBd.size
                have hon := fun g e => (hownD.lt g e)
                clear hmb hown hB hBd hmc hmf hcz
                have hmc := blk_cell hmD
                have hmf := blk_free hmD
                have hnc := blk_cell hnb
                go_wp2_with (at_builtin; refine wpList_append_lies _ rfl (.tmp 98) (.tmp 100) 26 rfl H0 31 i0 _ 6 56 Tryd.underlying26 hi hz0 hzi1 hzi2 rfl (by decide) _ j (vcells vs) rfl (World.ownsRow.alloc hownD _) _ 1 1 (Vt.cells ⟨(j : Int), yb, ⟨yc, yq, yh, yt⟩⟩) rfl rfl ?_ ?_ (by decide) ?_ ?_ ?_ _ rfl ?_)
                · exact news_new _ _ rfl _ _
                · intro u hu
                  simp [Vt.cells] at hu
                  rcases hu with rfl | rfl | rfl | rfl | rfl | rfl <;> rfl
                · unfold maxLen; omega
                · omega
                · simp; omega
                · intro g' cap' w9 hown9 hgrow hat hlt9
                  have hm9 := blk_grown hgrow (blk_alloc hmD _) (fun e => by have := (hon _ e).1; omega)
                  have hB9 : Below w.heap.size w w9 := (hBD.alloc (by omega) _).grown hgrow (by simp; omega) (fun k e => by have := (hon k e).1; omega)
                  have hz9 := hgrow.size
                  try simp only [World.size_alloc] at hz9
                  have hg9 : g' ≠ w.heap.size := by
                    rcases hat with e | e
                    · have := (hon _ e).1; omega
                    · omega
                  have hownE : w9.ownsRow H0 31 6 (.slice (some ⟨g', 0, none⟩) (j + 1) cap') (j + 1) (vcells (vs ++ [⟨(j : Int), yb, ⟨yc, yq, yh, yt⟩⟩])) := by
                    rw [vcells_append]; simpa [vcells] using hown9
                  clear hown9 hgrow hat hlt9 hownD hBD hmc hmf hnc hnb
                  have hmc := blk_cell hm9
                  have hmf := blk_free hm9
                  have hvok2 := hvok.snoc (x := ⟨(j : Int), yb, ⟨yc, yq, yh, yt⟩⟩) (by simp [hvl]) hyb hyp
                  have hset := blk_set hm9 9 (.slice (some ⟨g', 0, none⟩) (j + 1) cap')
                  go_wp2
                  go_roundw
                  case rel =>
                    first
                    | exact ⟨j + 1, vs ++ [⟨(j : Int), yb, ⟨yc, yq, yh, yt⟩⟩], _, by omega, by omega, by go_num, by simp [hvl], hvok2, ownsRow_setCell_other hownE (by simp [Value.ownBlock]; omega) _, by simpa using hset, hB9.setCell (by simp) _, by simp [World.setCell]; omega⟩
                    | ((repeat apply Exists.intro); exact ⟨⟨j + 1, vs ++ [⟨(j : Int), yb, ⟨yc, yq, yh, yt⟩⟩], _, by omega, by omega, by go_num, by simp [hvl], hvok2, ownsRow_setCell_other hownE (by simp [Value.ownBlock]; omega) _, by simpa using hset, hB9.setCell (by simp) _, by simp [World.setCell]; omega⟩, rfl⟩)
                  case measure => simp [intOf]; omega
            · have hd16 : decide ((j : Int) < 16) = false := by simp; omega
              go_wp2
              go_meet
              case rel => exact ⟨⟨2, r2, r3, 1 + r4, 0, ⟨0, 0, 0, S []⟩, vs⟩, _, fin, hmb, owns_vat (by rw [hvl]; exact hown) (by show vs.length ≤ _; omega), hB⟩
          · go_wp2
            go_meet
            case rel => exact ⟨⟨2, r2, r3, 1 + r4, 0, ⟨0, 0, 0, S []⟩, vs⟩, _, fin, hmb, owns_vat (by rw [hvl]; exact hown) (by show vs.length ≤ _; omega), hB⟩
      · go_wp2_with (go_at_call 4; refine (pick_any b 16 _ h3.1 h3.2 (by decide) (by decide)).mono ?_; rintro e w' ⟨r6, rfl, r60, r61, rfl⟩)
        go_meet
        case rel =>
          refine ⟨⟨3, r2, r3, 1 + r4, r6, ⟨pc, pq, ph, pt⟩, []⟩, .slice none 0 0, ?_, ?_, vat_nil _, ?_⟩
          · simp [rmB, withinB, fitsB, hasB, hasS, hasV, hasA, rvB, nothingB, S, hrv]; omega
          · have := blk_set (blk_set (blk_set (blk_set (blk_set hm2 4 (.int .i64 r6)) 5 (.int .i64 pc)) 6 (.int .i64 pq)) 7 (.int .i64 ph)) 8 (.string pt)
            simpa using this
          · repeat refine Below.setCell ?_ (by simp) _
            exact hB2
      · go_wp2_with (go_at_call 4; refine (pick_any b 16 _ h3.1 h3.2 (by decide) (by decide)).mono ?_; rintro e w' ⟨r6, rfl, r60, r61, rfl⟩)
        go_meet
        case rel =>
          refine ⟨⟨4, r2, r3, 1 + r4, r6, ⟨0, 0, 0, S []⟩, []⟩, .slice none 0 0, ?_, ?_, vat_nil _, ?_⟩
          · simp [rmB, withinB, fitsB, hasB, hasS, hasV, hasA, rvB, nothingB, S, hrv]; omega
          · have := blk_set hm2 4 (.int .i64 r6)
            simpa [S] using this
          · repeat refine Below.setCell ?_ (by simp) _
            exact hB2
      · go_wp2_with (go_at_call 4; refine (pick_any b 16 _ h3.1 h3.2 (by decide) (by decide)).mono ?_; rintro e w' ⟨r6, rfl, r60, r61, rfl⟩)
        go_meet
        case rel =>
          refine ⟨⟨5, r2, r3, 0, r6, ⟨pc, pq, ph, pt⟩, []⟩, .slice none 0 0, ?_, ?_, vat_nil _, ?_⟩
          · simp [rmB, withinB, fitsB, hasB, hasS, hasV, hasA, rvB, nothingB, S, hrv]; omega
          · have := blk_set (blk_set (blk_set (blk_set (blk_set (blk_set hm2 3 (.int .i64 0)) 4 (.int .i64 r6)) 5 (.int .i64 pc)) 6 (.int .i64 pq)) 7 (.int .i64 ph)) 8 (.string pt)
            simpa using this
          · repeat refine Below.setCell ?_ (by simp) _
            exact hB2
      · go_wp2
        go_meet
        case rel =>
          refine ⟨⟨6, r2, r3, 1 + r4, 0, ⟨0, 0, 0, S []⟩, []⟩, .slice none 0 0, ?_, hm2, vat_nil _, hB2⟩
          simp [rmB, withinB, fitsB, hasB, hasS, hasV, hasA, rvB, nothingB, S, hrv]; omega
    case rest =>
      obtain ⟨m, v, hrm, hm3, hv3, hB3⟩ := hcut
      clear hm2 hp2 hB2 hmc hmf hpc hB1 hm1
      obtain ⟨va, vc, hve, _⟩ := hv3.form
      subst hve
      have hz3 : w.heap.size < wc.heap.size := lt_of_block hm3
      have hln := encM_length m
      have hlx := encM_le m hrm
      have hne : (S (encM m)).toList.isEmpty = false := by rw [S_toList]; simpa using encM_ne m
      have hsz : (S (encM m)).size = (encM m).length := S_size _
      obtain ⟨u1, u2⟩ := enc_un hrm
      have u3 := fun k => cut_un hrm (k := k)
      have u4 := more_un hrm 0
      have hk3 := hkn.below hB3
      have hmc := blk_cell hm3
      have hP := Pack_any m (.slice va m.a.length vc) wc hk3 hv3
      rw [hrm, if_pos rfl] at hP
      go_wp2_with fail
      refine hP.mono ?_
      rintro e w4 ⟨rfl, hb4⟩
      clear hP hmc
      have hm4 := blk_below hb4 hm3
      have hv4 := hv3.below hb4
      have hk4 := hk3.below hb4
      have hB4 : Below w.heap.size w w4 := hB3.trans (hb4.mono (by omega))
      have hz4 := hb4.size
      clear hb4 hm3 hv3 hk3 hB3
      have hU := Unpack_any (encM m) w4 hk4 (by omega)
      rw [u2] at hU
      go_wp2_with fail
      refine hU.mono ?_
      rintro e w5 ⟨h5, -, hb5⟩
      obtain ⟨v5, rfl, hown5⟩ := h5 u1
      obtain ⟨oa, on, oc, rfl⟩ := owns_slice hown5
      have hv5 : VAt w5 (.slice oa on oc) m.a := owns_vat hown5 (by have := hv4.len; omega)
      clear hU h5 hown5
      have hm5 := blk_below hb5 hm4
      have hv5' := hv4.below hb5
      have hk5 := hk4.below hb5
      have hB5 : Below w.heap.size w w5 := hB4.trans (hb5.mono (by omega))
      have hz5 := hb5.size
      clear hb5 hm4 hv4 hk4 hB4
      have hm6 := blk_alloc hm5 (.cells #[.int .i64 m.k, .int .i64 m.f, .int .i64 m.t, .int .i64 m.b, .int .i64 m.s, .int .i64 m.p.c, .int .i64 m.p.q, .int .i64 m.p.h, .string m.p.t, .slice oa on oc] 28)
      have hn6 := blk_new w5 (.cells #[.int .i64 m.k, .int .i64 m.f, .int .i64 m.t, .int .i64 m.b, .int .i64 m.s, .int .i64 m.p.c, .int .i64 m.p.q, .int .i64 m.p.h, .string m.p.t, .slice oa on oc] 28)
      have hk6 := hk5.alloc (.cells #[.int .i64 m.k, .int .i64 m.f, .int .i64 m.t, .int .i64 m.b, .int .i64 m.s, .int .i64 m.p.c, .int .i64 m.p.q, .int .i64 m.p.h, .string m.p.t, .slice oa on oc] 28)
      have hL := like_same m (.slice va m.a.length vc) (.slice oa on oc) (w5.alloc (.cells #[.int .i64 m.k, .int .i64 m.f, .int .i64 m.t, .int .i64 m.b, .int .i64 m.s, .int .i64 m.p.c, .int .i64 m.p.q, .int .i64 m.p.h, .string m.p.t, .slice oa on oc] 28)) (hv5'.alloc _) (hv5.alloc _)
      have hB6 : Below w.heap.size w (w5.alloc (.cells #[.int .i64 m.k, .int .i64 m.f, .int .i64 m.t, .int .i64 m.b, .int .i64 m.s, .int .i64 m.p.c, .int .i64 m.p.q, .int .i64 m.p.h, .string m.p.t, .slice oa on oc] 28)) := hB5.alloc (by omega) _
      have hmc := blk_cell hm6
      have hnc := blk_cell hn6
      go_wp2_with fail
      refine hL.mono ?_
      rintro e w7 ⟨rfl, hb7⟩
      clear hL hmc hnc hm6 hn6 hv5 hv5' hm5 hk5 hB5
      have hk7 := hk6.below hb7
      have hz7 : w.heap.size < w7.heap.size := by have := hb7.size; simp at this; omega
      have hB7 : Below w.heap.size w w7 := hB6.trans (hb7.mono (by simp; omega))
      clear hb7 hB6 hk6
      go_wp2_with fail
      refine (pick_any cut _ _ h4.1 h4.2 (by omega) (by omega)).mono ?_
      rintro e w' ⟨rc, rfl, rc0, rc1, rfl⟩
      obtain ⟨nc, rfl⟩ := Int.eq_ofNat_of_zero_le rc0
      have hx : (S (encM m)).extract 0 nc = S ((encM m).take nc) := by rw [S_extract]; simp
      have hU1 := Unpack_any ((encM m).take nc) w7 hk7 (by simp; omega)
      have u3' := u3 nc (by omega)
      clear u3
      go_wp2_with fail
      refine hU1.mono ?_
      rintro e w8 ⟨-, h8, hb8⟩
      obtain rfl := h8 u3'
      clear h8 hU1 u3' hx
      have hk8 := (hk7.below hb8).alloc (.cells #[.int .i64 0, .int .i64 0, .int .i64 0, .int .i64 0, .int .i64 0, .int .i64 0, .int .i64 0, .int .i64 0, .string (S []), .slice none 0 0] 28)
      have hz8 : w.heap.size < w8.heap.size := by have := hb8.size; omega
      have hB8 : Below w.heap.size w (w8.alloc (.cells #[.int .i64 0, .int .i64 0, .int .i64 0, .int .i64 0, .int .i64 0, .int .i64 0, .int .i64 0, .int .i64 0, .string (S []), .slice none 0 0] 28)) := (hB7.trans (hb8.mono (by omega))).alloc (by omega) _
      clear hb8 hk7 hB7
      have hadd : S (encM m) ++ (⟨#[0]⟩ : ByteArray) = S (encM m ++ [0]) := by
        apply ByteArray.ext; simp [S]
      have hU2 := Unpack_any (encM m ++ [0]) _ hk8 (by simp; omega)
      go_wp2_with fail
      refine hU2.mono ?_
      rintro e w9 ⟨-, h9, hb9⟩
      obtain rfl := h9 u4
      clear h9 hU2 u4 hadd
      have hk9 := (hk8.below hb9).alloc (.cells #[.int .i64 0, .int .i64 0, .int .i64 0, .int .i64 0, .int .i64 0, .int .i64 0, .int .i64 0, .int .i64 0, .string (S []), .slice none 0 0] 28)
      have hz9 : w.heap.size < w9.heap.size := by have := hb9.size; simp at this; omega
      have hB9 : Below w.heap.size w (w9.alloc (.cells #[.int .i64 0, .int .i64 0, .int .i64 0, .int .i64 0, .int .i64 0, .int .i64 0, .int .i64 0, .int .i64 0, .string (S []), .slice none 0 0] 28)) := (hB8.trans (hb9.mono (by simp; omega))).alloc (by omega) _
      clear hb9 hk8 hB8
      have hU3 := Unpack_any l _ hk9 hl
      cases hun : unB l
      · go_wp2_with fail
        refine hU3.mono ?_
        rintro e wa ⟨-, ha, hba⟩
        obtain rfl := ha hun
        clear ha hU3
        have hza : w.heap.size < wa.heap.size := by have := hba.size; simp at this; omega
        have hBa : Below w.heap.size w (wa.alloc (.cells #[.int .i64 0, .int .i64 0, .int .i64 0, .int .i64 0, .int .i64 0, .int .i64 0, .int .i64 0, .int .i64 0, .string (S []), .slice none 0 0] 28)) := (hB9.trans (hba.mono (by simp; omega))).alloc (by omega) _
        have hma := blk_new wa (.cells #[.int .i64 0, .int .i64 0, .int .i64 0, .int .i64 0, .int .i64 0, .int .i64 0, .int .i64 0, .int .i64 0, .string (S []), .slice none 0 0] 28)
        have hmc := blk_cell hma
        clear hba hk9 hB9
        have hL2 := like_same ⟨0, 0, 0, 0, 0, ⟨0, 0, 0, S []⟩, []⟩ (.slice none 0 0) (.slice none 0 0) (wa.alloc (.cells #[.int .i64 0, .int .i64 0, .int .i64 0, .int .i64 0, .int .i64 0, .int .i64 0, .int .i64 0, .int .i64 0, .string (S []), .slice none 0 0] 28)) (vat_nil _) (vat_nil _)
        dsimp only at hL2
        have eS : S [] = ⟨#[]⟩ := rfl
        go_wp2_with fail
        refine hL2.mono ?_
        rintro e wb ⟨rfl, hbb⟩
        go_wp2
        go_ret
        exact ⟨rfl, hBa.trans (hbb.mono (by simp; omega))⟩
      · obtain ⟨y1, y2⟩ := un_enc hun
        have hvl := vts_le ⟨l, false⟩
        generalize Rs.msg ⟨l, false⟩ = m2 at *
        go_wp2_with fail
        refine hU3.mono ?_
        rintro e wa ⟨ha, -, hba⟩
        obtain ⟨v2, rfl, hown2⟩ := ha hun
        obtain ⟨oa2, on2, oc2, rfl⟩ := owns_slice hown2
        have hva : VAt wa (.slice oa2 on2 oc2) m2.a := owns_vat hown2 (by omega)
        clear ha hU3 hown2
        have hka := (hk9.below hba).alloc (.cells #[.int .i64 m2.k, .int .i64 m2.f, .int .i64 m2.t, .int .i64 m2.b, .int .i64 m2.s, .int .i64 m2.p.c, .int .i64 m2.p.q, .int .i64 m2.p.h, .string m2.p.t, .slice oa2 on2 oc2] 28)
        have hza : w.heap.size < wa.heap.size := by have := hba.size; simp at this; omega
        have hBa : Below w.heap.size w (wa.alloc (.cells #[.int .i64 m2.k, .int .i64 m2.f, .int .i64 m2.t, .int .i64 m2.b, .int .i64 m2.s, .int .i64 m2.p.c, .int .i64 m2.p.q, .int .i64 m2.p.h, .string m2.p.t, .slice oa2 on2 oc2] 28)) := (hB9.trans (hba.mono (by simp; omega))).alloc (by omega) _
        have hma := blk_new wa (.cells #[.int .i64 m2.k, .int .i64 m2.f, .int .i64 m2.t, .int .i64 m2.b, .int .i64 m2.s, .int .i64 m2.p.c, .int .i64 m2.p.q, .int .i64 m2.p.h, .string m2.p.t, .slice oa2 on2 oc2] 28)
        have hmc := blk_cell hma
        have hP2 := Pack_any m2 (.slice oa2 on2 oc2) (wa.alloc (.cells #[.int .i64 m2.k, .int .i64 m2.f, .int .i64 m2.t, .int .i64 m2.b, .int .i64 m2.s, .int .i64 m2.p.c, .int .i64 m2.p.q, .int .i64 m2.p.h, .string m2.p.t, .slice oa2 on2 oc2] 28)) hka (hva.alloc _)
        rw [y2, if_pos rfl, y1] at hP2
        clear hba hk9 hB9 hka hva y1 y2
        go_wp2_with fail
        refine hP2.mono ?_
        rintro e wb ⟨rfl, hbb⟩
        clear hP2
        go_wp2
        go_ret
        exact ⟨rfl, hBa.trans (hbb.mono (by simp; omega))⟩
end Go.Proofs.YtnnhnekfokbooaaDoor
