/- The walks of the statement's own helpers: pick, post, like. -/
import Derived.Test.YtnnhnekfokbooaaDoorWalkU
import Derived.BigQuiet
import Derived.WalkKit
import Derived.WalkSpells
import Derived.WalkLawsBesides
namespace Go.Proofs.YtnnhnekfokbooaaDoor
open Go.RowKit

set_option maxHeartbeats 1000000 in
theorem pick_any (c n : Int) (w : World) (hc0 : -9223372036854775808 ≤ c) (hc1 : c ≤ 9223372036854775807) (hn0 : 0 < n) (hn1 : n ≤ 1000000) :
    Calls Tryd.prog 4 #[.int .i64 c, .int .i64 n] w fun e w' => ∃ r : Int, e = .returned (.int .i64 r) ∧ 0 ≤ r ∧ r < n ∧ w = w' := by
  by_cases h : c < 0
  · go_enter Tryd.func4, Tryd.ntmps4
    go_wp2
    go_ret
    have e : -(c + 1).tmod n = (-(c + 1)) % n := by rw [← Int.neg_tmod, Int.tmod_eq_emod_of_nonneg (by omega)]
    exact ⟨_, rfl, by rw [e]; exact Int.emod_nonneg _ (by omega), by rw [e]; exact Int.emod_lt_of_pos _ hn0, rfl⟩
  · go_enter Tryd.func4, Tryd.ntmps4
    go_wp2
    go_ret
    exact ⟨_, rfl, Int.emod_nonneg _ (by omega), Int.emod_lt_of_pos _ hn0, rfl⟩

def abc : List UInt8 := [97, 98, 99, 100, 101, 102, 103, 104, 105, 106, 107, 108]
set_option maxHeartbeats 2000000 in
theorem post_any (a b : Int) (w : World) (ha0 : -9223372036854775808 ≤ a) (ha1 : a ≤ 9223372036854775807) (hb0 : -9223372036854775808 ≤ b) (hb1 : b ≤ 9223372036854775807) :
    Calls Tryd.prog 5 #[.int .i64 a, .int .i64 b] w fun e w' => ∃ (c q h : Int) (t : ByteArray), e = .returned (.agg #[.int .i64 c, .int .i64 q, .int .i64 h, .string t]) ∧ rightPostB ⟨c, q, h, t⟩ = true ∧ Below w.heap.size w w' := by
  go_enter Tryd.func5, Tryd.ntmps5
  go_wp2_with fail
  refine (pick_any a 9 _ ha0 ha1 (by decide) (by decide)).mono ?_
  rintro e w' ⟨r1, rfl, r10, r11, rfl⟩
  go_wp2_with fail
  refine (pick_any b 5 _ hb0 hb1 (by decide) (by decide)).mono ?_
  rintro e w' ⟨r2, rfl, r20, r21, rfl⟩
  go_wp2_with fail
  refine (pick_any a 4 _ ha0 ha1 (by decide) (by decide)).mono ?_
  rintro e w' ⟨r3, rfl, r30, r31, rfl⟩
  go_wp2_with fail
  refine (pick_any b 13 _ hb0 hb1 (by decide) (by decide)).mono ?_
  rintro e w' ⟨r4, rfl, r40, r41, rfl⟩
  obtain ⟨n, rfl⟩ := Int.eq_ofNat_of_zero_le r40
  go_wp2
  refine bodyPost_ret (v := .agg #[.int .i64 (1 + r1), .int .i64 (1 + r2), .int .i64 r3, .string ((S abc).extract 0 n)]) (by simp [results, Tryd.results5, go_sem, S, abc]) rfl ⟨1 + r1, 1 + r2, r3, (S abc).extract 0 n, rfl, ?_, (Below.refl _ _).alloc (Nat.le_refl _) _⟩
  have hs : ((S abc).extract 0 n).size ≤ 12 := by
    rw [S_extract, S_size, List.length_take]
    have : (abc.drop 0).length = 12 := rfl
    omega
  simp [rightPostB, withinB]
  omega

set_option maxHeartbeats 4000000 in
set_option maxRecDepth 100000 in
theorem like_same (m : Ms) (va vb : Value) (w : World) (hva : VAt w va m.a) (hvb : VAt w vb m.a) :
    Calls Tryd.prog 8 #[.agg #[.int .i64 m.k, .int .i64 m.f, .int .i64 m.t, .int .i64 m.b, .int .i64 m.s, .int .i64 m.p.c, .int .i64 m.p.q, .int .i64 m.p.h, .string m.p.t, va],
        .agg #[.int .i64 m.k, .int .i64 m.f, .int .i64 m.t, .int .i64 m.b, .int .i64 m.s, .int .i64 m.p.c, .int .i64 m.p.q, .int .i64 m.p.h, .string m.p.t, vb]] w fun e w' =>
      e = .returned (.bool true) ∧ Below w.heap.size w w' := by
  obtain ⟨k, f, t, b, s, ⟨c, q, h, x⟩, l⟩ := m
  dsimp only at *
  obtain ⟨aa, ca, rfl, hfa⟩ := hva.form
  obtain ⟨ab, cb, rfl, hfb⟩ := hvb.form
  have hlen := hva.len
  clear hva hvb
  go_enter Tryd.func8, Tryd.ntmps8
  go_wp2
  go_loopw [5] (fun i wr => ∃ j : Nat, j ≤ l.length ∧ i = .int .i64 j ∧ wr.heap[w.heap.size]? = some (.cells #[.int .i64 k, .int .i64 f, .int .i64 t, .int .i64 b, .int .i64 s, .int .i64 c, .int .i64 q, .int .i64 h, .string x, .slice aa l.length ca] 28 (0, 0))
      ∧ wr.heap[w.heap.size + 1]? = some (.cells #[.int .i64 k, .int .i64 f, .int .i64 t, .int .i64 b, .int .i64 s, .int .i64 c, .int .i64 q, .int .i64 h, .string x, .slice ab l.length cb] 28 (0, 0)) ∧ Below w.heap.size w wr) (fun i _ => l.length - (intOf i).toNat)
  case atStart =>
    refine ⟨0, Nat.zero_le _, rfl, blk_alloc (blk_new _ _) _, ?_, ((Below.refl _ w).alloc (Nat.le_refl _) _).alloc (by simp) _⟩
    have := blk_new (w.alloc (.cells #[.int .i64 k, .int .i64 f, .int .i64 t, .int .i64 b, .int .i64 s, .int .i64 c, .int .i64 q, .int .i64 h, .string x, .slice aa l.length ca] 28)) (.cells #[.int .i64 k, .int .i64 f, .int .i64 t, .int .i64 b, .int .i64 s, .int .i64 c, .int .i64 q, .int .i64 h, .string x, .slice ab l.length cb] 28)
    simp only [World.size_alloc] at this
    exact this
  case round =>
    obtain ⟨j, hj, rfl, hp1, hp2, hb⟩ := hrel
    have hd1 := blk_cell hp1
    have hd2 := blk_cell hp2
    by_cases hlt : j < l.length
    · have hne : l ≠ [] := by intro e; subst e; simp at hlt
      obtain ⟨ga, oa, rfl, hga, hca⟩ := hfa hne
      obtain ⟨gb, ob, rfl, hgb, hcb⟩ := hfb hne
      have ca0 : wr.cell? ⟨ga, oa + j * 6, none⟩ = some (.int .i64 l[j].s) := by
        rw [hb.cell (p := ⟨ga, oa + j * 6, none⟩) hga]; exact hca _ _ (vcells_at l j hlt 0 (by decide))
      have ca1 : wr.cell? ⟨ga, oa + j * 6 + 1, none⟩ = some (.int .i64 l[j].b) := by
        rw [hb.cell (p := ⟨ga, oa + j * 6 + 1, none⟩) hga]; exact hca _ _ (vcells_at l j hlt 1 (by decide))
      have ca2 : wr.cell? ⟨ga, oa + j * 6 + 2, none⟩ = some (.int .i64 l[j].p.c) := by
        rw [hb.cell (p := ⟨ga, oa + j * 6 + 2, none⟩) hga]; exact hca _ _ (vcells_at l j hlt 2 (by decide))
      have ca3 : wr.cell? ⟨ga, oa + j * 6 + 3, none⟩ = some (.int .i64 l[j].p.q) := by
        rw [hb.cell (p := ⟨ga, oa + j * 6 + 3, none⟩) hga]; exact hca _ _ (vcells_at l j hlt 3 (by decide))
      have ca4 : wr.cell? ⟨ga, oa + j * 6 + 4, none⟩ = some (.int .i64 l[j].p.h) := by
        rw [hb.cell (p := ⟨ga, oa + j * 6 + 4, none⟩) hga]; exact hca _ _ (vcells_at l j hlt 4 (by decide))
      have ca5 : wr.cell? ⟨ga, oa + j * 6 + 5, none⟩ = some (.string l[j].p.t) := by
        rw [hb.cell (p := ⟨ga, oa + j * 6 + 5, none⟩) hga]; exact hca _ _ (vcells_at l j hlt 5 (by decide))
      have cb0 : wr.cell? ⟨gb, ob + j * 6, none⟩ = some (.int .i64 l[j].s) := by
        rw [hb.cell (p := ⟨gb, ob + j * 6, none⟩) hgb]; exact hcb _ _ (vcells_at l j hlt 0 (by decide))
      have cb1 : wr.cell? ⟨gb, ob + j * 6 + 1, none⟩ = some (.int .i64 l[j].b) := by
        rw [hb.cell (p := ⟨gb, ob + j * 6 + 1, none⟩) hgb]; exact hcb _ _ (vcells_at l j hlt 1 (by decide))
      have cb2 : wr.cell? ⟨gb, ob + j * 6 + 2, none⟩ = some (.int .i64 l[j].p.c) := by
        rw [hb.cell (p := ⟨gb, ob + j * 6 + 2, none⟩) hgb]; exact hcb _ _ (vcells_at l j hlt 2 (by decide))
      have cb3 : wr.cell? ⟨gb, ob + j * 6 + 3, none⟩ = some (.int .i64 l[j].p.q) := by
        rw [hb.cell (p := ⟨gb, ob + j * 6 + 3, none⟩) hgb]; exact hcb _ _ (vcells_at l j hlt 3 (by decide))
      have cb4 : wr.cell? ⟨gb, ob + j * 6 + 4, none⟩ = some (.int .i64 l[j].p.h) := by
        rw [hb.cell (p := ⟨gb, ob + j * 6 + 4, none⟩) hgb]; exact hcb _ _ (vcells_at l j hlt 4 (by decide))
      have cb5 : wr.cell? ⟨gb, ob + j * 6 + 5, none⟩ = some (.string l[j].p.t) := by
        rw [hb.cell (p := ⟨gb, ob + j * 6 + 5, none⟩) hgb]; exact hcb _ _ (vcells_at l j hlt 5 (by decide))
      clear hca hcb hfa hfb
      generalize l[j].s = vs at *
      generalize l[j].b = vb at *
      generalize l[j].p = vp at *
      obtain ⟨pc, pq, ph, pt⟩ := vp
      dsimp only at *
      go_wp2
      go_quiet (fail)
      go_wp2
      go_roundw
      case rel => exact ⟨j + 1, by omega, by go_num, hp1, hp2, below_drewN hb _⟩
      case measure => simp [intOf]; omega
    · go_wp2
      go_ret
      exact ⟨rfl, hb⟩
end Go.Proofs.YtnnhnekfokbooaaDoor
