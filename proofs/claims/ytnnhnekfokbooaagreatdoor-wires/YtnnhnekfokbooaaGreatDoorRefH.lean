/- The walks of the law's own helpers: sameMessage on two messages that are the same; num; mark. -/
import Derived.Test.YtnnhnekfokbooaaGreatDoorRefG
import Derived.Test.YtnnhnekfokbooaaGreatDoorWalkU
import Derived.BigQuiet
namespace Go.Proofs.YtnnhnekfokbooaaGreatDoor
open Go.RowKit
set_option linter.unusedSimpArgs false
set_option linter.unusedVariables false

theorem num_same (n : Int) (w : World) : Calls Tryz.prog 18 #[.int .i64 n] w fun e w' => e = .returned (.int .i64 n) ∧ w' = w := by
  go_enter Tryz.func18, Tryz.ntmps18
  go_wp2
  go_ret
  exact ⟨rfl, rfl⟩

set_option maxHeartbeats 4000000 in
set_option maxRecDepth 100000 in
theorem sameMessage_same (m : Ms) (va vb : Value) (w : World) (hva : VAt w va m.a) (hvb : VAt w vb m.a) :
    Calls Tryz.prog 23 #[.agg #[.int .i64 m.k, .int .i64 m.f, .int .i64 m.t, .int .i64 m.b, .int .i64 m.s, .int .i64 m.p.c, .int .i64 m.p.q, .int .i64 m.p.h, .string m.p.t, va],
        .agg #[.int .i64 m.k, .int .i64 m.f, .int .i64 m.t, .int .i64 m.b, .int .i64 m.s, .int .i64 m.p.c, .int .i64 m.p.q, .int .i64 m.p.h, .string m.p.t, vb]] w fun e w' =>
      e = .returned (.bool true) ∧ Below w.heap.size w w' := by
  obtain ⟨k, f, t, b, s, ⟨c, q, h, x⟩, l⟩ := m
  dsimp only at *
  obtain ⟨aa, ca, rfl, hfa⟩ := hva.form
  obtain ⟨ab, cb, rfl, hfb⟩ := hvb.form
  have hlen := hva.len
  clear hva hvb
  go_enter Tryz.func23, Tryz.ntmps23
  go_wp2
  go_loopw [5] (fun i wr => ∃ j : Nat, j ≤ l.length ∧ i = .int .i64 j ∧ wr.heap[w.heap.size]? = some (.cells #[.int .i64 k, .int .i64 f, .int .i64 t, .int .i64 b, .int .i64 s, .int .i64 c, .int .i64 q, .int .i64 h, .string x, .slice aa l.length ca] 36 (0, 0))
      ∧ wr.heap[w.heap.size + 1]? = some (.cells #[.int .i64 k, .int .i64 f, .int .i64 t, .int .i64 b, .int .i64 s, .int .i64 c, .int .i64 q, .int .i64 h, .string x, .slice ab l.length cb] 36 (0, 0)) ∧ Below w.heap.size w wr) (fun i _ => l.length - (intOf i).toNat)
  case atStart =>
    refine ⟨0, Nat.zero_le _, rfl, blk_alloc (blk_new _ _) _, ?_, ((Below.refl _ w).alloc (Nat.le_refl _) _).alloc (by simp) _⟩
    have := blk_new (w.alloc (.cells #[.int .i64 k, .int .i64 f, .int .i64 t, .int .i64 b, .int .i64 s, .int .i64 c, .int .i64 q, .int .i64 h, .string x, .slice aa l.length ca] 36)) (.cells #[.int .i64 k, .int .i64 f, .int .i64 t, .int .i64 b, .int .i64 s, .int .i64 c, .int .i64 q, .int .i64 h, .string x, .slice ab l.length cb] 36)
    simp only [World.size_alloc] at this
    exact this
  case round =>
    obtain ⟨j, hj, rfl, hp1, hp2, hb⟩ := hrel
    have hd1 := blk_cell hp1
    have hd2 := blk_cell hp2
    by_cases hlt : j < l.length
    · have hne : l ≠ [] := by intro e; subst e; simp at hlt
      obtain ⟨ga, oa, rfl, hga, hca⟩ := hfa hne
      obtain ⟨gb, ob, rfl, hgb, hcb⟩ := hfb hne
      have ca0 : wr.cell? ⟨ga, oa + j * 6, none⟩ = some (.int .i64 l[j].s) := by
        rw [hb.cell (p := ⟨ga, oa + j * 6, none⟩) hga]; exact hca _ _ (vcells_at l j hlt 0 (by decide))
      have ca1 : wr.cell? ⟨ga, oa + j * 6 + 1, none⟩ = some (.int .i64 l[j].b) := by
        rw [hb.cell (p := ⟨ga, oa + j * 6 + 1, none⟩) hga]; exact hca _ _ (vcells_at l j hlt 1 (by decide))
      have ca2 : wr.cell? ⟨ga, oa + j * 6 + 2, none⟩ = some (.int .i64 l[j].p.c) := by
        rw [hb.cell (p := ⟨ga, oa + j * 6 + 2, none⟩) hga]; exact hca _ _ (vcells_at l j hlt 2 (by decide))
      have ca3 : wr.cell? ⟨ga, oa + j * 6 + 3, none⟩ = some (.int .i64 l[j].p.q) := by
        rw [hb.cell (p := ⟨ga, oa + j * 6 + 3, none⟩) hga]; exact hca _ _ (vcells_at l j hlt 3 (by decide))
      have ca4 : wr.cell? ⟨ga, oa + j * 6 + 4, none⟩ = some (.int .i64 l[j].p.h) := by
        rw [hb.cell (p := ⟨ga, oa + j * 6 + 4, none⟩) hga]; exact hca _ _ (vcells_at l j hlt 4 (by decide))
      have ca5 : wr.cell? ⟨ga, oa + j * 6 + 5, none⟩ = some (.string l[j].p.t) := by
        rw [hb.cell (p := ⟨ga, oa + j * 6 + 5, none⟩) hga]; exact hca _ _ (vcells_at l j hlt 5 (by decide))
      have cb0 : wr.cell? ⟨gb, ob + j * 6, none⟩ = some (.int .i64 l[j].s) := by
        rw [hb.cell (p := ⟨gb, ob + j * 6, none⟩) hgb]; exact hcb _ _ (vcells_at l j hlt 0 (by decide))
      have cb1 : wr.cell? ⟨gb, ob + j * 6 + 1, none⟩ = some (.int .i64 l[j].b) := by
        rw [hb.cell (p := ⟨gb, ob + j * 6 + 1, none⟩) hgb]; exact hcb _ _ (vcells_at l j hlt 1 (by decide))
      have cb2 : wr.cell? ⟨gb, ob + j * 6 + 2, none⟩ = some (.int .i64 l[j].p.c) := by
        rw [hb.cell (p := ⟨gb, ob + j * 6 + 2, none⟩) hgb]; exact hcb _ _ (vcells_at l j hlt 2 (by decide))
      have cb3 : wr.cell? ⟨gb, ob + j * 6 + 3, none⟩ = some (.int .i64 l[j].p.q) := by
        rw [hb.cell (p := ⟨gb, ob + j * 6 + 3, none⟩) hgb]; exact hcb _ _ (vcells_at l j hlt 3 (by decide))
      have cb4 : wr.cell? ⟨gb, ob + j * 6 + 4, none⟩ = some (.int .i64 l[j].p.h) := by
        rw [hb.cell (p := ⟨gb, ob + j * 6 + 4, none⟩) hgb]; exact hcb _ _ (vcells_at l j hlt 4 (by decide))
      have cb5 : wr.cell? ⟨gb, ob + j * 6 + 5, none⟩ = some (.string l[j].p.t) := by
        rw [hb.cell (p := ⟨gb, ob + j * 6 + 5, none⟩) hgb]; exact hcb _ _ (vcells_at l j hlt 5 (by decide))
      clear hca hcb hfa hfb
      generalize l[j].s = vs at *
      generalize l[j].b = vb at *
      generalize l[j].p = vp at *
      obtain ⟨pc, pq, ph, pt⟩ := vp
      dsimp only at *
      go_wp2
      go_quiet (fail)
      go_wp2
      go_roundw
      case rel => exact ⟨j + 1, by omega, by go_num, hp1, hp2, below_drewN hb _⟩
      case measure => simp [intOf]; omega
    · go_wp2
      go_ret
      exact ⟨rfl, hb⟩
end Go.Proofs.YtnnhnekfokbooaaGreatDoor
