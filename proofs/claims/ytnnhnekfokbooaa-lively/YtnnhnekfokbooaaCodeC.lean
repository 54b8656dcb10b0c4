/- Messages in memory; the walk of the net's list. -/
import Derived.Test.YtnnhnekfokbooaaCodeB
import Derived.Deep.DeepCutAuto
import Derived.Deep.CutBlock
namespace Go.Proofs.Ytnnhnekfokbooaa
open Go.RowKit
set_option linter.unusedSimpArgs false
set_option linter.unusedVariables false

/-- A message, and the value of its list. -/
structure Nm where
  m : Ms
  v : Value
def Nm.cells (x : Nm) : List Value := [.int .i64 x.m.k, .int .i64 x.m.f, .int .i64 x.m.t, .int .i64 x.m.b, .int .i64 x.m.s, .int .i64 x.m.p.c, .int .i64 x.m.p.q, .int .i64 x.m.p.h, .string x.m.p.t, x.v]
def ncs : List Nm → List Value
  | [] => []
  | x :: l => x.cells ++ ncs l
theorem ncs_length (l : List Nm) : (ncs l).length = l.length * 10 := by
  induction l with
  | nil => rfl
  | cons x l ih => simp [ncs, ih, Nm.cells]; omega
theorem ncs_append (a b : List Nm) : ncs (a ++ b) = ncs a ++ ncs b := by
  induction a with
  | nil => rfl
  | cons x l ih => simp [ncs, ih]
theorem ncs_at : ∀ (l : List Nm) (k : Nat) (hk : k < l.length) (i : Nat) (_ : i < 10), (ncs l)[k * 10 + i]? = (l[k]).cells[i]?
  | [], k, hk, _, _ => by simp at hk
  | x :: l, 0, _, i, hi => by
    rw [ncs, Nat.zero_mul, Nat.zero_add, List.getElem?_append_left (by simpa [Nm.cells] using hi)]
    rfl
  | x :: l, k + 1, hk, i, hi => by
    have e : (k + 1) * 10 + i - x.cells.length = k * 10 + i := by simp [Nm.cells]; omega
    rw [ncs, List.getElem?_append_right (by simp [Nm.cells]; omega), e]
    exact ncs_at l k (by simpa using hk) i hi
theorem ncs_set : ∀ (l : List Nm) (k : Nat) (hk : k < l.length) (v : Value), (ncs l).set (k * 10 + 9) v = ncs (l.set k ⟨l[k].m, v⟩)
  | [], k, hk, _ => by simp at hk
  | x :: l, 0, _, v => by
    rw [List.set_cons_zero, ncs, ncs, List.set_append_left _ _ (by simp [Nm.cells])]
    rfl
  | x :: l, k + 1, hk, v => by
    have e : (k + 1) * 10 + 9 - x.cells.length = k * 10 + 9 := by simp [Nm.cells]; omega
    rw [List.set_cons_succ, ncs, ncs, List.set_append_right _ _ (by simp [Nm.cells]; omega), e, ncs_set l k (by simpa using hk) v]
    rfl
/-- A message's list is there. -/
def Nm.ok (w : World) (x : Nm) : Prop := VAt w x.v x.m.a ∧ x.m.a.length ≤ 1000
theorem Nm.one {w : World} {x : Nm} (h : x.ok w) : ∀ u ∈ x.cells, u.oneCell' = true := by
  obtain ⟨ao, cap, e, _⟩ := h.1.form
  intro u hu
  simp only [Nm.cells, e, List.mem_cons, List.not_mem_nil, or_false] at hu
  rcases hu with rfl | rfl | rfl | rfl | rfl | rfl | rfl | rfl | rfl | rfl <;> rfl
theorem ncs_one {w : World} : ∀ (l : List Nm), (∀ x ∈ l, x.ok w) → ∀ u ∈ ncs l, u.oneCell' = true
  | [], _, u, hu => by simp [ncs] at hu
  | x :: l, h, u, hu => by
    rw [ncs, List.mem_append] at hu
    rcases hu with hu | hu
    · exact Nm.one (h x List.mem_cons_self) u hu
    · exact ncs_one l (fun y hy => h y (List.mem_cons_of_mem _ hy)) u hu

set_option maxHeartbeats 4000000 in
set_option maxRecDepth 100000 in
theorem list_any (b o : Nat) (v : Value) (l : List Nm) (w : World) (hc : w.cell? ⟨b, o, none⟩ = some v) (hv : RowAt w 10 v l.length (ncs l)) (hok : ∀ x ∈ l, x.ok w) (hl : l.length ≤ 1000) :
    Calls Try.prog 44 #[.pointer (some ⟨b, o, none⟩)] w fun e w' => ∃ v' L, e = .returned v' ∧ L.length = l.length ∧ (∀ i (hi : i < l.length) (hi' : i < L.length), L[i].m = l[i].m ∧ w'.ownsRow w.heap.size 77 6 L[i].v l[i].m.a.length (vcells l[i].m.a)) ∧
      (∀ i j (hi : i < L.length) (hj : j < L.length) g, i < j → L[i].v.ownBlock = some g → L[j].v.ownBlock ≠ some g) ∧ w'.ownsRow w.heap.size 100 10 v' L.length (ncs L) ∧ Below w.heap.size w w' := by
  have hblt : b < w.heap.size := World.block_lt_of_cell? w _ hc
  obtain ⟨ao, cap, hve, hvf⟩ := hv.form
  subst hve
  have hC := cloneM_any _ _ _ w hv (ncs_one l hok) (by omega)
  go_enter Try.func44, Try.ntmps44
  go_wp2_with fail
  refine hC.mono ?_
  rintro e w1 ⟨v1, rfl, hown1, hB1⟩
  clear hC
  obtain ⟨a1, c1, rfl⟩ : ∃ a1 c1, v1 = .slice a1 l.length c1 := by
    rcases hown1.2 with ⟨rfl, h0⟩ | ⟨g, cap, cur, rfl, _⟩
    · exact ⟨none, 0, by rw [h0]⟩
    · exact ⟨_, _, rfl⟩
  go_wp2_with fail
  go_loopw [4, 12] (fun q i wr => ∃ (j : Nat) (L : List Nm), j ≤ l.length ∧ i = .int .i64 j ∧ L.length = l.length ∧ (∀ i (hi : i < l.length) (hi' : i < L.length), L[i].m = l[i].m ∧ (j ≤ i → L[i] = l[i]) ∧ (i < j → wr.ownsRow w.heap.size 77 6 L[i].v l[i].m.a.length (vcells l[i].m.a))) ∧
      (∀ i k (hi : i < L.length) (hk : k < L.length) g, i < k → k < j → L[i].v.ownBlock = some g → L[k].v.ownBlock ≠ some g) ∧ wr.ownsRow w.heap.size 100 10 (.slice a1 l.length c1) L.length (ncs L) ∧ Below w.heap.size w wr) (fun _ i _ => l.length - (intOf i).toNat)
  case atStart => exact ⟨0, l, Nat.zero_le _, rfl, rfl, fun i hi hi' => ⟨rfl, fun _ => rfl, fun h => by omega⟩, fun i k hi hk g h1 h2 => by omega, hown1, hB1⟩
  case round =>
    obtain ⟨j, L, hj, rfl, hLl, hLm, hLd, hown, hB⟩ := hrel
    by_cases hlt : j < l.length
    · obtain ⟨g1, rfl⟩ : ∃ g1, a1 = some ⟨g1, 0, none⟩ := by
        rcases hown.2 with ⟨h1, h2⟩ | ⟨g, cap', cur, h1, _⟩
        · omega
        · injection h1 with e1; exact ⟨g, e1⟩
      rcases hown.2 with ⟨h1, _⟩ | ⟨g', cap', cur, h1, hbg, hg, hnc, hcm, hcs, htake⟩
      · cases h1
      have hg1 : g1 = g' ∧ c1 = cap' := by injection h1 with e1 e2 e3; injection e1 with e1; injection e1 with e1 _ _; exact ⟨e1, e3⟩
      obtain ⟨rfl, rfl⟩ := hg1
      clear h1
      have hjL : j < L.length := by omega
      have hcj : wr.cell? ⟨g1, j * 10 + 9, none⟩ = some l[j].v := by
        have e := ncs_at L j hjL 9 (by decide)
        rw [(hLm j hlt hjL).2.1 (Nat.le_refl _)] at e
        rw [blk_cell hg, ← Array.getElem?_toList]
        have e2 : cur.toList[j * 10 + 9]? = (cur.toList.take (L.length * 10))[j * 10 + 9]? := by rw [List.getElem?_take, if_pos (by omega)]
        rw [e2, htake, e]
        rfl
      have hfz := blk_free hg
      have hoj := hok l[j] (List.getElem_mem hlt)
      have hCV := cloneV_any l[j].v l[j].m.a.length (vcells l[j].m.a) wr (VAt.row (hoj.1.below hB)) (vcells_one _) (by have := hoj.2; omega)
      have q0 : (0 : Int) ≤ (j : Int) := by omega
      have q1 : (j : Int) < (l.length : Int) := by omega
      obtain ⟨ja, jc, hje, _⟩ := hoj.1.form
      generalize hvj : l[j].v = vj at *
      subst hje
      go_wp2_with fail
      refine hCV.mono ?_
      rintro e w2 ⟨v2, rfl, ho2, hB2⟩
      obtain ⟨a2, n2, c2, rfl⟩ := owns_slice1 ho2
      clear hCV
      have hg2 := blk_below hB2 hg
      have hc2 := (hB2.cell (p := ⟨g1, j * 10 + 9, none⟩) (lt_of_block hg)).trans hcj
      have hf2 := blk_free hg2
      clear hfz hcj
      go_wp2_with fail
      go_roundw
      case rel =>
        have hmj := (hLm j hlt hjL).1
        have hz := hB.size
        have hg2' := blk_set hg2 (j * 10 + 9) (.slice a2 n2 c2)
        have ho2' := owns_set ho2 (a := ⟨g1, j * 10 + 9, none⟩) (fun e => by have x1 : wr.heap.size ≤ g1 := (World.ownsRow.lt ho2 _ e).1; have x2 := lt_of_block hg; omega) (.slice a2 n2 c2)
        refine ⟨j + 1, L.set j ⟨L[j].m, .slice a2 n2 c2⟩, by omega, by go_num, by simpa using hLl, fun i hi hi' => ?_, fun i k hi hk g h1 h2 => ?_, ?_, ?_⟩
        · simp only [List.length_set] at hi'
          obtain ⟨m1, m2, m3⟩ := hLm i hi hi'
          by_cases hij : i = j
          · subst hij
            simp only [List.getElem_set_self]
            exact ⟨hmj, fun h => by omega, fun _ => owns_base ho2' hz⟩
          · rw [List.getElem_set_ne (Ne.symm hij)]
            refine ⟨m1, fun h => m2 (by omega), fun h => ?_⟩
            have ho := m3 (by omega)
            exact owns_set (owns_below ho hB2) (a := ⟨g1, j * 10 + 9, none⟩) (owns_not_block (owns_below ho hB2) hg2 (by decide)) _
        · simp only [List.length_set] at hi hk
          have hij : i ≠ j := by omega
          by_cases hkj : k = j
          · subst hkj
            simp only [List.getElem_set_self]
            rw [List.getElem_set_ne (Ne.symm hij)]
            intro h3 h4
            have ho := (hLm i (by simp at hi; omega) (by simp at hi; omega)).2.2 (by omega)
            have y1 := (World.ownsRow.lt ho _ h3).2
            have y2 := (World.ownsRow.lt ho2 _ h4).1
            omega
          · rw [List.getElem_set_ne (Ne.symm hij), List.getElem_set_ne (Ne.symm hkj)]
            exact hLd i k hi hk g h1 (by omega)
        · rw [List.length_set, ← ncs_set L j hjL]
          refine ⟨by rw [List.length_set, ncs_length], .inr ⟨g1, c1, _, by rw [hLl], hbg, hg2', hnc, hcm, by simpa using hcs, ?_⟩⟩
          rw [Array.toList_setIfInBounds, List.take_set, htake]
        · exact (hB.trans (hB2.mono hz)).setCell (p := ⟨g1, j * 10 + 9, none⟩) hbg _
      case measure => simp [intOf]; omega
    · go_wp2_with fail
      go_ret
      obtain rfl : j = l.length := by omega
      exact ⟨_, L, rfl, hLl, fun i hi hi' => ⟨(hLm i hi hi').1, (hLm i hi hi').2.2 hi⟩, fun i k hi hk g h1 => hLd i k hi hk g h1 (by omega), hown, hB⟩
end Go.Proofs.Ytnnhnekfokbooaa
