/- Votes in memory; the walk of rightVotes. -/
import Derived.Test.YtnnhnekfokbooaaGreatDoorWalkE
import Derived.WalkKit
import Derived.WalkSpells
import Derived.WalkLawsBesides
namespace Go.Proofs.YtnnhnekfokbooaaGreatDoor
open Go.RowKit

/-- A slice value that holds some votes. -/
structure VAt (w : World) (v : Value) (l : List Vt) : Prop where
  len : l.length ≤ 4611686018427387903
  form : ∃ ao cap, v = .slice ao l.length cap ∧ (l ≠ [] → ∃ g off, ao = some ⟨g, off, none⟩ ∧ g < w.heap.size ∧ ∀ j u, (vcells l)[j]? = some u → w.cell? ⟨g, off + j, none⟩ = some u)

theorem VAt.kp {o o' : Option Nat} {w w' : World} {v : Value} {l : List Vt} (h : VAt w v l) (hk : Kp o o' w w') (ho : ∀ g, v.ownBlock = some g → o ≠ some g) : VAt w' v l := by
  refine ⟨h.len, ?_⟩
  obtain ⟨ao, cap, rfl, hc⟩ := h.form
  refine ⟨ao, cap, rfl, fun hne => ?_⟩
  obtain ⟨g, off, rfl, hg, hcell⟩ := hc hne
  exact ⟨g, off, rfl, Nat.lt_of_lt_of_le hg hk.size, fun j u hu => by rw [hk.cell hg (ho g rfl)]; exact hcell j u hu⟩
theorem VAt.below {w w' : World} {v : Value} {l : List Vt} (h : VAt w v l) (hb : Below w.heap.size w w') : VAt w' v l :=
  h.kp (Kp.ofBelow (o := none) hb) (by simp)
theorem VAt.alloc {w : World} {v : Value} {l : List Vt} (h : VAt w v l) (o : Obj) : VAt (w.alloc o) v l := h.kp ((Kp.refl none w).alloc o) (by simp)

/-- The six cells of vote number k. -/
theorem vcells_at : ∀ (l : List Vt) (k : Nat) (hk : k < l.length) (i : Nat) (_ : i < 6), (vcells l)[k * 6 + i]? = (l[k]).cells[i]?
  | v :: l, 0, _, i, hi => by
    have : i < v.cells.length := by simp [Vt.cells]; omega
    simp [vcells, List.getElem?_append_left this]
  | v :: l, k + 1, hk, i, hi => by
    have h1 : (v.cells).length = 6 := rfl
    have h2 : (k + 1) * 6 + i = 6 + (k * 6 + i) := by omega
    rw [h2]
    simp only [vcells]
    rw [List.getElem?_append_right (by omega), h1, Nat.add_sub_cancel_left]
    exact vcells_at l k (by simpa using hk) i hi

def rvB (last : Int) : List Vt → Bool
  | [] => true
  | v :: l => !(decide (v.s ≤ last)) && withinB v.s 0 15 && withinB v.b 1 8007 && rightValueB v.p && rvB v.s l
theorem rvB_drop (la : Int) (l : List Vt) (k : Nat) (hk : k < l.length) :
    rvB la (l.drop k) = (!(decide (l[k].s ≤ la)) && withinB l[k].s 0 15 && withinB l[k].b 1 8007 && rightValueB l[k].p && rvB l[k].s (l.drop (k + 1))) := by
  rw [List.drop_eq_getElem_cons hk]; rfl

set_option maxHeartbeats 2000000 in
theorem rightVotes_any (v : Value) (l : List Vt) (w : World) (hv : VAt w v l) :
    Calls Tryz.prog 116 #[v] w fun e w' => e = .returned (.bool (rvB (-1) l)) ∧ Below w.heap.size w w' := by
  obtain ⟨ao, cap, rfl, hc⟩ := hv.form
  have hlen := hv.len
  clear hv
  go_enter Tryz.func116, Tryz.ntmps116
  go_wp2_with fail
  go_loopw [3, 8] (fun la i wr => ∃ k : Nat, ∃ x : Int, k ≤ l.length ∧ i = .int .i64 k ∧ la = .int .i64 x ∧ rvB (-1) l = rvB x (l.drop k) ∧ Below w.heap.size w wr) (fun _ i _ => l.length - (intOf i).toNat)
  case atStart => exact ⟨0, -1, Nat.zero_le _, rfl, rfl, rfl, Below.refl _ _⟩
  case round =>
    obtain ⟨k, x, hk, rfl, rfl, hrv, hb⟩ := hrel
    have HR : Hid (rvB (-1) l = rvB x (l.drop k)) := hrv
    clear hrv
    by_cases hlt : k < l.length
    · obtain ⟨g, off, rfl, hg, hcell⟩ := hc (by intro e; subst e; simp at hlt)
      have hz := hb.size
      have c0 : wr.cell? ⟨g, off + k * 6, none⟩ = some (.int .i64 l[k].s) := by
        rw [hb.cell (p := ⟨g, off + k * 6, none⟩) hg]; exact hcell _ _ (vcells_at l k hlt 0 (by decide))
      have c1 : wr.cell? ⟨g, off + k * 6 + 1, none⟩ = some (.int .i64 l[k].b) := by
        rw [hb.cell (p := ⟨g, off + k * 6 + 1, none⟩) hg]; exact hcell _ _ (vcells_at l k hlt 1 (by decide))
      have c2 : wr.cell? ⟨g, off + k * 6 + 2, none⟩ = some (.int .i64 l[k].p.c) := by
        rw [hb.cell (p := ⟨g, off + k * 6 + 2, none⟩) hg]; exact hcell _ _ (vcells_at l k hlt 2 (by decide))
      have c3 : wr.cell? ⟨g, off + k * 6 + 3, none⟩ = some (.int .i64 l[k].p.q) := by
        rw [hb.cell (p := ⟨g, off + k * 6 + 3, none⟩) hg]; exact hcell _ _ (vcells_at l k hlt 3 (by decide))
      have c4 : wr.cell? ⟨g, off + k * 6 + 4, none⟩ = some (.int .i64 l[k].p.h) := by
        rw [hb.cell (p := ⟨g, off + k * 6 + 4, none⟩) hg]; exact hcell _ _ (vcells_at l k hlt 4 (by decide))
      have c5 : wr.cell? ⟨g, off + k * 6 + 5, none⟩ = some (.string l[k].p.t) := by
        rw [hb.cell (p := ⟨g, off + k * 6 + 5, none⟩) hg]; exact hcell _ _ (vcells_at l k hlt 5 (by decide))
      have HE : Hid (rvB x (l.drop k) = (!(decide (l[k].s ≤ x)) && withinB l[k].s 0 15 && withinB l[k].b 1 8007 && rightValueB l[k].p && rvB l[k].s (l.drop (k + 1)))) := rvB_drop x l k hlt
      clear hcell
      generalize l[k].s = vs at *
      generalize l[k].b = vb at *
      generalize l[k].p = vp at *
      obtain ⟨pc, pq, ph, pt⟩ := vp
      by_cases h1 : vs ≤ x
      · go_wp2
        go_ret
        exact ⟨by rw [HR.out, HE.out]; simp [h1], hb.alloc hz _⟩
      have d1 : decide (vs ≤ x) = false := by simpa using h1
      cases h2 : withinB vs 0 15
      · go_wp2_with (first | (go_at_call 114; refine (rightSlot_any _ _).mono ?_; rintro e w' ⟨rfl, rfl⟩) | (go_at_call 113; refine (rightBallot_any _ _).mono ?_; rintro e w' ⟨rfl, rfl⟩) | (go_at_call 115; refine (rightValue_any pc pq ph pt _).mono ?_; rintro e w2 ⟨rfl, hb2⟩; obtain ⟨hc2, hf2⟩ := bcell hb2))
        go_ret
        exact ⟨by rw [HR.out, HE.out]; simp [h2], hb.alloc hz _⟩
      cases h3 : withinB vb 1 8007
      · go_wp2_with (first | (go_at_call 114; refine (rightSlot_any _ _).mono ?_; rintro e w' ⟨rfl, rfl⟩) | (go_at_call 113; refine (rightBallot_any _ _).mono ?_; rintro e w' ⟨rfl, rfl⟩) | (go_at_call 115; refine (rightValue_any pc pq ph pt _).mono ?_; rintro e w2 ⟨rfl, hb2⟩; obtain ⟨hc2, hf2⟩ := bcell hb2))
        go_ret
        exact ⟨by rw [HR.out, HE.out]; simp [h3], hb.alloc hz _⟩
      cases h4 : rightValueB ⟨pc, pq, ph, pt⟩
      · go_wp2_with (first | (go_at_call 114; refine (rightSlot_any _ _).mono ?_; rintro e w' ⟨rfl, rfl⟩) | (go_at_call 113; refine (rightBallot_any _ _).mono ?_; rintro e w' ⟨rfl, rfl⟩) | (go_at_call 115; refine (rightValue_any pc pq ph pt _).mono ?_; rintro e w2 ⟨rfl, hb2⟩; obtain ⟨hc2, hf2⟩ := bcell hb2))
        go_ret
        exact ⟨by rw [HR.out, HE.out]; simp [h4], (hb.alloc hz _).trans (hb2.mono (by simp; omega))⟩
      · go_wp2_with (first | (go_at_call 114; refine (rightSlot_any _ _).mono ?_; rintro e w' ⟨rfl, rfl⟩) | (go_at_call 113; refine (rightBallot_any _ _).mono ?_; rintro e w' ⟨rfl, rfl⟩) | (go_at_call 115; refine (rightValue_any pc pq ph pt _).mono ?_; rintro e w2 ⟨rfl, hb2⟩; obtain ⟨hc2, hf2⟩ := bcell hb2))
        go_roundw
        case rel => exact ⟨k + 1, vs, by omega, by go_num, rfl, by rw [HR.out, HE.out]; simp [h1, h2, h3, h4], (hb.alloc hz _).trans (hb2.mono (by simp; omega))⟩
        case measure => simp [intOf]; omega
    · go_wp2
      go_ret
      exact ⟨by rw [HR.out, List.drop_of_length_le (by omega)]; simp [rvB], hb⟩
end Go.Proofs.YtnnhnekfokbooaaGreatDoor
