/- Votes and messages, plainly, and how they lie in memory. -/
import Derived.Test.YtnnhnekfokbooaaRows
import Derived.Test.YtnnhnekfokbooaaPlain
import Derived.Test.YtnnhnekfokbooaaMarks
namespace Go.Proofs.Ytnnhnekfokbooaa
open Go.RowKit
set_option linter.unusedSimpArgs false
set_option linter.unusedVariables false

/-- A vote: Slot, Ballot, Value. -/
structure Vt where
  s : Int
  b : Int
  p : Pst
def Vt.cells (v : Vt) : List Value := [.int .i64 v.s, .int .i64 v.b, .int .i64 v.p.c, .int .i64 v.p.q, .int .i64 v.p.h, .string v.p.t]
def vcells : List Vt → List Value
  | [] => []
  | v :: l => v.cells ++ vcells l
theorem vcells_append (a b : List Vt) : vcells (a ++ b) = vcells a ++ vcells b := by
  induction a with
  | nil => rfl
  | cons x a ih => simp [vcells, ih]
theorem vcells_length (a : List Vt) : (vcells a).length = a.length * 6 := by
  induction a with
  | nil => rfl
  | cons x a ih => simp [vcells, Vt.cells, ih]; omega

/-- A message: its numbers, its value, its votes. -/
structure Ms where
  k : Int
  f : Int
  t : Int
  b : Int
  s : Int
  p : Pst
  a : List Vt

/-- A slice value that holds some votes. -/
structure VAt (w : World) (v : Value) (l : List Vt) : Prop where
  len : l.length ≤ 4611686018427387903
  form : ∃ ao cap, v = .slice ao l.length cap ∧ (l ≠ [] → ∃ g off, ao = some ⟨g, off, none⟩ ∧ g < w.heap.size ∧ ∀ j u, (vcells l)[j]? = some u → w.cell? ⟨g, off + j, none⟩ = some u)

theorem VAt.kp {o o' : Option Nat} {w w' : World} {v : Value} {l : List Vt} (h : VAt w v l) (hk : Kp o o' w w') (ho : ∀ g, v.ownBlock = some g → o ≠ some g) : VAt w' v l := by
  refine ⟨h.len, ?_⟩
  obtain ⟨ao, cap, rfl, hc⟩ := h.form
  refine ⟨ao, cap, rfl, fun hne => ?_⟩
  obtain ⟨g, off, rfl, hg, hcell⟩ := hc hne
  exact ⟨g, off, rfl, Nat.lt_of_lt_of_le hg hk.size, fun j u hu => by rw [hk.cell hg (ho g rfl)]; exact hcell j u hu⟩
theorem VAt.below {w w' : World} {v : Value} {l : List Vt} (h : VAt w v l) (hb : Below w.heap.size w w') : VAt w' v l :=
  h.kp (Kp.ofBelow (o := none) hb) (by simp)
theorem VAt.alloc {w : World} {v : Value} {l : List Vt} (h : VAt w v l) (o : Obj) : VAt (w.alloc o) v l := h.kp ((Kp.refl none w).alloc o) (by simp)

/-- The six cells of vote number k. -/
theorem vcells_at : ∀ (l : List Vt) (k : Nat) (hk : k < l.length) (i : Nat) (_ : i < 6), (vcells l)[k * 6 + i]? = (l[k]).cells[i]?
  | v :: l, 0, _, i, hi => by
    have : i < v.cells.length := by simp [Vt.cells]; omega
    simp [vcells, List.getElem?_append_left this]
  | v :: l, k + 1, hk, i, hi => by
    have h1 : (v.cells).length = 6 := rfl
    have h2 : (k + 1) * 6 + i = 6 + (k * 6 + i) := by omega
    rw [h2]
    simp only [vcells]
    rw [List.getElem?_append_right (by omega), h1, Nat.add_sub_cancel_left]
    exact vcells_at l k (by simpa using hk) i hi

theorem owns_vat {w : World} {base : Nat} {v : Value} {l : List Vt} (h : w.ownsRow base 77 6 v l.length (vcells l)) (hl : l.length ≤ 4611686018427387903) : VAt w v l := by
  refine ⟨hl, ?_⟩
  rcases h.2 with ⟨rfl, hn⟩ | ⟨g, cap, cur, rfl, hg, hh, h1, h2, h3, h4⟩
  · have : l = [] := List.eq_nil_of_length_eq_zero hn
    subst this
    exact ⟨none, 0, rfl, fun h => absurd rfl h⟩
  · refine ⟨some ⟨g, 0, none⟩, cap, rfl, fun _ => ⟨g, 0, rfl, lt_of_block hh, fun j u hu => ?_⟩⟩
    have := h.cells rfl j u hu
    rw [Nat.zero_add]
    have hadd : (⟨g, 0, none⟩ : Addr).add j = ⟨g, j, none⟩ := by unfold Addr.add; split <;> simp_all
    rw [← hadd]; exact this

theorem rvat_nil (w : World) : VAt w (.slice none 0 0) [] := ⟨by simp, none, 0, rfl, fun h => absurd rfl h⟩
def mval (m : Ms) (v : Value) : Array Value := #[.int .i64 m.k, .int .i64 m.f, .int .i64 m.t, .int .i64 m.b, .int .i64 m.s, .int .i64 m.p.c, .int .i64 m.p.q, .int .i64 m.p.h, .string m.p.t, v]
theorem vcells_one (l : List Vt) : ∀ u ∈ vcells l, u.oneCell' = true := by
  induction l with
  | nil => intro u hu; simp [vcells] at hu
  | cons x l ih =>
    intro u hu
    rw [vcells, List.mem_append] at hu
    rcases hu with hu | hu
    · simp [Vt.cells] at hu
      rcases hu with rfl | rfl | rfl | rfl | rfl | rfl <;> rfl
    · exact ih u hu
theorem Try.infoVote : (Try.prog.info? 77).map (fun i => (i.zero, i.size, i.bytes)) = some (some (.agg #[.int .i64 0, .int .i64 0, .int .i64 0, .int .i64 0, .int .i64 0, .string ⟨#[]⟩]), 6, 56) := by kernel_rfl

end Go.Proofs.Ytnnhnekfokbooaa
