/- What the laid table of kinds gives the walks; the witness's heap. -/
import Derived.Test.YtnnhnekfokbooaaGreatDoorRows
import Derived.Test.YtnnhnekfokbooaaGreatDoorWalkE
import Derived.ProofKit
import Derived.LaidMore
import Derived.OpenShut
import Derived.Stop.Joined
import Derived.Lib.SmallJoins
namespace Go.Proofs.YtnnhnekfokbooaaGreatDoor
open Go.ChangeShapes Go.WideShapes Go.ChangeAt Go.WideMaps Go.WideElems Go.RowKit Go.Joins

theorem gKinds : Tryz.prog.globalNamed "synod/wire.kinds" = some 0 := by kernel_rfl
theorem tKinds : (Tryz.prog.globals[0]?).map (·.type) = some 173 := by kernel_rfl
theorem cellsBool : Tryz.prog.cellsOf 4 = 1 := by kernel_rfl
theorem cellsParts : Tryz.prog.cellsOf 139 = 4 := by kernel_rfl
theorem cellsKinds : Tryz.prog.cellsOf 173 = 28 := by kernel_rfl

section
variable {H : Type} {enc : TypeId × Value → H} {w : World} {base : Nat} {spare : Nat → Bool} {held : Bool} {fuel : Nat}
theorem list4 {α : Type} {l : List α} (h : l.length = 4) : ∃ a b c d, l = [a, b, c, d] := by
  rcases l with _ | ⟨a, _ | ⟨b, _ | ⟨c, _ | ⟨d, _ | ⟨e, l⟩⟩⟩⟩⟩ <;> simp at h
  exact ⟨a, b, c, d, rfl⟩
theorem list7 {α : Type} {l : List α} (h : l.length = 7) : ∃ a b c d e f g, l = [a, b, c, d, e, f, g] := by
  rcases l with _ | ⟨a, _ | ⟨b, _ | ⟨c, _ | ⟨d, _ | ⟨e, _ | ⟨f, _ | ⟨g, _ | ⟨i, l⟩⟩⟩⟩⟩⟩⟩⟩ <;> simp at h
  exact ⟨a, b, c, d, e, f, g, rfl⟩
set_option maxRecDepth 100000 in
theorem parts_cells {cs : List Value} {x : DataW H × List MemPlace} (h : DataW.trod enc Tryz.prog w base spare held fuel 139 cs = some x) :
    ∃ b0 b1 b2 b3, cs = [.bool b0, .bool b1, .bool b2, .bool b3] ∧ x.1 = .agg [.lit (.bool b0), .lit (.bool b1), .lit (.bool b2), .lit (.bool b3)] := by
  obtain ⟨y0, y1, y2, y3, n, rfl, hl, h0, h1, h2, h3⟩ := trod_struct4 Tryz.underlying139 h
  rw [cellsParts] at hl
  obtain ⟨c0, c1, c2, c3, rfl⟩ := list4 hl
  · obtain ⟨b0, e0, f0⟩ := DataW.trod_bool Tryz.underlying4 h0
    obtain ⟨b1, e1, f1⟩ := DataW.trod_bool Tryz.underlying4 h1
    obtain ⟨b2, e2, f2⟩ := DataW.trod_bool Tryz.underlying4 h2
    obtain ⟨b3, e3, f3⟩ := DataW.trod_bool Tryz.underlying4 h3
    simp [cellsBool] at e0 e1 e2 e3
    subst e0 e1 e2 e3 f0 f1 f2 f3
    exact ⟨b0, b1, b2, b3, rfl, rfl⟩
end

theorem row_at {H : Type} {enc : TypeId × Value → H} {w : World} {base : Nat} {spare : Nat → Bool} {held : Bool} {fuel : Nat} {cs : List Value} {x : DataW H × List MemPlace} {b0 b1 b2 b3 : Bool}
    (h : DataW.trod enc Tryz.prog w base spare held fuel 139 cs = some x) (hx : DataW.agg [.lit (.bool b0), .lit (.bool b1), .lit (.bool b2), .lit (.bool b3)] = x.1) : cs = [.bool b0, .bool b1, .bool b2, .bool b3] := by
  obtain ⟨c0, c1, c2, c3, rfl, e⟩ := parts_cells h
  rw [e] at hx
  simp at hx
  obtain ⟨rfl, rfl, rfl, rfl⟩ := hx
  rfl
set_option maxRecDepth 100000 in
theorem kinds_of_laid {W : World} (h : laidMetH Tryz.prog [("synod/wire.kinds", Rows.laid_synod_wire_kinds)] W) : Kinds W := by
  rw [MakeChecks.laidMetH_plain _ _ _ (by kernel_rfl)] at h
  obtain ⟨ps, ⟨g0, t0, cs0, f0, p0, q0, hg0, ht0, hv0, hd0, _, _⟩, _, _⟩ := h
  obtain rfl := Option.some.inj (gKinds.symm.trans hg0)
  obtain rfl := Option.some.inj (tKinds.symm.trans ht0)
  have hcell := World.var?_cell hg0 hv0
  obtain ⟨xs, m1, rfl, hx1, hlen, hn7, hel⟩ := DataW.trod_array Tryz.underlying173 hd0
  rw [cellsKinds] at hlen
  rw [cellsParts] at hel
  have hx : Rows.laid_synod_wire_kinds = DataW.agg (xs.map (·.1)) := by have := congrArg Prod.fst hx1; simpa using this
  obtain ⟨x0, x1, x2, x3, x4, x5, x6, rfl⟩ := list7 hn7
  simp only [Rows.laid_synod_wire_kinds, List.map_cons, List.map_nil, DataW.agg.injEq, List.cons.injEq, and_true] at hx
  obtain ⟨y0, y1, y2, y3, y4, y5, y6⟩ := hx
  generalize hL : cs0.toList = L at *
  have k0 := row_at (hel 0 (by decide)) y0
  have k1 := row_at (hel 1 (by decide)) y1
  have k2 := row_at (hel 2 (by decide)) y2
  have k3 := row_at (hel 3 (by decide)) y3
  have k4 := row_at (hel 4 (by decide)) y4
  have k5 := row_at (hel 5 (by decide)) y5
  have k6 := row_at (hel 6 (by decide)) y6
  have hcs : L = KT.map Value.bool := by
    have e : L = (L.drop (0 * 4)).take 4 ++ ((L.drop (1 * 4)).take 4 ++ ((L.drop (2 * 4)).take 4 ++ ((L.drop (3 * 4)).take 4 ++ ((L.drop (4 * 4)).take 4 ++ ((L.drop (5 * 4)).take 4 ++ (L.drop (6 * 4)).take 4))))) := by
      have f : ∀ n, L.drop n = (L.drop n).take 4 ++ L.drop (n + 4) := fun n => by
        have := (List.take_append_drop 4 (L.drop n)).symm
        rw [List.drop_drop] at this
        exact this
      have g : L.drop 28 = [] := List.drop_of_length_le (by omega)
      have f6 := f 24
      rw [g, List.append_nil] at f6
      show L = (L.drop 0).take 4 ++ ((L.drop 4).take 4 ++ ((L.drop 8).take 4 ++ ((L.drop 12).take 4 ++ ((L.drop 16).take 4 ++ ((L.drop 20).take 4 ++ (L.drop 24).take 4)))))
      rw [← f6, ← f 20, ← f 16, ← f 12, ← f 8, ← f 4, ← f 0]; rfl
    rw [e, k0, k1, k2, k3, k4, k5, k6]
    rfl
  refine ⟨?_, fun j hj => ?_⟩
  · have c0 := hcell 0
    rcases Nat.eq_zero_or_pos W.heap.size with h0 | h0
    · have : W.heap[0]? = none := Array.getElem?_eq_none (by omega)
      have e : cs0[0]? = some (.bool false) := by rw [← Array.getElem?_toList, hL, hcs]; rfl
      rw [e] at c0
      simp [World.cell?, this] at c0
    · exact h0
  · rw [hcell j, ← Array.getElem?_toList, hL, hcs]
    have hkl : j < KT.length := hj
    simp [List.getElem?_map, List.getElem?_eq_getElem hkl, List.getD_eq_getElem?_getD]
end Go.Proofs.YtnnhnekfokbooaaGreatDoor
