/- What a script of steps, and a list of numbers, that comes in looks like in memory. -/
import Derived.Test.YtnnhnekfokbooaaKeeD0
import Derived.ProofKit
import Derived.OpenShut
import Derived.ChangeArms
import Derived.Lib.SmallJoins
namespace Go.Proofs.Ytnnhnekfokbooaa
open Go.ChangeShapes Go.WideShapes Go.ChangeAt Go.RowKit Go.Joins
set_option linter.unusedSimpArgs false
set_option linter.unusedVariables false

theorem own : ownKnob Try.prog.godebug = none := by kernel_rfl
theorem laidOut : laidOutB Try.prog = true := by kernel_rfl
theorem i64_of {n : Int} (h : (Lit.int .i64 n).wf = true) : I64 n := by
  simp [Lit.wf, IntKind.min, IntKind.max, IntKind.signed, IntKind.bits] at h
  exact ⟨by omega, by omega⟩
theorem cells_int : Try.prog.cellsOf 3 = 1 := by kernel_rfl
theorem cells_step : Try.prog.cellsOf 48 = 3 := by kernel_rfl
theorem seg (L : List Value) (n k : Nat) : L.drop n = (L.drop n).take k ++ L.drop (n + k) := by
  have := (List.take_append_drop k (L.drop n)).symm
  rw [List.drop_drop] at this
  exact this
theorem exists_list {α : Type} (P : Nat → α → Prop) : ∀ (n : Nat), (∀ i, i < n → ∃ x, P i x) → ∃ l : List α, l.length = n ∧ ∀ i (hi : i < l.length), P i l[i]
  | 0, _ => ⟨[], rfl, fun i hi => by simp at hi⟩
  | n + 1, h => by
    obtain ⟨l, hl, hp⟩ := exists_list P n (fun i hi => h i (by omega))
    obtain ⟨x, hx⟩ := h n (by omega)
    refine ⟨l ++ [x], by simp [hl], fun i hi => ?_⟩
    by_cases hlt : i < l.length
    · rw [List.getElem_append_left hlt]; exact hp i hlt
    · obtain rfl : i = n := by simp [hl] at hi; omega
      have e : (l ++ [x])[i]'hi = x := by rw [List.getElem_append_right (by omega)]; simp
      rw [e]; exact hx
theorem mapM_cells {w : World} {a : Addr} : ∀ (n : Nat) (cs : List Value), (List.range n).mapM (fun i => w.cell? (a.add i)) = some cs → cs.length = n ∧ ∀ j u, cs[j]? = some u → w.cell? (a.add j) = some u := by
  intro n cs h
  have hl : cs.length = n := by simpa using mapM_some_length h
  refine ⟨hl, fun j u hu => ?_⟩
  have hj : j < n := by have := (List.getElem?_eq_some_iff.1 hu).1; omega
  have := mapM_some_get h j j (by simp [hj])
  rw [← hu, ← this]
section
variable {H : Type} {enc : TypeId × Value → H} {w : World} {base : Nat} {spare : Nat → Bool} {held : Bool} {fuel : Nat}
theorem cells_of {a : Addr} {n : Nat} {cs : List Value} (h : w.cells? base a n = some cs) : cs.length = n ∧ ∀ j u, cs[j]? = some u → w.cell? (a.add j) = some u := by
  unfold World.cells? at h
  split at h
  · exact mapM_cells n cs h
  · cases h
theorem addr_plain {a : Addr} {u : Value} {k : Nat} (hk : k = 0) (h : w.cell? (a.add k) = some u) : ∃ b off, a = ⟨b, off, none⟩ := by
  subst hk
  obtain ⟨b, off, spot⟩ := a
  have hspot : spot = none := by simpa [Addr.add] using World.cell?_spot h
  subst hspot
  exact ⟨b, off, rfl⟩
set_option maxRecDepth 100000 in
theorem step_open {cs : List Value} {x : DataW H × List MemPlace} (h : DataW.trod enc Try.prog w base spare held fuel 48 cs = some x) : ∃ p : St3, cs = [.int .i64 p.k, .int .i64 p.a, .int .i64 p.b] ∧ I64 p.k ∧ I64 p.a ∧ I64 p.b := by
  obtain ⟨xs, n, rfl, rfl, hl, hlen, hf⟩ := DataW.trod_struct Try.underlying48 h
  rw [cells_step] at hl
  match xs, hlen with
  | [y0, y1, y2], _ =>
    have g0 : DataW.trod enc Try.prog w base spare held n 3 ((cs.drop 0).take (Try.prog.cellsOf 3)) = some y0 := hf 0 _ rfl
    rw [cells_int] at g0
    have g1 : DataW.trod enc Try.prog w base spare held n 3 ((cs.drop 1).take (Try.prog.cellsOf 3)) = some y1 := hf 1 _ rfl
    rw [cells_int] at g1
    have g2 : DataW.trod enc Try.prog w base spare held n 3 ((cs.drop 2).take (Try.prog.cellsOf 3)) = some y2 := hf 2 _ rfl
    rw [cells_int] at g2
    obtain ⟨c, e0, _, f0'⟩ := DataW.trod_int Try.underlying3 g0
    obtain ⟨q, e1, _, f1'⟩ := DataW.trod_int Try.underlying3 g1
    obtain ⟨k, e2, _, f2'⟩ := DataW.trod_int Try.underlying3 g2
    refine ⟨⟨c, q, k⟩, ?_, i64_of f0', i64_of f1', i64_of f2'⟩
    have z : cs.drop 3 = [] := List.drop_of_length_le (by omega)
    have f0 : cs = (cs.drop 0).take 1 ++ ((cs.drop 1).take 1 ++ ((cs.drop 2).take 1 ++ cs.drop 3)) := by
      have s0 : cs.drop 0 = (cs.drop 0).take 1 ++ cs.drop 1 := seg cs 0 1
      have s1 : cs.drop 1 = (cs.drop 1).take 1 ++ cs.drop 2 := seg cs 1 1
      have s2 : cs.drop 2 = (cs.drop 2).take 1 ++ cs.drop 3 := seg cs 2 1
      rw [← s2, ← s1, ← s0]
      rfl
    rw [z, e0, e1, e2] at f0
    simpa using f0
set_option maxRecDepth 100000 in
theorem steps_open {v : Value} {x : DataW H × List MemPlace} (h : DataW.trod enc Try.prog w base spare held fuel 45 [v] = some x) : ∃ l : List St3, StAt w v l := by
  rcases DataW.trod_slice Try.underlying45 h with ⟨hcs, _⟩ | ⟨a, len, cap, elems, rest, n, _, hcs, rfl, _, hlc, hcm, hel, hget, _, _⟩
  · obtain rfl : v = .slice none 0 0 := by simpa using hcs
    exact ⟨[], by simp, by simp, none, 0, rfl, fun h => absurd rfl h⟩
  · obtain rfl : v = .slice (some a) len cap := by simpa using hcs
    obtain ⟨l, hll, hlp⟩ := exists_list (fun i (x : St3) => (∀ j u, [Value.int .i64 x.k, .int .i64 x.a, .int .i64 x.b][j]? = some u → w.cell? (a.add (i * 3 + j)) = some u) ∧ I64 x.k ∧ I64 x.a ∧ I64 x.b) len (fun i hi => by
      have hg := hget i hi
      rw [List.getElem?_eq_getElem (by omega), Option.bind_eq_some_iff, cells_step] at hg
      obtain ⟨cs, hc1, hc2⟩ := hg
      obtain ⟨y, rfl, hy⟩ := step_open hc2
      refine ⟨y, fun j u hu => ?_, hy⟩
      have := (cells_of hc1).2 j u hu
      rwa [Addr.add_add] at this)
    have h7 : l.length ≤ 9223372036854775807 := by unfold maxLen at hcm; omega
    refine ⟨l, h7, fun x hx => ?_, some a, cap, by rw [hll], fun hne => ?_⟩
    · obtain ⟨i, hi, rfl⟩ := List.getElem_of_mem hx
      exact (hlp i hi).2
    · have hpos : 0 < l.length := List.length_pos_iff.2 hne
      obtain ⟨b, off, rfl⟩ := addr_plain rfl ((hlp 0 hpos).1 0 _ rfl)
      refine ⟨b, off, rfl, ?_, fun j hj => ?_⟩
      · have := (hlp 0 hpos).1 0 _ rfl
        exact World.block_lt_of_cell? w _ this
      · have h0 := (hlp j hj).1 0 _ rfl
        have h1 := (hlp j hj).1 1 _ rfl
        have h2 := (hlp j hj).1 2 _ rfl
        rw [Addr.add_mid] at h0 h1 h2
        exact ⟨h0, h1, h2⟩
end
end Go.Proofs.Ytnnhnekfokbooaa
