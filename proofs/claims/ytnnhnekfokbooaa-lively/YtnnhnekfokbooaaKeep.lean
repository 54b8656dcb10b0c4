/- Frames with several blocks; stores of many cells. -/
import Derived.Test.YtnnhnekfokbooaaMarks
import Derived.Deep.MidRow
namespace Go.Proofs.Ytnnhnekfokbooaa
open Go.RowKit
set_option linter.unusedSimpArgs false
set_option linter.unusedVariables false

/-- w' is w but for new blocks and for the blocks of P. -/
structure Keeps (P : Nat → Prop) (w w' : World) : Prop where
  os : w'.os = w.os
  tape : w'.tape = w.tape
  output : w'.output = w.output
  size : w.heap.size ≤ w'.heap.size
  block : ∀ k, k < w.heap.size → ¬ P k → w'.heap[k]? = w.heap[k]?
theorem Keeps.refl (P : Nat → Prop) (w : World) : Keeps P w w := ⟨rfl, rfl, rfl, Nat.le_refl _, fun _ _ _ => rfl⟩
theorem Keeps.trans {P : Nat → Prop} {w w1 w2 : World} (h : Keeps P w w1) (k : Keeps P w1 w2) : Keeps P w w2 :=
  ⟨k.os.trans h.os, k.tape.trans h.tape, k.output.trans h.output, Nat.le_trans h.size k.size, fun b hb hn => (k.block b (Nat.lt_of_lt_of_le hb h.size) hn).trans (h.block b hb hn)⟩
theorem Keeps.mono {P Q : Nat → Prop} {w w' : World} (h : Keeps P w w') (hq : ∀ k, k < w.heap.size → P k → Q k) : Keeps Q w w' :=
  ⟨h.os, h.tape, h.output, h.size, fun b hb hn => h.block b hb (fun p => hn (hq b hb p))⟩
theorem Keeps.ofKp {o o' : Option Nat} {w w' : World} (h : Kp o o' w w') : Keeps (fun k => o = some k) w w' := ⟨h.os, h.tape, h.output, h.size, fun b hb hn => h.block b hb hn⟩
theorem Keeps.ofBelow {P : Nat → Prop} {w w' : World} (h : Below w.heap.size w w') : Keeps P w w' := ⟨h.os, h.tape, h.output, h.size, fun b hb _ => h.block b hb⟩
theorem Keeps.ofGrown {o : Option Nat} {w w' : World} (h : w.grownBy w' o) : Keeps (fun k => o = some k) w w' := ⟨h.os, h.tape, h.output, h.size, fun b hb hn => h.block b hb (fun e => hn e.symm)⟩
theorem Keeps.ofSet {P : Nat → Prop} {w : World} {a : Addr} (ha : P a.block ∨ w.heap.size ≤ a.block) (u : Value) : Keeps P w (w.setCell a u) :=
  ⟨rfl, rfl, rfl, by simp [World.setCell], fun b hb hn => Below.heap_setCell _ _ _ _ (fun e => by rcases ha with h | h; exact hn (e ▸ h); omega)⟩
theorem Keeps.ofAlloc {P : Nat → Prop} (w : World) (o : Obj) : Keeps P w (w.alloc o) := Keeps.ofBelow ((Below.refl _ w).alloc (Nat.le_refl _) o)
theorem blk_keeps {P : Nat → Prop} {w w' : World} (h : Keeps P w w') {b : Nat} {ob : Obj} (hb : w.heap[b]? = some ob) (hn : ¬ P b) : w'.heap[b]? = some ob := by
  rw [h.block b (lt_of_block hb) hn]; exact hb
theorem owns_keeps {P : Nat → Prop} {w w' : World} {base : Nat} {e : TypeId} {size : Nat} {v : Value} {n : Nat} {xs : List Value} (h : w.ownsRow base e size v n xs) (hk : Keeps P w w') (hne : ∀ g, v.ownBlock = some g → ¬ P g) : w'.ownsRow base e size v n xs := by
  refine ⟨h.1, ?_⟩
  rcases h.2 with h2 | ⟨g, cap, cur, rfl, h3, h4, h5⟩
  · exact .inl h2
  · exact .inr ⟨g, cap, cur, rfl, h3, blk_keeps hk h4 (hne g rfl), h5⟩

theorem take_set (cur : Array Value) (n : Nat) (v : Value) (h : n < cur.size) : (cur.setIfInBounds n v).toList.take (n + 1) = cur.toList.take n ++ [v] := by
  rw [Array.toList_setIfInBounds, List.take_add_one, List.take_set_of_le (Nat.le_refl n), List.getElem?_set_self (by simpa using h)]
  rfl
/-- A store of many cells into a block that is known whole. -/
theorem setCells_self (g : Nat) (t : TypeId) : ∀ (l : List Value) (o : Nat) (w : World) (cur : Array Value), w.heap[g]? = some (.cells cur t (0, 0)) → o + l.length ≤ cur.size →
    (w.setCells g o l).heap[g]? = some (.cells (cur.toList.take o ++ l ++ cur.toList.drop (o + l.length)).toArray t (0, 0))
  | [], o, w, cur, h, _ => by simpa [World.setCells] using h
  | v :: r, o, w, cur, h, hl => by
    simp only [List.length_cons] at hl ⊢
    rw [World.setCells, setCells_self g t r (o + 1) _ _ (blk_set h o v) (by simp; omega)]
    congr 3
    rw [take_set cur o v (by omega), Array.toList_setIfInBounds, List.drop_set_of_lt (by omega)]
    simp only [List.append_assoc, List.cons_append, List.nil_append]
    congr 4
    omega
theorem setCells_other (g : Nat) : ∀ (l : List Value) (o : Nat) (w : World) (b : Nat), b ≠ g → (w.setCells g o l).heap[b]? = w.heap[b]?
  | [], _, _, _, _ => rfl
  | v :: r, o, w, b, h => by rw [World.setCells, setCells_other g r (o + 1) _ b h, Below.heap_setCell _ _ _ _ h]
theorem Keeps.ofSets {P : Nat → Prop} (g : Nat) (hg : P g) : ∀ (l : List Value) (o : Nat) (w : World), Keeps P w (w.setCells g o l)
  | [], _, w => Keeps.refl P w
  | v :: r, o, w => (Keeps.ofSet (a := ⟨g, o, none⟩) (.inl hg) v).trans (Keeps.ofSets g hg r (o + 1) _)
/-- One mark more, stored behind those that are there. -/
theorem MK.store {w : World} {base : Nat} {e : TypeId} {x : List Value} {g j cap n : Nat} (h : MK w base e x (.slice (some ⟨g, 0, none⟩) j cap) j) (hj : j < n) (hn : n ≤ cap) :
    MK (w.setCells g (j * x.length) x) base e x (.slice (some ⟨g, 0, none⟩) (j + 1) cap) (j + 1) := by
  refine ⟨reps_length _ _, ?_⟩
  rcases h.2 with ⟨h1, _⟩ | ⟨g', cap', cur, h1, hbg, hg, hnc, hcm, hcs, htake⟩
  · cases h1
  cases h1
  have hsz : j * x.length + x.length ≤ cur.size := by
    rw [hcs, ← Nat.succ_mul]; exact Nat.mul_le_mul_right _ (by omega)
  refine .inr ⟨g, cap, _, rfl, hbg, setCells_self g e x (j * x.length) w cur hg hsz, by omega, hcm, ?_, ?_⟩
  · have e1 : (cur.toList.take (j * x.length) ++ x ++ cur.toList.drop (j * x.length + x.length)).length = cur.size := by
      simp only [List.length_append, List.length_take, List.length_drop, Array.length_toList]
      omega
    rw [List.size_toArray, e1, hcs]
  · rw [List.toList_toArray, htake]
    have e2 : reps j x ++ x = reps (j + 1) x := by rw [reps_add j 1]; simp [reps]
    rw [e2, ← reps_length (j + 1) x]
    exact List.take_left
theorem MK.zero {w : World} {base : Nat} {e : TypeId} {x : List Value} {ao : Option Addr} {n cap : Nat} {xs : List Value} (h : w.ownsRow base e x.length (.slice ao n cap) n xs) (hnz : ao = none → cap = 0) : MK w base e x (.slice ao 0 cap) 0 := by
  refine ⟨by simp [reps], ?_⟩
  rcases h.2 with ⟨h1, h2⟩ | ⟨g, cap', cur, h1, h3, h4, h5, h6, h7, h8⟩
  · cases h1; exact .inl ⟨rfl, rfl⟩
  · cases h1; exact .inr ⟨g, cap, cur, rfl, h3, h4, Nat.zero_le _, h6, h7, by simp [reps]⟩
theorem owns_slice1 {w : World} {base : Nat} {e : TypeId} {size : Nat} {v : Value} {n : Nat} {xs : List Value} (h : w.ownsRow base e size v n xs) : ∃ ao k cap, v = .slice ao k cap := by
  rcases h.2 with ⟨rfl, _⟩ | ⟨g, cap, cur, rfl, _⟩
  · exact ⟨none, 0, 0, rfl⟩
  · exact ⟨_, _, _, rfl⟩
end Go.Proofs.Ytnnhnekfokbooaa
