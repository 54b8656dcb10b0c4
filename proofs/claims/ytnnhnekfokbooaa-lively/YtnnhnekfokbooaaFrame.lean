/- Frames: what a call leaves of memory: all is as it was but for one block that may be written, and new blocks. -/
import Derived.WalkKit
import Derived.WalkSpells
import Derived.Deep.AppendLies
namespace Go.Proofs.Ytnnhnekfokbooaa
open Go.RowKit

/-- w' is w but for new blocks and for block o; o' is the block that may be written from now on: o itself, or a new one. -/
structure Kp (o o' : Option Nat) (w w' : World) : Prop where
  os : w'.os = w.os
  tape : w'.tape = w.tape
  output : w'.output = w.output
  size : w.heap.size ≤ w'.heap.size
  block : ∀ k, k < w.heap.size → o ≠ some k → w'.heap[k]? = w.heap[k]?
  own : o' = o ∨ ∃ g, o' = some g ∧ w.heap.size ≤ g

theorem Kp.refl (o : Option Nat) (w : World) : Kp o o w w := ⟨rfl, rfl, rfl, Nat.le_refl _, fun _ _ _ => rfl, .inl rfl⟩
theorem Kp.trans {o o1 o2 : Option Nat} {w w1 w2 : World} (h : Kp o o1 w w1) (k : Kp o1 o2 w1 w2) : Kp o o2 w w2 := by
  refine ⟨k.os.trans h.os, k.tape.trans h.tape, k.output.trans h.output, Nat.le_trans h.size k.size, fun b hb hne => ?_, ?_⟩
  · rw [k.block b (Nat.lt_of_lt_of_le hb h.size) ?_, h.block b hb hne]
    rcases h.own with e | ⟨g, e, hg⟩
    · rw [e]; exact hne
    · rw [e]; intro x; injection x with x; omega
  · rcases k.own with e | ⟨g, e, hg⟩
    · rw [e]; exact h.own
    · exact .inr ⟨g, e, Nat.le_trans h.size hg⟩
theorem Kp.alloc {o o' : Option Nat} {w w1 : World} (h : Kp o o' w w1) (ob : Obj) : Kp o o' w (w1.alloc ob) :=
  h.trans ⟨rfl, rfl, rfl, by simp, fun k hk _ => Below.heap_alloc _ _ _ hk, .inl rfl⟩
theorem Kp.drew {o o' : Option Nat} {w w1 : World} (h : Kp o o' w w1) : Kp o o' w w1.drew :=
  h.trans ⟨rfl, rfl, rfl, Nat.le_refl _, fun _ _ _ => rfl, .inl rfl⟩
theorem Kp.below {o o' : Option Nat} {w w1 w2 : World} (h : Kp o o' w w1) (k : Below w1.heap.size w1 w2) : Kp o o' w w2 :=
  h.trans ⟨k.os, k.tape, k.output, k.size, fun b hb _ => k.block b hb, .inl rfl⟩
theorem Kp.setCell {o o' : Option Nat} {w w1 : World} (h : Kp o o' w w1) {a : Addr} (ha : o' = some a.block ∨ w.heap.size ≤ a.block) (u : Value) : Kp o o' w (w1.setCell a u) := by
  refine ⟨h.os, h.tape, h.output, by have := h.size; simpa [World.setCell] using this, fun b hb hne => ?_, h.own⟩
  rw [Below.heap_setCell _ _ _ _ ?_, h.block b hb hne]
  intro e
  rcases ha with ha | ha
  · rcases h.own with e' | ⟨g, e', hg⟩
    · rw [e'] at ha; exact hne (by rw [ha, e])
    · rw [e'] at ha; injection ha with ha; omega
  · omega
theorem Kp.setR {o : Option Nat} {r : Nat} {w w1 : World} (h : Kp o (some r) w w1) (k : Nat) (u : Value) : Kp o (some r) w (w1.setCell ⟨r, k, none⟩ u) :=
  h.setCell (a := ⟨r, k, none⟩) (.inl rfl) u
theorem Kp.toBelow {o o' : Option Nat} {w w' : World} (h : Kp o o' w w') {B : Nat} (hB : B ≤ w.heap.size) (ho : ∀ k, o = some k → B ≤ k) : Below B w w' :=
  ⟨h.os, h.tape, h.output, h.size, fun k hk => h.block k (by omega) (fun e => by have := ho k e; omega)⟩
theorem Kp.ofBelow {o : Option Nat} {w w' : World} (h : Below w.heap.size w w') : Kp o o w w' := (Kp.refl o w).below h
theorem Kp.cell {o o' : Option Nat} {w w' : World} (h : Kp o o' w w') {b off : Nat} (hb : b < w.heap.size) (hne : o ≠ some b) : w'.cell? ⟨b, off, none⟩ = w.cell? ⟨b, off, none⟩ :=
  World.cell?_of_block (w := w) (h.block b hb hne)
theorem Kp.frozen {o o' : Option Nat} {w w' : World} (h : Kp o o' w w') {b off : Nat} (hb : b < w.heap.size) (hne : o ≠ some b) : w'.frozen? ⟨b, off, none⟩ = w.frozen? ⟨b, off, none⟩ :=
  World.frozen?_of_block (w := w) (h.block b hb hne)
/-- Behind an append: the row written is the value's own; the new value lies there or in a new block. -/
theorem Kp.grown {o o' : Option Nat} {w w1 w2 : World} (h : Kp o o' w w1) {g H : Nat} (hg : w1.grownBy w2 o') (hat : o' = some g ∨ g = H) (hH : w1.heap.size = H) : Kp o (some g) w w2 :=
  h.trans ⟨hg.os, hg.tape, hg.output, hg.size, fun k hk hne => hg.block k hk (fun e => hne e.symm), by
    rcases hat with e | e
    · exact .inl e.symm
    · exact .inr ⟨g, rfl, by omega⟩⟩

/-- Behind an append to a row that is new since w. -/
theorem Kp.grownNew {o o' : Option Nat} {w w1 w2 : World} (h : Kp o o' w w1) {row : Option Nat} (hg : w1.grownBy w2 row) (hrow : ∀ k, row = some k → w.heap.size ≤ k) : Kp o o' w w2 :=
  ⟨hg.os.trans h.os, hg.tape.trans h.tape, hg.output.trans h.output, Nat.le_trans h.size hg.size, fun k hk hne => by
    rw [hg.block k (Nat.lt_of_lt_of_le hk h.size) (fun e => by have := hrow k e.symm; omega), h.block k hk hne], h.own⟩
theorem news_new (W : World) (n : Nat) (hn : W.heap.size = n) (cs : Array Value) (t : TypeId) : ∀ j u, cs.toList[j]? = some u → (W.alloc (.cells cs t)).cell? ((⟨n, 0, none⟩ : Addr).add j) = some u := by
  subst hn; exact World.news_of_block (heap_alloc_new W _)
theorem blk_grown {w w' : World} {row : Option Nat} (h : w.grownBy w' row) {b : Nat} {ob : Obj} (hb : w.heap[b]? = some ob) (hne : row ≠ some b) : w'.heap[b]? = some ob := by
  rw [h.block b (lt_of_block hb) (fun e => hne e.symm)]; exact hb

theorem bcell {W w1 : World} (hb : Below W.heap.size W w1) : (∀ b o, b < W.heap.size → w1.cell? ⟨b, o, none⟩ = W.cell? ⟨b, o, none⟩) ∧ (∀ b o, b < W.heap.size → w1.frozen? ⟨b, o, none⟩ = W.frozen? ⟨b, o, none⟩) :=
  ⟨fun b o h => hb.cell (p := ⟨b, o, none⟩) h, fun b o h => hb.frozen (p := ⟨b, o, none⟩) h⟩

/-! A block that is known whole: its cells, that they may be written, what it is behind a store. -/
theorem blk_cell {w : World} {b : Nat} {cs : Array Value} {t : TypeId} (h : w.heap[b]? = some (.cells cs t (0, 0))) (k : Nat) : w.cell? ⟨b, k, none⟩ = cs[k]? := by simp [World.cell?, h]
theorem blk_free {w : World} {b : Nat} {cs : Array Value} {t : TypeId} (h : w.heap[b]? = some (.cells cs t (0, 0))) (k : Nat) : w.frozen? ⟨b, k, none⟩ = false := by simp [World.frozen?, h]
theorem blk_set {w : World} {b : Nat} {cs : Array Value} {t : TypeId} (h : w.heap[b]? = some (.cells cs t (0, 0))) (k : Nat) (u : Value) :
    (w.setCell ⟨b, k, none⟩ u).heap[b]? = some (.cells (cs.setIfInBounds k u) t (0, 0)) := by
  have hlt := lt_of_block h
  have h' : w.heap[b] = .cells cs t (0, 0) := by simpa [Array.getElem?_eq_getElem hlt] using h
  show (w.heap.modify b _)[b]? = _
  rw [Array.getElem?_eq_getElem (by simpa using hlt), Array.getElem_modify_self, h']
  rfl
theorem blk_set_other {w : World} {b : Nat} {ob : Obj} (h : w.heap[b]? = some ob) {a : Addr} (ha : b ≠ a.block) (u : Value) : (w.setCell a u).heap[b]? = some ob := by
  rw [Below.heap_setCell _ _ _ _ ha]; exact h
theorem blk_alloc {w : World} {b : Nat} {ob : Obj} (h : w.heap[b]? = some ob) (o : Obj) : (w.alloc o).heap[b]? = some ob := by
  rw [Below.heap_alloc _ _ _ (lt_of_block h)]; exact h
theorem blk_new (w : World) (o : Obj) : (w.alloc o).heap[w.heap.size]? = some o := heap_alloc_new w o
theorem blk_kp {o o' : Option Nat} {w w' : World} (h : Kp o o' w w') {b : Nat} {ob : Obj} (hb : w.heap[b]? = some ob) (hne : o ≠ some b) : w'.heap[b]? = some ob := by
  rw [h.block b (lt_of_block hb) hne]; exact hb
theorem blk_below {w w' : World} (h : Below w.heap.size w w') {b : Nat} {ob : Obj} (hb : w.heap[b]? = some ob) : w'.heap[b]? = some ob := by
  rw [h.block b (lt_of_block hb)]; exact hb
end Go.Proofs.Ytnnhnekfokbooaa
