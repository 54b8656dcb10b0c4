/- Tk, Plain, Frame, CodeA, Marks, Data, Keep, CodeB -/
import Derived.OrdersHeld
import Derived.Deep.RegionHeld
import Derived.WalkKit
import Derived.WalkSpells
import Derived.Deep.AppendLies
import Derived.Test.YtnnhnekfokbooaaGreatDoorChecked
import Derived.WalkLawsBesides
import Derived.BigQuiet
import Derived.Maps.AppendAt
import Derived.Test.YtnnhnekfokbooaaGreatDoorRows
import Derived.Deep.MidRow
set_option linter.unusedSimpArgs false
set_option linter.unusedVariables false
set_option maxRecDepth 100000
namespace Go.Proofs.YtnnhnekfokbooaaGreatDoor
section
open Go.RowKit
theorem ly : (∀ (a : Act) (d : Tmp) (v : Value), a.put (some d) v = { a with tmps := a.tmps.setIfInBounds d v }) ∧ (∀ (a : Act) (v : Value), a.put none v = a) ∧ (∀ (α : Type) (l : List α) (i : Nat) (h : i < l.toArray.size), l.toArray[i] = l[i]'(by simpa using h)) ∧ (∀ (α : Type) (x : α) (l : List α) (h : 0 < (x :: l).length), (x :: l)[0] = x) ∧ (∀ (α : Type) (x : α) (l : List α) (i : Nat) (h : i + 1 < (x :: l).length), (x :: l)[i + 1] = l[i]'(by simpa using h)) ∧
  (∀ (α : Type) (l : List α) (i : Nat) (x : α), l.toArray.setIfInBounds i x = (l.set i x).toArray) ∧ (∀ (α : Type) (x y : α) (l : List α), (x :: l).set 0 y = y :: l) ∧ (∀ (α : Type) (x y : α) (l : List α) (i : Nat), (x :: l).set (i + 1) y = x :: l.set i y) :=
 ⟨fun _ _ _ => rfl, fun _ _ => rfl, fun _ _ _ _ => rfl, fun _ _ _ _ => rfl, fun _ _ _ _ _ => rfl, fun _ _ _ _ => List.setIfInBounds_toArray .., fun _ _ _ _ => rfl, fun _ _ _ _ _ => rfl⟩
abbrev I6 (n : Int) : Value := Value.int IntKind.i64 n
abbrev A6 (b o : Nat) : Addr := { block := b, off := o, spot := none }
abbrev P6 (b : Nat) : Value := Value.pointer (some { block := b, off := 0, spot := none })
section
variable {P : Program} {ops : Array Oper} {Q : Exit → Act → World → Prop} {md : Region.Mode} {S : World → Prop}
theorem tk (i : Nat) {oi : Oper} {v : Value} {fuel : Nat} {listed : Array Bool} {a : Act} {w : World} (hi : ops[i]? = some oi) (hS : S w) (hy : ∀ w, S w → (execOp a.eval oi).run P w = .ok (.value v) w)
  (h : wpAnyH P md ops Q S fuel (listed.setIfInBounds i true) (a.put oi.dst v) w) (hs : Region.noSelect ops = true := by kernel_rfl) (hf : Region.free md ops listed i = true := by kernel_rfl) (hr : (Region.ready md ops listed).contains i = true := by kernel_rfl)
  (hw : Region.wanted oi (yielded ops a.tmps) = true := by kernel_rfl) (hQ : ∀ c a w, Q (.panic c) (a.put oi.dst v) w → Q (.panic c) a w := by exact fun _ _ _ h => h) : wpAnyH P md ops Q S (fuel + 1) listed a w :=
 wpAnyH_take (i := i) hi hs hf hr hQ (Or.inl ⟨hw, hy⟩) hS h
theorem tn (i : Nat) {oi : Oper} {fuel : Nat} {listed : Array Bool} {a : Act} {w : World} (hi : ops[i]? = some oi) (hS : S w)
  (h : wpAnyH P md ops Q S fuel (listed.setIfInBounds i true) (a.put oi.dst undef) w) (hs : Region.noSelect ops = true := by kernel_rfl) (hf : Region.free md ops listed i = true := by kernel_rfl) (hr : (Region.ready md ops listed).contains i = true := by kernel_rfl)
  (hw : Region.wanted oi (yielded ops a.tmps) = false := by kernel_rfl) (hQ : ∀ c a w, Q (.panic c) (a.put oi.dst undef) w → Q (.panic c) a w := by exact fun _ _ _ h => h) : wpAnyH P md ops Q S (fuel + 1) listed a w :=
 wpAnyH_take (i := i) (v := undef) hi hs hf hr hQ (Or.inr ⟨hw, rfl⟩) hS h
theorem r1 (i : Nat) {o : Oper} {fuel : Nat} {listed : Array Bool} {a : Act} {w : World} (ho : ops[i]? = some o)
  (h : ∀ K' : Act → World → Prop, Shut (∀ a w, S w → (S w → wpAnyH P md ops Q S fuel (listed.setIfInBounds i true) a w) → K' a w) → if Region.wanted o (yielded ops a.tmps) = true then Oper.wp P o a w K' Q else K' (a.put o.dst undef) w)
  (hr : Region.ready md ops listed = [i] := by kernel_rfl) : wpAnyH P md ops Q S (fuel + 1) listed a w :=
 wpAnyH_ready hr (List.cons_ne_nil _ _) (AllReadyH.cons ho h AllReadyH.nil)
theorem dn {listed : Array Bool} {a : Act} {w : World} (h : Q .normal a w) (n : Nat) (hr : Region.ready md ops listed = [] := by kernel_rfl) : wpAnyH P md ops Q S n listed a w := wpAnyH_done hr h n
end
end
section
open Go.RowKit
structure Pst where
 c : Int
 q : Int
 h : Int
 t : ByteArray
def Pst.cells (p : Pst) : List Value := [I6 p.c, I6 p.q, I6 p.h, .string p.t]
def withinB (n a b : Int) : Bool := decide (a ≤ n) && decide (n ≤ b)
theorem withinB_true {n a b : Int} (h : withinB n a b = true) : a ≤ n ∧ n ≤ b := by
 unfold withinB at h; simpa using h
theorem withinB_mk {n a b : Int} (h : a ≤ n) (h' : n ≤ b) : withinB n a b = true := by
 unfold withinB; simp [h, h']
theorem withinB_false {n a b : Int} (h : withinB n a b = false) : n < a ∨ b < n := by
 unfold withinB at h; simp at h; omega
def nothingB (p : Pst) : Bool := p.c == 0 && p.q == 0 && p.h == 0 && p.t.toList.isEmpty
def rightPostB (p : Pst) : Bool := withinB p.c 1 9 && withinB p.q 1 1000 && withinB p.h 0 3 && decide ((p.t.size : Int) ≤ 12)
def rightValueB (p : Pst) : Bool := nothingB p || rightPostB p
end
section
open Go.RowKit
structure Kp (o o' : Option Nat) (w w' : World) : Prop where
 os : w'.os = w.os
 tape : w'.tape = w.tape
 output : w'.output = w.output
 size : w.heap.size ≤ w'.heap.size
 block : ∀ k, k < w.heap.size → o ≠ some k → w'.heap[k]? = w.heap[k]?
 own : o' = o ∨ ∃ g, o' = some g ∧ w.heap.size ≤ g
theorem Kp.refl (o : Option Nat) (w : World) : Kp o o w w := ⟨rfl, rfl, rfl, Nat.le_refl _, fun _ _ _ => rfl, .inl rfl⟩
theorem Kp.trans {o o1 o2 : Option Nat} {w w1 w2 : World} (h : Kp o o1 w w1) (k : Kp o1 o2 w1 w2) : Kp o o2 w w2 := by
 refine ⟨k.os.trans h.os, k.tape.trans h.tape, k.output.trans h.output, Nat.le_trans h.size k.size, fun b hb hne => ?_, ?_⟩
 ·rw [k.block b (Nat.lt_of_lt_of_le hb h.size) ?_, h.block b hb hne]
  rcases h.own with e | ⟨g, e, hg⟩
  ·rw [e]; exact hne
  ·rw [e]; intro x; injection x with x; omega
 ·rcases k.own with e | ⟨g, e, hg⟩
  ·rw [e]; exact h.own
  ·exact .inr ⟨g, e, Nat.le_trans h.size hg⟩
theorem Kp.alloc {o o' : Option Nat} {w w1 : World} (h : Kp o o' w w1) (ob : Obj) : Kp o o' w (w1.alloc ob) :=
 h.trans ⟨rfl, rfl, rfl, by simp, fun k hk _ => Below.heap_alloc _ _ _ hk, .inl rfl⟩
theorem Kp.drew {o o' : Option Nat} {w w1 : World} (h : Kp o o' w w1) : Kp o o' w w1.drew :=
 h.trans ⟨rfl, rfl, rfl, Nat.le_refl _, fun _ _ _ => rfl, .inl rfl⟩
theorem Kp.below {o o' : Option Nat} {w w1 w2 : World} (h : Kp o o' w w1) (k : Below w1.heap.size w1 w2) : Kp o o' w w2 :=
 h.trans ⟨k.os, k.tape, k.output, k.size, fun b hb _ => k.block b hb, .inl rfl⟩
theorem Kp.setCell {o o' : Option Nat} {w w1 : World} (h : Kp o o' w w1) {a : Addr} (ha : o' = some a.block ∨ w.heap.size ≤ a.block) (u : Value) : Kp o o' w (w1.setCell a u) := by
 refine ⟨h.os, h.tape, h.output, by have := h.size; simpa [World.setCell] using this, fun b hb hne => ?_, h.own⟩
 rw [Below.heap_setCell _ _ _ _ ?_, h.block b hb hne]
 intro e
 rcases ha with ha | ha
 ·rcases h.own with e' | ⟨g, e', hg⟩
  ·rw [e'] at ha; exact hne (by rw [ha, e])
  ·rw [e'] at ha; injection ha with ha; omega
 ·omega
theorem Kp.setR {o : Option Nat} {r : Nat} {w w1 : World} (h : Kp o (some r) w w1) (k : Nat) (u : Value) : Kp o (some r) w (w1.setCell (A6 r k) u) :=
 h.setCell (a := (A6 r k)) (.inl rfl) u
theorem Kp.toBelow {o o' : Option Nat} {w w' : World} (h : Kp o o' w w') {B : Nat} (hB : B ≤ w.heap.size) (ho : ∀ k, o = some k → B ≤ k) : Below B w w' :=
 ⟨h.os, h.tape, h.output, h.size, fun k hk => h.block k (by omega) (fun e => by have := ho k e; omega)⟩
theorem Kp.ofBelow {o : Option Nat} {w w' : World} (h : Below w.heap.size w w') : Kp o o w w' := (Kp.refl o w).below h
theorem Kp.cell {o o' : Option Nat} {w w' : World} (h : Kp o o' w w') {b off : Nat} (hb : b < w.heap.size) (hne : o ≠ some b) : w'.cell? (A6 b off) = w.cell? (A6 b off) :=
 World.cell?_of_block (w := w) (h.block b hb hne)
theorem Kp.frozen {o o' : Option Nat} {w w' : World} (h : Kp o o' w w') {b off : Nat} (hb : b < w.heap.size) (hne : o ≠ some b) : w'.frozen? (A6 b off) = w.frozen? (A6 b off) :=
 World.frozen?_of_block (w := w) (h.block b hb hne)
theorem Kp.grown {o o' : Option Nat} {w w1 w2 : World} (h : Kp o o' w w1) {g H : Nat} (hg : w1.grownBy w2 o') (hat : o' = some g ∨ g = H) (hH : w1.heap.size = H) : Kp o (some g) w w2 :=
 h.trans ⟨hg.os, hg.tape, hg.output, hg.size, fun k hk hne => hg.block k hk (fun e => hne e.symm), by
  rcases hat with e | e
  ·exact .inl e.symm
  ·exact .inr ⟨g, rfl, by omega⟩⟩
theorem Kp.grownNew {o o' : Option Nat} {w w1 w2 : World} (h : Kp o o' w w1) {row : Option Nat} (hg : w1.grownBy w2 row) (hrow : ∀ k, row = some k → w.heap.size ≤ k) : Kp o o' w w2 :=
 ⟨hg.os.trans h.os, hg.tape.trans h.tape, hg.output.trans h.output, Nat.le_trans h.size hg.size, fun k hk hne => by
  rw [hg.block k (Nat.lt_of_lt_of_le hk h.size) (fun e => by have := hrow k e.symm; omega), h.block k hk hne], h.own⟩
theorem news_new (W : World) (n : Nat) (hn : W.heap.size = n) (cs : Array Value) (t : TypeId) : ∀ j u, cs.toList[j]? = some u → (W.alloc (.cells cs t)).cell? (((A6 n 0) : Addr).add j) = some u := by
 subst hn; exact World.news_of_block (heap_alloc_new W _)
theorem blk_grown {w w' : World} {row : Option Nat} (h : w.grownBy w' row) {b : Nat} {ob : Obj} (hb : w.heap[b]? = some ob) (hne : row ≠ some b) : w'.heap[b]? = some ob := by
 rw [h.block b (lt_of_block hb) (fun e => hne e.symm)]; exact hb
theorem bcell {W w1 : World} (hb : Below W.heap.size W w1) : (∀ b o, b < W.heap.size → w1.cell? (A6 b o) = W.cell? (A6 b o)) ∧ (∀ b o, b < W.heap.size → w1.frozen? (A6 b o) = W.frozen? (A6 b o)) :=
 ⟨fun b o h => hb.cell (p := (A6 b o)) h, fun b o h => hb.frozen (p := (A6 b o)) h⟩
theorem blk_cell {w : World} {b : Nat} {cs : Array Value} {t : TypeId} (h : w.heap[b]? = some (.cells cs t (0, 0))) (k : Nat) : w.cell? (A6 b k) = cs[k]? := by simp [World.cell?, h]
theorem blk_free {w : World} {b : Nat} {cs : Array Value} {t : TypeId} (h : w.heap[b]? = some (.cells cs t (0, 0))) (k : Nat) : w.frozen? (A6 b k) = false := by simp [World.frozen?, h]
theorem blk_set {w : World} {b : Nat} {cs : Array Value} {t : TypeId} (h : w.heap[b]? = some (.cells cs t (0, 0))) (k : Nat) (u : Value) :
  (w.setCell (A6 b k) u).heap[b]? = some (.cells (cs.setIfInBounds k u) t (0, 0)) := by
 have hlt := lt_of_block h
 have h' : w.heap[b] = .cells cs t (0, 0) := by simpa [Array.getElem?_eq_getElem hlt] using h
 show (w.heap.modify b _)[b]? = _
 rw [Array.getElem?_eq_getElem (by simpa using hlt), Array.getElem_modify_self, h']
 rfl
theorem blk_set_other {w : World} {b : Nat} {ob : Obj} (h : w.heap[b]? = some ob) {a : Addr} (ha : b ≠ a.block) (u : Value) : (w.setCell a u).heap[b]? = some ob := by
 rw [Below.heap_setCell _ _ _ _ ha]; exact h
theorem blk_alloc {w : World} {b : Nat} {ob : Obj} (h : w.heap[b]? = some ob) (o : Obj) : (w.alloc o).heap[b]? = some ob := by
 rw [Below.heap_alloc _ _ _ (lt_of_block h)]; exact h
theorem blk_new (w : World) (o : Obj) : (w.alloc o).heap[w.heap.size]? = some o := heap_alloc_new w o
theorem blk_kp {o o' : Option Nat} {w w' : World} (h : Kp o o' w w') {b : Nat} {ob : Obj} (hb : w.heap[b]? = some ob) (hne : o ≠ some b) : w'.heap[b]? = some ob := by
 rw [h.block b (lt_of_block hb) hne]; exact hb
theorem blk_below {w w' : World} (h : Below w.heap.size w w') {b : Nat} {ob : Obj} (hb : w.heap[b]? = some ob) : w'.heap[b]? = some ob := by
 rw [h.block b (lt_of_block hb)]; exact hb
end
section
open Go.RowKit
theorem add_any (b o r : Nat) (x : Bool) (c : Int) (w : World) (hr : r < 7) (hx : w.cell? (A6 b (o + r)) = some (.bool x)) (hc : w.cell? (A6 b (o + 7)) = some (I6 c)) (hf : ∀ k, w.frozen? (A6 b k) = false) (hc0 : 0 ≤ c) (hc1 : c ≤ 1000) :
  Calls Tryz.prog 129 #[.pointer (some (A6 b o)), I6 (r : Int)] w fun e w' => e = .returned (.bool (!x)) ∧ w' = if x then w else (w.setCell (A6 b (o + r)) (.bool true)).setCell (A6 b (o + 7)) (I6 (c + 1)) := by
 have r0 : (0 : Int) ≤ (r : Int) := by omega
 have r1 : (r : Int) < 7 := by omega
 have hne : ¬ r = 7 := by omega
 cases x
 ·go_enter Tryz.func129, Tryz.ntmps129
  go_wp2
  go_ret
  exact ⟨rfl, rfl⟩
 ·go_enter Tryz.func129, Tryz.ntmps129
  go_wp2
  go_ret
  exact ⟨rfl, rfl⟩
theorem majority_any (b o : Nat) (c n : Int) (w : World) (hc : w.cell? (A6 b (o + 7)) = some (I6 c)) (hc0 : 0 ≤ c) (hc1 : c ≤ 1000) :
  Calls Tryz.prog 131 #[.pointer (some (A6 b o)), I6 n] w fun e w' => e = .returned (.bool (decide (n < 2 * c))) ∧ w' = w := by
 go_enter Tryz.func131, Tryz.ntmps131
 go_wp2
 go_ret
 exact ⟨rfl, rfl⟩
theorem below_any (k b n : Int) (w : World) :
  Calls Tryz.prog 159 #[.agg #[I6 k, I6 b], I6 n] w fun e w' => e = .returned (.bool (decide (b < n))) ∧ Below w.heap.size w w' := by
 go_enter Tryz.func159, Tryz.ntmps159
 go_wp2
 go_ret
 exact ⟨rfl, (Below.refl _ w).alloc (Nat.le_refl _) _⟩
theorem sameName_any (c q h : Int) (t : ByteArray) (c' q' h' : Int) (t' : ByteArray) (w : World) :
  Calls Tryz.prog 122 #[.agg #[I6 c, I6 q, I6 h, .string t], .agg #[I6 c', I6 q', I6 h', .string t']] w fun e w' => e = .returned (.bool (c == c' && q == q')) ∧ Below w.heap.size w w' := by
 cases hc : (c == c')
 ·go_enter Tryz.func122, Tryz.ntmps122
  go_wp2
  go_ret
  exact ⟨rfl, ((Below.refl _ w).alloc (Nat.le_refl _) _).alloc (by simp) _⟩
 ·go_enter Tryz.func122, Tryz.ntmps122
  go_wp2
  go_ret
  exact ⟨rfl, ((Below.refl _ w).alloc (Nat.le_refl _) _).alloc (by simp) _⟩
theorem room_any (b o : Nat) (ao : Option Addr) (n cap : Nat) (k : Int) (w : World) (hc : w.cell? (A6 b o) = some (.slice ao n cap)) (hn : n ≤ 1000) (hk0 : 0 ≤ k) (hk1 : k ≤ 1000) :
  Calls Tryz.prog 89 #[.pointer (some (A6 b o)), I6 k] w fun e w' => e = .returned (.bool (decide ((n : Int) + k ≤ 200))) ∧ w' = w := by
 go_enter Tryz.func89, Tryz.ntmps89
 go_wp2
 go_ret
 exact ⟨rfl, rfl⟩
end
section
open Go.RowKit
def reps : Nat → List Value → List Value
 | 0, _ => []
 | n + 1, x => x ++ reps n x
theorem reps_length (n : Nat) (x : List Value) : (reps n x).length = n * x.length := by
 induction n with
 | zero => simp [reps]
 | succ n ih => rw [reps, List.length_append, ih, Nat.succ_mul, Nat.add_comm]
theorem reps_add (a b : Nat) (x : List Value) : reps (a + b) x = reps a x ++ reps b x := by
 induction a with
 | zero => simp [reps]
 | succ a ih => rw [Nat.succ_add, reps, reps, ih, List.append_assoc]
theorem reps_take (n k : Nat) (x : List Value) (h : k ≤ n) : (reps n x).take (k * x.length) = reps k x := by
 obtain ⟨d, rfl⟩ := Nat.exists_eq_add_of_le h
 rw [reps_add, ← reps_length k x]
 exact List.take_left
theorem reps_drop (n k : Nat) (x : List Value) (h : k ≤ n) : (reps n x).drop (k * x.length) = reps (n - k) x := by
 obtain ⟨d, rfl⟩ := Nat.exists_eq_add_of_le h
 rw [reps_add, ← reps_length k x, Nat.add_sub_cancel_left]
 exact List.drop_left
theorem reps_at (n : Nat) (x : List Value) : ∀ (k : Nat) (_ : k < n) (i : Nat) (_ : i < x.length), (reps n x)[k * x.length + i]? = x[i]? := by
 induction n with
 | zero => intro k hk; omega
 | succ n ih =>
  intro k hk i hi
  rw [reps]
  rcases k with _ | k
  ·rw [Nat.zero_mul, Nat.zero_add, List.getElem?_append_left hi]
  ·rw [List.getElem?_append_right (by rw [Nat.succ_mul]; omega)]
   have e : (k + 1) * x.length + i - x.length = k * x.length + i := by rw [Nat.succ_mul]; omega
   rw [e]
   exact ih k (by omega) i hi
theorem reps_mem {n : Nat} {x : List Value} {u : Value} (h : u ∈ reps n x) : u ∈ x := by
 induction n with
 | zero => simp [reps] at h
 | succ n ih =>
  rw [reps, List.mem_append] at h
  rcases h with h | h
  ·exact h
  ·exact ih h
def MK (w : World) (base : Nat) (e : TypeId) (x : List Value) (u : Value) (k : Nat) : Prop := w.ownsRow base e x.length u k (reps k x)
theorem owns_grown {w w' : World} {base : Nat} {e : TypeId} {size : Nat} {v : Value} {n : Nat} {xs : List Value} {row : Option Nat} (h : w.ownsRow base e size v n xs) (hg : w.grownBy w' row) (hne : ∀ g, v.ownBlock = some g → row ≠ some g) : w'.ownsRow base e size v n xs := by
 refine ⟨h.1, ?_⟩
 rcases h.2 with h2 | ⟨g, cap, cur, rfl, h3, h4, h5⟩
 ·exact .inl h2
 ·exact .inr ⟨g, cap, cur, rfl, h3, blk_grown hg h4 (hne g rfl), h5⟩
theorem owns_below {w w' : World} {base : Nat} {e : TypeId} {size : Nat} {v : Value} {n : Nat} {xs : List Value} (h : w.ownsRow base e size v n xs) (hb : Below w.heap.size w w') : w'.ownsRow base e size v n xs := by
 refine ⟨h.1, ?_⟩
 rcases h.2 with h2 | ⟨g, cap, cur, rfl, h3, h4, h5⟩
 ·exact .inl h2
 ·exact .inr ⟨g, cap, cur, rfl, h3, blk_below hb h4, h5⟩
theorem owns_set {w : World} {base : Nat} {e : TypeId} {size : Nat} {v : Value} {n : Nat} {xs : List Value} (h : w.ownsRow base e size v n xs) {a : Addr} (hne : v.ownBlock ≠ some a.block) (u : Value) : (w.setCell a u).ownsRow base e size v n xs := by
 refine ⟨h.1, ?_⟩
 rcases h.2 with h2 | ⟨g, cap, cur, rfl, h3, h4, h5⟩
 ·exact .inl h2
 ·exact .inr ⟨g, cap, cur, rfl, h3, blk_set_other h4 (fun e => hne (by simp [Value.ownBlock, e])) u, h5⟩
theorem owns_alloc {w : World} {base : Nat} {e : TypeId} {size : Nat} {v : Value} {n : Nat} {xs : List Value} (h : w.ownsRow base e size v n xs) (o : Obj) : (w.alloc o).ownsRow base e size v n xs :=
 owns_below h ((Below.refl _ w).alloc (Nat.le_refl _) o)
theorem owns_base {w : World} {base b' : Nat} {e : TypeId} {size : Nat} {v : Value} {n : Nat} {xs : List Value} (h : w.ownsRow base e size v n xs) (hb : b' ≤ base) : w.ownsRow b' e size v n xs := by
 refine ⟨h.1, ?_⟩
 rcases h.2 with h2 | ⟨g, cap, cur, rfl, h3, h4, h5⟩
 ·exact .inl h2
 ·exact .inr ⟨g, cap, cur, rfl, by omega, h4, h5⟩
theorem owns_apart {w : World} {base b' : Nat} {e e' : TypeId} {size size' : Nat} {v v' : Value} {n n' : Nat} {xs xs' : List Value} (h : w.ownsRow base e size v n xs) (h' : w.ownsRow b' e' size' v' n' xs') (hne : e ≠ e') {g : Nat} (hv : v.ownBlock = some g) : v'.ownBlock ≠ some g := by
 intro hv'
 rcases h.2 with ⟨rfl, _⟩ | ⟨g1, cap, cur, rfl, _, h4, _⟩
 ·simp [Value.ownBlock] at hv
 ·rcases h'.2 with ⟨rfl, _⟩ | ⟨g2, cap2, cur2, rfl, _, h5, _⟩
  ·simp [Value.ownBlock] at hv'
  ·simp only [Value.ownBlock, Option.some.injEq] at hv hv'
   subst hv hv'
   rw [h4] at h5
   simp at h5
   exact hne h5.2
theorem owns_not_block {w : World} {base : Nat} {e t : TypeId} {size : Nat} {v : Value} {n : Nat} {xs : List Value} (h : w.ownsRow base e size v n xs) {b : Nat} {cs : Array Value} {fz : Nat × Nat} (hb : w.heap[b]? = some (.cells cs t fz)) (hne : e ≠ t) : v.ownBlock ≠ some b := by
 intro hv
 rcases h.2 with ⟨rfl, _⟩ | ⟨g1, cap, cur, rfl, _, h4, _⟩
 ·simp [Value.ownBlock] at hv
 ·simp only [Value.ownBlock, Option.some.injEq] at hv
  subst hv
  rw [hb] at h4
  simp at h4
  exact hne h4.2.1.symm
section
variable {P : Program} (w : World)
theorem run_append_mark (t ty : TypeId) (base : Nat) (e : TypeId) (i : TypeInfo) (z : Value) (x : List Value) (bytes : Nat) (ht : P.underlying t = some (.slice e)) (hi : P.info? e = some i) (hz : i.zero = some z)
  (hsize : i.size = x.length) (hby : i.bytes = bytes) (hzs : z.cells.size = x.length) (hsz : 0 < x.length)
  (v : Value) (n : Nat) (hown : MK w base e x v n)
  (ad : Addr) (m c : Nat) (hnews : ∀ j u, (reps m x)[j]? = some u → w.cell? (ad.add j) = some u) (h1 : ∀ u ∈ x, u.oneCell' = true)
  (hm : 0 < m) (h63 : n + m ≤ maxLen) (hbytes : (n + m) * bytes ≤ 140737488355328) (hbase : base ≤ w.heap.size) :
  ∃ g cap w', (Builtin.append_ #[t, t] ty #[v, .slice (some ad) m c]).run P w = .ok (.slice (some (A6 g 0)) (n + m) cap) w' ∧
   MK w' base e x (.slice (some (A6 g 0)) (n + m) cap) (n + m) ∧ w.grownBy w' v.ownBlock ∧ (v.ownBlock = some g ∨ g = w.heap.size) ∧ g < w'.heap.size ∧ (∀ u k, MK w base e x u k → MK w' base e x u k) := by
 subst hby
 have hsmall : n + m ≤ 9223372036854775807 := by simp only [maxLen] at h63; omega
 have hl : (reps m x).length = m * i.size := by rw [hsize]; exact reps_length m x
 have h1' : ∀ u ∈ reps m x, u.oneCell' = true := fun u hu => h1 u (reps_mem hu)
 have grown : ∀ (old : Nat), old < n + m → ∀ (row : Option Nat),
   MK (w.drew.alloc (.cells ((reps n x).toArray ++ (reps m x).toArray ++ Builtin.zeroCells z.cells (grownCap w (n + m) old e - (n + m))) e)) base e x
    (.slice (some (A6 w.heap.size 0)) (n + m) (grownCap w (n + m) old e)) (n + m) ∧
   w.grownBy (w.drew.alloc (.cells ((reps n x).toArray ++ (reps m x).toArray ++ Builtin.zeroCells z.cells (grownCap w (n + m) old e - (n + m))) e)) row ∧
   (∀ u k, MK w base e x u k → MK (w.drew.alloc (.cells ((reps n x).toArray ++ (reps m x).toArray ++ Builtin.zeroCells z.cells (grownCap w (n + m) old e - (n + m))) e)) base e x u k) := by
  intro old ho row
  have hge := grownCap_ge w (n + m) old e
  have hcm : grownCap w (n + m) old e ≤ maxLen := grownCap_le_maxLen w (n + m) old e h63
  refine ⟨⟨reps_length _ _, .inr ⟨w.heap.size, _, _, rfl, hbase, heap_alloc_new w.drew _, hge, hcm, ?_, ?_⟩⟩, ⟨rfl, rfl, rfl, by simp, fun k hk _ => Below.heap_alloc w.drew _ k hk⟩, fun u k hu => ?_⟩
  ·simp only [Array.size_append, List.size_toArray, size_zeroCells, hzs, reps_length, ← Nat.add_mul]
   congr 1
   omega
  ·simp only [Array.toList_append, ← reps_add]
   rw [← reps_length (n + m) x]
   exact List.take_left
  ·exact owns_grown (row := none) hu ⟨rfl, rfl, rfl, by simp, fun k hk _ => Below.heap_alloc w.drew _ k hk⟩ (fun _ _ => by simp)
 rcases hown.2 with ⟨rfl, rfl⟩ | ⟨g, cap, cur, rfl, hbg, hg, hnc, hcm, hcs, htake⟩
 ·have hr := run_append_nil (P := P) w t ty e i z ht hi hz ad m c (reps m x) hl hnews (by omega) (by omega) (by have hb := hbytes; simp only [Nat.zero_add] at hb; omega)
  have hgr := grown 0 (by omega) (Value.ownBlock (.slice none 0 0))
  simp only [Nat.zero_add, reps, List.nil_append, Array.empty_append] at hgr ⊢
  exact ⟨_, _, _, hr, hgr.1, hgr.2.1, .inr rfl, by simp, hgr.2.2⟩
 ·by_cases hroom : n + m ≤ cap
  ·have hfit : n * i.size + (reps m x).length ≤ cur.size := by rw [hl, hsize, hcs, ← Nat.add_mul]; exact Nat.mul_le_mul_right _ hroom
   have hr := run_append_room (P := P) w t ty e i ht hi g n cap cur hg ad m c (reps m x) hl hnews h1' hroom hfit
   rw [hsize] at hr hfit
   have hcl : cur.toList.length = cap * x.length := by rw [Array.length_toList]; exact hcs
   have hrow : cur.toList.take (n * x.length) ++ reps m x ++ cur.toList.drop (n * x.length + (reps m x).length) = reps (n + m) x ++ cur.toList.drop ((n + m) * x.length) := by
    rw [htake, ← reps_add, reps_length, Nat.add_mul]
   rw [hrow] at hr
   have hsz' : (reps (n + m) x ++ cur.toList.drop ((n + m) * x.length)).length = cap * x.length := by
    rw [List.length_append, reps_length, List.length_drop, hcl]
    have := Nat.mul_le_mul_right x.length hroom
    omega
   refine ⟨g, cap, _, hr, ⟨reps_length _ _, .inr ⟨g, cap, _, rfl, hbg, setRow_heap w g cur _ e _ hg, hroom, hcm, ?_, ?_⟩⟩, ⟨rfl, rfl, rfl, by simp, fun k _ hk => setRow_other w g k _ (fun e => hk (by simp [Value.ownBlock, e]))⟩, .inl rfl, ?_, fun u k hu => ?_⟩
   ·simpa using hsz'
   ·simp only [List.toList_toArray]
    rw [← reps_length (n + m) x]
    exact List.take_left
   ·have := lt_of_block hg
    simpa using this
   ·refine ⟨hu.1, ?_⟩
    rcases hu.2 with hn | ⟨g2, cap2, cur2, rfl, hb2, hg2, hnc2, hcm2, hcs2, htake2⟩
    ·exact .inl hn
    ·by_cases hgg : g2 = g
     ·subst hgg
      rw [hg] at hg2
      obtain rfl : cur = cur2 := by simpa using hg2
      refine .inr ⟨g2, cap2, _, rfl, hb2, setRow_heap w g2 cur _ e _ hg, hnc2, hcm2, ?_, ?_⟩
      ·have : cap * x.length = cap2 * x.length := by rw [← hcs, ← hcs2]
       rw [← this]; simpa using hsz'
      ·simp only [List.toList_toArray]
       rcases Nat.le_total k (n + m) with hle | hle
       ·rw [List.take_append_of_le_length (by rw [reps_length]; exact Nat.mul_le_mul_right _ hle)]
        exact reps_take _ _ _ hle
       ·rw [List.take_append, List.take_of_length_le (by rw [reps_length]; exact Nat.mul_le_mul_right _ hle), reps_length]
        have h3 : (cur.toList.take (k * x.length)).drop ((n + m) * x.length) = reps (k - (n + m)) x := by rw [htake2]; exact reps_drop _ _ _ hle
        rw [List.drop_take] at h3
        rw [h3, ← reps_add]
        congr 1
        omega
     ·exact .inr ⟨g2, cap2, cur2, rfl, hb2, by rw [setRow_other w g g2 _ hgg]; exact hg2, hnc2, hcm2, hcs2, htake2⟩
  ·have holds : ∀ j u, (reps n x)[j]? = some u → w.cell? (((A6 g 0) : Addr).add j) = some u := World.ownsRow.cells (g := g) hown rfl
   have hr := run_append_grow (P := P) w t ty e i z ht hi hz (A6 g 0) n cap (reps n x) (by rw [hsize]; exact reps_length n x) holds ad m c (reps m x) hl hnews (by omega) (by omega) (growslice_fits (by omega) hbytes)
   have hgr := grown cap (by omega) (Value.ownBlock (.slice (some (A6 g 0)) n cap))
   exact ⟨_, _, _, hr, hgr.1, hgr.2.1, .inr rfl, by simp, hgr.2.2⟩
theorem wpList_append_mark {ops : Array Oper} {rest : List Oper} {o : Oper} {a : Act} {Q : Exit → Act → World → Prop} (hgd : o.guard = none) (s y : Operand) (t : TypeId)
  (ho : o.op = .call { callee := .builtin .append, args := #[s, y], argTypes := #[t, t] })
  (base : Nat) (e : TypeId) (i : TypeInfo) (z : Value) (x : List Value) (bytes : Nat) (ht : P.underlying t = some (.slice e)) (hi : P.info? e = some i) (hz : i.zero = some z)
  (hsize : i.size = x.length) (hby : i.bytes = bytes) (hzs : z.cells.size = x.length) (hsz : 0 < x.length)
  (v : Value) (n : Nat) (hs : a.eval s = v) (hown : MK w base e x v n)
  (ad : Addr) (m c : Nat) (hx : a.eval y = .slice (some ad) m c) (hnews : ∀ j u, (reps m x)[j]? = some u → w.cell? (ad.add j) = some u) (h1 : ∀ u ∈ x, u.oneCell' = true)
  (hm : 0 < m) (h63 : n + m ≤ maxLen) (hbytes : (n + m) * bytes ≤ 140737488355328) (hbase : base ≤ w.heap.size)
  (h : ∀ g cap w', MK w' base e x (.slice (some (A6 g 0)) (n + m) cap) (n + m) → w.grownBy w' v.ownBlock → (v.ownBlock = some g ∨ g = w.heap.size) → g < w'.heap.size → (∀ u k, MK w base e x u k → MK w' base e x u k) →
   wpList P ops Q rest (a.put o.dst (.slice (some (A6 g 0)) (n + m) cap)) w') : wpList P ops Q (o :: rest) a w := by
 refine wpList_plain hgd fun K hK => ?_
 obtain ⟨g, cap, w', hr, h2, h3, h4, h5, h6⟩ := run_append_mark (P := P) w t o.type base e i z x bytes ht hi hz hsize hby hzs hsz v n hown ad m c hnews h1 hm h63 hbytes hbase
 unfold Oper.wp execOp
 simp only [ho, resolve, invoke, builtin, Sem.run_bind, Sem.run_pure, Result.andThen_ok, List.map_toArray, List.map_cons, List.map_nil, hs, hx, hr]
 exact hK _ _ (h g cap w' h2 h3 h4 h5 h6)
end
end
section
open Go.RowKit
structure Vt where
 s : Int
 b : Int
 p : Pst
def Vt.cells (v : Vt) : List Value := [I6 v.s, I6 v.b, I6 v.p.c, I6 v.p.q, I6 v.p.h, .string v.p.t]
def vcells : List Vt → List Value
 | [] => []
 | v :: l => v.cells ++ vcells l
theorem vcells_append (a b : List Vt) : vcells (a ++ b) = vcells a ++ vcells b := by
 induction a with
 | nil => rfl
 | cons x a ih => simp [vcells, ih]
theorem vcells_length (a : List Vt) : (vcells a).length = a.length * 6 := by
 induction a with
 | nil => rfl
 | cons x a ih => simp [vcells, Vt.cells, ih]; omega
structure Ms where
 k : Int
 f : Int
 t : Int
 b : Int
 s : Int
 p : Pst
 a : List Vt
structure VAt (w : World) (v : Value) (l : List Vt) : Prop where
 len : l.length ≤ 4611686018427387903
 form : ∃ ao cap, v = .slice ao l.length cap ∧ (l ≠ [] → ∃ g off, ao = some (A6 g off) ∧ g < w.heap.size ∧ ∀ j u, (vcells l)[j]? = some u → w.cell? (A6 g (off + j)) = some u)
theorem VAt.kp {o o' : Option Nat} {w w' : World} {v : Value} {l : List Vt} (h : VAt w v l) (hk : Kp o o' w w') (ho : ∀ g, v.ownBlock = some g → o ≠ some g) : VAt w' v l := by
 refine ⟨h.len, ?_⟩
 obtain ⟨ao, cap, rfl, hc⟩ := h.form
 refine ⟨ao, cap, rfl, fun hne => ?_⟩
 obtain ⟨g, off, rfl, hg, hcell⟩ := hc hne
 exact ⟨g, off, rfl, Nat.lt_of_lt_of_le hg hk.size, fun j u hu => by rw [hk.cell hg (ho g rfl)]; exact hcell j u hu⟩
theorem VAt.below {w w' : World} {v : Value} {l : List Vt} (h : VAt w v l) (hb : Below w.heap.size w w') : VAt w' v l :=
 h.kp (Kp.ofBelow (o := none) hb) (by simp)
theorem VAt.alloc {w : World} {v : Value} {l : List Vt} (h : VAt w v l) (o : Obj) : VAt (w.alloc o) v l := h.kp ((Kp.refl none w).alloc o) (by simp)
theorem vcells_at : ∀ (l : List Vt) (k : Nat) (hk : k < l.length) (i : Nat) (_ : i < 6), (vcells l)[k * 6 + i]? = (l[k]).cells[i]?
 | v :: l, 0, _, i, hi => by
  have : i < v.cells.length := by simp [Vt.cells]; omega
  simp [vcells, List.getElem?_append_left this]
 | v :: l, k + 1, hk, i, hi => by
  have h1 : (v.cells).length = 6 := rfl
  have h2 : (k + 1) * 6 + i = 6 + (k * 6 + i) := by omega
  rw [h2]
  simp only [vcells]
  rw [List.getElem?_append_right (by omega), h1, Nat.add_sub_cancel_left]
  exact vcells_at l k (by simpa using hk) i hi
theorem owns_vat {w : World} {base : Nat} {v : Value} {l : List Vt} (h : w.ownsRow base 53 6 v l.length (vcells l)) (hl : l.length ≤ 4611686018427387903) : VAt w v l := by
 refine ⟨hl, ?_⟩
 rcases h.2 with ⟨rfl, hn⟩ | ⟨g, cap, cur, rfl, hg, hh, h1, h2, h3, h4⟩
 ·have : l = [] := List.eq_nil_of_length_eq_zero hn
  subst this
  exact ⟨none, 0, rfl, fun h => absurd rfl h⟩
 ·refine ⟨some (A6 g 0), cap, rfl, fun _ => ⟨g, 0, rfl, lt_of_block hh, fun j u hu => ?_⟩⟩
  have := h.cells rfl j u hu
  rw [Nat.zero_add]
  have hadd : ((A6 g 0) : Addr).add j = (A6 g j) := by unfold Addr.add; split <;> simp_all
  rw [← hadd]; exact this
theorem rvat_nil (w : World) : VAt w (.slice none 0 0) [] := ⟨by simp, none, 0, rfl, fun h => absurd rfl h⟩
def mval (m : Ms) (v : Value) : Array Value := #[I6 m.k, I6 m.f, I6 m.t, I6 m.b, I6 m.s, I6 m.p.c, I6 m.p.q, I6 m.p.h, .string m.p.t, v]
theorem vcells_one (l : List Vt) : ∀ u ∈ vcells l, u.oneCell' = true := by
 induction l with
 | nil => intro u hu; simp [vcells] at hu
 | cons x l ih =>
  intro u hu
  rw [vcells, List.mem_append] at hu
  rcases hu with hu | hu
  ·simp [Vt.cells] at hu
   rcases hu with rfl | rfl | rfl | rfl | rfl | rfl <;> rfl
  ·exact ih u hu
theorem Tryz.infoVote : (Tryz.prog.info? 53).map (fun i => (i.zero, i.size, i.bytes)) = some (some (.agg #[I6 0, I6 0, I6 0, I6 0, I6 0, .string ⟨#[]⟩]), 6, 56) := by kernel_rfl
end
section
open Go.RowKit
structure Keeps (P : Nat → Prop) (w w' : World) : Prop where
 os : w'.os = w.os
 tape : w'.tape = w.tape
 output : w'.output = w.output
 size : w.heap.size ≤ w'.heap.size
 block : ∀ k, k < w.heap.size → ¬ P k → w'.heap[k]? = w.heap[k]?
theorem Keeps.refl (P : Nat → Prop) (w : World) : Keeps P w w := ⟨rfl, rfl, rfl, Nat.le_refl _, fun _ _ _ => rfl⟩
theorem Keeps.trans {P : Nat → Prop} {w w1 w2 : World} (h : Keeps P w w1) (k : Keeps P w1 w2) : Keeps P w w2 :=
 ⟨k.os.trans h.os, k.tape.trans h.tape, k.output.trans h.output, Nat.le_trans h.size k.size, fun b hb hn => (k.block b (Nat.lt_of_lt_of_le hb h.size) hn).trans (h.block b hb hn)⟩
theorem Keeps.mono {P Q : Nat → Prop} {w w' : World} (h : Keeps P w w') (hq : ∀ k, k < w.heap.size → P k → Q k) : Keeps Q w w' :=
 ⟨h.os, h.tape, h.output, h.size, fun b hb hn => h.block b hb (fun p => hn (hq b hb p))⟩
theorem Keeps.ofKp {o o' : Option Nat} {w w' : World} (h : Kp o o' w w') : Keeps (fun k => o = some k) w w' := ⟨h.os, h.tape, h.output, h.size, fun b hb hn => h.block b hb hn⟩
theorem Keeps.ofBelow {P : Nat → Prop} {w w' : World} (h : Below w.heap.size w w') : Keeps P w w' := ⟨h.os, h.tape, h.output, h.size, fun b hb _ => h.block b hb⟩
theorem Keeps.ofGrown {o : Option Nat} {w w' : World} (h : w.grownBy w' o) : Keeps (fun k => o = some k) w w' := ⟨h.os, h.tape, h.output, h.size, fun b hb hn => h.block b hb (fun e => hn e.symm)⟩
theorem Keeps.ofSet {P : Nat → Prop} {w : World} {a : Addr} (ha : P a.block ∨ w.heap.size ≤ a.block) (u : Value) : Keeps P w (w.setCell a u) :=
 ⟨rfl, rfl, rfl, by simp [World.setCell], fun b hb hn => Below.heap_setCell _ _ _ _ (fun e => by rcases ha with h | h; exact hn (e ▸ h); omega)⟩
theorem Keeps.ofAlloc {P : Nat → Prop} (w : World) (o : Obj) : Keeps P w (w.alloc o) := Keeps.ofBelow ((Below.refl _ w).alloc (Nat.le_refl _) o)
theorem blk_keeps {P : Nat → Prop} {w w' : World} (h : Keeps P w w') {b : Nat} {ob : Obj} (hb : w.heap[b]? = some ob) (hn : ¬ P b) : w'.heap[b]? = some ob := by
 rw [h.block b (lt_of_block hb) hn]; exact hb
theorem owns_keeps {P : Nat → Prop} {w w' : World} {base : Nat} {e : TypeId} {size : Nat} {v : Value} {n : Nat} {xs : List Value} (h : w.ownsRow base e size v n xs) (hk : Keeps P w w') (hne : ∀ g, v.ownBlock = some g → ¬ P g) : w'.ownsRow base e size v n xs := by
 refine ⟨h.1, ?_⟩
 rcases h.2 with h2 | ⟨g, cap, cur, rfl, h3, h4, h5⟩
 ·exact .inl h2
 ·exact .inr ⟨g, cap, cur, rfl, h3, blk_keeps hk h4 (hne g rfl), h5⟩
theorem take_set (cur : Array Value) (n : Nat) (v : Value) (h : n < cur.size) : (cur.setIfInBounds n v).toList.take (n + 1) = cur.toList.take n ++ [v] := by
 rw [Array.toList_setIfInBounds, List.take_add_one, List.take_set_of_le (Nat.le_refl n), List.getElem?_set_self (by simpa using h)]
 rfl
theorem setCells_self (g : Nat) (t : TypeId) : ∀ (l : List Value) (o : Nat) (w : World) (cur : Array Value), w.heap[g]? = some (.cells cur t (0, 0)) → o + l.length ≤ cur.size →
  (w.setCells g o l).heap[g]? = some (.cells (cur.toList.take o ++ l ++ cur.toList.drop (o + l.length)).toArray t (0, 0))
 | [], o, w, cur, h, _ => by simpa [World.setCells] using h
 | v :: r, o, w, cur, h, hl => by
  simp only [List.length_cons] at hl ⊢
  rw [World.setCells, setCells_self g t r (o + 1) _ _ (blk_set h o v) (by simp; omega)]
  congr 3
  rw [take_set cur o v (by omega), Array.toList_setIfInBounds, List.drop_set_of_lt (by omega)]
  simp only [List.append_assoc, List.cons_append, List.nil_append]
  congr 4
  omega
theorem setCells_other (g : Nat) : ∀ (l : List Value) (o : Nat) (w : World) (b : Nat), b ≠ g → (w.setCells g o l).heap[b]? = w.heap[b]?
 | [], _, _, _, _ => rfl
 | v :: r, o, w, b, h => by rw [World.setCells, setCells_other g r (o + 1) _ b h, Below.heap_setCell _ _ _ _ h]
theorem Keeps.ofSets {P : Nat → Prop} (g : Nat) (hg : P g) : ∀ (l : List Value) (o : Nat) (w : World), Keeps P w (w.setCells g o l)
 | [], _, w => Keeps.refl P w
 | v :: r, o, w => (Keeps.ofSet (a := (A6 g o)) (.inl hg) v).trans (Keeps.ofSets g hg r (o + 1) _)
theorem MK.store {w : World} {base : Nat} {e : TypeId} {x : List Value} {g j cap n : Nat} (h : MK w base e x (.slice (some (A6 g 0)) j cap) j) (hj : j < n) (hn : n ≤ cap) :
  MK (w.setCells g (j * x.length) x) base e x (.slice (some (A6 g 0)) (j + 1) cap) (j + 1) := by
 refine ⟨reps_length _ _, ?_⟩
 rcases h.2 with ⟨h1, _⟩ | ⟨g', cap', cur, h1, hbg, hg, hnc, hcm, hcs, htake⟩
 ·cases h1
 cases h1
 have hsz : j * x.length + x.length ≤ cur.size := by
  rw [hcs, ← Nat.succ_mul]; exact Nat.mul_le_mul_right _ (by omega)
 refine .inr ⟨g, cap, _, rfl, hbg, setCells_self g e x (j * x.length) w cur hg hsz, by omega, hcm, ?_, ?_⟩
 ·have e1 : (cur.toList.take (j * x.length) ++ x ++ cur.toList.drop (j * x.length + x.length)).length = cur.size := by
   simp only [List.length_append, List.length_take, List.length_drop, Array.length_toList]
   omega
  rw [List.size_toArray, e1, hcs]
 ·rw [List.toList_toArray, htake]
  have e2 : reps j x ++ x = reps (j + 1) x := by rw [reps_add j 1]; simp [reps]
  rw [e2, ← reps_length (j + 1) x]
  exact List.take_left
theorem MK.zero {w : World} {base : Nat} {e : TypeId} {x : List Value} {ao : Option Addr} {n cap : Nat} {xs : List Value} (h : w.ownsRow base e x.length (.slice ao n cap) n xs) (hnz : ao = none → cap = 0) : MK w base e x (.slice ao 0 cap) 0 := by
 refine ⟨by simp [reps], ?_⟩
 rcases h.2 with ⟨h1, h2⟩ | ⟨g, cap', cur, h1, h3, h4, h5, h6, h7, h8⟩
 ·cases h1; exact .inl ⟨rfl, rfl⟩
 ·cases h1; exact .inr ⟨g, cap, cur, rfl, h3, h4, Nat.zero_le _, h6, h7, by simp [reps]⟩
theorem owns_slice1 {w : World} {base : Nat} {e : TypeId} {size : Nat} {v : Value} {n : Nat} {xs : List Value} (h : w.ownsRow base e size v n xs) : ∃ ao k cap, v = .slice ao k cap := by
 rcases h.2 with ⟨rfl, _⟩ | ⟨g, cap, cur, rfl, _⟩
 ·exact ⟨none, 0, 0, rfl⟩
 ·exact ⟨_, _, _, rfl⟩
end
section
open Go.RowKit
structure RowAt (w : World) (size : Nat) (v : Value) (n : Nat) (xs : List Value) : Prop where
 len : xs.length = n * size
 form : ∃ ao cap, v = .slice ao n cap ∧ (n ≠ 0 → ∃ g off, ao = some (A6 g off) ∧ g < w.heap.size ∧ ∀ j u, xs[j]? = some u → w.cell? (A6 g (off + j)) = some u)
theorem VAt.row {w : World} {v : Value} {l : List Vt} (h : VAt w v l) : RowAt w 6 v l.length (vcells l) := by
 refine ⟨vcells_length l, ?_⟩
 obtain ⟨ao, cap, e, hf⟩ := h.form
 exact ⟨ao, cap, e, fun hn => hf (fun hl => hn (by rw [hl]; rfl))⟩
theorem owns_row {w : World} {base : Nat} {e : TypeId} {size : Nat} {v : Value} {n : Nat} {xs : List Value} (h : w.ownsRow base e size v n xs) : RowAt w size v n xs := by
 refine ⟨h.1, ?_⟩
 rcases h.2 with ⟨rfl, rfl⟩ | ⟨g, cap, cur, rfl, h3, h4, h5, h6, h7, h8⟩
 ·exact ⟨none, 0, rfl, fun hn => absurd rfl hn⟩
 ·refine ⟨_, cap, rfl, fun _ => ⟨g, 0, rfl, lt_of_block h4, fun j u hu => ?_⟩⟩
  rw [Nat.zero_add, blk_cell h4, ← Array.getElem?_toList]
  rw [← h8, List.getElem?_take] at hu
  split at hu
  ·exact hu
  ·cases hu
section
variable {P : Program}
theorem run_append_none (w : World) (t ty e : TypeId) (i : TypeInfo) (ht : P.underlying t = some (.slice e)) (hi : P.info? e = some i) (g n cap : Nat) (hle : n ≤ cap) (x : Option Addr) (c : Nat) :
  (Builtin.append_ #[t, t] ty #[.slice (some (A6 g 0)) n cap, .slice x 0 c]).run P w = .ok (.slice (some (A6 g 0)) n cap) w := by
 have hl : ∀ (y : Addr), (loadCells y 0).run P w = .ok #[] w := fun y => by simpa using run_loadCells_list (P := P) w y [] (by simp)
 cases x <;> simp [Builtin.append_, run_underlying ht, sizeOf, typeInfo, hi, Builtin.lenOf, Builtin.firstCells, hle, hl, storeCells]
theorem run_eql_nil (w : World) (t e : TypeId) (a : Option Addr) (l c : Nat) (h : P.underlying t = some (.slice e)) : (binOp .eql t (.slice a l c) (.slice none 0 0)).run P w = .ok (.bool a.isNone) w := by
 simp only [binOp]
 simp [run_equal_slice_nil w t e a l c h]
end
theorem Tryz.infoMessage : (Tryz.prog.info? 36).map (fun i => (i.zero, i.size, i.bytes)) = some (some (.agg #[I6 0, I6 0, I6 0, I6 0, I6 0, I6 0, I6 0, I6 0, .string ⟨#[]⟩, .slice none 0 0]), 10, 104) := by kernel_rfl
set_option maxHeartbeats 2000000 in
theorem cloneV_any (v : Value) (n : Nat) (xs : List Value) (w : World) (hv : RowAt w 6 v n xs) (h1 : ∀ u ∈ xs, u.oneCell' = true) (hl : n ≤ 1000000) :
  Calls Tryz.prog 86 #[v] w fun e w' => ∃ v', e = .returned v' ∧ w'.ownsRow w.heap.size 53 6 v' n xs ∧ Below w.heap.size w w' := by
 obtain ⟨i0, hi, hz0, hz1, hz2⟩ := info_parts Tryz.infoVote
 obtain ⟨ao, cap, rfl, hf⟩ := hv.form
 have hxl := hv.len
 have heq := fun (W : World) => run_eql_nil (P := Tryz.prog) W 34 _ ao n cap Tryz.underlying34
 cases ao with
 | none =>
  have hn : n = 0 := by
   by_cases h : n = 0
   ·exact h
   ·obtain ⟨g, off, e, _⟩ := hf h; cases e
  subst hn
  obtain rfl : xs = [] := List.eq_nil_of_length_eq_zero (by omega)
  simp only [Option.isNone_none] at *
  go_enter Tryz.func86, Tryz.ntmps86
  go_wp2
  go_ret
  exact ⟨_, rfl, World.ownsRow_nil _ _ _ _, Below.refl _ _⟩
 | some a =>
  simp only [Option.isNone_some] at heq
  by_cases hne : n = 0
  ·subst hne
   obtain rfl : xs = [] := List.eq_nil_of_length_eq_zero (by omega)
   go_enter Tryz.func86, Tryz.ntmps86
   go_wp2
   go_ret
   exact ⟨_, rfl, ⟨by simp, .inr ⟨w.heap.size, 0, #[], rfl, Nat.le_refl _, blk_new w _, Nat.le_refl _, by unfold maxLen; omega, rfl, rfl⟩⟩, (Below.refl _ _).alloc (Nat.le_refl _) _⟩
  ·obtain ⟨g, off, e, hg, hc⟩ := hf hne
   injection e with e
   subst e
   have hpos : 0 < n := by omega
   have hown0 : (w.alloc (.cells #[] 53)).ownsRow w.heap.size 53 6 (.slice (some (A6 w.heap.size 0)) 0 0) 0 [] := ⟨by simp, .inr ⟨w.heap.size, 0, #[], rfl, Nat.le_refl _, blk_new w _, Nat.le_refl _, by unfold maxLen; omega, rfl, rfl⟩⟩
   have hsrc : ∀ j u, xs[j]? = some u → (w.alloc (.cells #[] 53)).cell? (((A6 g off) : Addr).add j) = some u := fun j u hu => by
    rw [Addr.add_mid, World.cell?_alloc_lt _ _ _ hg]
    exact hc j u hu
   have hb1 : 0 + n ≤ maxLen ∧ (0 + n) * 56 ≤ 140737488355328 := ⟨by unfold maxLen; omega, by omega⟩
   go_enter Tryz.func86, Tryz.ntmps86
   go_wp2_with (at_builtin; refine wpList_append_lies _ rfl (.tmp 5) (.tmp 6) 34 rfl w.heap.size 53 i0 _ 6 56 Tryz.underlying34 hi hz0 hz1 hz2 rfl (by decide) (.slice (some (A6 w.heap.size 0)) 0 0) 0 [] rfl hown0 _ n cap xs rfl hxl hsrc h1 hpos hb1.1 hb1.2 (by simp) _ rfl ?_; intro g' cap' w' hown hgr _ _)
   go_ret
   refine ⟨_, rfl, by simpa using hown, ?_⟩
   exact ((Below.refl _ w).alloc (Nat.le_refl _) (.cells #[] 53)).trans ⟨hgr.os, hgr.tape, hgr.output, hgr.size, fun k hk => hgr.block k (by rw [World.size_alloc]; omega) (by intro e; simp [Value.ownBlock] at e; omega)⟩
set_option maxHeartbeats 2000000 in
theorem cloneM_any (v : Value) (n : Nat) (xs : List Value) (w : World) (hv : RowAt w 10 v n xs) (h1 : ∀ u ∈ xs, u.oneCell' = true) (hl : n ≤ 1000000) :
  Calls Tryz.prog 85 #[v] w fun e w' => ∃ v', e = .returned v' ∧ w'.ownsRow w.heap.size 36 10 v' n xs ∧ Below w.heap.size w w' := by
 obtain ⟨i0, hi, hz0, hz1, hz2⟩ := info_parts Tryz.infoMessage
 obtain ⟨ao, cap, rfl, hf⟩ := hv.form
 have hxl := hv.len
 have heq := fun (W : World) => run_eql_nil (P := Tryz.prog) W 50 _ ao n cap Tryz.underlying50
 cases ao with
 | none =>
  have hn : n = 0 := by
   by_cases h : n = 0
   ·exact h
   ·obtain ⟨g, off, e, _⟩ := hf h; cases e
  subst hn
  obtain rfl : xs = [] := List.eq_nil_of_length_eq_zero (by omega)
  simp only [Option.isNone_none] at *
  go_enter Tryz.func85, Tryz.ntmps85
  go_wp2
  go_ret
  exact ⟨_, rfl, World.ownsRow_nil _ _ _ _, Below.refl _ _⟩
 | some a =>
  simp only [Option.isNone_some] at heq
  by_cases hne : n = 0
  ·subst hne
   obtain rfl : xs = [] := List.eq_nil_of_length_eq_zero (by omega)
   go_enter Tryz.func85, Tryz.ntmps85
   go_wp2
   go_ret
   exact ⟨_, rfl, ⟨by simp, .inr ⟨w.heap.size, 0, #[], rfl, Nat.le_refl _, blk_new w _, Nat.le_refl _, by unfold maxLen; omega, rfl, rfl⟩⟩, (Below.refl _ _).alloc (Nat.le_refl _) _⟩
  ·obtain ⟨g, off, e, hg, hc⟩ := hf hne
   injection e with e
   subst e
   have hpos : 0 < n := by omega
   have hown0 : (w.alloc (.cells #[] 36)).ownsRow w.heap.size 36 10 (.slice (some (A6 w.heap.size 0)) 0 0) 0 [] := ⟨by simp, .inr ⟨w.heap.size, 0, #[], rfl, Nat.le_refl _, blk_new w _, Nat.le_refl _, by unfold maxLen; omega, rfl, rfl⟩⟩
   have hsrc : ∀ j u, xs[j]? = some u → (w.alloc (.cells #[] 36)).cell? (((A6 g off) : Addr).add j) = some u := fun j u hu => by
    rw [Addr.add_mid, World.cell?_alloc_lt _ _ _ hg]
    exact hc j u hu
   have hb1 : 0 + n ≤ maxLen ∧ (0 + n) * 104 ≤ 140737488355328 := ⟨by unfold maxLen; omega, by omega⟩
   go_enter Tryz.func85, Tryz.ntmps85
   go_wp2_with (at_builtin; refine wpList_append_lies _ rfl (.tmp 5) (.tmp 6) 50 rfl w.heap.size 36 i0 _ 10 104 Tryz.underlying50 hi hz0 hz1 hz2 rfl (by decide) (.slice (some (A6 w.heap.size 0)) 0 0) 0 [] rfl hown0 _ n cap xs rfl hxl hsrc h1 hpos hb1.1 hb1.2 (by simp) _ rfl ?_; intro g' cap' w' hown hgr _ _)
   go_ret
   refine ⟨_, rfl, by simpa using hown, ?_⟩
   exact ((Below.refl _ w).alloc (Nat.le_refl _) (.cells #[] 36)).trans ⟨hgr.os, hgr.tape, hgr.output, hgr.size, fun k hk => hgr.block k (by rw [World.size_alloc]; omega) (by intro e; simp [Value.ownBlock] at e; omega)⟩
end
end Go.Proofs.YtnnhnekfokbooaaGreatDoor
