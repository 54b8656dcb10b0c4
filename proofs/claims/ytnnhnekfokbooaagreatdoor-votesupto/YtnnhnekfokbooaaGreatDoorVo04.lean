/- The walk of the net's Take. -/
import Derived.Test.YtnnhnekfokbooaaGreatDoorVo03
namespace Go.Proofs.YtnnhnekfokbooaaGreatDoor
open Go.RowKit
set_option linter.unusedSimpArgs false
set_option linter.unusedVariables false

theorem Keeps.setAt {P : Nat → Prop} {w w1 : World} (h : Keeps P w w1) {a : Addr} (ha : P a.block ∨ w.heap.size ≤ a.block) (u : Value) : Keeps P w (w1.setCell a u) :=
 ⟨h.os, h.tape, h.output, by have := h.size; simpa [World.setCell] using this, fun k hk hn => by
  rw [Below.heap_setCell _ _ _ _ (fun e => by rcases ha with x | x; exact hn (e ▸ x); omega)]
  exact h.block k hk hn⟩

theorem has_any (b o : Nat) (ao : Option Addr) (n cap : Nat) (k : Int) (w : World) (hc : w.cell? ⟨b, o, none⟩ = some (.slice ao n cap)) :
  Calls Tryz.prog 98 #[.pointer (some ⟨b, o, none⟩), .int .i64 k] w fun e w' => e = .returned (.bool (decide (0 ≤ k) && decide (k < (n : Int)))) ∧ w' = w := by
 cases hk : decide (0 ≤ k)
 ·go_enter Tryz.func98, Tryz.ntmps98
  go_wp2
  go_ret
  exact ⟨rfl, rfl⟩
 ·go_enter Tryz.func98, Tryz.ntmps98
  go_wp2
  go_ret
  exact ⟨by simp, rfl⟩

set_option maxHeartbeats 4000000 in
set_option maxRecDepth 100000 in
theorem take_no (b o : Nat) (va : Option Addr) (n vc : Nat) (k : Int) (w : World) (hc : w.cell? ⟨b, o, none⟩ = some (.slice va n vc)) (hk : k < 0 ∨ (n : Int) ≤ k) :
  Calls Tryz.prog 69 #[.pointer (some ⟨b, o, none⟩), .int .i64 k] w fun e w' => e = .returned (.tuple #[.agg #[.int .i64 0, .int .i64 0, .int .i64 0, .int .i64 0, .int .i64 0, .int .i64 0, .int .i64 0, .int .i64 0, .string ⟨#[]⟩, .slice none 0 0], .bool false]) ∧ Below w.heap.size w w' := by
 have hblt : b < w.heap.size := World.block_lt_of_cell? w _ hc
 have hq := blk_new w (.cells #[.int .i64 0, .int .i64 0, .int .i64 0, .int .i64 0, .int .i64 0, .int .i64 0, .int .i64 0, .int .i64 0, .string ⟨#[]⟩, .slice none 0 0] 36)
 have hd : (decide (0 ≤ k) && decide (k < (n : Int))) = false := by
  rcases hk with h | h
  ·simp [show ¬ (0 ≤ k) from by omega]
  ·simp [show ¬ (k < (n : Int)) from by omega]
 have hH := fun W h => has_any b o va n vc k W h
 rw [hd] at hH
 go_enter Tryz.func69, Tryz.ntmps69
 go_wp2_with fail
 refine (hH _ ?_).mono ?_
 ·rw [World.cell?_alloc_lt _ _ _ hblt]; exact hc
 rintro e w1 ⟨rfl, rfl⟩
 go_wp2
 refine bodyPost_ret (v := .tuple #[.agg #[.int .i64 0, .int .i64 0, .int .i64 0, .int .i64 0, .int .i64 0, .int .i64 0, .int .i64 0, .int .i64 0, .string ⟨#[]⟩, .slice none 0 0], .bool false]) (by simp [results, Tryz.results69, go_sem]) rfl ⟨rfl, ?_⟩
 repeat refine Below.setCell ?_ (by simp) _
 exact (Below.refl _ w).alloc (Nat.le_refl _) _

set_option maxHeartbeats 8000000 in
set_option maxRecDepth 100000 in
theorem take_yes (b o H : Nat) (cs : Array Value) (t : TypeId) (v : Value) (l : List Nm) (k : Nat) (w : World) (hb : w.heap[b]? = some (.cells cs t (0, 0))) (ho : cs[o]? = some v) (hown : w.ownsRow H 36 10 v l.length (ncs l)) (hne : v.ownBlock ≠ some b)
  (hok : ∀ x ∈ l, x.ok w) (hk : k < l.length) (hl : l.length ≤ 1000) :
  Calls Tryz.prog 69 #[.pointer (some ⟨b, o, none⟩), .int .i64 (k : Int)] w fun e w' => ∃ v', e = .returned (.tuple #[.agg l[k].cells.toArray, .bool true]) ∧ w'.heap[b]? = some (.cells (cs.setIfInBounds o v') t (0, 0)) ∧ w'.ownsRow H 36 10 v' (l.length - 1) (ncs (l.eraseIdx k)) ∧ v'.ownBlock = v.ownBlock ∧
   Keeps (fun j => j = b ∨ v.ownBlock = some j) w w' := by
 have hblt := lt_of_block hb
 have hc : w.cell? ⟨b, o, none⟩ = some v := by rw [blk_cell hb]; exact ho
 have hD := fun W h1 h2 => delete_any H v l k W h1 hk hl h2
 have hvlt := fun g hg => (World.ownsRow.lt hown g hg).2
 rcases hown.2 with ⟨_, h0⟩ | ⟨g, cap, cur, rfl, hbg, hg, hnc, hcm, hcs, htake⟩
 ·omega
 have hrow : ∀ i, i < 10 → w.cell? ⟨g, k * 10 + i, none⟩ = l[k].cells[i]? := fun i hi => by
  rw [blk_cell hg, ← Array.getElem?_toList]
  have e2 : cur.toList[k * 10 + i]? = (cur.toList.take (l.length * 10))[k * 10 + i]? := by rw [List.getElem?_take, if_pos (by omega)]
  rw [e2, htake, ncs_at l k hk i hi]
 have hgl := lt_of_block hg
 have hx := hok l[k] (List.getElem_mem hk)
 obtain ⟨xa, xc, hxe, _⟩ := hx.1.form
 generalize l[k] = x at *
 obtain ⟨⟨mk, mf, mt, mb, ms, ⟨mc, mq, mh, mx⟩, ma⟩, xv⟩ := x
 simp only [Nm.cells] at *
 subst hxe
 generalize ma.length = xn at *
 have c0 : w.cell? ⟨g, k * 10, none⟩ = some (.int .i64 mk) := by simpa [Nm.cells] using hrow 0 (by decide)
 have c1 : w.cell? ⟨g, k * 10 + 1, none⟩ = some (.int .i64 mf) := by simpa [Nm.cells] using hrow 1 (by decide)
 have c2 : w.cell? ⟨g, k * 10 + 2, none⟩ = some (.int .i64 mt) := by simpa [Nm.cells] using hrow 2 (by decide)
 have c3 : w.cell? ⟨g, k * 10 + 3, none⟩ = some (.int .i64 mb) := by simpa [Nm.cells] using hrow 3 (by decide)
 have c4 : w.cell? ⟨g, k * 10 + 4, none⟩ = some (.int .i64 ms) := by simpa [Nm.cells] using hrow 4 (by decide)
 have c5 : w.cell? ⟨g, k * 10 + 5, none⟩ = some (.int .i64 mc) := by simpa [Nm.cells] using hrow 5 (by decide)
 have c6 : w.cell? ⟨g, k * 10 + 6, none⟩ = some (.int .i64 mq) := by simpa [Nm.cells] using hrow 6 (by decide)
 have c7 : w.cell? ⟨g, k * 10 + 7, none⟩ = some (.int .i64 mh) := by simpa [Nm.cells] using hrow 7 (by decide)
 have c8 : w.cell? ⟨g, k * 10 + 8, none⟩ = some (.string mx) := by simpa [Nm.cells] using hrow 8 (by decide)
 have c9 : w.cell? ⟨g, k * 10 + 9, none⟩ = some (.slice xa xn xc) := by simpa [Nm.cells] using hrow 9 (by decide)
 have q0 : (0 : Int) ≤ (k : Int) := by omega
 have q1 : (k : Int) < (l.length : Int) := by omega
 have hHd : (decide (0 ≤ (k : Int)) && decide ((k : Int) < (l.length : Int))) = true := by simp; omega
 have hH := fun W h => has_any b o (some ⟨g, 0, none⟩) l.length cap (k : Int) W h
 rw [hHd] at hH
 go_enter Tryz.func69, Tryz.ntmps69
 go_wp2_with fail
 refine (hH _ ?_).mono ?_
 ·rw [World.cell?_alloc_lt _ _ _ hblt]; exact hc
 rintro e w1 ⟨rfl, rfl⟩
 clear hH
 go_wp2_with fail
 clear c0 c1 c2 c3 c4 c5 c6 c7 c8 c9 hrow
 refine (hD _ (owns_alloc (owns_alloc hown _) _) (fun y hy => ⟨((hok y hy).1.alloc _).alloc _, (hok y hy).2⟩)).mono ?_
 rintro e w1 ⟨v1, rfl, hown1, hob1, hK1⟩
 clear hD
 obtain ⟨v1a, v1n, v1c, rfl⟩ := owns_slice1 hown1
 have hgb : ¬ (Value.slice (some ⟨g, 0, none⟩) l.length cap).ownBlock = some b := hne
 have hng : ∀ j, w.heap.size ≤ j → ¬ (Value.slice (some ⟨g, 0, none⟩) l.length cap).ownBlock = some j := fun j hj e => by
  have : g = j := by simpa [Value.ownBlock] using e
  omega
 have hb1 := blk_keeps hK1 (blk_alloc (blk_alloc hb _) _) hgb
 have hr1 := blk_keeps hK1 (blk_alloc (blk_new w _) _) (hng _ (Nat.le_refl _))
 have hm1 := blk_keeps hK1 (blk_new (w.alloc _) _) (hng _ (by simp))
 simp only [World.size_alloc] at hm1
 have hc1 : w1.cell? ⟨b, o, none⟩ = some (.slice (some ⟨g, 0, none⟩) l.length cap) := (blk_cell hb1 o).trans ho
 have hf1 := blk_free hb1 o
 have hrc := blk_cell hr1
 have hrf := blk_free hr1
 have hmc := blk_cell hm1
 have hz1 := hK1.size
 simp only [World.size_alloc] at hz1
 have hbn : b ≠ w.heap.size := by omega
 have hbn' : b ≠ w.heap.size + 1 := by omega
 go_wp2_with fail
 have hvb : (Value.slice v1a v1n v1c).ownBlock ≠ some b := by rw [hob1]; exact hne
 have hvr : ∀ j, w.heap.size ≤ j → (Value.slice v1a v1n v1c).ownBlock ≠ some j := fun j hj => by rw [hob1]; exact hng j hj
 refine bodyPost_ret (v := .tuple #[.agg #[.int .i64 mk, .int .i64 mf, .int .i64 mt, .int .i64 mb, .int .i64 ms, .int .i64 mc, .int .i64 mq, .int .i64 mh, .string mx, .slice xa xn xc], .bool true]) (by simp [results, Tryz.results69, go_sem, hrc]) rfl ⟨_, rfl, ?_, ?_, hob1, ?_⟩
 ·iterate 10 refine blk_set_other ?_ (by simp; omega) _
  exact blk_set hb1 o _
 ·iterate 10 refine owns_set ?_ (hvr _ (by simp)) _
  exact owns_set hown1 hvb _
 ·iterate 10 refine Keeps.setAt ?_ (.inr (by simp)) _
  refine Keeps.setAt ?_ (.inl (.inl rfl)) _
  refine Keeps.trans ?_ (hK1.mono (Q := fun j => j = b ∨ (Value.slice (some ⟨g, 0, none⟩) l.length cap).ownBlock = some j) (fun j _ h => Or.inr h))
  exact Keeps.ofBelow (((Below.refl _ w).alloc (Nat.le_refl _) _).alloc (by simp) _)
end Go.Proofs.YtnnhnekfokbooaaGreatDoor
