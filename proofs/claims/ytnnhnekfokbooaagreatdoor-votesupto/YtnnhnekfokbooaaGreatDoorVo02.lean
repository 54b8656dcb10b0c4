/- The walks of slices.Clone, of votes and of messages. Messages in memory; the walk of the net's list. The walk of the net's Put. (Joined by merge.py.) -/
import Derived.Test.YtnnhnekfokbooaaGreatDoorVo01
import Derived.Deep.DeepCutAuto
import Derived.Deep.CutBlock
import Derived.Deep.RegionLaw
import Derived.Deep.RegionHeld3
namespace Go.Proofs.YtnnhnekfokbooaaGreatDoor
open Go.RowKit
set_option linter.unusedSimpArgs false
set_option linter.unusedVariables false

/-- A slice value, and what lies behind it. -/
structure RowAt (w : World) (size : Nat) (v : Value) (n : Nat) (xs : List Value) : Prop where
 len : xs.length = n * size
 form : ∃ ao cap, v = .slice ao n cap ∧ (n ≠ 0 → ∃ g off, ao = some ⟨g, off, none⟩ ∧ g < w.heap.size ∧ ∀ j u, xs[j]? = some u → w.cell? ⟨g, off + j, none⟩ = some u)
theorem VAt.row {w : World} {v : Value} {l : List Vt} (h : VAt w v l) : RowAt w 6 v l.length (vcells l) := by
 refine ⟨vcells_length l, ?_⟩
 obtain ⟨ao, cap, e, hf⟩ := h.form
 exact ⟨ao, cap, e, fun hn => hf (fun hl => hn (by rw [hl]; rfl))⟩
theorem owns_row {w : World} {base : Nat} {e : TypeId} {size : Nat} {v : Value} {n : Nat} {xs : List Value} (h : w.ownsRow base e size v n xs) : RowAt w size v n xs := by
 refine ⟨h.1, ?_⟩
 rcases h.2 with ⟨rfl, rfl⟩ | ⟨g, cap, cur, rfl, h3, h4, h5, h6, h7, h8⟩
 ·exact ⟨none, 0, rfl, fun hn => absurd rfl hn⟩
 ·refine ⟨_, cap, rfl, fun _ => ⟨g, 0, rfl, lt_of_block h4, fun j u hu => ?_⟩⟩
  rw [Nat.zero_add, blk_cell h4, ← Array.getElem?_toList]
  rw [← h8, List.getElem?_take] at hu
  split at hu
  ·exact hu
  ·cases hu

section
variable {P : Program}
theorem run_append_none (w : World) (t ty e : TypeId) (i : TypeInfo) (ht : P.underlying t = some (.slice e)) (hi : P.info? e = some i) (g n cap : Nat) (hle : n ≤ cap) (x : Option Addr) (c : Nat) :
  (Builtin.append_ #[t, t] ty #[.slice (some ⟨g, 0, none⟩) n cap, .slice x 0 c]).run P w = .ok (.slice (some ⟨g, 0, none⟩) n cap) w := by
 have hl : ∀ (y : Addr), (loadCells y 0).run P w = .ok #[] w := fun y => by simpa using run_loadCells_list (P := P) w y [] (by simp)
 cases x <;> simp [Builtin.append_, run_underlying ht, sizeOf, typeInfo, hi, Builtin.lenOf, Builtin.firstCells, hle, hl, storeCells]
theorem run_eql_nil (w : World) (t e : TypeId) (a : Option Addr) (l c : Nat) (h : P.underlying t = some (.slice e)) : (binOp .eql t (.slice a l c) (.slice none 0 0)).run P w = .ok (.bool a.isNone) w := by
 simp only [binOp]
 simp [run_equal_slice_nil w t e a l c h]
end

theorem Tryz.infoMessage : (Tryz.prog.info? 36).map (fun i => (i.zero, i.size, i.bytes)) = some (some (.agg #[.int .i64 0, .int .i64 0, .int .i64 0, .int .i64 0, .int .i64 0, .int .i64 0, .int .i64 0, .int .i64 0, .string ⟨#[]⟩, .slice none 0 0]), 10, 104) := by kernel_rfl

set_option maxHeartbeats 2000000 in
set_option maxRecDepth 100000 in
theorem cloneV_any (v : Value) (n : Nat) (xs : List Value) (w : World) (hv : RowAt w 6 v n xs) (h1 : ∀ u ∈ xs, u.oneCell' = true) (hl : n ≤ 1000000) :
  Calls Tryz.prog 86 #[v] w fun e w' => ∃ v', e = .returned v' ∧ w'.ownsRow w.heap.size 53 6 v' n xs ∧ Below w.heap.size w w' := by
 obtain ⟨i0, hi, hz0, hz1, hz2⟩ := info_parts Tryz.infoVote
 obtain ⟨ao, cap, rfl, hf⟩ := hv.form
 have hxl := hv.len
 have heq := fun (W : World) => run_eql_nil (P := Tryz.prog) W 34 _ ao n cap Tryz.underlying34
 cases ao with
 | none =>
  have hn : n = 0 := by
   by_cases h : n = 0
   ·exact h
   ·obtain ⟨g, off, e, _⟩ := hf h; cases e
  subst hn
  obtain rfl : xs = [] := List.eq_nil_of_length_eq_zero (by omega)
  simp only [Option.isNone_none] at *
  go_enter Tryz.func86, Tryz.ntmps86
  go_wp2
  go_ret
  exact ⟨_, rfl, World.ownsRow_nil _ _ _ _, Below.refl _ _⟩
 | some a =>
  simp only [Option.isNone_some] at heq
  by_cases hne : n = 0
  ·subst hne
   obtain rfl : xs = [] := List.eq_nil_of_length_eq_zero (by omega)
   go_enter Tryz.func86, Tryz.ntmps86
   go_wp2
   go_ret
   exact ⟨_, rfl, ⟨by simp, .inr ⟨w.heap.size, 0, #[], rfl, Nat.le_refl _, blk_new w _, Nat.le_refl _, by unfold maxLen; omega, rfl, rfl⟩⟩, (Below.refl _ _).alloc (Nat.le_refl _) _⟩
  ·obtain ⟨g, off, e, hg, hc⟩ := hf hne
   injection e with e
   subst e
   have hpos : 0 < n := by omega
   have hown0 : (w.alloc (.cells #[] 53)).ownsRow w.heap.size 53 6 (.slice (some ⟨w.heap.size, 0, none⟩) 0 0) 0 [] := ⟨by simp, .inr ⟨w.heap.size, 0, #[], rfl, Nat.le_refl _, blk_new w _, Nat.le_refl _, by unfold maxLen; omega, rfl, rfl⟩⟩
   have hsrc : ∀ j u, xs[j]? = some u → (w.alloc (.cells #[] 53)).cell? ((⟨g, off, none⟩ : Addr).add j) = some u := fun j u hu => by
    rw [Addr.add_mid, World.cell?_alloc_lt _ _ _ hg]
    exact hc j u hu
   have hb1 : 0 + n ≤ maxLen ∧ (0 + n) * 56 ≤ 140737488355328 := ⟨by unfold maxLen; omega, by omega⟩
   go_enter Tryz.func86, Tryz.ntmps86
   go_wp2_with (at_builtin; refine wpList_append_lies _ rfl (.tmp 5) (.tmp 6) 34 rfl w.heap.size 53 i0 _ 6 56 Tryz.underlying34 hi hz0 hz1 hz2 rfl (by decide) (.slice (some ⟨w.heap.size, 0, none⟩) 0 0) 0 [] rfl hown0 _ n cap xs rfl hxl hsrc h1 hpos hb1.1 hb1.2 (by simp) _ rfl ?_; intro g' cap' w' hown hgr _ _)
   go_ret
   refine ⟨_, rfl, by simpa using hown, ?_⟩
   exact ((Below.refl _ w).alloc (Nat.le_refl _) (.cells #[] 53)).trans ⟨hgr.os, hgr.tape, hgr.output, hgr.size, fun k hk => hgr.block k (by rw [World.size_alloc]; omega) (by intro e; simp [Value.ownBlock] at e; omega)⟩

set_option maxHeartbeats 2000000 in
set_option maxRecDepth 100000 in
theorem cloneM_any (v : Value) (n : Nat) (xs : List Value) (w : World) (hv : RowAt w 10 v n xs) (h1 : ∀ u ∈ xs, u.oneCell' = true) (hl : n ≤ 1000000) :
  Calls Tryz.prog 85 #[v] w fun e w' => ∃ v', e = .returned v' ∧ w'.ownsRow w.heap.size 36 10 v' n xs ∧ Below w.heap.size w w' := by
 obtain ⟨i0, hi, hz0, hz1, hz2⟩ := info_parts Tryz.infoMessage
 obtain ⟨ao, cap, rfl, hf⟩ := hv.form
 have hxl := hv.len
 have heq := fun (W : World) => run_eql_nil (P := Tryz.prog) W 50 _ ao n cap Tryz.underlying50
 cases ao with
 | none =>
  have hn : n = 0 := by
   by_cases h : n = 0
   ·exact h
   ·obtain ⟨g, off, e, _⟩ := hf h; cases e
  subst hn
  obtain rfl : xs = [] := List.eq_nil_of_length_eq_zero (by omega)
  simp only [Option.isNone_none] at *
  go_enter Tryz.func85, Tryz.ntmps85
  go_wp2
  go_ret
  exact ⟨_, rfl, World.ownsRow_nil _ _ _ _, Below.refl _ _⟩
 | some a =>
  simp only [Option.isNone_some] at heq
  by_cases hne : n = 0
  ·subst hne
   obtain rfl : xs = [] := List.eq_nil_of_length_eq_zero (by omega)
   go_enter Tryz.func85, Tryz.ntmps85
   go_wp2
   go_ret
   exact ⟨_, rfl, ⟨by simp, .inr ⟨w.heap.size, 0, #[], rfl, Nat.le_refl _, blk_new w _, Nat.le_refl _, by unfold maxLen; omega, rfl, rfl⟩⟩, (Below.refl _ _).alloc (Nat.le_refl _) _⟩
  ·obtain ⟨g, off, e, hg, hc⟩ := hf hne
   injection e with e
   subst e
   have hpos : 0 < n := by omega
   have hown0 : (w.alloc (.cells #[] 36)).ownsRow w.heap.size 36 10 (.slice (some ⟨w.heap.size, 0, none⟩) 0 0) 0 [] := ⟨by simp, .inr ⟨w.heap.size, 0, #[], rfl, Nat.le_refl _, blk_new w _, Nat.le_refl _, by unfold maxLen; omega, rfl, rfl⟩⟩
   have hsrc : ∀ j u, xs[j]? = some u → (w.alloc (.cells #[] 36)).cell? ((⟨g, off, none⟩ : Addr).add j) = some u := fun j u hu => by
    rw [Addr.add_mid, World.cell?_alloc_lt _ _ _ hg]
    exact hc j u hu
   have hb1 : 0 + n ≤ maxLen ∧ (0 + n) * 104 ≤ 140737488355328 := ⟨by unfold maxLen; omega, by omega⟩
   go_enter Tryz.func85, Tryz.ntmps85
   go_wp2_with (at_builtin; refine wpList_append_lies _ rfl (.tmp 5) (.tmp 6) 50 rfl w.heap.size 36 i0 _ 10 104 Tryz.underlying50 hi hz0 hz1 hz2 rfl (by decide) (.slice (some ⟨w.heap.size, 0, none⟩) 0 0) 0 [] rfl hown0 _ n cap xs rfl hxl hsrc h1 hpos hb1.1 hb1.2 (by simp) _ rfl ?_; intro g' cap' w' hown hgr _ _)
   go_ret
   refine ⟨_, rfl, by simpa using hown, ?_⟩
   exact ((Below.refl _ w).alloc (Nat.le_refl _) (.cells #[] 36)).trans ⟨hgr.os, hgr.tape, hgr.output, hgr.size, fun k hk => hgr.block k (by rw [World.size_alloc]; omega) (by intro e; simp [Value.ownBlock] at e; omega)⟩
end Go.Proofs.YtnnhnekfokbooaaGreatDoor

namespace Go.Proofs.YtnnhnekfokbooaaGreatDoor
open Go.RowKit
set_option linter.unusedSimpArgs false
set_option linter.unusedVariables false

/-- A message, and the value of its list. -/
structure Nm where
 m : Ms
 v : Value
def Nm.cells (x : Nm) : List Value := [.int .i64 x.m.k, .int .i64 x.m.f, .int .i64 x.m.t, .int .i64 x.m.b, .int .i64 x.m.s, .int .i64 x.m.p.c, .int .i64 x.m.p.q, .int .i64 x.m.p.h, .string x.m.p.t, x.v]
def ncs : List Nm → List Value
 | [] => []
 | x :: l => x.cells ++ ncs l
theorem ncs_length (l : List Nm) : (ncs l).length = l.length * 10 := by
 induction l with
 | nil => rfl
 | cons x l ih => simp [ncs, ih, Nm.cells]; omega
theorem ncs_append (a b : List Nm) : ncs (a ++ b) = ncs a ++ ncs b := by
 induction a with
 | nil => rfl
 | cons x l ih => simp [ncs, ih]
theorem ncs_at : ∀ (l : List Nm) (k : Nat) (hk : k < l.length) (i : Nat) (_ : i < 10), (ncs l)[k * 10 + i]? = (l[k]).cells[i]?
 | [], k, hk, _, _ => by simp at hk
 | x :: l, 0, _, i, hi => by
  rw [ncs, Nat.zero_mul, Nat.zero_add, List.getElem?_append_left (by simpa [Nm.cells] using hi)]
  rfl
 | x :: l, k + 1, hk, i, hi => by
  have e : (k + 1) * 10 + i - x.cells.length = k * 10 + i := by simp [Nm.cells]; omega
  rw [ncs, List.getElem?_append_right (by simp [Nm.cells]; omega), e]
  exact ncs_at l k (by simpa using hk) i hi
theorem ncs_set : ∀ (l : List Nm) (k : Nat) (hk : k < l.length) (v : Value), (ncs l).set (k * 10 + 9) v = ncs (l.set k ⟨l[k].m, v⟩)
 | [], k, hk, _ => by simp at hk
 | x :: l, 0, _, v => by
  rw [List.set_cons_zero, ncs, ncs, List.set_append_left _ _ (by simp [Nm.cells])]
  rfl
 | x :: l, k + 1, hk, v => by
  have e : (k + 1) * 10 + 9 - x.cells.length = k * 10 + 9 := by simp [Nm.cells]; omega
  rw [List.set_cons_succ, ncs, ncs, List.set_append_right _ _ (by simp [Nm.cells]; omega), e, ncs_set l k (by simpa using hk) v]
  rfl
/-- A message's list is there. -/
def Nm.ok (w : World) (x : Nm) : Prop := VAt w x.v x.m.a ∧ x.m.a.length ≤ 1000
theorem Nm.one {w : World} {x : Nm} (h : x.ok w) : ∀ u ∈ x.cells, u.oneCell' = true := by
 obtain ⟨ao, cap, e, _⟩ := h.1.form
 intro u hu
 simp only [Nm.cells, e, List.mem_cons, List.not_mem_nil, or_false] at hu
 rcases hu with rfl | rfl | rfl | rfl | rfl | rfl | rfl | rfl | rfl | rfl <;> rfl
theorem ncs_one {w : World} : ∀ (l : List Nm), (∀ x ∈ l, x.ok w) → ∀ u ∈ ncs l, u.oneCell' = true
 | [], _, u, hu => by simp [ncs] at hu
 | x :: l, h, u, hu => by
  rw [ncs, List.mem_append] at hu
  rcases hu with hu | hu
  ·exact Nm.one (h x List.mem_cons_self) u hu
  ·exact ncs_one l (fun y hy => h y (List.mem_cons_of_mem _ hy)) u hu

set_option maxHeartbeats 4000000 in
set_option maxRecDepth 100000 in
theorem list_any (b o : Nat) (v : Value) (l : List Nm) (w : World) (hc : w.cell? ⟨b, o, none⟩ = some v) (hv : RowAt w 10 v l.length (ncs l)) (hok : ∀ x ∈ l, x.ok w) (hl : l.length ≤ 1000) :
  Calls Tryz.prog 56 #[.pointer (some ⟨b, o, none⟩)] w fun e w' => ∃ v' L, e = .returned v' ∧ L.length = l.length ∧ (∀ i (hi : i < l.length) (hi' : i < L.length), L[i].m = l[i].m ∧ w'.ownsRow w.heap.size 53 6 L[i].v l[i].m.a.length (vcells l[i].m.a)) ∧
   (∀ i j (hi : i < L.length) (hj : j < L.length) g, i < j → L[i].v.ownBlock = some g → L[j].v.ownBlock ≠ some g) ∧ w'.ownsRow w.heap.size 36 10 v' L.length (ncs L) ∧ Below w.heap.size w w' := by
 have hblt : b < w.heap.size := World.block_lt_of_cell? w _ hc
 obtain ⟨ao, cap, hve, hvf⟩ := hv.form
 subst hve
 have hC := cloneM_any _ _ _ w hv (ncs_one l hok) (by omega)
 go_enter Tryz.func56, Tryz.ntmps56
 go_wp2_with fail
 refine hC.mono ?_
 rintro e w1 ⟨v1, rfl, hown1, hB1⟩
 clear hC
 obtain ⟨a1, c1, rfl⟩ : ∃ a1 c1, v1 = .slice a1 l.length c1 := by
  rcases hown1.2 with ⟨rfl, h0⟩ | ⟨g, cap, cur, rfl, _⟩
  ·exact ⟨none, 0, by rw [h0]⟩
  ·exact ⟨_, _, rfl⟩
 go_wp2_with fail
 go_loopw [4, 12] (fun q i wr => ∃ (j : Nat) (L : List Nm), j ≤ l.length ∧ i = .int .i64 j ∧ L.length = l.length ∧ (∀ i (hi : i < l.length) (hi' : i < L.length), L[i].m = l[i].m ∧ (j ≤ i → L[i] = l[i]) ∧ (i < j → wr.ownsRow w.heap.size 53 6 L[i].v l[i].m.a.length (vcells l[i].m.a))) ∧
   (∀ i k (hi : i < L.length) (hk : k < L.length) g, i < k → k < j → L[i].v.ownBlock = some g → L[k].v.ownBlock ≠ some g) ∧ wr.ownsRow w.heap.size 36 10 (.slice a1 l.length c1) L.length (ncs L) ∧ Below w.heap.size w wr) (fun _ i _ => l.length - (intOf i).toNat)
 case atStart => exact ⟨0, l, Nat.zero_le _, rfl, rfl, fun i hi hi' => ⟨rfl, fun _ => rfl, fun h => by omega⟩, fun i k hi hk g h1 h2 => by omega, hown1, hB1⟩
 case round =>
  obtain ⟨j, L, hj, rfl, hLl, hLm, hLd, hown, hB⟩ := hrel
  by_cases hlt : j < l.length
  ·obtain ⟨g1, rfl⟩ : ∃ g1, a1 = some ⟨g1, 0, none⟩ := by
    rcases hown.2 with ⟨h1, h2⟩ | ⟨g, cap', cur, h1, _⟩
    ·omega
    ·injection h1 with e1; exact ⟨g, e1⟩
   rcases hown.2 with ⟨h1, _⟩ | ⟨g', cap', cur, h1, hbg, hg, hnc, hcm, hcs, htake⟩
   ·cases h1
   have hg1 : g1 = g' ∧ c1 = cap' := by injection h1 with e1 e2 e3; injection e1 with e1; injection e1 with e1 _ _; exact ⟨e1, e3⟩
   obtain ⟨rfl, rfl⟩ := hg1
   clear h1
   have hjL : j < L.length := by omega
   have hcj : wr.cell? ⟨g1, j * 10 + 9, none⟩ = some l[j].v := by
    have e := ncs_at L j hjL 9 (by decide)
    rw [(hLm j hlt hjL).2.1 (Nat.le_refl _)] at e
    rw [blk_cell hg, ← Array.getElem?_toList]
    have e2 : cur.toList[j * 10 + 9]? = (cur.toList.take (L.length * 10))[j * 10 + 9]? := by rw [List.getElem?_take, if_pos (by omega)]
    rw [e2, htake, e]
    rfl
   have hfz := blk_free hg
   have hoj := hok l[j] (List.getElem_mem hlt)
   have hCV := cloneV_any l[j].v l[j].m.a.length (vcells l[j].m.a) wr (VAt.row (hoj.1.below hB)) (vcells_one _) (by have := hoj.2; omega)
   have q0 : (0 : Int) ≤ (j : Int) := by omega
   have q1 : (j : Int) < (l.length : Int) := by omega
   obtain ⟨ja, jc, hje, _⟩ := hoj.1.form
   generalize hvj : l[j].v = vj at *
   subst hje
   go_wp2_with fail
   refine hCV.mono ?_
   rintro e w2 ⟨v2, rfl, ho2, hB2⟩
   obtain ⟨a2, n2, c2, rfl⟩ := owns_slice1 ho2
   clear hCV
   have hg2 := blk_below hB2 hg
   have hc2 := (hB2.cell (p := ⟨g1, j * 10 + 9, none⟩) (lt_of_block hg)).trans hcj
   have hf2 := blk_free hg2
   clear hfz hcj
   go_wp2_with fail
   go_roundw
   case rel =>
    have hmj := (hLm j hlt hjL).1
    have hz := hB.size
    have hg2' := blk_set hg2 (j * 10 + 9) (.slice a2 n2 c2)
    have ho2' := owns_set ho2 (a := ⟨g1, j * 10 + 9, none⟩) (fun e => by have x1 : wr.heap.size ≤ g1 := (World.ownsRow.lt ho2 _ e).1; have x2 := lt_of_block hg; omega) (.slice a2 n2 c2)
    refine ⟨j + 1, L.set j ⟨L[j].m, .slice a2 n2 c2⟩, by omega, by go_num, by simpa using hLl, fun i hi hi' => ?_, fun i k hi hk g h1 h2 => ?_, ?_, ?_⟩
    ·simp only [List.length_set] at hi'
     obtain ⟨m1, m2, m3⟩ := hLm i hi hi'
     by_cases hij : i = j
     ·subst hij
      simp only [List.getElem_set_self]
      exact ⟨hmj, fun h => by omega, fun _ => owns_base ho2' hz⟩
     ·rw [List.getElem_set_ne (Ne.symm hij)]
      refine ⟨m1, fun h => m2 (by omega), fun h => ?_⟩
      have ho := m3 (by omega)
      exact owns_set (owns_below ho hB2) (a := ⟨g1, j * 10 + 9, none⟩) (owns_not_block (owns_below ho hB2) hg2 (by decide)) _
    ·simp only [List.length_set] at hi hk
     have hij : i ≠ j := by omega
     by_cases hkj : k = j
     ·subst hkj
      simp only [List.getElem_set_self]
      rw [List.getElem_set_ne (Ne.symm hij)]
      intro h3 h4
      have ho := (hLm i (by simp at hi; omega) (by simp at hi; omega)).2.2 (by omega)
      have y1 := (World.ownsRow.lt ho _ h3).2
      have y2 := (World.ownsRow.lt ho2 _ h4).1
      omega
     ·rw [List.getElem_set_ne (Ne.symm hij), List.getElem_set_ne (Ne.symm hkj)]
      exact hLd i k hi hk g h1 (by omega)
    ·rw [List.length_set, ← ncs_set L j hjL]
     refine ⟨by rw [List.length_set, ncs_length], .inr ⟨g1, c1, _, by rw [hLl], hbg, hg2', hnc, hcm, by simpa using hcs, ?_⟩⟩
     rw [Array.toList_setIfInBounds, List.take_set, htake]
    ·exact (hB.trans (hB2.mono hz)).setCell (p := ⟨g1, j * 10 + 9, none⟩) hbg _
   case measure => simp [intOf]; omega
  ·go_wp2_with fail
   go_ret
   obtain rfl : j = l.length := by omega
   exact ⟨_, L, rfl, hLl, fun i hi hi' => ⟨(hLm i hi hi').1, (hLm i hi hi').2.2 hi⟩, fun i k hi hk g h1 => hLd i k hi hk g h1 (by omega), hown, hB⟩
end Go.Proofs.YtnnhnekfokbooaaGreatDoor

namespace Go.Proofs.YtnnhnekfokbooaaGreatDoor
open Go.RowKit
set_option linter.unusedSimpArgs false
set_option linter.unusedVariables false

theorem blk_drew {w : World} {b : Nat} {ob : Obj} (h : w.heap[b]? = some ob) : w.drew.heap[b]? = some ob := h
theorem owns_drew {w : World} {base : Nat} {e : TypeId} {size : Nat} {v : Value} {n : Nat} {xs : List Value} (h : w.ownsRow base e size v n xs) : w.drew.ownsRow base e size v n xs := h

set_option maxHeartbeats 4000000 in
set_option maxRecDepth 100000 in
theorem put_room (b o H : Nat) (cs : Array Value) (t : TypeId) (v : Value) (l : List Nm) (x : Nm) (w : World) (hb : w.heap[b]? = some (.cells cs t (0, 0))) (ho : cs[o]? = some v) (hown : w.ownsRow H 36 10 v l.length (ncs l)) (hne : v.ownBlock ≠ some b)
  (hx : x.ok w) (hl : l.length < 200) (hH : H ≤ w.heap.size) :
  Calls Tryz.prog 109 #[.pointer (some ⟨b, o, none⟩), .agg x.cells.toArray] w fun e w' => ∃ v', e = .returned (.tuple #[]) ∧ w'.heap[b]? = some (.cells (cs.setIfInBounds o v') t (0, 0)) ∧ w'.ownsRow H 36 10 v' (l.length + 1) (ncs (l ++ [x])) ∧ v'.ownBlock ≠ some b ∧ (∀ g, v'.ownBlock = some g → v.ownBlock = some g ∨ w.heap.size ≤ g) ∧
   Keeps (fun k => k = b ∨ v.ownBlock = some k) w w' := by
 obtain ⟨i0, hi, hz0, hz1, hz2⟩ := info_parts Tryz.infoMessage
 have hblt := lt_of_block hb
 have hc : w.cell? ⟨b, o, none⟩ = some v := by rw [blk_cell hb]; exact ho
 have hf : w.frozen? ⟨b, o, none⟩ = false := blk_free hb o
 have h1 := Nm.one hx
 obtain ⟨xa, xc, hxe, _⟩ := hx.1.form
 obtain ⟨va, vc, rfl⟩ : ∃ va vc, v = .slice va l.length vc := by
  rcases hown.2 with ⟨rfl, h0⟩ | ⟨g, cap, cur, rfl, _⟩
  ·exact ⟨none, 0, by rw [h0]⟩
  ·exact ⟨_, _, rfl⟩
 obtain ⟨⟨mk, mf, mt, mb, ms, ⟨mc, mq, mh, mx⟩, ma⟩, xv⟩ := x
 simp only [Nm.cells] at *
 subst hxe
 have hd : decide ((l.length : Int) + 1 ≤ 200) = true := by simp; omega
 have hR := fun W hc => room_any b o va l.length vc 1 W hc (by omega) (by decide) (by decide)
 rw [hd] at hR
 have hbb : l.length + 1 ≤ maxLen ∧ (l.length + 1) * 104 ≤ 140737488355328 := ⟨by unfold maxLen; omega, by omega⟩
 go_enter Tryz.func109, Tryz.ntmps109
 go_wp2_with fail
 refine (hR _ ?_).mono ?_
 ·rw [World.cell?_alloc_lt _ _ _ hblt]; exact hc
 rintro e w1 ⟨rfl, rfl⟩
 clear hR
 go_wp2_with fail
 go_region_law (refine step_append_lies _ rfl (.tmp 10) (.tmp 12) 50 rfl H 36 i0 _ 10 104 Tryz.underlying50 hi hz0 hz1 hz2 rfl (by decide) (.slice va l.length vc) l.length (ncs l) rfl (owns_alloc (owns_drew (owns_alloc hown _)) _) _ 1 1 [.int .i64 mk, .int .i64 mf, .int .i64 mt, .int .i64 mb, .int .i64 ms, .int .i64 mc, .int .i64 mq, .int .i64 mh, .string mx, .slice xa ma.length xc] rfl rfl (news_new _ _ (by simp) _ _) h1 (by decide) hbb.1 hbb.2 (by simp; omega) _ rfl ?_; intro g cap w2 hown2 hgr2 hat2 hlt2; have hb2 := blk_grown hgr2 (blk_alloc (blk_drew (blk_alloc hb _)) _) hne; have hc2 : w2.cell? ⟨b, o, none⟩ = some (.slice va l.length vc) := (blk_cell hb2 o).trans ho; have hf2 := blk_free hb2 o)
 all_goals
  go_wp2_with fail
  go_end0
  have hgb : (Value.slice (some ⟨g, 0, none⟩) (l.length + 1) cap).ownBlock ≠ some b := by
   intro e
   obtain rfl : g = b := by simpa [Value.ownBlock] using e
   rcases hat2 with h | h
   ·exact hne h
   ·simp at h; omega
  refine ⟨_, rfl, blk_set hb2 o _, owns_set ?_ hgb _, hgb, ?_, ?_⟩
  ·rw [ncs_append]; simpa [ncs, Nm.cells] using hown2
  ·intro g' hg'
   obtain rfl : g = g' := by simpa [Value.ownBlock] using hg'
   rcases hat2 with h | h
   ·exact .inl h
   ·right; simp at h; omega
  ·have K1 := (Keeps.ofGrown hgr2).mono (Q := fun k => k = b ∨ (Value.slice va l.length vc).ownBlock = some k) (fun k _ h => Or.inr h)
   refine Keeps.trans (Keeps.ofBelow ?_) (Keeps.trans K1 (Keeps.ofSet (Or.inl (Or.inl rfl)) _))
   exact ((((Below.refl _ w).alloc (Nat.le_refl _) _).drew).alloc (by simp) _)
end Go.Proofs.YtnnhnekfokbooaaGreatDoor
