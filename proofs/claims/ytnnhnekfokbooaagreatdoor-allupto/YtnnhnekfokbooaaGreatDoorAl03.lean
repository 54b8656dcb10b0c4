/- CodeF, CodeG, CodeH -/
import Derived.Test.YtnnhnekfokbooaaGreatDoorAl02
import Derived.Handy
set_option linter.unusedSimpArgs false
set_option linter.unusedVariables false
set_option maxRecDepth 100000
namespace Go.Proofs.YtnnhnekfokbooaaGreatDoor
section
open Go.RowKit
theorem Keeps.setAt {P : Nat → Prop} {w w1 : World} (h : Keeps P w w1) {a : Addr} (ha : P a.block ∨ w.heap.size ≤ a.block) (u : Value) : Keeps P w (w1.setCell a u) :=
 ⟨h.os, h.tape, h.output, by have := h.size; simpa [World.setCell] using this, fun k hk hn => by
  rw [Below.heap_setCell _ _ _ _ (fun e => by rcases ha with x | x; exact hn (e ▸ x); omega)]
  exact h.block k hk hn⟩
theorem has_any (b o : Nat) (ao : Option Addr) (n cap : Nat) (k : Int) (w : World) (hc : w.cell? (A6 b o) = some (.slice ao n cap)) :
  Calls Tryz.prog 98 #[.pointer (some (A6 b o)), I6 k] w fun e w' => e = .returned (.bool (decide (0 ≤ k) && decide (k < (n : Int)))) ∧ w' = w := by
 cases hk : decide (0 ≤ k)
 ·go_enter Tryz.func98, Tryz.ntmps98
  go_wp2
  go_ret
  exact ⟨rfl, rfl⟩
 ·go_enter Tryz.func98, Tryz.ntmps98
  go_wp2
  go_ret
  exact ⟨by simp, rfl⟩
set_option maxHeartbeats 4000000 in
theorem take_no (b o : Nat) (va : Option Addr) (n vc : Nat) (k : Int) (w : World) (hc : w.cell? (A6 b o) = some (.slice va n vc)) (hk : k < 0 ∨ (n : Int) ≤ k) :
  Calls Tryz.prog 69 #[.pointer (some (A6 b o)), I6 k] w fun e w' => e = .returned (.tuple #[.agg #[I6 0, I6 0, I6 0, I6 0, I6 0, I6 0, I6 0, I6 0, .string ⟨#[]⟩, .slice none 0 0], .bool false]) ∧ Below w.heap.size w w' := by
 have hblt : b < w.heap.size := World.block_lt_of_cell? w _ hc
 have hq := blk_new w (.cells #[I6 0, I6 0, I6 0, I6 0, I6 0, I6 0, I6 0, I6 0, .string ⟨#[]⟩, .slice none 0 0] 36)
 have hd : (decide (0 ≤ k) && decide (k < (n : Int))) = false := by
  rcases hk with h | h
  ·simp [show ¬ (0 ≤ k) from by omega]
  ·simp [show ¬ (k < (n : Int)) from by omega]
 have hH := fun W h => has_any b o va n vc k W h
 rw [hd] at hH
 go_enter Tryz.func69, Tryz.ntmps69
 go_wp2_with fail
 refine (hH _ ?_).mono ?_
 ·rw [World.cell?_alloc_lt _ _ _ hblt]; exact hc
 rintro e w1 ⟨rfl, rfl⟩
 go_wp2
 refine bodyPost_ret (v := .tuple #[.agg #[I6 0, I6 0, I6 0, I6 0, I6 0, I6 0, I6 0, I6 0, .string ⟨#[]⟩, .slice none 0 0], .bool false]) (by simp [results, Tryz.results69, go_sem]) rfl ⟨rfl, ?_⟩
 repeat refine Below.setCell ?_ (by simp) _
 exact (Below.refl _ w).alloc (Nat.le_refl _) _
set_option maxHeartbeats 8000000 in
theorem take_yes (b o H : Nat) (cs : Array Value) (t : TypeId) (v : Value) (l : List Nm) (k : Nat) (w : World) (hb : w.heap[b]? = some (.cells cs t (0, 0))) (ho : cs[o]? = some v) (hown : w.ownsRow H 36 10 v l.length (ncs l)) (hne : v.ownBlock ≠ some b)
  (hok : ∀ x ∈ l, x.ok w) (hk : k < l.length) (hl : l.length ≤ 1000) :
  Calls Tryz.prog 69 #[.pointer (some (A6 b o)), I6 (k : Int)] w fun e w' => ∃ v', e = .returned (.tuple #[.agg l[k].cells.toArray, .bool true]) ∧ w'.heap[b]? = some (.cells (cs.setIfInBounds o v') t (0, 0)) ∧ w'.ownsRow H 36 10 v' (l.length - 1) (ncs (l.eraseIdx k)) ∧ v'.ownBlock = v.ownBlock ∧
   Keeps (fun j => j = b ∨ v.ownBlock = some j) w w' := by
 have hblt := lt_of_block hb
 have hc : w.cell? (A6 b o) = some v := by rw [blk_cell hb]; exact ho
 have hD := fun W h1 h2 => delete_any H v l k W h1 hk hl h2
 have hvlt := fun g hg => (World.ownsRow.lt hown g hg).2
 rcases hown.2 with ⟨_, h0⟩ | ⟨g, cap, cur, rfl, hbg, hg, hnc, hcm, hcs, htake⟩
 ·omega
 have hrow : ∀ i, i < 10 → w.cell? (A6 g (k * 10 + i)) = l[k].cells[i]? := fun i hi => by
  rw [blk_cell hg, ← Array.getElem?_toList]
  have e2 : cur.toList[k * 10 + i]? = (cur.toList.take (l.length * 10))[k * 10 + i]? := by rw [List.getElem?_take, if_pos (by omega)]
  rw [e2, htake, ncs_at l k hk i hi]
 have hgl := lt_of_block hg
 have hx := hok l[k] (List.getElem_mem hk)
 obtain ⟨xa, xc, hxe, _⟩ := hx.1.form
 generalize l[k] = x at *
 obtain ⟨⟨mk, mf, mt, mb, ms, ⟨mc, mq, mh, mx⟩, ma⟩, xv⟩ := x
 simp only [Nm.cells] at *
 subst hxe
 generalize ma.length = xn at *
 have c0 : w.cell? (A6 g (k * 10)) = some (I6 mk) := by simpa [Nm.cells] using hrow 0 (by decide)
 have c1 : w.cell? (A6 g (k * 10 + 1)) = some (I6 mf) := by simpa [Nm.cells] using hrow 1 (by decide)
 have c2 : w.cell? (A6 g (k * 10 + 2)) = some (I6 mt) := by simpa [Nm.cells] using hrow 2 (by decide)
 have c3 : w.cell? (A6 g (k * 10 + 3)) = some (I6 mb) := by simpa [Nm.cells] using hrow 3 (by decide)
 have c4 : w.cell? (A6 g (k * 10 + 4)) = some (I6 ms) := by simpa [Nm.cells] using hrow 4 (by decide)
 have c5 : w.cell? (A6 g (k * 10 + 5)) = some (I6 mc) := by simpa [Nm.cells] using hrow 5 (by decide)
 have c6 : w.cell? (A6 g (k * 10 + 6)) = some (I6 mq) := by simpa [Nm.cells] using hrow 6 (by decide)
 have c7 : w.cell? (A6 g (k * 10 + 7)) = some (I6 mh) := by simpa [Nm.cells] using hrow 7 (by decide)
 have c8 : w.cell? (A6 g (k * 10 + 8)) = some (.string mx) := by simpa [Nm.cells] using hrow 8 (by decide)
 have c9 : w.cell? (A6 g (k * 10 + 9)) = some (.slice xa xn xc) := by simpa [Nm.cells] using hrow 9 (by decide)
 have q0 : (0 : Int) ≤ (k : Int) := by omega
 have q1 : (k : Int) < (l.length : Int) := by omega
 have hHd : (decide (0 ≤ (k : Int)) && decide ((k : Int) < (l.length : Int))) = true := by simp; omega
 have hH := fun W h => has_any b o (some (A6 g 0)) l.length cap (k : Int) W h
 rw [hHd] at hH
 go_enter Tryz.func69, Tryz.ntmps69
 go_wp2_with fail
 refine (hH _ ?_).mono ?_
 ·rw [World.cell?_alloc_lt _ _ _ hblt]; exact hc
 rintro e w1 ⟨rfl, rfl⟩
 clear hH
 go_wp2_with fail
 clear c0 c1 c2 c3 c4 c5 c6 c7 c8 c9 hrow
 refine (hD _ (owns_alloc (owns_alloc hown _) _) (fun y hy => ⟨((hok y hy).1.alloc _).alloc _, (hok y hy).2⟩)).mono ?_
 rintro e w1 ⟨v1, rfl, hown1, hob1, hK1⟩
 clear hD
 obtain ⟨v1a, v1n, v1c, rfl⟩ := owns_slice1 hown1
 have hgb : ¬ (Value.slice (some (A6 g 0)) l.length cap).ownBlock = some b := hne
 have hng : ∀ j, w.heap.size ≤ j → ¬ (Value.slice (some (A6 g 0)) l.length cap).ownBlock = some j := fun j hj e => by
  have : g = j := by simpa [Value.ownBlock] using e
  omega
 have hb1 := blk_keeps hK1 (blk_alloc (blk_alloc hb _) _) hgb
 have hr1 := blk_keeps hK1 (blk_alloc (blk_new w _) _) (hng _ (Nat.le_refl _))
 have hm1 := blk_keeps hK1 (blk_new (w.alloc _) _) (hng _ (by simp))
 simp only [World.size_alloc] at hm1
 have hc1 : w1.cell? (A6 b o) = some (.slice (some (A6 g 0)) l.length cap) := (blk_cell hb1 o).trans ho
 have hf1 := blk_free hb1 o
 have hrc := blk_cell hr1
 have hrf := blk_free hr1
 have hmc := blk_cell hm1
 have hz1 := hK1.size
 simp only [World.size_alloc] at hz1
 have hbn : b ≠ w.heap.size := by omega
 have hbn' : b ≠ w.heap.size + 1 := by omega
 go_wp2_with fail
 have hvb : (Value.slice v1a v1n v1c).ownBlock ≠ some b := by rw [hob1]; exact hne
 have hvr : ∀ j, w.heap.size ≤ j → (Value.slice v1a v1n v1c).ownBlock ≠ some j := fun j hj => by rw [hob1]; exact hng j hj
 refine bodyPost_ret (v := .tuple #[.agg #[I6 mk, I6 mf, I6 mt, I6 mb, I6 ms, I6 mc, I6 mq, I6 mh, .string mx, .slice xa xn xc], .bool true]) (by simp [results, Tryz.results69, go_sem, hrc]) rfl ⟨_, rfl, ?_, ?_, hob1, ?_⟩
 ·iterate 10 refine blk_set_other ?_ (by simp; omega) _
  exact blk_set hb1 o _
 ·iterate 10 refine owns_set ?_ (hvr _ (by simp)) _
  exact owns_set hown1 hvb _
 ·iterate 10 refine Keeps.setAt ?_ (.inr (by simp)) _
  refine Keeps.setAt ?_ (.inl (.inl rfl)) _
  refine Keeps.trans ?_ (hK1.mono (Q := fun j => j = b ∨ (Value.slice (some (A6 g 0)) l.length cap).ownBlock = some j) (fun j _ h => Or.inr h))
  exact Keeps.ofBelow (((Below.refl _ w).alloc (Nat.le_refl _) _).alloc (by simp) _)
end
section
open Go.RowKit
def idleV : Value := .iface 129 (.agg #[I6 0, I6 0])
theorem std_two (a b : Value) : (List.take Tryz.prog.types[127].size [a, b]).toArray = #[a, b] := by kernel_rfl
theorem meth_info_prep : (Tryz.prog.info? 152).map (fun i => (i.methods.find? (·.name == "synod/replica.below")).map (fun m => (m.path, m.func))) = some (some (#[⟨156, 0, true⟩], some (159, false))) := by kernel_rfl
theorem meth_prep (n pb : Nat) (kd bal : Int) (w : World) (hk : w.cell? (A6 pb 0) = some (I6 kd)) (hb : w.cell? (A6 pb 1) = some (I6 bal)) :
  (method (n + 1) 152 (P6 pb) "synod/replica.below").run Tryz.prog w = .ok (159, .agg #[I6 kd, I6 bal]) w := by
 have h0 := meth_info_prep
 cases hi : Tryz.prog.info? 152 with
 | none => rw [hi] at h0; cases h0
 | some i =>
  rw [hi] at h0
  simp only [Option.map_some, Option.some.injEq] at h0
  cases hm : i.methods.find? (·.name == "synod/replica.below") with
  | none => rw [hm] at h0; cases h0
  | some m =>
   rw [hm] at h0
   simp only [Option.map_some, Option.some.injEq, Prod.mk.injEq] at h0
   obtain ⟨hp, hf⟩ := h0
   have hr : w.rangeAt pb 0 [I6 kd, I6 bal] := fun j u hu => by
    rcases j with _ | _ | j
    ·simp at hu; subst hu; exact hk
    ·simp at hu; subst hu; exact hb
    ·simp at hu
   have hlv := run_loadVar_mid (P := Tryz.prog) w pb 0 127 [I6 kd, I6 bal] _ hr Tryz.underlying127 rfl (by kernel_rfl)
   unfold method
   simp [fieldPlace, hlv, Addr.add_mid, typeInfo, hi, hm, hp, hf, follow, run_underlying Tryz.underlying156, run_underlying Tryz.underlying127, Place.get, asAddr, receiverAt]
theorem meth_info_lead : (Tryz.prog.info? 160).map (fun i => (i.methods.find? (·.name == "synod/replica.below")).map (fun m => (m.path, m.func))) = some (some (#[⟨166, 0, true⟩], some (159, false))) := by kernel_rfl
theorem meth_lead (n pb : Nat) (kd bal : Int) (w : World) (hk : w.cell? (A6 pb 0) = some (I6 kd)) (hb : w.cell? (A6 pb 1) = some (I6 bal)) :
  (method (n + 1) 160 (P6 pb) "synod/replica.below").run Tryz.prog w = .ok (159, .agg #[I6 kd, I6 bal]) w := by
 have h0 := meth_info_lead
 cases hi : Tryz.prog.info? 160 with
 | none => rw [hi] at h0; cases h0
 | some i =>
  rw [hi] at h0
  simp only [Option.map_some, Option.some.injEq] at h0
  cases hm : i.methods.find? (·.name == "synod/replica.below") with
  | none => rw [hm] at h0; cases h0
  | some m =>
   rw [hm] at h0
   simp only [Option.map_some, Option.some.injEq, Prod.mk.injEq] at h0
   obtain ⟨hp, hf⟩ := h0
   have hr : w.rangeAt pb 0 [I6 kd, I6 bal] := fun j u hu => by
    rcases j with _ | _ | j
    ·simp at hu; subst hu; exact hk
    ·simp at hu; subst hu; exact hb
    ·simp at hu
   have hlv := run_loadVar_mid (P := Tryz.prog) w pb 0 127 [I6 kd, I6 bal] _ hr Tryz.underlying127 rfl (by kernel_rfl)
   unfold method
   simp [fieldPlace, hlv, Addr.add_mid, typeInfo, hi, hm, hp, hf, follow, run_underlying Tryz.underlying166, run_underlying Tryz.underlying127, Place.get, asAddr, receiverAt]
def RoleAt (w : World) (rv : Value) (bal : Int) : Prop :=
 (rv = idleV ∧ bal = 0) ∨ ∃ t pb kd, (t = 152 ∨ t = 160) ∧ rv = .iface t (P6 pb) ∧ w.cell? (A6 pb 0) = some (I6 kd) ∧ w.cell? (A6 pb 1) = some (I6 bal)
set_option maxHeartbeats 4000000 in
theorem yield_any (rb : Nat) (cs : Array Value) (rv : Value) (s n bal : Int) (w : World) (hb : w.heap[rb]? = some (.cells cs 137 (0, 0))) (h4 : cs[4]? = some (I6 s)) (hr : cs[181]? = some rv) (hrole : RoleAt w rv bal) :
  Calls Tryz.prog 135 #[P6 rb, I6 n] w fun e w' => e = .returned (.tuple #[]) ∧ w'.heap[rb]? = some (.cells ((if bal < n then cs.setIfInBounds 181 idleV else cs).setIfInBounds 4 (I6 (max s n))) 137 (0, 0)) ∧ Keeps (fun k => k = rb) w w' := by
 have hlt := lt_of_block hb
 have c4 : w.cell? (A6 rb 4) = some (I6 s) := (blk_cell hb 4).trans h4
 have cr : w.cell? (A6 rb 181) = some rv := (blk_cell hb 181).trans hr
 rcases hrole with ⟨rfl, rfl⟩ | ⟨t, pb, kd, ht, rfl, hk, hba⟩
 ·simp only [idleV] at cr hr
  go_enter Tryz.func135, Tryz.ntmps135
  go_wp2_with fail
  rw [std_two]
  refine (below_any 0 0 n w).mono ?_
  rintro e w1 ⟨rfl, hB1⟩
  have hb1 := blk_below hB1 hb
  have hs1 := (blk_cell hb1 4).trans h4
  have hr1 := (blk_cell hb1 181).trans hr
  have hf1 := blk_free hb1
  by_cases hlt2 : 0 < n
  ·have hd : decide (0 < n) = true := by simpa using hlt2
   rw [hd]
   go_wp2_with fail
   all_goals
    go_end0
    refine ⟨rfl, ?_, ((Keeps.ofBelow (P := fun k => k = rb) hB1).setAt (a := (A6 rb 181)) (.inl rfl) _).setAt (a := (A6 rb 4)) (.inl rfl) _⟩
    try rw [if_pos hlt2]
    have X := blk_set (blk_set hb1 181 idleV) 4 (I6 (max s n))
    first
     | (have e : max s n = n := by omega
        rw [e] at X ⊢
        exact X)
     | (have e : max s n = s := by omega
        rw [e] at X ⊢
        exact X)
  ·have hd : decide (0 < n) = false := by simpa using hlt2
   rw [hd]
   go_wp2_with fail
   all_goals
    go_end0
    refine ⟨rfl, ?_, (Keeps.ofBelow (P := fun k => k = rb) hB1).setAt (a := (A6 rb 4)) (.inl rfl) _⟩
    try rw [if_neg (by omega)]
    have X := blk_set hb1 4 (I6 (max s n))
    first
     | (have e : max s n = n := by omega
        rw [e] at X ⊢
        exact X)
     | (have e : max s n = s := by omega
        rw [e] at X ⊢
        exact X)
 ·rcases ht with rfl | rfl
  ·have hm := fun k => meth_prep k pb kd bal w hk hba
   go_enter Tryz.func135, Tryz.ntmps135
   go_wp2_with fail
   clear hm
   refine (below_any kd bal n w).mono ?_
   rintro e w1 ⟨rfl, hB1⟩
   have hb1 := blk_below hB1 hb
   have hs1 := (blk_cell hb1 4).trans h4
   have hr1 := (blk_cell hb1 181).trans hr
   have hf1 := blk_free hb1
   by_cases hlt2 : bal < n
   ·have hd : decide (bal < n) = true := by simpa using hlt2
    rw [hd]
    go_wp2_with fail
    all_goals
     go_end0
     refine ⟨rfl, ?_, ((Keeps.ofBelow (P := fun k => k = rb) hB1).setAt (a := (A6 rb 181)) (.inl rfl) _).setAt (a := (A6 rb 4)) (.inl rfl) _⟩
     try rw [if_pos hlt2]
     have X := blk_set (blk_set hb1 181 idleV) 4 (I6 (max s n))
     first
      | (have e : max s n = n := by omega
         rw [e] at X ⊢
         exact X)
      | (have e : max s n = s := by omega
         rw [e] at X ⊢
         exact X)
   ·have hd : decide (bal < n) = false := by simpa using hlt2
    rw [hd]
    go_wp2_with fail
    all_goals
     go_end0
     refine ⟨rfl, ?_, (Keeps.ofBelow (P := fun k => k = rb) hB1).setAt (a := (A6 rb 4)) (.inl rfl) _⟩
     try rw [if_neg (by omega)]
     have X := blk_set hb1 4 (I6 (max s n))
     first
      | (have e : max s n = n := by omega
         rw [e] at X ⊢
         exact X)
      | (have e : max s n = s := by omega
         rw [e] at X ⊢
         exact X)
  ·have hm := fun k => meth_lead k pb kd bal w hk hba
   go_enter Tryz.func135, Tryz.ntmps135
   go_wp2_with fail
   clear hm
   refine (below_any kd bal n w).mono ?_
   rintro e w1 ⟨rfl, hB1⟩
   have hb1 := blk_below hB1 hb
   have hs1 := (blk_cell hb1 4).trans h4
   have hr1 := (blk_cell hb1 181).trans hr
   have hf1 := blk_free hb1
   by_cases hlt2 : bal < n
   ·have hd : decide (bal < n) = true := by simpa using hlt2
    rw [hd]
    go_wp2_with fail
    all_goals
     go_end0
     refine ⟨rfl, ?_, ((Keeps.ofBelow (P := fun k => k = rb) hB1).setAt (a := (A6 rb 181)) (.inl rfl) _).setAt (a := (A6 rb 4)) (.inl rfl) _⟩
     try rw [if_pos hlt2]
     have X := blk_set (blk_set hb1 181 idleV) 4 (I6 (max s n))
     first
      | (have e : max s n = n := by omega
         rw [e] at X ⊢
         exact X)
      | (have e : max s n = s := by omega
         rw [e] at X ⊢
         exact X)
   ·have hd : decide (bal < n) = false := by simpa using hlt2
    rw [hd]
    go_wp2_with fail
    all_goals
     go_end0
     refine ⟨rfl, ?_, (Keeps.ofBelow (P := fun k => k = rb) hB1).setAt (a := (A6 rb 4)) (.inl rfl) _⟩
     try rw [if_neg (by omega)]
     have X := blk_set hb1 4 (I6 (max s n))
     first
      | (have e : max s n = n := by omega
         rw [e] at X ⊢
         exact X)
      | (have e : max s n = s := by omega
         rw [e] at X ⊢
         exact X)
end
section
open Go.RowKit
def nums (n : Nat) : List Value := (List.range n).map fun (i : Nat) => I6 (i : Int)
theorem nums_length (n : Nat) : (nums n).length = n := by simp [nums]
theorem nums_at (n i : Nat) (h : i < n) : (nums n)[i]? = some (I6 (i : Int)) := by simp [nums, h]
theorem Tryz.infoInt : (Tryz.prog.info? 3).map (fun i => (i.zero, i.size, i.bytes)) = some (some (I6 0), 1, 8) := by kernel_rfl
set_option maxHeartbeats 4000000 in
theorem all_any (rb n : Nat) (w : World) (hc : w.cell? (A6 rb 1) = some (I6 (n : Int))) (hn : n ≤ 1000) :
  Calls Tryz.prog 91 #[P6 rb] w fun e w' => ∃ v', e = .returned v' ∧ w'.ownsRow w.heap.size 3 1 v' n (nums n) ∧ Below w.heap.size w w' := by
 obtain ⟨i0, hi, hz0, hz1, hz2⟩ := info_parts Tryz.infoInt
 have hlt := World.block_lt_of_cell? w _ hc
 go_enter Tryz.func91, Tryz.ntmps91
 go_wp2_with (at_make; refine wpList_make_full _ rfl (.tmp 8) (.tmp 8) 158 rfl w.heap.size 3 i0 _ 1 Tryz.underlying158 hi hz0 hz1 _ _ _ _ n rfl rfl rfl rfl (by rw [hz2]; omega) (by unfold maxLen; omega) (Nat.le_refl _) ?_; intro w1 hown1 hgr1)
 obtain ⟨cur, hg1, hcs⟩ : ∃ cur : Array Value, w1.heap[w.heap.size]? = some (.cells cur 3 (0, 0)) ∧ cur.size = n := by
  rcases hown1.2 with ⟨h1, _⟩ | ⟨g, cap', cur, h1, _, h2, _, _, h3, _⟩
  ·cases h1
  ·cases h1; exact ⟨cur, h2, by simpa using h3⟩
 have hB1 : Below w.heap.size w w1 := ⟨hgr1.os, hgr1.tape, hgr1.output, hgr1.size, fun k hk => hgr1.block k hk (by simp)⟩
 clear hown1 hgr1
 go_loopw [4, 12] (fun q i wr => ∃ (j : Nat) (cz : Array Value), j ≤ n ∧ i = I6 j ∧ wr.heap[w.heap.size]? = some (.cells cz 3 (0, 0)) ∧ cz.size = n ∧ (∀ x, x < j → cz[x]? = some (I6 (x : Int))) ∧ Below w.heap.size w wr) (fun _ i _ => n - (intOf i).toNat)
 case atStart => exact ⟨0, cur, Nat.zero_le _, rfl, hg1, hcs, fun x hx => by omega, hB1⟩
 case round =>
  obtain ⟨j, cz, hj, rfl, hg, hsz, hx, hB⟩ := hrel
  by_cases hjn : j < n
  ·have hc0 : wr.cell? (A6 w.heap.size j) = some cz[j] := by rw [blk_cell hg]; exact Array.getElem?_eq_getElem (by omega)
   have hf0 := blk_free hg
   generalize cz[j] = y at *
   have q0 : (0 : Int) ≤ (j : Int) := by omega
   have q1 : (j : Int) < (n : Int) := by omega
   go_wp2_with fail
   go_roundw
   case rel =>
    refine ⟨j + 1, _, by omega, by go_num, blk_set hg j (I6 (j : Int)), by simpa using hsz, fun x hxj => ?_, hB.setCell (by simp) _⟩
    by_cases e : x = j
    ·subst e
     rw [Array.getElem?_setIfInBounds_self_of_lt (by omega)]
    ·rw [Array.getElem?_setIfInBounds_ne (by omega)]
     exact hx x (by omega)
   case measure => simp [intOf]; omega
  ·obtain rfl : j = n := by omega
   go_wp2_with fail
   go_ret
   refine ⟨_, rfl, ⟨by simp [nums_length], .inr ⟨w.heap.size, j, cz, rfl, Nat.le_refl _, hg, Nat.le_refl _, by unfold maxLen; omega, by omega, ?_⟩⟩, hB⟩
   rw [Nat.mul_one, List.take_of_length_le (by simp; omega)]
   refine List.ext_getElem? fun x => ?_
   by_cases hxj : x < j
   ·rw [Array.getElem?_toList, hx x hxj, nums_at j x hxj]
   ·rw [List.getElem?_eq_none (by simp; omega), List.getElem?_eq_none (by rw [nums_length]; omega)]
end
end Go.Proofs.YtnnhnekfokbooaaGreatDoor
