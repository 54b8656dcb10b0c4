/- The law's own marks: mark, voted. -/
import Derived.Test.YtnnhnekfokbooaaGreatDoorMarks
import Derived.Test.YtnnhnekfokbooaaGreatDoorWalkD
import Derived.Deep.MidRow
import Derived.Deep.DeepCutAuto
import Derived.Deep.CutBlock
import Derived.BigQuiet
import Derived.WalkKit
import Derived.WalkSpells
import Derived.WalkLawsBesides
namespace Go.Proofs.YtnnhnekfokbooaaGreatDoor
open Go.RowKit
set_option linter.unusedSimpArgs false
set_option linter.unusedVariables false

/-- w' is w but for new blocks and for the blocks of P. -/
structure Keeps (P : Nat → Prop) (w w' : World) : Prop where
  os : w'.os = w.os
  tape : w'.tape = w.tape
  output : w'.output = w.output
  size : w.heap.size ≤ w'.heap.size
  block : ∀ k, k < w.heap.size → ¬ P k → w'.heap[k]? = w.heap[k]?
theorem Keeps.refl (P : Nat → Prop) (w : World) : Keeps P w w := ⟨rfl, rfl, rfl, Nat.le_refl _, fun _ _ _ => rfl⟩
theorem Keeps.trans {P : Nat → Prop} {w w1 w2 : World} (h : Keeps P w w1) (k : Keeps P w1 w2) : Keeps P w w2 :=
  ⟨k.os.trans h.os, k.tape.trans h.tape, k.output.trans h.output, Nat.le_trans h.size k.size, fun b hb hn => (k.block b (Nat.lt_of_lt_of_le hb h.size) hn).trans (h.block b hb hn)⟩
theorem Keeps.mono {P Q : Nat → Prop} {w w' : World} (h : Keeps P w w') (hq : ∀ k, k < w.heap.size → P k → Q k) : Keeps Q w w' :=
  ⟨h.os, h.tape, h.output, h.size, fun b hb hn => h.block b hb (fun p => hn (hq b hb p))⟩
theorem Keeps.ofKp {o o' : Option Nat} {w w' : World} (h : Kp o o' w w') : Keeps (fun k => o = some k) w w' := ⟨h.os, h.tape, h.output, h.size, fun b hb hn => h.block b hb hn⟩
theorem Keeps.ofBelow {P : Nat → Prop} {w w' : World} (h : Below w.heap.size w w') : Keeps P w w' := ⟨h.os, h.tape, h.output, h.size, fun b hb _ => h.block b hb⟩
theorem Keeps.ofGrown {o : Option Nat} {w w' : World} (h : w.grownBy w' o) : Keeps (fun k => o = some k) w w' := ⟨h.os, h.tape, h.output, h.size, fun b hb hn => h.block b hb (fun e => hn e.symm)⟩
theorem Keeps.ofSet {P : Nat → Prop} {w : World} {a : Addr} (ha : P a.block ∨ w.heap.size ≤ a.block) (u : Value) : Keeps P w (w.setCell a u) :=
  ⟨rfl, rfl, rfl, by simp [World.setCell], fun b hb hn => Below.heap_setCell _ _ _ _ (fun e => by rcases ha with h | h; exact hn (e ▸ h); omega)⟩
theorem Keeps.ofAlloc {P : Nat → Prop} (w : World) (o : Obj) : Keeps P w (w.alloc o) := Keeps.ofBelow ((Below.refl _ w).alloc (Nat.le_refl _) o)
theorem blk_keeps {P : Nat → Prop} {w w' : World} (h : Keeps P w w') {b : Nat} {ob : Obj} (hb : w.heap[b]? = some ob) (hn : ¬ P b) : w'.heap[b]? = some ob := by
  rw [h.block b (lt_of_block hb) hn]; exact hb
theorem owns_keeps {P : Nat → Prop} {w w' : World} {base : Nat} {e : TypeId} {size : Nat} {v : Value} {n : Nat} {xs : List Value} (h : w.ownsRow base e size v n xs) (hk : Keeps P w w') (hne : ∀ g, v.ownBlock = some g → ¬ P g) : w'.ownsRow base e size v n xs := by
  refine ⟨h.1, ?_⟩
  rcases h.2 with h2 | ⟨g, cap, cur, rfl, h3, h4, h5⟩
  · exact .inl h2
  · exact .inr ⟨g, cap, cur, rfl, h3, blk_keeps hk h4 (hne g rfl), h5⟩

/-- The cells of a vote with the k-th mark. -/
def mvx (m : Int) : List Value := [.int .i64 m, .int .i64 0, .int .i64 0, .int .i64 0, .int .i64 0, .string ⟨#[]⟩]
def mv (k : Nat) : List Value := mvx (-1000 - ((k / 4 : Nat) : Int))

theorem mark_any (k : Nat) (w : World) (hk : (k : Int) ≤ 1000000000000000) : Calls Tryz.prog 15 #[.int .i64 (k : Int)] w fun e w' => e = .returned (.int .i64 (-1000 - ((k / 4 : Nat) : Int))) ∧ w' = w := by
  have e4 : Int.tdiv (k : Int) 4 = ((k / 4 : Nat) : Int) := by rw [Int.tdiv_eq_ediv_of_nonneg (by omega)]; omega
  have hd : ((k / 4 : Nat) : Int) ≤ 1000000000000000 := by omega
  go_enter Tryz.func15, Tryz.ntmps15
  go_wp2
  go_ret
  refine ⟨?_, rfl⟩
  first | rfl | (congr 2; omega) | (simp [e4]; done)

theorem take_set (cur : Array Value) (n : Nat) (v : Value) (h : n < cur.size) : (cur.setIfInBounds n v).toList.take (n + 1) = cur.toList.take n ++ [v] := by
  rw [Array.toList_setIfInBounds, List.take_add_one, List.take_set_of_le (Nat.le_refl n), List.getElem?_set_self (by simpa using h)]
  rfl
theorem take_set6 (cur : Array Value) (n : Nat) (a b c d e f : Value) (h : n + 6 ≤ cur.size) :
    ((((((cur.setIfInBounds n a).setIfInBounds (n + 1) b).setIfInBounds (n + 2) c).setIfInBounds (n + 3) d).setIfInBounds (n + 4) e).setIfInBounds (n + 5) f).toList.take (n + 6) = cur.toList.take n ++ [a, b, c, d, e, f] := by
  rw [take_set _ (n + 5) _ (by simp; omega), take_set _ (n + 4) _ (by simp; omega), take_set _ (n + 3) _ (by simp; omega), take_set _ (n + 2) _ (by simp; omega), take_set _ (n + 1) _ (by simp; omega), take_set _ n _ (by omega)]
  simp

/-- A store of many cells into a block that is known whole. -/
theorem setCells_self (g : Nat) (t : TypeId) : ∀ (l : List Value) (o : Nat) (w : World) (cur : Array Value), w.heap[g]? = some (.cells cur t (0, 0)) → o + l.length ≤ cur.size →
    (w.setCells g o l).heap[g]? = some (.cells (cur.toList.take o ++ l ++ cur.toList.drop (o + l.length)).toArray t (0, 0))
  | [], o, w, cur, h, _ => by simpa [World.setCells] using h
  | v :: r, o, w, cur, h, hl => by
    simp only [List.length_cons] at hl ⊢
    rw [World.setCells, setCells_self g t r (o + 1) _ _ (blk_set h o v) (by simp; omega)]
    congr 3
    rw [take_set cur o v (by omega), Array.toList_setIfInBounds, List.drop_set_of_lt (by omega)]
    simp only [List.append_assoc, List.cons_append, List.nil_append]
    congr 4
    omega
theorem setCells_other (g : Nat) : ∀ (l : List Value) (o : Nat) (w : World) (b : Nat), b ≠ g → (w.setCells g o l).heap[b]? = w.heap[b]?
  | [], _, _, _, _ => rfl
  | v :: r, o, w, b, h => by rw [World.setCells, setCells_other g r (o + 1) _ b h, Below.heap_setCell _ _ _ _ h]
theorem Keeps.ofSets {P : Nat → Prop} (g : Nat) (hg : P g) : ∀ (l : List Value) (o : Nat) (w : World), Keeps P w (w.setCells g o l)
  | [], _, w => Keeps.refl P w
  | v :: r, o, w => (Keeps.ofSet (a := ⟨g, o, none⟩) (.inl hg) v).trans (Keeps.ofSets g hg r (o + 1) _)
/-- One mark more, stored behind those that are there. -/
theorem MK.store {w : World} {base : Nat} {e : TypeId} {x : List Value} {g j cap n : Nat} (h : MK w base e x (.slice (some ⟨g, 0, none⟩) j cap) j) (hj : j < n) (hn : n ≤ cap) :
    MK (w.setCells g (j * x.length) x) base e x (.slice (some ⟨g, 0, none⟩) (j + 1) cap) (j + 1) := by
  refine ⟨reps_length _ _, ?_⟩
  rcases h.2 with ⟨h1, _⟩ | ⟨g', cap', cur, h1, hbg, hg, hnc, hcm, hcs, htake⟩
  · cases h1
  cases h1
  have hsz : j * x.length + x.length ≤ cur.size := by
    rw [hcs, ← Nat.succ_mul]; exact Nat.mul_le_mul_right _ (by omega)
  refine .inr ⟨g, cap, _, rfl, hbg, setCells_self g e x (j * x.length) w cur hg hsz, by omega, hcm, ?_, ?_⟩
  · have e1 : (cur.toList.take (j * x.length) ++ x ++ cur.toList.drop (j * x.length + x.length)).length = cur.size := by
      simp only [List.length_append, List.length_take, List.length_drop, Array.length_toList]
      omega
    rw [List.size_toArray, e1, hcs]
  · rw [List.toList_toArray, htake]
    have e2 : reps j x ++ x = reps (j + 1) x := by rw [reps_add j 1]; simp [reps]
    rw [e2, ← reps_length (j + 1) x]
    exact List.take_left
theorem MK.zero {w : World} {base : Nat} {e : TypeId} {x : List Value} {ao : Option Addr} {n cap : Nat} {xs : List Value} (h : w.ownsRow base e x.length (.slice ao n cap) n xs) (hnz : ao = none → cap = 0) : MK w base e x (.slice ao 0 cap) 0 := by
  refine ⟨by simp [reps], ?_⟩
  rcases h.2 with ⟨h1, h2⟩ | ⟨g, cap', cur, h1, h3, h4, h5, h6, h7, h8⟩
  · cases h1; exact .inl ⟨rfl, rfl⟩
  · cases h1; exact .inr ⟨g, cap, cur, rfl, h3, h4, Nat.zero_le _, h6, h7, by simp [reps]⟩
theorem owns_slice1 {w : World} {base : Nat} {e : TypeId} {size : Nat} {v : Value} {n : Nat} {xs : List Value} (h : w.ownsRow base e size v n xs) : ∃ ao k cap, v = .slice ao k cap := by
  rcases h.2 with ⟨rfl, _⟩ | ⟨g, cap, cur, rfl, _⟩
  · exact ⟨none, 0, 0, rfl⟩
  · exact ⟨_, _, _, rfl⟩
theorem Tryz.infoVotes : (Tryz.prog.info? 34).map (fun i => (i.zero, i.size, i.bytes)) = some (some (.slice none 0 0), 1, 24) := by kernel_rfl

set_option maxHeartbeats 8000000 in
set_option maxRecDepth 100000 in
theorem voted_any (wb H : Nat) (wl wn wv wp v : Value) (n : Nat) (xs vs : List Value) (w : World) (hblk : w.heap[wb]? = some (.cells #[wl, wn, wv, wp] 31 (0, 0)))
    (hvs : w.ownsRow H 34 1 wv vs.length vs) (hv : w.ownsRow H 53 6 v n xs) (hl : vs.length ≤ 5000000000000) (hn : n ≤ 1000000) (hH : H ≤ w.heap.size) :
    Calls Tryz.prog 24 #[.pointer (some ⟨wb, 0, none⟩), v] w fun e w' => ∃ wv' a b c, e = .returned (.tuple #[]) ∧ w'.heap[wb]? = some (.cells #[wl, wn, wv', wp] 31 (0, 0)) ∧
      w'.ownsRow H 34 1 wv' (vs.length + 4) (vs ++ [v, a, b, c]) ∧ MK w' H 53 (mv vs.length) v n ∧ MK w' H 53 (mv vs.length) a (n + 1) ∧ MK w' H 53 (mv vs.length) b (n + 2) ∧ MK w' H 53 (mv vs.length) c (n + 3) ∧
      Keeps (fun k => k = wb ∨ v.ownBlock = some k ∨ wv.ownBlock = some k) w w' := by
  obtain ⟨i0, hi, hz0, hz1, hz2⟩ := info_parts Tryz.infoVote
  obtain ⟨j0, hj0, hy0, hy1, hy2⟩ := info_parts Tryz.infoVotes
  obtain ⟨ao, cap, rfl, hao⟩ : ∃ ao cap, v = .slice ao n cap ∧ (ao = none → cap = 0) := by
    rcases hv.2 with ⟨rfl, rfl⟩ | ⟨g, cap, cur, rfl, _⟩
    · exact ⟨none, 0, rfl, fun _ => rfl⟩
    · exact ⟨_, cap, rfl, fun h => by cases h⟩
  obtain ⟨vo, vn, vc, rfl⟩ := owns_slice1 hvs
  obtain rfl : vn = vs.length := by
    rcases hvs.2 with ⟨h1, h2⟩ | ⟨g, cap, cur, h1, _⟩
    · cases h1; exact h2.symm
    · cases h1; rfl
  have hc := blk_cell hblk
  have hwlt := lt_of_block hblk
  have hvwb : (Value.slice ao n cap).ownBlock ≠ some wb := owns_not_block hv hblk (by decide)
  have hwvwb : (Value.slice vo vs.length vc).ownBlock ≠ some wb := owns_not_block hvs hblk (by decide)
  have hvlt := fun g hb => (hv.lt g hb).2
  generalize hL : vs.length = L at *
  have HM : Hid (mv L = mvx (-1000 - ((L / 4 : Nat) : Int))) := rfl
  have hmk0 := mark_any L w (by omega)
  generalize (-1000 - ((L / 4 : Nat) : Int)) = mk at *
  rw [HM.out]
  go_enter Tryz.func24, Tryz.ntmps24
  go_wp2_with fail
  refine hmk0.mono ?_
  rintro e w' ⟨rfl, rfl⟩
  clear hmk0
  go_wp2_with fail
  have hM0 : MK w' H 53 (mvx mk) (.slice ao 0 cap) 0 := MK.zero hv hao
  go_loopw [5] (fun i wr => ∃ j : Nat, j ≤ n ∧ i = .int .i64 j ∧ MK wr H 53 (mvx mk) (.slice ao j cap) j ∧ wr.heap[w'.heap.size]? = some (.cells #[.int .i64 mk, .int .i64 0, .int .i64 0, .int .i64 0, .int .i64 0, .string ⟨#[]⟩] 53 (0, 0)) ∧ Keeps (fun k => (Value.slice ao n cap).ownBlock = some k) w' wr) (fun i _ => n - (intOf i).toNat)
  case atStart => exact ⟨0, Nat.zero_le _, rfl, owns_alloc hM0 _, blk_new _ _, Keeps.ofAlloc _ _⟩
  case round =>
    obtain ⟨j, hj, rfl, hM, hx, hK⟩ := hrel
    have hxc := blk_cell hx
    by_cases hlt : j < n
    · obtain ⟨g, rfl⟩ : ∃ g, ao = some ⟨g, 0, none⟩ := by
        rcases hv.2 with ⟨h1, h2⟩ | ⟨g, cap', cur, h1, _⟩
        · omega
        · cases h1; exact ⟨g, rfl⟩
      rcases hM.2 with ⟨h1, _⟩ | ⟨g', cap', cur, h1, hbg, hg, hnc, hcm, hcs, htake⟩
      · cases h1
      cases h1
      have hgf := blk_free hg
      have hcapn : n ≤ cap := by rcases hv.2 with ⟨h1, _⟩ | ⟨g1, c1, u1, h1, _, _, h2, _⟩ <;> cases h1; exact h2
      have hsz : j * 6 + 6 ≤ cur.size := by rw [hcs]; show j * 6 + 6 ≤ cap * 6; omega
      have hth : Hid (wr.there g (j * 6) 6) := show World.there wr g (j * 6) 6 from fun k hk => ⟨by rw [blk_cell hg, Array.getElem?_eq_getElem (by omega)]; rfl, hgf _⟩
      have hi6 : Hid ((Tryz.prog.info? 53).map (·.size) = some (#[Value.int .i64 mk, .int .i64 0, .int .i64 0, .int .i64 0, .int .i64 0, .string ⟨#[]⟩] : Array Value).size) := show _ = _ from by rw [hi]; simp [hz1]
      have h16 : Hid ((#[Value.int .i64 mk, .int .i64 0, .int .i64 0, .int .i64 0, .int .i64 0, .string ⟨#[]⟩] : Array Value).all (·.oneCell') = true) := show _ = _ from by simp [Value.oneCell']
      clear hgf
      have hgx : g ≠ w'.heap.size := by have := hvlt g rfl; omega
      go_upto_region 3 with (refine wpList_store_mid rfl 53 (.tmp 25) (.tmp 24) rfl g (j * 6) #[.int .i64 mk, .int .i64 0, .int .i64 0, .int .i64 0, .int .i64 0, .string ⟨#[]⟩] rfl rfl hth.out hi6.out h16.out ?_; simp only [Act.put])
      go_wp2_with fail
      go_roundw
      case rel =>
        exact ⟨j + 1, by omega, by go_num, MK.store (x := mvx mk) hM hlt hcapn, by rw [setCells_other g _ _ _ _ (Ne.symm hgx)]; exact hx, hK.trans (Keeps.ofSets (P := fun k => (Value.slice (some ⟨g, 0, none⟩) n cap).ownBlock = some k) g rfl _ _ _)⟩
      case measure => simp [intOf]; omega
    · obtain rfl : j = n := by omega
      have hwlt2 : w'.heap.size < wr.heap.size := lt_of_block hx
      have hbw : wr.heap[wb]? = some (.cells #[wl, wn, .slice vo L vc, wp] 31 (0, 0)) := by rw [hK.block wb hwlt hvwb]; exact hblk
      have hap : ∀ g, (Value.slice vo L vc).ownBlock = some g → ¬ (Value.slice ao j cap).ownBlock = some g := fun g hg => owns_apart hvs hv (by decide) hg
      have hvsr := owns_keeps hvs hK hap
      have hsz0 := hK.size
      have h1x : ∀ u ∈ mvx mk, u.oneCell' = true := by intro u hu; simp [mvx] at hu; rcases hu with rfl | rfl | rfl <;> rfl
      have hs6 : 0 < (mvx mk).length := by show 0 < 6; decide
      have hb1 : j + 1 ≤ maxLen ∧ (j + 1) * 56 ≤ 140737488355328 := ⟨by unfold maxLen; omega, by omega⟩
      have hb2 : j + 2 ≤ maxLen ∧ (j + 2) * 56 ≤ 140737488355328 := ⟨by unfold maxLen; omega, by omega⟩
      have hb3 : j + 3 ≤ maxLen ∧ (j + 3) * 56 ≤ 140737488355328 := ⟨by unfold maxLen; omega, by omega⟩
      have hnx : (Value.slice ao j cap).ownBlock ≠ some w'.heap.size := fun e => by have := hvlt _ e; omega
      go_upto_region 6 with (at_builtin; refine wpList_append_mark _ rfl (.tmp 26) (.tmp 28) 34 rfl H 53 i0 _ (mvx mk) 56 Tryz.underlying34 hi hz0 hz1 hz2 rfl hs6 (.slice ao j cap) j rfl (owns_alloc hM _) _ 1 1 rfl (news_new _ _ (by simp) _ _) h1x (by decide) hb1.1 hb1.2 (by simp; omega) ?_; intro g1 cap1 w1 hM1 hgr1 hat1 hlt1 hall1)
      have hMl1 := hall1 _ _ (owns_alloc hM _)
      have hx1 := blk_grown hgr1 (blk_alloc hx _) hnx
      have hbw1 := blk_grown hgr1 (blk_alloc hbw _) hvwb
      have hvs1 := owns_grown (owns_alloc hvsr _) hgr1 hap
      have hK1 := hK.trans ((Keeps.ofAlloc _ _).trans (Keeps.ofGrown hgr1))
      have hsi1 := hK1.size
      have hxc1 := blk_cell hx1
      clear hall1 hgr1 hxc
      go_upto_region 7 with (at_builtin; refine wpList_append_mark _ rfl (.tmp 30) (.tmp 33) 34 rfl H 53 i0 _ (mvx mk) 56 Tryz.underlying34 hi hz0 hz1 hz2 rfl hs6 (.slice ao j cap) j rfl (owns_alloc hMl1 _) _ 2 2 rfl (news_new _ _ (by simp) _ _) h1x (by decide) hb2.1 hb2.2 (by simp; omega) ?_; intro g2 cap2 w2 hM2 hgr2 hat2 hlt2 hall2)
      have hMl2 := hall2 _ _ (owns_alloc hMl1 _)
      have hM1x := hall2 _ _ (owns_alloc hM1 _)
      have hx2 := blk_grown hgr2 (blk_alloc hx1 _) hnx
      have hbw2 := blk_grown hgr2 (blk_alloc hbw1 _) hvwb
      have hvs2 := owns_grown (owns_alloc hvs1 _) hgr2 hap
      have hK2 := hK1.trans ((Keeps.ofAlloc _ _).trans (Keeps.ofGrown hgr2))
      have hsi2 := hK2.size
      have hxc2 := blk_cell hx2
      clear hall2 hgr2 hxc1
      go_upto_region 8 with (at_builtin; refine wpList_append_mark _ rfl (.tmp 35) (.tmp 39) 34 rfl H 53 i0 _ (mvx mk) 56 Tryz.underlying34 hi hz0 hz1 hz2 rfl hs6 (.slice ao j cap) j rfl (owns_alloc hMl2 _) _ 3 3 rfl (news_new _ _ (by simp) _ _) h1x (by decide) hb3.1 hb3.2 (by simp; omega) ?_; intro g3 cap3 w3 hM3 hgr3 hat3 hlt3 hall3)
      have hMl3 := hall3 _ _ (owns_alloc hMl2 _)
      have hM1xx := hall3 _ _ (owns_alloc hM1x _)
      have hM2x := hall3 _ _ (owns_alloc hM2 _)
      have hx3 := blk_grown hgr3 (blk_alloc hx2 _) hnx
      have hbw3 := blk_grown hgr3 (blk_alloc hbw2 _) hvwb
      have hvs3 := owns_grown (owns_alloc hvs2 _) hgr3 hap
      have hK3 := hK2.trans ((Keeps.ofAlloc _ _).trans (Keeps.ofGrown hgr3))
      have hsi3 := hK3.size
      have hxc3 := blk_cell hx3
      clear hall3 hgr3 hxc2
      have hwc := blk_cell hbw3
      have hwf := blk_free hbw3
      have h1s : ∀ u ∈ [Value.slice ao j cap, .slice (some ⟨g1, 0, none⟩) (j + 1) cap1, .slice (some ⟨g2, 0, none⟩) (j + 2) cap2, .slice (some ⟨g3, 0, none⟩) (j + 3) cap3], u.oneCell' = true := by
        intro u hu; simp at hu; rcases hu with rfl | rfl | rfl | rfl <;> rfl
      have hbL : L + 4 ≤ maxLen ∧ (L + 4) * 24 ≤ 140737488355328 := ⟨by unfold maxLen; omega, by omega⟩
      have hHw : H ≤ w3.heap.size := by omega
      clear hblk hc hxc3
      go_wp2_with (at_builtin; refine wpList_append_lies _ rfl (.tmp 45) (.tmp 50) 28 rfl H 34 j0 _ 1 24 Tryz.underlying28 hj0 hy0 hy1 hy2 rfl (by decide) (.slice vo L vc) L vs rfl (owns_alloc hvs3 _) _ 4 4 [.slice ao j cap, .slice (some ⟨g1, 0, none⟩) (j + 1) cap1, .slice (some ⟨g2, 0, none⟩) (j + 2) cap2, .slice (some ⟨g3, 0, none⟩) (j + 3) cap3] rfl rfl (news_new _ _ (by simp) _ _) h1s (by decide) hbL.1 hbL.2 (by simp; omega) _ rfl ?_; intro g4 cap4 w4 hown4 hgr4 hat4 hlt4; have hbw4 := blk_grown hgr4 (blk_alloc hbw3 _) hwvwb; have hwc4 := blk_cell hbw4; have hwf4 := blk_free hbw4)
      go_end0
      have fin : ∀ u k, MK w3 H 53 (mvx mk) u k → MK (w4.setCell ⟨wb, 2, none⟩ (.slice (some ⟨g4, 0, none⟩) (L + 4) cap4)) H 53 (mvx mk) u k := fun u k hu => by
        have h1 : MK w4 H 53 (mvx mk) u k := owns_grown (owns_alloc hu _) hgr4 (fun g hg => owns_apart hu hvs3 (by decide) hg)
        exact owns_set h1 (owns_not_block h1 hbw4 (by decide)) _
      refine ⟨_, _, _, _, rfl, blk_set hbw4 2 _, owns_set hown4 (owns_not_block hown4 hbw4 (by decide)) _, fin _ _ hMl3, fin _ _ hM1xx, fin _ _ hM2x, fin _ _ hM3, ?_⟩
      refine (hK3.mono (fun k _ h => .inr (.inl h))).trans ((Keeps.ofAlloc _ _).trans (((Keeps.ofGrown hgr4).mono (fun k _ h => .inr (.inr h))).trans (Keeps.ofSet (.inl (.inl rfl)) _)))
end Go.Proofs.YtnnhnekfokbooaaGreatDoor
