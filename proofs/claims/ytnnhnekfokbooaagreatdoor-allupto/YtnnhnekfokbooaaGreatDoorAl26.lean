/- LawC, LawD, LawE -/
import Derived.Test.YtnnhnekfokbooaaGreatDoorAl25
set_option linter.unusedSimpArgs false
set_option linter.unusedVariables false
set_option maxRecDepth 100000
namespace Go.Proofs.YtnnhnekfokbooaaGreatDoor
section
open Go.RowKit
theorem Tryz.infoPosts : (Tryz.prog.info? 54).map (fun i => (i.zero, i.size, i.bytes)) = some (some (.slice none 0 0), 1, 24) := by kernel_rfl
set_option maxHeartbeats 8000000 in
theorem posted_any (wb H : Nat) (wl wn wv wp v : Value) (n : Nat) (xs vs : List Value) (w : World) (hblk : w.heap[wb]? = some (.cells #[wl, wn, wv, wp] 31 (0, 0)))
  (hvs : w.ownsRow H 54 1 wp vs.length vs) (hv : w.ownsRow H 33 4 v n xs) (hl : vs.length ≤ 5000000000000) (hn : n ≤ 1000000) (hH : H ≤ w.heap.size) :
  Calls Tryz.prog 30 #[P6 wb, v] w fun e w' => ∃ wp' a b c, e = .returned (.tuple #[]) ∧ w'.heap[wb]? = some (.cells #[wl, wn, wv, wp'] 31 (0, 0)) ∧
   w'.ownsRow H 54 1 wp' (vs.length + 4) (vs ++ [v, a, b, c]) ∧ MK w' H 33 (mp vs.length) v n ∧ MK w' H 33 (mp vs.length) a (n + 1) ∧ MK w' H 33 (mp vs.length) b (n + 2) ∧ MK w' H 33 (mp vs.length) c (n + 3) ∧
   Keeps (fun k => k = wb ∨ v.ownBlock = some k ∨ wp.ownBlock = some k) w w' ∧ (∀ u g, u = a ∨ u = b ∨ u = c → u.ownBlock = some g → v.ownBlock = some g ∨ w.heap.size ≤ g) ∧ (∀ g, wp'.ownBlock = some g → wp.ownBlock = some g ∨ w.heap.size ≤ g) := by
 obtain ⟨i0, hi, hz0, hz1, hz2⟩ := info_parts Tryz.infoPost
 obtain ⟨j0, hj0, hy0, hy1, hy2⟩ := info_parts Tryz.infoPosts
 obtain ⟨ao, cap, rfl, hao⟩ : ∃ ao cap, v = .slice ao n cap ∧ (ao = none → cap = 0) := by
  rcases hv.2 with ⟨rfl, rfl⟩ | ⟨g, cap, cur, rfl, _⟩
  ·exact ⟨none, 0, rfl, fun _ => rfl⟩
  ·exact ⟨_, cap, rfl, fun h => by cases h⟩
 obtain ⟨vo, vn, vc, rfl⟩ := owns_slice1 hvs
 obtain rfl : vn = vs.length := by
  rcases hvs.2 with ⟨h1, h2⟩ | ⟨g, cap, cur, h1, _⟩
  ·cases h1; exact h2.symm
  ·cases h1; rfl
 have hc := blk_cell hblk
 have hwlt := lt_of_block hblk
 have hvwb : (Value.slice ao n cap).ownBlock ≠ some wb := owns_not_block hv hblk (by decide)
 have hwvwb : (Value.slice vo vs.length vc).ownBlock ≠ some wb := owns_not_block hvs hblk (by decide)
 have hvlt := fun g hb => (hv.lt g hb).2
 generalize hL : vs.length = L at *
 have HM : Hid (mp L = mpx (-1000 - ((L / 4 : Nat) : Int))) := rfl
 have hmk0 := mark_any L w (by omega)
 generalize (-1000 - ((L / 4 : Nat) : Int)) = mk at *
 rw [HM.out]
 go_enter Tryz.func30, Tryz.ntmps30
 go_wp2_with fail
 refine hmk0.mono ?_
 rintro e w' ⟨rfl, rfl⟩
 clear hmk0
 go_wp2_with fail
 have hM0 : MK w' H 33 (mpx mk) (.slice ao 0 cap) 0 := MK.zero hv hao
 go_loopw [5] (fun i wr => ∃ j : Nat, j ≤ n ∧ i = I6 j ∧ MK wr H 33 (mpx mk) (.slice ao j cap) j ∧ wr.heap[w'.heap.size]? = some (.cells #[I6 mk, I6 0, I6 0, .string ⟨#[]⟩] 33 (0, 0)) ∧ Keeps (fun k => (Value.slice ao n cap).ownBlock = some k) w' wr) (fun i _ => n - (intOf i).toNat)
 case atStart => exact ⟨0, Nat.zero_le _, rfl, owns_alloc hM0 _, blk_new _ _, Keeps.ofAlloc _ _⟩
 case round =>
  obtain ⟨j, hj, rfl, hM, hx, hK⟩ := hrel
  have hxc := blk_cell hx
  by_cases hlt : j < n
  ·obtain ⟨g, rfl⟩ : ∃ g, ao = some (A6 g 0) := by
    rcases hv.2 with ⟨h1, h2⟩ | ⟨g, cap', cur, h1, _⟩
    ·omega
    ·cases h1; exact ⟨g, rfl⟩
   rcases hM.2 with ⟨h1, _⟩ | ⟨g', cap', cur, h1, hbg, hg, hnc, hcm, hcs, htake⟩
   ·cases h1
   cases h1
   have hgf := blk_free hg
   have hcapn : n ≤ cap := by rcases hv.2 with ⟨h1, _⟩ | ⟨g1, c1, u1, h1, _, _, h2, _⟩ <;> cases h1; exact h2
   have hsz : j * 4 + 4 ≤ cur.size := by rw [hcs]; show j * 4 + 4 ≤ cap * 4; omega
   have hth : Hid (wr.there g (j * 4) 4) := show World.there wr g (j * 4) 4 from fun k hk => ⟨by rw [blk_cell hg, Array.getElem?_eq_getElem (by omega)]; rfl, hgf _⟩
   have hi6 : Hid ((Tryz.prog.info? 33).map (·.size) = some (#[I6 mk, I6 0, I6 0, .string ⟨#[]⟩] : Array Value).size) := show _ = _ from by rw [hi]; simp [hz1]
   have h16 : Hid ((#[I6 mk, I6 0, I6 0, .string ⟨#[]⟩] : Array Value).all (·.oneCell') = true) := show _ = _ from by simp [Value.oneCell']
   clear hgf
   have hgx : g ≠ w'.heap.size := by have := hvlt g rfl; omega
   go_upto_region 3 with (refine wpList_store_mid rfl 33 (.tmp 25) (.tmp 24) rfl g (j * 4) #[I6 mk, I6 0, I6 0, .string ⟨#[]⟩] rfl rfl hth.out hi6.out h16.out ?_; simp only [Act.put])
   go_wp2_with fail
   go_roundw
   case rel =>
    exact ⟨j + 1, by omega, by go_num, MK.store (x := mpx mk) hM hlt hcapn, by rw [setCells_other g _ _ _ _ (Ne.symm hgx)]; exact hx, hK.trans (Keeps.ofSets (P := fun k => (Value.slice (some (A6 g 0)) n cap).ownBlock = some k) g rfl _ _ _)⟩
   case measure => simp [intOf]; omega
  ·obtain rfl : j = n := by omega
   have hwlt2 : w'.heap.size < wr.heap.size := lt_of_block hx
   have hbw : wr.heap[wb]? = some (.cells #[wl, wn, wv, .slice vo L vc] 31 (0, 0)) := by rw [hK.block wb hwlt hvwb]; exact hblk
   have hap : ∀ g, (Value.slice vo L vc).ownBlock = some g → ¬ (Value.slice ao j cap).ownBlock = some g := fun g hg => owns_apart hvs hv (by decide) hg
   have hvsr := owns_keeps hvs hK hap
   have hsz0 := hK.size
   have h1x : ∀ u ∈ mpx mk, u.oneCell' = true := by intro u hu; simp [mpx] at hu; rcases hu with rfl | rfl | rfl <;> rfl
   have hs6 : 0 < (mpx mk).length := by show 0 < 4; decide
   have hb1 : j + 1 ≤ maxLen ∧ (j + 1) * 40 ≤ 140737488355328 := ⟨by unfold maxLen; omega, by omega⟩
   have hb2 : j + 2 ≤ maxLen ∧ (j + 2) * 40 ≤ 140737488355328 := ⟨by unfold maxLen; omega, by omega⟩
   have hb3 : j + 3 ≤ maxLen ∧ (j + 3) * 40 ≤ 140737488355328 := ⟨by unfold maxLen; omega, by omega⟩
   have hnx : (Value.slice ao j cap).ownBlock ≠ some w'.heap.size := fun e => by have := hvlt _ e; omega
   go_upto_region 6 with (at_builtin; refine wpList_append_mark _ rfl (.tmp 26) (.tmp 28) 54 rfl H 33 i0 _ (mpx mk) 40 Tryz.underlying54 hi hz0 hz1 hz2 rfl hs6 (.slice ao j cap) j rfl (owns_alloc hM _) _ 1 1 rfl (news_new _ _ (by simp) _ _) h1x (by decide) hb1.1 hb1.2 (by simp; omega) ?_; intro g1 cap1 w1 hM1 hgr1 hat1 hlt1 hall1)
   have hMl1 := hall1 _ _ (owns_alloc hM _)
   have hx1 := blk_grown hgr1 (blk_alloc hx _) hnx
   have hbw1 := blk_grown hgr1 (blk_alloc hbw _) hvwb
   have hvs1 := owns_grown (owns_alloc hvsr _) hgr1 hap
   have hK1 := hK.trans ((Keeps.ofAlloc _ _).trans (Keeps.ofGrown hgr1))
   have hsi1 := hK1.size
   have hxc1 := blk_cell hx1
   clear hall1 hgr1 hxc
   go_upto_region 7 with (at_builtin; refine wpList_append_mark _ rfl (.tmp 30) (.tmp 33) 54 rfl H 33 i0 _ (mpx mk) 40 Tryz.underlying54 hi hz0 hz1 hz2 rfl hs6 (.slice ao j cap) j rfl (owns_alloc hMl1 _) _ 2 2 rfl (news_new _ _ (by simp) _ _) h1x (by decide) hb2.1 hb2.2 (by simp; omega) ?_; intro g2 cap2 w2 hM2 hgr2 hat2 hlt2 hall2)
   have hMl2 := hall2 _ _ (owns_alloc hMl1 _)
   have hM1x := hall2 _ _ (owns_alloc hM1 _)
   have hx2 := blk_grown hgr2 (blk_alloc hx1 _) hnx
   have hbw2 := blk_grown hgr2 (blk_alloc hbw1 _) hvwb
   have hvs2 := owns_grown (owns_alloc hvs1 _) hgr2 hap
   have hK2 := hK1.trans ((Keeps.ofAlloc _ _).trans (Keeps.ofGrown hgr2))
   have hsi2 := hK2.size
   have hxc2 := blk_cell hx2
   clear hall2 hgr2 hxc1
   go_upto_region 8 with (at_builtin; refine wpList_append_mark _ rfl (.tmp 35) (.tmp 39) 54 rfl H 33 i0 _ (mpx mk) 40 Tryz.underlying54 hi hz0 hz1 hz2 rfl hs6 (.slice ao j cap) j rfl (owns_alloc hMl2 _) _ 3 3 rfl (news_new _ _ (by simp) _ _) h1x (by decide) hb3.1 hb3.2 (by simp; omega) ?_; intro g3 cap3 w3 hM3 hgr3 hat3 hlt3 hall3)
   have hMl3 := hall3 _ _ (owns_alloc hMl2 _)
   have hM1xx := hall3 _ _ (owns_alloc hM1x _)
   have hM2x := hall3 _ _ (owns_alloc hM2 _)
   have hx3 := blk_grown hgr3 (blk_alloc hx2 _) hnx
   have hbw3 := blk_grown hgr3 (blk_alloc hbw2 _) hvwb
   have hvs3 := owns_grown (owns_alloc hvs2 _) hgr3 hap
   have hK3 := hK2.trans ((Keeps.ofAlloc _ _).trans (Keeps.ofGrown hgr3))
   have hsi3 := hK3.size
   have hxc3 := blk_cell hx3
   clear hall3 hgr3 hxc2
   have hwc := blk_cell hbw3
   have hwf := blk_free hbw3
   have h1s : ∀ u ∈ [Value.slice ao j cap, .slice (some (A6 g1 0)) (j + 1) cap1, .slice (some (A6 g2 0)) (j + 2) cap2, .slice (some (A6 g3 0)) (j + 3) cap3], u.oneCell' = true := by
    intro u hu; simp at hu; rcases hu with rfl | rfl | rfl | rfl <;> rfl
   have hbL : L + 4 ≤ maxLen ∧ (L + 4) * 24 ≤ 140737488355328 := ⟨by unfold maxLen; omega, by omega⟩
   have hHw : H ≤ w3.heap.size := by omega
   clear hblk hc hxc3
   go_wp2_with (at_builtin; refine wpList_append_lies _ rfl (.tmp 45) (.tmp 50) 29 rfl H 54 j0 _ 1 24 Tryz.underlying29 hj0 hy0 hy1 hy2 rfl (by decide) (.slice vo L vc) L vs rfl (owns_alloc hvs3 _) _ 4 4 [.slice ao j cap, .slice (some (A6 g1 0)) (j + 1) cap1, .slice (some (A6 g2 0)) (j + 2) cap2, .slice (some (A6 g3 0)) (j + 3) cap3] rfl rfl (news_new _ _ (by simp) _ _) h1s (by decide) hbL.1 hbL.2 (by simp; omega) _ rfl ?_; intro g4 cap4 w4 hown4 hgr4 hat4 hlt4; have hbw4 := blk_grown hgr4 (blk_alloc hbw3 _) hwvwb; have hwc4 := blk_cell hbw4; have hwf4 := blk_free hbw4)
   go_end0
   have fin : ∀ u k, MK w3 H 33 (mpx mk) u k → MK (w4.setCell (A6 wb 3) (.slice (some (A6 g4 0)) (L + 4) cap4)) H 33 (mpx mk) u k := fun u k hu => by
    have h1 : MK w4 H 33 (mpx mk) u k := owns_grown (owns_alloc hu _) hgr4 (fun g hg => owns_apart hu hvs3 (by decide) hg)
    exact owns_set h1 (owns_not_block h1 hbw4 (by decide)) _
   refine ⟨_, _, _, _, rfl, blk_set hbw4 3 _, owns_set hown4 (owns_not_block hown4 hbw4 (by decide)) _, fin _ _ hMl3, fin _ _ hM1xx, fin _ _ hM2x, fin _ _ hM3, ?_, ?_, ?_⟩
   rotate_left 1
   ·intro u g hu hg
    simp only [World.size_alloc] at hat1 hat2 hat3
    rcases hu with rfl | rfl | rfl
    ·obtain rfl : g1 = g := by simpa [Value.ownBlock] using hg
     exact hat1.imp id (fun h => by omega)
    ·obtain rfl : g2 = g := by simpa [Value.ownBlock] using hg
     exact hat2.imp id (fun h => by omega)
    ·obtain rfl : g3 = g := by simpa [Value.ownBlock] using hg
     exact hat3.imp id (fun h => by omega)
   ·intro g hg
    simp only [World.size_alloc] at hat4
    obtain rfl : g4 = g := by simpa [Value.ownBlock] using hg
    exact hat4.imp id (fun h => by omega)
   refine (hK3.mono (fun k _ h => .inr (.inl h))).trans ((Keeps.ofAlloc _ _).trans (((Keeps.ofGrown hgr4).mono (fun k _ h => .inr (.inr h))).trans (Keeps.ofSet (.inl (.inl rfl)) _)))
end
section
open Go.RowKit
theorem Tryz.infoMessages : (Tryz.prog.info? 50).map (fun i => (i.zero, i.size, i.bytes)) = some (some (.slice none 0 0), 1, 24) := by kernel_rfl
theorem setCells_above {w : World} {g : Nat} {t : TypeId} {cur : Array Value} (hg : w.heap[g]? = some (.cells cur t (0, 0))) {o : Nat} {vs : List Value} (h : o + vs.length ≤ cur.size) {p : Nat} (hp : o + vs.length ≤ p) : (w.setCells g o vs).cell? (A6 g p) = w.cell? (A6 g p) := by
 rw [blk_cell (setCells_self g t vs o w cur hg h), blk_cell hg, List.getElem?_toArray, List.getElem?_append_right (by simp; omega), List.getElem?_drop]
 simp only [List.length_append, List.length_take, Array.length_toList]
 rw [Array.getElem?_toList]
 congr 1
 omega
theorem ncs_nine (l : List Nm) (i : Nat) (hi : i < l.length) : (ncs l)[i * 10 + 9]? = some l[i].v := (ncs_at l i hi 9 (by decide)).trans rfl
set_option maxHeartbeats 8000000 in
theorem netted_any (wb H B : Nat) (wl wn wv wp v : Value) (l : List Nm) (Ns Vs : List Value) (w : World) (hblk : w.heap[wb]? = some (.cells #[wl, wn, wv, wp] 31 (0, 0)))
  (hns : w.ownsRow H 50 1 wn Ns.length Ns) (hV : MAt w H 34 53 mv wv Vs) (hv : w.ownsRow B 36 10 v l.length (ncs l))
  (hel : ∀ i (hi : i < l.length), w.ownsRow B 53 6 l[i].v l[i].m.a.length (vcells l[i].m.a)) (hal : ∀ i (hi : i < l.length), l[i].m.a.length ≤ 1000)
  (hdis : ∀ i j (hi : i < l.length) (hj : j < l.length) g, i < j → l[i].v.ownBlock = some g → l[j].v.ownBlock ≠ some g) (hVB : ∀ k (hk : k < Vs.length) g, Vs[k].ownBlock = some g → g < B)
  (hl : Ns.length ≤ 5000000000000) (hVl : Vs.length + 4 * l.length ≤ 5000000000000) (hn : l.length ≤ 1000) (hHB : H ≤ B) (hBs : B ≤ w.heap.size) (hwb : wb < B) :
  Calls Tryz.prog 26 #[P6 wb, v] w fun e w' => ∃ wn' wv' Vs' a b c, e = .returned (.tuple #[]) ∧ w'.heap[wb]? = some (.cells #[wl, wn', wv', wp] 31 (0, 0)) ∧
   w'.ownsRow H 50 1 wn' (Ns.length + 4) (Ns ++ [v, a, b, c]) ∧ MK w' H 36 (mm Ns.length) v l.length ∧ MK w' H 36 (mm Ns.length) a (l.length + 1) ∧ MK w' H 36 (mm Ns.length) b (l.length + 2) ∧ MK w' H 36 (mm Ns.length) c (l.length + 3) ∧
   MAt w' H 34 53 mv wv' Vs' ∧ Vs'.length = Vs.length + 4 * l.length ∧ Keeps (fun k => k = wb ∨ wn.ownBlock = some k ∨ wv.ownBlock = some k ∨ B ≤ k) w w' ∧ (∀ u g, u = v ∨ u = a ∨ u = b ∨ u = c → u.ownBlock = some g → B ≤ g) := by
 obtain ⟨i0, hi, hz0, hz1, hz2⟩ := info_parts Tryz.infoMessage
 obtain ⟨j0, hj0, hy0, hy1, hy2⟩ := info_parts Tryz.infoMessages
 obtain ⟨ao, cap, hve, hao⟩ : ∃ ao cap, v = .slice ao l.length cap ∧ (ao = none → cap = 0) := by
  rcases hv.2 with ⟨rfl, h0⟩ | ⟨g, cap, cur, rfl, _⟩
  ·exact ⟨none, 0, by rw [h0], fun _ => rfl⟩
  ·exact ⟨_, cap, rfl, fun h => by cases h⟩
 subst hve
 obtain ⟨vo, vn, vc, hwe⟩ := owns_slice1 hns
 subst hwe
 obtain rfl : vn = Ns.length := by
  rcases hns.2 with ⟨h1, h2⟩ | ⟨g, cap, cur, h1, _⟩
  ·cases h1; exact h2.symm
  ·cases h1; rfl
 have hvH : w.ownsRow H 36 10 (.slice ao l.length cap) l.length (ncs l) := owns_base hv hHB
 have hcw := blk_cell hblk
 have hwlt := lt_of_block hblk
 have hvwb : (Value.slice ao l.length cap).ownBlock ≠ some wb := owns_not_block hv hblk (by decide)
 have hwvwb : (Value.slice vo Ns.length vc).ownBlock ≠ some wb := owns_not_block hns hblk (by decide)
 have hvlt := fun g hb => (hv.lt g hb).2
 have hvge := fun g hb => (hv.lt g hb).1
 generalize hL : Ns.length = L at *
 have HM : Hid (mm L = mmx (-1000 - ((L / 4 : Nat) : Int))) := rfl
 have hmk0 := mark_any L w (by omega)
 generalize (-1000 - ((L / 4 : Nat) : Int)) = mk at *
 rw [HM.out]
 have Hl9 : Hid (∀ i (hi : i < l.length) a0, ao = some a0 → w.cell? (A6 a0.block (i * 10 + 9)) = some l[i].v) := fun i hi a0 ha => by
  rcases hv.2 with ⟨h1, _⟩ | ⟨g, cap', cur, h1, hbg, hg, hnc, hcm, hcs, htake⟩
  ·injection h1 with _ e2; omega
  ·injection h1 with e1
   rw [ha] at e1
   injection e1 with e1
   rw [e1]
   show w.cell? (A6 g (i * 10 + 9)) = _
   rw [blk_cell hg, ← Array.getElem?_toList]
   have e2 : cur.toList[i * 10 + 9]? = (cur.toList.take (l.length * 10))[i * 10 + 9]? := by rw [List.getElem?_take, if_pos (by omega)]
   rw [e2, htake]; exact ncs_nine l i hi
 have Hel : Hid (∀ i (hi : i < l.length), w.ownsRow B 53 6 l[i].v l[i].m.a.length (vcells l[i].m.a)) := hel
 have Hal : Hid (∀ i (hi : i < l.length), l[i].m.a.length ≤ 1000) := hal
 have Hdis : Hid (∀ i j (hi : i < l.length) (hj : j < l.length) g, i < j → l[i].v.ownBlock = some g → l[j].v.ownBlock ≠ some g) := hdis
 have HVB : Hid (∀ k (hk : k < Vs.length) g, Vs[k].ownBlock = some g → g < B) := hVB
 clear hel hal hdis hVB
 go_enter Tryz.func26, Tryz.ntmps26
 go_wp2_with fail
 refine hmk0.mono ?_
 rintro e w' ⟨rfl, rfl⟩
 clear hmk0
 go_wp2_with fail
 have hM0 : MK w' H 36 (mmx mk) (.slice ao 0 cap) 0 := MK.zero hvH hao
 have hBa : Below w'.heap.size w' (w'.alloc (.cells #[I6 mk, I6 0, I6 0, I6 0, I6 0, I6 0, I6 0, I6 0, .string ⟨#[]⟩, .slice none 0 0] 36)) := (Below.refl _ w').alloc (Nat.le_refl _) _
 go_loopw [5] (fun i wr => ∃ (j : Nat) (wvj : Value) (Vj : List Value), j ≤ l.length ∧ i = I6 j ∧ MK wr H 36 (mmx mk) (.slice ao j cap) j ∧ (∀ i (hi : i < l.length) a0, j ≤ i → ao = some a0 → wr.cell? (A6 a0.block (i * 10 + 9)) = some l[i].v) ∧
  wr.heap[wb]? = some (.cells #[wl, .slice vo L vc, wvj, wp] 31 (0, 0)) ∧ MAt wr H 34 53 mv wvj Vj ∧ Vj.length = Vs.length + 4 * j ∧ (∀ k (hk : k < Vj.length) g, Vj[k].ownBlock = some g → ∀ i (hi : i < l.length), j ≤ i → l[i].v.ownBlock ≠ some g) ∧
  (∀ i (hi : i < l.length), j ≤ i → wr.ownsRow B 53 6 l[i].v l[i].m.a.length (vcells l[i].m.a)) ∧ (∀ g, wvj.ownBlock = some g → wv.ownBlock = some g ∨ B ≤ g) ∧ wr.ownsRow H 50 1 (.slice vo L vc) L Ns ∧
  wr.heap[w'.heap.size]? = some (.cells #[I6 mk, I6 0, I6 0, I6 0, I6 0, I6 0, I6 0, I6 0, .string ⟨#[]⟩, .slice none 0 0] 36 (0, 0)) ∧ Keeps (fun k => k = wb ∨ wv.ownBlock = some k ∨ B ≤ k) w' wr) (fun i _ => l.length - (intOf i).toNat)
 case atStart =>
  refine ⟨0, wv, Vs, Nat.zero_le _, rfl, owns_below hM0 hBa, fun i hi a0 _ ha => ?_, blk_below hBa hblk, hV.below hBa, by omega, fun k hk g hg i hi _ e => ?_, fun i hi _ => owns_below (Hel.out i hi) hBa, fun g hg => .inl hg, owns_below hns hBa, blk_new _ _, Keeps.ofBelow hBa⟩
  ·have h9 := Hl9.out i hi a0 ha
   rw [World.cell?_alloc_lt _ _ _ (World.block_lt_of_cell? w' _ h9)]
   exact h9
  ·have h1 := HVB.out k hk g hg
   have h2 := (World.ownsRow.lt (Hel.out i hi) g e).1
   omega
 case round =>
  obtain ⟨j, wvj, Vj, hj, rfl, hM, hrest, hbw, hVj, hVjl, hfr, helj, hwvo, hnsr, hx, hK⟩ := hrel
  have hxc := blk_cell hx
  have Hrest : Hid (∀ i (hi : i < l.length) a0, j ≤ i → ao = some a0 → wr.cell? (A6 a0.block (i * 10 + 9)) = some l[i].v) := hrest
  have Hfr : Hid (∀ k (hk : k < Vj.length) g, Vj[k].ownBlock = some g → ∀ i (hi : i < l.length), j ≤ i → l[i].v.ownBlock ≠ some g) := hfr
  have Helj : Hid (∀ i (hi : i < l.length), j ≤ i → wr.ownsRow B 53 6 l[i].v l[i].m.a.length (vcells l[i].m.a)) := helj
  have Hwvo : Hid (∀ g, wvj.ownBlock = some g → wv.ownBlock = some g ∨ B ≤ g) := hwvo
  clear hrest hfr helj hwvo
  have hHr : H ≤ wr.heap.size := by have := hK.size; omega
  by_cases hlt : j < l.length
  ·obtain ⟨g, hao2⟩ : ∃ g, ao = some (A6 g 0) := by
    rcases hv.2 with ⟨h1, h2⟩ | ⟨g, cap', cur, h1, _⟩
    ·omega
    ·cases h1; exact ⟨g, rfl⟩
   subst hao2
   have c9 : wr.cell? (A6 g (j * 10 + 9)) = some l[j].v := Hrest.out j hlt _ (Nat.le_refl _) rfl
   have hoj := Helj.out j hlt (Nat.le_refl _)
   have hVo := voted_any wb H wl (.slice vo L vc) wvj wp l[j].v l[j].m.a.length (vcells l[j].m.a) Vj wr hbw hVj.own (owns_base hoj hHB) (by omega) (by have := Hal.out j hlt; omega) hHr
   have q0 : (0 : Int) ≤ (j : Int) := by omega
   have q1 : (j : Int) < (l.length : Int) := by omega
   obtain ⟨ua, un, uc, hue⟩ := owns_slice1 hoj
   have Huv : Hid (l[j].v = .slice ua un uc) := hue
   rw [hue] at c9 hVo
   clear hxc
   go_wp2_with fail
   refine hVo.mono ?_
   rintro e w2 ⟨wv2, ua2, ub2, uc2, rfl, hb2, ho2, mm0, mm1, mm2, mm3, k2, hat2, hwv2⟩
   clear hVo c9
   have hne2 : ∀ {k : Nat} {cs : Array Value}, wr.heap[k]? = some (.cells cs 36 (0, 0)) → ¬ (k = wb ∨ (Value.slice ua un uc).ownBlock = some k ∨ wvj.ownBlock = some k) := fun {k cs} hc ho => by
    rcases ho with rfl | ho | ho
    ·have := blk_type hc hbw; revert this; decide
    ·rw [← Huv.out] at ho
     obtain ⟨cs', hc'⟩ := owns_blk hoj ho
     have := blk_type hc hc'; revert this; decide
    ·obtain ⟨cs', hc'⟩ := owns_blk hVj.own ho
     have := blk_type hc hc'; revert this; decide
   have hM2 : MK w2 H 36 (mmx mk) (.slice (some (A6 g 0)) j cap) j := owns_keeps hM k2 (fun b hb => by obtain ⟨cs, hcs⟩ := owns_blk hM hb; exact hne2 hcs)
   have hx2 := blk_keeps k2 hx (hne2 hx)
   obtain ⟨gcs, hgr⟩ : ∃ cs, wr.heap[g]? = some (.cells cs 36 (0, 0)) := owns_blk hM rfl
   have hgk : w2.heap[g]? = wr.heap[g]? := k2.block g (lt_of_block hgr) (hne2 hgr)
   rcases hM2.2 with ⟨h1, _⟩ | ⟨g', cap', cur, h1, hbg, hg, hnc, hcm, hcs, htake⟩
   ·cases h1
   cases h1
   have hgf := blk_free hg
   have hcapn : l.length ≤ cap := by rcases hv.2 with ⟨h1, _⟩ | ⟨g1, c1, u1, h1, _, _, h2, _⟩ <;> cases h1; exact h2
   have hsz : j * 10 + 10 ≤ cur.size := by rw [hcs]; show j * 10 + 10 ≤ cap * 10; omega
   have hth : Hid (w2.there g (j * 10) 10) := show World.there w2 g (j * 10) 10 from fun k hk => ⟨by rw [blk_cell hg, Array.getElem?_eq_getElem (by omega)]; rfl, hgf _⟩
   have hi10 : Hid ((Tryz.prog.info? 36).map (·.size) = some (#[I6 mk, I6 0, I6 0, I6 0, I6 0, I6 0, I6 0, I6 0, .string ⟨#[]⟩, .slice none 0 0] : Array Value).size) := show _ = _ from by rw [hi]; simp [hz1]
   have h110 : Hid ((#[I6 mk, I6 0, I6 0, I6 0, I6 0, I6 0, I6 0, I6 0, .string ⟨#[]⟩, .slice none 0 0] : Array Value).all (·.oneCell') = true) := show _ = _ from by simp [Value.oneCell']
   clear hgf
   have hgx : g ≠ w'.heap.size := by have := hvlt g rfl; omega
   have hxc2 := blk_cell hx2
   have Hfin : Hid (∀ w3, w3 = World.setCells w2 g (j * 10) (mmx mk) → ∃ (wvj : Value) (Vj : List Value), MK w3 H 36 (mmx mk) (.slice (some (A6 g 0)) (j + 1) cap) (j + 1) ∧ (∀ i (hi : i < l.length) a0, j + 1 ≤ i → some ((A6 g 0) : Addr) = some a0 → w3.cell? (A6 a0.block (i * 10 + 9)) = some l[i].v) ∧
  w3.heap[wb]? = some (.cells #[wl, .slice vo L vc, wvj, wp] 31 (0, 0)) ∧ MAt w3 H 34 53 mv wvj Vj ∧ Vj.length = Vs.length + 4 * (j + 1) ∧ (∀ k (hk : k < Vj.length) g, Vj[k].ownBlock = some g → ∀ i (hi : i < l.length), j + 1 ≤ i → l[i].v.ownBlock ≠ some g) ∧
  (∀ i (hi : i < l.length), j + 1 ≤ i → w3.ownsRow B 53 6 l[i].v l[i].m.a.length (vcells l[i].m.a)) ∧ (∀ g, wvj.ownBlock = some g → wv.ownBlock = some g ∨ B ≤ g) ∧ w3.ownsRow H 50 1 (.slice vo L vc) L Ns ∧
  w3.heap[w'.heap.size]? = some (.cells #[I6 mk, I6 0, I6 0, I6 0, I6 0, I6 0, I6 0, I6 0, .string ⟨#[]⟩, .slice none 0 0] 36 (0, 0)) ∧ Keeps (fun k => k = wb ∨ wv.ownBlock = some k ∨ B ≤ k) w' w3) := fun w3 hw3 => by
    have hgB := hvge g rfl
    have k3 : Keeps (fun k => k = g) w2 w3 := by rw [hw3]; exact Keeps.ofSets (P := fun k => k = g) g rfl _ _ _
    have hng : ∀ {k : Nat} {cs : Array Value} {t : TypeId}, w2.heap[k]? = some (.cells cs t (0, 0)) → t ≠ 36 → ¬ k = g := fun hc ht e => by
     subst e; exact ht (blk_type hc hg)
    have hwr : wr.heap.size ≥ B := by have := hK.size; omega
    have hMA2 : MAt w2 H 34 53 mv wv2 (Vj ++ [.slice ua un uc, ua2, ub2, uc2]) := hVj.more (fun j i => mv4) k2 (fun k hk g' hg' ho => by
     rcases ho with rfl | ho | ho
     ·obtain ⟨_, cs, hc⟩ := hVj.blkT hk hg'
      have := blk_type hc hbw; revert this; decide
     ·rw [← Huv.out] at ho
      exact Hfr.out k hk g' hg' j hlt (Nat.le_refl _) ho
     ·obtain ⟨_, cs, hc⟩ := hVj.blkT hk hg'
      obtain ⟨cs', hc'⟩ := owns_blk hVj.own ho
      have := blk_type hc hc'; revert this; decide) ho2 (n := l[j].m.a.length) (by have := Hal.out j hlt; omega) mm0 mm1 mm2 mm3
    have hMA3 := hMA2.keeps k3 (fun g' hg' => by obtain ⟨cs, hc⟩ := owns_blk hMA2.own hg'; exact hng hc (by decide)) (fun k hk g' hg' => by obtain ⟨_, cs, hc⟩ := hMA2.blkT hk hg'; exact hng hc (by decide))
    have hns2 : w2.ownsRow H 50 1 (.slice vo L vc) L Ns := owns_keeps hnsr k2 (fun g' hg' ho => by
     obtain ⟨cs, hc⟩ := owns_blk hnsr hg'
     rcases ho with rfl | ho | ho
     ·have := blk_type hc hbw; revert this; decide
     ·rw [← Huv.out] at ho
      obtain ⟨cs', hc'⟩ := owns_blk hoj ho
      have := blk_type hc hc'; revert this; decide
     ·obtain ⟨cs', hc'⟩ := owns_blk hVj.own ho
      have := blk_type hc hc'; revert this; decide)
    refine ⟨wv2, Vj ++ [.slice ua un uc, ua2, ub2, uc2], by rw [hw3]; exact MK.store (x := mmx mk) hM2 hlt hcapn, fun i hi a0 hij ha => ?_, blk_keeps k3 hb2 (hng hb2 (by decide)), hMA3, by simp; omega, fun k hk g' hg' i hi hij e => ?_, fun i hi hij => ?_, fun g' hg' => ?_, owns_keeps hns2 k3 (fun g' hg' => by obtain ⟨cs, hc⟩ := owns_blk hns2 hg'; exact hng hc (by decide)), blk_keeps k3 hx2 (fun e => hgx e.symm), ?_⟩
    ·injection ha with ha
     subst ha
     rw [hw3]
     have e1 := setCells_above hg (o := j * 10) (vs := mmx mk) (by show j * 10 + 10 ≤ _; exact hsz) (p := i * 10 + 9) (by show j * 10 + 10 ≤ _; omega)
     show (World.setCells w2 g (j * 10) (mmx mk)).cell? (A6 g (i * 10 + 9)) = _
     rw [e1, World.cell?_of_block (w := wr) hgk]
     exact Hrest.out i hi _ (by omega) rfl
    ·have hoi := Helj.out i hi (by omega)
     by_cases hkl : k < Vj.length
     ·rw [List.getElem_append_left hkl] at hg'
      exact Hfr.out k hkl g' hg' i hi (by omega) e
     ·simp at hk
      rw [List.getElem_append_right (by omega)] at hg'
      have hself : ∀ b, (Value.slice ua un uc).ownBlock = some b → l[i].v.ownBlock ≠ some b := fun b hb => by
       rw [← Huv.out] at hb
       exact Hdis.out j i hlt hi b (by omega) hb
      have hlt9 := (World.ownsRow.lt hoi g' e).2
      rcases (show k - Vj.length = 0 ∨ k - Vj.length = 1 ∨ k - Vj.length = 2 ∨ k - Vj.length = 3 from by omega) with hk0 | hk0 | hk0 | hk0
      ·simp only [hk0, List.getElem_cons_zero] at hg'
       exact hself g' hg' e
      ·simp only [hk0, List.getElem_cons_succ, List.getElem_cons_zero] at hg'
       rcases hat2 ua2 g' (.inl rfl) hg' with h9 | h9
       ·exact hself g' h9 e
       ·omega
      ·simp only [hk0, List.getElem_cons_succ, List.getElem_cons_zero] at hg'
       rcases hat2 ub2 g' (.inr (.inl rfl)) hg' with h9 | h9
       ·exact hself g' h9 e
       ·omega
      ·simp only [hk0, List.getElem_cons_succ, List.getElem_cons_zero] at hg'
       rcases hat2 uc2 g' (.inr (.inr rfl)) hg' with h9 | h9
       ·exact hself g' h9 e
       ·omega
    ·have hoi := Helj.out i hi (by omega)
     have hoi2 : w2.ownsRow B 53 6 l[i].v l[i].m.a.length (vcells l[i].m.a) := owns_keeps hoi k2 (fun g' hg' ho => by
      obtain ⟨cs, hc⟩ := owns_blk hoi hg'
      rcases ho with rfl | ho | ho
      ·have := blk_type hc hbw; revert this; decide
      ·rw [← Huv.out] at ho
       exact Hdis.out j i hlt hi g' (by omega) ho hg'
      ·obtain ⟨cs', hc'⟩ := owns_blk hVj.own ho
       have := blk_type hc hc'; revert this; decide)
     exact owns_keeps hoi2 k3 (fun g' hg' => by obtain ⟨cs, hc⟩ := owns_blk hoi2 hg'; exact hng hc (by decide))
    ·rcases hwv2 g' hg' with h9 | h9
     ·exact Hwvo.out g' h9
     ·exact .inr (Nat.le_trans hwr h9)
    ·refine (hK.trans (k2.mono (fun k _ ho => ?_))).trans (k3.mono (fun k _ e => by rw [e]; exact .inr (.inr hgB)))
     rcases ho with h9 | h9 | h9
     ·exact .inl h9
     ·rw [← Huv.out] at h9
      exact .inr (.inr (World.ownsRow.lt hoj k h9).1)
     ·exact .inr (Hwvo.out k h9)
   clear Hfr Helj Hrest hVj hnsr hb2 ho2 mm0 mm1 mm2 mm3 k2 hat2 hwv2 hM hbw hx hK hoj hgk hgr
   go_upto_region 3 with (refine wpList_store_mid rfl 36 (.tmp 32) (.tmp 31) rfl g (j * 10) #[I6 mk, I6 0, I6 0, I6 0, I6 0, I6 0, I6 0, I6 0, .string ⟨#[]⟩, .slice none 0 0] rfl rfl hth.out hi10.out h110.out ?_; simp only [Act.put])
   go_wp2_with fail
   go_roundw
   case rel =>
    obtain ⟨wvj', Vj', h9⟩ := Hfin.out _ rfl
    exact ⟨j + 1, wvj', Vj', by omega, by go_num, h9⟩
   case measure => simp [intOf]; omega
  ·have hje : j = l.length := by omega
   subst hje
   have hwlt2 : w'.heap.size < wr.heap.size := lt_of_block hx
   have hap : ∀ g, (Value.slice vo L vc).ownBlock = some g → ¬ (Value.slice ao l.length cap).ownBlock = some g := fun g hg => owns_apart hnsr hM (by decide) hg
   have hapV : ∀ g, wvj.ownBlock = some g → ¬ (Value.slice ao l.length cap).ownBlock = some g := fun g hg => owns_apart hVj.own hM (by decide) hg
   have hsz0 := hK.size
   have h1x : ∀ u ∈ mmx mk, u.oneCell' = true := by intro u hu; simp [mmx] at hu; rcases hu with rfl | rfl | rfl | rfl <;> rfl
   have hs10 : 0 < (mmx mk).length := by show 0 < 10; decide
   have hb1 : l.length + 1 ≤ maxLen ∧ (l.length + 1) * 104 ≤ 140737488355328 := ⟨by unfold maxLen; omega, by omega⟩
   have hb2 : l.length + 2 ≤ maxLen ∧ (l.length + 2) * 104 ≤ 140737488355328 := ⟨by unfold maxLen; omega, by omega⟩
   have hb3 : l.length + 3 ≤ maxLen ∧ (l.length + 3) * 104 ≤ 140737488355328 := ⟨by unfold maxLen; omega, by omega⟩
   have hnx : (Value.slice ao l.length cap).ownBlock ≠ some w'.heap.size := fun e => by have := hvlt _ e; omega
   have hKm : Keeps (fun k => k = wb ∨ (Value.slice vo L vc).ownBlock = some k ∨ wv.ownBlock = some k ∨ B ≤ k) w' wr := hK.mono (fun k _ h => by rcases h with h | h | h; exact .inl h; exact .inr (.inr (.inl h)); exact .inr (.inr (.inr h)))
   have hgrB : ∀ g, (Value.slice ao l.length cap).ownBlock = some g → B ≤ g := fun g hg => hvge g hg
   go_upto_region 7 with (at_builtin; refine wpList_append_mark _ rfl (.tmp 33) (.tmp 35) 50 rfl H 36 i0 _ (mmx mk) 104 Tryz.underlying50 hi hz0 hz1 hz2 rfl hs10 (.slice ao l.length cap) l.length rfl (owns_alloc hM _) _ 1 1 rfl (news_new _ _ (by simp) _ _) h1x (by decide) hb1.1 hb1.2 (by simp; omega) ?_; intro g1 cap1 w1 hM1 hgr1 hat1 hlt1 hall1)
   have hMl1 := hall1 _ _ (owns_alloc hM _)
   have hx1 := blk_grown hgr1 (blk_alloc hx _) hnx
   have hbw1 := blk_grown hgr1 (blk_alloc hbw _) hvwb
   have hns1 := owns_grown (owns_alloc hnsr _) hgr1 hap
   have hKg1 : Keeps (fun k => (Value.slice ao l.length cap).ownBlock = some k) wr w1 := (Keeps.ofAlloc _ _).trans (Keeps.ofGrown hgr1)
   have hsi1 := hKg1.size
   have hxc1 := blk_cell hx1
   clear hall1 hgr1 hxc
   go_upto_region 8 with (at_builtin; refine wpList_append_mark _ rfl (.tmp 37) (.tmp 40) 50 rfl H 36 i0 _ (mmx mk) 104 Tryz.underlying50 hi hz0 hz1 hz2 rfl hs10 (.slice ao l.length cap) l.length rfl (owns_alloc hMl1 _) _ 2 2 rfl (news_new _ _ (by simp) _ _) h1x (by decide) hb2.1 hb2.2 (by simp; omega) ?_; intro g2 cap2 w2 hM2 hgr2 hat2 hlt2 hall2)
   have hMl2 := hall2 _ _ (owns_alloc hMl1 _)
   have hM1x := hall2 _ _ (owns_alloc hM1 _)
   have hx2 := blk_grown hgr2 (blk_alloc hx1 _) hnx
   have hbw2 := blk_grown hgr2 (blk_alloc hbw1 _) hvwb
   have hns2 := owns_grown (owns_alloc hns1 _) hgr2 hap
   have hKg2 := hKg1.trans ((Keeps.ofAlloc _ _).trans (Keeps.ofGrown hgr2))
   have hsi2 := hKg2.size
   have hs12 : w1.heap.size ≤ w2.heap.size := by have := hgr2.size; simp at this; omega
   have hxc2 := blk_cell hx2
   clear hall2 hgr2 hxc1
   go_upto_region 9 with (at_builtin; refine wpList_append_mark _ rfl (.tmp 42) (.tmp 46) 50 rfl H 36 i0 _ (mmx mk) 104 Tryz.underlying50 hi hz0 hz1 hz2 rfl hs10 (.slice ao l.length cap) l.length rfl (owns_alloc hMl2 _) _ 3 3 rfl (news_new _ _ (by simp) _ _) h1x (by decide) hb3.1 hb3.2 (by simp; omega) ?_; intro g3 cap3 w3 hM3 hgr3 hat3 hlt3 hall3)
   have hMl3 := hall3 _ _ (owns_alloc hMl2 _)
   have hM1xx := hall3 _ _ (owns_alloc hM1x _)
   have hM2x := hall3 _ _ (owns_alloc hM2 _)
   have hx3 := blk_grown hgr3 (blk_alloc hx2 _) hnx
   have hbw3 := blk_grown hgr3 (blk_alloc hbw2 _) hvwb
   have hns3 := owns_grown (owns_alloc hns2 _) hgr3 hap
   have hKg3 := hKg2.trans ((Keeps.ofAlloc _ _).trans (Keeps.ofGrown hgr3))
   have hsi3 := hKg3.size
   have hxc3 := blk_cell hx3
   clear hall3 hgr3 hxc2
   have hwc := blk_cell hbw3
   have hwf := blk_free hbw3
   have h1s : ∀ u ∈ [Value.slice ao l.length cap, .slice (some (A6 g1 0)) (l.length + 1) cap1, .slice (some (A6 g2 0)) (l.length + 2) cap2, .slice (some (A6 g3 0)) (l.length + 3) cap3], u.oneCell' = true := by
    intro u hu; simp at hu; rcases hu with rfl | rfl | rfl | rfl <;> rfl
   have hbL : L + 4 ≤ maxLen ∧ (L + 4) * 24 ≤ 140737488355328 := ⟨by unfold maxLen; omega, by omega⟩
   have hHw : H ≤ w3.heap.size := by omega
   have hV3 := hVj.keeps hKg3 hapV (fun k hk g hg => by
    obtain ⟨n, _, hm⟩ := hVj.marks k hk
    exact owns_apart hm hM (by decide) hg)
   have Hwvo' := Hwvo
   clear hblk hxc3 Hrest Hfr Helj Hl9 Hel Hal Hdis HVB
   go_wp2_with (at_builtin; refine wpList_append_lies _ rfl (.tmp 52) (.tmp 57) 27 rfl H 50 j0 _ 1 24 Tryz.underlying27 hj0 hy0 hy1 hy2 rfl (by decide) (.slice vo L vc) L Ns rfl (owns_alloc hns3 _) _ 4 4 [.slice ao l.length cap, .slice (some (A6 g1 0)) (l.length + 1) cap1, .slice (some (A6 g2 0)) (l.length + 2) cap2, .slice (some (A6 g3 0)) (l.length + 3) cap3] rfl rfl (news_new _ _ (by simp) _ _) h1s (by decide) hbL.1 hbL.2 (by simp; omega) _ rfl ?_; intro g4 cap4 w4 hown4 hgr4 hat4 hlt4; have hbw4 := blk_grown hgr4 (blk_alloc hbw3 _) hwvwb; have hwc4 := blk_cell hbw4; have hwf4 := blk_free hbw4)
   go_end0
   have fin : ∀ u k, MK w3 H 36 (mmx mk) u k → MK (w4.setCell (A6 wb 1) (.slice (some (A6 g4 0)) (L + 4) cap4)) H 36 (mmx mk) u k := fun u k hu => by
    have h1 : MK w4 H 36 (mmx mk) u k := owns_grown (owns_alloc hu _) hgr4 (fun g hg => owns_apart hu hns3 (by decide) hg)
    exact owns_set h1 (owns_not_block h1 hbw4 (by decide)) _
   have hV4 : MAt w4 H 34 53 mv wvj Vj := hV3.keeps ((Keeps.ofAlloc _ _).trans (Keeps.ofGrown hgr4)) (fun g hg => owns_apart hV3.own hns3 (by decide) hg) (fun k hk g hg => by
    obtain ⟨n, _, hm⟩ := hV3.marks k hk
    exact owns_apart hm hns3 (by decide) hg)
   have hV5 := hV4.keeps (Keeps.ofSet (P := fun k => k = wb) (a := (A6 wb 1)) (.inl rfl) (.slice (some (A6 g4 0)) (L + 4) cap4)) (fun g hg e => by subst e; exact owns_not_block hV4.own hbw4 (by decide) hg) (fun k hk g hg e => by
    subst e
    obtain ⟨n, _, hm⟩ := hV4.marks k hk
    exact owns_not_block hm hbw4 (by decide) hg)
   refine ⟨_, wvj, Vj, _, _, _, rfl, blk_set hbw4 1 _, owns_set hown4 (owns_not_block hown4 hbw4 (by decide)) _, fin _ _ hMl3, fin _ _ hM1xx, fin _ _ hM2x, fin _ _ hM3, hV5, hVjl, ?_, ?_⟩
   ·refine (hKm.trans (hKg3.mono (fun k _ h => .inr (.inr (.inr (hgrB k h)))))).trans ((Keeps.ofAlloc _ _).trans (((Keeps.ofGrown hgr4).mono (fun k _ h => .inr (.inl h))).trans (Keeps.ofSet (.inl (.inl rfl)) _)))
   ·intro u g hu hg
    simp only [World.size_alloc] at hat1 hat2 hat3
    rcases hu with rfl | rfl | rfl | rfl
    ·exact hgrB g hg
    ·obtain rfl : g1 = g := by simpa [Value.ownBlock] using hg
     rcases hat1 with h | h
     ·exact hgrB _ h
     ·omega
    ·obtain rfl : g2 = g := by simpa [Value.ownBlock] using hg
     rcases hat2 with h | h
     ·exact hgrB _ h
     ·omega
    ·obtain rfl : g3 = g := by simpa [Value.ownBlock] using hg
     rcases hat3 with h | h
     ·exact hgrB _ h
     ·omega
end
section
open Go.RowKit
theorem MAt.read {w : World} {H : Nat} {E T : TypeId} {mk : Nat → List Value} {sv : Value} {vs : List Value} (h : MAt w H E T mk sv vs) : ∃ vo vc, sv = .slice vo vs.length vc ∧ (0 < vs.length → ∃ g, vo = some (A6 g 0) ∧ g < w.heap.size ∧ ∀ k (hk : k < vs.length), w.cell? (A6 g k) = some vs[k]) := by
 rcases h.own.2 with ⟨rfl, h0⟩ | ⟨g, cap, cur, rfl, _, hg, _, _, hcs, htk⟩
 ·exact ⟨none, 0, by rw [h0], fun h => by omega⟩
 ·refine ⟨_, cap, rfl, fun _ => ⟨g, rfl, lt_of_block hg, fun k hk => ?_⟩⟩
  rw [blk_cell hg, ← Array.getElem?_toList]
  have e1 : cur.toList[k]? = (cur.toList.take (vs.length * 1))[k]? := by rw [List.getElem?_take, if_pos (by omega)]
  rw [e1, htk, List.getElem?_eq_getElem hk]
theorem MK.read {w : World} {H : Nat} {T : TypeId} {x : List Value} {u : Value} {n : Nat} (hM : MK w H T x u n) : ∃ so sc, u = .slice so n sc ∧ (0 < n → ∃ b, so = some (A6 b 0) ∧ b < w.heap.size ∧ ∀ j, j < n → ∀ i, i < x.length → w.cell? (A6 b (j * x.length + i)) = x[i]?) := by
 rcases hM.2 with ⟨e, h0⟩ | ⟨b, cap, cur, e, _, hb, _, _, hcs, htk⟩
 ·exact ⟨none, 0, by rw [e, h0], fun h => by omega⟩
 ·refine ⟨_, cap, e, fun _ => ⟨b, rfl, lt_of_block hb, fun j hj i hi => ?_⟩⟩
  rw [blk_cell hb, ← Array.getElem?_toList, ← reps_at n x j hj i hi, ← htk, List.getElem?_take]
  rw [if_pos]
  have : (j + 1) * x.length ≤ n * x.length := Nat.mul_le_mul_right _ hj
  rw [Nat.add_mul] at this
  omega
set_option maxHeartbeats 8000000 in
theorem looks_all (wb H : Nat) (wl wn wv wp : Value) (N V P : List Value) (w : World) (hblk : w.heap[wb]? = some (.cells #[wl, wn, wv, wp] 31 (0, 0)))
  (hN : MAt w H 50 36 mm wn N) (hV : MAt w H 34 53 mv wv V) (hP : MAt w H 54 33 mp wp P) (lN : N.length ≤ 5000000000000) (lV : V.length ≤ 5000000000000) (lP : P.length ≤ 5000000000000) :
  Calls Tryz.prog 8 #[P6 wb] w fun e w' => e = .returned (.bool true) ∧ Below w.heap.size w w' := by
 obtain ⟨no, nc, rfl, hoN⟩ := hN.read
 obtain ⟨vo, vc, rfl, hoV⟩ := hV.read
 obtain ⟨po, pc, rfl, hoP⟩ := hP.read
 have HoN : Hid (0 < N.length → ∃ g, no = some (A6 g 0) ∧ g < w.heap.size ∧ ∀ k (hk : k < N.length), w.cell? (A6 g k) = some N[k]) := hoN
 have HoV : Hid (0 < V.length → ∃ g, vo = some (A6 g 0) ∧ g < w.heap.size ∧ ∀ k (hk : k < V.length), w.cell? (A6 g k) = some V[k]) := hoV
 have HoP : Hid (0 < P.length → ∃ g, po = some (A6 g 0) ∧ g < w.heap.size ∧ ∀ k (hk : k < P.length), w.cell? (A6 g k) = some P[k]) := hoP
 have HmN : Hid (∀ k (hk : k < N.length), ∃ n, n ≤ 2000000 ∧ MK w H 36 (mm k) N[k] n) := hN.marks
 have HmV : Hid (∀ k (hk : k < V.length), ∃ n, n ≤ 2000000 ∧ MK w H 53 (mv k) V[k] n) := hV.marks
 have HmP : Hid (∀ k (hk : k < P.length), ∃ n, n ≤ 2000000 ∧ MK w H 33 (mp k) P[k] n) := hP.marks
 have hwlt := lt_of_block hblk
 have Hc : Hid (∀ j, w.cell? (A6 wb j) = #[wl, .slice no N.length nc, .slice vo V.length vc, .slice po P.length pc][j]?) := blk_cell hblk
 clear hN hV hP hoN hoV hoP hblk
 go_enter Tryz.func8, Tryz.ntmps8
 go_wp2_with fail
 go_loopw [3] (fun i wr => ∃ k : Nat, k ≤ N.length ∧ i = I6 k ∧ Below w.heap.size w wr) (fun i _ => N.length - (intOf i).toNat)
 case atStart => exact ⟨0, Nat.zero_le _, rfl, Below.refl _ _⟩
 case round =>
 obtain ⟨k, hk, rfl, hBN⟩ := hrel
 have hcw : ∀ j, wr.cell? (A6 wb j) = _ := fun j => (hBN.cell (p := (A6 wb j)) hwlt).trans (Hc.out j)
 by_cases hlt : k < N.length
 ·obtain ⟨g, rfl, hglt, hgc⟩ := HoN.out (by omega)
  obtain ⟨n, hn, hM⟩ := HmN.out k hlt
  have hmark := fun W => mark_any k W (by omega)
  have HV : Hid (mm k = mmx (-1000 - ((k / 4 : Nat) : Int))) := rfl
  rw [HV.out] at hM
  generalize (-1000 - ((k / 4 : Nat) : Int)) = mk at *
  obtain ⟨so, sc, hsv, hsc⟩ := hM.read
  have hgk := hgc k hlt
  rw [hsv] at hgk
  have hgk' : wr.cell? (A6 g k) = some (.slice so n sc) := (hBN.cell (p := (A6 g k)) hglt).trans hgk
  have Hsc : Hid (0 < n → ∃ b, so = some (A6 b 0) ∧ b < w.heap.size ∧ ∀ j, j < n → ∀ i, i < 10 → w.cell? (A6 b (j * 10 + i)) = (mmx mk)[i]?) := hsc
  clear hgc hM hsv hgk hsc
  go_wp2_with fail
  go_loopw [4] (fun i wq => ∃ j : Nat, j ≤ n ∧ i = I6 j ∧ Below w.heap.size w wq) (fun i _ => n - (intOf i).toNat)
  case atStart => exact ⟨0, Nat.zero_le _, rfl, hBN⟩
  case round =>
  obtain ⟨j, hj, rfl, hq⟩ := hrel
  have hcq : ∀ j, wr.cell? (A6 wb j) = _ := fun j => (hq.cell (p := (A6 wb j)) hwlt).trans (Hc.out j)
  have hgq : wr.cell? (A6 g k) = some (.slice so n sc) := by rw [hq.cell (p := (A6 g k)) hglt, ← hBN.cell (p := (A6 g k)) hglt]; exact hgk'
  by_cases hjn : j < n
  ·obtain ⟨b, rfl, hblt, hbc⟩ := Hsc.out (by omega)
   have c0 : wr.cell? (A6 b (j * 10)) = some (I6 mk) := (hq.cell (p := (A6 b (j * 10))) hblt).trans (hbc j hjn 0 (by decide))
   have c1 : wr.cell? (A6 b (j * 10 + 1)) = some (I6 0) := (hq.cell (p := (A6 b (j * 10 + 1))) hblt).trans (hbc j hjn 1 (by decide))
   have c2 : wr.cell? (A6 b (j * 10 + 2)) = some (I6 0) := (hq.cell (p := (A6 b (j * 10 + 2))) hblt).trans (hbc j hjn 2 (by decide))
   have c3 : wr.cell? (A6 b (j * 10 + 3)) = some (I6 0) := (hq.cell (p := (A6 b (j * 10 + 3))) hblt).trans (hbc j hjn 3 (by decide))
   have c4 : wr.cell? (A6 b (j * 10 + 4)) = some (I6 0) := (hq.cell (p := (A6 b (j * 10 + 4))) hblt).trans (hbc j hjn 4 (by decide))
   have c5 : wr.cell? (A6 b (j * 10 + 5)) = some (I6 0) := (hq.cell (p := (A6 b (j * 10 + 5))) hblt).trans (hbc j hjn 5 (by decide))
   have c6 : wr.cell? (A6 b (j * 10 + 6)) = some (I6 0) := (hq.cell (p := (A6 b (j * 10 + 6))) hblt).trans (hbc j hjn 6 (by decide))
   have c7 : wr.cell? (A6 b (j * 10 + 7)) = some (I6 0) := (hq.cell (p := (A6 b (j * 10 + 7))) hblt).trans (hbc j hjn 7 (by decide))
   have c8 : wr.cell? (A6 b (j * 10 + 8)) = some (.string ⟨#[]⟩) := (hq.cell (p := (A6 b (j * 10 + 8))) hblt).trans (hbc j hjn 8 (by decide))
   have c9 : wr.cell? (A6 b (j * 10 + 9)) = some (.slice none 0 0) := (hq.cell (p := (A6 b (j * 10 + 9))) hblt).trans (hbc j hjn 9 (by decide))
   have i0 : (0 : Int) ≤ (k : Int) := by omega
   have i1 : (k : Int) < (N.length : Int) := by omega
   have i2 : (0 : Int) ≤ (j : Int) := by omega
   have i3 : (j : Int) < (n : Int) := by omega
   clear hbc Hsc hcw hgk'
   go_upto_region 8 with (fail)
   have hbx := blk_new wr (.cells #[I6 mk, I6 0, I6 0, I6 0, I6 0, I6 0, I6 0, I6 0, .string ⟨#[]⟩, .slice none 0 0] 36)
   have hqa := hq.alloc hq.size (.cells #[I6 mk, I6 0, I6 0, I6 0, I6 0, I6 0, I6 0, I6 0, .string ⟨#[]⟩, .slice none 0 0] 36)
   generalize wr.alloc (.cells #[I6 mk, I6 0, I6 0, I6 0, I6 0, I6 0, I6 0, I6 0, .string ⟨#[]⟩, .slice none 0 0] 36) = wz at *
   have hbxc := blk_cell hbx
   clear c0 c1 c2 c3 c4 c5 c6 c7 c8 c9
   go_quiet ((go_at_call 15; exact Calls.quiet_of_same (hmark _)))
   go_wp2
   go_roundw
   case rel => exact ⟨j + 1, by omega, by go_num, below_drewN hqa _⟩
   case measure => simp [intOf]; omega
  ·go_wp2
   go_roundw
   case rel => exact ⟨k + 1, by omega, by go_num, hq⟩
   case measure => simp [intOf]; omega
 ·have hk9 : ¬ (k : Int) < (N.length : Int) := by omega
  go_wp2_with fail
  go_loopw [6] (fun i wr => ∃ k : Nat, k ≤ V.length ∧ i = I6 k ∧ Below w.heap.size w wr) (fun i _ => V.length - (intOf i).toNat)
  case atStart => exact ⟨0, Nat.zero_le _, rfl, hBN⟩
  case round =>
  clear hBN
  obtain ⟨k, hk, rfl, hBV⟩ := hrel
  have hcw : ∀ j, wr.cell? (A6 wb j) = _ := fun j => (hBV.cell (p := (A6 wb j)) hwlt).trans (Hc.out j)
  by_cases hlt : k < V.length
  ·obtain ⟨g, rfl, hglt, hgc⟩ := HoV.out (by omega)
   obtain ⟨n, hn, hM⟩ := HmV.out k hlt
   have hmark := fun W => mark_any k W (by omega)
   have HV : Hid (mv k = mvx (-1000 - ((k / 4 : Nat) : Int))) := rfl
   rw [HV.out] at hM
   generalize (-1000 - ((k / 4 : Nat) : Int)) = mk at *
   obtain ⟨so, sc, hsv, hsc⟩ := hM.read
   have hgk := hgc k hlt
   rw [hsv] at hgk
   have hgk' : wr.cell? (A6 g k) = some (.slice so n sc) := (hBV.cell (p := (A6 g k)) hglt).trans hgk
   have Hsc : Hid (0 < n → ∃ b, so = some (A6 b 0) ∧ b < w.heap.size ∧ ∀ j, j < n → ∀ i, i < 6 → w.cell? (A6 b (j * 6 + i)) = (mvx mk)[i]?) := hsc
   clear hgc hM hsv hgk hsc
   go_wp2_with fail
   go_loopw [7] (fun i wq => ∃ j : Nat, j ≤ n ∧ i = I6 j ∧ Below w.heap.size w wq) (fun i _ => n - (intOf i).toNat)
   case atStart => exact ⟨0, Nat.zero_le _, rfl, hBV⟩
   case round =>
   obtain ⟨j, hj, rfl, hq⟩ := hrel
   have hcq : ∀ j, wr.cell? (A6 wb j) = _ := fun j => (hq.cell (p := (A6 wb j)) hwlt).trans (Hc.out j)
   have hgq : wr.cell? (A6 g k) = some (.slice so n sc) := by rw [hq.cell (p := (A6 g k)) hglt, ← hBV.cell (p := (A6 g k)) hglt]; exact hgk'
   by_cases hjn : j < n
   ·obtain ⟨b, rfl, hblt, hbc⟩ := Hsc.out (by omega)
    have c0 : wr.cell? (A6 b (j * 6)) = some (I6 mk) := (hq.cell (p := (A6 b (j * 6))) hblt).trans (hbc j hjn 0 (by decide))
    have c1 : wr.cell? (A6 b (j * 6 + 1)) = some (I6 0) := (hq.cell (p := (A6 b (j * 6 + 1))) hblt).trans (hbc j hjn 1 (by decide))
    have c2 : wr.cell? (A6 b (j * 6 + 2)) = some (I6 0) := (hq.cell (p := (A6 b (j * 6 + 2))) hblt).trans (hbc j hjn 2 (by decide))
    have c3 : wr.cell? (A6 b (j * 6 + 3)) = some (I6 0) := (hq.cell (p := (A6 b (j * 6 + 3))) hblt).trans (hbc j hjn 3 (by decide))
    have c4 : wr.cell? (A6 b (j * 6 + 4)) = some (I6 0) := (hq.cell (p := (A6 b (j * 6 + 4))) hblt).trans (hbc j hjn 4 (by decide))
    have c5 : wr.cell? (A6 b (j * 6 + 5)) = some (.string ⟨#[]⟩) := (hq.cell (p := (A6 b (j * 6 + 5))) hblt).trans (hbc j hjn 5 (by decide))
    have i0 : (0 : Int) ≤ (k : Int) := by omega
    have i1 : (k : Int) < (V.length : Int) := by omega
    have i2 : (0 : Int) ≤ (j : Int) := by omega
    have i3 : (j : Int) < (n : Int) := by omega
    clear hbc Hsc hcw hgk'
    go_wp2
    go_quiet ((go_at_call 15; exact Calls.quiet_of_same (hmark _)))
    go_wp2
    go_roundw
    case rel => exact ⟨j + 1, by omega, by go_num, below_drewN hq _⟩
    case measure => simp [intOf]; omega
   ·go_wp2
    go_roundw
    case rel => exact ⟨k + 1, by omega, by go_num, hq⟩
    case measure => simp [intOf]; omega
  ·have hk9 : ¬ (k : Int) < (V.length : Int) := by omega
   go_wp2_with fail
   go_loopw [8] (fun i wr => ∃ k : Nat, k ≤ P.length ∧ i = I6 k ∧ Below w.heap.size w wr) (fun i _ => P.length - (intOf i).toNat)
   case atStart => exact ⟨0, Nat.zero_le _, rfl, hBV⟩
   case round =>
   clear hBV
   obtain ⟨k, hk, rfl, hBP⟩ := hrel
   have hcw : ∀ j, wr.cell? (A6 wb j) = _ := fun j => (hBP.cell (p := (A6 wb j)) hwlt).trans (Hc.out j)
   by_cases hlt : k < P.length
   ·obtain ⟨g, rfl, hglt, hgc⟩ := HoP.out (by omega)
    obtain ⟨n, hn, hM⟩ := HmP.out k hlt
    have hmark := fun W => mark_any k W (by omega)
    have HV : Hid (mp k = mpx (-1000 - ((k / 4 : Nat) : Int))) := rfl
    rw [HV.out] at hM
    generalize (-1000 - ((k / 4 : Nat) : Int)) = mk at *
    obtain ⟨so, sc, hsv, hsc⟩ := hM.read
    have hgk := hgc k hlt
    rw [hsv] at hgk
    have hgk' : wr.cell? (A6 g k) = some (.slice so n sc) := (hBP.cell (p := (A6 g k)) hglt).trans hgk
    have Hsc : Hid (0 < n → ∃ b, so = some (A6 b 0) ∧ b < w.heap.size ∧ ∀ j, j < n → ∀ i, i < 4 → w.cell? (A6 b (j * 4 + i)) = (mpx mk)[i]?) := hsc
    clear hgc hM hsv hgk hsc
    go_wp2_with fail
    go_loopw [9] (fun i wq => ∃ j : Nat, j ≤ n ∧ i = I6 j ∧ Below w.heap.size w wq) (fun i _ => n - (intOf i).toNat)
    case atStart => exact ⟨0, Nat.zero_le _, rfl, hBP⟩
    case round =>
    obtain ⟨j, hj, rfl, hq⟩ := hrel
    have hcq : ∀ j, wr.cell? (A6 wb j) = _ := fun j => (hq.cell (p := (A6 wb j)) hwlt).trans (Hc.out j)
    have hgq : wr.cell? (A6 g k) = some (.slice so n sc) := by rw [hq.cell (p := (A6 g k)) hglt, ← hBP.cell (p := (A6 g k)) hglt]; exact hgk'
    by_cases hjn : j < n
    ·obtain ⟨b, rfl, hblt, hbc⟩ := Hsc.out (by omega)
     have c0 : wr.cell? (A6 b (j * 4)) = some (I6 mk) := (hq.cell (p := (A6 b (j * 4))) hblt).trans (hbc j hjn 0 (by decide))
     have c1 : wr.cell? (A6 b (j * 4 + 1)) = some (I6 0) := (hq.cell (p := (A6 b (j * 4 + 1))) hblt).trans (hbc j hjn 1 (by decide))
     have c2 : wr.cell? (A6 b (j * 4 + 2)) = some (I6 0) := (hq.cell (p := (A6 b (j * 4 + 2))) hblt).trans (hbc j hjn 2 (by decide))
     have c3 : wr.cell? (A6 b (j * 4 + 3)) = some (.string ⟨#[]⟩) := (hq.cell (p := (A6 b (j * 4 + 3))) hblt).trans (hbc j hjn 3 (by decide))
     have i0 : (0 : Int) ≤ (k : Int) := by omega
     have i1 : (k : Int) < (P.length : Int) := by omega
     have i2 : (0 : Int) ≤ (j : Int) := by omega
     have i3 : (j : Int) < (n : Int) := by omega
     clear hbc Hsc hcw hgk'
     go_wp2
     go_quiet ((go_at_call 15; exact Calls.quiet_of_same (hmark _)))
     go_wp2
     go_roundw
     case rel => exact ⟨j + 1, by omega, by go_num, below_drewN hq _⟩
     case measure => simp [intOf]; omega
    ·go_wp2
     go_roundw
     case rel => exact ⟨k + 1, by omega, by go_num, hq⟩
     case measure => simp [intOf]; omega
   ·have hk9 : ¬ (k : Int) < (P.length : Int) := by omega
    go_wp2
    go_ret
    exact ⟨rfl, hBP⟩
end
end Go.Proofs.YtnnhnekfokbooaaGreatDoor
