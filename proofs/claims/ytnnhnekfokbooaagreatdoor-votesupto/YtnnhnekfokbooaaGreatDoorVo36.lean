/- The law's world: the pairs, and the lists that came out, each list written over with its mark. The law's posted (laid by mklawc.py out of RefV's voted). (Joined by merge.py.) -/
import Derived.Test.YtnnhnekfokbooaaGreatDoorVo35
namespace Go.Proofs.YtnnhnekfokbooaaGreatDoor
open Go.RowKit
set_option linter.unusedSimpArgs false
set_option linter.unusedVariables false

def pcs : List Pr → List Value
 | [] => []
 | p :: l => [.pointer (some ⟨p.sb, 0, none⟩), .pointer (some ⟨p.qb, 0, none⟩)] ++ pcs l
theorem pcs_append (a b : List Pr) : pcs (a ++ b) = pcs a ++ pcs b := by
 induction a with
 | nil => rfl
 | cons o l ih => simp [pcs, ih]
theorem pcs_length (l : List Pr) : (pcs l).length = l.length * 2 := by
 induction l with
 | nil => rfl
 | cons o l ih => simp [pcs, ih]; omega
theorem pcs_at : ∀ (l : List Pr) (k : Nat) (hk : k < l.length), (pcs l)[k * 2]? = some (.pointer (some ⟨l[k].sb, 0, none⟩)) ∧ (pcs l)[k * 2 + 1]? = some (.pointer (some ⟨l[k].qb, 0, none⟩))
 | [], k, hk => by simp at hk
 | p :: l, 0, _ => ⟨rfl, rfl⟩
 | p :: l, k + 1, hk => by
  have h := pcs_at l k (by simpa using hk)
  have e : (k + 1) * 2 = k * 2 + 1 + 1 := by omega
  rw [e]
  exact h
theorem pcs_set : ∀ (l : List Pr) (i : Nat) (hi : i < l.length) (p : Pr), p.sb = l[i].sb → p.qb = l[i].qb → pcs (l.set i p) = pcs l
 | [], i, hi, _, _, _ => by simp at hi
 | q :: l, 0, _, p, h1, h2 => by
  simp only [List.getElem_cons_zero] at h1 h2
  simp [pcs, h1, h2]
 | q :: l, i + 1, hi, p, h1, h2 => by
  simp only [List.getElem_cons_succ] at h1 h2
  simp only [List.set_cons_succ, pcs]
  rw [pcs_set l i (by simpa using hi) p h1 h2]
/-- The marks of messages and posts. -/
def mmx (m : Int) : List Value := [.int .i64 m, .int .i64 0, .int .i64 0, .int .i64 0, .int .i64 0, .int .i64 0, .int .i64 0, .int .i64 0, .string ⟨#[]⟩, .slice none 0 0]
def mm (k : Nat) : List Value := mmx (-1000 - ((k / 4 : Nat) : Int))
def mpx (m : Int) : List Value := [.int .i64 m, .int .i64 0, .int .i64 0, .string ⟨#[]⟩]
def mp (k : Nat) : List Value := mpx (-1000 - ((k / 4 : Nat) : Int))
theorem four_same {j i : Nat} (hj : j % 4 = 0) (hi : i < 4) : (j + i) / 4 = j / 4 := by omega
theorem mm4 {j i : Nat} (hj : j % 4 = 0) (hi : i < 4) : mm (j + i) = mm j := by unfold mm; rw [four_same hj hi]
theorem mv4 {j i : Nat} (hj : j % 4 = 0) (hi : i < 4) : mv (j + i) = mv j := by unfold mv; rw [four_same hj hi]
theorem mp4 {j i : Nat} (hj : j % 4 = 0) (hi : i < 4) : mp (j + i) = mp j := by unfold mp; rw [four_same hj hi]
/-- The lists of one type that came out. -/
structure MAt (w : World) (H : Nat) (E T : TypeId) (mk : Nat → List Value) (sv : Value) (vs : List Value) : Prop where
 own : w.ownsRow H E 1 sv vs.length vs
 marks : ∀ k (hk : k < vs.length), ∃ n, n ≤ 2000000 ∧ MK w H T (mk k) vs[k] n
 four : vs.length % 4 = 0
theorem MAt.keeps {P : Nat → Prop} {w w' : World} {H : Nat} {E T : TypeId} {mk : Nat → List Value} {sv : Value} {vs : List Value} (h : MAt w H E T mk sv vs) (hk : Keeps P w w') (h1 : ∀ g, sv.ownBlock = some g → ¬ P g) (h2 : ∀ k (hk : k < vs.length) g, vs[k].ownBlock = some g → ¬ P g) : MAt w' H E T mk sv vs := by
 refine ⟨owns_keeps h.own hk h1, fun k hk' => ?_, h.four⟩
 obtain ⟨n, hn, hm⟩ := h.marks k hk'
 exact ⟨n, hn, owns_keeps hm hk (h2 k hk')⟩
theorem MAt.below {w w' : World} {H : Nat} {E T : TypeId} {mk : Nat → List Value} {sv : Value} {vs : List Value} (h : MAt w H E T mk sv vs) (hb : Below w.heap.size w w') : MAt w' H E T mk sv vs :=
 h.keeps (Keeps.ofBelow (P := fun _ => False) hb) (fun _ _ => id) (fun _ _ _ _ => id)
theorem MAt.blkT {w : World} {H : Nat} {E T : TypeId} {mk : Nat → List Value} {sv : Value} {vs : List Value} (h : MAt w H E T mk sv vs) {k : Nat} (hk : k < vs.length) {g : Nat} (hg : vs[k].ownBlock = some g) : H ≤ g ∧ ∃ cs, w.heap[g]? = some (.cells cs T (0, 0)) := by
 obtain ⟨n, hn, hm⟩ := h.marks k hk
 exact ⟨(World.ownsRow.lt hm g hg).1, owns_blk hm hg⟩
theorem blk_type {w : World} {k : Nat} {cs cs' : Array Value} {t t' : TypeId} (h : w.heap[k]? = some (.cells cs t (0, 0))) (h' : w.heap[k]? = some (.cells cs' t' (0, 0))) : t = t' := by
 rw [h] at h'
 injection h' with e
 injection e
/-- Four lists more. -/
theorem MAt.more {P : Nat → Prop} {w w' : World} {H : Nat} {E T : TypeId} {mk : Nat → List Value} {sv sv' v a b c : Value} {vs : List Value} {n : Nat} (h : MAt w H E T mk sv vs) (h4 : ∀ j i, j % 4 = 0 → i < 4 → mk (j + i) = mk j)
  (hK : Keeps P w w') (hnew : ∀ k (hk : k < vs.length) g, vs[k].ownBlock = some g → ¬ P g) (own' : w'.ownsRow H E 1 sv' (vs.length + 4) (vs ++ [v, a, b, c])) (hn : n ≤ 1000000)
  (m0 : MK w' H T (mk vs.length) v n) (m1 : MK w' H T (mk vs.length) a (n + 1)) (m2 : MK w' H T (mk vs.length) b (n + 2)) (m3 : MK w' H T (mk vs.length) c (n + 3)) : MAt w' H E T mk sv' (vs ++ [v, a, b, c]) := by
 refine ⟨by simpa using own', fun k hk' => ?_, by simp; have := h.four; omega⟩
 by_cases hlt : k < vs.length
 ·rw [List.getElem_append_left hlt]
  obtain ⟨n', hn', hm⟩ := h.marks k hlt
  exact ⟨n', hn', owns_keeps hm hK (hnew k hlt)⟩
 ·simp at hk'
  rw [List.getElem_append_right (by omega)]
  obtain ⟨i, hi⟩ : ∃ i, k = vs.length + i := ⟨k - vs.length, by omega⟩
  subst hi
  have hi4 : i < 4 := by omega
  simp only [Nat.add_sub_cancel_left]
  rw [h4 _ i h.four hi4]
  rcases (show i = 0 ∨ i = 1 ∨ i = 2 ∨ i = 3 from by omega) with rfl | rfl | rfl | rfl
  ·exact ⟨_, by omega, m0⟩
  ·exact ⟨_, by omega, m1⟩
  ·exact ⟨_, by omega, m2⟩
  ·exact ⟨_, by omega, m3⟩
structure Wd where
 wl : Value
 wn : Value
 wv : Value
 wp : Value
 ps : List Pr
 N : List Value
 V : List Value
 P : List Value
structure WAt (w : World) (wb H : Nat) (d : Wd) : Prop where
 blk : w.heap[wb]? = some (.cells #[d.wl, d.wn, d.wv, d.wp] 31 (0, 0))
 prs : w.ownsRow H 47 2 d.wl d.ps.length (pcs d.ps)
 nets : MAt w H 50 36 mm d.wn d.N
 votes : MAt w H 34 53 mv d.wv d.V
 posts : MAt w H 54 33 mp d.wp d.P
 lat : LAt w d.ps
 base : True ∧ wb < H ∧ H ≤ w.heap.size
 high : ∀ k, lOwn d.ps k → H ≤ k
 nown : ∀ k (hk : k < d.N.length) g, d.N[k].ownBlock = some g → ¬ lOwn d.ps g
def lawT (t : TypeId) : Prop := t = 31 ∨ t = 47 ∨ t = 50 ∨ t = 34 ∨ t = 54 ∨ t = 53 ∨ t = 33 ∨ t = 38
theorem lawT_not {t : TypeId} (h : lawT t) : ¬ pairT t := by
 rcases h with rfl | rfl | rfl | rfl | rfl | rfl | rfl | rfl <;> (unfold pairT ownT; decide)
theorem WAt.below {w w' : World} {wb H : Nat} {d : Wd} (h : WAt w wb H d) (hb : Below w.heap.size w w') : WAt w' wb H d :=
 ⟨blk_below hb h.blk, owns_below h.prs hb, h.nets.below hb, h.votes.below hb, h.posts.below hb, h.lat.below hb, ⟨h.base.1, h.base.2.1, Nat.le_trans h.base.2.2 hb.size⟩, h.high, h.nown⟩
theorem WAt.step {w w' : World} {wb H : Nat} {d : Wd} (h : WAt w wb H d) {i : Nat} (hi : i < d.ps.length) (a : PTo w d.ps[i] w') :
  (∃ p', WAt w' wb H ⟨d.wl, d.wn, d.wv, d.wp, d.ps.set i p', d.N, d.V, d.P⟩) ∧ Keeps (fun k => k = wb ∨ H ≤ k) w w' := by
 obtain ⟨p', hl, e1, e2, ho, hk⟩ := h.lat.step hi a
 have hno : ∀ {k : Nat} {cs : Array Value} {t : TypeId}, w.heap[k]? = some (.cells cs t (0, 0)) → lawT t → ¬ d.ps[i].own k := fun hb ht ho => h.lat.not_own hb (lawT_not ht) ⟨i, hi, ho⟩
 refine ⟨⟨p', ?_⟩, hk.mono (fun k _ hk => .inr (h.high k ⟨i, hi, hk⟩))⟩
 refine ⟨blk_keeps hk h.blk (hno h.blk (.inl rfl)), ?_, ?_, ?_, ?_, hl, ⟨h.base.1, h.base.2.1, Nat.le_trans h.base.2.2 hk.size⟩, ?_, ?_⟩
 ·show w'.ownsRow H _ 2 d.wl (d.ps.set i p').length (pcs (d.ps.set i p'))
  rw [pcs_set d.ps i hi p' e1 e2, List.length_set]
  exact owns_keeps h.prs hk (fun g hg => by obtain ⟨cs, hc⟩ := owns_blk h.prs hg; exact hno hc (.inr (.inl rfl)))
 ·exact h.nets.keeps hk (fun g hg => by obtain ⟨cs, hc⟩ := owns_blk h.nets.own hg; exact hno hc (.inr (.inr (.inl rfl)))) (fun k hk' g hg ho => h.nown k hk' g hg ⟨i, hi, ho⟩)
 ·exact h.votes.keeps hk (fun g hg => by obtain ⟨cs, hc⟩ := owns_blk h.votes.own hg; exact hno hc (.inr (.inr (.inr (.inl rfl))))) (fun k hk' g hg => by obtain ⟨_, cs, hc⟩ := h.votes.blkT hk' hg; exact hno hc (.inr (.inr (.inr (.inr (.inr (.inl rfl)))))))
 ·exact h.posts.keeps hk (fun g hg => by obtain ⟨cs, hc⟩ := owns_blk h.posts.own hg; exact hno hc (.inr (.inr (.inr (.inr (.inl rfl)))))) (fun k hk' g hg => by obtain ⟨_, cs, hc⟩ := h.posts.blkT hk' hg; exact hno hc (.inr (.inr (.inr (.inr (.inr (.inr (.inl rfl))))))))
 ·intro k hk'
  rcases ho k hk' with h9 | h9
  ·exact h.high k h9
  ·exact Nat.le_trans h.base.2.2 h9
 ·intro k hk' g hg ho'
  rcases ho g ho' with h9 | h9
  ·exact h.nown k hk' g hg h9
  ·obtain ⟨_, cs, hc⟩ := h.nets.blkT hk' hg
   have := lt_of_block hc
   omega
end Go.Proofs.YtnnhnekfokbooaaGreatDoor

namespace Go.Proofs.YtnnhnekfokbooaaGreatDoor
open Go.RowKit
set_option linter.unusedSimpArgs false
set_option linter.unusedVariables false

theorem Tryz.infoPosts : (Tryz.prog.info? 54).map (fun i => (i.zero, i.size, i.bytes)) = some (some (.slice none 0 0), 1, 24) := by kernel_rfl
set_option maxHeartbeats 8000000 in
set_option maxRecDepth 100000 in
theorem posted_any (wb H : Nat) (wl wn wv wp v : Value) (n : Nat) (xs vs : List Value) (w : World) (hblk : w.heap[wb]? = some (.cells #[wl, wn, wv, wp] 31 (0, 0)))
  (hvs : w.ownsRow H 54 1 wp vs.length vs) (hv : w.ownsRow H 33 4 v n xs) (hl : vs.length ≤ 5000000000000) (hn : n ≤ 1000000) (hH : H ≤ w.heap.size) :
  Calls Tryz.prog 30 #[.pointer (some ⟨wb, 0, none⟩), v] w fun e w' => ∃ wp' a b c, e = .returned (.tuple #[]) ∧ w'.heap[wb]? = some (.cells #[wl, wn, wv, wp'] 31 (0, 0)) ∧
   w'.ownsRow H 54 1 wp' (vs.length + 4) (vs ++ [v, a, b, c]) ∧ MK w' H 33 (mp vs.length) v n ∧ MK w' H 33 (mp vs.length) a (n + 1) ∧ MK w' H 33 (mp vs.length) b (n + 2) ∧ MK w' H 33 (mp vs.length) c (n + 3) ∧
   Keeps (fun k => k = wb ∨ v.ownBlock = some k ∨ wp.ownBlock = some k) w w' ∧ (∀ u g, u = a ∨ u = b ∨ u = c → u.ownBlock = some g → v.ownBlock = some g ∨ w.heap.size ≤ g) ∧ (∀ g, wp'.ownBlock = some g → wp.ownBlock = some g ∨ w.heap.size ≤ g) := by
 obtain ⟨i0, hi, hz0, hz1, hz2⟩ := info_parts Tryz.infoPost
 obtain ⟨j0, hj0, hy0, hy1, hy2⟩ := info_parts Tryz.infoPosts
 obtain ⟨ao, cap, rfl, hao⟩ : ∃ ao cap, v = .slice ao n cap ∧ (ao = none → cap = 0) := by
  rcases hv.2 with ⟨rfl, rfl⟩ | ⟨g, cap, cur, rfl, _⟩
  ·exact ⟨none, 0, rfl, fun _ => rfl⟩
  ·exact ⟨_, cap, rfl, fun h => by cases h⟩
 obtain ⟨vo, vn, vc, rfl⟩ := owns_slice1 hvs
 obtain rfl : vn = vs.length := by
  rcases hvs.2 with ⟨h1, h2⟩ | ⟨g, cap, cur, h1, _⟩
  ·cases h1; exact h2.symm
  ·cases h1; rfl
 have hc := blk_cell hblk
 have hwlt := lt_of_block hblk
 have hvwb : (Value.slice ao n cap).ownBlock ≠ some wb := owns_not_block hv hblk (by decide)
 have hwvwb : (Value.slice vo vs.length vc).ownBlock ≠ some wb := owns_not_block hvs hblk (by decide)
 have hvlt := fun g hb => (hv.lt g hb).2
 generalize hL : vs.length = L at *
 have HM : Hid (mp L = mpx (-1000 - ((L / 4 : Nat) : Int))) := rfl
 have hmk0 := mark_any L w (by omega)
 generalize (-1000 - ((L / 4 : Nat) : Int)) = mk at *
 rw [HM.out]
 go_enter Tryz.func30, Tryz.ntmps30
 go_wp2_with fail
 refine hmk0.mono ?_
 rintro e w' ⟨rfl, rfl⟩
 clear hmk0
 go_wp2_with fail
 have hM0 : MK w' H 33 (mpx mk) (.slice ao 0 cap) 0 := MK.zero hv hao
 go_loopw [5] (fun i wr => ∃ j : Nat, j ≤ n ∧ i = .int .i64 j ∧ MK wr H 33 (mpx mk) (.slice ao j cap) j ∧ wr.heap[w'.heap.size]? = some (.cells #[.int .i64 mk, .int .i64 0, .int .i64 0, .string ⟨#[]⟩] 33 (0, 0)) ∧ Keeps (fun k => (Value.slice ao n cap).ownBlock = some k) w' wr) (fun i _ => n - (intOf i).toNat)
 case atStart => exact ⟨0, Nat.zero_le _, rfl, owns_alloc hM0 _, blk_new _ _, Keeps.ofAlloc _ _⟩
 case round =>
  obtain ⟨j, hj, rfl, hM, hx, hK⟩ := hrel
  have hxc := blk_cell hx
  by_cases hlt : j < n
  ·obtain ⟨g, rfl⟩ : ∃ g, ao = some ⟨g, 0, none⟩ := by
    rcases hv.2 with ⟨h1, h2⟩ | ⟨g, cap', cur, h1, _⟩
    ·omega
    ·cases h1; exact ⟨g, rfl⟩
   rcases hM.2 with ⟨h1, _⟩ | ⟨g', cap', cur, h1, hbg, hg, hnc, hcm, hcs, htake⟩
   ·cases h1
   cases h1
   have hgf := blk_free hg
   have hcapn : n ≤ cap := by rcases hv.2 with ⟨h1, _⟩ | ⟨g1, c1, u1, h1, _, _, h2, _⟩ <;> cases h1; exact h2
   have hsz : j * 4 + 4 ≤ cur.size := by rw [hcs]; show j * 4 + 4 ≤ cap * 4; omega
   have hth : Hid (wr.there g (j * 4) 4) := show World.there wr g (j * 4) 4 from fun k hk => ⟨by rw [blk_cell hg, Array.getElem?_eq_getElem (by omega)]; rfl, hgf _⟩
   have hi6 : Hid ((Tryz.prog.info? 33).map (·.size) = some (#[Value.int .i64 mk, .int .i64 0, .int .i64 0, .string ⟨#[]⟩] : Array Value).size) := show _ = _ from by rw [hi]; simp [hz1]
   have h16 : Hid ((#[Value.int .i64 mk, .int .i64 0, .int .i64 0, .string ⟨#[]⟩] : Array Value).all (·.oneCell') = true) := show _ = _ from by simp [Value.oneCell']
   clear hgf
   have hgx : g ≠ w'.heap.size := by have := hvlt g rfl; omega
   go_upto_region 3 with (refine wpList_store_mid rfl 33 (.tmp 25) (.tmp 24) rfl g (j * 4) #[.int .i64 mk, .int .i64 0, .int .i64 0, .string ⟨#[]⟩] rfl rfl hth.out hi6.out h16.out ?_; simp only [Act.put])
   go_wp2_with fail
   go_roundw
   case rel =>
    exact ⟨j + 1, by omega, by go_num, MK.store (x := mpx mk) hM hlt hcapn, by rw [setCells_other g _ _ _ _ (Ne.symm hgx)]; exact hx, hK.trans (Keeps.ofSets (P := fun k => (Value.slice (some ⟨g, 0, none⟩) n cap).ownBlock = some k) g rfl _ _ _)⟩
   case measure => simp [intOf]; omega
  ·obtain rfl : j = n := by omega
   have hwlt2 : w'.heap.size < wr.heap.size := lt_of_block hx
   have hbw : wr.heap[wb]? = some (.cells #[wl, wn, wv, .slice vo L vc] 31 (0, 0)) := by rw [hK.block wb hwlt hvwb]; exact hblk
   have hap : ∀ g, (Value.slice vo L vc).ownBlock = some g → ¬ (Value.slice ao j cap).ownBlock = some g := fun g hg => owns_apart hvs hv (by decide) hg
   have hvsr := owns_keeps hvs hK hap
   have hsz0 := hK.size
   have h1x : ∀ u ∈ mpx mk, u.oneCell' = true := by intro u hu; simp [mpx] at hu; rcases hu with rfl | rfl | rfl <;> rfl
   have hs6 : 0 < (mpx mk).length := by show 0 < 4; decide
   have hb1 : j + 1 ≤ maxLen ∧ (j + 1) * 40 ≤ 140737488355328 := ⟨by unfold maxLen; omega, by omega⟩
   have hb2 : j + 2 ≤ maxLen ∧ (j + 2) * 40 ≤ 140737488355328 := ⟨by unfold maxLen; omega, by omega⟩
   have hb3 : j + 3 ≤ maxLen ∧ (j + 3) * 40 ≤ 140737488355328 := ⟨by unfold maxLen; omega, by omega⟩
   have hnx : (Value.slice ao j cap).ownBlock ≠ some w'.heap.size := fun e => by have := hvlt _ e; omega
   go_upto_region 6 with (at_builtin; refine wpList_append_mark _ rfl (.tmp 26) (.tmp 28) 54 rfl H 33 i0 _ (mpx mk) 40 Tryz.underlying54 hi hz0 hz1 hz2 rfl hs6 (.slice ao j cap) j rfl (owns_alloc hM _) _ 1 1 rfl (news_new _ _ (by simp) _ _) h1x (by decide) hb1.1 hb1.2 (by simp; omega) ?_; intro g1 cap1 w1 hM1 hgr1 hat1 hlt1 hall1)
   have hMl1 := hall1 _ _ (owns_alloc hM _)
   have hx1 := blk_grown hgr1 (blk_alloc hx _) hnx
   have hbw1 := blk_grown hgr1 (blk_alloc hbw _) hvwb
   have hvs1 := owns_grown (owns_alloc hvsr _) hgr1 hap
   have hK1 := hK.trans ((Keeps.ofAlloc _ _).trans (Keeps.ofGrown hgr1))
   have hsi1 := hK1.size
   have hxc1 := blk_cell hx1
   clear hall1 hgr1 hxc
   go_upto_region 7 with (at_builtin; refine wpList_append_mark _ rfl (.tmp 30) (.tmp 33) 54 rfl H 33 i0 _ (mpx mk) 40 Tryz.underlying54 hi hz0 hz1 hz2 rfl hs6 (.slice ao j cap) j rfl (owns_alloc hMl1 _) _ 2 2 rfl (news_new _ _ (by simp) _ _) h1x (by decide) hb2.1 hb2.2 (by simp; omega) ?_; intro g2 cap2 w2 hM2 hgr2 hat2 hlt2 hall2)
   have hMl2 := hall2 _ _ (owns_alloc hMl1 _)
   have hM1x := hall2 _ _ (owns_alloc hM1 _)
   have hx2 := blk_grown hgr2 (blk_alloc hx1 _) hnx
   have hbw2 := blk_grown hgr2 (blk_alloc hbw1 _) hvwb
   have hvs2 := owns_grown (owns_alloc hvs1 _) hgr2 hap
   have hK2 := hK1.trans ((Keeps.ofAlloc _ _).trans (Keeps.ofGrown hgr2))
   have hsi2 := hK2.size
   have hxc2 := blk_cell hx2
   clear hall2 hgr2 hxc1
   go_upto_region 8 with (at_builtin; refine wpList_append_mark _ rfl (.tmp 35) (.tmp 39) 54 rfl H 33 i0 _ (mpx mk) 40 Tryz.underlying54 hi hz0 hz1 hz2 rfl hs6 (.slice ao j cap) j rfl (owns_alloc hMl2 _) _ 3 3 rfl (news_new _ _ (by simp) _ _) h1x (by decide) hb3.1 hb3.2 (by simp; omega) ?_; intro g3 cap3 w3 hM3 hgr3 hat3 hlt3 hall3)
   have hMl3 := hall3 _ _ (owns_alloc hMl2 _)
   have hM1xx := hall3 _ _ (owns_alloc hM1x _)
   have hM2x := hall3 _ _ (owns_alloc hM2 _)
   have hx3 := blk_grown hgr3 (blk_alloc hx2 _) hnx
   have hbw3 := blk_grown hgr3 (blk_alloc hbw2 _) hvwb
   have hvs3 := owns_grown (owns_alloc hvs2 _) hgr3 hap
   have hK3 := hK2.trans ((Keeps.ofAlloc _ _).trans (Keeps.ofGrown hgr3))
   have hsi3 := hK3.size
   have hxc3 := blk_cell hx3
   clear hall3 hgr3 hxc2
   have hwc := blk_cell hbw3
   have hwf := blk_free hbw3
   have h1s : ∀ u ∈ [Value.slice ao j cap, .slice (some ⟨g1, 0, none⟩) (j + 1) cap1, .slice (some ⟨g2, 0, none⟩) (j + 2) cap2, .slice (some ⟨g3, 0, none⟩) (j + 3) cap3], u.oneCell' = true := by
    intro u hu; simp at hu; rcases hu with rfl | rfl | rfl | rfl <;> rfl
   have hbL : L + 4 ≤ maxLen ∧ (L + 4) * 24 ≤ 140737488355328 := ⟨by unfold maxLen; omega, by omega⟩
   have hHw : H ≤ w3.heap.size := by omega
   clear hblk hc hxc3
   go_wp2_with (at_builtin; refine wpList_append_lies _ rfl (.tmp 45) (.tmp 50) 29 rfl H 54 j0 _ 1 24 Tryz.underlying29 hj0 hy0 hy1 hy2 rfl (by decide) (.slice vo L vc) L vs rfl (owns_alloc hvs3 _) _ 4 4 [.slice ao j cap, .slice (some ⟨g1, 0, none⟩) (j + 1) cap1, .slice (some ⟨g2, 0, none⟩) (j + 2) cap2, .slice (some ⟨g3, 0, none⟩) (j + 3) cap3] rfl rfl (news_new _ _ (by simp) _ _) h1s (by decide) hbL.1 hbL.2 (by simp; omega) _ rfl ?_; intro g4 cap4 w4 hown4 hgr4 hat4 hlt4; have hbw4 := blk_grown hgr4 (blk_alloc hbw3 _) hwvwb; have hwc4 := blk_cell hbw4; have hwf4 := blk_free hbw4)
   go_end0
   have fin : ∀ u k, MK w3 H 33 (mpx mk) u k → MK (w4.setCell ⟨wb, 3, none⟩ (.slice (some ⟨g4, 0, none⟩) (L + 4) cap4)) H 33 (mpx mk) u k := fun u k hu => by
    have h1 : MK w4 H 33 (mpx mk) u k := owns_grown (owns_alloc hu _) hgr4 (fun g hg => owns_apart hu hvs3 (by decide) hg)
    exact owns_set h1 (owns_not_block h1 hbw4 (by decide)) _
   refine ⟨_, _, _, _, rfl, blk_set hbw4 3 _, owns_set hown4 (owns_not_block hown4 hbw4 (by decide)) _, fin _ _ hMl3, fin _ _ hM1xx, fin _ _ hM2x, fin _ _ hM3, ?_, ?_, ?_⟩
   rotate_left 1
   ·intro u g hu hg
    simp only [World.size_alloc] at hat1 hat2 hat3
    rcases hu with rfl | rfl | rfl
    ·obtain rfl : g1 = g := by simpa [Value.ownBlock] using hg
     exact hat1.imp id (fun h => by omega)
    ·obtain rfl : g2 = g := by simpa [Value.ownBlock] using hg
     exact hat2.imp id (fun h => by omega)
    ·obtain rfl : g3 = g := by simpa [Value.ownBlock] using hg
     exact hat3.imp id (fun h => by omega)
   ·intro g hg
    simp only [World.size_alloc] at hat4
    obtain rfl : g4 = g := by simpa [Value.ownBlock] using hg
    exact hat4.imp id (fun h => by omega)
   refine (hK3.mono (fun k _ h => .inr (.inl h))).trans ((Keeps.ofAlloc _ _).trans (((Keeps.ofGrown hgr4).mono (fun k _ h => .inr (.inr h))).trans (Keeps.ofSet (.inl (.inl rfl)) _)))
end Go.Proofs.YtnnhnekfokbooaaGreatDoor
