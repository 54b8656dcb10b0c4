/- RnM, SynM, SynN -/
import Derived.Test.YtnnhnekfokbooaaGreatDoorAl19
set_option linter.unusedSimpArgs false
set_option linter.unusedVariables false
set_option maxRecDepth 100000
namespace Go.Proofs.YtnnhnekfokbooaaGreatDoor
section
open Go.RowKit
theorem there_new (W : World) (Z : Array Value) (t : TypeId) (hZ : Z.size = 396) : World.there (W.alloc (.cells Z t)) W.heap.size 0 396 := fun j hj => by
 have hb := blk_new W (.cells Z t)
 exact ⟨by rw [blk_cell hb, Nat.zero_add, Array.getElem?_eq_getElem (by omega)]; rfl, blk_free hb _⟩
theorem put_new (W : World) (Z : Array Value) (t : TypeId) (hZ : Z.size = 396) (cs : List Value) (hc : cs.length = 396) : (World.setCells (W.alloc (.cells Z t)) W.heap.size 0 cs).heap[W.heap.size]? = some (.cells cs.toArray t (0, 0)) := by
 rw [setCells_self W.heap.size t cs 0 _ Z (blk_new W (.cells Z t)) (by omega)]
 simp [hc, hZ]
theorem sl_one (y : Sl) : ∀ u ∈ y.cells, u.oneCell' = true := by
 intro u hu
 unfold Sl.cells Pst.cells at hu
 simp only [List.mem_append, List.mem_cons, List.mem_map, List.not_mem_nil, or_false] at hu
 rcases hu with ((((((rfl | (rfl | rfl | rfl | rfl)) | rfl) | (rfl | rfl | rfl | rfl)) | (rfl | rfl)) | (rfl | rfl | rfl | rfl)) | rfl) | ⟨b, _, rfl⟩ <;> rfl
theorem rr_one (r : Rr) : ∀ u ∈ r.cells, u.oneCell' = true := by
 have gen : ∀ l : List Sl, ∀ u ∈ flatC Sl.cells l, u.oneCell' = true := by
  intro l
  induction l with
  | nil => intro u hu; cases hu
  | cons y l ih =>
   intro u hu
   rcases List.mem_append.1 hu with hu | hu
   ·exact sl_one y u hu
   ·exact ih u hu
 intro u hu
 unfold Rr.cells Rr.head at hu
 rcases List.mem_append.1 hu with hu | hu
 ·simp only [List.mem_cons, List.not_mem_nil, or_false] at hu
  rcases hu with rfl | rfl | rfl | rfl | rfl <;> rfl
 ·rcases List.mem_append.1 hu with hu | hu
  ·obtain ⟨b, _, rfl⟩ := List.mem_map.1 hu; rfl
  ·exact gen _ u hu
section
variable {w : World} {qb Rb : Nat} {v : Value} {x : Qs}
set_option maxHeartbeats 2000000 in
theorem rrole_yes (h : QAt w qb Rb v x) {i : Nat} (hi : i < x.R.length) : Calls Tryz.prog 34 #[P6 qb, I6 (i : Int)] w fun e w' => e = .returned (.tuple #[.agg #[I6 (x.rep i).ro, I6 (x.rep i).ba, I6 (x.rep i).pr, I6 (x.rep i).nx], I6 0]) ∧ Below w.heap.size w w' := by
 have hB0 : Below w.heap.size w (w.alloc (.cells #[I6 0, I6 0, I6 0, I6 0] 85)) := (Below.refl _ w).alloc (Nat.le_refl _) _
 have h1 := h.below hB0
 have hIs := ris_yes h1 hi
 have d0 := h1.c0
 have q0 : (0 : Int) ≤ (i : Int) := by omega
 have q1 : (i : Int) < (x.R.length : Int) := by omega
 go_enter Tryz.func34, Tryz.ntmps34
 go_wp2_with fail
 refine hIs.mono ?_
 rintro e w' ⟨rfl, hw'⟩
 have hw9 := hw'.symm
 subst hw9
 clear hIs hw'
 go_upto_region 4 with (fail)
 have hq := h1.reps.here hi
 obtain ⟨r, hr⟩ : ∃ r, r = x.R.getD i noRr := ⟨_, rfl⟩
 have HR : Hid (x.rep i = r) := by show _ = _; rw [hr]; rfl
 rw [← hr] at hq
 clear hr
 have hrk := hq.rok hi
 have hcl := Rr.cells_len hrk
 have Hra : Hid (World.rangeAt (w.alloc (.cells #[I6 0, I6 0, I6 0, I6 0] 85)) Rb (i * 396) r.cells) := fun j u hu => hq.hc hi (o := j) (by have := (List.getElem?_eq_some_iff.1 hu).1; omega) hu
 have Hi : Hid ((Tryz.prog.info? 114).map (·.size) = some r.cells.length) := by show _ = _; rw [hcl]; kernel_rfl
 have Hi2 : Hid ((Tryz.prog.info? 114).map (·.size) = some r.cells.toArray.size) := by show _ = _; rw [List.size_toArray, hcl]; kernel_rfl
 have H1 : Hid (r.cells.toArray.all (·.oneCell') = true) := by
  show _ = _
  rw [List.all_toArray, List.all_eq_true]
  exact rr_one r
 have hZ : (Tryz.zeroCells114).size = 396 := by kernel_rfl
 have Hth : Hid (World.there ((w.alloc (.cells #[I6 0, I6 0, I6 0, I6 0] 85)).alloc (.cells Tryz.zeroCells114 114)) (w.heap.size + 1) 0 r.cells.toArray.size) := by
  show World.there _ _ _ _
  have hs9 : r.cells.toArray.size = 396 := by rw [List.size_toArray, hcl]
  rw [hs9]
  have := there_new (w.alloc (.cells #[I6 0, I6 0, I6 0, I6 0] 85)) Tryz.zeroCells114 114 hZ
  rwa [World.size_alloc] at this
 have hpn := put_new (w.alloc (.cells #[I6 0, I6 0, I6 0, I6 0] 85)) Tryz.zeroCells114 114 hZ r.cells hcl
 rw [World.size_alloc] at hpn
 have kpn : Keeps (fun k => k = w.heap.size + 1) ((w.alloc (.cells #[I6 0, I6 0, I6 0, I6 0] 85)).alloc (.cells Tryz.zeroCells114 114)) (World.setCells ((w.alloc (.cells #[I6 0, I6 0, I6 0, I6 0] 85)).alloc (.cells Tryz.zeroCells114 114)) (w.heap.size + 1) 0 r.cells) := keeps_sets _ _ _ _
 clear hZ
 go_upto_region 5 with (first | (refine wpList_load_mid rfl 114 (.tmp 19) rfl Rb (i * 396) rfl r.cells _ Hra.out Tryz.underlying114 rfl Hi.out ?_) | (refine wpList_store_mid rfl 114 (.tmp 7) (.tmp 20) rfl (w.heap.size + 1) 0 r.cells.toArray rfl rfl Hth.out Hi2.out H1.out ?_; simp only [Act.put]))
 have hro0 : ((w.alloc (.cells #[I6 0, I6 0, I6 0, I6 0] 85)).alloc (.cells Tryz.zeroCells114 114)).heap[w.heap.size]? = some (.cells #[I6 0, I6 0, I6 0, I6 0] 85 (0, 0)) := blk_alloc (blk_new w _) _
 have hro := blk_keeps kpn hro0 (by omega)
 have hBf : Below w.heap.size w (World.setCells ((w.alloc (.cells #[I6 0, I6 0, I6 0, I6 0] 85)).alloc (.cells Tryz.zeroCells114 114)) (w.heap.size + 1) 0 r.cells) := Below.trans (hB0.alloc (by simp) _) ⟨kpn.os, kpn.tape, kpn.output, kpn.size, fun b hb => kpn.block b (by simp; omega) (by omega)⟩
 generalize World.setCells ((w.alloc (.cells #[I6 0, I6 0, I6 0, I6 0] 85)).alloc (.cells Tryz.zeroCells114 114)) (w.heap.size + 1) 0 r.cells = w9 at *
 clear hro0 kpn Hth H1 Hi Hi2 Hra hq d0 h1
 have b0 : w9.cell? (A6 (w.heap.size + 1) 0) = some (I6 r.pr) := (blk_cell hpn 0).trans (by rw [List.getElem?_toArray]; rfl)
 have b2 : w9.cell? (A6 (w.heap.size + 1) 2) = some (I6 r.ro) := (blk_cell hpn 2).trans (by rw [List.getElem?_toArray]; rfl)
 have b3 : w9.cell? (A6 (w.heap.size + 1) 3) = some (I6 r.ba) := (blk_cell hpn 3).trans (by rw [List.getElem?_toArray]; rfl)
 have b4 : w9.cell? (A6 (w.heap.size + 1) 4) = some (I6 r.nx) := (blk_cell hpn 4).trans (by rw [List.getElem?_toArray]; rfl)
 have hrc := blk_cell hro
 have hrf := blk_free hro
 clear hpn
 go_wp2_with fail
 refine bodyPost_ret (v := .tuple #[.agg #[I6 r.ro, I6 r.ba, I6 r.pr, I6 r.nx], I6 0]) (by simp [results, Tryz.results34, go_sem, hrc]) rfl ⟨by rw [HR.out], ?_⟩
 repeat refine Below.setCell ?_ (by simp) _
 exact hBf
theorem rrole_no (h : QAt w qb Rb v x) {i : Int} (hi : i < 0 ∨ (x.R.length : Int) ≤ i) : Calls Tryz.prog 34 #[P6 qb, I6 i] w fun e w' => e = .returned (.tuple #[.agg #[I6 0, I6 0, I6 0, I6 0], I6 1]) ∧ Below w.heap.size w w' := by
 have hB0 : Below w.heap.size w (w.alloc (.cells #[I6 0, I6 0, I6 0, I6 0] 85)) := (Below.refl _ w).alloc (Nat.le_refl _) _
 have hIs := ris_no (h.below hB0) hi
 have hz := blk_new w (.cells #[I6 0, I6 0, I6 0, I6 0] 85)
 have hrc := blk_cell hz
 have hrf := blk_free hz
 go_enter Tryz.func34, Tryz.ntmps34
 go_wp2_with fail
 refine hIs.mono ?_
 rintro e w' ⟨rfl, hw'⟩
 have hw9 := hw'.symm
 subst hw9
 clear hIs hw'
 go_wp2_with fail
 refine bodyPost_ret (v := .tuple #[.agg #[I6 0, I6 0, I6 0, I6 0], I6 1]) (by simp [results, Tryz.results34, go_sem, hrc]) rfl ⟨rfl, ?_⟩
 repeat refine Below.setCell ?_ (by simp) _
 exact hB0
end
end
section
open Go.RowKit
theorem SynAt.ptr {w : World} {sb : Nat} {L : Lay} {s : Sy} (h : SynAt w sb L s) {i : Nat} (hi : i < s.n) : w.cell? (A6 L.gb i) = some (.pointer (some (A6 (L.rb i) 0))) := by
 obtain ⟨cs, hc, hp⟩ := h.ptrs
 rw [blk_cell hc]; exact hp i hi
theorem SynAt.list {w : World} {sb : Nat} {L : Lay} {s : Sy} (h : SynAt w sb L s) : w.cell? (A6 sb 0) = some (.slice (some (A6 L.gb 0)) s.n L.gc) := (blk_cell h.syn 0).trans rfl
theorem SynAt.netv {w : World} {sb : Nat} {L : Lay} {s : Sy} (h : SynAt w sb L s) : w.cell? (A6 sb 1) = some L.v := (blk_cell h.syn 1).trans rfl
theorem find_yes {w : World} {sb : Nat} {L : Lay} {s : Sy} (h : SynAt w sb L s) {i : Nat} (hi : i < s.n) :
  Calls Tryz.prog 57 #[P6 sb, I6 (i : Int)] w fun e w' => e = .returned (.pointer (some (A6 (L.rb i) 0))) ∧ w' = w := by
 have c1 := h.ptr hi
 have c2 := h.list
 have q0 : (0 : Int) ≤ (i : Int) := by omega
 have q1 : (i : Int) < (s.n : Int) := by omega
 have d0 : decide ((i : Int) < 0) = false := decide_eq_false (by omega)
 have d1 : decide ((s.n : Int) ≤ (i : Int)) = false := decide_eq_false (by omega)
 go_enter Tryz.func57, Tryz.ntmps57
 go_wp2_with fail
 go_ret
 exact ⟨rfl, rfl⟩
theorem find_no {w : World} {sb : Nat} {L : Lay} {s : Sy} (h : SynAt w sb L s) {i : Int} (hi : i < 0 ∨ (s.n : Int) ≤ i) :
  Calls Tryz.prog 57 #[P6 sb, I6 i] w fun e w' => e = .returned (.pointer none) ∧ w' = w := by
 have c2 := h.list
 by_cases hlt : i < 0
 ·have d0 : decide (i < 0) = true := decide_eq_true hlt
  go_enter Tryz.func57, Tryz.ntmps57
  go_wp2_with fail
  go_ret
  exact ⟨rfl, rfl⟩
 ·have d0 : decide (i < 0) = false := decide_eq_false hlt
  have d1 : decide ((s.n : Int) ≤ i) = true := decide_eq_true (by omega)
  go_enter Tryz.func57, Tryz.ntmps57
  go_wp2_with fail
  go_ret
  exact ⟨rfl, rfl⟩
theorem take_syn {w : World} {sb : Nat} {L : Lay} {s : Sy} (h : SynAt w sb L s) {k : Nat} (hk : k < s.net.length) :
  Calls Tryz.prog 69 #[.pointer (some (A6 sb 1)), I6 (k : Int)] w fun e w' => ∃ x : Nm, x.m = s.net.getD k noMs ∧ x.okt w' ∧ e = .returned (.tuple #[.agg x.cells.toArray, .bool true]) ∧ SynRv L.rv w sb L w' (s.without k) := by
 obtain ⟨l, hlm, hown, hok⟩ := h.net
 have hll : l.length = s.net.length := by rw [← hlm, List.length_map]
 have hfull := h.ok.full
 have hkl : k < l.length := by omega
 refine (take_yes sb 1 0 _ 97 L.v l k w h.syn rfl hown (fun hv => ?_) (fun x hx => (hok x hx).1) hkl (by omega)).mono ?_
 ·obtain ⟨cs, hc⟩ := owns_blk hown hv
  rw [h.syn] at hc; injection hc with e; injection e with _ e; simp at e
 ·rintro e w' ⟨v', rfl, hb', hown', hv', hk'⟩
  rw [ar2] at hb'
  have e1 : (l.eraseIdx k).length = l.length - 1 := List.length_eraseIdx_of_lt hkl
  have hmap : (l.eraseIdx k).map (·.m) = s.net.eraseIdx k := by rw [← eraseIdx_map, hlm]
  have hto := h.setNetR (ns := s.net.eraseIdx k) (l := l.eraseIdx k) (v := v') (by omega) (fun m hm => h.ok.net m (List.mem_of_mem_eraseIdx hm)) hmap hk' hb' (by rw [e1]; exact hown') (fun x hx => hok x (List.mem_of_mem_eraseIdx hx)) (fun g hg => .inl (by rw [← hv']; exact hg))
  refine ⟨l[k], ?_, ?_, rfl, hto⟩
  ·rw [List.getD_eq_getElem?_getD, ← hlm, List.getElem?_map, List.getElem?_eq_getElem hkl]; rfl
  ·refine (hok _ (List.getElem_mem hkl)).keeps hk' (fun j cs hc hx => ?_)
   rcases hx with rfl | hx
   ·rw [h.syn] at hc; injection hc with e; injection e with _ e; simp at e
   ·obtain ⟨cs', hc'⟩ := owns_blk hown hx
    rw [hc] at hc'; injection hc' with e; injection e with _ e; simp at e
set_option maxHeartbeats 1000000 in
theorem lose_yes {w : World} {sb : Nat} {L : Lay} {s : Sy} (h : SynAt w sb L s) {k : Nat} (hk : k < s.net.length) :
  Calls Tryz.prog 41 #[P6 sb, I6 (k : Int)] w fun e w' => e = .returned (I6 0) ∧ SynTo w sb L w' (s.without k) := by
 have hT := take_syn h hk
 go_enter Tryz.func41, Tryz.ntmps41
 go_wp2_with fail
 refine hT.mono ?_
 rintro e w2 ⟨x, hxm, hx, rfl, hto⟩
 clear hT
 obtain ⟨xa, xc, hxe, _⟩ := hx.1.1.form
 obtain ⟨⟨mk, mf, mt, mb, ms, ⟨mc, mq, mh, mx⟩, ma⟩, xv⟩ := x
 simp only [Nm.cells] at *
 subst hxe
 generalize ma.length = xn at *
 clear hxm
 have hz := blk_new w2 (.cells #[I6 0, I6 0, I6 0, I6 0, I6 0, I6 0, I6 0, I6 0, .string ⟨#[]⟩, .slice none 0 0] 36)
 have hzc := blk_cell hz
 have hzf := blk_free hz
 go_wp2_with fail
 go_ret
 refine ⟨rfl, hto.to.below ?_⟩
 repeat refine Below.setCell ?_ (by simp) _
 exact (Below.refl _ w2).alloc (Nat.le_refl _) _
theorem take_none {w : World} {sb : Nat} {L : Lay} {s : Sy} (h : SynAt w sb L s) {k : Int} (hk : k < 0 ∨ (s.net.length : Int) ≤ k) :
  Calls Tryz.prog 69 #[.pointer (some (A6 sb 1)), I6 k] w fun e w' => e = .returned (.tuple #[.agg #[I6 0, I6 0, I6 0, I6 0, I6 0, I6 0, I6 0, I6 0, .string ⟨#[]⟩, .slice none 0 0], .bool false]) ∧ Below w.heap.size w w' := by
 obtain ⟨l, hlm, hown, hok⟩ := h.net
 have hll : l.length = s.net.length := by rw [← hlm, List.length_map]
 obtain ⟨va, vc, hv, _⟩ := (owns_row hown).form
 exact take_no sb 1 va l.length vc k w (by rw [← hv]; exact h.netv) (by rw [hll]; exact hk)
set_option maxHeartbeats 1000000 in
theorem lose_no {w : World} {sb : Nat} {L : Lay} {s : Sy} (h : SynAt w sb L s) {k : Int} (hk : k < 0 ∨ (s.net.length : Int) ≤ k) :
  Calls Tryz.prog 41 #[P6 sb, I6 k] w fun e w' => e = .returned (I6 1) ∧ SynTo w sb L w' s := by
 have hT := take_none h hk
 go_enter Tryz.func41, Tryz.ntmps41
 go_wp2_with fail
 refine hT.mono ?_
 rintro e w2 ⟨rfl, hB⟩
 clear hT
 have hz := blk_new w2 (.cells #[I6 0, I6 0, I6 0, I6 0, I6 0, I6 0, I6 0, I6 0, .string ⟨#[]⟩, .slice none 0 0] 36)
 have hzc := blk_cell hz
 have hzf := blk_free hz
 have hB3 := hB.alloc hB.size (.cells #[I6 0, I6 0, I6 0, I6 0, I6 0, I6 0, I6 0, I6 0, .string ⟨#[]⟩, .slice none 0 0] 36)
 go_wp2_with fail
 go_ret
 refine ⟨rfl, (SynTo.refl h).below ?_⟩
 repeat refine Below.setCell ?_ (by have := hB.size; simp; omega) _
 exact hB3
set_option maxHeartbeats 1000000 in
theorem deliver_no {w : World} {sb : Nat} {L : Lay} {s : Sy} (h : SynAt w sb L s) {k : Int} (hk : k < 0 ∨ (s.net.length : Int) ≤ k) :
  Calls Tryz.prog 39 #[P6 sb, I6 k] w fun e w' => e = .returned (I6 1) ∧ SynTo w sb L w' s := by
 have hT := take_none h hk
 go_enter Tryz.func39, Tryz.ntmps39
 go_wp2_with fail
 refine hT.mono ?_
 rintro e w2 ⟨rfl, hB⟩
 clear hT
 have hz := blk_new w2 (.cells #[I6 0, I6 0, I6 0, I6 0, I6 0, I6 0, I6 0, I6 0, .string ⟨#[]⟩, .slice none 0 0] 36)
 have hzc := blk_cell hz
 have hzf := blk_free hz
 have hB3 := hB.alloc hB.size (.cells #[I6 0, I6 0, I6 0, I6 0, I6 0, I6 0, I6 0, I6 0, .string ⟨#[]⟩, .slice none 0 0] 36)
 go_wp2_with fail
 go_ret
 refine ⟨rfl, (SynTo.refl h).below ?_⟩
 repeat refine Below.setCell ?_ (by have := hB.size; simp; omega) _
 exact hB3
set_option maxHeartbeats 1000000 in
theorem deliver_yes {w : World} {sb : Nat} {L : Lay} {s : Sy} (h : SynAt w sb L s) {k : Nat} (hk : k < s.net.length) :
  Calls Tryz.prog 39 #[P6 sb, I6 (k : Int)] w fun e w' => e = .returned (I6 0) ∧ SynTo w sb L w' (s.deliver k) := by
 have hT := take_syn h hk
 have hmok : (s.net.getD k noMs).ok s.n := h.ok.net _ (by rw [List.getD_eq_getElem?_getD, List.getElem?_eq_getElem hk]; exact List.getElem_mem hk)
 unfold Sy.deliver
 generalize s.net.getD k noMs = m0 at *
 go_enter Tryz.func39, Tryz.ntmps39
 go_wp2_with fail
 refine hT.mono ?_
 rintro e w2 ⟨x, hxm, hx, rfl, hto⟩
 clear hT
 have hxm' := hxm.symm
 subst hxm'
 obtain ⟨L2, h2, e2, r2, o2, kk2⟩ := id hto
 obtain ⟨xa, xc, hxe, _⟩ := hx.1.1.form
 obtain ⟨⟨mk, mf, mt, mb, ms, ⟨mc, mq, mh, mx⟩, ma⟩, xv⟩ := x
 obtain ⟨t, rfl⟩ := Int.eq_ofNat_of_zero_le hmok.t0
 have ht : t < s.n := by have := hmok.t1; simp at this; exact this
 simp only [Nm.cells] at *
 subst hxe
 generalize hxn : ma.length = xn at *
 have hz := blk_new w2 (.cells #[I6 0, I6 0, I6 0, I6 0, I6 0, I6 0, I6 0, I6 0, .string ⟨#[]⟩, .slice none 0 0] 36)
 have hzc := blk_cell hz
 have hzf := blk_free hz
 have hbox : ((w2.alloc (.cells #[I6 mk, I6 mf, I6 (t : Int), I6 mb, I6 ms, I6 mc, I6 mq, I6 mh, .string mx, .slice xa xn xc] 36))).heap[w2.heap.size]? = some (.cells #[I6 mk, I6 mf, I6 (t : Int), I6 mb, I6 ms, I6 mc, I6 mq, I6 mh, .string mx, .slice xa xn xc] 36 (0, 0)) := blk_new w2 _
 have hB3 : Below w2.heap.size w2 ((w2.alloc (.cells #[I6 mk, I6 mf, I6 (t : Int), I6 mb, I6 ms, I6 mc, I6 mq, I6 mh, .string mx, .slice xa xn xc] 36))) :=
  (Below.refl _ w2).alloc (Nat.le_refl _) _
 have HB3 : Hid (Below w2.heap.size w2 ((w2.alloc (.cells #[I6 mk, I6 mf, I6 (t : Int), I6 mb, I6 ms, I6 mc, I6 mq, I6 mh, .string mx, .slice xa xn xc] 36)))) := hB3
 have Hbox : Hid (((w2.alloc (.cells #[I6 mk, I6 mf, I6 (t : Int), I6 mb, I6 ms, I6 mc, I6 mq, I6 mh, .string mx, .slice xa xn xc] 36))).heap[w2.heap.size]? = some (.cells #[I6 mk, I6 mf, I6 (t : Int), I6 mb, I6 ms, I6 mc, I6 mq, I6 mh, .string mx, .slice xa xn xc] 36 (0, 0))) := hbox
 clear hbox hB3
 go_wp2_with fail
 have hB3 := HB3.out
 have hbox := Hbox.out
 clear HB3 Hbox hzc hzf hz
 generalize (w2.alloc (.cells #[I6 mk, I6 mf, I6 (t : Int), I6 mb, I6 ms, I6 mc, I6 mq, I6 mh, .string mx, .slice xa xn xc] 36)) = w3 at *
 have hto2 := hto
 have ht2 : t < (s.without k).n := ht
 have hat3 := (h2.below hB3).drew
 have cl := hat3.list
 have cp := hat3.ptr ht2
 rw [e2] at cp
 have hX := receive_syn hat3 ht2 ⟨⟨mk, mf, (t : Int), mb, ms, ⟨mc, mq, mh, mx⟩, ma⟩, .slice xa xn xc⟩ (hx.keeps (Keeps.ofBelow (P := fun _ => False) (Below.drew hB3)) (fun _ _ _ => id)) hmok
 simp only [Nm.cells] at hX
 rw [e2] at hX
 have q0 : (0 : Int) ≤ (t : Int) := by omega
 have q1 : (t : Int) < ((s.without k).n : Int) := by omega
 refine wp_region_held_drew (S := fun w' => w'.heap[w2.heap.size]? = some (.cells #[I6 mk, I6 mf, I6 (t : Int), I6 mb, I6 ms, I6 mc, I6 mq, I6 mh, .string mx, .slice xa xn xc] 36 (0, 0)) ∧ w'.cell? (A6 sb 0) = some (.slice (some (A6 L2.gb 0)) (s.without k).n L2.gc) ∧ w'.cell? (A6 L2.gb t) = some (.pointer (some (A6 (L.rb t) 0)))) (by kernel_rfl) (⟨hbox, cl, cp⟩) (fun hS => ?_)
 refine tk 0 rfl hS (v := ?_) (fun w' hw => ?_) ?_
 rotate_left 1
 ·have c := blk_cell hw.1; have c2 := hw.2.1; have c3 := hw.2.2; go_simp; all_goals with_reducible rfl
 try simp only [ly]
 refine tk 1 rfl hS (v := ?_) (fun w' hw => ?_) ?_
 rotate_left 1
 ·have c := blk_cell hw.1; have c2 := hw.2.1; have c3 := hw.2.2; go_simp; all_goals with_reducible rfl
 try simp only [ly]
 refine tk 2 rfl hS (v := ?_) (fun w' hw => ?_) ?_
 rotate_left 1
 ·have c := blk_cell hw.1; have c2 := hw.2.1; have c3 := hw.2.2; go_simp; all_goals with_reducible rfl
 try simp only [ly]
 refine tk 3 rfl hS (v := ?_) (fun w' hw => ?_) ?_
 rotate_left 1
 ·have c := blk_cell hw.1; have c2 := hw.2.1; have c3 := hw.2.2; go_simp; all_goals with_reducible rfl
 try simp only [ly]
 refine tk 4 rfl hS (v := ?_) (fun w' hw => ?_) ?_
 rotate_left 1
 ·have c := blk_cell hw.1; have c2 := hw.2.1; have c3 := hw.2.2; go_simp; all_goals with_reducible rfl
 try simp only [ly]
 refine tk 5 rfl hS (v := ?_) (fun w' hw => ?_) ?_
 rotate_left 1
 ·have c := blk_cell hw.1; have c2 := hw.2.1; have c3 := hw.2.2; go_simp; all_goals with_reducible rfl
 try simp only [ly]
 refine tk 6 rfl hS (v := ?_) (fun w' hw => ?_) ?_
 rotate_left 1
 ·have c := blk_cell hw.1; have c2 := hw.2.1; have c3 := hw.2.2; go_simp; all_goals with_reducible rfl
 try simp only [ly]
 refine tk 7 rfl hS (v := ?_) (fun w' hw => ?_) ?_
 rotate_left 1
 ·have c := blk_cell hw.1; have c2 := hw.2.1; have c3 := hw.2.2; go_simp; all_goals with_reducible rfl
 try simp only [ly]
 refine tk 8 rfl hS (v := ?_) (fun w' hw => ?_) ?_
 rotate_left 1
 ·have c := blk_cell hw.1; have c2 := hw.2.1; have c3 := hw.2.2; go_simp; all_goals with_reducible rfl
 try simp only [ly]
 refine r1 9 rfl (fun K hK => ?_)
 go_simp
 refine hX.mono ?_
 rintro e w5 ⟨rfl, hto5⟩
 clear hX
 have hn5 : ((s.without k).receive t ⟨mk, mf, (t : Int), mb, ms, ⟨mc, mq, mh, mx⟩, ma⟩).n = s.n := receive_n _ _ _
 obtain ⟨L5, h5, e5, o5, kk5⟩ := id hto5
 have g5 : L5.gb = L2.gb := by unfold Lay.gb; rw [e5]
 have gc5 : L5.gc = L2.gc := by unfold Lay.gc; rw [e5]
 have cl5 := h5.list
 have cp5 := h5.ptr (i := t) (by rw [hn5]; exact ht)
 rw [g5, gc5, hn5] at cl5
 rw [g5, e5, e2] at cp5
 have hbox5 := hto5.blk (w := w3.drew) hbox (fun ho => by have h9 := h2.own_lt (by rw [receive_n] at ho; exact ho); omega)
 go_wp2_with fail
 refine hK.out _ _ ⟨hbox5, cl5, cp5⟩ (fun hS => ?_)
 clear hK K
 try simp only [ly]
 refine dn ?_ _
 go_wp2_with fail
 go_ret
 exact ⟨rfl, SynTo.next e2 o2 kk2 (receive_n _ _ _) (SynTo.after h2 (receive_n _ _ _) (Below.drew hB3) hto5)⟩
theorem SynAt.crash {w : World} {sb : Nat} {L : Lay} {s : Sy} (h : SynAt w sb L s) {i : Nat} (hi : i < s.n) : SynTo w sb L ((w.setCell (A6 (L.rb i) 4) (I6 0)).setCell (A6 (L.rb i) 181) (.iface 129 (.agg #[I6 0, I6 0]))) (s.crash i) := by
 have hok := h.ok.repOk hi
 have hk : Keeps (fun k => k = L.rb i) w ((w.setCell (A6 (L.rb i) 4) (I6 0)).setCell (A6 (L.rb i) 181) (.iface 129 (.agg #[I6 0, I6 0]))) := (Keeps.ofSet (P := fun k => k = L.rb i) (a := (A6 (L.rb i) 4)) (.inl rfl) _).trans (Keeps.ofSet (P := fun k => k = L.rb i) (a := (A6 (L.rb i) 181)) (.inl rfl) _)
 have hok1 : (Rp.mk (s.rep i).pr 0 (s.rep i).acc (s.rep i).dec (s.rep i).rl).ok := ⟨hok.pr0, hok.pr1, by show (0 : Int) ≤ 0; omega, by show (0 : Int) ≤ 8007; omega, hok.acc, hok.slot, hok.dec, hok.rl⟩
 refine h.setRep hi (rv := .iface 129 (.agg #[I6 0, I6 0])) ⟨hok.pr0, hok.pr1, by show (0 : Int) ≤ 0; omega, by show (0 : Int) ≤ 8007; omega, hok.acc, hok.slot, hok.dec, trivial⟩ (hk.mono (fun k _ h => .inl h)) ?_ rfl (fun k hk => by cases hk)
 rw [blk_set (blk_set (h.rep i hi) _ _), repCells_set4, repCells_set181 _ _ _ _ _ _ .idle hok1]
 rfl
theorem rcrash_syn {w : World} {sb : Nat} {L : Lay} {s : Sy} (h : SynAt w sb L s) {i : Nat} (hi : i < s.n) :
  Calls Tryz.prog 75 #[.pointer (some (A6 (L.rb i) 0))] w fun e w' => e = .returned (.tuple #[]) ∧ SynTo w sb L w' (s.crash i) := by
 have c4 := (h.cells hi).2.2.2.2.1
 have c5 := (h.cells hi).2.2.2.2.2
 have hf := blk_free (h.rep i hi)
 have hto := h.crash hi
 go_enter Tryz.func75, Tryz.ntmps75
 go_wp2_with fail
 go_end0
 exact ⟨rfl, hto⟩
theorem crash_yes {w : World} {sb : Nat} {L : Lay} {s : Sy} (h : SynAt w sb L s) {i : Nat} (hi : i < s.n) :
  Calls Tryz.prog 45 #[P6 sb, I6 (i : Int)] w fun e w' => e = .returned (I6 0) ∧ SynTo w sb L w' (s.crash i) := by
 have hF := find_yes h hi
 have hC := rcrash_syn h hi
 go_enter Tryz.func45, Tryz.ntmps45
 go_wp2_with fail
 refine hF.mono ?_
 rintro e w2 ⟨rfl, hw2⟩
 have hw2' := hw2.symm
 subst hw2'
 clear hF hw2
 go_wp2_with fail
 refine hC.mono ?_
 rintro e w3 ⟨rfl, hto⟩
 clear hC
 go_wp2_with fail
 go_ret
 exact ⟨rfl, hto⟩
theorem crash_no {w : World} {sb : Nat} {L : Lay} {s : Sy} (h : SynAt w sb L s) {i : Int} (hi : i < 0 ∨ (s.n : Int) ≤ i) :
  Calls Tryz.prog 45 #[P6 sb, I6 i] w fun e w' => e = .returned (I6 1) ∧ w' = w := by
 have hF := find_no h hi
 go_enter Tryz.func45, Tryz.ntmps45
 go_wp2_with fail
 refine hF.mono ?_
 rintro e w2 ⟨rfl, hw2⟩
 have hw2' := hw2.symm
 subst hw2'
 clear hF hw2
 go_wp2_with fail
 go_ret
 exact ⟨rfl, rfl⟩
theorem net_syn {w : World} {sb : Nat} {L : Lay} {s : Sy} (h : SynAt w sb L s) :
  Calls Tryz.prog 25 #[P6 sb] w fun e w' => ∃ v' l, e = .returned v' ∧ l.map (·.m) = s.net ∧ (∀ i (hi : i < l.length), w'.ownsRow w.heap.size 53 6 l[i].v l[i].m.a.length (vcells l[i].m.a)) ∧
   (∀ i j (hi : i < l.length) (hj : j < l.length) g, i < j → l[i].v.ownBlock = some g → l[j].v.ownBlock ≠ some g) ∧ w'.ownsRow w.heap.size 36 10 v' l.length (ncs l) ∧ Below w.heap.size w w' := by
 obtain ⟨l, hlm, hown, hok⟩ := h.net
 have hll : l.length = s.net.length := by rw [← hlm, List.length_map]
 have hfull := h.ok.full
 have hN := list_any sb 1 L.v l w h.netv (owns_row hown) (fun x hx => (hok x hx).1) (by omega)
 go_enter Tryz.func25, Tryz.ntmps25
 go_wp2_with fail
 refine hN.mono ?_
 rintro e w2 ⟨v', l', rfl, hl', hrows, hap, hown', hB⟩
 clear hN
 go_wp2_with fail
 go_ret
 refine ⟨v', l', rfl, ?_, fun i hi => ?_, hap, hown', hB⟩
 ·rw [← hlm]
  apply List.ext_getElem
  ·simp [hl']
  ·intro i h1 h2
   simp at h1 h2
   simp [(hrows i h2 h1).1]
 ·have := hrows i (by omega) hi
  rw [this.1]
  exact this.2
end
section
open Go.RowKit
theorem mdouble_no {w : World} {sb : Nat} {L : Lay} {s : Sy} (h : SynAt w sb L s) {k : Int} (hk : k < 0 ∨ (s.net.length : Int) ≤ k) :
  Calls Tryz.prog 74 #[.pointer (some (A6 sb 1)), I6 k] w fun e w' => e = .returned (I6 1) ∧ w' = w := by
 obtain ⟨l, hlm, hown, hok⟩ := h.net
 have hll : l.length = s.net.length := by rw [← hlm, List.length_map]
 obtain ⟨va, vc, hv, _⟩ := (owns_row hown).form
 have hH := has_any sb 1 va l.length vc k w (by rw [← hv]; exact h.netv)
 have hd : (decide (0 ≤ k) && decide (k < (l.length : Int))) = false := by simp; omega
 rw [hd] at hH
 go_enter Tryz.func74, Tryz.ntmps74
 go_wp2_with fail
 refine hH.mono ?_
 rintro e w2 ⟨rfl, hw2⟩
 have hw2' := hw2.symm
 subst hw2'
 clear hH hw2
 go_wp2_with fail
 go_ret
 exact ⟨rfl, rfl⟩
theorem mdouble_full {w : World} {sb : Nat} {L : Lay} {s : Sy} (h : SynAt w sb L s) {k : Nat} (hk : k < s.net.length) (hf : 200 ≤ s.net.length) :
  Calls Tryz.prog 74 #[.pointer (some (A6 sb 1)), I6 (k : Int)] w fun e w' => e = .returned (I6 6) ∧ w' = w := by
 obtain ⟨l, hlm, hown, hok⟩ := h.net
 have hll : l.length = s.net.length := by rw [← hlm, List.length_map]
 have hfull := h.ok.full
 obtain ⟨va, vc, hv, _⟩ := (owns_row hown).form
 have hH := has_any sb 1 va l.length vc (k : Int) w (by rw [← hv]; exact h.netv)
 have hR := room_any sb 1 va l.length vc 1 w (by rw [← hv]; exact h.netv) (by omega) (by omega) (by omega)
 have hd : (decide (0 ≤ (k : Int)) && decide ((k : Int) < (l.length : Int))) = true := by simp; omega
 have hd2 : decide ((l.length : Int) + 1 ≤ 200) = false := decide_eq_false (by omega)
 rw [hd] at hH
 rw [hd2] at hR
 go_enter Tryz.func74, Tryz.ntmps74
 go_wp2_with fail
 refine hH.mono ?_
 rintro e w2 ⟨rfl, hw2⟩
 have hw2' := hw2.symm
 subst hw2'
 clear hH hw2
 go_wp2_with fail
 refine hR.mono ?_
 rintro e w2 ⟨rfl, hw2⟩
 have hw2' := hw2.symm
 subst hw2'
 clear hR hw2
 go_wp2_with fail
 go_ret
 exact ⟨rfl, rfl⟩
set_option maxHeartbeats 1000000 in
theorem mdouble_yes {w : World} {sb : Nat} {L : Lay} {s : Sy} (h : SynAt w sb L s) {k : Nat} (hk : k < s.net.length) (hf : s.net.length < 200) :
  Calls Tryz.prog 74 #[.pointer (some (A6 sb 1)), I6 (k : Int)] w fun e w' => e = .returned (I6 0) ∧ SynTo w sb L w' (s.double k) := by
 have hAt := h
 obtain ⟨l, hlm, hown, hok⟩ := h.net
 have hll : l.length = s.net.length := by rw [← hlm, List.length_map]
 have hkl : k < l.length := by omega
 obtain ⟨va, vc, hv, _⟩ := (owns_row hown).form
 have hnv := h.netv
 rw [hv] at hnv
 have hH := has_any sb 1 va l.length vc (k : Int) w hnv
 have hR := room_any sb 1 va l.length vc 1 w hnv (by omega) (by omega) (by omega)
 have hd : (decide (0 ≤ (k : Int)) && decide ((k : Int) < (l.length : Int))) = true := by simp; omega
 have hd2 : decide ((l.length : Int) + 1 ≤ 200) = true := decide_eq_true (by omega)
 rw [hd] at hH
 rw [hd2] at hR
 have hne : L.v.ownBlock ≠ some sb := fun hv => by
  obtain ⟨cs, hc⟩ := owns_blk hown hv
  rw [h.syn] at hc; injection hc with e; injection e with _ e; simp at e
 have hx := hok l[k] (List.getElem_mem hkl)
 have hP := put_any sb 1 0 #[.slice (some (A6 L.gb 0)) s.n L.gc, L.v] 97 L.v l l[k] w h.syn rfl hown hne hx.1 (by omega) (Nat.zero_le _)
 have hfin : ∀ w' v', w'.heap[sb]? = some (.cells #[.slice (some (A6 L.gb 0)) s.n L.gc, v'] 97 (0, 0)) → w'.ownsRow 0 36 10 v' (sent l l[k]).length (ncs (sent l l[k])) → (∀ g, v'.ownBlock = some g → L.v.ownBlock = some g ∨ w.heap.size ≤ g) → Keeps (fun k => k = sb ∨ L.v.ownBlock = some k) w w' → SynTo w sb L w' (s.double k) := by
  intro w' v' hb ho hat hkp
  have hm : s.net.getD k noMs = l[k].m := by rw [List.getD_eq_getElem?_getD, ← hlm, List.getElem?_map, List.getElem?_eq_getElem hkl]; rfl
  have hs : s.double k = ⟨s.n, s.reps, s.net ++ [l[k].m]⟩ := by unfold Sy.double Sy.send1; rw [if_pos hf, hm]
  have hse : sent l l[k] = l ++ [l[k]] := if_pos (by omega)
  rw [hs]
  rw [hse] at ho
  refine (hAt.setNetR (ns := s.net ++ [l[k].m]) (l := l ++ [l[k]]) (by simp; omega) (fun m hm' => ?_) (by simp [hlm]) hkp hb ho (fun x hx' => ?_) hat).to
  ·rcases List.mem_append.1 hm' with h1 | h1
   ·exact hAt.ok.net m h1
   ·rw [List.mem_singleton.1 h1, ← hm]
    exact hAt.ok.net _ (by rw [List.getD_eq_getElem?_getD, List.getElem?_eq_getElem hk]; exact List.getElem_mem hk)
  ·rcases List.mem_append.1 hx' with h1 | h1
   ·exact hok x h1
   ·rw [List.mem_singleton.1 h1]; exact hx
 rcases hown.2 with ⟨_, h0⟩ | ⟨g, cap, cur, hve, hbg, hg, hnc, hcm, hcs, htake⟩
 ·omega
 have hrow : ∀ i, i < 10 → w.cell? (A6 g (k * 10 + i)) = l[k].cells[i]? := fun i hi => by
  rw [blk_cell hg, ← Array.getElem?_toList]
  have e2 : cur.toList[k * 10 + i]? = (cur.toList.take (l.length * 10))[k * 10 + i]? := by rw [List.getElem?_take, if_pos (by omega)]
  rw [e2, htake, ncs_at l k hkl i hi]
 rw [hve] at hv
 injection hv with hv1 hv2 hv3
 subst hv1 hv3
 obtain ⟨xa, xc, hxe, _⟩ := hx.1.1.form
 have Hfin : Hid (∀ w' v', w'.heap[sb]? = some (.cells #[.slice (some (A6 L.gb 0)) s.n L.gc, v'] 97 (0, 0)) → w'.ownsRow 0 36 10 v' (sent l l[k]).length (ncs (sent l l[k])) → (∀ g, v'.ownBlock = some g → L.v.ownBlock = some g ∨ w.heap.size ≤ g) → Keeps (fun k => k = sb ∨ L.v.ownBlock = some k) w w' → SynTo w sb L w' (s.double k)) := hfin
 clear hfin
 generalize l[k] = x at *
 obtain ⟨⟨mk, mf, mt, mb, ms, ⟨mc, mq, mh, mx⟩, ma⟩, xv⟩ := x
 simp only [Nm.cells] at *
 subst hxe
 generalize ma.length = xn at *
 have c0 : w.cell? (A6 g (k * 10)) = some (I6 mk) := by simpa [Nm.cells] using hrow 0 (by decide)
 have c1 : w.cell? (A6 g (k * 10 + 1)) = some (I6 mf) := by simpa [Nm.cells] using hrow 1 (by decide)
 have c2 : w.cell? (A6 g (k * 10 + 2)) = some (I6 mt) := by simpa [Nm.cells] using hrow 2 (by decide)
 have c3 : w.cell? (A6 g (k * 10 + 3)) = some (I6 mb) := by simpa [Nm.cells] using hrow 3 (by decide)
 have c4 : w.cell? (A6 g (k * 10 + 4)) = some (I6 ms) := by simpa [Nm.cells] using hrow 4 (by decide)
 have c5 : w.cell? (A6 g (k * 10 + 5)) = some (I6 mc) := by simpa [Nm.cells] using hrow 5 (by decide)
 have c6 : w.cell? (A6 g (k * 10 + 6)) = some (I6 mq) := by simpa [Nm.cells] using hrow 6 (by decide)
 have c7 : w.cell? (A6 g (k * 10 + 7)) = some (I6 mh) := by simpa [Nm.cells] using hrow 7 (by decide)
 have c8 : w.cell? (A6 g (k * 10 + 8)) = some (.string mx) := by simpa [Nm.cells] using hrow 8 (by decide)
 have c9 : w.cell? (A6 g (k * 10 + 9)) = some (.slice xa xn xc) := by simpa [Nm.cells] using hrow 9 (by decide)
 clear hrow
 have q0 : (0 : Int) ≤ (k : Int) := by omega
 have q1 : (k : Int) < (l.length : Int) := by omega
 clear hve
 go_enter Tryz.func74, Tryz.ntmps74
 go_wp2_with fail
 refine hH.mono ?_
 rintro e w2 ⟨rfl, hw2⟩
 have hw2' := hw2.symm
 subst hw2'
 clear hH hw2
 go_wp2_with fail
 refine hR.mono ?_
 rintro e w2 ⟨rfl, hw2⟩
 have hw2' := hw2.symm
 subst hw2'
 clear hR hw2
 go_wp2_with fail
 refine hP.mono ?_
 rintro e w2 ⟨v2, rfl, hs2, ho2, hn2, hat2, hk2⟩
 clear hP
 go_wp2_with fail
 go_ret
 rw [ar2] at hs2
 exact ⟨rfl, Hfin.out w2 v2 hs2 ho2 hat2 hk2⟩
theorem double_of {w : World} {sb : Nat} {k r : Int} {R : World → Prop} (h : Calls Tryz.prog 74 #[.pointer (some (A6 sb 1)), I6 k] w fun e w' => e = .returned (I6 r) ∧ R w') :
  Calls Tryz.prog 43 #[P6 sb, I6 k] w fun e w' => e = .returned (I6 r) ∧ R w' := by
 go_enter Tryz.func43, Tryz.ntmps43
 go_wp2_with fail
 refine h.mono ?_
 rintro e w2 ⟨rfl, hr⟩
 go_wp2_with fail
 go_ret
 exact ⟨rfl, hr⟩
end
end Go.Proofs.YtnnhnekfokbooaaGreatDoor
