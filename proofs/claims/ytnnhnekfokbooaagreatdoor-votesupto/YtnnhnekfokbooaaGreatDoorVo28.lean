/- The walk of the document's RoleOf. -/
import Derived.Test.YtnnhnekfokbooaaGreatDoorVo27
namespace Go.Proofs.YtnnhnekfokbooaaGreatDoor
open Go.RowKit
set_option linter.unusedSimpArgs false
set_option linter.unusedVariables false

theorem there_new (W : World) (Z : Array Value) (t : TypeId) (hZ : Z.size = 396) : World.there (W.alloc (.cells Z t)) W.heap.size 0 396 := fun j hj => by
 have hb := blk_new W (.cells Z t)
 exact ⟨by rw [blk_cell hb, Nat.zero_add, Array.getElem?_eq_getElem (by omega)]; rfl, blk_free hb _⟩
theorem put_new (W : World) (Z : Array Value) (t : TypeId) (hZ : Z.size = 396) (cs : List Value) (hc : cs.length = 396) : (World.setCells (W.alloc (.cells Z t)) W.heap.size 0 cs).heap[W.heap.size]? = some (.cells cs.toArray t (0, 0)) := by
 rw [setCells_self W.heap.size t cs 0 _ Z (blk_new W (.cells Z t)) (by omega)]
 simp [hc, hZ]
theorem sl_one (y : Sl) : ∀ u ∈ y.cells, u.oneCell' = true := by
 intro u hu
 unfold Sl.cells Pst.cells at hu
 simp only [List.mem_append, List.mem_cons, List.mem_map, List.not_mem_nil, or_false] at hu
 rcases hu with ((((((rfl | (rfl | rfl | rfl | rfl)) | rfl) | (rfl | rfl | rfl | rfl)) | (rfl | rfl)) | (rfl | rfl | rfl | rfl)) | rfl) | ⟨b, _, rfl⟩ <;> rfl
theorem rr_one (r : Rr) : ∀ u ∈ r.cells, u.oneCell' = true := by
 have gen : ∀ l : List Sl, ∀ u ∈ flatC Sl.cells l, u.oneCell' = true := by
  intro l
  induction l with
  | nil => intro u hu; cases hu
  | cons y l ih =>
   intro u hu
   rcases List.mem_append.1 hu with hu | hu
   ·exact sl_one y u hu
   ·exact ih u hu
 intro u hu
 unfold Rr.cells Rr.head at hu
 rcases List.mem_append.1 hu with hu | hu
 ·simp only [List.mem_cons, List.not_mem_nil, or_false] at hu
  rcases hu with rfl | rfl | rfl | rfl | rfl <;> rfl
 ·rcases List.mem_append.1 hu with hu | hu
  ·obtain ⟨b, _, rfl⟩ := List.mem_map.1 hu; rfl
  ·exact gen _ u hu
section
variable {w : World} {qb Rb : Nat} {v : Value} {x : Qs}
set_option maxHeartbeats 2000000 in
set_option maxRecDepth 100000 in
theorem rrole_yes (h : QAt w qb Rb v x) {i : Nat} (hi : i < x.R.length) : Calls Tryz.prog 34 #[.pointer (some ⟨qb, 0, none⟩), .int .i64 (i : Int)] w fun e w' => e = .returned (.tuple #[.agg #[.int .i64 (x.rep i).ro, .int .i64 (x.rep i).ba, .int .i64 (x.rep i).pr, .int .i64 (x.rep i).nx], .int .i64 0]) ∧ Below w.heap.size w w' := by
 have hB0 : Below w.heap.size w (w.alloc (.cells #[.int .i64 0, .int .i64 0, .int .i64 0, .int .i64 0] 85)) := (Below.refl _ w).alloc (Nat.le_refl _) _
 have h1 := h.below hB0
 have hIs := ris_yes h1 hi
 have d0 := h1.c0
 have q0 : (0 : Int) ≤ (i : Int) := by omega
 have q1 : (i : Int) < (x.R.length : Int) := by omega
 go_enter Tryz.func34, Tryz.ntmps34
 go_wp2_with fail
 refine hIs.mono ?_
 rintro e w' ⟨rfl, hw'⟩
 have hw9 := hw'.symm
 subst hw9
 clear hIs hw'
 go_upto_region 4 with (fail)
 have hq := h1.reps.here hi
 obtain ⟨r, hr⟩ : ∃ r, r = x.R.getD i noRr := ⟨_, rfl⟩
 have HR : Hid (x.rep i = r) := by show _ = _; rw [hr]; rfl
 rw [← hr] at hq
 clear hr
 have hrk := hq.rok hi
 have hcl := Rr.cells_len hrk
 have Hra : Hid (World.rangeAt (w.alloc (.cells #[.int .i64 0, .int .i64 0, .int .i64 0, .int .i64 0] 85)) Rb (i * 396) r.cells) := fun j u hu => hq.hc hi (o := j) (by have := (List.getElem?_eq_some_iff.1 hu).1; omega) hu
 have Hi : Hid ((Tryz.prog.info? 114).map (·.size) = some r.cells.length) := by show _ = _; rw [hcl]; kernel_rfl
 have Hi2 : Hid ((Tryz.prog.info? 114).map (·.size) = some r.cells.toArray.size) := by show _ = _; rw [List.size_toArray, hcl]; kernel_rfl
 have H1 : Hid (r.cells.toArray.all (·.oneCell') = true) := by
  show _ = _
  rw [List.all_toArray, List.all_eq_true]
  exact rr_one r
 have hZ : (Tryz.zeroCells114).size = 396 := by kernel_rfl
 have Hth : Hid (World.there ((w.alloc (.cells #[.int .i64 0, .int .i64 0, .int .i64 0, .int .i64 0] 85)).alloc (.cells Tryz.zeroCells114 114)) (w.heap.size + 1) 0 r.cells.toArray.size) := by
  show World.there _ _ _ _
  have hs9 : r.cells.toArray.size = 396 := by rw [List.size_toArray, hcl]
  rw [hs9]
  have := there_new (w.alloc (.cells #[.int .i64 0, .int .i64 0, .int .i64 0, .int .i64 0] 85)) Tryz.zeroCells114 114 hZ
  rwa [World.size_alloc] at this
 have hpn := put_new (w.alloc (.cells #[.int .i64 0, .int .i64 0, .int .i64 0, .int .i64 0] 85)) Tryz.zeroCells114 114 hZ r.cells hcl
 rw [World.size_alloc] at hpn
 have kpn : Keeps (fun k => k = w.heap.size + 1) ((w.alloc (.cells #[.int .i64 0, .int .i64 0, .int .i64 0, .int .i64 0] 85)).alloc (.cells Tryz.zeroCells114 114)) (World.setCells ((w.alloc (.cells #[.int .i64 0, .int .i64 0, .int .i64 0, .int .i64 0] 85)).alloc (.cells Tryz.zeroCells114 114)) (w.heap.size + 1) 0 r.cells) := keeps_sets _ _ _ _
 clear hZ
 go_upto_region 5 with (first | (refine wpList_load_mid rfl 114 (.tmp 19) rfl Rb (i * 396) rfl r.cells _ Hra.out Tryz.underlying114 rfl Hi.out ?_) | (refine wpList_store_mid rfl 114 (.tmp 7) (.tmp 20) rfl (w.heap.size + 1) 0 r.cells.toArray rfl rfl Hth.out Hi2.out H1.out ?_; simp only [Act.put]))
 have hro0 : ((w.alloc (.cells #[.int .i64 0, .int .i64 0, .int .i64 0, .int .i64 0] 85)).alloc (.cells Tryz.zeroCells114 114)).heap[w.heap.size]? = some (.cells #[.int .i64 0, .int .i64 0, .int .i64 0, .int .i64 0] 85 (0, 0)) := blk_alloc (blk_new w _) _
 have hro := blk_keeps kpn hro0 (by omega)
 have hBf : Below w.heap.size w (World.setCells ((w.alloc (.cells #[.int .i64 0, .int .i64 0, .int .i64 0, .int .i64 0] 85)).alloc (.cells Tryz.zeroCells114 114)) (w.heap.size + 1) 0 r.cells) := Below.trans (hB0.alloc (by simp) _) ⟨kpn.os, kpn.tape, kpn.output, kpn.size, fun b hb => kpn.block b (by simp; omega) (by omega)⟩
 generalize World.setCells ((w.alloc (.cells #[.int .i64 0, .int .i64 0, .int .i64 0, .int .i64 0] 85)).alloc (.cells Tryz.zeroCells114 114)) (w.heap.size + 1) 0 r.cells = w9 at *
 clear hro0 kpn Hth H1 Hi Hi2 Hra hq d0 h1
 have b0 : w9.cell? ⟨w.heap.size + 1, 0, none⟩ = some (.int .i64 r.pr) := (blk_cell hpn 0).trans (by rw [List.getElem?_toArray]; rfl)
 have b2 : w9.cell? ⟨w.heap.size + 1, 2, none⟩ = some (.int .i64 r.ro) := (blk_cell hpn 2).trans (by rw [List.getElem?_toArray]; rfl)
 have b3 : w9.cell? ⟨w.heap.size + 1, 3, none⟩ = some (.int .i64 r.ba) := (blk_cell hpn 3).trans (by rw [List.getElem?_toArray]; rfl)
 have b4 : w9.cell? ⟨w.heap.size + 1, 4, none⟩ = some (.int .i64 r.nx) := (blk_cell hpn 4).trans (by rw [List.getElem?_toArray]; rfl)
 have hrc := blk_cell hro
 have hrf := blk_free hro
 clear hpn
 go_wp2_with fail
 refine bodyPost_ret (v := .tuple #[.agg #[.int .i64 r.ro, .int .i64 r.ba, .int .i64 r.pr, .int .i64 r.nx], .int .i64 0]) (by simp [results, Tryz.results34, go_sem, hrc]) rfl ⟨by rw [HR.out], ?_⟩
 repeat refine Below.setCell ?_ (by simp) _
 exact hBf
theorem rrole_no (h : QAt w qb Rb v x) {i : Int} (hi : i < 0 ∨ (x.R.length : Int) ≤ i) : Calls Tryz.prog 34 #[.pointer (some ⟨qb, 0, none⟩), .int .i64 i] w fun e w' => e = .returned (.tuple #[.agg #[.int .i64 0, .int .i64 0, .int .i64 0, .int .i64 0], .int .i64 1]) ∧ Below w.heap.size w w' := by
 have hB0 : Below w.heap.size w (w.alloc (.cells #[.int .i64 0, .int .i64 0, .int .i64 0, .int .i64 0] 85)) := (Below.refl _ w).alloc (Nat.le_refl _) _
 have hIs := ris_no (h.below hB0) hi
 have hz := blk_new w (.cells #[.int .i64 0, .int .i64 0, .int .i64 0, .int .i64 0] 85)
 have hrc := blk_cell hz
 have hrf := blk_free hz
 go_enter Tryz.func34, Tryz.ntmps34
 go_wp2_with fail
 refine hIs.mono ?_
 rintro e w' ⟨rfl, hw'⟩
 have hw9 := hw'.symm
 subst hw9
 clear hIs hw'
 go_wp2_with fail
 refine bodyPost_ret (v := .tuple #[.agg #[.int .i64 0, .int .i64 0, .int .i64 0, .int .i64 0], .int .i64 1]) (by simp [results, Tryz.results34, go_sem, hrc]) rfl ⟨rfl, ?_⟩
 repeat refine Below.setCell ?_ (by simp) _
 exact hB0
end
end Go.Proofs.YtnnhnekfokbooaaGreatDoor
