/- The walk of the document's Log. -/
import Derived.Test.YtnnhnekfokbooaaGreatDoorVo25
namespace Go.Proofs.YtnnhnekfokbooaaGreatDoor
open Go.RowKit
set_option linter.unusedSimpArgs false
set_option linter.unusedVariables false

def logR (r : Rr) : List Pst := (r.sl.takeWhile (·.is)).map (·.fin)
theorem logR_eq {r : Rr} (hl : r.sl.length = 16) {q : Nat} (hq : q ≤ 16) (h1 : ∀ j, j < q → (r.at j).is = true) (h2 : q = 16 ∨ (r.at q).is = false) : logR r = (r.sl.take q).map (·.fin) := by
 unfold logR
 congr 1
 have gen : ∀ (l : List Sl) (q : Nat), (∀ j, j < q → (l.getD j noSl).is = true) → (l.length ≤ q ∨ (l.getD q noSl).is = false) → l.takeWhile (·.is) = l.take q := by
  intro l
  induction l with
  | nil => intro q _ _; simp
  | cons y l ih =>
   intro q h1 h2
   cases q with
   | zero =>
    have hy : y.is = false := by
     rcases h2 with h2 | h2
     ·simp at h2
     ·simpa using h2
    simp [hy]
   | succ q =>
    have hy : y.is = true := by simpa using h1 0 (by omega)
    rw [List.takeWhile_cons, if_pos hy, List.take_succ_cons, ih q (fun j hj => by simpa using h1 (j + 1) (by omega)) (by rcases h2 with h2 | h2; exact .inl (by simpa using h2); exact .inr (by simpa using h2))]
 exact gen r.sl q h1 (by rcases h2 with h2 | h2; exact .inl (by omega); exact .inr h2)
theorem fin_snoc {r : Rr} (hl : r.sl.length = 16) {q : Nat} (hq : q < 16) : (r.sl.take (q + 1)).map (·.fin) = (r.sl.take q).map (·.fin) ++ [(r.at q).fin] := by
 rw [List.take_add_one, List.getElem?_eq_getElem (by omega), List.map_append]
 unfold Rr.at
 rw [List.getD_eq_getElem?_getD, List.getElem?_eq_getElem (by omega)]
 rfl
section
variable {w : World} {qb Rb : Nat} {v : Value} {x : Qs}
set_option maxHeartbeats 4000000 in
set_option maxRecDepth 100000 in
theorem rlog_yes (h : QAt w qb Rb v x) {i : Nat} (hi : i < x.R.length) : Calls Tryz.prog 28 #[.pointer (some ⟨qb, 0, none⟩), .int .i64 (i : Int)] w fun e w' => ∃ v', e = .returned (.tuple #[v', .int .i64 0]) ∧ w'.ownsRow w.heap.size 33 4 v' (logR (x.rep i)).length (pcells (logR (x.rep i))) ∧ Below w.heap.size w w' := by
 obtain ⟨i0, hi0, hz0, hz1, hz2⟩ := info_parts Tryz.infoPost
 have hIs := ris_yes h hi
 have hq := h.reps.here hi
 have hR : x.rep i = x.R.getD i noRr := rfl
 generalize hr : x.R.getD i noRr = r at *
 have HR : Hid (x.rep i = r) := hR
 clear hr hR
 have hrk := hq.rok hi
 have hlen := hrk.len
 have q0 : (0 : Int) ≤ (i : Int) := by omega
 have q1 : (i : Int) < (x.R.length : Int) := by omega
 go_enter Tryz.func28, Tryz.ntmps28
 go_wp2_with fail
 refine hIs.mono ?_
 rintro e w' ⟨rfl, hw'⟩
 have hw9 := hw'.symm
 subst hw9
 clear hIs hw'
 go_wp2_with fail
 go_loopw [7, 8] (fun ov kv wr => ∃ (q : Nat) (M : List Pst), q ≤ 16 ∧ kv = .int .i64 q ∧ M = (r.sl.take q).map (·.fin) ∧ M.length = q ∧ (∀ j, j < q → (r.at j).is = true) ∧ wr.ownsRow w.heap.size 33 4 ov M.length (pcells M) ∧ Below w.heap.size w wr) (fun _ kv _ => 16 - (intOf kv).toNat)
 case atStart => exact ⟨0, [], by omega, rfl, rfl, rfl, fun j hj => by omega, World.ownsRow_nil _ _ _ _, Below.refl _ _⟩
 case round =>
  obtain ⟨q, M, hq16, rfl, hM, hMl, hall, hown, hB⟩ := hrel
  obtain ⟨va, vc, rfl, _⟩ := (owns_row hown).form
  have HM : Hid (M = (r.sl.take q).map (·.fin)) := hM
  have HA : Hid (∀ j, j < q → (r.at j).is = true) := hall
  have HL : Hid (M.length = q) := hMl
  have hM16 : M.length ≤ 16 := by omega
  clear hM hall hMl
  have hqr := hq.below hB
  have hR9 := h.below hB
  have d0 := hR9.c0
  by_cases hq16' : q < 16
  ·have p0 : (0 : Int) ≤ (q : Int) := by omega
   have p1 : (q : Int) < 16 := by omega
   have m1 : decide ((q : Int) < 16) = true := by simp; omega
   have c5 := hqr.sc hi hq16' (o := 5) (by decide) (v := .bool (r.at q).is) rfl
   cases hb : (r.at q).is
   ·rw [hb] at c5
    have HE : Hid (logR (x.rep i) = M) := by show _ = _; rw [HR.out, HM.out]; exact logR_eq hlen hq16 HA.out (.inr hb)
    clear hb
    go_wp2_with fail
    go_ret2
    refine ⟨_, rfl, ?_, hB⟩
    rw [HE.out]; exact hown
   ·rw [hb] at c5
    have f0 := hqr.sc hi hq16' (o := 6) (by decide) (v := .int .i64 (r.at q).fin.c) rfl
    have f1 : wr.cell? ⟨Rb, i * 396 + 12 + q * 24 + 6 + 1, none⟩ = some (.int .i64 (r.at q).fin.q) := hqr.sc hi hq16' (o := 7) (by decide) rfl
    have f2 : wr.cell? ⟨Rb, i * 396 + 12 + q * 24 + 6 + 2, none⟩ = some (.int .i64 (r.at q).fin.h) := hqr.sc hi hq16' (o := 8) (by decide) rfl
    have f3 : wr.cell? ⟨Rb, i * 396 + 12 + q * 24 + 6 + 3, none⟩ = some (.string (r.at q).fin.t) := hqr.sc hi hq16' (o := 9) (by decide) rfl
    have HN : Hid ((r.sl.take (q + 1)).map (·.fin) = M ++ [(r.at q).fin]) := by show _ = _; rw [fin_snoc hlen hq16', HM.out]
    have HA2 : Hid (∀ j, j < q + 1 → (r.at j).is = true) := fun j hj => by
     by_cases e : j = q
     ·rw [e]; exact hb
     ·exact HA.out j (by omega)
    clear hb
    generalize (r.at q).fin = p at *
    obtain ⟨pc, pq, ph, pt⟩ := p
    have hbd : M.length + 1 ≤ maxLen ∧ (M.length + 1) * 40 ≤ 140737488355328 := ⟨by unfold maxLen; omega, by omega⟩
    have h1c : ∀ u ∈ [Value.int .i64 pc, .int .i64 pq, .int .i64 ph, .string pt], u.oneCell' = true := by
     intro u hu; simp at hu; rcases hu with rfl | rfl | rfl | rfl <;> rfl
    have hz := hB.size
    go_wp2_with (at_builtin; refine wpList_append_lies _ rfl (.tmp 31) (.tmp 43) 54 rfl w.heap.size 33 i0 _ 4 40 Tryz.underlying54 hi0 hz0 hz1 hz2 rfl (by decide) (.slice va M.length vc) M.length (pcells M) rfl (owns_alloc hown _) _ 1 1 [.int .i64 pc, .int .i64 pq, .int .i64 ph, .string pt] rfl rfl (news_new _ _ (by simp) _ _) h1c (by decide) hbd.1 hbd.2 (by simp; omega) _ rfl ?_; intro g2 cap2 w9 hown9 hgr hat hlt9)
    go_roundw
    case rel =>
     refine ⟨q + 1, M ++ [⟨pc, pq, ph, pt⟩], by omega, by go_num, HN.out.symm, by rw [List.length_append, HL.out]; rfl, HA2.out, ?_, ?_⟩
     ·rw [pcells_append, List.length_append]
      simpa [pcells, Pst.cells] using hown9
     ·refine (hB.alloc (by omega) _).trans ⟨hgr.os, hgr.tape, hgr.output, hgr.size, fun b hb => hgr.block b (by simp; omega) (fun e => by have := (World.ownsRow.lt hown b e.symm).1; omega)⟩
    case measure => simp [intOf]; omega
  ·have hqe : q = 16 := by omega
   have m1 : decide ((q : Int) < 16) = false := by simp; omega
   have m2 : ¬ (q : Int) < 16 := by omega
   have HE : Hid (logR (x.rep i) = M) := by show _ = _; rw [HR.out, HM.out]; exact logR_eq hlen hq16 HA.out (.inl hqe)
   clear hqe
   go_wp2_with fail
   go_ret2
   refine ⟨_, rfl, ?_, hB⟩
   rw [HE.out]; exact hown
theorem rlog_no (h : QAt w qb Rb v x) {i : Int} (hi : i < 0 ∨ (x.R.length : Int) ≤ i) : Calls Tryz.prog 28 #[.pointer (some ⟨qb, 0, none⟩), .int .i64 i] w fun e w' => e = .returned (.tuple #[.slice none 0 0, .int .i64 1]) ∧ w' = w := by
 have hIs := ris_no h hi
 go_enter Tryz.func28, Tryz.ntmps28
 go_wp2_with fail
 refine hIs.mono ?_
 rintro e w' ⟨rfl, hw'⟩
 clear hIs
 go_wp2_with fail
 go_ret2
 exact ⟨rfl, rfl⟩
end
end Go.Proofs.YtnnhnekfokbooaaGreatDoor
