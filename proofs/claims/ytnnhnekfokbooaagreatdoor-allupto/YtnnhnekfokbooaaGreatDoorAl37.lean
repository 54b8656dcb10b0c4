/- LawN -/
import Derived.Test.YtnnhnekfokbooaaGreatDoorAl36
set_option linter.unusedSimpArgs false
set_option linter.unusedVariables false
set_option maxRecDepth 100000
namespace Go.Proofs.YtnnhnekfokbooaaGreatDoor
section
open Go.RowKit
def opa : Opd := ⟨1, 0, 1, 0, ⟨#[]⟩, ⟨0, 0, 0, ⟨#[]⟩⟩, ⟨0, 0, 0, 0, 0, ⟨0, 0, 0, ⟨#[]⟩⟩, []⟩, .slice none 0 0⟩
def opb : Opd := ⟨2, 0, 0, 0, ⟨#[]⟩, ⟨0, 0, 0, ⟨#[]⟩⟩, ⟨0, 0, 0, 0, 0, ⟨0, 0, 0, ⟨#[]⟩⟩, []⟩, .slice none 0 0⟩
def opc : Opd := ⟨4, 0, 0, 0, ⟨#[]⟩, ⟨0, 0, 0, ⟨#[]⟩⟩, ⟨0, 0, 0, 0, 0, ⟨0, 0, 0, ⟨#[]⟩⟩, []⟩, .slice none 0 0⟩
theorem opa_ok (w : World) : opa.ok w := ⟨rvat_nil w, by decide, by decide, by decide, by decide⟩
theorem opb_ok (w : World) : opb.ok w := ⟨rvat_nil w, by decide, by decide, by decide, by decide⟩
theorem opc_ok (w : World) : opc.ok w := ⟨rvat_nil w, by decide, by decide, by decide, by decide⟩
structure Few (d : Wd) (j : Nat) : Prop where
 ps : d.ps.length ≤ j
 N : d.N.length ≤ 4 * j
 V : d.V.length ≤ 800 * j
 P : d.P.length ≤ 4 * j
 some : 0 < j → 0 < d.ps.length
theorem looks_of' {w : World} {wb H : Nat} {d : Wd} (h : WAt w wb H d) (lN : d.N.length ≤ 5000000000000) (lV : d.V.length ≤ 5000000000000) (lP : d.P.length ≤ 5000000000000) :
  Calls Tryz.prog 8 #[P6 wb] w fun e w' => e = .returned (.bool true) ∧ WAt w' wb H d ∧ Below w.heap.size w w' := by
 refine (looks_all wb H d.wl d.wn d.wv d.wp d.N d.V d.P w h.blk h.nets h.votes h.posts lN lV lP).mono ?_
 rintro e w' ⟨rfl, hB⟩
 exact ⟨rfl, h.below hB, hB⟩
set_option maxHeartbeats 8000000 in
theorem plays_from (hi : Int) (hhi1 : 1 ≤ hi) (v : Value) (l : List Opd) (w : World) (hv : SAt w v l) (hlen : l.length ≤ 1048576)
  (hS : ∀ (W : World) (wb H : Nat) (d : Wd) (o : Opd), WAt W wb H d → Below w.heap.size w W → o.ok W → 1 ≤ o.k → o.k ≤ hi → d.ps.length ≤ 1000000000 → d.N.length ≤ 4000000000000 → d.V.length ≤ 4000000000000 → d.P.length ≤ 4000000000000 →
   Calls Tryz.prog 7 #[P6 wb, .agg o.cells.toArray] W fun e w' => e = .returned (.bool true) ∧ WTo W wb H d w') :
  Calls Tryz.prog 6 #[v, I6 1, I6 hi] w fun e w' => e = .returned (.bool true) ∧ Below w.heap.size w w' := by
 obtain ⟨i0, hi0, hz0, hz1, hz2⟩ := info_parts Tryz.infoOp
 obtain ⟨sa, sc, hve, hsf⟩ := hv.form
 subst hve
 have h12 : ∀ u ∈ opa.cells ++ (opb.cells ++ opc.cells), u.oneCell' = true := fun u hu => by
  rw [List.mem_append, List.mem_append] at hu
  rcases hu with hu | hu | hu
  ·exact Opd.one (opa_ok w) u hu
  ·exact Opd.one (opb_ok w) u hu
  ·exact Opd.one (opc_ok w) u hu
 have HS := show Hid _ from hS
 clear hS
 go_enter Tryz.func6, Tryz.ntmps6
 go_upto_region 6 with (at_builtin; refine wpList_append_lies _ rfl (.tmp 15) (.tmp 19) 22 rfl (w.heap.size + 1) 38 i0 _ 19 192 Tryz.underlying22 hi0 hz0 hz1 hz2 rfl (by decide) (.slice none 0 0) 0 [] rfl (World.ownsRow_nil _ _ _ _) _ 3 3 (opa.cells ++ (opb.cells ++ opc.cells)) rfl rfl (news_new _ _ (by simp) _ _) h12 (by decide) (by decide) (by decide) (by simp) _ rfl ?_; intro g1 cap1 w1 hown1 hgr1 hat1 hlt1)
 have hwb1 := blk_grown hgr1 (blk_alloc (blk_new w _) _) (by simp [Value.ownBlock])
 have hB1 : Below w.heap.size w w1 := (((Below.refl _ w).alloc (Nat.le_refl _) _).alloc (by simp) _).trans ⟨hgr1.os, hgr1.tape, hgr1.output, hgr1.size, fun k hk => hgr1.block k (by simp; omega) (by simp [Value.ownBlock])⟩
 have hv1 : SAt w1 (.slice sa l.length sc) l := by
  refine ⟨hv.len, fun o ho => (hv.each o ho).below hB1, sa, sc, rfl, fun hne => ?_⟩
  obtain ⟨g, off, e, hg, hc⟩ := hsf hne
  refine ⟨g, off, e, by have := hB1.size; omega, fun j u hj => ?_⟩
  rw [hB1.cell (p := (A6 g (off + j))) hg]
  exact hc j u hj
 have hown1' : w1.ownsRow (w.heap.size + 1) 38 19 (.slice (some (A6 g1 0)) 3 cap1) 3 (opa.cells ++ (opb.cells ++ opc.cells)) := by simpa using hown1
 clear hown1 hgr1 hat1
 have hg1 := (World.ownsRow.lt hown1' g1 rfl).1
 go_upto_region 7 with (at_builtin; refine wpList_append_steps 3 (by decide) (by decide) rfl (.tmp 27) (.tmp 28) 22 rfl (w.heap.size + 1) 38 i0 _ Tryz.underlying22 hi0 hz0 hz1 hz2 rfl g1 cap1 rfl (opa.cells ++ (opb.cells ++ opc.cells)) hown1' (.slice sa l.length sc) l rfl hv1 (by omega) ?_; intro g2 cap2 w2 hown2 hgr2)
 have hwb2 := blk_grown hgr2 hwb1 (by simp; omega)
 have hB2 : Below w.heap.size w w2 := hB1.trans ⟨hgr2.os, hgr2.tape, hgr2.output, hgr2.size, fun k hk => hgr2.block k (by have := hB1.size; omega) (by simp; omega)⟩
 clear hown1' hgr2 hwb1 hv1 h12
 obtain ⟨L, hLd⟩ : ∃ L, L = opa :: opb :: opc :: l := ⟨_, rfl⟩
 have hLl : L.length = 3 + l.length := by rw [hLd]; simp; omega
 have hLo : ∀ o ∈ L, o.ok w := by
  rw [hLd]
  intro o ho
  rcases List.mem_cons.1 ho with rfl | ho
  ·exact opa_ok w
  ·rcases List.mem_cons.1 ho with rfl | ho
   ·exact opb_ok w
   ·rcases List.mem_cons.1 ho with rfl | ho
    ·exact opc_ok w
    ·exact hv.each o ho
 have hL0 : L[0]? = some opa := by rw [hLd]; rfl
 have hLc : (opa.cells ++ (opb.cells ++ opc.cells)) ++ ocs l = ocs L := by rw [hLd]; simp [ocs]
 rw [hLc, ← hLl] at hown2
 obtain ⟨cur, hg2, hg2w, hrow⟩ : ∃ cur : Array Value, w2.heap[g2]? = some (.cells cur 38 (0, 0)) ∧ w.heap.size + 1 ≤ g2 ∧ cur.toList.take (L.length * 19) = ocs L := by
  rcases hown2.2 with ⟨h1, _⟩ | ⟨g, cap', cur, h1, h2, h3, _, _, _, h4⟩
  ·cases h1
  ·cases h1; exact ⟨cur, h3, h2, h4⟩
 have Hat : Hid (∀ j (hj : j < L.length) i (hi : i < 19), cur[j * 19 + i]? = L[j].cells[i]?) := fun j hj i hi => by
  rw [← ocs_at L j hj i hi, ← hrow, List.getElem?_take, if_pos (by omega), Array.getElem?_toList]
 have hN : L.length ≤ 1048579 := by rw [hLl]; omega
 have hW2 : WAt w2 w.heap.size w2.heap.size ⟨.slice none 0 0, .slice none 0 0, .slice none 0 0, .slice none 0 0, [], [], [], []⟩ := ⟨hwb2, World.ownsRow_nil _ _ _ _, ⟨World.ownsRow_nil _ _ _ _, fun k hk => by simp at hk, rfl⟩, ⟨World.ownsRow_nil _ _ _ _, fun k hk => by simp at hk, rfl⟩, ⟨World.ownsRow_nil _ _ _ _, fun k hk => by simp at hk, rfl⟩, ⟨fun i hi => by simp at hi, fun i j hi => by simp at hi⟩, ⟨trivial, by have := lt_of_block hwb2; omega, Nat.le_refl _⟩, fun k hk => by obtain ⟨i, hi, _⟩ := hk; simp at hi, fun k hk => by simp at hk⟩
 have hg2l := lt_of_block hg2
 have HLo : Hid (∀ o ∈ L, o.ok w) := hLo
 have HL0 : Hid (L[0]? = some opa) := hL0
 generalize w2.heap.size = H at *
 rw [← hLl]
 clear hwb2 hrow hown2 hLc hLd hLl hLo hL0
 go_wp2_with fail
 go_loopw [9, 10] (fun i q wr => ∃ (j : Nat) (d : Wd), j ≤ L.length ∧ i = I6 j ∧ Few d j ∧ WAt wr w.heap.size H d ∧ wr.heap[g2]? = some (.cells cur 38 (0, 0)) ∧ Below w.heap.size w wr) (fun i _ _ => L.length - (intOf i).toNat)
 case atStart => exact ⟨0, _, Nat.zero_le _, rfl, ⟨by simp, by simp, by simp, by simp, fun h => by omega⟩, hW2, hg2, hB2⟩
 case round =>
  obtain ⟨j, d, hj, rfl, hF, hW, hgr, hBr⟩ := hrel
  clear hW2 hg2 hB2
  by_cases hlt : j < L.length
  ·have hoj := HLo.out L[j] (List.getElem_mem hlt)
   have Hj0 : Hid (j = 0 → L[j].k = 1 ∧ L[j].a = 1) := fun e => by
    subst e
    have h9 := HL0.out
    rw [List.getElem?_eq_getElem hlt] at h9
    injection h9 with h9
    rw [h9]; exact ⟨rfl, rfl⟩
   have hra : Hid (World.rangeAt wr g2 (j * 19) L[j].cells) := show World.rangeAt wr g2 (j * 19) L[j].cells from fun i u hu => by
    have hi19 : i < 19 := by have := (List.getElem?_eq_some_iff.1 hu).1; simpa [Opd.cells] using this
    rw [blk_cell hgr, Hat.out j hlt i hi19]
    exact hu
   have hkc : wr.cell? (A6 g2 (j * 19)) = some (I6 L[j].k) := by
    have := Hat.out j hlt 0 (by decide)
    rw [blk_cell hgr]
    simpa [Opd.cells] using this
   generalize L[j] = o at *
   have q0 : (0 : Int) ≤ (j : Int) := by omega
   have q1 : (j : Int) < (L.length : Int) := by omega
   have Hskip : Hid (o.k < 1 ∨ hi < o.k → 0 < j) := fun h9 => by
    by_cases e : j = 0
    ·obtain ⟨h1, _⟩ := Hj0.out e
     omega
    ·omega
   by_cases hlo : o.k < 1
   ·have hd : decide (o.k < 1) = true := by simpa using hlo
    have hF' : Few d (j + 1) := ⟨by have := hF.ps; omega, by have := hF.N; omega, by have := hF.V; omega, by have := hF.P; omega, fun _ => hF.some (Hskip.out (.inl hlo))⟩
    go_wp2_with fail
    go_roundw
    case rel => exact ⟨j + 1, d, by omega, by go_num, hF', hW, hgr, hBr⟩
    case measure => simp [intOf]; omega
   have hd : decide (o.k < 1) = false := by simpa using hlo
   by_cases hhi : hi < o.k
   ·have hd2 : decide (hi < o.k) = true := by simpa using hhi
    have hF' : Few d (j + 1) := ⟨by have := hF.ps; omega, by have := hF.N; omega, by have := hF.V; omega, by have := hF.P; omega, fun _ => hF.some (Hskip.out (.inr hhi))⟩
    go_wp2_with fail
    go_roundw
    case rel => exact ⟨j + 1, d, by omega, by go_num, hF', hW, hgr, hBr⟩
    case measure => simp [intOf]; omega
   have hd2 : decide (hi < o.k) = false := by simpa using hhi
   have hi19 : Hid ((Tryz.prog.info? 38).map (·.size) = some o.cells.length) := show _ = _ from (by rw [hi0]; simp [hz1, Opd.cells])
   have hor := hoj.below hBr
   have hgwb : g2 ≠ w.heap.size := by omega
   have hSt : Calls Tryz.prog 7 #[P6 w.heap.size, .agg o.cells.toArray] wr fun e w' => e = .returned (.bool true) ∧ ∃ d', WAt w' w.heap.size H d' ∧ Few d' (j + 1) ∧ Keeps (fun k => k = w.heap.size ∨ H ≤ k) wr w' := by
    have f1 := hF.ps
    have f2 := hF.N
    have f3 := hF.V
    have f4 := hF.P
    by_cases e : j = 0
    ·obtain ⟨h1, h2⟩ := Hj0.out e
     refine (step_first hW o hor.slice h1 h2 (by omega)).mono ?_
     rintro e w' ⟨rfl, d', g1, g2, g3, g4, g5, g6⟩
     exact ⟨rfl, d', g1, ⟨by omega, by rw [g3]; omega, by rw [g4]; omega, by rw [g5]; omega, fun _ => by omega⟩, g6⟩
    ·have f5 := hF.some (by omega)
     refine (HS.out wr w.heap.size H d o hW hBr hor (by omega) (by omega) (by omega) (by omega) (by omega) (by omega)).mono ?_
     rintro e w' ⟨rfl, d', g1, g2, g3, g4, g5, g6, g7⟩
     exact ⟨rfl, d', g1, ⟨by omega, by omega, by omega, by omega, fun _ => by omega⟩, g7⟩
   clear hF
   go_upto_region 11 with (fail)
   go_wp2_with (refine wpList_load_mid rfl 38 (.tmp 55) rfl g2 (j * 19) rfl o.cells _ hra.out Tryz.underlying38 rfl hi19.out ?_)
   refine hSt.mono ?_
   rintro e w3 ⟨rfl, d3, hW3, hF3, hK3⟩
   have hg3 := blk_keeps hK3 hgr (by omega)
   have hB3 : Below w.heap.size w w3 := hBr.trans ⟨hK3.os, hK3.tape, hK3.output, hK3.size, fun k hkk => hK3.block k (by have := hBr.size; omega) (by omega)⟩
   clear hra hkc hW hgr hBr hK3 hor hi19 hSt
   obtain ⟨la, lc, hle⟩ : ∃ a c, d3.wl = .slice a d3.ps.length c := by
    rcases hW3.prs.2 with ⟨h1, h0⟩ | ⟨g, cap, cur, h1, _⟩
    ·have := hF3.some (by omega); omega
    ·exact ⟨_, _, h1⟩
   have hc0 := (blk_cell hW3.blk 0).trans (show _ = some (.slice la d3.ps.length lc) by rw [hle]; rfl)
   have qz : ((d3.ps.length : Int) == 0) = false := by rw [beq_eq_false_iff_ne]; have := hF3.some (by omega); omega
   clear hle
   have hLk := looks_of' hW3 (by have := hF3.N; omega) (by have := hF3.V; omega) (by have := hF3.P; omega)
   go_wp2_with fail
   refine hLk.mono ?_
   rintro e w4 ⟨rfl, hW4, hB4⟩
   clear hLk hc0 qz
   have hg4 := blk_below hB4 hg3
   have hBw4 := hB3.trans (hB4.mono hB3.size)
   clear hW3 hg3 hB3 hB4
   go_wp2_with fail
   go_roundw
   case rel => exact ⟨j + 1, d3, by omega, by go_num, hF3, hW4, hg4, hBw4⟩
   case measure => simp [intOf]; omega
  ·have q1 : ¬ (j : Int) < (L.length : Int) := by omega
   go_wp2_with fail
   go_ret
   exact ⟨rfl, hBr⟩
end
end Go.Proofs.YtnnhnekfokbooaaGreatDoor
