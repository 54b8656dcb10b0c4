/- The law's play of a script, from the first kind on. What a script that comes in looks like in memory: posts, votes, messages, steps. (Joined by merge.py.) -/
import Derived.Test.YtnnhnekfokbooaaGreatDoorVo49
import Derived.Test.YtnnhnekfokbooaaGreatDoorVo41
import Derived.ProofKit
import Derived.OpenShut
import Derived.ChangeArms
import Derived.Lib.SmallJoins
namespace Go.Proofs.YtnnhnekfokbooaaGreatDoor
open Go.RowKit
set_option linter.unusedSimpArgs false
set_option linter.unusedVariables false

def opa : Opd := ⟨1, 0, 1, 0, ⟨#[]⟩, ⟨0, 0, 0, ⟨#[]⟩⟩, ⟨0, 0, 0, 0, 0, ⟨0, 0, 0, ⟨#[]⟩⟩, []⟩, .slice none 0 0⟩
def opb : Opd := ⟨2, 0, 0, 0, ⟨#[]⟩, ⟨0, 0, 0, ⟨#[]⟩⟩, ⟨0, 0, 0, 0, 0, ⟨0, 0, 0, ⟨#[]⟩⟩, []⟩, .slice none 0 0⟩
def opc : Opd := ⟨4, 0, 0, 0, ⟨#[]⟩, ⟨0, 0, 0, ⟨#[]⟩⟩, ⟨0, 0, 0, 0, 0, ⟨0, 0, 0, ⟨#[]⟩⟩, []⟩, .slice none 0 0⟩
theorem opa_ok (w : World) : opa.ok w := ⟨rvat_nil w, by decide, by decide, by decide, by decide⟩
theorem opb_ok (w : World) : opb.ok w := ⟨rvat_nil w, by decide, by decide, by decide, by decide⟩
theorem opc_ok (w : World) : opc.ok w := ⟨rvat_nil w, by decide, by decide, by decide, by decide⟩
/-- What the law's world is behind j steps. -/
structure Few (d : Wd) (j : Nat) : Prop where
 ps : d.ps.length ≤ j
 N : d.N.length ≤ 4 * j
 V : d.V.length ≤ 800 * j
 P : d.P.length ≤ 4 * j
 some : 0 < j → 0 < d.ps.length
theorem looks_of' {w : World} {wb H : Nat} {d : Wd} (h : WAt w wb H d) (lN : d.N.length ≤ 5000000000000) (lV : d.V.length ≤ 5000000000000) (lP : d.P.length ≤ 5000000000000) :
  Calls Tryz.prog 8 #[.pointer (some ⟨wb, 0, none⟩)] w fun e w' => e = .returned (.bool true) ∧ WAt w' wb H d ∧ Below w.heap.size w w' := by
 refine (looks_all wb H d.wl d.wn d.wv d.wp d.N d.V d.P w h.blk h.nets h.votes h.posts lN lV lP).mono ?_
 rintro e w' ⟨rfl, hB⟩
 exact ⟨rfl, h.below hB, hB⟩
set_option maxHeartbeats 8000000 in
set_option maxRecDepth 100000 in
theorem plays_from (hi : Int) (hhi1 : 1 ≤ hi) (v : Value) (l : List Opd) (w : World) (hv : SAt w v l) (hlen : l.length ≤ 1048576)
  (hS : ∀ (W : World) (wb H : Nat) (d : Wd) (o : Opd), WAt W wb H d → Below w.heap.size w W → o.ok W → 1 ≤ o.k → o.k ≤ hi → d.ps.length ≤ 1000000000 → d.N.length ≤ 4000000000000 → d.V.length ≤ 4000000000000 → d.P.length ≤ 4000000000000 →
   Calls Tryz.prog 7 #[.pointer (some ⟨wb, 0, none⟩), .agg o.cells.toArray] W fun e w' => e = .returned (.bool true) ∧ WTo W wb H d w') :
  Calls Tryz.prog 6 #[v, .int .i64 1, .int .i64 hi] w fun e w' => e = .returned (.bool true) ∧ Below w.heap.size w w' := by
 obtain ⟨i0, hi0, hz0, hz1, hz2⟩ := info_parts Tryz.infoOp
 obtain ⟨sa, sc, hve, hsf⟩ := hv.form
 subst hve
 have h12 : ∀ u ∈ opa.cells ++ (opb.cells ++ opc.cells), u.oneCell' = true := fun u hu => by
  rw [List.mem_append, List.mem_append] at hu
  rcases hu with hu | hu | hu
  ·exact Opd.one (opa_ok w) u hu
  ·exact Opd.one (opb_ok w) u hu
  ·exact Opd.one (opc_ok w) u hu
 have HS := show Hid _ from hS
 clear hS
 go_enter Tryz.func6, Tryz.ntmps6
 go_upto_region 6 with (at_builtin; refine wpList_append_lies _ rfl (.tmp 15) (.tmp 19) 22 rfl (w.heap.size + 1) 38 i0 _ 19 192 Tryz.underlying22 hi0 hz0 hz1 hz2 rfl (by decide) (.slice none 0 0) 0 [] rfl (World.ownsRow_nil _ _ _ _) _ 3 3 (opa.cells ++ (opb.cells ++ opc.cells)) rfl rfl (news_new _ _ (by simp) _ _) h12 (by decide) (by decide) (by decide) (by simp) _ rfl ?_; intro g1 cap1 w1 hown1 hgr1 hat1 hlt1)
 have hwb1 := blk_grown hgr1 (blk_alloc (blk_new w _) _) (by simp [Value.ownBlock])
 have hB1 : Below w.heap.size w w1 := (((Below.refl _ w).alloc (Nat.le_refl _) _).alloc (by simp) _).trans ⟨hgr1.os, hgr1.tape, hgr1.output, hgr1.size, fun k hk => hgr1.block k (by simp; omega) (by simp [Value.ownBlock])⟩
 have hv1 : SAt w1 (.slice sa l.length sc) l := by
  refine ⟨hv.len, fun o ho => (hv.each o ho).below hB1, sa, sc, rfl, fun hne => ?_⟩
  obtain ⟨g, off, e, hg, hc⟩ := hsf hne
  refine ⟨g, off, e, by have := hB1.size; omega, fun j u hj => ?_⟩
  rw [hB1.cell (p := ⟨g, off + j, none⟩) hg]
  exact hc j u hj
 have hown1' : w1.ownsRow (w.heap.size + 1) 38 19 (.slice (some ⟨g1, 0, none⟩) 3 cap1) 3 (opa.cells ++ (opb.cells ++ opc.cells)) := by simpa using hown1
 clear hown1 hgr1 hat1
 have hg1 := (World.ownsRow.lt hown1' g1 rfl).1
 go_upto_region 7 with (at_builtin; refine wpList_append_steps 3 (by decide) (by decide) rfl (.tmp 27) (.tmp 28) 22 rfl (w.heap.size + 1) 38 i0 _ Tryz.underlying22 hi0 hz0 hz1 hz2 rfl g1 cap1 rfl (opa.cells ++ (opb.cells ++ opc.cells)) hown1' (.slice sa l.length sc) l rfl hv1 (by omega) ?_; intro g2 cap2 w2 hown2 hgr2)
 have hwb2 := blk_grown hgr2 hwb1 (by simp; omega)
 have hB2 : Below w.heap.size w w2 := hB1.trans ⟨hgr2.os, hgr2.tape, hgr2.output, hgr2.size, fun k hk => hgr2.block k (by have := hB1.size; omega) (by simp; omega)⟩
 clear hown1' hgr2 hwb1 hv1 h12
 obtain ⟨L, hLd⟩ : ∃ L, L = opa :: opb :: opc :: l := ⟨_, rfl⟩
 have hLl : L.length = 3 + l.length := by rw [hLd]; simp; omega
 have hLo : ∀ o ∈ L, o.ok w := by
  rw [hLd]
  intro o ho
  rcases List.mem_cons.1 ho with rfl | ho
  ·exact opa_ok w
  ·rcases List.mem_cons.1 ho with rfl | ho
   ·exact opb_ok w
   ·rcases List.mem_cons.1 ho with rfl | ho
    ·exact opc_ok w
    ·exact hv.each o ho
 have hL0 : L[0]? = some opa := by rw [hLd]; rfl
 have hLc : (opa.cells ++ (opb.cells ++ opc.cells)) ++ ocs l = ocs L := by rw [hLd]; simp [ocs]
 rw [hLc, ← hLl] at hown2
 obtain ⟨cur, hg2, hg2w, hrow⟩ : ∃ cur : Array Value, w2.heap[g2]? = some (.cells cur 38 (0, 0)) ∧ w.heap.size + 1 ≤ g2 ∧ cur.toList.take (L.length * 19) = ocs L := by
  rcases hown2.2 with ⟨h1, _⟩ | ⟨g, cap', cur, h1, h2, h3, _, _, _, h4⟩
  ·cases h1
  ·cases h1; exact ⟨cur, h3, h2, h4⟩
 have Hat : Hid (∀ j (hj : j < L.length) i (hi : i < 19), cur[j * 19 + i]? = L[j].cells[i]?) := fun j hj i hi => by
  rw [← ocs_at L j hj i hi, ← hrow, List.getElem?_take, if_pos (by omega), Array.getElem?_toList]
 have hN : L.length ≤ 1048579 := by rw [hLl]; omega
 have hW2 : WAt w2 w.heap.size w2.heap.size ⟨.slice none 0 0, .slice none 0 0, .slice none 0 0, .slice none 0 0, [], [], [], []⟩ := ⟨hwb2, World.ownsRow_nil _ _ _ _, ⟨World.ownsRow_nil _ _ _ _, fun k hk => by simp at hk, rfl⟩, ⟨World.ownsRow_nil _ _ _ _, fun k hk => by simp at hk, rfl⟩, ⟨World.ownsRow_nil _ _ _ _, fun k hk => by simp at hk, rfl⟩, ⟨fun i hi => by simp at hi, fun i j hi => by simp at hi⟩, ⟨trivial, by have := lt_of_block hwb2; omega, Nat.le_refl _⟩, fun k hk => by obtain ⟨i, hi, _⟩ := hk; simp at hi, fun k hk => by simp at hk⟩
 have hg2l := lt_of_block hg2
 have HLo : Hid (∀ o ∈ L, o.ok w) := hLo
 have HL0 : Hid (L[0]? = some opa) := hL0
 generalize w2.heap.size = H at *
 rw [← hLl]
 clear hwb2 hrow hown2 hLc hLd hLl hLo hL0
 go_wp2_with fail
 go_loopw [9, 10] (fun i q wr => ∃ (j : Nat) (d : Wd), j ≤ L.length ∧ i = .int .i64 j ∧ Few d j ∧ WAt wr w.heap.size H d ∧ wr.heap[g2]? = some (.cells cur 38 (0, 0)) ∧ Below w.heap.size w wr) (fun i _ _ => L.length - (intOf i).toNat)
 case atStart => exact ⟨0, _, Nat.zero_le _, rfl, ⟨by simp, by simp, by simp, by simp, fun h => by omega⟩, hW2, hg2, hB2⟩
 case round =>
  obtain ⟨j, d, hj, rfl, hF, hW, hgr, hBr⟩ := hrel
  clear hW2 hg2 hB2
  by_cases hlt : j < L.length
  ·have hoj := HLo.out L[j] (List.getElem_mem hlt)
   have Hj0 : Hid (j = 0 → L[j].k = 1 ∧ L[j].a = 1) := fun e => by
    subst e
    have h9 := HL0.out
    rw [List.getElem?_eq_getElem hlt] at h9
    injection h9 with h9
    rw [h9]; exact ⟨rfl, rfl⟩
   have hra : Hid (World.rangeAt wr g2 (j * 19) L[j].cells) := show World.rangeAt wr g2 (j * 19) L[j].cells from fun i u hu => by
    have hi19 : i < 19 := by have := (List.getElem?_eq_some_iff.1 hu).1; simpa [Opd.cells] using this
    rw [blk_cell hgr, Hat.out j hlt i hi19]
    exact hu
   have hkc : wr.cell? ⟨g2, j * 19, none⟩ = some (.int .i64 L[j].k) := by
    have := Hat.out j hlt 0 (by decide)
    rw [blk_cell hgr]
    simpa [Opd.cells] using this
   generalize L[j] = o at *
   have q0 : (0 : Int) ≤ (j : Int) := by omega
   have q1 : (j : Int) < (L.length : Int) := by omega
   have Hskip : Hid (o.k < 1 ∨ hi < o.k → 0 < j) := fun h9 => by
    by_cases e : j = 0
    ·obtain ⟨h1, _⟩ := Hj0.out e
     omega
    ·omega
   by_cases hlo : o.k < 1
   ·have hd : decide (o.k < 1) = true := by simpa using hlo
    have hF' : Few d (j + 1) := ⟨by have := hF.ps; omega, by have := hF.N; omega, by have := hF.V; omega, by have := hF.P; omega, fun _ => hF.some (Hskip.out (.inl hlo))⟩
    go_wp2_with fail
    go_roundw
    case rel => exact ⟨j + 1, d, by omega, by go_num, hF', hW, hgr, hBr⟩
    case measure => simp [intOf]; omega
   have hd : decide (o.k < 1) = false := by simpa using hlo
   by_cases hhi : hi < o.k
   ·have hd2 : decide (hi < o.k) = true := by simpa using hhi
    have hF' : Few d (j + 1) := ⟨by have := hF.ps; omega, by have := hF.N; omega, by have := hF.V; omega, by have := hF.P; omega, fun _ => hF.some (Hskip.out (.inr hhi))⟩
    go_wp2_with fail
    go_roundw
    case rel => exact ⟨j + 1, d, by omega, by go_num, hF', hW, hgr, hBr⟩
    case measure => simp [intOf]; omega
   have hd2 : decide (hi < o.k) = false := by simpa using hhi
   have hi19 : Hid ((Tryz.prog.info? 38).map (·.size) = some o.cells.length) := show _ = _ from (by rw [hi0]; simp [hz1, Opd.cells])
   have hor := hoj.below hBr
   have hgwb : g2 ≠ w.heap.size := by omega
   have hSt : Calls Tryz.prog 7 #[.pointer (some ⟨w.heap.size, 0, none⟩), .agg o.cells.toArray] wr fun e w' => e = .returned (.bool true) ∧ ∃ d', WAt w' w.heap.size H d' ∧ Few d' (j + 1) ∧ Keeps (fun k => k = w.heap.size ∨ H ≤ k) wr w' := by
    have f1 := hF.ps
    have f2 := hF.N
    have f3 := hF.V
    have f4 := hF.P
    by_cases e : j = 0
    ·obtain ⟨h1, h2⟩ := Hj0.out e
     refine (step_first hW o hor.slice h1 h2 (by omega)).mono ?_
     rintro e w' ⟨rfl, d', g1, g2, g3, g4, g5, g6⟩
     exact ⟨rfl, d', g1, ⟨by omega, by rw [g3]; omega, by rw [g4]; omega, by rw [g5]; omega, fun _ => by omega⟩, g6⟩
    ·have f5 := hF.some (by omega)
     refine (HS.out wr w.heap.size H d o hW hBr hor (by omega) (by omega) (by omega) (by omega) (by omega) (by omega)).mono ?_
     rintro e w' ⟨rfl, d', g1, g2, g3, g4, g5, g6, g7⟩
     exact ⟨rfl, d', g1, ⟨by omega, by omega, by omega, by omega, fun _ => by omega⟩, g7⟩
   clear hF
   go_upto_region 11 with (fail)
   go_wp2_with (refine wpList_load_mid rfl 38 (.tmp 55) rfl g2 (j * 19) rfl o.cells _ hra.out Tryz.underlying38 rfl hi19.out ?_)
   refine hSt.mono ?_
   rintro e w3 ⟨rfl, d3, hW3, hF3, hK3⟩
   have hg3 := blk_keeps hK3 hgr (by omega)
   have hB3 : Below w.heap.size w w3 := hBr.trans ⟨hK3.os, hK3.tape, hK3.output, hK3.size, fun k hkk => hK3.block k (by have := hBr.size; omega) (by omega)⟩
   clear hra hkc hW hgr hBr hK3 hor hi19 hSt
   obtain ⟨la, lc, hle⟩ : ∃ a c, d3.wl = .slice a d3.ps.length c := by
    rcases hW3.prs.2 with ⟨h1, h0⟩ | ⟨g, cap, cur, h1, _⟩
    ·have := hF3.some (by omega); omega
    ·exact ⟨_, _, h1⟩
   have hc0 := (blk_cell hW3.blk 0).trans (show _ = some (.slice la d3.ps.length lc) by rw [hle]; rfl)
   have qz : ((d3.ps.length : Int) == 0) = false := by rw [beq_eq_false_iff_ne]; have := hF3.some (by omega); omega
   clear hle
   have hLk := looks_of' hW3 (by have := hF3.N; omega) (by have := hF3.V; omega) (by have := hF3.P; omega)
   go_wp2_with fail
   refine hLk.mono ?_
   rintro e w4 ⟨rfl, hW4, hB4⟩
   clear hLk hc0 qz
   have hg4 := blk_below hB4 hg3
   have hBw4 := hB3.trans (hB4.mono hB3.size)
   clear hW3 hg3 hB3 hB4
   go_wp2_with fail
   go_roundw
   case rel => exact ⟨j + 1, d3, by omega, by go_num, hF3, hW4, hg4, hBw4⟩
   case measure => simp [intOf]; omega
  ·have q1 : ¬ (j : Int) < (L.length : Int) := by omega
   go_wp2_with fail
   go_ret
   exact ⟨rfl, hBr⟩
end Go.Proofs.YtnnhnekfokbooaaGreatDoor

namespace Go.Proofs.YtnnhnekfokbooaaGreatDoor
open Go.ChangeShapes Go.WideShapes Go.ChangeAt Go.RowKit Go.Joins
set_option linter.unusedSimpArgs false
set_option linter.unusedVariables false

theorem i64_in {n : Int} (h : (Lit.int .i64 n).wf = true) : -9223372036854775808 ≤ n ∧ n ≤ 9223372036854775807 := by
 simp [Lit.wf, IntKind.min, IntKind.max, IntKind.signed, IntKind.bits] at h
 exact ⟨by omega, by omega⟩
/-- Of what is counted there is at least one a value: a list is no longer than its bulk. -/
theorem bulk_pos {H : Type} (d : DataW H) : 0 < Rows.uptoBulk d := by
 cases d with
 | lit l => cases l <;> simp [Rows.uptoBulk]
 | _ => simp [Rows.uptoBulk]
theorem bulk_list {H : Type} : ∀ (l : List (DataW H)), l.length ≤ Rows.uptoBulkAll l
 | [] => by simp [Rows.uptoBulkAll]
 | d :: l => by
  have h1 := bulk_pos d
  have h2 := bulk_list l
  simp only [Rows.uptoBulkAll, List.length_cons]
  omega
theorem bulk_slice {H : Type} (el sp : List (DataW H)) : el.length ≤ Rows.uptoBulk (.slice el sp) := by
 have h1 := bulk_list el
 simp only [Rows.uptoBulk]
 omega
theorem cells_int : Tryz.prog.cellsOf 3 = 1 := by kernel_rfl
theorem cells_string : Tryz.prog.cellsOf 9 = 1 := by kernel_rfl
theorem cells_post : Tryz.prog.cellsOf 33 = 4 := by kernel_rfl
theorem cells_vote : Tryz.prog.cellsOf 53 = 6 := by kernel_rfl
theorem cells_votes : Tryz.prog.cellsOf 34 = 1 := by kernel_rfl
theorem cells_message : Tryz.prog.cellsOf 36 = 10 := by kernel_rfl
theorem cells_op : Tryz.prog.cellsOf 38 = 19 := by kernel_rfl
theorem bytes_vote : Tryz.prog.bytesOf 53 = 56 := by kernel_rfl
theorem bytes_op : Tryz.prog.bytesOf 38 = 192 := by kernel_rfl

theorem seg (L : List Value) (n k : Nat) : L.drop n = (L.drop n).take k ++ L.drop (n + k) := by
 have := (List.take_append_drop k (L.drop n)).symm
 rw [List.drop_drop] at this
 exact this
theorem exists_list {α : Type} (P : Nat → α → Prop) : ∀ (n : Nat), (∀ i, i < n → ∃ x, P i x) → ∃ l : List α, l.length = n ∧ ∀ i (hi : i < l.length), P i l[i]
 | 0, _ => ⟨[], rfl, fun i hi => by simp at hi⟩
 | n + 1, h => by
  obtain ⟨l, hl, hp⟩ := exists_list P n (fun i hi => h i (by omega))
  obtain ⟨x, hx⟩ := h n (by omega)
  refine ⟨l ++ [x], by simp [hl], fun i hi => ?_⟩
  by_cases hlt : i < l.length
  ·rw [List.getElem_append_left hlt]; exact hp i hlt
  ·obtain rfl : i = n := by simp [hl] at hi; omega
   have e : (l ++ [x])[i]'hi = x := by rw [List.getElem_append_right (by omega)]; simp
   rw [e]; exact hx
theorem mapM_cells {w : World} {a : Addr} : ∀ (n : Nat) (cs : List Value), (List.range n).mapM (fun i => w.cell? (a.add i)) = some cs → cs.length = n ∧ ∀ j u, cs[j]? = some u → w.cell? (a.add j) = some u := by
 intro n cs h
 have hl : cs.length = n := by simpa using mapM_some_length h
 refine ⟨hl, fun j u hu => ?_⟩
 have hj : j < n := by have := (List.getElem?_eq_some_iff.1 hu).1; omega
 have := mapM_some_get h j j (by simp [hj])
 rw [← hu, ← this]

section
variable {H : Type} {enc : TypeId × Value → H} {w : World} {base : Nat} {spare : Nat → Bool} {held : Bool} {fuel : Nat}
theorem cells_of {a : Addr} {n : Nat} {cs : List Value} (h : w.cells? base a n = some cs) : cs.length = n ∧ ∀ j u, cs[j]? = some u → w.cell? (a.add j) = some u := by
 unfold World.cells? at h
 split at h
 ·exact mapM_cells n cs h
 ·cases h
set_option maxRecDepth 100000 in
theorem post_open {cs : List Value} {x : DataW H × List MemPlace} (h : DataW.trod enc Tryz.prog w base spare held fuel 33 cs = some x) : ∃ p : Pst, cs = p.cells := by
 obtain ⟨xs, n, rfl, rfl, hl, hlen, hf⟩ := DataW.trod_struct Tryz.underlying33 h
 rw [cells_post] at hl
 match xs, hlen with
 | [y0, y1, y2, y3], _ =>
  have g0 : DataW.trod enc Tryz.prog w base spare held n 3 ((cs.drop 0).take (Tryz.prog.cellsOf 3)) = some y0 := hf 0 _ rfl
  rw [cells_int] at g0
  have g1 : DataW.trod enc Tryz.prog w base spare held n 3 ((cs.drop 1).take (Tryz.prog.cellsOf 3)) = some y1 := hf 1 _ rfl
  rw [cells_int] at g1
  have g2 : DataW.trod enc Tryz.prog w base spare held n 3 ((cs.drop 2).take (Tryz.prog.cellsOf 3)) = some y2 := hf 2 _ rfl
  rw [cells_int] at g2
  have g3 : DataW.trod enc Tryz.prog w base spare held n 9 ((cs.drop 3).take (Tryz.prog.cellsOf 9)) = some y3 := hf 3 _ rfl
  rw [cells_string] at g3
  obtain ⟨c, e0, _, _⟩ := DataW.trod_int Tryz.underlying3 g0
  obtain ⟨q, e1, _, _⟩ := DataW.trod_int Tryz.underlying3 g1
  obtain ⟨k, e2, _, _⟩ := DataW.trod_int Tryz.underlying3 g2
  obtain ⟨t, e3, _, _⟩ := DataW.trod_string Tryz.underlying9 g3
  refine ⟨⟨c, q, k, t⟩, ?_⟩
  have z : cs.drop 4 = [] := List.drop_of_length_le (by omega)
  have f0 : cs = (cs.drop 0).take 1 ++ ((cs.drop 1).take 1 ++ ((cs.drop 2).take 1 ++ ((cs.drop 3).take 1 ++ cs.drop 4))) := by
   have s0 : cs.drop 0 = (cs.drop 0).take 1 ++ cs.drop 1 := seg cs 0 1
   have s1 : cs.drop 1 = (cs.drop 1).take 1 ++ cs.drop 2 := seg cs 1 1
   have s2 : cs.drop 2 = (cs.drop 2).take 1 ++ cs.drop 3 := seg cs 2 1
   have s3 : cs.drop 3 = (cs.drop 3).take 1 ++ cs.drop 4 := seg cs 3 1
   rw [← s3, ← s2, ← s1, ← s0]
   rfl
  rw [z, e0, e1, e2, e3] at f0
  simpa [Pst.cells] using f0
set_option maxRecDepth 100000 in
theorem vote_open {cs : List Value} {x : DataW H × List MemPlace} (h : DataW.trod enc Tryz.prog w base spare held fuel 53 cs = some x) : ∃ v : Vt, cs = v.cells := by
 obtain ⟨xs, n, rfl, rfl, hl, hlen, hf⟩ := DataW.trod_struct Tryz.underlying53 h
 rw [cells_vote] at hl
 match xs, hlen with
 | [y0, y1, y2], _ =>
  have g0 : DataW.trod enc Tryz.prog w base spare held n 3 ((cs.drop 0).take (Tryz.prog.cellsOf 3)) = some y0 := hf 0 _ rfl
  rw [cells_int] at g0
  have g1 : DataW.trod enc Tryz.prog w base spare held n 3 ((cs.drop 1).take (Tryz.prog.cellsOf 3)) = some y1 := hf 1 _ rfl
  rw [cells_int] at g1
  have g2 : DataW.trod enc Tryz.prog w base spare held n 33 ((cs.drop 2).take (Tryz.prog.cellsOf 33)) = some y2 := hf 2 _ rfl
  rw [cells_post] at g2
  obtain ⟨c, e0, _, _⟩ := DataW.trod_int Tryz.underlying3 g0
  obtain ⟨q, e1, _, _⟩ := DataW.trod_int Tryz.underlying3 g1
  obtain ⟨p, e2⟩ := post_open g2
  refine ⟨⟨c, q, p⟩, ?_⟩
  have z : cs.drop 6 = [] := List.drop_of_length_le (by omega)
  have f0 : cs = (cs.drop 0).take 1 ++ ((cs.drop 1).take 1 ++ ((cs.drop 2).take 4 ++ cs.drop 6)) := by
   have s0 : cs.drop 0 = (cs.drop 0).take 1 ++ cs.drop 1 := seg cs 0 1
   have s1 : cs.drop 1 = (cs.drop 1).take 1 ++ cs.drop 2 := seg cs 1 1
   have s2 : cs.drop 2 = (cs.drop 2).take 4 ++ cs.drop 6 := seg cs 2 4
   rw [← s2, ← s1, ← s0]
   rfl
  rw [z, e0, e1, e2] at f0
  simpa [Vt.cells, Pst.cells] using f0
/-- A slice's address is plain where it has a cell. -/
theorem addr_plain {a : Addr} {u : Value} {k : Nat} (hk : k = 0) (h : w.cell? (a.add k) = some u) : ∃ b off, a = ⟨b, off, none⟩ := by
 subst hk
 obtain ⟨b, off, spot⟩ := a
 have hspot : spot = none := by simpa [Addr.add] using World.cell?_spot h
 subst hspot
 exact ⟨b, off, rfl⟩
set_option maxRecDepth 100000 in
theorem votes_open {v : Value} {x : DataW H × List MemPlace} (h : DataW.trod enc Tryz.prog w base spare held fuel 34 [v] = some x) (hw : (x.1.weights Tryz.prog 34).all (· ≤ reachBytes) = true) :
  ∃ l : List Vt, VAt w v l ∧ l.length * 56 ≤ reachBytes := by
 rcases DataW.trod_slice Tryz.underlying34 h with ⟨hcs, _⟩ | ⟨a, len, cap, elems, rest, n, _, hcs, rfl, _, hlc, hcm, hel, hget, _, _⟩
 ·obtain rfl : v = .slice none 0 0 := by simpa using hcs
  exact ⟨[], rvat_nil w, by simp⟩
 ·obtain rfl : v = .slice (some a) len cap := by simpa using hcs
  simp only [DataW.weights, Tryz.underlying34, List.all_cons, Bool.and_eq_true, decide_eq_true_eq, List.length_map, bytes_vote] at hw
  obtain ⟨l, hll, hlp⟩ := exists_list (fun i (x : Vt) => ∀ j u, x.cells[j]? = some u → w.cell? (a.add (i * 6 + j)) = some u) len (fun i hi => by
   have hg := hget i hi
   rw [List.getElem?_eq_getElem (by omega), Option.bind_eq_some_iff, cells_vote] at hg
   obtain ⟨cs, hc1, hc2⟩ := hg
   obtain ⟨y, rfl⟩ := vote_open hc2
   refine ⟨y, fun j u hu => ?_⟩
   have := (cells_of hc1).2 j u hu
   rwa [Addr.add_add] at this)
  have h6 : l.length * 56 ≤ reachBytes := by rw [hll, ← hel]; have := hw.1; omega
  have h7 : l.length ≤ 4611686018427387903 := by unfold reachBytes at h6; omega
  refine ⟨l, ⟨h7, some a, cap, by rw [hll], fun hne => ?_⟩, h6⟩
  have hpos : 0 < l.length := List.length_pos_iff.2 hne
  obtain ⟨b, off, rfl⟩ := addr_plain rfl (hlp 0 hpos 0 _ rfl)
  refine ⟨b, off, rfl, ?_, fun j u hu => ?_⟩
  ·have := hlp 0 hpos 0 _ rfl
   exact World.block_lt_of_cell? w _ this
  ·have hj : j < l.length * 6 := by have := (List.getElem?_eq_some_iff.1 hu).1; rw [vcells_length] at this; exact this
   have e : j = j / 6 * 6 + j % 6 := by omega
   have hj6 : j / 6 < l.length := by omega
   rw [e, vcells_at l (j / 6) hj6 (j % 6) (by omega)] at hu
   have := hlp (j / 6) hj6 (j % 6) u hu
   rw [Addr.add_mid, ← e] at this
   exact this
set_option maxRecDepth 100000 in
theorem message_open {cs : List Value} {x : DataW H × List MemPlace} (h : DataW.trod enc Tryz.prog w base spare held fuel 36 cs = some x) (hw : (x.1.weights Tryz.prog 36).all (· ≤ reachBytes) = true) :
  ∃ (m : Ms) (v : Value), cs = (mval m v).toList ∧ VAt w v m.a ∧ m.a.length * 56 ≤ reachBytes := by
 obtain ⟨xs, n, rfl, rfl, hl, hlen, hf⟩ := DataW.trod_struct Tryz.underlying36 h
 rw [cells_message] at hl
 match xs, hlen with
 | [y0, y1, y2, y3, y4, y5, y6], _ =>
  have g0 : DataW.trod enc Tryz.prog w base spare held n 3 ((cs.drop 0).take (Tryz.prog.cellsOf 3)) = some y0 := hf 0 _ rfl
  rw [cells_int] at g0
  have g1 : DataW.trod enc Tryz.prog w base spare held n 3 ((cs.drop 1).take (Tryz.prog.cellsOf 3)) = some y1 := hf 1 _ rfl
  rw [cells_int] at g1
  have g2 : DataW.trod enc Tryz.prog w base spare held n 3 ((cs.drop 2).take (Tryz.prog.cellsOf 3)) = some y2 := hf 2 _ rfl
  rw [cells_int] at g2
  have g3 : DataW.trod enc Tryz.prog w base spare held n 3 ((cs.drop 3).take (Tryz.prog.cellsOf 3)) = some y3 := hf 3 _ rfl
  rw [cells_int] at g3
  have g4 : DataW.trod enc Tryz.prog w base spare held n 3 ((cs.drop 4).take (Tryz.prog.cellsOf 3)) = some y4 := hf 4 _ rfl
  rw [cells_int] at g4
  have g5 : DataW.trod enc Tryz.prog w base spare held n 33 ((cs.drop 5).take (Tryz.prog.cellsOf 33)) = some y5 := hf 5 _ rfl
  rw [cells_post] at g5
  have g6 : DataW.trod enc Tryz.prog w base spare held n 34 ((cs.drop 9).take (Tryz.prog.cellsOf 34)) = some y6 := hf 6 _ rfl
  rw [cells_votes] at g6
  simp only [DataW.weights, Tryz.underlying36, List.map_cons, List.map_nil, DataW.weightsEach, List.all_append, Bool.and_eq_true] at hw
  obtain ⟨c, e0, _, _⟩ := DataW.trod_int Tryz.underlying3 g0
  obtain ⟨f, e1, _, _⟩ := DataW.trod_int Tryz.underlying3 g1
  obtain ⟨t, e2, _, _⟩ := DataW.trod_int Tryz.underlying3 g2
  obtain ⟨b, e3, _, _⟩ := DataW.trod_int Tryz.underlying3 g3
  obtain ⟨s, e4, _, _⟩ := DataW.trod_int Tryz.underlying3 g4
  obtain ⟨p, e5⟩ := post_open g5
  obtain ⟨v, e6⟩ : ∃ v, (cs.drop 9).take 1 = [v] := by
   have : ((cs.drop 9).take 1).length = 1 := by rw [List.length_take, List.length_drop]; omega
   match hx : (cs.drop 9).take 1, this with
   | [v], _ => exact ⟨v, rfl⟩
  rw [e6] at g6
  obtain ⟨l, hv, hlb⟩ := votes_open g6 (by simp only [hw])
  refine ⟨⟨c, f, t, b, s, p, l⟩, v, ?_, hv, hlb⟩
  have z : cs.drop 10 = [] := List.drop_of_length_le (by omega)
  have f0 : cs = (cs.drop 0).take 1 ++ ((cs.drop 1).take 1 ++ ((cs.drop 2).take 1 ++ ((cs.drop 3).take 1 ++ ((cs.drop 4).take 1 ++ ((cs.drop 5).take 4 ++ ((cs.drop 9).take 1 ++ cs.drop 10)))))) := by
   have s0 : cs.drop 0 = (cs.drop 0).take 1 ++ cs.drop 1 := seg cs 0 1
   have s1 : cs.drop 1 = (cs.drop 1).take 1 ++ cs.drop 2 := seg cs 1 1
   have s2 : cs.drop 2 = (cs.drop 2).take 1 ++ cs.drop 3 := seg cs 2 1
   have s3 : cs.drop 3 = (cs.drop 3).take 1 ++ cs.drop 4 := seg cs 3 1
   have s4 : cs.drop 4 = (cs.drop 4).take 1 ++ cs.drop 5 := seg cs 4 1
   have s5 : cs.drop 5 = (cs.drop 5).take 4 ++ cs.drop 9 := seg cs 5 4
   have s6 : cs.drop 9 = (cs.drop 9).take 1 ++ cs.drop 10 := seg cs 9 1
   rw [← s6, ← s5, ← s4, ← s3, ← s2, ← s1, ← s0]
   rfl
  rw [z, e0, e1, e2, e3, e4, e5, e6] at f0
  simpa [mval, Pst.cells] using f0
set_option maxRecDepth 100000 in
theorem op_open {cs : List Value} {x : DataW H × List MemPlace} (h : DataW.trod enc Tryz.prog w base spare held fuel 38 cs = some x) (hw : (x.1.weights Tryz.prog 38).all (· ≤ reachBytes) = true) :
  ∃ o : Opd, cs = o.cells ∧ o.ok w := by
 obtain ⟨xs, n, rfl, rfl, hl, hlen, hf⟩ := DataW.trod_struct Tryz.underlying38 h
 rw [cells_op] at hl
 match xs, hlen with
 | [y0, y1, y2, y3, y4, y5, y6], _ =>
  have g0 : DataW.trod enc Tryz.prog w base spare held n 3 ((cs.drop 0).take (Tryz.prog.cellsOf 3)) = some y0 := hf 0 _ rfl
  rw [cells_int] at g0
  have g1 : DataW.trod enc Tryz.prog w base spare held n 3 ((cs.drop 1).take (Tryz.prog.cellsOf 3)) = some y1 := hf 1 _ rfl
  rw [cells_int] at g1
  have g2 : DataW.trod enc Tryz.prog w base spare held n 3 ((cs.drop 2).take (Tryz.prog.cellsOf 3)) = some y2 := hf 2 _ rfl
  rw [cells_int] at g2
  have g3 : DataW.trod enc Tryz.prog w base spare held n 3 ((cs.drop 3).take (Tryz.prog.cellsOf 3)) = some y3 := hf 3 _ rfl
  rw [cells_int] at g3
  have g4 : DataW.trod enc Tryz.prog w base spare held n 9 ((cs.drop 4).take (Tryz.prog.cellsOf 9)) = some y4 := hf 4 _ rfl
  rw [cells_string] at g4
  have g5 : DataW.trod enc Tryz.prog w base spare held n 33 ((cs.drop 5).take (Tryz.prog.cellsOf 33)) = some y5 := hf 5 _ rfl
  rw [cells_post] at g5
  have g6 : DataW.trod enc Tryz.prog w base spare held n 36 ((cs.drop 9).take (Tryz.prog.cellsOf 36)) = some y6 := hf 6 _ rfl
  rw [cells_message] at g6
  simp only [DataW.weights, Tryz.underlying38, List.map_cons, List.map_nil, DataW.weightsEach, List.all_append, Bool.and_eq_true] at hw
  obtain ⟨k, e0, _, _⟩ := DataW.trod_int Tryz.underlying3 g0
  obtain ⟨o, e1, _, f1'⟩ := DataW.trod_int Tryz.underlying3 g1
  obtain ⟨a, e2, _, _⟩ := DataW.trod_int Tryz.underlying3 g2
  obtain ⟨b, e3, _, _⟩ := DataW.trod_int Tryz.underlying3 g3
  obtain ⟨s, e4, _, hs⟩ := DataW.trod_string Tryz.underlying9 g4
  obtain ⟨p, e5⟩ := post_open g5
  obtain ⟨m, v, e6, hv, hlb⟩ := message_open g6 (by simp only [hw])
  refine ⟨⟨k, o, a, b, s, p, m, v⟩, ?_, hv, ?_, ?_, i64_in f1'⟩
  ·have z : cs.drop 19 = [] := List.drop_of_length_le (by omega)
   have f0 : cs = (cs.drop 0).take 1 ++ ((cs.drop 1).take 1 ++ ((cs.drop 2).take 1 ++ ((cs.drop 3).take 1 ++ ((cs.drop 4).take 1 ++ ((cs.drop 5).take 4 ++ ((cs.drop 9).take 10 ++ cs.drop 19)))))) := by
    have s0 : cs.drop 0 = (cs.drop 0).take 1 ++ cs.drop 1 := seg cs 0 1
    have s1 : cs.drop 1 = (cs.drop 1).take 1 ++ cs.drop 2 := seg cs 1 1
    have s2 : cs.drop 2 = (cs.drop 2).take 1 ++ cs.drop 3 := seg cs 2 1
    have s3 : cs.drop 3 = (cs.drop 3).take 1 ++ cs.drop 4 := seg cs 3 1
    have s4 : cs.drop 4 = (cs.drop 4).take 1 ++ cs.drop 5 := seg cs 4 1
    have s5 : cs.drop 5 = (cs.drop 5).take 4 ++ cs.drop 9 := seg cs 5 4
    have s6 : cs.drop 9 = (cs.drop 9).take 10 ++ cs.drop 19 := seg cs 9 10
    rw [← s6, ← s5, ← s4, ← s3, ← s2, ← s1, ← s0]
    rfl
   rw [z, e0, e1, e2, e3, e4, e5, e6] at f0
   simpa [Opd.cells, mval, Pst.cells] using f0
  ·show (m.a.length + 1) * 56 ≤ 281474976710656
   unfold reachBytes at hlb; omega
  ·unfold maxLen at hs; exact hs
theorem weightsAll_get {t : TypeId} : ∀ (l : List (DataW H)) (i : Nat) (hi : i < l.length), (DataW.weightsAll Tryz.prog t l).all (· ≤ reachBytes) = true → (l[i].weights Tryz.prog t).all (· ≤ reachBytes) = true
 | [], _, hi, _ => by simp at hi
 | d :: r, 0, _, h => by
  simp only [DataW.weightsAll, List.all_append, Bool.and_eq_true] at h
  exact h.1
 | d :: r, i + 1, hi, h => by
  simp only [DataW.weightsAll, List.all_append, Bool.and_eq_true] at h
  exact weightsAll_get r i (by simpa using hi) h.2
set_option maxRecDepth 100000 in
theorem script_open {v : Value} {x : DataW H × List MemPlace} (h : DataW.trod enc Tryz.prog w base spare held fuel 22 [v] = some x) (hw : (x.1.weights Tryz.prog 22).all (· ≤ reachBytes) = true) :
  ∃ l : List Opd, SAt w v l ∧ l.length ≤ Rows.uptoBulk x.1 := by
 rcases DataW.trod_slice Tryz.underlying22 h with ⟨hcs, _⟩ | ⟨a, len, cap, elems, rest, n, _, hcs, rfl, _, hlc, hcm, hel, hget, _, _⟩
 ·obtain rfl : v = .slice none 0 0 := by simpa using hcs
  exact ⟨[], ⟨by simp, by simp, none, 0, rfl, fun hh => absurd rfl hh⟩, Nat.zero_le _⟩
 ·obtain rfl : v = .slice (some a) len cap := by simpa using hcs
  simp only [DataW.weights, Tryz.underlying22, List.all_cons, List.all_append, Bool.and_eq_true, decide_eq_true_eq, List.length_map, bytes_op] at hw
  obtain ⟨l, hll, hlp⟩ := exists_list (fun i (x : Opd) => x.ok w ∧ ∀ j u, x.cells[j]? = some u → w.cell? (a.add (i * 19 + j)) = some u) len (fun i hi => by
   have hg := hget i hi
   rw [List.getElem?_eq_getElem (by omega), Option.bind_eq_some_iff, cells_op] at hg
   obtain ⟨cs, hc1, hc2⟩ := hg
   have hwi := weightsAll_get (elems.map (·.1)) i (by rw [List.length_map]; omega) hw.2.1
   rw [List.getElem_map] at hwi
   obtain ⟨y, rfl, hok⟩ := op_open hc2 hwi
   refine ⟨y, hok, fun j u hu => ?_⟩
   have := (cells_of hc1).2 j u hu
   rwa [Addr.add_add] at this)
  refine ⟨l, ⟨?_, fun o ho => ?_, some a, cap, by rw [hll], fun hne => ?_⟩, by rw [hll, ← hel, ← List.length_map (f := (·.1))]; exact bulk_slice _ _⟩
  ·have h6 := hw.1
   unfold reachBytes at h6
   rw [hll, ← hel]; omega
  ·obtain ⟨i, hi, rfl⟩ := List.getElem_of_mem ho
   exact (hlp i hi).1
  ·have hpos : 0 < l.length := List.length_pos_iff.2 hne
   obtain ⟨b, off, rfl⟩ := addr_plain rfl ((hlp 0 hpos).2 0 _ rfl)
   refine ⟨b, off, rfl, ?_, fun j u hu => ?_⟩
   ·have := (hlp 0 hpos).2 0 _ rfl
    exact World.block_lt_of_cell? w _ this
   ·have hj : j < l.length * 19 := by have := (List.getElem?_eq_some_iff.1 hu).1; rw [ocs_length] at this; exact this
    have e : j = j / 19 * 19 + j % 19 := by omega
    have hj6 : j / 19 < l.length := by omega
    rw [e, ocs_at l (j / 19) hj6 (j % 19) (by omega)] at hu
    have := (hlp (j / 19) hj6).2 (j % 19) u hu
    rw [Addr.add_mid, ← e] at this
    exact this
end
end Go.Proofs.YtnnhnekfokbooaaGreatDoor
