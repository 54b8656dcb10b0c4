/- AllA, Laid, Open, AProofs -/
import Derived.Test.YtnnhnekfokbooaaGreatDoorAl37
import Derived.Test.YtnnhnekfokbooaaGreatDoorAl51
import Derived.ProofKit
import Derived.LaidMore
import Derived.OpenShut
import Derived.Stop.Joined
import Derived.Lib.SmallJoins
import Derived.ChangeArms
import Derived.ShutString
import Derived.ChangeOld
import Derived.Below
import Derived.Deep.DeepHandedRow
import Derived.Deep.DeepWitnessRowRef
set_option linter.unusedSimpArgs false
set_option linter.unusedVariables false
set_option maxRecDepth 100000
namespace Go.Proofs.YtnnhnekfokbooaaGreatDoor
section
open Go.RowKit
theorem WAt.vote {w w' : World} {wb H : Nat} {d : Wd} {wv' v a b c : Value} {n : Nat} (h : WAt w wb H d) (kk : Keeps (fun k => k = wb ∨ d.wv.ownBlock = some k) w w') (hb : w'.heap[wb]? = some (.cells #[d.wl, d.wn, wv', d.wp] 31 (0, 0)))
  (own' : w'.ownsRow H 34 1 wv' (d.V.length + 4) (d.V ++ [v, a, b, c])) (hn : n ≤ 1000000) (m0 : MK w' H 53 (mv d.V.length) v n) (m1 : MK w' H 53 (mv d.V.length) a (n + 1)) (m2 : MK w' H 53 (mv d.V.length) b (n + 2)) (m3 : MK w' H 53 (mv d.V.length) c (n + 3)) :
  WAt w' wb H ⟨d.wl, d.wn, wv', d.wp, d.ps, d.N, d.V ++ [v, a, b, c], d.P⟩ := by
 have hT : ∀ {k : Nat} {cs : Array Value} {t : TypeId}, w.heap[k]? = some (.cells cs t (0, 0)) → t ≠ 31 → t ≠ 34 → ¬ (k = wb ∨ d.wv.ownBlock = some k) := fun hc h1 h2 ho => by
  rcases ho with rfl | ho
  ·exact h1 (blk_type hc h.blk)
  ·obtain ⟨cs', hc'⟩ := owns_blk h.votes.own ho
   exact h2 (blk_type hc hc')
 exact h.net (kk.mono (fun k _ ho => by rcases ho with ho | ho; exact .inl ho; exact .inr (.inr ho))) hb (fun _ => h.nets.keeps kk (fun g hg => by obtain ⟨cs, hc⟩ := owns_blk h.nets.own hg; exact hT hc (by decide) (by decide)) (fun k hk g hg => by obtain ⟨_, cs, hc⟩ := h.nets.blkT hk hg; exact hT hc (by decide) (by decide))) (h.votes.more (fun j i => mv4) kk (fun k hk g hg => by obtain ⟨_, cs, hc⟩ := h.votes.blkT hk hg; exact hT hc (by decide) (by decide)) own' hn m0 m1 m2 m3) h.nown
theorem voted_W {w W : World} {wb H : Nat} {d : Wd} (h : WAt w wb H d) (hlV : d.V.length ≤ 4000000000000) (hB : Below w.heap.size w W) {v : Value} {n : Nat} {xs : List Value} (ho : W.ownsRow w.heap.size 53 6 v n xs) (hn : n ≤ 255) :
  Calls Tryz.prog 24 #[P6 wb, v] W fun e w' => e = .returned (.tuple #[]) ∧ WTo w wb H d w' := by
 have hW := h.below hB
 refine (voted_any wb H d.wl d.wn d.wv d.wp v n xs d.V W hW.blk hW.votes.own (owns_base ho h.base.2.2) (by omega) (by omega) hW.base.2.2).mono ?_
 rintro e w6 ⟨wv', ua, ub, uc, rfl, hb6, ho6, m0, m1, m2, m3, k6, _, _⟩
 have kk : Keeps (fun k => k = wb ∨ d.wv.ownBlock = some k) w w6 := Keeps.high (Keeps.ofBelow hB) (k6.mono (fun k _ hk => by
  rcases hk with hk | hk | hk
  ·exact .inl (.inl hk)
  ·exact .inr (World.ownsRow.lt ho k hk).1
  ·exact .inl (.inr hk)))
 have hW6 := h.vote kk hb6 ho6 (n := n) (by omega) m0 m1 m2 m3
 refine ⟨rfl, _, hW6, Nat.le_refl _, by show d.ps.length ≤ _; omega, by show d.N.length ≤ _; omega, by show (d.V ++ [_, _, _, _]).length ≤ _; simp, by show d.P.length ≤ _; omega, kk.mono (fun k _ hk => by
  rcases hk with hk | hk
  ·exact .inl hk
  ·exact .inr (World.ownsRow.lt h.votes.own k hk).1)⟩
set_option maxHeartbeats 4000000 in
theorem step_packW (o : Opd) (wb : Nat) (w : World) (hk : Kinds w) (h12 : o.k = 12) (hv : VAt w o.v o.m.a) (hn : (o.m.a.length + 1) * 56 ≤ 281474976710656) :
  Calls Tryz.prog 7 #[P6 wb, .agg o.cells.toArray] w fun e w' => e = .returned (.bool true) ∧ Below w.heap.size w w' := by
 have hP := fun W hk hv => packed_any o.m o.v W hk hv hn
 obtain ⟨ok, on, oa, ob, os, ⟨pc, pq, ph, pt⟩, ⟨mk, mf, mt, mb, ms, ⟨mc, mq, mh, mx⟩, ma⟩, v⟩ := o
 simp only [mval, Opd.cells] at *
 subst h12
 obtain ⟨ao, cap, rfl, _⟩ := hv.form
 go_enter Tryz.func7, Tryz.ntmps7
 go_wp2_with fail
 refine (hP _ (hk.alloc _) (hv.alloc _)).mono ?_
 rintro e w1 ⟨rfl, hB1⟩
 clear hP
 have hBw : Below w.heap.size w w1 := ((Below.refl _ w).alloc (Nat.le_refl _) _).trans (hB1.mono (by simp))
 go_wp2_with fail
 go_ret
 exact ⟨rfl, hBw⟩
set_option maxHeartbeats 4000000 in
theorem step_unpackW (o : Opd) (wb : Nat) (w : World) {Q : World → Prop} (hk : Kinds w) (h13 : o.k = 13) (hl : o.s.size ≤ 9223372036854775807) (hv : ∃ ao n cap, o.v = .slice ao n cap)
  (hVo : ∀ W v n xs, Below w.heap.size w W → W.ownsRow w.heap.size 53 6 v n xs → n ≤ 255 → Calls Tryz.prog 24 #[P6 wb, v] W fun e w' => e = .returned (.tuple #[]) ∧ Q w') :
  Calls Tryz.prog 7 #[P6 wb, .agg o.cells.toArray] w fun e w' => e = .returned (.bool true) ∧ Q w' := by
 have hlt : o.s.data.toList.length ≤ 9223372036854775807 := by
  have e : o.s.data.toList.length = o.s.size := by rw [Array.length_toList]; rfl
  omega
 have hU := fun W (hB : Below w.heap.size w W) => unpacked_of wb o.s.data.toList W (hk.below hB) hlt (Q := Q) (fun W' v n xs hB' ho hn => hVo W' v n xs (Below.trans hB (hB'.mono hB.size)) (owns_base ho hB.size) hn)
 simp only [S_eta] at hU
 obtain ⟨ok, on, oa, ob, os, ⟨pc, pq, ph, pt⟩, ⟨mk, mf, mt, mb, ms, ⟨mc, mq, mh, mx⟩, ma⟩, v⟩ := o
 simp only [Opd.cells] at *
 subst h13
 obtain ⟨ao, n, cap, rfl⟩ := hv
 clear hlt hVo
 go_enter Tryz.func7, Tryz.ntmps7
 go_wp2_with fail
 refine (hU _ ((Below.refl _ w).alloc (Nat.le_refl _) _)).mono ?_
 rintro e w1 ⟨rfl, hQ⟩
 clear hU
 go_wp2_with fail
 go_ret
 exact ⟨rfl, hQ⟩
theorem allw_any (v : Value) (l : List Opd) (w : World) (hk : Kinds w) (hv : SAt w v l) (hl : l.length ≤ 1048576) :
  Calls Tryz.prog 5 #[v] w fun e w' => e = .returned (.bool true) ∧ Below w.heap.size w w' := by
 have hP := plays_from 13 (by decide) v l w hv hl (fun W wb H d o hW hBW hok h1 h13 a b c e => by
  by_cases h11 : o.k ≤ 11
  ·exact step_any hW o hok h1 h11 a b c e
  ·rcases (show o.k = 12 ∨ o.k = 13 from by omega) with h12 | h13
   ·refine (step_packW o wb W (hk.below hBW) h12 hok.1 hok.2.1).mono ?_
    rintro e w' ⟨rfl, hB⟩
    exact ⟨rfl, d, hW.below hB, Nat.le_refl _, by omega, by omega, by omega, by omega, Keeps.ofBelow hB⟩
   ·exact step_unpackW o wb W (hk.below hBW) h13 hok.2.2.1 hok.slice (fun W' v n xs hB ho hn => voted_W hW c hB ho hn))
 obtain ⟨sa, sc, rfl, _⟩ := hv.form
 go_enter Tryz.func5, Tryz.ntmps5
 go_wp2_with fail
 refine hP.mono ?_
 rintro e w1 ⟨rfl, hB⟩
 go_wp2_with fail
 go_ret
 exact ⟨rfl, hB⟩
end
section
open Go.ChangeShapes Go.WideShapes Go.ChangeAt Go.WideMaps Go.WideElems Go.RowKit Go.Joins
theorem gKinds : Tryz.prog.globalNamed "synod/wire.kinds" = some 0 := by kernel_rfl
theorem tKinds : (Tryz.prog.globals[0]?).map (·.type) = some 173 := by kernel_rfl
theorem cellsBool : Tryz.prog.cellsOf 4 = 1 := by kernel_rfl
theorem cellsParts : Tryz.prog.cellsOf 139 = 4 := by kernel_rfl
theorem cellsKinds : Tryz.prog.cellsOf 173 = 28 := by kernel_rfl
section
variable {H : Type} {enc : TypeId × Value → H} {w : World} {base : Nat} {spare : Nat → Bool} {held : Bool} {fuel : Nat}
theorem list4 {α : Type} {l : List α} (h : l.length = 4) : ∃ a b c d, l = [a, b, c, d] := by
 rcases l with _ | ⟨a, _ | ⟨b, _ | ⟨c, _ | ⟨d, _ | ⟨e, l⟩⟩⟩⟩⟩ <;> simp at h
 exact ⟨a, b, c, d, rfl⟩
theorem list7 {α : Type} {l : List α} (h : l.length = 7) : ∃ a b c d e f g, l = [a, b, c, d, e, f, g] := by
 rcases l with _ | ⟨a, _ | ⟨b, _ | ⟨c, _ | ⟨d, _ | ⟨e, _ | ⟨f, _ | ⟨g, _ | ⟨i, l⟩⟩⟩⟩⟩⟩⟩⟩ <;> simp at h
 exact ⟨a, b, c, d, e, f, g, rfl⟩
theorem parts_cells {cs : List Value} {x : DataW H × List MemPlace} (h : DataW.trod enc Tryz.prog w base spare held fuel 139 cs = some x) :
  ∃ b0 b1 b2 b3, cs = [.bool b0, .bool b1, .bool b2, .bool b3] ∧ x.1 = .agg [.lit (.bool b0), .lit (.bool b1), .lit (.bool b2), .lit (.bool b3)] := by
 obtain ⟨y0, y1, y2, y3, n, rfl, hl, h0, h1, h2, h3⟩ := trod_struct4 Tryz.underlying139 h
 rw [cellsParts] at hl
 obtain ⟨c0, c1, c2, c3, rfl⟩ := list4 hl
 ·obtain ⟨b0, e0, f0⟩ := DataW.trod_bool Tryz.underlying4 h0
  obtain ⟨b1, e1, f1⟩ := DataW.trod_bool Tryz.underlying4 h1
  obtain ⟨b2, e2, f2⟩ := DataW.trod_bool Tryz.underlying4 h2
  obtain ⟨b3, e3, f3⟩ := DataW.trod_bool Tryz.underlying4 h3
  simp [cellsBool] at e0 e1 e2 e3
  subst e0 e1 e2 e3 f0 f1 f2 f3
  exact ⟨b0, b1, b2, b3, rfl, rfl⟩
end
theorem row_at {H : Type} {enc : TypeId × Value → H} {w : World} {base : Nat} {spare : Nat → Bool} {held : Bool} {fuel : Nat} {cs : List Value} {x : DataW H × List MemPlace} {b0 b1 b2 b3 : Bool}
  (h : DataW.trod enc Tryz.prog w base spare held fuel 139 cs = some x) (hx : DataW.agg [.lit (.bool b0), .lit (.bool b1), .lit (.bool b2), .lit (.bool b3)] = x.1) : cs = [.bool b0, .bool b1, .bool b2, .bool b3] := by
 obtain ⟨c0, c1, c2, c3, rfl, e⟩ := parts_cells h
 rw [e] at hx
 simp at hx
 obtain ⟨rfl, rfl, rfl, rfl⟩ := hx
 rfl
theorem kinds_of_laid {W : World} (h : laidMetH Tryz.prog [("synod/wire.kinds", Rows.laid_synod_wire_kinds)] W) : Kinds W := by
 rw [MakeChecks.laidMetH_plain _ _ _ (by kernel_rfl)] at h
 obtain ⟨ps, ⟨g0, t0, cs0, f0, p0, q0, hg0, ht0, hv0, hd0, _, _⟩, _, _⟩ := h
 obtain rfl := Option.some.inj (gKinds.symm.trans hg0)
 obtain rfl := Option.some.inj (tKinds.symm.trans ht0)
 have hcell := World.var?_cell hg0 hv0
 obtain ⟨xs, m1, rfl, hx1, hlen, hn7, hel⟩ := DataW.trod_array Tryz.underlying173 hd0
 rw [cellsKinds] at hlen
 rw [cellsParts] at hel
 have hx : Rows.laid_synod_wire_kinds = DataW.agg (xs.map (·.1)) := by have := congrArg Prod.fst hx1; simpa using this
 obtain ⟨x0, x1, x2, x3, x4, x5, x6, rfl⟩ := list7 hn7
 simp only [Rows.laid_synod_wire_kinds, List.map_cons, List.map_nil, DataW.agg.injEq, List.cons.injEq, and_true] at hx
 obtain ⟨y0, y1, y2, y3, y4, y5, y6⟩ := hx
 generalize hL : cs0.toList = L at *
 have k0 := row_at (hel 0 (by decide)) y0
 have k1 := row_at (hel 1 (by decide)) y1
 have k2 := row_at (hel 2 (by decide)) y2
 have k3 := row_at (hel 3 (by decide)) y3
 have k4 := row_at (hel 4 (by decide)) y4
 have k5 := row_at (hel 5 (by decide)) y5
 have k6 := row_at (hel 6 (by decide)) y6
 have hcs : L = KT.map Value.bool := by
  have e : L = (L.drop (0 * 4)).take 4 ++ ((L.drop (1 * 4)).take 4 ++ ((L.drop (2 * 4)).take 4 ++ ((L.drop (3 * 4)).take 4 ++ ((L.drop (4 * 4)).take 4 ++ ((L.drop (5 * 4)).take 4 ++ (L.drop (6 * 4)).take 4))))) := by
   have f : ∀ n, L.drop n = (L.drop n).take 4 ++ L.drop (n + 4) := fun n => by
    have := (List.take_append_drop 4 (L.drop n)).symm
    rw [List.drop_drop] at this
    exact this
   have g : L.drop 28 = [] := List.drop_of_length_le (by omega)
   have f6 := f 24
   rw [g, List.append_nil] at f6
   show L = (L.drop 0).take 4 ++ ((L.drop 4).take 4 ++ ((L.drop 8).take 4 ++ ((L.drop 12).take 4 ++ ((L.drop 16).take 4 ++ ((L.drop 20).take 4 ++ (L.drop 24).take 4)))))
   rw [← f6, ← f 20, ← f 16, ← f 12, ← f 8, ← f 4, ← f 0]; rfl
  rw [e, k0, k1, k2, k3, k4, k5, k6]
  rfl
 refine ⟨?_, fun j hj => ?_⟩
 ·have c0 := hcell 0
  rcases Nat.eq_zero_or_pos W.heap.size with h0 | h0
  ·have : W.heap[0]? = none := Array.getElem?_eq_none (by omega)
   have e : cs0[0]? = some (.bool false) := by rw [← Array.getElem?_toList, hL, hcs]; rfl
   rw [e] at c0
   simp [World.cell?, this] at c0
  ·exact h0
 ·rw [hcell j, ← Array.getElem?_toList, hL, hcs]
  have hkl : j < KT.length := hj
  simp [List.getElem?_map, List.getElem?_eq_getElem hkl, List.getD_eq_getElem?_getD]
end
section
open Go.ChangeShapes Go.WideShapes Go.ChangeAt Go.RowKit Go.Joins
theorem i64_in {n : Int} (h : (Lit.int .i64 n).wf = true) : -9223372036854775808 ≤ n ∧ n ≤ 9223372036854775807 := by
 simp [Lit.wf, IntKind.min, IntKind.max, IntKind.signed, IntKind.bits] at h
 exact ⟨by omega, by omega⟩
theorem bulk_pos {H : Type} (d : DataW H) : 0 < Rows.uptoBulk d := by
 cases d with
 | lit l => cases l <;> simp [Rows.uptoBulk]
 | _ => simp [Rows.uptoBulk]
theorem bulk_list {H : Type} : ∀ (l : List (DataW H)), l.length ≤ Rows.uptoBulkAll l
 | [] => by simp [Rows.uptoBulkAll]
 | d :: l => by
  have h1 := bulk_pos d
  have h2 := bulk_list l
  simp only [Rows.uptoBulkAll, List.length_cons]
  omega
theorem bulk_slice {H : Type} (el sp : List (DataW H)) : el.length ≤ Rows.uptoBulk (.slice el sp) := by
 have h1 := bulk_list el
 simp only [Rows.uptoBulk]
 omega
theorem cells_int : Tryz.prog.cellsOf 3 = 1 := by kernel_rfl
theorem cells_string : Tryz.prog.cellsOf 9 = 1 := by kernel_rfl
theorem cells_post : Tryz.prog.cellsOf 33 = 4 := by kernel_rfl
theorem cells_vote : Tryz.prog.cellsOf 53 = 6 := by kernel_rfl
theorem cells_votes : Tryz.prog.cellsOf 34 = 1 := by kernel_rfl
theorem cells_message : Tryz.prog.cellsOf 36 = 10 := by kernel_rfl
theorem cells_op : Tryz.prog.cellsOf 38 = 19 := by kernel_rfl
theorem bytes_vote : Tryz.prog.bytesOf 53 = 56 := by kernel_rfl
theorem bytes_op : Tryz.prog.bytesOf 38 = 192 := by kernel_rfl
theorem seg (L : List Value) (n k : Nat) : L.drop n = (L.drop n).take k ++ L.drop (n + k) := by
 have := (List.take_append_drop k (L.drop n)).symm
 rw [List.drop_drop] at this
 exact this
theorem exists_list {α : Type} (P : Nat → α → Prop) : ∀ (n : Nat), (∀ i, i < n → ∃ x, P i x) → ∃ l : List α, l.length = n ∧ ∀ i (hi : i < l.length), P i l[i]
 | 0, _ => ⟨[], rfl, fun i hi => by simp at hi⟩
 | n + 1, h => by
  obtain ⟨l, hl, hp⟩ := exists_list P n (fun i hi => h i (by omega))
  obtain ⟨x, hx⟩ := h n (by omega)
  refine ⟨l ++ [x], by simp [hl], fun i hi => ?_⟩
  by_cases hlt : i < l.length
  ·rw [List.getElem_append_left hlt]; exact hp i hlt
  ·obtain rfl : i = n := by simp [hl] at hi; omega
   have e : (l ++ [x])[i]'hi = x := by rw [List.getElem_append_right (by omega)]; simp
   rw [e]; exact hx
theorem mapM_cells {w : World} {a : Addr} : ∀ (n : Nat) (cs : List Value), (List.range n).mapM (fun i => w.cell? (a.add i)) = some cs → cs.length = n ∧ ∀ j u, cs[j]? = some u → w.cell? (a.add j) = some u := by
 intro n cs h
 have hl : cs.length = n := by simpa using mapM_some_length h
 refine ⟨hl, fun j u hu => ?_⟩
 have hj : j < n := by have := (List.getElem?_eq_some_iff.1 hu).1; omega
 have := mapM_some_get h j j (by simp [hj])
 rw [← hu, ← this]
section
variable {H : Type} {enc : TypeId × Value → H} {w : World} {base : Nat} {spare : Nat → Bool} {held : Bool} {fuel : Nat}
theorem cells_of {a : Addr} {n : Nat} {cs : List Value} (h : w.cells? base a n = some cs) : cs.length = n ∧ ∀ j u, cs[j]? = some u → w.cell? (a.add j) = some u := by
 unfold World.cells? at h
 split at h
 ·exact mapM_cells n cs h
 ·cases h
theorem post_open {cs : List Value} {x : DataW H × List MemPlace} (h : DataW.trod enc Tryz.prog w base spare held fuel 33 cs = some x) : ∃ p : Pst, cs = p.cells := by
 obtain ⟨xs, n, rfl, rfl, hl, hlen, hf⟩ := DataW.trod_struct Tryz.underlying33 h
 rw [cells_post] at hl
 match xs, hlen with
 | [y0, y1, y2, y3], _ =>
  have g0 : DataW.trod enc Tryz.prog w base spare held n 3 ((cs.drop 0).take (Tryz.prog.cellsOf 3)) = some y0 := hf 0 _ rfl
  rw [cells_int] at g0
  have g1 : DataW.trod enc Tryz.prog w base spare held n 3 ((cs.drop 1).take (Tryz.prog.cellsOf 3)) = some y1 := hf 1 _ rfl
  rw [cells_int] at g1
  have g2 : DataW.trod enc Tryz.prog w base spare held n 3 ((cs.drop 2).take (Tryz.prog.cellsOf 3)) = some y2 := hf 2 _ rfl
  rw [cells_int] at g2
  have g3 : DataW.trod enc Tryz.prog w base spare held n 9 ((cs.drop 3).take (Tryz.prog.cellsOf 9)) = some y3 := hf 3 _ rfl
  rw [cells_string] at g3
  obtain ⟨c, e0, _, _⟩ := DataW.trod_int Tryz.underlying3 g0
  obtain ⟨q, e1, _, _⟩ := DataW.trod_int Tryz.underlying3 g1
  obtain ⟨k, e2, _, _⟩ := DataW.trod_int Tryz.underlying3 g2
  obtain ⟨t, e3, _, _⟩ := DataW.trod_string Tryz.underlying9 g3
  refine ⟨⟨c, q, k, t⟩, ?_⟩
  have z : cs.drop 4 = [] := List.drop_of_length_le (by omega)
  have f0 : cs = (cs.drop 0).take 1 ++ ((cs.drop 1).take 1 ++ ((cs.drop 2).take 1 ++ ((cs.drop 3).take 1 ++ cs.drop 4))) := by
   have s0 : cs.drop 0 = (cs.drop 0).take 1 ++ cs.drop 1 := seg cs 0 1
   have s1 : cs.drop 1 = (cs.drop 1).take 1 ++ cs.drop 2 := seg cs 1 1
   have s2 : cs.drop 2 = (cs.drop 2).take 1 ++ cs.drop 3 := seg cs 2 1
   have s3 : cs.drop 3 = (cs.drop 3).take 1 ++ cs.drop 4 := seg cs 3 1
   rw [← s3, ← s2, ← s1, ← s0]
   rfl
  rw [z, e0, e1, e2, e3] at f0
  simpa [Pst.cells] using f0
theorem vote_open {cs : List Value} {x : DataW H × List MemPlace} (h : DataW.trod enc Tryz.prog w base spare held fuel 53 cs = some x) : ∃ v : Vt, cs = v.cells := by
 obtain ⟨xs, n, rfl, rfl, hl, hlen, hf⟩ := DataW.trod_struct Tryz.underlying53 h
 rw [cells_vote] at hl
 match xs, hlen with
 | [y0, y1, y2], _ =>
  have g0 : DataW.trod enc Tryz.prog w base spare held n 3 ((cs.drop 0).take (Tryz.prog.cellsOf 3)) = some y0 := hf 0 _ rfl
  rw [cells_int] at g0
  have g1 : DataW.trod enc Tryz.prog w base spare held n 3 ((cs.drop 1).take (Tryz.prog.cellsOf 3)) = some y1 := hf 1 _ rfl
  rw [cells_int] at g1
  have g2 : DataW.trod enc Tryz.prog w base spare held n 33 ((cs.drop 2).take (Tryz.prog.cellsOf 33)) = some y2 := hf 2 _ rfl
  rw [cells_post] at g2
  obtain ⟨c, e0, _, _⟩ := DataW.trod_int Tryz.underlying3 g0
  obtain ⟨q, e1, _, _⟩ := DataW.trod_int Tryz.underlying3 g1
  obtain ⟨p, e2⟩ := post_open g2
  refine ⟨⟨c, q, p⟩, ?_⟩
  have z : cs.drop 6 = [] := List.drop_of_length_le (by omega)
  have f0 : cs = (cs.drop 0).take 1 ++ ((cs.drop 1).take 1 ++ ((cs.drop 2).take 4 ++ cs.drop 6)) := by
   have s0 : cs.drop 0 = (cs.drop 0).take 1 ++ cs.drop 1 := seg cs 0 1
   have s1 : cs.drop 1 = (cs.drop 1).take 1 ++ cs.drop 2 := seg cs 1 1
   have s2 : cs.drop 2 = (cs.drop 2).take 4 ++ cs.drop 6 := seg cs 2 4
   rw [← s2, ← s1, ← s0]
   rfl
  rw [z, e0, e1, e2] at f0
  simpa [Vt.cells, Pst.cells] using f0
theorem addr_plain {a : Addr} {u : Value} {k : Nat} (hk : k = 0) (h : w.cell? (a.add k) = some u) : ∃ b off, a = (A6 b off) := by
 subst hk
 obtain ⟨b, off, spot⟩ := a
 have hspot : spot = none := by simpa [Addr.add] using World.cell?_spot h
 subst hspot
 exact ⟨b, off, rfl⟩
theorem votes_open {v : Value} {x : DataW H × List MemPlace} (h : DataW.trod enc Tryz.prog w base spare held fuel 34 [v] = some x) (hw : (x.1.weights Tryz.prog 34).all (· ≤ reachBytes) = true) :
  ∃ l : List Vt, VAt w v l ∧ l.length * 56 ≤ reachBytes := by
 rcases DataW.trod_slice Tryz.underlying34 h with ⟨hcs, _⟩ | ⟨a, len, cap, elems, rest, n, _, hcs, rfl, _, hlc, hcm, hel, hget, _, _⟩
 ·obtain rfl : v = .slice none 0 0 := by simpa using hcs
  exact ⟨[], rvat_nil w, by simp⟩
 ·obtain rfl : v = .slice (some a) len cap := by simpa using hcs
  simp only [DataW.weights, Tryz.underlying34, List.all_cons, Bool.and_eq_true, decide_eq_true_eq, List.length_map, bytes_vote] at hw
  obtain ⟨l, hll, hlp⟩ := exists_list (fun i (x : Vt) => ∀ j u, x.cells[j]? = some u → w.cell? (a.add (i * 6 + j)) = some u) len (fun i hi => by
   have hg := hget i hi
   rw [List.getElem?_eq_getElem (by omega), Option.bind_eq_some_iff, cells_vote] at hg
   obtain ⟨cs, hc1, hc2⟩ := hg
   obtain ⟨y, rfl⟩ := vote_open hc2
   refine ⟨y, fun j u hu => ?_⟩
   have := (cells_of hc1).2 j u hu
   rwa [Addr.add_add] at this)
  have h6 : l.length * 56 ≤ reachBytes := by rw [hll, ← hel]; have := hw.1; omega
  have h7 : l.length ≤ 4611686018427387903 := by unfold reachBytes at h6; omega
  refine ⟨l, ⟨h7, some a, cap, by rw [hll], fun hne => ?_⟩, h6⟩
  have hpos : 0 < l.length := List.length_pos_iff.2 hne
  obtain ⟨b, off, rfl⟩ := addr_plain rfl (hlp 0 hpos 0 _ rfl)
  refine ⟨b, off, rfl, ?_, fun j u hu => ?_⟩
  ·have := hlp 0 hpos 0 _ rfl
   exact World.block_lt_of_cell? w _ this
  ·have hj : j < l.length * 6 := by have := (List.getElem?_eq_some_iff.1 hu).1; rw [vcells_length] at this; exact this
   have e : j = j / 6 * 6 + j % 6 := by omega
   have hj6 : j / 6 < l.length := by omega
   rw [e, vcells_at l (j / 6) hj6 (j % 6) (by omega)] at hu
   have := hlp (j / 6) hj6 (j % 6) u hu
   rw [Addr.add_mid, ← e] at this
   exact this
theorem message_open {cs : List Value} {x : DataW H × List MemPlace} (h : DataW.trod enc Tryz.prog w base spare held fuel 36 cs = some x) (hw : (x.1.weights Tryz.prog 36).all (· ≤ reachBytes) = true) :
  ∃ (m : Ms) (v : Value), cs = (mval m v).toList ∧ VAt w v m.a ∧ m.a.length * 56 ≤ reachBytes := by
 obtain ⟨xs, n, rfl, rfl, hl, hlen, hf⟩ := DataW.trod_struct Tryz.underlying36 h
 rw [cells_message] at hl
 match xs, hlen with
 | [y0, y1, y2, y3, y4, y5, y6], _ =>
  have g0 : DataW.trod enc Tryz.prog w base spare held n 3 ((cs.drop 0).take (Tryz.prog.cellsOf 3)) = some y0 := hf 0 _ rfl
  rw [cells_int] at g0
  have g1 : DataW.trod enc Tryz.prog w base spare held n 3 ((cs.drop 1).take (Tryz.prog.cellsOf 3)) = some y1 := hf 1 _ rfl
  rw [cells_int] at g1
  have g2 : DataW.trod enc Tryz.prog w base spare held n 3 ((cs.drop 2).take (Tryz.prog.cellsOf 3)) = some y2 := hf 2 _ rfl
  rw [cells_int] at g2
  have g3 : DataW.trod enc Tryz.prog w base spare held n 3 ((cs.drop 3).take (Tryz.prog.cellsOf 3)) = some y3 := hf 3 _ rfl
  rw [cells_int] at g3
  have g4 : DataW.trod enc Tryz.prog w base spare held n 3 ((cs.drop 4).take (Tryz.prog.cellsOf 3)) = some y4 := hf 4 _ rfl
  rw [cells_int] at g4
  have g5 : DataW.trod enc Tryz.prog w base spare held n 33 ((cs.drop 5).take (Tryz.prog.cellsOf 33)) = some y5 := hf 5 _ rfl
  rw [cells_post] at g5
  have g6 : DataW.trod enc Tryz.prog w base spare held n 34 ((cs.drop 9).take (Tryz.prog.cellsOf 34)) = some y6 := hf 6 _ rfl
  rw [cells_votes] at g6
  simp only [DataW.weights, Tryz.underlying36, List.map_cons, List.map_nil, DataW.weightsEach, List.all_append, Bool.and_eq_true] at hw
  obtain ⟨c, e0, _, _⟩ := DataW.trod_int Tryz.underlying3 g0
  obtain ⟨f, e1, _, _⟩ := DataW.trod_int Tryz.underlying3 g1
  obtain ⟨t, e2, _, _⟩ := DataW.trod_int Tryz.underlying3 g2
  obtain ⟨b, e3, _, _⟩ := DataW.trod_int Tryz.underlying3 g3
  obtain ⟨s, e4, _, _⟩ := DataW.trod_int Tryz.underlying3 g4
  obtain ⟨p, e5⟩ := post_open g5
  obtain ⟨v, e6⟩ : ∃ v, (cs.drop 9).take 1 = [v] := by
   have : ((cs.drop 9).take 1).length = 1 := by rw [List.length_take, List.length_drop]; omega
   match hx : (cs.drop 9).take 1, this with
   | [v], _ => exact ⟨v, rfl⟩
  rw [e6] at g6
  obtain ⟨l, hv, hlb⟩ := votes_open g6 (by simp only [hw])
  refine ⟨⟨c, f, t, b, s, p, l⟩, v, ?_, hv, hlb⟩
  have z : cs.drop 10 = [] := List.drop_of_length_le (by omega)
  have f0 : cs = (cs.drop 0).take 1 ++ ((cs.drop 1).take 1 ++ ((cs.drop 2).take 1 ++ ((cs.drop 3).take 1 ++ ((cs.drop 4).take 1 ++ ((cs.drop 5).take 4 ++ ((cs.drop 9).take 1 ++ cs.drop 10)))))) := by
   have s0 : cs.drop 0 = (cs.drop 0).take 1 ++ cs.drop 1 := seg cs 0 1
   have s1 : cs.drop 1 = (cs.drop 1).take 1 ++ cs.drop 2 := seg cs 1 1
   have s2 : cs.drop 2 = (cs.drop 2).take 1 ++ cs.drop 3 := seg cs 2 1
   have s3 : cs.drop 3 = (cs.drop 3).take 1 ++ cs.drop 4 := seg cs 3 1
   have s4 : cs.drop 4 = (cs.drop 4).take 1 ++ cs.drop 5 := seg cs 4 1
   have s5 : cs.drop 5 = (cs.drop 5).take 4 ++ cs.drop 9 := seg cs 5 4
   have s6 : cs.drop 9 = (cs.drop 9).take 1 ++ cs.drop 10 := seg cs 9 1
   rw [← s6, ← s5, ← s4, ← s3, ← s2, ← s1, ← s0]
   rfl
  rw [z, e0, e1, e2, e3, e4, e5, e6] at f0
  simpa [mval, Pst.cells] using f0
theorem op_open {cs : List Value} {x : DataW H × List MemPlace} (h : DataW.trod enc Tryz.prog w base spare held fuel 38 cs = some x) (hw : (x.1.weights Tryz.prog 38).all (· ≤ reachBytes) = true) :
  ∃ o : Opd, cs = o.cells ∧ o.ok w := by
 obtain ⟨xs, n, rfl, rfl, hl, hlen, hf⟩ := DataW.trod_struct Tryz.underlying38 h
 rw [cells_op] at hl
 match xs, hlen with
 | [y0, y1, y2, y3, y4, y5, y6], _ =>
  have g0 : DataW.trod enc Tryz.prog w base spare held n 3 ((cs.drop 0).take (Tryz.prog.cellsOf 3)) = some y0 := hf 0 _ rfl
  rw [cells_int] at g0
  have g1 : DataW.trod enc Tryz.prog w base spare held n 3 ((cs.drop 1).take (Tryz.prog.cellsOf 3)) = some y1 := hf 1 _ rfl
  rw [cells_int] at g1
  have g2 : DataW.trod enc Tryz.prog w base spare held n 3 ((cs.drop 2).take (Tryz.prog.cellsOf 3)) = some y2 := hf 2 _ rfl
  rw [cells_int] at g2
  have g3 : DataW.trod enc Tryz.prog w base spare held n 3 ((cs.drop 3).take (Tryz.prog.cellsOf 3)) = some y3 := hf 3 _ rfl
  rw [cells_int] at g3
  have g4 : DataW.trod enc Tryz.prog w base spare held n 9 ((cs.drop 4).take (Tryz.prog.cellsOf 9)) = some y4 := hf 4 _ rfl
  rw [cells_string] at g4
  have g5 : DataW.trod enc Tryz.prog w base spare held n 33 ((cs.drop 5).take (Tryz.prog.cellsOf 33)) = some y5 := hf 5 _ rfl
  rw [cells_post] at g5
  have g6 : DataW.trod enc Tryz.prog w base spare held n 36 ((cs.drop 9).take (Tryz.prog.cellsOf 36)) = some y6 := hf 6 _ rfl
  rw [cells_message] at g6
  simp only [DataW.weights, Tryz.underlying38, List.map_cons, List.map_nil, DataW.weightsEach, List.all_append, Bool.and_eq_true] at hw
  obtain ⟨k, e0, _, _⟩ := DataW.trod_int Tryz.underlying3 g0
  obtain ⟨o, e1, _, f1'⟩ := DataW.trod_int Tryz.underlying3 g1
  obtain ⟨a, e2, _, _⟩ := DataW.trod_int Tryz.underlying3 g2
  obtain ⟨b, e3, _, _⟩ := DataW.trod_int Tryz.underlying3 g3
  obtain ⟨s, e4, _, hs⟩ := DataW.trod_string Tryz.underlying9 g4
  obtain ⟨p, e5⟩ := post_open g5
  obtain ⟨m, v, e6, hv, hlb⟩ := message_open g6 (by simp only [hw])
  refine ⟨⟨k, o, a, b, s, p, m, v⟩, ?_, hv, ?_, ?_, i64_in f1'⟩
  ·have z : cs.drop 19 = [] := List.drop_of_length_le (by omega)
   have f0 : cs = (cs.drop 0).take 1 ++ ((cs.drop 1).take 1 ++ ((cs.drop 2).take 1 ++ ((cs.drop 3).take 1 ++ ((cs.drop 4).take 1 ++ ((cs.drop 5).take 4 ++ ((cs.drop 9).take 10 ++ cs.drop 19)))))) := by
    have s0 : cs.drop 0 = (cs.drop 0).take 1 ++ cs.drop 1 := seg cs 0 1
    have s1 : cs.drop 1 = (cs.drop 1).take 1 ++ cs.drop 2 := seg cs 1 1
    have s2 : cs.drop 2 = (cs.drop 2).take 1 ++ cs.drop 3 := seg cs 2 1
    have s3 : cs.drop 3 = (cs.drop 3).take 1 ++ cs.drop 4 := seg cs 3 1
    have s4 : cs.drop 4 = (cs.drop 4).take 1 ++ cs.drop 5 := seg cs 4 1
    have s5 : cs.drop 5 = (cs.drop 5).take 4 ++ cs.drop 9 := seg cs 5 4
    have s6 : cs.drop 9 = (cs.drop 9).take 10 ++ cs.drop 19 := seg cs 9 10
    rw [← s6, ← s5, ← s4, ← s3, ← s2, ← s1, ← s0]
    rfl
   rw [z, e0, e1, e2, e3, e4, e5, e6] at f0
   simpa [Opd.cells, mval, Pst.cells] using f0
  ·show (m.a.length + 1) * 56 ≤ 281474976710656
   unfold reachBytes at hlb; omega
  ·unfold maxLen at hs; exact hs
theorem weightsAll_get {t : TypeId} : ∀ (l : List (DataW H)) (i : Nat) (hi : i < l.length), (DataW.weightsAll Tryz.prog t l).all (· ≤ reachBytes) = true → (l[i].weights Tryz.prog t).all (· ≤ reachBytes) = true
 | [], _, hi, _ => by simp at hi
 | d :: r, 0, _, h => by
  simp only [DataW.weightsAll, List.all_append, Bool.and_eq_true] at h
  exact h.1
 | d :: r, i + 1, hi, h => by
  simp only [DataW.weightsAll, List.all_append, Bool.and_eq_true] at h
  exact weightsAll_get r i (by simpa using hi) h.2
theorem script_open {v : Value} {x : DataW H × List MemPlace} (h : DataW.trod enc Tryz.prog w base spare held fuel 22 [v] = some x) (hw : (x.1.weights Tryz.prog 22).all (· ≤ reachBytes) = true) :
  ∃ l : List Opd, SAt w v l ∧ l.length ≤ Rows.uptoBulk x.1 := by
 rcases DataW.trod_slice Tryz.underlying22 h with ⟨hcs, _⟩ | ⟨a, len, cap, elems, rest, n, _, hcs, rfl, _, hlc, hcm, hel, hget, _, _⟩
 ·obtain rfl : v = .slice none 0 0 := by simpa using hcs
  exact ⟨[], ⟨by simp, by simp, none, 0, rfl, fun hh => absurd rfl hh⟩, Nat.zero_le _⟩
 ·obtain rfl : v = .slice (some a) len cap := by simpa using hcs
  simp only [DataW.weights, Tryz.underlying22, List.all_cons, List.all_append, Bool.and_eq_true, decide_eq_true_eq, List.length_map, bytes_op] at hw
  obtain ⟨l, hll, hlp⟩ := exists_list (fun i (x : Opd) => x.ok w ∧ ∀ j u, x.cells[j]? = some u → w.cell? (a.add (i * 19 + j)) = some u) len (fun i hi => by
   have hg := hget i hi
   rw [List.getElem?_eq_getElem (by omega), Option.bind_eq_some_iff, cells_op] at hg
   obtain ⟨cs, hc1, hc2⟩ := hg
   have hwi := weightsAll_get (elems.map (·.1)) i (by rw [List.length_map]; omega) hw.2.1
   rw [List.getElem_map] at hwi
   obtain ⟨y, rfl, hok⟩ := op_open hc2 hwi
   refine ⟨y, hok, fun j u hu => ?_⟩
   have := (cells_of hc1).2 j u hu
   rwa [Addr.add_add] at this)
  refine ⟨l, ⟨?_, fun o ho => ?_, some a, cap, by rw [hll], fun hne => ?_⟩, by rw [hll, ← hel, ← List.length_map (f := (·.1))]; exact bulk_slice _ _⟩
  ·have h6 := hw.1
   unfold reachBytes at h6
   rw [hll, ← hel]; omega
  ·obtain ⟨i, hi, rfl⟩ := List.getElem_of_mem ho
   exact (hlp i hi).1
  ·have hpos : 0 < l.length := List.length_pos_iff.2 hne
   obtain ⟨b, off, rfl⟩ := addr_plain rfl ((hlp 0 hpos).2 0 _ rfl)
   refine ⟨b, off, rfl, ?_, fun j u hu => ?_⟩
   ·have := (hlp 0 hpos).2 0 _ rfl
    exact World.block_lt_of_cell? w _ this
   ·have hj : j < l.length * 19 := by have := (List.getElem?_eq_some_iff.1 hu).1; rw [ocs_length] at this; exact this
    have e : j = j / 19 * 19 + j % 19 := by omega
    have hj6 : j / 19 < l.length := by omega
    rw [e, ocs_at l (j / 19) hj6 (j % 19) (by omega)] at hu
    have := (hlp (j / 19) hj6).2 (j % 19) u hu
    rw [Addr.add_mid, ← e] at this
    exact this
end
end
section
open Go.ChangeShapes Go.WideShapes Go.ChangeAt Go.RowKit
theorem own : ownKnob Tryz.prog.godebug = none := by kernel_rfl
theorem laidOut : laidOutB Tryz.prog = true := by kernel_rfl
theorem door_met (os : Os) (args : Array Value) : laidMetH Tryz.prog [("synod/wire.kinds", Rows.laid_synod_wire_kinds)] ((World.doorLaid Tryz.prog 400 os).forCall (fun _ _ => 0) ⟨#[], args, []⟩).memory :=
 laidMetH_of_parts3 (fuel := 8) (laidMet_of_run' 8 (by kernel_rfl) (by kernel_rfl)) (by kernel_rfl) (by kernel_rfl)
theorem all_reads (os : Os) {H : Type} (enc : TypeId × Value → H) : ∃ places, DataW.whole enc Tryz.prog ((World.doorLaid Tryz.prog 400 os).forCall (fun _ _ => 0) ⟨#[], #[.slice none 0 0], []⟩).memory Tryz.f5.params.toList Rows.allSpec.vars false #[Value.slice none 0 0].toList 8 = some ([.nil], [], places) :=
 ⟨[], by kernel_rfl⟩
theorem all_lifted (os : Os) (started : os.Started) (H : Type) (enc : TypeId × Value → H) (F : Stop.Interp) :
  ReturnsInHanded {} Tryz.checked os 5 .any ((Rows.OpenSpec.upto Rows.allSpec).preRow enc Tryz.prog Tryz.f5 Rows.allUptoRow.domain false Rows.allUptoRow.laid) (((Rows.OpenSpec.upto Rows.allSpec).at F).post enc Tryz.prog Tryz.f5 false true false false) := by
 obtain ⟨places, hx⟩ := all_reads os enc
 refine returnsInHanded_of_row (C := Tryz.checked) (s := Rows.OpenSpec.upto Rows.allSpec) own started (by kernel_rfl) Tryz.func5
  (witness_row_atRef (enc := enc) (C := Tryz.checked) false (World.doorLaid Tryz.prog 400 os) #[.slice none 0 0] rfl (by kernel_rfl) (by kernel_rfl) (by kernel_rfl)
   (OpenSpec.preRow_of_cond 8 hx (by kernel_rfl) (fun k hk => by cases hk; kernel_rfl) (by kernel_rfl) (door_met os _))) ?_
 intro W base args ds gs before hval0 hW _ hcond hsz0 hL _ _
 have hval : ∀ (j : Nat) t v, Tryz.f5.params[j]? = some t → args[j]? = some v → Value.okWide Tryz.prog W .any base t v := hval0
 have hsz : (DataW.weightsEach Tryz.prog (Tryz.f5.params.toList ++ []) (ds ++ gs)).all (· ≤ reachBytes) = true := hsz0
 have hbk : Rows.uptoBulkAll (ds ++ gs) ≤ 1048576 := of_decide_eq_true (hcond _ rfl)
 have hW' := hW
 obtain ⟨p, q, hA0, hV, rfl, hfz, hnd⟩ := hW
 have hA : DataW.TrodAll enc Tryz.prog W 0 (fun _ => true) true Tryz.f5.params.toList args.toList ds p := hA0
 rw [Tryz.params5] at hA hval hsz
 obtain ⟨v0, vs0, d0, ds0, p0, q0, hargs, rfl, rfl, h0, r0⟩ := trodAll_cons hA
 obtain ⟨rfl, rfl, rfl⟩ := trodAll_nil r0
 obtain rfl : args = #[v0] := by cases args; simp_all
 obtain ⟨rfl, rfl⟩ := trodVars_none hV
 obtain ⟨a0, len0, cap0, rfl⟩ := okWide_slice Tryz.underlying22 (hval 0 22 v0 rfl rfl)
 have k0 := h0
 have lt0 : ∀ x ∈ p0, x.block < W.heap.size := by obtain ⟨m, hm⟩ := k0; exact DataW.trod_lt m _ _ _ hm
 have hw0 : (d0.weights Tryz.prog 22).all (· ≤ reachBytes) = true := by
  simpa [DataW.weightsEach] using hsz
 have hb0 : Rows.uptoBulk d0 ≤ 1048576 := by
  simp only [List.append_nil, Rows.uptoBulkAll] at hbk
  omega
 have w0 : ∃ l, SAt W (.slice a0 len0 cap0) l ∧ l.length ≤ 1048576 := by
  obtain ⟨fuel, hf⟩ := h0
  obtain ⟨l, hl, hlb⟩ := script_open (x := (d0, p0)) hf hw0
  exact ⟨l, hl, Nat.le_trans hlb hb0⟩
 obtain ⟨l, w0, hl⟩ := w0
 clear hA0 hval0 hsz0 hsz hw0
 refine (allw_any (.slice a0 len0 cap0) l W (kinds_of_laid hL) w0 hl).mono fun e W' ⟨he, bel⟩ => ?_
 subst he
 exact ⟨_, rfl, _, _, _, [], _, [], hW', trodAll_mk1 (shut_bool Tryz.underlying4 _), (trodAll_cons_mk (Below.trod laidOut (by kernel_rfl) (of_decide_eq_true (by kernel_rfl)) k0 bel lt0) trodAll_mk0), rfl, bel.frame _, fun h => by cases h⟩
theorem all_holds : Rows.AllUptoSaid :=
 OpenClaim.holds_of_cond 5 Tryz.f5 rfl rfl rfl rfl rfl rfl rfl ⟨rfl, rfl, rfl, rfl, rfl⟩ rfl rfl rfl rfl rfl (by kernel_rfl) Tryz.func5 (by kernel_rfl)
  (of_decide_eq_true (by kernel_rfl)) (by unfold Func.isWrapper; first | (rw [if_pos (by decide +kernel)]; kernel_rfl) | (rw [if_neg (by decide +kernel)]; exact ⟨rfl, rfl⟩))
  (fun os started H enc _ F => by rw [OpenClaim.pre_eq_preRow]; exact all_lifted os started H enc F)
end
end Go.Proofs.YtnnhnekfokbooaaGreatDoor
