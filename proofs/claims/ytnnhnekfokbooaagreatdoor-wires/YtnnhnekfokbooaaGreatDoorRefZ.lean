/- The law's play of a script of Packs and Unpacks. -/
import Derived.Test.YtnnhnekfokbooaaGreatDoorRefY
namespace Go.Proofs.YtnnhnekfokbooaaGreatDoor
open Go.RowKit
set_option linter.unusedSimpArgs false
set_option linter.unusedVariables false

def ocs : List Opd → List Value
  | [] => []
  | o :: l => o.cells ++ ocs l
theorem ocs_length (l : List Opd) : (ocs l).length = l.length * 19 := by
  induction l with
  | nil => rfl
  | cons o l ih => simp [ocs, ih, Opd.cells]; omega
theorem ocs_append (a b : List Opd) : ocs (a ++ b) = ocs a ++ ocs b := by
  induction a with
  | nil => rfl
  | cons o l ih => simp [ocs, ih]
theorem ocs_at : ∀ (l : List Opd) (k : Nat) (hk : k < l.length) (i : Nat) (_ : i < 19), (ocs l)[k * 19 + i]? = (l[k]).cells[i]?
  | [], k, hk, _, _ => by simp at hk
  | o :: l, 0, _, i, hi => by
    rw [ocs, Nat.zero_mul, Nat.zero_add, List.getElem?_append_left (by simpa [Opd.cells] using hi)]
    rfl
  | o :: l, k + 1, hk, i, hi => by
    have e : (k + 1) * 19 + i - o.cells.length = k * 19 + i := by simp [Opd.cells]; omega
    rw [ocs, List.getElem?_append_right (by simp [Opd.cells]; omega), e]
    exact ocs_at l k (by simpa using hk) i hi
/-- A step's slice is a slice. -/
def Opd.ok (w : World) (o : Opd) : Prop := VAt w o.v o.m.a ∧ (o.m.a.length + 1) * 56 ≤ 281474976710656 ∧ o.s.size ≤ 9223372036854775807
theorem Opd.ok.below {w w' : World} {o : Opd} (h : o.ok w) (hb : Below w.heap.size w w') : o.ok w' := ⟨h.1.below hb, h.2⟩
theorem Opd.ok.slice {w : World} {o : Opd} (h : o.ok w) : ∃ ao n cap, o.v = .slice ao n cap := by
  obtain ⟨ao, cap, e, _⟩ := h.1.form
  exact ⟨ao, _, cap, e⟩
theorem Opd.one {w : World} {o : Opd} (h : o.ok w) : ∀ u ∈ o.cells, u.oneCell' = true := by
  obtain ⟨ao, n, cap, e⟩ := h.slice
  intro u hu
  simp only [Opd.cells, e, List.mem_cons, List.not_mem_nil, or_false] at hu
  rcases hu with rfl | rfl | rfl | rfl | rfl | rfl | rfl | rfl | rfl | rfl | rfl | rfl | rfl | rfl | rfl | rfl | rfl | rfl | rfl <;> rfl
theorem ocs_one {w : World} : ∀ (l : List Opd), (∀ o ∈ l, o.ok w) → ∀ u ∈ ocs l, u.oneCell' = true
  | [], _, u, hu => by simp [ocs] at hu
  | o :: l, h, u, hu => by
    rw [ocs, List.mem_append] at hu
    rcases hu with hu | hu
    · exact Opd.one (h o List.mem_cons_self) u hu
    · exact ocs_one l (fun x hx => h x (List.mem_cons_of_mem _ hx)) u hu
/-- A script that came in. -/
structure SAt (w : World) (v : Value) (l : List Opd) : Prop where
  len : l.length * 192 ≤ 140737488351232
  each : ∀ o ∈ l, o.ok w
  form : ∃ ao cap, v = .slice ao l.length cap ∧ (l ≠ [] → ∃ g off, ao = some ⟨g, off, none⟩ ∧ g < w.heap.size ∧ ∀ j u, (ocs l)[j]? = some u → w.cell? ⟨g, off + j, none⟩ = some u)

def op1 : Opd := ⟨12, 0, 0, 0, ⟨#[]⟩, ⟨0, 0, 0, ⟨#[]⟩⟩, ⟨1, 0, 0, 8, 0, ⟨0, 0, 0, ⟨#[]⟩⟩, []⟩, .slice none 0 0⟩
def op2 : Opd := ⟨13, 0, 0, 0, ⟨#[1, 1, 2, 9, 0]⟩, ⟨0, 0, 0, ⟨#[]⟩⟩, ⟨0, 0, 0, 0, 0, ⟨0, 0, 0, ⟨#[]⟩⟩, []⟩, .slice none 0 0⟩
theorem op1_ok (w : World) : op1.ok w := ⟨rvat_nil w, by decide, by decide⟩
theorem op2_ok (w : World) : op2.ok w := ⟨rvat_nil w, by decide, by decide⟩
theorem Tryz.infoOp : (Tryz.prog.info? 38).map (fun i => (i.zero, i.size, i.bytes)) = some (some (.agg #[.int .i64 0, .int .i64 0, .int .i64 0, .int .i64 0, .string ⟨#[]⟩, .int .i64 0, .int .i64 0, .int .i64 0, .string ⟨#[]⟩, .int .i64 0, .int .i64 0, .int .i64 0, .int .i64 0, .int .i64 0, .int .i64 0, .int .i64 0, .int .i64 0, .string ⟨#[]⟩, .slice none 0 0]), 19, 192) := by kernel_rfl

section
variable {P : Program}
theorem run_append_zero (w : World) (t ty e : TypeId) (i : TypeInfo) (ht : P.underlying t = some (.slice e)) (hi : P.info? e = some i) (g n cap : Nat) (hle : n ≤ cap) (x : Option Addr) (c : Nat) :
    (Builtin.append_ #[t, t] ty #[.slice (some ⟨g, 0, none⟩) n cap, .slice x 0 c]).run P w = .ok (.slice (some ⟨g, 0, none⟩) n cap) w := by
  have hl : ∀ (y : Addr), (loadCells y 0).run P w = .ok #[] w := fun y => by simpa using run_loadCells_list (P := P) w y [] (by simp)
  cases x <;> simp [Builtin.append_, run_underlying ht, sizeOf, typeInfo, hi, Builtin.lenOf, Builtin.firstCells, hle, hl, storeCells]
/-- append(all, script...): the script's steps stand behind the others. -/
theorem wpList_append_script {w : World} {ops : Array Oper} {rest : List Oper} {o : Oper} {a : Act} {Q : Exit → Act → World → Prop} (hgd : o.guard = none) (s x : Operand) (t : TypeId)
    (ho : o.op = .call { callee := .builtin .append, args := #[s, x], argTypes := #[t, t] })
    (base : Nat) (e : TypeId) (i : TypeInfo) (z : Value) (ht : P.underlying t = some (.slice e)) (hi : P.info? e = some i) (hz : i.zero = some z)
    (hsize : i.size = 19) (hby : i.bytes = 192) (hzs : z.cells.size = 19)
    (g1 cap1 : Nat) (hs : a.eval s = .slice (some ⟨g1, 0, none⟩) 2 cap1) (xs : List Value) (hown : w.ownsRow base e 19 (.slice (some ⟨g1, 0, none⟩) 2 cap1) 2 xs)
    (v : Value) (l : List Opd) (hx : a.eval x = v) (hv : SAt w v l) (hbase : base ≤ w.heap.size)
    (h : ∀ g cap w', w'.ownsRow base e 19 (.slice (some ⟨g, 0, none⟩) (2 + l.length) cap) (2 + l.length) (xs ++ ocs l) → w.grownBy w' (some g1) → wpList P ops Q rest (a.put o.dst (.slice (some ⟨g, 0, none⟩) (2 + l.length) cap)) w') : wpList P ops Q (o :: rest) a w := by
  obtain ⟨ao, cap, rfl, hf⟩ := hv.form
  have hlen := hv.len
  by_cases hl : l = []
  · subst hl
    refine wpList_plain hgd fun K hK => ?_
    have hcap : 2 ≤ cap1 := by rcases hown.2 with ⟨h1, _⟩ | ⟨g, c, cur, h1, _, _, h2, _⟩ <;> cases h1; exact h2
    have hrun := run_append_zero (P := P) w t o.type e i ht hi g1 2 cap1 hcap ao cap
    unfold Oper.wp execOp
    simp only [ho, resolve, invoke, builtin, Sem.run_bind, Sem.run_pure, Result.andThen_ok, List.map_toArray, List.map_cons, List.map_nil, hs, hx, List.length_nil, hrun]
    exact hK _ _ (h g1 cap1 w (by simpa [ocs] using hown) ⟨rfl, rfl, rfl, Nat.le_refl _, fun _ _ _ => rfl⟩)
  · obtain ⟨g, off, rfl, hg, hc⟩ := hf hl
    have hpos : 0 < l.length := List.length_pos_iff.2 hl
    refine wpList_append_lies w hgd s x t ho base e i z 19 192 ht hi hz hsize hby hzs (by decide) _ 2 xs hs hown ⟨g, off, none⟩ l.length cap (ocs l) hx (ocs_length l) (fun j u hj => by rw [Addr.add_mid]; exact hc j u hj) (ocs_one l hv.each) hpos (by unfold maxLen; omega) (by omega) hbase _ rfl ?_
    intro g' cap' w' k1 k2 _ _
    exact h g' cap' w' k1 k2
end

theorem step_of (o : Opd) (wb H : Nat) (vs : List Value) (w : World) (h : WOK w wb H vs) (hk : Kinds w) (ho : o.ok w) (hlo : ¬ o.k < 12) (hhi : ¬ 13 < o.k) (hlen : vs.length ≤ 5000000000000) :
    Calls Tryz.prog 7 #[.pointer (some ⟨wb, 0, none⟩), .agg o.cells.toArray] w fun e w' => e = .returned (.bool true) ∧ (∃ vs', vs'.length ≤ vs.length + 4 ∧ WOK w' wb H vs') ∧ Keeps (fun k => k = wb ∨ H ≤ k) w w' := by
  rcases (show o.k = 12 ∨ o.k = 13 from by omega) with h12 | h13
  · refine (step_pack o wb H vs w h hk h12 ho.1 ho.2.1).mono ?_
    rintro e w' ⟨rfl, hw, hb⟩
    exact ⟨rfl, ⟨vs, by omega, hw⟩, Keeps.ofBelow hb⟩
  · refine (step_unpack o wb H vs w h hk h13 ho.2.2 hlen ho.slice).mono ?_
    rintro e w' ⟨rfl, ⟨vs', he, hw⟩, hK⟩
    exact ⟨rfl, ⟨vs', by omega, hw⟩, hK⟩

set_option maxHeartbeats 8000000 in
set_option maxRecDepth 100000 in
theorem plays_any (v : Value) (l : List Opd) (w : World) (hk : Kinds w) (hv : SAt w v l) :
    Calls Tryz.prog 6 #[v, .int .i64 12, .int .i64 13] w fun e w' => e = .returned (.bool true) ∧ Below w.heap.size w w' := by
  obtain ⟨i0, hi, hz0, hz1, hz2⟩ := info_parts Tryz.infoOp
  obtain ⟨sa, sc, hve, hsf⟩ := hv.form
  subst hve
  have hlen := hv.len
  have h12 : ∀ u ∈ op1.cells ++ op2.cells, u.oneCell' = true := fun u hu => by
    rw [List.mem_append] at hu
    rcases hu with hu | hu
    · exact Opd.one (op1_ok w) u hu
    · exact Opd.one (op2_ok w) u hu
  go_enter Tryz.func6, Tryz.ntmps6
  go_upto_region 6 with (at_builtin; refine wpList_append_lies _ rfl (.tmp 21) (.tmp 25) 22 rfl (w.heap.size + 1) 38 i0 _ 19 192 Tryz.underlying22 hi hz0 hz1 hz2 rfl (by decide) (.slice none 0 0) 0 [] rfl (World.ownsRow_nil _ _ _ _) _ 2 2 (op1.cells ++ op2.cells) rfl rfl (news_new _ _ (by simp) _ _) h12 (by decide) (by decide) (by decide) (by simp) _ rfl ?_; intro g1 cap1 w1 hown1 hgr1 hat1 hlt1)
  have hwb1 := blk_grown hgr1 (blk_alloc (blk_new w _) _) (by simp [Value.ownBlock])
  have hB1 : Below w.heap.size w w1 := (((Below.refl _ w).alloc (Nat.le_refl _) _).alloc (by simp) _).trans ⟨hgr1.os, hgr1.tape, hgr1.output, hgr1.size, fun k hk => hgr1.block k (by simp; omega) (by simp [Value.ownBlock])⟩
  have hv1 : SAt w1 (.slice sa l.length sc) l := by
    refine ⟨hv.len, fun o ho => (hv.each o ho).below hB1, sa, sc, rfl, fun hne => ?_⟩
    obtain ⟨g, off, e, hg, hc⟩ := hsf hne
    refine ⟨g, off, e, by have := hB1.size; omega, fun j u hj => ?_⟩
    rw [hB1.cell (p := ⟨g, off + j, none⟩) hg]
    exact hc j u hj
  have hown1' : w1.ownsRow (w.heap.size + 1) 38 19 (.slice (some ⟨g1, 0, none⟩) 2 cap1) 2 (op1.cells ++ op2.cells) := by simpa using hown1
  clear hown1 hgr1 hat1
  have hg1 := (World.ownsRow.lt hown1' g1 rfl).1
  go_upto_region 7 with (at_builtin; refine wpList_append_script rfl (.tmp 27) (.tmp 28) 22 rfl (w.heap.size + 1) 38 i0 _ Tryz.underlying22 hi hz0 hz1 hz2 rfl g1 cap1 rfl (op1.cells ++ op2.cells) hown1' (.slice sa l.length sc) l rfl hv1 (by omega) ?_; intro g2 cap2 w2 hown2 hgr2)
  have hwb2 := blk_grown hgr2 hwb1 (by simp; omega)
  have hB2 : Below w.heap.size w w2 := hB1.trans ⟨hgr2.os, hgr2.tape, hgr2.output, hgr2.size, fun k hk => hgr2.block k (by have := hB1.size; omega) (by simp; omega)⟩
  clear hown1' hgr2 hwb1 hv1 h12
  obtain ⟨L, hLd⟩ : ∃ L, L = op1 :: op2 :: l := ⟨_, rfl⟩
  have hLl : L.length = 2 + l.length := by rw [hLd]; simp; omega
  have hLo : ∀ o ∈ L, o.ok w := by
    rw [hLd]
    intro o ho
    rcases List.mem_cons.1 ho with rfl | ho
    · exact op1_ok w
    · rcases List.mem_cons.1 ho with rfl | ho
      · exact op2_ok w
      · exact hv.each o ho
  have hLc : (op1.cells ++ op2.cells) ++ ocs l = ocs L := by rw [hLd]; simp [ocs]
  rw [hLc, ← hLl] at hown2
  obtain ⟨cur, hg2, hg2w, hrow⟩ : ∃ cur : Array Value, w2.heap[g2]? = some (.cells cur 38 (0, 0)) ∧ w.heap.size + 1 ≤ g2 ∧ cur.toList.take (L.length * 19) = ocs L := by
    rcases hown2.2 with ⟨h1, _⟩ | ⟨g, cap', cur, h1, h2, h3, _, _, _, h4⟩
    · cases h1
    · cases h1; exact ⟨cur, h3, h2, h4⟩
  have hat : ∀ j (hj : j < L.length) i (hi : i < 19), cur[j * 19 + i]? = L[j].cells[i]? := fun j hj i hi => by
    rw [← ocs_at L j hj i hi, ← hrow, List.getElem?_take, if_pos (by omega), Array.getElem?_toList]
  have hN : L.length * 192 ≤ 140737488351616 := by rw [hLl]; omega
  have hW2 : WOK w2 w.heap.size w2.heap.size [] := ⟨⟨.slice none 0 0, hwb2, World.ownsRow_nil _ _ _ _⟩, fun k hk => by simp at hk, rfl, hk.1, Nat.le_refl _, by have := lt_of_block hg2; omega⟩
  have hg2l := lt_of_block hg2
  generalize w2.heap.size = H at *
  rw [← hLl]
  clear hwb2 hrow hown2 hLc hLd hLl
  go_wp2_with fail
  go_loopw [9, 10] (fun i q wr => ∃ (j : Nat) (vs : List Value), j ≤ L.length ∧ i = .int .i64 j ∧ vs.length ≤ 4 * j ∧ WOK wr w.heap.size H vs ∧ wr.heap[g2]? = some (.cells cur 38 (0, 0)) ∧ Below w.heap.size w wr) (fun i _ _ => L.length - (intOf i).toNat)
  case atStart => exact ⟨0, [], Nat.zero_le _, rfl, Nat.le_refl _, hW2, hg2, hB2⟩
  case round =>
    obtain ⟨j, vs, hj, rfl, hvl, hW, hgr, hBr⟩ := hrel
    clear hW2 hg2 hB2
    by_cases hlt : j < L.length
    · have hoj := hLo L[j] (List.getElem_mem hlt)
      have hra : Hid (World.rangeAt wr g2 (j * 19) L[j].cells) := show World.rangeAt wr g2 (j * 19) L[j].cells from fun i u hu => by
        have hi19 : i < 19 := by have := (List.getElem?_eq_some_iff.1 hu).1; simpa [Opd.cells] using this
        rw [blk_cell hgr, hat j hlt i hi19]
        exact hu
      have hkc : wr.cell? ⟨g2, j * 19, none⟩ = some (.int .i64 L[j].k) := by
        have := hat j hlt 0 (by decide)
        rw [blk_cell hgr]
        simpa [Opd.cells] using this
      generalize L[j] = o at *
      have q0 : (0 : Int) ≤ (j : Int) := by omega
      have q1 : (j : Int) < (L.length : Int) := by omega
      by_cases hlo : o.k < 12
      · have hd : decide (o.k < 12) = true := by simpa using hlo
        go_wp2_with fail
        go_roundw
        case rel => exact ⟨j + 1, vs, by omega, by go_num, by omega, hW, hgr, hBr⟩
        case measure => simp [intOf]; omega
      have hd : decide (o.k < 12) = false := by simpa using hlo
      by_cases hhi : 13 < o.k
      · have hd2 : decide (13 < o.k) = true := by simpa using hhi
        go_wp2_with fail
        go_roundw
        case rel => exact ⟨j + 1, vs, by omega, by go_num, by omega, hW, hgr, hBr⟩
        case measure => simp [intOf]; omega
      have hd2 : decide (13 < o.k) = false := by simpa using hhi
      have hi19 : Hid ((Tryz.prog.info? 38).map (·.size) = some o.cells.length) := show _ = _ from (by rw [hi]; simp [hz1, Opd.cells])
      have hkr := hk.below hBr
      have hor := hoj.below hBr
      have hvs : vs.length ≤ 5000000000000 := by omega
      have hvs4 : vs.length + 4 ≤ 5000000000000 := by omega
      have hgwb : g2 ≠ w.heap.size := by omega
      go_upto_region 11 with (fail)
      go_wp2_with (refine wpList_load_mid rfl 38 (.tmp 55) rfl g2 (j * 19) rfl o.cells _ hra.out Tryz.underlying38 rfl hi19.out ?_)
      refine (step_of o w.heap.size H vs wr hW hkr hor (by omega) (by omega) hvs).mono ?_
      rintro e w3 ⟨rfl, ⟨vs3, hl3, hW3⟩, hK3⟩
      have hg3 := blk_keeps hK3 hgr (by omega)
      have hB3 : Below w.heap.size w w3 := hBr.trans ⟨hK3.os, hK3.tape, hK3.output, hK3.size, fun k hkk => hK3.block k (by have := hBr.size; omega) (by omega)⟩
      clear hra hkc hW hgr hBr hK3 hkr hor hi19
      go_wp2_with fail
      refine (looks_of w.heap.size H vs3 w3 hW3 (by omega)).mono ?_
      rintro e w4 ⟨rfl, hW4, hB4⟩
      have hg4 := blk_below hB4 hg3
      have hBw4 := hB3.trans (hB4.mono hB3.size)
      clear hW3 hg3 hB3 hB4
      go_wp2_with fail
      go_roundw
      case rel => exact ⟨j + 1, vs3, by omega, by go_num, by omega, hW4, hg4, hBw4⟩
      case measure => simp [intOf]; omega
    · go_wp2_with fail
      go_ret
      exact ⟨rfl, hBr⟩

theorem wires_any (v : Value) (l : List Opd) (w : World) (hk : Kinds w) (hv : SAt w v l) :
    Calls Tryz.prog 3 #[v] w fun e w' => e = .returned (.bool true) ∧ Below w.heap.size w w' := by
  have hP := plays_any v l w hk hv
  obtain ⟨sa, sc, rfl, _⟩ := hv.form
  go_enter Tryz.func3, Tryz.ntmps3
  go_wp2_with fail
  refine hP.mono ?_
  rintro e w1 ⟨rfl, hB⟩
  go_wp2_with fail
  go_ret
  exact ⟨rfl, hB⟩
end Go.Proofs.YtnnhnekfokbooaaGreatDoor
