/- RnH -/
import Derived.Test.YtnnhnekfokbooaaGreatDoorAl15
set_option linter.unusedSimpArgs false
set_option linter.unusedVariables false
set_option maxRecDepth 100000
namespace Go.Proofs.YtnnhnekfokbooaaGreatDoor
section
open Go.RowKit
section
variable {P : Program}
theorem run_append_no9 (w : World) (t ty e : TypeId) (i : TypeInfo) (ht : P.underlying t = some (.slice e)) (hi : P.info? e = some i) (va : Option Addr) (n cap : Nat) (hle : n ≤ cap) (x : Option Addr) (c : Nat) :
  (Builtin.append_ #[t, t] ty #[.slice va n cap, .slice x 0 c]).run P w = .ok (.slice va n cap) w := by
 have hl : ∀ (y : Addr), (loadCells y 0).run P w = .ok #[] w := fun y => by simpa using run_loadCells_list (P := P) w y [] (by simp)
 cases va <;> cases x <;> simp [Builtin.append_, run_underlying ht, sizeOf, typeInfo, hi, Builtin.lenOf, Builtin.firstCells, hle, hl, storeCells]
theorem wpList_append_nms {w : World} {ops : Array Oper} {rest : List Oper} {o : Oper} {a : Act} {Q : Exit → Act → World → Prop} (hgd : o.guard = none) (s x : Operand) (t : TypeId)
  (ho : o.op = .call { callee := .builtin .append, args := #[s, x], argTypes := #[t, t] })
  (base : Nat) (e : TypeId) (i : TypeInfo) (z : Value) (ht : P.underlying t = some (.slice e)) (hi : P.info? e = some i) (hz : i.zero = some z)
  (hsize : i.size = 10) (hby : i.bytes = 104) (hzs : z.cells.size = 10)
  (va : Option Addr) (vn vc : Nat) (hs : a.eval s = .slice va vn vc) (A : List Nm) (hown : w.ownsRow base e 10 (.slice va vn vc) A.length (ncs A)) (hA : A.length ≤ 1000)
  (ao : Option Addr) (c : Nat) (B : List Nm) (m : Nat) (hm : B.length = m) (hx : a.eval x = .slice ao m c) (hc : B ≠ [] → ∃ ad, ao = some ad ∧ ∀ j u, (ncs B)[j]? = some u → w.cell? (ad.add j) = some u) (h1 : ∀ u ∈ ncs B, u.oneCell' = true) (hB : m ≤ 1000) (hbase : base ≤ w.heap.size)
  (h : ∀ va' vn' vc' w', w'.ownsRow base e 10 (.slice va' vn' vc') (A ++ B).length (ncs (A ++ B)) → w.grownBy w' (Value.slice va vn vc).ownBlock → wpList P ops Q rest (a.put o.dst (.slice va' vn' vc')) w') : wpList P ops Q (o :: rest) a w := by
 subst hm
 by_cases hl : B = []
 ·subst hl
  refine wpList_plain hgd fun K hK => ?_
  have hcap : vn ≤ vc := by
   rcases hown.2 with ⟨h1, _⟩ | ⟨g, c, cur, h1, _, _, h2, _⟩
   ·injection h1 with _ e1 e2
    omega
   ·injection h1 with _ e1 e2
    omega
  have hrun := run_append_no9 (P := P) w t o.type e i ht hi va vn vc hcap ao c
  unfold Oper.wp execOp
  simp only [ho, resolve, invoke, builtin, Sem.run_bind, Sem.run_pure, Result.andThen_ok, List.map_toArray, List.map_cons, List.map_nil, hs, hx, List.length_nil, hrun]
  exact hK _ _ (h va vn vc w (by simpa using hown) ⟨rfl, rfl, rfl, Nat.le_refl _, fun _ _ _ => rfl⟩)
 ·obtain ⟨ad, rfl, hcc⟩ := hc hl
  have hpos : 0 < B.length := List.length_pos_iff.2 hl
  refine wpList_append_lies w hgd s x t ho base e i z 10 104 ht hi hz hsize hby hzs (by decide) _ A.length (ncs A) hs hown ad B.length c (ncs B) hx (ncs_length B) hcc h1 hpos (by unfold maxLen; omega) (by omega) hbase _ rfl ?_
  intro g' cap' w' k1 k2 _ _
  exact h _ _ _ w' (by rw [List.length_append, ncs_append]; exact k1) k2
end
section
variable {w : World} {qb Rb : Nat} {v : Value} {x : Qs}
theorem rthere_yes (h : QAt w qb Rb v x) {k : Nat} (hk : k < x.net.length) : Calls Tryz.prog 71 #[P6 qb, I6 (k : Int)] w fun e w' => e = .returned (.bool true) ∧ w' = w := by
 obtain ⟨a, c, _, d1⟩ := h.c1
 have q0 : (0 : Int) ≤ (k : Int) := by omega
 have q1 : (k : Int) < (x.net.length : Int) := by omega
 have m0 : decide ((0 : Int) ≤ (k : Int)) = true := by simp
 have m1 : decide ((k : Int) < (x.net.length : Int)) = true := by simp; omega
 go_enter Tryz.func71, Tryz.ntmps71
 go_wp2_with fail
 go_ret
 exact ⟨rfl, rfl⟩
theorem rthere_no (h : QAt w qb Rb v x) {k : Int} (hk : k < 0 ∨ (x.net.length : Int) ≤ k) : Calls Tryz.prog 71 #[P6 qb, I6 k] w fun e w' => e = .returned (.bool false) ∧ w' = w := by
 obtain ⟨a, c, _, d1⟩ := h.c1
 by_cases h0 : k < 0
 ·have m0 : decide ((0 : Int) ≤ k) = false := by simp; omega
  have m1 : ¬ (0 : Int) ≤ k := by omega
  go_enter Tryz.func71, Tryz.ntmps71
  go_wp2_with fail
  go_ret
  exact ⟨rfl, rfl⟩
 ·have q0 : (0 : Int) ≤ k := by omega
  have q1 : ¬ k < (x.net.length : Int) := by omega
  have m0 : decide ((0 : Int) ≤ k) = true := by simp; omega
  have m1 : decide (k < (x.net.length : Int)) = false := by simp; omega
  go_enter Tryz.func71, Tryz.ntmps71
  go_wp2_with fail
  go_ret
  exact ⟨rfl, rfl⟩
theorem owns_zero {w : World} {base : Nat} {e : TypeId} {size : Nat} {v : Value} {n : Nat} {xs : List Value} (h : w.ownsRow base e size v n xs) : w.ownsRow 0 e size v n xs := by
 refine ⟨h.1, ?_⟩
 rcases h.2 with h1 | ⟨g, cap, cur, h1, h2, h3⟩
 ·exact .inl h1
 ·exact .inr ⟨g, cap, cur, h1, Nat.zero_le _, h3⟩
theorem map_erase {α β : Type} (f : α → β) : ∀ (l : List α) (k : Nat), (l.eraseIdx k).map f = (l.map f).eraseIdx k
 | [], k => rfl
 | a :: l, 0 => rfl
 | a :: l, k + 1 => by simp [map_erase f l k]
theorem rtake_fin (h : QAt w qb Rb v x) {l : List Nm} (h1 : l.map (·.m) = x.net) (h3 : ∀ y ∈ l, y.okt w) {k : Nat} (hk : k < x.net.length) (hll : l.length = x.net.length) {w1 w2 : World} (hk1 : Keeps (fun _ => False) w w1) {va1 : Option Addr} {vn1 vc1 : Nat} (hown1 : w1.ownsRow w.heap.size 36 10 (.slice va1 vn1 vc1) (l.take k).length (ncs (l.take k))) {va2 : Option Addr} {vn2 vc2 : Nat} (hown2 : w2.ownsRow w.heap.size 36 10 (.slice va2 vn2 vc2) (l.take k ++ l.drop (k + 1)).length (ncs (l.take k ++ l.drop (k + 1)))) (hgr2 : w1.grownBy w2 (Value.slice va1 vn1 vc1).ownBlock) :
  w2.heap[qb]? = some (.cells #[.slice (some (A6 Rb 0)) x.R.length x.R.length, v] 74 (0, 0)) ∧ QTo w qb Rb v (w2.setCell (A6 qb 1) (.slice va2 vn2 vc2)) (x.without k) := by
 have hB : Keeps (fun _ => False) w w2 := by
  have k2 := Keeps.ofGrown hgr2
  refine ⟨k2.os.trans hk1.os, k2.tape.trans hk1.tape, k2.output.trans hk1.output, Nat.le_trans hk1.size k2.size, fun b hb _ => ?_⟩
  rw [k2.block b (Nat.lt_of_lt_of_le hb hk1.size) (fun e => by have := (World.ownsRow.lt hown1 b e).1; omega)]
  exact hk1.block b hb id
 have hsyn := blk_keeps hB h.syn id
 refine ⟨hsyn, ?_⟩
 have hqlt := lt_of_block h.syn
 have hkS : Keeps (fun b => b = qb) w (w2.setCell (A6 qb 1) (.slice va2 vn2 vc2)) := (hB.mono (fun _ _ h => h.elim)).trans (keeps_set _ _ _ _)
 have hno : (Value.slice va2 vn2 vc2).ownBlock ≠ some qb := fun e => by have := (World.ownsRow.lt hown2 qb e).1; omega
 rw [← List.eraseIdx_eq_take_drop_succ] at hown2
 have hnet : (x.without k).net = x.net.eraseIdx k := rfl
 refine ⟨.slice va2 vn2 vc2, ⟨(blk_set hsyn 1 _).trans rfl, h.reps.keeps hkS (fun e => h.ne e.symm), ⟨l.eraseIdx k, ?_, owns_set (owns_zero hown2) hno _, fun y hy => (h3 y (List.mem_of_mem_eraseIdx hy)).keeps hkS (fun b cs hc e => h.vote hc (.inl e))⟩, h.n0, h.n1, ?_⟩, fun b hb => ?_, hkS.mono (fun b _ e => .inl e)⟩
 ·rw [hnet, ← h1]; exact (map_erase _ l k)
 ·rw [hnet]
  have := List.length_eraseIdx_le x.net k
  have := h.full
  omega
 ·rcases hb with hb | hb | hb
  ·exact .inl (.inl hb)
  ·exact .inl (.inr (.inl hb))
  ·exact .inr ((World.ownsRow.lt hown2 b hb).1)
set_option maxHeartbeats 4000000 in
theorem rtake_any (h : QAt w qb Rb v x) {k : Nat} (hk : k < x.net.length) : Calls Tryz.prog 72 #[P6 qb, I6 (k : Int)] w fun e w' => e = .returned (.tuple #[]) ∧ QTo w qb Rb v w' (x.without k) := by
 obtain ⟨i0, hi, hz0, hz1, hz2⟩ := info_parts Tryz.infoMessage
 obtain ⟨l, h1, h2, h3⟩ := h.net
 have hll : l.length = x.net.length := by rw [← h1, List.length_map]
 have hfull := h.full
 rcases h2.2 with ⟨_, h0⟩ | ⟨g, cap, cur, rfl, hbg, hg, hnc, hcm, hcs, htake⟩
 ·omega
 have hone : ∀ u ∈ ncs l, u.oneCell' = true := ncs_one _ (fun y hy => (h3 y hy).1)
 have H1a : Hid (∀ u ∈ ncs (l.take k), u.oneCell' = true) := ncs_one _ (fun y hy => (h3 y (List.mem_of_mem_take hy)).1)
 have H1b : Hid (∀ u ∈ ncs (l.drop (k + 1)), u.oneCell' = true) := ncs_one _ (fun y hy => (h3 y (List.mem_of_mem_drop hy)).1)
 have hsplit : ncs l = ncs (l.take k) ++ ncs (l.drop k) := by rw [← ncs_append, List.take_append_drop]
 have hsplit2 : ncs l = ncs (l.take (k + 1)) ++ ncs (l.drop (k + 1)) := by rw [← ncs_append, List.take_append_drop]
 have hcell : ∀ (W : World), W.heap[g]? = some (.cells cur 36 (0, 0)) → ∀ j u, (ncs l)[j]? = some u → W.cell? (A6 g j) = some u := fun W hW j u hu => by
  rw [blk_cell hW, ← Array.getElem?_toList]
  have hjl : j < l.length * 10 := by have := (List.getElem?_eq_some_iff.1 hu).1; rw [ncs_length] at this; exact this
  have e2 : cur.toList[j]? = (cur.toList.take (l.length * 10))[j]? := by rw [List.getElem?_take, if_pos hjl]
  rw [e2, htake]; exact hu
 have Hc1 : Hid (∀ (W : World), W.heap[g]? = some (.cells cur 36 (0, 0)) → ∀ j u, (ncs (l.take k))[j]? = some u → W.cell? (((A6 g 0) : Addr).add j) = some u) := fun W hW j u hu => by
  rw [Addr.add_mid, Nat.zero_add]
  refine hcell W hW j u ?_
  rw [hsplit, List.getElem?_append_left ((List.getElem?_eq_some_iff.1 hu).1)]; exact hu
 have Hc2 : Hid (∀ (W : World), W.heap[g]? = some (.cells cur 36 (0, 0)) → ∀ j u, (ncs (l.drop (k + 1)))[j]? = some u → W.cell? ((⟨g, (k + 1) * 10, none⟩ : Addr).add j) = some u) := fun W hW j u hu => by
  rw [Addr.add_mid]
  refine hcell W hW _ u ?_
  have e4 : (ncs (l.take (k + 1))).length = (k + 1) * 10 := by rw [ncs_length, List.length_take, Nat.min_eq_left (by omega)]
  rw [hsplit2, List.getElem?_append_right (by omega), e4, Nat.add_sub_cancel_left]; exact hu
 have d1 : w.cell? (A6 qb 1) = some (.slice (some (A6 g 0)) l.length cap) := (blk_cell h.syn 1).trans rfl
 have hgq : g ≠ qb := fun e => h.vq (by rw [e]; rfl)
 clear hcell hsplit hsplit2 hone
 have q0 : (0 : Int) ≤ (k : Int) := by omega
 have q1 : (k : Int) ≤ (l.length : Int) := by omega
 have q2 : (k : Int) ≤ (cap : Int) := by omega
 have q3 : (0 : Int) ≤ (k : Int) + 1 := by omega
 have q4 : (k : Int) + 1 ≤ (l.length : Int) := by omega
 have q5 : (l.length : Int) ≤ (cap : Int) := by omega
 have q6 : (k : Int) + 1 ≤ (cap : Int) := by omega
 have vw : IntKind.i64.wrap ((k : Int) + 1) = (k : Int) + 1 := wrap_ok _ (by omega) (by omega)
 have hta : (l.take k).length = k := by rw [List.length_take]; omega
 have hda : (l.drop (k + 1)).length = l.length - (k + 1) := by rw [List.length_drop]
 have hkl : k < l.length := by omega
 have hl200 : l.length ≤ 200 := by omega
 have Hll : Hid (l.length = x.net.length) := hll
 have Hk : Hid (k < x.net.length) := hk
 clear hll hk hfull
 go_enter Tryz.func72, Tryz.ntmps72
 go_upto_region 2 with (at_builtin; refine wpList_append_nms rfl (.tmp 5) (.tmp 11) 50 rfl w.heap.size 36 i0 _ Tryz.underlying50 hi hz0 hz1 hz2 rfl none 0 0 rfl [] (World.ownsRow_nil _ _ _ _) (by decide) (some (A6 g 0)) cap (l.take k) k hta rfl (fun _ => ⟨_, rfl, Hc1.out _ hg⟩) H1a.out (by omega) (Nat.le_refl _) ?_; intro va1 vn1 vc1 w1 hown1 hgr1)
 rw [List.nil_append] at hown1
 have hk1 : Keeps (fun _ => False) w w1 := (Keeps.ofGrown hgr1).mono (fun k _ h => by simp [Value.ownBlock] at h)
 have hg1 := blk_keeps hk1 hg id
 have d2 : w1.cell? (A6 qb 1) = some (.slice (some (A6 g 0)) l.length cap) := (blk_cell (blk_keeps hk1 h.syn id) 1).trans rfl
 have hle1 : (l.take k).length ≤ 1000 := by omega
 have hle2 : l.length - (k + 1) ≤ 1000 := by omega
 clear d1 hgr1
 by_cases hce : cap = k + 1
 ·have hnil : l.drop (k + 1) = [] := List.drop_of_length_le (by omega)
  have q7 : l.length - (k + 1) = 0 := by omega
  have q8 : cap - (k + 1) = 0 := by omega
  have hda0 : (l.drop (k + 1)).length = 0 := by rw [hda]; omega
  have Hnil : Hid (l.drop (k + 1) ≠ [] → False) := fun hne => hne hnil
  clear hnil
  go_upto_region 3 with (at_builtin; refine wpList_append_nms rfl (.tmp 13) (.tmp 20) 50 rfl w.heap.size 36 i0 _ Tryz.underlying50 hi hz0 hz1 hz2 rfl va1 vn1 vc1 rfl (l.take k) hown1 hle1 _ _ (l.drop (k + 1)) 0 hda0 rfl (fun hne => (Hnil.out hne).elim) H1b.out (Nat.zero_le _) hk1.size ?_; intro va2 vn2 vc2 w2 hown2 hgr2)
  have hfin := rtake_fin h h1 h3 Hk.out Hll.out hk1 hown1 hown2 hgr2
  have z2 := blk_free hfin.1 1
  have c2 : w2.cell? (A6 qb 1) = some (.slice (some (A6 g 0)) l.length cap) := (blk_cell hfin.1 1).trans rfl
  go_wp2_with fail
  go_end0
  exact ⟨rfl, hfin.2⟩
 ·have hce' : k + 1 < cap := by omega
  go_upto_region 3 with (at_builtin; refine wpList_append_nms rfl (.tmp 13) (.tmp 20) 50 rfl w.heap.size 36 i0 _ Tryz.underlying50 hi hz0 hz1 hz2 rfl va1 vn1 vc1 rfl (l.take k) hown1 hle1 _ _ (l.drop (k + 1)) (l.length - (k + 1)) hda rfl (fun _ => ⟨_, rfl, Hc2.out _ hg1⟩) H1b.out hle2 hk1.size ?_; intro va2 vn2 vc2 w2 hown2 hgr2)
  have hfin := rtake_fin h h1 h3 Hk.out Hll.out hk1 hown1 hown2 hgr2
  have z2 := blk_free hfin.1 1
  have c2 : w2.cell? (A6 qb 1) = some (.slice (some (A6 g 0)) l.length cap) := (blk_cell hfin.1 1).trans rfl
  go_wp2_with fail
  go_end0
  exact ⟨rfl, hfin.2⟩
theorem rlose_yes (h : QAt w qb Rb v x) {k : Nat} (hk : k < x.net.length) : Calls Tryz.prog 42 #[P6 qb, I6 (k : Int)] w fun e w' => e = .returned (I6 0) ∧ QTo w qb Rb v w' (x.without k) := by
 have hTh := rthere_yes h hk
 have hTa := rtake_any h hk
 go_enter Tryz.func42, Tryz.ntmps42
 go_wp2_with fail
 refine hTh.mono ?_
 rintro e w' ⟨rfl, hw'⟩
 have hw9 := hw'.symm
 subst hw9
 clear hTh hw'
 go_wp2_with fail
 refine hTa.mono ?_
 rintro e w1 ⟨rfl, hQ⟩
 clear hTa
 go_wp2_with fail
 go_ret
 exact ⟨rfl, hQ⟩
theorem rlose_no (h : QAt w qb Rb v x) {k : Int} (hk : k < 0 ∨ (x.net.length : Int) ≤ k) : Calls Tryz.prog 42 #[P6 qb, I6 k] w fun e w' => e = .returned (I6 1) ∧ w' = w := by
 have hTh := rthere_no h hk
 go_enter Tryz.func42, Tryz.ntmps42
 go_wp2_with fail
 refine hTh.mono ?_
 rintro e w' ⟨rfl, hw'⟩
 clear hTh
 go_wp2_with fail
 go_ret
 exact ⟨rfl, rfl⟩
theorem rdouble_no (h : QAt w qb Rb v x) {k : Int} (hk : k < 0 ∨ (x.net.length : Int) ≤ k) : Calls Tryz.prog 44 #[P6 qb, I6 k] w fun e w' => e = .returned (I6 1) ∧ w' = w := by
 have hTh := rthere_no h hk
 go_enter Tryz.func44, Tryz.ntmps44
 go_wp2_with fail
 refine hTh.mono ?_
 rintro e w' ⟨rfl, hw'⟩
 clear hTh
 go_wp2_with fail
 go_ret
 exact ⟨rfl, rfl⟩
end
end
end Go.Proofs.YtnnhnekfokbooaaGreatDoor
