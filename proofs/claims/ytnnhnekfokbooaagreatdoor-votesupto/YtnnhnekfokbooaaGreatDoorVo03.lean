/- The walks of the net's Put with a full net, and of slices.Delete of one message. -/
import Derived.Test.YtnnhnekfokbooaaGreatDoorVo02
namespace Go.Proofs.YtnnhnekfokbooaaGreatDoor
open List (getElem_toArray getElem_cons_zero getElem_cons_succ setIfInBounds_toArray set_cons_zero set_cons_succ)
open Go.RowKit
set_option linter.unusedSimpArgs false
set_option linter.unusedVariables false

set_option maxHeartbeats 4000000 in
theorem put_full (b o : Nat) (v : Value) (l : List Nm) (x : Nm) (w : World) (hc : w.cell? ⟨b, o, none⟩ = some v) (hv : ∃ va vc, v = .slice va l.length vc) (hx : x.ok w) (hl : 200 ≤ l.length) (hl2 : l.length ≤ 1000) :
  Calls Tryz.prog 109 #[.pointer (some ⟨b, o, none⟩), .agg x.cells.toArray] w fun e w' => e = .returned (.tuple #[]) ∧ Below w.heap.size w w' := by
 have hblt : b < w.heap.size := World.block_lt_of_cell? w _ hc
 obtain ⟨xa, xc, hxe, _⟩ := hx.1.form
 obtain ⟨va, vc, rfl⟩ := hv
 obtain ⟨⟨mk, mf, mt, mb, ms, ⟨mc, mq, mh, mx⟩, ma⟩, xv⟩ := x
 simp only [Nm.cells] at *
 subst hxe
 have hd : decide ((l.length : Int) + 1 ≤ 200) = false := by simp; omega
 have hR := fun W hc => room_any b o va l.length vc 1 W hc (by omega) (by decide) (by decide)
 rw [hd] at hR
 go_enter Tryz.func109, Tryz.ntmps109
 go_wp2_with fail
 refine (hR _ ?_).mono ?_
 ·rw [World.cell?_alloc_lt _ _ _ hblt]; exact hc
 rintro e w1 ⟨rfl, rfl⟩
 clear hR
 go_wp2_with fail
 go_end0
 exact ⟨rfl, (Below.refl _ w).alloc (Nat.le_refl _) _⟩

/-- What is sent stands behind the others, while there is room. -/
def sent (l : List Nm) (x : Nm) : List Nm := if l.length < 200 then l ++ [x] else l
theorem put_any (b o H : Nat) (cs : Array Value) (t : TypeId) (v : Value) (l : List Nm) (x : Nm) (w : World) (hb : w.heap[b]? = some (.cells cs t (0, 0))) (ho : cs[o]? = some v) (hown : w.ownsRow H 36 10 v l.length (ncs l)) (hne : v.ownBlock ≠ some b)
  (hx : x.ok w) (hl : l.length ≤ 200) (hH : H ≤ w.heap.size) :
  Calls Tryz.prog 109 #[.pointer (some ⟨b, o, none⟩), .agg x.cells.toArray] w fun e w' => ∃ v', e = .returned (.tuple #[]) ∧ w'.heap[b]? = some (.cells (cs.setIfInBounds o v') t (0, 0)) ∧ w'.ownsRow H 36 10 v' (sent l x).length (ncs (sent l x)) ∧ v'.ownBlock ≠ some b ∧ (∀ g, v'.ownBlock = some g → v.ownBlock = some g ∨ w.heap.size ≤ g) ∧
   Keeps (fun k => k = b ∨ v.ownBlock = some k) w w' := by
 by_cases h : l.length < 200
 ·refine (put_room b o H cs t v l x w hb ho hown hne hx h hH).mono ?_
  rintro e w' ⟨v', rfl, h1, h2, h3⟩
  refine ⟨v', rfl, h1, ?_, h3⟩
  simp only [sent, if_pos h, List.length_append, List.length_cons, List.length_nil]
  exact h2
 ·have hc : w.cell? ⟨b, o, none⟩ = some v := (blk_cell hb o).trans ho
  have hvs : ∃ va vc, v = .slice va l.length vc := by
   rcases hown.2 with ⟨rfl, h0⟩ | ⟨g, cap, cur, rfl, _⟩
   ·exact ⟨none, 0, by rw [h0]⟩
   ·exact ⟨_, _, rfl⟩
  refine (put_full b o v l x w hc hvs hx (by omega) (by omega)).mono ?_
  rintro e w' ⟨rfl, hB⟩
  have hse : cs.setIfInBounds o v = cs := by
   apply Array.ext_getElem?
   intro i
   by_cases e : i = o
   ·subst e
    have hlt := (Array.getElem?_eq_some_iff.1 ho).1
    rw [Array.getElem?_setIfInBounds_self_of_lt hlt, ho]
   ·rw [Array.getElem?_setIfInBounds_ne (by omega)]
  refine ⟨v, rfl, by rw [hse]; exact blk_below hB hb, ?_, hne, fun g hg => .inl hg, Keeps.ofBelow hB⟩
  simp only [sent, if_neg h]
  exact owns_below hown hB

section
variable {P : Program}
theorem run_clear_many (w : World) (t e ty : TypeId) (z : Value) (ht : P.underlying t = some (.slice e)) (hz : (zeroValue e).run P w = .ok z w) (g o n c : Nat) (hn : n ≠ 0)
  (hc : ∀ j, j < (Builtin.zeroCells z.cells n).toList.length → (w.cell? ⟨g, o + j, none⟩).isSome = true) (hf : ∀ j, j < (Builtin.zeroCells z.cells n).toList.length → w.frozen? ⟨g, o + j, none⟩ = false) (h1 : ∀ v ∈ (Builtin.zeroCells z.cells n).toList, v.oneCell' = true) :
  (Builtin.clear_ #[t] ty #[.slice (some ⟨g, o, none⟩) n c]).run P w = .ok (.tuple #[]) (w.setCells g o (Builtin.zeroCells z.cells n).toList) := by
 have hst := run_storeCells_cells (P := P) g o (Builtin.zeroCells z.cells n).toList 0 w (by simpa using hc) (by simpa using hf) h1
 obtain ⟨n, rfl⟩ : ∃ k, n = k + 1 := ⟨n - 1, by omega⟩
 simp only [Nat.add_zero] at hst
 simp [Builtin.clear_, run_underlying ht, hz, hst]
theorem wpList_clear_many {w : World} {ops : Array Oper} {rest : List Oper} {o : Oper} {a : Act} {Q : Exit → Act → World → Prop} (hgd : o.guard = none) (s : Operand) (t : TypeId)
  (ho : o.op = .call { callee := .builtin .clear, args := #[s], argTypes := #[t] }) (e : TypeId) (z : Value) (ht : P.underlying t = some (.slice e)) (hz : (zeroValue e).run P w = .ok z w) (g off n c : Nat) (hs : a.eval s = .slice (some ⟨g, off, none⟩) n c) (hn : n ≠ 0)
  (hc : ∀ j, j < (Builtin.zeroCells z.cells n).toList.length → (w.cell? ⟨g, off + j, none⟩).isSome = true) (hf : ∀ j, j < (Builtin.zeroCells z.cells n).toList.length → w.frozen? ⟨g, off + j, none⟩ = false) (h1 : ∀ v ∈ (Builtin.zeroCells z.cells n).toList, v.oneCell' = true)
  (h : wpList P ops Q rest (a.put o.dst (.tuple #[])) (w.setCells g off (Builtin.zeroCells z.cells n).toList)) : wpList P ops Q (o :: rest) a w := by
 refine wpList_plain hgd fun K hK => ?_
 have hrun := run_clear_many (P := P) w t e o.type z ht hz g off n c hn hc hf h1
 unfold Oper.wp execOp
 simp only [ho, resolve, invoke, builtin, Sem.run_bind, Sem.run_pure, Result.andThen_ok, List.map_toArray, List.map_cons, List.map_nil, hs, hrun]
 exact hK _ _ h
end

theorem zeroM : (Builtin.zeroCells (Value.agg #[.int .i64 0, .int .i64 0, .int .i64 0, .int .i64 0, .int .i64 0, .int .i64 0, .int .i64 0, .int .i64 0, .string ⟨#[]⟩, .slice none 0 0]).cells 1).toList = [Value.int .i64 0, .int .i64 0, .int .i64 0, .int .i64 0, .int .i64 0, .int .i64 0, .int .i64 0, .int .i64 0, .string ⟨#[]⟩, .slice none 0 0] := by
 first | kernel_rfl | simp [Builtin.zeroCells, Value.cells]
theorem drop_erase (l : List Nm) (k : Nat) (hk : k < l.length) : ncs (l.eraseIdx k) = ncs (l.take k) ++ ncs (l.drop (k + 1)) := by
 rw [← ncs_append, List.eraseIdx_eq_take_drop_succ]
set_option maxHeartbeats 4000000 in
set_option maxRecDepth 100000 in
theorem delete_any (H : Nat) (v : Value) (l : List Nm) (k : Nat) (w : World) (hown : w.ownsRow H 36 10 v l.length (ncs l)) (hk : k < l.length) (hl : l.length ≤ 1000) (hok : ∀ x ∈ l, x.ok w) :
  Calls Tryz.prog 99 #[v, .int .i64 (k : Int), .int .i64 ((k : Int) + 1)] w fun e w' => ∃ v', e = .returned v' ∧ w'.ownsRow H 36 10 v' (l.length - 1) (ncs (l.eraseIdx k)) ∧ v'.ownBlock = v.ownBlock ∧
   Keeps (fun b => v.ownBlock = some b) w w' := by
 obtain ⟨i0, hi, hz0, hz1, hz2⟩ := info_parts Tryz.infoMessage
 rcases hown.2 with ⟨_, h0⟩ | ⟨g, cap, cur, rfl, hbg, hg, hnc, hcm, hcs, htake⟩
 ·omega
 have hgf := blk_free hg
 have q0 : (0 : Int) ≤ (k : Int) := by omega
 have q1 : (k : Int) + 1 ≤ (l.length : Int) := by omega
 have q2 : (l.length : Int) ≤ (cap : Int) := by omega
 have q3 : (k : Int) ≤ (l.length : Int) := by omega
 have q4 : (k : Int) ≤ (cap : Int) := by omega
 have q5 : (k : Int) + 1 ≤ (cap : Int) := by omega
 go_enter Tryz.func99, Tryz.ntmps99
 go_wp2_with fail
 have hdrop : ∀ j u, (ncs (l.drop (k + 1)))[j]? = some u → w.drew.cell? ⟨g, (k + 1) * 10 + j, none⟩ = some u := fun j u hu => by
  show w.cell? _ = _
  rw [blk_cell hg, ← Array.getElem?_toList]
  have hjl : j < (l.length - (k + 1)) * 10 := by have := (List.getElem?_eq_some_iff.1 hu).1; rw [ncs_length, List.length_drop] at this; exact this
  have e2 : cur.toList[(k + 1) * 10 + j]? = (cur.toList.take (l.length * 10))[(k + 1) * 10 + j]? := by rw [List.getElem?_take, if_pos (by omega)]
  have e3 : ncs l = ncs (l.take (k + 1)) ++ ncs (l.drop (k + 1)) := by rw [← ncs_append, List.take_append_drop]
  have e4 : (ncs (l.take (k + 1))).length = (k + 1) * 10 := by rw [ncs_length, List.length_take, Nat.min_eq_left (by omega)]
  rw [e2, htake, e3, List.getElem?_append_right (by omega), e4, Nat.add_sub_cancel_left]
  exact hu
 have hdl : (ncs (l.drop (k + 1))).length = (l.length - (k + 1)) * 10 := by rw [ncs_length, List.length_drop]
 have hd1 : ∀ u ∈ ncs (l.drop (k + 1)), u.oneCell' = true := ncs_one _ (fun x hx => hok x (List.mem_of_mem_drop hx))
 have hsp : ∀ j, j < (ncs (l.drop (k + 1))).length → (w.drew.cell? ⟨g, 0 + k * 10 + j, none⟩).isSome = true ∧ w.drew.frozen? ⟨g, 0 + k * 10 + j, none⟩ = false := fun j hj => by
  refine ⟨?_, hgf _⟩
  show (w.cell? _).isSome = true
  rw [blk_cell hg, Array.getElem?_eq_getElem (by omega)]
  rfl
 have q6 : (0 : Int) ≤ (k : Int) + 1 := by omega
 by_cases hce : cap = k + 1
 ·have hl1 : l.length = k + 1 := by omega
  have q7 : (k : Int) ≤ (k : Int) + 1 := by omega
  have q9 : l.length - (k + 1) = 0 := by omega
  have q10 : cap - (k + 1) = 0 := by omega
  refine wp_region_held_drew (S := fun _ => True) (by kernel_rfl) (trivial) (fun hS => ?_)
  refine wpAnyH_take (i := 0) (v := .slice (some ⟨g, 0, none⟩) l.length cap) rfl (by kernel_rfl) (by kernel_rfl) (by kernel_rfl) (fun _ _ _ h => h) (Or.inl ⟨by kernel_rfl, fun w' hw => by clear hS; go_simp⟩) hS ?_
  try simp only [Act.put, getElem_toArray, getElem_cons_zero, getElem_cons_succ, setIfInBounds_toArray, set_cons_zero, set_cons_succ]
  refine wpAnyH_take (i := 1) (v := .int .i64 (k : Int)) rfl (by kernel_rfl) (by kernel_rfl) (by kernel_rfl) (fun _ _ _ h => h) (Or.inl ⟨by kernel_rfl, fun w' hw => by clear hS; go_simp⟩) hS ?_
  try simp only [Act.put, getElem_toArray, getElem_cons_zero, getElem_cons_succ, setIfInBounds_toArray, set_cons_zero, set_cons_succ]
  refine wpAnyH_take (i := 2) (v := .slice (some ⟨g, 0, none⟩) k cap) rfl (by kernel_rfl) (by kernel_rfl) (by kernel_rfl) (fun _ _ _ h => h) (Or.inl ⟨by kernel_rfl, fun w' hw => by clear hS; go_simp⟩) hS ?_
  try simp only [Act.put, getElem_toArray, getElem_cons_zero, getElem_cons_succ, setIfInBounds_toArray, set_cons_zero, set_cons_succ]
  refine wpAnyH_take (i := 3) (v := .slice (some ⟨g, 0, none⟩) l.length cap) rfl (by kernel_rfl) (by kernel_rfl) (by kernel_rfl) (fun _ _ _ h => h) (Or.inl ⟨by kernel_rfl, fun w' hw => by clear hS; go_simp⟩) hS ?_
  try simp only [Act.put, getElem_toArray, getElem_cons_zero, getElem_cons_succ, setIfInBounds_toArray, set_cons_zero, set_cons_succ]
  refine wpAnyH_take (i := 4) (v := .int .i64 ((k : Int) + 1)) rfl (by kernel_rfl) (by kernel_rfl) (by kernel_rfl) (fun _ _ _ h => h) (Or.inl ⟨by kernel_rfl, fun w' hw => by clear hS; go_simp⟩) hS ?_
  try simp only [Act.put, getElem_toArray, getElem_cons_zero, getElem_cons_succ, setIfInBounds_toArray, set_cons_zero, set_cons_succ]
  refine wpAnyH_take (i := 5) (v := .slice (some ⟨g, 0, none⟩) 0 0) rfl (by kernel_rfl) (by kernel_rfl) (by kernel_rfl) (fun _ _ _ h => h) (Or.inl ⟨by kernel_rfl, fun w' hw => by clear hS; go_simp⟩) hS ?_
  try simp only [Act.put, getElem_toArray, getElem_cons_zero, getElem_cons_succ, setIfInBounds_toArray, set_cons_zero, set_cons_succ]
  refine wpAnyH_ready (rs := [6]) (by kernel_rfl) (by simp) ?_
  refine AllReadyH.cons rfl (fun K hK => ?_) AllReadyH.nil
  refine step_append_room rfl (.tmp 22) (.tmp 25) 50 rfl 36 i0 10 Tryz.underlying50 hi hz1 g 0 k cap rfl ⟨g, 0, none⟩ 0 0 [] rfl (by simp) (fun j u hu => by simp at hu) (by simp) (by omega) (by simp) ?_
  refine hK.out _ _ trivial (fun hS => ?_)
  clear hK K
  try simp only [Act.put, getElem_toArray, getElem_cons_zero, getElem_cons_succ, setIfInBounds_toArray, set_cons_zero, set_cons_succ]
  refine wpAnyH_ready (rs := [7]) (by kernel_rfl) (by simp) ?_
  refine AllReadyH.cons rfl (fun K hK => ?_) AllReadyH.nil
  go_simp
  refine hK.out _ _ trivial (fun hS => ?_)
  clear hK K
  try simp only [Act.put, getElem_toArray, getElem_cons_zero, getElem_cons_succ, setIfInBounds_toArray, set_cons_zero, set_cons_succ]
  refine wpAnyH_done (by kernel_rfl) ?_ _
  simp only [World.setCells]
  have hg1 : w.drew.heap[g]? = some (.cells cur 36 (0, 0)) := hg
  have hK1 := Keeps.refl (fun b => (Value.slice (some ⟨g, 0, none⟩) l.length cap).ownBlock = some b) w.drew
  have hK0 : Keeps (fun b => (Value.slice (some ⟨g, 0, none⟩) l.length cap).ownBlock = some b) w w.drew := ⟨rfl, rfl, rfl, Nat.le_refl _, fun _ _ _ => rfl⟩
  generalize w.drew = w1 at *
  have e9 : l.length - 1 = k := by omega
  have ht1 : cur.toList.take (k * 10) = ncs (l.eraseIdx k) := by
   have hd0 : l.drop (k + 1) = [] := List.drop_of_length_le (by omega)
   rw [drop_erase l k hk, hd0]
   have : cur.toList.take (k * 10) = (cur.toList.take (l.length * 10)).take (k * 10) := by rw [List.take_take, Nat.min_eq_left (by omega)]
   rw [this, htake]
   have e3 : ncs l = ncs (l.take k) ++ ncs (l.drop k) := by rw [← ncs_append, List.take_append_drop]
   have e4 : (ncs (l.take k)).length = k * 10 := by rw [ncs_length, List.length_take, Nat.min_eq_left (by omega)]
   rw [e3, ← e4]; simp [ncs]
  have hf1 := blk_free hg1
  have hcl : ∀ j, j < (Builtin.zeroCells (Value.agg #[.int .i64 0, .int .i64 0, .int .i64 0, .int .i64 0, .int .i64 0, .int .i64 0, .int .i64 0, .int .i64 0, .string ⟨#[]⟩, .slice none 0 0]).cells 1).toList.length → (w1.cell? ⟨g, k * 10 + j, none⟩).isSome = true := fun j hj => by
   rw [blk_cell hg1, Array.getElem?_eq_getElem (by have hj' : j < 10 := (by rw [zeroM] at hj; exact hj); omega)]
   rfl
  have hfl : ∀ j, j < (Builtin.zeroCells (Value.agg #[.int .i64 0, .int .i64 0, .int .i64 0, .int .i64 0, .int .i64 0, .int .i64 0, .int .i64 0, .int .i64 0, .string ⟨#[]⟩, .slice none 0 0]).cells 1).toList.length → w1.frozen? ⟨g, k * 10 + j, none⟩ = false := fun j _ => hf1 _
  have hzv : (zeroValue 36).run Tryz.prog w1 = .ok (.agg #[.int .i64 0, .int .i64 0, .int .i64 0, .int .i64 0, .int .i64 0, .int .i64 0, .int .i64 0, .int .i64 0, .string ⟨#[]⟩, .slice none 0 0]) w1 := by simp [zeroValue, typeInfo, hi, hz0]
  have h1z : ∀ v ∈ (Builtin.zeroCells (Value.agg #[.int .i64 0, .int .i64 0, .int .i64 0, .int .i64 0, .int .i64 0, .int .i64 0, .int .i64 0, .int .i64 0, .string ⟨#[]⟩, .slice none 0 0]).cells 1).toList, v.oneCell' = true := by
   intro v hv
   have hv' : v ∈ [Value.int .i64 0, .int .i64 0, .int .i64 0, .int .i64 0, .int .i64 0, .int .i64 0, .int .i64 0, .int .i64 0, .string ⟨#[]⟩, .slice none 0 0] := (by rw [zeroM] at hv; exact hv)
   simp at hv'
   rcases hv' with rfl | rfl | rfl <;> rfl
  have hzl : (Builtin.zeroCells (Value.agg #[.int .i64 0, .int .i64 0, .int .i64 0, .int .i64 0, .int .i64 0, .int .i64 0, .int .i64 0, .int .i64 0, .string ⟨#[]⟩, .slice none 0 0]).cells 1).toList.length = 10 := by rw [zeroM]; rfl
  generalize hZZ : (Builtin.zeroCells (Value.agg #[.int .i64 0, .int .i64 0, .int .i64 0, .int .i64 0, .int .i64 0, .int .i64 0, .int .i64 0, .int .i64 0, .string ⟨#[]⟩, .slice none 0 0]).cells 1).toList = zz at *
  have HZ := show Hid (_ = zz) from hZZ
  clear hdrop hdl hd1 hsp hf1 hZZ
  have hcl' : Hid (∀ j, j < zz.length → (w1.cell? ⟨g, k * 10 + j, none⟩).isSome = true) := hcl
  have hfl' : Hid (∀ j, j < zz.length → w1.frozen? ⟨g, k * 10 + j, none⟩ = false) := hfl
  have hzv' : Hid ((zeroValue 36).run Tryz.prog w1 = .ok (.agg #[.int .i64 0, .int .i64 0, .int .i64 0, .int .i64 0, .int .i64 0, .int .i64 0, .int .i64 0, .int .i64 0, .string ⟨#[]⟩, .slice none 0 0]) w1) := hzv
  have h1z' : Hid (∀ v ∈ zz, v.oneCell' = true) := h1z
  clear hcl hfl hzv h1z
  have r2 : ¬ (k + 1 = k) := by omega
  go_upto_region 7 with (refine wpList_clear_many rfl (.tmp 31) 50 rfl 36 _ Tryz.underlying50 hzv'.out g (k * 10) 1 1 rfl (by decide) (by rw [HZ.out]; exact hcl'.out) (by rw [HZ.out]; exact hfl'.out) (by rw [HZ.out]; exact h1z'.out) ?_; simp only [Act.put])
  rw [HZ.out]
  go_wp2_with fail
  go_ret
  rw [e9]
  refine ⟨_, rfl, ⟨by rw [ncs_length, List.length_eraseIdx_of_lt hk, e9], .inr ⟨g, k + 1, _, rfl, hbg, setCells_self g 36 zz (k * 10) w1 cur hg1 (by omega), by omega, by omega, ?_, ?_⟩⟩, rfl, ?_⟩
  ·rw [List.size_toArray]
   simp only [List.length_append, List.length_take, List.length_drop, Array.length_toList]
   omega
  ·rw [List.toList_toArray, ht1, List.append_assoc]
   have e6 : (ncs (l.eraseIdx k)).length = k * 10 := by rw [ncs_length, List.length_eraseIdx_of_lt hk, e9]
   rw [← e6]
   exact List.take_left
  ·exact Keeps.trans hK0 (hK1.trans (Keeps.ofSets (P := fun b => (Value.slice (some ⟨g, 0, none⟩) l.length cap).ownBlock = some b) g rfl zz (k * 10) w1))
 ·have hce' : ¬ (cap = k + 1) := hce
  refine wp_region_held_drew (S := fun _ => True) (by kernel_rfl) (trivial) (fun hS => ?_)
  refine wpAnyH_take (i := 0) (v := .slice (some ⟨g, 0, none⟩) l.length cap) rfl (by kernel_rfl) (by kernel_rfl) (by kernel_rfl) (fun _ _ _ h => h) (Or.inl ⟨by kernel_rfl, fun w' hw => by clear hS; go_simp⟩) hS ?_
  try simp only [Act.put, getElem_toArray, getElem_cons_zero, getElem_cons_succ, setIfInBounds_toArray, set_cons_zero, set_cons_succ]
  refine wpAnyH_take (i := 1) (v := .int .i64 (k : Int)) rfl (by kernel_rfl) (by kernel_rfl) (by kernel_rfl) (fun _ _ _ h => h) (Or.inl ⟨by kernel_rfl, fun w' hw => by clear hS; go_simp⟩) hS ?_
  try simp only [Act.put, getElem_toArray, getElem_cons_zero, getElem_cons_succ, setIfInBounds_toArray, set_cons_zero, set_cons_succ]
  refine wpAnyH_take (i := 2) (v := .slice (some ⟨g, 0, none⟩) k cap) rfl (by kernel_rfl) (by kernel_rfl) (by kernel_rfl) (fun _ _ _ h => h) (Or.inl ⟨by kernel_rfl, fun w' hw => by clear hS; go_simp⟩) hS ?_
  try simp only [Act.put, getElem_toArray, getElem_cons_zero, getElem_cons_succ, setIfInBounds_toArray, set_cons_zero, set_cons_succ]
  refine wpAnyH_take (i := 3) (v := .slice (some ⟨g, 0, none⟩) l.length cap) rfl (by kernel_rfl) (by kernel_rfl) (by kernel_rfl) (fun _ _ _ h => h) (Or.inl ⟨by kernel_rfl, fun w' hw => by clear hS; go_simp⟩) hS ?_
  try simp only [Act.put, getElem_toArray, getElem_cons_zero, getElem_cons_succ, setIfInBounds_toArray, set_cons_zero, set_cons_succ]
  refine wpAnyH_take (i := 4) (v := .int .i64 ((k : Int) + 1)) rfl (by kernel_rfl) (by kernel_rfl) (by kernel_rfl) (fun _ _ _ h => h) (Or.inl ⟨by kernel_rfl, fun w' hw => by clear hS; go_simp⟩) hS ?_
  try simp only [Act.put, getElem_toArray, getElem_cons_zero, getElem_cons_succ, setIfInBounds_toArray, set_cons_zero, set_cons_succ]
  refine wpAnyH_take (i := 5) (v := .slice (some ⟨g, (k + 1) * 10, none⟩) (l.length - (k + 1)) (cap - (k + 1))) rfl (by kernel_rfl) (by kernel_rfl) (by kernel_rfl) (fun _ _ _ h => h) (Or.inl ⟨by kernel_rfl, fun w' hw => by clear hS; go_simp⟩) hS ?_
  try simp only [Act.put, getElem_toArray, getElem_cons_zero, getElem_cons_succ, setIfInBounds_toArray, set_cons_zero, set_cons_succ]
  refine wpAnyH_ready (rs := [6]) (by kernel_rfl) (by simp) ?_
  refine AllReadyH.cons rfl (fun K hK => ?_) AllReadyH.nil
  refine step_append_room rfl (.tmp 22) (.tmp 25) 50 rfl 36 i0 10 Tryz.underlying50 hi hz1 g 0 k cap rfl ⟨g, (k + 1) * 10, none⟩ (l.length - (k + 1)) (cap - (k + 1)) (ncs (l.drop (k + 1))) rfl hdl (fun j u hu => by rw [Addr.add_mid]; exact hdrop j u hu) hd1 (by omega) hsp ?_
  refine hK.out _ _ trivial (fun hS => ?_)
  clear hK K
  try simp only [Act.put, getElem_toArray, getElem_cons_zero, getElem_cons_succ, setIfInBounds_toArray, set_cons_zero, set_cons_succ]
  refine wpAnyH_ready (rs := [7]) (by kernel_rfl) (by simp) ?_
  refine AllReadyH.cons rfl (fun K hK => ?_) AllReadyH.nil
  go_simp
  refine hK.out _ _ trivial (fun hS => ?_)
  clear hK K
  try simp only [Act.put, getElem_toArray, getElem_cons_zero, getElem_cons_succ, setIfInBounds_toArray, set_cons_zero, set_cons_succ]
  refine wpAnyH_done (by kernel_rfl) ?_ _
  have hp : k + (l.length - (k + 1)) = l.length - 1 := by omega
  have hp1 : l.length - (l.length - 1) = 1 := by omega
  rw [hp]
  have e0 : 0 + k * 10 = k * 10 := by omega
  rw [e0] at hsp
  have hg1 := setCells_self g 36 (ncs (l.drop (k + 1))) (k * 10) w.drew cur hg (by omega)
  have hK1 := Keeps.ofSets (P := fun b => (Value.slice (some ⟨g, 0, none⟩) l.length cap).ownBlock = some b) g rfl (ncs (l.drop (k + 1))) (k * 10) w.drew
  generalize w.drew.setCells g (k * 10) (ncs (l.drop (k + 1))) = w1 at *
  obtain ⟨cur1, hcur1⟩ : ∃ c1 : Array Value, c1 = (cur.toList.take (k * 10) ++ ncs (l.drop (k + 1)) ++ cur.toList.drop (k * 10 + (ncs (l.drop (k + 1))).length)).toArray := ⟨_, rfl⟩
  rw [← hcur1] at hg1
  have hs1 : cur1.size = cap * 10 := by
   rw [hcur1, List.size_toArray]
   simp only [List.length_append, List.length_take, List.length_drop, Array.length_toList]
   omega
  have ht1 : cur1.toList.take ((l.length - 1) * 10) = ncs (l.eraseIdx k) := by
   rw [hcur1, List.toList_toArray, drop_erase l k hk]
   have e1 : cur.toList.take (k * 10) = ncs (l.take k) := by
    have : cur.toList.take (k * 10) = (cur.toList.take (l.length * 10)).take (k * 10) := by rw [List.take_take, Nat.min_eq_left (by omega)]
    rw [this, htake]
    have e3 : ncs l = ncs (l.take k) ++ ncs (l.drop k) := by rw [← ncs_append, List.take_append_drop]
    have e4 : (ncs (l.take k)).length = k * 10 := by rw [ncs_length, List.length_take, Nat.min_eq_left (by omega)]
    rw [e3, ← e4]; exact List.take_left
   rw [e1]
   have e5 : (ncs (l.take k) ++ ncs (l.drop (k + 1))).length = (l.length - 1) * 10 := by
    rw [List.length_append, ncs_length, hdl, List.length_take, Nat.min_eq_left (by omega)]; omega
   rw [← e5]; exact List.take_left
  have hf1 := blk_free hg1
  have hcl : ∀ j, j < (Builtin.zeroCells (Value.agg #[.int .i64 0, .int .i64 0, .int .i64 0, .int .i64 0, .int .i64 0, .int .i64 0, .int .i64 0, .int .i64 0, .string ⟨#[]⟩, .slice none 0 0]).cells 1).toList.length → (w1.cell? ⟨g, (l.length - 1) * 10 + j, none⟩).isSome = true := fun j hj => by
   rw [blk_cell hg1, Array.getElem?_eq_getElem (by have hj' : j < 10 := (by rw [zeroM] at hj; exact hj); omega)]
   rfl
  have hfl : ∀ j, j < (Builtin.zeroCells (Value.agg #[.int .i64 0, .int .i64 0, .int .i64 0, .int .i64 0, .int .i64 0, .int .i64 0, .int .i64 0, .int .i64 0, .string ⟨#[]⟩, .slice none 0 0]).cells 1).toList.length → w1.frozen? ⟨g, (l.length - 1) * 10 + j, none⟩ = false := fun j _ => hf1 _
  have hzv : (zeroValue 36).run Tryz.prog w1 = .ok (.agg #[.int .i64 0, .int .i64 0, .int .i64 0, .int .i64 0, .int .i64 0, .int .i64 0, .int .i64 0, .int .i64 0, .string ⟨#[]⟩, .slice none 0 0]) w1 := by simp [zeroValue, typeInfo, hi, hz0]
  have h1z : ∀ v ∈ (Builtin.zeroCells (Value.agg #[.int .i64 0, .int .i64 0, .int .i64 0, .int .i64 0, .int .i64 0, .int .i64 0, .int .i64 0, .int .i64 0, .string ⟨#[]⟩, .slice none 0 0]).cells 1).toList, v.oneCell' = true := by
   intro v hv
   have hv' : v ∈ [Value.int .i64 0, .int .i64 0, .int .i64 0, .int .i64 0, .int .i64 0, .int .i64 0, .int .i64 0, .int .i64 0, .string ⟨#[]⟩, .slice none 0 0] := (by rw [zeroM] at hv; exact hv)
   simp at hv'
   rcases hv' with rfl | rfl | rfl <;> rfl
  have hzl : (Builtin.zeroCells (Value.agg #[.int .i64 0, .int .i64 0, .int .i64 0, .int .i64 0, .int .i64 0, .int .i64 0, .int .i64 0, .int .i64 0, .string ⟨#[]⟩, .slice none 0 0]).cells 1).toList.length = 10 := by rw [zeroM]; rfl
  generalize hZZ : (Builtin.zeroCells (Value.agg #[.int .i64 0, .int .i64 0, .int .i64 0, .int .i64 0, .int .i64 0, .int .i64 0, .int .i64 0, .int .i64 0, .string ⟨#[]⟩, .slice none 0 0]).cells 1).toList = zz at *
  have HZ := show Hid (_ = zz) from hZZ
  clear hdrop hdl hd1 hsp hf1 hZZ
  have hcl' : Hid (∀ j, j < zz.length → (w1.cell? ⟨g, (l.length - 1) * 10 + j, none⟩).isSome = true) := hcl
  have hfl' : Hid (∀ j, j < zz.length → w1.frozen? ⟨g, (l.length - 1) * 10 + j, none⟩ = false) := hfl
  have hzv' : Hid ((zeroValue 36).run Tryz.prog w1 = .ok (.agg #[.int .i64 0, .int .i64 0, .int .i64 0, .int .i64 0, .int .i64 0, .int .i64 0, .int .i64 0, .int .i64 0, .string ⟨#[]⟩, .slice none 0 0]) w1) := hzv
  have h1z' : Hid (∀ v ∈ zz, v.oneCell' = true) := h1z
  clear hcl hfl hzv h1z
  have r1 : ((l.length - 1 : Nat) : Int) ≤ (l.length : Int) := by omega
  have r2 : ¬ (cap = l.length - 1) := by omega
  go_upto_region 7 with (refine wpList_clear_many rfl (.tmp 31) 50 rfl 36 _ Tryz.underlying50 hzv'.out g ((l.length - 1) * 10) 1 (cap - (l.length - 1)) rfl (by decide) (by rw [HZ.out]; exact hcl'.out) (by rw [HZ.out]; exact hfl'.out) (by rw [HZ.out]; exact h1z'.out) ?_; simp only [Act.put])
  rw [HZ.out]
  go_wp2_with fail
  go_ret
  refine ⟨_, rfl, ⟨by rw [ncs_length, List.length_eraseIdx_of_lt hk], .inr ⟨g, cap, _, rfl, hbg, setCells_self g 36 zz ((l.length - 1) * 10) w1 cur1 hg1 (by omega), by omega, hcm, ?_, ?_⟩⟩, rfl, ?_⟩
  ·rw [List.size_toArray]
   simp only [List.length_append, List.length_take, List.length_drop, Array.length_toList]
   omega
  ·rw [List.toList_toArray, ht1, List.append_assoc]
   have e6 : (ncs (l.eraseIdx k)).length = (l.length - 1) * 10 := by rw [ncs_length, List.length_eraseIdx_of_lt hk]
   rw [← e6]
   exact List.take_left
  ·exact Keeps.trans (w1 := w.drew) ⟨rfl, rfl, rfl, Nat.le_refl _, fun _ _ _ => rfl⟩ (hK1.trans (Keeps.ofSets (P := fun b => (Value.slice (some ⟨g, 0, none⟩) l.length cap).ownBlock = some b) g rfl zz ((l.length - 1) * 10) w1))
end Go.Proofs.YtnnhnekfokbooaaGreatDoor
