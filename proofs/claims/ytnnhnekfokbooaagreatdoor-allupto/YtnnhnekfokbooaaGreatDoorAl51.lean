/- WalkU, RefX0, RefP -/
import Derived.Test.YtnnhnekfokbooaaGreatDoorAl50
import Derived.Test.YtnnhnekfokbooaaGreatDoorAl31
set_option linter.unusedSimpArgs false
set_option linter.unusedVariables false
set_option maxRecDepth 100000
namespace Go.Proofs.YtnnhnekfokbooaaGreatDoor
section
open Go.RowKit
set_option maxHeartbeats 1000000 in
theorem Pack_any (m : Ms) (v : Value) (w : World) (hk : Kinds w) (hv : VAt w v m.a) :
  Calls Tryz.prog 19 #[.agg #[I6 m.k, I6 m.f, I6 m.t, I6 m.b, I6 m.s, I6 m.p.c, I6 m.p.q, I6 m.p.h, .string m.p.t, v]] w fun e w' =>
   e = .returned (if rmB m then .tuple #[.string (S (encM m)), I6 0] else .tuple #[.string (S []), I6 2]) ∧ Below w.heap.size w w' := by
 obtain ⟨ao, cap, hve, _⟩ := hv.form
 subst hve
 have hC := wpack_any m _ _ (hk.alloc (.cells #[I6 m.k, I6 m.f, I6 m.t, I6 m.b, I6 m.s, I6 m.p.c, I6 m.p.q, I6 m.p.h, .string m.p.t, .slice ao m.a.length cap] 36)) (hv.alloc _)
 cases hrm : rmB m
 ·rw [hrm] at hC
  go_enter Tryz.func19, Tryz.ntmps19
  go_wp2_with (go_at_call 48; refine hC.mono ?_; rintro e w1 ⟨rfl, hb1⟩)
  go_ret2
  exact ⟨rfl, ((Below.refl _ _).alloc (Nat.le_refl _) _).trans (hb1.mono (by simp))⟩
 ·rw [hrm] at hC
  go_enter Tryz.func19, Tryz.ntmps19
  go_wp2_with (go_at_call 48; refine hC.mono ?_; rintro e w1 ⟨rfl, hb1⟩)
  go_ret2
  exact ⟨rfl, ((Below.refl _ _).alloc (Nat.le_refl _) _).trans (hb1.mono (by simp))⟩
end
section
open Go.RowKit
def mOf (l : List UInt8) : Ms := if unB l then Rs.msg ⟨l, false⟩ else ⟨0, 0, 0, 0, 0, ⟨0, 0, 0, S []⟩, []⟩
def cOf (l : List UInt8) : Int := if unB l then 0 else 2
theorem mOf_len (l : List UInt8) : (mOf l).a.length ≤ 255 := by
 unfold mOf
 split
 ·exact vts_le _
 ·simp
theorem Unpack_of (l : List UInt8) (w : World) (hk : Kinds w) (hl : l.length ≤ 9223372036854775807) :
  Calls Tryz.prog 21 #[.string (S l)] w fun e w' => ∃ v, e = .returned (.tuple #[.agg (mval (mOf l) v), I6 (cOf l)]) ∧ w'.ownsRow w.heap.size 53 6 v (mOf l).a.length (vcells (mOf l).a) ∧ Below w.heap.size w w' := by
 refine (Unpack_any l w hk hl).mono ?_
 rintro e w' ⟨h1, h2, h3⟩
 cases hu : unB l
 ·refine ⟨.slice none 0 0, ?_, ?_, h3⟩
  ·rw [h2 hu]; simp only [mOf, cOf, hu]; rfl
  ·simp only [mOf, hu]; exact World.ownsRow_nil _ _ _ _
 ·obtain ⟨v, he, ho⟩ := h1 hu
  refine ⟨v, ?_, ?_, h3⟩
  ·rw [he]; simp only [mOf, cOf, hu]; rfl
  ·simp only [mOf, hu]; exact ho
theorem runp_of (l : List UInt8) (w : World) (hl : l.length ≤ 9223372036854775807) :
  Calls Tryz.prog 22 #[.string (S l)] w fun e w' => ∃ v, e = .returned (.tuple #[.agg (mval (mOf l) v), I6 (cOf l)]) ∧ VAt w' v (mOf l).a ∧ Below w.heap.size w w' := by
 refine (runp_any l w hl).mono ?_
 rintro e w' ⟨h1, h2, h3⟩
 cases hu : unB l
 ·refine ⟨.slice none 0 0, ?_, ?_, h3⟩
  ·rw [h2 hu]; simp only [mOf, cOf, hu]; rfl
  ·simp only [mOf, hu]; exact rvat_nil _
 ·obtain ⟨v, he, ho⟩ := h1 hu
  refine ⟨v, ?_, ?_, h3⟩
  ·rw [he]; simp only [mOf, cOf, hu]; rfl
  ·simp only [mOf, hu]; exact ho
set_option maxHeartbeats 4000000 in
theorem unpacked_of (wb : Nat) (l : List UInt8) (w : World) (hk : Kinds w) (hl : l.length ≤ 9223372036854775807) {Q : World → Prop}
  (hVo : ∀ W v n xs, Below w.heap.size w W → W.ownsRow w.heap.size 53 6 v n xs → n ≤ 255 → Calls Tryz.prog 24 #[P6 wb, v] W fun e w' => e = .returned (.tuple #[]) ∧ Q w') :
  Calls Tryz.prog 11 #[P6 wb, .string (S l)] w fun e w' => e = .returned (.bool true) ∧ Q w' := by
 have hml := mOf_len l
 have hU := Unpack_of l w hk hl
 have hR := fun W => runp_of l W hl
 generalize mOf l = m at *
 generalize cOf l = c at *
 obtain ⟨mk, mf, mt, mb, ms, ⟨mc, mq, mh, mx⟩, ma⟩ := m
 simp only [mval] at hU hR
 go_enter Tryz.func11, Tryz.ntmps11
 go_wp2_with fail
 refine hU.mono ?_
 rintro e w1 ⟨v, rfl, ho1, hB1⟩
 obtain ⟨va, vn, vc, rfl⟩ := owns_slice ho1
 clear hU
 go_wp2_with fail
 refine (hR _).mono ?_
 rintro e w2 ⟨v2, rfl, hv2, hB2⟩
 clear hR
 obtain ⟨a2, n2, rfl, hf2⟩ := hv2.form
 try dsimp only at hv2 hf2 ho1 hml
 have hz1 := hB1.size
 have hz2 := hB2.size
 simp only [World.size_alloc] at hz2
 have hmb := blk_below hB2 (blk_new w1 _)
 have hmc := blk_cell hmb
 have hlt2 := lt_of_block hmb
 have hB12 : Below w1.heap.size w1 w2 := ((Below.refl _ w1).alloc (Nat.le_refl _) _).trans (hB2.mono (by simp))
 have ho2 := owns_below ho1 hB12
 have hvat : VAt w2 (.slice va vn vc) ma := owns_vat ho2 (by omega)
 clear hB2 ho1
 go_wp2_with fail
 have hS := sameMessage_same ⟨mk, mf, mt, mb, ms, ⟨mc, mq, mh, mx⟩, ma⟩ (.slice va vn vc) (.slice a2 ma.length n2) (w2.alloc (.cells #[I6 mk, I6 mf, I6 mt, I6 mb, I6 ms, I6 mc, I6 mq, I6 mh, .string mx, .slice a2 ma.length n2] 36)) (hvat.alloc _) (hv2.alloc _)
 dsimp only at hS
 refine hS.mono ?_
 rintro e w3 ⟨rfl, hB3⟩
 clear hS
 have hBt : Below w2.heap.size w2 w3 := ((Below.refl _ w2).alloc (Nat.le_refl _) _).trans (hB3.mono (by simp))
 have hmb3 := blk_below hBt hmb
 have hmc3 := blk_cell hmb3
 have hlt3 := lt_of_block hmb3
 have hBw3 : Below w.heap.size w w3 := Below.trans hB1 ((Below.trans hB12 (hBt.mono hB12.size)).mono hB1.size)
 have hV := hVo w3 (.slice va vn vc) ma.length (vcells ma) hBw3 (owns_below ho2 hBt) (by omega)
 go_wp2_with fail
 refine hV.mono ?_
 rintro e w4 ⟨rfl, hQ⟩
 go_wp2_with (go_at_call 18; refine (num_same _ _).mono ?_; rintro e w5 ⟨rfl, rfl⟩)
 go_ret
 exact ⟨rfl, hQ⟩
end
section
open Go.RowKit
section
variable {P : Program}
theorem run_copy_many (w : World) (dT sT ty elem : TypeId) (g o dLen dCap : Nat) (a : Addr) (sLen sCap size : Nat) (cur : Array Value) (t : TypeId) (cs : List Value)
  (hu : P.underlying dT = some (.slice elem)) (hs : (P.info? elem).map (·.size) = some size)
  (hg : w.heap[g]? = some (.cells cur t (0, 0))) (hn : cs.length = Nat.min sLen dLen * size)
  (hsrc : ∀ j v, cs[j]? = some v → w.cell? (a.add j) = some v) (hfit : o + cs.length ≤ cur.size) (h1 : ∀ v ∈ cs, v.oneCell' = true) :
  (Builtin.copy_ #[dT, sT] ty #[.slice (some (A6 g o)) dLen dCap, .slice (some a) sLen sCap]).run P w =
   .ok (goInt (Nat.min sLen dLen)) (w.setRow g (cur.toList.take o ++ cs ++ cur.toList.drop (o + cs.length)).toArray) := by
 have hl := run_loadCells_list (P := P) w a cs hsrc
 have hst := run_storeCells_at P g o t cs 0 cur w hg (by simpa using hfit) h1
 cases hq : P.info? elem with
 | none => simp [hq] at hs
 | some i =>
  have hi : i.size = size := by simpa [hq] using hs
  simp [Builtin.copy_, run_underlying hu, Builtin.lenOf, Builtin.firstCells, sizeOf, typeInfo, hq, hi, ← hn, hl, hst]
theorem wpList_copy_many {w : World} {ops : Array Oper} {rest : List Oper} {o : Oper} {a : Act} {Q : Exit → Act → World → Prop} (hgd : o.guard = none) (d s : Operand) (dT sT : TypeId)
  (ho : o.op = .call { callee := .builtin .copy, args := #[d, s], argTypes := #[dT, sT] }) (elem : TypeId) (size : Nat) (hu : P.underlying dT = some (.slice elem)) (hsz : (P.info? elem).map (·.size) = some size)
  (g dLen dCap : Nat) (ad : Addr) (sLen sCap : Nat) (hd : a.eval d = .slice (some (A6 g 0)) dLen dCap) (hs : a.eval s = .slice (some ad) sLen sCap)
  (cur : Array Value) (t : TypeId) (hg : w.heap[g]? = some (.cells cur t (0, 0))) (cs : List Value) (hn : cs.length = Nat.min sLen dLen * size)
  (hsrc : ∀ j v, cs[j]? = some v → w.cell? (ad.add j) = some v) (hfit : cs.length ≤ cur.size) (h1 : ∀ v ∈ cs, v.oneCell' = true)
  (h : ∀ w', w'.heap[g]? = some (.cells (cs ++ cur.toList.drop cs.length).toArray t (0, 0)) → w.grownBy w' (some g) → w'.heap.size = w.heap.size → wpList P ops Q rest (a.put o.dst (goInt (Nat.min sLen dLen))) w') : wpList P ops Q (o :: rest) a w := by
 refine wpList_plain hgd fun K hK => ?_
 have hrun := run_copy_many (P := P) w dT sT o.type elem g 0 dLen dCap ad sLen sCap size cur t cs hu hsz hg hn hsrc (by simpa using hfit) h1
 simp only [List.take_zero, List.nil_append, Nat.zero_add] at hrun
 unfold Oper.wp
 simp only [execOp, ho, resolve, invoke, builtin, Sem.run_bind, Sem.run_pure, Result.andThen_ok, List.map_toArray, List.map_cons, List.map_nil, hd, hs, hrun]
 exact hK _ _ (h _ (setRow_heap w g cur _ t _ hg) ⟨rfl, rfl, rfl, by simp, fun k _ hk => setRow_other w g k _ (fun e => hk (by simp [e]))⟩ (by simp))
end
set_option maxHeartbeats 4000000 in
theorem packed_nil (m : Ms) (cap : Nat) (w : World) (hk : Kinds w) (hv : VAt w (.slice none m.a.length cap) m.a) :
  Calls Tryz.prog 10 #[.agg (mval m (.slice none m.a.length cap))] w fun e w' => e = .returned (.bool true) ∧ Below w.heap.size w w' := by
 have hP := fun W hk hv => Pack_any m (.slice none m.a.length cap) W hk hv
 have hR := fun W hv => rpack_any m (.slice none m.a.length cap) W hv
 obtain ⟨mk, mf, mt, mb, ms, ⟨mc, mq, mh, mx⟩, ma⟩ := m
 simp only [mval]
 dsimp only at *
 obtain ⟨st, c, hst⟩ : ∃ (st : ByteArray) (c : Int), (if rmB ⟨mk, mf, mt, mb, ms, ⟨mc, mq, mh, mx⟩, ma⟩ = true then Value.tuple #[.string (S (encM ⟨mk, mf, mt, mb, ms, ⟨mc, mq, mh, mx⟩, ma⟩)), I6 0] else .tuple #[.string (S []), I6 2]) = .tuple #[.string st, I6 c] := by
  split
  ·exact ⟨_, _, rfl⟩
  ·exact ⟨_, _, rfl⟩
 rw [hst] at hP hR
 clear hst
 go_enter Tryz.func10, Tryz.ntmps10
 go_wp2_with fail
 refine (hP _ ((hk.alloc _).alloc _) ((hv.alloc _).alloc _)).mono ?_
 rintro e w1 ⟨rfl, hB1⟩
 have hz1 := hB1.size
 simp only [World.size_alloc] at hz1
 have hmb := blk_below hB1 (blk_alloc (blk_new w _) _)
 have hmc := blk_cell hmb
 have hv1 := ((hv.alloc _).alloc _).below hB1
 have hBw : Below w.heap.size w w1 := (((Below.refl _ w).alloc (Nat.le_refl _) _).alloc (by simp) _).trans (hB1.mono (by simp; omega))
 go_wp2_with fail
 refine (hR _ hv1).mono ?_
 rintro e w2 ⟨rfl, hB2⟩
 have hmb2 := blk_below hB2 hmb
 have hmc2 := blk_cell hmb2
 clear hP hR
 go_wp2_with (go_at_call 18; refine (num_same _ _).mono ?_; rintro e w5 ⟨rfl, rfl⟩)
 go_ret
 exact ⟨rfl, hBw.trans (hB2.mono (by omega))⟩
set_option maxHeartbeats 8000000 in
theorem packed_some (m : Ms) (a : Addr) (cap : Nat) (w : World) (hk : Kinds w) (hv : VAt w (.slice (some a) m.a.length cap) m.a) (hn : (m.a.length + 1) * 56 ≤ 281474976710656) :
  Calls Tryz.prog 10 #[.agg (mval m (.slice (some a) m.a.length cap))] w fun e w' => e = .returned (.bool true) ∧ Below w.heap.size w w' := by
 obtain ⟨i0, hi, hz0, hz1, hz2⟩ := info_parts Tryz.infoVote
 have hP := fun v W hk hv => Pack_any m v W hk hv
 have hR := fun W hv => rpack_any m (.slice (some a) m.a.length cap) W hv
 obtain ⟨mk, mf, mt, mb, ms, ⟨mc, mq, mh, mx⟩, ma⟩ := m
 simp only [mval]
 dsimp only at *
 obtain ⟨st, c, hst⟩ : ∃ (st : ByteArray) (c : Int), (if rmB ⟨mk, mf, mt, mb, ms, ⟨mc, mq, mh, mx⟩, ma⟩ = true then Value.tuple #[.string (S (encM ⟨mk, mf, mt, mb, ms, ⟨mc, mq, mh, mx⟩, ma⟩)), I6 0] else .tuple #[.string (S []), I6 2]) = .tuple #[.string st, I6 c] := by
  split
  ·exact ⟨_, _, rfl⟩
  ·exact ⟨_, _, rfl⟩
 rw [hst] at hP hR
 clear hst
 have hsrc0 : ∀ j v, (vcells ma)[j]? = some v → w.cell? (a.add j) = some v := by
  intro j v hj
  obtain ⟨ao, cap', he, hf⟩ := hv.form
  injection he with e1 e2 e3
  subst e1
  obtain ⟨g, off, ha, _, hc⟩ := hf (by intro e; subst e; simp [vcells] at hj)
  injection ha with ha
  subst ha
  rw [Addr.add_mid]
  exact hc j v hj
 have hn1 : ma.length + 1 ≤ 5026338869834 := by omega
 go_enter Tryz.func10, Tryz.ntmps10
 go_upto_region 4 with (at_make; refine wpList_make_full _ rfl (.tmp 19) (.tmp 19) 34 rfl (w.heap.size + 2) 53 i0 _ 6 Tryz.underlying34 hi hz0 hz1 _ _ _ _ (ma.length + 1) rfl rfl (by simp) (by simp) (by rw [hz2]; omega) (by unfold maxLen; omega) (by simp) ?_; intro w1 hown1 hgr1)
 have hm1 := blk_grown hgr1 (blk_alloc (blk_new w _) _) (by simp)
 have hh1 := blk_grown hgr1 (blk_new (w.alloc _) _) (by simp)
 simp only [World.size_alloc] at hh1
 obtain ⟨cur, hG1, hcs1⟩ : ∃ cur : Array Value, w1.heap[w.heap.size + 1 + 1]? = some (.cells cur 53 (0, 0)) ∧ cur.size = (ma.length + 1) * 6 := by
  rcases hown1.2 with ⟨h1, _⟩ | ⟨g, cap', cur, h1, _, h2, _, _, h3, _⟩
  ·cases h1
  ·simp only [World.size_alloc] at h1
   injection h1 with e1 e2 e3
   injection e1 with e1
   injection e1 with e1 _ _
   subst e1 e3
   exact ⟨cur, h2, h3⟩
 have hB1 : Below w.heap.size w w1 := by
  refine (((Below.refl _ w).alloc (Nat.le_refl _) _).alloc (by simp) _).trans ⟨hgr1.os, hgr1.tape, hgr1.output, hgr1.size, fun k hk => hgr1.block k (by simp; omega) (by simp)⟩
 have hmc1 := blk_cell hm1
 have hsrc1 : ∀ j v, (vcells ma)[j]? = some v → w1.cell? (a.add j) = some v := fun j v hj => by
  have h0 := hsrc0 j v hj
  rw [← h0]
  exact World.cell?_of_block (hB1.block _ (World.block_lt_of_cell? w _ h0))
 have hnn : (vcells ma).length = Nat.min ma.length (ma.length + 1) * 6 := by rw [vcells_length]; congr 1; exact (Nat.min_eq_left (by omega)).symm
 have hfit : (vcells ma).length ≤ cur.size := by rw [vcells_length, hcs1]; omega
 have h1v := vcells_one ma
 have hi6 : Hid ((Tryz.prog.info? 53).map (·.size) = some 6) := show _ = _ from (by rw [hi]; simp [hz1])
 clear hown1 hgr1 hsrc0
 go_upto_region 5 with (refine wpList_copy_many rfl (.tmp 21) (.tmp 23) 34 34 rfl 53 6 Tryz.underlying34 hi6.out (w.heap.size + 1 + 1) (ma.length + 1) (ma.length + 1) a ma.length cap rfl rfl cur 53 hG1 (vcells ma) hnn hsrc1 hfit h1v ?_; intro w2 hG2 hgr2 hs2)
 have hm2 := blk_grown hgr2 hm1 (by simp <;> omega)
 have hh2 := blk_grown hgr2 hh1 (by simp <;> omega)
 have hB2 : Below w.heap.size w w2 := hB1.trans ⟨hgr2.os, hgr2.tape, hgr2.output, hgr2.size, fun k hk => hgr2.block k (by have := hB1.size; omega) (by simp; omega)⟩
 have hmc := blk_cell hm2
 have hhc := blk_cell hh2
 have hhf := blk_free hh2
 have hGf := blk_free hG2
 have hvl := vcells_length ma
 obtain ⟨y, hy⟩ : ∃ y, w2.cell? (A6 (w.heap.size + 1 + 1) (ma.length * 6)) = some y := by
  rw [blk_cell hG2]
  refine ⟨_, Array.getElem?_eq_getElem ?_⟩
  simp only [List.size_toArray, List.length_append, List.length_drop, Array.length_toList]
  omega
 clear hm1 hh1 hG1 hmc1 hsrc1 hgr2
 go_wp2_with fail
 have hG3 := blk_set_other (blk_set hG2 (ma.length * 6) (I6 77)) (a := (A6 (w.heap.size + 1) 9)) (by simp) (.slice (some (A6 (w.heap.size + 1 + 1) 0)) ma.length (ma.length + 1))
 have hm3 := blk_set_other (blk_set_other hm2 (a := (A6 (w.heap.size + 1 + 1) (ma.length * 6))) (by simp <;> omega) (I6 77)) (a := (A6 (w.heap.size + 1) 9)) (by simp) (.slice (some (A6 (w.heap.size + 1 + 1) 0)) ma.length (ma.length + 1))
 have hh3 := blk_set (blk_set_other hh2 (a := (A6 (w.heap.size + 1 + 1) (ma.length * 6))) (by simp) (I6 77)) 9 (.slice (some (A6 (w.heap.size + 1 + 1) 0)) ma.length (ma.length + 1))
 have hB3 := (hB2.setCell (p := (A6 (w.heap.size + 1 + 1) (ma.length * 6))) (by simp <;> omega) (I6 77)).setCell (p := (A6 (w.heap.size + 1) 9)) (by simp) (.slice (some (A6 (w.heap.size + 1 + 1) 0)) ma.length (ma.length + 1))
 generalize (w2.setCell (A6 (w.heap.size + 1 + 1) (ma.length * 6)) (I6 77)).setCell (A6 (w.heap.size + 1) 9) (.slice (some (A6 (w.heap.size + 1 + 1) 0)) ma.length (ma.length + 1)) = w3 at *
 obtain ⟨cq, hGq, hqs, hq77, hqv⟩ : ∃ cq : Array Value, w3.heap[w.heap.size + 1 + 1]? = some (.cells cq 53 (0, 0)) ∧ cq.size = (ma.length + 1) * 6 ∧ cq[ma.length * 6]? = some (I6 77) ∧ ∀ x, x < ma.length * 6 → cq[x]? = (vcells ma)[x]? := by
  refine ⟨_, hG3, ?_, ?_, fun x hx => ?_⟩
  ·simp only [Array.size_setIfInBounds, List.size_toArray, List.length_append, List.length_drop, Array.length_toList]
   omega
  ·rw [Array.getElem?_setIfInBounds_self_of_lt]
   simp only [List.size_toArray, List.length_append, List.length_drop, Array.length_toList]
   omega
  ·rw [Array.getElem?_setIfInBounds_ne (by omega), List.getElem?_toArray, List.getElem?_append_left (by omega)]
 have hv3 : VAt w3 (.slice (some (A6 (w.heap.size + 1 + 1) 0)) ma.length (ma.length + 1)) ma := by
  refine ⟨by omega, _, _, rfl, fun _ => ⟨_, 0, rfl, lt_of_block hGq, fun j v hj => ?_⟩⟩
  rw [Nat.zero_add, blk_cell hGq, hqv j (by have := (List.getElem?_eq_some_iff.1 hj).1; omega)]
  exact hj
 have hva3 : VAt w3 (.slice (some a) ma.length cap) ma := hv.below hB3
 clear hG3 hG2 hh2 hm2 hy hGf hhf hhc hmc hs2 hB2
 refine (hP _ w3 (hk.below hB3) hv3).mono ?_
 rintro e w4 ⟨rfl, hB4⟩
 have hm4 := blk_below hB4 hm3
 have hh4 := blk_below hB4 hh3
 have hGq4 := blk_below hB4 hGq
 have hz3 := hB3.size
 have hz4 := hB4.size
 have hBw4 := hB3.trans (hB4.mono hz3)
 have hmc4 := blk_cell hm4
 clear hP hv3 hm3 hh3 hGq
 go_wp2_with fail
 refine (hR _ (hva3.below hB4)).mono ?_
 rintro e w5 ⟨rfl, hB5⟩
 have hm5 := blk_below hB5 hm4
 have hh5 := blk_below hB5 hh4
 have hGq5 := blk_below hB5 hGq4
 have hz5 := hB5.size
 have hBw5 := hBw4.trans (hB5.mono (by omega))
 have hmc5 := blk_cell hm5
 have hhc5 := blk_cell hh5
 have h77 : w5.cell? (A6 (w.heap.size + 1 + 1) (ma.length * 6)) = some (I6 77) := by rw [blk_cell hGq5]; exact hq77
 clear hR hm4 hh4 hGq4 hB4 hB5 hmc4 hva3
 go_wp2_with fail
 clear hmc5 hhc5 h77
 go_loopw [9, 11] (fun kp i wr => kp = .bool true ∧ ∃ j : Nat, j ≤ ma.length ∧ i = I6 j ∧ (∃ cz : Array Value, wr.heap[w.heap.size + 1 + 1]? = some (.cells cz 53 (0, 0)) ∧ cz.size = (ma.length + 1) * 6 ∧ ∀ x, j * 6 ≤ x → x < ma.length * 6 → cz[x]? = (vcells ma)[x]?)
   ∧ wr.heap[w.heap.size]? = some (.cells #[I6 mk, I6 mf, I6 mt, I6 mb, I6 ms, I6 mc, I6 mq, I6 mh, .string mx, .slice (some a) ma.length cap] 36 (0, 0)) ∧ Below w.heap.size w wr) (fun _ i _ => ma.length - (intOf i).toNat)
 case atStart => exact ⟨rfl, 0, Nat.zero_le _, rfl, ⟨cq, hGq5, hqs, fun x _ hx => hqv x hx⟩, hm5, hBw5⟩
 case round =>
  obtain ⟨rfl, j, hj, rfl, ⟨cz, hGz, hzs, hzv⟩, hmz, hBz⟩ := hrel
  have hmcz := blk_cell hmz
  clear hm5 hh5 hGq5 hBw5
  by_cases hlt : j < ma.length
  ·obtain ⟨ao, cap', he, hf⟩ := hv.form
   injection he with e1 e2 e3
   subst e1 e3
   clear e2
   obtain ⟨g, off, ha, hg, hcv⟩ := hf (by intro e; subst e; simp at hlt)
   injection ha with ha
   subst ha
   have src : ∀ i (hi : i < 6), wr.cell? (A6 g (off + j * 6 + i)) = ma[j].cells[i]? := fun i hi => by
    have e := vcells_at ma j hlt i hi
    rw [hBz.cell (p := (A6 g (off + j * 6 + i))) hg, Nat.add_assoc]
    have hl6 : i < ma[j].cells.length := by simpa [Vt.cells] using hi
    rw [List.getElem?_eq_getElem hl6] at e ⊢
    exact hcv _ _ e
   have dst : ∀ i (hi : i < 6), wr.cell? (A6 (w.heap.size + 1 + 1) (j * 6 + i)) = ma[j].cells[i]? := fun i hi => by
    rw [blk_cell hGz, hzv (j * 6 + i) (by omega) (by omega)]
    exact vcells_at ma j hlt i hi
   have s0 := src 0 (by decide)
   have s1 := src 1 (by decide)
   have s2 := src 2 (by decide)
   have s3 := src 3 (by decide)
   have s4 := src 4 (by decide)
   have s5 := src 5 (by decide)
   have d0 := dst 0 (by decide)
   have d1 := dst 1 (by decide)
   have d2 := dst 2 (by decide)
   have d3 := dst 3 (by decide)
   have d4 := dst 4 (by decide)
   have d5 := dst 5 (by decide)
   generalize ma[j] = x at *
   obtain ⟨xs, xb, ⟨xc, xq, xh, xt⟩⟩ := x
   simp only [Vt.cells, List.getElem?_cons_zero, List.getElem?_cons_succ, Nat.add_zero] at s0 s1 s2 s3 s4 s5 d0 d1 d2 d3 d4 d5
   have q0 : (0 : Int) ≤ (j : Int) := by omega
   have q1 : (j : Int) < (ma.length : Int) := by omega
   have q2 : (j : Int) < (ma.length : Int) + 1 := by omega
   have hgz : g < wr.heap.size := by have := hBz.size; omega
   clear src dst hcv hf
   have hGzf := blk_free hGz
   have hth : Hid (∀ q, World.there (wr.drewN q) (w.heap.size + 1 + 1) (j * 6) 6) := show ∀ q, World.there (wr.drewN q) (w.heap.size + 1 + 1) (j * 6) 6 from fun q k hk => ⟨by rw [World.cell?_drewN, blk_cell hGz, Array.getElem?_eq_getElem (by omega)]; rfl, by rw [World.frozen?_drewN]; exact hGzf _⟩
   have hi6' : Hid ((Tryz.prog.info? 53).map (·.size) = some (#[I6 0, I6 0, I6 0, I6 0, I6 0, .string ⟨#[]⟩] : Array Value).size) := hi6.out
   have h16 : Hid ((#[I6 0, I6 0, I6 0, I6 0, I6 0, .string ⟨#[]⟩] : Array Value).all (·.oneCell') = true) := show _ = _ from (by simp [Value.oneCell'])
   clear hGzf
   go_wp2
   go_quiet (fail)
   go_upto_region 15 with (refine wpList_store_mid rfl 53 (.tmp 88) (.tmp 87) rfl (w.heap.size + 1 + 1) (j * 6) #[I6 0, I6 0, I6 0, I6 0, I6 0, .string ⟨#[]⟩] rfl rfl (hth.out _) hi6'.out h16.out ?_; simp only [Act.put])
   go_wp2_with fail
   go_roundw
   case rel =>
    refine ⟨rfl, j + 1, by omega, by go_num, ⟨_, setCells_self (w.heap.size + 1 + 1) 53 _ (j * 6) _ cz hGz (by simp; omega), ?_, fun x hx1 hx2 => ?_⟩, ?_, ?_⟩
    ·simp only [List.size_toArray, List.length_append, List.length_take, List.length_drop, Array.length_toList, List.length_cons, List.length_nil]
     omega
    ·rw [List.getElem?_toArray, List.getElem?_append_right (by simp; omega)]
     simp only [List.length_append, List.length_take, Array.length_toList, List.length_cons, List.length_nil, List.getElem?_drop, Array.getElem?_toList]
     rw [← hzv x (by omega) hx2]
     congr 1
     omega
    ·rw [setCells_other (w.heap.size + 1 + 1) _ _ _ _ (by omega)]
     exact hmz
    ·have X := Keeps.ofSets (P := fun k => k = w.heap.size + 1 + 1) (w.heap.size + 1 + 1) rfl #[I6 0, I6 0, I6 0, I6 0, I6 0, .string ⟨#[]⟩].toList (j * 6) wr
     exact hBz.trans ⟨X.os, X.tape, X.output, X.size, fun k hk => X.block k (by have := hBz.size; omega) (by omega)⟩
   case measure => simp [intOf]; omega
  ·obtain rfl : j = ma.length := by omega
   go_wp2_with (go_at_call 18; refine (num_same _ _).mono ?_; rintro e w9 ⟨rfl, rfl⟩)
   go_ret
   exact ⟨rfl, hBz⟩
theorem packed_any (m : Ms) (v : Value) (w : World) (hk : Kinds w) (hv : VAt w v m.a) (hn : (m.a.length + 1) * 56 ≤ 281474976710656) :
  Calls Tryz.prog 10 #[.agg (mval m v)] w fun e w' => e = .returned (.bool true) ∧ Below w.heap.size w w' := by
 obtain ⟨ao, cap, rfl, hf⟩ := hv.form
 cases ao with
 | none => exact packed_nil m cap w hk hv
 | some a => exact packed_some m a cap w hk hv hn
end
end Go.Proofs.YtnnhnekfokbooaaGreatDoor
