/- The walks of what a replica does with a Propose, a Decide, a Refuse (laid by mksyne.py). -/
import Derived.Test.YtnnhnekfokbooaaGreatDoorVo10
namespace Go.Proofs.YtnnhnekfokbooaaGreatDoor
open List (getElem_toArray getElem_cons_zero getElem_cons_succ setIfInBounds_toArray set_cons_zero set_cons_succ)
open Go.RowKit
set_option linter.unusedSimpArgs false
set_option linter.unusedVariables false

theorem accept_ok {r : Rp} (h : r.ok) {k : Nat} {v : Vt} (h0 : 0 ≤ v.s) (h1 : v.s < 16) : (r.accept k v).ok :=
 ⟨h.pr0, h.pr1, h.sn0, h.sn1, by simp [Rp.accept, h.acc], fun x hx => by
  rcases List.mem_or_eq_of_mem_set hx with h2 | h2
  ·exact h.slot x h2
  ·rw [h2]; exact ⟨h0, h1⟩, h.dec, h.rl⟩
theorem decide_ok {r : Rp} (h : r.ok) (k : Nat) (p : Pst) : (r.decide k p).ok :=
 ⟨h.pr0, h.pr1, h.sn0, h.sn1, h.acc, h.slot, by simp [Rp.decide, h.dec], h.rl⟩
theorem repCells_accept (i n sb : Nat) (r : Rp) (rv : Value) (h : r.ok) (k : Nat) (hk : k < 16) (v : Vt) :
  (repCells i n sb r rv).take (5 + k * 6) ++ v.cells ++ (repCells i n sb r rv).drop (5 + k * 6 + 6) = repCells i n sb (r.accept k v) rv := by
 have h1 : (repHead i n sb r).length = 5 := rfl
 have h2 : (vcells r.acc).length = 96 := by rw [vcells_length, h.acc]
 have e1 : 5 + k * 6 - 5 = k * 6 := by omega
 have e2 : 5 + k * 6 + 6 - 5 = k * 6 + 6 := by omega
 rw [repCells, List.take_append, List.take_of_length_le (by omega), List.drop_append, List.drop_of_length_le (by omega), h1, e1, e2]
 rw [List.take_append, List.drop_append, h2]
 have e3 : k * 6 - 96 = 0 := by omega
 have e4 : k * 6 + 6 - 96 = 0 := by omega
 rw [e3, e4, List.take_zero, List.drop_zero, List.append_nil]
 simp only [repCells, Rp.accept, ← vcells_set r.acc k (by rw [h.acc]; exact hk) v]
 simp [repHead]
theorem dcells_set : ∀ (l : List Dn) (k : Nat) (hk : k < l.length) (v : Dn), (dcells l).take (k * 5) ++ v.cells ++ (dcells l).drop (k * 5 + 5) = dcells (l.set k v)
 | [], k, hk, _ => by simp at hk
 | x :: l, 0, _, v => by
  rw [List.set_cons_zero, dcells, dcells]
  have e : (x.cells ++ dcells l).drop (0 * 5 + 5) = dcells l := List.drop_left' rfl
  rw [e]; simp
 | x :: l, k + 1, hk, v => by
  have e1 : (k + 1) * 5 = x.cells.length + k * 5 := by show _ = 5 + _; omega
  have e2 : (k + 1) * 5 + 5 = x.cells.length + (k * 5 + 5) := by show _ = 5 + _; omega
  rw [List.set_cons_succ, dcells, dcells, e2, e1, ← dcells_set l k (by simpa using hk) v]
  rw [List.take_append, List.take_of_length_le (by omega), List.drop_append, List.drop_of_length_le (by omega), Nat.add_sub_cancel_left, Nat.add_sub_cancel_left]
  simp
theorem repCells_decide (i n sb : Nat) (r : Rp) (rv : Value) (h : r.ok) (k : Nat) (hk : k < 16) (p : Pst) :
  (repCells i n sb r rv).take (101 + k * 5) ++ (Dn.mk true p).cells ++ (repCells i n sb r rv).drop (101 + k * 5 + 5) = repCells i n sb (r.decide k p) rv := by
 have h1 : (repHead i n sb r).length = 5 := rfl
 have h2 : (vcells r.acc).length = 96 := by rw [vcells_length, h.acc]
 have h3 : (dcells r.dec).length = 80 := by rw [dcells_length, h.dec]
 have e1 : 101 + k * 5 - 5 - 96 = k * 5 := by omega
 have e2 : 101 + k * 5 + 5 - 5 - 96 = k * 5 + 5 := by omega
 rw [repCells, List.take_append, List.take_of_length_le (by omega), List.drop_append, List.drop_of_length_le (by omega), h1]
 rw [List.take_append, List.take_of_length_le (by omega), List.drop_append, List.drop_of_length_le (by omega), h2, e1, e2]
 rw [List.take_append, List.drop_append, h3]
 have e3 : k * 5 - 80 = 0 := by omega
 have e4 : k * 5 + 5 - 80 = 0 := by omega
 rw [e3, e4, List.take_zero, List.drop_zero, List.append_nil]
 simp only [repCells, Rp.decide, ← dcells_set r.dec k (by rw [h.dec]; exact hk) ⟨true, p⟩]
 simp [repHead]
/-- What is accepted is written. -/
theorem SynAt.accept {w : World} {sb : Nat} {L : Lay} {s : Sy} (h : SynAt w sb L s) {i : Nat} (hi : i < s.n) (k : Nat) (hk : k < 16) (v : Vt) (h0 : 0 ≤ v.s) (h1 : v.s < 16) : SynTo w sb L (w.setCells (L.rb i) (5 + k * 6) v.cells) (s.put i ((s.rep i).accept k v)) := by
 have hok := h.ok.repOk hi
 have hkp : Keeps (fun k => k = L.rb i) w (w.setCells (L.rb i) (5 + k * 6) v.cells) := Keeps.ofSets (P := fun k => k = L.rb i) _ rfl _ _ _
 refine h.setRep hi (rv := L.rv i) (accept_ok hok h0 h1) (hkp.mono (fun k _ h => .inl h)) ?_ ((h.role i hi).keeps hkp (fun k hk' e => h.roleNe hi hi (e ▸ hk'))) (fun k hk => .inl hk)
 have hl : v.cells.length = 6 := rfl
 rw [setCells_self (L.rb i) _ v.cells (5 + k * 6) w _ (h.rep i hi) (by rw [List.size_toArray, repCells_length _ _ _ _ _ hok, hl]; omega), hl, List.toList_toArray, repCells_accept _ _ _ _ _ hok k hk]
theorem decide_rv {w : World} {sb : Nat} {L : Lay} {s : Sy} (h : SynAt w sb L s) {i : Nat} (hi : i < s.n) (k : Nat) (hk : k < 16) (p : Pst) :
  Calls Tryz.prog 133 #[.pointer (some ⟨L.rb i, 0, none⟩), .int .i64 (k : Int), .agg #[.int .i64 p.c, .int .i64 p.q, .int .i64 p.h, .string p.t]] w fun e w' => e = .returned (.tuple #[]) ∧ SynRv L.rv w sb L w' (s.put i ((s.rep i).decide k p)) := by
 have hok := h.ok.repOk hi
 refine (decide_any (L.rb i) k _ p.c p.q p.h p.t w (h.rep i hi) (by rw [List.size_toArray, repCells_length _ _ _ _ _ hok]) hk).mono ?_
 rintro e w' ⟨rfl, hb, hkp⟩
 have hR := h.setRepR hi (rv := L.rv i) (decide_ok hok k p) (hkp.mono (fun k _ h => .inl h)) (by rw [hb, ← repCells_decide _ _ _ _ _ hok k hk]; rfl) ((h.role i hi).keeps hkp (fun k hk' e => h.roleNe hi hi (e ▸ hk'))) (fun k hk => .inl hk)
 rw [upd_self] at hR
 exact ⟨rfl, hR⟩
theorem decide_syn {w : World} {sb : Nat} {L : Lay} {s : Sy} (h : SynAt w sb L s) {i : Nat} (hi : i < s.n) (k : Nat) (hk : k < 16) (p : Pst) :
  Calls Tryz.prog 133 #[.pointer (some ⟨L.rb i, 0, none⟩), .int .i64 (k : Int), .agg #[.int .i64 p.c, .int .i64 p.q, .int .i64 p.h, .string p.t]] w fun e w' => e = .returned (.tuple #[]) ∧ SynTo w sb L w' (s.put i ((s.rep i).decide k p)) :=
 (decide_rv h hi k hk p).mono (fun _ _ ⟨e, h⟩ => ⟨e, h.to⟩)
theorem SynAt.dms {w : World} {sb : Nat} {L : Lay} {s : Sy} (h : SynAt w sb L s) {i : Nat} (hi : i < s.n) (k : Nat) (hk : k < 16) : w.cell? ⟨L.rb i, 101 + k * 5, none⟩ = some (.bool ((s.rep i).dm k)) := by
 have hok := h.ok.repOk hi
 have hb := h.rep i hi
 have h1 : (repHead i s.n sb (s.rep i)).length = 5 := rfl
 have h2 : (vcells (s.rep i).acc).length = 96 := by rw [vcells_length, hok.acc]
 have h3 : (dcells (s.rep i).dec).length = 80 := by rw [dcells_length, hok.dec]
 have hkl : k < (s.rep i).dec.length := by rw [hok.dec]; exact hk
 have e1 : 101 + k * 5 - 5 - 96 = k * 5 := by omega
 rw [blk_cell hb, List.getElem?_toArray, repCells, List.getElem?_append_right (by omega), h1, List.getElem?_append_right (by omega), h2, e1, List.getElem?_append_left (by omega)]
 have e2 := dcells_cut (s.rep i).dec k hkl
 have e3 : ((List.drop (k * 5) (dcells (s.rep i).dec)).take 5)[0]? = (dcells (s.rep i).dec)[k * 5]? := by simp
 rw [← e3, e2, Rp.dm, List.getD_eq_getElem?_getD, List.getElem?_eq_getElem hkl]
 rfl

set_option maxHeartbeats 1000000 in
set_option maxRecDepth 100000 in
theorem takeRefuse_syn {w : World} {sb : Nat} {L : Lay} {s : Sy} (h : SynAt w sb L s) {i : Nat} (hi : i < s.n) (x : Nm) (hx : x.okt w) (hm : x.m.ok s.n) :
  Calls Tryz.prog 105 #[.pointer (some ⟨L.rb i, 0, none⟩), .agg x.cells.toArray] w fun e w' => e = .returned (.tuple #[]) ∧ SynTo w sb L w' (s.takeRefuse i x.m) := by
 have hAt := h
 obtain ⟨xa, xc, hxe, _⟩ := hx.1.1.form
 obtain ⟨⟨mk, mf, mt, mb, ms, ⟨mc, mq, mh, mx⟩, ma⟩, xv⟩ := x
 obtain ⟨f, rfl⟩ := Int.eq_ofNat_of_zero_le hm.f0
 obtain ⟨sl, rfl⟩ := Int.eq_ofNat_of_zero_le hm.s0
 have hf : f < s.n := by have := hm.f1; simp at this; exact this
 have hsl : sl < 16 := by have := hm.s1; simp at this; omega
 have b0 : 0 ≤ mb := hm.b0
 have b1 : mb ≤ 8007 := hm.b1
 simp only [Nm.cells] at *
 subst hxe
 generalize hxn : ma.length = xn at *
 have hY := yield_syn (h.alloc (.cells #[.int .i64 mk, .int .i64 (f : Int), .int .i64 mt, .int .i64 mb, .int .i64 (sl : Int), .int .i64 mc, .int .i64 mq, .int .i64 mh, .string mx, .slice xa xn xc] 36)) hi mb b0 b1
 have hB : Below w.heap.size w (w.alloc (.cells #[.int .i64 mk, .int .i64 (f : Int), .int .i64 mt, .int .i64 mb, .int .i64 (sl : Int), .int .i64 mc, .int .i64 mq, .int .i64 mh, .string mx, .slice xa xn xc] 36)) := (Below.refl _ w).alloc (Nat.le_refl _) _
 go_enter Tryz.func105, Tryz.ntmps105
 go_wp2_with fail
 refine hY.mono ?_
 rintro e w2 ⟨rfl, hto⟩
 go_wp2_with fail
 go_end0
 exact ⟨rfl, SynTo.after (s := s.put i ((s.rep i).yield mb)) h rfl hB hto⟩

set_option maxHeartbeats 1000000 in
set_option maxRecDepth 100000 in
theorem takeDecide_syn {w : World} {sb : Nat} {L : Lay} {s : Sy} (h : SynAt w sb L s) {i : Nat} (hi : i < s.n) (x : Nm) (hx : x.okt w) (hm : x.m.ok s.n) :
  Calls Tryz.prog 104 #[.pointer (some ⟨L.rb i, 0, none⟩), .agg x.cells.toArray] w fun e w' => e = .returned (.tuple #[]) ∧ SynTo w sb L w' (s.takeDecide i x.m) := by
 have hAt := h
 obtain ⟨xa, xc, hxe, _⟩ := hx.1.1.form
 obtain ⟨⟨mk, mf, mt, mb, ms, ⟨mc, mq, mh, mx⟩, ma⟩, xv⟩ := x
 obtain ⟨f, rfl⟩ := Int.eq_ofNat_of_zero_le hm.f0
 obtain ⟨sl, rfl⟩ := Int.eq_ofNat_of_zero_le hm.s0
 have hf : f < s.n := by have := hm.f1; simp at this; exact this
 have hsl : sl < 16 := by have := hm.s1; simp at this; omega
 have b0 : 0 ≤ mb := hm.b0
 have b1 : mb ≤ 8007 := hm.b1
 simp only [Nm.cells] at *
 subst hxe
 generalize hxn : ma.length = xn at *
 have hY := fun q => decide_syn ((h.alloc (.cells #[.int .i64 mk, .int .i64 (f : Int), .int .i64 mt, .int .i64 mb, .int .i64 (sl : Int), .int .i64 mc, .int .i64 mq, .int .i64 mh, .string mx, .slice xa xn xc] 36)).drewN q) hi sl hsl ⟨mc, mq, mh, mx⟩
 have hlt := h.own_lt (.inr (.inr (.inl ⟨i, hi, .inl rfl⟩)))
 have hB : Below w.heap.size w (w.alloc (.cells #[.int .i64 mk, .int .i64 (f : Int), .int .i64 mt, .int .i64 mb, .int .i64 (sl : Int), .int .i64 mc, .int .i64 mq, .int .i64 mh, .string mx, .slice xa xn xc] 36)) := (Below.refl _ w).alloc (Nat.le_refl _) _
 have hdm := (h.alloc (.cells #[.int .i64 mk, .int .i64 (f : Int), .int .i64 mt, .int .i64 mb, .int .i64 (sl : Int), .int .i64 mc, .int .i64 mq, .int .i64 mh, .string mx, .slice xa xn xc] 36)).dms hi sl hsl
 have q0 : (0 : Int) ≤ (sl : Int) := by omega
 have q1 : (sl : Int) < 16 := by omega
 unfold Sy.takeDecide
 simp only [Int.toNat_natCast]
 cases hd : (s.rep i).dm sl
 ·rw [hd] at hdm
  go_enter Tryz.func104, Tryz.ntmps104
  go_wp2_with fail
  go_quiet (fail)
  go_wp2_with fail
  refine (hY _).mono ?_
  rintro e w2 ⟨rfl, hto⟩
  go_wp2_with fail
  go_end0
  exact ⟨rfl, SynTo.after (s := s.put i ((s.rep i).decide sl ⟨mc, mq, mh, mx⟩)) hAt rfl (below_drewN hB _) hto⟩
 ·rw [hd] at hdm
  go_enter Tryz.func104, Tryz.ntmps104
  go_wp2_with fail
  go_quiet (fail)
  go_wp2_with fail
  go_end0
  exact ⟨rfl, (SynTo.refl hAt).below (below_drewN hB _)⟩

set_option maxHeartbeats 1000000 in
set_option maxRecDepth 100000 in
theorem takePropose_syn {w : World} {sb : Nat} {L : Lay} {s : Sy} (h : SynAt w sb L s) {i : Nat} (hi : i < s.n) (x : Nm) (hx : x.okt w) (hm : x.m.ok s.n) :
  Calls Tryz.prog 102 #[.pointer (some ⟨L.rb i, 0, none⟩), .agg x.cells.toArray] w fun e w' => e = .returned (.tuple #[]) ∧ SynTo w sb L w' (s.takePropose i x.m) := by
 have hO := fun o => obeys_syn (h.alloc o) hi x (hx.keeps (Keeps.ofAlloc (P := fun _ => False) w o) (fun _ _ _ => id)) hm
 have hAt := h
 obtain ⟨xa, xc, hxe, _⟩ := hx.1.1.form
 obtain ⟨⟨mk, mf, mt, mb, ms, ⟨mc, mq, mh, mx⟩, ma⟩, xv⟩ := x
 obtain ⟨f, rfl⟩ := Int.eq_ofNat_of_zero_le hm.f0
 obtain ⟨sl, rfl⟩ := Int.eq_ofNat_of_zero_le hm.s0
 have hf : f < s.n := by have := hm.f1; simp at this; exact this
 have hsl : sl < 16 := by have := hm.s1; simp at this; omega
 have b0 : 0 ≤ mb := hm.b0
 have b1 : mb ≤ 8007 := hm.b1
 simp only [Nm.cells] at *
 subst hxe
 generalize hxn : ma.length = xn at *
 have hbox := blk_new w (.cells #[.int .i64 mk, .int .i64 (f : Int), .int .i64 mt, .int .i64 mb, .int .i64 (sl : Int), .int .i64 mc, .int .i64 mq, .int .i64 mh, .string mx, .slice xa xn xc] 36)
 have hB : Below w.heap.size w (w.alloc (.cells #[.int .i64 mk, .int .i64 (f : Int), .int .i64 mt, .int .i64 mb, .int .i64 (sl : Int), .int .i64 mc, .int .i64 mq, .int .i64 mh, .string mx, .slice xa xn xc] 36)) := (Below.refl _ w).alloc (Nat.le_refl _) _
 have q0 : (0 : Int) ≤ (sl : Int) := by omega
 have q1 : (sl : Int) < 16 := by omega
 unfold Sy.takePropose
 simp only [Int.toNat_natCast]
 by_cases hb : mb < (s.rep i).pr
 ·have hd2 : s.obeys i (Ms.mk mk (f : Int) mt mb (sl : Int) ⟨mc, mq, mh, mx⟩ ma) = false := by simp [Sy.obeys]; omega
  simp only [if_pos hb]
  rw [hd2] at hO
  go_enter Tryz.func102, Tryz.ntmps102
  go_wp2_with fail
  refine (hO _).mono ?_
  rintro e w2 ⟨rfl, hto⟩
  clear hO
  go_wp2_with fail
  go_end0
  exact ⟨rfl, SynTo.after h (obey_n _ _ _) hB hto⟩
 ·have hd2 : s.obeys i (Ms.mk mk (f : Int) mt mb (sl : Int) ⟨mc, mq, mh, mx⟩ ma) = true := by simp [Sy.obeys]; omega
  simp only [if_neg hb]
  rw [hd2] at hO
  have hn2 := obey_n s i (Ms.mk mk (f : Int) mt mb (sl : Int) ⟨mc, mq, mh, mx⟩ ma)
  generalize s.obey i (Ms.mk mk (f : Int) mt mb (sl : Int) ⟨mc, mq, mh, mx⟩ ma) = s2 at *
  go_enter Tryz.func102, Tryz.ntmps102
  go_wp2_with fail
  refine (hO _).mono ?_
  rintro e w2 ⟨rfl, hto⟩
  clear hO
  have hbox2 := hto.blk hbox (fun ho => by rw [hn2] at ho; have := h.own_lt ho; omega)
  obtain ⟨L2, h2, e2, ho2, hk2⟩ := id hto
  have hno2 : ¬ L2.own sb s2.n w.heap.size := fun ho => by
   rcases ho2 _ ho with h9 | h9
   ·rw [hn2] at h9; have := h.own_lt h9; omega
   ·rw [World.size_alloc] at h9; omega
  have hi2 : i < s2.n := by rw [hn2]; exact hi
  have hrok2 := h2.ok.repOk hi2
  have hac := h2.drew.accept hi2 sl hsl ⟨(sl : Int), mb, ⟨mc, mq, mh, mx⟩⟩ q0 q1
  have hrb2 := h2.rep i hi2
  rw [e2] at hac hrb2
  have hne : w.heap.size ≠ L.rb i := fun e => hno2 (.inr (.inr (.inl ⟨i, hi2, .inl (by rw [e2]; exact e)⟩)))
  have hth : World.there w2.drew (L.rb i) (5 + sl * 6) 6 := fun j hj => ⟨by show (World.cell? w2 _).isSome = true; rw [blk_cell hrb2, Array.getElem?_eq_getElem (by rw [List.size_toArray, repCells_length _ _ _ _ _ hrok2]; omega)]; rfl, blk_free (w := w2.drew) hrb2 _⟩
  have hi6 : (Tryz.prog.info? 53).map (·.size) = some (#[.int .i64 (sl : Int), .int .i64 mb, .int .i64 mc, .int .i64 mq, .int .i64 mh, .string mx] : Array Value).size := by kernel_rfl
  have h16 : (#[.int .i64 (sl : Int), .int .i64 mb, .int .i64 mc, .int .i64 mq, .int .i64 mh, .string mx] : Array Value).all (·.oneCell') = true := by simp [Value.oneCell']
  go_wp2_with fail
  refine wp_region_held_drew (S := fun w' => w'.heap[w.heap.size]? = some (.cells #[.int .i64 mk, .int .i64 (f : Int), .int .i64 mt, .int .i64 mb, .int .i64 (sl : Int), .int .i64 mc, .int .i64 mq, .int .i64 mh, .string mx, .slice xa xn xc] 36 (0, 0))) (by kernel_rfl) (hbox2) (fun hS => ?_)
  refine wpAnyH_take (i := 0) (v := .pointer (some ⟨L.rb i, 0, none⟩)) rfl (by kernel_rfl) (by kernel_rfl) (by kernel_rfl) (fun _ _ _ h => h) (Or.inl ⟨by kernel_rfl, fun w' hw => by clear hS; go_simp⟩) hS ?_
  try simp only [Act.put, getElem_toArray, getElem_cons_zero, getElem_cons_succ, setIfInBounds_toArray, set_cons_zero, set_cons_succ]
  refine wpAnyH_take (i := 1) (v := .pointer (some ⟨w.heap.size, 4, none⟩)) rfl (by kernel_rfl) (by kernel_rfl) (by kernel_rfl) (fun _ _ _ h => h) (Or.inl ⟨by kernel_rfl, fun w' hw => by clear hS; go_simp⟩) hS ?_
  try simp only [Act.put, getElem_toArray, getElem_cons_zero, getElem_cons_succ, setIfInBounds_toArray, set_cons_zero, set_cons_succ]
  refine wpAnyH_take (i := 2) (v := .int .i64 (sl : Int)) rfl (by kernel_rfl) (by kernel_rfl) (by kernel_rfl) (fun _ _ _ h => h) (Or.inl ⟨by kernel_rfl, fun w' hw => by have c := blk_cell hw; clear hS; go_simp⟩) hS ?_
  try simp only [Act.put, getElem_toArray, getElem_cons_zero, getElem_cons_succ, setIfInBounds_toArray, set_cons_zero, set_cons_succ]
  refine wpAnyH_take (i := 3) (v := .pointer (some ⟨w.heap.size, 4, none⟩)) rfl (by kernel_rfl) (by kernel_rfl) (by kernel_rfl) (fun _ _ _ h => h) (Or.inl ⟨by kernel_rfl, fun w' hw => by clear hS; go_simp⟩) hS ?_
  try simp only [Act.put, getElem_toArray, getElem_cons_zero, getElem_cons_succ, setIfInBounds_toArray, set_cons_zero, set_cons_succ]
  refine wpAnyH_take (i := 4) (v := .int .i64 (sl : Int)) rfl (by kernel_rfl) (by kernel_rfl) (by kernel_rfl) (fun _ _ _ h => h) (Or.inl ⟨by kernel_rfl, fun w' hw => by have c := blk_cell hw; clear hS; go_simp⟩) hS ?_
  try simp only [Act.put, getElem_toArray, getElem_cons_zero, getElem_cons_succ, setIfInBounds_toArray, set_cons_zero, set_cons_succ]
  refine wpAnyH_take (i := 5) (v := .pointer (some ⟨w.heap.size, 3, none⟩)) rfl (by kernel_rfl) (by kernel_rfl) (by kernel_rfl) (fun _ _ _ h => h) (Or.inl ⟨by kernel_rfl, fun w' hw => by clear hS; go_simp⟩) hS ?_
  try simp only [Act.put, getElem_toArray, getElem_cons_zero, getElem_cons_succ, setIfInBounds_toArray, set_cons_zero, set_cons_succ]
  refine wpAnyH_take (i := 6) (v := .int .i64 mb) rfl (by kernel_rfl) (by kernel_rfl) (by kernel_rfl) (fun _ _ _ h => h) (Or.inl ⟨by kernel_rfl, fun w' hw => by have c := blk_cell hw; clear hS; go_simp⟩) hS ?_
  try simp only [Act.put, getElem_toArray, getElem_cons_zero, getElem_cons_succ, setIfInBounds_toArray, set_cons_zero, set_cons_succ]
  refine wpAnyH_take (i := 7) (v := .pointer (some ⟨w.heap.size, 5, none⟩)) rfl (by kernel_rfl) (by kernel_rfl) (by kernel_rfl) (fun _ _ _ h => h) (Or.inl ⟨by kernel_rfl, fun w' hw => by clear hS; go_simp⟩) hS ?_
  try simp only [Act.put, getElem_toArray, getElem_cons_zero, getElem_cons_succ, setIfInBounds_toArray, set_cons_zero, set_cons_succ]
  refine wpAnyH_take (i := 8) (v := .agg #[.int .i64 mc, .int .i64 mq, .int .i64 mh, .string mx]) rfl (by kernel_rfl) (by kernel_rfl) (by kernel_rfl) (fun _ _ _ h => h) (Or.inl ⟨by kernel_rfl, fun w' hw => by have c := blk_cell hw; clear hS; go_simp⟩) hS ?_
  try simp only [Act.put, getElem_toArray, getElem_cons_zero, getElem_cons_succ, setIfInBounds_toArray, set_cons_zero, set_cons_succ]
  refine wpAnyH_take (i := 9) (v := .agg #[.int .i64 (sl : Int), .int .i64 mb, .int .i64 mc, .int .i64 mq, .int .i64 mh, .string mx]) rfl (by kernel_rfl) (by kernel_rfl) (by kernel_rfl) (fun _ _ _ h => h) (Or.inl ⟨by kernel_rfl, fun w' hw => by clear hS; go_simp⟩) hS ?_
  try simp only [Act.put, getElem_toArray, getElem_cons_zero, getElem_cons_succ, setIfInBounds_toArray, set_cons_zero, set_cons_succ]
  refine wpAnyH_take (i := 10) (v := .pointer (some ⟨L.rb i, 0, none⟩)) rfl (by kernel_rfl) (by kernel_rfl) (by kernel_rfl) (fun _ _ _ h => h) (Or.inl ⟨by kernel_rfl, fun w' hw => by clear hS; go_simp⟩) hS ?_
  try simp only [Act.put, getElem_toArray, getElem_cons_zero, getElem_cons_succ, setIfInBounds_toArray, set_cons_zero, set_cons_succ]
  refine wpAnyH_take (i := 11) (v := .pointer (some ⟨L.rb i, 5, none⟩)) rfl (by kernel_rfl) (by kernel_rfl) (by kernel_rfl) (fun _ _ _ h => h) (Or.inl ⟨by kernel_rfl, fun w' hw => by clear hS; go_simp⟩) hS ?_
  try simp only [Act.put, getElem_toArray, getElem_cons_zero, getElem_cons_succ, setIfInBounds_toArray, set_cons_zero, set_cons_succ]
  refine wpAnyH_take (i := 12) (v := .pointer (some ⟨L.rb i, 5 + sl * 6, none⟩)) rfl (by kernel_rfl) (by kernel_rfl) (by kernel_rfl) (fun _ _ _ h => h) (Or.inl ⟨by kernel_rfl, fun w' hw => by clear hS; go_simp⟩) hS ?_
  try simp only [Act.put, getElem_toArray, getElem_cons_zero, getElem_cons_succ, setIfInBounds_toArray, set_cons_zero, set_cons_succ]
  refine wpAnyH_ready (rs := [13]) (by kernel_rfl) (by simp) ?_
  refine AllReadyH.cons rfl (fun K hK => ?_) AllReadyH.nil
  rw [if_pos (by kernel_rfl)]
  refine wp_store_mid 53 (.tmp 19) (.tmp 16) rfl (L.rb i) (5 + sl * 6) #[.int .i64 (sl : Int), .int .i64 mb, .int .i64 mc, .int .i64 mq, .int .i64 mh, .string mx] rfl rfl hth hi6 h16 ?_
  have hbox3 : (World.setCells w2.drew (L.rb i) (5 + sl * 6) #[.int .i64 (sl : Int), .int .i64 mb, .int .i64 mc, .int .i64 mq, .int .i64 mh, .string mx].toList).heap[w.heap.size]? = some (.cells #[.int .i64 mk, .int .i64 (f : Int), .int .i64 mt, .int .i64 mb, .int .i64 (sl : Int), .int .i64 mc, .int .i64 mq, .int .i64 mh, .string mx, .slice xa xn xc] 36 (0, 0)) := by
   rw [setCells_other (L.rb i) _ _ _ _ hne]; exact hbox2
  refine hK.out _ _ hbox3 (fun hS => ?_)
  clear hK K
  try simp only [Act.put, getElem_toArray, getElem_cons_zero, getElem_cons_succ, setIfInBounds_toArray, set_cons_zero, set_cons_succ]
  refine wpAnyH_done (by kernel_rfl) ?_ _
  have hac2 : SynTo w2.drew sb L2 (World.setCells w2.drew (L.rb i) (5 + sl * 6) #[.int .i64 (sl : Int), .int .i64 mb, .int .i64 mc, .int .i64 mq, .int .i64 mh, .string mx].toList) (s2.put i ((s2.rep i).accept sl ⟨(sl : Int), mb, ⟨mc, mq, mh, mx⟩⟩)) := hac
  generalize World.setCells w2.drew (L.rb i) (5 + sl * 6) #[.int .i64 (sl : Int), .int .i64 mb, .int .i64 mc, .int .i64 mq, .int .i64 mh, .string mx].toList = w3 at *
  have hbc := blk_cell hbox3
  have hto3 := SynTo.next e2 ho2 hk2 (s2 := s2.put i ((s2.rep i).accept sl ⟨(sl : Int), mb, ⟨mc, mq, mh, mx⟩⟩)) rfl (SynTo.after h2 rfl (Below.drew (Below.refl _ w2)) hac2)
  have hn3 : (s2.put i ((s2.rep i).accept sl ⟨(sl : Int), mb, ⟨mc, mq, mh, mx⟩⟩)).n = s.n := hn2
  generalize hs3 : s2.put i ((s2.rep i).accept sl ⟨(sl : Int), mb, ⟨mc, mq, mh, mx⟩⟩) = s3 at *
  clear hac hac2
  obtain ⟨L3, h3, e3, ho3, hk3⟩ := id hto3
  have hX := send1_syn h3 (by rw [hn3]; exact hi) ⟨msg 4 mb (sl : Int) noPst [], .slice none 0 0⟩ (Nm.okt_nil _ _ rfl) (msg_ok h3.ok.n0 (by decide) (by decide) b0 b1 q0 q1 (by simp) (by simp)) f (by rw [hn3]; exact hf) w3.heap.size rfl
  rw [e3] at hX
  go_wp2_with fail
  refine hX.mono ?_
  rintro e w5 ⟨rfl, hto5⟩
  have hto6 := SynTo.after hAt ((sendTo_n _ _ _ _).trans hn3) hB (SynTo.next e3 ho3 hk3 (sendTo_n _ _ _ _) hto5)
  clear hX
  go_wp2_with fail
  go_end0
  subst hs3
  exact ⟨rfl, hto6⟩
end Go.Proofs.YtnnhnekfokbooaaGreatDoor
