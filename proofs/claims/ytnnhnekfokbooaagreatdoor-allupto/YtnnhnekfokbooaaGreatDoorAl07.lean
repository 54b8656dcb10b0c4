/- SynE, SynF -/
import Derived.Test.YtnnhnekfokbooaaGreatDoorAl06
set_option linter.unusedSimpArgs false
set_option linter.unusedVariables false
set_option maxRecDepth 100000
namespace Go.Proofs.YtnnhnekfokbooaaGreatDoor
section
open Go.RowKit
theorem accept_ok {r : Rp} (h : r.ok) {k : Nat} {v : Vt} (h0 : 0 ≤ v.s) (h1 : v.s < 16) : (r.accept k v).ok :=
 ⟨h.pr0, h.pr1, h.sn0, h.sn1, by simp [Rp.accept, h.acc], fun x hx => by
  rcases List.mem_or_eq_of_mem_set hx with h2 | h2
  ·exact h.slot x h2
  ·rw [h2]; exact ⟨h0, h1⟩, h.dec, h.rl⟩
theorem decide_ok {r : Rp} (h : r.ok) (k : Nat) (p : Pst) : (r.decide k p).ok :=
 ⟨h.pr0, h.pr1, h.sn0, h.sn1, h.acc, h.slot, by simp [Rp.decide, h.dec], h.rl⟩
theorem repCells_accept (i n sb : Nat) (r : Rp) (rv : Value) (h : r.ok) (k : Nat) (hk : k < 16) (v : Vt) :
  (repCells i n sb r rv).take (5 + k * 6) ++ v.cells ++ (repCells i n sb r rv).drop (5 + k * 6 + 6) = repCells i n sb (r.accept k v) rv := by
 have h1 : (repHead i n sb r).length = 5 := rfl
 have h2 : (vcells r.acc).length = 96 := by rw [vcells_length, h.acc]
 have e1 : 5 + k * 6 - 5 = k * 6 := by omega
 have e2 : 5 + k * 6 + 6 - 5 = k * 6 + 6 := by omega
 rw [repCells, List.take_append, List.take_of_length_le (by omega), List.drop_append, List.drop_of_length_le (by omega), h1, e1, e2]
 rw [List.take_append, List.drop_append, h2]
 have e3 : k * 6 - 96 = 0 := by omega
 have e4 : k * 6 + 6 - 96 = 0 := by omega
 rw [e3, e4, List.take_zero, List.drop_zero, List.append_nil]
 simp only [repCells, Rp.accept, ← vcells_set r.acc k (by rw [h.acc]; exact hk) v]
 simp [repHead]
theorem dcells_set : ∀ (l : List Dn) (k : Nat) (hk : k < l.length) (v : Dn), (dcells l).take (k * 5) ++ v.cells ++ (dcells l).drop (k * 5 + 5) = dcells (l.set k v)
 | [], k, hk, _ => by simp at hk
 | x :: l, 0, _, v => by
  rw [List.set_cons_zero, dcells, dcells]
  have e : (x.cells ++ dcells l).drop (0 * 5 + 5) = dcells l := List.drop_left' rfl
  rw [e]; simp
 | x :: l, k + 1, hk, v => by
  have e1 : (k + 1) * 5 = x.cells.length + k * 5 := by show _ = 5 + _; omega
  have e2 : (k + 1) * 5 + 5 = x.cells.length + (k * 5 + 5) := by show _ = 5 + _; omega
  rw [List.set_cons_succ, dcells, dcells, e2, e1, ← dcells_set l k (by simpa using hk) v]
  rw [List.take_append, List.take_of_length_le (by omega), List.drop_append, List.drop_of_length_le (by omega), Nat.add_sub_cancel_left, Nat.add_sub_cancel_left]
  simp
theorem repCells_decide (i n sb : Nat) (r : Rp) (rv : Value) (h : r.ok) (k : Nat) (hk : k < 16) (p : Pst) :
  (repCells i n sb r rv).take (101 + k * 5) ++ (Dn.mk true p).cells ++ (repCells i n sb r rv).drop (101 + k * 5 + 5) = repCells i n sb (r.decide k p) rv := by
 have h1 : (repHead i n sb r).length = 5 := rfl
 have h2 : (vcells r.acc).length = 96 := by rw [vcells_length, h.acc]
 have h3 : (dcells r.dec).length = 80 := by rw [dcells_length, h.dec]
 have e1 : 101 + k * 5 - 5 - 96 = k * 5 := by omega
 have e2 : 101 + k * 5 + 5 - 5 - 96 = k * 5 + 5 := by omega
 rw [repCells, List.take_append, List.take_of_length_le (by omega), List.drop_append, List.drop_of_length_le (by omega), h1]
 rw [List.take_append, List.take_of_length_le (by omega), List.drop_append, List.drop_of_length_le (by omega), h2, e1, e2]
 rw [List.take_append, List.drop_append, h3]
 have e3 : k * 5 - 80 = 0 := by omega
 have e4 : k * 5 + 5 - 80 = 0 := by omega
 rw [e3, e4, List.take_zero, List.drop_zero, List.append_nil]
 simp only [repCells, Rp.decide, ← dcells_set r.dec k (by rw [h.dec]; exact hk) ⟨true, p⟩]
 simp [repHead]
theorem SynAt.accept {w : World} {sb : Nat} {L : Lay} {s : Sy} (h : SynAt w sb L s) {i : Nat} (hi : i < s.n) (k : Nat) (hk : k < 16) (v : Vt) (h0 : 0 ≤ v.s) (h1 : v.s < 16) : SynTo w sb L (w.setCells (L.rb i) (5 + k * 6) v.cells) (s.put i ((s.rep i).accept k v)) := by
 have hok := h.ok.repOk hi
 have hkp : Keeps (fun k => k = L.rb i) w (w.setCells (L.rb i) (5 + k * 6) v.cells) := Keeps.ofSets (P := fun k => k = L.rb i) _ rfl _ _ _
 refine h.setRep hi (rv := L.rv i) (accept_ok hok h0 h1) (hkp.mono (fun k _ h => .inl h)) ?_ ((h.role i hi).keeps hkp (fun k hk' e => h.roleNe hi hi (e ▸ hk'))) (fun k hk => .inl hk)
 have hl : v.cells.length = 6 := rfl
 rw [setCells_self (L.rb i) _ v.cells (5 + k * 6) w _ (h.rep i hi) (by rw [List.size_toArray, repCells_length _ _ _ _ _ hok, hl]; omega), hl, List.toList_toArray, repCells_accept _ _ _ _ _ hok k hk]
theorem decide_rv {w : World} {sb : Nat} {L : Lay} {s : Sy} (h : SynAt w sb L s) {i : Nat} (hi : i < s.n) (k : Nat) (hk : k < 16) (p : Pst) :
  Calls Tryz.prog 133 #[.pointer (some (A6 (L.rb i) 0)), I6 (k : Int), .agg #[I6 p.c, I6 p.q, I6 p.h, .string p.t]] w fun e w' => e = .returned (.tuple #[]) ∧ SynRv L.rv w sb L w' (s.put i ((s.rep i).decide k p)) := by
 have hok := h.ok.repOk hi
 refine (decide_any (L.rb i) k _ p.c p.q p.h p.t w (h.rep i hi) (by rw [List.size_toArray, repCells_length _ _ _ _ _ hok]) hk).mono ?_
 rintro e w' ⟨rfl, hb, hkp⟩
 have hR := h.setRepR hi (rv := L.rv i) (decide_ok hok k p) (hkp.mono (fun k _ h => .inl h)) (by rw [hb, ← repCells_decide _ _ _ _ _ hok k hk]; rfl) ((h.role i hi).keeps hkp (fun k hk' e => h.roleNe hi hi (e ▸ hk'))) (fun k hk => .inl hk)
 rw [upd_self] at hR
 exact ⟨rfl, hR⟩
theorem decide_syn {w : World} {sb : Nat} {L : Lay} {s : Sy} (h : SynAt w sb L s) {i : Nat} (hi : i < s.n) (k : Nat) (hk : k < 16) (p : Pst) :
  Calls Tryz.prog 133 #[.pointer (some (A6 (L.rb i) 0)), I6 (k : Int), .agg #[I6 p.c, I6 p.q, I6 p.h, .string p.t]] w fun e w' => e = .returned (.tuple #[]) ∧ SynTo w sb L w' (s.put i ((s.rep i).decide k p)) :=
 (decide_rv h hi k hk p).mono (fun _ _ ⟨e, h⟩ => ⟨e, h.to⟩)
theorem SynAt.dms {w : World} {sb : Nat} {L : Lay} {s : Sy} (h : SynAt w sb L s) {i : Nat} (hi : i < s.n) (k : Nat) (hk : k < 16) : w.cell? (A6 (L.rb i) (101 + k * 5)) = some (.bool ((s.rep i).dm k)) := by
 have hok := h.ok.repOk hi
 have hb := h.rep i hi
 have h1 : (repHead i s.n sb (s.rep i)).length = 5 := rfl
 have h2 : (vcells (s.rep i).acc).length = 96 := by rw [vcells_length, hok.acc]
 have h3 : (dcells (s.rep i).dec).length = 80 := by rw [dcells_length, hok.dec]
 have hkl : k < (s.rep i).dec.length := by rw [hok.dec]; exact hk
 have e1 : 101 + k * 5 - 5 - 96 = k * 5 := by omega
 rw [blk_cell hb, List.getElem?_toArray, repCells, List.getElem?_append_right (by omega), h1, List.getElem?_append_right (by omega), h2, e1, List.getElem?_append_left (by omega)]
 have e2 := dcells_cut (s.rep i).dec k hkl
 have e3 : ((List.drop (k * 5) (dcells (s.rep i).dec)).take 5)[0]? = (dcells (s.rep i).dec)[k * 5]? := by simp
 rw [← e3, e2, Rp.dm, List.getD_eq_getElem?_getD, List.getElem?_eq_getElem hkl]
 rfl
set_option maxHeartbeats 1000000 in
theorem takeRefuse_syn {w : World} {sb : Nat} {L : Lay} {s : Sy} (h : SynAt w sb L s) {i : Nat} (hi : i < s.n) (x : Nm) (hx : x.okt w) (hm : x.m.ok s.n) :
  Calls Tryz.prog 105 #[.pointer (some (A6 (L.rb i) 0)), .agg x.cells.toArray] w fun e w' => e = .returned (.tuple #[]) ∧ SynTo w sb L w' (s.takeRefuse i x.m) := by
 have hAt := h
 obtain ⟨xa, xc, hxe, _⟩ := hx.1.1.form
 obtain ⟨⟨mk, mf, mt, mb, ms, ⟨mc, mq, mh, mx⟩, ma⟩, xv⟩ := x
 obtain ⟨f, rfl⟩ := Int.eq_ofNat_of_zero_le hm.f0
 obtain ⟨sl, rfl⟩ := Int.eq_ofNat_of_zero_le hm.s0
 have hf : f < s.n := by have := hm.f1; simp at this; exact this
 have hsl : sl < 16 := by have := hm.s1; simp at this; omega
 have b0 : 0 ≤ mb := hm.b0
 have b1 : mb ≤ 8007 := hm.b1
 simp only [Nm.cells] at *
 subst hxe
 generalize hxn : ma.length = xn at *
 have hY := yield_syn (h.alloc (.cells #[I6 mk, I6 (f : Int), I6 mt, I6 mb, I6 (sl : Int), I6 mc, I6 mq, I6 mh, .string mx, .slice xa xn xc] 36)) hi mb b0 b1
 have hB : Below w.heap.size w (w.alloc (.cells #[I6 mk, I6 (f : Int), I6 mt, I6 mb, I6 (sl : Int), I6 mc, I6 mq, I6 mh, .string mx, .slice xa xn xc] 36)) := (Below.refl _ w).alloc (Nat.le_refl _) _
 go_enter Tryz.func105, Tryz.ntmps105
 go_wp2_with fail
 refine hY.mono ?_
 rintro e w2 ⟨rfl, hto⟩
 go_wp2_with fail
 go_end0
 exact ⟨rfl, SynTo.after (s := s.put i ((s.rep i).yield mb)) h rfl hB hto⟩
set_option maxHeartbeats 1000000 in
theorem takeDecide_syn {w : World} {sb : Nat} {L : Lay} {s : Sy} (h : SynAt w sb L s) {i : Nat} (hi : i < s.n) (x : Nm) (hx : x.okt w) (hm : x.m.ok s.n) :
  Calls Tryz.prog 104 #[.pointer (some (A6 (L.rb i) 0)), .agg x.cells.toArray] w fun e w' => e = .returned (.tuple #[]) ∧ SynTo w sb L w' (s.takeDecide i x.m) := by
 have hAt := h
 obtain ⟨xa, xc, hxe, _⟩ := hx.1.1.form
 obtain ⟨⟨mk, mf, mt, mb, ms, ⟨mc, mq, mh, mx⟩, ma⟩, xv⟩ := x
 obtain ⟨f, rfl⟩ := Int.eq_ofNat_of_zero_le hm.f0
 obtain ⟨sl, rfl⟩ := Int.eq_ofNat_of_zero_le hm.s0
 have hf : f < s.n := by have := hm.f1; simp at this; exact this
 have hsl : sl < 16 := by have := hm.s1; simp at this; omega
 have b0 : 0 ≤ mb := hm.b0
 have b1 : mb ≤ 8007 := hm.b1
 simp only [Nm.cells] at *
 subst hxe
 generalize hxn : ma.length = xn at *
 have hY := fun q => decide_syn ((h.alloc (.cells #[I6 mk, I6 (f : Int), I6 mt, I6 mb, I6 (sl : Int), I6 mc, I6 mq, I6 mh, .string mx, .slice xa xn xc] 36)).drewN q) hi sl hsl ⟨mc, mq, mh, mx⟩
 have hlt := h.own_lt (.inr (.inr (.inl ⟨i, hi, .inl rfl⟩)))
 have hB : Below w.heap.size w (w.alloc (.cells #[I6 mk, I6 (f : Int), I6 mt, I6 mb, I6 (sl : Int), I6 mc, I6 mq, I6 mh, .string mx, .slice xa xn xc] 36)) := (Below.refl _ w).alloc (Nat.le_refl _) _
 have hdm := (h.alloc (.cells #[I6 mk, I6 (f : Int), I6 mt, I6 mb, I6 (sl : Int), I6 mc, I6 mq, I6 mh, .string mx, .slice xa xn xc] 36)).dms hi sl hsl
 have q0 : (0 : Int) ≤ (sl : Int) := by omega
 have q1 : (sl : Int) < 16 := by omega
 unfold Sy.takeDecide
 simp only [Int.toNat_natCast]
 cases hd : (s.rep i).dm sl
 ·rw [hd] at hdm
  go_enter Tryz.func104, Tryz.ntmps104
  go_wp2_with fail
  go_quiet (fail)
  go_wp2_with fail
  refine (hY _).mono ?_
  rintro e w2 ⟨rfl, hto⟩
  go_wp2_with fail
  go_end0
  exact ⟨rfl, SynTo.after (s := s.put i ((s.rep i).decide sl ⟨mc, mq, mh, mx⟩)) hAt rfl (below_drewN hB _) hto⟩
 ·rw [hd] at hdm
  go_enter Tryz.func104, Tryz.ntmps104
  go_wp2_with fail
  go_quiet (fail)
  go_wp2_with fail
  go_end0
  exact ⟨rfl, (SynTo.refl hAt).below (below_drewN hB _)⟩
set_option maxHeartbeats 1000000 in
theorem takePropose_syn {w : World} {sb : Nat} {L : Lay} {s : Sy} (h : SynAt w sb L s) {i : Nat} (hi : i < s.n) (x : Nm) (hx : x.okt w) (hm : x.m.ok s.n) :
  Calls Tryz.prog 102 #[.pointer (some (A6 (L.rb i) 0)), .agg x.cells.toArray] w fun e w' => e = .returned (.tuple #[]) ∧ SynTo w sb L w' (s.takePropose i x.m) := by
 have hO := fun o => obeys_syn (h.alloc o) hi x (hx.keeps (Keeps.ofAlloc (P := fun _ => False) w o) (fun _ _ _ => id)) hm
 have hAt := h
 obtain ⟨xa, xc, hxe, _⟩ := hx.1.1.form
 obtain ⟨⟨mk, mf, mt, mb, ms, ⟨mc, mq, mh, mx⟩, ma⟩, xv⟩ := x
 obtain ⟨f, rfl⟩ := Int.eq_ofNat_of_zero_le hm.f0
 obtain ⟨sl, rfl⟩ := Int.eq_ofNat_of_zero_le hm.s0
 have hf : f < s.n := by have := hm.f1; simp at this; exact this
 have hsl : sl < 16 := by have := hm.s1; simp at this; omega
 have b0 : 0 ≤ mb := hm.b0
 have b1 : mb ≤ 8007 := hm.b1
 simp only [Nm.cells] at *
 subst hxe
 generalize hxn : ma.length = xn at *
 have hbox := blk_new w (.cells #[I6 mk, I6 (f : Int), I6 mt, I6 mb, I6 (sl : Int), I6 mc, I6 mq, I6 mh, .string mx, .slice xa xn xc] 36)
 have hB : Below w.heap.size w (w.alloc (.cells #[I6 mk, I6 (f : Int), I6 mt, I6 mb, I6 (sl : Int), I6 mc, I6 mq, I6 mh, .string mx, .slice xa xn xc] 36)) := (Below.refl _ w).alloc (Nat.le_refl _) _
 have q0 : (0 : Int) ≤ (sl : Int) := by omega
 have q1 : (sl : Int) < 16 := by omega
 unfold Sy.takePropose
 simp only [Int.toNat_natCast]
 by_cases hb : mb < (s.rep i).pr
 ·have hd2 : s.obeys i (Ms.mk mk (f : Int) mt mb (sl : Int) ⟨mc, mq, mh, mx⟩ ma) = false := by simp [Sy.obeys]; omega
  simp only [if_pos hb]
  rw [hd2] at hO
  go_enter Tryz.func102, Tryz.ntmps102
  go_wp2_with fail
  refine (hO _).mono ?_
  rintro e w2 ⟨rfl, hto⟩
  clear hO
  go_wp2_with fail
  go_end0
  exact ⟨rfl, SynTo.after h (obey_n _ _ _) hB hto⟩
 ·have hd2 : s.obeys i (Ms.mk mk (f : Int) mt mb (sl : Int) ⟨mc, mq, mh, mx⟩ ma) = true := by simp [Sy.obeys]; omega
  simp only [if_neg hb]
  rw [hd2] at hO
  have hn2 := obey_n s i (Ms.mk mk (f : Int) mt mb (sl : Int) ⟨mc, mq, mh, mx⟩ ma)
  generalize s.obey i (Ms.mk mk (f : Int) mt mb (sl : Int) ⟨mc, mq, mh, mx⟩ ma) = s2 at *
  go_enter Tryz.func102, Tryz.ntmps102
  go_wp2_with fail
  refine (hO _).mono ?_
  rintro e w2 ⟨rfl, hto⟩
  clear hO
  have hbox2 := hto.blk hbox (fun ho => by rw [hn2] at ho; have := h.own_lt ho; omega)
  obtain ⟨L2, h2, e2, ho2, hk2⟩ := id hto
  have hno2 : ¬ L2.own sb s2.n w.heap.size := fun ho => by
   rcases ho2 _ ho with h9 | h9
   ·rw [hn2] at h9; have := h.own_lt h9; omega
   ·rw [World.size_alloc] at h9; omega
  have hi2 : i < s2.n := by rw [hn2]; exact hi
  have hrok2 := h2.ok.repOk hi2
  have hac := h2.drew.accept hi2 sl hsl ⟨(sl : Int), mb, ⟨mc, mq, mh, mx⟩⟩ q0 q1
  have hrb2 := h2.rep i hi2
  rw [e2] at hac hrb2
  have hne : w.heap.size ≠ L.rb i := fun e => hno2 (.inr (.inr (.inl ⟨i, hi2, .inl (by rw [e2]; exact e)⟩)))
  have hth : World.there w2.drew (L.rb i) (5 + sl * 6) 6 := fun j hj => ⟨by show (World.cell? w2 _).isSome = true; rw [blk_cell hrb2, Array.getElem?_eq_getElem (by rw [List.size_toArray, repCells_length _ _ _ _ _ hrok2]; omega)]; rfl, blk_free (w := w2.drew) hrb2 _⟩
  have hi6 : (Tryz.prog.info? 53).map (·.size) = some (#[I6 (sl : Int), I6 mb, I6 mc, I6 mq, I6 mh, .string mx] : Array Value).size := by kernel_rfl
  have h16 : (#[I6 (sl : Int), I6 mb, I6 mc, I6 mq, I6 mh, .string mx] : Array Value).all (·.oneCell') = true := by simp [Value.oneCell']
  go_wp2_with fail
  refine wp_region_held_drew (S := fun w' => w'.heap[w.heap.size]? = some (.cells #[I6 mk, I6 (f : Int), I6 mt, I6 mb, I6 (sl : Int), I6 mc, I6 mq, I6 mh, .string mx, .slice xa xn xc] 36 (0, 0))) (by kernel_rfl) (hbox2) (fun hS => ?_)
  refine tk 0 rfl hS (v := .pointer (some (A6 (L.rb i) 0))) (fun w' hw => by clear hS; go_simp) ?_
  try simp only [ly]
  refine tk 1 rfl hS (v := .pointer (some (A6 w.heap.size 4))) (fun w' hw => by clear hS; go_simp) ?_
  try simp only [ly]
  refine tk 2 rfl hS (v := I6 (sl : Int)) (fun w' hw => by have c := blk_cell hw; clear hS; go_simp) ?_
  try simp only [ly]
  refine tk 3 rfl hS (v := .pointer (some (A6 w.heap.size 4))) (fun w' hw => by clear hS; go_simp) ?_
  try simp only [ly]
  refine tk 4 rfl hS (v := I6 (sl : Int)) (fun w' hw => by have c := blk_cell hw; clear hS; go_simp) ?_
  try simp only [ly]
  refine tk 5 rfl hS (v := .pointer (some (A6 w.heap.size 3))) (fun w' hw => by clear hS; go_simp) ?_
  try simp only [ly]
  refine tk 6 rfl hS (v := I6 mb) (fun w' hw => by have c := blk_cell hw; clear hS; go_simp) ?_
  try simp only [ly]
  refine tk 7 rfl hS (v := .pointer (some (A6 w.heap.size 5))) (fun w' hw => by clear hS; go_simp) ?_
  try simp only [ly]
  refine tk 8 rfl hS (v := .agg #[I6 mc, I6 mq, I6 mh, .string mx]) (fun w' hw => by have c := blk_cell hw; clear hS; go_simp) ?_
  try simp only [ly]
  refine tk 9 rfl hS (v := .agg #[I6 (sl : Int), I6 mb, I6 mc, I6 mq, I6 mh, .string mx]) (fun w' hw => by clear hS; go_simp) ?_
  try simp only [ly]
  refine tk 10 rfl hS (v := .pointer (some (A6 (L.rb i) 0))) (fun w' hw => by clear hS; go_simp) ?_
  try simp only [ly]
  refine tk 11 rfl hS (v := .pointer (some (A6 (L.rb i) 5))) (fun w' hw => by clear hS; go_simp) ?_
  try simp only [ly]
  refine tk 12 rfl hS (v := .pointer (some (A6 (L.rb i) (5 + sl * 6)))) (fun w' hw => by clear hS; go_simp) ?_
  try simp only [ly]
  refine r1 13 rfl (fun K hK => ?_)
  rw [if_pos (by kernel_rfl)]
  refine wp_store_mid 53 (.tmp 19) (.tmp 16) rfl (L.rb i) (5 + sl * 6) #[I6 (sl : Int), I6 mb, I6 mc, I6 mq, I6 mh, .string mx] rfl rfl hth hi6 h16 ?_
  have hbox3 : (World.setCells w2.drew (L.rb i) (5 + sl * 6) #[I6 (sl : Int), I6 mb, I6 mc, I6 mq, I6 mh, .string mx].toList).heap[w.heap.size]? = some (.cells #[I6 mk, I6 (f : Int), I6 mt, I6 mb, I6 (sl : Int), I6 mc, I6 mq, I6 mh, .string mx, .slice xa xn xc] 36 (0, 0)) := by
   rw [setCells_other (L.rb i) _ _ _ _ hne]; exact hbox2
  refine hK.out _ _ hbox3 (fun hS => ?_)
  clear hK K
  try simp only [ly]
  refine dn ?_ _
  have hac2 : SynTo w2.drew sb L2 (World.setCells w2.drew (L.rb i) (5 + sl * 6) #[I6 (sl : Int), I6 mb, I6 mc, I6 mq, I6 mh, .string mx].toList) (s2.put i ((s2.rep i).accept sl ⟨(sl : Int), mb, ⟨mc, mq, mh, mx⟩⟩)) := hac
  generalize World.setCells w2.drew (L.rb i) (5 + sl * 6) #[I6 (sl : Int), I6 mb, I6 mc, I6 mq, I6 mh, .string mx].toList = w3 at *
  have hbc := blk_cell hbox3
  have hto3 := SynTo.next e2 ho2 hk2 (s2 := s2.put i ((s2.rep i).accept sl ⟨(sl : Int), mb, ⟨mc, mq, mh, mx⟩⟩)) rfl (SynTo.after h2 rfl (Below.drew (Below.refl _ w2)) hac2)
  have hn3 : (s2.put i ((s2.rep i).accept sl ⟨(sl : Int), mb, ⟨mc, mq, mh, mx⟩⟩)).n = s.n := hn2
  generalize hs3 : s2.put i ((s2.rep i).accept sl ⟨(sl : Int), mb, ⟨mc, mq, mh, mx⟩⟩) = s3 at *
  clear hac hac2
  obtain ⟨L3, h3, e3, ho3, hk3⟩ := id hto3
  have hX := send1_syn h3 (by rw [hn3]; exact hi) ⟨msg 4 mb (sl : Int) noPst [], .slice none 0 0⟩ (Nm.okt_nil _ _ rfl) (msg_ok h3.ok.n0 (by decide) (by decide) b0 b1 q0 q1 (by simp) (by simp)) f (by rw [hn3]; exact hf) w3.heap.size rfl
  rw [e3] at hX
  go_wp2_with fail
  refine hX.mono ?_
  rintro e w5 ⟨rfl, hto5⟩
  have hto6 := SynTo.after hAt ((sendTo_n _ _ _ _).trans hn3) hB (SynTo.next e3 ho3 hk3 (sendTo_n _ _ _ _) hto5)
  clear hX
  go_wp2_with fail
  go_end0
  subst hs3
  exact ⟨rfl, hto6⟩
end
section
open Go.RowKit
theorem SynAt.setRole {w w' : World} {sb : Nat} {L : Lay} {s : Sy} (h : SynAt w sb L s) {i : Nat} (hi : i < s.n) {pb : Nat} {l : Rl} (hpb : roleBlk (L.rv i) = some pb) (hk : Keeps (fun k => k = pb) w w') (hrole : RoleIs w' (L.rv i) l) (hl : l.ok) : SynRv L.rv w sb L w' (s.put i ((s.rep i).role l)) := by
 have hok := h.ok.repOk hi
 have hR := h.setRepR hi (r := (s.rep i).role l) (rv := L.rv i) ⟨hok.pr0, hok.pr1, hok.sn0, hok.sn1, hok.acc, hok.slot, hok.dec, hl⟩ (hk.mono (fun k _ e => .inr (by rw [e]; exact hpb))) (by rw [repCells_rl]; exact blk_keeps hk (h.rep i hi) (fun e => h.roleNe hi hi (e ▸ hpb))) hrole (fun k hk => .inl hk)
 rw [upd_self] at hR
 exact hR
theorem Rl.ok_lead {b : Int} {next : Nat} {ps : List Pp} (h : Rl.ok (.lead b next ps)) : next ≤ 16 ∧ ps.length = 16 ∧ ∀ x ∈ ps, x.t.ok := h
theorem Pp.cells_length {x : Pp} (h : x.t.ok) : x.cells.length = 12 := by
 simp [Pp.cells, Pst.cells, Tl.cells, h.1]
theorem ppcells_value : ∀ (ps : List Pp) (k : Nat) (_ : k < ps.length) (_ : ∀ x ∈ ps, x.t.ok) (p : Pst), (ppcells ps).take (k * 12) ++ p.cells ++ (ppcells ps).drop (k * 12 + 4) = ppcells (ps.set k ⟨p, (ps.getD k noPp).t⟩)
 | [], k, hk, _, _ => by simp at hk
 | x :: l, 0, _, _, p => by
  simp only [List.set_cons_zero, ppcells, Pp.cells, List.getD_cons_zero, Nat.zero_mul, List.take_zero, List.nil_append, Nat.zero_add]
  have e : x.p.cells.length = 4 := rfl
  rw [List.append_assoc, List.drop_append, List.drop_of_length_le (by omega), e]
  simp
 | x :: l, k + 1, hk, ho, p => by
  have hx := Pp.cells_length (ho x List.mem_cons_self)
  have e1 : (k + 1) * 12 = x.cells.length + k * 12 := by rw [hx]; omega
  have e2 : (k + 1) * 12 + 4 = x.cells.length + (k * 12 + 4) := by rw [hx]; omega
  rw [List.set_cons_succ, ppcells, ppcells, e2, e1, List.getD_cons_succ, ← ppcells_value l k (by simpa using hk) (fun y hy => ho y (List.mem_cons_of_mem _ hy)) p]
  rw [List.take_append, List.take_of_length_le (by omega), List.drop_append, List.drop_of_length_le (by omega), Nat.add_sub_cancel_left, Nat.add_sub_cancel_left]
  simp
theorem getD_ok {ps : List Pp} (h : ∀ x ∈ ps, x.t.ok) {k : Nat} (hk : k < ps.length) : (ps.getD k noPp).t.ok := by
 rw [List.getD_eq_getElem?_getD, List.getElem?_eq_getElem hk]
 exact h _ (List.getElem_mem hk)
theorem set_ok {ps : List Pp} (h : ∀ x ∈ ps, x.t.ok) {k : Nat} {y : Pp} (hy : y.t.ok) : ∀ x ∈ ps.set k y, x.t.ok := fun x hx => by
 rcases List.mem_or_eq_of_mem_set hx with h1 | h1
 ·exact h x h1
 ·rw [h1]; exact hy
theorem lead_size (b : Int) (next : Nat) (ps : List Pp) (hl : ps.length = 16) (ho : ∀ x ∈ ps, x.t.ok) : (leadHead b next ++ ppcells ps).length = 195 := by
 rw [List.length_append, ppcells_length ps (fun x hx => (ho x hx).1), hl]; rfl
theorem lead_value (b : Int) (next : Nat) (ps : List Pp) (hl : ps.length = 16) (ho : ∀ x ∈ ps, x.t.ok) (k : Nat) (hk : k < 16) (p : Pst) : (leadHead b next ++ ppcells ps).take (3 + k * 12) ++ p.cells ++ (leadHead b next ++ ppcells ps).drop (3 + k * 12 + 4) = leadHead b next ++ ppcells (ps.set k ⟨p, (ps.getD k noPp).t⟩) := by
 have h1 : (leadHead b next).length = 3 := rfl
 have e1 : 3 + k * 12 - 3 = k * 12 := by omega
 have e2 : 3 + k * 12 + 4 - 3 = k * 12 + 4 := by omega
 rw [List.take_append, List.take_of_length_le (by omega), List.drop_append, List.drop_of_length_le (by omega), h1, e1, e2, ← ppcells_value ps k (by omega) ho p]
 simp
theorem SynAt.value {w : World} {sb : Nat} {L : Lay} {s : Sy} (h : SynAt w sb L s) {i : Nat} (hi : i < s.n) {b : Int} {next : Nat} {ps : List Pp} (hrl : (s.rep i).rl = .lead b next ps) {pb : Nat} (hrv : L.rv i = .iface 160 (P6 pb)) (k : Nat) (hk : k < 16) (p : Pst) :
  SynRv L.rv w sb L (w.setCells pb (3 + k * 12) p.cells) (s.put i ((s.rep i).role (.lead b next (ps.set k ⟨p, (ps.getD k noPp).t⟩)))) := by
 have hr := h.role i hi
 have hro := (h.ok.repOk hi).rl
 rw [hrl] at hr hro
 obtain ⟨hn, hl, ho⟩ := Rl.ok_lead hro
 obtain ⟨pb', e, hb⟩ := hr
 rw [hrv] at e
 cases e
 have hkp : Keeps (fun k => k = pb) w (w.setCells pb (3 + k * 12) p.cells) := Keeps.ofSets (P := fun k => k = pb) _ rfl _ _ _
 have hpl : p.cells.length = 4 := rfl
 refine h.setRole hi (by rw [hrv]; rfl) hkp ⟨pb, hrv, ?_⟩ ⟨hn, by simp [hl], set_ok ho (getD_ok ho (by omega))⟩
 rw [setCells_self pb _ p.cells (3 + k * 12) w _ hb (by rw [List.size_toArray, lead_size _ _ _ hl ho, hpl]; omega), hpl, List.toList_toArray, lead_value _ _ _ hl ho k hk]
theorem rep_sendTo (m : Ms) (f : Nat) (a : List Nat) (s : Sy) (i : Nat) : (s.sendTo m f a).rep i = s.rep i := by
 unfold Sy.rep; rw [sendTo_reps]
theorem nums_row {w : World} {base : Nat} {v : Value} {n : Nat} (h : w.ownsRow base 3 1 v n (nums n)) : RowAt w 1 v (List.range n).length ((List.range n).map fun (i : Nat) => I6 (i : Int)) := by
 have := owns_row h
 rw [List.length_range]
 exact this
set_option maxHeartbeats 1000000 in
theorem propose_rv {w : World} {sb : Nat} {L : Lay} {s : Sy} (h : SynAt w sb L s) {i : Nat} (hi : i < s.n) {b : Int} {next : Nat} {ps : List Pp} (hrl : (s.rep i).rl = .lead b next ps) (b0 : 0 ≤ b) (b1 : b ≤ 8007) {pb : Nat} (hrv : L.rv i = .iface 160 (P6 pb)) (k : Nat) (hk : k < 16) (p : Pst) :
  Calls Tryz.prog 97 #[.pointer (some (A6 (L.rb i) 0)), P6 pb, I6 (k : Int), .agg #[I6 p.c, I6 p.q, I6 p.h, .string p.t]] w fun e w' => e = .returned (.tuple #[]) ∧ SynRv L.rv w sb L w' (s.propose i k p) := by
 have hAt := h
 have hbox := blk_new w (.cells #[I6 p.c, I6 p.q, I6 p.h, .string p.t] 33)
 have hB : Below w.heap.size w (w.alloc (.cells #[I6 p.c, I6 p.q, I6 p.h, .string p.t] 33)) := (Below.refl _ w).alloc (Nat.le_refl _) _
 have hro := (h.ok.repOk hi).rl
 have hrb := h.role i hi
 rw [hrl] at hro hrb
 obtain ⟨hnx, hpl, hpo⟩ := Rl.ok_lead hro
 obtain ⟨pb', e, hpb⟩ := hrb
 rw [hrv] at e
 cases e
 have hplt := lt_of_block hpb
 have q0 : (0 : Int) ≤ (k : Int) := by omega
 have q1 : (k : Int) < 16 := by omega
 have hpb0 := blk_alloc hpb (.cells #[I6 p.c, I6 p.q, I6 p.h, .string p.t] 33)
 have hth : World.there (w.alloc (.cells #[I6 p.c, I6 p.q, I6 p.h, .string p.t] 33)).drew pb (3 + k * 12) 4 := fun j hj => ⟨by show (World.cell? (w.alloc (.cells #[I6 p.c, I6 p.q, I6 p.h, .string p.t] 33)) _).isSome = true; rw [blk_cell hpb0, Array.getElem?_eq_getElem (by rw [List.size_toArray, lead_size _ _ _ hpl hpo]; omega)]; rfl, blk_free (w := (w.alloc (.cells #[I6 p.c, I6 p.q, I6 p.h, .string p.t] 33)).drew) hpb0 _⟩
 have hi4 : (Tryz.prog.info? 33).map (·.size) = some (#[I6 p.c, I6 p.q, I6 p.h, .string p.t] : Array Value).size := by kernel_rfl
 have h14 : (#[I6 p.c, I6 p.q, I6 p.h, .string p.t] : Array Value).all (·.oneCell') = true := by simp [Value.oneCell']
 have hne : w.heap.size ≠ pb := by omega
 have hval := (h.alloc (.cells #[I6 p.c, I6 p.q, I6 p.h, .string p.t] 33)).drew.value hi hrl hrv k hk p
 have hfin : s.propose i k p = (s.put i ((s.rep i).role (.lead b next (ps.set k ⟨p, (ps.getD k noPp).t⟩)))).sendTo (msg 3 b (k : Int) p []) i (List.range s.n) := by
  unfold Sy.propose; rw [hrl]; rfl
 have hfin' : Hid (s.propose i k p = (s.put i ((s.rep i).role (.lead b next (ps.set k ⟨p, (ps.getD k noPp).t⟩)))).sendTo (msg 3 b (k : Int) p []) i (List.range s.n)) := hfin
 clear hfin
 go_enter Tryz.func97, Tryz.ntmps97
 go_wp2_with fail
 refine wp_region_held_drew (S := fun w' => w'.heap[w.heap.size]? = some (.cells #[I6 p.c, I6 p.q, I6 p.h, .string p.t] 33 (0, 0))) (by kernel_rfl) (hbox) (fun hS => ?_)
 refine tk 0 rfl hS (v := ?_) (fun w' hw => ?_) ?_
 rotate_left 1
 ·have c := blk_cell hw; go_simp; all_goals with_reducible rfl
 try simp only [ly]
 refine tk 1 rfl hS (v := ?_) (fun w' hw => ?_) ?_
 rotate_left 1
 ·have c := blk_cell hw; go_simp; all_goals with_reducible rfl
 try simp only [ly]
 refine tk 2 rfl hS (v := ?_) (fun w' hw => ?_) ?_
 rotate_left 1
 ·have c := blk_cell hw; go_simp; all_goals with_reducible rfl
 try simp only [ly]
 refine tk 3 rfl hS (v := ?_) (fun w' hw => ?_) ?_
 rotate_left 1
 ·have c := blk_cell hw; go_simp; all_goals with_reducible rfl
 try simp only [ly]
 refine tk 4 rfl hS (v := ?_) (fun w' hw => ?_) ?_
 rotate_left 1
 ·have c := blk_cell hw; go_simp; all_goals with_reducible rfl
 try simp only [ly]
 refine tk 5 rfl hS (v := ?_) (fun w' hw => ?_) ?_
 rotate_left 1
 ·have c := blk_cell hw; go_simp; all_goals with_reducible rfl
 try simp only [ly]
 refine tk 6 rfl hS (v := ?_) (fun w' hw => ?_) ?_
 rotate_left 1
 ·have c := blk_cell hw; go_simp; all_goals with_reducible rfl
 try simp only [ly]
 refine r1 7 rfl (fun K hK => ?_)
 rw [if_pos (by kernel_rfl)]
 refine wp_store_mid 33 (.tmp 14) (.tmp 10) rfl pb (3 + k * 12) #[I6 p.c, I6 p.q, I6 p.h, .string p.t] rfl rfl hth hi4 h14 ?_
 have hbox3 : (World.setCells (w.alloc (.cells #[I6 p.c, I6 p.q, I6 p.h, .string p.t] 33)).drew pb (3 + k * 12) #[I6 p.c, I6 p.q, I6 p.h, .string p.t].toList).heap[w.heap.size]? = some (.cells #[I6 p.c, I6 p.q, I6 p.h, .string p.t] 33 (0, 0)) := by
  rw [setCells_other pb _ _ _ _ hne]; exact hbox
 refine hK.out _ _ hbox3 (fun hS => ?_)
 clear hK K
 try simp only [ly]
 refine dn ?_ _
 have hval2 : SynRv L.rv (w.alloc (.cells #[I6 p.c, I6 p.q, I6 p.h, .string p.t] 33)).drew sb L (World.setCells (w.alloc (.cells #[I6 p.c, I6 p.q, I6 p.h, .string p.t] 33)).drew pb (3 + k * 12) #[I6 p.c, I6 p.q, I6 p.h, .string p.t].toList) (s.put i ((s.rep i).role (.lead b next (ps.set k ⟨p, (ps.getD k noPp).t⟩)))) := hval
 generalize World.setCells (w.alloc (.cells #[I6 p.c, I6 p.q, I6 p.h, .string p.t] 33)).drew pb (3 + k * 12) #[I6 p.c, I6 p.q, I6 p.h, .string p.t].toList = w3 at *
 have hto3 := SynRv.after (s := s.put i ((s.rep i).role (.lead b next (ps.set k ⟨p, (ps.getD k noPp).t⟩)))) hAt rfl (Below.drew hB) hval2
 obtain ⟨L3, h3, e3, r3, ho3, hk3⟩ := id hto3
 have hrb3 := h3.role i hi
 rw [Sy.rep_put (by rw [hAt.ok.len]; exact hi), r3, hrv] at hrb3
 obtain ⟨pb', e, hpb3⟩ := hrb3
 cases e
 have hb3 : w3.cell? (A6 pb 1) = some (I6 b) := (blk_cell hpb3 1).trans rfl
 have hc3 := (h3.cells hi).2.1
 rw [e3] at hc3
 have hc3' : w3.drew.cell? (A6 (L.rb i) 1) = some (I6 (s.n : Int)) := hc3
 clear hc3
 have hn3 : (s.put i ((s.rep i).role (.lead b next (ps.set k ⟨p, (ps.getD k noPp).t⟩)))).n = s.n := rfl
 have hA := fun W hc => all_any (L.rb i) s.n W hc (by have := hAt.ok.n1; omega)
 generalize hs3 : s.put i ((s.rep i).role (.lead b next (ps.set k ⟨p, (ps.getD k noPp).t⟩))) = s3 at *
 have Hs3 : Hid (_ = s3) := hs3
 clear hs3 hval hval2
 go_wp2_with fail
 refine wp_region_held_drew (S := fun w' => w'.heap[w.heap.size]? = some (.cells #[I6 p.c, I6 p.q, I6 p.h, .string p.t] 33 (0, 0)) ∧ w'.cell? (A6 pb 1) = some (I6 b)) (by kernel_rfl) (⟨hbox3, hb3⟩) (fun hS => ?_)
 refine tk 0 rfl hS (v := ?_) (fun w' hw => ?_) ?_
 rotate_left 1
 ·have c := blk_cell hw.1; have c2 := hw.2; go_simp; all_goals with_reducible rfl
 try simp only [ly]
 refine tk 1 rfl hS (v := ?_) (fun w' hw => ?_) ?_
 rotate_left 1
 ·have c := blk_cell hw.1; have c2 := hw.2; go_simp; all_goals with_reducible rfl
 try simp only [ly]
 refine tk 2 rfl hS (v := ?_) (fun w' hw => ?_) ?_
 rotate_left 1
 ·have c := blk_cell hw.1; have c2 := hw.2; go_simp; all_goals with_reducible rfl
 try simp only [ly]
 refine tk 3 rfl hS (v := ?_) (fun w' hw => ?_) ?_
 rotate_left 1
 ·have c := blk_cell hw.1; have c2 := hw.2; go_simp; all_goals with_reducible rfl
 try simp only [ly]
 refine tk 4 rfl hS (v := ?_) (fun w' hw => ?_) ?_
 rotate_left 1
 ·have c := blk_cell hw.1; have c2 := hw.2; go_simp; all_goals with_reducible rfl
 try simp only [ly]
 refine tk 5 rfl hS (v := ?_) (fun w' hw => ?_) ?_
 rotate_left 1
 ·have c := blk_cell hw.1; have c2 := hw.2; go_simp; all_goals with_reducible rfl
 try simp only [ly]
 refine tk 6 rfl hS (v := ?_) (fun w' hw => ?_) ?_
 rotate_left 1
 ·have c := blk_cell hw.1; have c2 := hw.2; go_simp; all_goals with_reducible rfl
 try simp only [ly]
 refine tk 7 rfl hS (v := ?_) (fun w' hw => ?_) ?_
 rotate_left 1
 ·have c := blk_cell hw.1; have c2 := hw.2; go_simp; all_goals with_reducible rfl
 try simp only [ly]
 refine tk 8 rfl hS (v := ?_) (fun w' hw => ?_) ?_
 rotate_left 1
 ·have c := blk_cell hw.1; have c2 := hw.2; go_simp; all_goals with_reducible rfl
 try simp only [ly]
 refine tk 9 rfl hS (v := ?_) (fun w' hw => ?_) ?_
 rotate_left 1
 ·have c := blk_cell hw.1; have c2 := hw.2; go_simp; all_goals with_reducible rfl
 try simp only [ly]
 refine r1 10 rfl (fun K hK => ?_)
 go_simp
 refine (hA w3.drew hc3').mono ?_
 rintro e w4 ⟨v1, rfl, hown4, hB4⟩
 obtain ⟨va, vn, vc, rfl⟩ := owns_slice1 hown4
 have hB4' : Below w3.heap.size w3 w4 := Below.trans (Below.drew (Below.refl _ w3)) hB4
 have hbox4 := blk_below hB4' hbox3
 have hb4 := (blk_cell (blk_below hB4' hpb3) 1).trans (show _ = some (I6 b) from rfl)
 clear hA
 go_wp2_with fail
 refine hK.out _ _ ⟨hbox4, hb4⟩ (fun hS => ?_)
 clear hK K
 try simp only [ly]
 refine r1 11 rfl (fun K hK => ?_)
 go_simp
 have hX := send_rv (h3.below hB4') (by rw [hn3]; exact hi) ⟨msg 3 b (k : Int) p [], .slice none 0 0⟩ (Nm.okt_nil _ _ rfl) (msg_ok h3.ok.n0 (by decide) (by decide) b0 b1 q0 q1 (by simp) (by simp)) (List.range s.n) (fun t ht => by rw [hn3]; exact List.mem_range.1 ht) _ (nums_row hown4) (fun g hg => owns_blk hown4 hg) (by rw [List.length_range]; have := hAt.ok.n1; omega)
 rw [e3] at hX
 refine hX.mono ?_
 rintro e w5 ⟨rfl, hto5⟩
 clear hX
 have hno3 : ¬ L3.own sb s3.n w.heap.size := h3.not_own hbox3 (by unfold ownT; decide)
 have hbox5 := hto5.blk hbox4 (fun ho => hno3 (by rw [sendTo_n] at ho; exact ho))
 have hto6 := SynRv.next e3 ho3 hk3 (sendTo_n _ _ _ _) (SynRv.after h3 (sendTo_n _ _ _ _) hB4' hto5)
 rw [r3] at hto6
 obtain ⟨L5, h5, e5, r5, _, _⟩ := id hto6
 have hrb5 := h5.role i (by rw [sendTo_n, hn3]; exact hi)
 rw [r5, hrv] at hrb5
 have hrep5 : ((s3.sendTo (msg 3 b (k : Int) p []) i (List.range s.n)).rep i).rl = .lead b next (ps.set k ⟨p, (ps.getD k noPp).t⟩) := by
  rw [rep_sendTo, ← Hs3.out, Sy.rep_put (by rw [hAt.ok.len]; exact hi)]; rfl
 rw [hrep5] at hrb5
 obtain ⟨pb', e, hpb5⟩ := hrb5
 cases e
 have hb5 : w5.cell? (A6 pb 1) = some (I6 b) := (blk_cell hpb5 1).trans rfl
 clear hrep5
 go_wp2_with fail
 refine hK.out _ _ ⟨hbox5, hb5⟩ (fun hS => ?_)
 clear hK K
 try simp only [ly]
 refine dn ?_ _
 go_wp2_with fail
 go_end0
 refine ⟨rfl, ?_⟩
 rw [hfin'.out]
 exact hto6
end
end Go.Proofs.YtnnhnekfokbooaaGreatDoor
