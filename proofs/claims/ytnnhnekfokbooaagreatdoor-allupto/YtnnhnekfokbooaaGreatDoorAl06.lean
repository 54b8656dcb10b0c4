/- SynC, SynD -/
import Derived.Test.YtnnhnekfokbooaaGreatDoorAl05
set_option linter.unusedSimpArgs false
set_option linter.unusedVariables false
set_option maxRecDepth 100000
namespace Go.Proofs.YtnnhnekfokbooaaGreatDoor
section
open Go.RowKit
theorem SynAt.drewN {w : World} {sb : Nat} {L : Lay} {s : Sy} (h : SynAt w sb L s) (q : Nat) : SynAt (w.drewN q) sb L s := h.below (below_drewN (Below.refl _ w) q)
theorem row_one (W : World) (n : Nat) (hn : W.heap.size = n) (f : Nat) : RowAt (W.alloc (.cells #[I6 (f : Int)] 3)) 1 (.slice (some (A6 n 0)) 1 1) [f].length ([f].map fun (i : Nat) => I6 (i : Int)) := by
 subst hn
 refine ⟨rfl, _, 1, rfl, fun _ => ⟨W.heap.size, 0, rfl, by simp, fun j u hu => ?_⟩⟩
 rw [Nat.zero_add, blk_cell (blk_new W _)]
 rcases j with _ | j
 ·simpa using hu
 ·simp at hu
theorem Nm.okt_nil (w : World) (m : Ms) (h : m.a = []) : Nm.okt w ⟨m, .slice none 0 0⟩ := by
 refine ⟨⟨?_, ?_⟩, fun g hg => by cases hg⟩
 ·show VAt w _ m.a
  rw [h]; exact rvat_nil w
 ·show m.a.length ≤ 1000
  rw [h]; simp
theorem msg_ok {n : Nat} (hn : 1 ≤ n) {k b s : Int} {p : Pst} {a : List Vt} (k0 : 1 ≤ k) (k1 : k ≤ 6) (b0 : 0 ≤ b) (b1 : b ≤ 8007) (s0 : 0 ≤ s) (s1 : s < 16) (ha : a.length ≤ 16) (hs : ∀ v ∈ a, 0 ≤ v.s ∧ v.s < 16) : ((msg k b s p a).to 0 0).ok n :=
 ⟨k0, k1, by simp [Ms.to], by simp [Ms.to]; omega, by simp [Ms.to], by simp [Ms.to]; omega, b0, b1, s0, s1, ha, hs⟩
theorem send1_syn {W : World} {sb : Nat} {L : Lay} {s : Sy} (h : SynAt W sb L s) {i : Nat} (hi : i < s.n) (x : Nm) (hx : x.okt W) (hm : (x.m.to 0 0).ok s.n) (f : Nat) (hf : f < s.n) (n : Nat) (hn : W.heap.size = n) :
  Calls Tryz.prog 90 #[.pointer (some (A6 (L.rb i) 0)), .agg x.cells.toArray, .slice (some (A6 n 0)) 1 1] (W.alloc (.cells #[I6 (f : Int)] 3)) fun e w' => e = .returned (.tuple #[]) ∧ SynTo W sb L w' (s.sendTo x.m i [f]) := by
 have hB : Below W.heap.size W (W.alloc (.cells #[I6 (f : Int)] 3)) := (Below.refl _ W).alloc (Nat.le_refl _) _
 refine (send_syn (h.below hB) hi x (hx.keeps (Keeps.ofBelow (P := fun _ => False) hB) (fun _ _ _ => id)) hm [f] (by simpa using hf) _ (row_one W n hn f) (fun g hg => ?_) (by simp)).mono ?_
 ·obtain rfl : n = g := by simpa [Value.ownBlock] using hg
  subst hn
  exact ⟨_, blk_new W _⟩
 ·rintro e w' ⟨rfl, hto⟩
  exact ⟨rfl, SynTo.after h (sendTo_n _ _ _ _) hB hto⟩
theorem yield_ok {r : Rp} (h : r.ok) {b : Int} (b0 : 0 ≤ b) (b1 : b ≤ 8007) : (r.yield b).ok := by
 have := h.sn0; have := h.sn1
 refine ⟨h.pr0, h.pr1, ?_, ?_, h.acc, h.slot, h.dec, ?_⟩
 ·simp only [Rp.yield]; omega
 ·simp only [Rp.yield]; omega
 ·simp only [Rp.yield]; split
  ·trivial
  ·exact h.rl
theorem yield_syn {w : World} {sb : Nat} {L : Lay} {s : Sy} (h : SynAt w sb L s) {i : Nat} (hi : i < s.n) (b : Int) (b0 : 0 ≤ b) (b1 : b ≤ 8007) :
  Calls Tryz.prog 135 #[.pointer (some (A6 (L.rb i) 0)), I6 b] w fun e w' => e = .returned (.tuple #[]) ∧ SynTo w sb L w' (s.put i ((s.rep i).yield b)) := by
 have hok := h.ok.repOk hi
 refine (yield_any (L.rb i) _ (L.rv i) (s.rep i).sn b (s.rep i).rl.bal w (h.rep i hi) (by simp [repCells, repHead]) (repCells_role _ _ _ _ _ hok) (h.role i hi).bal).mono ?_
 rintro e w' ⟨rfl, hb, hk⟩
 refine ⟨rfl, ?_⟩
 have hk' : Keeps (fun k => k = L.rb i ∨ roleBlk (L.rv i) = some k) w w' := hk.mono (fun k _ h => .inl h)
 by_cases hlt : (s.rep i).rl.bal < b
 ·rw [if_pos hlt, repCells_set181 _ _ _ _ _ _ .idle hok, repCells_set4] at hb
  refine h.setRep hi (rv := idleV) (yield_ok hok b0 b1) hk' ?_ ?_ (fun k hk => by cases hk)
  ·rw [hb]; simp only [Rp.yield, Rp.role]; rw [if_pos hlt]
  ·simp only [Rp.yield]; rw [if_pos hlt]; rfl
 ·rw [if_neg hlt, repCells_set4] at hb
  refine h.setRep hi (rv := L.rv i) (yield_ok hok b0 b1) hk' ?_ ?_ (fun k hk => .inl hk)
  ·rw [hb]; simp only [Rp.yield]; rw [if_neg hlt]
  ·simp only [Rp.yield]; rw [if_neg hlt]
   refine (h.role i hi).keeps hk (fun k hk' e => ?_)
   subst e
   obtain ⟨cs', t', ht, hc⟩ := (h.role i hi).blk hk'
   rw [h.rep i hi] at hc; injection hc with e2; injection e2 with _ e2
   rcases ht with rfl | rfl <;> simp at e2
theorem promise_ok {r : Rp} (h : r.ok) {b : Int} (b0 : 0 ≤ b) (b1 : b ≤ 8007) : (r.promise b).ok := ⟨b0, b1, h.sn0, h.sn1, h.acc, h.slot, h.dec, h.rl⟩
theorem put_put (s : Sy) (i : Nat) (a b : Rp) : (s.put i a).put i b = s.put i b := by simp [Sy.put]
theorem SynAt.roleNe {w : World} {sb : Nat} {L : Lay} {s : Sy} (h : SynAt w sb L s) {i j : Nat} (hi : i < s.n) (hj : j < s.n) : roleBlk (L.rv j) ≠ some (L.rb i) := fun e => by
 obtain ⟨cs', t', ht, hc⟩ := (h.role j hj).blk e
 rw [h.rep i hi] at hc; injection hc with e2; injection e2 with _ e2
 rcases ht with rfl | rfl <;> simp at e2
theorem SynAt.promise {w : World} {sb : Nat} {L : Lay} {s : Sy} (h : SynAt w sb L s) {i : Nat} (hi : i < s.n) (b : Int) (b0 : 0 ≤ b) (b1 : b ≤ 8007) : SynTo w sb L (w.setCell (A6 (L.rb i) 3) (I6 b)) (s.put i ((s.rep i).promise b)) := by
 have hk : Keeps (fun k => k = L.rb i) w (w.setCell (A6 (L.rb i) 3) (I6 b)) := Keeps.ofSet (P := fun k => k = L.rb i) (a := (A6 (L.rb i) 3)) (.inl rfl) _
 refine h.setRep hi (rv := L.rv i) (promise_ok (h.ok.repOk hi) b0 b1) (hk.mono (fun k _ h => .inl h)) ?_ ((h.role i hi).keeps hk (fun k hk' e => h.roleNe hi hi (e ▸ hk'))) (fun k hk => .inl hk)
 rw [blk_set (h.rep i hi), repCells_set3]
set_option maxHeartbeats 4000000 in
theorem obeys_syn {w : World} {sb : Nat} {L : Lay} {s : Sy} (h : SynAt w sb L s) {i : Nat} (hi : i < s.n) (x : Nm) (hx : x.okt w) (hm : x.m.ok s.n) :
  Calls Tryz.prog 127 #[.pointer (some (A6 (L.rb i) 0)), .agg x.cells.toArray] w fun e w' => e = .returned (.bool (s.obeys i x.m)) ∧ SynTo w sb L w' (s.obey i x.m) := by
 obtain ⟨c0, c1, c2, c3, c4, c5⟩ := h.cells hi
 have hlt := h.own_lt (.inr (.inr (.inl ⟨i, hi, .inl rfl⟩)))
 have hrok := h.ok.repOk hi
 obtain ⟨xa, xc, hxe, _⟩ := hx.1.1.form
 obtain ⟨⟨mk, mf, mt, mb, ms, ⟨mc, mq, mh, mx⟩, ma⟩, xv⟩ := x
 obtain ⟨f, rfl⟩ := Int.eq_ofNat_of_zero_le hm.f0
 have hf : f < s.n := by have := hm.f1; simp at this; exact this
 have b0 : 0 ≤ mb := hm.b0
 have b1 : mb ≤ 8007 := hm.b1
 simp only [Nm.cells] at *
 subst hxe
 generalize hxn : ma.length = xn at *
 have hbox := blk_new w (.cells #[I6 mk, I6 (f : Int), I6 mt, I6 mb, I6 ms, I6 mc, I6 mq, I6 mh, .string mx, .slice xa xn xc] 36)
 unfold Sy.obeys Sy.obey
 by_cases hb : mb < (s.rep i).pr
 ·have hd : decide (mb < (s.rep i).pr) = true := by simpa using hb
  have hd2 : decide ((s.rep i).pr ≤ mb) = false := by simp; omega
  simp only [hd2, if_pos hb]
  have hpr0 : ∀ q, (World.drewN (w.alloc (.cells #[I6 mk, I6 (f : Int), I6 mt, I6 mb, I6 ms, I6 mc, I6 mq, I6 mh, .string mx, .slice xa xn xc] 36)) q).cell? (A6 (L.rb i) 3) = some (I6 (s.rep i).pr) := fun q => (World.cell?_alloc_lt _ _ _ hlt).trans c3
  have hbox0 : ∀ q, (World.drewN (w.alloc (.cells #[I6 mk, I6 (f : Int), I6 mt, I6 mb, I6 ms, I6 mc, I6 mq, I6 mh, .string mx, .slice xa xn xc] 36)) q).heap[w.heap.size]? = some (.cells #[I6 mk, I6 (f : Int), I6 mt, I6 mb, I6 ms, I6 mc, I6 mq, I6 mh, .string mx, .slice xa xn xc] 36 (0, 0)) := fun q => hbox
  go_enter Tryz.func127, Tryz.ntmps127
  go_wp2_with fail
  go_quiet (fail)
  go_wp2_with fail
  refine wp_region_held_drew (S := fun w' => w'.cell? (A6 (L.rb i) 3) = some (I6 (s.rep i).pr) ∧ w'.heap[w.heap.size]? = some (.cells #[I6 mk, I6 (f : Int), I6 mt, I6 mb, I6 ms, I6 mc, I6 mq, I6 mh, .string mx, .slice xa xn xc] 36 (0, 0))) (by kernel_rfl) (⟨hpr0 0, hbox0 0⟩) (fun hS => ?_)
  refine tk 0 rfl hS (v := .pointer (some (A6 (L.rb i) 0))) (fun w' hw => by clear hS; go_simp) ?_
  try simp only [ly]
  refine tk 1 rfl hS (v := .pointer (some (A6 (L.rb i) 0))) (fun w' hw => by clear hS; go_simp) ?_
  try simp only [ly]
  refine tk 2 rfl hS (v := .pointer (some (A6 (L.rb i) 0))) (fun w' hw => by clear hS; go_simp) ?_
  try simp only [ly]
  refine tk 3 rfl hS (v := .pointer (some (A6 (L.rb i) 3))) (fun w' hw => by clear hS; go_simp) ?_
  try simp only [ly]
  refine tk 4 rfl hS (v := I6 (s.rep i).pr) (fun w' hw => by have c := hw.1; clear hS; go_simp) ?_
  try simp only [ly]
  refine tk 5 rfl hS (v := .agg #[I6 6, I6 0, I6 0, I6 (s.rep i).pr, I6 0, I6 0, I6 0, I6 0, .string ⟨#[]⟩, .slice none 0 0]) (fun w' hw => by clear hS; go_simp) ?_
  try simp only [ly]
  refine tk 6 rfl hS (v := .pointer (some (A6 w.heap.size 1))) (fun w' hw => by clear hS; go_simp) ?_
  try simp only [ly]
  refine tk 7 rfl hS (v := I6 (f : Int)) (fun w' hw => by have c := blk_cell hw.2; clear hS; go_simp) ?_
  try simp only [ly]
  refine r1 8 rfl (fun K hK => ?_)
  go_simp
  refine hK.out _ _ ⟨(World.cell?_alloc_lt _ _ _ (by simp; omega)).trans (hpr0 0), blk_alloc (hbox0 0) _⟩ (fun hS => ?_)
  clear hK K
  try simp only [ly]
  refine r1 9 rfl (fun K hK => ?_)
  go_simp
  have hX := fun q => send1_syn ((h.alloc (.cells #[I6 mk, I6 (f : Int), I6 mt, I6 mb, I6 ms, I6 mc, I6 mq, I6 mh, .string mx, .slice xa xn xc] 36)).drewN q) hi ⟨msg 6 (s.rep i).pr 0 noPst [], .slice none 0 0⟩ (Nm.okt_nil _ _ rfl) (msg_ok h.ok.n0 (by decide) (by decide) hrok.pr0 hrok.pr1 (by decide) (by decide) (by simp) (by simp)) f hf (w.heap.size + 1) (by simp)
  refine (hX _).mono ?_
  rintro e w2 ⟨rfl, hto⟩
  clear hX
  have hB : Below w.heap.size w (w.alloc (.cells #[I6 mk, I6 (f : Int), I6 mt, I6 mb, I6 ms, I6 mc, I6 mq, I6 mh, .string mx, .slice xa xn xc] 36)) := (Below.refl _ w).alloc (Nat.le_refl _) _
  have hto2 := SynTo.after h (sendTo_n _ _ _ _) (below_drewN hB _) hto
  have hbox2 := hto.blk (hbox0 _) (fun ho => by have := h.own_lt ho; omega)
  obtain ⟨L2, h2, e2, _, _⟩ := id hto
  have hc2 := (h2.cells hi).2.2.2.1
  rw [e2] at hc2
  go_wp2_with fail
  refine hK.out _ _ ⟨hc2, hbox2⟩ (fun hS => ?_)
  clear hK K
  try simp only [ly]
  refine dn ?_ _
  go_wp2_with fail
  go_ret
  exact ⟨rfl, hto2⟩
 ·have hd : decide (mb < (s.rep i).pr) = false := by simpa using hb
  have hd2 : decide ((s.rep i).pr ≤ mb) = true := by simp; omega
  simp only [hd2, if_neg hb]
  have hY := fun q => yield_syn ((h.alloc (.cells #[I6 mk, I6 (f : Int), I6 mt, I6 mb, I6 ms, I6 mc, I6 mq, I6 mh, .string mx, .slice xa xn xc] 36)).drewN q) hi mb b0 b1
  go_enter Tryz.func127, Tryz.ntmps127
  go_wp2_with fail
  go_quiet (fail)
  go_wp2_with fail
  refine (hY _).mono ?_
  rintro e w2 ⟨rfl, hto⟩
  clear hY
  have hB : Below w.heap.size w (w.alloc (.cells #[I6 mk, I6 (f : Int), I6 mt, I6 mb, I6 ms, I6 mc, I6 mq, I6 mh, .string mx, .slice xa xn xc] 36)) := (Below.refl _ w).alloc (Nat.le_refl _) _
  have hto2 := SynTo.after (s := s.put i ((s.rep i).yield mb)) h rfl (below_drewN hB _) hto
  have hbox0 : ∀ q, (World.drewN (w.alloc (.cells #[I6 mk, I6 (f : Int), I6 mt, I6 mb, I6 ms, I6 mc, I6 mq, I6 mh, .string mx, .slice xa xn xc] 36)) q).heap[w.heap.size]? = some (.cells #[I6 mk, I6 (f : Int), I6 mt, I6 mb, I6 ms, I6 mc, I6 mq, I6 mh, .string mx, .slice xa xn xc] 36 (0, 0)) := fun q => hbox
  have hbox2 := hto.blk (hbox0 _) (fun ho => by have := h.own_lt ho; omega)
  obtain ⟨L2, h2, e2, _, _⟩ := id hto
  have hc3 := (h2.cells hi).2.2.2.1
  have hf3 := blk_free (h2.rep i hi) 3
  rw [e2] at hc3 hf3
  have hbc := blk_cell hbox2
  have hto3 := hto2.trans (s2 := s.put i (((s.rep i).yield mb).promise mb)) rfl (fun L1 h1 e1 => by
   have := h1.promise hi mb b0 b1
   rw [put_put, Sy.rep_put (by rw [h.ok.len]; exact hi), e1] at this
   exact this)
  go_wp2_with fail
  go_ret
  exact ⟨rfl, hto3⟩
end
section
open Go.RowKit
theorem SynTo.next {w w1 w2 : World} {sb : Nat} {L L1 : Lay} {s1 s2 : Sy} (e1 : L1.rb = L.rb) (o1 : ∀ k, L1.own sb s1.n k → L.own sb s1.n k ∨ w.heap.size ≤ k) (k1 : Keeps (L.own sb s1.n) w w1) (hn : s2.n = s1.n) (b : SynTo w1 sb L1 w2 s2) : SynTo w sb L w2 s2 := by
 obtain ⟨L2, h2, e2, o2, k2⟩ := b
 rw [hn] at o2 k2
 refine ⟨L2, h2, e2.trans e1, fun k hk => ?_, ?_⟩
 ·rw [hn] at hk ⊢
  rcases o2 k hk with h | h
  ·exact o1 k h
  ·exact .inr (Nat.le_trans k1.size h)
 ·rw [hn]
  refine ⟨k2.os.trans k1.os, k2.tape.trans k1.tape, k2.output.trans k1.output, Nat.le_trans k1.size k2.size, fun k hk hno => ?_⟩
  rw [k2.block k (Nat.lt_of_lt_of_le hk k1.size) (fun ho => by rcases o1 k ho with h | h; exact hno h; omega)]
  exact k1.block k hk hno
theorem SynAt.accs {w : World} {sb : Nat} {L : Lay} {s : Sy} (h : SynAt w sb L s) {i : Nat} (hi : i < s.n) : w.rangeAt (L.rb i) 5 (vcells (s.rep i).acc) := fun j u hu => by
 have hb := h.rep i hi
 have hl : j < (vcells (s.rep i).acc).length := (List.getElem?_eq_some_iff.1 hu).1
 rw [blk_cell hb, List.getElem?_toArray, repCells]
 have e : (repHead i s.n sb (s.rep i)).length = 5 := rfl
 rw [List.getElem?_append_right (by omega), e, Nat.add_sub_cancel_left, List.getElem?_append_left hl]
 exact hu
theorem obey_rep {s : Sy} (h : s.ok) {i : Nat} (hi : i < s.n) {m : Ms} (hb : ¬ m.b < (s.rep i).pr) : (s.obey i m).rep i = ((s.rep i).yield m.b).promise m.b := by
 unfold Sy.obey
 rw [if_neg hb, Sy.rep_put (by rw [h.len]; exact hi)]
theorem obey_n (s : Sy) (i : Nat) (m : Ms) : (s.obey i m).n = s.n := by
 unfold Sy.obey
 split
 ·exact sendTo_n _ _ _ _
 ·rfl
theorem promise_send {w W : World} {sb : Nat} {L : Lay} {s : Sy} (h : SynAt w sb L s) {i : Nat} (hi : i < s.n) {b : Int} (b0 : 0 ≤ b) (b1 : b ≤ 8007) (hsl : ∀ v ∈ (s.rep i).acc, 0 ≤ v.s ∧ v.s < 16) (hal : (s.rep i).acc.length = 16) (hB : Below w.heap.size w W) {base : Nat} {v1 : Value}
  (hown : W.ownsRow base 53 6 v1 (voted (s.rep i).acc).length (vcells (voted (s.rep i).acc))) {g f : Nat} (hg : W.heap[g]? = some (.cells #[I6 (f : Int)] 3 (0, 0))) (hf : f < s.n) :
  Calls Tryz.prog 90 #[.pointer (some (A6 (L.rb i) 0)), .agg #[I6 2, I6 0, I6 0, I6 b, I6 0, I6 0, I6 0, I6 0, .string ⟨#[]⟩, v1], .slice (some (A6 g 0)) 1 1] W fun e w' => e = .returned (.tuple #[]) ∧ SynTo w sb L w' (s.sendTo (msg 2 b 0 noPst (voted (s.rep i).acc)) i [f]) := by
 have hvl : (voted (s.rep i).acc).length ≤ 16 := by have := voted_le (s.rep i).acc; omega
 have hvs : ∀ v ∈ voted (s.rep i).acc, 0 ≤ v.s ∧ v.s < 16 := fun v hv => hsl v (List.mem_filter.1 hv).1
 have hv0 : VAt W v1 (voted (s.rep i).acc) := owns_vat hown (by omega)
 have hx : Nm.okt W ⟨msg 2 b 0 noPst (voted (s.rep i).acc), v1⟩ := ⟨⟨hv0, by show (voted (s.rep i).acc).length ≤ 1000; omega⟩, fun g hg => owns_blk hown hg⟩
 have hrow : RowAt W 1 (.slice (some (A6 g 0)) 1 1) [f].length ([f].map fun (i : Nat) => I6 (i : Int)) := by
  refine ⟨rfl, _, 1, rfl, fun _ => ⟨g, 0, rfl, lt_of_block hg, fun j u hu => ?_⟩⟩
  rw [Nat.zero_add, blk_cell hg]
  rcases j with _ | j
  ·simpa using hu
  ·simp at hu
 refine (send_syn (h.below hB) hi ⟨msg 2 b 0 noPst (voted (s.rep i).acc), v1⟩ hx (msg_ok h.ok.n0 (by decide) (by decide) b0 b1 (by decide) (by decide) hvl hvs) [f] (by simpa using hf) _ hrow (fun g' hg' => ?_) (by simp)).mono ?_
 ·obtain rfl : g = g' := by simpa [Value.ownBlock] using hg'
  exact ⟨_, hg⟩
 ·rintro e w' ⟨rfl, hto⟩
  exact ⟨rfl, SynTo.after h (sendTo_n _ _ _ _) hB hto⟩
set_option maxHeartbeats 1000000 in
theorem takePrepare_syn {w : World} {sb : Nat} {L : Lay} {s : Sy} (h : SynAt w sb L s) {i : Nat} (hi : i < s.n) (x : Nm) (hx : x.okt w) (hm : x.m.ok s.n) :
  Calls Tryz.prog 100 #[.pointer (some (A6 (L.rb i) 0)), .agg x.cells.toArray] w fun e w' => e = .returned (.tuple #[]) ∧ SynTo w sb L w' (s.takePrepare i x.m) := by
 have hO := fun o => obeys_syn (h.alloc o) hi x (hx.keeps (Keeps.ofAlloc (P := fun _ => False) w o) (fun _ _ _ => id)) hm
 obtain ⟨xa, xc, hxe, _⟩ := hx.1.1.form
 obtain ⟨⟨mk, mf, mt, mb, ms, ⟨mc, mq, mh, mx⟩, ma⟩, xv⟩ := x
 obtain ⟨f, rfl⟩ := Int.eq_ofNat_of_zero_le hm.f0
 have hf : f < s.n := by have := hm.f1; simp at this; exact this
 have b0 : 0 ≤ mb := hm.b0
 have b1 : mb ≤ 8007 := hm.b1
 simp only [Nm.cells] at *
 subst hxe
 generalize hxn : ma.length = xn at *
 have hbox := blk_new w (.cells #[I6 mk, I6 (f : Int), I6 mt, I6 mb, I6 ms, I6 mc, I6 mq, I6 mh, .string mx, .slice xa xn xc] 36)
 have hB : Below w.heap.size w (w.alloc (.cells #[I6 mk, I6 (f : Int), I6 mt, I6 mb, I6 ms, I6 mc, I6 mq, I6 mh, .string mx, .slice xa xn xc] 36)) := (Below.refl _ w).alloc (Nat.le_refl _) _
 unfold Sy.takePrepare
 by_cases hb : mb < (s.rep i).pr
 ·have hd2 : s.obeys i (Ms.mk mk (f : Int) mt mb ms ⟨mc, mq, mh, mx⟩ ma) = false := by simp [Sy.obeys]; omega
  simp only [if_pos hb]
  rw [hd2] at hO
  go_enter Tryz.func100, Tryz.ntmps100
  go_wp2_with fail
  refine (hO _).mono ?_
  rintro e w2 ⟨rfl, hto⟩
  clear hO
  go_wp2_with fail
  go_end0
  exact ⟨rfl, SynTo.after h (obey_n _ _ _) hB hto⟩
 ·have hd2 : s.obeys i (Ms.mk mk (f : Int) mt mb ms ⟨mc, mq, mh, mx⟩ ma) = true := by simp [Sy.obeys]; omega
  simp only [if_neg hb]
  rw [hd2] at hO
  have hrep := obey_rep h.ok hi (m := Ms.mk mk (f : Int) mt mb ms ⟨mc, mq, mh, mx⟩ ma) hb
  have hn2 := obey_n s i (Ms.mk mk (f : Int) mt mb ms ⟨mc, mq, mh, mx⟩ ma)
  generalize s.obey i (Ms.mk mk (f : Int) mt mb ms ⟨mc, mq, mh, mx⟩ ma) = s2 at *
  go_enter Tryz.func100, Tryz.ntmps100
  go_wp2_with fail
  refine (hO _).mono ?_
  rintro e w2 ⟨rfl, hto⟩
  clear hO
  have hto2 := SynTo.after h hn2 hB hto
  have hbox2 := hto.blk hbox (fun ho => by rw [hn2] at ho; have := h.own_lt ho; omega)
  obtain ⟨L2, h2, e2, ho2, hk2⟩ := id hto
  have hno2 : ¬ L2.own sb s2.n w.heap.size := fun ho => by
   rcases ho2 _ ho with h9 | h9
   ·rw [hn2] at h9; have := h.own_lt h9; omega
   ·rw [World.size_alloc] at h9; omega
  have hi2 : i < s2.n := by rw [hn2]; exact hi
  have hacc := h2.accs hi2
  have ea : (s2.rep i).acc = (s.rep i).acc := by rw [hrep]; rfl
  rw [e2, ea] at hacc
  have hrok := h.ok.repOk hi
  have hA := fun W hr => allAccepted_any (L.rb i) (s.rep i).acc W hr hrok.acc
  have hbox2q : ∀ q, (w2.drewN q).heap[w.heap.size]? = some (.cells #[I6 mk, I6 (f : Int), I6 mt, I6 mb, I6 ms, I6 mc, I6 mq, I6 mh, .string mx, .slice xa xn xc] 36 (0, 0)) := fun q => hbox2
  go_wp2_with fail
  refine wp_region_held_drew (S := fun w' => w'.heap[w.heap.size]? = some (.cells #[I6 mk, I6 (f : Int), I6 mt, I6 mb, I6 ms, I6 mc, I6 mq, I6 mh, .string mx, .slice xa xn xc] 36 (0, 0))) (by kernel_rfl) (hbox2) (fun hS => ?_)
  refine tk 0 rfl hS (v := .pointer (some (A6 (L.rb i) 0))) (fun w' hw => by clear hS; go_simp) ?_
  try simp only [ly]
  refine tk 1 rfl hS (v := .pointer (some (A6 w.heap.size 3))) (fun w' hw => by clear hS; go_simp) ?_
  try simp only [ly]
  refine tk 2 rfl hS (v := I6 mb) (fun w' hw => by have c := blk_cell hw; clear hS; go_simp) ?_
  try simp only [ly]
  refine tk 3 rfl hS (v := .pointer (some (A6 (L.rb i) 0))) (fun w' hw => by clear hS; go_simp) ?_
  try simp only [ly]
  refine tk 6 rfl hS (v := .pointer (some (A6 w.heap.size 1))) (fun w' hw => by clear hS; go_simp) ?_
  try simp only [ly]
  refine tk 7 rfl hS (v := I6 (f : Int)) (fun w' hw => by have c := blk_cell hw; clear hS; go_simp) ?_
  try simp only [ly]
  refine wpAnyH_ready (rs := [4, 8]) (by kernel_rfl) (by simp) ?_
  refine AllReadyH.cons rfl (fun K hK => ?_) (AllReadyH.cons rfl (fun K hK => ?_) AllReadyH.nil)
  ·go_simp
   refine (hA w2.drew hacc).mono ?_
   rintro e w3 ⟨v1, rfl, hown3, hB3⟩
   obtain ⟨v1a, v1n, v1c, rfl⟩ := owns_slice1 hown3
   have hbox3 := blk_below hB3 hbox2
   go_wp2_with fail
   refine hK.out _ _ hbox3 (fun hS => ?_)
   clear hK K
   try simp only [ly]
   refine tk 5 rfl hS (v := .agg #[I6 2, I6 0, I6 0, I6 mb, I6 0, I6 0, I6 0, I6 0, .string ⟨#[]⟩, .slice v1a v1n v1c]) (fun w' hw => by clear hS; go_simp) ?_
   try simp only [ly]
   refine r1 8 rfl (fun K hK => ?_)
   go_simp
   refine hK.out _ _ (blk_alloc hbox3 _) (fun hS => ?_)
   clear hK K
   try simp only [ly]
   refine r1 9 rfl (fun K hK => ?_)
   go_simp
   have hBf : Below w2.heap.size w2 (w3.alloc (.cells #[I6 (f : Int)] 3)) := Below.alloc (Below.trans (Below.drew (Below.refl _ w2)) hB3) hB3.size _
   have hownf := owns_alloc hown3 (.cells #[I6 (f : Int)] 3)
   have hgf := blk_new w3 (.cells #[I6 (f : Int)] 3)
   have hP := promise_send h2 hi2 b0 b1 (by rw [ea]; exact hrok.slot) (by rw [ea]; exact hrok.acc) hBf (by rw [ea]; exact hownf) hgf (by rw [hn2]; exact hf)
   rw [e2] at hP
   refine hP.mono ?_
   rintro e w5 ⟨rfl, hto5⟩
   have hbox5 := hto5.blk hbox2 (fun ho => by rw [sendTo_n] at ho; exact hno2 ho)
   rw [ea] at hto5
   have hto6 := SynTo.after h ((sendTo_n _ _ _ _).trans hn2) hB (SynTo.next e2 ho2 hk2 (sendTo_n _ _ _ _) hto5)
   go_wp2_with fail
   refine hK.out _ _ hbox5 (fun hS => ?_)
   clear hK K
   try simp only [ly]
   refine dn ?_ _
   go_wp2_with fail
   go_end0
   exact ⟨rfl, hto6⟩
  ·go_simp
   have hb4 := blk_alloc hbox2 (.cells #[I6 (f : Int)] 3)
   refine hK.out _ _ hb4 (fun hS => ?_)
   clear hK K
   try simp only [ly]
   refine r1 4 rfl (fun K hK => ?_)
   go_simp
   have hacc4 : (w2.alloc (.cells #[I6 (f : Int)] 3)).drew.rangeAt (L.rb i) 5 (vcells (s.rep i).acc) := by
    have hla := h2.own_lt (.inr (.inr (.inl ⟨i, hi2, .inl rfl⟩)))
    rw [e2] at hla
    intro j u hu
    exact (World.cell?_alloc_lt _ _ _ hla).trans (hacc j u hu)
   refine (hA (w2.alloc (.cells #[I6 (f : Int)] 3)).drew hacc4).mono ?_
   rintro e w3 ⟨v1, rfl, hown3, hB3⟩
   obtain ⟨v1a, v1n, v1c, rfl⟩ := owns_slice1 hown3
   have hbox3 := blk_below hB3 hb4
   go_wp2_with fail
   refine hK.out _ _ hbox3 (fun hS => ?_)
   clear hK K
   try simp only [ly]
   refine tk 5 rfl hS (v := .agg #[I6 2, I6 0, I6 0, I6 mb, I6 0, I6 0, I6 0, I6 0, .string ⟨#[]⟩, .slice v1a v1n v1c]) (fun w' hw => by clear hS; go_simp) ?_
   try simp only [ly]
   refine r1 9 rfl (fun K hK => ?_)
   go_simp
   have hBf : Below w2.heap.size w2 w3 := Below.trans (Below.drew (Below.alloc (Below.refl _ w2) (Nat.le_refl _) (.cells #[I6 (f : Int)] 3))) (hB3.mono (by simp))
   have hownf := hown3
   have hgf := blk_below hB3 (blk_drew (blk_new w2 (.cells #[I6 (f : Int)] 3)))
   have hP := promise_send h2 hi2 b0 b1 (by rw [ea]; exact hrok.slot) (by rw [ea]; exact hrok.acc) hBf (by rw [ea]; exact hownf) hgf (by rw [hn2]; exact hf)
   rw [e2] at hP
   refine hP.mono ?_
   rintro e w5 ⟨rfl, hto5⟩
   have hbox5 := hto5.blk hbox2 (fun ho => by rw [sendTo_n] at ho; exact hno2 ho)
   rw [ea] at hto5
   have hto6 := SynTo.after h ((sendTo_n _ _ _ _).trans hn2) hB (SynTo.next e2 ho2 hk2 (sendTo_n _ _ _ _) hto5)
   go_wp2_with fail
   refine hK.out _ _ hbox5 (fun hS => ?_)
   clear hK K
   try simp only [ly]
   refine dn ?_ _
   go_wp2_with fail
   go_end0
   exact ⟨rfl, hto6⟩
end
end Go.Proofs.YtnnhnekfokbooaaGreatDoor
