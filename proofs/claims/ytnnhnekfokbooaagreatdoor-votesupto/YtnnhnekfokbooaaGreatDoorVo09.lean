/- The walks of what a replica obeys, and of what it sends on (laid by mksync.py). -/
import Derived.Test.YtnnhnekfokbooaaGreatDoorVo08
namespace Go.Proofs.YtnnhnekfokbooaaGreatDoor
open List (getElem_toArray getElem_cons_zero getElem_cons_succ setIfInBounds_toArray set_cons_zero set_cons_succ)
open Go.RowKit
set_option linter.unusedSimpArgs false
set_option linter.unusedVariables false

theorem SynAt.drewN {w : World} {sb : Nat} {L : Lay} {s : Sy} (h : SynAt w sb L s) (q : Nat) : SynAt (w.drewN q) sb L s := h.below (below_drewN (Below.refl _ w) q)
theorem row_one (W : World) (n : Nat) (hn : W.heap.size = n) (f : Nat) : RowAt (W.alloc (.cells #[.int .i64 (f : Int)] 3)) 1 (.slice (some ⟨n, 0, none⟩) 1 1) [f].length ([f].map fun (i : Nat) => Value.int .i64 (i : Int)) := by
 subst hn
 refine ⟨rfl, _, 1, rfl, fun _ => ⟨W.heap.size, 0, rfl, by simp, fun j u hu => ?_⟩⟩
 rw [Nat.zero_add, blk_cell (blk_new W _)]
 rcases j with _ | j
 ·simpa using hu
 ·simp at hu
/-- A message without a list. -/
theorem Nm.okt_nil (w : World) (m : Ms) (h : m.a = []) : Nm.okt w ⟨m, .slice none 0 0⟩ := by
 refine ⟨⟨?_, ?_⟩, fun g hg => by cases hg⟩
 ·show VAt w _ m.a
  rw [h]; exact rvat_nil w
 ·show m.a.length ≤ 1000
  rw [h]; simp
theorem msg_ok {n : Nat} (hn : 1 ≤ n) {k b s : Int} {p : Pst} {a : List Vt} (k0 : 1 ≤ k) (k1 : k ≤ 6) (b0 : 0 ≤ b) (b1 : b ≤ 8007) (s0 : 0 ≤ s) (s1 : s < 16) (ha : a.length ≤ 16) (hs : ∀ v ∈ a, 0 ≤ v.s ∧ v.s < 16) : ((msg k b s p a).to 0 0).ok n :=
 ⟨k0, k1, by simp [Ms.to], by simp [Ms.to]; omega, by simp [Ms.to], by simp [Ms.to]; omega, b0, b1, s0, s1, ha, hs⟩
/-- What a replica sends to one. -/
theorem send1_syn {W : World} {sb : Nat} {L : Lay} {s : Sy} (h : SynAt W sb L s) {i : Nat} (hi : i < s.n) (x : Nm) (hx : x.okt W) (hm : (x.m.to 0 0).ok s.n) (f : Nat) (hf : f < s.n) (n : Nat) (hn : W.heap.size = n) :
  Calls Tryz.prog 90 #[.pointer (some ⟨L.rb i, 0, none⟩), .agg x.cells.toArray, .slice (some ⟨n, 0, none⟩) 1 1] (W.alloc (.cells #[.int .i64 (f : Int)] 3)) fun e w' => e = .returned (.tuple #[]) ∧ SynTo W sb L w' (s.sendTo x.m i [f]) := by
 have hB : Below W.heap.size W (W.alloc (.cells #[.int .i64 (f : Int)] 3)) := (Below.refl _ W).alloc (Nat.le_refl _) _
 refine (send_syn (h.below hB) hi x (hx.keeps (Keeps.ofBelow (P := fun _ => False) hB) (fun _ _ _ => id)) hm [f] (by simpa using hf) _ (row_one W n hn f) (fun g hg => ?_) (by simp)).mono ?_
 ·obtain rfl : n = g := by simpa [Value.ownBlock] using hg
  subst hn
  exact ⟨_, blk_new W _⟩
 ·rintro e w' ⟨rfl, hto⟩
  exact ⟨rfl, SynTo.after h (sendTo_n _ _ _ _) hB hto⟩

theorem yield_ok {r : Rp} (h : r.ok) {b : Int} (b0 : 0 ≤ b) (b1 : b ≤ 8007) : (r.yield b).ok := by
 have := h.sn0; have := h.sn1
 refine ⟨h.pr0, h.pr1, ?_, ?_, h.acc, h.slot, h.dec, ?_⟩
 ·simp only [Rp.yield]; omega
 ·simp only [Rp.yield]; omega
 ·simp only [Rp.yield]; split
  ·trivial
  ·exact h.rl
theorem yield_syn {w : World} {sb : Nat} {L : Lay} {s : Sy} (h : SynAt w sb L s) {i : Nat} (hi : i < s.n) (b : Int) (b0 : 0 ≤ b) (b1 : b ≤ 8007) :
  Calls Tryz.prog 135 #[.pointer (some ⟨L.rb i, 0, none⟩), .int .i64 b] w fun e w' => e = .returned (.tuple #[]) ∧ SynTo w sb L w' (s.put i ((s.rep i).yield b)) := by
 have hok := h.ok.repOk hi
 refine (yield_any (L.rb i) _ (L.rv i) (s.rep i).sn b (s.rep i).rl.bal w (h.rep i hi) (by simp [repCells, repHead]) (repCells_role _ _ _ _ _ hok) (h.role i hi).bal).mono ?_
 rintro e w' ⟨rfl, hb, hk⟩
 refine ⟨rfl, ?_⟩
 have hk' : Keeps (fun k => k = L.rb i ∨ roleBlk (L.rv i) = some k) w w' := hk.mono (fun k _ h => .inl h)
 by_cases hlt : (s.rep i).rl.bal < b
 ·rw [if_pos hlt, repCells_set181 _ _ _ _ _ _ .idle hok, repCells_set4] at hb
  refine h.setRep hi (rv := idleV) (yield_ok hok b0 b1) hk' ?_ ?_ (fun k hk => by cases hk)
  ·rw [hb]; simp only [Rp.yield, Rp.role]; rw [if_pos hlt]
  ·simp only [Rp.yield]; rw [if_pos hlt]; rfl
 ·rw [if_neg hlt, repCells_set4] at hb
  refine h.setRep hi (rv := L.rv i) (yield_ok hok b0 b1) hk' ?_ ?_ (fun k hk => .inl hk)
  ·rw [hb]; simp only [Rp.yield]; rw [if_neg hlt]
  ·simp only [Rp.yield]; rw [if_neg hlt]
   refine (h.role i hi).keeps hk (fun k hk' e => ?_)
   subst e
   obtain ⟨cs', t', ht, hc⟩ := (h.role i hi).blk hk'
   rw [h.rep i hi] at hc; injection hc with e2; injection e2 with _ e2
   rcases ht with rfl | rfl <;> simp at e2
theorem promise_ok {r : Rp} (h : r.ok) {b : Int} (b0 : 0 ≤ b) (b1 : b ≤ 8007) : (r.promise b).ok := ⟨b0, b1, h.sn0, h.sn1, h.acc, h.slot, h.dec, h.rl⟩
theorem put_put (s : Sy) (i : Nat) (a b : Rp) : (s.put i a).put i b = s.put i b := by simp [Sy.put]
/-- A role's block is none of a replica. -/
theorem SynAt.roleNe {w : World} {sb : Nat} {L : Lay} {s : Sy} (h : SynAt w sb L s) {i j : Nat} (hi : i < s.n) (hj : j < s.n) : roleBlk (L.rv j) ≠ some (L.rb i) := fun e => by
 obtain ⟨cs', t', ht, hc⟩ := (h.role j hj).blk e
 rw [h.rep i hi] at hc; injection hc with e2; injection e2 with _ e2
 rcases ht with rfl | rfl <;> simp at e2
/-- What is promised is written. -/
theorem SynAt.promise {w : World} {sb : Nat} {L : Lay} {s : Sy} (h : SynAt w sb L s) {i : Nat} (hi : i < s.n) (b : Int) (b0 : 0 ≤ b) (b1 : b ≤ 8007) : SynTo w sb L (w.setCell ⟨L.rb i, 3, none⟩ (.int .i64 b)) (s.put i ((s.rep i).promise b)) := by
 have hk : Keeps (fun k => k = L.rb i) w (w.setCell ⟨L.rb i, 3, none⟩ (.int .i64 b)) := Keeps.ofSet (P := fun k => k = L.rb i) (a := ⟨L.rb i, 3, none⟩) (.inl rfl) _
 refine h.setRep hi (rv := L.rv i) (promise_ok (h.ok.repOk hi) b0 b1) (hk.mono (fun k _ h => .inl h)) ?_ ((h.role i hi).keeps hk (fun k hk' e => h.roleNe hi hi (e ▸ hk'))) (fun k hk => .inl hk)
 rw [blk_set (h.rep i hi), repCells_set3]

set_option maxHeartbeats 4000000 in
set_option maxRecDepth 100000 in
theorem obeys_syn {w : World} {sb : Nat} {L : Lay} {s : Sy} (h : SynAt w sb L s) {i : Nat} (hi : i < s.n) (x : Nm) (hx : x.okt w) (hm : x.m.ok s.n) :
  Calls Tryz.prog 127 #[.pointer (some ⟨L.rb i, 0, none⟩), .agg x.cells.toArray] w fun e w' => e = .returned (.bool (s.obeys i x.m)) ∧ SynTo w sb L w' (s.obey i x.m) := by
 obtain ⟨c0, c1, c2, c3, c4, c5⟩ := h.cells hi
 have hlt := h.own_lt (.inr (.inr (.inl ⟨i, hi, .inl rfl⟩)))
 have hrok := h.ok.repOk hi
 obtain ⟨xa, xc, hxe, _⟩ := hx.1.1.form
 obtain ⟨⟨mk, mf, mt, mb, ms, ⟨mc, mq, mh, mx⟩, ma⟩, xv⟩ := x
 obtain ⟨f, rfl⟩ := Int.eq_ofNat_of_zero_le hm.f0
 have hf : f < s.n := by have := hm.f1; simp at this; exact this
 have b0 : 0 ≤ mb := hm.b0
 have b1 : mb ≤ 8007 := hm.b1
 simp only [Nm.cells] at *
 subst hxe
 generalize hxn : ma.length = xn at *
 have hbox := blk_new w (.cells #[.int .i64 mk, .int .i64 (f : Int), .int .i64 mt, .int .i64 mb, .int .i64 ms, .int .i64 mc, .int .i64 mq, .int .i64 mh, .string mx, .slice xa xn xc] 36)
 unfold Sy.obeys Sy.obey
 by_cases hb : mb < (s.rep i).pr
 ·have hd : decide (mb < (s.rep i).pr) = true := by simpa using hb
  have hd2 : decide ((s.rep i).pr ≤ mb) = false := by simp; omega
  simp only [hd2, if_pos hb]
  have hpr0 : ∀ q, (World.drewN (w.alloc (.cells #[.int .i64 mk, .int .i64 (f : Int), .int .i64 mt, .int .i64 mb, .int .i64 ms, .int .i64 mc, .int .i64 mq, .int .i64 mh, .string mx, .slice xa xn xc] 36)) q).cell? ⟨L.rb i, 3, none⟩ = some (.int .i64 (s.rep i).pr) := fun q => (World.cell?_alloc_lt _ _ _ hlt).trans c3
  have hbox0 : ∀ q, (World.drewN (w.alloc (.cells #[.int .i64 mk, .int .i64 (f : Int), .int .i64 mt, .int .i64 mb, .int .i64 ms, .int .i64 mc, .int .i64 mq, .int .i64 mh, .string mx, .slice xa xn xc] 36)) q).heap[w.heap.size]? = some (.cells #[.int .i64 mk, .int .i64 (f : Int), .int .i64 mt, .int .i64 mb, .int .i64 ms, .int .i64 mc, .int .i64 mq, .int .i64 mh, .string mx, .slice xa xn xc] 36 (0, 0)) := fun q => hbox
  go_enter Tryz.func127, Tryz.ntmps127
  go_wp2_with fail
  go_quiet (fail)
  go_wp2_with fail
  refine wp_region_held_drew (S := fun w' => w'.cell? ⟨L.rb i, 3, none⟩ = some (.int .i64 (s.rep i).pr) ∧ w'.heap[w.heap.size]? = some (.cells #[.int .i64 mk, .int .i64 (f : Int), .int .i64 mt, .int .i64 mb, .int .i64 ms, .int .i64 mc, .int .i64 mq, .int .i64 mh, .string mx, .slice xa xn xc] 36 (0, 0))) (by kernel_rfl) (⟨hpr0 0, hbox0 0⟩) (fun hS => ?_)
  refine wpAnyH_take (i := 0) (v := .pointer (some ⟨L.rb i, 0, none⟩)) rfl (by kernel_rfl) (by kernel_rfl) (by kernel_rfl) (fun _ _ _ h => h) (Or.inl ⟨by kernel_rfl, fun w' hw => by clear hS; go_simp⟩) hS ?_
  try simp only [Act.put, getElem_toArray, getElem_cons_zero, getElem_cons_succ, setIfInBounds_toArray, set_cons_zero, set_cons_succ]
  refine wpAnyH_take (i := 1) (v := .pointer (some ⟨L.rb i, 0, none⟩)) rfl (by kernel_rfl) (by kernel_rfl) (by kernel_rfl) (fun _ _ _ h => h) (Or.inl ⟨by kernel_rfl, fun w' hw => by clear hS; go_simp⟩) hS ?_
  try simp only [Act.put, getElem_toArray, getElem_cons_zero, getElem_cons_succ, setIfInBounds_toArray, set_cons_zero, set_cons_succ]
  refine wpAnyH_take (i := 2) (v := .pointer (some ⟨L.rb i, 0, none⟩)) rfl (by kernel_rfl) (by kernel_rfl) (by kernel_rfl) (fun _ _ _ h => h) (Or.inl ⟨by kernel_rfl, fun w' hw => by clear hS; go_simp⟩) hS ?_
  try simp only [Act.put, getElem_toArray, getElem_cons_zero, getElem_cons_succ, setIfInBounds_toArray, set_cons_zero, set_cons_succ]
  refine wpAnyH_take (i := 3) (v := .pointer (some ⟨L.rb i, 3, none⟩)) rfl (by kernel_rfl) (by kernel_rfl) (by kernel_rfl) (fun _ _ _ h => h) (Or.inl ⟨by kernel_rfl, fun w' hw => by clear hS; go_simp⟩) hS ?_
  try simp only [Act.put, getElem_toArray, getElem_cons_zero, getElem_cons_succ, setIfInBounds_toArray, set_cons_zero, set_cons_succ]
  refine wpAnyH_take (i := 4) (v := .int .i64 (s.rep i).pr) rfl (by kernel_rfl) (by kernel_rfl) (by kernel_rfl) (fun _ _ _ h => h) (Or.inl ⟨by kernel_rfl, fun w' hw => by have c := hw.1; clear hS; go_simp⟩) hS ?_
  try simp only [Act.put, getElem_toArray, getElem_cons_zero, getElem_cons_succ, setIfInBounds_toArray, set_cons_zero, set_cons_succ]
  refine wpAnyH_take (i := 5) (v := .agg #[.int .i64 6, .int .i64 0, .int .i64 0, .int .i64 (s.rep i).pr, .int .i64 0, .int .i64 0, .int .i64 0, .int .i64 0, .string ⟨#[]⟩, .slice none 0 0]) rfl (by kernel_rfl) (by kernel_rfl) (by kernel_rfl) (fun _ _ _ h => h) (Or.inl ⟨by kernel_rfl, fun w' hw => by clear hS; go_simp⟩) hS ?_
  try simp only [Act.put, getElem_toArray, getElem_cons_zero, getElem_cons_succ, setIfInBounds_toArray, set_cons_zero, set_cons_succ]
  refine wpAnyH_take (i := 6) (v := .pointer (some ⟨w.heap.size, 1, none⟩)) rfl (by kernel_rfl) (by kernel_rfl) (by kernel_rfl) (fun _ _ _ h => h) (Or.inl ⟨by kernel_rfl, fun w' hw => by clear hS; go_simp⟩) hS ?_
  try simp only [Act.put, getElem_toArray, getElem_cons_zero, getElem_cons_succ, setIfInBounds_toArray, set_cons_zero, set_cons_succ]
  refine wpAnyH_take (i := 7) (v := .int .i64 (f : Int)) rfl (by kernel_rfl) (by kernel_rfl) (by kernel_rfl) (fun _ _ _ h => h) (Or.inl ⟨by kernel_rfl, fun w' hw => by have c := blk_cell hw.2; clear hS; go_simp⟩) hS ?_
  try simp only [Act.put, getElem_toArray, getElem_cons_zero, getElem_cons_succ, setIfInBounds_toArray, set_cons_zero, set_cons_succ]
  refine wpAnyH_ready (rs := [8]) (by kernel_rfl) (by simp) ?_
  refine AllReadyH.cons rfl (fun K hK => ?_) AllReadyH.nil
  go_simp
  refine hK.out _ _ ⟨(World.cell?_alloc_lt _ _ _ (by simp; omega)).trans (hpr0 0), blk_alloc (hbox0 0) _⟩ (fun hS => ?_)
  clear hK K
  try simp only [Act.put, getElem_toArray, getElem_cons_zero, getElem_cons_succ, setIfInBounds_toArray, set_cons_zero, set_cons_succ]
  refine wpAnyH_ready (rs := [9]) (by kernel_rfl) (by simp) ?_
  refine AllReadyH.cons rfl (fun K hK => ?_) AllReadyH.nil
  go_simp
  have hX := fun q => send1_syn ((h.alloc (.cells #[.int .i64 mk, .int .i64 (f : Int), .int .i64 mt, .int .i64 mb, .int .i64 ms, .int .i64 mc, .int .i64 mq, .int .i64 mh, .string mx, .slice xa xn xc] 36)).drewN q) hi ⟨msg 6 (s.rep i).pr 0 noPst [], .slice none 0 0⟩ (Nm.okt_nil _ _ rfl) (msg_ok h.ok.n0 (by decide) (by decide) hrok.pr0 hrok.pr1 (by decide) (by decide) (by simp) (by simp)) f hf (w.heap.size + 1) (by simp)
  refine (hX _).mono ?_
  rintro e w2 ⟨rfl, hto⟩
  clear hX
  have hB : Below w.heap.size w (w.alloc (.cells #[.int .i64 mk, .int .i64 (f : Int), .int .i64 mt, .int .i64 mb, .int .i64 ms, .int .i64 mc, .int .i64 mq, .int .i64 mh, .string mx, .slice xa xn xc] 36)) := (Below.refl _ w).alloc (Nat.le_refl _) _
  have hto2 := SynTo.after h (sendTo_n _ _ _ _) (below_drewN hB _) hto
  have hbox2 := hto.blk (hbox0 _) (fun ho => by have := h.own_lt ho; omega)
  obtain ⟨L2, h2, e2, _, _⟩ := id hto
  have hc2 := (h2.cells hi).2.2.2.1
  rw [e2] at hc2
  go_wp2_with fail
  refine hK.out _ _ ⟨hc2, hbox2⟩ (fun hS => ?_)
  clear hK K
  try simp only [Act.put, getElem_toArray, getElem_cons_zero, getElem_cons_succ, setIfInBounds_toArray, set_cons_zero, set_cons_succ]
  refine wpAnyH_done (by kernel_rfl) ?_ _
  go_wp2_with fail
  go_ret
  exact ⟨rfl, hto2⟩
 ·have hd : decide (mb < (s.rep i).pr) = false := by simpa using hb
  have hd2 : decide ((s.rep i).pr ≤ mb) = true := by simp; omega
  simp only [hd2, if_neg hb]
  have hY := fun q => yield_syn ((h.alloc (.cells #[.int .i64 mk, .int .i64 (f : Int), .int .i64 mt, .int .i64 mb, .int .i64 ms, .int .i64 mc, .int .i64 mq, .int .i64 mh, .string mx, .slice xa xn xc] 36)).drewN q) hi mb b0 b1
  go_enter Tryz.func127, Tryz.ntmps127
  go_wp2_with fail
  go_quiet (fail)
  go_wp2_with fail
  refine (hY _).mono ?_
  rintro e w2 ⟨rfl, hto⟩
  clear hY
  have hB : Below w.heap.size w (w.alloc (.cells #[.int .i64 mk, .int .i64 (f : Int), .int .i64 mt, .int .i64 mb, .int .i64 ms, .int .i64 mc, .int .i64 mq, .int .i64 mh, .string mx, .slice xa xn xc] 36)) := (Below.refl _ w).alloc (Nat.le_refl _) _
  have hto2 := SynTo.after (s := s.put i ((s.rep i).yield mb)) h rfl (below_drewN hB _) hto
  have hbox0 : ∀ q, (World.drewN (w.alloc (.cells #[.int .i64 mk, .int .i64 (f : Int), .int .i64 mt, .int .i64 mb, .int .i64 ms, .int .i64 mc, .int .i64 mq, .int .i64 mh, .string mx, .slice xa xn xc] 36)) q).heap[w.heap.size]? = some (.cells #[.int .i64 mk, .int .i64 (f : Int), .int .i64 mt, .int .i64 mb, .int .i64 ms, .int .i64 mc, .int .i64 mq, .int .i64 mh, .string mx, .slice xa xn xc] 36 (0, 0)) := fun q => hbox
  have hbox2 := hto.blk (hbox0 _) (fun ho => by have := h.own_lt ho; omega)
  obtain ⟨L2, h2, e2, _, _⟩ := id hto
  have hc3 := (h2.cells hi).2.2.2.1
  have hf3 := blk_free (h2.rep i hi) 3
  rw [e2] at hc3 hf3
  have hbc := blk_cell hbox2
  have hto3 := hto2.trans (s2 := s.put i (((s.rep i).yield mb).promise mb)) rfl (fun L1 h1 e1 => by
   have := h1.promise hi mb b0 b1
   rw [put_put, Sy.rep_put (by rw [h.ok.len]; exact hi), e1] at this
   exact this)
  go_wp2_with fail
  go_ret
  exact ⟨rfl, hto3⟩
end Go.Proofs.YtnnhnekfokbooaaGreatDoor
