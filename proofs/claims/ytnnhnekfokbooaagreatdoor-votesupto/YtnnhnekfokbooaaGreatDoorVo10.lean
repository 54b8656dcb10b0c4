/- The walk of what a replica does with a Prepare (laid by mksynd.py). -/
import Derived.Test.YtnnhnekfokbooaaGreatDoorVo09
namespace Go.Proofs.YtnnhnekfokbooaaGreatDoor
open List (getElem_toArray getElem_cons_zero getElem_cons_succ setIfInBounds_toArray set_cons_zero set_cons_succ)
open Go.RowKit
set_option linter.unusedSimpArgs false
set_option linter.unusedVariables false

theorem SynTo.next {w w1 w2 : World} {sb : Nat} {L L1 : Lay} {s1 s2 : Sy} (e1 : L1.rb = L.rb) (o1 : ∀ k, L1.own sb s1.n k → L.own sb s1.n k ∨ w.heap.size ≤ k) (k1 : Keeps (L.own sb s1.n) w w1) (hn : s2.n = s1.n) (b : SynTo w1 sb L1 w2 s2) : SynTo w sb L w2 s2 := by
 obtain ⟨L2, h2, e2, o2, k2⟩ := b
 rw [hn] at o2 k2
 refine ⟨L2, h2, e2.trans e1, fun k hk => ?_, ?_⟩
 ·rw [hn] at hk ⊢
  rcases o2 k hk with h | h
  ·exact o1 k h
  ·exact .inr (Nat.le_trans k1.size h)
 ·rw [hn]
  refine ⟨k2.os.trans k1.os, k2.tape.trans k1.tape, k2.output.trans k1.output, Nat.le_trans k1.size k2.size, fun k hk hno => ?_⟩
  rw [k2.block k (Nat.lt_of_lt_of_le hk k1.size) (fun ho => by rcases o1 k ho with h | h; exact hno h; omega)]
  exact k1.block k hk hno
theorem SynAt.accs {w : World} {sb : Nat} {L : Lay} {s : Sy} (h : SynAt w sb L s) {i : Nat} (hi : i < s.n) : w.rangeAt (L.rb i) 5 (vcells (s.rep i).acc) := fun j u hu => by
 have hb := h.rep i hi
 have hl : j < (vcells (s.rep i).acc).length := (List.getElem?_eq_some_iff.1 hu).1
 rw [blk_cell hb, List.getElem?_toArray, repCells]
 have e : (repHead i s.n sb (s.rep i)).length = 5 := rfl
 rw [List.getElem?_append_right (by omega), e, Nat.add_sub_cancel_left, List.getElem?_append_left hl]
 exact hu
theorem obey_rep {s : Sy} (h : s.ok) {i : Nat} (hi : i < s.n) {m : Ms} (hb : ¬ m.b < (s.rep i).pr) : (s.obey i m).rep i = ((s.rep i).yield m.b).promise m.b := by
 unfold Sy.obey
 rw [if_neg hb, Sy.rep_put (by rw [h.len]; exact hi)]
theorem obey_n (s : Sy) (i : Nat) (m : Ms) : (s.obey i m).n = s.n := by
 unfold Sy.obey
 split
 ·exact sendTo_n _ _ _ _
 ·rfl

/-- The Promise that is sent: W is the world behind what was made for it. -/
theorem promise_send {w W : World} {sb : Nat} {L : Lay} {s : Sy} (h : SynAt w sb L s) {i : Nat} (hi : i < s.n) {b : Int} (b0 : 0 ≤ b) (b1 : b ≤ 8007) (hsl : ∀ v ∈ (s.rep i).acc, 0 ≤ v.s ∧ v.s < 16) (hal : (s.rep i).acc.length = 16) (hB : Below w.heap.size w W) {base : Nat} {v1 : Value}
  (hown : W.ownsRow base 53 6 v1 (voted (s.rep i).acc).length (vcells (voted (s.rep i).acc))) {g f : Nat} (hg : W.heap[g]? = some (.cells #[.int .i64 (f : Int)] 3 (0, 0))) (hf : f < s.n) :
  Calls Tryz.prog 90 #[.pointer (some ⟨L.rb i, 0, none⟩), .agg #[.int .i64 2, .int .i64 0, .int .i64 0, .int .i64 b, .int .i64 0, .int .i64 0, .int .i64 0, .int .i64 0, .string ⟨#[]⟩, v1], .slice (some ⟨g, 0, none⟩) 1 1] W fun e w' => e = .returned (.tuple #[]) ∧ SynTo w sb L w' (s.sendTo (msg 2 b 0 noPst (voted (s.rep i).acc)) i [f]) := by
 have hvl : (voted (s.rep i).acc).length ≤ 16 := by have := voted_le (s.rep i).acc; omega
 have hvs : ∀ v ∈ voted (s.rep i).acc, 0 ≤ v.s ∧ v.s < 16 := fun v hv => hsl v (List.mem_filter.1 hv).1
 have hv0 : VAt W v1 (voted (s.rep i).acc) := owns_vat hown (by omega)
 have hx : Nm.okt W ⟨msg 2 b 0 noPst (voted (s.rep i).acc), v1⟩ := ⟨⟨hv0, by show (voted (s.rep i).acc).length ≤ 1000; omega⟩, fun g hg => owns_blk hown hg⟩
 have hrow : RowAt W 1 (.slice (some ⟨g, 0, none⟩) 1 1) [f].length ([f].map fun (i : Nat) => Value.int .i64 (i : Int)) := by
  refine ⟨rfl, _, 1, rfl, fun _ => ⟨g, 0, rfl, lt_of_block hg, fun j u hu => ?_⟩⟩
  rw [Nat.zero_add, blk_cell hg]
  rcases j with _ | j
  ·simpa using hu
  ·simp at hu
 refine (send_syn (h.below hB) hi ⟨msg 2 b 0 noPst (voted (s.rep i).acc), v1⟩ hx (msg_ok h.ok.n0 (by decide) (by decide) b0 b1 (by decide) (by decide) hvl hvs) [f] (by simpa using hf) _ hrow (fun g' hg' => ?_) (by simp)).mono ?_
 ·obtain rfl : g = g' := by simpa [Value.ownBlock] using hg'
  exact ⟨_, hg⟩
 ·rintro e w' ⟨rfl, hto⟩
  exact ⟨rfl, SynTo.after h (sendTo_n _ _ _ _) hB hto⟩

set_option maxHeartbeats 1000000 in
set_option maxRecDepth 100000 in
theorem takePrepare_syn {w : World} {sb : Nat} {L : Lay} {s : Sy} (h : SynAt w sb L s) {i : Nat} (hi : i < s.n) (x : Nm) (hx : x.okt w) (hm : x.m.ok s.n) :
  Calls Tryz.prog 100 #[.pointer (some ⟨L.rb i, 0, none⟩), .agg x.cells.toArray] w fun e w' => e = .returned (.tuple #[]) ∧ SynTo w sb L w' (s.takePrepare i x.m) := by
 have hO := fun o => obeys_syn (h.alloc o) hi x (hx.keeps (Keeps.ofAlloc (P := fun _ => False) w o) (fun _ _ _ => id)) hm
 obtain ⟨xa, xc, hxe, _⟩ := hx.1.1.form
 obtain ⟨⟨mk, mf, mt, mb, ms, ⟨mc, mq, mh, mx⟩, ma⟩, xv⟩ := x
 obtain ⟨f, rfl⟩ := Int.eq_ofNat_of_zero_le hm.f0
 have hf : f < s.n := by have := hm.f1; simp at this; exact this
 have b0 : 0 ≤ mb := hm.b0
 have b1 : mb ≤ 8007 := hm.b1
 simp only [Nm.cells] at *
 subst hxe
 generalize hxn : ma.length = xn at *
 have hbox := blk_new w (.cells #[.int .i64 mk, .int .i64 (f : Int), .int .i64 mt, .int .i64 mb, .int .i64 ms, .int .i64 mc, .int .i64 mq, .int .i64 mh, .string mx, .slice xa xn xc] 36)
 have hB : Below w.heap.size w (w.alloc (.cells #[.int .i64 mk, .int .i64 (f : Int), .int .i64 mt, .int .i64 mb, .int .i64 ms, .int .i64 mc, .int .i64 mq, .int .i64 mh, .string mx, .slice xa xn xc] 36)) := (Below.refl _ w).alloc (Nat.le_refl _) _
 unfold Sy.takePrepare
 by_cases hb : mb < (s.rep i).pr
 ·have hd2 : s.obeys i (Ms.mk mk (f : Int) mt mb ms ⟨mc, mq, mh, mx⟩ ma) = false := by simp [Sy.obeys]; omega
  simp only [if_pos hb]
  rw [hd2] at hO
  go_enter Tryz.func100, Tryz.ntmps100
  go_wp2_with fail
  refine (hO _).mono ?_
  rintro e w2 ⟨rfl, hto⟩
  clear hO
  go_wp2_with fail
  go_end0
  exact ⟨rfl, SynTo.after h (obey_n _ _ _) hB hto⟩
 ·have hd2 : s.obeys i (Ms.mk mk (f : Int) mt mb ms ⟨mc, mq, mh, mx⟩ ma) = true := by simp [Sy.obeys]; omega
  simp only [if_neg hb]
  rw [hd2] at hO
  have hrep := obey_rep h.ok hi (m := Ms.mk mk (f : Int) mt mb ms ⟨mc, mq, mh, mx⟩ ma) hb
  have hn2 := obey_n s i (Ms.mk mk (f : Int) mt mb ms ⟨mc, mq, mh, mx⟩ ma)
  generalize s.obey i (Ms.mk mk (f : Int) mt mb ms ⟨mc, mq, mh, mx⟩ ma) = s2 at *
  go_enter Tryz.func100, Tryz.ntmps100
  go_wp2_with fail
  refine (hO _).mono ?_
  rintro e w2 ⟨rfl, hto⟩
  clear hO
  have hto2 := SynTo.after h hn2 hB hto
  have hbox2 := hto.blk hbox (fun ho => by rw [hn2] at ho; have := h.own_lt ho; omega)
  obtain ⟨L2, h2, e2, ho2, hk2⟩ := id hto
  have hno2 : ¬ L2.own sb s2.n w.heap.size := fun ho => by
   rcases ho2 _ ho with h9 | h9
   ·rw [hn2] at h9; have := h.own_lt h9; omega
   ·rw [World.size_alloc] at h9; omega
  have hi2 : i < s2.n := by rw [hn2]; exact hi
  have hacc := h2.accs hi2
  have ea : (s2.rep i).acc = (s.rep i).acc := by rw [hrep]; rfl
  rw [e2, ea] at hacc
  have hrok := h.ok.repOk hi
  have hA := fun W hr => allAccepted_any (L.rb i) (s.rep i).acc W hr hrok.acc
  have hbox2q : ∀ q, (w2.drewN q).heap[w.heap.size]? = some (.cells #[.int .i64 mk, .int .i64 (f : Int), .int .i64 mt, .int .i64 mb, .int .i64 ms, .int .i64 mc, .int .i64 mq, .int .i64 mh, .string mx, .slice xa xn xc] 36 (0, 0)) := fun q => hbox2
  go_wp2_with fail
  refine wp_region_held_drew (S := fun w' => w'.heap[w.heap.size]? = some (.cells #[.int .i64 mk, .int .i64 (f : Int), .int .i64 mt, .int .i64 mb, .int .i64 ms, .int .i64 mc, .int .i64 mq, .int .i64 mh, .string mx, .slice xa xn xc] 36 (0, 0))) (by kernel_rfl) (hbox2) (fun hS => ?_)
  refine wpAnyH_take (i := 0) (v := .pointer (some ⟨L.rb i, 0, none⟩)) rfl (by kernel_rfl) (by kernel_rfl) (by kernel_rfl) (fun _ _ _ h => h) (Or.inl ⟨by kernel_rfl, fun w' hw => by clear hS; go_simp⟩) hS ?_
  try simp only [Act.put, getElem_toArray, getElem_cons_zero, getElem_cons_succ, setIfInBounds_toArray, set_cons_zero, set_cons_succ]
  refine wpAnyH_take (i := 1) (v := .pointer (some ⟨w.heap.size, 3, none⟩)) rfl (by kernel_rfl) (by kernel_rfl) (by kernel_rfl) (fun _ _ _ h => h) (Or.inl ⟨by kernel_rfl, fun w' hw => by clear hS; go_simp⟩) hS ?_
  try simp only [Act.put, getElem_toArray, getElem_cons_zero, getElem_cons_succ, setIfInBounds_toArray, set_cons_zero, set_cons_succ]
  refine wpAnyH_take (i := 2) (v := .int .i64 mb) rfl (by kernel_rfl) (by kernel_rfl) (by kernel_rfl) (fun _ _ _ h => h) (Or.inl ⟨by kernel_rfl, fun w' hw => by have c := blk_cell hw; clear hS; go_simp⟩) hS ?_
  try simp only [Act.put, getElem_toArray, getElem_cons_zero, getElem_cons_succ, setIfInBounds_toArray, set_cons_zero, set_cons_succ]
  refine wpAnyH_take (i := 3) (v := .pointer (some ⟨L.rb i, 0, none⟩)) rfl (by kernel_rfl) (by kernel_rfl) (by kernel_rfl) (fun _ _ _ h => h) (Or.inl ⟨by kernel_rfl, fun w' hw => by clear hS; go_simp⟩) hS ?_
  try simp only [Act.put, getElem_toArray, getElem_cons_zero, getElem_cons_succ, setIfInBounds_toArray, set_cons_zero, set_cons_succ]
  refine wpAnyH_take (i := 6) (v := .pointer (some ⟨w.heap.size, 1, none⟩)) rfl (by kernel_rfl) (by kernel_rfl) (by kernel_rfl) (fun _ _ _ h => h) (Or.inl ⟨by kernel_rfl, fun w' hw => by clear hS; go_simp⟩) hS ?_
  try simp only [Act.put, getElem_toArray, getElem_cons_zero, getElem_cons_succ, setIfInBounds_toArray, set_cons_zero, set_cons_succ]
  refine wpAnyH_take (i := 7) (v := .int .i64 (f : Int)) rfl (by kernel_rfl) (by kernel_rfl) (by kernel_rfl) (fun _ _ _ h => h) (Or.inl ⟨by kernel_rfl, fun w' hw => by have c := blk_cell hw; clear hS; go_simp⟩) hS ?_
  try simp only [Act.put, getElem_toArray, getElem_cons_zero, getElem_cons_succ, setIfInBounds_toArray, set_cons_zero, set_cons_succ]
  refine wpAnyH_ready (rs := [4, 8]) (by kernel_rfl) (by simp) ?_
  refine AllReadyH.cons rfl (fun K hK => ?_) (AllReadyH.cons rfl (fun K hK => ?_) AllReadyH.nil)
  ·go_simp
   refine (hA w2.drew hacc).mono ?_
   rintro e w3 ⟨v1, rfl, hown3, hB3⟩
   obtain ⟨v1a, v1n, v1c, rfl⟩ := owns_slice1 hown3
   have hbox3 := blk_below hB3 hbox2
   go_wp2_with fail
   refine hK.out _ _ hbox3 (fun hS => ?_)
   clear hK K
   try simp only [Act.put, getElem_toArray, getElem_cons_zero, getElem_cons_succ, setIfInBounds_toArray, set_cons_zero, set_cons_succ]
   refine wpAnyH_take (i := 5) (v := .agg #[.int .i64 2, .int .i64 0, .int .i64 0, .int .i64 mb, .int .i64 0, .int .i64 0, .int .i64 0, .int .i64 0, .string ⟨#[]⟩, .slice v1a v1n v1c]) rfl (by kernel_rfl) (by kernel_rfl) (by kernel_rfl) (fun _ _ _ h => h) (Or.inl ⟨by kernel_rfl, fun w' hw => by clear hS; go_simp⟩) hS ?_
   try simp only [Act.put, getElem_toArray, getElem_cons_zero, getElem_cons_succ, setIfInBounds_toArray, set_cons_zero, set_cons_succ]
   refine wpAnyH_ready (rs := [8]) (by kernel_rfl) (by simp) ?_
   refine AllReadyH.cons rfl (fun K hK => ?_) AllReadyH.nil
   go_simp
   refine hK.out _ _ (blk_alloc hbox3 _) (fun hS => ?_)
   clear hK K
   try simp only [Act.put, getElem_toArray, getElem_cons_zero, getElem_cons_succ, setIfInBounds_toArray, set_cons_zero, set_cons_succ]
   refine wpAnyH_ready (rs := [9]) (by kernel_rfl) (by simp) ?_
   refine AllReadyH.cons rfl (fun K hK => ?_) AllReadyH.nil
   go_simp
   have hBf : Below w2.heap.size w2 (w3.alloc (.cells #[.int .i64 (f : Int)] 3)) := Below.alloc (Below.trans (Below.drew (Below.refl _ w2)) hB3) hB3.size _
   have hownf := owns_alloc hown3 (.cells #[.int .i64 (f : Int)] 3)
   have hgf := blk_new w3 (.cells #[.int .i64 (f : Int)] 3)
   have hP := promise_send h2 hi2 b0 b1 (by rw [ea]; exact hrok.slot) (by rw [ea]; exact hrok.acc) hBf (by rw [ea]; exact hownf) hgf (by rw [hn2]; exact hf)
   rw [e2] at hP
   refine hP.mono ?_
   rintro e w5 ⟨rfl, hto5⟩
   have hbox5 := hto5.blk hbox2 (fun ho => by rw [sendTo_n] at ho; exact hno2 ho)
   rw [ea] at hto5
   have hto6 := SynTo.after h ((sendTo_n _ _ _ _).trans hn2) hB (SynTo.next e2 ho2 hk2 (sendTo_n _ _ _ _) hto5)
   go_wp2_with fail
   refine hK.out _ _ hbox5 (fun hS => ?_)
   clear hK K
   try simp only [Act.put, getElem_toArray, getElem_cons_zero, getElem_cons_succ, setIfInBounds_toArray, set_cons_zero, set_cons_succ]
   refine wpAnyH_done (by kernel_rfl) ?_ _
   go_wp2_with fail
   go_end0
   exact ⟨rfl, hto6⟩
  ·go_simp
   have hb4 := blk_alloc hbox2 (.cells #[.int .i64 (f : Int)] 3)
   refine hK.out _ _ hb4 (fun hS => ?_)
   clear hK K
   try simp only [Act.put, getElem_toArray, getElem_cons_zero, getElem_cons_succ, setIfInBounds_toArray, set_cons_zero, set_cons_succ]
   refine wpAnyH_ready (rs := [4]) (by kernel_rfl) (by simp) ?_
   refine AllReadyH.cons rfl (fun K hK => ?_) AllReadyH.nil
   go_simp
   have hacc4 : (w2.alloc (.cells #[.int .i64 (f : Int)] 3)).drew.rangeAt (L.rb i) 5 (vcells (s.rep i).acc) := by
    have hla := h2.own_lt (.inr (.inr (.inl ⟨i, hi2, .inl rfl⟩)))
    rw [e2] at hla
    intro j u hu
    exact (World.cell?_alloc_lt _ _ _ hla).trans (hacc j u hu)
   refine (hA (w2.alloc (.cells #[.int .i64 (f : Int)] 3)).drew hacc4).mono ?_
   rintro e w3 ⟨v1, rfl, hown3, hB3⟩
   obtain ⟨v1a, v1n, v1c, rfl⟩ := owns_slice1 hown3
   have hbox3 := blk_below hB3 hb4
   go_wp2_with fail
   refine hK.out _ _ hbox3 (fun hS => ?_)
   clear hK K
   try simp only [Act.put, getElem_toArray, getElem_cons_zero, getElem_cons_succ, setIfInBounds_toArray, set_cons_zero, set_cons_succ]
   refine wpAnyH_take (i := 5) (v := .agg #[.int .i64 2, .int .i64 0, .int .i64 0, .int .i64 mb, .int .i64 0, .int .i64 0, .int .i64 0, .int .i64 0, .string ⟨#[]⟩, .slice v1a v1n v1c]) rfl (by kernel_rfl) (by kernel_rfl) (by kernel_rfl) (fun _ _ _ h => h) (Or.inl ⟨by kernel_rfl, fun w' hw => by clear hS; go_simp⟩) hS ?_
   try simp only [Act.put, getElem_toArray, getElem_cons_zero, getElem_cons_succ, setIfInBounds_toArray, set_cons_zero, set_cons_succ]
   refine wpAnyH_ready (rs := [9]) (by kernel_rfl) (by simp) ?_
   refine AllReadyH.cons rfl (fun K hK => ?_) AllReadyH.nil
   go_simp
   have hBf : Below w2.heap.size w2 w3 := Below.trans (Below.drew (Below.alloc (Below.refl _ w2) (Nat.le_refl _) (.cells #[.int .i64 (f : Int)] 3))) (hB3.mono (by simp))
   have hownf := hown3
   have hgf := blk_below hB3 (blk_drew (blk_new w2 (.cells #[.int .i64 (f : Int)] 3)))
   have hP := promise_send h2 hi2 b0 b1 (by rw [ea]; exact hrok.slot) (by rw [ea]; exact hrok.acc) hBf (by rw [ea]; exact hownf) hgf (by rw [hn2]; exact hf)
   rw [e2] at hP
   refine hP.mono ?_
   rintro e w5 ⟨rfl, hto5⟩
   have hbox5 := hto5.blk hbox2 (fun ho => by rw [sendTo_n] at ho; exact hno2 ho)
   rw [ea] at hto5
   have hto6 := SynTo.after h ((sendTo_n _ _ _ _).trans hn2) hB (SynTo.next e2 ho2 hk2 (sendTo_n _ _ _ _) hto5)
   go_wp2_with fail
   refine hK.out _ _ hbox5 (fun hS => ?_)
   clear hK K
   try simp only [Act.put, getElem_toArray, getElem_cons_zero, getElem_cons_succ, setIfInBounds_toArray, set_cons_zero, set_cons_succ]
   refine wpAnyH_done (by kernel_rfl) ?_ _
   go_wp2_with fail
   go_end0
   exact ⟨rfl, hto6⟩

end Go.Proofs.YtnnhnekfokbooaaGreatDoor
