/- SynL -/
import Derived.Test.YtnnhnekfokbooaaGreatDoorAl10
set_option linter.unusedSimpArgs false
set_option linter.unusedVariables false
set_option maxRecDepth 100000
namespace Go.Proofs.YtnnhnekfokbooaaGreatDoor
section
open Go.RowKit
theorem takePrepare_n (s : Sy) (i : Nat) (m : Ms) : (s.takePrepare i m).n = s.n := by
 unfold Sy.takePrepare; split
 ·exact obey_n _ _ _
 ·rw [sendTo_n, obey_n]
theorem takePromise_n (s : Sy) (i : Nat) (m : Ms) : (s.takePromise i m).n = s.n := by
 unfold Sy.takePromise; split
 ·split
  ·split
   ·exact lead_n _ _ _ _
   ·rfl
  ·rfl
 ·rfl
theorem takePropose_n (s : Sy) (i : Nat) (m : Ms) : (s.takePropose i m).n = s.n := by
 unfold Sy.takePropose; split
 ·exact obey_n _ _ _
 ·rw [sendTo_n]; exact obey_n _ _ _
theorem takeAccept_n (s : Sy) (i : Nat) (m : Ms) : (s.takeAccept i m).n = s.n := by
 unfold Sy.takeAccept; split
 ·split
  ·dsimp only; split
   ·rw [sendTo_n]; rfl
   ·rfl
  ·rfl
 ·rfl
theorem takeDecide_n (s : Sy) (i : Nat) (m : Ms) : (s.takeDecide i m).n = s.n := by
 unfold Sy.takeDecide; split <;> rfl
theorem takeRefuse_n (s : Sy) (i : Nat) (m : Ms) : (s.takeRefuse i m).n = s.n := rfl
theorem receive_n (s : Sy) (i : Nat) (m : Ms) : (s.receive i m).n = s.n := by
 unfold Sy.receive
 repeat' split
 ·exact takePrepare_n _ _ _
 ·exact takePromise_n _ _ _
 ·exact takePropose_n _ _ _
 ·exact takeAccept_n _ _ _
 ·exact takeDecide_n _ _ _
 ·exact takeRefuse_n _ _ _
theorem takePromise_syn {w : World} {sb : Nat} {L : Lay} {s : Sy} (h : SynAt w sb L s) {i : Nat} (hi : i < s.n) (x : Nm) (hx : x.okt w) (hm : x.m.ok s.n) :
  Calls Tryz.prog 101 #[.pointer (some (A6 (L.rb i) 0)), .agg x.cells.toArray] w fun e w' => e = .returned (.tuple #[]) ∧ SynTo w sb L w' (s.takePromise i x.m) := by
 cases hrl : (s.rep i).rl with
 | prep b t kept => exact takePromise_prep h hi x hx hm hrl
 | idle =>
  have e : s.takePromise i x.m = s := by unfold Sy.takePromise; rw [hrl]
  rw [e]; exact takePromise_no h hi x hx hm (fun b t kept h => by rw [hrl] at h; cases h)
 | lead b next ps =>
  have e : s.takePromise i x.m = s := by unfold Sy.takePromise; rw [hrl]
  rw [e]; exact takePromise_no h hi x hx hm (fun b t kept h => by rw [hrl] at h; cases h)
theorem takeAccept_syn {w : World} {sb : Nat} {L : Lay} {s : Sy} (h : SynAt w sb L s) {i : Nat} (hi : i < s.n) (x : Nm) (hx : x.okt w) (hm : x.m.ok s.n) :
  Calls Tryz.prog 103 #[.pointer (some (A6 (L.rb i) 0)), .agg x.cells.toArray] w fun e w' => e = .returned (.tuple #[]) ∧ SynTo w sb L w' (s.takeAccept i x.m) := by
 cases hrl : (s.rep i).rl with
 | lead b next ps => exact takeAccept_lead h hi x hx hm hrl
 | idle =>
  have e : s.takeAccept i x.m = s := by unfold Sy.takeAccept; rw [hrl]
  rw [e]; exact takeAccept_no h hi x hx hm (fun b t kept h => by rw [hrl] at h; cases h)
 | prep b t kept =>
  have e : s.takeAccept i x.m = s := by unfold Sy.takeAccept; rw [hrl]
  rw [e]; exact takeAccept_no h hi x hx hm (fun b t kept h => by rw [hrl] at h; cases h)
def recvF (k : Int) : FuncId := if k = 1 then 100 else if k = 2 then 101 else if k = 3 then 102 else if k = 4 then 103 else if k = 5 then 104 else 105
set_option maxHeartbeats 1000000 in
theorem receive_of {w : World} {sb : Nat} {L : Lay} {s s1 : Sy} (h : SynAt w sb L s) {i : Nat} (hi : i < s.n) (x : Nm) (hx : x.okt w) (hm : x.m.ok s.n) (hn1 : s1.n = s.n)
  (hX : ∀ W, SynAt W sb L s → x.okt W → Calls Tryz.prog (recvF x.m.k) #[.pointer (some (A6 (L.rb i) 0)), .agg x.cells.toArray] W fun e w' => e = .returned (.tuple #[]) ∧ SynTo W sb L w' s1) :
  Calls Tryz.prog 70 #[.pointer (some (A6 (L.rb i) 0)), .agg x.cells.toArray] w fun e w' => e = .returned (.tuple #[]) ∧ SynTo w sb L w' s1 := by
 have hAt := h
 obtain ⟨xa, xc, hxe, _⟩ := hx.1.1.form
 obtain ⟨⟨mk, mf, mt, mb, ms, ⟨mc, mq, mh, mx⟩, ma⟩, xv⟩ := x
 obtain ⟨f, rfl⟩ := Int.eq_ofNat_of_zero_le hm.f0
 obtain ⟨sl, rfl⟩ := Int.eq_ofNat_of_zero_le hm.s0
 have hf : f < s.n := by have := hm.f1; simp at this; exact this
 have hsl : sl < 16 := by have := hm.s1; simp at this; omega
 have b0 : 0 ≤ mb := hm.b0
 have b1 : mb ≤ 8007 := hm.b1
 simp only [Nm.cells] at *
 subst hxe
 generalize hxn : ma.length = xn at *
 have hk6 : mk = 1 ∨ mk = 2 ∨ mk = 3 ∨ mk = 4 ∨ mk = 5 ∨ mk = 6 := by have h8 : 1 ≤ mk := hm.k0; have h9 : mk ≤ 6 := hm.k1; omega
 have HX := show Hid _ from hX
 clear hX
 have hbox := blk_new w (.cells #[I6 mk, I6 (f : Int), I6 mt, I6 mb, I6 (sl : Int), I6 mc, I6 mq, I6 mh, .string mx, .slice xa xn xc] 36)
 have hB : Below w.heap.size w (w.alloc (.cells #[I6 mk, I6 (f : Int), I6 mt, I6 mb, I6 (sl : Int), I6 mc, I6 mq, I6 mh, .string mx, .slice xa xn xc] 36)) := (Below.refl _ w).alloc (Nat.le_refl _) _
 have hB2 : Below w.heap.size w ((w.alloc (.cells #[I6 mk, I6 (f : Int), I6 mt, I6 mb, I6 (sl : Int), I6 mc, I6 mq, I6 mh, .string mx, .slice xa xn xc] 36)).alloc (.cells #[.nilFunc, .nilFunc, .nilFunc, .nilFunc, .nilFunc, .nilFunc, .nilFunc] 170)) := hB.alloc (by simp) _
 have hbox2 := blk_alloc hbox (.cells #[.nilFunc, .nilFunc, .nilFunc, .nilFunc, .nilFunc, .nilFunc, .nilFunc] 170)
 have htab0 : ((w.alloc (.cells #[I6 mk, I6 (f : Int), I6 mt, I6 mb, I6 (sl : Int), I6 mc, I6 mq, I6 mh, .string mx, .slice xa xn xc] 36)).alloc (.cells #[.nilFunc, .nilFunc, .nilFunc, .nilFunc, .nilFunc, .nilFunc, .nilFunc] 170)).heap[w.heap.size + 1]? = some (.cells #[.nilFunc, .nilFunc, .nilFunc, .nilFunc, .nilFunc, .nilFunc, .nilFunc] 170 (0, 0)) := by
  have := blk_new (w.alloc (.cells #[I6 mk, I6 (f : Int), I6 mt, I6 mb, I6 (sl : Int), I6 mc, I6 mq, I6 mh, .string mx, .slice xa xn xc] 36)) (.cells #[.nilFunc, .nilFunc, .nilFunc, .nilFunc, .nilFunc, .nilFunc, .nilFunc] 170)
  rw [World.size_alloc] at this
  exact this
 have hth : World.there ((w.alloc (.cells #[I6 mk, I6 (f : Int), I6 mt, I6 mb, I6 (sl : Int), I6 mc, I6 mq, I6 mh, .string mx, .slice xa xn xc] 36)).alloc (.cells #[.nilFunc, .nilFunc, .nilFunc, .nilFunc, .nilFunc, .nilFunc, .nilFunc] 170)) (w.heap.size + 1) 0 7 := fun j hj => ⟨by rw [blk_cell htab0, Nat.zero_add, Array.getElem?_eq_getElem (by exact hj)]; rfl, blk_free htab0 _⟩
 have hi7 : (Tryz.prog.info? 170).map (·.size) = some (#[.nilFunc, .func (.func 100) #[] #[], .func (.func 101) #[] #[], .func (.func 102) #[] #[], .func (.func 103) #[] #[], .func (.func 104) #[] #[], .func (.func 105) #[] #[]] : Array Value).size := by kernel_rfl
 have h17 : (#[.nilFunc, .func (.func 100) #[] #[], .func (.func 101) #[] #[], .func (.func 102) #[] #[], .func (.func 103) #[] #[], .func (.func 104) #[] #[], .func (.func 105) #[] #[]] : Array Value).all (·.oneCell') = true := by kernel_rfl
 have htab := setCells_self (w.heap.size + 1) 170 (#[.nilFunc, .func (.func 100) #[] #[], .func (.func 101) #[] #[], .func (.func 102) #[] #[], .func (.func 103) #[] #[], .func (.func 104) #[] #[], .func (.func 105) #[] #[]] : Array Value).toList 0 _ _ htab0 (by simp)
 have hbox3 : (World.setCells ((w.alloc (.cells #[I6 mk, I6 (f : Int), I6 mt, I6 mb, I6 (sl : Int), I6 mc, I6 mq, I6 mh, .string mx, .slice xa xn xc] 36)).alloc (.cells #[.nilFunc, .nilFunc, .nilFunc, .nilFunc, .nilFunc, .nilFunc, .nilFunc] 170)) (w.heap.size + 1) 0 (#[.nilFunc, .func (.func 100) #[] #[], .func (.func 101) #[] #[], .func (.func 102) #[] #[], .func (.func 103) #[] #[], .func (.func 104) #[] #[], .func (.func 105) #[] #[]] : Array Value).toList).heap[w.heap.size]? = some (.cells #[I6 mk, I6 (f : Int), I6 mt, I6 mb, I6 (sl : Int), I6 mc, I6 mq, I6 mh, .string mx, .slice xa xn xc] 36 (0, 0)) := by
  rw [setCells_other (w.heap.size + 1) _ _ _ _ (by omega)]; exact hbox2
 have hB3 : Below w.heap.size w (World.setCells ((w.alloc (.cells #[I6 mk, I6 (f : Int), I6 mt, I6 mb, I6 (sl : Int), I6 mc, I6 mq, I6 mh, .string mx, .slice xa xn xc] 36)).alloc (.cells #[.nilFunc, .nilFunc, .nilFunc, .nilFunc, .nilFunc, .nilFunc, .nilFunc] 170)) (w.heap.size + 1) 0 (#[.nilFunc, .func (.func 100) #[] #[], .func (.func 101) #[] #[], .func (.func 102) #[] #[], .func (.func 103) #[] #[], .func (.func 104) #[] #[], .func (.func 105) #[] #[]] : Array Value).toList) :=
  Keeps.toBelow hB2 (Keeps.ofSets (P := fun k => k = w.heap.size + 1) (w.heap.size + 1) rfl _ _ _) (fun b hb => by omega) (by simp; omega)
 have htab' : (World.setCells ((w.alloc (.cells #[I6 mk, I6 (f : Int), I6 mt, I6 mb, I6 (sl : Int), I6 mc, I6 mq, I6 mh, .string mx, .slice xa xn xc] 36)).alloc (.cells #[.nilFunc, .nilFunc, .nilFunc, .nilFunc, .nilFunc, .nilFunc, .nilFunc] 170)) (w.heap.size + 1) 0 (#[.nilFunc, .func (.func 100) #[] #[], .func (.func 101) #[] #[], .func (.func 102) #[] #[], .func (.func 103) #[] #[], .func (.func 104) #[] #[], .func (.func 105) #[] #[]] : Array Value).toList).heap[w.heap.size + 1]? = some (.cells #[.nilFunc, .func (.func 100) #[] #[], .func (.func 101) #[] #[], .func (.func 102) #[] #[], .func (.func 103) #[] #[], .func (.func 104) #[] #[], .func (.func 105) #[] #[]] 170 (0, 0)) := htab
 have HB3 : Hid (Below w.heap.size w (World.setCells ((w.alloc (.cells #[I6 mk, I6 (f : Int), I6 mt, I6 mb, I6 (sl : Int), I6 mc, I6 mq, I6 mh, .string mx, .slice xa xn xc] 36)).alloc (.cells #[.nilFunc, .nilFunc, .nilFunc, .nilFunc, .nilFunc, .nilFunc, .nilFunc] 170)) (w.heap.size + 1) 0 (#[.nilFunc, .func (.func 100) #[] #[], .func (.func 101) #[] #[], .func (.func 102) #[] #[], .func (.func 103) #[] #[], .func (.func 104) #[] #[], .func (.func 105) #[] #[]] : Array Value).toList)) := hB3
 have Hbox3 : Hid ((World.setCells ((w.alloc (.cells #[I6 mk, I6 (f : Int), I6 mt, I6 mb, I6 (sl : Int), I6 mc, I6 mq, I6 mh, .string mx, .slice xa xn xc] 36)).alloc (.cells #[.nilFunc, .nilFunc, .nilFunc, .nilFunc, .nilFunc, .nilFunc, .nilFunc] 170)) (w.heap.size + 1) 0 (#[.nilFunc, .func (.func 100) #[] #[], .func (.func 101) #[] #[], .func (.func 102) #[] #[], .func (.func 103) #[] #[], .func (.func 104) #[] #[], .func (.func 105) #[] #[]] : Array Value).toList).heap[w.heap.size]? = some (.cells #[I6 mk, I6 (f : Int), I6 mt, I6 mb, I6 (sl : Int), I6 mc, I6 mq, I6 mh, .string mx, .slice xa xn xc] 36 (0, 0))) := hbox3
 have Htab : Hid ((World.setCells ((w.alloc (.cells #[I6 mk, I6 (f : Int), I6 mt, I6 mb, I6 (sl : Int), I6 mc, I6 mq, I6 mh, .string mx, .slice xa xn xc] 36)).alloc (.cells #[.nilFunc, .nilFunc, .nilFunc, .nilFunc, .nilFunc, .nilFunc, .nilFunc] 170)) (w.heap.size + 1) 0 (#[.nilFunc, .func (.func 100) #[] #[], .func (.func 101) #[] #[], .func (.func 102) #[] #[], .func (.func 103) #[] #[], .func (.func 104) #[] #[], .func (.func 105) #[] #[]] : Array Value).toList).heap[w.heap.size + 1]? = some (.cells #[.nilFunc, .func (.func 100) #[] #[], .func (.func 101) #[] #[], .func (.func 102) #[] #[], .func (.func 103) #[] #[], .func (.func 104) #[] #[], .func (.func 105) #[] #[]] 170 (0, 0))) := htab'
 clear htab htab' hbox3 hB3 htab0 hbox2 hB2
 go_enter Tryz.func70, Tryz.ntmps70
 go_upto_region 2 with (refine wpList_store_mid rfl 170 (.tmp 4) (.tmp 5) rfl (w.heap.size + 1) 0 #[.nilFunc, .func (.func 100) #[] #[], .func (.func 101) #[] #[], .func (.func 102) #[] #[], .func (.func 103) #[] #[], .func (.func 104) #[] #[], .func (.func 105) #[] #[]] rfl rfl hth hi7 h17 ?_; simp only [Act.put])
 have hB3 := HB3.out
 have hbox3 := Hbox3.out
 have htab := Htab.out
 clear HB3 Hbox3 Htab hth hi7 h17
 generalize World.setCells ((w.alloc (.cells #[I6 mk, I6 (f : Int), I6 mt, I6 mb, I6 (sl : Int), I6 mc, I6 mq, I6 mh, .string mx, .slice xa xn xc] 36)).alloc (.cells #[.nilFunc, .nilFunc, .nilFunc, .nilFunc, .nilFunc, .nilFunc, .nilFunc] 170)) (w.heap.size + 1) 0 (#[.nilFunc, .func (.func 100) #[] #[], .func (.func 101) #[] #[], .func (.func 102) #[] #[], .func (.func 103) #[] #[], .func (.func 104) #[] #[], .func (.func 105) #[] #[]] : Array Value).toList = w3 at *
 have hX := HX.out _ (hAt.below (Below.drew hB3)) (hx.keeps (Keeps.ofBelow (P := fun _ => False) (Below.drew hB3)) (fun _ _ _ => id))
 clear HX
 have Hin : Hid (s1.n = s.n) := hn1
 clear hn1
 rcases hk6 with rfl | rfl | rfl | rfl | rfl | rfl
 all_goals
  refine wp_region_held_drew (S := fun w' => w'.heap[w.heap.size]? = w3.heap[w.heap.size]? ∧ w'.heap[w.heap.size + 1]? = w3.heap[w.heap.size + 1]?) (by kernel_rfl) (⟨rfl, rfl⟩) (fun hS => ?_)
  refine tk 0 rfl hS (v := ?_) (fun w' hw => ?_) ?_
  rotate_left 1
  ·have c := blk_cell (hw.1.trans hbox3); have c2 := blk_cell (hw.2.trans htab); go_simp; all_goals with_reducible rfl
  try simp only [ly]
  refine tk 1 rfl hS (v := ?_) (fun w' hw => ?_) ?_
  rotate_left 1
  ·have c := blk_cell (hw.1.trans hbox3); have c2 := blk_cell (hw.2.trans htab); go_simp; all_goals with_reducible rfl
  try simp only [ly]
  refine tk 2 rfl hS (v := ?_) (fun w' hw => ?_) ?_
  rotate_left 1
  ·have c := blk_cell (hw.1.trans hbox3); have c2 := blk_cell (hw.2.trans htab); go_simp; all_goals with_reducible rfl
  try simp only [ly]
  refine tk 3 rfl hS (v := ?_) (fun w' hw => ?_) ?_
  rotate_left 1
  ·have c := blk_cell (hw.1.trans hbox3); have c2 := blk_cell (hw.2.trans htab); go_simp; all_goals with_reducible rfl
  try simp only [ly]
  refine tk 4 rfl hS (v := ?_) (fun w' hw => ?_) ?_
  rotate_left 1
  ·have c := blk_cell (hw.1.trans hbox3); have c2 := blk_cell (hw.2.trans htab); go_simp; all_goals with_reducible rfl
  try simp only [ly]
  refine tk 5 rfl hS (v := ?_) (fun w' hw => ?_) ?_
  rotate_left 1
  ·have c := blk_cell (hw.1.trans hbox3); have c2 := blk_cell (hw.2.trans htab); go_simp; all_goals with_reducible rfl
  try simp only [ly]
  refine r1 6 rfl (fun K hK => ?_)
  go_simp
  refine hX.mono ?_
  rintro e w5 ⟨rfl, hto5⟩
  clear hX
  have hbox5 := hto5.blk (w := w3.drew) hbox3 (fun ho => by have h9 := hAt.own_lt (by rw [Hin.out] at ho; exact ho); omega)
  have htab5 := hto5.blk (w := w3.drew) htab (fun ho => by have h9 := hAt.own_lt (by rw [Hin.out] at ho; exact ho); omega)
  go_wp2_with fail
  refine hK.out _ _ ⟨hbox5.trans hbox3.symm, htab5.trans htab.symm⟩ (fun hS => ?_)
  clear hK K
  try simp only [ly]
  refine dn ?_ _
  go_wp2_with fail
  go_end0
  exact ⟨rfl, SynTo.after hAt Hin.out (Below.drew hB3) hto5⟩
theorem receive_syn {w : World} {sb : Nat} {L : Lay} {s : Sy} (h : SynAt w sb L s) {i : Nat} (hi : i < s.n) (x : Nm) (hx : x.okt w) (hm : x.m.ok s.n) :
  Calls Tryz.prog 70 #[.pointer (some (A6 (L.rb i) 0)), .agg x.cells.toArray] w fun e w' => e = .returned (.tuple #[]) ∧ SynTo w sb L w' (s.receive i x.m) := by
 have k0 := hm.k0
 have k1 := hm.k1
 unfold Sy.receive
 by_cases h1 : x.m.k = 1
 ·rw [if_pos h1]; exact receive_of h hi x hx hm (takePrepare_n _ _ _) (fun W hW hxW => (show recvF x.m.k = 100 from by rw [h1]; rfl) ▸ takePrepare_syn hW hi x hxW hm)
 rw [if_neg h1]
 by_cases h2 : x.m.k = 2
 ·rw [if_pos h2]; exact receive_of h hi x hx hm (takePromise_n _ _ _) (fun W hW hxW => (show recvF x.m.k = 101 from by rw [h2]; rfl) ▸ takePromise_syn hW hi x hxW hm)
 rw [if_neg h2]
 by_cases h3 : x.m.k = 3
 ·rw [if_pos h3]; exact receive_of h hi x hx hm (takePropose_n _ _ _) (fun W hW hxW => (show recvF x.m.k = 102 from by rw [h3]; rfl) ▸ takePropose_syn hW hi x hxW hm)
 rw [if_neg h3]
 by_cases h4 : x.m.k = 4
 ·rw [if_pos h4]; exact receive_of h hi x hx hm (takeAccept_n _ _ _) (fun W hW hxW => (show recvF x.m.k = 103 from by rw [h4]; rfl) ▸ takeAccept_syn hW hi x hxW hm)
 rw [if_neg h4]
 by_cases h5 : x.m.k = 5
 ·rw [if_pos h5]; exact receive_of h hi x hx hm (takeDecide_n _ _ _) (fun W hW hxW => (show recvF x.m.k = 104 from by rw [h5]; rfl) ▸ takeDecide_syn hW hi x hxW hm)
 rw [if_neg h5]
 exact receive_of h hi x hx hm (takeRefuse_n _ _ _) (fun W hW hxW => (show recvF x.m.k = 105 from by rw [show x.m.k = 6 from by omega]; rfl) ▸ takeRefuse_syn hW hi x hxW hm)
end
end Go.Proofs.YtnnhnekfokbooaaGreatDoor
