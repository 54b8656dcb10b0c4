/- The walk of a replica's decide (laid by mkdecide.py). The walk of the slot behind all that are decided or kept. The walk of preparing's keep (laid by mkkeep.py). (Joined by merge.py.) -/
import Derived.Test.YtnnhnekfokbooaaGreatDoorVo06
namespace Go.Proofs.YtnnhnekfokbooaaGreatDoor
open List (getElem_toArray getElem_cons_zero getElem_cons_succ setIfInBounds_toArray set_cons_zero set_cons_succ)
open Go.RowKit
set_option linter.unusedSimpArgs false
set_option linter.unusedVariables false

set_option maxHeartbeats 4000000 in
set_option maxRecDepth 100000 in
theorem decide_any (rb slot : Nat) (cs : Array Value) (c q h : Int) (t : ByteArray) (w : World) (hb : w.heap[rb]? = some (.cells cs 137 (0, 0))) (hcs : cs.size = 182) (hs : slot < 16) :
  Calls Tryz.prog 133 #[.pointer (some ⟨rb, 0, none⟩), .int .i64 (slot : Int), .agg #[.int .i64 c, .int .i64 q, .int .i64 h, .string t]] w fun e w' => e = .returned (.tuple #[]) ∧
   w'.heap[rb]? = some (.cells (cs.toList.take (101 + slot * 5) ++ [Value.bool true, Value.int .i64 c, Value.int .i64 q, Value.int .i64 h, Value.string t] ++ cs.toList.drop (101 + slot * 5 + 5)).toArray 137 (0, 0)) ∧ Keeps (fun k => k = rb) w w' := by
 have hlt := lt_of_block hb
 have q0 : (0 : Int) ≤ (slot : Int) := by omega
 have q1 : (slot : Int) < 16 := by omega
 have hbox := blk_new w (.cells #[.int .i64 c, .int .i64 q, .int .i64 h, .string t] 33)
 have hb1 := blk_alloc hb (.cells #[.int .i64 c, .int .i64 q, .int .i64 h, .string t] 33)
 have hf1 := blk_free hb1
 go_enter Tryz.func133, Tryz.ntmps133
 go_wp2_with fail
 have hth : World.there (w.alloc (.cells #[.int .i64 c, .int .i64 q, .int .i64 h, .string t] 33)).drew rb (101 + slot * 5) 5 := fun j hj => ⟨by show (World.cell? (w.alloc _) _).isSome = true; rw [blk_cell hb1, Array.getElem?_eq_getElem (by omega)]; rfl, hf1 _⟩
 have hi5 : (Tryz.prog.info? 132).map (·.size) = some (#[.bool true, .int .i64 c, .int .i64 q, .int .i64 h, .string t] : Array Value).size := by kernel_rfl
 have h15 : (#[.bool true, .int .i64 c, .int .i64 q, .int .i64 h, .string t] : Array Value).all (·.oneCell') = true := by simp [Value.oneCell']
 refine wp_region_held_drew (S := fun w' => w'.heap[w.heap.size]? = some (.cells #[.int .i64 c, .int .i64 q, .int .i64 h, .string t] 33 (0, 0))) (by kernel_rfl) (hbox) (fun hS => ?_)
 refine wpAnyH_take (i := 0) (v := .pointer (some ⟨rb, 0, none⟩)) rfl (by kernel_rfl) (by kernel_rfl) (by kernel_rfl) (fun _ _ _ h => h) (Or.inl ⟨by kernel_rfl, fun w' hw => by clear hS; go_simp⟩) hS ?_
 try simp only [Act.put, getElem_toArray, getElem_cons_zero, getElem_cons_succ, setIfInBounds_toArray, set_cons_zero, set_cons_succ]
 refine wpAnyH_take (i := 1) (v := .int .i64 (slot : Int)) rfl (by kernel_rfl) (by kernel_rfl) (by kernel_rfl) (fun _ _ _ h => h) (Or.inl ⟨by kernel_rfl, fun w' hw => by clear hS; go_simp⟩) hS ?_
 try simp only [Act.put, getElem_toArray, getElem_cons_zero, getElem_cons_succ, setIfInBounds_toArray, set_cons_zero, set_cons_succ]
 refine wpAnyH_take (i := 2) (v := .agg #[.int .i64 c, .int .i64 q, .int .i64 h, .string t]) rfl (by kernel_rfl) (by kernel_rfl) (by kernel_rfl) (fun _ _ _ h => h) (Or.inl ⟨by kernel_rfl, fun w' hw => by have c := blk_cell hw; clear hS; go_simp⟩) hS ?_
 try simp only [Act.put, getElem_toArray, getElem_cons_zero, getElem_cons_succ, setIfInBounds_toArray, set_cons_zero, set_cons_succ]
 refine wpAnyH_take (i := 3) (v := .agg #[.bool true, .int .i64 c, .int .i64 q, .int .i64 h, .string t]) rfl (by kernel_rfl) (by kernel_rfl) (by kernel_rfl) (fun _ _ _ h => h) (Or.inl ⟨by kernel_rfl, fun w' hw => by clear hS; go_simp⟩) hS ?_
 try simp only [Act.put, getElem_toArray, getElem_cons_zero, getElem_cons_succ, setIfInBounds_toArray, set_cons_zero, set_cons_succ]
 refine wpAnyH_take (i := 4) (v := .pointer (some ⟨rb, 0, none⟩)) rfl (by kernel_rfl) (by kernel_rfl) (by kernel_rfl) (fun _ _ _ h => h) (Or.inl ⟨by kernel_rfl, fun w' hw => by clear hS; go_simp⟩) hS ?_
 try simp only [Act.put, getElem_toArray, getElem_cons_zero, getElem_cons_succ, setIfInBounds_toArray, set_cons_zero, set_cons_succ]
 refine wpAnyH_take (i := 5) (v := .pointer (some ⟨rb, 101, none⟩)) rfl (by kernel_rfl) (by kernel_rfl) (by kernel_rfl) (fun _ _ _ h => h) (Or.inl ⟨by kernel_rfl, fun w' hw => by clear hS; go_simp⟩) hS ?_
 try simp only [Act.put, getElem_toArray, getElem_cons_zero, getElem_cons_succ, setIfInBounds_toArray, set_cons_zero, set_cons_succ]
 refine wpAnyH_take (i := 6) (v := .pointer (some ⟨rb, 101 + slot * 5, none⟩)) rfl (by kernel_rfl) (by kernel_rfl) (by kernel_rfl) (fun _ _ _ h => h) (Or.inl ⟨by kernel_rfl, fun w' hw => by clear hS; go_simp⟩) hS ?_
 try simp only [Act.put, getElem_toArray, getElem_cons_zero, getElem_cons_succ, setIfInBounds_toArray, set_cons_zero, set_cons_succ]
 refine wpAnyH_ready (rs := [7]) (by kernel_rfl) (by simp) ?_
 refine AllReadyH.cons rfl (fun K hK => ?_) AllReadyH.nil
 rw [if_pos (by kernel_rfl)]
 refine wp_store_mid 132 (.tmp 12) (.tmp 9) rfl rb (101 + slot * 5) #[.bool true, .int .i64 c, .int .i64 q, .int .i64 h, .string t] rfl rfl hth hi5 h15 ?_
 refine hK.out _ _ ?_ (fun hS => ?_)
 ·show (World.setCells _ _ _ _).heap[_]? = _
  rw [setCells_other rb _ _ _ _ (by omega)]
  exact hbox
 clear hK K
 try simp only [Act.put, getElem_toArray, getElem_cons_zero, getElem_cons_succ, setIfInBounds_toArray, set_cons_zero, set_cons_succ]
 refine wpAnyH_done (by kernel_rfl) ?_ _
 go_wp2_with fail
 go_end0
 refine ⟨rfl, ?_, ?_⟩
 ·have X := setCells_self rb 137 [.bool true, .int .i64 c, .int .i64 q, .int .i64 h, .string t] (101 + slot * 5) _ cs (blk_drew hb1) (by simp; omega)
  simpa using X
 ·exact Keeps.trans (Keeps.ofBelow (((Below.refl _ w).alloc (Nat.le_refl _) (.cells #[.int .i64 c, .int .i64 q, .int .i64 h, .string t] 33)).drew)) (Keeps.ofSets (P := fun k => k = rb) rb rfl _ _ _)
end Go.Proofs.YtnnhnekfokbooaaGreatDoor

namespace Go.Proofs.YtnnhnekfokbooaaGreatDoor
open Go.RowKit
set_option linter.unusedSimpArgs false
set_option linter.unusedVariables false

/-- The least slot from which on, below k, none is decided or kept. -/
def nextB (dm : Nat → Bool) (kb : Nat → Int) : Nat → Nat
 | 0 => 0
 | k + 1 => if !dm k && kb k == 0 then nextB dm kb k else k + 1

set_option maxHeartbeats 4000000 in
set_option maxRecDepth 100000 in
theorem nextBehind_any (rb pb : Nat) (dm : Nat → Bool) (kb : Nat → Int) (w : World) (hd : ∀ k, k < 16 → w.cell? ⟨rb, 101 + k * 5, none⟩ = some (.bool (dm k))) (hk : ∀ k, k < 16 → w.cell? ⟨pb, 10 + k * 6 + 1, none⟩ = some (.int .i64 (kb k))) :
  Calls Tryz.prog 142 #[.pointer (some ⟨rb, 0, none⟩), .pointer (some ⟨pb, 0, none⟩)] w fun e w' => e = .returned (.int .i64 (nextB dm kb 16 : Int)) ∧ Below w.heap.size w w' := by
 have hrl := World.block_lt_of_cell? w _ (hd 0 (by omega))
 have hpl := World.block_lt_of_cell? w _ (hk 0 (by omega))
 obtain ⟨N, hN⟩ : ∃ N, N = nextB dm kb 16 := ⟨_, rfl⟩
 rw [← hN]
 go_enter Tryz.func142, Tryz.ntmps142
 go_wp2_with fail
 go_loopw [5] (fun i wr => ∃ k : Nat, k ≤ 16 ∧ i = .int .i64 k ∧ N = nextB dm kb k ∧ Below w.heap.size w wr) (fun i _ => (intOf i).toNat)
 case atStart => exact ⟨16, Nat.le_refl _, rfl, hN, Below.refl _ _⟩
 case round =>
  obtain ⟨k, hk16, rfl, hNk, hB⟩ := hrel
  rcases k with _ | k
  ·go_wp2_with fail
   go_ret
   simp only [nextB] at hNk
   subst hNk
   exact ⟨rfl, hB⟩
  ·have c1 : wr.cell? ⟨rb, 101 + k * 5, none⟩ = some (.bool (dm k)) := (hB.cell (p := ⟨rb, 101 + k * 5, none⟩) hrl).trans (hd k (by omega))
   have c2 : wr.cell? ⟨pb, 10 + k * 6 + 1, none⟩ = some (.int .i64 (kb k)) := (hB.cell (p := ⟨pb, 10 + k * 6 + 1, none⟩) hpl).trans (hk k (by omega))
   have HN : Hid (N = nextB dm kb (k + 1)) := hNk
   clear hNk hN hd hk
   have q0 : (0 : Int) < ((k + 1 : Nat) : Int) := by omega
   have q1 : (0 : Int) ≤ ((k + 1 : Nat) : Int) - 1 := by omega
   have q2 : ((k + 1 : Nat) : Int) - 1 < 16 := by omega
   have q3 : (((k + 1 : Nat) : Int) - 1).toNat = k := by omega
   have hdg : decide ((0 : Int) < ((k + 1 : Nat) : Int)) = true := decide_eq_true q0
   cases hm : dm k
   ·rw [hm] at c1
    cases hb : (kb k == 0)
    ·have hfin : N = k + 1 := by rw [HN.out, nextB, hm, hb]; rfl
     go_wp2_with fail
     go_ret
     rw [hfin]
     exact ⟨rfl, hB⟩
    ·have hfin : N = nextB dm kb k := by rw [HN.out, nextB, hm, hb]; rfl
     go_wp2_with fail
     go_roundw
     case rel => exact ⟨k, by omega, by go_num, hfin, hB⟩
     case measure => simp [intOf]
   ·rw [hm] at c1
    have hfin : N = k + 1 := by rw [HN.out, nextB, hm]; rfl
    go_wp2_with fail
    go_ret
    rw [hfin]
    exact ⟨rfl, hB⟩
end Go.Proofs.YtnnhnekfokbooaaGreatDoor

namespace Go.Proofs.YtnnhnekfokbooaaGreatDoor
open List (getElem_toArray getElem_cons_zero getElem_cons_succ setIfInBounds_toArray set_cons_zero set_cons_succ)
open Go.RowKit
set_option linter.unusedSimpArgs false
set_option linter.unusedVariables false

/-- Of each slot the vote of the greatest ballot is kept. -/
def keep1 (kept : List Vt) (v : Vt) : List Vt := if (kept.getD v.s.toNat ⟨0, 0, ⟨0, 0, 0, ⟨#[]⟩⟩⟩).b < v.b then kept.set v.s.toNat v else kept
def keepAll (kept : List Vt) : List Vt → List Vt
 | [] => kept
 | v :: l => keepAll (keep1 kept v) l
theorem keepAll_snoc : ∀ (a : List Vt) (v : Vt) (kept : List Vt), keepAll kept (a ++ [v]) = keep1 (keepAll kept a) v
 | [], v, kept => rfl
 | x :: a, v, kept => keepAll_snoc a v _
theorem keep1_length (kept : List Vt) (v : Vt) : (keep1 kept v).length = kept.length := by
 unfold keep1; split <;> simp
theorem keepAll_length : ∀ (a : List Vt) (kept : List Vt), (keepAll kept a).length = kept.length
 | [], kept => rfl
 | v :: a, kept => by rw [keepAll, keepAll_length a, keep1_length]
theorem vcells_set : ∀ (l : List Vt) (k : Nat) (hk : k < l.length) (v : Vt), (vcells l).take (k * 6) ++ v.cells ++ (vcells l).drop (k * 6 + 6) = vcells (l.set k v)
 | [], k, hk, _ => by simp at hk
 | x :: l, 0, _, v => by
  rw [List.set_cons_zero, vcells, vcells]
  have e : (x.cells ++ vcells l).drop (0 * 6 + 6) = vcells l := List.drop_left' rfl
  rw [e]; simp
 | x :: l, k + 1, hk, v => by
  have e1 : (k + 1) * 6 = x.cells.length + k * 6 := by show _ = 6 + _; omega
  have e2 : (k + 1) * 6 + 6 = x.cells.length + (k * 6 + 6) := by show _ = 6 + _; omega
  rw [List.set_cons_succ, vcells, vcells, e2, e1, ← vcells_set l k (by simpa using hk) v]
  rw [List.take_append, List.take_of_length_le (by omega), List.drop_append, List.drop_of_length_le (by omega), Nat.add_sub_cancel_left, Nat.add_sub_cancel_left]
  simp

set_option maxHeartbeats 4000000 in
set_option maxRecDepth 100000 in
theorem keep_any (pb : Nat) (hd : List Value) (kept l : List Vt) (v : Value) (w : World) (hb : w.heap[pb]? = some (.cells (hd ++ vcells kept).toArray 156 (0, 0))) (hhd : hd.length = 10) (hkl : kept.length = 16) (hv : VAt w v l) (hvp : ∀ g, v.ownBlock = some g → g ≠ pb)
  (hl : l.length ≤ 1000) (hs : ∀ x ∈ l, 0 ≤ x.s ∧ x.s < 16) :
  Calls Tryz.prog 130 #[.pointer (some ⟨pb, 0, none⟩), v] w fun e w' => e = .returned (.tuple #[]) ∧ w'.heap[pb]? = some (.cells (hd ++ vcells (keepAll kept l)).toArray 156 (0, 0)) ∧ Keeps (fun k => k = pb) w w' := by
 have hlt := lt_of_block hb
 obtain ⟨ao, cap, rfl, hf⟩ := hv.form
 go_enter Tryz.func130, Tryz.ntmps130
 go_wp2_with fail
 go_loopw [8] (fun i wr => ∃ j : Nat, j ≤ l.length ∧ i = .int .i64 j ∧ wr.heap[pb]? = some (.cells (hd ++ vcells (keepAll kept (l.take j))).toArray 156 (0, 0)) ∧ Keeps (fun k => k = pb) w wr) (fun i _ => l.length - (intOf i).toNat)
 case atStart => exact ⟨0, Nat.zero_le _, rfl, hb, Keeps.refl _ _⟩
 case round =>
  obtain ⟨j, hj, rfl, hbj, hKp⟩ := hrel
  have hpl := lt_of_block hbj
  by_cases hjn : j < l.length
  ·obtain ⟨g, off, rfl, hg, hc⟩ := hf (by intro e; subst e; simp at hjn)
   have hgp := hvp g rfl
   have src : ∀ i (hi : i < 6), wr.cell? ⟨g, off + j * 6 + i, none⟩ = l[j].cells[i]? := fun i hi => by
    have e := vcells_at l j hjn i hi
    rw [World.cell?_of_block (w := w) (hKp.block g hg hgp), Nat.add_assoc]
    have hl6 : i < l[j].cells.length := by simpa [Vt.cells] using hi
    rw [List.getElem?_eq_getElem hl6] at e ⊢
    exact hc _ _ e
   have c0 := src 0 (by decide)
   have c1 := src 1 (by decide)
   have c2 := src 2 (by decide)
   have c3 := src 3 (by decide)
   have c4 := src 4 (by decide)
   have c5 := src 5 (by decide)
   have hsj := hs l[j] (List.getElem_mem hjn)
   have hgz : g < wr.heap.size := Nat.lt_of_lt_of_le hg hKp.size
   have hpz : pb < wr.heap.size := hpl
   have htk : l.take (j + 1) = l.take j ++ [l[j]] := by rw [List.take_add_one, List.getElem?_eq_getElem hjn]; rfl
   have hkn := keepAll_snoc (l.take j) l[j] kept
   rw [← htk] at hkn
   have hkl2 := keepAll_length (l.take j) kept
   generalize keepAll kept (l.take j) = kj at *
   have HK : Hid (keepAll kept (l.take (j + 1)) = keep1 kj l[j]) := hkn
   clear hkn
   generalize l[j] = y at *
   obtain ⟨ys, yb, ⟨yc, yq, yh, yt⟩⟩ := y
   obtain ⟨s, rfl⟩ := Int.eq_ofNat_of_zero_le hsj.1
   have hs16 : s < kj.length := by have := hsj.2; simp at this; omega
   simp only [Vt.cells, List.getElem?_cons_zero, List.getElem?_cons_succ, Nat.add_zero] at c0 c1 c2 c3 c4 c5
   have q0 : (0 : Int) ≤ (j : Int) := by omega
   have q1 : (j : Int) < (l.length : Int) := by omega
   have q2 : (0 : Int) ≤ (s : Int) := by omega
   have q3 : (s : Int) < 16 := by omega
   have ck : wr.cell? ⟨pb, 10 + s * 6 + 1, none⟩ = some (.int .i64 kj[s].b) := by
    rw [blk_cell hbj, List.getElem?_toArray, List.getElem?_append_right (by omega), hhd]
    have e1 : 10 + s * 6 + 1 - 10 = s * 6 + 1 := by omega
    rw [e1, vcells_at kj s hs16 1 (by decide)]
    rfl
   have hgd : (kj.getD s ⟨0, 0, ⟨0, 0, 0, ⟨#[]⟩⟩⟩).b = kj[s].b := by rw [List.getD_eq_getElem?_getD, List.getElem?_eq_getElem hs16]; rfl
   have hbf := blk_free hbj
   have hle : (hd ++ vcells kj).length = 106 := by rw [List.length_append, vcells_length]; omega
   clear src
   have hboxq : ∀ q, ((wr.alloc (.cells #[.int .i64 (s : Int), .int .i64 yb, .int .i64 yc, .int .i64 yq, .int .i64 yh, .string yt] 53)).drewN q).heap[wr.heap.size]? = some (.cells #[.int .i64 (s : Int), .int .i64 yb, .int .i64 yc, .int .i64 yq, .int .i64 yh, .string yt] 53 (0, 0)) := fun q => blk_new wr _
   have hthq : ∀ q, World.there ((wr.alloc (.cells #[.int .i64 (s : Int), .int .i64 yb, .int .i64 yc, .int .i64 yq, .int .i64 yh, .string yt] 53)).drewN q) pb (10 + s * 6) 6 := fun q j hj => ⟨by show (World.cell? (wr.alloc _) _).isSome = true; rw [blk_cell (blk_alloc hbj _), Array.getElem?_eq_getElem (by rw [List.size_toArray]; omega)]; rfl, blk_free (blk_alloc hbj _) _⟩
   have hi6 : (Tryz.prog.info? 53).map (·.size) = some (#[.int .i64 (s : Int), .int .i64 yb, .int .i64 yc, .int .i64 yq, .int .i64 yh, .string yt] : Array Value).size := by kernel_rfl
   have h16 : (#[.int .i64 (s : Int), .int .i64 yb, .int .i64 yc, .int .i64 yq, .int .i64 yh, .string yt] : Array Value).all (·.oneCell') = true := by simp [Value.oneCell']
   by_cases hlt2 : kj[s].b < yb
   ·have hdd : decide (kj[s].b < yb) = true := by simpa using hlt2
    have hk1 : keep1 kj ⟨(s : Int), yb, ⟨yc, yq, yh, yt⟩⟩ = kj.set s ⟨(s : Int), yb, ⟨yc, yq, yh, yt⟩⟩ := by simp only [keep1, Int.toNat_natCast]; rw [hgd, if_pos hlt2]
    generalize kj[s].b = kb at *
    go_wp2_with fail
    go_quiet (fail)
    go_wp2_with fail
    refine wp_region_held_drew (S := fun w' => w'.heap[wr.heap.size]? = some (.cells #[.int .i64 (s : Int), .int .i64 yb, .int .i64 yc, .int .i64 yq, .int .i64 yh, .string yt] 53 (0, 0))) (by kernel_rfl) (hboxq 0) (fun hS => ?_)
    refine wpAnyH_take (i := 0) (v := .pointer (some ⟨pb, 0, none⟩)) rfl (by kernel_rfl) (by kernel_rfl) (by kernel_rfl) (fun _ _ _ h => h) (Or.inl ⟨by kernel_rfl, fun w' hw => by clear hS; go_simp⟩) hS ?_
    try simp only [Act.put, getElem_toArray, getElem_cons_zero, getElem_cons_succ, setIfInBounds_toArray, set_cons_zero, set_cons_succ]
    refine wpAnyH_take (i := 1) (v := .pointer (some ⟨wr.heap.size, 0, none⟩)) rfl (by kernel_rfl) (by kernel_rfl) (by kernel_rfl) (fun _ _ _ h => h) (Or.inl ⟨by kernel_rfl, fun w' hw => by clear hS; go_simp⟩) hS ?_
    try simp only [Act.put, getElem_toArray, getElem_cons_zero, getElem_cons_succ, setIfInBounds_toArray, set_cons_zero, set_cons_succ]
    refine wpAnyH_take (i := 2) (v := .int .i64 (s : Int)) rfl (by kernel_rfl) (by kernel_rfl) (by kernel_rfl) (fun _ _ _ h => h) (Or.inl ⟨by kernel_rfl, fun w' hw => by have c := blk_cell hw; clear hS; go_simp⟩) hS ?_
    try simp only [Act.put, getElem_toArray, getElem_cons_zero, getElem_cons_succ, setIfInBounds_toArray, set_cons_zero, set_cons_succ]
    refine wpAnyH_take (i := 3) (v := .agg #[.int .i64 (s : Int), .int .i64 yb, .int .i64 yc, .int .i64 yq, .int .i64 yh, .string yt]) rfl (by kernel_rfl) (by kernel_rfl) (by kernel_rfl) (fun _ _ _ h => h) (Or.inl ⟨by kernel_rfl, fun w' hw => by have c := blk_cell hw; clear hS; go_simp⟩) hS ?_
    try simp only [Act.put, getElem_toArray, getElem_cons_zero, getElem_cons_succ, setIfInBounds_toArray, set_cons_zero, set_cons_succ]
    refine wpAnyH_take (i := 4) (v := .pointer (some ⟨pb, 0, none⟩)) rfl (by kernel_rfl) (by kernel_rfl) (by kernel_rfl) (fun _ _ _ h => h) (Or.inl ⟨by kernel_rfl, fun w' hw => by clear hS; go_simp⟩) hS ?_
    try simp only [Act.put, getElem_toArray, getElem_cons_zero, getElem_cons_succ, setIfInBounds_toArray, set_cons_zero, set_cons_succ]
    refine wpAnyH_take (i := 5) (v := .pointer (some ⟨pb, 10, none⟩)) rfl (by kernel_rfl) (by kernel_rfl) (by kernel_rfl) (fun _ _ _ h => h) (Or.inl ⟨by kernel_rfl, fun w' hw => by clear hS; go_simp⟩) hS ?_
    try simp only [Act.put, getElem_toArray, getElem_cons_zero, getElem_cons_succ, setIfInBounds_toArray, set_cons_zero, set_cons_succ]
    refine wpAnyH_take (i := 6) (v := .pointer (some ⟨pb, 10 + s * 6, none⟩)) rfl (by kernel_rfl) (by kernel_rfl) (by kernel_rfl) (fun _ _ _ h => h) (Or.inl ⟨by kernel_rfl, fun w' hw => by clear hS; go_simp⟩) hS ?_
    try simp only [Act.put, getElem_toArray, getElem_cons_zero, getElem_cons_succ, setIfInBounds_toArray, set_cons_zero, set_cons_succ]
    refine wpAnyH_ready (rs := [7]) (by kernel_rfl) (by simp) ?_
    refine AllReadyH.cons rfl (fun K hK => ?_) AllReadyH.nil
    rw [if_pos (by kernel_rfl)]
    refine wp_store_mid 53 (.tmp 29) (.tmp 26) rfl pb (10 + s * 6) #[.int .i64 (s : Int), .int .i64 yb, .int .i64 yc, .int .i64 yq, .int .i64 yh, .string yt] rfl rfl (hthq 0) hi6 h16 ?_
    refine hK.out _ _ ?_ (fun hS => ?_)
    ·show (World.setCells _ _ _ _).heap[_]? = _
     rw [setCells_other pb _ _ _ _ (by omega)]
     exact hboxq 0
    clear hK K
    try simp only [Act.put, getElem_toArray, getElem_cons_zero, getElem_cons_succ, setIfInBounds_toArray, set_cons_zero, set_cons_succ]
    refine wpAnyH_done (by kernel_rfl) ?_ _
    go_wp2_with fail
    go_roundw
    case rel =>
     refine ⟨j + 1, by omega, by go_num, ?_, ?_⟩
     ·rw [HK.out, hk1]
      have X := setCells_self pb 156 [.int .i64 (s : Int), .int .i64 yb, .int .i64 yc, .int .i64 yq, .int .i64 yh, .string yt] (10 + s * 6) (wr.alloc (.cells #[.int .i64 (s : Int), .int .i64 yb, .int .i64 yc, .int .i64 yq, .int .i64 yh, .string yt] 53)) _ (blk_alloc hbj _) (by rw [List.size_toArray, hle]; simp; omega)
      have e2 : (hd ++ vcells kj).toArray.toList.take (10 + s * 6) ++ [Value.int .i64 (s : Int), .int .i64 yb, .int .i64 yc, .int .i64 yq, .int .i64 yh, .string yt] ++ (hd ++ vcells kj).toArray.toList.drop (10 + s * 6 + 6) = hd ++ vcells (kj.set s ⟨(s : Int), yb, ⟨yc, yq, yh, yt⟩⟩) := by
       rw [List.toList_toArray, ← vcells_set kj s hs16, ← hhd, List.take_append, List.take_of_length_le (by omega), List.drop_append, List.drop_of_length_le (by omega)]
       have e3 : hd.length + s * 6 - hd.length = s * 6 := by omega
       have e4 : hd.length + s * 6 + 6 - hd.length = s * 6 + 6 := by omega
       rw [e3, e4]
       simp [Vt.cells]
      have e5 : [Value.int .i64 (s : Int), .int .i64 yb, .int .i64 yc, .int .i64 yq, .int .i64 yh, .string yt].length = 6 := rfl
      rw [e5, e2] at X
      exact X
     ·refine hKp.trans (Keeps.trans (Keeps.ofBelow ?_) (Keeps.ofSets (P := fun k => k = pb) pb rfl _ _ _))
      exact below_drewN ((Below.refl _ wr).alloc (Nat.le_refl _) _) _
    case measure => simp [intOf]; omega
   ·have hdd : decide (kj[s].b < yb) = false := by simpa using hlt2
    have hk1 : keep1 kj ⟨(s : Int), yb, ⟨yc, yq, yh, yt⟩⟩ = kj := by simp only [keep1, Int.toNat_natCast]; rw [hgd, if_neg hlt2]
    generalize kj[s].b = kb at *
    go_wp2_with fail
    go_quiet (fail)
    go_wp2_with fail
    go_roundw
    case rel =>
     refine ⟨j + 1, by omega, by go_num, ?_, ?_⟩
     ·rw [HK.out, hk1]; exact blk_alloc hbj _
     ·exact hKp.trans (Keeps.ofBelow (below_drewN ((Below.refl _ wr).alloc (Nat.le_refl _) _) _))
    case measure => simp [intOf]; omega
  ·go_wp2_with fail
   go_end0
   obtain rfl : j = l.length := by omega
   rw [List.take_length] at hbj
   exact ⟨rfl, hbj, hKp⟩
end Go.Proofs.YtnnhnekfokbooaaGreatDoor
