/- Parse, WalkC, WalkD -/
import Derived.Test.YtnnhnekfokbooaaGreatDoorAl38
set_option linter.unusedSimpArgs false
set_option linter.unusedVariables false
set_option maxRecDepth 100000
namespace Go.Proofs.YtnnhnekfokbooaaGreatDoor
section
open Go.RowKit
structure Rs where
 l : List UInt8
 sh : Bool
def Rs.num (k : Nat) (s : Rs) : Int := numOf (s.l.take k)
def Rs.adv (k : Nat) (s : Rs) : Rs := ⟨s.l.drop k, s.sh || decide (s.l.length < k)⟩
def Rs.txt (s : Rs) : Rs := (((s.adv 1).adv 2).adv 1).adv 1
def Rs.val (s : Rs) : Pst := if s.num 1 = 0 then ⟨0, 0, 0, S []⟩ else ⟨s.num 1, (s.adv 1).num 2, ((s.adv 1).adv 2).num 1, S (s.txt.l.take ((((s.adv 1).adv 2).adv 1).num 1).toNat)⟩
def Rs.aft (s : Rs) : Rs := if s.num 1 = 0 then s.adv 1 else s.txt.adv ((((s.adv 1).adv 2).adv 1).num 1).toNat
theorem numOf_nonneg (l : List UInt8) : 0 ≤ numOf l := by
 induction l with
 | nil => simp [numOf]
 | cons a l ih => simp only [numOf]; omega
theorem numOf_one (l : List UInt8) : numOf (l.take 1) ≤ 255 := by
 rcases l with _ | ⟨a, l⟩
 ·simp [numOf]
 ·have := byte_lt a; simp [numOf]; omega
theorem adv_len (k : Nat) (s : Rs) : (s.adv k).l.length ≤ s.l.length := by simp [Rs.adv]
def Pst.v (p : Pst) : Value := .agg #[I6 p.c, I6 p.q, I6 p.h, .string p.t]
def Rd (w : World) (r : Nat) (s : Rs) : Prop := RdAt w r s.l s.sh
theorem Rd.set {w : World} {r : Nat} {s : Rs} (h : Rd w r s) {a : Addr} (ha : r ≠ a.block) (u : Value) : Rd (w.setCell a u) r s := blk_set_other h ha u
theorem Rd.alloc {w : World} {r : Nat} {s : Rs} (h : Rd w r s) (o : Obj) : Rd (w.alloc o) r s := blk_alloc h o
theorem Rd.below {w w' : World} {r : Nat} {s : Rs} (h : Rd w r s) (hb : Below w.heap.size w w') : Rd w' r s := blk_below hb h
theorem Rd.kp {o o' : Option Nat} {w w' : World} {r : Nat} {s : Rs} (h : Rd w r s) (hk : Kp o o' w w') (ho : o ≠ some r) : Rd w' r s := blk_kp hk h ho
theorem num_any (r : Nat) (k : Nat) (s : Rs) (w : World) (hr : Rd w r s) (hl : s.l.length ≤ 9223372036854775807) (hk : k ≤ 2) :
  Calls Tryz.prog 117 #[P6 r, I6 k] w fun e w' => e = .returned (I6 (s.num k)) ∧ Rd w' r (s.adv k) ∧ Kp (some r) (some r) w w' :=
 number_any r k s.l s.sh w hr hl hk
end
section
open Go.RowKit
set_option maxHeartbeats 1000000 in
theorem value_no (r : Nat) (s : Rs) (w : World) (hr : Rd w r s) (hl : s.l.length ≤ 9223372036854775807) (h0 : (s.num 1 == 0) = true) :
  Calls Tryz.prog 118 #[P6 r] w fun e w' => e = .returned (.agg #[I6 0, I6 0, I6 0, .string (S [])]) ∧ Rd w' r (s.adv 1) ∧ Kp (some r) (some r) w w' := by
 have hlt := lt_of_block hr
 go_enter Tryz.func118, Tryz.ntmps118
 go_wp2_with fail
 refine (num_any r 1 s _ (blk_alloc (blk_alloc hr _) _) hl (by decide)).mono ?_
 rintro e w1 ⟨rfl, hr1, hk1⟩
 have hp := blk_kp hk1 (blk_new _ _) (by simp; omega)
 have hq := blk_kp hk1 (blk_alloc (blk_new _ _) _) (by simp; omega)
 simp only [World.size_alloc] at hp
 have hpc := blk_cell hp
 have hpf := blk_free hp
 have hqc := blk_cell hq
 have hqf := blk_free hq
 clear hp hq
 go_wp2
 have hK := (((Kp.refl (some r) w).alloc _).alloc _).trans hk1
 have e0 : s.num 1 = 0 := by simpa using h0
 refine bodyPost_ret (v := .agg #[I6 0, I6 0, I6 0, .string (S [])]) (by simp [results, Tryz.results118, go_sem, hqc, hqf, e0, S]) rfl ⟨rfl, ?_, ?_⟩
 ·repeat (first | with_reducible exact hr1 | refine Rd.set ?_ (by simp; omega) _)
 ·repeat (first | with_reducible exact hK | refine Kp.setCell ?_ (.inr (by simp)) _)
theorem num_nonneg (k : Nat) (s : Rs) : 0 ≤ s.num k := numOf_nonneg _
theorem num1_le (s : Rs) : s.num 1 ≤ 255 := numOf_one _
theorem tak_any (r : Nat) (n : Int) (s : Rs) (w : World) (hr : Rd w r s) (hl : s.l.length ≤ 9223372036854775807) (h0 : 0 ≤ n) (hn : n ≤ 255) :
  Calls Tryz.prog 138 #[P6 r, I6 n] w fun e w' => e = .returned (.string (S (s.l.take n.toNat))) ∧ Rd w' r (s.adv n.toNat) ∧ Kp (some r) (some r) w w' := by
 obtain ⟨m, rfl⟩ := Int.eq_ofNat_of_zero_le h0
 rw [Int.toNat_natCast]
 exact take_any r m s.l s.sh w hr hl (by omega)
set_option maxHeartbeats 2000000 in
theorem value_yes (r : Nat) (s : Rs) (w : World) (hr : Rd w r s) (hl : s.l.length ≤ 9223372036854775807) (h0 : (s.num 1 == 0) = false) :
  Calls Tryz.prog 118 #[P6 r] w fun e w' =>
   e = .returned (.agg #[I6 (s.num 1), I6 ((s.adv 1).num 2), I6 (((s.adv 1).adv 2).num 1), .string (S (s.txt.l.take ((((s.adv 1).adv 2).adv 1).num 1).toNat))])
   ∧ Rd w' r (s.txt.adv ((((s.adv 1).adv 2).adv 1).num 1).toNat) ∧ Kp (some r) (some r) w w' := by
 have hlt := lt_of_block hr
 have l1 := adv_len 1 s
 have l2 := adv_len 2 (s.adv 1)
 have l3 := adv_len 1 ((s.adv 1).adv 2)
 have l4 := adv_len 1 (((s.adv 1).adv 2).adv 1)
 have b0 := num_nonneg 1 (((s.adv 1).adv 2).adv 1)
 have b1 := num1_le (((s.adv 1).adv 2).adv 1)
 go_enter Tryz.func118, Tryz.ntmps118
 go_wp2_with fail
 refine (num_any r 1 s _ ((hr.alloc _).alloc _) hl (by decide)).mono ?_
 rintro e w1 ⟨rfl, hr1, hk1⟩
 have hK1 := (((Kp.refl (some r) w).alloc _).alloc _).trans hk1
 have hz1 : w.heap.size + 2 ≤ w1.heap.size := by have := hk1.size; simpa using this
 have hp1 := blk_kp hk1 (blk_new _ _) (by simp; omega)
 simp only [World.size_alloc] at hp1
 have hq1 := blk_kp hk1 (blk_alloc (blk_new _ _) _) (by simp; omega)
 have hc := blk_cell hp1
 have hf := blk_free hp1
 clear hk1
 go_wp2_with fail
 clear hc hf
 have hp1' := blk_set hp1 0 (I6 (s.num 1))
 have hq1' := blk_set_other hq1 (a := (A6 (w.heap.size + 1) 0)) (by simp) (I6 (s.num 1))
 refine (num_any r 2 (s.adv 1) _ (hr1.set (by simp; omega) _) (by omega) (by decide)).mono ?_
 rintro e w2 ⟨rfl, hr2, hk2⟩
 have hK2 := (hK1.setCell (a := (A6 (w.heap.size + 1) 0)) (.inr (by simp)) (I6 (s.num 1))).trans hk2
 have hp2 := blk_kp hk2 hp1' (by simp; omega)
 have hq2 := blk_kp hk2 hq1' (by simp; omega)
 clear hk2 hp1' hq1' hp1 hq1 hr1 hK1
 have hc := blk_cell hp2
 have hf := blk_free hp2
 go_wp2_with fail
 clear hc hf
 have hp2' := blk_set hp2 1 (I6 ((s.adv 1).num 2))
 have hq2' := blk_set_other hq2 (a := (A6 (w.heap.size + 1) 1)) (by simp) (I6 ((s.adv 1).num 2))
 refine (num_any r 1 ((s.adv 1).adv 2) _ (hr2.set (by simp; omega) _) (by omega) (by decide)).mono ?_
 rintro e w3 ⟨rfl, hr3, hk3⟩
 have hK3 := (hK2.setCell (a := (A6 (w.heap.size + 1) 1)) (.inr (by simp)) (I6 ((s.adv 1).num 2))).trans hk3
 have hp3 := blk_kp hk3 hp2' (by simp; omega)
 have hq3 := blk_kp hk3 hq2' (by simp; omega)
 clear hk3 hp2' hq2' hp2 hq2 hr2 hK2
 have hc := blk_cell hp3
 have hf := blk_free hp3
 go_wp2_with fail
 clear hc hf
 have hp3' := blk_set hp3 2 (I6 (((s.adv 1).adv 2).num 1))
 have hq3' := blk_set_other hq3 (a := (A6 (w.heap.size + 1) 2)) (by simp) (I6 (((s.adv 1).adv 2).num 1))
 refine (num_any r 1 (((s.adv 1).adv 2).adv 1) _ (hr3.set (by simp; omega) _) (by omega) (by decide)).mono ?_
 rintro e w4 ⟨rfl, hr4, hk4⟩
 have hK4 := (hK3.setCell (a := (A6 (w.heap.size + 1) 2)) (.inr (by simp)) (I6 (((s.adv 1).adv 2).num 1))).trans hk4
 have hp4 := blk_kp hk4 hp3' (by simp; omega)
 have hq4 := blk_kp hk4 hq3' (by simp; omega)
 clear hk4 hp3' hq3' hp3 hq3 hr3 hK3
 go_wp2_with fail
 refine (tak_any r _ s.txt _ hr4 (by have : s.txt = (((s.adv 1).adv 2).adv 1).adv 1 := rfl; rw [this]; omega) b0 b1).mono ?_
 rintro e w5 ⟨rfl, hr5, hk5⟩
 have hK5 := hK4.trans hk5
 have hp5 := blk_kp hk5 hp4 (by simp; omega)
 have hq5 := blk_kp hk5 hq4 (by simp; omega)
 clear hk5 hp4 hq4 hr4 hK4
 go_wp2_with fail
 refine (clone_any _ _ (by rw [S_size]; simp; omega)).mono ?_
 rintro e w6 ⟨rfl, hb6⟩
 have hK6 := hK5.below hb6
 have hp6 := blk_below hb6 hp5
 have hq6 := blk_below hb6 hq5
 have hr6 := hr5.below hb6
 clear hb6 hp5 hq5 hr5 hK5
 have hc := blk_cell hp6
 have hf := blk_free hp6
 have hqc := blk_cell hq6
 have hqf := blk_free hq6
 simp only [Array.setIfInBounds, List.setIfInBounds_toArray] at hc
 go_wp2
 refine bodyPost_ret (v := .agg #[I6 (s.num 1), I6 ((s.adv 1).num 2), I6 (((s.adv 1).adv 2).num 1), .string (S (s.txt.l.take ((((s.adv 1).adv 2).adv 1).num 1).toNat))]) (by simp [results, Tryz.results118, go_sem, hqc, hqf]) rfl ⟨rfl, ?_, ?_⟩
 ·repeat (first | with_reducible exact hr6 | refine Rd.set ?_ (by simp; omega) _)
 ·repeat (first | with_reducible exact hK6 | refine Kp.setCell ?_ (.inr (by simp)) _)
theorem value_any (r : Nat) (s : Rs) (w : World) (hr : Rd w r s) (hl : s.l.length ≤ 9223372036854775807) :
  Calls Tryz.prog 118 #[P6 r] w fun e w' => e = .returned (.agg #[I6 s.val.c, I6 s.val.q, I6 s.val.h, .string s.val.t]) ∧ Rd w' r s.aft ∧ Kp (some r) (some r) w w' := by
 by_cases h0 : s.num 1 = 0
 ·have e1 : s.val = ⟨0, 0, 0, S []⟩ := by simp [Rs.val, h0]
  have e2 : s.aft = s.adv 1 := by simp [Rs.aft, h0]
  rw [e1, e2]
  exact value_no r s w hr hl (by simpa using h0)
 ·have e1 : s.val = ⟨s.num 1, (s.adv 1).num 2, ((s.adv 1).adv 2).num 1, S (s.txt.l.take ((((s.adv 1).adv 2).adv 1).num 1).toNat)⟩ := by simp [Rs.val, h0]
  have e2 : s.aft = s.txt.adv ((((s.adv 1).adv 2).adv 1).num 1).toNat := by simp [Rs.aft, h0]
  rw [e1, e2]
  exact value_yes r s w hr hl (by simpa using h0)
theorem aft_len (s : Rs) : s.aft.l.length ≤ s.l.length := by
 unfold Rs.aft Rs.txt
 split
 ·exact adv_len _ _
 ·simp [Rs.adv]
end
section
open Go.RowKit
def Rs.vote (s : Rs) : Vt := ⟨s.num 1, (s.adv 1).num 2, ((s.adv 1).adv 2).val⟩
def Rs.voteAft (s : Rs) : Rs := ((s.adv 1).adv 2).aft
def Rs.vtsAft : Nat → Rs → Rs
 | 0, s => s
 | k + 1, s => (Rs.vtsAft k s).voteAft
def Rs.vts : Nat → Rs → List Vt
 | 0, _ => []
 | k + 1, s => Rs.vts k s ++ [(Rs.vtsAft k s).vote]
theorem vts_length (k : Nat) (s : Rs) : (Rs.vts k s).length = k := by
 induction k with
 | zero => rfl
 | succ k ih => simp [Rs.vts, ih]
theorem voteAft_len (s : Rs) : s.voteAft.l.length ≤ s.l.length := by
 have h1 := aft_len ((s.adv 1).adv 2)
 have h2 := adv_len 2 (s.adv 1)
 have h3 := adv_len 1 s
 unfold Rs.voteAft; omega
theorem vtsAft_len (k : Nat) (s : Rs) : (Rs.vtsAft k s).l.length ≤ s.l.length := by
 induction k with
 | zero => exact Nat.le_refl _
 | succ k ih => exact Nat.le_trans (voteAft_len _) ih
theorem Kp.grownBy {o o' : Option Nat} {w w' : World} (h : Kp o o' w w') : w.grownBy w' o :=
 ⟨h.os, h.tape, h.output, h.size, fun k hk hne => h.block k hk (fun e => hne e.symm)⟩
theorem owns_kp {w w' : World} {base : Nat} {e : TypeId} {size : Nat} {v : Value} {n : Nat} {xs : List Value} (h : w.ownsRow base e size v n xs) {r : Nat} {o' : Option Nat} (hk : Kp (some r) o' w w') (hr : r < base) : w'.ownsRow base e size v n xs := by
 refine h.kept hk.grownBy ?_
 cases hb : v.ownBlock with
 | none => exact .inl rfl
 | some g => right; have := (h.lt g hb).1; intro x; injection x with x; omega
set_option maxHeartbeats 2000000 in
theorem votes_any (r : Nat) (s : Rs) (w : World) (hr : Rd w r s) (hl : s.l.length ≤ 9223372036854775807) :
  Calls Tryz.prog 119 #[P6 r] w fun e w' => ∃ v, e = .returned v ∧ w'.ownsRow w.heap.size 53 6 v (s.num 1).toNat (vcells (Rs.vts (s.num 1).toNat (s.adv 1))) ∧ Rd w' r (Rs.vtsAft (s.num 1).toNat (s.adv 1)) ∧ Kp (some r) (some r) w w' := by
 have hlt := lt_of_block hr
 obtain ⟨i0, hi, hz0, hz1, hz2⟩ := info_parts Tryz.infoVote
 obtain ⟨n, hn⟩ := Int.eq_ofNat_of_zero_le (num_nonneg 1 s)
 have hn255 := num1_le s
 have hla := adv_len 1 s
 rw [hn] at hn255 ⊢
 rw [Int.toNat_natCast]
 have HN : Hid (s.num 1 = n) := hn
 have hnum := num_any r 1 s w hr hl (by decide)
 rw [hn] at hnum
 clear hn
 generalize s.adv 1 = s1 at *
 go_enter Tryz.func119, Tryz.ntmps119
 go_wp2_with (go_at_call 117; refine hnum.mono ?_; rintro e w0 ⟨rfl, hr0, hk0⟩)
 clear hnum
 go_loopw [3, 7] (fun v i wr => ∃ k : Nat, k ≤ n ∧ i = I6 k ∧ wr.ownsRow w.heap.size 53 6 v k (vcells (Rs.vts k s1)) ∧ Rd wr r (Rs.vtsAft k s1) ∧ Kp (some r) (some r) w wr) (fun _ i _ => n - (intOf i).toNat)
 case atStart => exact ⟨0, Nat.zero_le _, rfl, World.ownsRow_nil _ _ _ _, hr0, hk0⟩
 case round =>
  obtain ⟨k, hk, rfl, hown, hrr, hkk⟩ := hrel
  by_cases hlt2 : k < n
  ·have hg := fun g hb => (hown.lt g hb).2
   have hrlt := lt_of_block hrr
   have hwz := hkk.size
   have l0 := vtsAft_len k s1
   have l1 := adv_len 1 (Rs.vtsAft k s1)
   have l2 := adv_len 2 ((Rs.vtsAft k s1).adv 1)
   have E1 : Hid (Rs.vts (k + 1) s1 = Rs.vts k s1 ++ [(Rs.vtsAft k s1).vote]) := rfl
   have E2 : Hid (Rs.vtsAft (k + 1) s1 = (((Rs.vtsAft k s1).adv 1).adv 2).aft) := rfl
   have E3 : Hid ((Rs.vtsAft k s1).vote = ⟨(Rs.vtsAft k s1).num 1, ((Rs.vtsAft k s1).adv 1).num 2, (((Rs.vtsAft k s1).adv 1).adv 2).val⟩) := rfl
   go_wp2_with fail
   refine (num_any r 1 (Rs.vtsAft k s1) _ (hrr.alloc _) (by omega) (by decide)).mono ?_
   rintro e w1 ⟨rfl, hr1, hk1⟩
   have hK1 := (hkk.alloc _).trans hk1
   have ho1 := owns_kp (hown.alloc _) hk1 hlt
   have hp1 := blk_kp hk1 (blk_new _ _) (by simp; omega)
   have hc := blk_cell hp1
   have hf := blk_free hp1
   clear hk1
   go_wp2_with fail
   clear hc hf
   have hp1' := blk_set hp1 0 (I6 ((Rs.vtsAft k s1).num 1))
   have ho1' := ownsRow_setCell_other ho1 (a := (A6 wr.heap.size 0)) (fun e => by have := hg _ e; simp at this) (I6 ((Rs.vtsAft k s1).num 1))
   refine (num_any r 2 ((Rs.vtsAft k s1).adv 1) _ (hr1.set (by simp; omega) _) (by omega) (by decide)).mono ?_
   rintro e w2 ⟨rfl, hr2, hk2⟩
   have hK2 := (hK1.setCell (a := (A6 wr.heap.size 0)) (.inr (by simp; omega)) (I6 ((Rs.vtsAft k s1).num 1))).trans hk2
   have ho2 := owns_kp ho1' hk2 hlt
   have hp2 := blk_kp hk2 hp1' (by simp; omega)
   clear hk2 hp1' ho1' hp1 ho1 hr1 hK1
   have hc := blk_cell hp2
   have hf := blk_free hp2
   go_wp2_with fail
   clear hc hf
   have hp2' := blk_set hp2 1 (I6 (((Rs.vtsAft k s1).adv 1).num 2))
   have ho2' := ownsRow_setCell_other ho2 (a := (A6 wr.heap.size 1)) (fun e => by have := hg _ e; simp at this) (I6 (((Rs.vtsAft k s1).adv 1).num 2))
   refine (value_any r (((Rs.vtsAft k s1).adv 1).adv 2) _ (hr2.set (by simp; omega) _) (by omega)).mono ?_
   rintro e w3 ⟨rfl, hr3, hk3⟩
   have hK3 := (hK2.setCell (a := (A6 wr.heap.size 1)) (.inr (by simp; omega)) (I6 (((Rs.vtsAft k s1).adv 1).num 2))).trans hk3
   have ho3 := owns_kp ho2' hk3 hlt
   have hp3 := blk_kp hk3 hp2' (by simp; omega)
   have hz3 := lt_of_block hp3
   clear hk3 hp2' ho2' hp2 ho2 hr2 hK2
   have hc := blk_cell hp3
   have hf := blk_free hp3
   go_wp2_with (at_builtin; refine wpList_append_lies _ rfl (.tmp 18) (.tmp 20) 34 rfl w.heap.size 53 i0 _ 6 56 Tryz.underlying34 hi hz0 hz1 hz2 rfl (by decide) _ k (vcells (Rs.vts k s1)) rfl ?_ _ 1 1 ((Rs.vtsAft k s1).vote).cells rfl rfl ?_ ?_ (by decide) ?_ ?_ ?_ _ rfl ?_)
   ·refine World.ownsRow.alloc ?_ _
    repeat refine ownsRow_setCell_other ?_ (fun e => by have := hg _ e; simp at this) _
    exact ho3
   ·exact news_new _ _ (by simp) _ _
   ·intro u hu
    rw [E3.out] at hu
    simp [Vt.cells] at hu
    rcases hu with rfl | rfl | rfl | rfl | rfl | rfl <;> rfl
   ·unfold maxLen; omega
   ·omega
   ·have := hK3.size; simp; omega
   ·intro g cap w4 hown4 hgrow hat hlt4
    have hr4 : Rd w4 r (Rs.vtsAft (k + 1) s1) := by
     rw [E2.out]
     refine blk_grown hgrow ?_ (fun e => by have := (hown.lt _ e).1; omega)
     refine blk_alloc ?_ _
     repeat refine blk_set_other ?_ (by simp; omega) _
     exact hr3
    have hK4 : Kp (some r) (some r) w w4 := by
     refine Kp.grownNew ?_ hgrow (fun g e => (hown.lt g e).1)
     refine Kp.alloc ?_ _
     repeat (first | with_reducible exact hK3 | refine Kp.setCell ?_ (.inr (by simp; omega)) _)
    have hown5 : w4.ownsRow w.heap.size 53 6 (.slice (some (A6 g 0)) (k + 1) cap) (k + 1) (vcells (Rs.vts (k + 1) s1)) := by
     rw [E1.out, vcells_append]; simpa [vcells] using hown4
    clear hgrow hown4 hat hlt4 hK3 hr3 ho3 hp3 hown hrr hkk
    go_wp2
    go_roundw
    case rel => exact ⟨k + 1, by omega, by go_num, hown5, hr4, hK4⟩
    case measure => simp [intOf]; omega
  ·have hkn : k = n := by omega
   subst hkn
   go_wp2
   go_ret
   exact ⟨_, rfl, hown, hrr, hkk⟩
end
end Go.Proofs.YtnnhnekfokbooaaGreatDoor
