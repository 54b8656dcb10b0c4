/- The walks of the reader of package wire: votes. -/
import Derived.Test.YtnnhnekfokbooaaGreatDoorWalkC
import Derived.Deep.AppendLies
import Derived.WalkKit
import Derived.WalkSpells
import Derived.WalkLawsBesides
namespace Go.Proofs.YtnnhnekfokbooaaGreatDoor
open Go.RowKit

/-- A vote: Slot, Ballot, Value. -/
structure Vt where
  s : Int
  b : Int
  p : Pst
def Vt.cells (v : Vt) : List Value := [.int .i64 v.s, .int .i64 v.b, .int .i64 v.p.c, .int .i64 v.p.q, .int .i64 v.p.h, .string v.p.t]
def vcells : List Vt → List Value
  | [] => []
  | v :: l => v.cells ++ vcells l
theorem vcells_append (a b : List Vt) : vcells (a ++ b) = vcells a ++ vcells b := by
  induction a with
  | nil => rfl
  | cons x a ih => simp [vcells, ih]
theorem vcells_length (a : List Vt) : (vcells a).length = a.length * 6 := by
  induction a with
  | nil => rfl
  | cons x a ih => simp [vcells, Vt.cells, ih]; omega

def Rs.vote (s : Rs) : Vt := ⟨s.num 1, (s.adv 1).num 2, ((s.adv 1).adv 2).val⟩
def Rs.voteAft (s : Rs) : Rs := ((s.adv 1).adv 2).aft
def Rs.vtsAft : Nat → Rs → Rs
  | 0, s => s
  | k + 1, s => (Rs.vtsAft k s).voteAft
def Rs.vts : Nat → Rs → List Vt
  | 0, _ => []
  | k + 1, s => Rs.vts k s ++ [(Rs.vtsAft k s).vote]
theorem vts_length (k : Nat) (s : Rs) : (Rs.vts k s).length = k := by
  induction k with
  | zero => rfl
  | succ k ih => simp [Rs.vts, ih]
theorem voteAft_len (s : Rs) : s.voteAft.l.length ≤ s.l.length := by
  have h1 := aft_len ((s.adv 1).adv 2)
  have h2 := adv_len 2 (s.adv 1)
  have h3 := adv_len 1 s
  unfold Rs.voteAft; omega
theorem vtsAft_len (k : Nat) (s : Rs) : (Rs.vtsAft k s).l.length ≤ s.l.length := by
  induction k with
  | zero => exact Nat.le_refl _
  | succ k ih => exact Nat.le_trans (voteAft_len _) ih

theorem Kp.grownBy {o o' : Option Nat} {w w' : World} (h : Kp o o' w w') : w.grownBy w' o :=
  ⟨h.os, h.tape, h.output, h.size, fun k hk hne => h.block k hk (fun e => hne e.symm)⟩
theorem owns_kp {w w' : World} {base : Nat} {e : TypeId} {size : Nat} {v : Value} {n : Nat} {xs : List Value} (h : w.ownsRow base e size v n xs) {r : Nat} {o' : Option Nat} (hk : Kp (some r) o' w w') (hr : r < base) : w'.ownsRow base e size v n xs := by
  refine h.kept hk.grownBy ?_
  cases hb : v.ownBlock with
  | none => exact .inl rfl
  | some g => right; have := (h.lt g hb).1; intro x; injection x with x; omega

theorem Tryz.infoVote : (Tryz.prog.info? 53).map (fun i => (i.zero, i.size, i.bytes)) = some (some (.agg #[.int .i64 0, .int .i64 0, .int .i64 0, .int .i64 0, .int .i64 0, .string ⟨#[]⟩]), 6, 56) := by kernel_rfl

set_option maxHeartbeats 2000000 in
theorem votes_any (r : Nat) (s : Rs) (w : World) (hr : Rd w r s) (hl : s.l.length ≤ 9223372036854775807) :
    Calls Tryz.prog 119 #[.pointer (some ⟨r, 0, none⟩)] w fun e w' => ∃ v, e = .returned v ∧ w'.ownsRow w.heap.size 53 6 v (s.num 1).toNat (vcells (Rs.vts (s.num 1).toNat (s.adv 1))) ∧ Rd w' r (Rs.vtsAft (s.num 1).toNat (s.adv 1)) ∧ Kp (some r) (some r) w w' := by
  have hlt := lt_of_block hr
  obtain ⟨i0, hi, hz0, hz1, hz2⟩ := info_parts Tryz.infoVote
  obtain ⟨n, hn⟩ := Int.eq_ofNat_of_zero_le (num_nonneg 1 s)
  have hn255 := num1_le s
  have hla := adv_len 1 s
  rw [hn] at hn255 ⊢
  rw [Int.toNat_natCast]
  have HN : Hid (s.num 1 = n) := hn
  have hnum := num_any r 1 s w hr hl (by decide)
  rw [hn] at hnum
  clear hn
  generalize s.adv 1 = s1 at *
  go_enter Tryz.func119, Tryz.ntmps119
  go_wp2_with (go_at_call 117; refine hnum.mono ?_; rintro e w0 ⟨rfl, hr0, hk0⟩)
  clear hnum
  go_loopw [3, 7] (fun v i wr => ∃ k : Nat, k ≤ n ∧ i = .int .i64 k ∧ wr.ownsRow w.heap.size 53 6 v k (vcells (Rs.vts k s1)) ∧ Rd wr r (Rs.vtsAft k s1) ∧ Kp (some r) (some r) w wr) (fun _ i _ => n - (intOf i).toNat)
  case atStart => exact ⟨0, Nat.zero_le _, rfl, World.ownsRow_nil _ _ _ _, hr0, hk0⟩
  case round =>
    obtain ⟨k, hk, rfl, hown, hrr, hkk⟩ := hrel
    by_cases hlt2 : k < n
    · have hg := fun g hb => (hown.lt g hb).2
      have hrlt := lt_of_block hrr
      have hwz := hkk.size
      have l0 := vtsAft_len k s1
      have l1 := adv_len 1 (Rs.vtsAft k s1)
      have l2 := adv_len 2 ((Rs.vtsAft k s1).adv 1)
      have E1 : Hid (Rs.vts (k + 1) s1 = Rs.vts k s1 ++ [(Rs.vtsAft k s1).vote]) := rfl
      have E2 : Hid (Rs.vtsAft (k + 1) s1 = (((Rs.vtsAft k s1).adv 1).adv 2).aft) := rfl
      have E3 : Hid ((Rs.vtsAft k s1).vote = ⟨(Rs.vtsAft k s1).num 1, ((Rs.vtsAft k s1).adv 1).num 2, (((Rs.vtsAft k s1).adv 1).adv 2).val⟩) := rfl
      go_wp2_with fail
      refine (num_any r 1 (Rs.vtsAft k s1) _ (hrr.alloc _) (by omega) (by decide)).mono ?_
      rintro e w1 ⟨rfl, hr1, hk1⟩
      have hK1 := (hkk.alloc _).trans hk1
      have ho1 := owns_kp (hown.alloc _) hk1 hlt
      have hp1 := blk_kp hk1 (blk_new _ _) (by simp; omega)
      have hc := blk_cell hp1
      have hf := blk_free hp1
      clear hk1
      go_wp2_with fail
      clear hc hf
      have hp1' := blk_set hp1 0 (.int .i64 ((Rs.vtsAft k s1).num 1))
      have ho1' := ownsRow_setCell_other ho1 (a := ⟨wr.heap.size, 0, none⟩) (fun e => by have := hg _ e; simp at this) (.int .i64 ((Rs.vtsAft k s1).num 1))
      refine (num_any r 2 ((Rs.vtsAft k s1).adv 1) _ (hr1.set (by simp; omega) _) (by omega) (by decide)).mono ?_
      rintro e w2 ⟨rfl, hr2, hk2⟩
      have hK2 := (hK1.setCell (a := ⟨wr.heap.size, 0, none⟩) (.inr (by simp; omega)) (.int .i64 ((Rs.vtsAft k s1).num 1))).trans hk2
      have ho2 := owns_kp ho1' hk2 hlt
      have hp2 := blk_kp hk2 hp1' (by simp; omega)
      clear hk2 hp1' ho1' hp1 ho1 hr1 hK1
      have hc := blk_cell hp2
      have hf := blk_free hp2
      go_wp2_with fail
      clear hc hf
      have hp2' := blk_set hp2 1 (.int .i64 (((Rs.vtsAft k s1).adv 1).num 2))
      have ho2' := ownsRow_setCell_other ho2 (a := ⟨wr.heap.size, 1, none⟩) (fun e => by have := hg _ e; simp at this) (.int .i64 (((Rs.vtsAft k s1).adv 1).num 2))
      refine (value_any r (((Rs.vtsAft k s1).adv 1).adv 2) _ (hr2.set (by simp; omega) _) (by omega)).mono ?_
      rintro e w3 ⟨rfl, hr3, hk3⟩
      have hK3 := (hK2.setCell (a := ⟨wr.heap.size, 1, none⟩) (.inr (by simp; omega)) (.int .i64 (((Rs.vtsAft k s1).adv 1).num 2))).trans hk3
      have ho3 := owns_kp ho2' hk3 hlt
      have hp3 := blk_kp hk3 hp2' (by simp; omega)
      have hz3 := lt_of_block hp3
      clear hk3 hp2' ho2' hp2 ho2 hr2 hK2
      have hc := blk_cell hp3
      have hf := blk_free hp3
      go_wp2_with (at_builtin; refine wpList_append_lies _ rfl (.tmp 18) (.tmp 20) 34 rfl w.heap.size 53 i0 _ 6 56 Tryz.underlying34 hi hz0 hz1 hz2 rfl (by decide) _ k (vcells (Rs.vts k s1)) rfl ?_ _ 1 1 ((Rs.vtsAft k s1).vote).cells rfl rfl ?_ ?_ (by decide) ?_ ?_ ?_ _ rfl ?_)
      · refine World.ownsRow.alloc ?_ _
        repeat refine ownsRow_setCell_other ?_ (fun e => by have := hg _ e; simp at this) _
        exact ho3
      · exact news_new _ _ (by simp) _ _
      · intro u hu
        rw [E3.out] at hu
        simp [Vt.cells] at hu
        rcases hu with rfl | rfl | rfl | rfl | rfl | rfl <;> rfl
      · unfold maxLen; omega
      · omega
      · have := hK3.size; simp; omega
      · intro g cap w4 hown4 hgrow hat hlt4
        have hr4 : Rd w4 r (Rs.vtsAft (k + 1) s1) := by
          rw [E2.out]
          refine blk_grown hgrow ?_ (fun e => by have := (hown.lt _ e).1; omega)
          refine blk_alloc ?_ _
          repeat refine blk_set_other ?_ (by simp; omega) _
          exact hr3
        have hK4 : Kp (some r) (some r) w w4 := by
          refine Kp.grownNew ?_ hgrow (fun g e => (hown.lt g e).1)
          refine Kp.alloc ?_ _
          repeat (first | with_reducible exact hK3 | refine Kp.setCell ?_ (.inr (by simp; omega)) _)
        have hown5 : w4.ownsRow w.heap.size 53 6 (.slice (some ⟨g, 0, none⟩) (k + 1) cap) (k + 1) (vcells (Rs.vts (k + 1) s1)) := by
          rw [E1.out, vcells_append]; simpa [vcells] using hown4
        clear hgrow hown4 hat hlt4 hK3 hr3 ho3 hp3 hown hrr hkk
        go_wp2
        go_roundw
        case rel => exact ⟨k + 1, by omega, by go_num, hown5, hr4, hK4⟩
        case measure => simp [intOf]; omega
    · have hkn : k = n := by omega
      subst hkn
      go_wp2
      go_ret
      exact ⟨_, rfl, hown, hrr, hkk⟩
end Go.Proofs.YtnnhnekfokbooaaGreatDoor
