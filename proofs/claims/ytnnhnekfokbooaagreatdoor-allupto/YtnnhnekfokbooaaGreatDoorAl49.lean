/- RefL, RefM1, RefM2 -/
import Derived.Test.YtnnhnekfokbooaaGreatDoorAl48
set_option linter.unusedSimpArgs false
set_option linter.unusedVariables false
set_option maxRecDepth 100000
namespace Go.Proofs.YtnnhnekfokbooaaGreatDoor
section
open Go.RowKit
def eVote (l : List UInt8) : Vt := ⟨eNum 1 l, eNum 2 (eAdv 1 l), ePost (eAdv 2 (eAdv 1 l))⟩
def eVoteAft (l : List UInt8) : List UInt8 := eAft (eAdv 2 (eAdv 1 l))
def eVtsAft : Nat → List UInt8 → List UInt8
 | 0, l => l
 | k + 1, l => eVoteAft (eVtsAft k l)
def eVts : Nat → List UInt8 → List Vt
 | 0, _ => []
 | k + 1, l => eVts k l ++ [eVote (eVtsAft k l)]
theorem eVts_length (k : Nat) (l : List UInt8) : (eVts k l).length = k := by
 induction k with
 | zero => rfl
 | succ k ih => simp [eVts, ih]
def eM1 (l : List UInt8) : List UInt8 := eAdv 1 (eAdv 1 (eAdv 1 l))
def eBal (k : Int) (l : List UInt8) : Int := if k = 5 then 0 else eNum 2 l
def eBalAft (k : Int) (l : List UInt8) : List UInt8 := if k = 5 then l else eAdv 2 l
def eSlo (k : Int) (l : List UInt8) : Int := if hasS k then eNum 1 l else 0
def eSloAft (k : Int) (l : List UInt8) : List UInt8 := if hasS k then eAdv 1 l else l
def eVau (k : Int) (l : List UInt8) : Pst := if hasV k then ePost l else ⟨0, 0, 0, S []⟩
def eVauAft (k : Int) (l : List UInt8) : List UInt8 := if hasV k then eAft l else l
def eAcc (k : Int) (l : List UInt8) : List Vt := if hasA k then eVts (eNum 1 l).toNat (eAdv 1 l) else []
def eMsg (l : List UInt8) : Ms := ⟨eNum 1 l, eNum 1 (eAdv 1 l), eNum 1 (eAdv 1 (eAdv 1 l)), eBal (eNum 1 l) (eM1 l), eSlo (eNum 1 l) (eBalAft (eNum 1 l) (eM1 l)), eVau (eNum 1 l) (eSloAft (eNum 1 l) (eBalAft (eNum 1 l) (eM1 l))),
 eAcc (eNum 1 l) (eVauAft (eNum 1 l) (eSloAft (eNum 1 l) (eBalAft (eNum 1 l) (eM1 l))))⟩
theorem eNum1_enc (n : Int) (h0 : 0 ≤ n) (h1 : n < 256) (r : List UInt8) : eNum 1 (encA 1 [n] ++ r) = n := by
 have h := num1_enc n h0 h1 r false
 simp only [Rs.num] at h
 have hl : ¬ (encA 1 [n] ++ r).length < 1 := by simp [encA, encN]
 rw [eNum, if_neg hl]; exact h
theorem eAdv1_enc (n : Int) (r : List UInt8) : eAdv 1 (encA 1 [n] ++ r) = r := by
 have hl : ¬ (encA 1 [n] ++ r).length < 1 := by simp [encA, encN]
 rw [eAdv, if_neg hl]; simp [encA, encN]
theorem eNum2_enc (n : Int) (h0 : 0 ≤ n) (h1 : n < 65536) (r : List UInt8) : eNum 2 (encA 2 [n] ++ r) = n := by
 have h := num2_enc n h0 h1 r false
 simp only [Rs.num] at h
 have hl : ¬ (encA 2 [n] ++ r).length < 2 := by simp [encA, encN]
 rw [eNum, if_neg hl]; exact h
theorem eAdv2_enc (n : Int) (r : List UInt8) : eAdv 2 (encA 2 [n] ++ r) = r := by
 have hl : ¬ (encA 2 [n] ++ r).length < 2 := by simp [encA, encN]
 rw [eAdv, if_neg hl]; simp [encA, encN]
theorem ePost_enc (p : Pst) (h : rightValueB p = true) (r : List UInt8) : ePost (encV p ++ r) = p ∧ eAft (encV p ++ r) = r := by
 cases hn : nothingB p
 ·have hp : rightPostB p = true := by simpa [rightValueB, hn] using h
  simp only [rightPostB, Bool.and_eq_true] at hp
  obtain ⟨⟨⟨p1, p2⟩, p3⟩, p4⟩ := hp
  have b1 := withinB_true p1; have b2 := withinB_true p2; have b3 := withinB_true p3
  have b4 : p.t.size ≤ 12 := by simp at p4; omega
  have hl : p.t.data.toList.length = p.t.size := by rw [Array.length_toList]; rfl
  have e : encV p ++ r = encA 1 [p.c] ++ (encA 2 [p.q] ++ (encA 1 [p.h] ++ (encA 1 [(p.t.size : Int)] ++ (p.t.data.toList ++ r)))) := by simp [encV, hn, encA_two]
  rw [e]
  have e0 : ¬ eNum 1 (encA 1 [p.c] ++ (encA 2 [p.q] ++ (encA 1 [p.h] ++ (encA 1 [(p.t.size : Int)] ++ (p.t.data.toList ++ r))))) = 0 := by rw [eNum1_enc _ (by omega) (by omega)]; omega
  unfold ePost eAft eLen eTxt
  rw [if_neg e0, if_neg e0]
  simp only [eAdv1_enc, eAdv2_enc]
  rw [eNum1_enc _ (by omega) (by omega), eNum2_enc _ (by omega) (by omega), eNum1_enc _ (by omega) (by omega), eNum1_enc _ (by omega) (by omega)]
  rw [Int.toNat_natCast, ← hl]
  have hm : min p.t.data.toList.length (p.t.data.toList ++ r).length = p.t.data.toList.length := by rw [List.length_append]; omega
  rw [hm]
  refine ⟨?_, ?_⟩
  ·rw [List.take_left' rfl, S_eta]
  ·rw [List.drop_left' rfl]
 ·obtain rfl := nothing_eq hn
  have e : encV ⟨0, 0, 0, S []⟩ ++ r = encA 1 [0] ++ r := by simp [encV, hn]
  rw [e]
  have e0 : eNum 1 (encA 1 [0] ++ r) = 0 := eNum1_enc 0 (by omega) (by omega) r
  unfold ePost eAft
  rw [if_pos e0, if_pos e0, eAdv1_enc]
  exact ⟨rfl, rfl⟩
theorem eVtsAft_succ (k : Nat) (l : List UInt8) : eVtsAft (k + 1) l = eVtsAft k (eVoteAft l) := by
 induction k with
 | zero => rfl
 | succ k ih => show eVoteAft (eVtsAft (k + 1) l) = eVoteAft (eVtsAft k (eVoteAft l)); rw [ih]
theorem eVts_succ (k : Nat) (l : List UInt8) : eVts (k + 1) l = eVote l :: eVts k (eVoteAft l) := by
 induction k with
 | zero => rfl
 | succ k ih =>
  show eVts (k + 1) l ++ [eVote (eVtsAft (k + 1) l)] = eVote l :: (eVts k (eVoteAft l) ++ [eVote (eVtsAft k (eVoteAft l))])
  rw [ih, eVtsAft_succ]; rfl
theorem eVts_enc : ∀ (a : List Vt), (∀ x ∈ a, (0 ≤ x.s ∧ x.s ≤ 15) ∧ (1 ≤ x.b ∧ x.b ≤ 8007) ∧ rightValueB x.p = true) → ∀ (r : List UInt8), eVts a.length (encVs a ++ r) = a
 | [], _, r => rfl
 | x :: a, h, r => by
  obtain ⟨h1, h2, h3⟩ := h x List.mem_cons_self
  have e : encVs (x :: a) ++ r = encA 1 [x.s] ++ (encA 2 [x.b] ++ (encV x.p ++ (encVs a ++ r))) := by simp [encVs, encX]
  rw [List.length_cons, eVts_succ, e]
  have hv := ePost_enc x.p h3 (encVs a ++ r)
  have e1 : eVote (encA 1 [x.s] ++ (encA 2 [x.b] ++ (encV x.p ++ (encVs a ++ r)))) = x := by
   unfold eVote
   rw [eNum1_enc _ (by omega) (by omega), eAdv1_enc, eNum2_enc _ (by omega) (by omega), eAdv2_enc, hv.1]
  have e2 : eVoteAft (encA 1 [x.s] ++ (encA 2 [x.b] ++ (encV x.p ++ (encVs a ++ r)))) = encVs a ++ r := by
   unfold eVoteAft
   rw [eAdv1_enc, eAdv2_enc, hv.2]
  rw [e1, e2, eVts_enc a (fun y hy => h y (List.mem_cons_of_mem _ hy)) r]
theorem eMsg_enc (m : Ms) (h : rmB m = true) : eMsg (encM m) = m := by
 simp only [rmB, Bool.and_eq_true] at h
 obtain ⟨⟨⟨⟨⟨⟨r1, r2⟩, r3⟩, r4⟩, r5⟩, r6⟩, r7⟩ := h
 have b1 := withinB_true r1
 have b2 := withinB_true r2
 have b3 := withinB_true r3
 generalize hB : (if hasB m.k then encA 2 [m.b] else []) = eb
 generalize hS : (if hasS m.k then encA 1 [m.s] else []) = es
 generalize hV : (if hasV m.k then encV m.p else []) = ev
 generalize hA : (if hasA m.k then encA 1 [(m.a.length : Int)] ++ encVs m.a else []) = ea
 have e : encM m = encA 1 [m.k] ++ (encA 1 [m.f] ++ (encA 1 [m.t] ++ (eb ++ (es ++ (ev ++ ea))))) := by
  unfold encM
  rw [hB, hS, hV, hA, encA_three]
  simp only [List.append_assoc]
 rw [e]
 have k1 : eNum 1 (encA 1 [m.k] ++ (encA 1 [m.f] ++ (encA 1 [m.t] ++ (eb ++ (es ++ (ev ++ ea)))))) = m.k := eNum1_enc _ (by omega) (by omega) _
 have k2 : eM1 (encA 1 [m.k] ++ (encA 1 [m.f] ++ (encA 1 [m.t] ++ (eb ++ (es ++ (ev ++ ea)))))) = eb ++ (es ++ (ev ++ ea)) := by
  unfold eM1; rw [eAdv1_enc, eAdv1_enc, eAdv1_enc]
 have hb5 : hasB m.k = decide (m.k ≠ 5) := by
  rcases (show m.k = 1 ∨ m.k = 2 ∨ m.k = 3 ∨ m.k = 4 ∨ m.k = 5 ∨ m.k = 6 from by omega) with e | e | e | e | e | e <;> rw [e] <;> rfl
 have kb : eBal m.k (eb ++ (es ++ (ev ++ ea))) = m.b ∧ eBalAft m.k (eb ++ (es ++ (ev ++ ea))) = es ++ (ev ++ ea) := by
  unfold eBal eBalAft
  by_cases h5 : m.k = 5
  ·have hb : hasB m.k = false := by rw [hb5]; simp [h5]
   rw [hb] at r4 hB; subst hB
   have : m.b = 0 := by simpa [fitsB] using r4
   simp [this, h5]
  ·have hb : hasB m.k = true := by rw [hb5]; simp [h5]
   rw [hb] at r4 hB; subst hB
   have := withinB_true (show withinB m.b 1 8007 = true from r4)
   rw [if_neg h5, if_neg h5]
   simp only [if_true]
   exact ⟨eNum2_enc _ (by omega) (by omega) _, eAdv2_enc _ _⟩
 have ks : eSlo m.k (es ++ (ev ++ ea)) = m.s ∧ eSloAft m.k (es ++ (ev ++ ea)) = ev ++ ea := by
  unfold eSlo eSloAft
  cases hb : hasS m.k
  ·rw [hb] at r5 hS; subst hS
   have : m.s = 0 := by simpa [fitsB] using r5
   simp [this]
  ·rw [hb] at r5 hS; subst hS
   have := withinB_true (show withinB m.s 0 15 = true from r5)
   simp only [if_true]
   exact ⟨eNum1_enc _ (by omega) (by omega) _, eAdv1_enc _ _⟩
 have kv : eVau m.k (ev ++ ea) = m.p ∧ eVauAft m.k (ev ++ ea) = ea := by
  unfold eVau eVauAft
  cases hb : hasV m.k
  ·rw [hb] at r6 hV; subst hV
   have := nothing_eq (show nothingB m.p = true from r6)
   simp [this]
  ·rw [hb] at r6 hV; subst hV
   simp only [if_true]
   exact ePost_enc m.p (show rightValueB m.p = true from r6) _
 have ka : eAcc m.k ea = m.a := by
  unfold eAcc
  cases hb : hasA m.k
  ·rw [hb] at r7 hA; subst hA
   have : m.a = [] := by simpa [fitsB] using r7
   simp [this]
  ·rw [hb] at r7 hA; subst hA
   obtain ⟨c8, c9⟩ := rvB_ok m.a (-1) (by omega) (show rvB (-1) m.a = true from r7)
   have c9' := c9 (by omega)
   simp only [if_true]
   rw [eNum1_enc _ (by omega) (by omega), eAdv1_enc, Int.toNat_natCast]
   have := eVts_enc m.a (fun x hx => (c8 x hx).2) []
   rw [List.append_nil] at this
   exact this
 unfold eMsg
 rw [k1, k2, kb.1, kb.2, ks.1, ks.2, kv.1, kv.2, ka, eAdv1_enc, eAdv1_enc, eNum1_enc _ (by omega) (by omega), eNum1_enc _ (by omega) (by omega)]
theorem e_ok (l : List UInt8) : (rmB (eMsg l) && decide (encM (eMsg l) = l)) = unB l := by
 cases hu : unB l
 ·cases hx : (rmB (eMsg l) && decide (encM (eMsg l) = l))
  ·rfl
  ·rw [Bool.and_eq_true] at hx
   have h1 := enc_un hx.1
   have h2 : encM (eMsg l) = l := by simpa using hx.2
   rw [h2, hu] at h1
   exact absurd h1.1 (by simp)
 ·obtain ⟨h1, h2⟩ := un_enc hu
  have h3 := eMsg_enc _ h2
  rw [h1] at h3
  rw [h3, h1, h2]; simp
theorem e_msg {l : List UInt8} (hu : unB l = true) : eMsg l = Rs.msg ⟨l, false⟩ := by
 obtain ⟨h1, h2⟩ := un_enc hu
 have h3 := eMsg_enc _ h2
 rwa [h1] at h3
end
section
open Go.RowKit
set_option maxHeartbeats 8000000 in
theorem runp_a (l : List UInt8) (w : World) (hl : l.length ≤ 9223372036854775807) (h5 : (eNum 1 l == 5) = false) (h3 : (eNum 1 l == 3) = false) (h4 : (eNum 1 l == 4) = false) (h2 : (eNum 1 l == 2) = false) (ok : Bool) (hok : (rmB (⟨eNum 1 l, eNum 1 (eAdv 1 l), eNum 1 (eAdv 1 (eAdv 1 l)), eNum 2 (eM1 l), 0, (⟨0, 0, 0, S []⟩ : Pst), []⟩ : Ms) && decide (encM (⟨eNum 1 l, eNum 1 (eAdv 1 l), eNum 1 (eAdv 1 (eAdv 1 l)), eNum 2 (eM1 l), 0, (⟨0, 0, 0, S []⟩ : Pst), []⟩ : Ms) = l)) = ok) :
  Calls Tryz.prog 22 #[.string (S l)] w fun e w' => e = .returned (if ok then .tuple #[.agg #[I6 (eNum 1 l), I6 (eNum 1 (eAdv 1 l)), I6 (eNum 1 (eAdv 1 (eAdv 1 l))), I6 (eNum 2 (eM1 l)), I6 (0), I6 0, I6 0, I6 0, .string (S []), .slice none 0 0], I6 0] else .tuple #[.agg #[I6 0, I6 0, I6 0, I6 0, I6 0, I6 0, I6 0, I6 0, .string (S []), .slice none 0 0], I6 2]) ∧ Below w.heap.size w w' := by
 have l1 := eAdv_len 1 l
 have l2 := eAdv_len 1 (eAdv 1 l)
 have l3 := eAdv_len 1 (eAdv 1 (eAdv 1 l))
 have l3' : (eM1 l).length ≤ (eAdv 1 (eAdv 1 l)).length := l3
 have l4 := eAdv_len 2 (eM1 l)
 have hn5 : (eNum 1 l != 5) = true := by simp only [bne, h5]; rfl
 go_enter Tryz.func22, Tryz.ntmps22
 go_wp2_with fail
 have hr0 : EyeAt _ (w.heap.size + 1) l := EyeAt.alloc (by have := blk_new (w.alloc (.cells #[I6 0, I6 0, I6 0, I6 0, I6 0, I6 0, I6 0, I6 0, .string ⟨#[]⟩, .slice none 0 0] 36)) (.cells #[.string (S l)] 105); simp only [World.size_alloc] at this; exact this) (.cells #[I6 0, I6 0, I6 0, I6 0, I6 0, I6 0, I6 0, I6 0, .string ⟨#[]⟩, .slice none 0 0] 36)
 refine (enumber_any (w.heap.size + 1) 1 l _ hr0 hl (.inl rfl)).mono ?_
 rintro e w1 ⟨rfl, hr1, hk1⟩
 have hm1 := blk_kp hk1 (blk_new _ _) (by simp)
 have hq1 := blk_kp hk1 (blk_alloc (blk_alloc (blk_new _ _) _) _) (by simp)
 simp only [World.size_alloc] at hm1
 have hB1 : Below w.heap.size w w1 := ((((Below.refl _ w).alloc (Nat.le_refl _) _).alloc (by simp) _).alloc (by simp; omega) _).trans (hk1.toBelow (by simp; omega) (fun k e => by injection e with e; omega))
 have hz1 : w.heap.size + 3 ≤ w1.heap.size := by have := hk1.size; simpa using this
 clear hk1 hr0
 have hc := blk_cell hm1
 have hf := blk_free hm1
 go_wp2_with fail
 clear hc hf
 have M0 := blk_set hm1 0 (I6 (eNum 1 l))
 have Q0 := blk_set_other hq1 (a := (A6 (w.heap.size + 2) 0)) (by simp) (I6 (eNum 1 l))
 have R0 := EyeAt.set hr1 (a := (A6 (w.heap.size + 2) 0)) (by simp) (I6 (eNum 1 l))
 have B0 := Below.setCell hB1 (p := (A6 (w.heap.size + 2) 0)) (by simp) (I6 (eNum 1 l))
 refine (enumber_any (w.heap.size + 1) 1 (eAdv 1 l) _ R0 (by omega) (.inl rfl)).mono ?_
 rintro e w2 ⟨rfl, hr2, hk2⟩
 have hB2 := B0.trans (hk2.toBelow (B := w.heap.size) (by simp [World.setCell]; omega) (fun k e => by injection e with e; omega))
 have hz2 : w.heap.size + 3 ≤ w2.heap.size := by have := hk2.size; simp [World.setCell] at this; omega
 have hm2 := blk_kp hk2 M0 (by simp)
 have hq2 := blk_kp hk2 Q0 (by simp)
 clear hk2 hm1 hq1 hr1 hB1 M0 Q0 R0 B0
 have hc := blk_cell hm2
 have hf := blk_free hm2
 go_wp2_with fail
 clear hc hf
 have M0 := blk_set hm2 1 (I6 (eNum 1 (eAdv 1 l)))
 have Q0 := blk_set_other hq2 (a := (A6 (w.heap.size + 2) 1)) (by simp) (I6 (eNum 1 (eAdv 1 l)))
 have R0 := EyeAt.set hr2 (a := (A6 (w.heap.size + 2) 1)) (by simp) (I6 (eNum 1 (eAdv 1 l)))
 have B0 := Below.setCell hB2 (p := (A6 (w.heap.size + 2) 1)) (by simp) (I6 (eNum 1 (eAdv 1 l)))
 refine (enumber_any (w.heap.size + 1) 1 (eAdv 1 (eAdv 1 l)) _ R0 (by omega) (.inl rfl)).mono ?_
 rintro e w3 ⟨rfl, hr3, hk3⟩
 have hB3 := B0.trans (hk3.toBelow (B := w.heap.size) (by simp [World.setCell]; omega) (fun k e => by injection e with e; omega))
 have hz3 : w.heap.size + 3 ≤ w3.heap.size := by have := hk3.size; simp [World.setCell] at this; omega
 have hm3 := blk_kp hk3 M0 (by simp)
 have hq3 := blk_kp hk3 Q0 (by simp)
 clear hk3 hm2 hq2 hr2 hB2 M0 Q0 R0 B0
 have hc := blk_cell hm3
 have hf := blk_free hm3
 go_wp2_with fail
 clear hc hf
 have M0 := blk_set hm3 2 (I6 (eNum 1 (eAdv 1 (eAdv 1 l))))
 have Q0 := blk_set_other hq3 (a := (A6 (w.heap.size + 2) 2)) (by simp) (I6 (eNum 1 (eAdv 1 (eAdv 1 l))))
 have R0 := EyeAt.set hr3 (a := (A6 (w.heap.size + 2) 2)) (by simp) (I6 (eNum 1 (eAdv 1 (eAdv 1 l))))
 have B0 := Below.setCell hB3 (p := (A6 (w.heap.size + 2) 2)) (by simp) (I6 (eNum 1 (eAdv 1 (eAdv 1 l))))
 refine (enumber_any (w.heap.size + 1) 2 (eM1 l) _ R0 (by omega) (.inr rfl)).mono ?_
 rintro e w4 ⟨rfl, hr4, hk4⟩
 have hB4 := B0.trans (hk4.toBelow (B := w.heap.size) (by simp [World.setCell]; omega) (fun k e => by injection e with e; omega))
 have hz4 : w.heap.size + 3 ≤ w4.heap.size := by have := hk4.size; simp [World.setCell] at this; omega
 have hm4 := blk_kp hk4 M0 (by simp)
 have hq4 := blk_kp hk4 Q0 (by simp)
 clear hk4 hm3 hq3 hr3 hB3 M0 Q0 R0 B0
 have hc := blk_cell hm4
 have hf := blk_free hm4
 go_wp2_with fail
 clear hc hf
 have M0 := blk_set hm4 3 (I6 (eNum 2 (eM1 l)))
 have Q0 := blk_set_other hq4 (a := (A6 (w.heap.size + 2) 3)) (by simp) (I6 (eNum 2 (eM1 l)))
 have R0 := EyeAt.set hr4 (a := (A6 (w.heap.size + 2) 3)) (by simp) (I6 (eNum 2 (eM1 l)))
 have B0 := Below.setCell hB4 (p := (A6 (w.heap.size + 2) 3)) (by simp) (I6 (eNum 2 (eM1 l)))
 have hP := fun W => rpack_any (⟨eNum 1 l, eNum 1 (eAdv 1 l), eNum 1 (eAdv 1 (eAdv 1 l)), eNum 2 (eM1 l), 0, (⟨0, 0, 0, S []⟩ : Pst), []⟩ : Ms) (.slice none 0 0) W (rvat_nil W)
 dsimp only at hP
 generalize hrb : rmB (⟨eNum 1 l, eNum 1 (eAdv 1 l), eNum 1 (eAdv 1 (eAdv 1 l)), eNum 2 (eM1 l), 0, (⟨0, 0, 0, S []⟩ : Pst), []⟩ : Ms) = rb at *
 generalize heb : encM (⟨eNum 1 l, eNum 1 (eAdv 1 l), eNum 1 (eAdv 1 (eAdv 1 l)), eNum 2 (eM1 l), 0, (⟨0, 0, 0, S []⟩ : Pst), []⟩ : Ms) = eb at *
 have HRB := hide hrb
 have HEB := hide heb
 clear hrb heb
 refine (hP _).mono ?_
 rintro e w5 ⟨rfl, hb5⟩
 clear hP
 have hm5 := blk_below hb5 M0
 have hq5 := blk_below hb5 Q0
 have hB5 := B0.trans (hb5.mono (by simp [World.setCell]; omega))
 have hc := blk_cell hm5
 have hqc := blk_cell hq5
 have hqf := blk_free hq5
 cases rb
 ·obtain rfl : false = ok := by simpa using hok
  clear hok
  go_wp2
  refine bodyPost_ret (v := .tuple #[.agg #[I6 0, I6 0, I6 0, I6 0, I6 0, I6 0, I6 0, I6 0, .string (S []), .slice none 0 0], I6 2]) (by simp [results, Tryz.results22, go_sem, hqc, S]) rfl ⟨rfl, ?_⟩
  iterate 10 refine Below.setCell ?_ (by simp) _
  exact hB5
 ·by_cases hel : eb = l
  ·obtain rfl : true = ok := by simpa [hel] using hok
   clear hok
   have hel' : l = eb := hel.symm
   clear hel
   subst hel'
   go_wp2
   refine bodyPost_ret (v := .tuple #[.agg #[I6 (eNum 1 l), I6 (eNum 1 (eAdv 1 l)), I6 (eNum 1 (eAdv 1 (eAdv 1 l))), I6 (eNum 2 (eM1 l)), I6 (0), I6 0, I6 0, I6 0, .string (S []), .slice none 0 0], I6 0]) (by simp [results, Tryz.results22, go_sem, hqc, S]) rfl ⟨rfl, ?_⟩
   iterate 10 refine Below.setCell ?_ (by simp) _
   exact hB5
  ·obtain rfl : false = ok := by simpa [hel] using hok
   clear hok
   have hne : ((S eb).toList == (S l).toList) = false := by rw [S_toList, S_toList]; simpa using hel
   have hne' : ¬ (S eb).toList = (S l).toList := by rw [S_toList, S_toList]; exact hel
   go_wp2
   refine bodyPost_ret (v := .tuple #[.agg #[I6 0, I6 0, I6 0, I6 0, I6 0, I6 0, I6 0, I6 0, .string (S []), .slice none 0 0], I6 2]) (by simp [results, Tryz.results22, go_sem, hqc, S]) rfl ⟨rfl, ?_⟩
   iterate 10 refine Below.setCell ?_ (by simp) _
   exact hB5
end
section
open Go.RowKit
set_option maxHeartbeats 8000000 in
theorem runp_c (l : List UInt8) (w : World) (hl : l.length ≤ 9223372036854775807) (h5 : (eNum 1 l == 5) = false) (h3 : (eNum 1 l == 3) = true) (h2 : (eNum 1 l == 2) = false) (ok : Bool) (hok : (rmB (⟨eNum 1 l, eNum 1 (eAdv 1 l), eNum 1 (eAdv 1 (eAdv 1 l)), eNum 2 (eM1 l), eNum 1 (eAdv 2 (eM1 l)), (ePost (eAdv 1 (eAdv 2 (eM1 l)))), []⟩ : Ms) && decide (encM (⟨eNum 1 l, eNum 1 (eAdv 1 l), eNum 1 (eAdv 1 (eAdv 1 l)), eNum 2 (eM1 l), eNum 1 (eAdv 2 (eM1 l)), (ePost (eAdv 1 (eAdv 2 (eM1 l)))), []⟩ : Ms) = l)) = ok) :
  Calls Tryz.prog 22 #[.string (S l)] w fun e w' => e = .returned (if ok then .tuple #[.agg #[I6 (eNum 1 l), I6 (eNum 1 (eAdv 1 l)), I6 (eNum 1 (eAdv 1 (eAdv 1 l))), I6 (eNum 2 (eM1 l)), I6 (eNum 1 (eAdv 2 (eM1 l))), I6 (ePost (eAdv 1 (eAdv 2 (eM1 l)))).c, I6 (ePost (eAdv 1 (eAdv 2 (eM1 l)))).q, I6 (ePost (eAdv 1 (eAdv 2 (eM1 l)))).h, .string (ePost (eAdv 1 (eAdv 2 (eM1 l)))).t, .slice none 0 0], I6 0] else .tuple #[.agg #[I6 0, I6 0, I6 0, I6 0, I6 0, I6 0, I6 0, I6 0, .string (S []), .slice none 0 0], I6 2]) ∧ Below w.heap.size w w' := by
 have l1 := eAdv_len 1 l
 have l2 := eAdv_len 1 (eAdv 1 l)
 have l3 := eAdv_len 1 (eAdv 1 (eAdv 1 l))
 have l3' : (eM1 l).length ≤ (eAdv 1 (eAdv 1 l)).length := l3
 have l4 := eAdv_len 2 (eM1 l)
 have l5 := eAdv_len 1 (eAdv 2 (eM1 l))
 have hn5 : (eNum 1 l != 5) = true := by simp only [bne, h5]; rfl
 go_enter Tryz.func22, Tryz.ntmps22
 go_wp2_with fail
 have hr0 : EyeAt _ (w.heap.size + 1) l := EyeAt.alloc (by have := blk_new (w.alloc (.cells #[I6 0, I6 0, I6 0, I6 0, I6 0, I6 0, I6 0, I6 0, .string ⟨#[]⟩, .slice none 0 0] 36)) (.cells #[.string (S l)] 105); simp only [World.size_alloc] at this; exact this) (.cells #[I6 0, I6 0, I6 0, I6 0, I6 0, I6 0, I6 0, I6 0, .string ⟨#[]⟩, .slice none 0 0] 36)
 refine (enumber_any (w.heap.size + 1) 1 l _ hr0 hl (.inl rfl)).mono ?_
 rintro e w1 ⟨rfl, hr1, hk1⟩
 have hm1 := blk_kp hk1 (blk_new _ _) (by simp)
 have hq1 := blk_kp hk1 (blk_alloc (blk_alloc (blk_new _ _) _) _) (by simp)
 simp only [World.size_alloc] at hm1
 have hB1 : Below w.heap.size w w1 := ((((Below.refl _ w).alloc (Nat.le_refl _) _).alloc (by simp) _).alloc (by simp; omega) _).trans (hk1.toBelow (by simp; omega) (fun k e => by injection e with e; omega))
 have hz1 : w.heap.size + 3 ≤ w1.heap.size := by have := hk1.size; simpa using this
 clear hk1 hr0
 have hc := blk_cell hm1
 have hf := blk_free hm1
 go_wp2_with fail
 clear hc hf
 have M0 := blk_set hm1 0 (I6 (eNum 1 l))
 have Q0 := blk_set_other hq1 (a := (A6 (w.heap.size + 2) 0)) (by simp) (I6 (eNum 1 l))
 have R0 := EyeAt.set hr1 (a := (A6 (w.heap.size + 2) 0)) (by simp) (I6 (eNum 1 l))
 have B0 := Below.setCell hB1 (p := (A6 (w.heap.size + 2) 0)) (by simp) (I6 (eNum 1 l))
 refine (enumber_any (w.heap.size + 1) 1 (eAdv 1 l) _ R0 (by omega) (.inl rfl)).mono ?_
 rintro e w2 ⟨rfl, hr2, hk2⟩
 have hB2 := B0.trans (hk2.toBelow (B := w.heap.size) (by simp [World.setCell]; omega) (fun k e => by injection e with e; omega))
 have hz2 : w.heap.size + 3 ≤ w2.heap.size := by have := hk2.size; simp [World.setCell] at this; omega
 have hm2 := blk_kp hk2 M0 (by simp)
 have hq2 := blk_kp hk2 Q0 (by simp)
 clear hk2 hm1 hq1 hr1 hB1 M0 Q0 R0 B0
 have hc := blk_cell hm2
 have hf := blk_free hm2
 go_wp2_with fail
 clear hc hf
 have M0 := blk_set hm2 1 (I6 (eNum 1 (eAdv 1 l)))
 have Q0 := blk_set_other hq2 (a := (A6 (w.heap.size + 2) 1)) (by simp) (I6 (eNum 1 (eAdv 1 l)))
 have R0 := EyeAt.set hr2 (a := (A6 (w.heap.size + 2) 1)) (by simp) (I6 (eNum 1 (eAdv 1 l)))
 have B0 := Below.setCell hB2 (p := (A6 (w.heap.size + 2) 1)) (by simp) (I6 (eNum 1 (eAdv 1 l)))
 refine (enumber_any (w.heap.size + 1) 1 (eAdv 1 (eAdv 1 l)) _ R0 (by omega) (.inl rfl)).mono ?_
 rintro e w3 ⟨rfl, hr3, hk3⟩
 have hB3 := B0.trans (hk3.toBelow (B := w.heap.size) (by simp [World.setCell]; omega) (fun k e => by injection e with e; omega))
 have hz3 : w.heap.size + 3 ≤ w3.heap.size := by have := hk3.size; simp [World.setCell] at this; omega
 have hm3 := blk_kp hk3 M0 (by simp)
 have hq3 := blk_kp hk3 Q0 (by simp)
 clear hk3 hm2 hq2 hr2 hB2 M0 Q0 R0 B0
 have hc := blk_cell hm3
 have hf := blk_free hm3
 go_wp2_with fail
 clear hc hf
 have M0 := blk_set hm3 2 (I6 (eNum 1 (eAdv 1 (eAdv 1 l))))
 have Q0 := blk_set_other hq3 (a := (A6 (w.heap.size + 2) 2)) (by simp) (I6 (eNum 1 (eAdv 1 (eAdv 1 l))))
 have R0 := EyeAt.set hr3 (a := (A6 (w.heap.size + 2) 2)) (by simp) (I6 (eNum 1 (eAdv 1 (eAdv 1 l))))
 have B0 := Below.setCell hB3 (p := (A6 (w.heap.size + 2) 2)) (by simp) (I6 (eNum 1 (eAdv 1 (eAdv 1 l))))
 refine (enumber_any (w.heap.size + 1) 2 (eM1 l) _ R0 (by omega) (.inr rfl)).mono ?_
 rintro e w4 ⟨rfl, hr4, hk4⟩
 have hB4 := B0.trans (hk4.toBelow (B := w.heap.size) (by simp [World.setCell]; omega) (fun k e => by injection e with e; omega))
 have hz4 : w.heap.size + 3 ≤ w4.heap.size := by have := hk4.size; simp [World.setCell] at this; omega
 have hm4 := blk_kp hk4 M0 (by simp)
 have hq4 := blk_kp hk4 Q0 (by simp)
 clear hk4 hm3 hq3 hr3 hB3 M0 Q0 R0 B0
 have hc := blk_cell hm4
 have hf := blk_free hm4
 go_wp2_with fail
 clear hc hf
 have M0 := blk_set hm4 3 (I6 (eNum 2 (eM1 l)))
 have Q0 := blk_set_other hq4 (a := (A6 (w.heap.size + 2) 3)) (by simp) (I6 (eNum 2 (eM1 l)))
 have R0 := EyeAt.set hr4 (a := (A6 (w.heap.size + 2) 3)) (by simp) (I6 (eNum 2 (eM1 l)))
 have B0 := Below.setCell hB4 (p := (A6 (w.heap.size + 2) 3)) (by simp) (I6 (eNum 2 (eM1 l)))
 refine (enumber_any (w.heap.size + 1) 1 (eAdv 2 (eM1 l)) _ R0 (by omega) (.inl rfl)).mono ?_
 rintro e w5 ⟨rfl, hr5, hk5⟩
 have hB5 := B0.trans (hk5.toBelow (B := w.heap.size) (by simp [World.setCell]; omega) (fun k e => by injection e with e; omega))
 have hz5 : w.heap.size + 3 ≤ w5.heap.size := by have := hk5.size; simp [World.setCell] at this; omega
 have hm5 := blk_kp hk5 M0 (by simp)
 have hq5 := blk_kp hk5 Q0 (by simp)
 clear hk5 hm4 hq4 hr4 hB4 M0 Q0 R0 B0
 have hc := blk_cell hm5
 have hf := blk_free hm5
 go_wp2_with fail
 clear hc hf
 have M0 := blk_set hm5 4 (I6 (eNum 1 (eAdv 2 (eM1 l))))
 have Q0 := blk_set_other hq5 (a := (A6 (w.heap.size + 2) 4)) (by simp) (I6 (eNum 1 (eAdv 2 (eM1 l))))
 have R0 := EyeAt.set hr5 (a := (A6 (w.heap.size + 2) 4)) (by simp) (I6 (eNum 1 (eAdv 2 (eM1 l))))
 have B0 := Below.setCell hB5 (p := (A6 (w.heap.size + 2) 4)) (by simp) (I6 (eNum 1 (eAdv 2 (eM1 l))))
 refine (epost_any (w.heap.size + 1) (eAdv 1 (eAdv 2 (eM1 l))) _ R0 (by omega)).mono ?_
 rintro e w6 ⟨rfl, hr6, hk6⟩
 have hB6 := B0.trans (hk6.toBelow (B := w.heap.size) (by simp [World.setCell]; omega) (fun k e => by injection e with e; omega))
 have hz6 : w.heap.size + 3 ≤ w6.heap.size := by have := hk6.size; simp [World.setCell] at this; omega
 have hm6 := blk_kp hk6 M0 (by simp)
 have hq6 := blk_kp hk6 Q0 (by simp)
 clear hk6 hm5 hq5 hr5 hB5 M0 Q0 R0 B0
 have hc := blk_cell hm6
 have hf := blk_free hm6
 go_wp2_with fail
 clear hc hf
 have M0 := blk_set hm6 5 (I6 (ePost (eAdv 1 (eAdv 2 (eM1 l)))).c)
 have Q0 := blk_set_other hq6 (a := (A6 (w.heap.size + 2) 5)) (by simp) (I6 (ePost (eAdv 1 (eAdv 2 (eM1 l)))).c)
 have R0 := EyeAt.set hr6 (a := (A6 (w.heap.size + 2) 5)) (by simp) (I6 (ePost (eAdv 1 (eAdv 2 (eM1 l)))).c)
 have B0 := Below.setCell hB6 (p := (A6 (w.heap.size + 2) 5)) (by simp) (I6 (ePost (eAdv 1 (eAdv 2 (eM1 l)))).c)
 have M1 := blk_set M0 6 (I6 (ePost (eAdv 1 (eAdv 2 (eM1 l)))).q)
 have Q1 := blk_set_other Q0 (a := (A6 (w.heap.size + 2) 6)) (by simp) (I6 (ePost (eAdv 1 (eAdv 2 (eM1 l)))).q)
 have R1 := EyeAt.set R0 (a := (A6 (w.heap.size + 2) 6)) (by simp) (I6 (ePost (eAdv 1 (eAdv 2 (eM1 l)))).q)
 have B1 := Below.setCell B0 (p := (A6 (w.heap.size + 2) 6)) (by simp) (I6 (ePost (eAdv 1 (eAdv 2 (eM1 l)))).q)
 have M2 := blk_set M1 7 (I6 (ePost (eAdv 1 (eAdv 2 (eM1 l)))).h)
 have Q2 := blk_set_other Q1 (a := (A6 (w.heap.size + 2) 7)) (by simp) (I6 (ePost (eAdv 1 (eAdv 2 (eM1 l)))).h)
 have R2 := EyeAt.set R1 (a := (A6 (w.heap.size + 2) 7)) (by simp) (I6 (ePost (eAdv 1 (eAdv 2 (eM1 l)))).h)
 have B2 := Below.setCell B1 (p := (A6 (w.heap.size + 2) 7)) (by simp) (I6 (ePost (eAdv 1 (eAdv 2 (eM1 l)))).h)
 have M3 := blk_set M2 8 (.string (ePost (eAdv 1 (eAdv 2 (eM1 l)))).t)
 have Q3 := blk_set_other Q2 (a := (A6 (w.heap.size + 2) 8)) (by simp) (.string (ePost (eAdv 1 (eAdv 2 (eM1 l)))).t)
 have R3 := EyeAt.set R2 (a := (A6 (w.heap.size + 2) 8)) (by simp) (.string (ePost (eAdv 1 (eAdv 2 (eM1 l)))).t)
 have B3 := Below.setCell B2 (p := (A6 (w.heap.size + 2) 8)) (by simp) (.string (ePost (eAdv 1 (eAdv 2 (eM1 l)))).t)
 have hP := fun W => rpack_any (⟨eNum 1 l, eNum 1 (eAdv 1 l), eNum 1 (eAdv 1 (eAdv 1 l)), eNum 2 (eM1 l), eNum 1 (eAdv 2 (eM1 l)), (ePost (eAdv 1 (eAdv 2 (eM1 l)))), []⟩ : Ms) (.slice none 0 0) W (rvat_nil W)
 dsimp only at hP
 generalize hrb : rmB (⟨eNum 1 l, eNum 1 (eAdv 1 l), eNum 1 (eAdv 1 (eAdv 1 l)), eNum 2 (eM1 l), eNum 1 (eAdv 2 (eM1 l)), (ePost (eAdv 1 (eAdv 2 (eM1 l)))), []⟩ : Ms) = rb at *
 generalize heb : encM (⟨eNum 1 l, eNum 1 (eAdv 1 l), eNum 1 (eAdv 1 (eAdv 1 l)), eNum 2 (eM1 l), eNum 1 (eAdv 2 (eM1 l)), (ePost (eAdv 1 (eAdv 2 (eM1 l)))), []⟩ : Ms) = eb at *
 have HRB := hide hrb
 have HEB := hide heb
 clear hrb heb
 refine (hP _).mono ?_
 rintro e w7 ⟨rfl, hb7⟩
 clear hP
 have hm7 := blk_below hb7 M3
 have hq7 := blk_below hb7 Q3
 have hB7 := B3.trans (hb7.mono (by simp [World.setCell]; omega))
 have hc := blk_cell hm7
 have hqc := blk_cell hq7
 have hqf := blk_free hq7
 cases rb
 ·obtain rfl : false = ok := by simpa using hok
  clear hok
  go_wp2
  refine bodyPost_ret (v := .tuple #[.agg #[I6 0, I6 0, I6 0, I6 0, I6 0, I6 0, I6 0, I6 0, .string (S []), .slice none 0 0], I6 2]) (by simp [results, Tryz.results22, go_sem, hqc, S]) rfl ⟨rfl, ?_⟩
  iterate 10 refine Below.setCell ?_ (by simp) _
  exact hB7
 ·by_cases hel : eb = l
  ·obtain rfl : true = ok := by simpa [hel] using hok
   clear hok
   have hel' : l = eb := hel.symm
   clear hel
   subst hel'
   go_wp2
   refine bodyPost_ret (v := .tuple #[.agg #[I6 (eNum 1 l), I6 (eNum 1 (eAdv 1 l)), I6 (eNum 1 (eAdv 1 (eAdv 1 l))), I6 (eNum 2 (eM1 l)), I6 (eNum 1 (eAdv 2 (eM1 l))), I6 (ePost (eAdv 1 (eAdv 2 (eM1 l)))).c, I6 (ePost (eAdv 1 (eAdv 2 (eM1 l)))).q, I6 (ePost (eAdv 1 (eAdv 2 (eM1 l)))).h, .string (ePost (eAdv 1 (eAdv 2 (eM1 l)))).t, .slice none 0 0], I6 0]) (by simp [results, Tryz.results22, go_sem, hqc, S]) rfl ⟨rfl, ?_⟩
   iterate 10 refine Below.setCell ?_ (by simp) _
   exact hB7
  ·obtain rfl : false = ok := by simpa [hel] using hok
   clear hok
   have hne : ((S eb).toList == (S l).toList) = false := by rw [S_toList, S_toList]; simpa using hel
   have hne' : ¬ (S eb).toList = (S l).toList := by rw [S_toList, S_toList]; exact hel
   go_wp2
   refine bodyPost_ret (v := .tuple #[.agg #[I6 0, I6 0, I6 0, I6 0, I6 0, I6 0, I6 0, I6 0, .string (S []), .slice none 0 0], I6 2]) (by simp [results, Tryz.results22, go_sem, hqc, S]) rfl ⟨rfl, ?_⟩
   iterate 10 refine Below.setCell ?_ (by simp) _
   exact hB7
end
end Go.Proofs.YtnnhnekfokbooaaGreatDoor
