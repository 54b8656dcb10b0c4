/- The plain laws of the document's Unpack: it answers a message just where unB says so, and then the same one. -/
import Derived.Test.YtnnhnekfokbooaaGreatDoorRefD
namespace Go.Proofs.YtnnhnekfokbooaaGreatDoor
open Go.RowKit
set_option linter.unusedSimpArgs false
set_option linter.unusedVariables false

def eVote (l : List UInt8) : Vt := ⟨eNum 1 l, eNum 2 (eAdv 1 l), ePost (eAdv 2 (eAdv 1 l))⟩
def eVoteAft (l : List UInt8) : List UInt8 := eAft (eAdv 2 (eAdv 1 l))
def eVtsAft : Nat → List UInt8 → List UInt8
  | 0, l => l
  | k + 1, l => eVoteAft (eVtsAft k l)
def eVts : Nat → List UInt8 → List Vt
  | 0, _ => []
  | k + 1, l => eVts k l ++ [eVote (eVtsAft k l)]
theorem eVts_length (k : Nat) (l : List UInt8) : (eVts k l).length = k := by
  induction k with
  | zero => rfl
  | succ k ih => simp [eVts, ih]

/-- The message that the document's Unpack reads, part by part. -/
def eM1 (l : List UInt8) : List UInt8 := eAdv 1 (eAdv 1 (eAdv 1 l))
def eBal (k : Int) (l : List UInt8) : Int := if k = 5 then 0 else eNum 2 l
def eBalAft (k : Int) (l : List UInt8) : List UInt8 := if k = 5 then l else eAdv 2 l
def eSlo (k : Int) (l : List UInt8) : Int := if hasS k then eNum 1 l else 0
def eSloAft (k : Int) (l : List UInt8) : List UInt8 := if hasS k then eAdv 1 l else l
def eVau (k : Int) (l : List UInt8) : Pst := if hasV k then ePost l else ⟨0, 0, 0, S []⟩
def eVauAft (k : Int) (l : List UInt8) : List UInt8 := if hasV k then eAft l else l
def eAcc (k : Int) (l : List UInt8) : List Vt := if hasA k then eVts (eNum 1 l).toNat (eAdv 1 l) else []
def eMsg (l : List UInt8) : Ms := ⟨eNum 1 l, eNum 1 (eAdv 1 l), eNum 1 (eAdv 1 (eAdv 1 l)), eBal (eNum 1 l) (eM1 l), eSlo (eNum 1 l) (eBalAft (eNum 1 l) (eM1 l)), eVau (eNum 1 l) (eSloAft (eNum 1 l) (eBalAft (eNum 1 l) (eM1 l))),
  eAcc (eNum 1 l) (eVauAft (eNum 1 l) (eSloAft (eNum 1 l) (eBalAft (eNum 1 l) (eM1 l))))⟩

theorem eNum1_enc (n : Int) (h0 : 0 ≤ n) (h1 : n < 256) (r : List UInt8) : eNum 1 (encA 1 [n] ++ r) = n := by
  have h := num1_enc n h0 h1 r false
  simp only [Rs.num] at h
  have hl : ¬ (encA 1 [n] ++ r).length < 1 := by simp [encA, encN]
  rw [eNum, if_neg hl]; exact h
theorem eAdv1_enc (n : Int) (r : List UInt8) : eAdv 1 (encA 1 [n] ++ r) = r := by
  have hl : ¬ (encA 1 [n] ++ r).length < 1 := by simp [encA, encN]
  rw [eAdv, if_neg hl]; simp [encA, encN]
theorem eNum2_enc (n : Int) (h0 : 0 ≤ n) (h1 : n < 65536) (r : List UInt8) : eNum 2 (encA 2 [n] ++ r) = n := by
  have h := num2_enc n h0 h1 r false
  simp only [Rs.num] at h
  have hl : ¬ (encA 2 [n] ++ r).length < 2 := by simp [encA, encN]
  rw [eNum, if_neg hl]; exact h
theorem eAdv2_enc (n : Int) (r : List UInt8) : eAdv 2 (encA 2 [n] ++ r) = r := by
  have hl : ¬ (encA 2 [n] ++ r).length < 2 := by simp [encA, encN]
  rw [eAdv, if_neg hl]; simp [encA, encN]
theorem ePost_enc (p : Pst) (h : rightValueB p = true) (r : List UInt8) : ePost (encV p ++ r) = p ∧ eAft (encV p ++ r) = r := by
  cases hn : nothingB p
  · have hp : rightPostB p = true := by simpa [rightValueB, hn] using h
    simp only [rightPostB, Bool.and_eq_true] at hp
    obtain ⟨⟨⟨p1, p2⟩, p3⟩, p4⟩ := hp
    have b1 := withinB_true p1; have b2 := withinB_true p2; have b3 := withinB_true p3
    have b4 : p.t.size ≤ 12 := by simp at p4; omega
    have hl : p.t.data.toList.length = p.t.size := by rw [Array.length_toList]; rfl
    have e : encV p ++ r = encA 1 [p.c] ++ (encA 2 [p.q] ++ (encA 1 [p.h] ++ (encA 1 [(p.t.size : Int)] ++ (p.t.data.toList ++ r)))) := by simp [encV, hn, encA_two]
    rw [e]
    have e0 : ¬ eNum 1 (encA 1 [p.c] ++ (encA 2 [p.q] ++ (encA 1 [p.h] ++ (encA 1 [(p.t.size : Int)] ++ (p.t.data.toList ++ r))))) = 0 := by rw [eNum1_enc _ (by omega) (by omega)]; omega
    unfold ePost eAft eLen eTxt
    rw [if_neg e0, if_neg e0]
    simp only [eAdv1_enc, eAdv2_enc]
    rw [eNum1_enc _ (by omega) (by omega), eNum2_enc _ (by omega) (by omega), eNum1_enc _ (by omega) (by omega), eNum1_enc _ (by omega) (by omega)]
    rw [Int.toNat_natCast, ← hl]
    have hm : min p.t.data.toList.length (p.t.data.toList ++ r).length = p.t.data.toList.length := by rw [List.length_append]; omega
    rw [hm]
    refine ⟨?_, ?_⟩
    · rw [List.take_left' rfl, S_eta]
    · rw [List.drop_left' rfl]
  · obtain rfl := nothing_eq hn
    have e : encV ⟨0, 0, 0, S []⟩ ++ r = encA 1 [0] ++ r := by simp [encV, hn]
    rw [e]
    have e0 : eNum 1 (encA 1 [0] ++ r) = 0 := eNum1_enc 0 (by omega) (by omega) r
    unfold ePost eAft
    rw [if_pos e0, if_pos e0, eAdv1_enc]
    exact ⟨rfl, rfl⟩
theorem eVtsAft_succ (k : Nat) (l : List UInt8) : eVtsAft (k + 1) l = eVtsAft k (eVoteAft l) := by
  induction k with
  | zero => rfl
  | succ k ih => show eVoteAft (eVtsAft (k + 1) l) = eVoteAft (eVtsAft k (eVoteAft l)); rw [ih]
theorem eVts_succ (k : Nat) (l : List UInt8) : eVts (k + 1) l = eVote l :: eVts k (eVoteAft l) := by
  induction k with
  | zero => rfl
  | succ k ih =>
    show eVts (k + 1) l ++ [eVote (eVtsAft (k + 1) l)] = eVote l :: (eVts k (eVoteAft l) ++ [eVote (eVtsAft k (eVoteAft l))])
    rw [ih, eVtsAft_succ]; rfl
theorem eVts_enc : ∀ (a : List Vt), (∀ x ∈ a, (0 ≤ x.s ∧ x.s ≤ 15) ∧ (1 ≤ x.b ∧ x.b ≤ 8007) ∧ rightValueB x.p = true) → ∀ (r : List UInt8), eVts a.length (encVs a ++ r) = a
  | [], _, r => rfl
  | x :: a, h, r => by
    obtain ⟨h1, h2, h3⟩ := h x List.mem_cons_self
    have e : encVs (x :: a) ++ r = encA 1 [x.s] ++ (encA 2 [x.b] ++ (encV x.p ++ (encVs a ++ r))) := by simp [encVs, encX]
    rw [List.length_cons, eVts_succ, e]
    have hv := ePost_enc x.p h3 (encVs a ++ r)
    have e1 : eVote (encA 1 [x.s] ++ (encA 2 [x.b] ++ (encV x.p ++ (encVs a ++ r)))) = x := by
      unfold eVote
      rw [eNum1_enc _ (by omega) (by omega), eAdv1_enc, eNum2_enc _ (by omega) (by omega), eAdv2_enc, hv.1]
    have e2 : eVoteAft (encA 1 [x.s] ++ (encA 2 [x.b] ++ (encV x.p ++ (encVs a ++ r)))) = encVs a ++ r := by
      unfold eVoteAft
      rw [eAdv1_enc, eAdv2_enc, hv.2]
    rw [e1, e2, eVts_enc a (fun y hy => h y (List.mem_cons_of_mem _ hy)) r]

theorem eMsg_enc (m : Ms) (h : rmB m = true) : eMsg (encM m) = m := by
  simp only [rmB, Bool.and_eq_true] at h
  obtain ⟨⟨⟨⟨⟨⟨r1, r2⟩, r3⟩, r4⟩, r5⟩, r6⟩, r7⟩ := h
  have b1 := withinB_true r1
  have b2 := withinB_true r2
  have b3 := withinB_true r3
  generalize hB : (if hasB m.k then encA 2 [m.b] else []) = eb
  generalize hS : (if hasS m.k then encA 1 [m.s] else []) = es
  generalize hV : (if hasV m.k then encV m.p else []) = ev
  generalize hA : (if hasA m.k then encA 1 [(m.a.length : Int)] ++ encVs m.a else []) = ea
  have e : encM m = encA 1 [m.k] ++ (encA 1 [m.f] ++ (encA 1 [m.t] ++ (eb ++ (es ++ (ev ++ ea))))) := by
    unfold encM
    rw [hB, hS, hV, hA, encA_three]
    simp only [List.append_assoc]
  rw [e]
  have k1 : eNum 1 (encA 1 [m.k] ++ (encA 1 [m.f] ++ (encA 1 [m.t] ++ (eb ++ (es ++ (ev ++ ea)))))) = m.k := eNum1_enc _ (by omega) (by omega) _
  have k2 : eM1 (encA 1 [m.k] ++ (encA 1 [m.f] ++ (encA 1 [m.t] ++ (eb ++ (es ++ (ev ++ ea)))))) = eb ++ (es ++ (ev ++ ea)) := by
    unfold eM1; rw [eAdv1_enc, eAdv1_enc, eAdv1_enc]
  have hb5 : hasB m.k = decide (m.k ≠ 5) := by
    rcases (show m.k = 1 ∨ m.k = 2 ∨ m.k = 3 ∨ m.k = 4 ∨ m.k = 5 ∨ m.k = 6 from by omega) with e | e | e | e | e | e <;> rw [e] <;> rfl
  have kb : eBal m.k (eb ++ (es ++ (ev ++ ea))) = m.b ∧ eBalAft m.k (eb ++ (es ++ (ev ++ ea))) = es ++ (ev ++ ea) := by
    unfold eBal eBalAft
    by_cases h5 : m.k = 5
    · have hb : hasB m.k = false := by rw [hb5]; simp [h5]
      rw [hb] at r4 hB; subst hB
      have : m.b = 0 := by simpa [fitsB] using r4
      simp [this, h5]
    · have hb : hasB m.k = true := by rw [hb5]; simp [h5]
      rw [hb] at r4 hB; subst hB
      have := withinB_true (show withinB m.b 1 8007 = true from r4)
      rw [if_neg h5, if_neg h5]
      simp only [if_true]
      exact ⟨eNum2_enc _ (by omega) (by omega) _, eAdv2_enc _ _⟩
  have ks : eSlo m.k (es ++ (ev ++ ea)) = m.s ∧ eSloAft m.k (es ++ (ev ++ ea)) = ev ++ ea := by
    unfold eSlo eSloAft
    cases hb : hasS m.k
    · rw [hb] at r5 hS; subst hS
      have : m.s = 0 := by simpa [fitsB] using r5
      simp [this]
    · rw [hb] at r5 hS; subst hS
      have := withinB_true (show withinB m.s 0 15 = true from r5)
      simp only [if_true]
      exact ⟨eNum1_enc _ (by omega) (by omega) _, eAdv1_enc _ _⟩
  have kv : eVau m.k (ev ++ ea) = m.p ∧ eVauAft m.k (ev ++ ea) = ea := by
    unfold eVau eVauAft
    cases hb : hasV m.k
    · rw [hb] at r6 hV; subst hV
      have := nothing_eq (show nothingB m.p = true from r6)
      simp [this]
    · rw [hb] at r6 hV; subst hV
      simp only [if_true]
      exact ePost_enc m.p (show rightValueB m.p = true from r6) _
  have ka : eAcc m.k ea = m.a := by
    unfold eAcc
    cases hb : hasA m.k
    · rw [hb] at r7 hA; subst hA
      have : m.a = [] := by simpa [fitsB] using r7
      simp [this]
    · rw [hb] at r7 hA; subst hA
      obtain ⟨c8, c9⟩ := rvB_ok m.a (-1) (by omega) (show rvB (-1) m.a = true from r7)
      have c9' := c9 (by omega)
      simp only [if_true]
      rw [eNum1_enc _ (by omega) (by omega), eAdv1_enc, Int.toNat_natCast]
      have := eVts_enc m.a (fun x hx => (c8 x hx).2) []
      rw [List.append_nil] at this
      exact this
  unfold eMsg
  rw [k1, k2, kb.1, kb.2, ks.1, ks.2, kv.1, kv.2, ka, eAdv1_enc, eAdv1_enc, eNum1_enc _ (by omega) (by omega), eNum1_enc _ (by omega) (by omega)]

/-- The document's test, by its own Pack, is unB; and where it says yes the two messages are one. -/
theorem e_ok (l : List UInt8) : (rmB (eMsg l) && decide (encM (eMsg l) = l)) = unB l := by
  cases hu : unB l
  · cases hx : (rmB (eMsg l) && decide (encM (eMsg l) = l))
    · rfl
    · rw [Bool.and_eq_true] at hx
      have h1 := enc_un hx.1
      have h2 : encM (eMsg l) = l := by simpa using hx.2
      rw [h2, hu] at h1
      exact absurd h1.1 (by simp)
  · obtain ⟨h1, h2⟩ := un_enc hu
    have h3 := eMsg_enc _ h2
    rw [h1] at h3
    rw [h3, h1, h2]; simp
theorem e_msg {l : List UInt8} (hu : unB l = true) : eMsg l = Rs.msg ⟨l, false⟩ := by
  obtain ⟨h1, h2⟩ := un_enc hu
  have h3 := eMsg_enc _ h2
  rwa [h1] at h3
end Go.Proofs.YtnnhnekfokbooaaGreatDoor
