/- The plain laws of messages as bytes: what is packed is read as it was; what is read was packed so. -/
import Derived.Test.YtnnhnekfokbooaaGreatDoorWalkJ
import Derived.Test.YtnnhnekfokbooaaGreatDoorWalkR
namespace Go.Proofs.YtnnhnekfokbooaaGreatDoor
open Go.RowKit
set_option linter.unusedSimpArgs false
set_option linter.unusedVariables false

/-! ### What is packed is read as it was -/
theorem num1_enc (n : Int) (h0 : 0 ≤ n) (h1 : n < 256) (r : List UInt8) (sh : Bool) : Rs.num 1 ⟨encA 1 [n] ++ r, sh⟩ = n := by
  simp [Rs.num, encA, encN, numOf, byteOf_nat]; omega
theorem adv1_enc (n : Int) (r : List UInt8) (sh : Bool) : Rs.adv 1 ⟨encA 1 [n] ++ r, sh⟩ = ⟨r, sh⟩ := by
  simp [Rs.adv, encA, encN]
theorem num2_enc (n : Int) (h0 : 0 ≤ n) (h1 : n < 65536) (r : List UInt8) (sh : Bool) : Rs.num 2 ⟨encA 2 [n] ++ r, sh⟩ = n := by
  simp [Rs.num, encA, encN, numOf, byteOf_nat]; omega
theorem adv2_enc (n : Int) (r : List UInt8) (sh : Bool) : Rs.adv 2 ⟨encA 2 [n] ++ r, sh⟩ = ⟨r, sh⟩ := by
  simp [Rs.adv, encA, encN]; omega

theorem nothing_eq {p : Pst} (h : nothingB p = true) : p = ⟨0, 0, 0, S []⟩ := by
  obtain ⟨c, q, hh, t⟩ := p
  simp [nothingB] at h
  obtain ⟨⟨⟨h1, h2⟩, h3⟩, h4⟩ := h
  rw [← S_eta t, S_toList] at h4
  rw [← S_eta t, h4, h1, h2, h3]
theorem encA_two (a b : Int) : encA 1 [a, b] = encA 1 [a] ++ encA 1 [b] := by simp [encA]
theorem encA_three (a b c : Int) : encA 1 [a, b, c] = encA 1 [a] ++ (encA 1 [b] ++ encA 1 [c]) := by simp [encA]
theorem val_enc (p : Pst) (h : rightValueB p = true) (r : List UInt8) (sh : Bool) : Rs.val ⟨encV p ++ r, sh⟩ = p ∧ Rs.aft ⟨encV p ++ r, sh⟩ = ⟨r, sh⟩ := by
  cases hn : nothingB p
  · have hp : rightPostB p = true := by simpa [rightValueB, hn] using h
    simp only [rightPostB, Bool.and_eq_true] at hp
    obtain ⟨⟨⟨p1, p2⟩, p3⟩, p4⟩ := hp
    have b1 := withinB_true p1; have b2 := withinB_true p2; have b3 := withinB_true p3
    have b4 : p.t.size ≤ 12 := by simp at p4; omega
    have hl : p.t.data.toList.length = p.t.size := by rw [Array.length_toList]; rfl
    have e : encV p ++ r = encA 1 [p.c] ++ (encA 2 [p.q] ++ (encA 1 [p.h] ++ (encA 1 [(p.t.size : Int)] ++ (p.t.data.toList ++ r)))) := by simp [encV, hn, encA_two]
    rw [e]
    have e0 : ¬ Rs.num 1 ⟨encA 1 [p.c] ++ (encA 2 [p.q] ++ (encA 1 [p.h] ++ (encA 1 [(p.t.size : Int)] ++ (p.t.data.toList ++ r)))), sh⟩ = 0 := by rw [num1_enc _ (by omega) (by omega)]; omega
    unfold Rs.val Rs.aft Rs.txt
    rw [if_neg e0, if_neg e0]
    simp only [adv1_enc, adv2_enc]
    rw [num1_enc _ (by omega) (by omega), num2_enc _ (by omega) (by omega), num1_enc _ (by omega) (by omega), num1_enc _ (by omega) (by omega)]
    rw [Int.toNat_natCast, ← hl]
    refine ⟨?_, ?_⟩
    · simp only [List.take_left', List.take_left]
      rw [S_eta]
    · simp [Rs.adv]; intro hh; omega
  · obtain rfl := nothing_eq hn
    have e : encV ⟨0, 0, 0, S []⟩ ++ r = encA 1 [0] ++ r := by simp [encV, hn]
    rw [e]
    have e0 : Rs.num 1 ⟨encA 1 [0] ++ r, sh⟩ = 0 := num1_enc 0 (by omega) (by omega) r sh
    unfold Rs.val Rs.aft
    rw [if_pos e0, if_pos e0, adv1_enc]
    exact ⟨rfl, rfl⟩

theorem vtsAft_succ (k : Nat) (s : Rs) : Rs.vtsAft (k + 1) s = Rs.vtsAft k s.voteAft := by
  induction k with
  | zero => rfl
  | succ k ih => show (Rs.vtsAft (k + 1) s).voteAft = (Rs.vtsAft k s.voteAft).voteAft; rw [ih]
theorem vts_succ (k : Nat) (s : Rs) : Rs.vts (k + 1) s = s.vote :: Rs.vts k s.voteAft := by
  induction k with
  | zero => rfl
  | succ k ih =>
    show Rs.vts (k + 1) s ++ [(Rs.vtsAft (k + 1) s).vote] = s.vote :: (Rs.vts k s.voteAft ++ [(Rs.vtsAft k s.voteAft).vote])
    rw [ih, vtsAft_succ]; rfl
theorem vts_enc : ∀ (l : List Vt), (∀ x ∈ l, (0 ≤ x.s ∧ x.s ≤ 15) ∧ (1 ≤ x.b ∧ x.b ≤ 8007) ∧ rightValueB x.p = true) → ∀ (r : List UInt8) (sh : Bool),
    Rs.vts l.length ⟨encVs l ++ r, sh⟩ = l ∧ Rs.vtsAft l.length ⟨encVs l ++ r, sh⟩ = ⟨r, sh⟩
  | [], _, r, sh => ⟨rfl, rfl⟩
  | x :: l, h, r, sh => by
    obtain ⟨h1, h2, h3⟩ := h x List.mem_cons_self
    have e : encVs (x :: l) ++ r = encA 1 [x.s] ++ (encA 2 [x.b] ++ (encV x.p ++ (encVs l ++ r))) := by simp [encVs, encX]
    rw [List.length_cons, vts_succ, vtsAft_succ, e]
    have hv := val_enc x.p h3 (encVs l ++ r) sh
    have e1 : Rs.vote ⟨encA 1 [x.s] ++ (encA 2 [x.b] ++ (encV x.p ++ (encVs l ++ r))), sh⟩ = x := by
      unfold Rs.vote
      rw [num1_enc _ (by omega) (by omega), adv1_enc, num2_enc _ (by omega) (by omega), adv2_enc, hv.1]
    have e2 : Rs.voteAft ⟨encA 1 [x.s] ++ (encA 2 [x.b] ++ (encV x.p ++ (encVs l ++ r))), sh⟩ = ⟨encVs l ++ r, sh⟩ := by
      unfold Rs.voteAft
      rw [adv1_enc, adv2_enc, hv.2]
    rw [e1, e2]
    obtain ⟨i1, i2⟩ := vts_enc l (fun y hy => h y (List.mem_cons_of_mem _ hy)) r sh
    exact ⟨by rw [i1], i2⟩

/-- What is packed is read as it was, whatever stands behind it. -/
theorem msg_enc (m : Ms) (h : rmB m = true) (r : List UInt8) (sh : Bool) : Rs.msg ⟨encM m ++ r, sh⟩ = m ∧ Rs.msgAft ⟨encM m ++ r, sh⟩ = ⟨r, sh⟩ := by
  simp only [rmB, Bool.and_eq_true] at h
  obtain ⟨⟨⟨⟨⟨⟨r1, r2⟩, r3⟩, r4⟩, r5⟩, r6⟩, r7⟩ := h
  have b1 := withinB_true r1
  have b2 := withinB_true r2
  have b3 := withinB_true r3
  generalize hB : (if hasB m.k then encA 2 [m.b] else []) = eb
  generalize hS : (if hasS m.k then encA 1 [m.s] else []) = es
  generalize hV : (if hasV m.k then encV m.p else []) = ev
  generalize hA : (if hasA m.k then encA 1 [(m.a.length : Int)] ++ encVs m.a else []) = ea
  have e : encM m ++ r = encA 1 [m.k] ++ (encA 1 [m.f] ++ (encA 1 [m.t] ++ (eb ++ (es ++ (ev ++ (ea ++ r)))))) := by
    unfold encM
    rw [hB, hS, hV, hA, encA_three]
    simp only [List.append_assoc]
  rw [e]
  have k1 : Rs.num 1 ⟨encA 1 [m.k] ++ (encA 1 [m.f] ++ (encA 1 [m.t] ++ (eb ++ (es ++ (ev ++ (ea ++ r)))))), sh⟩ = m.k := num1_enc _ (by omega) (by omega) _ _
  have k2 : Rs.m1 ⟨encA 1 [m.k] ++ (encA 1 [m.f] ++ (encA 1 [m.t] ++ (eb ++ (es ++ (ev ++ (ea ++ r)))))), sh⟩ = ⟨eb ++ (es ++ (ev ++ (ea ++ r))), sh⟩ := by
    unfold Rs.m1; rw [adv1_enc, adv1_enc, adv1_enc]
  have kb : Rs.bal m.k ⟨eb ++ (es ++ (ev ++ (ea ++ r))), sh⟩ = m.b ∧ Rs.balAft m.k ⟨eb ++ (es ++ (ev ++ (ea ++ r))), sh⟩ = ⟨es ++ (ev ++ (ea ++ r)), sh⟩ := by
    unfold Rs.bal Rs.balAft
    cases hb : hasB m.k
    · rw [hb] at r4 hB; subst hB
      have : m.b = 0 := by simpa [fitsB] using r4
      simp [this]
    · rw [hb] at r4 hB; subst hB
      have := withinB_true (show withinB m.b 1 8007 = true from r4)
      simp only [if_true]
      exact ⟨num2_enc _ (by omega) (by omega) _ _, adv2_enc _ _ _⟩
  have ks : Rs.slo m.k ⟨es ++ (ev ++ (ea ++ r)), sh⟩ = m.s ∧ Rs.sloAft m.k ⟨es ++ (ev ++ (ea ++ r)), sh⟩ = ⟨ev ++ (ea ++ r), sh⟩ := by
    unfold Rs.slo Rs.sloAft
    cases hb : hasS m.k
    · rw [hb] at r5 hS; subst hS
      have : m.s = 0 := by simpa [fitsB] using r5
      simp [this]
    · rw [hb] at r5 hS; subst hS
      have := withinB_true (show withinB m.s 0 15 = true from r5)
      simp only [if_true]
      exact ⟨num1_enc _ (by omega) (by omega) _ _, adv1_enc _ _ _⟩
  have kv : Rs.vau m.k ⟨ev ++ (ea ++ r), sh⟩ = m.p ∧ Rs.vauAft m.k ⟨ev ++ (ea ++ r), sh⟩ = ⟨ea ++ r, sh⟩ := by
    unfold Rs.vau Rs.vauAft
    cases hb : hasV m.k
    · rw [hb] at r6 hV; subst hV
      have := nothing_eq (show nothingB m.p = true from r6)
      simp [this]
    · rw [hb] at r6 hV; subst hV
      simp only [if_true]
      exact val_enc m.p (show rightValueB m.p = true from r6) _ _
  have ka : Rs.acc m.k ⟨ea ++ r, sh⟩ = m.a ∧ Rs.accAft m.k ⟨ea ++ r, sh⟩ = ⟨r, sh⟩ := by
    unfold Rs.acc Rs.accAft
    cases hb : hasA m.k
    · rw [hb] at r7 hA; subst hA
      have : m.a = [] := by simpa [fitsB] using r7
      simp [this]
    · rw [hb] at r7 hA; subst hA
      obtain ⟨c8, c9⟩ := rvB_ok m.a (-1) (by omega) (show rvB (-1) m.a = true from r7)
      have c9' := c9 (by omega)
      simp only [if_true, List.append_assoc]
      rw [num1_enc _ (by omega) (by omega), adv1_enc, Int.toNat_natCast]
      exact vts_enc m.a (fun x hx => (c8 x hx).2) r sh
  unfold Rs.msg Rs.msgAft
  rw [k1, k2, kb.1, kb.2, ks.1, ks.2, kv.1, kv.2, ka.1, ka.2, adv1_enc, adv1_enc, num1_enc _ (by omega) (by omega), num1_enc _ (by omega) (by omega)]
  exact ⟨rfl, rfl⟩

/-! ### What is read was packed so -/
theorem byteOf_byte (a : UInt8) : byteOf (a.toNat : Int) = a := by
  apply UInt8.toNat_inj.1
  have h := byteOf_nat (a.toNat : Int)
  have := byte_lt a
  omega
theorem read1 (s : Rs) (h : (s.adv 1).sh = false) : s.sh = false ∧ s.l = encA 1 [s.num 1] ++ (s.adv 1).l := by
  obtain ⟨l, sh⟩ := s
  rcases l with _ | ⟨a, l⟩
  · simp [Rs.adv] at h
  · simp [Rs.adv] at h
    simp [Rs.adv, Rs.num, numOf, encA, encN, byteOf_byte, h]
theorem read2 (s : Rs) (h : (s.adv 2).sh = false) : s.sh = false ∧ s.l = encA 2 [s.num 2] ++ (s.adv 2).l := by
  obtain ⟨l, sh⟩ := s
  rcases l with _ | ⟨a, _ | ⟨b, l⟩⟩
  · simp [Rs.adv] at h
  · simp [Rs.adv] at h
  · have h1 := byte_lt a
    have h2 := byte_lt b
    have e1 : byteOf ((a.toNat : Int) + 256 * (b.toNat : Int)) = a := by
      apply UInt8.toNat_inj.1
      have h := byteOf_nat ((a.toNat : Int) + 256 * (b.toNat : Int))
      omega
    have e2 : ((a.toNat : Int) + 256 * (b.toNat : Int)) / 256 = (b.toNat : Int) := by omega
    simp [Rs.adv] at h
    have h' : sh = false := by
      cases sh
      · rfl
      · simp at h
    simp [Rs.adv, Rs.num, numOf, encA, encN, e1, e2, byteOf_byte, h']
theorem nothing_not {c q h : Int} {t : ByteArray} (hc : c ≠ 0) : nothingB ⟨c, q, h, t⟩ = false := by simp [nothingB, hc]
theorem readV (s : Rs) (h : s.aft.sh = false) : s.sh = false ∧ s.l = encV s.val ++ s.aft.l := by
  by_cases h0 : s.num 1 = 0
  · have e1 : s.val = ⟨0, 0, 0, S []⟩ := by simp [Rs.val, h0]
    have e2 : s.aft = s.adv 1 := by simp [Rs.aft, h0]
    rw [e2] at h
    obtain ⟨i1, i2⟩ := read1 s h
    refine ⟨i1, ?_⟩
    rw [e1, e2]
    have e3 : encV ⟨0, 0, 0, S []⟩ = encA 1 [0] := by
      have : nothingB ⟨0, 0, 0, S []⟩ = true := by simp [nothingB, S]
      simp [encV, this]
    rw [e3, ← h0]; exact i2
  · have e1 : s.val = ⟨s.num 1, (s.adv 1).num 2, ((s.adv 1).adv 2).num 1, S (s.txt.l.take ((((s.adv 1).adv 2).adv 1).num 1).toNat)⟩ := by simp [Rs.val, h0]
    have e2 : s.aft = s.txt.adv ((((s.adv 1).adv 2).adv 1).num 1).toNat := by simp [Rs.aft, h0]
    have hn0 := num_nonneg 1 (((s.adv 1).adv 2).adv 1)
    rw [e2] at h
    rw [e1, e2]
    generalize hn : (((s.adv 1).adv 2).adv 1).num 1 = n at *
    obtain ⟨n, rfl⟩ := Int.eq_ofNat_of_zero_le hn0
    rw [Int.toNat_natCast] at *
    have ht : s.txt.sh = false ∧ n ≤ s.txt.l.length := by
      simp [Rs.adv] at h; exact h
    have q4 := read1 (((s.adv 1).adv 2).adv 1) ht.1
    have q3 := read1 ((s.adv 1).adv 2) q4.1
    have q2 := read2 (s.adv 1) q3.1
    have q1 := read1 s q2.1
    refine ⟨q1.1, ?_⟩
    have hsz : (S (s.txt.l.take n)).size = n := by rw [S_size]; simp; omega
    have hno : nothingB ⟨s.num 1, (s.adv 1).num 2, ((s.adv 1).adv 2).num 1, S (s.txt.l.take n)⟩ = false := nothing_not h0
    have hda : (S (s.txt.l.take n)).data.toList = s.txt.l.take n := by simp [S]
    simp only [encV, hno, hsz, hda, encA_two]
    have q5 : (((s.adv 1).adv 2).adv 1).l = encA 1 [(n : Int)] ++ s.txt.l := by rw [q4.2, hn]; rfl
    rw [q1.2, q2.2, q3.2, q5]
    simp only [Bool.false_eq_true, if_false, List.append_assoc, Rs.adv, List.take_append_drop]
theorem readX (s : Rs) (h : s.voteAft.sh = false) : s.sh = false ∧ s.l = encX s.vote ++ s.voteAft.l := by
  have q3 := readV ((s.adv 1).adv 2) h
  have q2 := read2 (s.adv 1) q3.1
  have q1 := read1 s q2.1
  refine ⟨q1.1, ?_⟩
  show s.l = (encA 1 [s.num 1] ++ encA 2 [(s.adv 1).num 2] ++ encV ((s.adv 1).adv 2).val) ++ ((s.adv 1).adv 2).aft.l
  rw [q1.2, q2.2, q3.2]
  simp only [List.append_assoc]
theorem readVs (k : Nat) (s : Rs) (h : (Rs.vtsAft k s).sh = false) : s.sh = false ∧ s.l = encVs (Rs.vts k s) ++ (Rs.vtsAft k s).l := by
  induction k with
  | zero => exact ⟨h, rfl⟩
  | succ k ih =>
    obtain ⟨q1, q2⟩ := readX (Rs.vtsAft k s) h
    obtain ⟨i1, i2⟩ := ih q1
    refine ⟨i1, ?_⟩
    show s.l = encVs (Rs.vts k s ++ [(Rs.vtsAft k s).vote]) ++ (Rs.vtsAft k s).voteAft.l
    rw [encVs_append, i2, q2]
    simp [encVs]
theorem readM (s : Rs) (h : s.msgAft.sh = false) : s.sh = false ∧ s.l = encM s.msg ++ s.msgAft.l := by
  generalize hk : s.num 1 = k
  have eA : s.msgAft = (((s.m1.balAft k).sloAft k).vauAft k).accAft k := by unfold Rs.msgAft; rw [hk]
  have eM : s.msg = ⟨k, (s.adv 1).num 1, ((s.adv 1).adv 1).num 1, s.m1.bal k, (s.m1.balAft k).slo k, ((s.m1.balAft k).sloAft k).vau k, (((s.m1.balAft k).sloAft k).vauAft k).acc k⟩ := by unfold Rs.msg; rw [hk]
  rw [eA] at h
  rw [eA, eM]
  generalize hs1 : s.m1.balAft k = s1 at *
  generalize hs2 : s1.sloAft k = s2 at *
  generalize hs3 : s2.vauAft k = s3 at *
  have q4 : s3.sh = false ∧ s3.l = (if hasA k then encA 1 [((s3.acc k).length : Int)] ++ encVs (s3.acc k) else []) ++ (s3.accAft k).l := by
    unfold Rs.acc Rs.accAft at *
    cases hb : hasA k
    · rw [hb] at h; simpa using h
    · rw [hb] at h
      simp only [if_true] at h ⊢
      have j2 := readVs _ _ h
      have j1 := read1 s3 j2.1
      refine ⟨j1.1, ?_⟩
      have hn : ((s3.num 1).toNat : Int) = s3.num 1 := Int.toNat_of_nonneg (num_nonneg 1 s3)
      rw [vts_length, hn, List.append_assoc, ← j2.2]
      exact j1.2
  have q3 : s2.sh = false ∧ s2.l = (if hasV k then encV (s2.vau k) else []) ++ s3.l := by
    have hx := q4.1
    rw [← hs3] at hx ⊢
    unfold Rs.vau Rs.vauAft at *
    cases hb : hasV k
    · rw [hb] at hx; simpa using hx
    · rw [hb] at hx
      simp only [if_true] at hx ⊢
      exact readV s2 hx
  have q2 : s1.sh = false ∧ s1.l = (if hasS k then encA 1 [s1.slo k] else []) ++ s2.l := by
    have hx := q3.1
    rw [← hs2] at hx ⊢
    unfold Rs.slo Rs.sloAft at *
    cases hb : hasS k
    · rw [hb] at hx; simpa using hx
    · rw [hb] at hx
      simp only [if_true] at hx ⊢
      exact read1 s1 hx
  have q1 : s.m1.sh = false ∧ s.m1.l = (if hasB k then encA 2 [s.m1.bal k] else []) ++ s1.l := by
    have hx := q2.1
    rw [← hs1] at hx ⊢
    unfold Rs.bal Rs.balAft at *
    cases hb : hasB k
    · rw [hb] at hx; simpa using hx
    · rw [hb] at hx
      simp only [if_true] at hx ⊢
      exact read2 s.m1 hx
  have p3 := read1 ((s.adv 1).adv 1) q1.1
  have p2 := read1 (s.adv 1) p3.1
  have p1 := read1 s p2.1
  refine ⟨p1.1, ?_⟩
  have p3' : ((s.adv 1).adv 1).l = encA 1 [((s.adv 1).adv 1).num 1] ++ s.m1.l := p3.2
  rw [p1.2, p2.2, p3', q1.2, q2.2, q3.2, q4.2, hk]
  unfold encM
  simp only [encA_three, List.append_assoc]

/-- What is unpacked is packed as it stood. -/
theorem un_enc {l : List UInt8} (h : unB l = true) : encM (Rs.msg ⟨l, false⟩) = l ∧ rmB (Rs.msg ⟨l, false⟩) = true := by
  simp only [unB, Bool.and_eq_true] at h
  obtain ⟨⟨h1, h2⟩, h3⟩ := h
  have h2' : (Rs.msgAft ⟨l, false⟩).l = [] := by simpa using h2
  have q := (readM ⟨l, false⟩ (by simpa using h1)).2
  rw [h2', List.append_nil] at q
  exact ⟨q.symm, h3⟩
/-- What is packed is unpacked as it was. -/
theorem enc_un {m : Ms} (h : rmB m = true) : unB (encM m) = true ∧ Rs.msg ⟨encM m, false⟩ = m := by
  have e := msg_enc m h [] false
  rw [List.append_nil] at e
  exact ⟨by simp [unB, e.1, e.2, h], e.1⟩
/-- What is cut is no message. -/
theorem cut_un {m : Ms} (h : rmB m = true) {k : Nat} (hk : k < (encM m).length) : unB ((encM m).take k) = false := by
  cases hu : unB ((encM m).take k)
  · rfl
  · obtain ⟨e1, e2⟩ := un_enc hu
    have a1 := msg_enc _ e2 ((encM m).drop k) false
    rw [e1, List.take_append_drop] at a1
    have a2 := msg_enc m h [] false
    rw [List.append_nil] at a2
    have e3 := a1.2.symm.trans a2.2
    injection e3 with e3 _
    have := congrArg List.length e3
    simp at this
    omega
/-- What has a byte more is no message. -/
theorem more_un {m : Ms} (h : rmB m = true) (x : UInt8) : unB (encM m ++ [x]) = false := by
  have a := msg_enc m h [x] false
  simp [unB, a.2]
theorem encM_ne (m : Ms) : encM m ≠ [] := by simp [encM, encA, encN]
theorem encM_length (m : Ms) : 0 < (encM m).length := List.length_pos_iff.2 (encM_ne m)
end Go.Proofs.YtnnhnekfokbooaaGreatDoor
