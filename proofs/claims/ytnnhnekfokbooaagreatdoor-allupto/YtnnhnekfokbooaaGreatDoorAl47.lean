/- RefB, RefC, RefE -/
import Derived.Test.YtnnhnekfokbooaaGreatDoorAl46
set_option linter.unusedSimpArgs false
set_option linter.unusedVariables false
set_option maxRecDepth 100000
namespace Go.Proofs.YtnnhnekfokbooaaGreatDoor
section
open Go.RowKit
set_option maxHeartbeats 4000000 in
theorem text_yes (c q h : Int) (t : ByteArray) (w : World) (hc : (c == 0) = false) (n1 : 0 ≤ c ∧ c ≤ 1000000) (n2 : 0 ≤ q ∧ q ≤ 1000000) (n3 : 0 ≤ h ∧ h ≤ 1000000) (n4 : t.size ≤ 1000) :
  Calls Tryz.prog 52 #[.agg #[I6 c, I6 q, I6 h, .string t]] w fun e w' => e = .returned (.string (S (encA 1 [c] ++ encA 2 [q] ++ encA 1 [h] ++ encA 1 [(t.size : Int)] ++ t.data.toList))) ∧ Below w.heap.size w w' := by
 go_enter Tryz.func52, Tryz.ntmps52
 go_wp2
 refine wp_region_held_drew (S := BS w w.heap.size #[I6 c, I6 q, I6 h, .string t] 33) (by kernel_rfl) (BS.drew ⟨blk_new _ _, (Below.refl _ _).alloc (Nat.le_refl _) _⟩) (fun hS => ?_)
 refine tk 0 rfl hS (v := P6 w.heap.size) (fun w' hw => by clear hS; go_simp) ?_
 try simp only [ly]
 refine tk 1 rfl hS (v := I6 c) (fun w' hw => by have c := blk_cell hw.1; clear hS; go_simp) ?_
 try simp only [ly]
 refine tk 3 rfl hS (v := .pointer (some (A6 w.heap.size 1))) (fun w' hw => by clear hS; go_simp) ?_
 try simp only [ly]
 refine tk 4 rfl hS (v := I6 q) (fun w' hw => by have c := blk_cell hw.1; clear hS; go_simp) ?_
 try simp only [ly]
 refine tk 7 rfl hS (v := .pointer (some (A6 w.heap.size 2))) (fun w' hw => by clear hS; go_simp) ?_
 try simp only [ly]
 refine tk 8 rfl hS (v := I6 h) (fun w' hw => by have c := blk_cell hw.1; clear hS; go_simp) ?_
 try simp only [ly]
 refine tk 11 rfl hS (v := .pointer (some (A6 w.heap.size 3))) (fun w' hw => by clear hS; go_simp) ?_
 try simp only [ly]
 refine tk 12 rfl hS (v := .string t) (fun w' hw => by have c := blk_cell hw.1; clear hS; go_simp) ?_
 try simp only [ly]
 refine tk 13 rfl hS (v := I6 (t.size : Int)) (fun w' hw => by clear hS; go_simp) ?_
 try simp only [ly]
 refine tk 16 rfl hS (v := .pointer (some (A6 w.heap.size 3))) (fun w' hw => by clear hS; go_simp) ?_
 try simp only [ly]
 refine tk 17 rfl hS (v := .string t) (fun w' hw => by have c := blk_cell hw.1; clear hS; go_simp) ?_
 try simp only [ly]
 refine r1 2 rfl (fun K hK => ?_)
 go_simp
 refine (one_any c _ n1.1 n1.2).mono ?_
 rintro e w' ⟨rfl, hbb⟩
 go_wp2_with fail
 refine hK.out _ _ (hS.below hbb) (fun hS => ?_)
 clear hK K hbb
 try simp only [ly]
 refine r1 5 rfl (fun K hK => ?_)
 go_simp
 refine (two_any q _ n2.1 n2.2).mono ?_
 rintro e w' ⟨rfl, hbb⟩
 go_wp2_with fail
 refine hK.out _ _ (hS.below hbb) (fun hS => ?_)
 clear hK K hbb
 try simp only [ly]
 refine tk 6 rfl hS (v := .string (S (encA 1 [c] ++ encA 2 [q]))) (fun w' hw => by have he := S_add (encA 1 [c]) (encA 2 [q]); have hz : ¬ 9223372036854775807 < (S (encA 1 [c])).size + (S (encA 2 [q])).size := (by rw [S_size, S_size]; simp [encA, encN]); clear hS; go_simp) ?_
 try simp only [ly]
 refine r1 9 rfl (fun K hK => ?_)
 go_simp
 refine (one_any h _ n3.1 n3.2).mono ?_
 rintro e w' ⟨rfl, hbb⟩
 go_wp2_with fail
 refine hK.out _ _ (hS.below hbb) (fun hS => ?_)
 clear hK K hbb
 try simp only [ly]
 refine tk 10 rfl hS (v := .string (S (encA 1 [c] ++ (encA 2 [q] ++ encA 1 [h])))) (fun w' hw => by have he := S_add (encA 1 [c] ++ encA 2 [q]) (encA 1 [h]); have hz : ¬ 9223372036854775807 < (S (encA 1 [c] ++ encA 2 [q])).size + (S (encA 1 [h])).size := (by rw [S_size, S_size]; simp [encA, encN]); clear hS; go_simp) ?_
 try simp only [ly]
 refine r1 14 rfl (fun K hK => ?_)
 go_simp
 refine (one_any (t.size : Int) _ (by omega) (by omega)).mono ?_
 rintro e w' ⟨rfl, hbb⟩
 go_wp2_with fail
 refine hK.out _ _ (hS.below hbb) (fun hS => ?_)
 clear hK K hbb
 try simp only [ly]
 refine tk 15 rfl hS (v := .string (S (encA 1 [c] ++ (encA 2 [q] ++ (encA 1 [h] ++ encA 1 [(t.size : Int)]))))) (fun w' hw => by have he := S_add (encA 1 [c] ++ (encA 2 [q] ++ encA 1 [h])) (encA 1 [(t.size : Int)]); have hz : ¬ 9223372036854775807 < (S (encA 1 [c] ++ (encA 2 [q] ++ encA 1 [h]))).size + (S (encA 1 [(t.size : Int)])).size := (by rw [S_size, S_size]; simp [encA, encN]); clear hS; go_simp) ?_
 try simp only [ly]
 refine tk 18 rfl hS (v := .string (S (encA 1 [c] ++ (encA 2 [q] ++ (encA 1 [h] ++ (encA 1 [(t.size : Int)] ++ t.data.toList)))))) (fun w' hw => by have he := S_add' (encA 1 [c] ++ (encA 2 [q] ++ (encA 1 [h] ++ encA 1 [(t.size : Int)]))) t; have hz : ¬ 9223372036854775807 < (S (encA 1 [c] ++ (encA 2 [q] ++ (encA 1 [h] ++ encA 1 [(t.size : Int)])))).size + t.size := (by rw [S_size]; simp [encA, encN]; omega); clear hS; go_simp) ?_
 try simp only [ly]
 refine tk 19 rfl hS (v := .string (S (encA 1 [c] ++ (encA 2 [q] ++ (encA 1 [h] ++ (encA 1 [(t.size : Int)] ++ t.data.toList)))))) (fun w' hw => by clear hS; go_simp) ?_
 try simp only [ly]
 refine dn ?_ _
 go_wp2
 go_ret
 exact ⟨by simp only [List.append_assoc]; rfl, hS.2⟩
end
section
open Go.RowKit
theorem text_any (p : Pst) (w : World) (hr : rightValueB p = true) :
  Calls Tryz.prog 52 #[.agg #[I6 p.c, I6 p.q, I6 p.h, .string p.t]] w fun e w' => e = .returned (.string (S (encV p))) ∧ Below w.heap.size w w' := by
 obtain ⟨r1, r2, r3, r4⟩ := rv_ok p hr
 by_cases hc : p.c = 0
 ·have hn : nothingB p = true := by
   cases hn : nothingB p
   ·have hp : rightPostB p = true := by simpa [rightValueB, hn] using hr
    simp only [rightPostB, Bool.and_eq_true] at hp
    have := withinB_true hp.1.1.1
    omega
   ·rfl
  have e : encV p = encA 1 [0] := by simp [encV, hn, hc]
  rw [e]
  exact text_no p.c p.q p.h p.t w (by simpa using hc)
 ·have hn : nothingB p = false := by simp [nothingB, hc]
  have e : encV p = encA 1 [p.c] ++ encA 2 [p.q] ++ encA 1 [p.h] ++ encA 1 [(p.t.size : Int)] ++ p.t.data.toList := by simp [encV, hn, encA_two]
  rw [e]
  exact text_yes p.c p.q p.h p.t w (by simpa using hc) (by omega) (by omega) (by omega) (by omega)
theorem withinB_16 : withinB 1 1 6 = true := rfl
theorem withinB_26 : withinB 2 1 6 = true := rfl
theorem withinB_66 : withinB 6 1 6 = true := rfl
theorem withinB_36 : withinB 3 1 6 = true := rfl
theorem withinB_46 : withinB 4 1 6 = true := rfl
theorem withinB_56 : withinB 5 1 6 = true := rfl
theorem hide {p : Prop} (h : p) : Hid p := h
theorem unhide {p : Prop} (h : Hid p) : p := h
theorem eql_post (c q h : Int) (x : ByteArray) (w : World) :
  (binOp .eql 33 (.agg #[I6 c, I6 q, I6 h, .string x]) (.agg #[I6 0, I6 0, I6 0, .string ⟨#[]⟩])).run Tryz.prog w = .ok (.bool (nothingB ⟨c, q, h, x⟩)) w := by
 by_cases h1 : c = 0
 ·by_cases h2 : q = 0
  ·by_cases h3 : h = 0
   ·by_cases h4 : x.toList = []
    ·go_simp
     simp [nothingB, h1, h2, h3, h4]
    ·go_simp
     simp [nothingB, h1, h2, h3, h4]
   ·go_simp
    simp [nothingB, h1, h2, h3]
  ·go_simp
   simp [nothingB, h1, h2]
 ·go_simp
  simp [nothingB, h1]
set_option maxHeartbeats 8000000 in
theorem right_any (k f t b s c q h : Int) (x : ByteArray) (v : Value) (l : List Vt) (w : World) (hv : VAt w v l) :
  Calls Tryz.prog 49 #[.agg #[I6 k, I6 f, I6 t, I6 b, I6 s, I6 c, I6 q, I6 h, .string x, v]] w fun e w' =>
   e = .returned (.bool (rmB ⟨k, f, t, b, s, ⟨c, q, h, x⟩, l⟩)) ∧ Below w.heap.size w w' := by
 obtain ⟨ao, cap, rfl, hvf⟩ := hv.form
 have hvl := hv.len
 clear hv
 have hr : rmB ⟨k, f, t, b, s, ⟨c, q, h, x⟩, l⟩ = (withinB k 1 6 && withinB f 0 6 && withinB t 0 6 && fitsB (hasB k) (withinB b 1 8007) (b == 0) && fitsB (hasS k) (withinB s 0 15) (s == 0) &&
  fitsB (hasV k) (rightValueB ⟨c, q, h, x⟩) (nothingB ⟨c, q, h, x⟩) && fitsB (hasA k) (rvB (-1) l) ((l.length : Int) == 0)) := rfl
 have heq := eql_post c q h x
 have hC1 := fun w => between_any f 0 6 w
 have hC2 := fun w => between_any t 0 6 w
 have hC3 := fun w => rballot_any b w
 have hC4 := fun w => between_any s 0 15 w
 have hC5 := fun w => rvalue_any c q h x w
 generalize withinB f 0 6 = ba at *
 generalize withinB t 0 6 = bb at *
 generalize withinB b 1 8007 = bn at *
 generalize withinB s 0 15 = bs at *
 generalize rightValueB ⟨c, q, h, x⟩ = bv at *
 generalize nothingB ⟨c, q, h, x⟩ = b0 at *
 have HR := hide hr
 clear hr
 go_enter Tryz.func49, Tryz.ntmps49
 go_wp2_with fail
 refine (hC1 _).mono ?_
 rintro e w' ⟨rfl, rfl⟩
 go_wp2_with fail
 refine (hC2 _).mono ?_
 rintro e w' ⟨rfl, rfl⟩
 go_wp2_with fail
 refine (hC3 _).mono ?_
 rintro e w' ⟨rfl, rfl⟩
 go_wp2_with fail
 refine (hC4 _).mono ?_
 rintro e w' ⟨rfl, rfl⟩
 go_wp2_with fail
 refine (hC5 _).mono ?_
 rintro e w1 ⟨rfl, hb1⟩
 clear hC1 hC2 hC3 hC4 hC5
 have hm1 := blk_below hb1 (blk_new _ _)
 have hmc := blk_cell hm1
 have hB1 : Below _ _ w1 := ((Below.refl _ _).alloc (Nat.le_refl _) _).trans (hb1.mono (by simp))
 clear hb1
 cases ba
 ·go_wp2
  go_ret
  exact ⟨by rw [unhide HR]; simp, hB1⟩
 cases bb
 ·go_wp2
  go_ret
  exact ⟨by rw [unhide HR]; simp, hB1⟩
 by_cases hk2 : k = 2
 ·subst hk2
  have hk22 : ((2 : Int) != 2) = false := rfl
  have hl22 : hasA 2 = true := rfl
  cases hs0 : (s == 0)
  all_goals
   go_wp2_with fail
   go_loopw [9] (fun i wr => ∃ (j : Nat) (la : Int), j ≤ l.length ∧ i = I6 j ∧ rvB (-1) l = rvB la (l.drop j) ∧ (∀ hj : 0 < j, ∀ hj2 : j ≤ l.length, la = (l[j - 1]'(by omega)).s) ∧ (j = 0 → la = -1) ∧ wr.heap[w.heap.size]? = some (.cells #[I6 2, I6 f, I6 t, I6 b, I6 s, I6 c, I6 q, I6 h, .string x, .slice ao l.length cap] 36 (0, 0)) ∧ Below w.heap.size w wr) (fun i _ => l.length - (intOf i).toNat)
   case atStart => exact ⟨0, -1, Nat.zero_le _, rfl, rfl, fun hj => absurd hj (by omega), fun _ => rfl, hm1, hB1⟩
   case round =>
    clear hmc
    obtain ⟨j, la, hj, rfl, hrv, hla, hla0, hm, hB⟩ := hrel
    have HV := hide hrv
    have HL := hide hla
    have HL0 := hide hla0
    clear hrv hla hla0
    have hz := hB.size
    have hmc0 := blk_cell hm
    by_cases hlt : j < l.length
    ·obtain ⟨g, off, rfl, hg, hcell⟩ := hvf (by intro e; subst e; simp at hlt)
     have c0 : wr.cell? (A6 g (off + j * 6)) = some (I6 l[j].s) := by
      rw [hB.cell (p := (A6 g (off + j * 6))) hg]; exact hcell _ _ (vcells_at l j hlt 0 (by decide))
     have c1 : wr.cell? (A6 g (off + j * 6 + 1)) = some (I6 l[j].b) := by
      rw [hB.cell (p := (A6 g (off + j * 6 + 1))) hg]; exact hcell _ _ (vcells_at l j hlt 1 (by decide))
     have c2 : wr.cell? (A6 g (off + j * 6 + 2)) = some (I6 l[j].p.c) := by
      rw [hB.cell (p := (A6 g (off + j * 6 + 2))) hg]; exact hcell _ _ (vcells_at l j hlt 2 (by decide))
     have c3 : wr.cell? (A6 g (off + j * 6 + 3)) = some (I6 l[j].p.q) := by
      rw [hB.cell (p := (A6 g (off + j * 6 + 3))) hg]; exact hcell _ _ (vcells_at l j hlt 3 (by decide))
     have c4 : wr.cell? (A6 g (off + j * 6 + 4)) = some (I6 l[j].p.h) := by
      rw [hB.cell (p := (A6 g (off + j * 6 + 4))) hg]; exact hcell _ _ (vcells_at l j hlt 4 (by decide))
     have c5 : wr.cell? (A6 g (off + j * 6 + 5)) = some (.string l[j].p.t) := by
      rw [hB.cell (p := (A6 g (off + j * 6 + 5))) hg]; exact hcell _ _ (vcells_at l j hlt 5 (by decide))
     have hpv : 0 < j → wr.cell? ⟨g, off + (j - 1) * 6, none⟩ = some (I6 la) := fun hp => by
      rw [hB.cell (p := ⟨g, off + (j - 1) * 6, none⟩) hg, unhide HL hp hj]
      exact hcell _ _ (vcells_at l (j - 1) (by omega) 0 (by decide))
     have HX := hide (rvB_drop la l j hlt)
     clear hcell hvf
     generalize hvs : l[j].s = vs at *
     have HVS := hide hvs
     clear hvs
     generalize l[j].b = vb at *
     generalize l[j].p = vp at *
     obtain ⟨pc, pq, ph, pt⟩ := vp
     dsimp only at *
     have hC1 := fun w => between_any vs 0 15 w
     have hC2 := fun w => rballot_any vb w
     have hC3 := fun w => rvalue_any pc pq ph pt w
     have hw0 : withinB vs 0 15 = true → 0 ≤ vs := fun h => (withinB_true h).1
     have HW := hide hw0
     clear hw0
     generalize withinB vs 0 15 = bc at *
     generalize withinB vb 1 8007 = bd at *
     generalize rightValueB ⟨pc, pq, ph, pt⟩ = be at *
     cases bc
     ·go_wp2_with fail
      refine (hC1 _).mono ?_
      rintro e w' ⟨rfl, rfl⟩
      go_wp2_with fail
      refine (hC2 _).mono ?_
      rintro e w' ⟨rfl, rfl⟩
      go_wp2_with fail
      refine (hC3 _).mono ?_
      rintro e w2 ⟨rfl, hb2⟩
      have hm2 := blk_below hb2 (blk_alloc hm _)
      have hx2 := blk_below hb2 (blk_new _ _)
      have hmc := blk_cell hm2
      have hxc := blk_cell hx2
      have hB2 : Below _ _ w2 := (hB.alloc hz _).trans (hb2.mono (by simp; omega))
      clear hb2
      go_wp2
      go_quiet (fail)
      go_wp2
      go_ret
      exact ⟨by rw [unhide HR, hl22]; simp only [fitsB, if_true]; rw [unhide HV, unhide HX]; simp [*], below_drewN hB2 _⟩
     cases bd
     ·go_wp2_with fail
      refine (hC1 _).mono ?_
      rintro e w' ⟨rfl, rfl⟩
      go_wp2_with fail
      refine (hC2 _).mono ?_
      rintro e w' ⟨rfl, rfl⟩
      go_wp2_with fail
      refine (hC3 _).mono ?_
      rintro e w2 ⟨rfl, hb2⟩
      have hm2 := blk_below hb2 (blk_alloc hm _)
      have hx2 := blk_below hb2 (blk_new _ _)
      have hmc := blk_cell hm2
      have hxc := blk_cell hx2
      have hB2 : Below _ _ w2 := (hB.alloc hz _).trans (hb2.mono (by simp; omega))
      clear hb2
      go_wp2
      go_quiet (fail)
      go_wp2
      go_ret
      exact ⟨by rw [unhide HR, hl22]; simp only [fitsB, if_true]; rw [unhide HV, unhide HX]; simp [*], below_drewN hB2 _⟩
     cases be
     ·go_wp2_with fail
      refine (hC1 _).mono ?_
      rintro e w' ⟨rfl, rfl⟩
      go_wp2_with fail
      refine (hC2 _).mono ?_
      rintro e w' ⟨rfl, rfl⟩
      go_wp2_with fail
      refine (hC3 _).mono ?_
      rintro e w2 ⟨rfl, hb2⟩
      have hm2 := blk_below hb2 (blk_alloc hm _)
      have hx2 := blk_below hb2 (blk_new _ _)
      have hmc := blk_cell hm2
      have hxc := blk_cell hx2
      have hB2 : Below _ _ w2 := (hB.alloc hz _).trans (hb2.mono (by simp; omega))
      clear hb2
      go_wp2
      go_quiet (fail)
      go_wp2
      go_ret
      exact ⟨by rw [unhide HR, hl22]; simp only [fitsB, if_true]; rw [unhide HV, unhide HX]; simp [*], below_drewN hB2 _⟩
     have hvs0 : 0 ≤ vs := unhide HW rfl
     by_cases hj0 : j = 0
     ·have hl1 := unhide HL0 hj0
      subst hj0
      subst hl1
      simp only [Nat.zero_mul, Nat.add_zero] at c0 c1 c2 c3 c4 c5
      go_wp2_with fail
      refine (hC1 _).mono ?_
      rintro e w' ⟨rfl, rfl⟩
      go_wp2_with fail
      refine (hC2 _).mono ?_
      rintro e w' ⟨rfl, rfl⟩
      go_wp2_with fail
      refine (hC3 _).mono ?_
      rintro e w2 ⟨rfl, hb2⟩
      have hm2 := blk_below hb2 (blk_alloc hm _)
      have hx2 := blk_below hb2 (blk_new _ _)
      have hmc := blk_cell hm2
      have hxc := blk_cell hx2
      have hB2 : Below _ _ w2 := (hB.alloc hz _).trans (hb2.mono (by simp; omega))
      clear hb2
      go_wp2
      go_quiet (fail)
      go_wp2
      go_roundw
      case rel => exact ⟨_, vs, hlt, by go_num, by rw [unhide HV, unhide HX]; simp; omega, fun _ _ => (unhide HVS).symm, fun h => absurd h (by omega), hm2, below_drewN hB2 _⟩
      case measure => simp [intOf]; omega
     obtain ⟨i, rfl⟩ : ∃ i, j = i + 1 := ⟨j - 1, by omega⟩
     have hpv2 := hpv (by omega)
     simp only [Nat.add_sub_cancel] at hpv2
     clear hpv
     have hgt : decide ((0 : Int) < ((i + 1 : Nat) : Int)) = true := by simp
     have hgt' : (0 : Int) < (i : Int) + 1 := by omega
     by_cases hge : vs ≤ la
     ·go_wp2_with fail
      refine (hC1 _).mono ?_
      rintro e w' ⟨rfl, rfl⟩
      go_wp2_with fail
      refine (hC2 _).mono ?_
      rintro e w' ⟨rfl, rfl⟩
      go_wp2_with fail
      refine (hC3 _).mono ?_
      rintro e w2 ⟨rfl, hb2⟩
      have hm2 := blk_below hb2 (blk_alloc hm _)
      have hx2 := blk_below hb2 (blk_new _ _)
      have hmc := blk_cell hm2
      have hxc := blk_cell hx2
      have hB2 : Below _ _ w2 := (hB.alloc hz _).trans (hb2.mono (by simp; omega))
      have hpv3 : w2.cell? (A6 g (off + i * 6)) = some (I6 la) := by
       rw [hb2.cell (p := (A6 g (off + i * 6))) (by show g < _; simp; omega), ((Below.refl wr.heap.size wr).alloc (Nat.le_refl _) _).cell (p := (A6 g (off + i * 6))) (by show g < _; omega)]; exact hpv2
      clear hb2
      go_wp2
      go_quiet (fail)
      go_wp2
      go_ret
      exact ⟨by rw [unhide HR, hl22]; simp only [fitsB, if_true]; rw [unhide HV, unhide HX]; simp [*], below_drewN hB2 _⟩
     ·have hge' : la < vs := by omega
      go_wp2_with fail
      refine (hC1 _).mono ?_
      rintro e w' ⟨rfl, rfl⟩
      go_wp2_with fail
      refine (hC2 _).mono ?_
      rintro e w' ⟨rfl, rfl⟩
      go_wp2_with fail
      refine (hC3 _).mono ?_
      rintro e w2 ⟨rfl, hb2⟩
      have hm2 := blk_below hb2 (blk_alloc hm _)
      have hx2 := blk_below hb2 (blk_new _ _)
      have hmc := blk_cell hm2
      have hxc := blk_cell hx2
      have hB2 : Below _ _ w2 := (hB.alloc hz _).trans (hb2.mono (by simp; omega))
      have hpv3 : w2.cell? (A6 g (off + i * 6)) = some (I6 la) := by
       rw [hb2.cell (p := (A6 g (off + i * 6))) (by show g < _; simp; omega), ((Below.refl wr.heap.size wr).alloc (Nat.le_refl _) _).cell (p := (A6 g (off + i * 6))) (by show g < _; omega)]; exact hpv2
      clear hb2
      go_wp2
      go_quiet (fail)
      go_wp2
      go_roundw
      case rel => exact ⟨_, vs, hlt, by go_num, by rw [unhide HV, unhide HX]; simp; omega, fun _ _ => (unhide HVS).symm, fun h => absurd h (by omega), hm2, below_drewN hB2 _⟩
      case measure => simp [intOf]; omega
    ·have hjl : j = l.length := by omega
     have hrl : rvB (-1) l = true := by rw [unhide HV, List.drop_of_length_le (by omega)]; rfl
     have HRL := hide hrl
     clear hrl
     cases bn
     ·go_wp2
      go_ret
      exact ⟨by rw [unhide HR]; simp [fitsB, hasB], hB⟩
     ·go_wp2
      go_ret
      exact ⟨by rw [unhide HR]; simp [fitsB, hasB, hasS, hasV, hl22, unhide HRL, withinB_26, hs0], hB⟩
 have hk2' : (k != 2) = true := by simpa using hk2
 have hk2b : (k == 2) = false := by simpa using hk2
 have hA : hasA k = false := hk2b
 by_cases hl : (0 : Int) < (l.length : Int)
 ·have hl1 : ((l.length : Int) == 0) = false := by rw [beq_eq_false_iff_ne]; omega
  go_wp2
  go_ret
  exact ⟨by rw [unhide HR]; simp only [hA, fitsB, hl1]; simp, hB1⟩
 have hl0 : ((l.length : Int) == 0) = true := by rw [beq_iff_eq]; omega
 have hdl : decide ((0 : Int) < (l.length : Int)) = false := by simpa using hl
 have HR2 : Hid (rmB ⟨k, f, t, b, s, ⟨c, q, h, x⟩, l⟩ = (withinB k 1 6 && fitsB (hasB k) bn (b == 0) && fitsB (hasS k) bs (s == 0) && fitsB (hasV k) bv b0)) := by
  show _ = _
  rw [unhide HR, hA, hl0]
  simp [fitsB]
 clear HR
 rcases (show k = 1 ∨ k = 6 ∨ k = 3 ∨ k = 4 ∨ k = 5 ∨ (k ≠ 1 ∧ k ≠ 6 ∧ k ≠ 3 ∧ k ≠ 4 ∧ k ≠ 5) from by omega) with rfl | rfl | rfl | rfl | rfl | hk
 ·cases bn
  ·cases hs0 : (s == 0)
   ·go_wp2
    go_ret
    exact ⟨by rw [HR2.out]; simp [withinB_16, fitsB, hasB, hasS, hasV, *], hB1⟩
   ·go_wp2
    go_ret
    exact ⟨by rw [HR2.out]; simp [withinB_16, fitsB, hasB, hasS, hasV, *], hB1⟩
  ·cases hs0 : (s == 0)
   ·go_wp2
    go_ret
    exact ⟨by rw [HR2.out]; simp [withinB_16, fitsB, hasB, hasS, hasV, *], hB1⟩
   ·go_wp2
    go_ret
    exact ⟨by rw [HR2.out]; simp [withinB_16, fitsB, hasB, hasS, hasV, *], hB1⟩
 ·cases bn
  ·cases hs0 : (s == 0)
   ·go_wp2
    go_ret
    exact ⟨by rw [HR2.out]; simp [withinB_66, fitsB, hasB, hasS, hasV, *], hB1⟩
   ·go_wp2
    go_ret
    exact ⟨by rw [HR2.out]; simp [withinB_66, fitsB, hasB, hasS, hasV, *], hB1⟩
  ·cases hs0 : (s == 0)
   ·go_wp2
    go_ret
    exact ⟨by rw [HR2.out]; simp [withinB_66, fitsB, hasB, hasS, hasV, *], hB1⟩
   ·go_wp2
    go_ret
    exact ⟨by rw [HR2.out]; simp [withinB_66, fitsB, hasB, hasS, hasV, *], hB1⟩
 ·cases bn
  ·go_wp2
   all_goals
    go_ret
    exact ⟨by rw [HR2.out]; simp [withinB_36, fitsB, hasB, hasS, hasV, *], hB1⟩
  cases bs
  ·go_wp2
   all_goals
    go_ret
    exact ⟨by rw [HR2.out]; simp [withinB_36, fitsB, hasB, hasS, hasV, *], hB1⟩
  ·go_wp2
   all_goals
    go_ret
    exact ⟨by rw [HR2.out]; simp [withinB_36, fitsB, hasB, hasS, hasV, *], hB1⟩
 ·cases bn
  ·go_wp2
   all_goals
    go_ret
    exact ⟨by rw [HR2.out]; simp [withinB_46, fitsB, hasB, hasS, hasV, *], hB1⟩
  cases bs
  ·go_wp2
   all_goals
    go_ret
    exact ⟨by rw [HR2.out]; simp [withinB_46, fitsB, hasB, hasS, hasV, *], hB1⟩
  ·go_wp2
   all_goals
    go_ret
    exact ⟨by rw [HR2.out]; simp [withinB_46, fitsB, hasB, hasS, hasV, *], hB1⟩
 ·cases hb0 : (b == 0)
  ·go_wp2
   all_goals
    go_ret
    exact ⟨by rw [HR2.out]; simp [withinB_56, fitsB, hasB, hasS, hasV, *], hB1⟩
  cases bs
  ·go_wp2
   all_goals
    go_ret
    exact ⟨by rw [HR2.out]; simp [withinB_56, fitsB, hasB, hasS, hasV, *], hB1⟩
  ·go_wp2
   all_goals
    go_ret
    exact ⟨by rw [HR2.out]; simp [withinB_56, fitsB, hasB, hasS, hasV, *], hB1⟩
 ·obtain ⟨q1, q2, q3, q4, q5⟩ := hk
  have hw : withinB k 1 6 = false := by
   cases hx : withinB k 1 6
   ·rfl
   ·have := withinB_true hx; omega
  have e1 : (k == 1) = false := by simpa using q1
  have e6 : (k == 6) = false := by simpa using q2
  have e3 : (k == 3) = false := by simpa using q3
  have e4 : (k == 4) = false := by simpa using q4
  have e5 : (k == 5) = false := by simpa using q5
  clear q1 q2 q3 q4 q5
  go_wp2
  all_goals
   go_ret
   exact ⟨by rw [HR2.out]; simp [hw], hB1⟩
end
section
open Go.RowKit
set_option maxHeartbeats 1000000 in
theorem rpack_no (m : Ms) (v : Value) (w : World) (hv : VAt w v m.a) (hrm : rmB m = false) :
  Calls Tryz.prog 20 #[.agg #[I6 m.k, I6 m.f, I6 m.t, I6 m.b, I6 m.s, I6 m.p.c, I6 m.p.q, I6 m.p.h, .string m.p.t, v]] w fun e w' =>
   e = .returned (.tuple #[.string (S []), I6 2]) ∧ Below w.heap.size w w' := by
 obtain ⟨ao, cap, hve, _⟩ := hv.form
 subst hve
 go_enter Tryz.func20, Tryz.ntmps20
 go_wp2_with fail
 refine (right_any m.k m.f m.t m.b m.s m.p.c m.p.q m.p.h m.p.t _ m.a _ (hv.alloc _)).mono ?_
 rintro e w1 ⟨rfl, hb1⟩
 have hrm' : rmB ⟨m.k, m.f, m.t, m.b, m.s, ⟨m.p.c, m.p.q, m.p.h, m.p.t⟩, m.a⟩ = false := hrm
 go_wp2
 go_ret2
 exact ⟨rfl, ((Below.refl _ _).alloc (Nat.le_refl _) _).trans (hb1.mono (by simp))⟩
set_option maxHeartbeats 8000000 in
theorem rpack_a (m : Ms) (v : Value) (w : World) (hv : VAt w v m.a) (hrm : rmB m = true)
  (e1 : (m.k == 3) = false) (e2 : (m.k == 4) = false) (e3 : (m.k == 5) = false) (e4 : (m.k == 2) = false) (n2 : 0 ≤ m.b ∧ m.b ≤ 1000000) (n1 : (0 ≤ m.k ∧ m.k ≤ 1000000) ∧ (0 ≤ m.f ∧ m.f ≤ 1000000) ∧ (0 ≤ m.t ∧ m.t ≤ 1000000)) :
  Calls Tryz.prog 20 #[.agg #[I6 m.k, I6 m.f, I6 m.t, I6 m.b, I6 m.s, I6 m.p.c, I6 m.p.q, I6 m.p.h, .string m.p.t, v]] w fun e w' =>
   e = .returned (.tuple #[.string (S (encA 1 [m.k] ++ (encA 1 [m.f] ++ (encA 1 [m.t] ++ encA 2 [m.b])))), I6 0]) ∧ Below w.heap.size w w' := by
 obtain ⟨ao, cap, hve, hvf⟩ := hv.form
 subst hve
 go_enter Tryz.func20, Tryz.ntmps20
 go_wp2_with fail
 refine (right_any m.k m.f m.t m.b m.s m.p.c m.p.q m.p.h m.p.t _ m.a _ (hv.alloc _)).mono ?_
 rintro e w1 ⟨rfl, hb1⟩
 have hrm' : rmB ⟨m.k, m.f, m.t, m.b, m.s, ⟨m.p.c, m.p.q, m.p.h, m.p.t⟩, m.a⟩ = true := hrm
 have hS0 : BS w w.heap.size #[I6 m.k, I6 m.f, I6 m.t, I6 m.b, I6 m.s, I6 m.p.c, I6 m.p.q, I6 m.p.h, .string m.p.t, .slice ao m.a.length cap] 36 w1 := ⟨blk_below hb1 (blk_new w _), ((Below.refl _ _).alloc (Nat.le_refl _) _).trans (hb1.mono (by simp))⟩
 clear hb1
 go_wp2
 refine wp_region_held_drew (S := BS w w.heap.size #[I6 m.k, I6 m.f, I6 m.t, I6 m.b, I6 m.s, I6 m.p.c, I6 m.p.q, I6 m.p.h, .string m.p.t, .slice ao m.a.length cap] 36) (by kernel_rfl) (BS.drew hS0) (fun hS => ?_)
 refine tk 0 rfl hS (v := P6 w.heap.size) (fun w' hw => by clear hS; go_simp) ?_
 try simp only [ly]
 refine tk 1 rfl hS (v := I6 m.k) (fun w' hw => by have c := blk_cell hw.1; clear hS; go_simp) ?_
 try simp only [ly]
 refine tk 3 rfl hS (v := .pointer (some (A6 w.heap.size 1))) (fun w' hw => by clear hS; go_simp) ?_
 try simp only [ly]
 refine tk 4 rfl hS (v := I6 m.f) (fun w' hw => by have c := blk_cell hw.1; clear hS; go_simp) ?_
 try simp only [ly]
 refine tk 7 rfl hS (v := .pointer (some (A6 w.heap.size 2))) (fun w' hw => by clear hS; go_simp) ?_
 try simp only [ly]
 refine tk 8 rfl hS (v := I6 m.t) (fun w' hw => by have c := blk_cell hw.1; clear hS; go_simp) ?_
 try simp only [ly]
 refine r1 2 rfl (fun K hK => ?_)
 go_simp
 refine (one_any m.k _ n1.1.1 n1.1.2).mono ?_
 rintro e w' ⟨rfl, hbb⟩
 go_wp2_with fail
 refine hK.out _ _ (hS.below hbb) (fun hS => ?_)
 clear hK K hbb
 try simp only [ly]
 refine r1 5 rfl (fun K hK => ?_)
 go_simp
 refine (one_any m.f _ n1.2.1.1 n1.2.1.2).mono ?_
 rintro e w' ⟨rfl, hbb⟩
 go_wp2_with fail
 refine hK.out _ _ (hS.below hbb) (fun hS => ?_)
 clear hK K hbb
 try simp only [ly]
 refine tk 6 rfl hS (v := .string (S (encA 1 [m.k] ++ encA 1 [m.f]))) (fun w' hw => by have he := S_add (encA 1 [m.k]) (encA 1 [m.f]); have hz : ¬ 9223372036854775807 < (S (encA 1 [m.k])).size + (S (encA 1 [m.f])).size := (by rw [S_size, S_size]; simp [encA, encN]); clear hS; go_simp) ?_
 try simp only [ly]
 refine r1 9 rfl (fun K hK => ?_)
 go_simp
 refine (one_any m.t _ n1.2.2.1 n1.2.2.2).mono ?_
 rintro e w' ⟨rfl, hbb⟩
 go_wp2_with fail
 refine hK.out _ _ (hS.below hbb) (fun hS => ?_)
 clear hK K hbb
 try simp only [ly]
 refine tk 10 rfl hS (v := .string (S (encA 1 [m.k] ++ (encA 1 [m.f] ++ encA 1 [m.t])))) (fun w' hw => by have he := S_add (encA 1 [m.k] ++ encA 1 [m.f]) (encA 1 [m.t]); have hz : ¬ 9223372036854775807 < (S (encA 1 [m.k] ++ encA 1 [m.f])).size + (S (encA 1 [m.t])).size := (by rw [S_size, S_size]; simp [encA, encN]); clear hS; go_simp) ?_
 try simp only [ly]
 refine tk 11 rfl hS (v := .string (S (encA 1 [m.k] ++ (encA 1 [m.f] ++ encA 1 [m.t])))) (fun w' hw => by clear hS; go_simp) ?_
 try simp only [ly]
 refine dn ?_ _
 have hmc := blk_cell hS.1
 have he := S_add (encA 1 [m.k] ++ (encA 1 [m.f] ++ encA 1 [m.t])) (encA 2 [m.b])
 have hz : ¬ 9223372036854775807 < (S (encA 1 [m.k] ++ (encA 1 [m.f] ++ encA 1 [m.t]))).size + (S (encA 2 [m.b])).size := (by rw [S_size, S_size]; simp [encA, encN])
 go_wp2_with fail
 refine (two_any m.b _ n2.1 n2.2).mono ?_
 rintro e w3 ⟨rfl, hb3⟩
 have hS3 := hS.below hb3
 clear hmc
 have hmc := blk_cell hS3.1
 go_wp2
 go_ret2
 exact ⟨rfl, hS3.2⟩
set_option maxHeartbeats 8000000 in
theorem rpack_c (m : Ms) (v : Value) (w : World) (hv : VAt w v m.a) (hrm : rmB m = true)
  (e1 : (m.k == 3) = true) (e4 : (m.k == 2) = false) (n2 : 0 ≤ m.b ∧ m.b ≤ 1000000) (n3 : 0 ≤ m.s ∧ m.s ≤ 1000000) (hrv : rightValueB m.p = true) (hev : (encV m.p).length ≤ 1005) (n1 : (0 ≤ m.k ∧ m.k ≤ 1000000) ∧ (0 ≤ m.f ∧ m.f ≤ 1000000) ∧ (0 ≤ m.t ∧ m.t ≤ 1000000)) :
  Calls Tryz.prog 20 #[.agg #[I6 m.k, I6 m.f, I6 m.t, I6 m.b, I6 m.s, I6 m.p.c, I6 m.p.q, I6 m.p.h, .string m.p.t, v]] w fun e w' =>
   e = .returned (.tuple #[.string (S (encA 1 [m.k] ++ (encA 1 [m.f] ++ (encA 1 [m.t] ++ (encA 2 [m.b] ++ (encA 1 [m.s] ++ encV m.p)))))), I6 0]) ∧ Below w.heap.size w w' := by
 obtain ⟨ao, cap, hve, hvf⟩ := hv.form
 subst hve
 go_enter Tryz.func20, Tryz.ntmps20
 go_wp2_with fail
 refine (right_any m.k m.f m.t m.b m.s m.p.c m.p.q m.p.h m.p.t _ m.a _ (hv.alloc _)).mono ?_
 rintro e w1 ⟨rfl, hb1⟩
 have hrm' : rmB ⟨m.k, m.f, m.t, m.b, m.s, ⟨m.p.c, m.p.q, m.p.h, m.p.t⟩, m.a⟩ = true := hrm
 have hS0 : BS w w.heap.size #[I6 m.k, I6 m.f, I6 m.t, I6 m.b, I6 m.s, I6 m.p.c, I6 m.p.q, I6 m.p.h, .string m.p.t, .slice ao m.a.length cap] 36 w1 := ⟨blk_below hb1 (blk_new w _), ((Below.refl _ _).alloc (Nat.le_refl _) _).trans (hb1.mono (by simp))⟩
 clear hb1
 go_wp2
 refine wp_region_held_drew (S := BS w w.heap.size #[I6 m.k, I6 m.f, I6 m.t, I6 m.b, I6 m.s, I6 m.p.c, I6 m.p.q, I6 m.p.h, .string m.p.t, .slice ao m.a.length cap] 36) (by kernel_rfl) (BS.drew hS0) (fun hS => ?_)
 refine tk 0 rfl hS (v := P6 w.heap.size) (fun w' hw => by clear hS; go_simp) ?_
 try simp only [ly]
 refine tk 1 rfl hS (v := I6 m.k) (fun w' hw => by have c := blk_cell hw.1; clear hS; go_simp) ?_
 try simp only [ly]
 refine tk 3 rfl hS (v := .pointer (some (A6 w.heap.size 1))) (fun w' hw => by clear hS; go_simp) ?_
 try simp only [ly]
 refine tk 4 rfl hS (v := I6 m.f) (fun w' hw => by have c := blk_cell hw.1; clear hS; go_simp) ?_
 try simp only [ly]
 refine tk 7 rfl hS (v := .pointer (some (A6 w.heap.size 2))) (fun w' hw => by clear hS; go_simp) ?_
 try simp only [ly]
 refine tk 8 rfl hS (v := I6 m.t) (fun w' hw => by have c := blk_cell hw.1; clear hS; go_simp) ?_
 try simp only [ly]
 refine r1 2 rfl (fun K hK => ?_)
 go_simp
 refine (one_any m.k _ n1.1.1 n1.1.2).mono ?_
 rintro e w' ⟨rfl, hbb⟩
 go_wp2_with fail
 refine hK.out _ _ (hS.below hbb) (fun hS => ?_)
 clear hK K hbb
 try simp only [ly]
 refine r1 5 rfl (fun K hK => ?_)
 go_simp
 refine (one_any m.f _ n1.2.1.1 n1.2.1.2).mono ?_
 rintro e w' ⟨rfl, hbb⟩
 go_wp2_with fail
 refine hK.out _ _ (hS.below hbb) (fun hS => ?_)
 clear hK K hbb
 try simp only [ly]
 refine tk 6 rfl hS (v := .string (S (encA 1 [m.k] ++ encA 1 [m.f]))) (fun w' hw => by have he := S_add (encA 1 [m.k]) (encA 1 [m.f]); have hz : ¬ 9223372036854775807 < (S (encA 1 [m.k])).size + (S (encA 1 [m.f])).size := (by rw [S_size, S_size]; simp [encA, encN]); clear hS; go_simp) ?_
 try simp only [ly]
 refine r1 9 rfl (fun K hK => ?_)
 go_simp
 refine (one_any m.t _ n1.2.2.1 n1.2.2.2).mono ?_
 rintro e w' ⟨rfl, hbb⟩
 go_wp2_with fail
 refine hK.out _ _ (hS.below hbb) (fun hS => ?_)
 clear hK K hbb
 try simp only [ly]
 refine tk 10 rfl hS (v := .string (S (encA 1 [m.k] ++ (encA 1 [m.f] ++ encA 1 [m.t])))) (fun w' hw => by have he := S_add (encA 1 [m.k] ++ encA 1 [m.f]) (encA 1 [m.t]); have hz : ¬ 9223372036854775807 < (S (encA 1 [m.k] ++ encA 1 [m.f])).size + (S (encA 1 [m.t])).size := (by rw [S_size, S_size]; simp [encA, encN]); clear hS; go_simp) ?_
 try simp only [ly]
 refine tk 11 rfl hS (v := .string (S (encA 1 [m.k] ++ (encA 1 [m.f] ++ encA 1 [m.t])))) (fun w' hw => by clear hS; go_simp) ?_
 try simp only [ly]
 refine dn ?_ _
 have hmc := blk_cell hS.1
 go_wp2
 clear hmc
 refine wp_region_held_drew (S := BS w w.heap.size #[I6 m.k, I6 m.f, I6 m.t, I6 m.b, I6 m.s, I6 m.p.c, I6 m.p.q, I6 m.p.h, .string m.p.t, .slice ao m.a.length cap] 36) (by kernel_rfl) (hS.drew) (fun hS => ?_)
 refine tk 0 rfl hS (v := .string (S (encA 1 [m.k] ++ (encA 1 [m.f] ++ encA 1 [m.t])))) (fun w' hw => by clear hS; go_simp) ?_
 try simp only [ly]
 refine tk 1 rfl hS (v := .pointer (some (A6 w.heap.size 3))) (fun w' hw => by clear hS; go_simp) ?_
 try simp only [ly]
 refine tk 2 rfl hS (v := I6 m.b) (fun w' hw => by have c := blk_cell hw.1; clear hS; go_simp) ?_
 try simp only [ly]
 refine tk 5 rfl hS (v := .pointer (some (A6 w.heap.size 4))) (fun w' hw => by clear hS; go_simp) ?_
 try simp only [ly]
 refine tk 6 rfl hS (v := I6 m.s) (fun w' hw => by have c := blk_cell hw.1; clear hS; go_simp) ?_
 try simp only [ly]
 refine tk 9 rfl hS (v := .pointer (some (A6 w.heap.size 5))) (fun w' hw => by clear hS; go_simp) ?_
 try simp only [ly]
 refine tk 10 rfl hS (v := .agg #[I6 m.p.c, I6 m.p.q, I6 m.p.h, .string m.p.t]) (fun w' hw => by have c := blk_cell hw.1; clear hS; go_simp) ?_
 try simp only [ly]
 refine r1 3 rfl (fun K hK => ?_)
 go_simp
 refine (two_any m.b _ n2.1 n2.2).mono ?_
 rintro e w' ⟨rfl, hbb⟩
 go_wp2_with fail
 refine hK.out _ _ (hS.below hbb) (fun hS => ?_)
 clear hK K hbb
 try simp only [ly]
 refine tk 4 rfl hS (v := .string (S (encA 1 [m.k] ++ (encA 1 [m.f] ++ (encA 1 [m.t] ++ encA 2 [m.b]))))) (fun w' hw => by have he := S_add (encA 1 [m.k] ++ (encA 1 [m.f] ++ encA 1 [m.t])) (encA 2 [m.b]); have hz : ¬ 9223372036854775807 < (S (encA 1 [m.k] ++ (encA 1 [m.f] ++ encA 1 [m.t]))).size + (S (encA 2 [m.b])).size := (by rw [S_size, S_size]; simp [encA, encN]); clear hS; go_simp) ?_
 try simp only [ly]
 refine r1 7 rfl (fun K hK => ?_)
 go_simp
 refine (one_any m.s _ n3.1 n3.2).mono ?_
 rintro e w' ⟨rfl, hbb⟩
 go_wp2_with fail
 refine hK.out _ _ (hS.below hbb) (fun hS => ?_)
 clear hK K hbb
 try simp only [ly]
 refine tk 8 rfl hS (v := .string (S (encA 1 [m.k] ++ (encA 1 [m.f] ++ (encA 1 [m.t] ++ (encA 2 [m.b] ++ encA 1 [m.s])))))) (fun w' hw => by have he := S_add (encA 1 [m.k] ++ (encA 1 [m.f] ++ (encA 1 [m.t] ++ encA 2 [m.b]))) (encA 1 [m.s]); have hz : ¬ 9223372036854775807 < (S (encA 1 [m.k] ++ (encA 1 [m.f] ++ (encA 1 [m.t] ++ encA 2 [m.b])))).size + (S (encA 1 [m.s])).size := (by rw [S_size, S_size]; simp [encA, encN]); clear hS; go_simp) ?_
 try simp only [ly]
 refine r1 11 rfl (fun K hK => ?_)
 go_simp
 refine (text_any m.p _ hrv).mono ?_
 rintro e w' ⟨rfl, hbb⟩
 go_wp2_with fail
 refine hK.out _ _ (hS.below hbb) (fun hS => ?_)
 clear hK K hbb
 try simp only [ly]
 refine tk 12 rfl hS (v := .string (S (encA 1 [m.k] ++ (encA 1 [m.f] ++ (encA 1 [m.t] ++ (encA 2 [m.b] ++ (encA 1 [m.s] ++ encV m.p))))))) (fun w' hw => by have he := S_add (encA 1 [m.k] ++ (encA 1 [m.f] ++ (encA 1 [m.t] ++ (encA 2 [m.b] ++ encA 1 [m.s])))) (encV m.p); have hz : ¬ 9223372036854775807 < (S (encA 1 [m.k] ++ (encA 1 [m.f] ++ (encA 1 [m.t] ++ (encA 2 [m.b] ++ encA 1 [m.s]))))).size + (S (encV m.p)).size := (by rw [S_size, S_size]; have := hev; simp [encA, encN]; omega); clear hS; go_simp) ?_
 try simp only [ly]
 refine tk 13 rfl hS (v := .string (S (encA 1 [m.k] ++ (encA 1 [m.f] ++ (encA 1 [m.t] ++ (encA 2 [m.b] ++ (encA 1 [m.s] ++ encV m.p))))))) (fun w' hw => by clear hS; go_simp) ?_
 try simp only [ly]
 refine dn ?_ _
 have hmc := blk_cell hS.1
 go_wp2
 go_ret2
 exact ⟨rfl, hS.2⟩
set_option maxHeartbeats 8000000 in
theorem rpack_d (m : Ms) (v : Value) (w : World) (hv : VAt w v m.a) (hrm : rmB m = true)
  (e1 : (m.k == 3) = false) (e2 : (m.k == 4) = true) (e4 : (m.k == 2) = false) (n2 : 0 ≤ m.b ∧ m.b ≤ 1000000) (n3 : 0 ≤ m.s ∧ m.s ≤ 1000000) (n1 : (0 ≤ m.k ∧ m.k ≤ 1000000) ∧ (0 ≤ m.f ∧ m.f ≤ 1000000) ∧ (0 ≤ m.t ∧ m.t ≤ 1000000)) :
  Calls Tryz.prog 20 #[.agg #[I6 m.k, I6 m.f, I6 m.t, I6 m.b, I6 m.s, I6 m.p.c, I6 m.p.q, I6 m.p.h, .string m.p.t, v]] w fun e w' =>
   e = .returned (.tuple #[.string (S (encA 1 [m.k] ++ (encA 1 [m.f] ++ (encA 1 [m.t] ++ (encA 2 [m.b] ++ encA 1 [m.s]))))), I6 0]) ∧ Below w.heap.size w w' := by
 obtain ⟨ao, cap, hve, hvf⟩ := hv.form
 subst hve
 go_enter Tryz.func20, Tryz.ntmps20
 go_wp2_with fail
 refine (right_any m.k m.f m.t m.b m.s m.p.c m.p.q m.p.h m.p.t _ m.a _ (hv.alloc _)).mono ?_
 rintro e w1 ⟨rfl, hb1⟩
 have hrm' : rmB ⟨m.k, m.f, m.t, m.b, m.s, ⟨m.p.c, m.p.q, m.p.h, m.p.t⟩, m.a⟩ = true := hrm
 have hS0 : BS w w.heap.size #[I6 m.k, I6 m.f, I6 m.t, I6 m.b, I6 m.s, I6 m.p.c, I6 m.p.q, I6 m.p.h, .string m.p.t, .slice ao m.a.length cap] 36 w1 := ⟨blk_below hb1 (blk_new w _), ((Below.refl _ _).alloc (Nat.le_refl _) _).trans (hb1.mono (by simp))⟩
 clear hb1
 go_wp2
 refine wp_region_held_drew (S := BS w w.heap.size #[I6 m.k, I6 m.f, I6 m.t, I6 m.b, I6 m.s, I6 m.p.c, I6 m.p.q, I6 m.p.h, .string m.p.t, .slice ao m.a.length cap] 36) (by kernel_rfl) (BS.drew hS0) (fun hS => ?_)
 refine tk 0 rfl hS (v := P6 w.heap.size) (fun w' hw => by clear hS; go_simp) ?_
 try simp only [ly]
 refine tk 1 rfl hS (v := I6 m.k) (fun w' hw => by have c := blk_cell hw.1; clear hS; go_simp) ?_
 try simp only [ly]
 refine tk 3 rfl hS (v := .pointer (some (A6 w.heap.size 1))) (fun w' hw => by clear hS; go_simp) ?_
 try simp only [ly]
 refine tk 4 rfl hS (v := I6 m.f) (fun w' hw => by have c := blk_cell hw.1; clear hS; go_simp) ?_
 try simp only [ly]
 refine tk 7 rfl hS (v := .pointer (some (A6 w.heap.size 2))) (fun w' hw => by clear hS; go_simp) ?_
 try simp only [ly]
 refine tk 8 rfl hS (v := I6 m.t) (fun w' hw => by have c := blk_cell hw.1; clear hS; go_simp) ?_
 try simp only [ly]
 refine r1 2 rfl (fun K hK => ?_)
 go_simp
 refine (one_any m.k _ n1.1.1 n1.1.2).mono ?_
 rintro e w' ⟨rfl, hbb⟩
 go_wp2_with fail
 refine hK.out _ _ (hS.below hbb) (fun hS => ?_)
 clear hK K hbb
 try simp only [ly]
 refine r1 5 rfl (fun K hK => ?_)
 go_simp
 refine (one_any m.f _ n1.2.1.1 n1.2.1.2).mono ?_
 rintro e w' ⟨rfl, hbb⟩
 go_wp2_with fail
 refine hK.out _ _ (hS.below hbb) (fun hS => ?_)
 clear hK K hbb
 try simp only [ly]
 refine tk 6 rfl hS (v := .string (S (encA 1 [m.k] ++ encA 1 [m.f]))) (fun w' hw => by have he := S_add (encA 1 [m.k]) (encA 1 [m.f]); have hz : ¬ 9223372036854775807 < (S (encA 1 [m.k])).size + (S (encA 1 [m.f])).size := (by rw [S_size, S_size]; simp [encA, encN]); clear hS; go_simp) ?_
 try simp only [ly]
 refine r1 9 rfl (fun K hK => ?_)
 go_simp
 refine (one_any m.t _ n1.2.2.1 n1.2.2.2).mono ?_
 rintro e w' ⟨rfl, hbb⟩
 go_wp2_with fail
 refine hK.out _ _ (hS.below hbb) (fun hS => ?_)
 clear hK K hbb
 try simp only [ly]
 refine tk 10 rfl hS (v := .string (S (encA 1 [m.k] ++ (encA 1 [m.f] ++ encA 1 [m.t])))) (fun w' hw => by have he := S_add (encA 1 [m.k] ++ encA 1 [m.f]) (encA 1 [m.t]); have hz : ¬ 9223372036854775807 < (S (encA 1 [m.k] ++ encA 1 [m.f])).size + (S (encA 1 [m.t])).size := (by rw [S_size, S_size]; simp [encA, encN]); clear hS; go_simp) ?_
 try simp only [ly]
 refine tk 11 rfl hS (v := .string (S (encA 1 [m.k] ++ (encA 1 [m.f] ++ encA 1 [m.t])))) (fun w' hw => by clear hS; go_simp) ?_
 try simp only [ly]
 refine dn ?_ _
 have hmc := blk_cell hS.1
 go_wp2
 clear hmc
 refine wp_region_held_drew (S := BS w w.heap.size #[I6 m.k, I6 m.f, I6 m.t, I6 m.b, I6 m.s, I6 m.p.c, I6 m.p.q, I6 m.p.h, .string m.p.t, .slice ao m.a.length cap] 36) (by kernel_rfl) (hS.drew) (fun hS => ?_)
 refine tk 0 rfl hS (v := .string (S (encA 1 [m.k] ++ (encA 1 [m.f] ++ encA 1 [m.t])))) (fun w' hw => by clear hS; go_simp) ?_
 try simp only [ly]
 refine tk 1 rfl hS (v := .pointer (some (A6 w.heap.size 3))) (fun w' hw => by clear hS; go_simp) ?_
 try simp only [ly]
 refine tk 2 rfl hS (v := I6 m.b) (fun w' hw => by have c := blk_cell hw.1; clear hS; go_simp) ?_
 try simp only [ly]
 refine tk 5 rfl hS (v := .pointer (some (A6 w.heap.size 4))) (fun w' hw => by clear hS; go_simp) ?_
 try simp only [ly]
 refine tk 6 rfl hS (v := I6 m.s) (fun w' hw => by have c := blk_cell hw.1; clear hS; go_simp) ?_
 try simp only [ly]
 refine r1 3 rfl (fun K hK => ?_)
 go_simp
 refine (two_any m.b _ n2.1 n2.2).mono ?_
 rintro e w' ⟨rfl, hbb⟩
 go_wp2_with fail
 refine hK.out _ _ (hS.below hbb) (fun hS => ?_)
 clear hK K hbb
 try simp only [ly]
 refine tk 4 rfl hS (v := .string (S (encA 1 [m.k] ++ (encA 1 [m.f] ++ (encA 1 [m.t] ++ encA 2 [m.b]))))) (fun w' hw => by have he := S_add (encA 1 [m.k] ++ (encA 1 [m.f] ++ encA 1 [m.t])) (encA 2 [m.b]); have hz : ¬ 9223372036854775807 < (S (encA 1 [m.k] ++ (encA 1 [m.f] ++ encA 1 [m.t]))).size + (S (encA 2 [m.b])).size := (by rw [S_size, S_size]; simp [encA, encN]); clear hS; go_simp) ?_
 try simp only [ly]
 refine r1 7 rfl (fun K hK => ?_)
 go_simp
 refine (one_any m.s _ n3.1 n3.2).mono ?_
 rintro e w' ⟨rfl, hbb⟩
 go_wp2_with fail
 refine hK.out _ _ (hS.below hbb) (fun hS => ?_)
 clear hK K hbb
 try simp only [ly]
 refine tk 8 rfl hS (v := .string (S (encA 1 [m.k] ++ (encA 1 [m.f] ++ (encA 1 [m.t] ++ (encA 2 [m.b] ++ encA 1 [m.s])))))) (fun w' hw => by have he := S_add (encA 1 [m.k] ++ (encA 1 [m.f] ++ (encA 1 [m.t] ++ encA 2 [m.b]))) (encA 1 [m.s]); have hz : ¬ 9223372036854775807 < (S (encA 1 [m.k] ++ (encA 1 [m.f] ++ (encA 1 [m.t] ++ encA 2 [m.b])))).size + (S (encA 1 [m.s])).size := (by rw [S_size, S_size]; simp [encA, encN]); clear hS; go_simp) ?_
 try simp only [ly]
 refine tk 9 rfl hS (v := .string (S (encA 1 [m.k] ++ (encA 1 [m.f] ++ (encA 1 [m.t] ++ (encA 2 [m.b] ++ encA 1 [m.s])))))) (fun w' hw => by clear hS; go_simp) ?_
 try simp only [ly]
 refine dn ?_ _
 have hmc := blk_cell hS.1
 go_wp2
 go_ret2
 exact ⟨rfl, hS.2⟩
set_option maxHeartbeats 8000000 in
theorem rpack_e (m : Ms) (v : Value) (w : World) (hv : VAt w v m.a) (hrm : rmB m = true)
  (e1 : (m.k == 3) = false) (e2 : (m.k == 4) = false) (e3 : (m.k == 5) = true) (e4 : (m.k == 2) = false) (n3 : 0 ≤ m.s ∧ m.s ≤ 1000000) (hrv : rightValueB m.p = true) (hev : (encV m.p).length ≤ 1005) (n1 : (0 ≤ m.k ∧ m.k ≤ 1000000) ∧ (0 ≤ m.f ∧ m.f ≤ 1000000) ∧ (0 ≤ m.t ∧ m.t ≤ 1000000)) :
  Calls Tryz.prog 20 #[.agg #[I6 m.k, I6 m.f, I6 m.t, I6 m.b, I6 m.s, I6 m.p.c, I6 m.p.q, I6 m.p.h, .string m.p.t, v]] w fun e w' =>
   e = .returned (.tuple #[.string (S (encA 1 [m.k] ++ (encA 1 [m.f] ++ (encA 1 [m.t] ++ (encA 1 [m.s] ++ encV m.p))))), I6 0]) ∧ Below w.heap.size w w' := by
 obtain ⟨ao, cap, hve, hvf⟩ := hv.form
 subst hve
 go_enter Tryz.func20, Tryz.ntmps20
 go_wp2_with fail
 refine (right_any m.k m.f m.t m.b m.s m.p.c m.p.q m.p.h m.p.t _ m.a _ (hv.alloc _)).mono ?_
 rintro e w1 ⟨rfl, hb1⟩
 have hrm' : rmB ⟨m.k, m.f, m.t, m.b, m.s, ⟨m.p.c, m.p.q, m.p.h, m.p.t⟩, m.a⟩ = true := hrm
 have hS0 : BS w w.heap.size #[I6 m.k, I6 m.f, I6 m.t, I6 m.b, I6 m.s, I6 m.p.c, I6 m.p.q, I6 m.p.h, .string m.p.t, .slice ao m.a.length cap] 36 w1 := ⟨blk_below hb1 (blk_new w _), ((Below.refl _ _).alloc (Nat.le_refl _) _).trans (hb1.mono (by simp))⟩
 clear hb1
 go_wp2
 refine wp_region_held_drew (S := BS w w.heap.size #[I6 m.k, I6 m.f, I6 m.t, I6 m.b, I6 m.s, I6 m.p.c, I6 m.p.q, I6 m.p.h, .string m.p.t, .slice ao m.a.length cap] 36) (by kernel_rfl) (BS.drew hS0) (fun hS => ?_)
 refine tk 0 rfl hS (v := P6 w.heap.size) (fun w' hw => by clear hS; go_simp) ?_
 try simp only [ly]
 refine tk 1 rfl hS (v := I6 m.k) (fun w' hw => by have c := blk_cell hw.1; clear hS; go_simp) ?_
 try simp only [ly]
 refine tk 3 rfl hS (v := .pointer (some (A6 w.heap.size 1))) (fun w' hw => by clear hS; go_simp) ?_
 try simp only [ly]
 refine tk 4 rfl hS (v := I6 m.f) (fun w' hw => by have c := blk_cell hw.1; clear hS; go_simp) ?_
 try simp only [ly]
 refine tk 7 rfl hS (v := .pointer (some (A6 w.heap.size 2))) (fun w' hw => by clear hS; go_simp) ?_
 try simp only [ly]
 refine tk 8 rfl hS (v := I6 m.t) (fun w' hw => by have c := blk_cell hw.1; clear hS; go_simp) ?_
 try simp only [ly]
 refine r1 2 rfl (fun K hK => ?_)
 go_simp
 refine (one_any m.k _ n1.1.1 n1.1.2).mono ?_
 rintro e w' ⟨rfl, hbb⟩
 go_wp2_with fail
 refine hK.out _ _ (hS.below hbb) (fun hS => ?_)
 clear hK K hbb
 try simp only [ly]
 refine r1 5 rfl (fun K hK => ?_)
 go_simp
 refine (one_any m.f _ n1.2.1.1 n1.2.1.2).mono ?_
 rintro e w' ⟨rfl, hbb⟩
 go_wp2_with fail
 refine hK.out _ _ (hS.below hbb) (fun hS => ?_)
 clear hK K hbb
 try simp only [ly]
 refine tk 6 rfl hS (v := .string (S (encA 1 [m.k] ++ encA 1 [m.f]))) (fun w' hw => by have he := S_add (encA 1 [m.k]) (encA 1 [m.f]); have hz : ¬ 9223372036854775807 < (S (encA 1 [m.k])).size + (S (encA 1 [m.f])).size := (by rw [S_size, S_size]; simp [encA, encN]); clear hS; go_simp) ?_
 try simp only [ly]
 refine r1 9 rfl (fun K hK => ?_)
 go_simp
 refine (one_any m.t _ n1.2.2.1 n1.2.2.2).mono ?_
 rintro e w' ⟨rfl, hbb⟩
 go_wp2_with fail
 refine hK.out _ _ (hS.below hbb) (fun hS => ?_)
 clear hK K hbb
 try simp only [ly]
 refine tk 10 rfl hS (v := .string (S (encA 1 [m.k] ++ (encA 1 [m.f] ++ encA 1 [m.t])))) (fun w' hw => by have he := S_add (encA 1 [m.k] ++ encA 1 [m.f]) (encA 1 [m.t]); have hz : ¬ 9223372036854775807 < (S (encA 1 [m.k] ++ encA 1 [m.f])).size + (S (encA 1 [m.t])).size := (by rw [S_size, S_size]; simp [encA, encN]); clear hS; go_simp) ?_
 try simp only [ly]
 refine tk 11 rfl hS (v := .string (S (encA 1 [m.k] ++ (encA 1 [m.f] ++ encA 1 [m.t])))) (fun w' hw => by clear hS; go_simp) ?_
 try simp only [ly]
 refine dn ?_ _
 have hmc := blk_cell hS.1
 go_wp2
 clear hmc
 refine wp_region_held_drew (S := BS w w.heap.size #[I6 m.k, I6 m.f, I6 m.t, I6 m.b, I6 m.s, I6 m.p.c, I6 m.p.q, I6 m.p.h, .string m.p.t, .slice ao m.a.length cap] 36) (by kernel_rfl) (hS.drew) (fun hS => ?_)
 refine tk 0 rfl hS (v := .string (S (encA 1 [m.k] ++ (encA 1 [m.f] ++ encA 1 [m.t])))) (fun w' hw => by clear hS; go_simp) ?_
 try simp only [ly]
 refine tk 1 rfl hS (v := .pointer (some (A6 w.heap.size 4))) (fun w' hw => by clear hS; go_simp) ?_
 try simp only [ly]
 refine tk 2 rfl hS (v := I6 m.s) (fun w' hw => by have c := blk_cell hw.1; clear hS; go_simp) ?_
 try simp only [ly]
 refine tk 5 rfl hS (v := .pointer (some (A6 w.heap.size 5))) (fun w' hw => by clear hS; go_simp) ?_
 try simp only [ly]
 refine tk 6 rfl hS (v := .agg #[I6 m.p.c, I6 m.p.q, I6 m.p.h, .string m.p.t]) (fun w' hw => by have c := blk_cell hw.1; clear hS; go_simp) ?_
 try simp only [ly]
 refine r1 3 rfl (fun K hK => ?_)
 go_simp
 refine (one_any m.s _ n3.1 n3.2).mono ?_
 rintro e w' ⟨rfl, hbb⟩
 go_wp2_with fail
 refine hK.out _ _ (hS.below hbb) (fun hS => ?_)
 clear hK K hbb
 try simp only [ly]
 refine tk 4 rfl hS (v := .string (S (encA 1 [m.k] ++ (encA 1 [m.f] ++ (encA 1 [m.t] ++ encA 1 [m.s]))))) (fun w' hw => by have he := S_add (encA 1 [m.k] ++ (encA 1 [m.f] ++ encA 1 [m.t])) (encA 1 [m.s]); have hz : ¬ 9223372036854775807 < (S (encA 1 [m.k] ++ (encA 1 [m.f] ++ encA 1 [m.t]))).size + (S (encA 1 [m.s])).size := (by rw [S_size, S_size]; simp [encA, encN]); clear hS; go_simp) ?_
 try simp only [ly]
 refine r1 7 rfl (fun K hK => ?_)
 go_simp
 refine (text_any m.p _ hrv).mono ?_
 rintro e w' ⟨rfl, hbb⟩
 go_wp2_with fail
 refine hK.out _ _ (hS.below hbb) (fun hS => ?_)
 clear hK K hbb
 try simp only [ly]
 refine tk 8 rfl hS (v := .string (S (encA 1 [m.k] ++ (encA 1 [m.f] ++ (encA 1 [m.t] ++ (encA 1 [m.s] ++ encV m.p)))))) (fun w' hw => by have he := S_add (encA 1 [m.k] ++ (encA 1 [m.f] ++ (encA 1 [m.t] ++ encA 1 [m.s]))) (encV m.p); have hz : ¬ 9223372036854775807 < (S (encA 1 [m.k] ++ (encA 1 [m.f] ++ (encA 1 [m.t] ++ encA 1 [m.s])))).size + (S (encV m.p)).size := (by rw [S_size, S_size]; have := hev; simp [encA, encN]; omega); clear hS; go_simp) ?_
 try simp only [ly]
 refine tk 9 rfl hS (v := .string (S (encA 1 [m.k] ++ (encA 1 [m.f] ++ (encA 1 [m.t] ++ (encA 1 [m.s] ++ encV m.p)))))) (fun w' hw => by clear hS; go_simp) ?_
 try simp only [ly]
 refine dn ?_ _
 have hmc := blk_cell hS.1
 go_wp2
 go_ret2
 exact ⟨rfl, hS.2⟩
end
end Go.Proofs.YtnnhnekfokbooaaGreatDoor
