/- RefF, RefG, RefD -/
import Derived.Test.YtnnhnekfokbooaaGreatDoorAl47
set_option linter.unusedSimpArgs false
set_option linter.unusedVariables false
set_option maxRecDepth 100000
namespace Go.Proofs.YtnnhnekfokbooaaGreatDoor
section
open Go.RowKit
set_option maxHeartbeats 8000000 in
theorem rpack_b (m : Ms) (v : Value) (w : World) (hv : VAt w v m.a) (hrm : rmB m = true)
  (e5 : m.k = 2) (n2 : 0 ≤ m.b ∧ m.b ≤ 1000000) (n8 : m.a.length ≤ 16) (n9 : ∀ x ∈ m.a, x.ok ∧ rightValueB x.p = true) (n1 : (0 ≤ m.k ∧ m.k ≤ 1000000) ∧ (0 ≤ m.f ∧ m.f ≤ 1000000) ∧ (0 ≤ m.t ∧ m.t ≤ 1000000)) :
  Calls Tryz.prog 20 #[.agg #[I6 m.k, I6 m.f, I6 m.t, I6 m.b, I6 m.s, I6 m.p.c, I6 m.p.q, I6 m.p.h, .string m.p.t, v]] w fun e w' =>
   e = .returned (.tuple #[.string (S ((encA 1 [m.k] ++ (encA 1 [m.f] ++ (encA 1 [m.t] ++ (encA 2 [m.b] ++ encA 1 [(m.a.length : Int)])))) ++ encVs m.a)), I6 0]) ∧ Below w.heap.size w w' := by
 have e1 : (m.k == 3) = false := by rw [e5]; rfl
 have e2 : (m.k == 4) = false := by rw [e5]; rfl
 have e3 : (m.k == 5) = false := by rw [e5]; rfl
 have e4 : (m.k == 2) = true := by rw [e5]; rfl
 clear e5
 obtain ⟨ao, cap, hve, hvf⟩ := hv.form
 subst hve
 go_enter Tryz.func20, Tryz.ntmps20
 go_wp2_with fail
 refine (right_any m.k m.f m.t m.b m.s m.p.c m.p.q m.p.h m.p.t _ m.a _ (hv.alloc _)).mono ?_
 rintro e w1 ⟨rfl, hb1⟩
 have hrm' : rmB ⟨m.k, m.f, m.t, m.b, m.s, ⟨m.p.c, m.p.q, m.p.h, m.p.t⟩, m.a⟩ = true := hrm
 have hS0 : BS w w.heap.size #[I6 m.k, I6 m.f, I6 m.t, I6 m.b, I6 m.s, I6 m.p.c, I6 m.p.q, I6 m.p.h, .string m.p.t, .slice ao m.a.length cap] 36 w1 := ⟨blk_below hb1 (blk_new w _), ((Below.refl _ _).alloc (Nat.le_refl _) _).trans (hb1.mono (by simp))⟩
 clear hb1
 go_wp2
 refine wp_region_held_drew (S := BS w w.heap.size #[I6 m.k, I6 m.f, I6 m.t, I6 m.b, I6 m.s, I6 m.p.c, I6 m.p.q, I6 m.p.h, .string m.p.t, .slice ao m.a.length cap] 36) (by kernel_rfl) (BS.drew hS0) (fun hS => ?_)
 refine tk 0 rfl hS (v := P6 w.heap.size) (fun w' hw => by clear hS; go_simp) ?_
 try simp only [ly]
 refine tk 1 rfl hS (v := I6 m.k) (fun w' hw => by have c := blk_cell hw.1; clear hS; go_simp) ?_
 try simp only [ly]
 refine tk 3 rfl hS (v := .pointer (some (A6 w.heap.size 1))) (fun w' hw => by clear hS; go_simp) ?_
 try simp only [ly]
 refine tk 4 rfl hS (v := I6 m.f) (fun w' hw => by have c := blk_cell hw.1; clear hS; go_simp) ?_
 try simp only [ly]
 refine tk 7 rfl hS (v := .pointer (some (A6 w.heap.size 2))) (fun w' hw => by clear hS; go_simp) ?_
 try simp only [ly]
 refine tk 8 rfl hS (v := I6 m.t) (fun w' hw => by have c := blk_cell hw.1; clear hS; go_simp) ?_
 try simp only [ly]
 refine r1 2 rfl (fun K hK => ?_)
 go_simp
 refine (one_any m.k _ n1.1.1 n1.1.2).mono ?_
 rintro e w' ⟨rfl, hbb⟩
 go_wp2_with fail
 refine hK.out _ _ (hS.below hbb) (fun hS => ?_)
 clear hK K hbb
 try simp only [ly]
 refine r1 5 rfl (fun K hK => ?_)
 go_simp
 refine (one_any m.f _ n1.2.1.1 n1.2.1.2).mono ?_
 rintro e w' ⟨rfl, hbb⟩
 go_wp2_with fail
 refine hK.out _ _ (hS.below hbb) (fun hS => ?_)
 clear hK K hbb
 try simp only [ly]
 refine tk 6 rfl hS (v := .string (S (encA 1 [m.k] ++ encA 1 [m.f]))) (fun w' hw => by have he := S_add (encA 1 [m.k]) (encA 1 [m.f]); have hz : ¬ 9223372036854775807 < (S (encA 1 [m.k])).size + (S (encA 1 [m.f])).size := (by rw [S_size, S_size]; simp [encA, encN]); clear hS; go_simp) ?_
 try simp only [ly]
 refine r1 9 rfl (fun K hK => ?_)
 go_simp
 refine (one_any m.t _ n1.2.2.1 n1.2.2.2).mono ?_
 rintro e w' ⟨rfl, hbb⟩
 go_wp2_with fail
 refine hK.out _ _ (hS.below hbb) (fun hS => ?_)
 clear hK K hbb
 try simp only [ly]
 refine tk 10 rfl hS (v := .string (S (encA 1 [m.k] ++ (encA 1 [m.f] ++ encA 1 [m.t])))) (fun w' hw => by have he := S_add (encA 1 [m.k] ++ encA 1 [m.f]) (encA 1 [m.t]); have hz : ¬ 9223372036854775807 < (S (encA 1 [m.k] ++ encA 1 [m.f])).size + (S (encA 1 [m.t])).size := (by rw [S_size, S_size]; simp [encA, encN]); clear hS; go_simp) ?_
 try simp only [ly]
 refine tk 11 rfl hS (v := .string (S (encA 1 [m.k] ++ (encA 1 [m.f] ++ encA 1 [m.t])))) (fun w' hw => by clear hS; go_simp) ?_
 try simp only [ly]
 refine dn ?_ _
 have hmc := blk_cell hS.1
 have he := S_add (encA 1 [m.k] ++ (encA 1 [m.f] ++ encA 1 [m.t])) (encA 2 [m.b])
 have hz : ¬ 9223372036854775807 < (S (encA 1 [m.k] ++ (encA 1 [m.f] ++ encA 1 [m.t]))).size + (S (encA 2 [m.b])).size := (by rw [S_size, S_size]; simp [encA, encN])
 have he2 := S_add (encA 1 [m.k] ++ (encA 1 [m.f] ++ (encA 1 [m.t] ++ encA 2 [m.b]))) (encA 1 [(m.a.length : Int)])
 have hz2 : ¬ 9223372036854775807 < (S (encA 1 [m.k] ++ (encA 1 [m.f] ++ (encA 1 [m.t] ++ encA 2 [m.b])))).size + (S (encA 1 [(m.a.length : Int)])).size := (by rw [S_size, S_size]; simp [encA, encN])
 go_wp2_with fail
 refine (two_any m.b _ n2.1 n2.2).mono ?_
 rintro e w3 ⟨rfl, hb3⟩
 have hS3 := hS.below hb3
 clear hmc hS hb3
 have hmc := blk_cell hS3.1
 go_wp2_with fail
 refine (one_any (m.a.length : Int) _ (by omega) (by omega)).mono ?_
 rintro e w4 ⟨rfl, hb4⟩
 have hS4 := hS3.below hb4
 clear hmc hS3 hb4
 have hmc := blk_cell hS4.1
 have hpl : (encA 1 [m.k] ++ (encA 1 [m.f] ++ (encA 1 [m.t] ++ (encA 2 [m.b] ++ encA 1 [(m.a.length : Int)])))).length ≤ 10 := by simp [encA, encN]
 go_wp2_with fail
 clear he hz he2 hz2
 generalize hpre : encA 1 [m.k] ++ (encA 1 [m.f] ++ (encA 1 [m.t] ++ (encA 2 [m.b] ++ encA 1 [(m.a.length : Int)]))) = pre at *
 have HP := hide hpre
 clear hpre
 go_loopw [5, 6] (fun sv i wr => ∃ (j : Nat) (cur : List UInt8), j ≤ m.a.length ∧ i = I6 j ∧ sv = .string (S cur) ∧ cur = pre ++ encVs (m.a.take j) ∧ wr.heap[w.heap.size]? = some (.cells #[I6 m.k, I6 m.f, I6 m.t, I6 m.b, I6 m.s, I6 m.p.c, I6 m.p.q, I6 m.p.h, .string m.p.t, .slice ao m.a.length cap] 36 (0, 0)) ∧ Below w.heap.size w wr) (fun _ i _ => m.a.length - (intOf i).toNat)
 case atStart => exact ⟨0, pre, Nat.zero_le _, rfl, rfl, by simp [encVs], hS4.1, hS4.2⟩
 case round =>
  clear hmc
  obtain ⟨j, cur, hj, rfl, rfl, hcur, hm, hB⟩ := hrel
  have HC := hide hcur
  have hz := hB.size
  have hmc := blk_cell hm
  by_cases hlt : j < m.a.length
  ·obtain ⟨g, off, rfl, hg, hcell⟩ := hvf (by intro e; rw [e] at hlt; simp at hlt)
   have c0 : wr.cell? (A6 g (off + j * 6)) = some (I6 m.a[j].s) := by
    rw [hB.cell (p := (A6 g (off + j * 6))) hg]; exact hcell _ _ (vcells_at m.a j hlt 0 (by decide))
   have c1 : wr.cell? (A6 g (off + j * 6 + 1)) = some (I6 m.a[j].b) := by
    rw [hB.cell (p := (A6 g (off + j * 6 + 1))) hg]; exact hcell _ _ (vcells_at m.a j hlt 1 (by decide))
   have c2 : wr.cell? (A6 g (off + j * 6 + 2)) = some (I6 m.a[j].p.c) := by
    rw [hB.cell (p := (A6 g (off + j * 6 + 2))) hg]; exact hcell _ _ (vcells_at m.a j hlt 2 (by decide))
   have c3 : wr.cell? (A6 g (off + j * 6 + 3)) = some (I6 m.a[j].p.q) := by
    rw [hB.cell (p := (A6 g (off + j * 6 + 3))) hg]; exact hcell _ _ (vcells_at m.a j hlt 3 (by decide))
   have c4 : wr.cell? (A6 g (off + j * 6 + 4)) = some (I6 m.a[j].p.h) := by
    rw [hB.cell (p := (A6 g (off + j * 6 + 4))) hg]; exact hcell _ _ (vcells_at m.a j hlt 4 (by decide))
   have c5 : wr.cell? (A6 g (off + j * 6 + 5)) = some (.string m.a[j].p.t) := by
    rw [hB.cell (p := (A6 g (off + j * 6 + 5))) hg]; exact hcell _ _ (vcells_at m.a j hlt 5 (by decide))
   obtain ⟨⟨k1, k2, k3, k4, k5, k6⟩, k7⟩ := n9 m.a[j] (List.getElem_mem hlt)
   have HE := hide (show encVs (m.a.take (j + 1)) = encVs (m.a.take j) ++ encX m.a[j] from by
    rw [List.take_succ_eq_append_getElem hlt, encVs_append]; simp [encVs])
   have HX := hide (show encX m.a[j] = encA 1 [m.a[j].s] ++ encA 2 [m.a[j].b] ++ encV m.a[j].p from rfl)
   have hcl : cur.length ≤ 17000 := by
    have h1 := encVs_length_le (m.a.take j) (fun x hx => (n9 x (List.mem_of_mem_take hx)).1)
    rw [hcur, List.length_append]
    simp only [List.length_take] at h1
    have h2 : min j m.a.length * 1010 ≤ 16 * 1010 := Nat.mul_le_mul_right _ (by omega)
    omega
   have hev : (encV m.a[j].p).length ≤ 1005 := encV_length_le _ k6
   clear hcell hcur
   generalize m.a[j] = xx at *
   obtain ⟨xs, xb, ⟨pc, pq, ph, pt⟩⟩ := xx
   dsimp only at *
   have hS0 : BS wr wr.heap.size #[I6 xs, I6 xb, I6 pc, I6 pq, I6 ph, .string pt] 53 (wr.alloc (.cells #[I6 xs, I6 xb, I6 pc, I6 pq, I6 ph, .string pt] 53)) := ⟨blk_new _ _, (Below.refl _ _).alloc (Nat.le_refl _) _⟩
   have hT := fun w => text_any ⟨pc, pq, ph, pt⟩ w k7
   dsimp only at hT
   have HT := hide hT
   clear hT
   go_wp2
   refine wp_region_held_drew (S := BS wr wr.heap.size #[I6 xs, I6 xb, I6 pc, I6 pq, I6 ph, .string pt] 53) (by kernel_rfl) (BS.drew hS0) (fun hS => ?_)
   refine tk 0 rfl hS (v := .string (S cur)) (fun w' hw => by clear hS; go_simp) ?_
   try simp only [ly]
   refine tk 1 rfl hS (v := P6 wr.heap.size) (fun w' hw => by clear hS; go_simp) ?_
   try simp only [ly]
   refine tk 2 rfl hS (v := I6 xs) (fun w' hw => by have c := blk_cell hw.1; clear hS; go_simp) ?_
   try simp only [ly]
   refine tk 5 rfl hS (v := .pointer (some (A6 wr.heap.size 1))) (fun w' hw => by clear hS; go_simp) ?_
   try simp only [ly]
   refine tk 6 rfl hS (v := I6 xb) (fun w' hw => by have c := blk_cell hw.1; clear hS; go_simp) ?_
   try simp only [ly]
   refine tk 9 rfl hS (v := .pointer (some (A6 wr.heap.size 2))) (fun w' hw => by clear hS; go_simp) ?_
   try simp only [ly]
   refine tk 10 rfl hS (v := .agg #[I6 pc, I6 pq, I6 ph, .string pt]) (fun w' hw => by have c := blk_cell hw.1; clear hS; go_simp) ?_
   try simp only [ly]
   refine r1 3 rfl (fun K hK => ?_)
   go_simp
   refine (one_any xs _ k1.1 k1.2).mono ?_
   rintro e w' ⟨rfl, hbb⟩
   go_wp2_with fail
   refine hK.out _ _ (hS.below hbb) (fun hS => ?_)
   clear hK K hbb
   try simp only [ly]
   refine tk 4 rfl hS (v := .string (S (cur ++ encA 1 [xs]))) (fun w' hw => by have he := S_add (cur) (encA 1 [xs]); have hz : ¬ 9223372036854775807 < (S (cur)).size + (S (encA 1 [xs])).size := (by rw [S_size, S_size]; have := hcl; have := hev; simp [encA, encN]; omega); clear hS; go_simp) ?_
   try simp only [ly]
   refine r1 7 rfl (fun K hK => ?_)
   go_simp
   refine (two_any xb _ k2.1 k2.2).mono ?_
   rintro e w' ⟨rfl, hbb⟩
   go_wp2_with fail
   refine hK.out _ _ (hS.below hbb) (fun hS => ?_)
   clear hK K hbb
   try simp only [ly]
   refine tk 8 rfl hS (v := .string (S (cur ++ (encA 1 [xs] ++ encA 2 [xb])))) (fun w' hw => by have he := S_add (cur ++ encA 1 [xs]) (encA 2 [xb]); have hz : ¬ 9223372036854775807 < (S (cur ++ encA 1 [xs])).size + (S (encA 2 [xb])).size := (by rw [S_size, S_size]; have := hcl; have := hev; simp [encA, encN]; omega); clear hS; go_simp) ?_
   try simp only [ly]
   refine r1 11 rfl (fun K hK => ?_)
   go_simp
   refine (unhide HT _).mono ?_
   rintro e w' ⟨rfl, hbb⟩
   go_wp2_with fail
   refine hK.out _ _ (hS.below hbb) (fun hS => ?_)
   clear hK K hbb
   try simp only [ly]
   refine tk 12 rfl hS (v := .string (S (cur ++ (encA 1 [xs] ++ (encA 2 [xb] ++ encV ⟨pc, pq, ph, pt⟩))))) (fun w' hw => by have he := S_add (cur ++ (encA 1 [xs] ++ encA 2 [xb])) (encV ⟨pc, pq, ph, pt⟩); have hz : ¬ 9223372036854775807 < (S (cur ++ (encA 1 [xs] ++ encA 2 [xb]))).size + (S (encV ⟨pc, pq, ph, pt⟩)).size := (by rw [S_size, S_size]; have := hcl; have := hev; simp [encA, encN]; omega); clear hS; go_simp) ?_
   try simp only [ly]
   refine tk 13 rfl hS (v := .string (S (cur ++ (encA 1 [xs] ++ (encA 2 [xb] ++ encV ⟨pc, pq, ph, pt⟩))))) (fun w' hw => by clear hS; go_simp) ?_
   try simp only [ly]
   refine dn ?_ _
   have hm9 := blk_below hS.2 hm
   have hB9 := hB.trans (hS.2.mono hz)
   go_wp2
   go_roundw
   case rel => exact ⟨j + 1, cur ++ (encA 1 [xs] ++ (encA 2 [xb] ++ encV ⟨pc, pq, ph, pt⟩)), by omega, by go_num, rfl, by rw [unhide HE, unhide HX, unhide HC]; simp, hm9, hB9⟩
   case measure => simp [intOf]; omega
  ·have hjl : j = m.a.length := by omega
   have hfin : cur = pre ++ encVs m.a := by rw [hcur, hjl, List.take_length]
   clear hcur HC
   have HF := hide hfin
   clear hfin
   go_wp2
   go_ret2
   exact ⟨by rw [unhide HP, ← unhide HF]; rfl, hB⟩
end
section
open Go.RowKit
theorem rpack_any (m : Ms) (v : Value) (w : World) (hv : VAt w v m.a) :
  Calls Tryz.prog 20 #[.agg #[I6 m.k, I6 m.f, I6 m.t, I6 m.b, I6 m.s, I6 m.p.c, I6 m.p.q, I6 m.p.h, .string m.p.t, v]] w fun e w' =>
   e = .returned (if rmB m then .tuple #[.string (S (encM m)), I6 0] else .tuple #[.string (S []), I6 2]) ∧ Below w.heap.size w w' := by
 cases hrm : rmB m
 ·simpa using rpack_no m v w hv hrm
 ·have hr := hrm
  simp only [rmB, Bool.and_eq_true] at hr
  obtain ⟨⟨⟨⟨⟨⟨r1, r2⟩, r3⟩, r4⟩, r5⟩, r6⟩, r7⟩ := hr
  have b1 := withinB_true r1
  have b2 := withinB_true r2
  have b3 := withinB_true r3
  have n1 : (0 ≤ m.k ∧ m.k ≤ 1000000) ∧ (0 ≤ m.f ∧ m.f ≤ 1000000) ∧ (0 ≤ m.t ∧ m.t ≤ 1000000) := by omega
  rw [if_pos rfl]
  rcases (show m.k = 1 ∨ m.k = 6 ∨ m.k = 2 ∨ m.k = 3 ∨ m.k = 4 ∨ m.k = 5 from by omega) with e | e | e | e | e | e
  ·have h1 : hasB m.k = true := by rw [e]; rfl
   have h2 : hasS m.k = false := by rw [e]; rfl
   have h3 : hasV m.k = false := by rw [e]; rfl
   have h4 : hasA m.k = false := by rw [e]; rfl
   rw [h1] at r4
   have c2 := withinB_true (show withinB m.b 1 8007 = true from r4)
   have P := rpack_a m v w hv hrm (by rw [e]; rfl) (by rw [e]; rfl) (by rw [e]; rfl) (by rw [e]; rfl) (by omega) n1
   simpa [encM, h1, h2, h3, h4, encA_three] using P
  ·have h1 : hasB m.k = true := by rw [e]; rfl
   have h2 : hasS m.k = false := by rw [e]; rfl
   have h3 : hasV m.k = false := by rw [e]; rfl
   have h4 : hasA m.k = false := by rw [e]; rfl
   rw [h1] at r4
   have c2 := withinB_true (show withinB m.b 1 8007 = true from r4)
   have P := rpack_a m v w hv hrm (by rw [e]; rfl) (by rw [e]; rfl) (by rw [e]; rfl) (by rw [e]; rfl) (by omega) n1
   simpa [encM, h1, h2, h3, h4, encA_three] using P
  ·have h1 : hasB m.k = true := by rw [e]; rfl
   have h2 : hasS m.k = false := by rw [e]; rfl
   have h3 : hasV m.k = false := by rw [e]; rfl
   have h4 : hasA m.k = true := by rw [e]; rfl
   rw [h1] at r4; rw [h4] at r7
   have c2 := withinB_true (show withinB m.b 1 8007 = true from r4)
   obtain ⟨c8, c9⟩ := rvB_ok m.a (-1) (by omega) (show rvB (-1) m.a = true from r7)
   have P := rpack_b m v w hv hrm e (by omega) (by have := c9 (by omega); omega) (fun x hx => ⟨(c8 x hx).1, (c8 x hx).2.2.2⟩) n1
   simpa [encM, h1, h2, h3, h4, encA_three] using P
  ·have h1 : hasB m.k = true := by rw [e]; rfl
   have h2 : hasS m.k = true := by rw [e]; rfl
   have h3 : hasV m.k = true := by rw [e]; rfl
   have h4 : hasA m.k = false := by rw [e]; rfl
   rw [h1] at r4; rw [h2] at r5; rw [h3] at r6
   have c2 := withinB_true (show withinB m.b 1 8007 = true from r4)
   have c3 := withinB_true (show withinB m.s 0 15 = true from r5)
   have c6 := (rv_ok m.p (show rightValueB m.p = true from r6)).2.2.2
   have P := rpack_c m v w hv hrm (by rw [e]; rfl) (by rw [e]; rfl) (by omega) (by omega) (show rightValueB m.p = true from r6) (encV_length_le m.p (by omega)) n1
   simpa [encM, h1, h2, h3, h4, encA_three] using P
  ·have h1 : hasB m.k = true := by rw [e]; rfl
   have h2 : hasS m.k = true := by rw [e]; rfl
   have h3 : hasV m.k = false := by rw [e]; rfl
   have h4 : hasA m.k = false := by rw [e]; rfl
   rw [h1] at r4; rw [h2] at r5
   have c2 := withinB_true (show withinB m.b 1 8007 = true from r4)
   have c3 := withinB_true (show withinB m.s 0 15 = true from r5)
   have P := rpack_d m v w hv hrm (by rw [e]; rfl) (by rw [e]; rfl) (by rw [e]; rfl) (by omega) (by omega) n1
   simpa [encM, h1, h2, h3, h4, encA_three] using P
  ·have h1 : hasB m.k = false := by rw [e]; rfl
   have h2 : hasS m.k = true := by rw [e]; rfl
   have h3 : hasV m.k = true := by rw [e]; rfl
   have h4 : hasA m.k = false := by rw [e]; rfl
   rw [h2] at r5; rw [h3] at r6
   have c3 := withinB_true (show withinB m.s 0 15 = true from r5)
   have c6 := (rv_ok m.p (show rightValueB m.p = true from r6)).2.2.2
   have P := rpack_e m v w hv hrm (by rw [e]; rfl) (by rw [e]; rfl) (by rw [e]; rfl) (by rw [e]; rfl) (by omega) (show rightValueB m.p = true from r6) (encV_length_le m.p (by omega)) n1
   simpa [encM, h1, h2, h3, h4, encA_three] using P
end
section
open Go.RowKit
def EyeAt (w : World) (r : Nat) (l : List UInt8) : Prop := w.heap[r]? = some (.cells #[.string (S l)] 105 (0, 0))
def eNum (k : Nat) (l : List UInt8) : Int := if l.length < k then 0 else numOf (l.take k)
def eAdv (k : Nat) (l : List UInt8) : List UInt8 := if l.length < k then [] else l.drop k
theorem S_get (l : List UInt8) (k : Nat) (hk : k < (S l).size) : (S l)[k]'hk = l[k]'(by rw [S_size] at hk; exact hk) := by
 simp [S, ByteArray.getElem_eq_getElem_data]
set_option maxHeartbeats 1000000 in
theorem enumber_short (r : Nat) (k : Nat) (l : List UInt8) (w : World) (hr : EyeAt w r l) (hl : l.length ≤ 9223372036854775807) (hk : k ≤ 2) (h : l.length < k) :
  Calls Tryz.prog 54 #[P6 r, I6 k] w fun e w' => e = .returned (I6 0) ∧ EyeAt w' r [] ∧ Kp (some r) (some r) w w' := by
 have c0 : w.cell? (A6 r 0) = some (.string (S l)) := by rw [blk_cell hr]; rfl
 have f0 := blk_free hr 0
 have hs : ((S l).size : Int) = l.length := by rw [S_size]
 have hs' : (S l).size = l.length := S_size l
 go_enter Tryz.func54, Tryz.ntmps54
 go_wp2
 go_ret
 exact ⟨rfl, by have := blk_set hr 0 (.string ⟨#[]⟩); simpa [EyeAt, S] using this, (Kp.refl _ _).setR _ _⟩
set_option maxHeartbeats 1000000 in
theorem enumber_one (r : Nat) (a : UInt8) (l : List UInt8) (w : World) (hr : EyeAt w r (a :: l)) (hl : (a :: l).length ≤ 9223372036854775807) :
  Calls Tryz.prog 54 #[P6 r, I6 1] w fun e w' => e = .returned (I6 (a.toNat : Int)) ∧ EyeAt w' r l ∧ Kp (some r) (some r) w w' := by
 have c0 : w.cell? (A6 r 0) = some (.string (S (a :: l))) := by rw [blk_cell hr]; rfl
 have f0 := blk_free hr 0
 have hs : ((S (a :: l)).size : Int) = (l.length : Int) + 1 := by rw [S_size]; simp
 have hs' : (S (a :: l)).size = l.length + 1 := by rw [S_size]; simp
 have hab := byte_lt a
 go_enter Tryz.func54, Tryz.ntmps54
 go_wp2_with fail
 refine wp_loop_rounds 2 ?_
 rw [rounds_succ]
 go_wp2
 rw [rounds_succ]
 go_wp2
 go_ret
 refine ⟨?_, ?_, (Kp.refl _ _).setR _ _⟩
 ·have e := S_get (a :: l) 0 (by rw [S_size]; simp)
  simp only [List.getElem_cons_zero] at e
  have e2 : wrap64 (wrap64 (((S (a :: l))[0]'(by rw [S_size]; simp)).toNat : Int)) = (a.toNat : Int) := by
   rw [e, wrap64_of (a.toNat : Int) (by omega) (by omega), wrap64_of (a.toNat : Int) (by omega) (by omega)]
  exact congrArg (fun n => Ending.returned (I6 n)) e2
 ·have := blk_set hr 0 (.string ((S (a :: l)).extract 1 (l.length + 1)))
  simpa [EyeAt, S_extract] using this
set_option maxHeartbeats 1000000 in
theorem enumber_two (r : Nat) (a b : UInt8) (l : List UInt8) (w : World) (hr : EyeAt w r (a :: b :: l)) (hl : (a :: b :: l).length ≤ 9223372036854775807) :
  Calls Tryz.prog 54 #[P6 r, I6 2] w fun e w' => e = .returned (I6 ((a.toNat : Int) + 256 * (b.toNat : Int))) ∧ EyeAt w' r l ∧ Kp (some r) (some r) w w' := by
 have c0 : w.cell? (A6 r 0) = some (.string (S (a :: b :: l))) := by rw [blk_cell hr]; rfl
 have f0 := blk_free hr 0
 have hs : ((S (a :: b :: l)).size : Int) = (l.length : Int) + 2 := by rw [S_size]; simp; omega
 have hs' : (S (a :: b :: l)).size = l.length + 2 := by rw [S_size]; simp
 have hab := byte_lt a
 have hbb := byte_lt b
 go_enter Tryz.func54, Tryz.ntmps54
 go_wp2_with fail
 refine wp_loop_rounds 3 ?_
 rw [rounds_succ]
 go_wp2
 rw [rounds_succ]
 go_wp2
 rw [rounds_succ]
 go_wp2
 go_ret
 refine ⟨?_, ?_, (Kp.refl _ _).setR _ _⟩
 ·have e0 := S_get (a :: b :: l) 0 (by rw [S_size]; simp)
  have e1 := S_get (a :: b :: l) 1 (by rw [S_size]; simp)
  simp only [List.getElem_cons_zero] at e0
  simp only [List.getElem_cons_succ, List.getElem_cons_zero] at e1
  have e2 : wrap64 (wrap64 ((256 : Int) * wrap64 (wrap64 (((S (a :: b :: l))[1]'(by rw [S_size]; simp)).toNat : Int))) + wrap64 (((S (a :: b :: l))[0]'(by rw [S_size]; simp)).toNat : Int)) = (a.toNat : Int) + 256 * (b.toNat : Int) := by
   rw [e0, e1, wrap64_of (a.toNat : Int) (by omega) (by omega), wrap64_of (b.toNat : Int) (by omega) (by omega), wrap64_of (b.toNat : Int) (by omega) (by omega), wrap64_of (256 * (b.toNat : Int)) (by omega) (by omega), wrap64_of _ (by omega) (by omega)]
   omega
  exact congrArg (fun n => Ending.returned (I6 n)) e2
 ·have := blk_set hr 0 (.string ((S (a :: b :: l)).extract 2 (l.length + 2)))
  simpa [EyeAt, S_extract] using this
theorem enumber_any (r : Nat) (k : Nat) (l : List UInt8) (w : World) (hr : EyeAt w r l) (hl : l.length ≤ 9223372036854775807) (hk : k = 1 ∨ k = 2) :
  Calls Tryz.prog 54 #[P6 r, I6 k] w fun e w' => e = .returned (I6 (eNum k l)) ∧ EyeAt w' r (eAdv k l) ∧ Kp (some r) (some r) w w' := by
 by_cases h : l.length < k
 ·have e1 : eNum k l = 0 := by simp [eNum, h]
  have e2 : eAdv k l = [] := by simp [eAdv, h]
  rw [e1, e2]
  exact enumber_short r k l w hr hl (by omega) h
 ·rcases hk with rfl | rfl
  ·rcases l with _ | ⟨a, l⟩
   ·simp at h
   ·have e1 : eNum 1 (a :: l) = (a.toNat : Int) := by simp [eNum, numOf]
    have e2 : eAdv 1 (a :: l) = l := by simp [eAdv]
    rw [e1, e2]
    exact enumber_one r a l w hr hl
  ·rcases l with _ | ⟨a, _ | ⟨b, l⟩⟩
   ·simp at h
   ·simp at h
   ·have e1 : eNum 2 (a :: b :: l) = (a.toNat : Int) + 256 * (b.toNat : Int) := by simp [eNum, numOf]; intro h; omega
    have e2 : eAdv 2 (a :: b :: l) = l := by simp [eAdv]; intro h; omega
    rw [e1, e2]
    exact enumber_two r a b l w hr hl
theorem eNum_nonneg (k : Nat) (l : List UInt8) : 0 ≤ eNum k l := by
 unfold eNum; split
 ·omega
 ·exact numOf_nonneg _
theorem eNum_one (l : List UInt8) : eNum 1 l ≤ 255 := by
 unfold eNum; split
 ·omega
 ·exact numOf_one _
theorem eAdv_len (k : Nat) (l : List UInt8) : (eAdv k l).length ≤ l.length := by
 unfold eAdv; split
 ·simp
 ·simp
theorem EyeAt.set {w : World} {r : Nat} {l : List UInt8} (h : EyeAt w r l) {a : Addr} (ha : r ≠ a.block) (u : Value) : EyeAt (w.setCell a u) r l := blk_set_other h ha u
theorem EyeAt.alloc {w : World} {r : Nat} {l : List UInt8} (h : EyeAt w r l) (o : Obj) : EyeAt (w.alloc o) r l := blk_alloc h o
theorem EyeAt.kp {o o' : Option Nat} {w w' : World} {r : Nat} {l : List UInt8} (h : EyeAt w r l) (hk : Kp o o' w w') (ho : o ≠ some r) : EyeAt w' r l := blk_kp hk h ho
def eTxt (l : List UInt8) : List UInt8 := eAdv 1 (eAdv 1 (eAdv 2 (eAdv 1 l)))
def eLen (l : List UInt8) : Nat := min (eNum 1 (eAdv 1 (eAdv 2 (eAdv 1 l)))).toNat (eTxt l).length
def ePost (l : List UInt8) : Pst := if eNum 1 l = 0 then ⟨0, 0, 0, S []⟩ else ⟨eNum 1 l, eNum 2 (eAdv 1 l), eNum 1 (eAdv 2 (eAdv 1 l)), S ((eTxt l).take (eLen l))⟩
def eAft (l : List UInt8) : List UInt8 := if eNum 1 l = 0 then eAdv 1 l else (eTxt l).drop (eLen l)
set_option maxHeartbeats 1000000 in
theorem epost_no (r : Nat) (l : List UInt8) (w : World) (hr : EyeAt w r l) (hl : l.length ≤ 9223372036854775807) (h0 : (eNum 1 l == 0) = true) :
  Calls Tryz.prog 55 #[P6 r] w fun e w' => e = .returned (.agg #[I6 0, I6 0, I6 0, .string (S [])]) ∧ EyeAt w' r (eAdv 1 l) ∧ Kp (some r) (some r) w w' := by
 have hlt := lt_of_block hr
 go_enter Tryz.func55, Tryz.ntmps55
 go_wp2_with fail
 refine (enumber_any r 1 l _ (hr.alloc _) hl (.inl rfl)).mono ?_
 rintro e w1 ⟨rfl, hr1, hk1⟩
 have hq := blk_kp hk1 (blk_new _ _) (by simp; omega)
 have hK := ((Kp.refl (some r) w).alloc _).trans hk1
 have e0 : eNum 1 l = 0 := by simpa using h0
 have hqA := blk_alloc hq (.cells #[I6 (eNum 1 l), I6 0, I6 0, .string ⟨#[]⟩] 33)
 have hqc := blk_cell hqA
 have hqf := blk_free hqA
 have hz : w.heap.size < w1.heap.size := lt_of_block hq
 have hqc1 := blk_cell hq
 have hqf1 := blk_free hq
 clear hk1 e0
 go_wp2
 have e0 : eNum 1 l = 0 := by simpa using h0
 refine bodyPost_ret (v := .agg #[I6 0, I6 0, I6 0, .string (S [])]) (by simp [results, Tryz.results55, go_sem, World.cell?_alloc_past, hz, hqc1, e0, S]) rfl ⟨rfl, ?_, ?_⟩
 ·refine EyeAt.alloc ?_ _
  iterate 4 refine EyeAt.set ?_ (by simp; omega) _
  exact hr1
 ·refine Kp.alloc ?_ _
  iterate 4 refine Kp.setCell ?_ (.inr (by simp)) _
  exact hK
set_option maxHeartbeats 2000000 in
theorem epost_yes (r : Nat) (l : List UInt8) (w : World) (hr : EyeAt w r l) (hl : l.length ≤ 9223372036854775807) (h0 : (eNum 1 l == 0) = false) :
  Calls Tryz.prog 55 #[P6 r] w fun e w' =>
   e = .returned (.agg #[I6 (eNum 1 l), I6 (eNum 2 (eAdv 1 l)), I6 (eNum 1 (eAdv 2 (eAdv 1 l))), .string (S ((eTxt l).take (eLen l)))]) ∧ EyeAt w' r ((eTxt l).drop (eLen l)) ∧ Kp (some r) (some r) w w' := by
 have hlt := lt_of_block hr
 have l1 := eAdv_len 1 l
 have l2 := eAdv_len 2 (eAdv 1 l)
 have l3 := eAdv_len 1 (eAdv 2 (eAdv 1 l))
 have l4 := eAdv_len 1 (eAdv 1 (eAdv 2 (eAdv 1 l)))
 have b0 := eNum_nonneg 1 (eAdv 1 (eAdv 2 (eAdv 1 l)))
 have b1 := eNum_one (eAdv 1 (eAdv 2 (eAdv 1 l)))
 go_enter Tryz.func55, Tryz.ntmps55
 go_wp2_with fail
 refine (enumber_any r 1 l _ (hr.alloc _) hl (.inl rfl)).mono ?_
 rintro e w1 ⟨rfl, hr1, hk1⟩
 have hK1 := (((Kp.refl (some r) w).alloc _).trans hk1).alloc (.cells #[I6 (eNum 1 l), I6 0, I6 0, .string ⟨#[]⟩] 33)
 have hq1 := blk_alloc (blk_kp hk1 (blk_new _ _) (by simp; omega)) (.cells #[I6 (eNum 1 l), I6 0, I6 0, .string ⟨#[]⟩] 33)
 have hp1 := blk_new w1 (.cells #[I6 (eNum 1 l), I6 0, I6 0, .string ⟨#[]⟩] 33)
 have hz1 : w.heap.size < w1.heap.size := lt_of_block (blk_kp hk1 (blk_new _ _) (by simp; omega))
 have hrl : r < w1.heap.size := lt_of_block hr1
 clear hk1
 go_wp2_with fail
 refine (enumber_any r 2 (eAdv 1 l) _ (hr1.alloc _) (by omega) (.inr rfl)).mono ?_
 rintro e w2 ⟨rfl, hr2, hk2⟩
 have hK2 := hK1.trans hk2
 have hp2 := blk_kp hk2 hp1 (by simp; omega)
 have hq2 := blk_kp hk2 hq1 (by simp; omega)
 clear hk2 hp1 hq1 hr1 hK1
 have hc := blk_cell hp2
 have hf := blk_free hp2
 go_wp2_with fail
 clear hc hf
 have hp2' := blk_set hp2 1 (I6 (eNum 2 (eAdv 1 l)))
 have hq2' := blk_set_other hq2 (a := (A6 w1.heap.size 1)) (by simp; omega) (I6 (eNum 2 (eAdv 1 l)))
 refine (enumber_any r 1 (eAdv 2 (eAdv 1 l)) _ (hr2.set (by simp; omega) _) (by omega) (.inl rfl)).mono ?_
 rintro e w3 ⟨rfl, hr3, hk3⟩
 have hK3 := (hK2.setCell (a := (A6 w1.heap.size 1)) (.inr (by simp; omega)) (I6 (eNum 2 (eAdv 1 l)))).trans hk3
 have hp3 := blk_kp hk3 hp2' (by simp; omega)
 have hq3 := blk_kp hk3 hq2' (by simp; omega)
 clear hk3 hp2' hq2' hp2 hq2 hr2 hK2
 have hc := blk_cell hp3
 have hf := blk_free hp3
 go_wp2_with fail
 clear hc hf
 have hp3' := blk_set hp3 2 (I6 (eNum 1 (eAdv 2 (eAdv 1 l))))
 have hq3' := blk_set_other hq3 (a := (A6 w1.heap.size 2)) (by simp; omega) (I6 (eNum 1 (eAdv 2 (eAdv 1 l))))
 refine (enumber_any r 1 (eAdv 1 (eAdv 2 (eAdv 1 l))) _ (hr3.set (by simp; omega) _) (by omega) (.inl rfl)).mono ?_
 rintro e w4 ⟨rfl, hr4, hk4⟩
 have hK4 := (hK3.setCell (a := (A6 w1.heap.size 2)) (.inr (by simp; omega)) (I6 (eNum 1 (eAdv 2 (eAdv 1 l))))).trans hk4
 have hp4 := blk_kp hk4 hp3' (by simp; omega)
 have hq4 := blk_kp hk4 hq3' (by simp; omega)
 clear hk4 hp3' hq3' hp3 hq3 hr3 hK3
 have hlen : (eTxt l).length ≤ 9223372036854775807 := by have e : eTxt l = eAdv 1 (eAdv 1 (eAdv 2 (eAdv 1 l))) := rfl; rw [e]; omega
 have hr4' : EyeAt w4 r (eTxt l) := hr4
 have HL := show Hid (eLen l = min (eNum 1 (eAdv 1 (eAdv 2 (eAdv 1 l)))).toNat (eTxt l).length) from rfl
 clear hr4
 obtain ⟨n, hn⟩ := Int.eq_ofNat_of_zero_le b0
 rw [hn] at b1 ⊢
 have HN := show Hid (eNum 1 (eAdv 1 (eAdv 2 (eAdv 1 l))) = n) from hn
 clear hn b0
 have hrc : w4.cell? (A6 r 0) = some (.string (S (eTxt l))) := by rw [blk_cell hr4']; rfl
 have hrf := blk_free hr4' 0
 have hss : ((S (eTxt l)).size : Int) = (eTxt l).length := by rw [S_size]
 have hss' : (S (eTxt l)).size = (eTxt l).length := S_size _
 have hc := blk_cell hp4
 have hf := blk_free hp4
 have hqc := blk_cell hq4
 have hqf := blk_free hq4
 have hne : r ≠ w1.heap.size := by omega
 have hne2 : r ≠ w.heap.size := by omega
 have hzz : w1.heap.size < w4.heap.size := lt_of_block hp4
 have eS : (ByteArray.empty : ByteArray) = S [] := rfl
 have ES := show Hid ((ByteArray.empty : ByteArray) = S []) from eS
 clear eS
 by_cases hlx : ((eTxt l).length : Int) < (n : Int)
 ·have el : eLen l = (eTxt l).length := by rw [HL.out, HN.out]; simp; omega
  have EL := show Hid (eLen l = (eTxt l).length) from el
  clear el
  go_wp2
  refine bodyPost_ret (v := .agg #[I6 (eNum 1 l), I6 (eNum 2 (eAdv 1 l)), I6 (eNum 1 (eAdv 2 (eAdv 1 l))), .string ((S (eTxt l)).extract 0 (eTxt l).length)]) (by simp [results, Tryz.results55, go_sem, hqc]) rfl ⟨?_, ?_, ?_⟩
  ·rw [EL.out, S_extract]; simp
  ·rw [EL.out]
   iterate 4 refine EyeAt.set ?_ (by simp; omega) _
   have hs := blk_set (blk_set_other hr4' (a := (A6 w1.heap.size 3)) (by simp; omega) (.string ((S (eTxt l)).extract 0 (eTxt l).length))) 0 (.string (ByteArray.empty))
   simpa [EyeAt, S_extract, ES.out] using hs
  ·iterate 4 refine Kp.setCell ?_ (.inr (by simp)) _
   refine Kp.setR ?_ _ _
   exact hK4.setCell (a := (A6 w1.heap.size 3)) (.inr (by simp; omega)) _
 ·have el : eLen l = n := by rw [HL.out, HN.out]; simp; omega
  have EL := show Hid (eLen l = n) from el
  clear el
  go_wp2
  refine bodyPost_ret (v := .agg #[I6 (eNum 1 l), I6 (eNum 2 (eAdv 1 l)), I6 (eNum 1 (eAdv 2 (eAdv 1 l))), .string ((S (eTxt l)).extract 0 n)]) (by simp [results, Tryz.results55, go_sem, hqc]) rfl ⟨?_, ?_, ?_⟩
  ·rw [EL.out, S_extract]; simp
  ·rw [EL.out]
   iterate 4 refine EyeAt.set ?_ (by simp; omega) _
   have hs := blk_set (blk_set_other hr4' (a := (A6 w1.heap.size 3)) (by simp; omega) (.string ((S (eTxt l)).extract 0 n))) 0 (.string ((S (eTxt l)).extract n (eTxt l).length))
   have et : ((eTxt l).drop n).take ((eTxt l).length - n) = (eTxt l).drop n := List.take_of_length_le (by simp)
   simpa [EyeAt, S_extract, et] using hs
  ·iterate 4 refine Kp.setCell ?_ (.inr (by simp)) _
   refine Kp.setR ?_ _ _
   exact hK4.setCell (a := (A6 w1.heap.size 3)) (.inr (by simp; omega)) _
theorem epost_any (r : Nat) (l : List UInt8) (w : World) (hr : EyeAt w r l) (hl : l.length ≤ 9223372036854775807) :
  Calls Tryz.prog 55 #[P6 r] w fun e w' => e = .returned (.agg #[I6 (ePost l).c, I6 (ePost l).q, I6 (ePost l).h, .string (ePost l).t]) ∧ EyeAt w' r (eAft l) ∧ Kp (some r) (some r) w w' := by
 by_cases h0 : eNum 1 l = 0
 ·have e1 : ePost l = ⟨0, 0, 0, S []⟩ := by simp [ePost, h0]
  have e2 : eAft l = eAdv 1 l := by simp [eAft, h0]
  rw [e1, e2]
  exact epost_no r l w hr hl (by simpa using h0)
 ·have e1 : ePost l = ⟨eNum 1 l, eNum 2 (eAdv 1 l), eNum 1 (eAdv 2 (eAdv 1 l)), S ((eTxt l).take (eLen l))⟩ := by simp [ePost, h0]
  have e2 : eAft l = (eTxt l).drop (eLen l) := by simp [eAft, h0]
  rw [e1, e2]
  exact epost_yes r l w hr hl (by simpa using h0)
end
end Go.Proofs.YtnnhnekfokbooaaGreatDoor
