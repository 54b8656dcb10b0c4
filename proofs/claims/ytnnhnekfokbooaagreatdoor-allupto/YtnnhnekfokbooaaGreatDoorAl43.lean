/- WalkH2 -/
import Derived.Test.YtnnhnekfokbooaaGreatDoorAl41
set_option linter.unusedSimpArgs false
set_option linter.unusedVariables false
set_option maxRecDepth 100000
namespace Go.Proofs.YtnnhnekfokbooaaGreatDoor
section
open Go.RowKit
set_option maxHeartbeats 8000000 in
theorem rightMessage_4 (k f t b s c q h : Int) (x : ByteArray) (v : Value) (l : List Vt) (w : World) (hk : Kinds w) (hv : VAt w v l)
  (h1 : withinB k 1 6 = true) (h2 : withinB f 0 6 = true) (h3 : withinB t 0 6 = true) (h4 : fitsB (hasB k) (withinB b 1 8007) (b == 0) = false) :
  Calls Tryz.prog 76 #[.agg #[I6 k, I6 f, I6 t, I6 b, I6 s, I6 c, I6 q, I6 h, .string x, v]] w fun e w' =>
   e = .returned (.bool (false)) ∧ Below w.heap.size w w' := by
 obtain ⟨ao, cap, rfl, _⟩ := hv.form
 go_enter Tryz.func76, Tryz.ntmps76
 go_wp2_with (go_at_call 77; refine (partsOf_any _ _ (hk.alloc _)).mono ?_; rintro e w1 ⟨rfl, hb1⟩)
 have hS0 : MS w w.heap.size w1.heap.size #[I6 k, I6 f, I6 t, I6 b, I6 s, I6 c, I6 q, I6 h, .string x, .slice ao l.length cap] #[.bool (hasB k), .bool (hasS k), .bool (hasV k), .bool (hasA k)]
   (w1.alloc (.cells #[.bool (hasB k), .bool (hasS k), .bool (hasV k), .bool (hasA k)] 139)) :=
  ⟨blk_alloc (blk_below hb1 (blk_new _ _)) _, blk_new _ _, (((Below.refl _ _).alloc (Nat.le_refl _) _).trans (hb1.mono (by simp))).alloc (by have := hb1.size; simp at this; omega) _⟩
 clear hb1 hk
 refine wp_region_held_drew (S := MS w w.heap.size w1.heap.size #[I6 k, I6 f, I6 t, I6 b, I6 s, I6 c, I6 q, I6 h, .string x, .slice ao l.length cap] #[.bool (hasB k), .bool (hasS k), .bool (hasV k), .bool (hasA k)]) (by kernel_rfl) hS0.drew (fun hS => ?_)
 clear hS0
 refine tk 0 rfl hS (v := P6 w.heap.size) (fun w' hw => by have c := blk_cell hw.1; have d := blk_cell hw.2.1; clear hS; go_simp) ?_
 try simp only [ly]
 refine tk 1 rfl hS (v := I6 k) (fun w' hw => by have c := blk_cell hw.1; have d := blk_cell hw.2.1; clear hS; go_simp) ?_
 try simp only [ly]
 refine r1 2 rfl (fun K hK => ?_)
 go_simp
 refine (rightKind_any k _).mono ?_
 rintro e w' ⟨rfl, rfl⟩
 rw [h1]
 go_wp2_with fail
 refine hK.out _ _ hS (fun hS => ?_)
 clear hK K
 try simp only [ly]
 refine tk 3 rfl hS (v := .bool true) (fun w' hw => by clear hS; go_simp) ?_
 try simp only [ly]
 refine tk 4 rfl hS (v := .pointer (some (A6 w.heap.size 1))) (fun w' hw => by have c := blk_cell hw.1; have d := blk_cell hw.2.1; clear hS; go_simp) ?_
 try simp only [ly]
 refine tk 5 rfl hS (v := I6 f) (fun w' hw => by have c := blk_cell hw.1; have d := blk_cell hw.2.1; clear hS; go_simp) ?_
 try simp only [ly]
 refine r1 6 rfl (fun K hK => ?_)
 go_simp
 refine (rightReplica_any f _).mono ?_
 rintro e w' ⟨rfl, rfl⟩
 rw [h2]
 go_wp2_with fail
 refine hK.out _ _ hS (fun hS => ?_)
 clear hK K
 try simp only [ly]
 refine tk 7 rfl hS (v := .bool true) (fun w' hw => by clear hS; go_simp) ?_
 try simp only [ly]
 refine tk 8 rfl hS (v := .bool true) (fun w' hw => by clear hS; go_simp) ?_
 try simp only [ly]
 refine tk 9 rfl hS (v := .pointer (some (A6 w.heap.size 2))) (fun w' hw => by have c := blk_cell hw.1; have d := blk_cell hw.2.1; clear hS; go_simp) ?_
 try simp only [ly]
 refine tk 10 rfl hS (v := I6 t) (fun w' hw => by have c := blk_cell hw.1; have d := blk_cell hw.2.1; clear hS; go_simp) ?_
 try simp only [ly]
 refine r1 11 rfl (fun K hK => ?_)
 go_simp
 refine (rightReplica_any t _).mono ?_
 rintro e w' ⟨rfl, rfl⟩
 rw [h3]
 go_wp2_with fail
 refine hK.out _ _ hS (fun hS => ?_)
 clear hK K
 try simp only [ly]
 refine tk 12 rfl hS (v := .bool true) (fun w' hw => by clear hS; go_simp) ?_
 try simp only [ly]
 refine tk 13 rfl hS (v := .bool true) (fun w' hw => by clear hS; go_simp) ?_
 try simp only [ly]
 refine tk 14 rfl hS (v := P6 w1.heap.size) (fun w' hw => by have c := blk_cell hw.1; have d := blk_cell hw.2.1; clear hS; go_simp) ?_
 try simp only [ly]
 refine tk 15 rfl hS (v := .bool (hasB k)) (fun w' hw => by have c := blk_cell hw.1; have d := blk_cell hw.2.1; clear hS; go_simp) ?_
 try simp only [ly]
 refine tk 16 rfl hS (v := .pointer (some (A6 w.heap.size 3))) (fun w' hw => by have c := blk_cell hw.1; have d := blk_cell hw.2.1; clear hS; go_simp) ?_
 try simp only [ly]
 refine tk 17 rfl hS (v := I6 b) (fun w' hw => by have c := blk_cell hw.1; have d := blk_cell hw.2.1; clear hS; go_simp) ?_
 try simp only [ly]
 refine tk 19 rfl hS (v := .pointer (some (A6 w.heap.size 3))) (fun w' hw => by have c := blk_cell hw.1; have d := blk_cell hw.2.1; clear hS; go_simp) ?_
 try simp only [ly]
 refine tk 20 rfl hS (v := I6 b) (fun w' hw => by have c := blk_cell hw.1; have d := blk_cell hw.2.1; clear hS; go_simp) ?_
 try simp only [ly]
 refine tk 21 rfl hS (v := .bool (b == 0)) (fun w' hw => by have c := blk_cell hw.1; have d := blk_cell hw.2.1; clear hS; go_simp) ?_
 try simp only [ly]
 refine r1 18 rfl (fun K hK => ?_)
 go_simp
 refine (rightBallot_any b _).mono ?_
 rintro e w' ⟨rfl, rfl⟩
 go_wp2_with fail
 refine hK.out _ _ hS (fun hS => ?_)
 clear hK K
 try simp only [ly]
 refine r1 22 rfl (fun K hK => ?_)
 go_simp
 refine (fits_any (hasB k) (withinB b 1 8007) (b == 0) _).mono ?_
 rintro e w' ⟨rfl, rfl⟩
 rw [h4]
 go_wp2_with fail
 refine hK.out _ _ hS (fun hS => ?_)
 clear hK K
 try simp only [ly]
 refine tk 23 rfl hS (v := .bool false) (fun w' hw => by clear hS; go_simp) ?_
 try simp only [ly]
 refine tk 24 rfl hS (v := .bool false) (fun w' hw => by clear hS; go_simp) ?_
 try simp only [ly]
 refine tn 25 rfl hS ?_
 try simp only [ly]
 refine tn 26 rfl hS ?_
 try simp only [ly]
 refine tn 27 rfl hS ?_
 try simp only [ly]
 refine tn 28 rfl hS ?_
 try simp only [ly]
 refine tn 30 rfl hS ?_
 try simp only [ly]
 refine tn 31 rfl hS ?_
 try simp only [ly]
 refine tn 32 rfl hS ?_
 try simp only [ly]
 refine tn 29 rfl hS ?_
 try simp only [ly]
 refine tn 33 rfl hS ?_
 try simp only [ly]
 refine tk 34 rfl hS (v := .bool false) (fun w' hw => by clear hS; go_simp) ?_
 try simp only [ly]
 refine tk 35 rfl hS (v := .bool false) (fun w' hw => by clear hS; go_simp) ?_
 try simp only [ly]
 refine tn 36 rfl hS ?_
 try simp only [ly]
 refine tn 37 rfl hS ?_
 try simp only [ly]
 refine tn 38 rfl hS ?_
 try simp only [ly]
 refine tn 39 rfl hS ?_
 try simp only [ly]
 refine tn 41 rfl hS ?_
 try simp only [ly]
 refine tn 42 rfl hS ?_
 try simp only [ly]
 refine tn 40 rfl hS ?_
 try simp only [ly]
 refine tn 43 rfl hS ?_
 try simp only [ly]
 refine tn 44 rfl hS ?_
 try simp only [ly]
 refine tk 45 rfl hS (v := .bool false) (fun w' hw => by clear hS; go_simp) ?_
 try simp only [ly]
 refine tk 46 rfl hS (v := .bool false) (fun w' hw => by clear hS; go_simp) ?_
 try simp only [ly]
 refine tn 47 rfl hS ?_
 try simp only [ly]
 refine tn 48 rfl hS ?_
 try simp only [ly]
 refine tn 49 rfl hS ?_
 try simp only [ly]
 refine tn 50 rfl hS ?_
 try simp only [ly]
 refine tn 52 rfl hS ?_
 try simp only [ly]
 refine tn 53 rfl hS ?_
 try simp only [ly]
 refine tn 54 rfl hS ?_
 try simp only [ly]
 refine tn 55 rfl hS ?_
 try simp only [ly]
 refine tn 51 rfl hS ?_
 try simp only [ly]
 refine tn 56 rfl hS ?_
 try simp only [ly]
 refine tk 57 rfl hS (v := .bool false) (fun w' hw => by clear hS; go_simp) ?_
 try simp only [ly]
 refine tk 58 rfl hS (v := .bool false) (fun w' hw => by clear hS; go_simp) ?_
 try simp only [ly]
 refine dn ?_ _
 go_wp2
 go_ret
 exact ⟨rfl, hS.2.2⟩
set_option maxHeartbeats 8000000 in
theorem rightMessage_5 (k f t b s c q h : Int) (x : ByteArray) (v : Value) (l : List Vt) (w : World) (hk : Kinds w) (hv : VAt w v l)
  (h1 : withinB k 1 6 = true) (h2 : withinB f 0 6 = true) (h3 : withinB t 0 6 = true) (h4 : fitsB (hasB k) (withinB b 1 8007) (b == 0) = true) (h5 : fitsB (hasS k) (withinB s 0 15) (s == 0) = false) :
  Calls Tryz.prog 76 #[.agg #[I6 k, I6 f, I6 t, I6 b, I6 s, I6 c, I6 q, I6 h, .string x, v]] w fun e w' =>
   e = .returned (.bool (false)) ∧ Below w.heap.size w w' := by
 obtain ⟨ao, cap, rfl, _⟩ := hv.form
 go_enter Tryz.func76, Tryz.ntmps76
 go_wp2_with (go_at_call 77; refine (partsOf_any _ _ (hk.alloc _)).mono ?_; rintro e w1 ⟨rfl, hb1⟩)
 have hS0 : MS w w.heap.size w1.heap.size #[I6 k, I6 f, I6 t, I6 b, I6 s, I6 c, I6 q, I6 h, .string x, .slice ao l.length cap] #[.bool (hasB k), .bool (hasS k), .bool (hasV k), .bool (hasA k)]
   (w1.alloc (.cells #[.bool (hasB k), .bool (hasS k), .bool (hasV k), .bool (hasA k)] 139)) :=
  ⟨blk_alloc (blk_below hb1 (blk_new _ _)) _, blk_new _ _, (((Below.refl _ _).alloc (Nat.le_refl _) _).trans (hb1.mono (by simp))).alloc (by have := hb1.size; simp at this; omega) _⟩
 clear hb1 hk
 refine wp_region_held_drew (S := MS w w.heap.size w1.heap.size #[I6 k, I6 f, I6 t, I6 b, I6 s, I6 c, I6 q, I6 h, .string x, .slice ao l.length cap] #[.bool (hasB k), .bool (hasS k), .bool (hasV k), .bool (hasA k)]) (by kernel_rfl) hS0.drew (fun hS => ?_)
 clear hS0
 refine tk 0 rfl hS (v := P6 w.heap.size) (fun w' hw => by have c := blk_cell hw.1; have d := blk_cell hw.2.1; clear hS; go_simp) ?_
 try simp only [ly]
 refine tk 1 rfl hS (v := I6 k) (fun w' hw => by have c := blk_cell hw.1; have d := blk_cell hw.2.1; clear hS; go_simp) ?_
 try simp only [ly]
 refine r1 2 rfl (fun K hK => ?_)
 go_simp
 refine (rightKind_any k _).mono ?_
 rintro e w' ⟨rfl, rfl⟩
 rw [h1]
 go_wp2_with fail
 refine hK.out _ _ hS (fun hS => ?_)
 clear hK K
 try simp only [ly]
 refine tk 3 rfl hS (v := .bool true) (fun w' hw => by clear hS; go_simp) ?_
 try simp only [ly]
 refine tk 4 rfl hS (v := .pointer (some (A6 w.heap.size 1))) (fun w' hw => by have c := blk_cell hw.1; have d := blk_cell hw.2.1; clear hS; go_simp) ?_
 try simp only [ly]
 refine tk 5 rfl hS (v := I6 f) (fun w' hw => by have c := blk_cell hw.1; have d := blk_cell hw.2.1; clear hS; go_simp) ?_
 try simp only [ly]
 refine r1 6 rfl (fun K hK => ?_)
 go_simp
 refine (rightReplica_any f _).mono ?_
 rintro e w' ⟨rfl, rfl⟩
 rw [h2]
 go_wp2_with fail
 refine hK.out _ _ hS (fun hS => ?_)
 clear hK K
 try simp only [ly]
 refine tk 7 rfl hS (v := .bool true) (fun w' hw => by clear hS; go_simp) ?_
 try simp only [ly]
 refine tk 8 rfl hS (v := .bool true) (fun w' hw => by clear hS; go_simp) ?_
 try simp only [ly]
 refine tk 9 rfl hS (v := .pointer (some (A6 w.heap.size 2))) (fun w' hw => by have c := blk_cell hw.1; have d := blk_cell hw.2.1; clear hS; go_simp) ?_
 try simp only [ly]
 refine tk 10 rfl hS (v := I6 t) (fun w' hw => by have c := blk_cell hw.1; have d := blk_cell hw.2.1; clear hS; go_simp) ?_
 try simp only [ly]
 refine r1 11 rfl (fun K hK => ?_)
 go_simp
 refine (rightReplica_any t _).mono ?_
 rintro e w' ⟨rfl, rfl⟩
 rw [h3]
 go_wp2_with fail
 refine hK.out _ _ hS (fun hS => ?_)
 clear hK K
 try simp only [ly]
 refine tk 12 rfl hS (v := .bool true) (fun w' hw => by clear hS; go_simp) ?_
 try simp only [ly]
 refine tk 13 rfl hS (v := .bool true) (fun w' hw => by clear hS; go_simp) ?_
 try simp only [ly]
 refine tk 14 rfl hS (v := P6 w1.heap.size) (fun w' hw => by have c := blk_cell hw.1; have d := blk_cell hw.2.1; clear hS; go_simp) ?_
 try simp only [ly]
 refine tk 15 rfl hS (v := .bool (hasB k)) (fun w' hw => by have c := blk_cell hw.1; have d := blk_cell hw.2.1; clear hS; go_simp) ?_
 try simp only [ly]
 refine tk 16 rfl hS (v := .pointer (some (A6 w.heap.size 3))) (fun w' hw => by have c := blk_cell hw.1; have d := blk_cell hw.2.1; clear hS; go_simp) ?_
 try simp only [ly]
 refine tk 17 rfl hS (v := I6 b) (fun w' hw => by have c := blk_cell hw.1; have d := blk_cell hw.2.1; clear hS; go_simp) ?_
 try simp only [ly]
 refine tk 19 rfl hS (v := .pointer (some (A6 w.heap.size 3))) (fun w' hw => by have c := blk_cell hw.1; have d := blk_cell hw.2.1; clear hS; go_simp) ?_
 try simp only [ly]
 refine tk 20 rfl hS (v := I6 b) (fun w' hw => by have c := blk_cell hw.1; have d := blk_cell hw.2.1; clear hS; go_simp) ?_
 try simp only [ly]
 refine tk 21 rfl hS (v := .bool (b == 0)) (fun w' hw => by have c := blk_cell hw.1; have d := blk_cell hw.2.1; clear hS; go_simp) ?_
 try simp only [ly]
 refine r1 18 rfl (fun K hK => ?_)
 go_simp
 refine (rightBallot_any b _).mono ?_
 rintro e w' ⟨rfl, rfl⟩
 go_wp2_with fail
 refine hK.out _ _ hS (fun hS => ?_)
 clear hK K
 try simp only [ly]
 refine r1 22 rfl (fun K hK => ?_)
 go_simp
 refine (fits_any (hasB k) (withinB b 1 8007) (b == 0) _).mono ?_
 rintro e w' ⟨rfl, rfl⟩
 rw [h4]
 go_wp2_with fail
 refine hK.out _ _ hS (fun hS => ?_)
 clear hK K
 try simp only [ly]
 refine tk 23 rfl hS (v := .bool true) (fun w' hw => by clear hS; go_simp) ?_
 try simp only [ly]
 refine tk 24 rfl hS (v := .bool true) (fun w' hw => by clear hS; go_simp) ?_
 try simp only [ly]
 refine tk 25 rfl hS (v := .pointer (some (A6 w1.heap.size 1))) (fun w' hw => by have c := blk_cell hw.1; have d := blk_cell hw.2.1; clear hS; go_simp) ?_
 try simp only [ly]
 refine tk 26 rfl hS (v := .bool (hasS k)) (fun w' hw => by have c := blk_cell hw.1; have d := blk_cell hw.2.1; clear hS; go_simp) ?_
 try simp only [ly]
 refine tk 27 rfl hS (v := .pointer (some (A6 w.heap.size 4))) (fun w' hw => by have c := blk_cell hw.1; have d := blk_cell hw.2.1; clear hS; go_simp) ?_
 try simp only [ly]
 refine tk 28 rfl hS (v := I6 s) (fun w' hw => by have c := blk_cell hw.1; have d := blk_cell hw.2.1; clear hS; go_simp) ?_
 try simp only [ly]
 refine tk 30 rfl hS (v := .pointer (some (A6 w.heap.size 4))) (fun w' hw => by have c := blk_cell hw.1; have d := blk_cell hw.2.1; clear hS; go_simp) ?_
 try simp only [ly]
 refine tk 31 rfl hS (v := I6 s) (fun w' hw => by have c := blk_cell hw.1; have d := blk_cell hw.2.1; clear hS; go_simp) ?_
 try simp only [ly]
 refine tk 32 rfl hS (v := .bool (s == 0)) (fun w' hw => by have c := blk_cell hw.1; have d := blk_cell hw.2.1; clear hS; go_simp) ?_
 try simp only [ly]
 refine r1 29 rfl (fun K hK => ?_)
 go_simp
 refine (rightSlot_any s _).mono ?_
 rintro e w' ⟨rfl, rfl⟩
 go_wp2_with fail
 refine hK.out _ _ hS (fun hS => ?_)
 clear hK K
 try simp only [ly]
 refine r1 33 rfl (fun K hK => ?_)
 go_simp
 refine (fits_any (hasS k) (withinB s 0 15) (s == 0) _).mono ?_
 rintro e w' ⟨rfl, rfl⟩
 rw [h5]
 go_wp2_with fail
 refine hK.out _ _ hS (fun hS => ?_)
 clear hK K
 try simp only [ly]
 refine tk 34 rfl hS (v := .bool false) (fun w' hw => by clear hS; go_simp) ?_
 try simp only [ly]
 refine tk 35 rfl hS (v := .bool false) (fun w' hw => by clear hS; go_simp) ?_
 try simp only [ly]
 refine tn 36 rfl hS ?_
 try simp only [ly]
 refine tn 37 rfl hS ?_
 try simp only [ly]
 refine tn 38 rfl hS ?_
 try simp only [ly]
 refine tn 39 rfl hS ?_
 try simp only [ly]
 refine tn 41 rfl hS ?_
 try simp only [ly]
 refine tn 42 rfl hS ?_
 try simp only [ly]
 refine tn 40 rfl hS ?_
 try simp only [ly]
 refine tn 43 rfl hS ?_
 try simp only [ly]
 refine tn 44 rfl hS ?_
 try simp only [ly]
 refine tk 45 rfl hS (v := .bool false) (fun w' hw => by clear hS; go_simp) ?_
 try simp only [ly]
 refine tk 46 rfl hS (v := .bool false) (fun w' hw => by clear hS; go_simp) ?_
 try simp only [ly]
 refine tn 47 rfl hS ?_
 try simp only [ly]
 refine tn 48 rfl hS ?_
 try simp only [ly]
 refine tn 49 rfl hS ?_
 try simp only [ly]
 refine tn 50 rfl hS ?_
 try simp only [ly]
 refine tn 52 rfl hS ?_
 try simp only [ly]
 refine tn 53 rfl hS ?_
 try simp only [ly]
 refine tn 54 rfl hS ?_
 try simp only [ly]
 refine tn 55 rfl hS ?_
 try simp only [ly]
 refine tn 51 rfl hS ?_
 try simp only [ly]
 refine tn 56 rfl hS ?_
 try simp only [ly]
 refine tk 57 rfl hS (v := .bool false) (fun w' hw => by clear hS; go_simp) ?_
 try simp only [ly]
 refine tk 58 rfl hS (v := .bool false) (fun w' hw => by clear hS; go_simp) ?_
 try simp only [ly]
 refine dn ?_ _
 go_wp2
 go_ret
 exact ⟨rfl, hS.2.2⟩
end
end Go.Proofs.YtnnhnekfokbooaaGreatDoor
