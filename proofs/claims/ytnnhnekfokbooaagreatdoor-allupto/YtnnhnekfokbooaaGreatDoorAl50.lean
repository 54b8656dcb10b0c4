/- RefM3, RefM4, RefN, RefO -/
import Derived.Test.YtnnhnekfokbooaaGreatDoorAl49
import Derived.Test.YtnnhnekfokbooaaGreatDoorAl25
set_option linter.unusedSimpArgs false
set_option linter.unusedVariables false
set_option maxRecDepth 100000
namespace Go.Proofs.YtnnhnekfokbooaaGreatDoor
section
open Go.RowKit
set_option maxHeartbeats 8000000 in
theorem runp_d (l : List UInt8) (w : World) (hl : l.length ≤ 9223372036854775807) (h5 : (eNum 1 l == 5) = false) (h3 : (eNum 1 l == 3) = false) (h4 : (eNum 1 l == 4) = true) (h2 : (eNum 1 l == 2) = false) (ok : Bool) (hok : (rmB (⟨eNum 1 l, eNum 1 (eAdv 1 l), eNum 1 (eAdv 1 (eAdv 1 l)), eNum 2 (eM1 l), eNum 1 (eAdv 2 (eM1 l)), (⟨0, 0, 0, S []⟩ : Pst), []⟩ : Ms) && decide (encM (⟨eNum 1 l, eNum 1 (eAdv 1 l), eNum 1 (eAdv 1 (eAdv 1 l)), eNum 2 (eM1 l), eNum 1 (eAdv 2 (eM1 l)), (⟨0, 0, 0, S []⟩ : Pst), []⟩ : Ms) = l)) = ok) :
  Calls Tryz.prog 22 #[.string (S l)] w fun e w' => e = .returned (if ok then .tuple #[.agg #[I6 (eNum 1 l), I6 (eNum 1 (eAdv 1 l)), I6 (eNum 1 (eAdv 1 (eAdv 1 l))), I6 (eNum 2 (eM1 l)), I6 (eNum 1 (eAdv 2 (eM1 l))), I6 0, I6 0, I6 0, .string (S []), .slice none 0 0], I6 0] else .tuple #[.agg #[I6 0, I6 0, I6 0, I6 0, I6 0, I6 0, I6 0, I6 0, .string (S []), .slice none 0 0], I6 2]) ∧ Below w.heap.size w w' := by
 have l1 := eAdv_len 1 l
 have l2 := eAdv_len 1 (eAdv 1 l)
 have l3 := eAdv_len 1 (eAdv 1 (eAdv 1 l))
 have l3' : (eM1 l).length ≤ (eAdv 1 (eAdv 1 l)).length := l3
 have l4 := eAdv_len 2 (eM1 l)
 have l5 := eAdv_len 1 (eAdv 2 (eM1 l))
 have hn5 : (eNum 1 l != 5) = true := by simp only [bne, h5]; rfl
 go_enter Tryz.func22, Tryz.ntmps22
 go_wp2_with fail
 have hr0 : EyeAt _ (w.heap.size + 1) l := EyeAt.alloc (by have := blk_new (w.alloc (.cells #[I6 0, I6 0, I6 0, I6 0, I6 0, I6 0, I6 0, I6 0, .string ⟨#[]⟩, .slice none 0 0] 36)) (.cells #[.string (S l)] 105); simp only [World.size_alloc] at this; exact this) (.cells #[I6 0, I6 0, I6 0, I6 0, I6 0, I6 0, I6 0, I6 0, .string ⟨#[]⟩, .slice none 0 0] 36)
 refine (enumber_any (w.heap.size + 1) 1 l _ hr0 hl (.inl rfl)).mono ?_
 rintro e w1 ⟨rfl, hr1, hk1⟩
 have hm1 := blk_kp hk1 (blk_new _ _) (by simp)
 have hq1 := blk_kp hk1 (blk_alloc (blk_alloc (blk_new _ _) _) _) (by simp)
 simp only [World.size_alloc] at hm1
 have hB1 : Below w.heap.size w w1 := ((((Below.refl _ w).alloc (Nat.le_refl _) _).alloc (by simp) _).alloc (by simp; omega) _).trans (hk1.toBelow (by simp; omega) (fun k e => by injection e with e; omega))
 have hz1 : w.heap.size + 3 ≤ w1.heap.size := by have := hk1.size; simpa using this
 clear hk1 hr0
 have hc := blk_cell hm1
 have hf := blk_free hm1
 go_wp2_with fail
 clear hc hf
 have M0 := blk_set hm1 0 (I6 (eNum 1 l))
 have Q0 := blk_set_other hq1 (a := (A6 (w.heap.size + 2) 0)) (by simp) (I6 (eNum 1 l))
 have R0 := EyeAt.set hr1 (a := (A6 (w.heap.size + 2) 0)) (by simp) (I6 (eNum 1 l))
 have B0 := Below.setCell hB1 (p := (A6 (w.heap.size + 2) 0)) (by simp) (I6 (eNum 1 l))
 refine (enumber_any (w.heap.size + 1) 1 (eAdv 1 l) _ R0 (by omega) (.inl rfl)).mono ?_
 rintro e w2 ⟨rfl, hr2, hk2⟩
 have hB2 := B0.trans (hk2.toBelow (B := w.heap.size) (by simp [World.setCell]; omega) (fun k e => by injection e with e; omega))
 have hz2 : w.heap.size + 3 ≤ w2.heap.size := by have := hk2.size; simp [World.setCell] at this; omega
 have hm2 := blk_kp hk2 M0 (by simp)
 have hq2 := blk_kp hk2 Q0 (by simp)
 clear hk2 hm1 hq1 hr1 hB1 M0 Q0 R0 B0
 have hc := blk_cell hm2
 have hf := blk_free hm2
 go_wp2_with fail
 clear hc hf
 have M0 := blk_set hm2 1 (I6 (eNum 1 (eAdv 1 l)))
 have Q0 := blk_set_other hq2 (a := (A6 (w.heap.size + 2) 1)) (by simp) (I6 (eNum 1 (eAdv 1 l)))
 have R0 := EyeAt.set hr2 (a := (A6 (w.heap.size + 2) 1)) (by simp) (I6 (eNum 1 (eAdv 1 l)))
 have B0 := Below.setCell hB2 (p := (A6 (w.heap.size + 2) 1)) (by simp) (I6 (eNum 1 (eAdv 1 l)))
 refine (enumber_any (w.heap.size + 1) 1 (eAdv 1 (eAdv 1 l)) _ R0 (by omega) (.inl rfl)).mono ?_
 rintro e w3 ⟨rfl, hr3, hk3⟩
 have hB3 := B0.trans (hk3.toBelow (B := w.heap.size) (by simp [World.setCell]; omega) (fun k e => by injection e with e; omega))
 have hz3 : w.heap.size + 3 ≤ w3.heap.size := by have := hk3.size; simp [World.setCell] at this; omega
 have hm3 := blk_kp hk3 M0 (by simp)
 have hq3 := blk_kp hk3 Q0 (by simp)
 clear hk3 hm2 hq2 hr2 hB2 M0 Q0 R0 B0
 have hc := blk_cell hm3
 have hf := blk_free hm3
 go_wp2_with fail
 clear hc hf
 have M0 := blk_set hm3 2 (I6 (eNum 1 (eAdv 1 (eAdv 1 l))))
 have Q0 := blk_set_other hq3 (a := (A6 (w.heap.size + 2) 2)) (by simp) (I6 (eNum 1 (eAdv 1 (eAdv 1 l))))
 have R0 := EyeAt.set hr3 (a := (A6 (w.heap.size + 2) 2)) (by simp) (I6 (eNum 1 (eAdv 1 (eAdv 1 l))))
 have B0 := Below.setCell hB3 (p := (A6 (w.heap.size + 2) 2)) (by simp) (I6 (eNum 1 (eAdv 1 (eAdv 1 l))))
 refine (enumber_any (w.heap.size + 1) 2 (eM1 l) _ R0 (by omega) (.inr rfl)).mono ?_
 rintro e w4 ⟨rfl, hr4, hk4⟩
 have hB4 := B0.trans (hk4.toBelow (B := w.heap.size) (by simp [World.setCell]; omega) (fun k e => by injection e with e; omega))
 have hz4 : w.heap.size + 3 ≤ w4.heap.size := by have := hk4.size; simp [World.setCell] at this; omega
 have hm4 := blk_kp hk4 M0 (by simp)
 have hq4 := blk_kp hk4 Q0 (by simp)
 clear hk4 hm3 hq3 hr3 hB3 M0 Q0 R0 B0
 have hc := blk_cell hm4
 have hf := blk_free hm4
 go_wp2_with fail
 clear hc hf
 have M0 := blk_set hm4 3 (I6 (eNum 2 (eM1 l)))
 have Q0 := blk_set_other hq4 (a := (A6 (w.heap.size + 2) 3)) (by simp) (I6 (eNum 2 (eM1 l)))
 have R0 := EyeAt.set hr4 (a := (A6 (w.heap.size + 2) 3)) (by simp) (I6 (eNum 2 (eM1 l)))
 have B0 := Below.setCell hB4 (p := (A6 (w.heap.size + 2) 3)) (by simp) (I6 (eNum 2 (eM1 l)))
 refine (enumber_any (w.heap.size + 1) 1 (eAdv 2 (eM1 l)) _ R0 (by omega) (.inl rfl)).mono ?_
 rintro e w5 ⟨rfl, hr5, hk5⟩
 have hB5 := B0.trans (hk5.toBelow (B := w.heap.size) (by simp [World.setCell]; omega) (fun k e => by injection e with e; omega))
 have hz5 : w.heap.size + 3 ≤ w5.heap.size := by have := hk5.size; simp [World.setCell] at this; omega
 have hm5 := blk_kp hk5 M0 (by simp)
 have hq5 := blk_kp hk5 Q0 (by simp)
 clear hk5 hm4 hq4 hr4 hB4 M0 Q0 R0 B0
 have hc := blk_cell hm5
 have hf := blk_free hm5
 go_wp2_with fail
 clear hc hf
 have M0 := blk_set hm5 4 (I6 (eNum 1 (eAdv 2 (eM1 l))))
 have Q0 := blk_set_other hq5 (a := (A6 (w.heap.size + 2) 4)) (by simp) (I6 (eNum 1 (eAdv 2 (eM1 l))))
 have R0 := EyeAt.set hr5 (a := (A6 (w.heap.size + 2) 4)) (by simp) (I6 (eNum 1 (eAdv 2 (eM1 l))))
 have B0 := Below.setCell hB5 (p := (A6 (w.heap.size + 2) 4)) (by simp) (I6 (eNum 1 (eAdv 2 (eM1 l))))
 have hP := fun W => rpack_any (⟨eNum 1 l, eNum 1 (eAdv 1 l), eNum 1 (eAdv 1 (eAdv 1 l)), eNum 2 (eM1 l), eNum 1 (eAdv 2 (eM1 l)), (⟨0, 0, 0, S []⟩ : Pst), []⟩ : Ms) (.slice none 0 0) W (rvat_nil W)
 dsimp only at hP
 generalize hrb : rmB (⟨eNum 1 l, eNum 1 (eAdv 1 l), eNum 1 (eAdv 1 (eAdv 1 l)), eNum 2 (eM1 l), eNum 1 (eAdv 2 (eM1 l)), (⟨0, 0, 0, S []⟩ : Pst), []⟩ : Ms) = rb at *
 generalize heb : encM (⟨eNum 1 l, eNum 1 (eAdv 1 l), eNum 1 (eAdv 1 (eAdv 1 l)), eNum 2 (eM1 l), eNum 1 (eAdv 2 (eM1 l)), (⟨0, 0, 0, S []⟩ : Pst), []⟩ : Ms) = eb at *
 have HRB := hide hrb
 have HEB := hide heb
 clear hrb heb
 refine (hP _).mono ?_
 rintro e w6 ⟨rfl, hb6⟩
 clear hP
 have hm6 := blk_below hb6 M0
 have hq6 := blk_below hb6 Q0
 have hB6 := B0.trans (hb6.mono (by simp [World.setCell]; omega))
 have hc := blk_cell hm6
 have hqc := blk_cell hq6
 have hqf := blk_free hq6
 cases rb
 ·obtain rfl : false = ok := by simpa using hok
  clear hok
  go_wp2
  refine bodyPost_ret (v := .tuple #[.agg #[I6 0, I6 0, I6 0, I6 0, I6 0, I6 0, I6 0, I6 0, .string (S []), .slice none 0 0], I6 2]) (by simp [results, Tryz.results22, go_sem, hqc, S]) rfl ⟨rfl, ?_⟩
  iterate 10 refine Below.setCell ?_ (by simp) _
  exact hB6
 ·by_cases hel : eb = l
  ·obtain rfl : true = ok := by simpa [hel] using hok
   clear hok
   have hel' : l = eb := hel.symm
   clear hel
   subst hel'
   go_wp2
   refine bodyPost_ret (v := .tuple #[.agg #[I6 (eNum 1 l), I6 (eNum 1 (eAdv 1 l)), I6 (eNum 1 (eAdv 1 (eAdv 1 l))), I6 (eNum 2 (eM1 l)), I6 (eNum 1 (eAdv 2 (eM1 l))), I6 0, I6 0, I6 0, .string (S []), .slice none 0 0], I6 0]) (by simp [results, Tryz.results22, go_sem, hqc, S]) rfl ⟨rfl, ?_⟩
   iterate 10 refine Below.setCell ?_ (by simp) _
   exact hB6
  ·obtain rfl : false = ok := by simpa [hel] using hok
   clear hok
   have hne : ((S eb).toList == (S l).toList) = false := by rw [S_toList, S_toList]; simpa using hel
   have hne' : ¬ (S eb).toList = (S l).toList := by rw [S_toList, S_toList]; exact hel
   go_wp2
   refine bodyPost_ret (v := .tuple #[.agg #[I6 0, I6 0, I6 0, I6 0, I6 0, I6 0, I6 0, I6 0, .string (S []), .slice none 0 0], I6 2]) (by simp [results, Tryz.results22, go_sem, hqc, S]) rfl ⟨rfl, ?_⟩
   iterate 10 refine Below.setCell ?_ (by simp) _
   exact hB6
end
section
open Go.RowKit
set_option maxHeartbeats 8000000 in
theorem runp_e (l : List UInt8) (w : World) (hl : l.length ≤ 9223372036854775807) (h5 : (eNum 1 l == 5) = true) (h3 : (eNum 1 l == 3) = false) (h4 : (eNum 1 l == 4) = false) (h2 : (eNum 1 l == 2) = false) (ok : Bool) (hok : (rmB (⟨eNum 1 l, eNum 1 (eAdv 1 l), eNum 1 (eAdv 1 (eAdv 1 l)), 0, eNum 1 (eM1 l), (ePost (eAdv 1 (eM1 l))), []⟩ : Ms) && decide (encM (⟨eNum 1 l, eNum 1 (eAdv 1 l), eNum 1 (eAdv 1 (eAdv 1 l)), 0, eNum 1 (eM1 l), (ePost (eAdv 1 (eM1 l))), []⟩ : Ms) = l)) = ok) :
  Calls Tryz.prog 22 #[.string (S l)] w fun e w' => e = .returned (if ok then .tuple #[.agg #[I6 (eNum 1 l), I6 (eNum 1 (eAdv 1 l)), I6 (eNum 1 (eAdv 1 (eAdv 1 l))), I6 (0), I6 (eNum 1 (eM1 l)), I6 (ePost (eAdv 1 (eM1 l))).c, I6 (ePost (eAdv 1 (eM1 l))).q, I6 (ePost (eAdv 1 (eM1 l))).h, .string (ePost (eAdv 1 (eM1 l))).t, .slice none 0 0], I6 0] else .tuple #[.agg #[I6 0, I6 0, I6 0, I6 0, I6 0, I6 0, I6 0, I6 0, .string (S []), .slice none 0 0], I6 2]) ∧ Below w.heap.size w w' := by
 have l1 := eAdv_len 1 l
 have l2 := eAdv_len 1 (eAdv 1 l)
 have l3 := eAdv_len 1 (eAdv 1 (eAdv 1 l))
 have l3' : (eM1 l).length ≤ (eAdv 1 (eAdv 1 l)).length := l3
 have l4 := eAdv_len 1 (eM1 l)
 have hn5 : (eNum 1 l != 5) = false := by simp only [bne, h5]; rfl
 go_enter Tryz.func22, Tryz.ntmps22
 go_wp2_with fail
 have hr0 : EyeAt _ (w.heap.size + 1) l := EyeAt.alloc (by have := blk_new (w.alloc (.cells #[I6 0, I6 0, I6 0, I6 0, I6 0, I6 0, I6 0, I6 0, .string ⟨#[]⟩, .slice none 0 0] 36)) (.cells #[.string (S l)] 105); simp only [World.size_alloc] at this; exact this) (.cells #[I6 0, I6 0, I6 0, I6 0, I6 0, I6 0, I6 0, I6 0, .string ⟨#[]⟩, .slice none 0 0] 36)
 refine (enumber_any (w.heap.size + 1) 1 l _ hr0 hl (.inl rfl)).mono ?_
 rintro e w1 ⟨rfl, hr1, hk1⟩
 have hm1 := blk_kp hk1 (blk_new _ _) (by simp)
 have hq1 := blk_kp hk1 (blk_alloc (blk_alloc (blk_new _ _) _) _) (by simp)
 simp only [World.size_alloc] at hm1
 have hB1 : Below w.heap.size w w1 := ((((Below.refl _ w).alloc (Nat.le_refl _) _).alloc (by simp) _).alloc (by simp; omega) _).trans (hk1.toBelow (by simp; omega) (fun k e => by injection e with e; omega))
 have hz1 : w.heap.size + 3 ≤ w1.heap.size := by have := hk1.size; simpa using this
 clear hk1 hr0
 have hc := blk_cell hm1
 have hf := blk_free hm1
 go_wp2_with fail
 clear hc hf
 have M0 := blk_set hm1 0 (I6 (eNum 1 l))
 have Q0 := blk_set_other hq1 (a := (A6 (w.heap.size + 2) 0)) (by simp) (I6 (eNum 1 l))
 have R0 := EyeAt.set hr1 (a := (A6 (w.heap.size + 2) 0)) (by simp) (I6 (eNum 1 l))
 have B0 := Below.setCell hB1 (p := (A6 (w.heap.size + 2) 0)) (by simp) (I6 (eNum 1 l))
 refine (enumber_any (w.heap.size + 1) 1 (eAdv 1 l) _ R0 (by omega) (.inl rfl)).mono ?_
 rintro e w2 ⟨rfl, hr2, hk2⟩
 have hB2 := B0.trans (hk2.toBelow (B := w.heap.size) (by simp [World.setCell]; omega) (fun k e => by injection e with e; omega))
 have hz2 : w.heap.size + 3 ≤ w2.heap.size := by have := hk2.size; simp [World.setCell] at this; omega
 have hm2 := blk_kp hk2 M0 (by simp)
 have hq2 := blk_kp hk2 Q0 (by simp)
 clear hk2 hm1 hq1 hr1 hB1 M0 Q0 R0 B0
 have hc := blk_cell hm2
 have hf := blk_free hm2
 go_wp2_with fail
 clear hc hf
 have M0 := blk_set hm2 1 (I6 (eNum 1 (eAdv 1 l)))
 have Q0 := blk_set_other hq2 (a := (A6 (w.heap.size + 2) 1)) (by simp) (I6 (eNum 1 (eAdv 1 l)))
 have R0 := EyeAt.set hr2 (a := (A6 (w.heap.size + 2) 1)) (by simp) (I6 (eNum 1 (eAdv 1 l)))
 have B0 := Below.setCell hB2 (p := (A6 (w.heap.size + 2) 1)) (by simp) (I6 (eNum 1 (eAdv 1 l)))
 refine (enumber_any (w.heap.size + 1) 1 (eAdv 1 (eAdv 1 l)) _ R0 (by omega) (.inl rfl)).mono ?_
 rintro e w3 ⟨rfl, hr3, hk3⟩
 have hB3 := B0.trans (hk3.toBelow (B := w.heap.size) (by simp [World.setCell]; omega) (fun k e => by injection e with e; omega))
 have hz3 : w.heap.size + 3 ≤ w3.heap.size := by have := hk3.size; simp [World.setCell] at this; omega
 have hm3 := blk_kp hk3 M0 (by simp)
 have hq3 := blk_kp hk3 Q0 (by simp)
 clear hk3 hm2 hq2 hr2 hB2 M0 Q0 R0 B0
 have hc := blk_cell hm3
 have hf := blk_free hm3
 go_wp2_with fail
 clear hc hf
 have M0 := blk_set hm3 2 (I6 (eNum 1 (eAdv 1 (eAdv 1 l))))
 have Q0 := blk_set_other hq3 (a := (A6 (w.heap.size + 2) 2)) (by simp) (I6 (eNum 1 (eAdv 1 (eAdv 1 l))))
 have R0 := EyeAt.set hr3 (a := (A6 (w.heap.size + 2) 2)) (by simp) (I6 (eNum 1 (eAdv 1 (eAdv 1 l))))
 have B0 := Below.setCell hB3 (p := (A6 (w.heap.size + 2) 2)) (by simp) (I6 (eNum 1 (eAdv 1 (eAdv 1 l))))
 refine (enumber_any (w.heap.size + 1) 1 (eM1 l) _ R0 (by omega) (.inl rfl)).mono ?_
 rintro e w4 ⟨rfl, hr4, hk4⟩
 have hB4 := B0.trans (hk4.toBelow (B := w.heap.size) (by simp [World.setCell]; omega) (fun k e => by injection e with e; omega))
 have hz4 : w.heap.size + 3 ≤ w4.heap.size := by have := hk4.size; simp [World.setCell] at this; omega
 have hm4 := blk_kp hk4 M0 (by simp)
 have hq4 := blk_kp hk4 Q0 (by simp)
 clear hk4 hm3 hq3 hr3 hB3 M0 Q0 R0 B0
 have hc := blk_cell hm4
 have hf := blk_free hm4
 go_wp2_with fail
 clear hc hf
 have M0 := blk_set hm4 4 (I6 (eNum 1 (eM1 l)))
 have Q0 := blk_set_other hq4 (a := (A6 (w.heap.size + 2) 4)) (by simp) (I6 (eNum 1 (eM1 l)))
 have R0 := EyeAt.set hr4 (a := (A6 (w.heap.size + 2) 4)) (by simp) (I6 (eNum 1 (eM1 l)))
 have B0 := Below.setCell hB4 (p := (A6 (w.heap.size + 2) 4)) (by simp) (I6 (eNum 1 (eM1 l)))
 refine (epost_any (w.heap.size + 1) (eAdv 1 (eM1 l)) _ R0 (by omega)).mono ?_
 rintro e w5 ⟨rfl, hr5, hk5⟩
 have hB5 := B0.trans (hk5.toBelow (B := w.heap.size) (by simp [World.setCell]; omega) (fun k e => by injection e with e; omega))
 have hz5 : w.heap.size + 3 ≤ w5.heap.size := by have := hk5.size; simp [World.setCell] at this; omega
 have hm5 := blk_kp hk5 M0 (by simp)
 have hq5 := blk_kp hk5 Q0 (by simp)
 clear hk5 hm4 hq4 hr4 hB4 M0 Q0 R0 B0
 have hc := blk_cell hm5
 have hf := blk_free hm5
 go_wp2_with fail
 clear hc hf
 have M0 := blk_set hm5 5 (I6 (ePost (eAdv 1 (eM1 l))).c)
 have Q0 := blk_set_other hq5 (a := (A6 (w.heap.size + 2) 5)) (by simp) (I6 (ePost (eAdv 1 (eM1 l))).c)
 have R0 := EyeAt.set hr5 (a := (A6 (w.heap.size + 2) 5)) (by simp) (I6 (ePost (eAdv 1 (eM1 l))).c)
 have B0 := Below.setCell hB5 (p := (A6 (w.heap.size + 2) 5)) (by simp) (I6 (ePost (eAdv 1 (eM1 l))).c)
 have M1 := blk_set M0 6 (I6 (ePost (eAdv 1 (eM1 l))).q)
 have Q1 := blk_set_other Q0 (a := (A6 (w.heap.size + 2) 6)) (by simp) (I6 (ePost (eAdv 1 (eM1 l))).q)
 have R1 := EyeAt.set R0 (a := (A6 (w.heap.size + 2) 6)) (by simp) (I6 (ePost (eAdv 1 (eM1 l))).q)
 have B1 := Below.setCell B0 (p := (A6 (w.heap.size + 2) 6)) (by simp) (I6 (ePost (eAdv 1 (eM1 l))).q)
 have M2 := blk_set M1 7 (I6 (ePost (eAdv 1 (eM1 l))).h)
 have Q2 := blk_set_other Q1 (a := (A6 (w.heap.size + 2) 7)) (by simp) (I6 (ePost (eAdv 1 (eM1 l))).h)
 have R2 := EyeAt.set R1 (a := (A6 (w.heap.size + 2) 7)) (by simp) (I6 (ePost (eAdv 1 (eM1 l))).h)
 have B2 := Below.setCell B1 (p := (A6 (w.heap.size + 2) 7)) (by simp) (I6 (ePost (eAdv 1 (eM1 l))).h)
 have M3 := blk_set M2 8 (.string (ePost (eAdv 1 (eM1 l))).t)
 have Q3 := blk_set_other Q2 (a := (A6 (w.heap.size + 2) 8)) (by simp) (.string (ePost (eAdv 1 (eM1 l))).t)
 have R3 := EyeAt.set R2 (a := (A6 (w.heap.size + 2) 8)) (by simp) (.string (ePost (eAdv 1 (eM1 l))).t)
 have B3 := Below.setCell B2 (p := (A6 (w.heap.size + 2) 8)) (by simp) (.string (ePost (eAdv 1 (eM1 l))).t)
 have hP := fun W => rpack_any (⟨eNum 1 l, eNum 1 (eAdv 1 l), eNum 1 (eAdv 1 (eAdv 1 l)), 0, eNum 1 (eM1 l), (ePost (eAdv 1 (eM1 l))), []⟩ : Ms) (.slice none 0 0) W (rvat_nil W)
 dsimp only at hP
 generalize hrb : rmB (⟨eNum 1 l, eNum 1 (eAdv 1 l), eNum 1 (eAdv 1 (eAdv 1 l)), 0, eNum 1 (eM1 l), (ePost (eAdv 1 (eM1 l))), []⟩ : Ms) = rb at *
 generalize heb : encM (⟨eNum 1 l, eNum 1 (eAdv 1 l), eNum 1 (eAdv 1 (eAdv 1 l)), 0, eNum 1 (eM1 l), (ePost (eAdv 1 (eM1 l))), []⟩ : Ms) = eb at *
 have HRB := hide hrb
 have HEB := hide heb
 clear hrb heb
 refine (hP _).mono ?_
 rintro e w6 ⟨rfl, hb6⟩
 clear hP
 have hm6 := blk_below hb6 M3
 have hq6 := blk_below hb6 Q3
 have hB6 := B3.trans (hb6.mono (by simp [World.setCell]; omega))
 have hc := blk_cell hm6
 have hqc := blk_cell hq6
 have hqf := blk_free hq6
 cases rb
 ·obtain rfl : false = ok := by simpa using hok
  clear hok
  go_wp2
  refine bodyPost_ret (v := .tuple #[.agg #[I6 0, I6 0, I6 0, I6 0, I6 0, I6 0, I6 0, I6 0, .string (S []), .slice none 0 0], I6 2]) (by simp [results, Tryz.results22, go_sem, hqc, S]) rfl ⟨rfl, ?_⟩
  iterate 10 refine Below.setCell ?_ (by simp) _
  exact hB6
 ·by_cases hel : eb = l
  ·obtain rfl : true = ok := by simpa [hel] using hok
   clear hok
   have hel' : l = eb := hel.symm
   clear hel
   subst hel'
   go_wp2
   refine bodyPost_ret (v := .tuple #[.agg #[I6 (eNum 1 l), I6 (eNum 1 (eAdv 1 l)), I6 (eNum 1 (eAdv 1 (eAdv 1 l))), I6 (0), I6 (eNum 1 (eM1 l)), I6 (ePost (eAdv 1 (eM1 l))).c, I6 (ePost (eAdv 1 (eM1 l))).q, I6 (ePost (eAdv 1 (eM1 l))).h, .string (ePost (eAdv 1 (eM1 l))).t, .slice none 0 0], I6 0]) (by simp [results, Tryz.results22, go_sem, hqc, S]) rfl ⟨rfl, ?_⟩
   iterate 10 refine Below.setCell ?_ (by simp) _
   exact hB6
  ·obtain rfl : false = ok := by simpa [hel] using hok
   clear hok
   have hne : ((S eb).toList == (S l).toList) = false := by rw [S_toList, S_toList]; simpa using hel
   have hne' : ¬ (S eb).toList = (S l).toList := by rw [S_toList, S_toList]; exact hel
   go_wp2
   refine bodyPost_ret (v := .tuple #[.agg #[I6 0, I6 0, I6 0, I6 0, I6 0, I6 0, I6 0, I6 0, .string (S []), .slice none 0 0], I6 2]) (by simp [results, Tryz.results22, go_sem, hqc, S]) rfl ⟨rfl, ?_⟩
   iterate 10 refine Below.setCell ?_ (by simp) _
   exact hB6
end
section
open Go.RowKit
theorem eVtsAft_len (k : Nat) (l : List UInt8) : (eVtsAft k l).length ≤ l.length := by
 induction k with
 | zero => exact Nat.le_refl _
 | succ k ih =>
  have h1 : (eVoteAft (eVtsAft k l)).length ≤ (eVtsAft k l).length := by
   unfold eVoteAft
   have a1 := eAdv_len 1 (eVtsAft k l)
   have a2 := eAdv_len 2 (eAdv 1 (eVtsAft k l))
   have a3 : (eAft (eAdv 2 (eAdv 1 (eVtsAft k l)))).length ≤ (eAdv 2 (eAdv 1 (eVtsAft k l))).length := by
    generalize eAdv 2 (eAdv 1 (eVtsAft k l)) = q
    unfold eAft
    split
    ·exact eAdv_len 1 q
    ·have b1 := eAdv_len 1 q
     have b2 := eAdv_len 2 (eAdv 1 q)
     have b3 := eAdv_len 1 (eAdv 2 (eAdv 1 q))
     have b4 := eAdv_len 1 (eAdv 1 (eAdv 2 (eAdv 1 q)))
     rw [List.length_drop]
     unfold eTxt
     omega
   omega
  exact Nat.le_trans h1 ih
set_option maxHeartbeats 8000000 in
theorem runp_b (l : List UInt8) (w : World) (hl : l.length ≤ 9223372036854775807) (h5 : (eNum 1 l == 5) = false) (h3 : (eNum 1 l == 3) = false) (h4 : (eNum 1 l == 4) = false) (h2 : (eNum 1 l == 2) = true) (n : Nat) (hn : eNum 1 (eAdv 2 (eM1 l)) = n) (s1 : List UInt8) (hs1 : eAdv 1 (eAdv 2 (eM1 l)) = s1) (ok : Bool) (hok : (rmB (⟨eNum 1 l, eNum 1 (eAdv 1 l), eNum 1 (eAdv 1 (eAdv 1 l)), eNum 2 (eM1 l), 0, (⟨0, 0, 0, S []⟩ : Pst), eVts n (s1)⟩ : Ms) && decide (encM (⟨eNum 1 l, eNum 1 (eAdv 1 l), eNum 1 (eAdv 1 (eAdv 1 l)), eNum 2 (eM1 l), 0, (⟨0, 0, 0, S []⟩ : Pst), eVts n (s1)⟩ : Ms) = l)) = ok) :
  Calls Tryz.prog 22 #[.string (S l)] w fun e w' => (ok = true → ∃ v, e = .returned (.tuple #[.agg #[I6 (eNum 1 l), I6 (eNum 1 (eAdv 1 l)), I6 (eNum 1 (eAdv 1 (eAdv 1 l))), I6 (eNum 2 (eM1 l)), I6 0, I6 0, I6 0, I6 0, .string ⟨#[]⟩, v], I6 0]) ∧ VAt w' v (eVts n (s1))) ∧ (ok = false → e = .returned (.tuple #[.agg #[I6 0, I6 0, I6 0, I6 0, I6 0, I6 0, I6 0, I6 0, .string (S []), .slice none 0 0], I6 2])) ∧ Below w.heap.size w w' := by
 obtain ⟨i0, hi, hz0, hzz1, hzz2⟩ := info_parts Tryz.infoVote
 have HOK := hide hok
 clear hok
 have hn255 := eNum_one (eAdv 2 (eM1 l))
 have l5 := eAdv_len 1 (eAdv 2 (eM1 l))
 have l1 := eAdv_len 1 l
 have l2 := eAdv_len 1 (eAdv 1 l)
 have l3 := eAdv_len 1 (eAdv 1 (eAdv 1 l))
 have l3' : (eM1 l).length ≤ (eAdv 1 (eAdv 1 l)).length := l3
 have l4 := eAdv_len 2 (eM1 l)
 have hn5 : (eNum 1 l != 5) = true := by simp only [bne, h5]; rfl
 go_enter Tryz.func22, Tryz.ntmps22
 go_wp2_with fail
 have hr0 : EyeAt _ (w.heap.size + 1) l := EyeAt.alloc (by have := blk_new (w.alloc (.cells #[I6 0, I6 0, I6 0, I6 0, I6 0, I6 0, I6 0, I6 0, .string ⟨#[]⟩, .slice none 0 0] 36)) (.cells #[.string (S l)] 105); simp only [World.size_alloc] at this; exact this) (.cells #[I6 0, I6 0, I6 0, I6 0, I6 0, I6 0, I6 0, I6 0, .string ⟨#[]⟩, .slice none 0 0] 36)
 refine (enumber_any (w.heap.size + 1) 1 l _ hr0 hl (.inl rfl)).mono ?_
 rintro e w1 ⟨rfl, hr1, hk1⟩
 have hm1 := blk_kp hk1 (blk_new _ _) (by simp)
 have hq1 := blk_kp hk1 (blk_alloc (blk_alloc (blk_new _ _) _) _) (by simp)
 simp only [World.size_alloc] at hm1
 have hB1 : Below w.heap.size w w1 := ((((Below.refl _ w).alloc (Nat.le_refl _) _).alloc (by simp) _).alloc (by simp; omega) _).trans (hk1.toBelow (by simp; omega) (fun k e => by injection e with e; omega))
 have hz1 : w.heap.size + 3 ≤ w1.heap.size := by have := hk1.size; simpa using this
 clear hk1 hr0
 have hc := blk_cell hm1
 have hf := blk_free hm1
 go_wp2_with fail
 clear hc hf
 have M0 := blk_set hm1 0 (I6 (eNum 1 l))
 have Q0 := blk_set_other hq1 (a := (A6 (w.heap.size + 2) 0)) (by simp) (I6 (eNum 1 l))
 have R0 := EyeAt.set hr1 (a := (A6 (w.heap.size + 2) 0)) (by simp) (I6 (eNum 1 l))
 have B0 := Below.setCell hB1 (p := (A6 (w.heap.size + 2) 0)) (by simp) (I6 (eNum 1 l))
 refine (enumber_any (w.heap.size + 1) 1 (eAdv 1 l) _ R0 (by omega) (.inl rfl)).mono ?_
 rintro e w2 ⟨rfl, hr2, hk2⟩
 have hB2 := B0.trans (hk2.toBelow (B := w.heap.size) (by simp [World.setCell]; omega) (fun k e => by injection e with e; omega))
 have hz2 : w.heap.size + 3 ≤ w2.heap.size := by have := hk2.size; simp [World.setCell] at this; omega
 have hm2 := blk_kp hk2 M0 (by simp)
 have hq2 := blk_kp hk2 Q0 (by simp)
 clear hk2 hm1 hq1 hr1 hB1 M0 Q0 R0 B0
 have hc := blk_cell hm2
 have hf := blk_free hm2
 go_wp2_with fail
 clear hc hf
 have M0 := blk_set hm2 1 (I6 (eNum 1 (eAdv 1 l)))
 have Q0 := blk_set_other hq2 (a := (A6 (w.heap.size + 2) 1)) (by simp) (I6 (eNum 1 (eAdv 1 l)))
 have R0 := EyeAt.set hr2 (a := (A6 (w.heap.size + 2) 1)) (by simp) (I6 (eNum 1 (eAdv 1 l)))
 have B0 := Below.setCell hB2 (p := (A6 (w.heap.size + 2) 1)) (by simp) (I6 (eNum 1 (eAdv 1 l)))
 refine (enumber_any (w.heap.size + 1) 1 (eAdv 1 (eAdv 1 l)) _ R0 (by omega) (.inl rfl)).mono ?_
 rintro e w3 ⟨rfl, hr3, hk3⟩
 have hB3 := B0.trans (hk3.toBelow (B := w.heap.size) (by simp [World.setCell]; omega) (fun k e => by injection e with e; omega))
 have hz3 : w.heap.size + 3 ≤ w3.heap.size := by have := hk3.size; simp [World.setCell] at this; omega
 have hm3 := blk_kp hk3 M0 (by simp)
 have hq3 := blk_kp hk3 Q0 (by simp)
 clear hk3 hm2 hq2 hr2 hB2 M0 Q0 R0 B0
 have hc := blk_cell hm3
 have hf := blk_free hm3
 go_wp2_with fail
 clear hc hf
 have M0 := blk_set hm3 2 (I6 (eNum 1 (eAdv 1 (eAdv 1 l))))
 have Q0 := blk_set_other hq3 (a := (A6 (w.heap.size + 2) 2)) (by simp) (I6 (eNum 1 (eAdv 1 (eAdv 1 l))))
 have R0 := EyeAt.set hr3 (a := (A6 (w.heap.size + 2) 2)) (by simp) (I6 (eNum 1 (eAdv 1 (eAdv 1 l))))
 have B0 := Below.setCell hB3 (p := (A6 (w.heap.size + 2) 2)) (by simp) (I6 (eNum 1 (eAdv 1 (eAdv 1 l))))
 refine (enumber_any (w.heap.size + 1) 2 (eM1 l) _ R0 (by omega) (.inr rfl)).mono ?_
 rintro e w4 ⟨rfl, hr4, hk4⟩
 have hB4 := B0.trans (hk4.toBelow (B := w.heap.size) (by simp [World.setCell]; omega) (fun k e => by injection e with e; omega))
 have hz4 : w.heap.size + 3 ≤ w4.heap.size := by have := hk4.size; simp [World.setCell] at this; omega
 have hm4 := blk_kp hk4 M0 (by simp)
 have hq4 := blk_kp hk4 Q0 (by simp)
 clear hk4 hm3 hq3 hr3 hB3 M0 Q0 R0 B0
 have hc := blk_cell hm4
 have hf := blk_free hm4
 go_wp2_with fail
 clear hc hf
 have M0 := blk_set hm4 3 (I6 (eNum 2 (eM1 l)))
 have Q0 := blk_set_other hq4 (a := (A6 (w.heap.size + 2) 3)) (by simp) (I6 (eNum 2 (eM1 l)))
 have R0 := EyeAt.set hr4 (a := (A6 (w.heap.size + 2) 3)) (by simp) (I6 (eNum 2 (eM1 l)))
 have B0 := Below.setCell hB4 (p := (A6 (w.heap.size + 2) 3)) (by simp) (I6 (eNum 2 (eM1 l)))
 have l4' : (eAdv 2 (eM1 l)).length ≤ l.length := by omega
 have hnum := enumber_any (w.heap.size + 1) 1 (eAdv 2 (eM1 l)) _ R0 (by omega) (.inl rfl)
 rw [hn, hs1] at hnum
 rw [hn] at hn255
 rw [hs1] at l5
 clear hn hs1
 have l5' : s1.length ≤ 9223372036854775807 := by omega
 refine hnum.mono ?_
 rintro e w5 ⟨rfl, hr5, hk5⟩
 clear hnum
 have hB5 := B0.trans (hk5.toBelow (B := w.heap.size) (by simp [World.setCell]; omega) (fun k e => by injection e with e; omega))
 have hz5 : w.heap.size + 3 ≤ w5.heap.size := by have := hk5.size; simp [World.setCell] at this; omega
 have hm5 := blk_kp hk5 M0 (by simp)
 have hq5 := blk_kp hk5 Q0 (by simp)
 clear hk5 hm4 hq4 hr4 hB4 M0 Q0 R0 B0
 go_wp2_with fail
 go_loopw [7] (fun i wr => ∃ (k : Nat) (v : Value), k ≤ n ∧ i = I6 k ∧ wr.ownsRow (w.heap.size + 3) 53 6 v k (vcells (eVts k s1)) ∧ EyeAt wr (w.heap.size + 1) (eVtsAft k s1)
   ∧ wr.heap[w.heap.size + 2]? = some (.cells #[I6 (eNum 1 l), I6 (eNum 1 (eAdv 1 l)), I6 (eNum 1 (eAdv 1 (eAdv 1 l))), I6 (eNum 2 (eM1 l)), I6 0, I6 0, I6 0, I6 0, .string ⟨#[]⟩, v] 36 (0, 0)) ∧ wr.heap[w.heap.size]? = some (.cells #[I6 0, I6 0, I6 0, I6 0, I6 0, I6 0, I6 0, I6 0, .string ⟨#[]⟩, .slice none 0 0] 36 (0, 0))
   ∧ Below w.heap.size w wr ∧ w.heap.size + 3 ≤ wr.heap.size) (fun i _ => n - (intOf i).toNat)
 case atStart => exact ⟨0, .slice none 0 0, Nat.zero_le _, rfl, World.ownsRow_nil _ _ _ _, hr5, hm5, hq5, hB5, hz5⟩
 case round =>
  obtain ⟨k, v, hk, rfl, hown, hrr, hmr, hqr, hBr, hzr⟩ := hrel
  obtain ⟨va, vn, vc, rfl⟩ := owns_slice hown
  clear hm5 hq5 hr5 hB5 hz5
  by_cases hlt : k < n
  ·have hg := fun g hb => hown.lt g hb
   have l0 := eVtsAft_len k s1
   have k1 := eAdv_len 1 (eVtsAft k s1)
   have k2 := eAdv_len 2 (eAdv 1 (eVtsAft k s1))
   have E1 : Hid (eVts (k + 1) s1 = eVts k s1 ++ [eVote (eVtsAft k s1)]) := rfl
   have E2 : Hid (eVtsAft (k + 1) s1 = eAft (eAdv 2 (eAdv 1 (eVtsAft k s1)))) := rfl
   have E3 : Hid (eVote (eVtsAft k s1) = ⟨eNum 1 (eVtsAft k s1), eNum 2 (eAdv 1 (eVtsAft k s1)), ePost (eAdv 2 (eAdv 1 (eVtsAft k s1)))⟩) := rfl
   go_wp2_with fail
   refine (enumber_any (w.heap.size + 1) 1 (eVtsAft k s1) _ (hrr.alloc _) (by omega) (.inl rfl)).mono ?_
   rintro e w1 ⟨rfl, hr1, hk1⟩
   have K1 := Keeps.trans (Keeps.ofAlloc (P := fun b => b = w.heap.size + 1 ∨ wr.heap.size ≤ b) wr _) ((Keeps.ofKp hk1).mono (fun b _ hb => .inl (by simpa using hb.symm)))
   have hp1 := blk_kp hk1 (blk_new _ _) (by simp; omega)
   have hc := blk_cell hp1
   have hf := blk_free hp1
   clear hk1
   go_wp2_with fail
   clear hc hf
   have hp1' := blk_set hp1 0 (I6 (eNum 1 (eVtsAft k s1)))
   have K1' := K1.trans (Keeps.ofSet (a := (A6 wr.heap.size 0)) (.inl (.inr (Nat.le_refl _))) (I6 (eNum 1 (eVtsAft k s1))))
   refine (enumber_any (w.heap.size + 1) 2 (eAdv 1 (eVtsAft k s1)) _ (hr1.set (by simp; omega) _) (by omega) (.inr rfl)).mono ?_
   rintro e w2 ⟨rfl, hr2, hk2⟩
   have K2 := K1'.trans ((Keeps.ofKp hk2).mono (fun b _ hb => .inl (by simpa using hb.symm)))
   have hp2 := blk_kp hk2 hp1' (by simp; omega)
   clear hk2 hp1' hp1 hr1 K1 K1'
   have hc := blk_cell hp2
   have hf := blk_free hp2
   go_wp2_with fail
   clear hc hf
   have hp2' := blk_set hp2 1 (I6 (eNum 2 (eAdv 1 (eVtsAft k s1))))
   have K2' := K2.trans (Keeps.ofSet (a := (A6 wr.heap.size 1)) (.inl (.inr (Nat.le_refl _))) (I6 (eNum 2 (eAdv 1 (eVtsAft k s1)))))
   refine (epost_any (w.heap.size + 1) (eAdv 2 (eAdv 1 (eVtsAft k s1))) _ (hr2.set (by simp; omega) _) (by omega)).mono ?_
   rintro e w3 ⟨rfl, hr3, hk3⟩
   have K3 := K2'.trans ((Keeps.ofKp hk3).mono (fun b _ hb => .inl (by simpa using hb.symm)))
   have hp3 := blk_kp hk3 hp2' (by simp; omega)
   have hsz3 := lt_of_block hp3
   clear hk3 hp2' hp2 hr2 K2 K2'
   have hm3 := blk_keeps K3 hmr (by omega)
   have hq3 := blk_keeps K3 hqr (by omega)
   have ho3 := owns_keeps hown K3 (fun g hb => by have := hg g hb; omega)
   have hc := blk_cell hp3
   have hf := blk_free hp3
   have hmc := blk_cell hm3
   have hw3 := K3.size
   go_wp2_with (at_builtin; refine wpList_append_lies _ rfl (.tmp 76) (.tmp 78) 34 rfl (w.heap.size + 3) 53 i0 _ 6 56 Tryz.underlying34 hi hz0 hzz1 hzz2 rfl (by decide) _ k (vcells (eVts k s1)) rfl ?_ _ 1 1 (eVote (eVtsAft k s1)).cells rfl rfl ?_ ?_ (by decide) ?_ ?_ ?_ _ rfl ?_)
   ·refine owns_alloc ?_ _
    iterate 4 refine owns_set ?_ (fun e => by have := (hg _ e).2; simp at this) _
    exact ho3
   ·exact news_new _ _ (by simp) _ _
   ·intro u hu
    rw [E3.out] at hu
    simp [Vt.cells] at hu
    rcases hu with rfl | rfl | rfl | rfl | rfl | rfl <;> rfl
   ·unfold maxLen; omega
   ·omega
   ·simp; omega
   ·intro g cap w4 hown4 hgrow hat hlt4
    have hne2 : ∀ b, b < w.heap.size + 3 → (Value.slice va vn vc).ownBlock ≠ some b := fun b hb e => by have := (hg _ e).1; omega
    have hm4 : w4.heap[w.heap.size + 2]? = some (.cells #[I6 (eNum 1 l), I6 (eNum 1 (eAdv 1 l)), I6 (eNum 1 (eAdv 1 (eAdv 1 l))), I6 (eNum 2 (eM1 l)), I6 0, I6 0, I6 0, I6 0, .string ⟨#[]⟩, .slice va vn vc] 36 (0, 0)) := by
     refine blk_grown hgrow (blk_alloc ?_ _) (hne2 _ (by omega))
     iterate 4 refine blk_set_other ?_ (by simp; omega) _
     exact hm3
    have hq4 : w4.heap[w.heap.size]? = some (.cells #[I6 0, I6 0, I6 0, I6 0, I6 0, I6 0, I6 0, I6 0, .string ⟨#[]⟩, .slice none 0 0] 36 (0, 0)) := by
     refine blk_grown hgrow (blk_alloc ?_ _) (hne2 _ (by omega))
     iterate 4 refine blk_set_other ?_ (by simp; omega) _
     exact hq3
    have hr4 : EyeAt w4 (w.heap.size + 1) (eVtsAft (k + 1) s1) := by
     rw [E2.out]
     refine blk_grown hgrow (blk_alloc ?_ _) (hne2 _ (by omega))
     iterate 4 refine blk_set_other ?_ (by simp; omega) _
     exact hr3
    have hB4 : Below w.heap.size w w4 := by
     have X1 := hBr.trans (Below.mono (⟨K3.os, K3.tape, K3.output, K3.size, fun b hb => K3.block b (by omega) (by omega)⟩ : Below w.heap.size wr w3) (Nat.le_refl _))
     have X2 := ((((X1.setCell (p := (A6 wr.heap.size 2)) (by simp; omega) (I6 (ePost (eAdv 2 (eAdv 1 (eVtsAft k s1)))).c)).setCell (p := (A6 wr.heap.size 3)) (by simp; omega) (I6 (ePost (eAdv 2 (eAdv 1 (eVtsAft k s1)))).q)).setCell (p := (A6 wr.heap.size 4)) (by simp; omega) (I6 (ePost (eAdv 2 (eAdv 1 (eVtsAft k s1)))).h)).setCell (p := (A6 wr.heap.size 5)) (by simp; omega) (.string (ePost (eAdv 2 (eAdv 1 (eVtsAft k s1)))).t))
     have X3 := X2.alloc (by simp; omega) (.cells #[I6 (eNum 1 (eVtsAft k s1)), I6 (eNum 2 (eAdv 1 (eVtsAft k s1))), I6 (ePost (eAdv 2 (eAdv 1 (eVtsAft k s1)))).c, I6 (ePost (eAdv 2 (eAdv 1 (eVtsAft k s1)))).q, I6 (ePost (eAdv 2 (eAdv 1 (eVtsAft k s1)))).h, .string (ePost (eAdv 2 (eAdv 1 (eVtsAft k s1)))).t] 53)
     refine ⟨hgrow.os.trans X3.os, hgrow.tape.trans X3.tape, hgrow.output.trans X3.output, Nat.le_trans X3.size hgrow.size, fun b hb => ?_⟩
     rw [hgrow.block b (Nat.lt_of_lt_of_le (Nat.lt_of_lt_of_le hb (Nat.le_refl _)) X3.size) (fun e => hne2 b (by omega) e.symm)]
     exact X3.block b hb
    have hown5 : w4.ownsRow (w.heap.size + 3) 53 6 (.slice (some (A6 g 0)) (k + 1) cap) (k + 1) (vcells (eVts (k + 1) s1)) := by
     rw [E1.out, vcells_append]; simpa [vcells] using hown4
    have hs4 : w.heap.size + 3 ≤ w4.heap.size := by have := hgrow.size; simp [World.setCell] at this; omega
    clear hgrow hown4 hat hlt4 hr3 ho3 hp3 hm3 hq3 hown hrr hmr hqr hBr K3 hc hf hmc
    have hmc := blk_cell hm4
    have hmf := blk_free hm4
    go_wp2
    go_roundw
    case rel =>
     refine ⟨k + 1, _, by omega, by go_num, owns_set hown5 (fun e => by have := (hown5.lt _ e).1; simp at this <;> omega) _, hr4.set (by simp) _, blk_set hm4 9 _, blk_set_other hq4 (by simp <;> omega) _, hB4.setCell (by simp <;> omega) _, by simpa [World.setCell] using hs4⟩
    case measure => simp [intOf]; omega
  ·obtain rfl : k = n := by omega
   have hvat : VAt wr (.slice va vn vc) (eVts k s1) := owns_vat (by rw [eVts_length]; exact hown) (by rw [eVts_length]; omega)
   have hvn : ∀ g, (Value.slice va vn vc).ownBlock = some g → w.heap.size + 3 ≤ g := fun g e => (hown.lt g e).1
   have hP := rpack_any (⟨eNum 1 l, eNum 1 (eAdv 1 l), eNum 1 (eAdv 1 (eAdv 1 l)), eNum 2 (eM1 l), 0, (⟨0, 0, 0, S []⟩ : Pst), eVts k (s1)⟩ : Ms) (.slice va vn vc) wr hvat
   dsimp only at hP
   have hmc := blk_cell hmr
   generalize hrb : rmB (⟨eNum 1 l, eNum 1 (eAdv 1 l), eNum 1 (eAdv 1 (eAdv 1 l)), eNum 2 (eM1 l), 0, (⟨0, 0, 0, S []⟩ : Pst), eVts k (s1)⟩ : Ms) = rb at *
   generalize heb : encM (⟨eNum 1 l, eNum 1 (eAdv 1 l), eNum 1 (eAdv 1 (eAdv 1 l)), eNum 2 (eM1 l), 0, (⟨0, 0, 0, S []⟩ : Pst), eVts k (s1)⟩ : Ms) = eb at *
   have HRB := hide hrb
   have HEB := hide heb
   clear hrb heb hown hrr
   have hok := unhide HOK
   clear HOK HRB HEB
   go_wp2_with fail
   refine hP.mono ?_
   rintro e w6 ⟨rfl, hb6⟩
   clear hP
   have hm6 := blk_below hb6 hmr
   have hq6 := blk_below hb6 hqr
   have hv6 := hvat.below hb6
   have hB6 := hBr.trans (hb6.mono (by omega))
   have hc := blk_cell hm6
   have hqc := blk_cell hq6
   have hqf := blk_free hq6
   clear hmr hqr hmc hvat
   cases rb
   ·have HO : Hid (ok = false) := show ok = false from (by simpa using hok.symm)
    clear hok
    go_wp2
    refine bodyPost_ret (v := .tuple #[.agg #[I6 0, I6 0, I6 0, I6 0, I6 0, I6 0, I6 0, I6 0, .string (S []), .slice none 0 0], I6 2]) (by simp [results, Tryz.results22, go_sem, hqc, S]) rfl ⟨fun h => (by rw [unhide HO] at h; cases h), fun _ => rfl, ?_⟩
    iterate 10 refine Below.setCell ?_ (by simp) _
    exact hB6
   ·by_cases hel : eb = l
    ·have HO : Hid (ok = true) := show ok = true from (by simpa [hel] using hok.symm)
     clear hok
     have hel' : l = eb := hel.symm
     clear hel
     subst hel'
     go_wp2
     refine bodyPost_ret (v := .tuple #[.agg #[I6 (eNum 1 l), I6 (eNum 1 (eAdv 1 l)), I6 (eNum 1 (eAdv 1 (eAdv 1 l))), I6 (eNum 2 (eM1 l)), I6 0, I6 0, I6 0, I6 0, .string ⟨#[]⟩, .slice va vn vc], I6 0]) (by simp [results, Tryz.results22, go_sem, hqc, S]) rfl ⟨fun _ => ⟨_, rfl, ?_⟩, fun h => (by rw [unhide HO] at h; cases h), ?_⟩
     ·refine hv6.kp (o := some w.heap.size) (o' := some w.heap.size) ?_ (fun g e => by have := hvn g e; intro x; injection x with x; omega)
      iterate 10 refine Kp.setR ?_ _ _
      exact Kp.refl _ _
     ·iterate 10 refine Below.setCell ?_ (by simp) _
      exact hB6
    ·have HO : Hid (ok = false) := show ok = false from (by simpa [hel] using hok.symm)
     clear hok
     have hne : ((S eb).toList == (S l).toList) = false := by rw [S_toList, S_toList]; simpa using hel
     have hne' : ¬ (S eb).toList = (S l).toList := by rw [S_toList, S_toList]; exact hel
     go_wp2
     refine bodyPost_ret (v := .tuple #[.agg #[I6 0, I6 0, I6 0, I6 0, I6 0, I6 0, I6 0, I6 0, .string (S []), .slice none 0 0], I6 2]) (by simp [results, Tryz.results22, go_sem, hqc, S]) rfl ⟨fun h => (by rw [unhide HO] at h; cases h), fun _ => rfl, ?_⟩
     iterate 10 refine Below.setCell ?_ (by simp) _
     exact hB6
end
section
open Go.RowKit
def RUn (l : List UInt8) (w : World) (e : Ending) (w' : World) : Prop :=
 (unB l = true → ∃ v, e = .returned (.tuple #[.agg #[I6 (Rs.msg ⟨l, false⟩).k, I6 (Rs.msg ⟨l, false⟩).f, I6 (Rs.msg ⟨l, false⟩).t, I6 (Rs.msg ⟨l, false⟩).b, I6 (Rs.msg ⟨l, false⟩).s, I6 (Rs.msg ⟨l, false⟩).p.c, I6 (Rs.msg ⟨l, false⟩).p.q, I6 (Rs.msg ⟨l, false⟩).p.h, .string (Rs.msg ⟨l, false⟩).p.t, v], I6 0]) ∧ VAt w' v (Rs.msg ⟨l, false⟩).a) ∧ (unB l = false → e = .returned (.tuple #[.agg #[I6 0, I6 0, I6 0, I6 0, I6 0, I6 0, I6 0, I6 0, .string (S []), .slice none 0 0], I6 2])) ∧ Below w.heap.size w w'
theorem run_nov {l : List UInt8} {w : World} {k f t b s : Int} {p : Pst} (hM : (⟨k, f, t, b, s, p, []⟩ : Ms) = eMsg l) {e : Ending} {w' : World}
  (h : e = .returned (if unB l then .tuple #[.agg #[I6 k, I6 f, I6 t, I6 b, I6 s, I6 p.c, I6 p.q, I6 p.h, .string p.t, .slice none 0 0], I6 0] else .tuple #[.agg #[I6 0, I6 0, I6 0, I6 0, I6 0, I6 0, I6 0, I6 0, .string (S []), .slice none 0 0], I6 2]) ∧ Below w.heap.size w w') : RUn l w e w' := by
 obtain ⟨rfl, hb⟩ := h
 refine ⟨fun hu => ⟨.slice none 0 0, ?_, ?_⟩, fun hu => ?_, hb⟩
 ·rw [← e_msg hu, ← hM, hu]; rfl
 ·rw [← e_msg hu, ← hM]; exact rvat_nil _
 ·rw [hu]; rfl
set_option maxHeartbeats 2000000 in
theorem runp_any (l : List UInt8) (w : World) (hl : l.length ≤ 9223372036854775807) : Calls Tryz.prog 22 #[.string (S l)] w fun e w' => RUn l w e w' := by
 have key := e_ok l
 by_cases k5 : eNum 1 l = 5
 ·have h5 : (eNum 1 l == 5) = true := by rw [k5]; rfl
  have h3 : (eNum 1 l == 3) = false := by rw [k5]; rfl
  have h4 : (eNum 1 l == 4) = false := by rw [k5]; rfl
  have h2 : (eNum 1 l == 2) = false := by rw [k5]; rfl
  have hM : (⟨eNum 1 l, eNum 1 (eAdv 1 l), eNum 1 (eAdv 1 (eAdv 1 l)), 0, eNum 1 (eM1 l), (ePost (eAdv 1 (eM1 l))), []⟩ : Ms) = eMsg l := by simp [eMsg, eBal, eSlo, eVau, eAcc, eBalAft, eSloAft, eVauAft, hasS, hasV, hasA, k5]
  exact (runp_e l w hl h5 h3 h4 h2 (unB l) (by rw [hM]; exact key)).mono fun e w' h => run_nov hM h
 have h5 : (eNum 1 l == 5) = false := by simpa using k5
 by_cases k3 : eNum 1 l = 3
 ·have h3 : (eNum 1 l == 3) = true := by rw [k3]; rfl
  have h2 : (eNum 1 l == 2) = false := by rw [k3]; rfl
  have hM : (⟨eNum 1 l, eNum 1 (eAdv 1 l), eNum 1 (eAdv 1 (eAdv 1 l)), eNum 2 (eM1 l), eNum 1 (eAdv 2 (eM1 l)), (ePost (eAdv 1 (eAdv 2 (eM1 l)))), []⟩ : Ms) = eMsg l := by simp [eMsg, eBal, eSlo, eVau, eAcc, eBalAft, eSloAft, eVauAft, hasS, hasV, hasA, k3]
  exact (runp_c l w hl h5 h3 h2 (unB l) (by rw [hM]; exact key)).mono fun e w' h => run_nov hM h
 have h3 : (eNum 1 l == 3) = false := by simpa using k3
 by_cases k4 : eNum 1 l = 4
 ·have h4 : (eNum 1 l == 4) = true := by rw [k4]; rfl
  have h2 : (eNum 1 l == 2) = false := by rw [k4]; rfl
  have hM : (⟨eNum 1 l, eNum 1 (eAdv 1 l), eNum 1 (eAdv 1 (eAdv 1 l)), eNum 2 (eM1 l), eNum 1 (eAdv 2 (eM1 l)), (⟨0, 0, 0, S []⟩ : Pst), []⟩ : Ms) = eMsg l := by simp [eMsg, eBal, eSlo, eVau, eAcc, eBalAft, eSloAft, eVauAft, hasS, hasV, hasA, k4]
  exact (runp_d l w hl h5 h3 h4 h2 (unB l) (by rw [hM]; exact key)).mono fun e w' h => run_nov hM h
 have h4 : (eNum 1 l == 4) = false := by simpa using k4
 by_cases k2 : eNum 1 l = 2
 ·have h2 : (eNum 1 l == 2) = true := by rw [k2]; rfl
  obtain ⟨n, hn⟩ := Int.eq_ofNat_of_zero_le (eNum_nonneg 1 (eAdv 2 (eM1 l)))
  have hM : (⟨eNum 1 l, eNum 1 (eAdv 1 l), eNum 1 (eAdv 1 (eAdv 1 l)), eNum 2 (eM1 l), 0, (⟨0, 0, 0, S []⟩ : Pst), eVts n (eAdv 1 (eAdv 2 (eM1 l)))⟩ : Ms) = eMsg l := by simp [eMsg, eBal, eSlo, eVau, eAcc, eBalAft, eSloAft, eVauAft, hasS, hasV, hasA, k2, hn]
  refine (runp_b l w hl h5 h3 h4 h2 n hn _ rfl (unB l) (by rw [hM]; exact key)).mono fun e w' h => ?_
  obtain ⟨p1, p2, p3⟩ := h
  refine ⟨fun hu => ?_, p2, p3⟩
  obtain ⟨v, rfl, hv⟩ := p1 hu
  refine ⟨v, ?_, ?_⟩
  ·rw [← e_msg hu, ← hM]; rfl
  ·rw [← e_msg hu, ← hM]; exact hv
 have h2 : (eNum 1 l == 2) = false := by simpa using k2
 have hM : (⟨eNum 1 l, eNum 1 (eAdv 1 l), eNum 1 (eAdv 1 (eAdv 1 l)), eNum 2 (eM1 l), 0, (⟨0, 0, 0, S []⟩ : Pst), []⟩ : Ms) = eMsg l := by simp [eMsg, eBal, eSlo, eVau, eAcc, eBalAft, eSloAft, eVauAft, hasS, hasV, hasA, k2, k3, k4, k5]
 exact (runp_a l w hl h5 h3 h4 h2 (unB l) (by rw [hM]; exact key)).mono fun e w' h => run_nov hM h
end
end Go.Proofs.YtnnhnekfokbooaaGreatDoor
