/- The walk of the document's Unpack, for the kinds that have no votes (laid by mkref3.py). -/
import Derived.Test.YtnnhnekfokbooaaGreatDoorRefG
import Derived.Test.YtnnhnekfokbooaaGreatDoorRefL
namespace Go.Proofs.YtnnhnekfokbooaaGreatDoor
open Go.RowKit
set_option linter.unusedSimpArgs false
set_option linter.unusedVariables false


set_option maxHeartbeats 8000000 in
set_option maxRecDepth 100000 in
theorem runp_a (l : List UInt8) (w : World) (hl : l.length ≤ 9223372036854775807) (h5 : (eNum 1 l == 5) = false) (h3 : (eNum 1 l == 3) = false) (h4 : (eNum 1 l == 4) = false) (h2 : (eNum 1 l == 2) = false) (ok : Bool) (hok : (rmB (⟨eNum 1 l, eNum 1 (eAdv 1 l), eNum 1 (eAdv 1 (eAdv 1 l)), eNum 2 (eM1 l), 0, (⟨0, 0, 0, S []⟩ : Pst), []⟩ : Ms) && decide (encM (⟨eNum 1 l, eNum 1 (eAdv 1 l), eNum 1 (eAdv 1 (eAdv 1 l)), eNum 2 (eM1 l), 0, (⟨0, 0, 0, S []⟩ : Pst), []⟩ : Ms) = l)) = ok) :
    Calls Tryz.prog 22 #[.string (S l)] w fun e w' => e = .returned (if ok then .tuple #[.agg #[.int .i64 (eNum 1 l), .int .i64 (eNum 1 (eAdv 1 l)), .int .i64 (eNum 1 (eAdv 1 (eAdv 1 l))), .int .i64 (eNum 2 (eM1 l)), .int .i64 (0), .int .i64 0, .int .i64 0, .int .i64 0, .string (S []), .slice none 0 0], .int .i64 0] else .tuple #[.agg #[.int .i64 0, .int .i64 0, .int .i64 0, .int .i64 0, .int .i64 0, .int .i64 0, .int .i64 0, .int .i64 0, .string (S []), .slice none 0 0], .int .i64 2]) ∧ Below w.heap.size w w' := by
  have l1 := eAdv_len 1 l
  have l2 := eAdv_len 1 (eAdv 1 l)
  have l3 := eAdv_len 1 (eAdv 1 (eAdv 1 l))
  have l3' : (eM1 l).length ≤ (eAdv 1 (eAdv 1 l)).length := l3
  have l4 := eAdv_len 2 (eM1 l)
  have hn5 : (eNum 1 l != 5) = true := by simp only [bne, h5]; rfl
  go_enter Tryz.func22, Tryz.ntmps22
  go_wp2_with fail
  have hr0 : EyeAt _ (w.heap.size + 1) l := EyeAt.alloc (by have := blk_new (w.alloc (.cells #[.int .i64 0, .int .i64 0, .int .i64 0, .int .i64 0, .int .i64 0, .int .i64 0, .int .i64 0, .int .i64 0, .string ⟨#[]⟩, .slice none 0 0] 36)) (.cells #[.string (S l)] 105); simp only [World.size_alloc] at this; exact this) (.cells #[.int .i64 0, .int .i64 0, .int .i64 0, .int .i64 0, .int .i64 0, .int .i64 0, .int .i64 0, .int .i64 0, .string ⟨#[]⟩, .slice none 0 0] 36)
  refine (enumber_any (w.heap.size + 1) 1 l _ hr0 hl (.inl rfl)).mono ?_
  rintro e w1 ⟨rfl, hr1, hk1⟩
  have hm1 := blk_kp hk1 (blk_new _ _) (by simp)
  have hq1 := blk_kp hk1 (blk_alloc (blk_alloc (blk_new _ _) _) _) (by simp)
  simp only [World.size_alloc] at hm1
  have hB1 : Below w.heap.size w w1 := ((((Below.refl _ w).alloc (Nat.le_refl _) _).alloc (by simp) _).alloc (by simp; omega) _).trans (hk1.toBelow (by simp; omega) (fun k e => by injection e with e; omega))
  have hz1 : w.heap.size + 3 ≤ w1.heap.size := by have := hk1.size; simpa using this
  clear hk1 hr0
  have hc := blk_cell hm1
  have hf := blk_free hm1
  go_wp2_with fail
  clear hc hf
  have M0 := blk_set hm1 0 (.int .i64 (eNum 1 l))
  have Q0 := blk_set_other hq1 (a := ⟨w.heap.size + 2, 0, none⟩) (by simp) (.int .i64 (eNum 1 l))
  have R0 := EyeAt.set hr1 (a := ⟨w.heap.size + 2, 0, none⟩) (by simp) (.int .i64 (eNum 1 l))
  have B0 := Below.setCell hB1 (p := ⟨w.heap.size + 2, 0, none⟩) (by simp) (.int .i64 (eNum 1 l))
  refine (enumber_any (w.heap.size + 1) 1 (eAdv 1 l) _ R0 (by omega) (.inl rfl)).mono ?_
  rintro e w2 ⟨rfl, hr2, hk2⟩
  have hB2 := B0.trans (hk2.toBelow (B := w.heap.size) (by simp [World.setCell]; omega) (fun k e => by injection e with e; omega))
  have hz2 : w.heap.size + 3 ≤ w2.heap.size := by have := hk2.size; simp [World.setCell] at this; omega
  have hm2 := blk_kp hk2 M0 (by simp)
  have hq2 := blk_kp hk2 Q0 (by simp)
  clear hk2 hm1 hq1 hr1 hB1 M0 Q0 R0 B0
  have hc := blk_cell hm2
  have hf := blk_free hm2
  go_wp2_with fail
  clear hc hf
  have M0 := blk_set hm2 1 (.int .i64 (eNum 1 (eAdv 1 l)))
  have Q0 := blk_set_other hq2 (a := ⟨w.heap.size + 2, 1, none⟩) (by simp) (.int .i64 (eNum 1 (eAdv 1 l)))
  have R0 := EyeAt.set hr2 (a := ⟨w.heap.size + 2, 1, none⟩) (by simp) (.int .i64 (eNum 1 (eAdv 1 l)))
  have B0 := Below.setCell hB2 (p := ⟨w.heap.size + 2, 1, none⟩) (by simp) (.int .i64 (eNum 1 (eAdv 1 l)))
  refine (enumber_any (w.heap.size + 1) 1 (eAdv 1 (eAdv 1 l)) _ R0 (by omega) (.inl rfl)).mono ?_
  rintro e w3 ⟨rfl, hr3, hk3⟩
  have hB3 := B0.trans (hk3.toBelow (B := w.heap.size) (by simp [World.setCell]; omega) (fun k e => by injection e with e; omega))
  have hz3 : w.heap.size + 3 ≤ w3.heap.size := by have := hk3.size; simp [World.setCell] at this; omega
  have hm3 := blk_kp hk3 M0 (by simp)
  have hq3 := blk_kp hk3 Q0 (by simp)
  clear hk3 hm2 hq2 hr2 hB2 M0 Q0 R0 B0
  have hc := blk_cell hm3
  have hf := blk_free hm3
  go_wp2_with fail
  clear hc hf
  have M0 := blk_set hm3 2 (.int .i64 (eNum 1 (eAdv 1 (eAdv 1 l))))
  have Q0 := blk_set_other hq3 (a := ⟨w.heap.size + 2, 2, none⟩) (by simp) (.int .i64 (eNum 1 (eAdv 1 (eAdv 1 l))))
  have R0 := EyeAt.set hr3 (a := ⟨w.heap.size + 2, 2, none⟩) (by simp) (.int .i64 (eNum 1 (eAdv 1 (eAdv 1 l))))
  have B0 := Below.setCell hB3 (p := ⟨w.heap.size + 2, 2, none⟩) (by simp) (.int .i64 (eNum 1 (eAdv 1 (eAdv 1 l))))
  refine (enumber_any (w.heap.size + 1) 2 (eM1 l) _ R0 (by omega) (.inr rfl)).mono ?_
  rintro e w4 ⟨rfl, hr4, hk4⟩
  have hB4 := B0.trans (hk4.toBelow (B := w.heap.size) (by simp [World.setCell]; omega) (fun k e => by injection e with e; omega))
  have hz4 : w.heap.size + 3 ≤ w4.heap.size := by have := hk4.size; simp [World.setCell] at this; omega
  have hm4 := blk_kp hk4 M0 (by simp)
  have hq4 := blk_kp hk4 Q0 (by simp)
  clear hk4 hm3 hq3 hr3 hB3 M0 Q0 R0 B0
  have hc := blk_cell hm4
  have hf := blk_free hm4
  go_wp2_with fail
  clear hc hf
  have M0 := blk_set hm4 3 (.int .i64 (eNum 2 (eM1 l)))
  have Q0 := blk_set_other hq4 (a := ⟨w.heap.size + 2, 3, none⟩) (by simp) (.int .i64 (eNum 2 (eM1 l)))
  have R0 := EyeAt.set hr4 (a := ⟨w.heap.size + 2, 3, none⟩) (by simp) (.int .i64 (eNum 2 (eM1 l)))
  have B0 := Below.setCell hB4 (p := ⟨w.heap.size + 2, 3, none⟩) (by simp) (.int .i64 (eNum 2 (eM1 l)))
  have hP := fun W => rpack_any (⟨eNum 1 l, eNum 1 (eAdv 1 l), eNum 1 (eAdv 1 (eAdv 1 l)), eNum 2 (eM1 l), 0, (⟨0, 0, 0, S []⟩ : Pst), []⟩ : Ms) (.slice none 0 0) W (rvat_nil W)
  dsimp only at hP
  generalize hrb : rmB (⟨eNum 1 l, eNum 1 (eAdv 1 l), eNum 1 (eAdv 1 (eAdv 1 l)), eNum 2 (eM1 l), 0, (⟨0, 0, 0, S []⟩ : Pst), []⟩ : Ms) = rb at *
  generalize heb : encM (⟨eNum 1 l, eNum 1 (eAdv 1 l), eNum 1 (eAdv 1 (eAdv 1 l)), eNum 2 (eM1 l), 0, (⟨0, 0, 0, S []⟩ : Pst), []⟩ : Ms) = eb at *
  have HRB := hide hrb
  have HEB := hide heb
  clear hrb heb
  refine (hP _).mono ?_
  rintro e w5 ⟨rfl, hb5⟩
  clear hP
  have hm5 := blk_below hb5 M0
  have hq5 := blk_below hb5 Q0
  have hB5 := B0.trans (hb5.mono (by simp [World.setCell]; omega))
  have hc := blk_cell hm5
  have hqc := blk_cell hq5
  have hqf := blk_free hq5
  cases rb
  · obtain rfl : false = ok := by simpa using hok
    clear hok
    go_wp2
    refine bodyPost_ret (v := .tuple #[.agg #[.int .i64 0, .int .i64 0, .int .i64 0, .int .i64 0, .int .i64 0, .int .i64 0, .int .i64 0, .int .i64 0, .string (S []), .slice none 0 0], .int .i64 2]) (by simp [results, Tryz.results22, go_sem, hqc, S]) rfl ⟨rfl, ?_⟩
    iterate 10 refine Below.setCell ?_ (by simp) _
    exact hB5
  · by_cases hel : eb = l
    · obtain rfl : true = ok := by simpa [hel] using hok
      clear hok
      have hel' : l = eb := hel.symm
      clear hel
      subst hel'
      go_wp2
      refine bodyPost_ret (v := .tuple #[.agg #[.int .i64 (eNum 1 l), .int .i64 (eNum 1 (eAdv 1 l)), .int .i64 (eNum 1 (eAdv 1 (eAdv 1 l))), .int .i64 (eNum 2 (eM1 l)), .int .i64 (0), .int .i64 0, .int .i64 0, .int .i64 0, .string (S []), .slice none 0 0], .int .i64 0]) (by simp [results, Tryz.results22, go_sem, hqc, S]) rfl ⟨rfl, ?_⟩
      iterate 10 refine Below.setCell ?_ (by simp) _
      exact hB5
    · obtain rfl : false = ok := by simpa [hel] using hok
      clear hok
      have hne : ((S eb).toList == (S l).toList) = false := by rw [S_toList, S_toList]; simpa using hel
      have hne' : ¬ (S eb).toList = (S l).toList := by rw [S_toList, S_toList]; exact hel
      go_wp2
      refine bodyPost_ret (v := .tuple #[.agg #[.int .i64 0, .int .i64 0, .int .i64 0, .int .i64 0, .int .i64 0, .int .i64 0, .int .i64 0, .int .i64 0, .string (S []), .slice none 0 0], .int .i64 2]) (by simp [results, Tryz.results22, go_sem, hqc, S]) rfl ⟨rfl, ?_⟩
      iterate 10 refine Below.setCell ?_ (by simp) _
      exact hB5
end Go.Proofs.YtnnhnekfokbooaaGreatDoor
