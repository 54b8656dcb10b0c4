/- The walk of the document's Unpack, for a promise (laid by mkref4.py). -/
import Derived.Test.YtnnhnekfokbooaaGreatDoorRefG
import Derived.Test.YtnnhnekfokbooaaGreatDoorRefL
import Derived.Test.YtnnhnekfokbooaaGreatDoorRefV
namespace Go.Proofs.YtnnhnekfokbooaaGreatDoor
open Go.RowKit
set_option linter.unusedSimpArgs false
set_option linter.unusedVariables false

theorem eVtsAft_len (k : Nat) (l : List UInt8) : (eVtsAft k l).length ≤ l.length := by
  induction k with
  | zero => exact Nat.le_refl _
  | succ k ih =>
    have h1 : (eVoteAft (eVtsAft k l)).length ≤ (eVtsAft k l).length := by
      unfold eVoteAft
      have a1 := eAdv_len 1 (eVtsAft k l)
      have a2 := eAdv_len 2 (eAdv 1 (eVtsAft k l))
      have a3 : (eAft (eAdv 2 (eAdv 1 (eVtsAft k l)))).length ≤ (eAdv 2 (eAdv 1 (eVtsAft k l))).length := by
        generalize eAdv 2 (eAdv 1 (eVtsAft k l)) = q
        unfold eAft
        split
        · exact eAdv_len 1 q
        · have b1 := eAdv_len 1 q
          have b2 := eAdv_len 2 (eAdv 1 q)
          have b3 := eAdv_len 1 (eAdv 2 (eAdv 1 q))
          have b4 := eAdv_len 1 (eAdv 1 (eAdv 2 (eAdv 1 q)))
          rw [List.length_drop]
          unfold eTxt
          omega
      omega
    exact Nat.le_trans h1 ih

set_option maxHeartbeats 8000000 in
set_option maxRecDepth 100000 in
theorem runp_b (l : List UInt8) (w : World) (hl : l.length ≤ 9223372036854775807) (h5 : (eNum 1 l == 5) = false) (h3 : (eNum 1 l == 3) = false) (h4 : (eNum 1 l == 4) = false) (h2 : (eNum 1 l == 2) = true) (n : Nat) (hn : eNum 1 (eAdv 2 (eM1 l)) = n) (s1 : List UInt8) (hs1 : eAdv 1 (eAdv 2 (eM1 l)) = s1) (ok : Bool) (hok : (rmB (⟨eNum 1 l, eNum 1 (eAdv 1 l), eNum 1 (eAdv 1 (eAdv 1 l)), eNum 2 (eM1 l), 0, (⟨0, 0, 0, S []⟩ : Pst), eVts n (s1)⟩ : Ms) && decide (encM (⟨eNum 1 l, eNum 1 (eAdv 1 l), eNum 1 (eAdv 1 (eAdv 1 l)), eNum 2 (eM1 l), 0, (⟨0, 0, 0, S []⟩ : Pst), eVts n (s1)⟩ : Ms) = l)) = ok) :
    Calls Tryz.prog 22 #[.string (S l)] w fun e w' => (ok = true → ∃ v, e = .returned (.tuple #[.agg #[.int .i64 (eNum 1 l), .int .i64 (eNum 1 (eAdv 1 l)), .int .i64 (eNum 1 (eAdv 1 (eAdv 1 l))), .int .i64 (eNum 2 (eM1 l)), .int .i64 0, .int .i64 0, .int .i64 0, .int .i64 0, .string ⟨#[]⟩, v], .int .i64 0]) ∧ VAt w' v (eVts n (s1))) ∧ (ok = false → e = .returned (.tuple #[.agg #[.int .i64 0, .int .i64 0, .int .i64 0, .int .i64 0, .int .i64 0, .int .i64 0, .int .i64 0, .int .i64 0, .string (S []), .slice none 0 0], .int .i64 2])) ∧ Below w.heap.size w w' := by
  obtain ⟨i0, hi, hz0, hzz1, hzz2⟩ := info_parts Tryz.infoVote
  have HOK := hide hok
  clear hok
  have hn255 := eNum_one (eAdv 2 (eM1 l))
  have l5 := eAdv_len 1 (eAdv 2 (eM1 l))
  have l1 := eAdv_len 1 l
  have l2 := eAdv_len 1 (eAdv 1 l)
  have l3 := eAdv_len 1 (eAdv 1 (eAdv 1 l))
  have l3' : (eM1 l).length ≤ (eAdv 1 (eAdv 1 l)).length := l3
  have l4 := eAdv_len 2 (eM1 l)
  have hn5 : (eNum 1 l != 5) = true := by simp only [bne, h5]; rfl
  go_enter Tryz.func22, Tryz.ntmps22
  go_wp2_with fail
  have hr0 : EyeAt _ (w.heap.size + 1) l := EyeAt.alloc (by have := blk_new (w.alloc (.cells #[.int .i64 0, .int .i64 0, .int .i64 0, .int .i64 0, .int .i64 0, .int .i64 0, .int .i64 0, .int .i64 0, .string ⟨#[]⟩, .slice none 0 0] 36)) (.cells #[.string (S l)] 105); simp only [World.size_alloc] at this; exact this) (.cells #[.int .i64 0, .int .i64 0, .int .i64 0, .int .i64 0, .int .i64 0, .int .i64 0, .int .i64 0, .int .i64 0, .string ⟨#[]⟩, .slice none 0 0] 36)
  refine (enumber_any (w.heap.size + 1) 1 l _ hr0 hl (.inl rfl)).mono ?_
  rintro e w1 ⟨rfl, hr1, hk1⟩
  have hm1 := blk_kp hk1 (blk_new _ _) (by simp)
  have hq1 := blk_kp hk1 (blk_alloc (blk_alloc (blk_new _ _) _) _) (by simp)
  simp only [World.size_alloc] at hm1
  have hB1 : Below w.heap.size w w1 := ((((Below.refl _ w).alloc (Nat.le_refl _) _).alloc (by simp) _).alloc (by simp; omega) _).trans (hk1.toBelow (by simp; omega) (fun k e => by injection e with e; omega))
  have hz1 : w.heap.size + 3 ≤ w1.heap.size := by have := hk1.size; simpa using this
  clear hk1 hr0
  have hc := blk_cell hm1
  have hf := blk_free hm1
  go_wp2_with fail
  clear hc hf
  have M0 := blk_set hm1 0 (.int .i64 (eNum 1 l))
  have Q0 := blk_set_other hq1 (a := ⟨w.heap.size + 2, 0, none⟩) (by simp) (.int .i64 (eNum 1 l))
  have R0 := EyeAt.set hr1 (a := ⟨w.heap.size + 2, 0, none⟩) (by simp) (.int .i64 (eNum 1 l))
  have B0 := Below.setCell hB1 (p := ⟨w.heap.size + 2, 0, none⟩) (by simp) (.int .i64 (eNum 1 l))
  refine (enumber_any (w.heap.size + 1) 1 (eAdv 1 l) _ R0 (by omega) (.inl rfl)).mono ?_
  rintro e w2 ⟨rfl, hr2, hk2⟩
  have hB2 := B0.trans (hk2.toBelow (B := w.heap.size) (by simp [World.setCell]; omega) (fun k e => by injection e with e; omega))
  have hz2 : w.heap.size + 3 ≤ w2.heap.size := by have := hk2.size; simp [World.setCell] at this; omega
  have hm2 := blk_kp hk2 M0 (by simp)
  have hq2 := blk_kp hk2 Q0 (by simp)
  clear hk2 hm1 hq1 hr1 hB1 M0 Q0 R0 B0
  have hc := blk_cell hm2
  have hf := blk_free hm2
  go_wp2_with fail
  clear hc hf
  have M0 := blk_set hm2 1 (.int .i64 (eNum 1 (eAdv 1 l)))
  have Q0 := blk_set_other hq2 (a := ⟨w.heap.size + 2, 1, none⟩) (by simp) (.int .i64 (eNum 1 (eAdv 1 l)))
  have R0 := EyeAt.set hr2 (a := ⟨w.heap.size + 2, 1, none⟩) (by simp) (.int .i64 (eNum 1 (eAdv 1 l)))
  have B0 := Below.setCell hB2 (p := ⟨w.heap.size + 2, 1, none⟩) (by simp) (.int .i64 (eNum 1 (eAdv 1 l)))
  refine (enumber_any (w.heap.size + 1) 1 (eAdv 1 (eAdv 1 l)) _ R0 (by omega) (.inl rfl)).mono ?_
  rintro e w3 ⟨rfl, hr3, hk3⟩
  have hB3 := B0.trans (hk3.toBelow (B := w.heap.size) (by simp [World.setCell]; omega) (fun k e => by injection e with e; omega))
  have hz3 : w.heap.size + 3 ≤ w3.heap.size := by have := hk3.size; simp [World.setCell] at this; omega
  have hm3 := blk_kp hk3 M0 (by simp)
  have hq3 := blk_kp hk3 Q0 (by simp)
  clear hk3 hm2 hq2 hr2 hB2 M0 Q0 R0 B0
  have hc := blk_cell hm3
  have hf := blk_free hm3
  go_wp2_with fail
  clear hc hf
  have M0 := blk_set hm3 2 (.int .i64 (eNum 1 (eAdv 1 (eAdv 1 l))))
  have Q0 := blk_set_other hq3 (a := ⟨w.heap.size + 2, 2, none⟩) (by simp) (.int .i64 (eNum 1 (eAdv 1 (eAdv 1 l))))
  have R0 := EyeAt.set hr3 (a := ⟨w.heap.size + 2, 2, none⟩) (by simp) (.int .i64 (eNum 1 (eAdv 1 (eAdv 1 l))))
  have B0 := Below.setCell hB3 (p := ⟨w.heap.size + 2, 2, none⟩) (by simp) (.int .i64 (eNum 1 (eAdv 1 (eAdv 1 l))))
  refine (enumber_any (w.heap.size + 1) 2 (eM1 l) _ R0 (by omega) (.inr rfl)).mono ?_
  rintro e w4 ⟨rfl, hr4, hk4⟩
  have hB4 := B0.trans (hk4.toBelow (B := w.heap.size) (by simp [World.setCell]; omega) (fun k e => by injection e with e; omega))
  have hz4 : w.heap.size + 3 ≤ w4.heap.size := by have := hk4.size; simp [World.setCell] at this; omega
  have hm4 := blk_kp hk4 M0 (by simp)
  have hq4 := blk_kp hk4 Q0 (by simp)
  clear hk4 hm3 hq3 hr3 hB3 M0 Q0 R0 B0
  have hc := blk_cell hm4
  have hf := blk_free hm4
  go_wp2_with fail
  clear hc hf
  have M0 := blk_set hm4 3 (.int .i64 (eNum 2 (eM1 l)))
  have Q0 := blk_set_other hq4 (a := ⟨w.heap.size + 2, 3, none⟩) (by simp) (.int .i64 (eNum 2 (eM1 l)))
  have R0 := EyeAt.set hr4 (a := ⟨w.heap.size + 2, 3, none⟩) (by simp) (.int .i64 (eNum 2 (eM1 l)))
  have B0 := Below.setCell hB4 (p := ⟨w.heap.size + 2, 3, none⟩) (by simp) (.int .i64 (eNum 2 (eM1 l)))
  have l4' : (eAdv 2 (eM1 l)).length ≤ l.length := by omega
  have hnum := enumber_any (w.heap.size + 1) 1 (eAdv 2 (eM1 l)) _ R0 (by omega) (.inl rfl)
  rw [hn, hs1] at hnum
  rw [hn] at hn255
  rw [hs1] at l5
  clear hn hs1
  have l5' : s1.length ≤ 9223372036854775807 := by omega
  refine hnum.mono ?_
  rintro e w5 ⟨rfl, hr5, hk5⟩
  clear hnum
  have hB5 := B0.trans (hk5.toBelow (B := w.heap.size) (by simp [World.setCell]; omega) (fun k e => by injection e with e; omega))
  have hz5 : w.heap.size + 3 ≤ w5.heap.size := by have := hk5.size; simp [World.setCell] at this; omega
  have hm5 := blk_kp hk5 M0 (by simp)
  have hq5 := blk_kp hk5 Q0 (by simp)
  clear hk5 hm4 hq4 hr4 hB4 M0 Q0 R0 B0
  go_wp2_with fail
  go_loopw [7] (fun i wr => ∃ (k : Nat) (v : Value), k ≤ n ∧ i = .int .i64 k ∧ wr.ownsRow (w.heap.size + 3) 53 6 v k (vcells (eVts k s1)) ∧ EyeAt wr (w.heap.size + 1) (eVtsAft k s1)
      ∧ wr.heap[w.heap.size + 2]? = some (.cells #[.int .i64 (eNum 1 l), .int .i64 (eNum 1 (eAdv 1 l)), .int .i64 (eNum 1 (eAdv 1 (eAdv 1 l))), .int .i64 (eNum 2 (eM1 l)), .int .i64 0, .int .i64 0, .int .i64 0, .int .i64 0, .string ⟨#[]⟩, v] 36 (0, 0)) ∧ wr.heap[w.heap.size]? = some (.cells #[.int .i64 0, .int .i64 0, .int .i64 0, .int .i64 0, .int .i64 0, .int .i64 0, .int .i64 0, .int .i64 0, .string ⟨#[]⟩, .slice none 0 0] 36 (0, 0))
      ∧ Below w.heap.size w wr ∧ w.heap.size + 3 ≤ wr.heap.size) (fun i _ => n - (intOf i).toNat)
  case atStart => exact ⟨0, .slice none 0 0, Nat.zero_le _, rfl, World.ownsRow_nil _ _ _ _, hr5, hm5, hq5, hB5, hz5⟩
  case round =>
    obtain ⟨k, v, hk, rfl, hown, hrr, hmr, hqr, hBr, hzr⟩ := hrel
    obtain ⟨va, vn, vc, rfl⟩ := owns_slice hown
    clear hm5 hq5 hr5 hB5 hz5
    by_cases hlt : k < n
    · have hg := fun g hb => hown.lt g hb
      have l0 := eVtsAft_len k s1
      have k1 := eAdv_len 1 (eVtsAft k s1)
      have k2 := eAdv_len 2 (eAdv 1 (eVtsAft k s1))
      have E1 : Hid (eVts (k + 1) s1 = eVts k s1 ++ [eVote (eVtsAft k s1)]) := rfl
      have E2 : Hid (eVtsAft (k + 1) s1 = eAft (eAdv 2 (eAdv 1 (eVtsAft k s1)))) := rfl
      have E3 : Hid (eVote (eVtsAft k s1) = ⟨eNum 1 (eVtsAft k s1), eNum 2 (eAdv 1 (eVtsAft k s1)), ePost (eAdv 2 (eAdv 1 (eVtsAft k s1)))⟩) := rfl
      go_wp2_with fail
      refine (enumber_any (w.heap.size + 1) 1 (eVtsAft k s1) _ (hrr.alloc _) (by omega) (.inl rfl)).mono ?_
      rintro e w1 ⟨rfl, hr1, hk1⟩
      have K1 := Keeps.trans (Keeps.ofAlloc (P := fun b => b = w.heap.size + 1 ∨ wr.heap.size ≤ b) wr _) ((Keeps.ofKp hk1).mono (fun b _ hb => .inl (by simpa using hb.symm)))
      have hp1 := blk_kp hk1 (blk_new _ _) (by simp; omega)
      have hc := blk_cell hp1
      have hf := blk_free hp1
      clear hk1
      go_wp2_with fail
      clear hc hf
      have hp1' := blk_set hp1 0 (.int .i64 (eNum 1 (eVtsAft k s1)))
      have K1' := K1.trans (Keeps.ofSet (a := ⟨wr.heap.size, 0, none⟩) (.inl (.inr (Nat.le_refl _))) (.int .i64 (eNum 1 (eVtsAft k s1))))
      refine (enumber_any (w.heap.size + 1) 2 (eAdv 1 (eVtsAft k s1)) _ (hr1.set (by simp; omega) _) (by omega) (.inr rfl)).mono ?_
      rintro e w2 ⟨rfl, hr2, hk2⟩
      have K2 := K1'.trans ((Keeps.ofKp hk2).mono (fun b _ hb => .inl (by simpa using hb.symm)))
      have hp2 := blk_kp hk2 hp1' (by simp; omega)
      clear hk2 hp1' hp1 hr1 K1 K1'
      have hc := blk_cell hp2
      have hf := blk_free hp2
      go_wp2_with fail
      clear hc hf
      have hp2' := blk_set hp2 1 (.int .i64 (eNum 2 (eAdv 1 (eVtsAft k s1))))
      have K2' := K2.trans (Keeps.ofSet (a := ⟨wr.heap.size, 1, none⟩) (.inl (.inr (Nat.le_refl _))) (.int .i64 (eNum 2 (eAdv 1 (eVtsAft k s1)))))
      refine (epost_any (w.heap.size + 1) (eAdv 2 (eAdv 1 (eVtsAft k s1))) _ (hr2.set (by simp; omega) _) (by omega)).mono ?_
      rintro e w3 ⟨rfl, hr3, hk3⟩
      have K3 := K2'.trans ((Keeps.ofKp hk3).mono (fun b _ hb => .inl (by simpa using hb.symm)))
      have hp3 := blk_kp hk3 hp2' (by simp; omega)
      have hsz3 := lt_of_block hp3
      clear hk3 hp2' hp2 hr2 K2 K2'
      have hm3 := blk_keeps K3 hmr (by omega)
      have hq3 := blk_keeps K3 hqr (by omega)
      have ho3 := owns_keeps hown K3 (fun g hb => by have := hg g hb; omega)
      have hc := blk_cell hp3
      have hf := blk_free hp3
      have hmc := blk_cell hm3
      have hw3 := K3.size
      go_wp2_with (at_builtin; refine wpList_append_lies _ rfl (.tmp 76) (.tmp 78) 34 rfl (w.heap.size + 3) 53 i0 _ 6 56 Tryz.underlying34 hi hz0 hzz1 hzz2 rfl (by decide) _ k (vcells (eVts k s1)) rfl ?_ _ 1 1 (eVote (eVtsAft k s1)).cells rfl rfl ?_ ?_ (by decide) ?_ ?_ ?_ _ rfl ?_)
      · refine owns_alloc ?_ _
        iterate 4 refine owns_set ?_ (fun e => by have := (hg _ e).2; simp at this) _
        exact ho3
      · exact news_new _ _ (by simp) _ _
      · intro u hu
        rw [E3.out] at hu
        simp [Vt.cells] at hu
        rcases hu with rfl | rfl | rfl | rfl | rfl | rfl <;> rfl
      · unfold maxLen; omega
      · omega
      · simp; omega
      · intro g cap w4 hown4 hgrow hat hlt4
        have hne2 : ∀ b, b < w.heap.size + 3 → (Value.slice va vn vc).ownBlock ≠ some b := fun b hb e => by have := (hg _ e).1; omega
        have hm4 : w4.heap[w.heap.size + 2]? = some (.cells #[.int .i64 (eNum 1 l), .int .i64 (eNum 1 (eAdv 1 l)), .int .i64 (eNum 1 (eAdv 1 (eAdv 1 l))), .int .i64 (eNum 2 (eM1 l)), .int .i64 0, .int .i64 0, .int .i64 0, .int .i64 0, .string ⟨#[]⟩, .slice va vn vc] 36 (0, 0)) := by
          refine blk_grown hgrow (blk_alloc ?_ _) (hne2 _ (by omega))
          iterate 4 refine blk_set_other ?_ (by simp; omega) _
          exact hm3
        have hq4 : w4.heap[w.heap.size]? = some (.cells #[.int .i64 0, .int .i64 0, .int .i64 0, .int .i64 0, .int .i64 0, .int .i64 0, .int .i64 0, .int .i64 0, .string ⟨#[]⟩, .slice none 0 0] 36 (0, 0)) := by
          refine blk_grown hgrow (blk_alloc ?_ _) (hne2 _ (by omega))
          iterate 4 refine blk_set_other ?_ (by simp; omega) _
          exact hq3
        have hr4 : EyeAt w4 (w.heap.size + 1) (eVtsAft (k + 1) s1) := by
          rw [E2.out]
          refine blk_grown hgrow (blk_alloc ?_ _) (hne2 _ (by omega))
          iterate 4 refine blk_set_other ?_ (by simp; omega) _
          exact hr3
        have hB4 : Below w.heap.size w w4 := by
          have X1 := hBr.trans (Below.mono (⟨K3.os, K3.tape, K3.output, K3.size, fun b hb => K3.block b (by omega) (by omega)⟩ : Below w.heap.size wr w3) (Nat.le_refl _))
          have X2 := ((((X1.setCell (p := ⟨wr.heap.size, 2, none⟩) (by simp; omega) (.int .i64 (ePost (eAdv 2 (eAdv 1 (eVtsAft k s1)))).c)).setCell (p := ⟨wr.heap.size, 3, none⟩) (by simp; omega) (.int .i64 (ePost (eAdv 2 (eAdv 1 (eVtsAft k s1)))).q)).setCell (p := ⟨wr.heap.size, 4, none⟩) (by simp; omega) (.int .i64 (ePost (eAdv 2 (eAdv 1 (eVtsAft k s1)))).h)).setCell (p := ⟨wr.heap.size, 5, none⟩) (by simp; omega) (.string (ePost (eAdv 2 (eAdv 1 (eVtsAft k s1)))).t))
          have X3 := X2.alloc (by simp; omega) (.cells #[.int .i64 (eNum 1 (eVtsAft k s1)), .int .i64 (eNum 2 (eAdv 1 (eVtsAft k s1))), .int .i64 (ePost (eAdv 2 (eAdv 1 (eVtsAft k s1)))).c, .int .i64 (ePost (eAdv 2 (eAdv 1 (eVtsAft k s1)))).q, .int .i64 (ePost (eAdv 2 (eAdv 1 (eVtsAft k s1)))).h, .string (ePost (eAdv 2 (eAdv 1 (eVtsAft k s1)))).t] 53)
          refine ⟨hgrow.os.trans X3.os, hgrow.tape.trans X3.tape, hgrow.output.trans X3.output, Nat.le_trans X3.size hgrow.size, fun b hb => ?_⟩
          rw [hgrow.block b (Nat.lt_of_lt_of_le (Nat.lt_of_lt_of_le hb (Nat.le_refl _)) X3.size) (fun e => hne2 b (by omega) e.symm)]
          exact X3.block b hb
        have hown5 : w4.ownsRow (w.heap.size + 3) 53 6 (.slice (some ⟨g, 0, none⟩) (k + 1) cap) (k + 1) (vcells (eVts (k + 1) s1)) := by
          rw [E1.out, vcells_append]; simpa [vcells] using hown4
        have hs4 : w.heap.size + 3 ≤ w4.heap.size := by have := hgrow.size; simp [World.setCell] at this; omega
        clear hgrow hown4 hat hlt4 hr3 ho3 hp3 hm3 hq3 hown hrr hmr hqr hBr K3 hc hf hmc
        have hmc := blk_cell hm4
        have hmf := blk_free hm4
        go_wp2
        go_roundw
        case rel =>
          refine ⟨k + 1, _, by omega, by go_num, owns_set hown5 (fun e => by have := (hown5.lt _ e).1; simp at this <;> omega) _, hr4.set (by simp) _, blk_set hm4 9 _, blk_set_other hq4 (by simp <;> omega) _, hB4.setCell (by simp <;> omega) _, by simpa [World.setCell] using hs4⟩
        case measure => simp [intOf]; omega
    · obtain rfl : k = n := by omega
      have hvat : VAt wr (.slice va vn vc) (eVts k s1) := owns_vat (by rw [eVts_length]; exact hown) (by rw [eVts_length]; omega)
      have hvn : ∀ g, (Value.slice va vn vc).ownBlock = some g → w.heap.size + 3 ≤ g := fun g e => (hown.lt g e).1
      have hP := rpack_any (⟨eNum 1 l, eNum 1 (eAdv 1 l), eNum 1 (eAdv 1 (eAdv 1 l)), eNum 2 (eM1 l), 0, (⟨0, 0, 0, S []⟩ : Pst), eVts k (s1)⟩ : Ms) (.slice va vn vc) wr hvat
      dsimp only at hP
      have hmc := blk_cell hmr
      generalize hrb : rmB (⟨eNum 1 l, eNum 1 (eAdv 1 l), eNum 1 (eAdv 1 (eAdv 1 l)), eNum 2 (eM1 l), 0, (⟨0, 0, 0, S []⟩ : Pst), eVts k (s1)⟩ : Ms) = rb at *
      generalize heb : encM (⟨eNum 1 l, eNum 1 (eAdv 1 l), eNum 1 (eAdv 1 (eAdv 1 l)), eNum 2 (eM1 l), 0, (⟨0, 0, 0, S []⟩ : Pst), eVts k (s1)⟩ : Ms) = eb at *
      have HRB := hide hrb
      have HEB := hide heb
      clear hrb heb hown hrr
      have hok := unhide HOK
      clear HOK HRB HEB
      go_wp2_with fail
      refine hP.mono ?_
      rintro e w6 ⟨rfl, hb6⟩
      clear hP
      have hm6 := blk_below hb6 hmr
      have hq6 := blk_below hb6 hqr
      have hv6 := hvat.below hb6
      have hB6 := hBr.trans (hb6.mono (by omega))
      have hc := blk_cell hm6
      have hqc := blk_cell hq6
      have hqf := blk_free hq6
      clear hmr hqr hmc hvat
      cases rb
      · have HO : Hid (ok = false) := show ok = false from (by simpa using hok.symm)
        clear hok
        go_wp2
        refine bodyPost_ret (v := .tuple #[.agg #[.int .i64 0, .int .i64 0, .int .i64 0, .int .i64 0, .int .i64 0, .int .i64 0, .int .i64 0, .int .i64 0, .string (S []), .slice none 0 0], .int .i64 2]) (by simp [results, Tryz.results22, go_sem, hqc, S]) rfl ⟨fun h => (by rw [unhide HO] at h; cases h), fun _ => rfl, ?_⟩
        iterate 10 refine Below.setCell ?_ (by simp) _
        exact hB6
      · by_cases hel : eb = l
        · have HO : Hid (ok = true) := show ok = true from (by simpa [hel] using hok.symm)
          clear hok
          have hel' : l = eb := hel.symm
          clear hel
          subst hel'
          go_wp2
          refine bodyPost_ret (v := .tuple #[.agg #[.int .i64 (eNum 1 l), .int .i64 (eNum 1 (eAdv 1 l)), .int .i64 (eNum 1 (eAdv 1 (eAdv 1 l))), .int .i64 (eNum 2 (eM1 l)), .int .i64 0, .int .i64 0, .int .i64 0, .int .i64 0, .string ⟨#[]⟩, .slice va vn vc], .int .i64 0]) (by simp [results, Tryz.results22, go_sem, hqc, S]) rfl ⟨fun _ => ⟨_, rfl, ?_⟩, fun h => (by rw [unhide HO] at h; cases h), ?_⟩
          · refine hv6.kp (o := some w.heap.size) (o' := some w.heap.size) ?_ (fun g e => by have := hvn g e; intro x; injection x with x; omega)
            iterate 10 refine Kp.setR ?_ _ _
            exact Kp.refl _ _
          · iterate 10 refine Below.setCell ?_ (by simp) _
            exact hB6
        · have HO : Hid (ok = false) := show ok = false from (by simpa [hel] using hok.symm)
          clear hok
          have hne : ((S eb).toList == (S l).toList) = false := by rw [S_toList, S_toList]; simpa using hel
          have hne' : ¬ (S eb).toList = (S l).toList := by rw [S_toList, S_toList]; exact hel
          go_wp2
          refine bodyPost_ret (v := .tuple #[.agg #[.int .i64 0, .int .i64 0, .int .i64 0, .int .i64 0, .int .i64 0, .int .i64 0, .int .i64 0, .int .i64 0, .string (S []), .slice none 0 0], .int .i64 2]) (by simp [results, Tryz.results22, go_sem, hqc, S]) rfl ⟨fun h => (by rw [unhide HO] at h; cases h), fun _ => rfl, ?_⟩
          iterate 10 refine Below.setCell ?_ (by simp) _
          exact hB6
end Go.Proofs.YtnnhnekfokbooaaGreatDoor
