/- The walks of the document's answer: bytes that are read (Eye). -/
import Derived.Test.YtnnhnekfokbooaaGreatDoorRefB
namespace Go.Proofs.YtnnhnekfokbooaaGreatDoor
open Go.RowKit
set_option linter.unusedSimpArgs false
set_option linter.unusedVariables false

/-- The eye's block: what is left. -/
def EyeAt (w : World) (r : Nat) (l : List UInt8) : Prop := w.heap[r]? = some (.cells #[.string (S l)] 105 (0, 0))
/-- What is not there is 0. -/
def eNum (k : Nat) (l : List UInt8) : Int := if l.length < k then 0 else numOf (l.take k)
def eAdv (k : Nat) (l : List UInt8) : List UInt8 := if l.length < k then [] else l.drop k

theorem S_get (l : List UInt8) (k : Nat) (hk : k < (S l).size) : (S l)[k]'hk = l[k]'(by rw [S_size] at hk; exact hk) := by
  simp [S, ByteArray.getElem_eq_getElem_data]

set_option maxHeartbeats 1000000 in
theorem enumber_short (r : Nat) (k : Nat) (l : List UInt8) (w : World) (hr : EyeAt w r l) (hl : l.length ≤ 9223372036854775807) (hk : k ≤ 2) (h : l.length < k) :
    Calls Tryz.prog 54 #[.pointer (some ⟨r, 0, none⟩), .int .i64 k] w fun e w' => e = .returned (.int .i64 0) ∧ EyeAt w' r [] ∧ Kp (some r) (some r) w w' := by
  have c0 : w.cell? ⟨r, 0, none⟩ = some (.string (S l)) := by rw [blk_cell hr]; rfl
  have f0 := blk_free hr 0
  have hs : ((S l).size : Int) = l.length := by rw [S_size]
  have hs' : (S l).size = l.length := S_size l
  go_enter Tryz.func54, Tryz.ntmps54
  go_wp2
  go_ret
  exact ⟨rfl, by have := blk_set hr 0 (.string ⟨#[]⟩); simpa [EyeAt, S] using this, (Kp.refl _ _).setR _ _⟩

set_option maxHeartbeats 1000000 in
theorem enumber_one (r : Nat) (a : UInt8) (l : List UInt8) (w : World) (hr : EyeAt w r (a :: l)) (hl : (a :: l).length ≤ 9223372036854775807) :
    Calls Tryz.prog 54 #[.pointer (some ⟨r, 0, none⟩), .int .i64 1] w fun e w' => e = .returned (.int .i64 (a.toNat : Int)) ∧ EyeAt w' r l ∧ Kp (some r) (some r) w w' := by
  have c0 : w.cell? ⟨r, 0, none⟩ = some (.string (S (a :: l))) := by rw [blk_cell hr]; rfl
  have f0 := blk_free hr 0
  have hs : ((S (a :: l)).size : Int) = (l.length : Int) + 1 := by rw [S_size]; simp
  have hs' : (S (a :: l)).size = l.length + 1 := by rw [S_size]; simp
  have hab := byte_lt a
  go_enter Tryz.func54, Tryz.ntmps54
  go_wp2_with fail
  refine wp_loop_rounds 2 ?_
  rw [rounds_succ]
  go_wp2
  rw [rounds_succ]
  go_wp2
  go_ret
  refine ⟨?_, ?_, (Kp.refl _ _).setR _ _⟩
  · have e := S_get (a :: l) 0 (by rw [S_size]; simp)
    simp only [List.getElem_cons_zero] at e
    have e2 : wrap64 (wrap64 (((S (a :: l))[0]'(by rw [S_size]; simp)).toNat : Int)) = (a.toNat : Int) := by
      rw [e, wrap64_of (a.toNat : Int) (by omega) (by omega), wrap64_of (a.toNat : Int) (by omega) (by omega)]
    exact congrArg (fun n => Ending.returned (.int .i64 n)) e2
  · have := blk_set hr 0 (.string ((S (a :: l)).extract 1 (l.length + 1)))
    simpa [EyeAt, S_extract] using this

set_option maxHeartbeats 1000000 in
theorem enumber_two (r : Nat) (a b : UInt8) (l : List UInt8) (w : World) (hr : EyeAt w r (a :: b :: l)) (hl : (a :: b :: l).length ≤ 9223372036854775807) :
    Calls Tryz.prog 54 #[.pointer (some ⟨r, 0, none⟩), .int .i64 2] w fun e w' => e = .returned (.int .i64 ((a.toNat : Int) + 256 * (b.toNat : Int))) ∧ EyeAt w' r l ∧ Kp (some r) (some r) w w' := by
  have c0 : w.cell? ⟨r, 0, none⟩ = some (.string (S (a :: b :: l))) := by rw [blk_cell hr]; rfl
  have f0 := blk_free hr 0
  have hs : ((S (a :: b :: l)).size : Int) = (l.length : Int) + 2 := by rw [S_size]; simp; omega
  have hs' : (S (a :: b :: l)).size = l.length + 2 := by rw [S_size]; simp
  have hab := byte_lt a
  have hbb := byte_lt b
  go_enter Tryz.func54, Tryz.ntmps54
  go_wp2_with fail
  refine wp_loop_rounds 3 ?_
  rw [rounds_succ]
  go_wp2
  rw [rounds_succ]
  go_wp2
  rw [rounds_succ]
  go_wp2
  go_ret
  refine ⟨?_, ?_, (Kp.refl _ _).setR _ _⟩
  · have e0 := S_get (a :: b :: l) 0 (by rw [S_size]; simp)
    have e1 := S_get (a :: b :: l) 1 (by rw [S_size]; simp)
    simp only [List.getElem_cons_zero] at e0
    simp only [List.getElem_cons_succ, List.getElem_cons_zero] at e1
    have e2 : wrap64 (wrap64 ((256 : Int) * wrap64 (wrap64 (((S (a :: b :: l))[1]'(by rw [S_size]; simp)).toNat : Int))) + wrap64 (((S (a :: b :: l))[0]'(by rw [S_size]; simp)).toNat : Int)) = (a.toNat : Int) + 256 * (b.toNat : Int) := by
      rw [e0, e1, wrap64_of (a.toNat : Int) (by omega) (by omega), wrap64_of (b.toNat : Int) (by omega) (by omega), wrap64_of (b.toNat : Int) (by omega) (by omega), wrap64_of (256 * (b.toNat : Int)) (by omega) (by omega), wrap64_of _ (by omega) (by omega)]
      omega
    exact congrArg (fun n => Ending.returned (.int .i64 n)) e2
  · have := blk_set hr 0 (.string ((S (a :: b :: l)).extract 2 (l.length + 2)))
    simpa [EyeAt, S_extract] using this

theorem enumber_any (r : Nat) (k : Nat) (l : List UInt8) (w : World) (hr : EyeAt w r l) (hl : l.length ≤ 9223372036854775807) (hk : k = 1 ∨ k = 2) :
    Calls Tryz.prog 54 #[.pointer (some ⟨r, 0, none⟩), .int .i64 k] w fun e w' => e = .returned (.int .i64 (eNum k l)) ∧ EyeAt w' r (eAdv k l) ∧ Kp (some r) (some r) w w' := by
  by_cases h : l.length < k
  · have e1 : eNum k l = 0 := by simp [eNum, h]
    have e2 : eAdv k l = [] := by simp [eAdv, h]
    rw [e1, e2]
    exact enumber_short r k l w hr hl (by omega) h
  · rcases hk with rfl | rfl
    · rcases l with _ | ⟨a, l⟩
      · simp at h
      · have e1 : eNum 1 (a :: l) = (a.toNat : Int) := by simp [eNum, numOf]
        have e2 : eAdv 1 (a :: l) = l := by simp [eAdv]
        rw [e1, e2]
        exact enumber_one r a l w hr hl
    · rcases l with _ | ⟨a, _ | ⟨b, l⟩⟩
      · simp at h
      · simp at h
      · have e1 : eNum 2 (a :: b :: l) = (a.toNat : Int) + 256 * (b.toNat : Int) := by simp [eNum, numOf]; intro h; omega
        have e2 : eAdv 2 (a :: b :: l) = l := by simp [eAdv]; intro h; omega
        rw [e1, e2]
        exact enumber_two r a b l w hr hl
theorem eNum_nonneg (k : Nat) (l : List UInt8) : 0 ≤ eNum k l := by
  unfold eNum; split
  · omega
  · exact numOf_nonneg _
theorem eNum_one (l : List UInt8) : eNum 1 l ≤ 255 := by
  unfold eNum; split
  · omega
  · exact numOf_one _
theorem eNum_two (l : List UInt8) : eNum 2 l ≤ 65535 := by
  unfold eNum; split
  · omega
  · exact numOf_two _
theorem eAdv_len (k : Nat) (l : List UInt8) : (eAdv k l).length ≤ l.length := by
  unfold eAdv; split
  · simp
  · simp

theorem EyeAt.set {w : World} {r : Nat} {l : List UInt8} (h : EyeAt w r l) {a : Addr} (ha : r ≠ a.block) (u : Value) : EyeAt (w.setCell a u) r l := blk_set_other h ha u
theorem EyeAt.alloc {w : World} {r : Nat} {l : List UInt8} (h : EyeAt w r l) (o : Obj) : EyeAt (w.alloc o) r l := blk_alloc h o
theorem EyeAt.kp {o o' : Option Nat} {w w' : World} {r : Nat} {l : List UInt8} (h : EyeAt w r l) (hk : Kp o o' w w') (ho : o ≠ some r) : EyeAt w' r l := blk_kp hk h ho

/-- A value, as the document's answer reads it. -/
def eTxt (l : List UInt8) : List UInt8 := eAdv 1 (eAdv 1 (eAdv 2 (eAdv 1 l)))
def eLen (l : List UInt8) : Nat := min (eNum 1 (eAdv 1 (eAdv 2 (eAdv 1 l)))).toNat (eTxt l).length
def ePost (l : List UInt8) : Pst := if eNum 1 l = 0 then ⟨0, 0, 0, S []⟩ else ⟨eNum 1 l, eNum 2 (eAdv 1 l), eNum 1 (eAdv 2 (eAdv 1 l)), S ((eTxt l).take (eLen l))⟩
def eAft (l : List UInt8) : List UInt8 := if eNum 1 l = 0 then eAdv 1 l else (eTxt l).drop (eLen l)

set_option maxHeartbeats 1000000 in
theorem epost_no (r : Nat) (l : List UInt8) (w : World) (hr : EyeAt w r l) (hl : l.length ≤ 9223372036854775807) (h0 : (eNum 1 l == 0) = true) :
    Calls Tryz.prog 55 #[.pointer (some ⟨r, 0, none⟩)] w fun e w' => e = .returned (.agg #[.int .i64 0, .int .i64 0, .int .i64 0, .string (S [])]) ∧ EyeAt w' r (eAdv 1 l) ∧ Kp (some r) (some r) w w' := by
  have hlt := lt_of_block hr
  go_enter Tryz.func55, Tryz.ntmps55
  go_wp2_with fail
  refine (enumber_any r 1 l _ (hr.alloc _) hl (.inl rfl)).mono ?_
  rintro e w1 ⟨rfl, hr1, hk1⟩
  have hq := blk_kp hk1 (blk_new _ _) (by simp; omega)
  have hK := ((Kp.refl (some r) w).alloc _).trans hk1
  have e0 : eNum 1 l = 0 := by simpa using h0
  have hqA := blk_alloc hq (.cells #[.int .i64 (eNum 1 l), .int .i64 0, .int .i64 0, .string ⟨#[]⟩] 33)
  have hqc := blk_cell hqA
  have hqf := blk_free hqA
  have hz : w.heap.size < w1.heap.size := lt_of_block hq
  have hqc1 := blk_cell hq
  have hqf1 := blk_free hq
  clear hk1 e0
  go_wp2
  have e0 : eNum 1 l = 0 := by simpa using h0
  refine bodyPost_ret (v := .agg #[.int .i64 0, .int .i64 0, .int .i64 0, .string (S [])]) (by simp [results, Tryz.results55, go_sem, World.cell?_alloc_past, hz, hqc1, e0, S]) rfl ⟨rfl, ?_, ?_⟩
  · refine EyeAt.alloc ?_ _
    iterate 4 refine EyeAt.set ?_ (by simp; omega) _
    exact hr1
  · refine Kp.alloc ?_ _
    iterate 4 refine Kp.setCell ?_ (.inr (by simp)) _
    exact hK

set_option maxHeartbeats 2000000 in
theorem epost_yes (r : Nat) (l : List UInt8) (w : World) (hr : EyeAt w r l) (hl : l.length ≤ 9223372036854775807) (h0 : (eNum 1 l == 0) = false) :
    Calls Tryz.prog 55 #[.pointer (some ⟨r, 0, none⟩)] w fun e w' =>
      e = .returned (.agg #[.int .i64 (eNum 1 l), .int .i64 (eNum 2 (eAdv 1 l)), .int .i64 (eNum 1 (eAdv 2 (eAdv 1 l))), .string (S ((eTxt l).take (eLen l)))]) ∧ EyeAt w' r ((eTxt l).drop (eLen l)) ∧ Kp (some r) (some r) w w' := by
  have hlt := lt_of_block hr
  have l1 := eAdv_len 1 l
  have l2 := eAdv_len 2 (eAdv 1 l)
  have l3 := eAdv_len 1 (eAdv 2 (eAdv 1 l))
  have l4 := eAdv_len 1 (eAdv 1 (eAdv 2 (eAdv 1 l)))
  have b0 := eNum_nonneg 1 (eAdv 1 (eAdv 2 (eAdv 1 l)))
  have b1 := eNum_one (eAdv 1 (eAdv 2 (eAdv 1 l)))
  go_enter Tryz.func55, Tryz.ntmps55
  go_wp2_with fail
  refine (enumber_any r 1 l _ (hr.alloc _) hl (.inl rfl)).mono ?_
  rintro e w1 ⟨rfl, hr1, hk1⟩
  have hK1 := (((Kp.refl (some r) w).alloc _).trans hk1).alloc (.cells #[.int .i64 (eNum 1 l), .int .i64 0, .int .i64 0, .string ⟨#[]⟩] 33)
  have hq1 := blk_alloc (blk_kp hk1 (blk_new _ _) (by simp; omega)) (.cells #[.int .i64 (eNum 1 l), .int .i64 0, .int .i64 0, .string ⟨#[]⟩] 33)
  have hp1 := blk_new w1 (.cells #[.int .i64 (eNum 1 l), .int .i64 0, .int .i64 0, .string ⟨#[]⟩] 33)
  have hz1 : w.heap.size < w1.heap.size := lt_of_block (blk_kp hk1 (blk_new _ _) (by simp; omega))
  have hrl : r < w1.heap.size := lt_of_block hr1
  clear hk1
  go_wp2_with fail
  refine (enumber_any r 2 (eAdv 1 l) _ (hr1.alloc _) (by omega) (.inr rfl)).mono ?_
  rintro e w2 ⟨rfl, hr2, hk2⟩
  have hK2 := hK1.trans hk2
  have hp2 := blk_kp hk2 hp1 (by simp; omega)
  have hq2 := blk_kp hk2 hq1 (by simp; omega)
  clear hk2 hp1 hq1 hr1 hK1
  have hc := blk_cell hp2
  have hf := blk_free hp2
  go_wp2_with fail
  clear hc hf
  have hp2' := blk_set hp2 1 (.int .i64 (eNum 2 (eAdv 1 l)))
  have hq2' := blk_set_other hq2 (a := ⟨w1.heap.size, 1, none⟩) (by simp; omega) (.int .i64 (eNum 2 (eAdv 1 l)))
  refine (enumber_any r 1 (eAdv 2 (eAdv 1 l)) _ (hr2.set (by simp; omega) _) (by omega) (.inl rfl)).mono ?_
  rintro e w3 ⟨rfl, hr3, hk3⟩
  have hK3 := (hK2.setCell (a := ⟨w1.heap.size, 1, none⟩) (.inr (by simp; omega)) (.int .i64 (eNum 2 (eAdv 1 l)))).trans hk3
  have hp3 := blk_kp hk3 hp2' (by simp; omega)
  have hq3 := blk_kp hk3 hq2' (by simp; omega)
  clear hk3 hp2' hq2' hp2 hq2 hr2 hK2
  have hc := blk_cell hp3
  have hf := blk_free hp3
  go_wp2_with fail
  clear hc hf
  have hp3' := blk_set hp3 2 (.int .i64 (eNum 1 (eAdv 2 (eAdv 1 l))))
  have hq3' := blk_set_other hq3 (a := ⟨w1.heap.size, 2, none⟩) (by simp; omega) (.int .i64 (eNum 1 (eAdv 2 (eAdv 1 l))))
  refine (enumber_any r 1 (eAdv 1 (eAdv 2 (eAdv 1 l))) _ (hr3.set (by simp; omega) _) (by omega) (.inl rfl)).mono ?_
  rintro e w4 ⟨rfl, hr4, hk4⟩
  have hK4 := (hK3.setCell (a := ⟨w1.heap.size, 2, none⟩) (.inr (by simp; omega)) (.int .i64 (eNum 1 (eAdv 2 (eAdv 1 l))))).trans hk4
  have hp4 := blk_kp hk4 hp3' (by simp; omega)
  have hq4 := blk_kp hk4 hq3' (by simp; omega)
  clear hk4 hp3' hq3' hp3 hq3 hr3 hK3
  have hlen : (eTxt l).length ≤ 9223372036854775807 := by have e : eTxt l = eAdv 1 (eAdv 1 (eAdv 2 (eAdv 1 l))) := rfl; rw [e]; omega
  have hr4' : EyeAt w4 r (eTxt l) := hr4
  have HL := show Hid (eLen l = min (eNum 1 (eAdv 1 (eAdv 2 (eAdv 1 l)))).toNat (eTxt l).length) from rfl
  clear hr4
  obtain ⟨n, hn⟩ := Int.eq_ofNat_of_zero_le b0
  rw [hn] at b1 ⊢
  have HN := show Hid (eNum 1 (eAdv 1 (eAdv 2 (eAdv 1 l))) = n) from hn
  clear hn b0
  have hrc : w4.cell? ⟨r, 0, none⟩ = some (.string (S (eTxt l))) := by rw [blk_cell hr4']; rfl
  have hrf := blk_free hr4' 0
  have hss : ((S (eTxt l)).size : Int) = (eTxt l).length := by rw [S_size]
  have hss' : (S (eTxt l)).size = (eTxt l).length := S_size _
  have hc := blk_cell hp4
  have hf := blk_free hp4
  have hqc := blk_cell hq4
  have hqf := blk_free hq4
  have hne : r ≠ w1.heap.size := by omega
  have hne2 : r ≠ w.heap.size := by omega
  have hzz : w1.heap.size < w4.heap.size := lt_of_block hp4
  have eS : (ByteArray.empty : ByteArray) = S [] := rfl
  have ES := show Hid ((ByteArray.empty : ByteArray) = S []) from eS
  clear eS
  by_cases hlx : ((eTxt l).length : Int) < (n : Int)
  · have el : eLen l = (eTxt l).length := by rw [HL.out, HN.out]; simp; omega
    have EL := show Hid (eLen l = (eTxt l).length) from el
    clear el
    go_wp2
    refine bodyPost_ret (v := .agg #[.int .i64 (eNum 1 l), .int .i64 (eNum 2 (eAdv 1 l)), .int .i64 (eNum 1 (eAdv 2 (eAdv 1 l))), .string ((S (eTxt l)).extract 0 (eTxt l).length)]) (by simp [results, Tryz.results55, go_sem, hqc]) rfl ⟨?_, ?_, ?_⟩
    · rw [EL.out, S_extract]; simp
    · rw [EL.out]
      iterate 4 refine EyeAt.set ?_ (by simp; omega) _
      have hs := blk_set (blk_set_other hr4' (a := ⟨w1.heap.size, 3, none⟩) (by simp; omega) (.string ((S (eTxt l)).extract 0 (eTxt l).length))) 0 (.string (ByteArray.empty))
      simpa [EyeAt, S_extract, ES.out] using hs
    · iterate 4 refine Kp.setCell ?_ (.inr (by simp)) _
      refine Kp.setR ?_ _ _
      exact hK4.setCell (a := ⟨w1.heap.size, 3, none⟩) (.inr (by simp; omega)) _
  · have el : eLen l = n := by rw [HL.out, HN.out]; simp; omega
    have EL := show Hid (eLen l = n) from el
    clear el
    go_wp2
    refine bodyPost_ret (v := .agg #[.int .i64 (eNum 1 l), .int .i64 (eNum 2 (eAdv 1 l)), .int .i64 (eNum 1 (eAdv 2 (eAdv 1 l))), .string ((S (eTxt l)).extract 0 n)]) (by simp [results, Tryz.results55, go_sem, hqc]) rfl ⟨?_, ?_, ?_⟩
    · rw [EL.out, S_extract]; simp
    · rw [EL.out]
      iterate 4 refine EyeAt.set ?_ (by simp; omega) _
      have hs := blk_set (blk_set_other hr4' (a := ⟨w1.heap.size, 3, none⟩) (by simp; omega) (.string ((S (eTxt l)).extract 0 n))) 0 (.string ((S (eTxt l)).extract n (eTxt l).length))
      have et : ((eTxt l).drop n).take ((eTxt l).length - n) = (eTxt l).drop n := List.take_of_length_le (by simp)
      simpa [EyeAt, S_extract, et] using hs
    · iterate 4 refine Kp.setCell ?_ (.inr (by simp)) _
      refine Kp.setR ?_ _ _
      exact hK4.setCell (a := ⟨w1.heap.size, 3, none⟩) (.inr (by simp; omega)) _

theorem epost_any (r : Nat) (l : List UInt8) (w : World) (hr : EyeAt w r l) (hl : l.length ≤ 9223372036854775807) :
    Calls Tryz.prog 55 #[.pointer (some ⟨r, 0, none⟩)] w fun e w' => e = .returned (.agg #[.int .i64 (ePost l).c, .int .i64 (ePost l).q, .int .i64 (ePost l).h, .string (ePost l).t]) ∧ EyeAt w' r (eAft l) ∧ Kp (some r) (some r) w w' := by
  by_cases h0 : eNum 1 l = 0
  · have e1 : ePost l = ⟨0, 0, 0, S []⟩ := by simp [ePost, h0]
    have e2 : eAft l = eAdv 1 l := by simp [eAft, h0]
    rw [e1, e2]
    exact epost_no r l w hr hl (by simpa using h0)
  · have e1 : ePost l = ⟨eNum 1 l, eNum 2 (eAdv 1 l), eNum 1 (eAdv 2 (eAdv 1 l)), S ((eTxt l).take (eLen l))⟩ := by simp [ePost, h0]
    have e2 : eAft l = (eTxt l).drop (eLen l) := by simp [eAft, h0]
    rw [e1, e2]
    exact epost_yes r l w hr hl (by simpa using h0)
end Go.Proofs.YtnnhnekfokbooaaGreatDoor
