/- The document's Pack, whole. -/
import Derived.Test.YtnnhnekfokbooaaGreatDoorRefF
namespace Go.Proofs.YtnnhnekfokbooaaGreatDoor
open Go.RowKit
set_option linter.unusedSimpArgs false
set_option linter.unusedVariables false

theorem rvat_nil (w : World) : VAt w (.slice none 0 0) [] := ⟨by simp, none, 0, rfl, fun h => absurd rfl h⟩
theorem rpack_any (m : Ms) (v : Value) (w : World) (hv : VAt w v m.a) :
    Calls Tryz.prog 20 #[.agg #[.int .i64 m.k, .int .i64 m.f, .int .i64 m.t, .int .i64 m.b, .int .i64 m.s, .int .i64 m.p.c, .int .i64 m.p.q, .int .i64 m.p.h, .string m.p.t, v]] w fun e w' =>
      e = .returned (if rmB m then .tuple #[.string (S (encM m)), .int .i64 0] else .tuple #[.string (S []), .int .i64 2]) ∧ Below w.heap.size w w' := by
  cases hrm : rmB m
  · simpa using rpack_no m v w hv hrm
  · have hr := hrm
    simp only [rmB, Bool.and_eq_true] at hr
    obtain ⟨⟨⟨⟨⟨⟨r1, r2⟩, r3⟩, r4⟩, r5⟩, r6⟩, r7⟩ := hr
    have b1 := withinB_true r1
    have b2 := withinB_true r2
    have b3 := withinB_true r3
    have n1 : (0 ≤ m.k ∧ m.k ≤ 1000000) ∧ (0 ≤ m.f ∧ m.f ≤ 1000000) ∧ (0 ≤ m.t ∧ m.t ≤ 1000000) := by omega
    rw [if_pos rfl]
    rcases (show m.k = 1 ∨ m.k = 6 ∨ m.k = 2 ∨ m.k = 3 ∨ m.k = 4 ∨ m.k = 5 from by omega) with e | e | e | e | e | e
    · have h1 : hasB m.k = true := by rw [e]; rfl
      have h2 : hasS m.k = false := by rw [e]; rfl
      have h3 : hasV m.k = false := by rw [e]; rfl
      have h4 : hasA m.k = false := by rw [e]; rfl
      rw [h1] at r4
      have c2 := withinB_true (show withinB m.b 1 8007 = true from r4)
      have P := rpack_a m v w hv hrm (by rw [e]; rfl) (by rw [e]; rfl) (by rw [e]; rfl) (by rw [e]; rfl) (by omega) n1
      simpa [encM, h1, h2, h3, h4, encA_three] using P
    · have h1 : hasB m.k = true := by rw [e]; rfl
      have h2 : hasS m.k = false := by rw [e]; rfl
      have h3 : hasV m.k = false := by rw [e]; rfl
      have h4 : hasA m.k = false := by rw [e]; rfl
      rw [h1] at r4
      have c2 := withinB_true (show withinB m.b 1 8007 = true from r4)
      have P := rpack_a m v w hv hrm (by rw [e]; rfl) (by rw [e]; rfl) (by rw [e]; rfl) (by rw [e]; rfl) (by omega) n1
      simpa [encM, h1, h2, h3, h4, encA_three] using P
    · have h1 : hasB m.k = true := by rw [e]; rfl
      have h2 : hasS m.k = false := by rw [e]; rfl
      have h3 : hasV m.k = false := by rw [e]; rfl
      have h4 : hasA m.k = true := by rw [e]; rfl
      rw [h1] at r4; rw [h4] at r7
      have c2 := withinB_true (show withinB m.b 1 8007 = true from r4)
      obtain ⟨c8, c9⟩ := rvB_ok m.a (-1) (by omega) (show rvB (-1) m.a = true from r7)
      have P := rpack_b m v w hv hrm e (by omega) (by have := c9 (by omega); omega) (fun x hx => ⟨(c8 x hx).1, (c8 x hx).2.2.2⟩) n1
      simpa [encM, h1, h2, h3, h4, encA_three] using P
    · have h1 : hasB m.k = true := by rw [e]; rfl
      have h2 : hasS m.k = true := by rw [e]; rfl
      have h3 : hasV m.k = true := by rw [e]; rfl
      have h4 : hasA m.k = false := by rw [e]; rfl
      rw [h1] at r4; rw [h2] at r5; rw [h3] at r6
      have c2 := withinB_true (show withinB m.b 1 8007 = true from r4)
      have c3 := withinB_true (show withinB m.s 0 15 = true from r5)
      have c6 := (rv_ok m.p (show rightValueB m.p = true from r6)).2.2.2
      have P := rpack_c m v w hv hrm (by rw [e]; rfl) (by rw [e]; rfl) (by omega) (by omega) (show rightValueB m.p = true from r6) (encV_length_le m.p (by omega)) n1
      simpa [encM, h1, h2, h3, h4, encA_three] using P
    · have h1 : hasB m.k = true := by rw [e]; rfl
      have h2 : hasS m.k = true := by rw [e]; rfl
      have h3 : hasV m.k = false := by rw [e]; rfl
      have h4 : hasA m.k = false := by rw [e]; rfl
      rw [h1] at r4; rw [h2] at r5
      have c2 := withinB_true (show withinB m.b 1 8007 = true from r4)
      have c3 := withinB_true (show withinB m.s 0 15 = true from r5)
      have P := rpack_d m v w hv hrm (by rw [e]; rfl) (by rw [e]; rfl) (by rw [e]; rfl) (by omega) (by omega) n1
      simpa [encM, h1, h2, h3, h4, encA_three] using P
    · have h1 : hasB m.k = false := by rw [e]; rfl
      have h2 : hasS m.k = true := by rw [e]; rfl
      have h3 : hasV m.k = true := by rw [e]; rfl
      have h4 : hasA m.k = false := by rw [e]; rfl
      rw [h2] at r5; rw [h3] at r6
      have c3 := withinB_true (show withinB m.s 0 15 = true from r5)
      have c6 := (rv_ok m.p (show rightValueB m.p = true from r6)).2.2.2
      have P := rpack_e m v w hv hrm (by rw [e]; rfl) (by rw [e]; rfl) (by rw [e]; rfl) (by rw [e]; rfl) (by omega) (show rightValueB m.p = true from r6) (encV_length_le m.p (by omega)) n1
      simpa [encM, h1, h2, h3, h4, encA_three] using P
end Go.Proofs.YtnnhnekfokbooaaGreatDoor
