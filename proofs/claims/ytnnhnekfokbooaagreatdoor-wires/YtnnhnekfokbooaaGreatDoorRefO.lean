/- The document's Unpack, whole (laid by mkref5.py). -/
import Derived.Test.YtnnhnekfokbooaaGreatDoorRefM1
import Derived.Test.YtnnhnekfokbooaaGreatDoorRefM2
import Derived.Test.YtnnhnekfokbooaaGreatDoorRefM3
import Derived.Test.YtnnhnekfokbooaaGreatDoorRefM4
import Derived.Test.YtnnhnekfokbooaaGreatDoorRefN
namespace Go.Proofs.YtnnhnekfokbooaaGreatDoor
open Go.RowKit
set_option linter.unusedSimpArgs false
set_option linter.unusedVariables false

def RUn (l : List UInt8) (w : World) (e : Ending) (w' : World) : Prop :=
  (unB l = true → ∃ v, e = .returned (.tuple #[.agg #[.int .i64 (Rs.msg ⟨l, false⟩).k, .int .i64 (Rs.msg ⟨l, false⟩).f, .int .i64 (Rs.msg ⟨l, false⟩).t, .int .i64 (Rs.msg ⟨l, false⟩).b, .int .i64 (Rs.msg ⟨l, false⟩).s, .int .i64 (Rs.msg ⟨l, false⟩).p.c, .int .i64 (Rs.msg ⟨l, false⟩).p.q, .int .i64 (Rs.msg ⟨l, false⟩).p.h, .string (Rs.msg ⟨l, false⟩).p.t, v], .int .i64 0]) ∧ VAt w' v (Rs.msg ⟨l, false⟩).a) ∧ (unB l = false → e = .returned (.tuple #[.agg #[.int .i64 0, .int .i64 0, .int .i64 0, .int .i64 0, .int .i64 0, .int .i64 0, .int .i64 0, .int .i64 0, .string (S []), .slice none 0 0], .int .i64 2])) ∧ Below w.heap.size w w'
theorem run_nov {l : List UInt8} {w : World} {k f t b s : Int} {p : Pst} (hM : (⟨k, f, t, b, s, p, []⟩ : Ms) = eMsg l) {e : Ending} {w' : World}
    (h : e = .returned (if unB l then .tuple #[.agg #[.int .i64 k, .int .i64 f, .int .i64 t, .int .i64 b, .int .i64 s, .int .i64 p.c, .int .i64 p.q, .int .i64 p.h, .string p.t, .slice none 0 0], .int .i64 0] else .tuple #[.agg #[.int .i64 0, .int .i64 0, .int .i64 0, .int .i64 0, .int .i64 0, .int .i64 0, .int .i64 0, .int .i64 0, .string (S []), .slice none 0 0], .int .i64 2]) ∧ Below w.heap.size w w') : RUn l w e w' := by
  obtain ⟨rfl, hb⟩ := h
  refine ⟨fun hu => ⟨.slice none 0 0, ?_, ?_⟩, fun hu => ?_, hb⟩
  · rw [← e_msg hu, ← hM, hu]; rfl
  · rw [← e_msg hu, ← hM]; exact rvat_nil _
  · rw [hu]; rfl
set_option maxHeartbeats 2000000 in
theorem runp_any (l : List UInt8) (w : World) (hl : l.length ≤ 9223372036854775807) : Calls Tryz.prog 22 #[.string (S l)] w fun e w' => RUn l w e w' := by
  have key := e_ok l
  by_cases k5 : eNum 1 l = 5
  · have h5 : (eNum 1 l == 5) = true := by rw [k5]; rfl
    have h3 : (eNum 1 l == 3) = false := by rw [k5]; rfl
    have h4 : (eNum 1 l == 4) = false := by rw [k5]; rfl
    have h2 : (eNum 1 l == 2) = false := by rw [k5]; rfl
    have hM : (⟨eNum 1 l, eNum 1 (eAdv 1 l), eNum 1 (eAdv 1 (eAdv 1 l)), 0, eNum 1 (eM1 l), (ePost (eAdv 1 (eM1 l))), []⟩ : Ms) = eMsg l := by simp [eMsg, eBal, eSlo, eVau, eAcc, eBalAft, eSloAft, eVauAft, hasS, hasV, hasA, k5]
    exact (runp_e l w hl h5 h3 h4 h2 (unB l) (by rw [hM]; exact key)).mono fun e w' h => run_nov hM h
  have h5 : (eNum 1 l == 5) = false := by simpa using k5
  by_cases k3 : eNum 1 l = 3
  · have h3 : (eNum 1 l == 3) = true := by rw [k3]; rfl
    have h2 : (eNum 1 l == 2) = false := by rw [k3]; rfl
    have hM : (⟨eNum 1 l, eNum 1 (eAdv 1 l), eNum 1 (eAdv 1 (eAdv 1 l)), eNum 2 (eM1 l), eNum 1 (eAdv 2 (eM1 l)), (ePost (eAdv 1 (eAdv 2 (eM1 l)))), []⟩ : Ms) = eMsg l := by simp [eMsg, eBal, eSlo, eVau, eAcc, eBalAft, eSloAft, eVauAft, hasS, hasV, hasA, k3]
    exact (runp_c l w hl h5 h3 h2 (unB l) (by rw [hM]; exact key)).mono fun e w' h => run_nov hM h
  have h3 : (eNum 1 l == 3) = false := by simpa using k3
  by_cases k4 : eNum 1 l = 4
  · have h4 : (eNum 1 l == 4) = true := by rw [k4]; rfl
    have h2 : (eNum 1 l == 2) = false := by rw [k4]; rfl
    have hM : (⟨eNum 1 l, eNum 1 (eAdv 1 l), eNum 1 (eAdv 1 (eAdv 1 l)), eNum 2 (eM1 l), eNum 1 (eAdv 2 (eM1 l)), (⟨0, 0, 0, S []⟩ : Pst), []⟩ : Ms) = eMsg l := by simp [eMsg, eBal, eSlo, eVau, eAcc, eBalAft, eSloAft, eVauAft, hasS, hasV, hasA, k4]
    exact (runp_d l w hl h5 h3 h4 h2 (unB l) (by rw [hM]; exact key)).mono fun e w' h => run_nov hM h
  have h4 : (eNum 1 l == 4) = false := by simpa using k4
  by_cases k2 : eNum 1 l = 2
  · have h2 : (eNum 1 l == 2) = true := by rw [k2]; rfl
    obtain ⟨n, hn⟩ := Int.eq_ofNat_of_zero_le (eNum_nonneg 1 (eAdv 2 (eM1 l)))
    have hM : (⟨eNum 1 l, eNum 1 (eAdv 1 l), eNum 1 (eAdv 1 (eAdv 1 l)), eNum 2 (eM1 l), 0, (⟨0, 0, 0, S []⟩ : Pst), eVts n (eAdv 1 (eAdv 2 (eM1 l)))⟩ : Ms) = eMsg l := by simp [eMsg, eBal, eSlo, eVau, eAcc, eBalAft, eSloAft, eVauAft, hasS, hasV, hasA, k2, hn]
    refine (runp_b l w hl h5 h3 h4 h2 n hn _ rfl (unB l) (by rw [hM]; exact key)).mono fun e w' h => ?_
    obtain ⟨p1, p2, p3⟩ := h
    refine ⟨fun hu => ?_, p2, p3⟩
    obtain ⟨v, rfl, hv⟩ := p1 hu
    refine ⟨v, ?_, ?_⟩
    · rw [← e_msg hu, ← hM]; rfl
    · rw [← e_msg hu, ← hM]; exact hv
  have h2 : (eNum 1 l == 2) = false := by simpa using k2
  have hM : (⟨eNum 1 l, eNum 1 (eAdv 1 l), eNum 1 (eAdv 1 (eAdv 1 l)), eNum 2 (eM1 l), 0, (⟨0, 0, 0, S []⟩ : Pst), []⟩ : Ms) = eMsg l := by simp [eMsg, eBal, eSlo, eVau, eAcc, eBalAft, eSloAft, eVauAft, hasS, hasV, hasA, k2, k3, k4, k5]
  exact (runp_a l w hl h5 h3 h4 h2 (unB l) (by rw [hM]; exact key)).mono fun e w' h => run_nov hM h
end Go.Proofs.YtnnhnekfokbooaaGreatDoor
