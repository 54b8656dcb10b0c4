/- rightMessage, whole. -/
import Derived.Test.YtnnhnekfokbooaaGreatDoorWalkH1
import Derived.Test.YtnnhnekfokbooaaGreatDoorWalkH2
import Derived.Test.YtnnhnekfokbooaaGreatDoorWalkH3
import Derived.Test.YtnnhnekfokbooaaGreatDoorWalkH4
namespace Go.Proofs.YtnnhnekfokbooaaGreatDoor
open Go.RowKit
theorem rightMessage_any (m : Ms) (v : Value) (w : World) (hk : Kinds w) (hv : VAt w v m.a) :
    Calls Tryz.prog 76 #[.agg #[.int .i64 m.k, .int .i64 m.f, .int .i64 m.t, .int .i64 m.b, .int .i64 m.s, .int .i64 m.p.c, .int .i64 m.p.q, .int .i64 m.p.h, .string m.p.t, v]] w fun e w' =>
      e = .returned (.bool (rmB m)) ∧ Below w.heap.size w w' := by
  obtain ⟨k, f, t, b, s, ⟨c, q, h, x⟩, l⟩ := m
  cases h1 : withinB k 1 6
  · have e : rmB ⟨k, f, t, b, s, ⟨c, q, h, x⟩, l⟩ = false := by simp [rmB, h1]
    rw [e]; exact rightMessage_1 k f t b s c q h x v l w hk hv h1
  cases h2 : withinB f 0 6
  · have e : rmB ⟨k, f, t, b, s, ⟨c, q, h, x⟩, l⟩ = false := by simp [rmB, h2]
    rw [e]; exact rightMessage_2 k f t b s c q h x v l w hk hv h1 h2
  cases h3 : withinB t 0 6
  · have e : rmB ⟨k, f, t, b, s, ⟨c, q, h, x⟩, l⟩ = false := by simp [rmB, h3]
    rw [e]; exact rightMessage_3 k f t b s c q h x v l w hk hv h1 h2 h3
  cases h4 : fitsB (hasB k) (withinB b 1 8007) (b == 0)
  · have e : rmB ⟨k, f, t, b, s, ⟨c, q, h, x⟩, l⟩ = false := by simp [rmB, h4]
    rw [e]; exact rightMessage_4 k f t b s c q h x v l w hk hv h1 h2 h3 h4
  cases h5 : fitsB (hasS k) (withinB s 0 15) (s == 0)
  · have e : rmB ⟨k, f, t, b, s, ⟨c, q, h, x⟩, l⟩ = false := by simp [rmB, h5]
    rw [e]; exact rightMessage_5 k f t b s c q h x v l w hk hv h1 h2 h3 h4 h5
  cases h6 : fitsB (hasV k) (rightValueB ⟨c, q, h, x⟩) (nothingB ⟨c, q, h, x⟩)
  · have e : rmB ⟨k, f, t, b, s, ⟨c, q, h, x⟩, l⟩ = false := by simp [rmB, h6]
    rw [e]; exact rightMessage_6 k f t b s c q h x v l w hk hv h1 h2 h3 h4 h5 h6
  · have e : rmB ⟨k, f, t, b, s, ⟨c, q, h, x⟩, l⟩ = fitsB (hasA k) (rvB (-1) l) ((l.length : Int) == 0) := by simp only [rmB, h1, h2, h3, h4, h5, h6, Bool.true_and]
    rw [e]; exact rightMessage_7 k f t b s c q h x v l w hk hv h1 h2 h3 h4 h5 h6
end Go.Proofs.YtnnhnekfokbooaaGreatDoor
