/- WalkA, Bits, WalkB -/
import Derived.Test.YtnnhnekfokbooaaGreatDoorAl22
import Derived.Lib.Strings
set_option linter.unusedSimpArgs false
set_option linter.unusedVariables false
set_option maxRecDepth 100000
namespace Go.Proofs.YtnnhnekfokbooaaGreatDoor
section
open Go.RowKit
set_option maxHeartbeats 400000 in
theorem rightKind_any (n : Int) (w : World) :
  Calls Tryz.prog 110 #[I6 n] w fun e w' => e = .returned (.bool (withinB n 1 6)) ∧ w' = w := by
 go_enter Tryz.func110, Tryz.ntmps110
 go_wp2_with (go_at_call 93; refine (within_any _ _ _ _).mono ?_; rintro e w' ⟨rfl, rfl⟩)
 go_ret
 exact ⟨rfl, rfl⟩
set_option maxHeartbeats 400000 in
theorem rightReplica_any (n : Int) (w : World) :
  Calls Tryz.prog 111 #[I6 n] w fun e w' => e = .returned (.bool (withinB n 0 6)) ∧ w' = w := by
 go_enter Tryz.func111, Tryz.ntmps111
 go_wp2_with (go_at_call 93; refine (within_any _ _ _ _).mono ?_; rintro e w' ⟨rfl, rfl⟩)
 go_ret
 exact ⟨rfl, rfl⟩
set_option maxHeartbeats 400000 in
theorem rightBallot_any (n : Int) (w : World) :
  Calls Tryz.prog 113 #[I6 n] w fun e w' => e = .returned (.bool (withinB n 1 8007)) ∧ w' = w := by
 go_enter Tryz.func113, Tryz.ntmps113
 go_wp2_with (go_at_call 93; refine (within_any _ _ _ _).mono ?_; rintro e w' ⟨rfl, rfl⟩)
 go_ret
 exact ⟨rfl, rfl⟩
set_option maxHeartbeats 400000 in
theorem rightSlot_any (n : Int) (w : World) :
  Calls Tryz.prog 114 #[I6 n] w fun e w' => e = .returned (.bool (withinB n 0 15)) ∧ w' = w := by
 go_enter Tryz.func114, Tryz.ntmps114
 go_wp2_with (go_at_call 93; refine (within_any _ _ _ _).mono ?_; rintro e w' ⟨rfl, rfl⟩)
 go_ret
 exact ⟨rfl, rfl⟩
def fitsB (a b c : Bool) : Bool := if a then b else c
set_option maxHeartbeats 400000 in
theorem fits_any (a b c : Bool) (w : World) :
  Calls Tryz.prog 112 #[.bool a, .bool b, .bool c] w fun e w' => e = .returned (.bool (fitsB a b c)) ∧ w' = w := by
 cases a
 ·go_enter Tryz.func112, Tryz.ntmps112
  go_wp2
  go_ret
  exact ⟨rfl, rfl⟩
 ·go_enter Tryz.func112, Tryz.ntmps112
  go_wp2
  go_ret
  exact ⟨rfl, rfl⟩
set_option maxHeartbeats 800000 in
theorem rightValue_any (c q h : Int) (t : ByteArray) (w : World) :
  Calls Tryz.prog 115 #[.agg #[I6 c, I6 q, I6 h, .string t]] w fun e w' => e = .returned (.bool (rightValueB ⟨c, q, h, t⟩)) ∧ Below w.heap.size w w' := by
 cases h1 : nothingB ⟨c, q, h, t⟩
 ·go_enter Tryz.func115, Tryz.ntmps115
  go_wp2_with fail
  refine (isNothing_any _ _ _ _ _).mono ?_
  rintro e w1 ⟨rfl, hb⟩
  obtain ⟨hc, hf⟩ := bcell hb
  go_wp2_with fail
  refine (rightPost_any _ _ _ _ _).mono ?_
  rintro e w2 ⟨rfl, hb2⟩
  go_wp2_with fail
  go_ret
  exact ⟨by simp [rightValueB, h1], ((Below.alloc (Below.refl _ _) (Nat.le_refl _) _).trans (hb.mono (by simp))).trans (hb2.mono (by have := hb.size; simp at this; omega))⟩
 ·go_enter Tryz.func115, Tryz.ntmps115
  go_wp2_with (first | (go_at_call 87; refine (isNothing_any _ _ _ _ _).mono ?_; rintro e w' ⟨rfl, hb⟩))
  go_ret
  exact ⟨by simp [rightValueB, h1], (Below.alloc (Below.refl _ _) (Nat.le_refl _) _).trans (hb.mono (by simp))⟩
end
section
open Go.RowKit
theorem wrap64_of (n : Int) (h : -9223372036854775808 ≤ n) (h' : n < 9223372036854775808) : wrap64 n = n := by
 unfold wrap64; omega
theorem bits_or_nat (a b : Nat) (ha : a < 65536) (hb : b < 65536) (hc : a ||| b < 65536) : bits .or .i64 (a : Int) (b : Int) = ((a ||| b : Nat) : Int) := by
 have e : ∀ n : Nat, n < 65536 → (BitVec.ofInt 64 (n : Int)).toNat = n := fun n h => by
  rw [BitVec.toNat_ofInt]
  omega
 have e1 : (BitVec.ofInt 64 (a : Int) ||| BitVec.ofInt 64 (b : Int)).toNat = (a ||| b) := by
  rw [BitVec.toNat_or, e a ha, e b hb]
 show IntKind.wrap .i64 ((BitVec.ofInt 64 (a : Int) ||| BitVec.ofInt 64 (b : Int)).toNat : Int) = _
 rw [e1]
 generalize (a ||| b) = c at hc
 unfold IntKind.wrap
 simp [IntKind.bits, IntKind.signed]
 omega
theorem byte_lt (a : UInt8) : a.toNat < 256 := a.toNat_lt
theorem or_one (a : UInt8) : bits .or .i64 0 (wrap64 (wrap64 (a.toNat : Int))) = (a.toNat : Int) := by
 have := byte_lt a
 rw [wrap64_of (a.toNat : Int) (by omega) (by omega), wrap64_of (a.toNat : Int) (by omega) (by omega)]
 have h := bits_or_nat 0 a.toNat (by omega) (by omega) (by simp; omega)
 simpa using h
theorem or_two (a b : UInt8) : bits .or .i64 (bits .or .i64 0 (wrap64 (wrap64 (a.toNat : Int)))) (wrap64 (wrap64 (b.toNat : Int) * 256)) = (a.toNat : Int) + 256 * (b.toNat : Int) := by
 have := byte_lt a
 have := byte_lt b
 rw [or_one, wrap64_of (b.toNat : Int) (by omega) (by omega), wrap64_of _ (by omega) (by omega)]
 have e : a.toNat ||| (b.toNat * 256) = a.toNat + b.toNat * 256 := by
  have h := Nat.two_pow_add_eq_or_of_lt (i := 8) (b := a.toNat) (by omega) b.toNat
  rw [Nat.or_comm, Nat.mul_comm b.toNat 256, Nat.add_comm]
  exact h.symm
 have h := bits_or_nat a.toNat (b.toNat * 256) (by omega) (by omega) (by omega)
 rw [e] at h
 have e2 : ((b.toNat : Int) * 256) = ((b.toNat * 256 : Nat) : Int) := by omega
 rw [e2, h]
 omega
end
section
open Go.RowKit
def S (l : List UInt8) : ByteArray := ⟨l.toArray⟩
def RdAt (w : World) (r : Nat) (l : List UInt8) (sh : Bool) : Prop := w.heap[r]? = some (.cells #[.string (S l), .bool sh] 147 (0, 0))
theorem S_size (l : List UInt8) : (S l).size = l.length := by simp [S, ByteArray.size]
theorem S_extract (l : List UInt8) (a b : Nat) : (S l).extract a b = S ((l.drop a).take (b - a)) := by
 rw [Lib.extract_eq]; simp [S]
theorem S_toList (l : List UInt8) : (S l).toList = l := by simp [S]
set_option maxHeartbeats 400000 in
theorem take_any (r : Nat) (n : Nat) (l : List UInt8) (sh : Bool) (w : World) (hr : RdAt w r l sh) (hl : l.length ≤ 9223372036854775807) (hn : n ≤ 255) :
  Calls Tryz.prog 138 #[P6 r, I6 n] w fun e w' => e = .returned (.string (S (l.take n))) ∧ RdAt w' r (l.drop n) (sh || decide (l.length < n)) ∧ Kp (some r) (some r) w w' := by
 have c0 : w.cell? (A6 r 0) = some (.string (S l)) := by rw [blk_cell hr]; rfl
 have c1 : w.cell? (A6 r 1) = some (.bool sh) := by rw [blk_cell hr]; rfl
 have f0 := blk_free hr 0
 have f1 := blk_free hr 1
 have hs : ((S l).size : Int) = l.length := by rw [S_size]
 have hs' : (S l).size = l.length := by rw [S_size]
 by_cases h : l.length < n
 ·go_enter Tryz.func138, Tryz.ntmps138
  go_wp2
  go_ret
  refine ⟨by simp [S_extract, List.take_of_length_le (Nat.le_of_lt h)], ?_, ((Kp.refl _ _).setR _ _).setR _ _⟩
  have := blk_set (blk_set hr 1 (.bool true)) 0 (.string ByteArray.empty)
  have e : (ByteArray.empty : ByteArray) = S [] := rfl
  simpa [RdAt, h, e, List.drop_of_length_le (Nat.le_of_lt h)] using this
 ·go_enter Tryz.func138, Tryz.ntmps138
  go_wp2
  go_ret
  refine ⟨by simp [S_extract], ?_, (Kp.refl _ _).setR _ _⟩
  have := blk_set hr 0 (.string ((S l).extract n l.length))
  simpa [RdAt, S_extract, h, List.take_of_length_le] using this
def numOf : List UInt8 → Int
 | [] => 0
 | a :: l => a.toNat + 256 * numOf l
theorem row_cell (w : World) (l : List UInt8) (cap : Nat) (t : TypeId) (fr : Nat × Nat) (k : Nat) (hk : k < l.length) : (w.alloc (.cells (bytesRow (S l) cap) t fr)).cell? (A6 w.heap.size k) = some (.int .u8 (l[k]).toNat) := by
 have h := heap_alloc_new w (.cells (bytesRow (S l) cap) t fr)
 simp only [World.cell?, h]
 simp [bytesRow, S, Array.getElem?_append_left, hk]
set_option maxHeartbeats 1000000 in
theorem number_any (r : Nat) (k : Nat) (l : List UInt8) (sh : Bool) (w : World) (hr : RdAt w r l sh) (hl : l.length ≤ 9223372036854775807) (hk : k ≤ 2) :
  Calls Tryz.prog 117 #[P6 r, I6 k] w fun e w' => e = .returned (I6 (numOf (l.take k))) ∧ RdAt w' r (l.drop k) (sh || decide (l.length < k)) ∧ Kp (some r) (some r) w w' := by
 have hT := take_any r k l sh w hr hl (by omega)
 have hlen : (l.take k).length ≤ 2 := by simp; omega
 generalize l.take k = x at *
 have cv := fun W => run_bytes_of_string (P := Tryz.prog) W 9 141 5 (S x) Tryz.underlying9 Tryz.underlying141 Tryz.underlying5
 rw [S_size] at cv
 rcases x with _ | ⟨a, _ | ⟨b, _ | ⟨c, x⟩⟩⟩
 ·go_enter Tryz.func117, Tryz.ntmps117
  go_wp2_with (go_at_call 138; refine hT.mono ?_; rintro e w1 ⟨rfl, hr1, hk1⟩)
  refine wp_loop_rounds 1 ?_
  rw [rounds_succ]
  go_wp2
  go_ret
  exact ⟨rfl, blk_alloc hr1 _, (hk1.alloc _).drew⟩
 ·have rc := fun W cap fr => row_cell W [a] cap 5 fr 0 (by simp)
  go_enter Tryz.func117, Tryz.ntmps117
  go_wp2_with (go_at_call 138; refine hT.mono ?_; rintro e w1 ⟨rfl, hr1, hk1⟩)
  refine wp_loop_rounds 2 ?_
  rw [rounds_succ]
  go_wp2
  rw [rounds_succ]
  go_wp2
  go_ret
  exact ⟨congrArg (fun n => Ending.returned (I6 n)) ((or_one a).trans (by simp [numOf])), blk_alloc hr1 _, (hk1.alloc _).drew⟩
 ·have rc0 := fun W cap fr => row_cell W [a, b] cap 5 fr 0 (by simp)
  have rc1 := fun W cap fr => row_cell W [a, b] cap 5 fr 1 (by simp)
  go_enter Tryz.func117, Tryz.ntmps117
  go_wp2_with (go_at_call 138; refine hT.mono ?_; rintro e w1 ⟨rfl, hr1, hk1⟩)
  refine wp_loop_rounds 3 ?_
  rw [rounds_succ]
  go_wp2
  rw [rounds_succ]
  go_wp2
  rw [rounds_succ]
  go_wp2
  go_ret
  exact ⟨congrArg (fun n => Ending.returned (I6 n)) ((or_two a b).trans (by simp [numOf])), blk_alloc hr1 _, (hk1.alloc _).drew⟩
 ·simp at hlen
end
end Go.Proofs.YtnnhnekfokbooaaGreatDoor
