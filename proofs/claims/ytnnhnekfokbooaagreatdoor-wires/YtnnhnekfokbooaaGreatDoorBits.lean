/- Small facts on bits: the plain arithmetic of bytes that are put together. -/
import Derived.WalkKit
namespace Go.Proofs.YtnnhnekfokbooaaGreatDoor
open Go.RowKit
theorem wrap64_of (n : Int) (h : -9223372036854775808 ≤ n) (h' : n < 9223372036854775808) : wrap64 n = n := by
  unfold wrap64; omega
theorem bits_or_nat (a b : Nat) (ha : a < 65536) (hb : b < 65536) (hc : a ||| b < 65536) : bits .or .i64 (a : Int) (b : Int) = ((a ||| b : Nat) : Int) := by
  have e : ∀ n : Nat, n < 65536 → (BitVec.ofInt 64 (n : Int)).toNat = n := fun n h => by
    rw [BitVec.toNat_ofInt]
    omega
  have e1 : (BitVec.ofInt 64 (a : Int) ||| BitVec.ofInt 64 (b : Int)).toNat = (a ||| b) := by
    rw [BitVec.toNat_or, e a ha, e b hb]
  show IntKind.wrap .i64 ((BitVec.ofInt 64 (a : Int) ||| BitVec.ofInt 64 (b : Int)).toNat : Int) = _
  rw [e1]
  generalize (a ||| b) = c at hc
  unfold IntKind.wrap
  simp [IntKind.bits, IntKind.signed]
  omega
theorem byte_lt (a : UInt8) : a.toNat < 256 := a.toNat_lt
theorem or_one (a : UInt8) : bits .or .i64 0 (wrap64 (wrap64 (a.toNat : Int))) = (a.toNat : Int) := by
  have := byte_lt a
  rw [wrap64_of (a.toNat : Int) (by omega) (by omega), wrap64_of (a.toNat : Int) (by omega) (by omega)]
  have h := bits_or_nat 0 a.toNat (by omega) (by omega) (by simp; omega)
  simpa using h
theorem or_two (a b : UInt8) : bits .or .i64 (bits .or .i64 0 (wrap64 (wrap64 (a.toNat : Int)))) (wrap64 (wrap64 (b.toNat : Int) * 256)) = (a.toNat : Int) + 256 * (b.toNat : Int) := by
  have := byte_lt a
  have := byte_lt b
  rw [or_one, wrap64_of (b.toNat : Int) (by omega) (by omega), wrap64_of _ (by omega) (by omega)]
  have e : a.toNat ||| (b.toNat * 256) = a.toNat + b.toNat * 256 := by
    have h := Nat.two_pow_add_eq_or_of_lt (i := 8) (b := a.toNat) (by omega) b.toNat
    rw [Nat.or_comm, Nat.mul_comm b.toNat 256, Nat.add_comm]
    exact h.symm
  have h := bits_or_nat a.toNat (b.toNat * 256) (by omega) (by omega) (by omega)
  rw [e] at h
  have e2 : ((b.toNat : Int) * 256) = ((b.toNat * 256 : Nat) : Int) := by omega
  rw [e2, h]
  omega
end Go.Proofs.YtnnhnekfokbooaaGreatDoor
