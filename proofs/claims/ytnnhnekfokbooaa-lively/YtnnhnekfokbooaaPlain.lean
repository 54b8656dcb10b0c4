/- The plain mathematics of messages as bytes: no Go in sight. -/
import Derived.WalkKit
namespace Go.Proofs.Ytnnhnekfokbooaa
open Go.RowKit

/-- A post: Client, Seq, Channel, Text. -/
structure Pst where
  c : Int
  q : Int
  h : Int
  t : ByteArray

/-- A post's four cells. -/
def Pst.cells (p : Pst) : List Value := [.int .i64 p.c, .int .i64 p.q, .int .i64 p.h, .string p.t]

/-- Is n between a and b? -/
def withinB (n a b : Int) : Bool := decide (a ≤ n) && decide (n ≤ b)
theorem withinB_true {n a b : Int} (h : withinB n a b = true) : a ≤ n ∧ n ≤ b := by
  unfold withinB at h; simpa using h
theorem withinB_mk {n a b : Int} (h : a ≤ n) (h' : n ≤ b) : withinB n a b = true := by
  unfold withinB; simp [h, h']
theorem withinB_false {n a b : Int} (h : withinB n a b = false) : n < a ∨ b < n := by
  unfold withinB at h; simp at h; omega
/-- Is a post nothing? -/
def nothingB (p : Pst) : Bool := p.c == 0 && p.q == 0 && p.h == 0 && p.t.toList.isEmpty
def rightPostB (p : Pst) : Bool := withinB p.c 1 9 && withinB p.q 1 1000 && withinB p.h 0 3 && decide ((p.t.size : Int) ≤ 12)
def rightValueB (p : Pst) : Bool := nothingB p || rightPostB p
end Go.Proofs.Ytnnhnekfokbooaa
