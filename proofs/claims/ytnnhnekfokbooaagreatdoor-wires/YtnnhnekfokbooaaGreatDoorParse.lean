/- The reader as plain functions on lists of bytes: what each method of the reader answers, and what is left. -/
import Derived.Test.YtnnhnekfokbooaaGreatDoorPlain
import Derived.Test.YtnnhnekfokbooaaGreatDoorWalkB
namespace Go.Proofs.YtnnhnekfokbooaaGreatDoor
open Go.RowKit

/-- A reader: what is left, and whether bytes were wanting. -/
structure Rs where
  l : List UInt8
  sh : Bool

def Rs.num (k : Nat) (s : Rs) : Int := numOf (s.l.take k)
def Rs.adv (k : Nat) (s : Rs) : Rs := ⟨s.l.drop k, s.sh || decide (s.l.length < k)⟩
/-- Behind a value's numbers: where its text begins. -/
def Rs.txt (s : Rs) : Rs := (((s.adv 1).adv 2).adv 1).adv 1
def Rs.val (s : Rs) : Pst := if s.num 1 = 0 then ⟨0, 0, 0, S []⟩ else ⟨s.num 1, (s.adv 1).num 2, ((s.adv 1).adv 2).num 1, S (s.txt.l.take ((((s.adv 1).adv 2).adv 1).num 1).toNat)⟩
def Rs.aft (s : Rs) : Rs := if s.num 1 = 0 then s.adv 1 else s.txt.adv ((((s.adv 1).adv 2).adv 1).num 1).toNat

theorem numOf_nonneg (l : List UInt8) : 0 ≤ numOf l := by
  induction l with
  | nil => simp [numOf]
  | cons a l ih => simp only [numOf]; omega
theorem numOf_one (l : List UInt8) : numOf (l.take 1) ≤ 255 := by
  rcases l with _ | ⟨a, l⟩
  · simp [numOf]
  · have := byte_lt a; simp [numOf]; omega
theorem numOf_two (l : List UInt8) : numOf (l.take 2) ≤ 65535 := by
  rcases l with _ | ⟨a, _ | ⟨b, l⟩⟩
  · simp [numOf]
  · have := byte_lt a; simp [numOf]; omega
  · have := byte_lt a; have := byte_lt b; simp [numOf]; omega
theorem adv_len (k : Nat) (s : Rs) : (s.adv k).l.length ≤ s.l.length := by simp [Rs.adv]

/-- A post as a value. -/
def Pst.v (p : Pst) : Value := .agg #[.int .i64 p.c, .int .i64 p.q, .int .i64 p.h, .string p.t]
def Rd (w : World) (r : Nat) (s : Rs) : Prop := RdAt w r s.l s.sh

theorem Rd.set {w : World} {r : Nat} {s : Rs} (h : Rd w r s) {a : Addr} (ha : r ≠ a.block) (u : Value) : Rd (w.setCell a u) r s := blk_set_other h ha u
theorem Rd.alloc {w : World} {r : Nat} {s : Rs} (h : Rd w r s) (o : Obj) : Rd (w.alloc o) r s := blk_alloc h o
theorem Rd.below {w w' : World} {r : Nat} {s : Rs} (h : Rd w r s) (hb : Below w.heap.size w w') : Rd w' r s := blk_below hb h
theorem Rd.kp {o o' : Option Nat} {w w' : World} {r : Nat} {s : Rs} (h : Rd w r s) (hk : Kp o o' w w') (ho : o ≠ some r) : Rd w' r s := blk_kp hk h ho

theorem num_any (r : Nat) (k : Nat) (s : Rs) (w : World) (hr : Rd w r s) (hl : s.l.length ≤ 9223372036854775807) (hk : k ≤ 2) :
    Calls Tryz.prog 117 #[.pointer (some ⟨r, 0, none⟩), .int .i64 k] w fun e w' => e = .returned (.int .i64 (s.num k)) ∧ Rd w' r (s.adv k) ∧ Kp (some r) (some r) w w' :=
  number_any r k s.l s.sh w hr hl hk
end Go.Proofs.YtnnhnekfokbooaaGreatDoor
