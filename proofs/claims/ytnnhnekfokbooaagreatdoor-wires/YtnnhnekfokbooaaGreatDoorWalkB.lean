/- The walks of the reader of package wire: take, number. -/
import Derived.Test.YtnnhnekfokbooaaGreatDoorRows
import Derived.Test.YtnnhnekfokbooaaGreatDoorFrame
import Derived.Lib.Strings
import Derived.Test.YtnnhnekfokbooaaGreatDoorBits
import Derived.WalkKit
import Derived.WalkSpells
import Derived.WalkLawsBesides
namespace Go.Proofs.YtnnhnekfokbooaaGreatDoor
open Go.RowKit
set_option linter.unusedSimpArgs false
set_option linter.unusedVariables false

/-- A string of a list of bytes. -/
def S (l : List UInt8) : ByteArray := ⟨l.toArray⟩

/-- The reader's block: what is left, and whether bytes were wanting. -/
def RdAt (w : World) (r : Nat) (l : List UInt8) (sh : Bool) : Prop := w.heap[r]? = some (.cells #[.string (S l), .bool sh] 147 (0, 0))

theorem S_size (l : List UInt8) : (S l).size = l.length := by simp [S, ByteArray.size]
theorem S_extract (l : List UInt8) (a b : Nat) : (S l).extract a b = S ((l.drop a).take (b - a)) := by
  rw [Lib.extract_eq]; simp [S]
theorem S_toList (l : List UInt8) : (S l).toList = l := by simp [S]

set_option maxHeartbeats 400000 in
theorem take_any (r : Nat) (n : Nat) (l : List UInt8) (sh : Bool) (w : World) (hr : RdAt w r l sh) (hl : l.length ≤ 9223372036854775807) (hn : n ≤ 255) :
    Calls Tryz.prog 138 #[.pointer (some ⟨r, 0, none⟩), .int .i64 n] w fun e w' => e = .returned (.string (S (l.take n))) ∧ RdAt w' r (l.drop n) (sh || decide (l.length < n)) ∧ Kp (some r) (some r) w w' := by
  have c0 : w.cell? ⟨r, 0, none⟩ = some (.string (S l)) := by rw [blk_cell hr]; rfl
  have c1 : w.cell? ⟨r, 1, none⟩ = some (.bool sh) := by rw [blk_cell hr]; rfl
  have f0 := blk_free hr 0
  have f1 := blk_free hr 1
  have hs : ((S l).size : Int) = l.length := by rw [S_size]
  have hs' : (S l).size = l.length := by rw [S_size]
  by_cases h : l.length < n
  · go_enter Tryz.func138, Tryz.ntmps138
    go_wp2
    go_ret
    refine ⟨by simp [S_extract, List.take_of_length_le (Nat.le_of_lt h)], ?_, ((Kp.refl _ _).setR _ _).setR _ _⟩
    have := blk_set (blk_set hr 1 (.bool true)) 0 (.string ByteArray.empty)
    have e : (ByteArray.empty : ByteArray) = S [] := rfl
    simpa [RdAt, h, e, List.drop_of_length_le (Nat.le_of_lt h)] using this
  · go_enter Tryz.func138, Tryz.ntmps138
    go_wp2
    go_ret
    refine ⟨by simp [S_extract], ?_, (Kp.refl _ _).setR _ _⟩
    have := blk_set hr 0 (.string ((S l).extract n l.length))
    simpa [RdAt, S_extract, h, List.take_of_length_le] using this

/-- The number that some bytes spell, the low one first. -/
def numOf : List UInt8 → Int
  | [] => 0
  | a :: l => a.toNat + 256 * numOf l

theorem row_cell (w : World) (l : List UInt8) (cap : Nat) (t : TypeId) (fr : Nat × Nat) (k : Nat) (hk : k < l.length) : (w.alloc (.cells (bytesRow (S l) cap) t fr)).cell? ⟨w.heap.size, k, none⟩ = some (.int .u8 (l[k]).toNat) := by
  have h := heap_alloc_new w (.cells (bytesRow (S l) cap) t fr)
  simp only [World.cell?, h]
  simp [bytesRow, S, Array.getElem?_append_left, hk]

set_option maxHeartbeats 1000000 in
theorem number_any (r : Nat) (k : Nat) (l : List UInt8) (sh : Bool) (w : World) (hr : RdAt w r l sh) (hl : l.length ≤ 9223372036854775807) (hk : k ≤ 2) :
    Calls Tryz.prog 117 #[.pointer (some ⟨r, 0, none⟩), .int .i64 k] w fun e w' => e = .returned (.int .i64 (numOf (l.take k))) ∧ RdAt w' r (l.drop k) (sh || decide (l.length < k)) ∧ Kp (some r) (some r) w w' := by
  have hT := take_any r k l sh w hr hl (by omega)
  have hlen : (l.take k).length ≤ 2 := by simp; omega
  generalize l.take k = x at *
  have cv := fun W => run_bytes_of_string (P := Tryz.prog) W 9 141 5 (S x) Tryz.underlying9 Tryz.underlying141 Tryz.underlying5
  rw [S_size] at cv
  rcases x with _ | ⟨a, _ | ⟨b, _ | ⟨c, x⟩⟩⟩
  · go_enter Tryz.func117, Tryz.ntmps117
    go_wp2_with (go_at_call 138; refine hT.mono ?_; rintro e w1 ⟨rfl, hr1, hk1⟩)
    refine wp_loop_rounds 1 ?_
    rw [rounds_succ]
    go_wp2
    go_ret
    exact ⟨rfl, blk_alloc hr1 _, (hk1.alloc _).drew⟩
  · have rc := fun W cap fr => row_cell W [a] cap 5 fr 0 (by simp)
    go_enter Tryz.func117, Tryz.ntmps117
    go_wp2_with (go_at_call 138; refine hT.mono ?_; rintro e w1 ⟨rfl, hr1, hk1⟩)
    refine wp_loop_rounds 2 ?_
    rw [rounds_succ]
    go_wp2
    rw [rounds_succ]
    go_wp2
    go_ret
    exact ⟨congrArg (fun n => Ending.returned (.int .i64 n)) ((or_one a).trans (by simp [numOf])), blk_alloc hr1 _, (hk1.alloc _).drew⟩
  · have rc0 := fun W cap fr => row_cell W [a, b] cap 5 fr 0 (by simp)
    have rc1 := fun W cap fr => row_cell W [a, b] cap 5 fr 1 (by simp)
    go_enter Tryz.func117, Tryz.ntmps117
    go_wp2_with (go_at_call 138; refine hT.mono ?_; rintro e w1 ⟨rfl, hr1, hk1⟩)
    refine wp_loop_rounds 3 ?_
    rw [rounds_succ]
    go_wp2
    rw [rounds_succ]
    go_wp2
    rw [rounds_succ]
    go_wp2
    go_ret
    exact ⟨congrArg (fun n => Ending.returned (.int .i64 n)) ((or_two a b).trans (by simp [numOf])), blk_alloc hr1 _, (hk1.alloc _).drew⟩
  · simp at hlen
end Go.Proofs.YtnnhnekfokbooaaGreatDoor
