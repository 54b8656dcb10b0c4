/- The walks of the replicas' small functions: tallies, names, what all roles have in common. -/
import Derived.Test.YtnnhnekfokbooaaChecked
import Derived.Test.YtnnhnekfokbooaaPlain
import Derived.Test.YtnnhnekfokbooaaFrame
import Derived.WalkKit
import Derived.WalkSpells
import Derived.WalkLawsBesides
import Derived.BigQuiet
namespace Go.Proofs.Ytnnhnekfokbooaa
open Go.RowKit
set_option linter.unusedSimpArgs false
set_option linter.unusedVariables false

theorem add_any (b o r : Nat) (x : Bool) (c : Int) (w : World) (hr : r < 7) (hx : w.cell? ⟨b, o + r, none⟩ = some (.bool x)) (hc : w.cell? ⟨b, o + 7, none⟩ = some (.int .i64 c)) (hf : ∀ k, w.frozen? ⟨b, k, none⟩ = false) (hc0 : 0 ≤ c) (hc1 : c ≤ 1000) :
    Calls Try.prog 77 #[.pointer (some ⟨b, o, none⟩), .int .i64 (r : Int)] w fun e w' => e = .returned (.bool (!x)) ∧ w' = if x then w else (w.setCell ⟨b, o + r, none⟩ (.bool true)).setCell ⟨b, o + 7, none⟩ (.int .i64 (c + 1)) := by
  have r0 : (0 : Int) ≤ (r : Int) := by omega
  have r1 : (r : Int) < 7 := by omega
  have hne : ¬ r = 7 := by omega
  cases x
  · go_enter Try.func77, Try.ntmps77
    go_wp2
    go_ret
    exact ⟨rfl, rfl⟩
  · go_enter Try.func77, Try.ntmps77
    go_wp2
    go_ret
    exact ⟨rfl, rfl⟩
theorem majority_any (b o : Nat) (c n : Int) (w : World) (hc : w.cell? ⟨b, o + 7, none⟩ = some (.int .i64 c)) (hc0 : 0 ≤ c) (hc1 : c ≤ 1000) :
    Calls Try.prog 79 #[.pointer (some ⟨b, o, none⟩), .int .i64 n] w fun e w' => e = .returned (.bool (decide (n < 2 * c))) ∧ w' = w := by
  go_enter Try.func79, Try.ntmps79
  go_wp2
  go_ret
  exact ⟨rfl, rfl⟩
theorem below_any (k b n : Int) (w : World) :
    Calls Try.prog 102 #[.agg #[.int .i64 k, .int .i64 b], .int .i64 n] w fun e w' => e = .returned (.bool (decide (b < n))) ∧ Below w.heap.size w w' := by
  go_enter Try.func102, Try.ntmps102
  go_wp2
  go_ret
  exact ⟨rfl, (Below.refl _ w).alloc (Nat.le_refl _) _⟩
theorem sameName_any (c q h : Int) (t : ByteArray) (c' q' h' : Int) (t' : ByteArray) (w : World) :
    Calls Try.prog 60 #[.agg #[.int .i64 c, .int .i64 q, .int .i64 h, .string t], .agg #[.int .i64 c', .int .i64 q', .int .i64 h', .string t']] w fun e w' => e = .returned (.bool (c == c' && q == q')) ∧ Below w.heap.size w w' := by
  cases hc : (c == c')
  · go_enter Try.func60, Try.ntmps60
    go_wp2
    go_ret
    exact ⟨rfl, ((Below.refl _ w).alloc (Nat.le_refl _) _).alloc (by simp) _⟩
  · go_enter Try.func60, Try.ntmps60
    go_wp2
    go_ret
    exact ⟨rfl, ((Below.refl _ w).alloc (Nat.le_refl _) _).alloc (by simp) _⟩
theorem room_any (b o : Nat) (ao : Option Addr) (n cap : Nat) (k : Int) (w : World) (hc : w.cell? ⟨b, o, none⟩ = some (.slice ao n cap)) (hn : n ≤ 1000) (hk0 : 0 ≤ k) (hk1 : k ≤ 1000) :
    Calls Try.prog 41 #[.pointer (some ⟨b, o, none⟩), .int .i64 k] w fun e w' => e = .returned (.bool (decide ((n : Int) + k ≤ 200))) ∧ w' = w := by
  go_enter Try.func41, Try.ntmps41
  go_wp2
  go_ret
  exact ⟨rfl, rfl⟩
end Go.Proofs.Ytnnhnekfokbooaa
