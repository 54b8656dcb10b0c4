/- The walks of the document's answer (package synodref): its small tests, and numbers as text. -/
import Derived.Test.YtnnhnekfokbooaaGreatDoorLaws
import Derived.BigQuiet
import Derived.WalkKit
import Derived.WalkSpells
import Derived.WalkLawsBesides
namespace Go.Proofs.YtnnhnekfokbooaaGreatDoor
open Go.RowKit
set_option linter.unusedSimpArgs false
set_option linter.unusedVariables false

set_option maxHeartbeats 400000 in
theorem between_any (n a b : Int) (w : World) :
    Calls Tryz.prog 81 #[.int .i64 n, .int .i64 a, .int .i64 b] w fun e w' => e = .returned (.bool (withinB n a b)) ∧ w' = w := by
  by_cases h1 : a ≤ n
  · by_cases h2 : n ≤ b
    · go_enter Tryz.func81, Tryz.ntmps81
      go_wp2
      go_ret
      exact ⟨by simp [withinB, h1, h2], rfl⟩
    · go_enter Tryz.func81, Tryz.ntmps81
      go_wp2
      go_ret
      exact ⟨by simp [withinB, h1]; omega, rfl⟩
  · go_enter Tryz.func81, Tryz.ntmps81
    go_wp2
    go_ret
    exact ⟨by simp [withinB]; omega, rfl⟩

set_option maxHeartbeats 400000 in
theorem rballot_any (n : Int) (w : World) :
    Calls Tryz.prog 82 #[.int .i64 n] w fun e w' => e = .returned (.bool (withinB n 1 8007)) ∧ w' = w := by
  by_cases h1 : 1 ≤ n
  · by_cases h2 : n ≤ 8007
    · go_enter Tryz.func82, Tryz.ntmps82
      go_wp2
      go_ret
      exact ⟨by simp [withinB, h1, h2], rfl⟩
    · go_enter Tryz.func82, Tryz.ntmps82
      go_wp2
      go_ret
      exact ⟨by simp [withinB, h1]; omega, rfl⟩
  · go_enter Tryz.func82, Tryz.ntmps82
    go_wp2
    go_ret
    exact ⟨by simp [withinB]; omega, rfl⟩

set_option maxHeartbeats 1000000 in
theorem rpost_any (c q h : Int) (t : ByteArray) (w : World) :
    Calls Tryz.prog 68 #[.agg #[.int .i64 c, .int .i64 q, .int .i64 h, .string t]] w fun e w' => e = .returned (.bool (rightPostB ⟨c, q, h, t⟩)) ∧ Below w.heap.size w w' := by
  go_enter Tryz.func68, Tryz.ntmps68
  go_wp2
  all_goals
    go_ret
    exact ⟨by simp [rightPostB, withinB]; omega, (Below.refl _ _).alloc (Nat.le_refl _) _⟩

set_option maxHeartbeats 1000000 in
theorem rvalue_any (c q h : Int) (t : ByteArray) (w : World) :
    Calls Tryz.prog 83 #[.agg #[.int .i64 c, .int .i64 q, .int .i64 h, .string t]] w fun e w' => e = .returned (.bool (rightValueB ⟨c, q, h, t⟩)) ∧ Below w.heap.size w w' := by
  cases h1 : rightPostB ⟨c, q, h, t⟩
  · have HE : Hid (rightValueB ⟨c, q, h, t⟩ = nothingB ⟨c, q, h, t⟩) := by
      show _ = _
      simp [rightValueB, h1]
    go_enter Tryz.func83, Tryz.ntmps83
    go_wp2_with fail
    refine (rpost_any _ _ _ _ _).mono ?_
    rintro e w1 ⟨rfl, hb⟩
    have hp := blk_cell (blk_below hb (blk_new w _))
    go_wp2
    all_goals
      go_ret
      exact ⟨by rw [HE.out]; simp [nothingB, *], ((Below.refl _ _).alloc (Nat.le_refl _) _).trans (hb.mono (by simp))⟩
  · go_enter Tryz.func83, Tryz.ntmps83
    go_wp2_with fail
    refine (rpost_any _ _ _ _ _).mono ?_
    rintro e w1 ⟨rfl, hb⟩
    go_wp2
    go_ret
    exact ⟨by simp [rightValueB, h1], ((Below.refl _ _).alloc (Nat.le_refl _) _).trans (hb.mono (by simp))⟩

set_option maxHeartbeats 1000000 in
theorem one_any (n : Int) (w : World) (h0 : 0 ≤ n) (h1 : n ≤ 1000000) :
    Calls Tryz.prog 50 #[.int .i64 n] w fun e w' => e = .returned (.string (S (encA 1 [n]))) ∧ Below w.heap.size w w' := by
  have hcv : ∀ W : World, (convert 141 9 (.slice (some ⟨W.heap.size, 0, none⟩) 1 1)).run Tryz.prog (W.alloc (.cells #[.int .u8 (n % 256)] 5)) = .ok (.string (S (encA 1 [n]))) (W.alloc (.cells #[.int .u8 (n % 256)] 5)) := fun W =>
    run_convert_bytes_back _ _ _ 5 _ 1 [byteOf n] Tryz.underlying141 Tryz.underlying5 Tryz.underlying9 (fun j hj => by
      have hj0 : j = 0 := by simpa using hj
      subst hj0
      have := news_new W W.heap.size rfl #[.int .u8 (n % 256)] 5 0 _ rfl
      rw [this]
      simp [byteOf_nat])
  go_enter Tryz.func50, Tryz.ntmps50
  go_wp2
  go_ret
  exact ⟨rfl, (Below.refl _ _).alloc (Nat.le_refl _) _⟩

set_option maxHeartbeats 1000000 in
theorem two_any (n : Int) (w : World) (h0 : 0 ≤ n) (h1 : n ≤ 1000000) :
    Calls Tryz.prog 51 #[.int .i64 n] w fun e w' => e = .returned (.string (S (encA 2 [n]))) ∧ Below w.heap.size w w' := by
  have e1 : n % 256 % 256 = n % 256 := by omega
  have hcv : ∀ W : World, (convert 141 9 (.slice (some ⟨W.heap.size, 0, none⟩) 2 2)).run Tryz.prog (W.alloc (.cells #[.int .u8 (n % 256), .int .u8 (n / 256 % 256)] 5)) = .ok (.string (S (encA 2 [n]))) (W.alloc (.cells #[.int .u8 (n % 256), .int .u8 (n / 256 % 256)] 5)) := fun W =>
    run_convert_bytes_back _ _ _ 5 _ 2 [byteOf n, byteOf (n / 256)] Tryz.underlying141 Tryz.underlying5 Tryz.underlying9 (fun j hj => by
      rcases j with _ | _ | j
      · have := news_new W W.heap.size rfl #[.int .u8 (n % 256), .int .u8 (n / 256 % 256)] 5 0 _ rfl
        rw [this]
        simp [byteOf_nat]
      · have := news_new W W.heap.size rfl #[.int .u8 (n % 256), .int .u8 (n / 256 % 256)] 5 1 _ rfl
        rw [this]
        simp [byteOf_nat]
      · simp at hj; omega)
  go_enter Tryz.func51, Tryz.ntmps51
  go_wp2
  go_ret
  exact ⟨rfl, (Below.refl _ _).alloc (Nat.le_refl _) _⟩

/-- A world in which one block of old lies as it lay, and nothing older has turned. -/
def BS (W : World) (b : Nat) (cs : Array Value) (t : TypeId) (w : World) : Prop := w.heap[b]? = some (.cells cs t (0, 0)) ∧ Below W.heap.size W w
theorem BS.drew {W w : World} {b : Nat} {cs : Array Value} {t : TypeId} (h : BS W b cs t w) : BS W b cs t w.drew := ⟨h.1, h.2.drew⟩
theorem BS.below {W w w' : World} {b : Nat} {cs : Array Value} {t : TypeId} (h : BS W b cs t w) (hb : Below w.heap.size w w') : BS W b cs t w' :=
  ⟨blk_below hb h.1, h.2.trans (hb.mono h.2.size)⟩
theorem S_add (a b : List UInt8) : S a ++ S b = S (a ++ b) := by
  apply ByteArray.ext; simp [S]
theorem S_add' (a : List UInt8) (t : ByteArray) : S a ++ t = S (a ++ t.data.toList) := by
  have := S_add a t.data.toList
  rw [S_eta] at this
  exact this
theorem str_add (a b : List UInt8) (h : a.length + b.length ≤ 1000000) (w : World) : (binOp .add 9 (.string (S a)) (.string (S b))).run Tryz.prog w = .ok (.string (S (a ++ b))) w := by
  have := run_string_add_sum (P := Tryz.prog) w (S a) (S b) (by rw [S_size, S_size]; omega)
  rw [S_add] at this
  simpa [binOp] using this
theorem str_add' (a : List UInt8) (t : ByteArray) (h : a.length + t.size ≤ 1000000) (w : World) : (binOp .add 9 (.string (S a)) (.string t)).run Tryz.prog w = .ok (.string (S (a ++ t.data.toList))) w := by
  have e : t.data.toList.length = t.size := by rw [Array.length_toList]; rfl
  have := str_add a t.data.toList (by omega) w
  rw [S_eta] at this
  exact this
theorem text_no (c q h : Int) (t : ByteArray) (w : World) (hc : (c == 0) = true) :
    Calls Tryz.prog 52 #[.agg #[.int .i64 c, .int .i64 q, .int .i64 h, .string t]] w fun e w' => e = .returned (.string (S (encA 1 [0]))) ∧ Below w.heap.size w w' := by
  go_enter Tryz.func52, Tryz.ntmps52
  go_wp2_with fail
  refine (one_any 0 _ (by decide) (by decide)).mono ?_
  rintro e w1 ⟨rfl, hb⟩
  go_wp2
  go_ret
  exact ⟨rfl, ((Below.refl _ _).alloc (Nat.le_refl _) _).trans (hb.mono (by simp))⟩
end Go.Proofs.YtnnhnekfokbooaaGreatDoor
