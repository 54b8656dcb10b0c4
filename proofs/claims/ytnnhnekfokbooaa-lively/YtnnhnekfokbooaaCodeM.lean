/- The walk of the slot behind all that are decided or kept. -/
import Derived.Test.YtnnhnekfokbooaaCodeL
namespace Go.Proofs.Ytnnhnekfokbooaa
open Go.RowKit
set_option linter.unusedSimpArgs false
set_option linter.unusedVariables false

/-- The least slot from which on, below k, none is decided or kept. -/
def nextB (dm : Nat → Bool) (kb : Nat → Int) : Nat → Nat
  | 0 => 0
  | k + 1 => if !dm k && kb k == 0 then nextB dm kb k else k + 1

set_option maxHeartbeats 4000000 in
set_option maxRecDepth 100000 in
theorem nextBehind_any (rb pb : Nat) (dm : Nat → Bool) (kb : Nat → Int) (w : World) (hd : ∀ k, k < 16 → w.cell? ⟨rb, 101 + k * 5, none⟩ = some (.bool (dm k))) (hk : ∀ k, k < 16 → w.cell? ⟨pb, 10 + k * 6 + 1, none⟩ = some (.int .i64 (kb k))) :
    Calls Try.prog 85 #[.pointer (some ⟨rb, 0, none⟩), .pointer (some ⟨pb, 0, none⟩)] w fun e w' => e = .returned (.int .i64 (nextB dm kb 16 : Int)) ∧ Below w.heap.size w w' := by
  have hrl := World.block_lt_of_cell? w _ (hd 0 (by omega))
  have hpl := World.block_lt_of_cell? w _ (hk 0 (by omega))
  obtain ⟨N, hN⟩ : ∃ N, N = nextB dm kb 16 := ⟨_, rfl⟩
  rw [← hN]
  go_enter Try.func85, Try.ntmps85
  go_wp2_with fail
  go_loopw [5] (fun i wr => ∃ k : Nat, k ≤ 16 ∧ i = .int .i64 k ∧ N = nextB dm kb k ∧ Below w.heap.size w wr) (fun i _ => (intOf i).toNat)
  case atStart => exact ⟨16, Nat.le_refl _, rfl, hN, Below.refl _ _⟩
  case round =>
    obtain ⟨k, hk16, rfl, hNk, hB⟩ := hrel
    rcases k with _ | k
    · go_wp2_with fail
      go_ret
      simp only [nextB] at hNk
      subst hNk
      exact ⟨rfl, hB⟩
    · have c1 : wr.cell? ⟨rb, 101 + k * 5, none⟩ = some (.bool (dm k)) := (hB.cell (p := ⟨rb, 101 + k * 5, none⟩) hrl).trans (hd k (by omega))
      have c2 : wr.cell? ⟨pb, 10 + k * 6 + 1, none⟩ = some (.int .i64 (kb k)) := (hB.cell (p := ⟨pb, 10 + k * 6 + 1, none⟩) hpl).trans (hk k (by omega))
      have HN : Hid (N = nextB dm kb (k + 1)) := hNk
      clear hNk hN hd hk
      have q0 : (0 : Int) < ((k + 1 : Nat) : Int) := by omega
      have q1 : (0 : Int) ≤ ((k + 1 : Nat) : Int) - 1 := by omega
      have q2 : ((k + 1 : Nat) : Int) - 1 < 16 := by omega
      have q3 : (((k + 1 : Nat) : Int) - 1).toNat = k := by omega
      have hdg : decide ((0 : Int) < ((k + 1 : Nat) : Int)) = true := decide_eq_true q0
      cases hm : dm k
      · rw [hm] at c1
        cases hb : (kb k == 0)
        · have hfin : N = k + 1 := by rw [HN.out, nextB, hm, hb]; rfl
          go_wp2_with fail
          go_ret
          rw [hfin]
          exact ⟨rfl, hB⟩
        · have hfin : N = nextB dm kb k := by rw [HN.out, nextB, hm, hb]; rfl
          go_wp2_with fail
          go_roundw
          case rel => exact ⟨k, by omega, by go_num, hfin, hB⟩
          case measure => simp [intOf]
      · rw [hm] at c1
        have hfin : N = k + 1 := by rw [HN.out, nextB, hm]; rfl
        go_wp2_with fail
        go_ret
        rw [hfin]
        exact ⟨rfl, hB⟩
end Go.Proofs.Ytnnhnekfokbooaa
