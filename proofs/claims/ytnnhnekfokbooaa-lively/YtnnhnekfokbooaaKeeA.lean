/- The walks of the statements' own helpers: pick, post, settled. -/
import Derived.Test.YtnnhnekfokbooaaSynR
import Derived.Test.YtnnhnekfokbooaaSynS
import Derived.Test.YtnnhnekfokbooaaFir
import Derived.Test.YtnnhnekfokbooaaRows
import Derived.BigQuiet
import Derived.WalkKit
import Derived.WalkSpells
import Derived.WalkLawsBesides
namespace Go.Proofs.Ytnnhnekfokbooaa
open Go.RowKit
set_option linter.unusedSimpArgs false
set_option linter.unusedVariables false

def I64 (n : Int) : Prop := -9223372036854775808 ≤ n ∧ n ≤ 9223372036854775807
def pickZ (c n : Int) : Int := (if c < 0 then -(c + 1) else c) % n
theorem pickZ_bound (c n : Int) (h : 0 < n) : 0 ≤ pickZ c n ∧ pickZ c n < n := ⟨Int.emod_nonneg _ (by omega), Int.emod_lt_of_pos _ h⟩
set_option maxHeartbeats 1000000 in
theorem pick_any (c n : Int) (w : World) (hc : I64 c) (hn0 : 0 < n) (hn1 : n ≤ 1000000) :
    Calls Try.prog 22 #[.int .i64 c, .int .i64 n] w fun e w' => e = .returned (.int .i64 (pickZ c n)) ∧ w' = w := by
  obtain ⟨hc0, hc1⟩ := hc
  by_cases h : c < 0
  · have e : -(c + 1).tmod n = pickZ c n := by
      unfold pickZ
      rw [if_pos h, ← Int.neg_tmod, Int.tmod_eq_emod_of_nonneg (by omega)]
    have He : Hid (-(c + 1).tmod n = pickZ c n) := e
    clear e
    go_enter Try.func22, Try.ntmps22
    go_wp2
    go_ret
    refine ⟨?_, rfl⟩
    rw [← He.out]; rfl
  · have e : c % n = pickZ c n := by unfold pickZ; rw [if_neg h]
    have He : Hid (c % n = pickZ c n) := e
    clear e
    go_enter Try.func22, Try.ntmps22
    go_wp2
    go_ret
    refine ⟨?_, rfl⟩
    rw [← He.out]; rfl
def abc : ByteArray := ⟨#[97, 98, 99, 100, 101, 102, 103, 104, 105, 106, 107, 108]⟩
def postZ (a b : Int) : Pst := ⟨1 + pickZ a 9, 1 + pickZ b 5, pickZ a 4, abc.extract 0 (pickZ b 13).toNat⟩
theorem abc_size (n : Nat) (h : n ≤ 12) : (abc.extract 0 n).size = n := by
  rw [ByteArray.size_extract]
  show min n 12 - 0 = n
  omega
theorem postZ_right (a b : Int) : rightPostB (postZ a b) = true := by
  have h1 := pickZ_bound a 9 (by decide)
  have h2 := pickZ_bound b 5 (by decide)
  have h3 := pickZ_bound a 4 (by decide)
  have h4 := pickZ_bound b 13 (by decide)
  have h5 := abc_size (pickZ b 13).toNat (by omega)
  unfold rightPostB withinB postZ
  simp only [h5]
  simp
  omega
set_option maxHeartbeats 2000000 in
theorem post_any (a b : Int) (w : World) (ha : I64 a) (hb : I64 b) :
    Calls Try.prog 13 #[.int .i64 a, .int .i64 b] w fun e w' => e = .returned (.agg #[.int .i64 (postZ a b).c, .int .i64 (postZ a b).q, .int .i64 (postZ a b).h, .string (postZ a b).t]) ∧ Below w.heap.size w w' := by
  have h1 := pickZ_bound a 9 (by decide)
  have h2 := pickZ_bound b 5 (by decide)
  have h3 := pickZ_bound a 4 (by decide)
  have h4 := pickZ_bound b 13 (by decide)
  have hP1 := fun w => pick_any a 9 w ha (by decide) (by decide)
  have hP2 := fun w => pick_any b 5 w hb (by decide) (by decide)
  have hP3 := fun w => pick_any a 4 w ha (by decide) (by decide)
  have hP4 := fun w => pick_any b 13 w hb (by decide) (by decide)
  unfold postZ
  dsimp only
  generalize pickZ a 9 = r1 at *
  generalize pickZ b 5 = r2 at *
  generalize pickZ a 4 = r3 at *
  generalize pickZ b 13 = r4 at *
  obtain ⟨n, rfl⟩ := Int.eq_ofNat_of_zero_le h4.1
  have hn : (n : Int) ≤ 12 := by omega
  have hn0 : (0 : Int) ≤ (n : Int) := by omega
  rw [Int.toNat_natCast]
  have w1 := wrap_of (1 + r1) (by omega) (by omega)
  have w2 := wrap_of (1 + r2) (by omega) (by omega)
  go_enter Try.func13, Try.ntmps13
  go_wp2_with fail
  refine (hP1 _).mono ?_
  rintro e w' ⟨rfl, rfl⟩
  clear hP1
  go_wp2_with fail
  refine (hP2 _).mono ?_
  rintro e w' ⟨rfl, rfl⟩
  clear hP2
  go_wp2_with fail
  refine (hP3 _).mono ?_
  rintro e w' ⟨rfl, rfl⟩
  clear hP3
  go_wp2_with fail
  refine (hP4 _).mono ?_
  rintro e w' ⟨rfl, rfl⟩
  clear hP4
  go_wp2
  refine bodyPost_ret (v := .agg #[.int .i64 (1 + r1), .int .i64 (1 + r2), .int .i64 r3, .string (abc.extract 0 n)]) (by simp [results, Try.results13, go_sem, abc]) rfl ⟨rfl, (Below.refl _ _).alloc (Nat.le_refl _) _⟩

/-- All that is on its way comes, in order. -/
def Sy.settle : Nat → Sy → Sy
  | 0, s => s
  | k + 1, s => if s.net = [] then s else Sy.settle k (s.deliver 0)
theorem settle_n : ∀ (k : Nat) (s : Sy), (Sy.settle k s).n = s.n
  | 0, s => rfl
  | k + 1, s => by
    unfold Sy.settle
    split
    · rfl
    · rw [settle_n k]; exact receive_n _ _ _
theorem deliver_n (s : Sy) (k : Nat) : (s.deliver k).n = s.n := receive_n _ _ _
theorem settle_step (k : Nat) (s : Sy) (h : s.net ≠ []) : Sy.settle (k + 1) s = Sy.settle k (s.deliver 0) := by
  rw [Sy.settle, if_neg h]
set_option maxHeartbeats 2000000 in
set_option maxRecDepth 100000 in
theorem settled_syn {w : World} {sb : Nat} {L : Lay} {s : Sy} (h : SynAt w sb L s) (ps : List Pst) :
    Calls Try.prog 30 #[.pointer (some ⟨sb, 0, none⟩)] w fun e w' => e = .returned (.bool true) ∧ Mvs s ps (Sy.settle 20000 s) ps ∧ SynTo w sb L w' (Sy.settle 20000 s) := by
  obtain ⟨S, hS⟩ : ∃ S, S = Sy.settle 20000 s := ⟨_, rfl⟩
  rw [← hS]
  have hSn : S.n = s.n := by rw [hS]; exact settle_n _ _
  go_enter Try.func30, Try.ntmps30
  go_wp2_with fail
  go_loopw [3, 4, 5] (fun i q1 q2 wr => ∃ (k : Nat) (s' : Sy), k ≤ 20000 ∧ i = .int .i64 k ∧ S = Sy.settle (20000 - k) s' ∧ s'.n = s.n ∧ Mvs s ps s' ps ∧ SynTo w sb L wr s') (fun i _ _ _ => 20000 - (intOf i).toNat)
  case atStart => exact ⟨0, s, by omega, rfl, hS, rfl, .refl _ _, SynTo.refl h⟩
  case round =>
    obtain ⟨k, s', hk, rfl, hSk, hn, hms, hto⟩ := hrel
    have HS : Hid (S = Sy.settle (20000 - k) s') := hSk
    clear hSk hS
    by_cases hkn : k < 20000
    · have q1 : (k : Int) < 20000 := by omega
      obtain ⟨L1, h1, e1, o1, k1⟩ := id hto
      have hN := net_syn h1
      go_wp2_with fail
      refine hN.mono ?_
      rintro e w2 ⟨v', l', rfl, hlm, hrows, hap, hown', hB⟩
      clear hN
      have hll : l'.length = s'.net.length := by rw [← hlm, List.length_map]
      obtain ⟨va, vc, hv, _⟩ := (owns_row hown').form
      subst hv
      clear hrows hap
      rw [hll] at *
      by_cases hnet : s'.net = []
      · have hz : ((s'.net.length : Int) == 0) = true := by simp [hnet]
        have hfin : Hid (S = s') := by
          show S = s'
          rw [HS.out]
          cases hd : 20000 - k with
          | zero => rfl
          | succ d => rw [Sy.settle, if_pos hnet]
        go_wp2_with fail
        go_ret
        refine ⟨rfl, ?_, ?_⟩
        · rw [hfin.out]; exact hms
        · rw [hfin.out]; exact hto.below hB
      · have hpos : 0 < s'.net.length := by cases hn : s'.net with | nil => exact absurd hn hnet | cons a l => simp
        have hz : ((s'.net.length : Int) == 0) = false := by simp; omega
        have hfin : Hid (S = Sy.settle (20000 - (k + 1)) (s'.deliver 0)) := by
          show S = _
          have e : 20000 - k = (20000 - (k + 1)) + 1 := by omega
          rw [HS.out, e, settle_step _ _ hnet]
        have hD := deliver_yes (h1.below hB) (k := 0) hpos
        go_wp2_with fail
        refine hD.mono ?_
        rintro e w3 ⟨rfl, hto3⟩
        clear hD
        have hto4 := SynTo.next e1 o1 k1 (deliver_n _ _) (SynTo.after h1 (deliver_n _ _) hB hto3)
        go_wp2_with fail
        go_roundw
        case rel => exact ⟨k + 1, s'.deliver 0, by omega, by go_num, hfin.out, (deliver_n _ _).trans hn, .step hms h1.ok (.dlv s' ps 0 hpos), hto4⟩
        case measure => simp [intOf]; omega
    · obtain rfl : k = 20000 := by omega
      go_wp2_with fail
      go_ret
      refine ⟨rfl, ?_, ?_⟩
      · rw [HS.out]; exact hms
      · rw [HS.out]; exact hto
end Go.Proofs.Ytnnhnekfokbooaa
