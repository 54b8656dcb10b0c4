/- The walk of Firm (laid by mkkeed.py). -/
import Derived.Test.YtnnhnekfokbooaaKeeB
import Derived.Test.YtnnhnekfokbooaaKeeC
import Derived.Test.YtnnhnekfokbooaaKeeD0
import Derived.BigQuiet
namespace Go.Proofs.Ytnnhnekfokbooaa
open Go.RowKit
set_option linter.unusedSimpArgs false
set_option linter.unusedVariables false

set_option maxHeartbeats 4000000 in
set_option maxRecDepth 100000 in
theorem firm_any (raw : Int) (hraw : I64 raw) (sv : Value) (script : List St3) (w : World) (hs : StAt w sv script) :
    Calls Try.prog 5 #[.int .i64 raw, sv] w fun e w' => e = .returned (.bool true) ∧ Below w.heap.size w w' := by
  obtain ⟨i0, hi, hz0, hz1, hz2⟩ := info_parts Try.infoInt
  have hBg := begins_any raw hraw w
  obtain ⟨sa, sc, rfl, hsf⟩ := hs.form
  have hslen := hs.len
  go_enter Try.func5, Try.ntmps5
  go_wp2_with fail
  refine hBg.mono ?_
  rintro e w1 ⟨cb, sb, L, n, lb, rfl, hn, hc, hown, hlb, hlbn, hB1⟩
  clear hBg
  have hn4 : n = 1 ∨ n = 3 ∨ n = 5 ∨ n = 7 := by
    have h0 := pickZ_bound raw 4 (by decide)
    omega
  clear hn
  have hrun : Run w w1 cb sb L (newSy n) (.slice none 0 0) (.slice (some ⟨lb, 0, none⟩) n n) [] := ⟨hc, hown, hB1⟩
  have hn7 : n ≤ 7 := hc.syn.ok.n1
  have hcc : w1.cell? ⟨cb, 1, none⟩ = some (.int .i64 (n : Int)) := (blk_cell hc.blk 1).trans rfl
  go_wp2_with (at_make; refine wpList_make_full _ rfl (.tmp 19) (.tmp 19) 22 rfl w1.heap.size 3 i0 _ 1 Try.underlying22 hi hz0 hz1 _ _ _ _ n rfl rfl rfl rfl (by rw [hz2]; omega) (by unfold maxLen; omega) (Nat.le_refl _) ?_; intro w2 hown2 hgr2)
  obtain ⟨cur, hg2, hcs⟩ : ∃ cur : Array Value, w2.heap[w1.heap.size]? = some (.cells cur 3 (0, 0)) ∧ cur = icz (List.replicate n 0) := by
    rcases hown2.2 with ⟨h1, _⟩ | ⟨g, cap', cur, h1, _, h2, _, _, h3, h4⟩
    · cases h1
    · cases h1
      refine ⟨cur, h2, ?_⟩
      have h5 : cur.toList = (List.replicate n (0 : Int)).map (Value.int .i64) := by
        rw [← List.take_of_length_le (l := cur.toList) (i := n * 1) (by rw [Array.length_toList]; omega), h4]
        rcases hn4 with rfl | rfl | rfl | rfl <;> kernel_rfl
      unfold icz
      rw [← h5]
  subst hcs
  have hB2 : Below w1.heap.size w1 w2 := ⟨hgr2.os, hgr2.tape, hgr2.output, hgr2.size, fun k hk => hgr2.block k hk (by simp)⟩
  have hrun2 := hrun.over hB2
  have hwb := hB1.size
  have hwno : ∀ k, cOwn cb sb L n (.slice none 0 0) k → k ≠ w1.heap.size := fun k hk => by have := hc.own_lt hk; omega
  clear hown2 hgr2 hcc
  have hwbge : w.heap.size ≤ w1.heap.size := hwb
  generalize w1.heap.size = wb at *
  clear hc hown hlb hrun hB2 hB1
  go_loopw [7, 8, 9, 10, 11] (fun i q8 q9 q10 q11 wr => ∃ (j : Nat) (s : Sy) (ps : List Pst) (L : Lay) (pv : Value) (ws : List Int), j ≤ script.length ∧ i = .int .i64 j ∧ Run w wr cb sb L s pv (.slice (some ⟨lb, 0, none⟩) n n) ps ∧ s.n = n ∧ wr.heap[wb]? = some (.cells (icz ws) 3 (0, 0)) ∧ ws.length = n ∧ (∀ k, k < n → ws.getD k 0 ≤ (s.rep k).pr) ∧ (∀ k, cOwn cb sb L n pv k → k ≠ wb)) (fun i _ _ _ _ _ => script.length - (intOf i).toNat)
  case atStart =>
    refine ⟨0, newSy n, [], L, .slice none 0 0, List.replicate n 0, Nat.zero_le _, rfl, hrun2, rfl, hg2, by simp, fun k hk => ?_, hwno⟩
    rw [List.getD_eq_getElem?_getD, List.getElem?_replicate]
    rw [if_pos hk]
    exact (hrun2.chat.syn.ok.repOk hk).pr0
  case round =>
    obtain ⟨j, s, ps, L1, pv, ws, hj, rfl, hr, hsn, hwbk, hwl, hws, hwn⟩ := hrel
    by_cases hjn : j < script.length
    · obtain ⟨g, off, rfl, hg, hcells⟩ := hsf (by intro e; rw [e] at hjn; simp at hjn)
      obtain ⟨x0, x1, x2⟩ := hcells j hjn
      have hnum := hs.nums script[j] (List.getElem_mem hjn)
      generalize script[j] = x at *
      obtain ⟨xk, xa, xb⟩ := x
      have y0 := (hr.below.cell (p := ⟨g, off + j * 3, none⟩) hg).trans x0
      have y1 := (hr.below.cell (p := ⟨g, off + j * 3 + 1, none⟩) hg).trans x1
      have y2 := (hr.below.cell (p := ⟨g, off + j * 3 + 2, none⟩) hg).trans x2
      have q0 : (0 : Int) ≤ (j : Int) := by omega
      have q1 : (j : Int) < (script.length : Int) := by omega
      have hST := step_syn hr.chat xk xa xb hnum.2.1 hnum.2.2
      clear x0 x1 x2 hcells
      go_wp2_with fail
      refine hST.mono ?_
      rintro e w3 ⟨rfl, s3, ps3, hmv, hto⟩
      clear hST y0 y1 y2
      obtain ⟨L3, pv3, hr3, hn3, ho3, hk3⟩ := hr.next hto
      have hn3' : s3.n = n := hn3.trans hsn
      have hpm := mvs_pr hr.chat.good hmv
      have hwb3 := blk_keeps hk3 hwbk (fun hx => hwn _ (by rw [← hsn]; exact hx) rfl)
      have hwb3l := lt_of_block hwbk
      have hwn3 : ∀ k, cOwn cb sb L3 n pv3 k → k ≠ wb := fun k hk => by
        rcases ho3 k (by rw [hsn]; exact hk) with h9 | h9
        · exact hwn k (by rw [← hsn]; exact h9)
        · omega
      have hws3 : ∀ k, k < n → ws.getD k 0 ≤ (s3.rep k).pr := fun k hk => Int.le_trans (hws k hk) (hpm k (by rw [hsn]; exact hk))
      have hk0 : w3.cell? ⟨cb, 1, none⟩ = some (.int .i64 (n : Int)) := (blk_cell hr3.chat.blk 1).trans (by rw [hn3']; rfl)
      clear hws hwbk hwn hto ho3 hk3 hpm
      go_wp2_with fail
      go_loopw [9, 10, 11] (fun i q10 q11 wr => ∃ (k : Nat) (ws : List Int), k ≤ n ∧ i = .int .i64 k ∧ Run w wr cb sb L3 s3 pv3 (.slice (some ⟨lb, 0, none⟩) n n) ps3 ∧ wr.heap[wb]? = some (.cells (icz ws) 3 (0, 0)) ∧ ws.length = n ∧ (∀ k, k < n → ws.getD k 0 ≤ (s3.rep k).pr)) (fun i _ _ _ => n - (intOf i).toNat)
      case atStart => exact ⟨0, ws, Nat.zero_le _, rfl, hr3, hwb3, hwl, hws3⟩
      case round =>
        obtain ⟨k, ws4, hk, rfl, hr4, hwb4, hwl4, hws4⟩ := hrel
        have d0 : wr.cell? ⟨cb, 0, none⟩ = some (.pointer (some ⟨sb, 0, none⟩)) := (blk_cell hr4.chat.blk 0).trans rfl
        have d1 : wr.cell? ⟨cb, 1, none⟩ = some (.int .i64 (n : Int)) := (blk_cell hr4.chat.blk 1).trans (by rw [hn3']; rfl)
        by_cases hkn : k < n
        · have hRo := role_yes hr4.chat.syn (i := k) (by rw [hn3']; exact hkn)
          go_wp2_with fail
          refine hRo.mono ?_
          rintro e w5 ⟨rfl, hB5⟩
          clear hRo
          have hr5 := hr4.over hB5
          have hwb5 := blk_below hB5 hwb4
          have hwk := icz_at (l := ws4) (k := k) (by omega)
          have hwle := hws4 k hkn
          have hfi := hr4.chat.good.fi k (by rw [hn3']; exact hkn)
          have hrok := hr4.chat.syn.ok.repOk (i := k) (by rw [hn3']; exact hkn)
          have hwnk : ¬ cOwn cb sb L3 s3.n pv3 wb := fun hx => hwn3 wb (by rw [← hn3']; exact hx) rfl
          have hws5 : ∀ j, j < n → (ws4.set k (s3.rep k).pr).getD j 0 ≤ (s3.rep j).pr := fun j hj => by
            by_cases e : j = k
            · subst e
              rw [List.getD_eq_getElem?_getD, List.getElem?_set_self (by omega)]
              exact Int.le_refl _
            · rw [List.getD_eq_getElem?_getD, List.getElem?_set_ne (Ne.symm e), ← List.getD_eq_getElem?_getD]
              exact hws4 j hj
          have Hws : Hid (∀ j, j < n → (ws4.set k (s3.rep k).pr).getD j 0 ≤ (s3.rep j).pr) := hws5
          have hpr0 := hrok.pr0
          have hrlo := hrok.rl
          have p0 : (0 : Int) ≤ (k : Int) := by omega
          have p1 : (k : Int) < (n : Int) := by omega
          have hlt : decide ((s3.rep k).pr < ws4.getD k 0) = false := decide_eq_false (by omega)
          unfold FI at hfi
          clear hws4 hws5 hrok
          generalize ws4.getD k 0 = wk at *
          generalize (s3.rep k).pr = pr at *
          cases hrl : (s3.rep k).rl with
          | idle =>
            rw [hrl] at hfi hrlo
            simp only [Rl.kind, Rl.bal, Rl.nxt]
            clear hrl
            have hz5 := blk_new w5 (.cells #[.int .i64 0, .int .i64 0, .int .i64 0, .int .i64 0] 33)
            have hB6 : Below w5.heap.size w5 (w5.alloc (.cells #[.int .i64 0, .int .i64 0, .int .i64 pr, .int .i64 0] 33)) := (Below.refl _ w5).alloc (Nat.le_refl _) _
            have hr6 := hr5.over hB6
            have hwb6 := blk_alloc hwb5 (.cells #[.int .i64 0, .int .i64 0, .int .i64 pr, .int .i64 0] 33)
            have hbx6 := blk_new w5 (.cells #[.int .i64 0, .int .i64 0, .int .i64 pr, .int .i64 0] 33)
            have hw6 : (w5.alloc (.cells #[.int .i64 0, .int .i64 0, .int .i64 pr, .int .i64 0] 33)).cell? ⟨wb, k, none⟩ = some (.int .i64 wk) := (blk_cell hwb6 k).trans hwk
            have hwf6 := blk_free hwb6 k
            have hbc6 := blk_cell hbx6
            have hr7 := fun q => (hr6.over (below_drewN (Below.refl _ _) q)).write hwb6 (by decide) hwnk hwbge k (.int .i64 pr)
            have hwb7 := blk_set hwb6 k (.int .i64 pr)
            rw [icz_set] at hwb7
            go_wp2_with fail
            go_quiet (fail)
            go_wp2_with fail
            go_roundw
            case rel => exact ⟨k + 1, ws4.set k pr, by omega, by go_num, hr7 _, hwb7, by simpa using hwl4, Hws.out⟩
            case measure => simp [intOf]; omega
          | prep b t kept =>
            rw [hrl] at hfi hrlo
            simp only [Rl.kind, Rl.bal, Rl.nxt]
            obtain ⟨rfl, hm8⟩ := hfi
            have m1 : (b % 8 != (k : Int)) = false := by simp; omega
            have m2 : (b.tmod 8 != (k : Int)) = false := by rw [Int.tmod_eq_emod_of_nonneg hpr0]; exact m1
            have m3 : (b != b) = false := by simp
            clear hrl hm8
            have hz5 := blk_new w5 (.cells #[.int .i64 0, .int .i64 0, .int .i64 0, .int .i64 0] 33)
            have hB6 : Below w5.heap.size w5 (w5.alloc (.cells #[.int .i64 1, .int .i64 b, .int .i64 b, .int .i64 0] 33)) := (Below.refl _ w5).alloc (Nat.le_refl _) _
            have hr6 := hr5.over hB6
            have hwb6 := blk_alloc hwb5 (.cells #[.int .i64 1, .int .i64 b, .int .i64 b, .int .i64 0] 33)
            have hbx6 := blk_new w5 (.cells #[.int .i64 1, .int .i64 b, .int .i64 b, .int .i64 0] 33)
            have hw6 : (w5.alloc (.cells #[.int .i64 1, .int .i64 b, .int .i64 b, .int .i64 0] 33)).cell? ⟨wb, k, none⟩ = some (.int .i64 wk) := (blk_cell hwb6 k).trans hwk
            have hwf6 := blk_free hwb6 k
            have hbc6 := blk_cell hbx6
            have hr7 := fun q => (hr6.over (below_drewN (Below.refl _ _) q)).write hwb6 (by decide) hwnk hwbge k (.int .i64 b)
            have hwb7 := blk_set hwb6 k (.int .i64 b)
            rw [icz_set] at hwb7
            go_wp2_with fail
            go_quiet (fail)
            go_wp2_with fail
            go_roundw
            case rel => exact ⟨k + 1, ws4.set k b, by omega, by go_num, hr7 _, hwb7, by simpa using hwl4, Hws.out⟩
            case measure => simp [intOf]; omega
          | lead b nx pp =>
            rw [hrl] at hfi hrlo
            simp only [Rl.kind, Rl.bal, Rl.nxt]
            obtain ⟨rfl, hm8⟩ := hfi
            have hnx : nx ≤ 16 := hrlo.1
            have m1 : (b % 8 != (k : Int)) = false := by simp; omega
            have m2 : (b.tmod 8 != (k : Int)) = false := by rw [Int.tmod_eq_emod_of_nonneg hpr0]; exact m1
            have m3 : (b != b) = false := by simp
            have m4 : decide ((16 : Int) < (nx : Int)) = false := decide_eq_false (by omega)
            have m5 : decide ((nx : Int) < 0) = false := decide_eq_false (by omega)
            clear hrl hm8
            have hz5 := blk_new w5 (.cells #[.int .i64 0, .int .i64 0, .int .i64 0, .int .i64 0] 33)
            have hB6 : Below w5.heap.size w5 (w5.alloc (.cells #[.int .i64 2, .int .i64 b, .int .i64 b, .int .i64 nx] 33)) := (Below.refl _ w5).alloc (Nat.le_refl _) _
            have hr6 := hr5.over hB6
            have hwb6 := blk_alloc hwb5 (.cells #[.int .i64 2, .int .i64 b, .int .i64 b, .int .i64 nx] 33)
            have hbx6 := blk_new w5 (.cells #[.int .i64 2, .int .i64 b, .int .i64 b, .int .i64 nx] 33)
            have hw6 : (w5.alloc (.cells #[.int .i64 2, .int .i64 b, .int .i64 b, .int .i64 nx] 33)).cell? ⟨wb, k, none⟩ = some (.int .i64 wk) := (blk_cell hwb6 k).trans hwk
            have hwf6 := blk_free hwb6 k
            have hbc6 := blk_cell hbx6
            have hr7 := fun q => (hr6.over (below_drewN (Below.refl _ _) q)).write hwb6 (by decide) hwnk hwbge k (.int .i64 b)
            have hwb7 := blk_set hwb6 k (.int .i64 b)
            rw [icz_set] at hwb7
            go_wp2_with fail
            go_quiet (fail)
            go_wp2_with fail
            go_roundw
            case rel => exact ⟨k + 1, ws4.set k b, by omega, by go_num, hr7 _, hwb7, by simpa using hwl4, Hws.out⟩
            case measure => simp [intOf]; omega
        · obtain rfl : k = n := by omega
          go_wp2_with fail
          go_roundw
          case rel => exact ⟨j + 1, s3, ps3, L3, pv3, ws4, by omega, by go_num, hr4, hn3', hwb4, hwl4, hws4, hwn3⟩
          case measure => simp [intOf]; omega
    · obtain rfl : j = script.length := by omega
      go_wp2_with fail
      go_ret
      exact ⟨rfl, hr.below⟩
end Go.Proofs.Ytnnhnekfokbooaa
