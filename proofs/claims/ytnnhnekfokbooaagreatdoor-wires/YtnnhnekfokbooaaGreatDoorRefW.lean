/- The law's own look at the lists that came out (where lists of votes alone came out). -/
import Derived.Test.YtnnhnekfokbooaaGreatDoorRefV
import Derived.Test.YtnnhnekfokbooaaGreatDoorRefH
namespace Go.Proofs.YtnnhnekfokbooaaGreatDoor
open Go.RowKit
set_option linter.unusedSimpArgs false
set_option linter.unusedVariables false

set_option maxHeartbeats 8000000 in
set_option maxRecDepth 100000 in
theorem looks_any (wb H : Nat) (wl wv : Value) (vs : List Value) (w : World) (hblk : w.heap[wb]? = some (.cells #[wl, .slice none 0 0, wv, .slice none 0 0] 31 (0, 0)))
    (hvs : w.ownsRow H 34 1 wv vs.length vs) (hmk : ∀ k (hk : k < vs.length), ∃ n, n ≤ 2000000 ∧ MK w H 53 (mv k) vs[k] n) (hl : vs.length ≤ 5000000000000) :
    Calls Tryz.prog 8 #[.pointer (some ⟨wb, 0, none⟩)] w fun e w' => e = .returned (.bool true) ∧ Below w.heap.size w w' := by
  obtain ⟨vo, vc, rfl, hvo⟩ : ∃ vo vc, wv = .slice vo vs.length vc ∧ (0 < vs.length → ∃ g, vo = some ⟨g, 0, none⟩ ∧ g < w.heap.size ∧ ∀ k (hk : k < vs.length), w.cell? ⟨g, k, none⟩ = some vs[k]) := by
    rcases hvs.2 with ⟨rfl, h0⟩ | ⟨g, cap, cur, rfl, _, hg, _, _, hcs, htk⟩
    · exact ⟨none, 0, by rw [h0], fun h => by omega⟩
    · refine ⟨_, cap, rfl, fun _ => ⟨g, rfl, lt_of_block hg, fun k hk => ?_⟩⟩
      rw [blk_cell hg, ← Array.getElem?_toList]
      have e1 : cur.toList[k]? = (cur.toList.take (vs.length * 1))[k]? := by rw [List.getElem?_take, if_pos (by omega)]
      rw [e1, htk, List.getElem?_eq_getElem hk]
  have hwlt := lt_of_block hblk
  have hc := blk_cell hblk
  clear hvs hblk
  go_enter Tryz.func8, Tryz.ntmps8
  go_wp2_with fail
  go_loopw [3] (fun i wr => i = .int .i64 0 ∧ Below w.heap.size w wr) (fun _ _ => 0)
  case atStart => exact ⟨rfl, Below.refl _ _⟩
  case round =>
  obtain ⟨rfl, hB0⟩ := hrel
  have hcw : ∀ j, wr.cell? ⟨wb, j, none⟩ = _ := fun j => (hB0.cell (p := ⟨wb, j, none⟩) hwlt).trans (hc j)
  go_wp2_with fail
  go_loopw [6] (fun i wr => ∃ k : Nat, k ≤ vs.length ∧ i = .int .i64 k ∧ Below w.heap.size w wr) (fun i _ => vs.length - (intOf i).toNat)
  case atStart => exact ⟨0, Nat.zero_le _, rfl, hB0⟩
  case round =>
  clear hcw hB0
  obtain ⟨k, hk, rfl, hB⟩ := hrel
  have hcw : ∀ j, wr.cell? ⟨wb, j, none⟩ = _ := fun j => (hB.cell (p := ⟨wb, j, none⟩) hwlt).trans (hc j)
  by_cases hlt : k < vs.length
  · obtain ⟨g, rfl, hglt, hgc⟩ := hvo (by omega)
    obtain ⟨n, hn, hM⟩ := hmk k hlt
    have hmark := fun W => mark_any k W (by omega)
    have HV : Hid (mv k = mvx (-1000 - ((k / 4 : Nat) : Int))) := rfl
    rw [HV.out] at hM
    generalize (-1000 - ((k / 4 : Nat) : Int)) = mk at *
    obtain ⟨so, sc, hsv, hsc⟩ : ∃ so sc, vs[k] = .slice so n sc ∧ (0 < n → ∃ b, so = some ⟨b, 0, none⟩ ∧ b < w.heap.size ∧ ∀ j (hj : j < n), ∀ i (hi : i < 6), w.cell? ⟨b, j * 6 + i, none⟩ = (mvx mk)[i]?) := by
      rcases hM.2 with ⟨e, h0⟩ | ⟨b, cap, cur, e, _, hb, _, _, hcs, htk⟩
      · exact ⟨none, 0, by rw [e, h0], fun h => by omega⟩
      · refine ⟨_, cap, e, fun _ => ⟨b, rfl, lt_of_block hb, fun j hj i hi => ?_⟩⟩
        rw [blk_cell hb, ← Array.getElem?_toList, ← reps_at n (mvx mk) j hj i hi, ← htk, List.getElem?_take]
        rw [if_pos]; rfl
        show j * 6 + i < n * 6
        omega
    have hgk := hgc k hlt
    rw [hsv] at hgk
    have hgk' : wr.cell? ⟨g, k, none⟩ = some (.slice so n sc) := (hB.cell (p := ⟨g, k, none⟩) hglt).trans hgk
    clear hgc hM hsv hgk hmk
    go_wp2_with fail
    go_loopw [7] (fun i wq => ∃ j : Nat, j ≤ n ∧ i = .int .i64 j ∧ Below w.heap.size w wq) (fun i _ => n - (intOf i).toNat)
    case atStart => exact ⟨0, Nat.zero_le _, rfl, hB⟩
    case round =>
    obtain ⟨j, hj, rfl, hq⟩ := hrel
    have hcq : ∀ j, wr.cell? ⟨wb, j, none⟩ = _ := fun j => (hq.cell (p := ⟨wb, j, none⟩) hwlt).trans (hc j)
    have hgq : wr.cell? ⟨g, k, none⟩ = some (.slice so n sc) := by rw [hq.cell (p := ⟨g, k, none⟩) hglt, ← hB.cell (p := ⟨g, k, none⟩) hglt]; exact hgk'
    by_cases hjn : j < n
    · obtain ⟨b, rfl, hblt, hbc⟩ := hsc (by omega)
      have c0 : wr.cell? ⟨b, j * 6, none⟩ = some (.int .i64 mk) := (hq.cell (p := ⟨b, j * 6, none⟩) hblt).trans (hbc j hjn 0 (by decide))
      have c1 : wr.cell? ⟨b, j * 6 + 1, none⟩ = some (.int .i64 0) := (hq.cell (p := ⟨b, j * 6 + 1, none⟩) hblt).trans (hbc j hjn 1 (by decide))
      have c2 : wr.cell? ⟨b, j * 6 + 2, none⟩ = some (.int .i64 0) := (hq.cell (p := ⟨b, j * 6 + 2, none⟩) hblt).trans (hbc j hjn 2 (by decide))
      have c3 : wr.cell? ⟨b, j * 6 + 3, none⟩ = some (.int .i64 0) := (hq.cell (p := ⟨b, j * 6 + 3, none⟩) hblt).trans (hbc j hjn 3 (by decide))
      have c4 : wr.cell? ⟨b, j * 6 + 4, none⟩ = some (.int .i64 0) := (hq.cell (p := ⟨b, j * 6 + 4, none⟩) hblt).trans (hbc j hjn 4 (by decide))
      have c5 : wr.cell? ⟨b, j * 6 + 5, none⟩ = some (.string ⟨#[]⟩) := (hq.cell (p := ⟨b, j * 6 + 5, none⟩) hblt).trans (hbc j hjn 5 (by decide))
      have i0 : (0 : Int) ≤ (k : Int) := by omega
      have i1 : (k : Int) < (vs.length : Int) := by omega
      have i2 : (0 : Int) ≤ (j : Int) := by omega
      have i3 : (j : Int) < (n : Int) := by omega
      clear hbc hsc hcw hgk'
      go_wp2
      go_quiet ((go_at_call 15; exact Calls.quiet_of_same (hmark _)))
      go_wp2
      go_roundw
      case rel => exact ⟨j + 1, by omega, by go_num, below_drewN hq _⟩
      case measure => simp [intOf]; omega
    · go_wp2
      go_roundw
      case rel => exact ⟨k + 1, by omega, by go_num, hq⟩
      case measure => simp [intOf]; omega
  · go_wp2_with fail
    go_loopw [8] (fun i wr => i = .int .i64 0 ∧ Below w.heap.size w wr) (fun _ _ => 0)
    case atStart => exact ⟨rfl, hB⟩
    case round =>
    obtain ⟨rfl, hq⟩ := hrel
    have hcq : ∀ j, wr.cell? ⟨wb, j, none⟩ = _ := fun j => (hq.cell (p := ⟨wb, j, none⟩) hwlt).trans (hc j)
    go_wp2
    go_ret
    exact ⟨rfl, hq⟩
end Go.Proofs.YtnnhnekfokbooaaGreatDoor
