/- The walk of agrees (laid by mkagrc.py). -/
import Derived.Test.YtnnhnekfokbooaaAgrB
import Derived.Test.YtnnhnekfokbooaaSynR
namespace Go.Proofs.Ytnnhnekfokbooaa
open Go.RowKit
set_option linter.unusedSimpArgs false
set_option linter.unusedVariables false

/-- The row of logs at block lb: the slices vs of the posts ls. -/
structure LgAt (own : Nat → Prop) (w : World) (lb n : Nat) (vs : List Value) (ls : Nat → List Pst) : Prop where
  blk : w.heap[lb]? = some (.cells vs.toArray 25 (0, 0))
  len : vs.length = n
  row : ∀ k, k < n → PsAt own w (vs.getD k (.slice none 0 0)) (ls k)
theorem LgAt.below {own : Nat → Prop} {w w' : World} {lb n : Nat} {vs : List Value} {ls : Nat → List Pst} (h : LgAt own w lb n vs ls) (hB : Below w.heap.size w w') : LgAt own w' lb n vs ls :=
  ⟨blk_below hB h.blk, h.len, fun k hk => (h.row k hk).keeps (Keeps.ofBelow (P := fun _ => False) hB) (fun _ h => h.elim)⟩
theorem LgAt.cell {own : Nat → Prop} {w : World} {lb n : Nat} {vs : List Value} {ls : Nat → List Pst} (h : LgAt own w lb n vs ls) {k : Nat} (hk : k < n) : w.cell? ⟨lb, k, none⟩ = some (vs.getD k (.slice none 0 0)) := by
  rw [blk_cell h.blk, List.getElem?_toArray, List.getD_eq_getElem?_getD, List.getElem?_eq_getElem (by rw [h.len]; exact hk)]
  rfl
theorem LgAt.write {own : Nat → Prop} {w : World} {lb n : Nat} {vs : List Value} {ls ls' : Nat → List Pst} (h : LgAt own w lb n vs ls) (ho : own lb) {k : Nat} (hk : k < n) {v : Value} {l : List Pst} (hv : PsAt own w v l) (he : ls' k = l) (hs : ∀ q, q ≠ k → ls' q = ls q) : LgAt own (w.setCell ⟨lb, k, none⟩ v) lb n (vs.set k v) ls' := by
  have hkp : Keeps (fun k => k = lb) w (w.setCell ⟨lb, k, none⟩ v) := Keeps.ofSet (P := fun k => k = lb) (a := ⟨lb, k, none⟩) (.inl rfl) _
  refine ⟨?_, by rw [List.length_set]; exact h.len, fun q hq => ?_⟩
  · rw [blk_set h.blk, List.setIfInBounds_toArray]
  · rw [List.getD_eq_getElem?_getD]
    by_cases e : q = k
    · subst e
      rw [List.getElem?_set_self (by rw [h.len]; exact hk), he]
      exact hv.keeps hkp (fun g e => by rw [e]; exact ho)
    · rw [List.getElem?_set_ne (Ne.symm e), hs q e, ← List.getD_eq_getElem?_getD]
      exact (h.row q hq).keeps hkp (fun g e => by rw [e]; exact ho)
def AgrTo (w0 : World) (cb sb : Nat) (L : Lay) (s : Sy) (pv : Value) (ps : List Pst) (lb n : Nat) (e : Ending) (w' : World) : Prop :=
  e = .returned (.bool true) ∧ Run w0 w' cb sb L s pv (.slice (some ⟨lb, 0, none⟩) n n) ps ∧ ∃ vs', LgAt (fun k => cOwn cb sb L n pv k ∨ k = lb) w' lb n vs' (fun k => logOf (s.rep k).dec)
def upto (s : Sy) (ls : Nat → List Pst) (k : Nat) : Nat → List Pst := fun q => if q < k then logOf (s.rep q).dec else ls q
set_option maxHeartbeats 4000000 in
set_option maxRecDepth 100000 in
theorem agrees_any {w0 w : World} {cb sb : Nat} {L : Lay} {s : Sy} {pv : Value} {ps : List Pst} {lb n : Nat} {vs : List Value} {ls : Nat → List Pst} (h : Run w0 w cb sb L s pv (.slice (some ⟨lb, 0, none⟩) n n) ps) (hn : s.n = n) (hlb : w0.heap.size ≤ lb) (hno : ¬ cOwn cb sb L s.n pv lb) (hg : LgAt (fun k => cOwn cb sb L n pv k ∨ k = lb) w lb n vs ls) (hpre : ∀ k, k < n → ls k <+: logOf (s.rep k).dec) (hso : Sound s) :
    Calls Try.prog 18 #[.pointer (some ⟨cb, 0, none⟩)] w (AgrTo w0 cb sb L s pv ps lb n) := by
  have hn7 : s.n ≤ 7 := h.chat.syn.ok.n1
  go_enter Try.func18, Try.ntmps18
  go_wp2_with fail
  go_loopw [3] (fun i wr => ∃ (k : Nat) (vs : List Value), k ≤ n ∧ i = .int .i64 k ∧ Run w0 wr cb sb L s pv (.slice (some ⟨lb, 0, none⟩) n n) ps ∧ LgAt (fun k => cOwn cb sb L n pv k ∨ k = lb) wr lb n vs (upto s ls k)) (fun i _ => n - (intOf i).toNat)
  case atStart => exact ⟨0, vs, Nat.zero_le _, rfl, h, hg⟩
  case round =>
    obtain ⟨k, vs1, hk, rfl, hr, hl⟩ := hrel
    have d0 : wr.cell? ⟨cb, 0, none⟩ = some (.pointer (some ⟨sb, 0, none⟩)) := (blk_cell hr.chat.blk 0).trans rfl
    have d1 : wr.cell? ⟨cb, 1, none⟩ = some (.int .i64 (n : Int)) := (blk_cell hr.chat.blk 1).trans (by rw [hn]; rfl)
    by_cases hkn : k < n
    · have hLo := log_yes hr.chat.syn (i := k) (by rw [hn]; exact hkn)
      go_wp2_with fail
      refine hLo.mono ?_
      rintro e w2 ⟨v2, rfl, hown, hB⟩
      clear hLo d0 d1
      have hr2 := hr.over hB
      have hl2 := hl.below hB
      have hlen : (logOf (s.rep k).dec).length ≤ 1000000 := by
        have h1 := log_le (s.rep k).dec
        have h2 := (hr.chat.syn.ok.repOk (i := k) (by rw [hn]; exact hkn)).dec
        omega
      have hlbl := lt_of_block hl.blk
      have hv2 : PsAt (fun k => cOwn cb sb L n pv k ∨ k = lb) w2 v2 (logOf (s.rep k).dec) := psAt_owns hown hlen (fun g hg ho => by
        rcases ho with h9 | h9
        · have := hr.chat.own_lt (by rw [hn]; exact h9); omega
        · omega)
      obtain ⟨a2, c2, hv2e, _⟩ := hv2.form
      generalize (logOf (s.rep k).dec).length = m2 at hv2e
      subst hv2e
      have hrow := hl2.row k hkn
      have hup : upto s ls k k = ls k := if_neg (by omega)
      rw [hup] at hrow
      have hx2 := hl2.cell hkn
      have hBe := begun_any hrow hv2
      have d3 : w2.cell? ⟨cb, 3, none⟩ = some (.slice (some ⟨lb, 0, none⟩) n n) := (blk_cell hr2.chat.blk 3).trans rfl
      have q0 : (0 : Int) ≤ (k : Int) := by omega
      have q1 : (k : Int) < (n : Int) := by omega
      generalize vs1.getD k (.slice none 0 0) = x at *
      go_wp2_with fail
      refine hBe.mono ?_
      rintro e w3 ⟨r, rfl, hiff, hB3⟩
      obtain rfl : r = true := hiff.2 (hpre k hkn)
      clear hBe hiff d3 hx2
      have hr3 := hr2.over hB3
      have hl3 := hl2.below hB3
      have hv3 := hv2.keeps (Keeps.ofBelow (P := fun _ => False) hB3) (fun _ h => h.elim)
      have e3 : w3.cell? ⟨cb, 3, none⟩ = some (.slice (some ⟨lb, 0, none⟩) n n) := (blk_cell hr3.chat.blk 3).trans rfl
      have hf3 := blk_free hl3.blk k
      have hx3 := hl3.cell hkn
      have hr4 := hr3.write hl3.blk (by decide) hno hlb k (.slice a2 m2 c2)
      have hl4 := hl3.write (ls' := upto s ls (k + 1)) (.inr rfl) hkn hv3 (if_pos (by omega)) (fun q hq => by
        unfold upto
        by_cases h9 : q < k
        · rw [if_pos h9, if_pos (by omega)]
        · rw [if_neg h9, if_neg (by omega)])
      go_wp2_with fail
      go_roundw
      case rel => exact ⟨k + 1, vs1.set k (.slice a2 m2 c2), by omega, by go_num, hr4, hl4⟩
      case measure => simp [intOf]; omega
    · obtain rfl : k = n := by omega
      go_wp2_with fail
      clear d0 d1 h hg
      have hl0 : LgAt (fun q => cOwn cb sb L k pv q ∨ q = lb) wr lb k vs1 (fun q => logOf (s.rep q).dec) := ⟨hl.blk, hl.len, fun q hq => by have := hl.row q hq; unfold upto at this; rw [if_pos hq] at this; exact this⟩
      clear hl
      go_loopw [7] (fun i w2 => ∃ (q : Nat), q ≤ k ∧ i = .int .i64 q ∧ Run w0 w2 cb sb L s pv (.slice (some ⟨lb, 0, none⟩) k k) ps ∧ LgAt (fun q => cOwn cb sb L k pv q ∨ q = lb) w2 lb k vs1 (fun q => logOf (s.rep q).dec)) (fun i _ => k - (intOf i).toNat)
      case atStart => exact ⟨0, Nat.zero_le _, rfl, hr, hl0⟩
      case round =>
        obtain ⟨q2, hq2, rfl, hr2, hl2⟩ := hrel
        have d1 : wr.cell? ⟨cb, 1, none⟩ = some (.int .i64 (k : Int)) := (blk_cell hr2.chat.blk 1).trans (by rw [hn]; rfl)
        by_cases hqk : q2 < k
        · go_wp2_with fail
          clear d1
          go_loopw [8] (fun i w3 => ∃ (q : Nat), q ≤ q2 ∧ i = .int .i64 q ∧ Run w0 w3 cb sb L s pv (.slice (some ⟨lb, 0, none⟩) k k) ps ∧ LgAt (fun q => cOwn cb sb L k pv q ∨ q = lb) w3 lb k vs1 (fun q => logOf (s.rep q).dec)) (fun i _ => q2 - (intOf i).toNat)
          case atStart => exact ⟨0, Nat.zero_le _, rfl, hr2, hl2⟩
          case round =>
            obtain ⟨q, hq, rfl, hr3, hl3⟩ := hrel
            by_cases hqq : q < q2
            · have Hor : Hid (logOf (s.rep q2).dec <+: logOf (s.rep q).dec ∨ logOf (s.rep q).dec <+: logOf (s.rep q2).dec) := hso.logs (by omega) (by omega)
              have a0 : (0 : Int) ≤ (q : Int) := by omega
              have a1 : (q : Int) < (k : Int) := by omega
              have a2 : (0 : Int) ≤ (q2 : Int) := by omega
              have a3 : (q2 : Int) < (k : Int) := by omega
              have hD := hl3.below (Below.drew (Below.refl _ _))
              have hb1 := begun_any (hD.row q2 (by omega)) (hD.row q (by omega))
              have hx1 := hl3.cell (k := q2) (by omega)
              have hy1 := hl3.cell (k := q) (by omega)
              have hL3 := fun (W : World) (hW : Below wr.heap.size wr W) => hl3.below hW
              have hcb1 : wr.heap[cb]? = some (.cells #[.pointer (some ⟨sb, 0, none⟩), .int .i64 (k : Int), pv, .slice (some ⟨lb, 0, none⟩) k k] 30 (0, 0)) := by have := hr3.chat.blk; rw [hn] at this; exact this
              generalize hxe : vs1.getD q2 (.slice none 0 0) = x at *
              generalize hye : vs1.getD q (.slice none 0 0) = y at *
              have Hx : Hid (vs1.getD q2 (.slice none 0 0) = x) := hxe
              have Hy : Hid (vs1.getD q (.slice none 0 0) = y) := hye
              clear hxe hye
              go_wp2_with fail
              refine wp_region_held_drew (S := fun w' => w'.heap[cb]? = some (.cells #[.pointer (some ⟨sb, 0, none⟩), .int .i64 (k : Int), pv, .slice (some ⟨lb, 0, none⟩) k k] 30 (0, 0)) ∧ w'.cell? ⟨lb, q2, none⟩ = some x ∧ w'.cell? ⟨lb, q, none⟩ = some y) (by kernel_rfl) (⟨hcb1, hx1, hy1⟩) (fun hS => ?_)
              refine wpAnyH_take (i := 0) (v := ?_) rfl (by kernel_rfl) (by kernel_rfl) (by kernel_rfl) (fun _ _ _ h => h) (Or.inl ⟨by kernel_rfl, fun w' hw => ?_⟩) hS ?_
              rotate_left 1
              · have d1 := blk_cell hw.1; have d2 := hw.2.1; have d3 := hw.2.2; go_simp; all_goals with_reducible rfl
              try simp only [Act.put, List.getElem_toArray, List.getElem_cons_zero, List.getElem_cons_succ, List.setIfInBounds_toArray, List.set_cons_zero, List.set_cons_succ]
              refine wpAnyH_take (i := 1) (v := ?_) rfl (by kernel_rfl) (by kernel_rfl) (by kernel_rfl) (fun _ _ _ h => h) (Or.inl ⟨by kernel_rfl, fun w' hw => ?_⟩) hS ?_
              rotate_left 1
              · have d1 := blk_cell hw.1; have d2 := hw.2.1; have d3 := hw.2.2; go_simp; all_goals with_reducible rfl
              try simp only [Act.put, List.getElem_toArray, List.getElem_cons_zero, List.getElem_cons_succ, List.setIfInBounds_toArray, List.set_cons_zero, List.set_cons_succ]
              refine wpAnyH_take (i := 2) (v := ?_) rfl (by kernel_rfl) (by kernel_rfl) (by kernel_rfl) (fun _ _ _ h => h) (Or.inl ⟨by kernel_rfl, fun w' hw => ?_⟩) hS ?_
              rotate_left 1
              · have d1 := blk_cell hw.1; have d2 := hw.2.1; have d3 := hw.2.2; go_simp; all_goals with_reducible rfl
              try simp only [Act.put, List.getElem_toArray, List.getElem_cons_zero, List.getElem_cons_succ, List.setIfInBounds_toArray, List.set_cons_zero, List.set_cons_succ]
              refine wpAnyH_take (i := 3) (v := ?_) rfl (by kernel_rfl) (by kernel_rfl) (by kernel_rfl) (fun _ _ _ h => h) (Or.inl ⟨by kernel_rfl, fun w' hw => ?_⟩) hS ?_
              rotate_left 1
              · have d1 := blk_cell hw.1; have d2 := hw.2.1; have d3 := hw.2.2; go_simp; all_goals with_reducible rfl
              try simp only [Act.put, List.getElem_toArray, List.getElem_cons_zero, List.getElem_cons_succ, List.setIfInBounds_toArray, List.set_cons_zero, List.set_cons_succ]
              refine wpAnyH_take (i := 4) (v := ?_) rfl (by kernel_rfl) (by kernel_rfl) (by kernel_rfl) (fun _ _ _ h => h) (Or.inl ⟨by kernel_rfl, fun w' hw => ?_⟩) hS ?_
              rotate_left 1
              · have d1 := blk_cell hw.1; have d2 := hw.2.1; have d3 := hw.2.2; go_simp; all_goals with_reducible rfl
              try simp only [Act.put, List.getElem_toArray, List.getElem_cons_zero, List.getElem_cons_succ, List.setIfInBounds_toArray, List.set_cons_zero, List.set_cons_succ]
              refine wpAnyH_take (i := 5) (v := ?_) rfl (by kernel_rfl) (by kernel_rfl) (by kernel_rfl) (fun _ _ _ h => h) (Or.inl ⟨by kernel_rfl, fun w' hw => ?_⟩) hS ?_
              rotate_left 1
              · have d1 := blk_cell hw.1; have d2 := hw.2.1; have d3 := hw.2.2; go_simp; all_goals with_reducible rfl
              try simp only [Act.put, List.getElem_toArray, List.getElem_cons_zero, List.getElem_cons_succ, List.setIfInBounds_toArray, List.set_cons_zero, List.set_cons_succ]
              refine wpAnyH_take (i := 6) (v := ?_) rfl (by kernel_rfl) (by kernel_rfl) (by kernel_rfl) (fun _ _ _ h => h) (Or.inl ⟨by kernel_rfl, fun w' hw => ?_⟩) hS ?_
              rotate_left 1
              · have d1 := blk_cell hw.1; have d2 := hw.2.1; have d3 := hw.2.2; go_simp; all_goals with_reducible rfl
              try simp only [Act.put, List.getElem_toArray, List.getElem_cons_zero, List.getElem_cons_succ, List.setIfInBounds_toArray, List.set_cons_zero, List.set_cons_succ]
              refine wpAnyH_take (i := 7) (v := ?_) rfl (by kernel_rfl) (by kernel_rfl) (by kernel_rfl) (fun _ _ _ h => h) (Or.inl ⟨by kernel_rfl, fun w' hw => ?_⟩) hS ?_
              rotate_left 1
              · have d1 := blk_cell hw.1; have d2 := hw.2.1; have d3 := hw.2.2; go_simp; all_goals with_reducible rfl
              try simp only [Act.put, List.getElem_toArray, List.getElem_cons_zero, List.getElem_cons_succ, List.setIfInBounds_toArray, List.set_cons_zero, List.set_cons_succ]
              refine wpAnyH_take (i := 8) (v := ?_) rfl (by kernel_rfl) (by kernel_rfl) (by kernel_rfl) (fun _ _ _ h => h) (Or.inl ⟨by kernel_rfl, fun w' hw => ?_⟩) hS ?_
              rotate_left 1
              · have d1 := blk_cell hw.1; have d2 := hw.2.1; have d3 := hw.2.2; go_simp; all_goals with_reducible rfl
              try simp only [Act.put, List.getElem_toArray, List.getElem_cons_zero, List.getElem_cons_succ, List.setIfInBounds_toArray, List.set_cons_zero, List.set_cons_succ]
              refine wpAnyH_take (i := 9) (v := ?_) rfl (by kernel_rfl) (by kernel_rfl) (by kernel_rfl) (fun _ _ _ h => h) (Or.inl ⟨by kernel_rfl, fun w' hw => ?_⟩) hS ?_
              rotate_left 1
              · have d1 := blk_cell hw.1; have d2 := hw.2.1; have d3 := hw.2.2; go_simp; all_goals with_reducible rfl
              try simp only [Act.put, List.getElem_toArray, List.getElem_cons_zero, List.getElem_cons_succ, List.setIfInBounds_toArray, List.set_cons_zero, List.set_cons_succ]
              refine wpAnyH_take (i := 10) (v := ?_) rfl (by kernel_rfl) (by kernel_rfl) (by kernel_rfl) (fun _ _ _ h => h) (Or.inl ⟨by kernel_rfl, fun w' hw => ?_⟩) hS ?_
              rotate_left 1
              · have d1 := blk_cell hw.1; have d2 := hw.2.1; have d3 := hw.2.2; go_simp; all_goals with_reducible rfl
              try simp only [Act.put, List.getElem_toArray, List.getElem_cons_zero, List.getElem_cons_succ, List.setIfInBounds_toArray, List.set_cons_zero, List.set_cons_succ]
              refine wpAnyH_take (i := 11) (v := ?_) rfl (by kernel_rfl) (by kernel_rfl) (by kernel_rfl) (fun _ _ _ h => h) (Or.inl ⟨by kernel_rfl, fun w' hw => ?_⟩) hS ?_
              rotate_left 1
              · have d1 := blk_cell hw.1; have d2 := hw.2.1; have d3 := hw.2.2; go_simp; all_goals with_reducible rfl
              try simp only [Act.put, List.getElem_toArray, List.getElem_cons_zero, List.getElem_cons_succ, List.setIfInBounds_toArray, List.set_cons_zero, List.set_cons_succ]
              refine wpAnyH_take (i := 12) (v := ?_) rfl (by kernel_rfl) (by kernel_rfl) (by kernel_rfl) (fun _ _ _ h => h) (Or.inl ⟨by kernel_rfl, fun w' hw => ?_⟩) hS ?_
              rotate_left 1
              · have d1 := blk_cell hw.1; have d2 := hw.2.1; have d3 := hw.2.2; go_simp; all_goals with_reducible rfl
              try simp only [Act.put, List.getElem_toArray, List.getElem_cons_zero, List.getElem_cons_succ, List.setIfInBounds_toArray, List.set_cons_zero, List.set_cons_succ]
              refine wpAnyH_take (i := 13) (v := ?_) rfl (by kernel_rfl) (by kernel_rfl) (by kernel_rfl) (fun _ _ _ h => h) (Or.inl ⟨by kernel_rfl, fun w' hw => ?_⟩) hS ?_
              rotate_left 1
              · have d1 := blk_cell hw.1; have d2 := hw.2.1; have d3 := hw.2.2; go_simp; all_goals with_reducible rfl
              try simp only [Act.put, List.getElem_toArray, List.getElem_cons_zero, List.getElem_cons_succ, List.setIfInBounds_toArray, List.set_cons_zero, List.set_cons_succ]
              refine wpAnyH_ready (rs := [14]) (by kernel_rfl) (by simp) ?_
              refine AllReadyH.cons rfl (fun K hK => ?_) AllReadyH.nil
              go_simp
              refine hb1.mono ?_
              rintro e w4 ⟨r1, rfl, hiff1, hB4⟩
              have H1 : Hid (r1 = true ↔ logOf (s.rep q2).dec <+: logOf (s.rep q).dec) := hiff1
              clear hb1 hiff1
              have hB4' : Below wr.heap.size wr w4 := Below.trans (Below.drew (Below.refl _ _)) hB4
              have hr4 := hr3.over hB4'
              have hl4 := hl3.below hB4'
              have hcb4 := blk_below hB4' hcb1
              have hx4 := (hl4.cell (k := q2) (by omega)).trans (by rw [Hx.out])
              have hy4 := (hl4.cell (k := q) (by omega)).trans (by rw [Hy.out])
              go_wp2_with fail
              refine hK.out _ _ ⟨hcb4, hx4, hy4⟩ (fun hS => ?_)
              clear hK K
              try simp only [Act.put, List.getElem_toArray, List.getElem_cons_zero, List.getElem_cons_succ, List.setIfInBounds_toArray, List.set_cons_zero, List.set_cons_succ]
              refine wpAnyH_ready (rs := [15]) (by kernel_rfl) (by simp) ?_
              refine AllReadyH.cons rfl (fun K hK => ?_) AllReadyH.nil
              go_simp
              refine hK.out _ _ ⟨hcb4, hx4, hy4⟩ (fun hS => ?_)
              clear hK K
              try simp only [Act.put, List.getElem_toArray, List.getElem_cons_zero, List.getElem_cons_succ, List.setIfInBounds_toArray, List.set_cons_zero, List.set_cons_succ]
              refine wpAnyH_done (by kernel_rfl) ?_ _
              have hD5 := hl4.below (Below.drew (Below.refl _ _))
              have hb2 := begun_any (hD5.row q (by omega)) (hD5.row q2 (by omega))
              rw [Hx.out, Hy.out] at hb2
              go_wp2_with fail
              refine wp_region_held_drew (S := fun w' => w'.heap[cb]? = some (.cells #[.pointer (some ⟨sb, 0, none⟩), .int .i64 (k : Int), pv, .slice (some ⟨lb, 0, none⟩) k k] 30 (0, 0)) ∧ w'.cell? ⟨lb, q2, none⟩ = some x ∧ w'.cell? ⟨lb, q, none⟩ = some y) (by kernel_rfl) (⟨hcb4, hx4, hy4⟩) (fun hS => ?_)
              refine wpAnyH_take (i := 0) (v := ?_) rfl (by kernel_rfl) (by kernel_rfl) (by kernel_rfl) (fun _ _ _ h => h) (Or.inl ⟨by kernel_rfl, fun w' hw => ?_⟩) hS ?_
              rotate_left 1
              · have d1 := blk_cell hw.1; have d2 := hw.2.1; have d3 := hw.2.2; go_simp; all_goals with_reducible rfl
              try simp only [Act.put, List.getElem_toArray, List.getElem_cons_zero, List.getElem_cons_succ, List.setIfInBounds_toArray, List.set_cons_zero, List.set_cons_succ]
              refine wpAnyH_take (i := 1) (v := ?_) rfl (by kernel_rfl) (by kernel_rfl) (by kernel_rfl) (fun _ _ _ h => h) (Or.inl ⟨by kernel_rfl, fun w' hw => ?_⟩) hS ?_
              rotate_left 1
              · have d1 := blk_cell hw.1; have d2 := hw.2.1; have d3 := hw.2.2; go_simp; all_goals with_reducible rfl
              try simp only [Act.put, List.getElem_toArray, List.getElem_cons_zero, List.getElem_cons_succ, List.setIfInBounds_toArray, List.set_cons_zero, List.set_cons_succ]
              refine wpAnyH_take (i := 2) (v := ?_) rfl (by kernel_rfl) (by kernel_rfl) (by kernel_rfl) (fun _ _ _ h => h) (Or.inl ⟨by kernel_rfl, fun w' hw => ?_⟩) hS ?_
              rotate_left 1
              · have d1 := blk_cell hw.1; have d2 := hw.2.1; have d3 := hw.2.2; go_simp; all_goals with_reducible rfl
              try simp only [Act.put, List.getElem_toArray, List.getElem_cons_zero, List.getElem_cons_succ, List.setIfInBounds_toArray, List.set_cons_zero, List.set_cons_succ]
              refine wpAnyH_take (i := 3) (v := ?_) rfl (by kernel_rfl) (by kernel_rfl) (by kernel_rfl) (fun _ _ _ h => h) (Or.inl ⟨by kernel_rfl, fun w' hw => ?_⟩) hS ?_
              rotate_left 1
              · have d1 := blk_cell hw.1; have d2 := hw.2.1; have d3 := hw.2.2; go_simp; all_goals with_reducible rfl
              try simp only [Act.put, List.getElem_toArray, List.getElem_cons_zero, List.getElem_cons_succ, List.setIfInBounds_toArray, List.set_cons_zero, List.set_cons_succ]
              refine wpAnyH_take (i := 4) (v := ?_) rfl (by kernel_rfl) (by kernel_rfl) (by kernel_rfl) (fun _ _ _ h => h) (Or.inl ⟨by kernel_rfl, fun w' hw => ?_⟩) hS ?_
              rotate_left 1
              · have d1 := blk_cell hw.1; have d2 := hw.2.1; have d3 := hw.2.2; go_simp; all_goals with_reducible rfl
              try simp only [Act.put, List.getElem_toArray, List.getElem_cons_zero, List.getElem_cons_succ, List.setIfInBounds_toArray, List.set_cons_zero, List.set_cons_succ]
              refine wpAnyH_take (i := 5) (v := ?_) rfl (by kernel_rfl) (by kernel_rfl) (by kernel_rfl) (fun _ _ _ h => h) (Or.inl ⟨by kernel_rfl, fun w' hw => ?_⟩) hS ?_
              rotate_left 1
              · have d1 := blk_cell hw.1; have d2 := hw.2.1; have d3 := hw.2.2; go_simp; all_goals with_reducible rfl
              try simp only [Act.put, List.getElem_toArray, List.getElem_cons_zero, List.getElem_cons_succ, List.setIfInBounds_toArray, List.set_cons_zero, List.set_cons_succ]
              refine wpAnyH_take (i := 6) (v := ?_) rfl (by kernel_rfl) (by kernel_rfl) (by kernel_rfl) (fun _ _ _ h => h) (Or.inl ⟨by kernel_rfl, fun w' hw => ?_⟩) hS ?_
              rotate_left 1
              · have d1 := blk_cell hw.1; have d2 := hw.2.1; have d3 := hw.2.2; go_simp; all_goals with_reducible rfl
              try simp only [Act.put, List.getElem_toArray, List.getElem_cons_zero, List.getElem_cons_succ, List.setIfInBounds_toArray, List.set_cons_zero, List.set_cons_succ]
              refine wpAnyH_take (i := 7) (v := ?_) rfl (by kernel_rfl) (by kernel_rfl) (by kernel_rfl) (fun _ _ _ h => h) (Or.inl ⟨by kernel_rfl, fun w' hw => ?_⟩) hS ?_
              rotate_left 1
              · have d1 := blk_cell hw.1; have d2 := hw.2.1; have d3 := hw.2.2; go_simp; all_goals with_reducible rfl
              try simp only [Act.put, List.getElem_toArray, List.getElem_cons_zero, List.getElem_cons_succ, List.setIfInBounds_toArray, List.set_cons_zero, List.set_cons_succ]
              refine wpAnyH_take (i := 8) (v := ?_) rfl (by kernel_rfl) (by kernel_rfl) (by kernel_rfl) (fun _ _ _ h => h) (Or.inl ⟨by kernel_rfl, fun w' hw => ?_⟩) hS ?_
              rotate_left 1
              · have d1 := blk_cell hw.1; have d2 := hw.2.1; have d3 := hw.2.2; go_simp; all_goals with_reducible rfl
              try simp only [Act.put, List.getElem_toArray, List.getElem_cons_zero, List.getElem_cons_succ, List.setIfInBounds_toArray, List.set_cons_zero, List.set_cons_succ]
              refine wpAnyH_take (i := 9) (v := ?_) rfl (by kernel_rfl) (by kernel_rfl) (by kernel_rfl) (fun _ _ _ h => h) (Or.inl ⟨by kernel_rfl, fun w' hw => ?_⟩) hS ?_
              rotate_left 1
              · have d1 := blk_cell hw.1; have d2 := hw.2.1; have d3 := hw.2.2; go_simp; all_goals with_reducible rfl
              try simp only [Act.put, List.getElem_toArray, List.getElem_cons_zero, List.getElem_cons_succ, List.setIfInBounds_toArray, List.set_cons_zero, List.set_cons_succ]
              refine wpAnyH_take (i := 10) (v := ?_) rfl (by kernel_rfl) (by kernel_rfl) (by kernel_rfl) (fun _ _ _ h => h) (Or.inl ⟨by kernel_rfl, fun w' hw => ?_⟩) hS ?_
              rotate_left 1
              · have d1 := blk_cell hw.1; have d2 := hw.2.1; have d3 := hw.2.2; go_simp; all_goals with_reducible rfl
              try simp only [Act.put, List.getElem_toArray, List.getElem_cons_zero, List.getElem_cons_succ, List.setIfInBounds_toArray, List.set_cons_zero, List.set_cons_succ]
              refine wpAnyH_take (i := 11) (v := ?_) rfl (by kernel_rfl) (by kernel_rfl) (by kernel_rfl) (fun _ _ _ h => h) (Or.inl ⟨by kernel_rfl, fun w' hw => ?_⟩) hS ?_
              rotate_left 1
              · have d1 := blk_cell hw.1; have d2 := hw.2.1; have d3 := hw.2.2; go_simp; all_goals with_reducible rfl
              try simp only [Act.put, List.getElem_toArray, List.getElem_cons_zero, List.getElem_cons_succ, List.setIfInBounds_toArray, List.set_cons_zero, List.set_cons_succ]
              refine wpAnyH_take (i := 12) (v := ?_) rfl (by kernel_rfl) (by kernel_rfl) (by kernel_rfl) (fun _ _ _ h => h) (Or.inl ⟨by kernel_rfl, fun w' hw => ?_⟩) hS ?_
              rotate_left 1
              · have d1 := blk_cell hw.1; have d2 := hw.2.1; have d3 := hw.2.2; go_simp; all_goals with_reducible rfl
              try simp only [Act.put, List.getElem_toArray, List.getElem_cons_zero, List.getElem_cons_succ, List.setIfInBounds_toArray, List.set_cons_zero, List.set_cons_succ]
              refine wpAnyH_take (i := 13) (v := ?_) rfl (by kernel_rfl) (by kernel_rfl) (by kernel_rfl) (fun _ _ _ h => h) (Or.inl ⟨by kernel_rfl, fun w' hw => ?_⟩) hS ?_
              rotate_left 1
              · have d1 := blk_cell hw.1; have d2 := hw.2.1; have d3 := hw.2.2; go_simp; all_goals with_reducible rfl
              try simp only [Act.put, List.getElem_toArray, List.getElem_cons_zero, List.getElem_cons_succ, List.setIfInBounds_toArray, List.set_cons_zero, List.set_cons_succ]
              refine wpAnyH_ready (rs := [14]) (by kernel_rfl) (by simp) ?_
              refine AllReadyH.cons rfl (fun K hK => ?_) AllReadyH.nil
              go_simp
              refine hb2.mono ?_
              rintro e w5 ⟨r2, rfl, hiff2, hB5⟩
              have H2 : Hid (r2 = true ↔ logOf (s.rep q).dec <+: logOf (s.rep q2).dec) := hiff2
              clear hb2 hiff2
              have hB5' : Below w4.heap.size w4 w5 := Below.trans (Below.drew (Below.refl _ _)) hB5
              have hr5 := hr4.over hB5'
              have hl5 := hl4.below hB5'
              have hcb5 := blk_below hB5' hcb4
              have hx5 := (hl5.cell (k := q2) (by omega)).trans (by rw [Hx.out])
              have hy5 := (hl5.cell (k := q) (by omega)).trans (by rw [Hy.out])
              go_wp2_with fail
              refine hK.out _ _ ⟨hcb5, hx5, hy5⟩ (fun hS => ?_)
              clear hK K
              try simp only [Act.put, List.getElem_toArray, List.getElem_cons_zero, List.getElem_cons_succ, List.setIfInBounds_toArray, List.set_cons_zero, List.set_cons_succ]
              refine wpAnyH_ready (rs := [15]) (by kernel_rfl) (by simp) ?_
              refine AllReadyH.cons rfl (fun K hK => ?_) AllReadyH.nil
              go_simp
              refine hK.out _ _ ⟨hcb5, hx5, hy5⟩ (fun hS => ?_)
              clear hK K
              try simp only [Act.put, List.getElem_toArray, List.getElem_cons_zero, List.getElem_cons_succ, List.setIfInBounds_toArray, List.set_cons_zero, List.set_cons_succ]
              refine wpAnyH_done (by kernel_rfl) ?_ _
              cases r1 with
              | true =>
                go_wp2_with fail
                go_roundw
                case rel => exact ⟨q + 1, by omega, by go_num, hr5, hl5⟩
                case measure => simp [intOf]; omega
              | false =>
                obtain rfl : r2 = true := H2.out.2 (Hor.out.resolve_left (fun h9 => nomatch H1.out.2 h9))
                go_wp2_with fail
                go_roundw
                case rel => exact ⟨q + 1, by omega, by go_num, hr5, hl5⟩
                case measure => simp [intOf]; omega
            · obtain rfl : q = q2 := by omega
              go_wp2_with fail
              go_roundw
              case rel => exact ⟨q + 1, by omega, by go_num, hr3, hl3⟩
              case measure => simp [intOf]; omega
        · obtain rfl : q2 = k := by omega
          go_wp2_with fail
          go_ret
          exact ⟨rfl, hr2, vs1, hl2⟩
end Go.Proofs.Ytnnhnekfokbooaa
