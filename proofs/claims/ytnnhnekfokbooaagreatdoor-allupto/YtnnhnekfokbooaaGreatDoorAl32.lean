/- PsA, ChaA, RmF -/
import Derived.Test.YtnnhnekfokbooaaGreatDoorAl24
set_option linter.unusedSimpArgs false
set_option linter.unusedVariables false
set_option maxRecDepth 100000
namespace Go.Proofs.YtnnhnekfokbooaaGreatDoor
section
open Go.RowKit
structure PsAt (own : Nat → Prop) (w : World) (v : Value) (l : List Pst) : Prop where
 len : l.length ≤ 1000000
 form : ∃ ao cap, v = .slice ao l.length cap ∧ (l ≠ [] → ∃ g, ao = some (A6 g 0) ∧ g < w.heap.size ∧ ¬ own g ∧ ∀ j (hj : j < l.length), ∀ k, k < 4 → w.cell? (A6 g (j * 4 + k)) = l[j].cells[k]?)
theorem PsAt.nil (own : Nat → Prop) (w : World) : PsAt own w (.slice none 0 0) [] := ⟨by simp, none, 0, rfl, fun h => absurd rfl h⟩
theorem PsAt.mono {own own' : Nat → Prop} {w : World} {v : Value} {l : List Pst} (h : PsAt own w v l) (ho : ∀ g, g < w.heap.size → own' g → own g) : PsAt own' w v l := by
 obtain ⟨hl, ao, cap, rfl, hf⟩ := h
 refine ⟨hl, ao, cap, rfl, fun hne => ?_⟩
 obtain ⟨g, rfl, hg, hno, hc⟩ := hf hne
 exact ⟨g, rfl, hg, fun h => hno (ho g hg h), hc⟩
theorem PsAt.keeps {own Q : Nat → Prop} {w w' : World} {v : Value} {l : List Pst} (h : PsAt own w v l) (hk : Keeps Q w w') (hQ : ∀ g, Q g → own g) : PsAt own w' v l := by
 obtain ⟨hl, ao, cap, rfl, hf⟩ := h
 refine ⟨hl, ao, cap, rfl, fun hne => ?_⟩
 obtain ⟨g, rfl, hg, hno, hc⟩ := hf hne
 refine ⟨g, rfl, Nat.lt_of_lt_of_le hg hk.size, hno, fun j hj k hk4 => ?_⟩
 rw [← hc j hj k hk4]
 exact World.cell?_of_block (hk.block g hg (fun h => hno (hQ g h))) 
theorem pcells_at' : ∀ (l : List Pst) (j : Nat) (hj : j < l.length) (k : Nat), k < 4 → (pcells l)[j * 4 + k]? = l[j].cells[k]?
 | [], j, hj, _, _ => by simp at hj
 | p :: l, 0, _, k, hk => by
  show (p.cells ++ pcells l)[0 * 4 + k]? = p.cells[k]?
  rw [List.getElem?_append_left (by show 0 * 4 + k < 4; omega)]
  simp
 | p :: l, j + 1, hj, k, hk => by
  have hj' : j < l.length := by simpa using hj
  show (p.cells ++ pcells l)[(j + 1) * 4 + k]? = l[j].cells[k]?
  rw [List.getElem?_append_right (by show 4 ≤ _; omega)]
  have e : (j + 1) * 4 + k - p.cells.length = j * 4 + k := by show (j + 1) * 4 + k - 4 = _; omega
  rw [e]
  exact pcells_at' l j (by simpa using hj) k hk
theorem psAt_owns {own : Nat → Prop} {w : World} {base : Nat} {v : Value} {l : List Pst} (h : w.ownsRow base 33 4 v l.length (pcells l)) (hl : l.length ≤ 1000000) (hno : ∀ g, base ≤ g → ¬ own g) : PsAt own w v l := by
 rcases h.2 with ⟨h1, h0⟩ | ⟨g, cap, cur, rfl, hbg, hg, hnc, hcm, hcs, htake⟩
 ·have : l = [] := by
   cases l with
   | nil => rfl
   | cons x l => cases h0
  subst this
  rw [h1]
  exact ⟨by simp, none, 0, rfl, fun h => absurd rfl h⟩
 ·refine ⟨hl, _, _, rfl, fun _ => ⟨g, rfl, lt_of_block hg, hno g hbg, fun j hj k hk => ?_⟩⟩
  rw [blk_cell hg, ← pcells_at' l j hj k hk, ← htake, List.getElem?_take, if_pos (by omega), Array.getElem?_toList]
end
section
open Go.RowKit
theorem hasName_any (rb cap : Nat) (l : List Pst) (p : Pst) (w : World) (hr : ∀ j (hj : j < l.length), rb < w.heap.size ∧ ∀ k, k < 4 → w.cell? (A6 rb (j * 4 + k)) = l[j].cells[k]?) (hll : l.length ≤ 1000000) :
  Calls Tryz.prog 88 #[.slice (some (A6 rb 0)) l.length cap, .agg #[I6 p.c, I6 p.q, I6 p.h, .string p.t]] w fun e w' => e = .returned (.bool (l.any (fun d => sameB d p))) ∧ Below w.heap.size w w' := by
 have hbx := blk_new w (.cells #[I6 p.c, I6 p.q, I6 p.h, .string p.t] 33)
 have hB1 : Below w.heap.size w (w.alloc (.cells #[I6 p.c, I6 p.q, I6 p.h, .string p.t] 33)) := (Below.refl _ w).alloc (Nat.le_refl _) _
 have hX := pstHas_any rb w.heap.size cap l p (w.alloc (.cells #[I6 p.c, I6 p.q, I6 p.h, .string p.t] 33)) (fun j hj => ⟨Nat.lt_of_lt_of_le (hr j hj).1 hB1.size, fun k hk => (hB1.cell (p := (A6 rb (j * 4 + k))) (hr j hj).1).trans ((hr j hj).2 k hk)⟩) hll hbx
 generalize l.any (fun d => sameB d p) = B at *
 go_enter Tryz.func88, Tryz.ntmps88
 go_wp2_with fail
 refine hX.mono ?_
 rintro e w2 ⟨rfl, hB⟩
 clear hX
 have hB2 : Below w.heap.size w w2 := Below.trans hB1 (hB.mono hB1.size)
 go_wp2_with fail
 go_ret
 exact ⟨rfl, hB2⟩
def inChat (ch : Int) (l : List Pst) (k : Nat) (p : Pst) : Bool := p.h == ch && !nothingB p && !(l.take k).any (fun d => sameB d p)
def chatTo (ch : Int) (l : List Pst) : Nat → List Pst
 | 0 => []
 | k + 1 => chatTo ch l k ++ (match l[k]? with | some p => if inChat ch l k p then [p] else [] | none => [])
theorem chatTo_no {ch : Int} {l : List Pst} {k : Nat} (h : ∃ p, l[k]? = some p ∧ inChat ch l k p = false) : chatTo ch l (k + 1) = chatTo ch l k := by
 obtain ⟨p, h1, h2⟩ := h
 simp [chatTo, h1, h2]
theorem chatTo_yes {ch : Int} {l : List Pst} {k : Nat} {p : Pst} (h1 : l[k]? = some p) (h2 : inChat ch l k p = true) : chatTo ch l (k + 1) = chatTo ch l k ++ [p] := by
 simp [chatTo, h1, h2]
theorem chatTo_len (ch : Int) (l : List Pst) : ∀ k, (chatTo ch l k).length ≤ k
 | 0 => by simp [chatTo]
 | k + 1 => by
  have := chatTo_len ch l k
  unfold chatTo
  rw [List.length_append]
  split
  ·split <;> simp <;> omega
  ·simp; omega
set_option maxHeartbeats 4000000 in
theorem rchat_any (rb : Nat) (dec : List Dn) (ch : Int) (w : World) (hr : w.rangeAt rb 101 (dcells dec)) (hl : dec.length = 16) :
  Calls Tryz.prog 60 #[P6 rb, I6 ch] w fun e w' => ∃ v', e = .returned v' ∧ w'.ownsRow w.heap.size 33 4 v' (chatTo ch (logOf dec) (logOf dec).length).length (pcells (chatTo ch (logOf dec) (logOf dec).length)) ∧ Below w.heap.size w w' := by
 obtain ⟨i0, hi, hz0, hz1, hz2⟩ := info_parts Tryz.infoPost
 have hLo := log_any rb dec w hr hl
 have hll : (logOf dec).length ≤ 16 := by have := log_le dec; omega
 generalize logOf dec = l at *
 go_enter Tryz.func60, Tryz.ntmps60
 go_wp2_with fail
 refine hLo.mono ?_
 rintro e w1 ⟨v1, rfl, hown1, hB1⟩
 clear hLo
 have hp1 : PsAt (fun _ => False) w1 v1 l := psAt_owns hown1 (by omega) (fun _ _ h => h)
 have hge : ∀ g, v1.ownBlock = some g → w.heap.size ≤ g := fun g hg => (World.ownsRow.lt hown1 g hg).1
 obtain ⟨a1, c1, rfl, hf1⟩ := hp1.form
 have hcap : l ≠ [] → l.length ≤ c1 := fun hne => by
  rcases hown1.2 with ⟨h1, h0⟩ | ⟨g, cap, cur, h1, hbg, hg, hnc, hcm, hcs, htake⟩
  ·cases l with
   | nil => exact absurd rfl hne
   | cons x l => cases h0
  ·injection h1 with _ _ h1
   omega
 clear hown1 hp1
 go_wp2_with fail
 go_loopw [5, 13] (fun v i wr => ∃ (k : Nat) (M : List Pst), k ≤ l.length ∧ i = I6 k ∧ M = chatTo ch l k ∧ wr.ownsRow w1.heap.size 33 4 v M.length (pcells M) ∧ Below w1.heap.size w1 wr) (fun _ i _ => l.length - (intOf i).toNat)
 case atStart => exact ⟨0, [], by omega, rfl, rfl, World.ownsRow_nil _ _ _ _, Below.refl _ _⟩
 case round =>
  obtain ⟨k, M, hk, rfl, hM, hown, hB⟩ := hrel
  obtain ⟨va, vn, vc, rfl⟩ := owns_slice1 hown
  have hMl : M.length ≤ 16 := by have := chatTo_len ch l k; rw [hM]; omega
  have HM : Hid (M = chatTo ch l k) := hM
  clear hM
  by_cases hkn : k < l.length
  ·have hlne : l ≠ [] := by intro e; rw [e] at hkn; simp at hkn
   have hcap' := hcap hlne
   obtain ⟨g, rfl, hg, _, hc⟩ := hf1 hlne
   have q0 : (0 : Int) ≤ (k : Int) := by omega
   have q1 : (k : Int) < (l.length : Int) := by omega
   have ka := fun j hj => (hB.cell (p := (A6 g (k * 4 + j))) hg).trans (hc k hkn j hj)
   have xa : l[k]? = some l[k] := List.getElem?_eq_getElem hkn
   have Hpre : Hid (∀ j (hj : j < (l.take k).length), g < w1.heap.size ∧ ∀ q, q < 4 → w1.cell? (A6 g (j * 4 + q)) = (l.take k)[j].cells[q]?) := fun j hj => ⟨hg, fun q hq => by
    rw [hc j (by rw [List.length_take] at hj; omega) q hq, List.getElem_take]⟩
   generalize l[k] = y at *
   obtain ⟨yc, yq, yh, yt⟩ := y
   have c0 : wr.cell? (A6 g (k * 4)) = some (I6 yc) := ka 0 (by decide)
   have c1' : wr.cell? (A6 g (k * 4 + 1)) = some (I6 yq) := ka 1 (by decide)
   have c2 : wr.cell? (A6 g (k * 4 + 2)) = some (I6 yh) := ka 2 (by decide)
   have c3 : wr.cell? (A6 g (k * 4 + 3)) = some (.string yt) := ka 3 (by decide)
   have Hy : Hid (l[k]? = some ⟨yc, yq, yh, yt⟩) := xa
   clear ka hc xa hf1
   have hbz := blk_new wr (.cells #[I6 0, I6 0, I6 0, .string ⟨#[]⟩] 33)
   have hzc := blk_cell hbz
   have hzf := blk_free hbz
   have hb8 := blk_new wr (.cells #[I6 yc, I6 yq, I6 yh, .string yt] 33)
   have hw5 : Below wr.heap.size wr (wr.alloc (.cells #[I6 yc, I6 yq, I6 yh, .string yt] 33)) := (Below.refl _ wr).alloc (Nat.le_refl _) _
   have hB5 : Below w1.heap.size w1 (wr.alloc (.cells #[I6 yc, I6 yq, I6 yh, .string yt] 33)) := Below.trans hB (hw5.mono hB.size)
   have hown5 := owns_alloc hown (.cells #[I6 yc, I6 yq, I6 yh, .string yt] 33)
   have hbge : w1.heap.size ≤ wr.heap.size := hB.size
   have hIn := isNothing_any yc yq yh yt (wr.alloc (.cells #[I6 yc, I6 yq, I6 yh, .string yt] 33)).drew
   go_wp2_with fail
   clear hbz hzc hzf c0 c1' c2 c3 hown hB hw5
   generalize wr.alloc (.cells #[I6 yc, I6 yq, I6 yh, .string yt] 33) = w5 at *
   generalize wr.heap.size = b8 at *
   by_cases hh : yh = ch
   ·subst hh
    refine wp_region_held_drew (S := fun w' => w'.heap[b8]? = some (.cells #[I6 yc, I6 yq, I6 yh, .string yt] 33 (0, 0))) (by kernel_rfl) (hb8) (fun hS => ?_)
    refine tk 0 rfl hS (v := ?_) (fun w' hw => ?_) ?_
    rotate_left 1
    ·have d1 := blk_cell hw; go_simp; all_goals with_reducible rfl
    try simp only [ly]
    refine tk 1 rfl hS (v := ?_) (fun w' hw => ?_) ?_
    rotate_left 1
    ·have d1 := blk_cell hw; go_simp; all_goals with_reducible rfl
    try simp only [ly]
    refine tk 2 rfl hS (v := ?_) (fun w' hw => ?_) ?_
    rotate_left 1
    ·have d1 := blk_cell hw; go_simp; all_goals with_reducible rfl
    try simp only [ly]
    refine tk 3 rfl hS (v := ?_) (fun w' hw => ?_) ?_
    rotate_left 1
    ·have d1 := blk_cell hw; go_simp; all_goals with_reducible rfl
    try simp only [ly]
    refine tk 4 rfl hS (v := ?_) (fun w' hw => ?_) ?_
    rotate_left 1
    ·have d1 := blk_cell hw; go_simp; all_goals with_reducible rfl
    try simp only [ly]
    refine tk 5 rfl hS (v := ?_) (fun w' hw => ?_) ?_
    rotate_left 1
    ·have d1 := blk_cell hw; go_simp; all_goals with_reducible rfl
    try simp only [ly]
    refine r1 6 rfl (fun K hK => ?_)
    go_simp
    refine hIn.mono ?_
    rintro e w6 ⟨rfl, hB6⟩
    clear hIn
    have hb6 := blk_below (w := w5.drew) hB6 hb8
    have hown6 := owns_below (w := w5.drew) (owns_drew hown5) hB6
    have hB6' : Below w1.heap.size w1 w6 := Below.trans (Below.drew hB5) (hB6.mono hB5.size)
    have hHas := hasName_any g c1 (l.take k) ⟨yc, yq, yh, yt⟩ w6 (fun j hj => ⟨Nat.lt_of_lt_of_le hg hB6'.size, fun q hq => (hB6'.cell (p := (A6 g (j * 4 + q))) hg).trans ((Hpre.out j hj).2 q hq)⟩) (by rw [List.length_take]; omega)
    rw [List.length_take, Nat.min_eq_left (by omega)] at hHas
    go_wp2_with fail
    refine hK.out _ _ hb6 (fun hS => ?_)
    clear hK K
    try simp only [ly]
    cases hN : nothingB ⟨yc, yq, yh, yt⟩ with
    | true =>
     have HC : Hid (∃ p, l[k]? = some p ∧ inChat yh l k p = false) := ⟨_, Hy.out, by simp [inChat, hN]⟩
     have hown7 := hown6
     have hBz := hB6'
     clear hHas
     refine tk 7 rfl hS (v := ?_) (fun w' hw => ?_) ?_
     rotate_left 1
     ·go_simp; all_goals with_reducible rfl
     try simp only [ly]
     refine tk 8 rfl hS (v := ?_) (fun w' hw => ?_) ?_
     rotate_left 1
     ·go_simp; all_goals with_reducible rfl
     try simp only [ly]
     refine tk 9 rfl hS (v := ?_) (fun w' hw => ?_) ?_
     rotate_left 1
     ·go_simp; all_goals with_reducible rfl
     try simp only [ly]
     refine tn 10 rfl hS ?_
     try simp only [ly]
     refine tn 11 rfl hS ?_
     try simp only [ly]
     refine tn 12 rfl hS ?_
     try simp only [ly]
     refine tn 13 rfl hS ?_
     try simp only [ly]
     refine tn 14 rfl hS ?_
     try simp only [ly]
     refine tn 15 rfl hS ?_
     try simp only [ly]
     refine tk 16 rfl hS (v := ?_) (fun w' hw => ?_) ?_
     rotate_left 1
     ·go_simp; all_goals with_reducible rfl
     try simp only [ly]
     refine dn ?_ _
     go_wp2_with fail
     go_roundw
     case rel => exact ⟨k + 1, M, by omega, by go_num, by rw [HM.out]; exact (chatTo_no HC.out).symm, hown7, hBz⟩
     case measure => simp [intOf]; omega
    | false =>
     obtain ⟨A, hA⟩ : ∃ A, A = (l.take k).any (fun d => sameB d ⟨yc, yq, yh, yt⟩) := ⟨_, rfl⟩
     rw [← hA] at hHas
     have HA : Hid (A = (l.take k).any (fun d => sameB d ⟨yc, yq, yh, yt⟩)) := hA
     have HN : Hid (nothingB ⟨yc, yq, yh, yt⟩ = false) := hN
     clear hA hN
     have hkc : (k : Int) ≤ (c1 : Int) := by omega
     refine tk 7 rfl hS (v := ?_) (fun w' hw => ?_) ?_
     rotate_left 1
     ·have d1 := blk_cell hw; go_simp; all_goals with_reducible rfl
     try simp only [ly]
     refine tk 8 rfl hS (v := ?_) (fun w' hw => ?_) ?_
     rotate_left 1
     ·have d1 := blk_cell hw; go_simp; all_goals with_reducible rfl
     try simp only [ly]
     refine tk 9 rfl hS (v := ?_) (fun w' hw => ?_) ?_
     rotate_left 1
     ·have d1 := blk_cell hw; go_simp; all_goals with_reducible rfl
     try simp only [ly]
     refine tk 10 rfl hS (v := ?_) (fun w' hw => ?_) ?_
     rotate_left 1
     ·have d1 := blk_cell hw; go_simp; all_goals with_reducible rfl
     try simp only [ly]
     refine tk 11 rfl hS (v := ?_) (fun w' hw => ?_) ?_
     rotate_left 1
     ·have d1 := blk_cell hw; go_simp; all_goals with_reducible rfl
     try simp only [ly]
     refine tk 12 rfl hS (v := ?_) (fun w' hw => ?_) ?_
     rotate_left 1
     ·have d1 := blk_cell hw; go_simp; all_goals with_reducible rfl
     try simp only [ly]
     refine tk 13 rfl hS (v := ?_) (fun w' hw => ?_) ?_
     rotate_left 1
     ·have d1 := blk_cell hw; go_simp; all_goals with_reducible rfl
     try simp only [ly]
     refine r1 14 rfl (fun K hK => ?_)
     go_simp
     refine hHas.mono ?_
     rintro e w7 ⟨rfl, hB7⟩
     clear hHas
     have hb7 := blk_below hB7 hb6
     have hown7 := owns_below hown6 hB7
     have hBz : Below w1.heap.size w1 w7 := Below.trans hB6' (hB7.mono hB6'.size)
     go_wp2_with fail
     refine hK.out _ _ hb7 (fun hS => ?_)
     clear hK K
     try simp only [ly]
     cases A with
     | true =>
      have HC : Hid (∃ p, l[k]? = some p ∧ inChat yh l k p = false) := ⟨_, Hy.out, by simp only [inChat, ← HA.out]; simp⟩
      refine tk 15 rfl hS (v := ?_) (fun w' hw => ?_) ?_
      rotate_left 1
      ·go_simp; all_goals with_reducible rfl
      try simp only [ly]
      refine tk 16 rfl hS (v := ?_) (fun w' hw => ?_) ?_
      rotate_left 1
      ·go_simp; all_goals with_reducible rfl
      try simp only [ly]
      refine dn ?_ _
      go_wp2_with fail
      go_roundw
      case rel => exact ⟨k + 1, M, by omega, by go_num, by rw [HM.out]; exact (chatTo_no HC.out).symm, hown7, hBz⟩
      case measure => simp [intOf]; omega
     | false =>
      have HC : Hid (inChat yh l k ⟨yc, yq, yh, yt⟩ = true) := by show _ = _; simp only [inChat, ← HA.out, HN.out]; simp
      have hbb : M.length + 1 ≤ maxLen ∧ (M.length + 1) * 40 ≤ 140737488355328 := ⟨by unfold maxLen; omega, by omega⟩
      have hz := hBz.size
      have h1c : ∀ u ∈ [I6 yc, I6 yq, I6 yh, .string yt], u.oneCell' = true := by
       intro u hu; simp at hu; rcases hu with rfl | rfl | rfl | rfl <;> rfl
      have hbc7 := blk_cell hb7
      refine tk 15 rfl hS (v := ?_) (fun w' hw => ?_) ?_
      rotate_left 1
      ·go_simp; all_goals with_reducible rfl
      try simp only [ly]
      refine tk 16 rfl hS (v := ?_) (fun w' hw => ?_) ?_
      rotate_left 1
      ·go_simp; all_goals with_reducible rfl
      try simp only [ly]
      refine dn ?_ _
      go_wp2_with (at_builtin; refine wpList_append_lies _ rfl (.tmp 35) (.tmp 37) 54 rfl w1.heap.size 33 i0 _ 4 40 Tryz.underlying54 hi hz0 hz1 hz2 rfl (by decide) (.slice va vn vc) M.length (pcells M) rfl (owns_alloc hown7 _) _ 1 1 [I6 yc, I6 yq, I6 yh, .string yt] rfl rfl (news_new _ _ (by simp) _ _) h1c (by decide) hbb.1 hbb.2 (by simp; omega) _ rfl ?_; intro g2 cap2 w9 hown9 hgr hat hlt9)
      go_roundw
      case rel =>
       refine ⟨k + 1, M ++ [⟨yc, yq, yh, yt⟩], by omega, by go_num, ?_, ?_, ?_⟩
       ·rw [HM.out]; exact (chatTo_yes Hy.out HC.out).symm
       ·rw [pcells_append, List.length_append]
        simpa [pcells, Pst.cells] using hown9
       ·refine (hBz.alloc (by omega) _).trans ⟨hgr.os, hgr.tape, hgr.output, hgr.size, fun b hb => hgr.block b (by simp; omega) (fun e => by have := (World.ownsRow.lt hown7 b e.symm).1; omega)⟩
      case measure => simp [intOf]; omega
   ·have HC : Hid (∃ p, l[k]? = some p ∧ inChat ch l k p = false) := ⟨_, Hy.out, by simp [inChat, hh]⟩
    have hh' : (yh == ch) = false := by simpa using hh
    have hown7 := owns_drew hown5
    have hBz := Below.drew hB5
    clear hIn
    refine wp_region_held_drew (S := fun w' => w'.heap[b8]? = some (.cells #[I6 yc, I6 yq, I6 yh, .string yt] 33 (0, 0))) (by kernel_rfl) (hb8) (fun hS => ?_)
    refine tk 0 rfl hS (v := ?_) (fun w' hw => ?_) ?_
    rotate_left 1
    ·have d1 := blk_cell hw; go_simp; all_goals with_reducible rfl
    try simp only [ly]
    refine tk 1 rfl hS (v := ?_) (fun w' hw => ?_) ?_
    rotate_left 1
    ·have d1 := blk_cell hw; go_simp; all_goals with_reducible rfl
    try simp only [ly]
    refine tk 2 rfl hS (v := ?_) (fun w' hw => ?_) ?_
    rotate_left 1
    ·have d1 := blk_cell hw; go_simp; all_goals with_reducible rfl
    try simp only [ly]
    refine tk 3 rfl hS (v := ?_) (fun w' hw => ?_) ?_
    rotate_left 1
    ·have d1 := blk_cell hw; go_simp; all_goals with_reducible rfl
    try simp only [ly]
    refine tk 4 rfl hS (v := ?_) (fun w' hw => ?_) ?_
    rotate_left 1
    ·have d1 := blk_cell hw; go_simp; all_goals with_reducible rfl
    try simp only [ly]
    refine tn 5 rfl hS ?_
    try simp only [ly]
    refine tn 6 rfl hS ?_
    try simp only [ly]
    refine tn 7 rfl hS ?_
    try simp only [ly]
    refine tk 8 rfl hS (v := ?_) (fun w' hw => ?_) ?_
    rotate_left 1
    ·go_simp; all_goals with_reducible rfl
    try simp only [ly]
    refine tk 9 rfl hS (v := ?_) (fun w' hw => ?_) ?_
    rotate_left 1
    ·go_simp; all_goals with_reducible rfl
    try simp only [ly]
    refine tn 10 rfl hS ?_
    try simp only [ly]
    refine tn 11 rfl hS ?_
    try simp only [ly]
    refine tn 12 rfl hS ?_
    try simp only [ly]
    refine tn 13 rfl hS ?_
    try simp only [ly]
    refine tn 14 rfl hS ?_
    try simp only [ly]
    refine tn 15 rfl hS ?_
    try simp only [ly]
    refine tk 16 rfl hS (v := ?_) (fun w' hw => ?_) ?_
    rotate_left 1
    ·go_simp; all_goals with_reducible rfl
    try simp only [ly]
    refine dn ?_ _
    go_wp2_with fail
    go_roundw
    case rel => exact ⟨k + 1, M, by omega, by go_num, by rw [HM.out]; exact (chatTo_no HC.out).symm, hown7, hBz⟩
    case measure => simp [intOf]; omega
  ·obtain rfl : k = l.length := by omega
   go_wp2_with fail
   go_ret
   refine ⟨_, rfl, ?_, Below.trans hB1 (hB.mono hB1.size)⟩
   rw [← HM.out]
   exact owns_base hown hB1.size
theorem chat_yes {w : World} {sb : Nat} {L : Lay} {s : Sy} (h : SynAt w sb L s) {i : Nat} (hi : i < s.n) (ch : Int) (h0 : 0 ≤ ch) (h1 : ch < 4) :
  Calls Tryz.prog 31 #[P6 sb, I6 (i : Int), I6 ch] w fun e w' => ∃ v', e = .returned (.tuple #[v', I6 0]) ∧ w'.ownsRow w.heap.size 33 4 v' (chatTo ch (logOf (s.rep i).dec) (logOf (s.rep i).dec).length).length (pcells (chatTo ch (logOf (s.rep i).dec) (logOf (s.rep i).dec).length)) ∧ Below w.heap.size w w' := by
 have hF := find_yes h hi
 have hL := rchat_any (L.rb i) (s.rep i).dec ch w (h.decs hi) (h.ok.repOk hi).dec
 go_enter Tryz.func31, Tryz.ntmps31
 go_wp2_with fail
 refine hF.mono ?_
 rintro e w2 ⟨rfl, hw2⟩
 have hw2' := hw2.symm
 subst hw2'
 clear hF hw2
 go_wp2_with fail
 refine hL.mono ?_
 rintro e w2 ⟨v', rfl, hown, hB⟩
 clear hL
 go_wp2_with fail
 go_ret2
 exact ⟨v', rfl, hown, hB⟩
end
section
def valP (p : Pst) : Prop := p = noPst ∨ rightPostB p = true
theorem valP.client {p : Pst} (h : valP p) : (!nothingB p) = (p.c != 0) := by
 rcases h with rfl | h
 ·simp [nothingB, noPst, ByteArray.toList_eq]
 ·unfold rightPostB withinB at h
  simp at h
  have hc : p.c ≠ 0 := by omega
  have h1 : (p.c == 0) = false := by simp [hc]
  unfold nothingB
  simp [h1, bne]
def inChatR (ch : Int) (l : List Pst) (k : Nat) (p : Pst) : Bool := (l.take k).all (fun d => d.c != p.c || d.q != p.q) && p.c != 0 && p.h == ch
theorem inChat_eq {ch : Int} {l : List Pst} {k : Nat} {p : Pst} (h : valP p) : inChatR ch l k p = inChat ch l k p := by
 unfold inChatR inChat
 rw [h.client]
 have e : (l.take k).all (fun d => d.c != p.c || d.q != p.q) = !(l.take k).any (fun d => sameB d p) := by
  rw [List.not_any_eq_all_not]
  congr 1
  funext d
  unfold sameB
  simp [Bool.not_and, bne]
 rw [e]
 cases (p.h == ch) <;> cases (p.c != 0) <;> simp
end
end Go.Proofs.YtnnhnekfokbooaaGreatDoor
