/- Logs of the plain machine: each only grows, of any two one is the beginning of the other. -/
import Derived.Test.YtnnhnekfokbooaaPax
import Derived.Test.YtnnhnekfokbooaaKeeD0
namespace Go.Proofs.Ytnnhnekfokbooaa
open Go.RowKit
set_option linter.unusedSimpArgs false
set_option linter.unusedVariables false

theorem logOf_no {x : Dn} (h : x.m = false) (l : List Dn) : logOf (x :: l) = [] := by unfold logOf; simp [h]
theorem logOf_yes {x : Dn} (h : x.m = true) (l : List Dn) : logOf (x :: l) = x.p :: logOf l := by unfold logOf; simp [h]
theorem log_grows : ∀ (a b : List Dn), (∀ k, (a.getD k noDn).m = true → b.getD k noDn = a.getD k noDn) → logOf a <+: logOf b
  | [], b, _ => List.nil_prefix
  | x :: a, b, h => by
    cases hx : x.m
    · rw [logOf_no hx]; exact List.nil_prefix
    · have h0 := h 0 hx
      match b, h, h0 with
      | [], h, h0 => 
        have h1 : noDn = x := h0
        rw [← h1] at hx; cases hx
      | y :: b, h, h0 =>
        have h1 : y = x := h0
        subst h1
        rw [logOf_yes hx, logOf_yes hx]
        exact (List.cons_prefix_cons).2 ⟨rfl, log_grows a b (fun k hk => h (k + 1) hk)⟩
theorem log_both : ∀ (a b : List Dn), (∀ k, (a.getD k noDn).m = true → (b.getD k noDn).m = true → (a.getD k noDn).p = (b.getD k noDn).p) → logOf a <+: logOf b ∨ logOf b <+: logOf a
  | [], b, _ => .inl List.nil_prefix
  | x :: a, [], _ => .inr List.nil_prefix
  | x :: a, y :: b, h => by
    cases hx : x.m
    · rw [logOf_no hx]; exact .inl List.nil_prefix
    · cases hy : y.m
      · rw [logOf_no hy]; exact .inr List.nil_prefix
      · have h0 : x.p = y.p := h 0 hx hy
        rw [logOf_yes hx, logOf_yes hy, h0]
        rcases log_both a b (fun k => h (k + 1)) with h1 | h1
        · exact .inl ((List.cons_prefix_cons).2 ⟨rfl, h1⟩)
        · exact .inr ((List.cons_prefix_cons).2 ⟨rfl, h1⟩)
theorem rs_dec {i : Nat} {r r' : Rp} (h : RS i r r') : ∀ k, (r.dec.getD k noDn).m = true → r'.dec.getD k noDn = r.dec.getD k noDn := by
  intro k hk
  cases h with
  | votes b next ps ps' h q p hq =>
    show (r.dec.set q ⟨true, p⟩).getD k noDn = _
    rw [getD_set]
    split
    · rename_i hc
      rw [hc.1] at hk
      have : r.dm q = true := hk
      rw [this] at hq; cases hq
    · rfl
  | told q p hq =>
    show (r.dec.set q ⟨true, p⟩).getD k noDn = _
    rw [getD_set]
    split
    · rename_i hc
      rw [hc.1] at hk
      have : r.dm q = true := hk
      rw [this] at hq; cases hq
    · rfl
  | _ => rfl
theorem mvs_log {s s' : Sy} {ps ps' : List Pst} (m : Mvs s ps s' ps') : s'.n = s.n ∧ ∀ j, j < s.n → logOf (s.rep j).dec <+: logOf (s'.rep j).dec := by
  induction m with
  | refl => exact ⟨rfl, fun _ _ => List.prefix_refl _⟩
  | step _ ok m ih =>
    obtain ⟨h1, h2⟩ := ih
    obtain ⟨k1, k2⟩ := mv_rs ok m
    exact ⟨k1.trans h1, fun j hj => List.IsPrefix.trans (h2 j hj) (log_grows _ _ (rs_dec (k2 j (by rw [h1]; exact hj))))⟩
def Sound (s : Sy) : Prop := ∃ P V, PInv P V s
theorem mvs_sound {s s' : Sy} {ps ps' : List Pst} (h : Sound s) (m : Mvs s ps s' ps') : Sound s' := by
  induction m with
  | refl => exact h
  | step _ ok m ih =>
    obtain ⟨P, V, h1⟩ := ih
    exact pinv_mv h1 ok m
theorem Sound.logs {s : Sy} (h : Sound s) {i j : Nat} (hi : i < s.n) (hj : j < s.n) : logOf (s.rep i).dec <+: logOf (s.rep j).dec ∨ logOf (s.rep j).dec <+: logOf (s.rep i).dec := by
  obtain ⟨P, V, h1⟩ := h
  exact log_both _ _ (fun k a b => h1.agree i j k hi hj a b)
theorem newSy_sound (n : Nat) (hn : n ≤ 7) : Sound (newSy n) := ⟨_, _, pinv_new n hn⟩

/-- v is a slice of the posts l, in a block outside own. -/
structure PsAt (own : Nat → Prop) (w : World) (v : Value) (l : List Pst) : Prop where
  len : l.length ≤ 1000000
  form : ∃ ao cap, v = .slice ao l.length cap ∧ (l ≠ [] → ∃ g, ao = some ⟨g, 0, none⟩ ∧ g < w.heap.size ∧ ¬ own g ∧ ∀ j (hj : j < l.length), ∀ k, k < 4 → w.cell? ⟨g, j * 4 + k, none⟩ = l[j].cells[k]?)
theorem PsAt.nil (own : Nat → Prop) (w : World) : PsAt own w (.slice none 0 0) [] := ⟨by simp, none, 0, rfl, fun h => absurd rfl h⟩
theorem PsAt.mono {own own' : Nat → Prop} {w : World} {v : Value} {l : List Pst} (h : PsAt own w v l) (ho : ∀ g, g < w.heap.size → own' g → own g) : PsAt own' w v l := by
  obtain ⟨hl, ao, cap, rfl, hf⟩ := h
  refine ⟨hl, ao, cap, rfl, fun hne => ?_⟩
  obtain ⟨g, rfl, hg, hno, hc⟩ := hf hne
  exact ⟨g, rfl, hg, fun h => hno (ho g hg h), hc⟩
theorem PsAt.keeps {own Q : Nat → Prop} {w w' : World} {v : Value} {l : List Pst} (h : PsAt own w v l) (hk : Keeps Q w w') (hQ : ∀ g, Q g → own g) : PsAt own w' v l := by
  obtain ⟨hl, ao, cap, rfl, hf⟩ := h
  refine ⟨hl, ao, cap, rfl, fun hne => ?_⟩
  obtain ⟨g, rfl, hg, hno, hc⟩ := hf hne
  refine ⟨g, rfl, Nat.lt_of_lt_of_le hg hk.size, hno, fun j hj k hk4 => ?_⟩
  rw [← hc j hj k hk4]
  exact World.cell?_of_block (hk.block g hg (fun h => hno (hQ g h))) 
theorem pcells_at' : ∀ (l : List Pst) (j : Nat) (hj : j < l.length) (k : Nat), k < 4 → (pcells l)[j * 4 + k]? = l[j].cells[k]?
  | [], j, hj, _, _ => by simp at hj
  | p :: l, 0, _, k, hk => by
    show (p.cells ++ pcells l)[0 * 4 + k]? = p.cells[k]?
    rw [List.getElem?_append_left (by show 0 * 4 + k < 4; omega)]
    simp
  | p :: l, j + 1, hj, k, hk => by
    have hj' : j < l.length := by simpa using hj
    show (p.cells ++ pcells l)[(j + 1) * 4 + k]? = l[j].cells[k]?
    rw [List.getElem?_append_right (by show 4 ≤ _; omega)]
    have e : (j + 1) * 4 + k - p.cells.length = j * 4 + k := by show (j + 1) * 4 + k - 4 = _; omega
    rw [e]
    exact pcells_at' l j (by simpa using hj) k hk
theorem psAt_owns {own : Nat → Prop} {w : World} {base : Nat} {v : Value} {l : List Pst} (h : w.ownsRow base 38 4 v l.length (pcells l)) (hl : l.length ≤ 1000000) (hno : ∀ g, base ≤ g → ¬ own g) : PsAt own w v l := by
  rcases h.2 with ⟨h1, h0⟩ | ⟨g, cap, cur, rfl, hbg, hg, hnc, hcm, hcs, htake⟩
  · have : l = [] := by
      cases l with
      | nil => rfl
      | cons x l => cases h0
    subst this
    rw [h1]
    exact ⟨by simp, none, 0, rfl, fun h => absurd rfl h⟩
  · refine ⟨hl, _, _, rfl, fun _ => ⟨g, rfl, lt_of_block hg, hno g hbg, fun j hj k hk => ?_⟩⟩
    rw [blk_cell hg, ← pcells_at' l j hj k hk, ← htake, List.getElem?_take, if_pos (by omega), Array.getElem?_toList]
end Go.Proofs.Ytnnhnekfokbooaa
