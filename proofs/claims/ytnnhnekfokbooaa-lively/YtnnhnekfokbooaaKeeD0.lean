/- Where a run of a statement stands (laid by mkkeed.py). -/
import Derived.Test.YtnnhnekfokbooaaKeeB0
namespace Go.Proofs.Ytnnhnekfokbooaa
open Go.RowKit
set_option linter.unusedSimpArgs false
set_option linter.unusedVariables false

/-- A step of a script, as data. -/
structure St3 where
  k : Int
  a : Int
  b : Int
/-- v is a slice of the steps l. -/
structure StAt (w : World) (v : Value) (l : List St3) : Prop where
  len : l.length ≤ 9223372036854775807
  nums : ∀ x ∈ l, I64 x.k ∧ I64 x.a ∧ I64 x.b
  form : ∃ ao cap, v = .slice ao l.length cap ∧ (l ≠ [] → ∃ g off, ao = some ⟨g, off, none⟩ ∧ g < w.heap.size ∧ ∀ j (hj : j < l.length), w.cell? ⟨g, off + j * 3, none⟩ = some (.int .i64 l[j].k) ∧ w.cell? ⟨g, off + j * 3 + 1, none⟩ = some (.int .i64 l[j].a) ∧ w.cell? ⟨g, off + j * 3 + 2, none⟩ = some (.int .i64 l[j].b))

/-- Where a run of a statement stands: a chat whose blocks are new since w0, all else as it was. -/
structure Run (w0 w : World) (cb sb : Nat) (L : Lay) (s : Sy) (pv lv : Value) (ps : List Pst) : Prop where
  chat : ChatAt w cb sb L s pv lv ps
  new : ∀ k, cOwn cb sb L s.n pv k → w0.heap.size ≤ k
  below : Below w0.heap.size w0 w
theorem Run.next {w0 w w' : World} {cb sb : Nat} {L : Lay} {s s' : Sy} {pv lv : Value} {ps ps' : List Pst} (h : Run w0 w cb sb L s pv lv ps) (c : ChatTo w cb sb L s pv lv w' s' ps') : ∃ L' pv', Run w0 w' cb sb L' s' pv' lv ps' ∧ s'.n = s.n ∧ (∀ k, cOwn cb sb L' s.n pv' k → cOwn cb sb L s.n pv k ∨ w.heap.size ≤ k) ∧ Keeps (cOwn cb sb L s.n pv) w w' := by
  obtain ⟨L', pv', h1, n1, o1, k1⟩ := c
  refine ⟨L', pv', ⟨h1, fun k hk => ?_, Keeps.toBelow h.below k1 (fun b hb => h.new b hb) h.below.size⟩, n1, o1, k1⟩
  rw [n1] at hk
  rcases o1 k hk with h2 | h2
  · exact h.new k h2
  · have := h.below.size; omega
theorem Run.over {w0 w w' : World} {cb sb : Nat} {L : Lay} {s : Sy} {pv lv : Value} {ps : List Pst} (h : Run w0 w cb sb L s pv lv ps) (hB : Below w.heap.size w w') : Run w0 w' cb sb L s pv lv ps :=
  ⟨h.chat.below hB, h.new, Below.trans h.below (hB.mono h.below.size)⟩

theorem mvs_pr {s s' : Sy} {ps ps' : List Pst} (hg : Good s ps) (m : Mvs s ps s' ps') : ∀ j, j < s.n → (s.rep j).pr ≤ (s'.rep j).pr := by
  have : s'.n = s.n ∧ Good s' ps' ∧ ∀ j, j < s.n → (s.rep j).pr ≤ (s'.rep j).pr := by
    induction m with
    | refl => exact ⟨rfl, hg, fun _ _ => Int.le_refl _⟩
    | step _ ok m ih =>
      obtain ⟨h1, h2, h3⟩ := ih hg
      obtain ⟨k1, k2, k3⟩ := h2.mv ok m
      exact ⟨k2.trans h1, k1, fun j hj => Int.le_trans (h3 j hj) (k3 j (by rw [h1]; exact hj))⟩
  exact this.2.2
theorem Run.write {w0 w : World} {cb sb wb : Nat} {L : Lay} {s : Sy} {pv lv : Value} {ps : List Pst} (h : Run w0 w cb sb L s pv lv ps) {cs : Array Value} {t : TypeId} (hb : w.heap[wb]? = some (.cells cs t (0, 0))) (ht : t ≠ 77) (hno : ¬ cOwn cb sb L s.n pv wb) (hge : w0.heap.size ≤ wb) (k : Nat) (v : Value) : Run w0 (w.setCell ⟨wb, k, none⟩ v) cb sb L s pv lv ps := by
  have hk : Keeps (fun k => k = wb) w (w.setCell ⟨wb, k, none⟩ v) := Keeps.ofSet (P := fun k => k = wb) (a := ⟨wb, k, none⟩) (.inl rfl) _
  refine ⟨⟨h.chat.syn.frame hk (fun k _ e ho => hno (by rw [← e]; exact .inr (.inl ho))) (fun k cs' hc e => ?_), h.chat.good, blk_keeps hk h.chat.blk (fun e => hno (by rw [← e]; exact .inl rfl)), owns_keeps h.chat.posts hk (fun g hg e => hno (by rw [← e]; exact .inr (.inr hg)))⟩, h.new, h.below.setCell hge _⟩
  rw [e, hb] at hc; injection hc with e1; injection e1 with _ e1
  exact ht e1
def icz (l : List Int) : Array Value := (l.map (Value.int .i64)).toArray
theorem icz_at {l : List Int} {k : Nat} (h : k < l.length) : (icz l)[k]? = some (.int .i64 (l.getD k 0)) := by
  unfold icz
  rw [List.getElem?_toArray, List.getElem?_map, List.getD_eq_getElem?_getD, List.getElem?_eq_getElem h]
  rfl
theorem icz_set (l : List Int) (k : Nat) (v : Int) : (icz l).setIfInBounds k (.int .i64 v) = icz (l.set k v) := by
  unfold icz
  rw [List.setIfInBounds_toArray, List.map_set]
end Go.Proofs.Ytnnhnekfokbooaa
