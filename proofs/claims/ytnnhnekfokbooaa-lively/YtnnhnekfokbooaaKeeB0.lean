/- The statements' chat in memory (laid by mkkeeb.py). -/
import Derived.Test.YtnnhnekfokbooaaKeeA
namespace Go.Proofs.Ytnnhnekfokbooaa
open Go.RowKit
set_option linter.unusedSimpArgs false
set_option linter.unusedVariables false

structure ChatAt (w : World) (cb sb : Nat) (L : Lay) (s : Sy) (pv lv : Value) (ps : List Pst) : Prop where
  syn : SynAt w sb L s
  good : Good s ps
  blk : w.heap[cb]? = some (.cells #[.pointer (some ⟨sb, 0, none⟩), .int .i64 (s.n : Int), pv, lv] 30 (0, 0))
  posts : w.ownsRow 0 38 4 pv ps.length (pcells ps)
/-- The blocks that a chat writes. -/
def cOwn (cb sb : Nat) (L : Lay) (n : Nat) (pv : Value) (k : Nat) : Prop := k = cb ∨ L.own sb n k ∨ pv.ownBlock = some k
def ChatTo (w : World) (cb sb : Nat) (L : Lay) (s : Sy) (pv lv : Value) (w' : World) (s' : Sy) (ps' : List Pst) : Prop :=
  ∃ L' pv', ChatAt w' cb sb L' s' pv' lv ps' ∧ s'.n = s.n ∧ (∀ k, cOwn cb sb L' s.n pv' k → cOwn cb sb L s.n pv k ∨ w.heap.size ≤ k) ∧ Keeps (cOwn cb sb L s.n pv) w w'
theorem ChatAt.cbNot {w : World} {cb sb : Nat} {L : Lay} {s : Sy} {pv lv : Value} {ps : List Pst} (h : ChatAt w cb sb L s pv lv ps) : ¬ L.own sb s.n cb := h.syn.not_own h.blk (by unfold ownT; decide)
theorem ChatAt.pvNot {w : World} {cb sb : Nat} {L : Lay} {s : Sy} {pv lv : Value} {ps : List Pst} (h : ChatAt w cb sb L s pv lv ps) {g : Nat} (hg : pv.ownBlock = some g) : ¬ L.own sb s.n g := by
  obtain ⟨cs, hc⟩ := owns_blk h.posts hg
  exact h.syn.not_own hc (by unfold ownT; decide)
theorem ChatAt.pvCb {w : World} {cb sb : Nat} {L : Lay} {s : Sy} {pv lv : Value} {ps : List Pst} (h : ChatAt w cb sb L s pv lv ps) : pv.ownBlock ≠ some cb := fun hg => by
  obtain ⟨cs, hc⟩ := owns_blk h.posts hg
  rw [h.blk] at hc; injection hc with e; injection e with _ e; simp at e
theorem ChatAt.below {w w' : World} {cb sb : Nat} {L : Lay} {s : Sy} {pv lv : Value} {ps : List Pst} (h : ChatAt w cb sb L s pv lv ps) (hB : Below w.heap.size w w') : ChatAt w' cb sb L s pv lv ps :=
  ⟨h.syn.below hB, h.good, blk_below hB h.blk, owns_below h.posts hB⟩
theorem ChatAt.own_lt {w : World} {cb sb : Nat} {L : Lay} {s : Sy} {pv lv : Value} {ps : List Pst} (h : ChatAt w cb sb L s pv lv ps) {k : Nat} (hk : cOwn cb sb L s.n pv k) : k < w.heap.size := by
  rcases hk with rfl | hk | hk
  · exact lt_of_block h.blk
  · exact h.syn.own_lt hk
  · obtain ⟨cs, hc⟩ := owns_blk h.posts hk
    exact lt_of_block hc
theorem ChatTo.refl {w : World} {cb sb : Nat} {L : Lay} {s : Sy} {pv lv : Value} {ps : List Pst} (h : ChatAt w cb sb L s pv lv ps) : ChatTo w cb sb L s pv lv w s ps := ⟨L, pv, h, rfl, fun _ h => .inl h, Keeps.refl _ _⟩
theorem ChatTo.trans {w w1 w2 : World} {cb sb : Nat} {L : Lay} {s s1 s2 : Sy} {pv lv : Value} {ps1 ps2 : List Pst} (a : ChatTo w cb sb L s pv lv w1 s1 ps1) (b : ∀ L1 pv1, ChatAt w1 cb sb L1 s1 pv1 lv ps1 → ChatTo w1 cb sb L1 s1 pv1 lv w2 s2 ps2) : ChatTo w cb sb L s pv lv w2 s2 ps2 := by
  obtain ⟨L1, pv1, h1, n1, o1, k1⟩ := a
  obtain ⟨L2, pv2, h2, n2, o2, k2⟩ := b L1 pv1 h1
  rw [n1] at o2 k2
  refine ⟨L2, pv2, h2, n2.trans n1, fun k hk => ?_, ?_⟩
  · rcases o2 k hk with h | h
    · exact o1 k h
    · exact .inr (Nat.le_trans k1.size h)
  · refine ⟨k2.os.trans k1.os, k2.tape.trans k1.tape, k2.output.trans k1.output, Nat.le_trans k1.size k2.size, fun k hk hno => ?_⟩
    rw [k2.block k (Nat.lt_of_lt_of_le hk k1.size) (fun ho => by rcases o1 k ho with h | h; exact hno h; omega)]
    exact k1.block k hk hno
theorem ChatTo.below {w w1 w2 : World} {cb sb : Nat} {L : Lay} {s s1 : Sy} {pv lv : Value} {ps1 : List Pst} (a : ChatTo w cb sb L s pv lv w1 s1 ps1) (hB : Below w1.heap.size w1 w2) : ChatTo w cb sb L s pv lv w2 s1 ps1 :=
  a.trans (fun L1 pv1 h1 => ⟨L1, pv1, h1.below hB, rfl, fun _ h => .inl h, Keeps.ofBelow hB⟩)
/-- A move of the synod. -/
theorem ChatAt.to {w w' : World} {cb sb : Nat} {L : Lay} {s s' : Sy} {pv lv : Value} {ps : List Pst} (h : ChatAt w cb sb L s pv lv ps) (hto : SynTo w sb L w' s') (hg : Good s' ps) (hn : s'.n = s.n) : ChatTo w cb sb L s pv lv w' s' ps := by
  obtain ⟨L', h1, e1, o1, k1⟩ := hto
  rw [hn] at o1 k1
  refine ⟨L', pv, ⟨h1, hg, ?_, owns_keeps h.posts k1 (fun g hg => h.pvNot hg)⟩, hn, fun k hk => ?_, k1.mono (fun k _ hk => .inr (.inl hk))⟩
  · rw [hn]; exact blk_keeps k1 h.blk h.cbNot
  · rcases hk with hk | hk | hk
    · exact .inl (.inl hk)
    · rcases o1 k hk with h | h
      · exact .inl (.inr (.inl h))
      · exact .inr h
    · exact .inl (.inr (.inr hk))
theorem ChatTo.after {w w1 w2 : World} {cb sb : Nat} {L : Lay} {s s2 : Sy} {pv lv : Value} {ps2 : List Pst} (hB : Below w.heap.size w w1) (b : ChatTo w1 cb sb L s pv lv w2 s2 ps2) : ChatTo w cb sb L s pv lv w2 s2 ps2 := by
  obtain ⟨L', pv', h', n', o', k'⟩ := b
  exact ⟨L', pv', h', n', fun k hk => (o' k hk).imp id (fun h => Nat.le_trans hB.size h), Keeps.trans (Keeps.ofBelow hB) k'⟩
theorem goods {s s' : Sy} {ps ps' : List Pst} (hg : Good s ps) (m : Mvs s ps s' ps') : Good s' ps' := by
  induction m with
  | refl => exact hg
  | step _ ok m ih => exact ((ih hg).mv ok m).1
/-- A post was taken. -/
theorem ChatAt.took {w w7 w9 : World} {cb sb : Nat} {L : Lay} {s s7 : Sy} {pa : Option Addr} {pc : Nat} {lv : Value} {ps : List Pst} {p : Pst} (h : ChatAt w cb sb L s (.slice pa ps.length pc) lv ps) (hto : SynTo w sb L w7 s7) (hn : s7.n = s.n) (hg : Good s7 (ps ++ [p])) {g cap : Nat} {o : Obj}
    (hown9 : w9.ownsRow 0 38 4 (.slice (some ⟨g, 0, none⟩) (ps.length + 1) cap) (ps.length + 1) (pcells ps ++ [.int .i64 p.c, .int .i64 p.q, .int .i64 p.h, .string p.t])) (hgr : (w7.alloc o).grownBy w9 (Value.slice pa ps.length pc).ownBlock) (hat : (Value.slice pa ps.length pc).ownBlock = some g ∨ g = (w7.alloc o).heap.size) :
    ChatTo w cb sb L s (.slice pa ps.length pc) lv (w9.setCell ⟨cb, 2, none⟩ (.slice (some ⟨g, 0, none⟩) (ps.length + 1) cap)) s7 (ps ++ [p]) := by
  obtain ⟨L', h1, e1, o1, k1⟩ := hto
  rw [hn] at o1 k1
  have hcb7 := blk_keeps k1 h.blk h.cbNot
  have hpo7 := owns_keeps h.posts k1 (fun g hg => h.pvNot hg)
  have hcb9 := blk_grown hgr (blk_alloc hcb7 o) h.pvCb
  have hplt : ∀ k, (Value.slice pa ps.length pc).ownBlock = some k → k < w.heap.size := fun k hk => h.own_lt (.inr (.inr hk))
  have hgcb : g ≠ cb := by
    rcases hat with e | e
    · intro e2; rw [e2] at e; exact h.pvCb e
    · have := lt_of_block hcb7
      rw [World.size_alloc] at e; omega
  have hk7 : Keeps (fun k => k = cb ∨ (Value.slice pa ps.length pc).ownBlock = some k) w7 (w9.setCell ⟨cb, 2, none⟩ (.slice (some ⟨g, 0, none⟩) (ps.length + 1) cap)) :=
    ((Keeps.ofAlloc w7 o).trans ((Keeps.ofGrown hgr).mono (fun k _ hk => .inr hk))).trans ((Keeps.ofSet (P := fun k => k = cb) (a := ⟨cb, 2, none⟩) (.inl rfl) _).mono (fun k _ hk => .inl hk))
  have hcs : ∀ k cs t, w7.heap[k]? = some (.cells cs t (0, 0)) → (k = cb ∨ (Value.slice pa ps.length pc).ownBlock = some k) → t = 30 ∨ t = 38 := by
    intro k cs t hc hk
    rcases hk with rfl | hk
    · rw [hcb7] at hc; injection hc with e; injection e with _ e; exact .inl e.symm
    · obtain ⟨cs', hc'⟩ := owns_blk hpo7 hk
      rw [hc'] at hc; injection hc with e; injection e with _ e; exact .inr e.symm
  refine ⟨L', .slice (some ⟨g, 0, none⟩) (ps.length + 1) cap, ⟨h1.frame hk7 (fun k _ hk ho => ?_) (fun k cs hc hk => ?_), hg, ?_, ?_⟩, hn, fun k hk => ?_, ?_⟩
  · rw [hn] at ho
    obtain ⟨cs, t, ht, hb⟩ := h1.ownType (by rw [hn]; exact ho)
    have := hcs k cs t hb hk
    rcases this with e | e <;> (rw [e] at ht; unfold ownT at ht; simp at ht)
  · have := hcs k cs _ hc hk
    simp at this
  · rw [blk_set hcb9, hn]; rfl
  · rw [pcells_append, List.length_append]
    exact owns_set hown9 (fun e => hgcb (by simpa [Value.ownBlock] using e)) _
  · rcases hk with hk | hk | hk
    · exact .inl (.inl hk)
    · rcases o1 k hk with h | h
      · exact .inl (.inr (.inl h))
      · exact .inr h
    · have e : g = k := by simpa [Value.ownBlock] using hk
      subst e
      rcases hat with e | e
      · exact .inl (.inr (.inr e))
      · right
        have := k1.size
        rw [World.size_alloc] at e; omega
  · refine ⟨hk7.os.trans k1.os, hk7.tape.trans k1.tape, hk7.output.trans k1.output, Nat.le_trans k1.size hk7.size, fun k hk hno => ?_⟩
    rw [hk7.block k (Nat.lt_of_lt_of_le hk k1.size) (fun hx => ?_)]
    · exact k1.block k hk (fun ho => hno (.inr (.inl ho)))
    · rcases hx with hx | hx
      · exact hno (.inl hx)
      · exact hno (.inr (.inr hx))
theorem mvs_good {s s' : Sy} {ps ps' : List Pst} (hg : Good s ps) (hok : s.ok) (m : Mv s ps s' ps') : Good s' ps' := (hg.mv hok m).1

end Go.Proofs.Ytnnhnekfokbooaa
