/- The walk of the net's Put. -/
import Derived.Test.YtnnhnekfokbooaaCodeC
import Derived.Deep.RegionLaw
import Derived.Deep.RegionHeld3
namespace Go.Proofs.Ytnnhnekfokbooaa
open Go.RowKit
set_option linter.unusedSimpArgs false
set_option linter.unusedVariables false

theorem blk_drew {w : World} {b : Nat} {ob : Obj} (h : w.heap[b]? = some ob) : w.drew.heap[b]? = some ob := h
theorem owns_drew {w : World} {base : Nat} {e : TypeId} {size : Nat} {v : Value} {n : Nat} {xs : List Value} (h : w.ownsRow base e size v n xs) : w.drew.ownsRow base e size v n xs := h

set_option maxHeartbeats 4000000 in
set_option maxRecDepth 100000 in
theorem put_room (b o H : Nat) (cs : Array Value) (t : TypeId) (v : Value) (l : List Nm) (x : Nm) (w : World) (hb : w.heap[b]? = some (.cells cs t (0, 0))) (ho : cs[o]? = some v) (hown : w.ownsRow H 100 10 v l.length (ncs l)) (hne : v.ownBlock ≠ some b)
    (hx : x.ok w) (hl : l.length < 200) (hH : H ≤ w.heap.size) :
    Calls Try.prog 55 #[.pointer (some ⟨b, o, none⟩), .agg x.cells.toArray] w fun e w' => ∃ v', e = .returned (.tuple #[]) ∧ w'.heap[b]? = some (.cells (cs.setIfInBounds o v') t (0, 0)) ∧ w'.ownsRow H 100 10 v' (l.length + 1) (ncs (l ++ [x])) ∧ v'.ownBlock ≠ some b ∧ (∀ g, v'.ownBlock = some g → v.ownBlock = some g ∨ w.heap.size ≤ g) ∧
      Keeps (fun k => k = b ∨ v.ownBlock = some k) w w' := by
  obtain ⟨i0, hi, hz0, hz1, hz2⟩ := info_parts Try.infoMessage
  have hblt := lt_of_block hb
  have hc : w.cell? ⟨b, o, none⟩ = some v := by rw [blk_cell hb]; exact ho
  have hf : w.frozen? ⟨b, o, none⟩ = false := blk_free hb o
  have h1 := Nm.one hx
  obtain ⟨xa, xc, hxe, _⟩ := hx.1.form
  obtain ⟨va, vc, rfl⟩ : ∃ va vc, v = .slice va l.length vc := by
    rcases hown.2 with ⟨rfl, h0⟩ | ⟨g, cap, cur, rfl, _⟩
    · exact ⟨none, 0, by rw [h0]⟩
    · exact ⟨_, _, rfl⟩
  obtain ⟨⟨mk, mf, mt, mb, ms, ⟨mc, mq, mh, mx⟩, ma⟩, xv⟩ := x
  simp only [Nm.cells] at *
  subst hxe
  have hd : decide ((l.length : Int) + 1 ≤ 200) = true := by simp; omega
  have hR := fun W hc => room_any b o va l.length vc 1 W hc (by omega) (by decide) (by decide)
  rw [hd] at hR
  have hbb : l.length + 1 ≤ maxLen ∧ (l.length + 1) * 104 ≤ 140737488355328 := ⟨by unfold maxLen; omega, by omega⟩
  go_enter Try.func55, Try.ntmps55
  go_wp2_with fail
  refine (hR _ ?_).mono ?_
  · rw [World.cell?_alloc_lt _ _ _ hblt]; exact hc
  rintro e w1 ⟨rfl, rfl⟩
  clear hR
  go_wp2_with fail
  go_region_law (refine step_append_lies _ rfl (.tmp 10) (.tmp 12) 62 rfl H 100 i0 _ 10 104 Try.underlying62 hi hz0 hz1 hz2 rfl (by decide) (.slice va l.length vc) l.length (ncs l) rfl (owns_alloc (owns_drew (owns_alloc hown _)) _) _ 1 1 [.int .i64 mk, .int .i64 mf, .int .i64 mt, .int .i64 mb, .int .i64 ms, .int .i64 mc, .int .i64 mq, .int .i64 mh, .string mx, .slice xa ma.length xc] rfl rfl (news_new _ _ (by simp) _ _) h1 (by decide) hbb.1 hbb.2 (by simp; omega) _ rfl ?_; intro g cap w2 hown2 hgr2 hat2 hlt2; have hb2 := blk_grown hgr2 (blk_alloc (blk_drew (blk_alloc hb _)) _) hne; have hc2 : w2.cell? ⟨b, o, none⟩ = some (.slice va l.length vc) := (blk_cell hb2 o).trans ho; have hf2 := blk_free hb2 o)
  all_goals
    go_wp2_with fail
    go_end0
    have hgb : (Value.slice (some ⟨g, 0, none⟩) (l.length + 1) cap).ownBlock ≠ some b := by
      intro e
      obtain rfl : g = b := by simpa [Value.ownBlock] using e
      rcases hat2 with h | h
      · exact hne h
      · simp at h; omega
    refine ⟨_, rfl, blk_set hb2 o _, owns_set ?_ hgb _, hgb, ?_, ?_⟩
    · rw [ncs_append]; simpa [ncs, Nm.cells] using hown2
    · intro g' hg'
      obtain rfl : g = g' := by simpa [Value.ownBlock] using hg'
      rcases hat2 with h | h
      · exact .inl h
      · right; simp at h; omega
    · have K1 := (Keeps.ofGrown hgr2).mono (Q := fun k => k = b ∨ (Value.slice va l.length vc).ownBlock = some k) (fun k _ h => Or.inr h)
      refine Keeps.trans (Keeps.ofBelow ?_) (Keeps.trans K1 (Keeps.ofSet (Or.inl (Or.inl rfl)) _))
      exact ((((Below.refl _ w).alloc (Nat.le_refl _) _).drew).alloc (by simp) _)
end Go.Proofs.Ytnnhnekfokbooaa
