/- The walks of Double and Campaign (laid by mksynn.py). -/
import Derived.Test.YtnnhnekfokbooaaSynM
namespace Go.Proofs.Ytnnhnekfokbooaa
open Go.RowKit
set_option linter.unusedSimpArgs false
set_option linter.unusedVariables false

theorem mdouble_no {w : World} {sb : Nat} {L : Lay} {s : Sy} (h : SynAt w sb L s) {k : Int} (hk : k < 0 ∨ (s.net.length : Int) ≤ k) :
    Calls Try.prog 51 #[.pointer (some ⟨sb, 1, none⟩), .int .i64 k] w fun e w' => e = .returned (.int .i64 1) ∧ w' = w := by
  obtain ⟨l, hlm, hown, hok⟩ := h.net
  have hll : l.length = s.net.length := by rw [← hlm, List.length_map]
  obtain ⟨va, vc, hv, _⟩ := (owns_row hown).form
  have hH := has_any sb 1 va l.length vc k w (by rw [← hv]; exact h.netv)
  have hd : (decide (0 ≤ k) && decide (k < (l.length : Int))) = false := by simp; omega
  rw [hd] at hH
  go_enter Try.func51, Try.ntmps51
  go_wp2_with fail
  refine hH.mono ?_
  rintro e w2 ⟨rfl, hw2⟩
  have hw2' := hw2.symm
  subst hw2'
  clear hH hw2
  go_wp2_with fail
  go_ret
  exact ⟨rfl, rfl⟩
theorem mdouble_full {w : World} {sb : Nat} {L : Lay} {s : Sy} (h : SynAt w sb L s) {k : Nat} (hk : k < s.net.length) (hf : 200 ≤ s.net.length) :
    Calls Try.prog 51 #[.pointer (some ⟨sb, 1, none⟩), .int .i64 (k : Int)] w fun e w' => e = .returned (.int .i64 6) ∧ w' = w := by
  obtain ⟨l, hlm, hown, hok⟩ := h.net
  have hll : l.length = s.net.length := by rw [← hlm, List.length_map]
  have hfull := h.ok.full
  obtain ⟨va, vc, hv, _⟩ := (owns_row hown).form
  have hH := has_any sb 1 va l.length vc (k : Int) w (by rw [← hv]; exact h.netv)
  have hR := room_any sb 1 va l.length vc 1 w (by rw [← hv]; exact h.netv) (by omega) (by omega) (by omega)
  have hd : (decide (0 ≤ (k : Int)) && decide ((k : Int) < (l.length : Int))) = true := by simp; omega
  have hd2 : decide ((l.length : Int) + 1 ≤ 200) = false := decide_eq_false (by omega)
  rw [hd] at hH
  rw [hd2] at hR
  go_enter Try.func51, Try.ntmps51
  go_wp2_with fail
  refine hH.mono ?_
  rintro e w2 ⟨rfl, hw2⟩
  have hw2' := hw2.symm
  subst hw2'
  clear hH hw2
  go_wp2_with fail
  refine hR.mono ?_
  rintro e w2 ⟨rfl, hw2⟩
  have hw2' := hw2.symm
  subst hw2'
  clear hR hw2
  go_wp2_with fail
  go_ret
  exact ⟨rfl, rfl⟩
set_option maxHeartbeats 1000000 in
set_option maxRecDepth 100000 in
theorem mdouble_yes {w : World} {sb : Nat} {L : Lay} {s : Sy} (h : SynAt w sb L s) {k : Nat} (hk : k < s.net.length) (hf : s.net.length < 200) :
    Calls Try.prog 51 #[.pointer (some ⟨sb, 1, none⟩), .int .i64 (k : Int)] w fun e w' => e = .returned (.int .i64 0) ∧ SynTo w sb L w' (s.double k) := by
  have hAt := h
  obtain ⟨l, hlm, hown, hok⟩ := h.net
  have hll : l.length = s.net.length := by rw [← hlm, List.length_map]
  have hkl : k < l.length := by omega
  obtain ⟨va, vc, hv, _⟩ := (owns_row hown).form
  have hnv := h.netv
  rw [hv] at hnv
  have hH := has_any sb 1 va l.length vc (k : Int) w hnv
  have hR := room_any sb 1 va l.length vc 1 w hnv (by omega) (by omega) (by omega)
  have hd : (decide (0 ≤ (k : Int)) && decide ((k : Int) < (l.length : Int))) = true := by simp; omega
  have hd2 : decide ((l.length : Int) + 1 ≤ 200) = true := decide_eq_true (by omega)
  rw [hd] at hH
  rw [hd2] at hR
  have hne : L.v.ownBlock ≠ some sb := fun hv => by
    obtain ⟨cs, hc⟩ := owns_blk hown hv
    rw [h.syn] at hc; injection hc with e; injection e with _ e; simp at e
  have hx := hok l[k] (List.getElem_mem hkl)
  have hP := put_any sb 1 0 #[.slice (some ⟨L.gb, 0, none⟩) s.n L.gc, L.v] 73 L.v l l[k] w h.syn rfl hown hne hx.1 (by omega) (Nat.zero_le _)
  have hfin : ∀ w' v', w'.heap[sb]? = some (.cells #[.slice (some ⟨L.gb, 0, none⟩) s.n L.gc, v'] 73 (0, 0)) → w'.ownsRow 0 100 10 v' (sent l l[k]).length (ncs (sent l l[k])) → (∀ g, v'.ownBlock = some g → L.v.ownBlock = some g ∨ w.heap.size ≤ g) → Keeps (fun k => k = sb ∨ L.v.ownBlock = some k) w w' → SynTo w sb L w' (s.double k) := by
    intro w' v' hb ho hat hkp
    have hm : s.net.getD k noMs = l[k].m := by rw [List.getD_eq_getElem?_getD, ← hlm, List.getElem?_map, List.getElem?_eq_getElem hkl]; rfl
    have hs : s.double k = ⟨s.n, s.reps, s.net ++ [l[k].m]⟩ := by unfold Sy.double Sy.send1; rw [if_pos hf, hm]
    have hse : sent l l[k] = l ++ [l[k]] := if_pos (by omega)
    rw [hs]
    rw [hse] at ho
    refine (hAt.setNetR (ns := s.net ++ [l[k].m]) (l := l ++ [l[k]]) (by simp; omega) (fun m hm' => ?_) (by simp [hlm]) hkp hb ho (fun x hx' => ?_) hat).to
    · rcases List.mem_append.1 hm' with h1 | h1
      · exact hAt.ok.net m h1
      · rw [List.mem_singleton.1 h1, ← hm]
        exact hAt.ok.net _ (by rw [List.getD_eq_getElem?_getD, List.getElem?_eq_getElem hk]; exact List.getElem_mem hk)
    · rcases List.mem_append.1 hx' with h1 | h1
      · exact hok x h1
      · rw [List.mem_singleton.1 h1]; exact hx
  rcases hown.2 with ⟨_, h0⟩ | ⟨g, cap, cur, hve, hbg, hg, hnc, hcm, hcs, htake⟩
  · omega
  have hrow : ∀ i, i < 10 → w.cell? ⟨g, k * 10 + i, none⟩ = l[k].cells[i]? := fun i hi => by
    rw [blk_cell hg, ← Array.getElem?_toList]
    have e2 : cur.toList[k * 10 + i]? = (cur.toList.take (l.length * 10))[k * 10 + i]? := by rw [List.getElem?_take, if_pos (by omega)]
    rw [e2, htake, ncs_at l k hkl i hi]
  rw [hve] at hv
  injection hv with hv1 hv2 hv3
  subst hv1 hv3
  obtain ⟨xa, xc, hxe, _⟩ := hx.1.1.form
  have Hfin : Hid (∀ w' v', w'.heap[sb]? = some (.cells #[.slice (some ⟨L.gb, 0, none⟩) s.n L.gc, v'] 73 (0, 0)) → w'.ownsRow 0 100 10 v' (sent l l[k]).length (ncs (sent l l[k])) → (∀ g, v'.ownBlock = some g → L.v.ownBlock = some g ∨ w.heap.size ≤ g) → Keeps (fun k => k = sb ∨ L.v.ownBlock = some k) w w' → SynTo w sb L w' (s.double k)) := hfin
  clear hfin
  generalize l[k] = x at *
  obtain ⟨⟨mk, mf, mt, mb, ms, ⟨mc, mq, mh, mx⟩, ma⟩, xv⟩ := x
  simp only [Nm.cells] at *
  subst hxe
  generalize ma.length = xn at *
  have c0 : w.cell? ⟨g, k * 10, none⟩ = some (.int .i64 mk) := by simpa [Nm.cells] using hrow 0 (by decide)
  have c1 : w.cell? ⟨g, k * 10 + 1, none⟩ = some (.int .i64 mf) := by simpa [Nm.cells] using hrow 1 (by decide)
  have c2 : w.cell? ⟨g, k * 10 + 2, none⟩ = some (.int .i64 mt) := by simpa [Nm.cells] using hrow 2 (by decide)
  have c3 : w.cell? ⟨g, k * 10 + 3, none⟩ = some (.int .i64 mb) := by simpa [Nm.cells] using hrow 3 (by decide)
  have c4 : w.cell? ⟨g, k * 10 + 4, none⟩ = some (.int .i64 ms) := by simpa [Nm.cells] using hrow 4 (by decide)
  have c5 : w.cell? ⟨g, k * 10 + 5, none⟩ = some (.int .i64 mc) := by simpa [Nm.cells] using hrow 5 (by decide)
  have c6 : w.cell? ⟨g, k * 10 + 6, none⟩ = some (.int .i64 mq) := by simpa [Nm.cells] using hrow 6 (by decide)
  have c7 : w.cell? ⟨g, k * 10 + 7, none⟩ = some (.int .i64 mh) := by simpa [Nm.cells] using hrow 7 (by decide)
  have c8 : w.cell? ⟨g, k * 10 + 8, none⟩ = some (.string mx) := by simpa [Nm.cells] using hrow 8 (by decide)
  have c9 : w.cell? ⟨g, k * 10 + 9, none⟩ = some (.slice xa xn xc) := by simpa [Nm.cells] using hrow 9 (by decide)
  clear hrow
  have q0 : (0 : Int) ≤ (k : Int) := by omega
  have q1 : (k : Int) < (l.length : Int) := by omega
  clear hve
  go_enter Try.func51, Try.ntmps51
  go_wp2_with fail
  refine hH.mono ?_
  rintro e w2 ⟨rfl, hw2⟩
  have hw2' := hw2.symm
  subst hw2'
  clear hH hw2
  go_wp2_with fail
  refine hR.mono ?_
  rintro e w2 ⟨rfl, hw2⟩
  have hw2' := hw2.symm
  subst hw2'
  clear hR hw2
  go_wp2_with fail
  refine hP.mono ?_
  rintro e w2 ⟨v2, rfl, hs2, ho2, hn2, hat2, hk2⟩
  clear hP
  go_wp2_with fail
  go_ret
  rw [ar2] at hs2
  exact ⟨rfl, Hfin.out w2 v2 hs2 ho2 hat2 hk2⟩
theorem double_of {w : World} {sb : Nat} {k r : Int} {R : World → Prop} (h : Calls Try.prog 51 #[.pointer (some ⟨sb, 1, none⟩), .int .i64 k] w fun e w' => e = .returned (.int .i64 r) ∧ R w') :
    Calls Try.prog 37 #[.pointer (some ⟨sb, 0, none⟩), .int .i64 k] w fun e w' => e = .returned (.int .i64 r) ∧ R w' := by
  go_enter Try.func37, Try.ntmps37
  go_wp2_with fail
  refine h.mono ?_
  rintro e w2 ⟨rfl, hr⟩
  go_wp2_with fail
  go_ret
  exact ⟨rfl, hr⟩
end Go.Proofs.Ytnnhnekfokbooaa
