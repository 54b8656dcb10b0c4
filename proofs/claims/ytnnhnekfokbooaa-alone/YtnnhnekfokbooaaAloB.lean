/- The walk of calm, and lists of numbers that come in. -/
import Derived.Test.YtnnhnekfokbooaaAgrA
import Derived.Test.YtnnhnekfokbooaaKeeE
namespace Go.Proofs.Ytnnhnekfokbooaa
open Go.ChangeShapes Go.WideShapes Go.ChangeAt Go.RowKit Go.Joins
set_option linter.unusedSimpArgs false
set_option linter.unusedVariables false

/-- v is a slice of the numbers l. -/
structure ZsAt (w : World) (v : Value) (l : List Int) : Prop where
  len : l.length ≤ 9223372036854775807
  nums : ∀ x ∈ l, I64 x
  form : ∃ ao cap, v = .slice ao l.length cap ∧ (l ≠ [] → ∃ g off, ao = some ⟨g, off, none⟩ ∧ g < w.heap.size ∧ ∀ j (hj : j < l.length), w.cell? ⟨g, off + j, none⟩ = some (.int .i64 l[j]))
section
variable {H : Type} {enc : TypeId × Value → H} {w : World} {base : Nat} {spare : Nat → Bool} {held : Bool} {fuel : Nat}
set_option maxRecDepth 100000 in
theorem ints_open {v : Value} {x : DataW H × List MemPlace} (h : DataW.trod enc Try.prog w base spare held fuel 22 [v] = some x) : ∃ l : List Int, ZsAt w v l := by
  rcases DataW.trod_slice Try.underlying22 h with ⟨hcs, _⟩ | ⟨a, len, cap, elems, rest, n, _, hcs, rfl, _, hlc, hcm, hel, hget, _, _⟩
  · obtain rfl : v = .slice none 0 0 := by simpa using hcs
    exact ⟨[], by simp, by simp, none, 0, rfl, fun h => absurd rfl h⟩
  · obtain rfl : v = .slice (some a) len cap := by simpa using hcs
    obtain ⟨l, hll, hlp⟩ := exists_list (fun i (x : Int) => w.cell? (a.add i) = some (.int .i64 x) ∧ I64 x) len (fun i hi => by
      have hg := hget i hi
      rw [List.getElem?_eq_getElem (by omega), Option.bind_eq_some_iff, cells_int] at hg
      obtain ⟨cs, hc1, hc2⟩ := hg
      obtain ⟨y, rfl, _, hy⟩ := DataW.trod_int Try.underlying3 hc2
      refine ⟨y, ?_, i64_of hy⟩
      have := (cells_of hc1).2 0 _ rfl
      rw [Addr.add_add] at this
      simpa using this)
    have h7 : l.length ≤ 9223372036854775807 := by unfold maxLen at hcm; omega
    refine ⟨l, h7, fun x hx => ?_, some a, cap, by rw [hll], fun hne => ?_⟩
    · obtain ⟨i, hi, rfl⟩ := List.getElem_of_mem hx
      exact (hlp i hi).2
    · have hpos : 0 < l.length := List.length_pos_iff.2 hne
      obtain ⟨b, off, rfl⟩ := addr_plain rfl ((hlp 0 hpos).1)
      refine ⟨b, off, rfl, ?_, fun j hj => ?_⟩
      · exact World.block_lt_of_cell? w _ (hlp 0 hpos).1
      · have h0 := (hlp j hj).1
        rw [Addr.add_mid] at h0
        exact h0
end

set_option maxHeartbeats 1000000 in
set_option maxRecDepth 100000 in
/-- All that is on its way comes; is nothing left? -/
theorem calm_any {w : World} {cb sb : Nat} {L : Lay} {s : Sy} {pv lv : Value} {ps : List Pst} (h : ChatAt w cb sb L s pv lv ps) :
    Calls Try.prog 12 #[.pointer (some ⟨cb, 0, none⟩)] w fun e w' => e = .returned (.bool (Sy.settle 20000 s).net.isEmpty) ∧ Mvs s ps (Sy.settle 20000 s) ps ∧ SynTo w sb L w' (Sy.settle 20000 s) := by
  have hS := settled_syn h.syn ps
  have d0 : w.cell? ⟨cb, 0, none⟩ = some (.pointer (some ⟨sb, 0, none⟩)) := (blk_cell h.blk 0).trans rfl
  have hSn := settle_n 20000 s
  generalize Sy.settle 20000 s = S at *
  go_enter Try.func12, Try.ntmps12
  go_wp2_with fail
  refine hS.mono ?_
  rintro e w1 ⟨rfl, hm, hto⟩
  clear hS
  have d1 : w1.cell? ⟨cb, 0, none⟩ = some (.pointer (some ⟨sb, 0, none⟩)) := (blk_cell (hto.blk h.blk (by rw [hSn]; exact h.cbNot)) 0).trans rfl
  obtain ⟨L1, h1, e1, o1, k1⟩ := id hto
  have hN := net_syn h1
  clear d0
  go_wp2_with fail
  refine hN.mono ?_
  rintro e w2 ⟨v', l', rfl, hlm, hrows, hap, hown', hB⟩
  clear hN
  have hll : l'.length = S.net.length := by rw [← hlm, List.length_map]
  obtain ⟨va, vc, hv, _⟩ := (owns_row hown').form
  subst hv
  clear hrows hap hown' d1
  rw [hll] at *
  have hto2 := hto.below hB
  by_cases hnet : S.net = []
  · have hz : ((S.net.length : Int) == 0) = true := by simp [hnet]
    go_wp2_with fail
    go_ret
    exact ⟨by rw [hnet]; rfl, hm, hto2⟩
  · have hpos : 0 < S.net.length := List.length_pos_iff.2 hnet
    have hz : ((S.net.length : Int) == 0) = false := by simp; omega
    go_wp2_with fail
    go_ret
    refine ⟨?_, hm, hto2⟩
    cases hn : S.net with
    | nil => exact absurd hn hnet
    | cons a l => rfl

theorem tdiv_in {a n : Int} (h : I64 a) (hn : 1 ≤ n) : I64 (a.tdiv n) := by
  obtain ⟨h0, h1⟩ := h
  by_cases ha : 0 ≤ a
  · rw [Int.tdiv_eq_ediv_of_nonneg ha]
    have h2 := Int.ediv_nonneg ha (show 0 ≤ n by omega)
    have h3 := Int.ediv_le_self n ha
    exact ⟨by omega, by omega⟩
  · have e : a.tdiv n = -((-a).tdiv n) := by rw [Int.neg_tdiv]; omega
    rw [e, Int.tdiv_eq_ediv_of_nonneg (by omega)]
    have h2 := Int.ediv_nonneg (show 0 ≤ -a by omega) (show 0 ≤ n by omega)
    have h3 := Int.ediv_le_self n (show 0 ≤ -a by omega)
    exact ⟨by omega, by omega⟩
theorem wrap_in {a : Int} (h : I64 a) : IntKind.i64.wrap a = a := by
  obtain ⟨h0, h1⟩ := h
  rw [IntKind.wrap_i64]; omega
theorem Good.nil {s : Sy} {ps : List Pst} (h : Good s ps) : Good s [] := ⟨h.fi, by have := h.room; simp; omega⟩
/-- A move of the synod, the chat's own list of posts untouched. -/
theorem Run.to {w0 w w' : World} {cb sb : Nat} {L : Lay} {s s' : Sy} {pv lv : Value} {ps : List Pst} (h : Run w0 w cb sb L s pv lv ps) (hto : SynTo w sb L w' s') (hg : Good s' ps) (hn : s'.n = s.n) : ∃ L', Run w0 w' cb sb L' s' pv lv ps := by
  obtain ⟨L', h1, e1, o1, k1⟩ := hto
  rw [hn] at o1 k1
  refine ⟨L', ⟨⟨h1, hg, ?_, owns_keeps h.chat.posts k1 (fun g hg => h.chat.pvNot hg)⟩, fun k hk => ?_, Keeps.toBelow h.below k1 (fun b hb => h.new b (.inr (.inl hb))) h.below.size⟩⟩
  · rw [hn]; exact blk_keeps k1 h.chat.blk h.chat.cbNot
  · rw [hn] at hk
    rcases hk with hk | hk | hk
    · exact h.new k (.inl hk)
    · rcases o1 k hk with h9 | h9
      · exact h.new k (.inr (.inl h9))
      · have := h.below.size; omega
    · exact h.new k (.inr (.inr hk))
/-- A slice of posts of our own stays what it is when the synod moves. -/
theorem owns_syn {w w' : World} {sb : Nat} {L : Lay} {s s' : Sy} {v : Value} {base n : Nat} {xs : List Value} (h : SynAt w sb L s) (ho : w.ownsRow base 38 4 v n xs) (hto : SynTo w sb L w' s') (hn : s'.n = s.n) : w'.ownsRow base 38 4 v n xs := by
  obtain ⟨L', h1, e1, o1, k1⟩ := hto
  rw [hn] at k1
  refine owns_keeps ho k1 (fun g hg => ?_)
  obtain ⟨cs, hc⟩ := owns_blk ho hg
  exact h.not_own hc (by unfold ownT; decide)
theorem blk_syn {w w' : World} {sb : Nat} {L : Lay} {s s' : Sy} {b : Nat} {cs : Array Value} (h : SynAt w sb L s) (hb : w.heap[b]? = some (.cells cs 38 (0, 0))) (hto : SynTo w sb L w' s') (hn : s'.n = s.n) : w'.heap[b]? = some (.cells cs 38 (0, 0)) :=
  hto.blk hb (by rw [hn]; exact h.not_own hb (by unfold ownT; decide))
/-- A slice of posts of our own has grown. -/
theorem Run.grown {w0 w w' : World} {cb sb : Nat} {L : Lay} {s : Sy} {lv v : Value} {base n : Nat} {xs : List Value} (h : Run w0 w cb sb L s (.slice none 0 0) lv []) (ho : w.ownsRow base 38 4 v n xs) (hb : w0.heap.size ≤ base) (hg : w.grownBy w' v.ownBlock) : Run w0 w' cb sb L s (.slice none 0 0) lv [] := by
  have hk : Keeps (fun k => v.ownBlock = some k) w w' := Keeps.ofGrown hg
  have ht : ∀ k cs t, w.heap[k]? = some (.cells cs t (0, 0)) → v.ownBlock = some k → t = 38 := by
    intro k cs t hc hv
    obtain ⟨cs', hc'⟩ := owns_blk ho hv
    rw [hc'] at hc; injection hc with e; injection e with _ e; exact e.symm
  refine ⟨⟨h.chat.syn.frame hk (fun k _ hv hown => ?_) (fun k cs hc hv => ?_), h.chat.good, blk_keeps hk h.chat.blk (fun hv => ?_), owns_keeps h.chat.posts hk (fun g hg => by cases hg)⟩, h.new, Keeps.toBelow h.below hk (fun b hv => ?_) h.below.size⟩
  · obtain ⟨cs, t, h1, h2⟩ := h.chat.syn.ownType hown
    have := ht k cs t h2 hv
    subst this
    unfold ownT at h1; simp at h1
  · have := ht k cs _ hc hv
    simp at this
  · have := ht cb _ _ h.chat.blk hv
    simp at this
  · have := (World.ownsRow.lt ho b hv).1
    omega
theorem any_next {l : List Pst} {d p : Pst} {q : Nat} (h : l[q]? = some d) : (l.take (q + 1)).any (fun x => sameB x p) = ((l.take q).any (fun x => sameB x p) || sameB d p) := by
  rw [List.take_add_one, h]
  simp
end Go.Proofs.Ytnnhnekfokbooaa
