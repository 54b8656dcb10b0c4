/- What Lively needs: AloB, AgrB, AgrC, LivA .. LivE in one (laid by mklivall.py). -/
import Derived.Test.YtnnhnekfokbooaaAgrA
import Derived.Test.YtnnhnekfokbooaaKeeE
import Derived.Test.YtnnhnekfokbooaaSynR
import Derived.Test.YtnnhnekfokbooaaKeeA
namespace Go.Proofs.Ytnnhnekfokbooaa
set_option linter.unusedSimpArgs false
set_option linter.unusedVariables false

section
open Go.ChangeShapes Go.WideShapes Go.ChangeAt Go.RowKit Go.Joins
/-- v is a slice of the numbers l. -/
structure ZsAt (w : World) (v : Value) (l : List Int) : Prop where
  len : l.length ≤ 9223372036854775807
  nums : ∀ x ∈ l, I64 x
  form : ∃ ao cap, v = .slice ao l.length cap ∧ (l ≠ [] → ∃ g off, ao = some ⟨g, off, none⟩ ∧ g < w.heap.size ∧ ∀ j (hj : j < l.length), w.cell? ⟨g, off + j, none⟩ = some (.int .i64 l[j]))
section
variable {H : Type} {enc : TypeId × Value → H} {w : World} {base : Nat} {spare : Nat → Bool} {held : Bool} {fuel : Nat}
set_option maxRecDepth 100000 in
theorem ints_open {v : Value} {x : DataW H × List MemPlace} (h : DataW.trod enc Try.prog w base spare held fuel 22 [v] = some x) : ∃ l : List Int, ZsAt w v l := by
  rcases DataW.trod_slice Try.underlying22 h with ⟨hcs, _⟩ | ⟨a, len, cap, elems, rest, n, _, hcs, rfl, _, hlc, hcm, hel, hget, _, _⟩
  · obtain rfl : v = .slice none 0 0 := by simpa using hcs
    exact ⟨[], by simp, by simp, none, 0, rfl, fun h => absurd rfl h⟩
  · obtain rfl : v = .slice (some a) len cap := by simpa using hcs
    obtain ⟨l, hll, hlp⟩ := exists_list (fun i (x : Int) => w.cell? (a.add i) = some (.int .i64 x) ∧ I64 x) len (fun i hi => by
      have hg := hget i hi
      rw [List.getElem?_eq_getElem (by omega), Option.bind_eq_some_iff, cells_int] at hg
      obtain ⟨cs, hc1, hc2⟩ := hg
      obtain ⟨y, rfl, _, hy⟩ := DataW.trod_int Try.underlying3 hc2
      refine ⟨y, ?_, i64_of hy⟩
      have := (cells_of hc1).2 0 _ rfl
      rw [Addr.add_add] at this
      simpa using this)
    have h7 : l.length ≤ 9223372036854775807 := by unfold maxLen at hcm; omega
    refine ⟨l, h7, fun x hx => ?_, some a, cap, by rw [hll], fun hne => ?_⟩
    · obtain ⟨i, hi, rfl⟩ := List.getElem_of_mem hx
      exact (hlp i hi).2
    · have hpos : 0 < l.length := List.length_pos_iff.2 hne
      obtain ⟨b, off, rfl⟩ := addr_plain rfl ((hlp 0 hpos).1)
      refine ⟨b, off, rfl, ?_, fun j hj => ?_⟩
      · exact World.block_lt_of_cell? w _ (hlp 0 hpos).1
      · have h0 := (hlp j hj).1
        rw [Addr.add_mid] at h0
        exact h0
end

set_option maxHeartbeats 1000000 in
set_option maxRecDepth 100000 in
/-- All that is on its way comes; is nothing left? -/
theorem calm_any {w : World} {cb sb : Nat} {L : Lay} {s : Sy} {pv lv : Value} {ps : List Pst} (h : ChatAt w cb sb L s pv lv ps) :
    Calls Try.prog 12 #[.pointer (some ⟨cb, 0, none⟩)] w fun e w' => e = .returned (.bool (Sy.settle 20000 s).net.isEmpty) ∧ Mvs s ps (Sy.settle 20000 s) ps ∧ SynTo w sb L w' (Sy.settle 20000 s) := by
  have hS := settled_syn h.syn ps
  have d0 : w.cell? ⟨cb, 0, none⟩ = some (.pointer (some ⟨sb, 0, none⟩)) := (blk_cell h.blk 0).trans rfl
  have hSn := settle_n 20000 s
  generalize Sy.settle 20000 s = S at *
  go_enter Try.func12, Try.ntmps12
  go_wp2_with fail
  refine hS.mono ?_
  rintro e w1 ⟨rfl, hm, hto⟩
  clear hS
  have d1 : w1.cell? ⟨cb, 0, none⟩ = some (.pointer (some ⟨sb, 0, none⟩)) := (blk_cell (hto.blk h.blk (by rw [hSn]; exact h.cbNot)) 0).trans rfl
  obtain ⟨L1, h1, e1, o1, k1⟩ := id hto
  have hN := net_syn h1
  clear d0
  go_wp2_with fail
  refine hN.mono ?_
  rintro e w2 ⟨v', l', rfl, hlm, hrows, hap, hown', hB⟩
  clear hN
  have hll : l'.length = S.net.length := by rw [← hlm, List.length_map]
  obtain ⟨va, vc, hv, _⟩ := (owns_row hown').form
  subst hv
  clear hrows hap hown' d1
  rw [hll] at *
  have hto2 := hto.below hB
  by_cases hnet : S.net = []
  · have hz : ((S.net.length : Int) == 0) = true := by simp [hnet]
    go_wp2_with fail
    go_ret
    exact ⟨by rw [hnet]; rfl, hm, hto2⟩
  · have hpos : 0 < S.net.length := List.length_pos_iff.2 hnet
    have hz : ((S.net.length : Int) == 0) = false := by simp; omega
    go_wp2_with fail
    go_ret
    refine ⟨?_, hm, hto2⟩
    cases hn : S.net with
    | nil => exact absurd hn hnet
    | cons a l => rfl

theorem tdiv_in {a n : Int} (h : I64 a) (hn : 1 ≤ n) : I64 (a.tdiv n) := by
  obtain ⟨h0, h1⟩ := h
  by_cases ha : 0 ≤ a
  · rw [Int.tdiv_eq_ediv_of_nonneg ha]
    have h2 := Int.ediv_nonneg ha (show 0 ≤ n by omega)
    have h3 := Int.ediv_le_self n ha
    exact ⟨by omega, by omega⟩
  · have e : a.tdiv n = -((-a).tdiv n) := by rw [Int.neg_tdiv]; omega
    rw [e, Int.tdiv_eq_ediv_of_nonneg (by omega)]
    have h2 := Int.ediv_nonneg (show 0 ≤ -a by omega) (show 0 ≤ n by omega)
    have h3 := Int.ediv_le_self n (show 0 ≤ -a by omega)
    exact ⟨by omega, by omega⟩
theorem wrap_in {a : Int} (h : I64 a) : IntKind.i64.wrap a = a := by
  obtain ⟨h0, h1⟩ := h
  rw [IntKind.wrap_i64]; omega
theorem Good.nil {s : Sy} {ps : List Pst} (h : Good s ps) : Good s [] := ⟨h.fi, by have := h.room; simp; omega⟩
/-- A move of the synod, the chat's own list of posts untouched. -/
theorem Run.to {w0 w w' : World} {cb sb : Nat} {L : Lay} {s s' : Sy} {pv lv : Value} {ps : List Pst} (h : Run w0 w cb sb L s pv lv ps) (hto : SynTo w sb L w' s') (hg : Good s' ps) (hn : s'.n = s.n) : ∃ L', Run w0 w' cb sb L' s' pv lv ps := by
  obtain ⟨L', h1, e1, o1, k1⟩ := hto
  rw [hn] at o1 k1
  refine ⟨L', ⟨⟨h1, hg, ?_, owns_keeps h.chat.posts k1 (fun g hg => h.chat.pvNot hg)⟩, fun k hk => ?_, Keeps.toBelow h.below k1 (fun b hb => h.new b (.inr (.inl hb))) h.below.size⟩⟩
  · rw [hn]; exact blk_keeps k1 h.chat.blk h.chat.cbNot
  · rw [hn] at hk
    rcases hk with hk | hk | hk
    · exact h.new k (.inl hk)
    · rcases o1 k hk with h9 | h9
      · exact h.new k (.inr (.inl h9))
      · have := h.below.size; omega
    · exact h.new k (.inr (.inr hk))
/-- A slice of posts of our own stays what it is when the synod moves. -/
theorem owns_syn {w w' : World} {sb : Nat} {L : Lay} {s s' : Sy} {v : Value} {base n : Nat} {xs : List Value} (h : SynAt w sb L s) (ho : w.ownsRow base 38 4 v n xs) (hto : SynTo w sb L w' s') (hn : s'.n = s.n) : w'.ownsRow base 38 4 v n xs := by
  obtain ⟨L', h1, e1, o1, k1⟩ := hto
  rw [hn] at k1
  refine owns_keeps ho k1 (fun g hg => ?_)
  obtain ⟨cs, hc⟩ := owns_blk ho hg
  exact h.not_own hc (by unfold ownT; decide)
theorem blk_syn {w w' : World} {sb : Nat} {L : Lay} {s s' : Sy} {b : Nat} {cs : Array Value} (h : SynAt w sb L s) (hb : w.heap[b]? = some (.cells cs 38 (0, 0))) (hto : SynTo w sb L w' s') (hn : s'.n = s.n) : w'.heap[b]? = some (.cells cs 38 (0, 0)) :=
  hto.blk hb (by rw [hn]; exact h.not_own hb (by unfold ownT; decide))
/-- A slice of posts of our own has grown. -/
theorem Run.grown {w0 w w' : World} {cb sb : Nat} {L : Lay} {s : Sy} {lv v : Value} {base n : Nat} {xs : List Value} (h : Run w0 w cb sb L s (.slice none 0 0) lv []) (ho : w.ownsRow base 38 4 v n xs) (hb : w0.heap.size ≤ base) (hg : w.grownBy w' v.ownBlock) : Run w0 w' cb sb L s (.slice none 0 0) lv [] := by
  have hk : Keeps (fun k => v.ownBlock = some k) w w' := Keeps.ofGrown hg
  have ht : ∀ k cs t, w.heap[k]? = some (.cells cs t (0, 0)) → v.ownBlock = some k → t = 38 := by
    intro k cs t hc hv
    obtain ⟨cs', hc'⟩ := owns_blk ho hv
    rw [hc'] at hc; injection hc with e; injection e with _ e; exact e.symm
  refine ⟨⟨h.chat.syn.frame hk (fun k _ hv hown => ?_) (fun k cs hc hv => ?_), h.chat.good, blk_keeps hk h.chat.blk (fun hv => ?_), owns_keeps h.chat.posts hk (fun g hg => by cases hg)⟩, h.new, Keeps.toBelow h.below hk (fun b hv => ?_) h.below.size⟩
  · obtain ⟨cs, t, h1, h2⟩ := h.chat.syn.ownType hown
    have := ht k cs t h2 hv
    subst this
    unfold ownT at h1; simp at h1
  · have := ht k cs _ hc hv
    simp at this
  · have := ht cb _ _ h.chat.blk hv
    simp at this
  · have := (World.ownsRow.lt ho b hv).1
    omega
theorem any_next {l : List Pst} {d p : Pst} {q : Nat} (h : l[q]? = some d) : (l.take (q + 1)).any (fun x => sameB x p) = ((l.take q).any (fun x => sameB x p) || sameB d p) := by
  rw [List.take_add_one, h]
  simp
end

section
open Go.RowKit
theorem bytes_one {a b : ByteArray} (h : a.toList = b.toList) : a = b := by
  rw [ByteArray.toList_eq, ByteArray.toList_eq] at h
  cases a; cases b
  congr 1
  exact Array.toList_inj.1 h
theorem pre_all {a b : List Pst} (h : a.take a.length = b.take a.length) : a <+: b := by
  rw [List.take_length] at h
  exact List.prefix_iff_eq_take.2 h
theorem pre_not {a b : List Pst} {j : Nat} {x y : Pst} (ha : a[j]? = some x) (hb : b[j]? = some y) (hxy : x ≠ y) : ¬ a <+: b := fun h => by
  obtain ⟨t, rfl⟩ := h
  have hj : j < a.length := by
    apply Classical.byContradiction
    intro h9
    rw [List.getElem?_eq_none (by omega)] at ha; cases ha
  rw [List.getElem?_append_left hj, ha] at hb
  injection hb with e
  exact hxy e
def BegunTo (w : World) (a b : List Pst) (e : Ending) (w' : World) : Prop := ∃ r : Bool, e = .returned (.bool r) ∧ (r = true ↔ a <+: b) ∧ Below w.heap.size w w'
set_option maxHeartbeats 1000000 in
set_option maxRecDepth 100000 in
theorem begun_any {oa ob : Nat → Prop} {va vb : Value} {a b : List Pst} {w : World} (ha : PsAt oa w va a) (hb : PsAt ob w vb b) :
    Calls Try.prog 16 #[va, vb] w (BegunTo w a b) := by
  have hla := ha.len
  have hlb := hb.len
  obtain ⟨pa, ca, rfl, hfa⟩ := ha.form
  obtain ⟨pb, cb, rfl, hfb⟩ := hb.form
  clear ha hb
  go_enter Try.func16, Try.ntmps16
  by_cases hlen : b.length < a.length
  · go_wp2_with fail
    go_ret
    refine ⟨false, rfl, ⟨fun h => (nomatch h), fun h => ?_⟩, Below.refl _ _⟩
    have := h.length_le
    omega
  go_wp2_with fail
  go_loopw [5] (fun i wr => ∃ j : Nat, j ≤ a.length ∧ i = .int .i64 j ∧ a.take j = b.take j ∧ Below w.heap.size w wr) (fun i _ => a.length - (intOf i).toNat)
  case atStart => exact ⟨0, Nat.zero_le _, rfl, by simp, Below.refl _ _⟩
  case round =>
    obtain ⟨j, hj, rfl, htk, hB⟩ := hrel
    by_cases hjn : j < a.length
    · obtain ⟨ga, rfl, hga, _, hca⟩ := hfa (by intro e; rw [e] at hjn; simp at hjn)
      have hjb : j < b.length := by omega
      obtain ⟨gb, rfl, hgb, _, hcb⟩ := hfb (by intro e; rw [e] at hjb; simp at hjb)
      have q0 : (0 : Int) ≤ (j : Int) := by omega
      have q1 : (j : Int) < (a.length : Int) := by omega
      have q2 : (j : Int) < (b.length : Int) := by omega
      have ka := fun k hk => (hB.cell (p := ⟨ga, j * 4 + k, none⟩) hga).trans (hca j hjn k hk)
      have kb := fun k hk => (hB.cell (p := ⟨gb, j * 4 + k, none⟩) hgb).trans (hcb j hjb k hk)
      have xa : a[j]? = some a[j] := List.getElem?_eq_getElem hjn
      have xb : b[j]? = some b[j] := List.getElem?_eq_getElem hjb
      generalize a[j] = x at *
      generalize b[j] = y at *
      obtain ⟨ac, aq, ah, aT⟩ := x
      obtain ⟨bc, bq, bh, bT⟩ := y
      have c0 : wr.cell? ⟨ga, j * 4, none⟩ = some (.int .i64 ac) := ka 0 (by decide)
      have c1 : wr.cell? ⟨ga, j * 4 + 1, none⟩ = some (.int .i64 aq) := ka 1 (by decide)
      have c2 : wr.cell? ⟨ga, j * 4 + 2, none⟩ = some (.int .i64 ah) := ka 2 (by decide)
      have c3 : wr.cell? ⟨ga, j * 4 + 3, none⟩ = some (.string aT) := ka 3 (by decide)
      have d0 : wr.cell? ⟨gb, j * 4, none⟩ = some (.int .i64 bc) := kb 0 (by decide)
      have d1 : wr.cell? ⟨gb, j * 4 + 1, none⟩ = some (.int .i64 bq) := kb 1 (by decide)
      have d2 : wr.cell? ⟨gb, j * 4 + 2, none⟩ = some (.int .i64 bh) := kb 2 (by decide)
      have d3 : wr.cell? ⟨gb, j * 4 + 3, none⟩ = some (.string bT) := kb 3 (by decide)
      have Hx : Hid (a[j]? = some ⟨ac, aq, ah, aT⟩) := xa
      have Hy : Hid (b[j]? = some ⟨bc, bq, bh, bT⟩) := xb
      have Ht : Hid (a.take j = b.take j) := htk
      clear ka kb hca hcb xa xb htk
      obtain ⟨E, hE⟩ : ∃ E : Bool, E = true ↔ ¬ (ac = bc ∧ aq = bq ∧ ah = bh ∧ aT.toList = bT.toList) := ⟨decide (¬ (ac = bc ∧ aq = bq ∧ ah = bh ∧ aT.toList = bT.toList)), decide_eq_true_iff⟩
      have HE : Hid (E = true ↔ ¬ (ac = bc ∧ aq = bq ∧ ah = bh ∧ aT.toList = bT.toList)) := hE
      clear hE
      go_wp2_with fail
      refine wp_region_held_drew (S := fun w' => w'.cell? ⟨ga, j * 4, none⟩ = some (.int .i64 ac) ∧ w'.cell? ⟨ga, j * 4 + 1, none⟩ = some (.int .i64 aq) ∧ w'.cell? ⟨ga, j * 4 + 2, none⟩ = some (.int .i64 ah) ∧ w'.cell? ⟨ga, j * 4 + 3, none⟩ = some (.string aT) ∧ w'.cell? ⟨gb, j * 4, none⟩ = some (.int .i64 bc) ∧ w'.cell? ⟨gb, j * 4 + 1, none⟩ = some (.int .i64 bq) ∧ w'.cell? ⟨gb, j * 4 + 2, none⟩ = some (.int .i64 bh) ∧ w'.cell? ⟨gb, j * 4 + 3, none⟩ = some (.string bT)) (by kernel_rfl) (⟨c0, c1, c2, c3, d0, d1, d2, d3⟩) (fun hS => ?_)
      refine wpAnyH_take (i := 0) (v := ?_) rfl (by kernel_rfl) (by kernel_rfl) (by kernel_rfl) (fun _ _ _ h => h) (Or.inl ⟨by kernel_rfl, fun w' hw => ?_⟩) hS ?_
      rotate_left 1
      · obtain ⟨e0, e1, e2, e3, e4, e5, e6, e7⟩ := hw; go_simp; all_goals with_reducible rfl
      try simp only [Act.put, List.getElem_toArray, List.getElem_cons_zero, List.getElem_cons_succ, List.setIfInBounds_toArray, List.set_cons_zero, List.set_cons_succ]
      refine wpAnyH_take (i := 1) (v := ?_) rfl (by kernel_rfl) (by kernel_rfl) (by kernel_rfl) (fun _ _ _ h => h) (Or.inl ⟨by kernel_rfl, fun w' hw => ?_⟩) hS ?_
      rotate_left 1
      · obtain ⟨e0, e1, e2, e3, e4, e5, e6, e7⟩ := hw; go_simp; all_goals with_reducible rfl
      try simp only [Act.put, List.getElem_toArray, List.getElem_cons_zero, List.getElem_cons_succ, List.setIfInBounds_toArray, List.set_cons_zero, List.set_cons_succ]
      refine wpAnyH_take (i := 2) (v := ?_) rfl (by kernel_rfl) (by kernel_rfl) (by kernel_rfl) (fun _ _ _ h => h) (Or.inl ⟨by kernel_rfl, fun w' hw => ?_⟩) hS ?_
      rotate_left 1
      · obtain ⟨e0, e1, e2, e3, e4, e5, e6, e7⟩ := hw; go_simp; all_goals with_reducible rfl
      try simp only [Act.put, List.getElem_toArray, List.getElem_cons_zero, List.getElem_cons_succ, List.setIfInBounds_toArray, List.set_cons_zero, List.set_cons_succ]
      refine wpAnyH_take (i := 3) (v := ?_) rfl (by kernel_rfl) (by kernel_rfl) (by kernel_rfl) (fun _ _ _ h => h) (Or.inl ⟨by kernel_rfl, fun w' hw => ?_⟩) hS ?_
      rotate_left 1
      · obtain ⟨e0, e1, e2, e3, e4, e5, e6, e7⟩ := hw; go_simp; all_goals with_reducible rfl
      try simp only [Act.put, List.getElem_toArray, List.getElem_cons_zero, List.getElem_cons_succ, List.setIfInBounds_toArray, List.set_cons_zero, List.set_cons_succ]
      refine wpAnyH_take (i := 4) (v := ?_) rfl (by kernel_rfl) (by kernel_rfl) (by kernel_rfl) (fun _ _ _ h => h) (Or.inl ⟨by kernel_rfl, fun w' hw => ?_⟩) hS ?_
      rotate_left 1
      · obtain ⟨e0, e1, e2, e3, e4, e5, e6, e7⟩ := hw; go_simp; all_goals with_reducible rfl
      try simp only [Act.put, List.getElem_toArray, List.getElem_cons_zero, List.getElem_cons_succ, List.setIfInBounds_toArray, List.set_cons_zero, List.set_cons_succ]
      refine wpAnyH_take (i := 5) (v := ?_) rfl (by kernel_rfl) (by kernel_rfl) (by kernel_rfl) (fun _ _ _ h => h) (Or.inl ⟨by kernel_rfl, fun w' hw => ?_⟩) hS ?_
      rotate_left 1
      · obtain ⟨e0, e1, e2, e3, e4, e5, e6, e7⟩ := hw; go_simp; all_goals with_reducible rfl
      try simp only [Act.put, List.getElem_toArray, List.getElem_cons_zero, List.getElem_cons_succ, List.setIfInBounds_toArray, List.set_cons_zero, List.set_cons_succ]
      refine wpAnyH_take (i := 6) (v := ?_) rfl (by kernel_rfl) (by kernel_rfl) (by kernel_rfl) (fun _ _ _ h => h) (Or.inl ⟨by kernel_rfl, fun w' hw => ?_⟩) hS ?_
      rotate_left 1
      · obtain ⟨e0, e1, e2, e3, e4, e5, e6, e7⟩ := hw; go_simp; all_goals with_reducible rfl
      try simp only [Act.put, List.getElem_toArray, List.getElem_cons_zero, List.getElem_cons_succ, List.setIfInBounds_toArray, List.set_cons_zero, List.set_cons_succ]
      refine wpAnyH_take (i := 7) (v := ?_) rfl (by kernel_rfl) (by kernel_rfl) (by kernel_rfl) (fun _ _ _ h => h) (Or.inl ⟨by kernel_rfl, fun w' hw => ?_⟩) hS ?_
      rotate_left 1
      · obtain ⟨e0, e1, e2, e3, e4, e5, e6, e7⟩ := hw; go_simp; all_goals with_reducible rfl
      try simp only [Act.put, List.getElem_toArray, List.getElem_cons_zero, List.getElem_cons_succ, List.setIfInBounds_toArray, List.set_cons_zero, List.set_cons_succ]
      refine wpAnyH_take (i := 8) (v := .bool E) rfl (by kernel_rfl) (by kernel_rfl) (by kernel_rfl) (fun _ _ _ h => h) (Or.inl ⟨by kernel_rfl, fun w' hw => ?_⟩) hS ?_
      · go_simp
        have hE := HE.out
        by_cases h1 : ac = bc <;> by_cases h2 : aq = bq <;> by_cases h3 : ah = bh <;> by_cases h4 : aT.toList = bT.toList <;> (cases E <;> simp [h1, h2, h3, h4] at hE ⊢)
      try simp only [Act.put, List.getElem_toArray, List.getElem_cons_zero, List.getElem_cons_succ, List.setIfInBounds_toArray, List.set_cons_zero, List.set_cons_succ]
      refine wpAnyH_done (by kernel_rfl) ?_ _
      cases E with
      | true =>
        have hne := HE.out.1 rfl
        go_wp2_with fail
        go_ret
        refine ⟨false, rfl, ⟨fun h => (nomatch h), fun h => ?_⟩, Below.drew hB⟩
        refine absurd h (pre_not Hx.out Hy.out (fun e => hne ?_))
        injection e with e1 e2 e3 e4
        exact ⟨e1, e2, e3, by rw [e4]⟩
      | false =>
        have heq : ac = bc ∧ aq = bq ∧ ah = bh ∧ aT.toList = bT.toList := Classical.byContradiction (fun h => (nomatch HE.out.2 h))
        obtain ⟨rfl, rfl, rfl, h4⟩ := heq
        have h5 : aT = bT := bytes_one h4
        subst h5
        clear h4
        go_wp2_with fail
        go_roundw
        case rel =>
          refine ⟨j + 1, by omega, by go_num, ?_, Below.drew hB⟩
          rw [List.take_add_one, List.take_add_one, Ht.out, Hx.out, Hy.out]
        case measure => simp [intOf]; omega
    · obtain rfl : j = a.length := by omega
      have Ht : Hid (a.take a.length = b.take a.length) := htk
      clear htk
      go_wp2_with fail
      go_ret
      exact ⟨true, rfl, ⟨fun _ => pre_all Ht.out, fun _ => rfl⟩, hB⟩
end

section
open Go.RowKit
/-- The row of logs at block lb: the slices vs of the posts ls. -/
structure LgAt (own : Nat → Prop) (w : World) (lb n : Nat) (vs : List Value) (ls : Nat → List Pst) : Prop where
  blk : w.heap[lb]? = some (.cells vs.toArray 25 (0, 0))
  len : vs.length = n
  row : ∀ k, k < n → PsAt own w (vs.getD k (.slice none 0 0)) (ls k)
theorem LgAt.below {own : Nat → Prop} {w w' : World} {lb n : Nat} {vs : List Value} {ls : Nat → List Pst} (h : LgAt own w lb n vs ls) (hB : Below w.heap.size w w') : LgAt own w' lb n vs ls :=
  ⟨blk_below hB h.blk, h.len, fun k hk => (h.row k hk).keeps (Keeps.ofBelow (P := fun _ => False) hB) (fun _ h => h.elim)⟩
theorem LgAt.cell {own : Nat → Prop} {w : World} {lb n : Nat} {vs : List Value} {ls : Nat → List Pst} (h : LgAt own w lb n vs ls) {k : Nat} (hk : k < n) : w.cell? ⟨lb, k, none⟩ = some (vs.getD k (.slice none 0 0)) := by
  rw [blk_cell h.blk, List.getElem?_toArray, List.getD_eq_getElem?_getD, List.getElem?_eq_getElem (by rw [h.len]; exact hk)]
  rfl
theorem LgAt.write {own : Nat → Prop} {w : World} {lb n : Nat} {vs : List Value} {ls ls' : Nat → List Pst} (h : LgAt own w lb n vs ls) (ho : own lb) {k : Nat} (hk : k < n) {v : Value} {l : List Pst} (hv : PsAt own w v l) (he : ls' k = l) (hs : ∀ q, q ≠ k → ls' q = ls q) : LgAt own (w.setCell ⟨lb, k, none⟩ v) lb n (vs.set k v) ls' := by
  have hkp : Keeps (fun k => k = lb) w (w.setCell ⟨lb, k, none⟩ v) := Keeps.ofSet (P := fun k => k = lb) (a := ⟨lb, k, none⟩) (.inl rfl) _
  refine ⟨?_, by rw [List.length_set]; exact h.len, fun q hq => ?_⟩
  · rw [blk_set h.blk, List.setIfInBounds_toArray]
  · rw [List.getD_eq_getElem?_getD]
    by_cases e : q = k
    · subst e
      rw [List.getElem?_set_self (by rw [h.len]; exact hk), he]
      exact hv.keeps hkp (fun g e => by rw [e]; exact ho)
    · rw [List.getElem?_set_ne (Ne.symm e), hs q e, ← List.getD_eq_getElem?_getD]
      exact (h.row q hq).keeps hkp (fun g e => by rw [e]; exact ho)
def AgrTo (w0 w : World) (cb sb : Nat) (L : Lay) (s : Sy) (pv : Value) (ps : List Pst) (lb n : Nat) (e : Ending) (w' : World) : Prop :=
  e = .returned (.bool true) ∧ Run w0 w' cb sb L s pv (.slice (some ⟨lb, 0, none⟩) n n) ps ∧ Keeps (fun k => k = lb) w w' ∧ ∃ vs', LgAt (fun k => cOwn cb sb L n pv k ∨ k = lb) w' lb n vs' (fun k => logOf (s.rep k).dec)
def upto (s : Sy) (ls : Nat → List Pst) (k : Nat) : Nat → List Pst := fun q => if q < k then logOf (s.rep q).dec else ls q
set_option maxHeartbeats 4000000 in
set_option maxRecDepth 100000 in
theorem agrees_any {w0 w : World} {cb sb : Nat} {L : Lay} {s : Sy} {pv : Value} {ps : List Pst} {lb n : Nat} {vs : List Value} {ls : Nat → List Pst} (h : Run w0 w cb sb L s pv (.slice (some ⟨lb, 0, none⟩) n n) ps) (hn : s.n = n) (hlb : w0.heap.size ≤ lb) (hno : ¬ cOwn cb sb L s.n pv lb) (hg : LgAt (fun k => cOwn cb sb L n pv k ∨ k = lb) w lb n vs ls) (hpre : ∀ k, k < n → ls k <+: logOf (s.rep k).dec) (hso : Sound s) :
    Calls Try.prog 18 #[.pointer (some ⟨cb, 0, none⟩)] w (AgrTo w0 w cb sb L s pv ps lb n) := by
  have hn7 : s.n ≤ 7 := h.chat.syn.ok.n1
  go_enter Try.func18, Try.ntmps18
  go_wp2_with fail
  go_loopw [3] (fun i wr => ∃ (k : Nat) (vs : List Value), k ≤ n ∧ i = .int .i64 k ∧ Run w0 wr cb sb L s pv (.slice (some ⟨lb, 0, none⟩) n n) ps ∧ LgAt (fun k => cOwn cb sb L n pv k ∨ k = lb) wr lb n vs (upto s ls k) ∧ Keeps (fun k => k = lb) w wr) (fun i _ => n - (intOf i).toNat)
  case atStart => exact ⟨0, vs, Nat.zero_le _, rfl, h, hg, Keeps.refl _ _⟩
  case round =>
    obtain ⟨k, vs1, hk, rfl, hr, hl, hK⟩ := hrel
    have d0 : wr.cell? ⟨cb, 0, none⟩ = some (.pointer (some ⟨sb, 0, none⟩)) := (blk_cell hr.chat.blk 0).trans rfl
    have d1 : wr.cell? ⟨cb, 1, none⟩ = some (.int .i64 (n : Int)) := (blk_cell hr.chat.blk 1).trans (by rw [hn]; rfl)
    by_cases hkn : k < n
    · have hLo := log_yes hr.chat.syn (i := k) (by rw [hn]; exact hkn)
      go_wp2_with fail
      refine hLo.mono ?_
      rintro e w2 ⟨v2, rfl, hown, hB⟩
      clear hLo d0 d1
      have hr2 := hr.over hB
      have hl2 := hl.below hB
      have hlen : (logOf (s.rep k).dec).length ≤ 1000000 := by
        have h1 := log_le (s.rep k).dec
        have h2 := (hr.chat.syn.ok.repOk (i := k) (by rw [hn]; exact hkn)).dec
        omega
      have hlbl := lt_of_block hl.blk
      have hv2 : PsAt (fun k => cOwn cb sb L n pv k ∨ k = lb) w2 v2 (logOf (s.rep k).dec) := psAt_owns hown hlen (fun g hg ho => by
        rcases ho with h9 | h9
        · have := hr.chat.own_lt (by rw [hn]; exact h9); omega
        · omega)
      obtain ⟨a2, c2, hv2e, _⟩ := hv2.form
      generalize (logOf (s.rep k).dec).length = m2 at hv2e
      subst hv2e
      have hrow := hl2.row k hkn
      have hup : upto s ls k k = ls k := if_neg (by omega)
      rw [hup] at hrow
      have hx2 := hl2.cell hkn
      have hBe := begun_any hrow hv2
      have d3 : w2.cell? ⟨cb, 3, none⟩ = some (.slice (some ⟨lb, 0, none⟩) n n) := (blk_cell hr2.chat.blk 3).trans rfl
      have q0 : (0 : Int) ≤ (k : Int) := by omega
      have q1 : (k : Int) < (n : Int) := by omega
      generalize vs1.getD k (.slice none 0 0) = x at *
      go_wp2_with fail
      refine hBe.mono ?_
      rintro e w3 ⟨r, rfl, hiff, hB3⟩
      obtain rfl : r = true := hiff.2 (hpre k hkn)
      clear hBe hiff d3 hx2
      have hr3 := hr2.over hB3
      have hl3 := hl2.below hB3
      have hv3 := hv2.keeps (Keeps.ofBelow (P := fun _ => False) hB3) (fun _ h => h.elim)
      have e3 : w3.cell? ⟨cb, 3, none⟩ = some (.slice (some ⟨lb, 0, none⟩) n n) := (blk_cell hr3.chat.blk 3).trans rfl
      have hf3 := blk_free hl3.blk k
      have hx3 := hl3.cell hkn
      have hK4 : Keeps (fun k => k = lb) w (w3.setCell ⟨lb, k, none⟩ (.slice a2 m2 c2)) := hK.trans ((Keeps.ofBelow hB).trans ((Keeps.ofBelow hB3).trans (Keeps.ofSet (P := fun k => k = lb) (a := ⟨lb, k, none⟩) (.inl rfl) _)))
      have hr4 := hr3.write hl3.blk (by decide) hno hlb k (.slice a2 m2 c2)
      have hl4 := hl3.write (ls' := upto s ls (k + 1)) (.inr rfl) hkn hv3 (if_pos (by omega)) (fun q hq => by
        unfold upto
        by_cases h9 : q < k
        · rw [if_pos h9, if_pos (by omega)]
        · rw [if_neg h9, if_neg (by omega)])
      go_wp2_with fail
      go_roundw
      case rel => exact ⟨k + 1, vs1.set k (.slice a2 m2 c2), by omega, by go_num, hr4, hl4, hK4⟩
      case measure => simp [intOf]; omega
    · obtain rfl : k = n := by omega
      go_wp2_with fail
      clear d0 d1 h hg
      have hl0 : LgAt (fun q => cOwn cb sb L k pv q ∨ q = lb) wr lb k vs1 (fun q => logOf (s.rep q).dec) := ⟨hl.blk, hl.len, fun q hq => by have := hl.row q hq; unfold upto at this; rw [if_pos hq] at this; exact this⟩
      clear hl
      go_loopw [7] (fun i w2 => ∃ (q : Nat), q ≤ k ∧ i = .int .i64 q ∧ Run w0 w2 cb sb L s pv (.slice (some ⟨lb, 0, none⟩) k k) ps ∧ LgAt (fun q => cOwn cb sb L k pv q ∨ q = lb) w2 lb k vs1 (fun q => logOf (s.rep q).dec) ∧ Keeps (fun k => k = lb) w w2) (fun i _ => k - (intOf i).toNat)
      case atStart => exact ⟨0, Nat.zero_le _, rfl, hr, hl0, hK⟩
      case round =>
        clear hK
        obtain ⟨q2, hq2, rfl, hr2, hl2, hK⟩ := hrel
        have d1 : wr.cell? ⟨cb, 1, none⟩ = some (.int .i64 (k : Int)) := (blk_cell hr2.chat.blk 1).trans (by rw [hn]; rfl)
        by_cases hqk : q2 < k
        · go_wp2_with fail
          clear d1
          go_loopw [8] (fun i w3 => ∃ (q : Nat), q ≤ q2 ∧ i = .int .i64 q ∧ Run w0 w3 cb sb L s pv (.slice (some ⟨lb, 0, none⟩) k k) ps ∧ LgAt (fun q => cOwn cb sb L k pv q ∨ q = lb) w3 lb k vs1 (fun q => logOf (s.rep q).dec) ∧ Keeps (fun k => k = lb) w w3) (fun i _ => q2 - (intOf i).toNat)
          case atStart => exact ⟨0, Nat.zero_le _, rfl, hr2, hl2, hK⟩
          case round =>
            clear hK
            obtain ⟨q, hq, rfl, hr3, hl3, hK⟩ := hrel
            by_cases hqq : q < q2
            · have Hor : Hid (logOf (s.rep q2).dec <+: logOf (s.rep q).dec ∨ logOf (s.rep q).dec <+: logOf (s.rep q2).dec) := hso.logs (by omega) (by omega)
              have a0 : (0 : Int) ≤ (q : Int) := by omega
              have a1 : (q : Int) < (k : Int) := by omega
              have a2 : (0 : Int) ≤ (q2 : Int) := by omega
              have a3 : (q2 : Int) < (k : Int) := by omega
              have hD := hl3.below (Below.drew (Below.refl _ _))
              have hb1 := begun_any (hD.row q2 (by omega)) (hD.row q (by omega))
              have hx1 := hl3.cell (k := q2) (by omega)
              have hy1 := hl3.cell (k := q) (by omega)
              have hL3 := fun (W : World) (hW : Below wr.heap.size wr W) => hl3.below hW
              have hcb1 : wr.heap[cb]? = some (.cells #[.pointer (some ⟨sb, 0, none⟩), .int .i64 (k : Int), pv, .slice (some ⟨lb, 0, none⟩) k k] 30 (0, 0)) := by have := hr3.chat.blk; rw [hn] at this; exact this
              generalize hxe : vs1.getD q2 (.slice none 0 0) = x at *
              generalize hye : vs1.getD q (.slice none 0 0) = y at *
              have Hx : Hid (vs1.getD q2 (.slice none 0 0) = x) := hxe
              have Hy : Hid (vs1.getD q (.slice none 0 0) = y) := hye
              clear hxe hye
              go_wp2_with fail
              refine wp_region_held_drew (S := fun w' => w'.heap[cb]? = some (.cells #[.pointer (some ⟨sb, 0, none⟩), .int .i64 (k : Int), pv, .slice (some ⟨lb, 0, none⟩) k k] 30 (0, 0)) ∧ w'.cell? ⟨lb, q2, none⟩ = some x ∧ w'.cell? ⟨lb, q, none⟩ = some y) (by kernel_rfl) (⟨hcb1, hx1, hy1⟩) (fun hS => ?_)
              refine wpAnyH_take (i := 0) (v := ?_) rfl (by kernel_rfl) (by kernel_rfl) (by kernel_rfl) (fun _ _ _ h => h) (Or.inl ⟨by kernel_rfl, fun w' hw => ?_⟩) hS ?_
              rotate_left 1
              · have d1 := blk_cell hw.1; have d2 := hw.2.1; have d3 := hw.2.2; go_simp; all_goals with_reducible rfl
              try simp only [Act.put, List.getElem_toArray, List.getElem_cons_zero, List.getElem_cons_succ, List.setIfInBounds_toArray, List.set_cons_zero, List.set_cons_succ]
              refine wpAnyH_take (i := 1) (v := ?_) rfl (by kernel_rfl) (by kernel_rfl) (by kernel_rfl) (fun _ _ _ h => h) (Or.inl ⟨by kernel_rfl, fun w' hw => ?_⟩) hS ?_
              rotate_left 1
              · have d1 := blk_cell hw.1; have d2 := hw.2.1; have d3 := hw.2.2; go_simp; all_goals with_reducible rfl
              try simp only [Act.put, List.getElem_toArray, List.getElem_cons_zero, List.getElem_cons_succ, List.setIfInBounds_toArray, List.set_cons_zero, List.set_cons_succ]
              refine wpAnyH_take (i := 2) (v := ?_) rfl (by kernel_rfl) (by kernel_rfl) (by kernel_rfl) (fun _ _ _ h => h) (Or.inl ⟨by kernel_rfl, fun w' hw => ?_⟩) hS ?_
              rotate_left 1
              · have d1 := blk_cell hw.1; have d2 := hw.2.1; have d3 := hw.2.2; go_simp; all_goals with_reducible rfl
              try simp only [Act.put, List.getElem_toArray, List.getElem_cons_zero, List.getElem_cons_succ, List.setIfInBounds_toArray, List.set_cons_zero, List.set_cons_succ]
              refine wpAnyH_take (i := 3) (v := ?_) rfl (by kernel_rfl) (by kernel_rfl) (by kernel_rfl) (fun _ _ _ h => h) (Or.inl ⟨by kernel_rfl, fun w' hw => ?_⟩) hS ?_
              rotate_left 1
              · have d1 := blk_cell hw.1; have d2 := hw.2.1; have d3 := hw.2.2; go_simp; all_goals with_reducible rfl
              try simp only [Act.put, List.getElem_toArray, List.getElem_cons_zero, List.getElem_cons_succ, List.setIfInBounds_toArray, List.set_cons_zero, List.set_cons_succ]
              refine wpAnyH_take (i := 4) (v := ?_) rfl (by kernel_rfl) (by kernel_rfl) (by kernel_rfl) (fun _ _ _ h => h) (Or.inl ⟨by kernel_rfl, fun w' hw => ?_⟩) hS ?_
              rotate_left 1
              · have d1 := blk_cell hw.1; have d2 := hw.2.1; have d3 := hw.2.2; go_simp; all_goals with_reducible rfl
              try simp only [Act.put, List.getElem_toArray, List.getElem_cons_zero, List.getElem_cons_succ, List.setIfInBounds_toArray, List.set_cons_zero, List.set_cons_succ]
              refine wpAnyH_take (i := 5) (v := ?_) rfl (by kernel_rfl) (by kernel_rfl) (by kernel_rfl) (fun _ _ _ h => h) (Or.inl ⟨by kernel_rfl, fun w' hw => ?_⟩) hS ?_
              rotate_left 1
              · have d1 := blk_cell hw.1; have d2 := hw.2.1; have d3 := hw.2.2; go_simp; all_goals with_reducible rfl
              try simp only [Act.put, List.getElem_toArray, List.getElem_cons_zero, List.getElem_cons_succ, List.setIfInBounds_toArray, List.set_cons_zero, List.set_cons_succ]
              refine wpAnyH_take (i := 6) (v := ?_) rfl (by kernel_rfl) (by kernel_rfl) (by kernel_rfl) (fun _ _ _ h => h) (Or.inl ⟨by kernel_rfl, fun w' hw => ?_⟩) hS ?_
              rotate_left 1
              · have d1 := blk_cell hw.1; have d2 := hw.2.1; have d3 := hw.2.2; go_simp; all_goals with_reducible rfl
              try simp only [Act.put, List.getElem_toArray, List.getElem_cons_zero, List.getElem_cons_succ, List.setIfInBounds_toArray, List.set_cons_zero, List.set_cons_succ]
              refine wpAnyH_take (i := 7) (v := ?_) rfl (by kernel_rfl) (by kernel_rfl) (by kernel_rfl) (fun _ _ _ h => h) (Or.inl ⟨by kernel_rfl, fun w' hw => ?_⟩) hS ?_
              rotate_left 1
              · have d1 := blk_cell hw.1; have d2 := hw.2.1; have d3 := hw.2.2; go_simp; all_goals with_reducible rfl
              try simp only [Act.put, List.getElem_toArray, List.getElem_cons_zero, List.getElem_cons_succ, List.setIfInBounds_toArray, List.set_cons_zero, List.set_cons_succ]
              refine wpAnyH_take (i := 8) (v := ?_) rfl (by kernel_rfl) (by kernel_rfl) (by kernel_rfl) (fun _ _ _ h => h) (Or.inl ⟨by kernel_rfl, fun w' hw => ?_⟩) hS ?_
              rotate_left 1
              · have d1 := blk_cell hw.1; have d2 := hw.2.1; have d3 := hw.2.2; go_simp; all_goals with_reducible rfl
              try simp only [Act.put, List.getElem_toArray, List.getElem_cons_zero, List.getElem_cons_succ, List.setIfInBounds_toArray, List.set_cons_zero, List.set_cons_succ]
              refine wpAnyH_take (i := 9) (v := ?_) rfl (by kernel_rfl) (by kernel_rfl) (by kernel_rfl) (fun _ _ _ h => h) (Or.inl ⟨by kernel_rfl, fun w' hw => ?_⟩) hS ?_
              rotate_left 1
              · have d1 := blk_cell hw.1; have d2 := hw.2.1; have d3 := hw.2.2; go_simp; all_goals with_reducible rfl
              try simp only [Act.put, List.getElem_toArray, List.getElem_cons_zero, List.getElem_cons_succ, List.setIfInBounds_toArray, List.set_cons_zero, List.set_cons_succ]
              refine wpAnyH_take (i := 10) (v := ?_) rfl (by kernel_rfl) (by kernel_rfl) (by kernel_rfl) (fun _ _ _ h => h) (Or.inl ⟨by kernel_rfl, fun w' hw => ?_⟩) hS ?_
              rotate_left 1
              · have d1 := blk_cell hw.1; have d2 := hw.2.1; have d3 := hw.2.2; go_simp; all_goals with_reducible rfl
              try simp only [Act.put, List.getElem_toArray, List.getElem_cons_zero, List.getElem_cons_succ, List.setIfInBounds_toArray, List.set_cons_zero, List.set_cons_succ]
              refine wpAnyH_take (i := 11) (v := ?_) rfl (by kernel_rfl) (by kernel_rfl) (by kernel_rfl) (fun _ _ _ h => h) (Or.inl ⟨by kernel_rfl, fun w' hw => ?_⟩) hS ?_
              rotate_left 1
              · have d1 := blk_cell hw.1; have d2 := hw.2.1; have d3 := hw.2.2; go_simp; all_goals with_reducible rfl
              try simp only [Act.put, List.getElem_toArray, List.getElem_cons_zero, List.getElem_cons_succ, List.setIfInBounds_toArray, List.set_cons_zero, List.set_cons_succ]
              refine wpAnyH_take (i := 12) (v := ?_) rfl (by kernel_rfl) (by kernel_rfl) (by kernel_rfl) (fun _ _ _ h => h) (Or.inl ⟨by kernel_rfl, fun w' hw => ?_⟩) hS ?_
              rotate_left 1
              · have d1 := blk_cell hw.1; have d2 := hw.2.1; have d3 := hw.2.2; go_simp; all_goals with_reducible rfl
              try simp only [Act.put, List.getElem_toArray, List.getElem_cons_zero, List.getElem_cons_succ, List.setIfInBounds_toArray, List.set_cons_zero, List.set_cons_succ]
              refine wpAnyH_take (i := 13) (v := ?_) rfl (by kernel_rfl) (by kernel_rfl) (by kernel_rfl) (fun _ _ _ h => h) (Or.inl ⟨by kernel_rfl, fun w' hw => ?_⟩) hS ?_
              rotate_left 1
              · have d1 := blk_cell hw.1; have d2 := hw.2.1; have d3 := hw.2.2; go_simp; all_goals with_reducible rfl
              try simp only [Act.put, List.getElem_toArray, List.getElem_cons_zero, List.getElem_cons_succ, List.setIfInBounds_toArray, List.set_cons_zero, List.set_cons_succ]
              refine wpAnyH_ready (rs := [14]) (by kernel_rfl) (by simp) ?_
              refine AllReadyH.cons rfl (fun K hK => ?_) AllReadyH.nil
              go_simp
              refine hb1.mono ?_
              rintro e w4 ⟨r1, rfl, hiff1, hB4⟩
              have H1 : Hid (r1 = true ↔ logOf (s.rep q2).dec <+: logOf (s.rep q).dec) := hiff1
              clear hb1 hiff1
              have hB4' : Below wr.heap.size wr w4 := Below.trans (Below.drew (Below.refl _ _)) hB4
              have hr4 := hr3.over hB4'
              have hl4 := hl3.below hB4'
              have hcb4 := blk_below hB4' hcb1
              have hx4 := (hl4.cell (k := q2) (by omega)).trans (by rw [Hx.out])
              have hy4 := (hl4.cell (k := q) (by omega)).trans (by rw [Hy.out])
              go_wp2_with fail
              refine hK.out _ _ ⟨hcb4, hx4, hy4⟩ (fun hS => ?_)
              clear hK K
              try simp only [Act.put, List.getElem_toArray, List.getElem_cons_zero, List.getElem_cons_succ, List.setIfInBounds_toArray, List.set_cons_zero, List.set_cons_succ]
              refine wpAnyH_ready (rs := [15]) (by kernel_rfl) (by simp) ?_
              refine AllReadyH.cons rfl (fun K hK => ?_) AllReadyH.nil
              go_simp
              refine hK.out _ _ ⟨hcb4, hx4, hy4⟩ (fun hS => ?_)
              clear hK K
              try simp only [Act.put, List.getElem_toArray, List.getElem_cons_zero, List.getElem_cons_succ, List.setIfInBounds_toArray, List.set_cons_zero, List.set_cons_succ]
              refine wpAnyH_done (by kernel_rfl) ?_ _
              have hD5 := hl4.below (Below.drew (Below.refl _ _))
              have hb2 := begun_any (hD5.row q (by omega)) (hD5.row q2 (by omega))
              rw [Hx.out, Hy.out] at hb2
              go_wp2_with fail
              refine wp_region_held_drew (S := fun w' => w'.heap[cb]? = some (.cells #[.pointer (some ⟨sb, 0, none⟩), .int .i64 (k : Int), pv, .slice (some ⟨lb, 0, none⟩) k k] 30 (0, 0)) ∧ w'.cell? ⟨lb, q2, none⟩ = some x ∧ w'.cell? ⟨lb, q, none⟩ = some y) (by kernel_rfl) (⟨hcb4, hx4, hy4⟩) (fun hS => ?_)
              refine wpAnyH_take (i := 0) (v := ?_) rfl (by kernel_rfl) (by kernel_rfl) (by kernel_rfl) (fun _ _ _ h => h) (Or.inl ⟨by kernel_rfl, fun w' hw => ?_⟩) hS ?_
              rotate_left 1
              · have d1 := blk_cell hw.1; have d2 := hw.2.1; have d3 := hw.2.2; go_simp; all_goals with_reducible rfl
              try simp only [Act.put, List.getElem_toArray, List.getElem_cons_zero, List.getElem_cons_succ, List.setIfInBounds_toArray, List.set_cons_zero, List.set_cons_succ]
              refine wpAnyH_take (i := 1) (v := ?_) rfl (by kernel_rfl) (by kernel_rfl) (by kernel_rfl) (fun _ _ _ h => h) (Or.inl ⟨by kernel_rfl, fun w' hw => ?_⟩) hS ?_
              rotate_left 1
              · have d1 := blk_cell hw.1; have d2 := hw.2.1; have d3 := hw.2.2; go_simp; all_goals with_reducible rfl
              try simp only [Act.put, List.getElem_toArray, List.getElem_cons_zero, List.getElem_cons_succ, List.setIfInBounds_toArray, List.set_cons_zero, List.set_cons_succ]
              refine wpAnyH_take (i := 2) (v := ?_) rfl (by kernel_rfl) (by kernel_rfl) (by kernel_rfl) (fun _ _ _ h => h) (Or.inl ⟨by kernel_rfl, fun w' hw => ?_⟩) hS ?_
              rotate_left 1
              · have d1 := blk_cell hw.1; have d2 := hw.2.1; have d3 := hw.2.2; go_simp; all_goals with_reducible rfl
              try simp only [Act.put, List.getElem_toArray, List.getElem_cons_zero, List.getElem_cons_succ, List.setIfInBounds_toArray, List.set_cons_zero, List.set_cons_succ]
              refine wpAnyH_take (i := 3) (v := ?_) rfl (by kernel_rfl) (by kernel_rfl) (by kernel_rfl) (fun _ _ _ h => h) (Or.inl ⟨by kernel_rfl, fun w' hw => ?_⟩) hS ?_
              rotate_left 1
              · have d1 := blk_cell hw.1; have d2 := hw.2.1; have d3 := hw.2.2; go_simp; all_goals with_reducible rfl
              try simp only [Act.put, List.getElem_toArray, List.getElem_cons_zero, List.getElem_cons_succ, List.setIfInBounds_toArray, List.set_cons_zero, List.set_cons_succ]
              refine wpAnyH_take (i := 4) (v := ?_) rfl (by kernel_rfl) (by kernel_rfl) (by kernel_rfl) (fun _ _ _ h => h) (Or.inl ⟨by kernel_rfl, fun w' hw => ?_⟩) hS ?_
              rotate_left 1
              · have d1 := blk_cell hw.1; have d2 := hw.2.1; have d3 := hw.2.2; go_simp; all_goals with_reducible rfl
              try simp only [Act.put, List.getElem_toArray, List.getElem_cons_zero, List.getElem_cons_succ, List.setIfInBounds_toArray, List.set_cons_zero, List.set_cons_succ]
              refine wpAnyH_take (i := 5) (v := ?_) rfl (by kernel_rfl) (by kernel_rfl) (by kernel_rfl) (fun _ _ _ h => h) (Or.inl ⟨by kernel_rfl, fun w' hw => ?_⟩) hS ?_
              rotate_left 1
              · have d1 := blk_cell hw.1; have d2 := hw.2.1; have d3 := hw.2.2; go_simp; all_goals with_reducible rfl
              try simp only [Act.put, List.getElem_toArray, List.getElem_cons_zero, List.getElem_cons_succ, List.setIfInBounds_toArray, List.set_cons_zero, List.set_cons_succ]
              refine wpAnyH_take (i := 6) (v := ?_) rfl (by kernel_rfl) (by kernel_rfl) (by kernel_rfl) (fun _ _ _ h => h) (Or.inl ⟨by kernel_rfl, fun w' hw => ?_⟩) hS ?_
              rotate_left 1
              · have d1 := blk_cell hw.1; have d2 := hw.2.1; have d3 := hw.2.2; go_simp; all_goals with_reducible rfl
              try simp only [Act.put, List.getElem_toArray, List.getElem_cons_zero, List.getElem_cons_succ, List.setIfInBounds_toArray, List.set_cons_zero, List.set_cons_succ]
              refine wpAnyH_take (i := 7) (v := ?_) rfl (by kernel_rfl) (by kernel_rfl) (by kernel_rfl) (fun _ _ _ h => h) (Or.inl ⟨by kernel_rfl, fun w' hw => ?_⟩) hS ?_
              rotate_left 1
              · have d1 := blk_cell hw.1; have d2 := hw.2.1; have d3 := hw.2.2; go_simp; all_goals with_reducible rfl
              try simp only [Act.put, List.getElem_toArray, List.getElem_cons_zero, List.getElem_cons_succ, List.setIfInBounds_toArray, List.set_cons_zero, List.set_cons_succ]
              refine wpAnyH_take (i := 8) (v := ?_) rfl (by kernel_rfl) (by kernel_rfl) (by kernel_rfl) (fun _ _ _ h => h) (Or.inl ⟨by kernel_rfl, fun w' hw => ?_⟩) hS ?_
              rotate_left 1
              · have d1 := blk_cell hw.1; have d2 := hw.2.1; have d3 := hw.2.2; go_simp; all_goals with_reducible rfl
              try simp only [Act.put, List.getElem_toArray, List.getElem_cons_zero, List.getElem_cons_succ, List.setIfInBounds_toArray, List.set_cons_zero, List.set_cons_succ]
              refine wpAnyH_take (i := 9) (v := ?_) rfl (by kernel_rfl) (by kernel_rfl) (by kernel_rfl) (fun _ _ _ h => h) (Or.inl ⟨by kernel_rfl, fun w' hw => ?_⟩) hS ?_
              rotate_left 1
              · have d1 := blk_cell hw.1; have d2 := hw.2.1; have d3 := hw.2.2; go_simp; all_goals with_reducible rfl
              try simp only [Act.put, List.getElem_toArray, List.getElem_cons_zero, List.getElem_cons_succ, List.setIfInBounds_toArray, List.set_cons_zero, List.set_cons_succ]
              refine wpAnyH_take (i := 10) (v := ?_) rfl (by kernel_rfl) (by kernel_rfl) (by kernel_rfl) (fun _ _ _ h => h) (Or.inl ⟨by kernel_rfl, fun w' hw => ?_⟩) hS ?_
              rotate_left 1
              · have d1 := blk_cell hw.1; have d2 := hw.2.1; have d3 := hw.2.2; go_simp; all_goals with_reducible rfl
              try simp only [Act.put, List.getElem_toArray, List.getElem_cons_zero, List.getElem_cons_succ, List.setIfInBounds_toArray, List.set_cons_zero, List.set_cons_succ]
              refine wpAnyH_take (i := 11) (v := ?_) rfl (by kernel_rfl) (by kernel_rfl) (by kernel_rfl) (fun _ _ _ h => h) (Or.inl ⟨by kernel_rfl, fun w' hw => ?_⟩) hS ?_
              rotate_left 1
              · have d1 := blk_cell hw.1; have d2 := hw.2.1; have d3 := hw.2.2; go_simp; all_goals with_reducible rfl
              try simp only [Act.put, List.getElem_toArray, List.getElem_cons_zero, List.getElem_cons_succ, List.setIfInBounds_toArray, List.set_cons_zero, List.set_cons_succ]
              refine wpAnyH_take (i := 12) (v := ?_) rfl (by kernel_rfl) (by kernel_rfl) (by kernel_rfl) (fun _ _ _ h => h) (Or.inl ⟨by kernel_rfl, fun w' hw => ?_⟩) hS ?_
              rotate_left 1
              · have d1 := blk_cell hw.1; have d2 := hw.2.1; have d3 := hw.2.2; go_simp; all_goals with_reducible rfl
              try simp only [Act.put, List.getElem_toArray, List.getElem_cons_zero, List.getElem_cons_succ, List.setIfInBounds_toArray, List.set_cons_zero, List.set_cons_succ]
              refine wpAnyH_take (i := 13) (v := ?_) rfl (by kernel_rfl) (by kernel_rfl) (by kernel_rfl) (fun _ _ _ h => h) (Or.inl ⟨by kernel_rfl, fun w' hw => ?_⟩) hS ?_
              rotate_left 1
              · have d1 := blk_cell hw.1; have d2 := hw.2.1; have d3 := hw.2.2; go_simp; all_goals with_reducible rfl
              try simp only [Act.put, List.getElem_toArray, List.getElem_cons_zero, List.getElem_cons_succ, List.setIfInBounds_toArray, List.set_cons_zero, List.set_cons_succ]
              refine wpAnyH_ready (rs := [14]) (by kernel_rfl) (by simp) ?_
              refine AllReadyH.cons rfl (fun K hK => ?_) AllReadyH.nil
              go_simp
              refine hb2.mono ?_
              rintro e w5 ⟨r2, rfl, hiff2, hB5⟩
              have H2 : Hid (r2 = true ↔ logOf (s.rep q).dec <+: logOf (s.rep q2).dec) := hiff2
              clear hb2 hiff2
              have hB5' : Below w4.heap.size w4 w5 := Below.trans (Below.drew (Below.refl _ _)) hB5
              have hr5 := hr4.over hB5'
              have hl5 := hl4.below hB5'
              have hcb5 := blk_below hB5' hcb4
              have hx5 := (hl5.cell (k := q2) (by omega)).trans (by rw [Hx.out])
              have hy5 := (hl5.cell (k := q) (by omega)).trans (by rw [Hy.out])
              go_wp2_with fail
              refine hK.out _ _ ⟨hcb5, hx5, hy5⟩ (fun hS => ?_)
              clear hK K
              try simp only [Act.put, List.getElem_toArray, List.getElem_cons_zero, List.getElem_cons_succ, List.setIfInBounds_toArray, List.set_cons_zero, List.set_cons_succ]
              refine wpAnyH_ready (rs := [15]) (by kernel_rfl) (by simp) ?_
              refine AllReadyH.cons rfl (fun K hK => ?_) AllReadyH.nil
              go_simp
              refine hK.out _ _ ⟨hcb5, hx5, hy5⟩ (fun hS => ?_)
              clear hK K
              try simp only [Act.put, List.getElem_toArray, List.getElem_cons_zero, List.getElem_cons_succ, List.setIfInBounds_toArray, List.set_cons_zero, List.set_cons_succ]
              refine wpAnyH_done (by kernel_rfl) ?_ _
              cases r1 with
              | true =>
                go_wp2_with fail
                go_roundw
                case rel => exact ⟨q + 1, by omega, by go_num, hr5, hl5, hK.trans ((Keeps.ofBelow hB4').trans (Keeps.ofBelow hB5'))⟩
                case measure => simp [intOf]; omega
              | false =>
                obtain rfl : r2 = true := H2.out.2 (Hor.out.resolve_left (fun h9 => nomatch H1.out.2 h9))
                go_wp2_with fail
                go_roundw
                case rel => exact ⟨q + 1, by omega, by go_num, hr5, hl5, hK.trans ((Keeps.ofBelow hB4').trans (Keeps.ofBelow hB5'))⟩
                case measure => simp [intOf]; omega
            · obtain rfl : q = q2 := by omega
              go_wp2_with fail
              go_roundw
              case rel => exact ⟨q + 1, by omega, by go_num, hr3, hl3, hK⟩
              case measure => simp [intOf]; omega
        · obtain rfl : q2 = k := by omega
          go_wp2_with fail
          go_ret
          exact ⟨rfl, hr2, hK, vs1, hl2⟩
end

section
/-! What comes keeps a synod right. -/
theorem all_lt (s : Sy) : ∀ t ∈ s.all, t < s.n := fun t ht => by unfold Sy.all at ht; exact List.mem_range.1 ht
theorem others_lt (s : Sy) (i : Nat) : ∀ t ∈ s.others i, t < s.n := fun t ht => by
  unfold Sy.others at ht
  exact List.mem_range.1 (List.mem_of_mem_eraseIdx ht)
theorem send_ok {s : Sy} (h : s.ok) {k b q : Int} {p : Pst} {a : List Vt} (k0 : 1 ≤ k) (k1 : k ≤ 6) (b0 : 0 ≤ b) (b1 : b ≤ 8007) (s0 : 0 ≤ q) (s1 : q < 16) (ha : a.length ≤ 16) (hs : ∀ v ∈ a, 0 ≤ v.s ∧ v.s < 16) {f : Nat} (hf : f < s.n) {l : List Nat} (hl : ∀ t ∈ l, t < s.n) : (s.sendTo (msg k b q p a) f l).ok :=
  sendTo_ok _ f l s h (msg_ok h.n0 k0 k1 b0 b1 s0 s1 ha hs) hf hl
theorem role_ok {r : Rp} (h : r.ok) {l : Rl} (hl : l.ok) : (r.role l).ok := ⟨h.pr0, h.pr1, h.sn0, h.sn1, h.acc, h.slot, h.dec, hl⟩
theorem noTl_ok : noTl.ok := ⟨rfl, rfl⟩
theorem propose_ok {s : Sy} (h : s.ok) {i : Nat} (hi : i < s.n) {b : Int} {next : Nat} {ps : List Pp} (hrl : (s.rep i).rl = .lead b next ps) (b0 : 0 ≤ b) (b1 : b ≤ 8007) {k : Nat} (hk : k < 16) (p : Pst) : (s.propose i k p).ok := by
  have hr := h.repOk hi
  have ho := hr.rl
  rw [hrl] at ho
  unfold Sy.propose
  rw [hrl]
  simp only
  refine send_ok (Sy.put_ok h (role_ok hr ?_)) (by decide) (by decide) b0 b1 (by omega) (by omega) (by simp) (by simp) hi (all_lt s)
  exact ⟨ho.1, by rw [List.length_set]; exact ho.2.1, set_ok ho.2.2 (getD_ok ho.2.2 (by rw [ho.2.1]; exact hk))⟩
theorem leadTo_ok {s : Sy} (h : s.ok) {i : Nat} (hi : i < s.n) {b : Int} {next : Nat} {ps : List Pp} (hrl : (s.rep i).rl = .lead b next ps) (b0 : 0 ≤ b) (b1 : b ≤ 8007) (kept : List Vt) : ∀ k, k ≤ 16 → (s.leadTo i kept k).ok
  | 0, _ => h
  | k + 1, hk => by
    have ih := leadTo_ok h hi hrl b0 b1 kept k (by omega)
    obtain ⟨ps', hr⟩ := leadTo_rep (by rw [h.len]; exact hi) hrl kept k
    unfold Sy.leadTo
    split
    · exact ih
    · exact propose_ok ih (by rw [leadTo_n]; exact hi) (by rw [hr]; rfl) b0 b1 (by omega) _
theorem lead_ok {s : Sy} (h : s.ok) {i : Nat} (hi : i < s.n) {b : Int} (b0 : 0 ≤ b) (b1 : b ≤ 8007) (kept : List Vt) : (s.lead i b kept).ok := by
  unfold Sy.lead
  have hr := h.repOk hi
  refine leadTo_ok (b := b) (next := s.nextOf i kept) (ps := List.replicate 16 noPp) (Sy.put_ok h (role_ok (l := .lead b (s.nextOf i kept) (List.replicate 16 noPp)) hr ⟨nextB_le _ _ 16, by simp, fun x hx => ?_⟩)) hi ?_ b0 b1 kept _ (nextB_le _ _ 16)
  · rw [List.eq_of_mem_replicate hx]; exact noTl_ok
  · rw [Sy.rep_put (by rw [h.len]; exact hi)]; rfl
theorem voted_fits {r : Rp} (h : r.ok) : (voted r.acc).length ≤ 16 ∧ ∀ v ∈ voted r.acc, 0 ≤ v.s ∧ v.s < 16 := by
  have h1 := h.acc
  refine ⟨?_, fun v hv => h.slot v ?_⟩
  · have := List.length_filter_le (fun v : Vt => decide (0 < v.b)) r.acc
    unfold voted; omega
  · unfold voted at hv
    exact (List.mem_filter.1 hv).1
theorem receive_ok {s : Sy} (h : s.ok) {i : Nat} (hi : i < s.n) {m : Ms} (hm : m.ok s.n) : (s.receive i m).ok := by
  have hr := h.repOk hi
  have hf : ∀ t ∈ [m.f.toNat], t < s.n := fun t ht => by
    have := hm.f0; have := hm.f1
    rw [List.mem_singleton.1 ht]; omega
  have hf7 : m.f.toNat < 7 := by have := hf _ (List.mem_singleton.2 rfl); have := h.n1; omega
  have hb0 := hm.b0
  have hb1 := hm.b1
  have hs0 := hm.s0
  have hs1 := hm.s1
  have hv := voted_fits hr
  have hobey : ¬ m.b < (s.rep i).pr → (s.put i (((s.rep i).yield m.b).promise m.b)).ok := fun _ => Sy.put_ok h (promise_ok (yield_ok hr hb0 hb1) hb0 hb1)
  have href : (s.sendTo (msg 6 (s.rep i).pr 0 noPst []) i [m.f.toNat]).ok := send_ok h (by decide) (by decide) hr.pr0 hr.pr1 (by decide) (by decide) (by simp) (by simp) hi hf
  unfold Sy.receive
  split
  · unfold Sy.takePrepare Sy.obey
    split
    · exact href
    · rename_i hb
      exact send_ok (hobey hb) (by decide) (by decide) hb0 hb1 (by decide) (by decide) hv.1 hv.2 hi hf
  split
  · unfold Sy.takePromise
    split
    · rename_i b t kept hrl
      have ho := hr.rl
      rw [hrl] at ho
      split
      · rename_i hc
        have ho2 : (Rl.prep b (t.add m.f.toNat) (keepAll kept m.a)).ok := ⟨Tl.add_ok ho.1 hf7 hc.2, by rw [keepAll_length]; exact ho.2⟩
        have h1 := Sy.put_ok (i := i) h (role_ok hr ho2)
        split
        · exact lead_ok h1 hi (by rw [hc.1]; exact hb0) (by rw [hc.1]; exact hb1) _
        · exact h1
      · exact h
    · exact h
  split
  · unfold Sy.takePropose Sy.obey
    split
    · exact href
    · rename_i hb
      refine send_ok (Sy.put_ok (hobey hb) (accept_ok ((hobey hb).repOk hi) hs0 hs1)) (by decide) (by decide) hb0 hb1 hs0 hs1 (by simp) (by simp) hi hf
  split
  · unfold Sy.takeAccept
    split
    · rename_i b next ps hrl
      have ho := hr.rl
      rw [hrl] at ho
      split
      · rename_i hc
        have hk : m.s.toNat < ps.length := by rw [ho.2.1]; omega
        have ho2 : (Rl.lead b next (ps.set m.s.toNat ⟨(ps.getD m.s.toNat noPp).p, (ps.getD m.s.toNat noPp).t.add m.f.toNat⟩)).ok :=
          ⟨ho.1, by rw [List.length_set]; exact ho.2.1, set_ok ho.2.2 (Tl.add_ok (getD_ok ho.2.2 hk) hf7 hc.2.2)⟩
        dsimp only
        split
        · exact send_ok (Sy.put_ok h (decide_ok (role_ok hr ho2) _ _)) (by decide) (by decide) (by decide) (by decide) hs0 hs1 (by simp) (by simp) hi (others_lt s i)
        · exact Sy.put_ok h (role_ok hr ho2)
      · exact h
    · exact h
  split
  · unfold Sy.takeDecide
    split
    · exact h
    · exact Sy.put_ok h (decide_ok hr _ _)
  · unfold Sy.takeRefuse
    exact Sy.put_ok h (yield_ok hr hb0 hb1)
theorem first_ok {s : Sy} (h : s.ok) {m : Ms} {l : List Ms} (hn : s.net = m :: l) : m.ok s.n ∧ (⟨s.n, s.reps, l⟩ : Sy).ok := by
  refine ⟨h.net m (by rw [hn]; exact List.mem_cons_self), ⟨h.n0, h.n1, h.len, h.rep, ?_, fun x hx => h.net x (by rw [hn]; exact List.mem_cons_of_mem _ hx)⟩⟩
  have := h.full
  rw [hn] at this
  show l.length ≤ 200
  simp at this; omega
theorem deliver_first {s : Sy} {m : Ms} {l : List Ms} (hn : s.net = m :: l) : s.deliver 0 = (⟨s.n, s.reps, l⟩ : Sy).receive m.t.toNat m := by
  unfold Sy.deliver Sy.without
  rw [hn]
  rfl
theorem Ms.ok.to_lt {n : Nat} {m : Ms} (h : m.ok n) : m.t.toNat < n ∧ m.f.toNat < n := by
  have := h.t0; have := h.t1; have := h.f0; have := h.f1
  omega
theorem settle_ind {I : Sy → Prop} (hI : ∀ s m l, s.ok → I s → s.net = m :: l → I ((⟨s.n, s.reps, l⟩ : Sy).receive m.t.toNat m)) : ∀ (k : Nat) (s : Sy), s.ok → I s → I (Sy.settle k s) ∧ (Sy.settle k s).ok
  | 0, s, h, hi => ⟨hi, h⟩
  | k + 1, s, h, hi => by
    unfold Sy.settle
    split
    · exact ⟨hi, h⟩
    · rename_i hne
      cases hn : s.net with
      | nil => exact absurd hn hne
      | cons m l =>
        obtain ⟨h1, h2⟩ := first_ok h hn
        rw [deliver_first hn]
        exact settle_ind hI k _ (receive_ok h2 h1.to_lt.1 h1) (hI s m l h hi hn)

/-! How much can come. -/
def wt (n : Nat) (m : Ms) : Int := if m.k = 1 then 2 else if m.k = 3 then n + 1 else if m.k = 4 then n else 1
def wts (n : Nat) : List Ms → Int
  | [] => 0
  | m :: l => wt n m + wts n l
theorem wt_pos {n : Nat} (hn : 1 ≤ n) (m : Ms) : 1 ≤ wt n m := by unfold wt; repeat' split <;> omega
theorem wt_le {n : Nat} (hn : n ≤ 7) (m : Ms) : wt n m ≤ 8 := by unfold wt; repeat' split <;> omega
theorem wts_append (n : Nat) : ∀ (a b : List Ms), wts n (a ++ b) = wts n a + wts n b
  | [], b => by simp [wts]
  | m :: a, b => by
    have := wts_append n a b
    show wt n m + wts n (a ++ b) = wt n m + wts n a + wts n b
    omega
theorem wts_nonneg {n : Nat} (hn : 1 ≤ n) : ∀ (l : List Ms), (l.length : Int) ≤ wts n l
  | [] => Int.le_refl _
  | m :: l => by
    have h1 := wts_nonneg hn l
    have h2 := wt_pos hn m
    show (((m :: l).length : Nat) : Int) ≤ wt n m + wts n l
    simp only [List.length_cons]; omega
theorem wts_le {n : Nat} (hn : n ≤ 7) : ∀ (l : List Ms), wts n l ≤ 8 * l.length
  | [] => Int.le_refl _
  | m :: l => by
    have h1 := wts_le hn l
    have h2 := wt_le hn m
    show wt n m + wts n l ≤ 8 * (((m :: l).length : Nat) : Int)
    simp only [List.length_cons]; omega
theorem wts_send {n : Nat} (hn : 1 ≤ n) (x : Ms) (f : Nat) : ∀ (l : List Nat) (s : Sy), wts n (s.sendTo x f l).net ≤ wts n s.net + l.length * wt n x
  | [], s => by simp [Sy.sendTo]
  | t :: l, s => by
    have h1 := wts_send hn x f l (s.send1 (x.to (f : Int) (t : Int)))
    have h2 : wts n (s.send1 (x.to (f : Int) (t : Int))).net ≤ wts n s.net + wt n x := by
      unfold Sy.send1
      simp only
      split
      · rw [wts_append]
        show wts n s.net + (wt n (x.to (f : Int) (t : Int)) + 0) ≤ wts n s.net + wt n x
        have : wt n (x.to (f : Int) (t : Int)) = wt n x := rfl
        omega
      · have := wt_pos hn x
        omega
    have e : (((t :: l).length : Nat) : Int) * wt n x = l.length * wt n x + wt n x := by
      simp only [List.length_cons, Int.natCast_add, Int.add_mul]; simp
    show wts n ((s.send1 (x.to (f : Int) (t : Int))).sendTo x f l).net ≤ _
    omega
def rpot (n : Nat) (r : Rp) : Int :=
  match r.rl with
  | .prep _ _ _ => 16 * ((n : Int) * (n + 1))
  | _ => 0
theorem rpot_nonneg (n : Nat) (r : Rp) : 0 ≤ rpot n r := by
  have : (0 : Int) ≤ (n : Int) * (n + 1) := Int.mul_nonneg (by omega) (by omega)
  unfold rpot; split <;> omega
theorem rpot_yield (n : Nat) (r : Rp) (b : Int) : rpot n (r.yield b) ≤ rpot n r := by
  by_cases h : r.rl.bal < b
  · have e : rpot n (r.yield b) = 0 := by unfold rpot Rp.yield; simp only [if_pos h]
    rw [e]; exact rpot_nonneg n r
  · have e : rpot n (r.yield b) = rpot n r := by unfold rpot Rp.yield; simp only [if_neg h]
    rw [e]; exact Int.le_refl _
def spot (s : Sy) : Int := wts s.n s.net + sumTo (fun i => rpot s.n (s.rep i)) s.n
theorem sumTo_one {f g : Nat → Int} {i : Nat} (h : ∀ j, j ≠ i → g j = f j) : ∀ n, sumTo g n = sumTo f n + (if i < n then g i - f i else 0)
  | 0 => by simp [sumTo]
  | n + 1 => by
    have h1 := sumTo_one h n
    unfold sumTo
    rw [h1]
    by_cases e : n = i
    · subst e
      rw [if_neg (by omega), if_pos (by omega)]; omega
    · rw [h n e]
      by_cases hl : i < n
      · rw [if_pos hl, if_pos (by omega)]; omega
      · rw [if_neg hl, if_neg (by omega)]; omega
theorem spot_le {s s' : Sy} {i : Nat} (hi : i < s.n) (hn : s'.n = s.n) (hne : ∀ j, j ≠ i → s'.rep j = s.rep j) {d : Int} (h : wts s.n s'.net + rpot s.n (s'.rep i) ≤ wts s.n s.net + rpot s.n (s.rep i) + d) : spot s' ≤ spot s + d := by
  unfold spot
  rw [hn, sumTo_one (f := fun j => rpot s.n (s.rep j)) (g := fun j => rpot s.n (s'.rep j)) (i := i) (fun j hj => by show rpot s.n (s'.rep j) = rpot s.n (s.rep j); rw [hne j hj]), if_pos hi]
  omega
theorem wts_propose {s : Sy} (hn : 1 ≤ s.n) (i k : Nat) (p : Pst) : wts s.n (s.propose i k p).net ≤ wts s.n s.net + (s.n : Int) * (s.n + 1) := by
  unfold Sy.propose
  split
  · rename_i b next ps hrl
    have h1 := wts_send hn (msg 3 b (k : Int) p []) i s.all (s.put i ((s.rep i).role (.lead b next (ps.set k ⟨p, (ps.getD k noPp).t⟩))))
    have h2 : wt s.n (msg 3 b (k : Int) p []) = s.n + 1 := rfl
    have h3 : s.all.length = s.n := by simp [Sy.all]
    rw [h2, h3] at h1
    exact h1
  · have : (0 : Int) ≤ (s.n : Int) * (s.n + 1) := Int.mul_nonneg (by omega) (by omega)
    omega
theorem wts_leadTo {s : Sy} (hn : 1 ≤ s.n) (i : Nat) (kept : List Vt) {q : Int} (hq : q = (s.n : Int) * (s.n + 1)) : ∀ k, wts s.n (s.leadTo i kept k).net ≤ wts s.n s.net + k * q
  | 0 => by simp [Sy.leadTo]
  | k + 1 => by
    have ih := wts_leadTo hn i kept hq k
    have h0 : (0 : Int) ≤ q := by rw [hq]; exact Int.mul_nonneg (by omega) (by omega)
    have e : ((k + 1 : Nat) : Int) * q = k * q + q := by rw [Int.natCast_add, Int.add_mul]; simp
    unfold Sy.leadTo
    split
    · omega
    · have hl := leadTo_n s i kept k
      have h1 := wts_propose (s := s.leadTo i kept k) (by rw [hl]; exact hn) i k (kept.getD k noVt).p
      rw [hl, ← hq] at h1
      omega
theorem others_len {s : Sy} {i : Nat} (hi : i < s.n) : (s.others i).length = s.n - 1 := by
  unfold Sy.others
  rw [List.length_eraseIdx, List.length_range, if_pos hi]
theorem receive_spot {s : Sy} (h : s.ok) {i : Nat} (hi : i < s.n) {m : Ms} (hm : m.ok s.n) : spot (s.receive i m) + 1 ≤ spot s + wt s.n m := by
  have hn := h.n0
  have hP := rep_put' h.len hi
  have hall := receive_rs h hi hm
  have hmw := wt_pos hn m
  have main : wts s.n (s.receive i m).net + rpot s.n ((s.receive i m).rep i) ≤ wts s.n s.net + rpot s.n (s.rep i) + (wt s.n m - 1) := by
    have hob : rpot s.n (((s.rep i).yield m.b).promise m.b) ≤ rpot s.n (s.rep i) := rpot_yield _ _ _
    have href := wts_send hn (msg 6 (s.rep i).pr 0 noPst []) i [m.f.toNat] s
    have hw6 : wt s.n (msg 6 (s.rep i).pr 0 noPst []) = 1 := rfl
    rw [hw6] at href
    simp only [List.length_singleton] at href
    unfold Sy.receive
    split
    · rename_i hk
      have hw : wt s.n m = 2 := by unfold wt; rw [if_pos hk]
      unfold Sy.takePrepare Sy.obey
      split
      · rw [rep_send]; omega
      · have h2 := wts_send hn (msg 2 m.b 0 noPst (voted (s.rep i).acc)) i [m.f.toNat] (s.put i (((s.rep i).yield m.b).promise m.b))
        have hw2 : wt s.n (msg 2 m.b 0 noPst (voted (s.rep i).acc)) = 1 := rfl
        rw [hw2] at h2
        simp only [List.length_singleton] at h2
        have h3 : wts s.n (s.put i (((s.rep i).yield m.b).promise m.b)).net = wts s.n s.net := rfl
        rw [rep_send, hP, if_pos rfl]; omega
    split
    · rename_i hk1 hk
      have hw : wt s.n m = 1 := by unfold wt; rw [hk]; rfl
      unfold Sy.takePromise
      split
      · rename_i b t kept hrl
        have hr0 : rpot s.n (s.rep i) = 16 * ((s.n : Int) * (s.n + 1)) := by unfold rpot; rw [hrl]
        split
        · split
          · have hl1 : (s.put i ((s.rep i).role (.prep b (t.add m.f.toNat) (keepAll kept m.a)))).reps.length = (s.put i ((s.rep i).role (.prep b (t.add m.f.toNat) (keepAll kept m.a)))).n := by simp only [Sy.put, List.length_set]; exact h.len
            obtain ⟨⟨ps, next, hnx, h1⟩, _⟩ := lead_rep hl1 (i := i) hi b (keepAll kept m.a)
            rw [h1]
            have hr1 : rpot s.n (((s.put i ((s.rep i).role (.prep b (t.add m.f.toNat) (keepAll kept m.a)))).rep i).role (.lead b next ps)) = 0 := rfl
            rw [hr1, hr0]
            obtain ⟨q, hq⟩ : ∃ q : Int, q = (s.n : Int) * (s.n + 1) := ⟨_, rfl⟩
            rw [← hq]
            have hq0 : (0 : Int) ≤ q := by rw [hq]; exact Int.mul_nonneg (by omega) (by omega)
            unfold Sy.lead
            have hle := nextB_le ((s.put i ((s.rep i).role (.prep b (t.add m.f.toNat) (keepAll kept m.a)))).rep i).dm (fun k => ((keepAll kept m.a).getD k noVt).b) 16
            have hle' : (s.put i ((s.rep i).role (.prep b (t.add m.f.toNat) (keepAll kept m.a)))).nextOf i (keepAll kept m.a) ≤ 16 := hle
            have h2 := wts_leadTo (s := (s.put i ((s.rep i).role (.prep b (t.add m.f.toNat) (keepAll kept m.a)))).put i (((s.put i ((s.rep i).role (.prep b (t.add m.f.toNat) (keepAll kept m.a)))).rep i).role (.lead b ((s.put i ((s.rep i).role (.prep b (t.add m.f.toNat) (keepAll kept m.a)))).nextOf i (keepAll kept m.a)) (List.replicate 16 noPp)))) hn i (keepAll kept m.a) hq ((s.put i ((s.rep i).role (.prep b (t.add m.f.toNat) (keepAll kept m.a)))).nextOf i (keepAll kept m.a))
            generalize (s.put i ((s.rep i).role (.prep b (t.add m.f.toNat) (keepAll kept m.a)))).nextOf i (keepAll kept m.a) = nx at *
            have h3 : (nx : Int) * q ≤ 16 * q := Int.mul_le_mul_of_nonneg_right (by omega) hq0
            have h4 : wts s.n ((s.put i ((s.rep i).role (.prep b (t.add m.f.toNat) (keepAll kept m.a)))).put i (((s.put i ((s.rep i).role (.prep b (t.add m.f.toNat) (keepAll kept m.a)))).rep i).role (.lead b nx (List.replicate 16 noPp)))).net = wts s.n s.net := rfl
            have h5 : ((s.put i ((s.rep i).role (.prep b (t.add m.f.toNat) (keepAll kept m.a)))).put i (((s.put i ((s.rep i).role (.prep b (t.add m.f.toNat) (keepAll kept m.a)))).rep i).role (.lead b nx (List.replicate 16 noPp)))).n = s.n := rfl
            rw [h5, h4] at h2
            omega
          · rw [hP, if_pos rfl, hr0]
            have hr1 : rpot s.n ((s.rep i).role (.prep b (t.add m.f.toNat) (keepAll kept m.a))) = 16 * ((s.n : Int) * (s.n + 1)) := rfl
            have h4 : ∀ r, wts s.n (s.put i r).net = wts s.n s.net := fun _ => rfl
            rw [hr1, h4]; omega
        · omega
      · omega
    split
    · rename_i hk1 hk2 hk
      have hw : wt s.n m = s.n + 1 := by unfold wt; rw [hk]; rfl
      unfold Sy.takePropose Sy.obey
      split
      · rw [rep_send]; omega
      · have hP2 := rep_put' (s := s.put i (((s.rep i).yield m.b).promise m.b)) (by simp only [Sy.put, List.length_set]; exact h.len) (i := i) hi
        have h2 := wts_send hn (msg 4 m.b m.s noPst []) i [m.f.toNat] ((s.put i (((s.rep i).yield m.b).promise m.b)).put i (((s.put i (((s.rep i).yield m.b).promise m.b)).rep i).accept m.s.toNat ⟨m.s, m.b, m.p⟩))
        have hw2 : wt s.n (msg 4 m.b m.s noPst []) = s.n := rfl
        rw [hw2] at h2
        simp only [List.length_singleton] at h2
        have h3 : wts s.n ((s.put i (((s.rep i).yield m.b).promise m.b)).put i (((s.put i (((s.rep i).yield m.b).promise m.b)).rep i).accept m.s.toNat ⟨m.s, m.b, m.p⟩)).net = wts s.n s.net := rfl
        have hr2 : (s.put i (((s.rep i).yield m.b).promise m.b)).rep i = ((s.rep i).yield m.b).promise m.b := by rw [hP, if_pos rfl]
        rw [hr2] at h2 h3
        rw [rep_send, hP2, if_pos rfl, hr2]
        have h4 : rpot s.n ((((s.rep i).yield m.b).promise m.b).accept m.s.toNat ⟨m.s, m.b, m.p⟩) = rpot s.n (((s.rep i).yield m.b).promise m.b) := rfl
        rw [h4]; omega
    split
    · rename_i hk1 hk2 hk3 hk
      have hw : wt s.n m = s.n := by unfold wt; rw [hk]; rfl
      unfold Sy.takeAccept
      split
      · rename_i b next ps hrl
        have hr0 : rpot s.n (s.rep i) = 0 := by unfold rpot; rw [hrl]
        split
        · dsimp only
          split
          · have h2 := wts_send hn (msg 5 0 m.s (ps.getD m.s.toNat noPp).p []) i (s.others i) (s.put i (((s.rep i).role (.lead b next (ps.set m.s.toNat ⟨(ps.getD m.s.toNat noPp).p, (ps.getD m.s.toNat noPp).t.add m.f.toNat⟩))).decide m.s.toNat (ps.getD m.s.toNat noPp).p))
            have hw2 : wt s.n (msg 5 0 m.s (ps.getD m.s.toNat noPp).p []) = 1 := rfl
            rw [hw2, others_len hi] at h2
            have h4 : ∀ r, wts s.n (s.put i r).net = wts s.n s.net := fun _ => rfl
            rw [h4] at h2
            rw [rep_send, hP, if_pos rfl, hr0]
            have hr1 : rpot s.n (((s.rep i).role (.lead b next (ps.set m.s.toNat ⟨(ps.getD m.s.toNat noPp).p, (ps.getD m.s.toNat noPp).t.add m.f.toNat⟩))).decide m.s.toNat (ps.getD m.s.toNat noPp).p) = 0 := rfl
            rw [hr1]; omega
          · rw [hP, if_pos rfl, hr0]
            have hr1 : rpot s.n ((s.rep i).role (.lead b next (ps.set m.s.toNat ⟨(ps.getD m.s.toNat noPp).p, (ps.getD m.s.toNat noPp).t.add m.f.toNat⟩))) = 0 := rfl
            have h4 : ∀ r, wts s.n (s.put i r).net = wts s.n s.net := fun _ => rfl
            rw [hr1, h4]; omega
        · omega
      · omega
    have h4 : ∀ r, wts s.n (s.put i r).net = wts s.n s.net := fun _ => rfl
    split
    · unfold Sy.takeDecide
      split
      · omega
      · rw [hP, if_pos rfl, h4]
        have hr1 : rpot s.n ((s.rep i).decide m.s.toNat m.p) = rpot s.n (s.rep i) := rfl
        rw [hr1]; omega
    · unfold Sy.takeRefuse
      rw [hP, if_pos rfl, h4]
      have hr1 := rpot_yield s.n (s.rep i) m.b
      omega
  have := spot_le hi (receive_n s i m) hall.2 main
  omega
theorem spot_few {s : Sy} (h : s.ok) : spot s ≤ 20000 := by
  have h7 := h.n1
  have h1 := wts_le h7 s.net
  have h2 := h.full
  have h3 : ∀ j, j < s.n → rpot s.n (s.rep j) ≤ 896 := fun j _ => by
    have : (s.n : Int) * (s.n + 1) ≤ 56 := by
      have : s.n = 0 ∨ s.n = 1 ∨ s.n = 2 ∨ s.n = 3 ∨ s.n = 4 ∨ s.n = 5 ∨ s.n = 6 ∨ s.n = 7 := by omega
      rcases this with e | e | e | e | e | e | e | e <;> rw [e] <;> decide
    unfold rpot
    split <;> omega
  have h4 := sumTo_bound s.n h3
  unfold spot
  omega
theorem settle_empty' : ∀ (k : Nat) (s : Sy), s.ok → spot s ≤ k → (Sy.settle k s).net = []
  | 0, s, h, hk => by
    have h1 := wts_nonneg h.n0 s.net
    have h2 := sumTo_nonneg (f := fun i => rpot s.n (s.rep i)) s.n (fun j _ => rpot_nonneg _ _)
    unfold spot at hk
    have : s.net.length = 0 := by omega
    exact List.length_eq_zero_iff.1 this
  | k + 1, s, h, hk => by
    unfold Sy.settle
    split
    · assumption
    · rename_i hne
      cases hn : s.net with
      | nil => exact absurd hn hne
      | cons m l =>
        obtain ⟨h1, h2⟩ := first_ok h hn
        rw [deliver_first hn]
        have h3 := receive_spot h2 h1.to_lt.1 h1
        have h4 : spot s = wt s.n m + spot ⟨s.n, s.reps, l⟩ := by
          unfold spot
          rw [hn]
          show wt s.n m + wts s.n l + _ = wt s.n m + (wts s.n l + _)
          have e : ∀ i, s.rep i = (⟨s.n, s.reps, l⟩ : Sy).rep i := fun _ => rfl
          simp only [e]
          omega
        refine settle_empty' k _ (receive_ok h2 h1.to_lt.1 h1) ?_
        have h5 : wt (⟨s.n, s.reps, l⟩ : Sy).n m = wt s.n m := rfl
        rw [h5] at h3
        omega
/-- All that is on its way comes within 20000 messages. -/
theorem settle_empty {s : Sy} (h : s.ok) : (Sy.settle 20000 s).net = [] := settle_empty' 20000 s h (by have := spot_few h; omega)
end

section
theorem sendTo_net (x : Ms) (f : Nat) : ∀ (l : List Nat) (s : Sy), ∃ L, (s.sendTo x f l).net = s.net ++ L ∧ (∀ y ∈ L, ∃ t ∈ l, y = x.to (f : Int) (t : Int)) ∧ (s.net.length + l.length ≤ 200 → L = l.map (fun t => x.to (f : Int) ((t : Nat) : Int)))
  | [], s => ⟨[], by simp [Sy.sendTo], by simp, fun _ => rfl⟩
  | t :: l, s => by
    obtain ⟨L, h1, h2, h3⟩ := sendTo_net x f l (s.send1 (x.to (f : Int) (t : Int)))
    by_cases hr : s.net.length < 200
    · have e : (s.send1 (x.to (f : Int) (t : Int))).net = s.net ++ [x.to (f : Int) (t : Int)] := by unfold Sy.send1; simp only; rw [if_pos hr]
      refine ⟨x.to (f : Int) (t : Int) :: L, ?_, fun y hy => ?_, fun hl => ?_⟩
      · show ((s.send1 (x.to (f : Int) (t : Int))).sendTo x f l).net = _
        rw [h1, e]; simp
      · rcases List.mem_cons.1 hy with rfl | hy
        · exact ⟨t, List.mem_cons_self, rfl⟩
        · obtain ⟨u, hu, e⟩ := h2 y hy
          exact ⟨u, List.mem_cons_of_mem _ hu, e⟩
      · rw [h3 (by rw [e, List.length_append]; simp only [List.length_cons, List.length_nil] at hl ⊢; omega)]
        rfl
    · have e : (s.send1 (x.to (f : Int) (t : Int))).net = s.net := by unfold Sy.send1; simp only; rw [if_neg hr]
      refine ⟨L, ?_, fun y hy => ?_, fun hl => ?_⟩
      · show ((s.send1 (x.to (f : Int) (t : Int))).sendTo x f l).net = _
        rw [h1, e]
      · obtain ⟨u, hu, e⟩ := h2 y hy
        exact ⟨u, List.mem_cons_of_mem _ hu, e⟩
      · simp only [List.length_cons] at hl; omega
theorem send_one (x : Ms) (f t : Nat) (s : Sy) (h : s.net.length < 200) : (s.sendTo x f [t]).net = s.net ++ [x.to (f : Int) (t : Int)] := by
  obtain ⟨L, h1, _, h3⟩ := sendTo_net x f [t] s
  rw [h1, h3 (by simp only [List.length_cons, List.length_nil]; omega)]
  rfl
theorem leadTo_net {s : Sy} {i : Nat} (hi : i < s.reps.length) {b : Int} {next : Nat} {ps : List Pp} (hrl : (s.rep i).rl = .lead b next ps) (kept : List Vt) : ∀ k, ∃ L, (s.leadTo i kept k).net = s.net ++ L ∧ (∀ y ∈ L, y.k = 3 ∧ y.b = b ∧ y.f = i) ∧ L.length ≤ k * s.n ∧ (s.net.length + k * s.n ≤ 200 → ∀ q, q < k → (s.rep i).dm q = false → ∀ j, j < s.n → ∃ y ∈ L, y.k = 3 ∧ y.t = (j : Int) ∧ y.s = (q : Int))
  | 0 => ⟨[], by simp [Sy.leadTo], by simp, by simp, fun _ q hq => by omega⟩
  | k + 1 => by
    obtain ⟨L, h1, h2, hlen, h3⟩ := leadTo_net hi hrl kept k
    obtain ⟨ps', hr⟩ := leadTo_rep hi hrl kept k
    have e9 : (k + 1) * s.n = k * s.n + s.n := by rw [Nat.add_mul]; simp
    unfold Sy.leadTo
    split
    · rename_i hd
      refine ⟨L, h1, h2, by omega, fun hroom q hq hdm j hj => ?_⟩
      have : q ≠ k := fun e => by rw [e, hd] at hdm; cases hdm
      exact h3 (by omega) q (by omega) hdm j hj
    · have hrl' : ((s.leadTo i kept k).rep i).rl = .lead b next ps' := by rw [hr]; rfl
      unfold Sy.propose
      rw [hrl']
      simp only
      obtain ⟨L2, k1, k2, k3⟩ := sendTo_net (msg 3 b (k : Int) (kept.getD k noVt).p []) i (s.leadTo i kept k).all ((s.leadTo i kept k).put i (((s.leadTo i kept k).rep i).role (.lead b next (ps'.set k ⟨(kept.getD k noVt).p, (ps'.getD k noPp).t⟩))))
      have hnet : ((s.leadTo i kept k).put i (((s.leadTo i kept k).rep i).role (.lead b next (ps'.set k ⟨(kept.getD k noVt).p, (ps'.getD k noPp).t⟩)))).net = s.net ++ L := h1
      have hall : (s.leadTo i kept k).all = List.range s.n := by unfold Sy.all; rw [leadTo_n]
      have hL2 : L2.length ≤ s.n ∧ (s.net.length + (k + 1) * s.n ≤ 200 → L2 = (List.range s.n).map (fun t => (msg 3 b (k : Int) (kept.getD k noVt).p []).to (i : Int) ((t : Nat) : Int))) := by
        rw [hnet, hall, List.length_range] at k3
        rw [List.length_append] at k3
        constructor
        · by_cases hroom : s.net.length + L.length + s.n ≤ 200
          · rw [k3 hroom]; simp
          · exact Nat.le_trans (sendTo_len (msg 3 b (k : Int) (kept.getD k noVt).p []) i (s.leadTo i kept k).all _ k1) (by rw [hall]; simp)
        · intro hroom
          exact k3 (by omega)
      refine ⟨L ++ L2, by rw [k1, hnet, List.append_assoc], fun y hy => ?_, by rw [List.length_append]; omega, fun hroom q hq hdm j hj => ?_⟩
      · rcases List.mem_append.1 hy with hy | hy
        · exact h2 y hy
        · obtain ⟨t, _, rfl⟩ := k2 y hy
          exact ⟨rfl, rfl, rfl⟩
      · by_cases hqk : q = k
        · subst hqk
          refine ⟨(msg 3 b (q : Int) (kept.getD q noVt).p []).to (i : Int) (j : Int), List.mem_append_right _ ?_, rfl, rfl, rfl⟩
          rw [hL2.2 hroom]
          exact List.mem_map.2 ⟨j, List.mem_range.2 hj, rfl⟩
        · obtain ⟨y, hy, hz⟩ := h3 (by omega) q (by omega) hdm j hj
          exact ⟨y, List.mem_append_left _ hy, hz⟩
 where
  sendTo_len (x : Ms) (f : Nat) (l : List Nat) (s : Sy) {L : List Ms} (h : (s.sendTo x f l).net = s.net ++ L) : L.length ≤ l.length := by
    have : ∀ (l : List Nat) (s : Sy), (s.sendTo x f l).net.length ≤ s.net.length + l.length := by
      intro l
      induction l with
      | nil => intro s; simp [Sy.sendTo]
      | cons t l ih =>
        intro s
        have h1 := ih (s.send1 (x.to (f : Int) (t : Int)))
        have h2 : (s.send1 (x.to (f : Int) (t : Int))).net.length ≤ s.net.length + 1 := by
          unfold Sy.send1; simp only; split
          · rw [List.length_append]; simp
          · omega
        show ((s.send1 (x.to (f : Int) (t : Int))).sendTo x f l).net.length ≤ _
        simp only [List.length_cons]; omega
    have h1 := this l s
    rw [h, List.length_append] at h1
    omega

/-- What the message m makes of replica i, and what it sends. -/
inductive Rcv (n i : Nat) (r : Rp) (room : Nat) (m : Ms) : Rp → List Ms → Prop
  | refuse (hk : m.k = 1 ∨ m.k = 3) (hb : m.b < r.pr) : Rcv n i r room m r [(msg 6 r.pr 0 noPst []).to (i : Int) (m.f.toNat : Int)]
  | promise (hk : m.k = 1) (hb : r.pr ≤ m.b) : Rcv n i r room m ((r.yield m.b).promise m.b) [(msg 2 m.b 0 noPst (voted r.acc)).to (i : Int) (m.f.toNat : Int)]
  | accept (hk : m.k = 3) (hb : r.pr ≤ m.b) : Rcv n i r room m (((r.yield m.b).promise m.b).accept m.s.toNat ⟨m.s, m.b, m.p⟩) [(msg 4 m.b m.s noPst []).to (i : Int) (m.f.toNat : Int)]
  | pskip (hk : m.k = 2) (h : ∀ b t kept, r.rl = .prep b t kept → b = m.b → t.has m.f.toNat = true) : Rcv n i r room m r []
  | pcount (hk : m.k = 2) (b : Int) (t : Tl) (kept : List Vt) (hrl : r.rl = .prep b t kept) (hb : b = m.b) (hf : t.has m.f.toNat = false) (hc : 2 * (t.c + 1) ≤ (n : Int)) : Rcv n i r room m (r.role (.prep b (t.add m.f.toNat) (keepAll kept m.a))) []
  | plead (hk : m.k = 2) (b : Int) (t : Tl) (kept : List Vt) (hrl : r.rl = .prep b t kept) (hb : b = m.b) (next : Nat) (ps : List Pp) (hn : next ≤ 16) (hps : ∀ q, (ps.getD q noPp).t = noTl) (L : List Ms) (hL : ∀ y ∈ L, y.k = 3 ∧ y.b = b ∧ y.f = i)
      (hall : room + next * n ≤ 200 → ∀ q, q < next → r.dm q = false → ∀ j, j < n → ∃ y ∈ L, y.k = 3 ∧ y.t = (j : Int) ∧ y.s = (q : Int)) : Rcv n i r room m (r.role (.lead b next ps)) L
  | askip (hk : m.k = 4) (h : ∀ b next ps, r.rl = .lead b next ps → b = m.b → r.dm m.s.toNat = false → (ps.getD m.s.toNat noPp).t.has m.f.toNat = true) : Rcv n i r room m r []
  | acount (hk : m.k = 4) (b : Int) (next : Nat) (ps : List Pp) (hrl : r.rl = .lead b next ps) (hb : b = m.b) (hd : r.dm m.s.toNat = false) (hf : (ps.getD m.s.toNat noPp).t.has m.f.toNat = false) (hc : 2 * ((ps.getD m.s.toNat noPp).t.c + 1) ≤ (n : Int)) : Rcv n i r room m (r.role (.lead b next (ps.set m.s.toNat ⟨(ps.getD m.s.toNat noPp).p, (ps.getD m.s.toNat noPp).t.add m.f.toNat⟩))) []
  | adecide (hk : m.k = 4) (b : Int) (next : Nat) (ps : List Pp) (hrl : r.rl = .lead b next ps) (hb : b = m.b) (hd : r.dm m.s.toNat = false) (hf : (ps.getD m.s.toNat noPp).t.has m.f.toNat = false) (L : List Ms) (hL : ∀ y ∈ L, y.k = 5 ∧ y.s = m.s ∧ y.t ≠ (i : Int))
      (hall : room + n ≤ 200 → ∀ j, j < n → j ≠ i → ∃ y ∈ L, y.k = 5 ∧ y.t = (j : Int)) : Rcv n i r room m ((r.role (.lead b next (ps.set m.s.toNat ⟨(ps.getD m.s.toNat noPp).p, (ps.getD m.s.toNat noPp).t.add m.f.toNat⟩))).decide m.s.toNat (ps.getD m.s.toNat noPp).p) L
  | dskip (hk : m.k = 5) (hd : r.dm m.s.toNat = true) : Rcv n i r room m r []
  | decide (hk : m.k = 5) (hd : r.dm m.s.toNat = false) : Rcv n i r room m (r.decide m.s.toNat m.p) []
  | yield (hk : m.k = 6) : Rcv n i r room m (r.yield m.b) []
theorem mem_others {n i j : Nat} (hi : i < n) : j ∈ (List.range n).eraseIdx i ↔ j < n ∧ j ≠ i := by
  rw [List.mem_eraseIdx_iff_getElem]
  constructor
  · rintro ⟨q, hq, h1, h2⟩
    simp at h1 h2
    subst h2
    exact ⟨by simpa using hq, h1⟩
  · rintro ⟨h1, h2⟩
    exact ⟨j, by simpa using h1, h2, by simp⟩
theorem receive_rcv {s : Sy} (h : s.ok) (hroom : s.net.length < 200) {i : Nat} (hi : i < s.n) {m : Ms} (hm : m.ok s.n) :
    ∃ r' L, Rcv s.n i (s.rep i) s.net.length m r' L ∧ (s.receive i m).n = s.n ∧ (∀ j, (s.receive i m).rep j = if j = i then r' else s.rep j) ∧ (s.receive i m).net = s.net ++ L := by
  have hP := rep_put' h.len hi
  have hk6 := hm.k1
  have hk0 := hm.k0
  have hself : ∀ j, s.rep j = if j = i then s.rep i else s.rep j := fun j => by
    by_cases e : j = i
    · rw [if_pos e, e]
    · rw [if_neg e]
  have hskip : s.net = s.net ++ [] := by simp
  have hn := receive_n s i m
  unfold Sy.receive at hn ⊢
  split
  · rename_i hk
    rw [if_pos hk] at hn
    unfold Sy.takePrepare Sy.obey
    split
    · rename_i hb
      exact ⟨_, _, .refuse (.inl hk) hb, sendTo_n _ _ _ _, fun j => by rw [rep_send]; exact hself j, send_one _ _ _ _ hroom⟩
    · rename_i hb
      exact ⟨_, _, .promise hk (by omega), sendTo_n _ _ _ _, fun j => by rw [rep_send, hP], send_one _ _ _ (s.put i (((s.rep i).yield m.b).promise m.b)) hroom⟩
  split
  · rename_i hk1 hk
    unfold Sy.takePromise
    split
    · rename_i b t kept hrl
      split
      · rename_i hc
        split
        · have hl1 : (s.put i ((s.rep i).role (.prep b (t.add m.f.toNat) (keepAll kept m.a)))).reps.length = s.n := by simp only [Sy.put, List.length_set]; exact h.len
          have hP1 := rep_put' (s := s.put i ((s.rep i).role (.prep b (t.add m.f.toNat) (keepAll kept m.a)))) hl1 (i := i) hi
          unfold Sy.lead
          generalize hnx : (s.put i ((s.rep i).role (.prep b (t.add m.f.toNat) (keepAll kept m.a)))).nextOf i (keepAll kept m.a) = nx
          have hnx16 : nx ≤ 16 := by rw [← hnx]; exact nextB_le _ _ 16
          generalize hs1 : (s.put i ((s.rep i).role (.prep b (t.add m.f.toNat) (keepAll kept m.a)))).put i (((s.put i ((s.rep i).role (.prep b (t.add m.f.toNat) (keepAll kept m.a)))).rep i).role (.lead b nx (List.replicate 16 noPp))) = s1
          have h1n : s1.n = s.n := by rw [← hs1]; rfl
          have h1net : s1.net = s.net := by rw [← hs1]; rfl
          have h1len : s1.reps.length = s1.n := by rw [h1n, ← hs1]; simp only [Sy.put, List.length_set]; exact h.len
          have h1rep : ∀ j, s1.rep j = if j = i then (s.rep i).role (.lead b nx (List.replicate 16 noPp)) else s.rep j := fun j => by
            rw [← hs1, hP1]
            split
            · rw [hP, if_pos rfl]; rfl
            · rename_i hj
              rw [hP, if_neg hj]
          have hrl1 : (s1.rep i).rl = .lead b nx (List.replicate 16 noPp) := by rw [h1rep, if_pos rfl]; rfl
          obtain ⟨L, g1, g2, g3, g4⟩ := leadTo_net (s := s1) (by rw [h1len, h1n]; exact hi) hrl1 (keepAll kept m.a) nx
          obtain ⟨_, ⟨ps, hpl, hrep, _, hpt⟩, _⟩ := leadTo_is (s0 := s1) h1len (i := i) (by rw [h1n]; exact hi) hrl1 (keepAll kept m.a) nx hnx16
          rw [h1n, h1net] at g4
          have hdm : (s1.rep i).dm = (s.rep i).dm := by rw [h1rep, if_pos rfl]; rfl
          rw [hdm] at g4
          refine ⟨(s.rep i).role (.lead b nx ps), L, .plead hk b t kept hrl hc.1 nx ps hnx16 hpt L g2 g4, (leadTo_n _ _ _ _).trans h1n, fun j => ?_, by rw [g1, h1net]⟩
          split
          · rename_i e; subst e
            rw [hrep, h1rep, if_pos rfl]; rfl
          · rename_i e
            rw [leadTo_rep_ne _ _ _ e, h1rep, if_neg e]
        · rename_i hc2
          exact ⟨_, _, .pcount hk b t kept hrl hc.1 hc.2 (by omega), rfl, fun j => hP _ j, hskip⟩
      · rename_i hc
        refine ⟨_, _, .pskip hk (fun b' t' kept' h1 h2 => ?_), rfl, hself, hskip⟩
        rw [hrl] at h1
        injection h1 with e1 e2 e3
        subst e1 e2 e3
        cases hh : t.has m.f.toNat
        · exact absurd ⟨h2, hh⟩ hc
        · rfl
    · rename_i hno
      exact ⟨_, _, .pskip hk (fun b' t' kept' h1 h2 => absurd h1 (hno b' t' kept')), rfl, hself, hskip⟩
  split
  · rename_i hk1 hk2 hk
    unfold Sy.takePropose Sy.obey
    split
    · rename_i hb
      exact ⟨_, _, .refuse (.inr hk) hb, sendTo_n _ _ _ _, fun j => by rw [rep_send]; exact hself j, send_one _ _ _ _ hroom⟩
    · rename_i hb
      have hP2 := rep_put' (s := s.put i (((s.rep i).yield m.b).promise m.b)) (by simp only [Sy.put, List.length_set]; exact h.len) (i := i) hi
      refine ⟨_, _, .accept hk (by omega), sendTo_n _ _ _ _, fun j => ?_, send_one _ _ _ ((s.put i (((s.rep i).yield m.b).promise m.b)).put i (((s.put i (((s.rep i).yield m.b).promise m.b)).rep i).accept m.s.toNat ⟨m.s, m.b, m.p⟩)) hroom⟩
      rw [rep_send, hP2]
      split
      · rw [hP, if_pos rfl]
      · rename_i e; rw [hP, if_neg e]
  split
  · rename_i hk1 hk2 hk3 hk
    unfold Sy.takeAccept
    split
    · rename_i b next ps hrl
      split
      · rename_i hc
        dsimp only
        split
        · obtain ⟨L, g1, g2, g3⟩ := sendTo_net (msg 5 0 m.s (ps.getD m.s.toNat noPp).p []) i (s.others i) (s.put i (((s.rep i).role (.lead b next (ps.set m.s.toNat ⟨(ps.getD m.s.toNat noPp).p, (ps.getD m.s.toNat noPp).t.add m.f.toNat⟩))).decide m.s.toNat (ps.getD m.s.toNat noPp).p))
          refine ⟨_, L, .adecide hk b next ps hrl hc.1 hc.2.1 hc.2.2 L (fun y hy => ?_) (fun hr j hj hne => ?_), sendTo_n _ _ _ _, fun j => by rw [rep_send, hP], g1⟩
          · obtain ⟨t, ht, rfl⟩ := g2 y hy
            have := (mem_others hi).1 ht
            refine ⟨rfl, rfl, ?_⟩
            show (t : Int) ≠ (i : Int)
            omega
          · have hlen := others_len hi
            have hnet : (s.put i (((s.rep i).role (.lead b next (ps.set m.s.toNat ⟨(ps.getD m.s.toNat noPp).p, (ps.getD m.s.toNat noPp).t.add m.f.toNat⟩))).decide m.s.toNat (ps.getD m.s.toNat noPp).p)).net.length = s.net.length := rfl
            rw [g3 (by rw [hnet, hlen]; omega)]
            exact ⟨_, List.mem_map.2 ⟨j, (mem_others hi).2 ⟨hj, hne⟩, rfl⟩, rfl, rfl⟩
        · rename_i hc2
          exact ⟨_, _, .acount hk b next ps hrl hc.1 hc.2.1 hc.2.2 (by omega), rfl, fun j => hP _ j, hskip⟩
      · rename_i hc
        refine ⟨_, _, .askip hk (fun b' n' ps' h1 h2 h3 => ?_), rfl, hself, hskip⟩
        rw [hrl] at h1
        injection h1 with e1 e2 e3
        subst e1 e2 e3
        cases hh : (ps.getD m.s.toNat noPp).t.has m.f.toNat
        · exact absurd ⟨h2, h3, hh⟩ hc
        · rfl
    · rename_i hno
      exact ⟨_, _, .askip hk (fun b' n' ps' h1 => absurd h1 (hno b' n' ps')), rfl, hself, hskip⟩
  split
  · rename_i hk1 hk2 hk3 hk4 hk
    unfold Sy.takeDecide
    split
    · rename_i hd
      exact ⟨_, _, .dskip hk hd, rfl, hself, hskip⟩
    · rename_i hd
      exact ⟨_, _, .decide hk (by simpa using hd), rfl, fun j => hP _ j, hskip⟩
  · unfold Sy.takeRefuse
    exact ⟨_, _, .yield (by omega), rfl, fun j => hP _ j, hskip⟩
end

section
theorem mem_step {m : Ms} {l L : List Ms} {P : Ms → Prop} (h : ∃ x ∈ m :: l, P x) (hn : ¬ P m) : ∃ x ∈ l ++ L, P x := by
  obtain ⟨x, hx, hp⟩ := h
  rcases List.mem_cons.1 hx with rfl | hx
  · exact absurd hp hn
  · exact ⟨x, List.mem_append_left _ hx, hp⟩
theorem yield_pr (r : Rp) (b : Int) : (r.yield b).pr = r.pr := rfl
theorem yield_sn (r : Rp) (b : Int) : (r.yield b).sn = max r.sn b := rfl
theorem yield_dm (r : Rp) (b : Int) (k : Nat) : (r.yield b).dm k = r.dm k := rfl
theorem yield_lead {r : Rp} {b : Int} (h : r.rl.bal = b) : (r.yield b).rl = r.rl := by
  unfold Rp.yield
  simp only
  rw [if_neg (by omega)]

/-! The first campaign: what was promised elsewhere is told. -/
structure I1 (b : Int) (r : Nat) (s : Sy) : Prop where
  rn : r < s.n
  own : b ≤ (s.rep r).pr
  msg : ∀ m ∈ s.net, (m.k ≤ 4 → m.b = b) ∧ (m.k = 1 → m.f = r)
  prs : ∀ j, j < s.n → (s.rep j).pr ≤ max b (s.rep r).sn ∨ (∃ m ∈ s.net, m.k = 1 ∧ m.t = (j : Int)) ∨ (∃ m ∈ s.net, m.k = 6 ∧ m.t = (r : Int) ∧ (s.rep j).pr ≤ m.b)
theorem i1_step {b : Int} {r : Nat} (s : Sy) (m : Ms) (l : List Ms) (hok : s.ok) (hI : I1 b r s) (hn : s.net = m :: l) : I1 b r ((⟨s.n, s.reps, l⟩ : Sy).receive m.t.toNat m) := by
  obtain ⟨hm, hok0⟩ := first_ok hok hn
  have hti := hm.to_lt
  have ht0 := hm.t0
  have hf0 := hm.f0
  have hlen : l.length < 200 := by have := hok.full; rw [hn] at this; simp at this; omega
  obtain ⟨r', L, hR, h1, h2, h3⟩ := receive_rcv hok0 (i := m.t.toNat) hlen hti.1 hm
  have hrep0 : ∀ j, (⟨s.n, s.reps, l⟩ : Sy).rep j = s.rep j := fun _ => rfl
  have hmsg : ∀ x ∈ l, (x.k ≤ 4 → x.b = b) ∧ (x.k = 1 → x.f = r) := fun x hx => hI.msg x (by rw [hn]; exact List.mem_cons_of_mem _ hx)
  have hmm := hI.msg m (by rw [hn]; exact List.mem_cons_self)
  simp only [hrep0] at h2 hR
  have hprs := hI.prs
  rw [hn] at hprs
  -- what happens to the replica that it comes to
  have hsn : (s.rep m.t.toNat).sn ≤ r'.sn := by
    cases hR <;> first | exact Int.le_refl _ | (show _ ≤ max _ _; omega)
  have hpr : (s.rep m.t.toNat).pr ≤ r'.pr ∧ (r'.pr = (s.rep m.t.toNat).pr ∨ r'.pr = b) := by
    cases hR with
    | promise hk hb =>
      refine ⟨hb, .inr ?_⟩
      exact hmm.1 (by omega)
    | accept hk hb =>
      refine ⟨hb, .inr ?_⟩
      exact hmm.1 (by omega)
    | _ => exact ⟨Int.le_refl _, .inl rfl⟩
  have hsnr : (s.rep r).sn ≤ (((⟨s.n, s.reps, l⟩ : Sy).receive m.t.toNat m).rep r).sn := by
    rw [h2]
    split
    · rename_i e; rw [e]; exact hsn
    · exact Int.le_refl _
  refine ⟨by rw [h1]; exact hI.rn, ?_, fun x hx => ?_, fun j hj => ?_⟩
  · have := hI.own
    rw [h2]
    split
    · rename_i e; rw [e] at this; omega
    · exact this
  · rw [h3] at hx
    rcases List.mem_append.1 hx with hx | hx
    · exact hmsg x hx
    · cases hR with
      | refuse hk hb => rw [List.mem_singleton.1 hx]; exact ⟨fun h => absurd h (by show ¬ (6 : Int) ≤ 4; decide), fun h => absurd h (by show ¬ (6 : Int) = 1; decide)⟩
      | promise hk hb => rw [List.mem_singleton.1 hx]; exact ⟨fun _ => hmm.1 (by omega), fun h => absurd h (by show ¬ (2 : Int) = 1; decide)⟩
      | accept hk hb => rw [List.mem_singleton.1 hx]; exact ⟨fun _ => hmm.1 (by omega), fun h => absurd h (by show ¬ (4 : Int) = 1; decide)⟩
      | plead hk b' t kept hrl hb next ps hn' hps L' hL hall =>
        obtain ⟨e1, e2, e3⟩ := hL x hx
        refine ⟨fun _ => by rw [e2, hb]; exact hmm.1 (by omega), fun h => by omega⟩
      | adecide hk b' next ps hrl hb hd hf L' hL hall =>
        obtain ⟨e1, e2, e3⟩ := hL x hx
        exact ⟨fun h => by omega, fun h => by omega⟩
      | _ => cases hx
  · rw [h1] at hj
    have hj0 := hprs j hj
    rw [h3]
    by_cases hji : j = m.t.toNat
    · -- the replica that it came to
      rw [h2 j, if_pos hji]
      rw [hji] at hj0
      rcases hpr.2 with hp | hp
      · -- its promise is as it was
        rcases hj0 with h9 | h9 | h9
        · left; rw [hp]; omega
        · by_cases hk1 : m.k = 1 ∧ m.t = ((m.t.toNat : Nat) : Int)
          · -- a Prepare came, and was refused (or obeyed)
            cases hR with
            | refuse hk hb =>
              right; right
              refine ⟨_, List.mem_append_right _ (List.mem_singleton.2 rfl), rfl, ?_, Int.le_refl _⟩
              show ((m.f.toNat : Nat) : Int) = (r : Int)
              have := hmm.2 hk1.1
              omega
            | promise hk hb =>
              left
              have : m.b = b := hmm.1 (by omega)
              show m.b ≤ _
              omega
            | accept hk hb => omega
            | pskip hk _ => omega
            | pcount hk => omega
            | plead hk => omega
            | askip hk _ => omega
            | acount hk => omega
            | adecide hk => omega
            | dskip hk _ => omega
            | decide hk _ => omega
            | yield hk => omega
          · right; left
            rw [hji]
            exact mem_step h9 hk1
        · by_cases hk6 : m.k = 6 ∧ m.t = (r : Int) ∧ (s.rep m.t.toNat).pr ≤ m.b
          · left
            have e : r = m.t.toNat := by omega
            rw [h2 r, if_pos e]
            cases hR with
            | yield hk =>
              show (s.rep m.t.toNat).pr ≤ max b (max (s.rep m.t.toNat).sn m.b)
              omega
            | refuse hk hb => omega
            | promise hk hb => omega
            | accept hk hb => omega
            | pskip hk _ => omega
            | pcount hk => omega
            | plead hk => omega
            | askip hk _ => omega
            | acount hk => omega
            | adecide hk => omega
            | dskip hk _ => omega
            | decide hk _ => omega
          · right; right
            rw [hp]
            exact mem_step h9 hk6
      · left; rw [hp]; omega
    · rw [h2 j, if_neg hji]
      rcases hj0 with h9 | h9 | h9
      · left; omega
      · right; left
        exact mem_step h9 (fun hc => hji (by omega))
      · by_cases hk6 : m.k = 6 ∧ m.t = (r : Int) ∧ (s.rep j).pr ≤ m.b
        · left
          have e : r = m.t.toNat := by omega
          rw [h2 r, if_pos e]
          cases hR with
          | yield hk =>
            show (s.rep j).pr ≤ max b (max (s.rep m.t.toNat).sn m.b)
            omega
          | refuse hk hb => omega
          | promise hk hb => omega
          | accept hk hb => omega
          | pskip hk _ => omega
          | pcount hk => omega
          | plead hk => omega
          | askip hk _ => omega
          | acount hk => omega
          | adecide hk => omega
          | dskip hk _ => omega
          | decide hk _ => omega
        · right; right
          exact mem_step h9 hk6

/-- A campaign at an empty net. -/
theorem campaign_is {s : Sy} (hok : s.ok) (hnet : s.net = []) {r : Nat} (hr : r < s.n) (hE : s.campE r = 0) {b : Int} (hb : b = 8 * (s.rep r).round + r) :
    (∀ j, (s.campaign r).rep j = if j = r then ((s.rep r).promise b).role (.prep b noTl (List.replicate 16 noVt)) else s.rep j) ∧ (s.campaign r).net = (List.range s.n).map (fun t => (msg 1 b 0 noPst []).to (r : Int) ((t : Nat) : Int)) := by
  unfold Sy.campaign
  rw [if_pos hE, ← hb]
  constructor
  · intro j
    rw [rep_send, rep_put' hok.len hr]
  · obtain ⟨L, h1, _, h3⟩ := sendTo_net (msg 1 b 0 noPst []) r s.all (s.put r (((s.rep r).promise b).role (.prep b noTl (List.replicate 16 noVt))))
    have e : (s.put r (((s.rep r).promise b).role (.prep b noTl (List.replicate 16 noVt)))).net = [] := hnet
    have h7 := hok.n1
    rw [h1, e, h3 (by rw [e]; unfold Sy.all; simp; omega)]
    rfl
theorem campaign_ok {s : Sy} (hok : s.ok) {r : Nat} (hr : r < s.n) : (s.campaign r).ok := by
  unfold Sy.campaign
  split
  · rename_i hE
    have h1 := campE_le hE
    have hrk := hok.repOk hr
    have h0 := hrk.pr0
    have h2 := hrk.sn0
    have h7 := hok.n1
    have hb0 : 0 ≤ 8 * (s.rep r).round + (r : Int) := by unfold Rp.round; omega
    have hb1 : 8 * (s.rep r).round + (r : Int) ≤ 8007 := by omega
    exact send_ok (Sy.put_ok hok (role_ok (l := .prep (8 * (s.rep r).round + (r : Int)) noTl (List.replicate 16 noVt)) (promise_ok hrk hb0 hb1) ⟨noTl_ok, by simp⟩)) (by decide) (by decide) hb0 hb1 (by decide) (by decide) (by simp) (by simp) hr (all_lt s)
  · exact hok
theorem campE_cases {s : Sy} (hok : s.ok) (hnet : s.net = []) (r : Nat) : s.campE r = 7 ∨ s.campE r = 0 := by
  have h7 := hok.n1
  unfold Sy.campE
  split
  · exact .inl rfl
  · rw [if_pos (by rw [hnet]; simp; omega)]; exact .inr rfl
theorem camp_first {s : Sy} (hok : s.ok) (hnet : s.net = []) {r : Nat} (hr : r < s.n) (hE : s.campE r = 0) : ∀ j, j < s.n → ((Sy.settle 20000 (s.campaign r)).rep j).pr ≤ max ((Sy.settle 20000 (s.campaign r)).rep r).pr ((Sy.settle 20000 (s.campaign r)).rep r).sn := by
  obtain ⟨b, hb⟩ : ∃ b : Int, b = 8 * (s.rep r).round + r := ⟨_, rfl⟩
  obtain ⟨hrep, hnt⟩ := campaign_is hok hnet hr hE hb
  have hok1 := campaign_ok hok hr
  have hn := campaign_n s r
  have hI0 : I1 b r (s.campaign r) := by
    refine ⟨by rw [hn]; exact hr, ?_, fun m hm => ?_, fun j hj => .inr (.inl ?_)⟩
    · rw [hrep, if_pos rfl]; exact Int.le_refl _
    · rw [hnt] at hm
      obtain ⟨t, _, rfl⟩ := List.mem_map.1 hm
      exact ⟨fun _ => rfl, fun _ => rfl⟩
    · rw [hnt]
      rw [hn] at hj
      exact ⟨_, List.mem_map.2 ⟨j, List.mem_range.2 hj, rfl⟩, rfl, rfl⟩
  obtain ⟨hI, _⟩ := settle_ind (I := I1 b r) (fun s m l => i1_step s m l) 20000 (s.campaign r) hok1 hI0
  have hz := settle_empty hok1
  have hsn := settle_n 20000 (s.campaign r)
  intro j hj
  have hown := hI.own
  rcases hI.prs j (by rw [hsn, hn]; exact hj) with h | ⟨m, hm, _⟩ | ⟨m, hm, _⟩
  · omega
  · rw [hz] at hm; cases hm
  · rw [hz] at hm; cases hm
end

section
/-- Nobody is missing among the votes that were asked for: counted, or on its way. -/
def Asked (n : Nat) (net : List Ms) (t : Tl) (there back : Ms → Nat → Prop) : Prop :=
  2 * t.c ≤ (n : Int) ∧ ∀ j, j < n → t.has j = true ∨ (∃ m ∈ net, there m j) ∨ (∃ m ∈ net, back m j)
def isPrep (m : Ms) (j : Nat) : Prop := m.k = 1 ∧ m.t = (j : Int)
def isProm (m : Ms) (j : Nat) : Prop := m.k = 2 ∧ m.f = (j : Int)
def isProp (k : Nat) (m : Ms) (j : Nat) : Prop := m.k = 3 ∧ m.t = (j : Int) ∧ m.s = (k : Int)
def isAcc (k : Nat) (m : Ms) (j : Nat) : Prop := m.k = 4 ∧ m.f = (j : Int) ∧ m.s = (k : Int)
/-- A message that this question does not speak of came. -/
theorem Asked.other {n : Nat} {m : Ms} {l L : List Ms} {t : Tl} {A B : Ms → Nat → Prop} (h : Asked n (m :: l) t A B) (hA : ∀ j, ¬ A m j) (hB : ∀ j, ¬ B m j) : Asked n (l ++ L) t A B := by
  refine ⟨h.1, fun j hj => ?_⟩
  rcases h.2 j hj with h1 | h1 | h1
  · exact .inl h1
  · exact .inr (.inl (mem_step h1 (hA j)))
  · exact .inr (.inr (mem_step h1 (hB j)))
/-- What was asked is answered. -/
theorem Asked.answer {n : Nat} {m : Ms} {l L : List Ms} {t : Tl} {A B : Ms → Nat → Prop} (h : Asked n (m :: l) t A B) (hA : ∀ j, A m j → ∃ x ∈ L, B x j) (hB : ∀ j, ¬ B m j) : Asked n (l ++ L) t A B := by
  refine ⟨h.1, fun j hj => ?_⟩
  rcases h.2 j hj with h1 | ⟨x, hx, h1⟩ | h1
  · exact .inl h1
  · rcases List.mem_cons.1 hx with rfl | hx
    · obtain ⟨y, hy, hb⟩ := hA j h1
      exact .inr (.inr ⟨y, List.mem_append_right _ hy, hb⟩)
    · exact .inr (.inl ⟨x, List.mem_append_left _ hx, h1⟩)
  · exact .inr (.inr (mem_step h1 (hB j)))
/-- An answer came that is counted already. -/
theorem Asked.known {n : Nat} {m : Ms} {l L : List Ms} {t : Tl} {A B : Ms → Nat → Prop} (h : Asked n (m :: l) t A B) (hA : ∀ j, ¬ A m j) (hB : ∀ j, B m j → t.has j = true) : Asked n (l ++ L) t A B := by
  refine ⟨h.1, fun j hj => ?_⟩
  rcases h.2 j hj with h1 | h1 | ⟨x, hx, h1⟩
  · exact .inl h1
  · exact .inr (.inl (mem_step h1 (hA j)))
  · rcases List.mem_cons.1 hx with rfl | hx
    · exact .inl (hB j h1)
    · exact .inr (.inr ⟨x, List.mem_append_left _ hx, h1⟩)
/-- An answer is counted. -/
theorem Asked.count {n : Nat} {m : Ms} {l L : List Ms} {t : Tl} {A B : Ms → Nat → Prop} (h : Asked n (m :: l) t A B) (ht : t.ok) {f : Nat} (hf : f < 7) (hc : 2 * (t.c + 1) ≤ (n : Int)) (hA : ∀ j, ¬ A m j) (hB : ∀ j, B m j → j = f) : Asked n (l ++ L) (t.add f) A B := by
  refine ⟨hc, fun j hj => ?_⟩
  rcases h.2 j hj with h1 | h1 | ⟨x, hx, h1⟩
  · exact .inl ((has_add ht hf j).2 (.inr h1))
  · exact .inr (.inl (mem_step h1 (hA j)))
  · rcases List.mem_cons.1 hx with rfl | hx
    · exact .inl ((has_add ht hf j).2 (.inl (hB j h1)))
    · exact .inr (.inr ⟨x, List.mem_append_left _ hx, h1⟩)
theorem cnt_all (f : Nat → Bool) : ∀ n, (∀ i, i < n → f i = true) → cnt f n = n
  | 0, _ => rfl
  | n + 1, h => by
    unfold cnt
    rw [cnt_all f n (fun i hi => h i (by omega)), h n (by omega)]
    rfl
/-- When nothing is on its way, all would be counted: more than there may be. -/
theorem Asked.none {n : Nat} (h0 : 1 ≤ n) (h7 : n ≤ 7) {t : Tl} {A B : Ms → Nat → Prop} (h : Asked n [] t A B) (ht : t.ok) (hr : ∀ r, t.has r = true → r < n) : False := by
  have hall : ∀ j, j < n → t.has j = true := fun j hj => by
    rcases h.2 j hj with h1 | ⟨_, hx, _⟩ | ⟨_, hx, _⟩
    · exact h1
    · cases hx
    · cases hx
  have h1 := Tl.cnt ht h7 hr
  rw [cnt_all _ _ hall] at h1
  have := h.1
  omega

structure I2 (b : Int) (r : Nat) (s : Sy) : Prop where
  rn : r < s.n
  prs : ∀ j, j < s.n → (s.rep j).pr ≤ b
  msg : ∀ m ∈ s.net, m.k ≤ 5 ∧ (m.k ≤ 4 → m.b = b) ∧ ((m.k = 1 ∨ m.k = 3) → m.f = r) ∧ ((m.k = 2 ∨ m.k = 4) → m.t = r)
  role : (∃ t kept, (s.rep r).rl = .prep b t kept ∧ s.net.length ≤ s.n ∧ Asked s.n s.net t isPrep isProm) ∨
    (∃ next ps, (s.rep r).rl = .lead b next ps ∧ ∀ k, k < next → (s.rep r).dm k = true ∨ Asked s.n s.net (ps.getD k noPp).t (isProp k) (isAcc k))
theorem role_same {b : Int} {r : Rp} {m : Ms} {r' : Rp} (h : r'.rl = r.rl) : r'.rl = r.rl := h
theorem i2_step {b : Int} {r : Nat} (s : Sy) (m : Ms) (l : List Ms) (hok : s.ok) (hI : I2 b r s) (hn : s.net = m :: l) : I2 b r ((⟨s.n, s.reps, l⟩ : Sy).receive m.t.toNat m) := by
  obtain ⟨hm, hok0⟩ := first_ok hok hn
  have hti := hm.to_lt
  have ht0 := hm.t0
  have hf0 := hm.f0
  have hs0 := hm.s0
  have hs1 := hm.s1
  have h7 := hok.n1
  have hf7 : m.f.toNat < 7 := by omega
  have hlen : l.length < 200 := by have := hok.full; rw [hn] at this; simp at this; omega
  obtain ⟨r', L, hR, h1, h2, h3⟩ := receive_rcv hok0 (i := m.t.toNat) hlen hti.1 hm
  have hrep0 : ∀ j, (⟨s.n, s.reps, l⟩ : Sy).rep j = s.rep j := fun _ => rfl
  have hmsg : ∀ x ∈ l, x.k ≤ 5 ∧ (x.k ≤ 4 → x.b = b) ∧ ((x.k = 1 ∨ x.k = 3) → x.f = r) ∧ ((x.k = 2 ∨ x.k = 4) → x.t = r) := fun x hx => hI.msg x (by rw [hn]; exact List.mem_cons_of_mem _ hx)
  obtain ⟨mm1, mm2, mm3, mm4⟩ := hI.msg m (by rw [hn]; exact List.mem_cons_self)
  simp only [hrep0] at h2 hR
  have hprs := hI.prs
  have hrole := hI.role
  rw [hn] at hrole
  have hrok := hok.repOk hI.rn
  generalize hs' : (⟨s.n, s.reps, l⟩ : Sy).receive m.t.toNat m = s' at *
  have hpi := hprs m.t.toNat hti.1
  have hprs' : ∀ j, j < s'.n → (s'.rep j).pr ≤ b := fun j hj => by
    rw [h1] at hj
    rw [h2]
    split
    · cases hR with
      | promise hk hb => have := mm2 (by omega); show m.b ≤ b; omega
      | accept hk hb => have := mm2 (by omega); show m.b ≤ b; omega
      | _ => exact hpi
    · exact hprs j hj
  -- the replica that leads, when the message came to another one or left its role
  have hkeep : ∀ (hrl : (s'.rep r).rl = (s.rep r).rl) (hdm : ∀ k, (s.rep r).dm k = true → (s'.rep r).dm k = true) (hL : L.length ≤ 1)
      (hA : ∀ t, Asked s.n (m :: l) t isPrep isProm → (s.rep r).rl.bal = b → (∀ b' kept, (s.rep r).rl = .prep b' t kept → Asked s.n (l ++ L) t isPrep isProm))
      (hB : ∀ next ps, (s.rep r).rl = .lead b next ps → ∀ k, k < next → Asked s.n (m :: l) (ps.getD k noPp).t (isProp k) (isAcc k) → (s'.rep r).dm k = true ∨ Asked s.n (l ++ L) (ps.getD k noPp).t (isProp k) (isAcc k)),
      (∃ t kept, (s'.rep r).rl = .prep b t kept ∧ s'.net.length ≤ s'.n ∧ Asked s'.n s'.net t isPrep isProm) ∨
      (∃ next ps, (s'.rep r).rl = .lead b next ps ∧ ∀ k, k < next → (s'.rep r).dm k = true ∨ Asked s'.n s'.net (ps.getD k noPp).t (isProp k) (isAcc k)) := by
    intro hrl hdm hL hA hB
    rw [hrl, h1, h3]
    rcases hrole with ⟨t, kept, g1, g2, g3⟩ | ⟨next, ps, g1, g2⟩
    · refine .inl ⟨t, kept, g1, ?_, hA t g3 (by rw [g1]; rfl) b kept g1⟩
      rw [List.length_append]
      show l.length + L.length ≤ s.n
      simp only [List.length_cons] at g2; omega
    · refine .inr ⟨next, ps, g1, fun k hk => ?_⟩
      rcases g2 k hk with g3 | g3
      · exact .inl (hdm k g3)
      · exact hB next ps g1 k hk g3
  have hbal : (s.rep r).rl.bal = b := by
    rcases hrole with ⟨t, kept, g1, _⟩ | ⟨next, ps, g1, _⟩ <;> (rw [g1]; rfl)
  have nP : ∀ j, m.k ≠ 1 → ¬ isPrep m j := fun j h h9 => h h9.1
  have nM : ∀ j, m.k ≠ 2 → ¬ isProm m j := fun j h h9 => h h9.1
  have nR : ∀ k j, m.k ≠ 3 → ¬ isProp k m j := fun k j h h9 => h h9.1
  have nA : ∀ k j, m.k ≠ 4 → ¬ isAcc k m j := fun k j h h9 => h h9.1
  refine ⟨by rw [h1]; exact hI.rn, hprs', fun x hx => ?_, ?_⟩
  · rw [h3] at hx
    rcases List.mem_append.1 hx with hx | hx
    · exact hmsg x hx
    · cases hR with
      | refuse hk hb =>
        have := mm2 (by omega)
        omega
      | promise hk hb =>
        rw [List.mem_singleton.1 hx]
        refine ⟨by show (2 : Int) ≤ 5; decide, fun _ => mm2 (by omega), fun h => ?_, fun _ => ?_⟩
        · rcases h with h | h
          · exact absurd h (by show ¬ (2 : Int) = 1; decide)
          · exact absurd h (by show ¬ (2 : Int) = 3; decide)
        · show ((m.f.toNat : Nat) : Int) = (r : Int)
          have := mm3 (.inl hk); omega
      | accept hk hb =>
        rw [List.mem_singleton.1 hx]
        refine ⟨by show (4 : Int) ≤ 5; decide, fun _ => mm2 (by omega), fun h => ?_, fun _ => ?_⟩
        · rcases h with h | h
          · exact absurd h (by show ¬ (4 : Int) = 1; decide)
          · exact absurd h (by show ¬ (4 : Int) = 3; decide)
        · show ((m.f.toNat : Nat) : Int) = (r : Int)
          have := mm3 (.inr hk); omega
      | plead hk b' t kept hrl hb next ps hn' hps L' hL hall =>
        obtain ⟨e1, e2, e3⟩ := hL x hx
        have := mm4 (.inl hk)
        refine ⟨by omega, fun _ => by rw [e2, hb]; exact mm2 (by omega), fun _ => by rw [e3]; omega, fun h => by omega⟩
      | adecide hk b' next ps hrl hb hd hf L' hL hall =>
        obtain ⟨e1, e2, e3⟩ := hL x hx
        exact ⟨by omega, fun h => by omega, fun h => by omega, fun h => by omega⟩
      | _ => cases hx
  · cases hR with
    | refuse hk hb =>
      have := mm2 (by omega)
      omega
    | promise hk hb =>
      have hb' : m.b = b := mm2 (by omega)
      have hmf := mm3 (.inl hk)
      have hrr : (s'.rep r).rl = (s.rep r).rl ∧ ∀ k, (s'.rep r).dm k = (s.rep r).dm k := by
        rw [h2]
        split
        · rename_i e
          rw [← e]
          exact ⟨yield_lead (by rw [hb']; exact hbal), fun _ => rfl⟩
        · exact ⟨rfl, fun _ => rfl⟩
      refine hkeep hrr.1 (fun k h => by rw [hrr.2]; exact h) (by simp) (fun t hA _ _ _ _ => ?_) (fun next ps _ k _ hB => .inr ?_)
      · refine hA.answer (fun j hj => ⟨_, List.mem_singleton.2 rfl, rfl, ?_⟩) (fun j => nM j (by omega))
        show ((m.t.toNat : Nat) : Int) = (j : Int)
        have := hj.2; omega
      · exact hB.other (fun j => nR k j (by omega)) (fun j => nA k j (by omega))
    | accept hk hb =>
      have hb' : m.b = b := mm2 (by omega)
      have hrr : (s'.rep r).rl = (s.rep r).rl ∧ ∀ k, (s'.rep r).dm k = (s.rep r).dm k := by
        rw [h2]
        split
        · rename_i e
          rw [← e]
          exact ⟨yield_lead (by rw [hb']; exact hbal), fun _ => rfl⟩
        · exact ⟨rfl, fun _ => rfl⟩
      refine hkeep hrr.1 (fun k h => by rw [hrr.2]; exact h) (by simp) (fun t hA _ _ _ _ => ?_) (fun next ps _ k _ hB => .inr ?_)
      · exact hA.other (fun j => nP j (by omega)) (fun j => nM j (by omega))
      · refine hB.answer (fun j hj => ⟨_, List.mem_singleton.2 rfl, rfl, ?_, hj.2.2⟩) (fun j => nA k j (by omega))
        show ((m.t.toNat : Nat) : Int) = (j : Int)
        have := hj.2.1; omega
    | pskip hk h =>
      have hmt := mm4 (.inl hk)
      have er : r = m.t.toNat := by omega
      have hb' : m.b = b := mm2 (by omega)
      have hrr : s'.rep r = s.rep r := by rw [h2, if_pos er, ← er]
      refine hkeep (by rw [hrr]) (fun k h => by rw [hrr]; exact h) (by simp) (fun t hA _ b' kept hrl => ?_) (fun next ps _ k _ hB => .inr ?_)
      · refine hA.known (fun j => nP j (by omega)) (fun j hj => ?_)
        have e2 : b' = m.b := by
          rw [hrl] at hbal
          exact (show b' = b from hbal).trans hb'.symm
        have := h b' t kept (by rw [← er]; exact hrl) e2
        have e3 : m.f.toNat = j := by have := hj.2; omega
        rw [e3] at this; exact this
      · exact hB.other (fun j => nR k j (by omega)) (fun j => nA k j (by omega))
    | pcount hk b' t kept hrl hb hf hc =>
      have hmt := mm4 (.inl hk)
      have er : r = m.t.toNat := by omega
      have hb' : m.b = b := mm2 (by omega)
      rw [← er] at hrl
      rcases hrole with ⟨t1, kept1, g1, g2, g3⟩ | ⟨next, ps, g1, g2⟩
      · rw [hrl] at g1
        injection g1 with e1 e2 e3
        subst e1 e2 e3
        have hto := hrok.rl
        rw [hrl] at hto
        left
        refine ⟨t.add m.f.toNat, keepAll kept m.a, by rw [h2, if_pos er]; rfl, ?_, ?_⟩
        · rw [h3, h1, List.length_append]
          show l.length + 0 ≤ s.n
          simp only [List.length_cons] at g2; omega
        · rw [h3, h1]
          exact g3.count hto.1 hf7 hc (fun j => nP j (by omega)) (fun j hj => by have := hj.2; omega)
      · rw [hrl] at g1; cases g1
    | plead hk b' t kept hrl hb next ps hn' hps L' hL hall =>
      have hmt := mm4 (.inl hk)
      have er : r = m.t.toNat := by omega
      have hb' : m.b = b := mm2 (by omega)
      rw [← er] at hrl
      rcases hrole with ⟨t1, kept1, g1, g2, g3⟩ | ⟨next', ps', g1, g2⟩
      · right
        refine ⟨next, ps, by rw [h2, if_pos er]; show Rl.lead b' next ps = _; rw [hb, hb'], fun k hk' => ?_⟩
        by_cases hd : (s.rep r).dm k = true
        · left
          rw [h2, if_pos er]
          show (s.rep m.t.toNat).dm k = true
          rw [← er]; exact hd
        · right
          rw [h3, h1, hps k]
          have hroom : l.length + next * s.n ≤ 200 := by
            have : next * s.n ≤ 16 * 7 := Nat.mul_le_mul hn' h7
            simp only [List.length_cons] at g2
            omega
          refine ⟨by show 2 * (0 : Int) ≤ (s.n : Int); omega, fun j hj => .inr (.inl ?_)⟩
          obtain ⟨y, hy, hz⟩ := hall hroom k hk' (by rw [← er]; simpa using hd) j hj
          exact ⟨y, List.mem_append_right _ hy, hz⟩
      · rw [hrl] at g1; cases g1
    | askip hk h =>
      have hmt := mm4 (.inr hk)
      have er : r = m.t.toNat := by omega
      have hb' : m.b = b := mm2 (by omega)
      have hrr : s'.rep r = s.rep r := by rw [h2, if_pos er, ← er]
      refine hkeep (by rw [hrr]) (fun k h => by rw [hrr]; exact h) (by simp) (fun t hA _ b' kept hrl => ?_) (fun next ps hrl k _ hB => ?_)
      · exact hA.other (fun j => nP j (by omega)) (fun j => nM j (by omega))
      · by_cases hd : (s.rep r).dm k = true
        · left; rw [hrr]; exact hd
        · right
          refine hB.known (fun j => nR k j (by omega)) (fun j hj => ?_)
          have e3 : m.f.toNat = j := by have := hj.2.1; omega
          have e4 : m.s.toNat = k := by have := hj.2.2; omega
          have := h b next ps (by rw [← er]; exact hrl) hb'.symm (by rw [← er, e4]; simpa using hd)
          rw [e3, e4] at this; exact this
    | acount hk b' next ps hrl hb hd hf hc =>
      have hmt := mm4 (.inr hk)
      have er : r = m.t.toNat := by omega
      have hb' : m.b = b := mm2 (by omega)
      rw [← er] at hrl
      rcases hrole with ⟨t1, kept1, g1, g2, g3⟩ | ⟨next1, ps1, g1, g2⟩
      · rw [hrl] at g1; cases g1
      · rw [hrl] at g1
        injection g1 with e1 e2 e3
        subst e1 e2 e3
        have hto := hrok.rl
        rw [hrl] at hto
        right
        refine ⟨next, _, by rw [h2, if_pos er]; rfl, fun k hk' => ?_⟩
        have hdm : (s'.rep r).dm k = (s.rep r).dm k := by rw [h2, if_pos er]; show (s.rep m.t.toNat).dm k = _; rw [← er]
        rw [hdm, h3, h1]
        rcases g2 k hk' with g3 | g3
        · exact .inl g3
        · right
          rw [getD_set]
          by_cases hks : k = m.s.toNat
          · rw [if_pos ⟨hks, by rw [hto.2.1]; omega⟩]
            rw [hks] at g3 ⊢
            exact g3.count (getD_ok hto.2.2 (by rw [hto.2.1]; omega)) hf7 hc (fun j => nR _ j (by omega)) (fun j hj => by have := hj.2.1; omega)
          · rw [if_neg (fun h => hks h.1)]
            exact g3.other (fun j => nR k j (by omega)) (fun j hj => hks (by have := hj.2.2; omega))
    | adecide hk b' next ps hrl hb hd hf L' hL hall =>
      have hmt := mm4 (.inr hk)
      have er : r = m.t.toNat := by omega
      have hb' : m.b = b := mm2 (by omega)
      rw [← er] at hrl
      rcases hrole with ⟨t1, kept1, g1, g2, g3⟩ | ⟨next1, ps1, g1, g2⟩
      · rw [hrl] at g1; cases g1
      · rw [hrl] at g1
        injection g1 with e1 e2 e3
        subst e1 e2 e3
        have hto := hrok.rl
        rw [hrl] at hto
        right
        refine ⟨next, _, by rw [h2, if_pos er]; rfl, fun k hk' => ?_⟩
        have hdec := hrok.dec
        have hdm : (s'.rep r).dm k = if k = m.s.toNat then true else (s.rep r).dm k := by
          rw [h2, if_pos er, ← er]
          show (((s.rep r).dec.set m.s.toNat ⟨true, _⟩).getD k noDn).m = _
          rw [getD_set]
          by_cases hks : k = m.s.toNat
          · rw [if_pos ⟨hks, by omega⟩, if_pos hks]
          · rw [if_neg (fun h => hks h.1), if_neg hks]; rfl
        rw [hdm, h3, h1]
        by_cases hks : k = m.s.toNat
        · left; rw [if_pos hks]
        · rw [if_neg hks]
          rcases g2 k hk' with g3 | g3
          · exact .inl g3
          · right
            rw [getD_set, if_neg (fun h => hks h.1)]
            exact g3.other (fun j => nR k j (by omega)) (fun j hj => hks (by have := hj.2.2; omega))
    | dskip hk hd =>
      have hrr : s'.rep r = s.rep r := by
        rw [h2]
        split
        · rename_i e; rw [e]
        · rfl
      refine hkeep (by rw [hrr]) (fun k h => by rw [hrr]; exact h) (by simp) (fun t hA _ b' kept hrl => ?_) (fun next ps hrl k _ hB => .inr ?_)
      · exact hA.other (fun j => nP j (by omega)) (fun j => nM j (by omega))
      · exact hB.other (fun j => nR k j (by omega)) (fun j => nA k j (by omega))
    | decide hk hd =>
      have hrr : (s'.rep r).rl = (s.rep r).rl ∧ ∀ k, (s.rep r).dm k = true → (s'.rep r).dm k = true := by
        rw [h2]
        split
        · rename_i e
          rw [e]
          refine ⟨rfl, fun k hk => ?_⟩
          show (((s.rep m.t.toNat).dec.set m.s.toNat ⟨true, m.p⟩).getD k noDn).m = true
          rw [getD_set]
          split
          · rfl
          · exact hk
        · exact ⟨rfl, fun _ h => h⟩
      refine hkeep hrr.1 hrr.2 (by simp) (fun t hA _ b' kept hrl => ?_) (fun next ps hrl k _ hB => .inr ?_)
      · exact hA.other (fun j => nP j (by omega)) (fun j => nM j (by omega))
      · exact hB.other (fun j => nR k j (by omega)) (fun j => nA k j (by omega))
    | yield hk => omega

/-- Replica r leads with ballot b; nothing is on its way; all that it proposed is decided. -/
structure Led (b : Int) (r next : Nat) (s : Sy) : Prop where
  rn : r < s.n
  net : s.net = []
  role : ∃ ps, (s.rep r).rl = .lead b next ps
  all : ∀ k, k < next → (s.rep r).dm k = true
  prs : ∀ j, j < s.n → (s.rep j).pr ≤ b
theorem camp_second {s : Sy} (hok : s.ok) (hnet : s.net = []) {r : Nat} (hr : r < s.n) (hE : s.campE r = 0) (hall : ∀ j, j < s.n → (s.rep j).pr ≤ max (s.rep r).pr (s.rep r).sn) (hso : Sound (Sy.settle 20000 (s.campaign r))) : ∃ b next, Led b r next (Sy.settle 20000 (s.campaign r)) := by
  obtain ⟨b, hb⟩ : ∃ b : Int, b = 8 * (s.rep r).round + r := ⟨_, rfl⟩
  obtain ⟨hrep, hnt⟩ := campaign_is hok hnet hr hE hb
  have hok1 := campaign_ok hok hr
  have hn := campaign_n s r
  have hrk := hok.repOk hr
  have hI0 : I2 b r (s.campaign r) := by
    refine ⟨by rw [hn]; exact hr, fun j hj => ?_, fun m hm => ?_, .inl ⟨noTl, List.replicate 16 noVt, by rw [hrep, if_pos rfl]; rfl, by rw [hnt, hn]; simp, ?_⟩⟩
    · rw [hn] at hj
      rw [hrep]
      split
      · exact Int.le_refl _
      · have h1 := hall j hj
        have h2 := hrk.pr0
        have h3 := hrk.sn0
        rw [hb]; unfold Rp.round
        omega
    · rw [hnt] at hm
      obtain ⟨t, _, rfl⟩ := List.mem_map.1 hm
      refine ⟨by show (1 : Int) ≤ 5; decide, fun _ => rfl, fun _ => rfl, fun h => ?_⟩
      rcases h with h | h
      · exact absurd h (by show ¬ (1 : Int) = 2; decide)
      · exact absurd h (by show ¬ (1 : Int) = 4; decide)
    · rw [hnt, hn]
      refine ⟨by show 2 * (0 : Int) ≤ (s.n : Int); omega, fun j hj => .inr (.inl ?_)⟩
      exact ⟨_, List.mem_map.2 ⟨j, List.mem_range.2 hj, rfl⟩, rfl, rfl⟩
  obtain ⟨hI, hok2⟩ := settle_ind (I := I2 b r) (fun s m l => i2_step s m l) 20000 (s.campaign r) hok1 hI0
  have hz := settle_empty hok1
  generalize Sy.settle 20000 (s.campaign r) = s' at *
  obtain ⟨P, V, hinv⟩ := hso
  have hrl0 := (hok2.repOk hI.rn).rl
  have hro := (hinv.rep r hI.rn).role
  have hro' := hI.role
  rw [hz] at hro'
  rcases hro' with ⟨t, kept, g1, _, g3⟩ | ⟨next, ps, g1, g2⟩
  · rw [g1] at hrl0 hro
    exact (g3.none hok2.n0 hok2.n1 hrl0.1 (fun q hq => (PrepOk.has hro q hq).1)).elim
  · refine ⟨b, next, hI.rn, hz, ⟨ps, g1⟩, fun k hk => ?_, hI.prs⟩
    rw [g1] at hrl0 hro
    have hn16 : next ≤ 16 := hrl0.1
    rcases g2 k hk with g3 | g3
    · exact g3
    · exact (g3.none hok2.n0 hok2.n1 (getD_ok hrl0.2.2 (by rw [hrl0.2.1]; omega)) (fun q hq => (LeadOk.has hro k q hq).2)).elim
end

section
/-! Logs. -/
theorem logOf_len : ∀ (d : List Dn) (m : Nat), (∀ j, j < m → (d.getD j noDn).m = true) → (d.getD m noDn).m = false → (logOf d).length = m
  | [], m, h, _ => by
    cases m with
    | zero => rfl
    | succ m => exact absurd (h 0 (by omega)) (by simp [noDn])
  | x :: d, 0, _, h => by
    have hx : x.m = false := by simpa using h
    rw [logOf_no hx]; rfl
  | x :: d, m + 1, h, h2 => by
    have hx : x.m = true := by simpa using h 0 (by omega)
    rw [logOf_yes hx, List.length_cons, logOf_len d m (fun j hj => by simpa using h (j + 1) (by omega)) (by simpa using h2)]
theorem logOf_all : ∀ (d : List Dn) (j : Nat), j < (logOf d).length → (d.getD j noDn).m = true
  | [], j, h => by simp [logOf] at h
  | x :: d, j, h => by
    cases hx : x.m with
    | false => rw [logOf_no hx] at h; simp at h
    | true =>
      rw [logOf_yes hx, List.length_cons] at h
      cases j with
      | zero => simpa using hx
      | succ j =>
        have := logOf_all d j (by omega)
        simpa using this
theorem logOf_set : ∀ (d : List Dn) (m : Nat) (p : Pst), (∀ j, j < m → (d.getD j noDn).m = true) → m < d.length → (d.getD m noDn).m = false → (d.getD (m + 1) noDn).m = false → logOf (d.set m ⟨true, p⟩) = logOf d ++ [p]
  | [], m, p, _, hl, _, _ => by simp at hl
  | x :: d, 0, p, _, _, h, h2 => by
    have hx : x.m = false := by simpa using h
    rw [List.set_cons_zero, logOf_yes rfl, logOf_no hx]
    have : logOf d = [] := by
      cases d with
      | nil => rfl
      | cons y d =>
        have hy : y.m = false := by simpa using h2
        exact logOf_no hy d
    rw [this]; rfl
  | x :: d, m + 1, p, h, hl, h1, h2 => by
    have hx : x.m = true := by simpa using h 0 (by omega)
    rw [List.set_cons_succ, logOf_yes hx, logOf_yes hx, logOf_set d m p (fun j hj => by simpa using h (j + 1) (by omega)) (by simpa using hl) (by simpa using h1) (by simpa using h2)]
    rfl
theorem Led.open {b : Int} {r next : Nat} {s : Sy} (hok : s.ok) (h : Led b r next s) (hso : Sound s) {j k : Nat} (hj : j < s.n) (hk : next ≤ k) : (s.rep j).dm k = false := by
  by_cases hk16 : k < 16
  · cases hd : (s.rep j).dm k with
    | false => rfl
    | true =>
      exfalso
      obtain ⟨P, V, hinv⟩ := hso
      obtain ⟨ps, hrl⟩ := h.role
      have hro := (hinv.rep r h.rn).role
      rw [hrl] at hro
      have hro' : LeadOk (co P V s) r b next ps := hro
      obtain ⟨b', f, hf, hp, hv⟩ := (hinv.rep j hj).dec k hd
      obtain ⟨g, hg, hpr, hfr⟩ := hro'.free k hk hk16
      obtain ⟨q, hq, hq1, hq2⟩ := maj_meet hf hg
      have hvq := hv q hq1
      have h1 := (hinv.ok.v q b' k hvq).1
      have h2 : (co P V s).pr q ≤ b := h.prs q hq
      have h3 : ¬ b' < b := fun hlt => hfr q hq2 b' hlt hvq
      have h4 : b' = b := by omega
      rw [h4, hro'.none k hk] at hp
      cases hp
  · unfold Rp.dm
    rw [List.getD_eq_getElem?_getD, List.getElem?_eq_none (by have := (hok.repOk hj).dec; omega)]
    rfl
theorem Led.log {b : Int} {r next : Nat} {s : Sy} (hok : s.ok) (h : Led b r next s) (hso : Sound s) : (logOf (s.rep r).dec).length = next :=
  logOf_len _ _ h.all (h.open hok hso h.rn (Nat.le_refl _))

structure I3 (b : Int) (r k0 : Nat) (p : Pst) (dec0 : List Dn) (s : Sy) : Prop where
  rn : r < s.n
  prs : ∀ j, j < s.n → (s.rep j).pr ≤ b
  msg : ∀ m ∈ s.net, (m.k = 3 ∨ m.k = 4 ∨ m.k = 5) ∧ (m.k ≤ 4 → m.b = b) ∧ (m.k = 3 → m.f = r) ∧ (m.k = 4 → m.t = r) ∧ (m.k = 5 → m.t ≠ r) ∧ m.s = (k0 : Int)
  role : ∃ ps, (s.rep r).rl = .lead b (k0 + 1) ps ∧ (ps.getD k0 noPp).p = p ∧
    (((s.rep r).dec = dec0 ∧ s.net.length ≤ s.n ∧ Asked s.n s.net (ps.getD k0 noPp).t (isProp k0) (isAcc k0)) ∨
     ((s.rep r).dec = dec0.set k0 ⟨true, p⟩ ∧ ∀ j, j < s.n → j ≠ r → (s.rep j).dm k0 = true ∨ ∃ m ∈ s.net, m.k = 5 ∧ m.t = (j : Int)))
theorem i3_step {b : Int} {r k0 : Nat} {p : Pst} {dec0 : List Dn} (hd0 : (dec0.getD k0 noDn).m = false) (hk0 : k0 < dec0.length) (s : Sy) (m : Ms) (l : List Ms) (hok : s.ok) (hI : I3 b r k0 p dec0 s) (hn : s.net = m :: l) : I3 b r k0 p dec0 ((⟨s.n, s.reps, l⟩ : Sy).receive m.t.toNat m) := by
  obtain ⟨hm, hok0⟩ := first_ok hok hn
  have hti := hm.to_lt
  have ht0 := hm.t0
  have hf0 := hm.f0
  have hs0 := hm.s0
  have hs1 := hm.s1
  have h7 := hok.n1
  have hf7 : m.f.toNat < 7 := by omega
  have hlen : l.length < 200 := by have := hok.full; rw [hn] at this; simp at this; omega
  obtain ⟨r', L, hR, h1, h2, h3⟩ := receive_rcv hok0 (i := m.t.toNat) hlen hti.1 hm
  have hrep0 : ∀ j, (⟨s.n, s.reps, l⟩ : Sy).rep j = s.rep j := fun _ => rfl
  have hmsg : ∀ x ∈ l, (x.k = 3 ∨ x.k = 4 ∨ x.k = 5) ∧ (x.k ≤ 4 → x.b = b) ∧ (x.k = 3 → x.f = r) ∧ (x.k = 4 → x.t = r) ∧ (x.k = 5 → x.t ≠ r) ∧ x.s = (k0 : Int) := fun x hx => hI.msg x (by rw [hn]; exact List.mem_cons_of_mem _ hx)
  obtain ⟨mm1, mm2, mm3, mm4, mm5, mms⟩ := hI.msg m (by rw [hn]; exact List.mem_cons_self)
  have hsk : m.s.toNat = k0 := by omega
  simp only [hrep0] at h2 hR
  have hprs := hI.prs
  obtain ⟨ps, hrl, hp, hph⟩ := hI.role
  rw [hn] at hph
  have hrok := hok.repOk hI.rn
  have hto := hrok.rl
  rw [hrl] at hto
  have hk16 : k0 < 16 := by omega
  generalize hs' : (⟨s.n, s.reps, l⟩ : Sy).receive m.t.toNat m = s' at *
  have hpi := hprs m.t.toNat hti.1
  have hprs' : ∀ j, j < s'.n → (s'.rep j).pr ≤ b := fun j hj => by
    rw [h1] at hj
    rw [h2]
    split
    · cases hR with
      | promise hk hb => have := mm2 (by omega); show m.b ≤ b; omega
      | accept hk hb => have := mm2 (by omega); show m.b ≤ b; omega
      | _ => exact hpi
    · exact hprs j hj
  have nR : ∀ j, m.k ≠ 3 → ¬ isProp k0 m j := fun j h h9 => h h9.1
  have nA : ∀ j, m.k ≠ 4 → ¬ isAcc k0 m j := fun j h h9 => h h9.1
  refine ⟨by rw [h1]; exact hI.rn, hprs', fun x hx => ?_, ?_⟩
  · rw [h3] at hx
    rcases List.mem_append.1 hx with hx | hx
    · exact hmsg x hx
    · cases hR with
      | refuse hk hb =>
        have := mm2 (by omega)
        omega
      | promise hk hb => omega
      | accept hk hb =>
        rw [List.mem_singleton.1 hx]
        refine ⟨.inr (.inl rfl), fun _ => mm2 (by omega), fun h => absurd h (by show ¬ (4 : Int) = 3; decide), fun _ => ?_, fun h => absurd h (by show ¬ (4 : Int) = 5; decide), mms⟩
        show ((m.f.toNat : Nat) : Int) = (r : Int)
        have := mm3 hk; omega
      | plead hk => omega
      | adecide hk b' next ps hrl hb hd hf L' hL hall =>
        obtain ⟨e1, e2, e3⟩ := hL x hx
        have := mm4 hk
        refine ⟨by omega, fun h => by omega, fun h => by omega, fun h => by omega, fun _ => by omega, by omega⟩
      | _ => cases hx
  · rw [h1, h3]
    cases hR with
    | refuse hk hb =>
      have := mm2 (by omega)
      omega
    | promise hk hb => omega
    | pskip hk _ => omega
    | pcount hk => omega
    | plead hk => omega
    | yield hk => omega
    | accept hk hb =>
      have hb' : m.b = b := mm2 (by omega)
      have hrr : (s'.rep r).rl = (s.rep r).rl ∧ (s'.rep r).dec = (s.rep r).dec := by
        rw [h2]
        split
        · rename_i e
          rw [← e]
          exact ⟨yield_lead (by rw [hb', hrl]; rfl), rfl⟩
        · exact ⟨rfl, rfl⟩
      have hdm : ∀ j, (s'.rep j).dm k0 = (s.rep j).dm k0 := fun j => by
        rw [h2]
        split
        · rename_i e; rw [e]; rfl
        · rfl
      refine ⟨ps, by rw [hrr.1]; exact hrl, hp, ?_⟩
      rw [hrr.2]
      rcases hph with ⟨g1, g2, g3⟩ | ⟨g1, g2⟩
      · refine .inl ⟨g1, ?_, ?_⟩
        · rw [List.length_append]
          show l.length + 1 ≤ s.n
          simp only [List.length_cons] at g2; omega
        · refine g3.answer (fun j hj => ⟨_, List.mem_singleton.2 rfl, rfl, ?_, hj.2.2⟩) (fun j => nA j (by omega))
          show ((m.t.toNat : Nat) : Int) = (j : Int)
          have := hj.2.1; omega
      · refine .inr ⟨g1, fun j hj hne => ?_⟩
        rcases g2 j hj hne with g3 | g3
        · exact .inl (by rw [hdm]; exact g3)
        · exact .inr (mem_step g3 (fun h => by omega))
    | askip hk h =>
      have hmt := mm4 hk
      have er : r = m.t.toNat := by omega
      have hb' : m.b = b := mm2 (by omega)
      have hrr : ∀ j, s'.rep j = s.rep j := fun j => by
        rw [h2]
        split
        · rename_i e; rw [e]
        · rfl
      refine ⟨ps, by rw [hrr]; exact hrl, hp, ?_⟩
      rcases hph with ⟨g1, g2, g3⟩ | ⟨g1, g2⟩
      · refine .inl ⟨by rw [hrr]; exact g1, ?_, ?_⟩
        · rw [List.length_append]
          show l.length + 0 ≤ s.n
          simp only [List.length_cons] at g2; omega
        · refine g3.known (fun j => nR j (by omega)) (fun j hj => ?_)
          have e3 : m.f.toNat = j := by have := hj.2.1; omega
          have := h b (k0 + 1) ps (by rw [← er]; exact hrl) hb'.symm (by rw [← er, hsk]; unfold Rp.dm; rw [g1]; exact hd0)
          rw [e3, hsk] at this; exact this
      · refine .inr ⟨by rw [hrr]; exact g1, fun j hj hne => ?_⟩
        rcases g2 j hj hne with g3 | g3
        · exact .inl (by rw [hrr]; exact g3)
        · exact .inr (mem_step g3 (fun h => by omega))
    | acount hk b' next ps1 hrl1 hb hd hf hc =>
      have hmt := mm4 hk
      have er : r = m.t.toNat := by omega
      rw [← er, hrl] at hrl1
      injection hrl1 with e1 e2 e3
      subst e1 e2 e3
      rw [hsk] at hd hf hc h2
      rcases hph with ⟨g1, g2, g3⟩ | ⟨g1, g2⟩
      · refine ⟨_, by rw [h2, if_pos er]; rfl, ?_, .inl ⟨by rw [h2, if_pos er, ← er]; exact g1, ?_, ?_⟩⟩
        · rw [getD_set, if_pos ⟨rfl, by rw [hto.2.1]; exact hk16⟩]; exact hp
        · rw [List.length_append]
          show l.length + 0 ≤ s.n
          simp only [List.length_cons] at g2; omega
        · rw [getD_set, if_pos ⟨rfl, by rw [hto.2.1]; exact hk16⟩]
          exact g3.count (getD_ok hto.2.2 (by rw [hto.2.1]; exact hk16)) hf7 hc (fun j => nR j (by omega)) (fun j hj => by have := hj.2.1; omega)
      · exfalso
        rw [← er] at hd
        unfold Rp.dm at hd
        rw [g1, getD_set, if_pos ⟨rfl, hk0⟩] at hd
        cases hd
    | adecide hk b' next ps1 hrl1 hb hd hf L' hL hall =>
      have hmt := mm4 hk
      have er : r = m.t.toNat := by omega
      rw [← er, hrl] at hrl1
      injection hrl1 with e1 e2 e3
      subst e1 e2 e3
      rw [hsk] at hd hf h2
      rcases hph with ⟨g1, g2, g3⟩ | ⟨g1, g2⟩
      · refine ⟨_, by rw [h2, if_pos er]; rfl, ?_, .inr ⟨?_, fun j hj hne => .inr ?_⟩⟩
        · rw [getD_set, if_pos ⟨rfl, by rw [hto.2.1]; exact hk16⟩]; exact hp
        · rw [h2, if_pos er, ← er]
          show (s.rep r).dec.set k0 ⟨true, (ps.getD k0 noPp).p⟩ = _
          rw [g1, hp]
        · obtain ⟨y, hy, hz⟩ := hall (by show l.length + s.n ≤ 200; simp only [List.length_cons] at g2; omega) j hj (by omega)
          exact ⟨y, List.mem_append_right _ hy, hz⟩
      · exfalso
        rw [← er] at hd
        unfold Rp.dm at hd
        rw [g1, getD_set, if_pos ⟨rfl, hk0⟩] at hd
        cases hd
    | dskip hk hd =>
      have hrr : ∀ j, s'.rep j = s.rep j := fun j => by
        rw [h2]
        split
        · rename_i e; rw [e]
        · rfl
      refine ⟨ps, by rw [hrr]; exact hrl, hp, ?_⟩
      rcases hph with ⟨g1, g2, g3⟩ | ⟨g1, g2⟩
      · refine .inl ⟨by rw [hrr]; exact g1, ?_, ?_⟩
        · rw [List.length_append]
          show l.length + 0 ≤ s.n
          simp only [List.length_cons] at g2; omega
        · exact g3.other (fun j => nR j (by omega)) (fun j => nA j (by omega))
      · refine .inr ⟨by rw [hrr]; exact g1, fun j hj hne => ?_⟩
        rw [hrr]
        by_cases hji : j = m.t.toNat
        · left; rw [hji, ← hsk]; exact hd
        · rcases g2 j hj hne with g3 | g3
          · exact .inl g3
          · exact .inr (mem_step g3 (fun h => by omega))
    | decide hk hd =>
      have hne : r ≠ m.t.toNat := by have := mm5 hk; omega
      have hrr : s'.rep r = s.rep r := by rw [h2, if_neg hne]
      refine ⟨ps, by rw [hrr]; exact hrl, hp, ?_⟩
      rcases hph with ⟨g1, g2, g3⟩ | ⟨g1, g2⟩
      · refine .inl ⟨by rw [hrr]; exact g1, ?_, ?_⟩
        · rw [List.length_append]
          show l.length + 0 ≤ s.n
          simp only [List.length_cons] at g2; omega
        · exact g3.other (fun j => nR j (by omega)) (fun j => nA j (by omega))
      · refine .inr ⟨by rw [hrr]; exact g1, fun j hj hne => ?_⟩
        by_cases hji : j = m.t.toNat
        · left
          rw [h2, if_pos hji, hsk]
          show (((s.rep m.t.toNat).dec.set k0 ⟨true, m.p⟩).getD k0 noDn).m = true
          rw [getD_set, if_pos ⟨rfl, by rw [(hok.repOk hti.1).dec]; exact hk16⟩]
        · rw [h2, if_neg hji]
          rcases g2 j hj hne with g3 | g3
          · exact .inl g3
          · exact .inr (mem_step g3 (fun h => by omega))

theorem submit_is {s : Sy} (hok : s.ok) {b : Int} {r next : Nat} (hL : Led b r next s) {ps : List Pp} (hrl : (s.rep r).rl = .lead b next ps) {p : Pst} (hE : s.subE r p = 0) :
    (∀ j, (s.submit r p).rep j = if j = r then (s.rep r).role (.lead b (next + 1) (ps.set next ⟨p, (ps.getD next noPp).t⟩)) else s.rep j) ∧ (s.submit r p).net = (List.range s.n).map (fun t => (msg 3 b (next : Int) p []).to (r : Int) ((t : Nat) : Int)) := by
  have hnx : (s.rep r).next = next := by unfold Rp.next; rw [hrl]
  have hpr := propose_rep hok hL.rn hrl next p
  have hlen : (s.propose r next p).reps.length = (s.propose r next p).n := by
    rw [propose_n]
    unfold Sy.propose; rw [hrl]
    simp only
    rw [sendTo_reps]; simp only [Sy.put, List.length_set]; exact hok.len
  unfold Sy.submit
  rw [if_pos hE, hnx]
  constructor
  · intro j
    rw [rep_put' hlen (by rw [propose_n]; exact hL.rn), hpr]
    split
    · rfl
    · rename_i hj; exact propose_rep_ne _ _ _ _ hj
  · show (s.propose r next p).net = _
    unfold Sy.propose
    rw [hrl]
    simp only
    obtain ⟨L, h1, _, h3⟩ := sendTo_net (msg 3 b (next : Int) p []) r s.all (s.put r ((s.rep r).role (.lead b next (ps.set next ⟨p, (ps.getD next noPp).t⟩))))
    have e : (s.put r ((s.rep r).role (.lead b next (ps.set next ⟨p, (ps.getD next noPp).t⟩)))).net = [] := hL.net
    have h7 := hok.n1
    rw [h1, e, h3 (by rw [e]; unfold Sy.all; simp; omega)]
    rfl
theorem submit_ok {s : Sy} (hok : s.ok) {b : Int} {r next : Nat} {ps : List Pp} (hr : r < s.n) (hrl : (s.rep r).rl = .lead b next ps) (b0 : 0 ≤ b) (b1 : b ≤ 8007) {p : Pst} (hE : s.subE r p = 0) : (s.submit r p).ok := by
  have hrk := hok.repOk hr
  have ho := hrk.rl
  rw [hrl] at ho
  obtain ⟨b', n', ps', hrl', hn16⟩ := subE_lead hE
  rw [hrl] at hrl'
  injection hrl' with e1 e2 e3
  subst e1 e2 e3
  have hn : next < 16 := by have := ho.1; omega
  have hnx : (s.rep r).next = next := by unfold Rp.next; rw [hrl]
  unfold Sy.submit
  rw [if_pos hE, hnx]
  have hpo := propose_ok hok hr hrl b0 b1 hn p
  have hpr := propose_rep hok hr hrl next p
  refine Sy.put_ok hpo ?_
  rw [hpr]
  have hb : ((s.rep r).role (.lead b next (ps.set next ⟨p, (ps.getD next noPp).t⟩))).bump = (s.rep r).role (.lead b (next + 1) (ps.set next ⟨p, (ps.getD next noPp).t⟩)) := rfl
  rw [hb]
  exact role_ok hrk ⟨hn, by rw [List.length_set]; exact ho.2.1, set_ok ho.2.2 (getD_ok ho.2.2 (by rw [ho.2.1]; exact hn))⟩
/-- What the one that leads takes is decided by all when all messages have come. -/
theorem sub_led {s : Sy} (hok : s.ok) {b : Int} {r next : Nat} (hL : Led b r next s) (hso : Sound s) (hb : 0 ≤ b ∧ b ≤ 8007) {p : Pst} (hE : s.subE r p = 0) (hso' : Sound (Sy.settle 20000 (s.submit r p))) (hlog : ∀ j, j < s.n → logOf (s.rep j).dec <+: logOf ((Sy.settle 20000 (s.submit r p)).rep j).dec) :
    Led b r (next + 1) (Sy.settle 20000 (s.submit r p)) ∧ logOf ((Sy.settle 20000 (s.submit r p)).rep r).dec = logOf (s.rep r).dec ++ [p] ∧ ∀ j, j < s.n → (logOf (s.rep j).dec).length = next → (logOf ((Sy.settle 20000 (s.submit r p)).rep j).dec).length = next + 1 := by
  obtain ⟨ps, hrl⟩ := hL.role
  obtain ⟨hrep, hnt⟩ := submit_is hok hL hrl hE
  have hok1 := submit_ok hok hL.rn hrl hb.1 hb.2 hE
  have hn := submit_n s r p
  have hrk := hok.repOk hL.rn
  have ho := hrk.rl
  rw [hrl] at ho
  have hn16 : next < 16 := by
    obtain ⟨b', n', ps', hrl', h16⟩ := subE_lead hE
    rw [hrl] at hrl'
    injection hrl' with e1 e2 e3
    have := ho.1
    omega
  have hd0 : ((s.rep r).dec.getD next noDn).m = false := hL.open hok hso hL.rn (Nat.le_refl _)
  have hd1 : ((s.rep r).dec.getD (next + 1) noDn).m = false := hL.open hok hso hL.rn (Nat.le_succ _)
  have hk0 : next < (s.rep r).dec.length := by rw [hrk.dec]; exact hn16
  have hT : (ps.getD next noPp).t.c = 0 := by
    obtain ⟨P, V, hinv⟩ := hso
    have hro := (hinv.rep r hL.rn).role
    rw [hrl] at hro
    have hro' : LeadOk (co P V s) r b next ps := hro
    have hno : ∀ q, (ps.getD next noPp).t.has q = false := fun q => by
      cases hq : (ps.getD next noPp).t.has q with
      | false => rfl
      | true =>
        obtain ⟨_, _, _, v, h4⟩ := hinv.ok.v _ _ _ (hro'.has next q hq).1
        have h4' : (co P V s).P b next = some v := h4
        rw [hro'.none next (Nat.le_refl _)] at h4'
        cases h4'
    have hto := getD_ok ho.2.2 (k := next) (by rw [ho.2.1]; exact hn16)
    have h1 := Tl.cnt hto hok.n1 (fun q hq => by rw [hno q] at hq; cases hq)
    rw [cnt_zero _ _ (fun q _ => hno q)] at h1
    exact h1
  have hI0 : I3 b r next p (s.rep r).dec (s.submit r p) := by
    refine ⟨by rw [hn]; exact hL.rn, fun j hj => ?_, fun m hm => ?_, ⟨_, by rw [hrep, if_pos rfl]; rfl, ?_, .inl ⟨by rw [hrep, if_pos rfl]; rfl, by rw [hnt, hn]; simp, ?_⟩⟩⟩
    · rw [hn] at hj
      rw [hrep]
      split
      · exact hL.prs r hL.rn
      · exact hL.prs j hj
    · rw [hnt] at hm
      obtain ⟨t, _, rfl⟩ := List.mem_map.1 hm
      exact ⟨.inl rfl, fun _ => rfl, fun _ => rfl, fun h => absurd h (by show ¬ (3 : Int) = 4; decide), fun h => absurd h (by show ¬ (3 : Int) = 5; decide), rfl⟩
    · rw [getD_set, if_pos ⟨rfl, by rw [ho.2.1]; exact hn16⟩]
    · rw [getD_set, if_pos ⟨rfl, by rw [ho.2.1]; exact hn16⟩, hnt, hn]
      refine ⟨by show 2 * (ps.getD next noPp).t.c ≤ (s.n : Int); rw [hT]; omega, fun j hj => .inr (.inl ?_)⟩
      exact ⟨_, List.mem_map.2 ⟨j, List.mem_range.2 hj, rfl⟩, rfl, rfl, rfl⟩
  obtain ⟨hI, hok2⟩ := settle_ind (I := I3 b r next p (s.rep r).dec) (fun s m l => i3_step hd0 hk0 s m l) 20000 (s.submit r p) hok1 hI0
  have hz := settle_empty hok1
  have hsn : (Sy.settle 20000 (s.submit r p)).n = s.n := (settle_n _ _).trans hn
  generalize Sy.settle 20000 (s.submit r p) = s' at *
  obtain ⟨ps', hrl', _, hph⟩ := hI.role
  rw [hz] at hph
  have hrl0 := (hok2.repOk hI.rn).rl
  rw [hrl'] at hrl0
  rcases hph with ⟨_, _, g3⟩ | ⟨g1, g2⟩
  · exfalso
    obtain ⟨P, V, hinv⟩ := hso'
    have hro := (hinv.rep r hI.rn).role
    rw [hrl'] at hro
    exact g3.none hok2.n0 hok2.n1 (getD_ok hrl0.2.2 (by rw [hrl0.2.1]; exact hn16)) (fun q hq => (LeadOk.has hro next q hq).2)
  · have hdm : ∀ j, j < s.n → (s'.rep j).dm next = true := fun j hj => by
      by_cases hjr : j = r
      · rw [hjr]
        unfold Rp.dm
        rw [g1, getD_set, if_pos ⟨rfl, hk0⟩]
      · rcases g2 j (by rw [hsn]; exact hj) hjr with h | ⟨m, hm, _⟩
        · exact h
        · cases hm
    have hL' : Led b r (next + 1) s' := by
      refine ⟨hI.rn, hz, ⟨ps', hrl'⟩, fun k hk => ?_, hI.prs⟩
      by_cases hkn : k = next
      · rw [hkn]; exact hdm r hL.rn
      · unfold Rp.dm
        rw [g1, getD_set, if_neg (fun h => hkn h.1)]
        exact hL.all k (by omega)
    refine ⟨hL', ?_, fun j hj hl => ?_⟩
    · rw [g1]
      exact logOf_set _ _ p hL.all hk0 hd0 hd1
    · refine logOf_len _ _ (fun k hk => ?_) (hL'.open hok2 hso' (by rw [hsn]; exact hj) (Nat.le_refl _))
      by_cases hkn : k = next
      · rw [hkn]; exact hdm j hj
      · have := (hlog j hj).length_le
        exact logOf_all _ k (by omega)
end
end Go.Proofs.Ytnnhnekfokbooaa
