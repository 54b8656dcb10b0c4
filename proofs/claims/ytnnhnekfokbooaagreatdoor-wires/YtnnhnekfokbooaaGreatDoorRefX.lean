/- The law's step Unpack. -/
import Derived.Test.YtnnhnekfokbooaaGreatDoorRefO
import Derived.Test.YtnnhnekfokbooaaGreatDoorRefW
namespace Go.Proofs.YtnnhnekfokbooaaGreatDoor
open Go.RowKit
set_option linter.unusedSimpArgs false
set_option linter.unusedVariables false

/-- What Unpack answers: the message, the error's number. -/
def mOf (l : List UInt8) : Ms := if unB l then Rs.msg ⟨l, false⟩ else ⟨0, 0, 0, 0, 0, ⟨0, 0, 0, S []⟩, []⟩
def cOf (l : List UInt8) : Int := if unB l then 0 else 2
theorem mOf_len (l : List UInt8) : (mOf l).a.length ≤ 255 := by
  unfold mOf
  split
  · exact vts_le _
  · simp
def mval (m : Ms) (v : Value) : Array Value := #[.int .i64 m.k, .int .i64 m.f, .int .i64 m.t, .int .i64 m.b, .int .i64 m.s, .int .i64 m.p.c, .int .i64 m.p.q, .int .i64 m.p.h, .string m.p.t, v]
theorem Unpack_of (l : List UInt8) (w : World) (hk : Kinds w) (hl : l.length ≤ 9223372036854775807) :
    Calls Tryz.prog 21 #[.string (S l)] w fun e w' => ∃ v, e = .returned (.tuple #[.agg (mval (mOf l) v), .int .i64 (cOf l)]) ∧ w'.ownsRow w.heap.size 53 6 v (mOf l).a.length (vcells (mOf l).a) ∧ Below w.heap.size w w' := by
  refine (Unpack_any l w hk hl).mono ?_
  rintro e w' ⟨h1, h2, h3⟩
  cases hu : unB l
  · refine ⟨.slice none 0 0, ?_, ?_, h3⟩
    · rw [h2 hu]; simp only [mOf, cOf, hu]; rfl
    · simp only [mOf, hu]; exact World.ownsRow_nil _ _ _ _
  · obtain ⟨v, he, ho⟩ := h1 hu
    refine ⟨v, ?_, ?_, h3⟩
    · rw [he]; simp only [mOf, cOf, hu]; rfl
    · simp only [mOf, hu]; exact ho
theorem runp_of (l : List UInt8) (w : World) (hl : l.length ≤ 9223372036854775807) :
    Calls Tryz.prog 22 #[.string (S l)] w fun e w' => ∃ v, e = .returned (.tuple #[.agg (mval (mOf l) v), .int .i64 (cOf l)]) ∧ VAt w' v (mOf l).a ∧ Below w.heap.size w w' := by
  refine (runp_any l w hl).mono ?_
  rintro e w' ⟨h1, h2, h3⟩
  cases hu : unB l
  · refine ⟨.slice none 0 0, ?_, ?_, h3⟩
    · rw [h2 hu]; simp only [mOf, cOf, hu]; rfl
    · simp only [mOf, hu]; exact rvat_nil _
  · obtain ⟨v, he, ho⟩ := h1 hu
    refine ⟨v, ?_, ?_, h3⟩
    · rw [he]; simp only [mOf, cOf, hu]; rfl
    · simp only [mOf, hu]; exact ho

/-- The law's world, where lists of votes alone came out. -/
structure WOK (w : World) (wb H : Nat) (vs : List Value) : Prop where
  blk : ∃ wv, w.heap[wb]? = some (.cells #[.slice none 0 0, .slice none 0 0, wv, .slice none 0 0] 31 (0, 0)) ∧ w.ownsRow H 34 1 wv vs.length vs
  marks : ∀ k (hk : k < vs.length), ∃ n, n ≤ 2000000 ∧ MK w H 53 (mv k) vs[k] n
  four : vs.length % 4 = 0
  base : 0 < wb ∧ H ≤ w.heap.size ∧ 0 < H
theorem WOK.below {w w' : World} {wb H : Nat} {vs : List Value} (h : WOK w wb H vs) (hb : Below w.heap.size w w') : WOK w' wb H vs := by
  obtain ⟨⟨wv, h1, h2⟩, h3, h4, h5⟩ := h
  refine ⟨⟨wv, blk_below hb h1, owns_below h2 hb⟩, fun k hk => ?_, h4, ?_⟩
  · obtain ⟨n, hn, hm⟩ := h3 k hk
    exact ⟨n, hn, owns_below hm hb⟩
  · have := hb.size; omega
theorem looks_of (wb H : Nat) (vs : List Value) (w : World) (h : WOK w wb H vs) (hl : vs.length ≤ 5000000000000) :
    Calls Tryz.prog 8 #[.pointer (some ⟨wb, 0, none⟩)] w fun e w' => e = .returned (.bool true) ∧ WOK w' wb H vs ∧ Below w.heap.size w w' := by
  obtain ⟨wv, h1, h2⟩ := h.blk
  refine (looks_any wb H _ wv vs w h1 h2 h.marks hl).mono ?_
  rintro e w' ⟨rfl, hb⟩
  exact ⟨rfl, h.below hb, hb⟩
/-- One list more came out. -/
theorem voted_of (wb H : Nat) (vs : List Value) (w : World) (h : WOK w wb H vs) (hl : vs.length ≤ 5000000000000) (v : Value) (n : Nat) (xs : List Value) (hv : w.ownsRow H 53 6 v n xs) (hn : n ≤ 1000000)
    (hnew : ∀ k (hk : k < vs.length) g, v.ownBlock = some g → vs[k].ownBlock ≠ some g) :
    Calls Tryz.prog 24 #[.pointer (some ⟨wb, 0, none⟩), v] w fun e w' => e = .returned (.tuple #[]) ∧ (∃ vs', vs'.length = vs.length + 4 ∧ WOK w' wb H vs') ∧ Keeps (fun k => k = wb ∨ H ≤ k) w w' := by
  obtain ⟨wv, h1, h2⟩ := h.blk
  have hb0 := h.base
  refine (voted_any wb H _ _ wv _ v n xs vs w h1 h2 hv (by omega) hn hb0.2.1).mono ?_
  rintro e w' ⟨wv', a, b, c, rfl, k1, k2, m0, m1, m2, m3, hk⟩
  have hm4 : ∀ i, i < 4 → mv (vs.length + i) = mv vs.length := fun i hi => by
    unfold mv
    have := h.four
    have e : (vs.length + i) / 4 = vs.length / 4 := by omega
    rw [e]
  refine ⟨rfl, ⟨vs ++ [v, a, b, c], by simp, ⟨wv', k1, by simpa using k2⟩, fun k hk' => ?_, by simp; have := h.four; omega, hb0.1, ?_, hb0.2.2⟩, ?_⟩
  · by_cases hlt : k < vs.length
    · rw [List.getElem_append_left hlt]
      obtain ⟨n', hn', hm⟩ := h.marks k hlt
      refine ⟨n', hn', owns_keeps hm hk (fun g hg hp => ?_)⟩
      rcases hp with hp | hp | hp
      · subst hp; exact owns_not_block hm h1 (by decide) hg
      · exact hnew k hlt g hp hg
      · exact owns_apart hm h2 (by decide) hg hp
    · simp at hk'
      rw [List.getElem_append_right (by omega)]
      obtain ⟨i, hi⟩ : ∃ i, k = vs.length + i := ⟨k - vs.length, by omega⟩
      subst hi
      have hi4 : i < 4 := by omega
      simp only [Nat.add_sub_cancel_left]
      rw [hm4 i hi4]
      rcases (show i = 0 ∨ i = 1 ∨ i = 2 ∨ i = 3 from by omega) with rfl | rfl | rfl | rfl
      · exact ⟨_, by omega, m0⟩
      · exact ⟨_, by omega, m1⟩
      · exact ⟨_, by omega, m2⟩
      · exact ⟨_, by omega, m3⟩
  · have := hk.size; omega
  · refine hk.mono fun k _ hp => ?_
    rcases hp with hp | hp | hp
    · exact .inl hp
    · exact .inr (hv.lt _ hp).1
    · exact .inr (h2.lt _ hp).1

set_option maxHeartbeats 4000000 in
set_option maxRecDepth 100000 in
theorem unpacked_any (wb H : Nat) (vs : List Value) (l : List UInt8) (w : World) (h : WOK w wb H vs) (hk : Kinds w) (hl : l.length ≤ 9223372036854775807) (hlen : vs.length ≤ 5000000000000) :
    Calls Tryz.prog 11 #[.pointer (some ⟨wb, 0, none⟩), .string (S l)] w fun e w' => e = .returned (.bool true) ∧ (∃ vs', vs'.length = vs.length + 4 ∧ WOK w' wb H vs') ∧ Keeps (fun k => k = wb ∨ H ≤ k) w w' := by
  have hb0 := h.base
  have hml := mOf_len l
  have hU := Unpack_of l w hk hl
  have hR := fun W => runp_of l W hl
  generalize mOf l = m at *
  generalize cOf l = c at *
  obtain ⟨mk, mf, mt, mb, ms, ⟨mc, mq, mh, mx⟩, ma⟩ := m
  simp only [mval] at hU hR
  go_enter Tryz.func11, Tryz.ntmps11
  go_wp2_with fail
  refine hU.mono ?_
  rintro e w1 ⟨v, rfl, ho1, hB1⟩
  obtain ⟨va, vn, vc, rfl⟩ := owns_slice ho1
  clear hU
  go_wp2_with fail
  refine (hR _).mono ?_
  rintro e w2 ⟨v2, rfl, hv2, hB2⟩
  clear hR
  obtain ⟨a2, n2, rfl, hf2⟩ := hv2.form
  try dsimp only at hv2 hf2 ho1 hml
  have hz1 := hB1.size
  have hz2 := hB2.size
  simp only [World.size_alloc] at hz2
  have hmb := blk_below hB2 (blk_new w1 _)
  have hmc := blk_cell hmb
  have hlt2 := lt_of_block hmb
  have hB12 : Below w1.heap.size w1 w2 := ((Below.refl _ w1).alloc (Nat.le_refl _) _).trans (hB2.mono (by simp))
  have ho2 := owns_below ho1 hB12
  have hW2 := (h.below hB1).below hB12
  have hvat : VAt w2 (.slice va vn vc) ma := owns_vat ho2 (by omega)
  clear hB2 ho1
  go_wp2_with fail
  have hS := sameMessage_same ⟨mk, mf, mt, mb, ms, ⟨mc, mq, mh, mx⟩, ma⟩ (.slice va vn vc) (.slice a2 ma.length n2) (w2.alloc (.cells #[.int .i64 mk, .int .i64 mf, .int .i64 mt, .int .i64 mb, .int .i64 ms, .int .i64 mc, .int .i64 mq, .int .i64 mh, .string mx, .slice a2 ma.length n2] 36)) (hvat.alloc _) (hv2.alloc _)
  dsimp only at hS
  refine hS.mono ?_
  rintro e w3 ⟨rfl, hB3⟩
  clear hS
  have hBt : Below w2.heap.size w2 w3 := ((Below.refl _ w2).alloc (Nat.le_refl _) _).trans (hB3.mono (by simp))
  have hmb3 := blk_below hBt hmb
  have hmc3 := blk_cell hmb3
  have hlt3 := lt_of_block hmb3
  have hW3 := hW2.below hBt
  have ho3 := owns_base (owns_below ho2 hBt) (b' := H) (by omega)
  have hV := voted_of wb H vs w3 hW3 hlen (.slice va vn vc) ma.length (vcells ma) ho3 (by omega) (fun k hk g hg hg' => by
    have x1 := (World.ownsRow.lt ho2 g hg).1
    obtain ⟨n', _, hm'⟩ := h.marks k hk
    have x2 := (World.ownsRow.lt hm' g hg').2
    omega)
  go_wp2_with fail
  refine hV.mono ?_
  rintro e w4 ⟨rfl, hW4, hB4⟩
  go_wp2_with (go_at_call 18; refine (num_same _ _).mono ?_; rintro e w5 ⟨rfl, rfl⟩)
  go_ret
  refine ⟨rfl, hW4, ?_⟩
  exact (Keeps.ofBelow hB1).trans ((Keeps.ofBelow hB12).trans ((Keeps.ofBelow hBt).trans hB4))
end Go.Proofs.YtnnhnekfokbooaaGreatDoor
