/- The walks of Unpack. -/
import Derived.Test.YtnnhnekfokbooaaGreatDoorWalkF
import Derived.Test.YtnnhnekfokbooaaGreatDoorWalkI
import Derived.WalkKit
import Derived.WalkSpells
import Derived.WalkLawsBesides
namespace Go.Proofs.YtnnhnekfokbooaaGreatDoor
open Go.RowKit
set_option linter.unusedSimpArgs false
set_option linter.unusedVariables false

theorem owns_vat {w : World} {base : Nat} {v : Value} {l : List Vt} (h : w.ownsRow base 53 6 v l.length (vcells l)) (hl : l.length ≤ 4611686018427387903) : VAt w v l := by
  refine ⟨hl, ?_⟩
  rcases h.2 with ⟨rfl, hn⟩ | ⟨g, cap, cur, rfl, hg, hh, h1, h2, h3, h4⟩
  · have : l = [] := List.eq_nil_of_length_eq_zero hn
    subst this
    exact ⟨none, 0, rfl, fun h => absurd rfl h⟩
  · refine ⟨some ⟨g, 0, none⟩, cap, rfl, fun _ => ⟨g, 0, rfl, lt_of_block hh, fun j u hu => ?_⟩⟩
    have := h.cells rfl j u hu
    rw [Nat.zero_add]
    have hadd : (⟨g, 0, none⟩ : Addr).add j = ⟨g, j, none⟩ := by unfold Addr.add; split <;> simp_all
    rw [← hadd]; exact this

def unB (l : List UInt8) : Bool := !(Rs.msgAft ⟨l, false⟩).sh && (Rs.msgAft ⟨l, false⟩).l.isEmpty && rmB (Rs.msg ⟨l, false⟩)

theorem vts_le (s : Rs) : s.msg.a.length ≤ 255 := by
  unfold Rs.msg Rs.acc
  dsimp only
  split
  · rw [vts_length]; have := num1_le ((((s.m1.balAft (s.num 1)).sloAft (s.num 1)).vauAft (s.num 1))); omega
  · simp

set_option maxHeartbeats 2000000 in
set_option maxRecDepth 100000 in
theorem unpack_any (l : List UInt8) (w : World) (hk : Kinds w) (hl : l.length ≤ 9223372036854775807) :
    Calls Tryz.prog 53 #[.string (S l)] w fun e w' => (unB l = true → ∃ v, e = .returned (.tuple #[.agg #[.int .i64 (Rs.msg ⟨l, false⟩).k, .int .i64 (Rs.msg ⟨l, false⟩).f, .int .i64 (Rs.msg ⟨l, false⟩).t, .int .i64 (Rs.msg ⟨l, false⟩).b, .int .i64 (Rs.msg ⟨l, false⟩).s, .int .i64 (Rs.msg ⟨l, false⟩).p.c, .int .i64 (Rs.msg ⟨l, false⟩).p.q, .int .i64 (Rs.msg ⟨l, false⟩).p.h, .string (Rs.msg ⟨l, false⟩).p.t, v], .int .i64 0])
      ∧ w'.ownsRow w.heap.size 53 6 v (Rs.msg ⟨l, false⟩).a.length (vcells (Rs.msg ⟨l, false⟩).a))
      ∧ (unB l = false → e = .returned (.tuple #[.agg #[.int .i64 0, .int .i64 0, .int .i64 0, .int .i64 0, .int .i64 0, .int .i64 0, .int .i64 0, .int .i64 0, .string (S []), .slice none 0 0], .int .i64 2]))
      ∧ Below w.heap.size w w' := by
  have hw0 := hk.1
  have hva := vts_le ⟨l, false⟩
  have hu : unB l = (!(Rs.msgAft ⟨l, false⟩).sh && (Rs.msgAft ⟨l, false⟩).l.isEmpty && rmB (Rs.msg ⟨l, false⟩)) := rfl
  have HU : Hid (unB l = (!(Rs.msgAft ⟨l, false⟩).sh && (Rs.msgAft ⟨l, false⟩).l.isEmpty && rmB (Rs.msg ⟨l, false⟩))) := hu
  clear hu
  go_enter Tryz.func53, Tryz.ntmps53
  go_wp2_with fail
  refine (message_any (w.heap.size + 1) ⟨l, false⟩ _ ?_ hl ((hk.alloc _).alloc _) (by omega)).mono ?_
  · have := blk_new (w.alloc (.cells #[.int .i64 0, .int .i64 0, .int .i64 0, .int .i64 0, .int .i64 0, .int .i64 0, .int .i64 0, .int .i64 0, .string ⟨#[]⟩, .slice none 0 0] 36)) (.cells #[.string (S l), .bool false] 147)
    simp only [World.size_alloc] at this
    exact this
  rintro e w1 ⟨v, rfl, hown, hr1, hk1⟩
  obtain ⟨ao, an, ac, rfl⟩ := owns_slice hown
  generalize hm : Rs.msg ⟨l, false⟩ = m at *
  generalize Rs.msgAft ⟨l, false⟩ = sa at *
  have HM : Hid (Rs.msg ⟨l, false⟩ = m) := hm
  clear hm
  obtain ⟨sl, ssh⟩ := sa
  have hb1 : Below w.heap.size w w1 := (((Below.refl _ w).alloc (Nat.le_refl _) _).alloc (by simp) _).trans (hk1.toBelow (B := w.heap.size) (by simp; omega) (fun k e => by injection e with e; omega))
  have hz1 : w.heap.size + 2 ≤ w1.heap.size := by have := hk1.size; simpa using this
  have hq1 := blk_kp hk1 (blk_alloc (blk_new _ _) _) (by simp)
  have hkn := (((hk.alloc _).alloc _).kp hk1 (by simp))
  have hvat : VAt w1 (.slice ao an ac) m.a := owns_vat hown (by omega)
  have hownB := owns_mono hown (base' := w.heap.size) (by simp; omega)
  have hnq : (Value.slice ao an ac).ownBlock ≠ some w.heap.size := fun e => by have := (hown.lt _ e).1; simp at this; omega
  clear hown hk1 hk
  have hqA := blk_alloc hq1 (.cells #[.int .i64 m.k, .int .i64 m.f, .int .i64 m.t, .int .i64 m.b, .int .i64 m.s, .int .i64 m.p.c, .int .i64 m.p.q, .int .i64 m.p.h, .string m.p.t, .slice ao an ac] 36)
  have hrA := Rd.alloc hr1 (.cells #[.int .i64 m.k, .int .i64 m.f, .int .i64 m.t, .int .i64 m.b, .int .i64 m.s, .int .i64 m.p.c, .int .i64 m.p.q, .int .i64 m.p.h, .string m.p.t, .slice ao an ac] 36)
  have hkA := hkn.alloc (.cells #[.int .i64 m.k, .int .i64 m.f, .int .i64 m.t, .int .i64 m.b, .int .i64 m.s, .int .i64 m.p.c, .int .i64 m.p.q, .int .i64 m.p.h, .string m.p.t, .slice ao an ac] 36)
  have hvA := hvat.alloc (.cells #[.int .i64 m.k, .int .i64 m.f, .int .i64 m.t, .int .i64 m.b, .int .i64 m.s, .int .i64 m.p.c, .int .i64 m.p.q, .int .i64 m.p.h, .string m.p.t, .slice ao an ac] 36)
  have hqc := blk_cell hqA
  have hqf := blk_free hqA
  have hrc0 : _ = some (Value.string (S sl)) := (blk_cell hrA 0).trans rfl
  have hrc1 : _ = some (Value.bool ssh) := (blk_cell hrA 1).trans rfl
  cases ssh
  case true =>
    go_wp2
    refine bodyPost_ret (v := .tuple #[.agg #[.int .i64 0, .int .i64 0, .int .i64 0, .int .i64 0, .int .i64 0, .int .i64 0, .int .i64 0, .int .i64 0, .string (S []), .slice none 0 0], .int .i64 2]) (by simp [results, Tryz.results53, go_sem, hqc, hqf, S]) rfl ⟨fun h => ?_, fun _ => rfl, ?_⟩
    · rw [HU.out] at h; simp [] at h
    · repeat refine Below.setCell ?_ (by simp) _
      exact hb1.alloc (by omega) _
  case false =>
  by_cases hsl : sl = []
  · subst hsl
    have he : (S []).toList.isEmpty = true := by simp [S]
    have he' : (S []).toList = [] := by simp [S]
    cases hrm : rmB m
    · go_wp2_with (go_at_call 76; refine (rightMessage_any m _ _ hkA hvA).mono ?_; rintro e w2 ⟨rfl, hb2⟩; have hq2 := blk_below hb2 hqA; have hqc2 := blk_cell hq2; have hqf2 := blk_free hq2)
      have hz2 := hb2.size
      simp at hz2
      refine bodyPost_ret (v := .tuple #[.agg #[.int .i64 0, .int .i64 0, .int .i64 0, .int .i64 0, .int .i64 0, .int .i64 0, .int .i64 0, .int .i64 0, .string (S []), .slice none 0 0], .int .i64 2]) (by simp [results, Tryz.results53, go_sem, hqc2, hqf2, S]) rfl ⟨fun h => ?_, fun _ => rfl, ?_⟩
      · rw [HU.out] at h; simp [hrm] at h
      · repeat refine Below.setCell ?_ (by simp) _
        exact (hb1.alloc (by omega) _).trans (hb2.mono (by simp; omega))
    · go_wp2_with (go_at_call 76; refine (rightMessage_any m _ _ hkA hvA).mono ?_; rintro e w2 ⟨rfl, hb2⟩; have hq2 := blk_below hb2 hqA; have hqc2 := blk_cell hq2; have hqf2 := blk_free hq2; have hmm := blk_below hb2 (blk_new w1 _); have hmc := blk_cell hmm)
      have hz2 := hb2.size
      simp at hz2
      refine bodyPost_ret (v := .tuple #[.agg #[.int .i64 m.k, .int .i64 m.f, .int .i64 m.t, .int .i64 m.b, .int .i64 m.s, .int .i64 m.p.c, .int .i64 m.p.q, .int .i64 m.p.h, .string m.p.t, .slice ao an ac], .int .i64 0]) (by simp [results, Tryz.results53, go_sem, hqc2, hqf2, S]) rfl ⟨fun _ => ?_, fun h => ?_, ?_⟩
      · rw [HM.out]
        refine ⟨_, rfl, ?_⟩
        iterate 10 refine ownsRow_setCell_other ?_ (by exact hnq) _
        refine World.ownsRow.kept (hownB.alloc _) (Kp.ofBelow (o := none) hb2).grownBy ?_
        cases hx : (Value.slice ao an ac).ownBlock with
        | none => exact .inl rfl
        | some g => exact .inr (by simp)
      · rw [HU.out] at h; simp [hrm] at h
      · repeat refine Below.setCell ?_ (by simp) _
        exact (hb1.alloc (by omega) _).trans (hb2.mono (by simp; omega))
  · have he : (S sl).toList.isEmpty = false := by simp [S, hsl]
    have he' : ¬ (S sl).toList = [] := by simp [S, hsl]
    go_wp2
    refine bodyPost_ret (v := .tuple #[.agg #[.int .i64 0, .int .i64 0, .int .i64 0, .int .i64 0, .int .i64 0, .int .i64 0, .int .i64 0, .int .i64 0, .string (S []), .slice none 0 0], .int .i64 2]) (by simp [results, Tryz.results53, go_sem, hqc, hqf, S]) rfl ⟨fun h => ?_, fun _ => rfl, ?_⟩
    · rw [HU.out] at h; simp [hsl] at h
    · repeat refine Below.setCell ?_ (by simp) _
      exact hb1.alloc (by omega) _

set_option maxHeartbeats 2000000 in
theorem Unpack_any (l : List UInt8) (w : World) (hk : Kinds w) (hl : l.length ≤ 9223372036854775807) :
    Calls Tryz.prog 21 #[.string (S l)] w fun e w' => (unB l = true → ∃ v, e = .returned (.tuple #[.agg #[.int .i64 (Rs.msg ⟨l, false⟩).k, .int .i64 (Rs.msg ⟨l, false⟩).f, .int .i64 (Rs.msg ⟨l, false⟩).t, .int .i64 (Rs.msg ⟨l, false⟩).b, .int .i64 (Rs.msg ⟨l, false⟩).s, .int .i64 (Rs.msg ⟨l, false⟩).p.c, .int .i64 (Rs.msg ⟨l, false⟩).p.q, .int .i64 (Rs.msg ⟨l, false⟩).p.h, .string (Rs.msg ⟨l, false⟩).p.t, v], .int .i64 0])
      ∧ w'.ownsRow w.heap.size 53 6 v (Rs.msg ⟨l, false⟩).a.length (vcells (Rs.msg ⟨l, false⟩).a))
      ∧ (unB l = false → e = .returned (.tuple #[.agg #[.int .i64 0, .int .i64 0, .int .i64 0, .int .i64 0, .int .i64 0, .int .i64 0, .int .i64 0, .int .i64 0, .string (S []), .slice none 0 0], .int .i64 2]))
      ∧ Below w.heap.size w w' := by
  have hC := unpack_any l (w.alloc (.cells #[.int .i64 0, .int .i64 0, .int .i64 0, .int .i64 0, .int .i64 0, .int .i64 0, .int .i64 0, .int .i64 0, .string ⟨#[]⟩, .slice none 0 0] 36)) (hk.alloc _) hl
  generalize Rs.msg ⟨l, false⟩ = m at *
  cases hu : unB l
  · go_enter Tryz.func21, Tryz.ntmps21
    go_wp2_with fail
    refine hC.mono ?_
    rintro e w1 ⟨-, h2, hb⟩
    obtain rfl := h2 hu
    clear h2 hC
    have hq := blk_below hb (blk_new _ _)
    have hqc := blk_cell hq
    have hqf := blk_free hq
    go_wp2
    refine bodyPost_ret (v := .tuple #[.agg #[.int .i64 0, .int .i64 0, .int .i64 0, .int .i64 0, .int .i64 0, .int .i64 0, .int .i64 0, .int .i64 0, .string (S []), .slice none 0 0], .int .i64 2]) (by simp [results, Tryz.results21, go_sem, hqc, hqf, S]) rfl ⟨fun h => by simp at h, fun _ => rfl, ?_⟩
    repeat refine Below.setCell ?_ (by simp) _
    exact ((Below.refl _ _).alloc (Nat.le_refl _) _).trans (hb.mono (by simp))
  · go_enter Tryz.func21, Tryz.ntmps21
    go_wp2_with fail
    refine hC.mono ?_
    rintro e w1 ⟨h1, -, hb⟩
    obtain ⟨v, rfl, hown⟩ := h1 hu
    obtain ⟨ao, an, ac, rfl⟩ := owns_slice hown
    have hownB := owns_mono hown (base' := w.heap.size) (by simp)
    have hnq : (Value.slice ao an ac).ownBlock ≠ some w.heap.size := fun e => by have := (hown.lt _ e).1; simp at this; omega
    clear h1 hC hown
    have hq := blk_below hb (blk_new _ _)
    have hqc := blk_cell hq
    have hqf := blk_free hq
    go_wp2
    refine bodyPost_ret (v := .tuple #[.agg #[.int .i64 m.k, .int .i64 m.f, .int .i64 m.t, .int .i64 m.b, .int .i64 m.s, .int .i64 m.p.c, .int .i64 m.p.q, .int .i64 m.p.h, .string m.p.t, .slice ao an ac], .int .i64 0]) (by simp [results, Tryz.results21, go_sem, hqc, hqf, S]) rfl ⟨fun _ => ⟨_, rfl, ?_⟩, fun h => by simp at h, ?_⟩
    · iterate 10 refine ownsRow_setCell_other ?_ (by exact hnq) _
      exact hownB
    · repeat refine Below.setCell ?_ (by simp) _
      exact ((Below.refl _ _).alloc (Nat.le_refl _) _).trans (hb.mono (by simp))
end Go.Proofs.YtnnhnekfokbooaaGreatDoor
