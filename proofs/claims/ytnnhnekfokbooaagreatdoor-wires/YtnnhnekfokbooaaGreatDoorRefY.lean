/- The law's steps, one at a time. -/
import Derived.Test.YtnnhnekfokbooaaGreatDoorRefP
namespace Go.Proofs.YtnnhnekfokbooaaGreatDoor
open Go.RowKit
set_option linter.unusedSimpArgs false
set_option linter.unusedVariables false

/-- A step of a script. -/
structure Opd where
  k : Int
  n : Int
  a : Int
  b : Int
  s : ByteArray
  p : Pst
  m : Ms
  v : Value
def Opd.cells (o : Opd) : List Value := [.int .i64 o.k, .int .i64 o.n, .int .i64 o.a, .int .i64 o.b, .string o.s, .int .i64 o.p.c, .int .i64 o.p.q, .int .i64 o.p.h, .string o.p.t,
  .int .i64 o.m.k, .int .i64 o.m.f, .int .i64 o.m.t, .int .i64 o.m.b, .int .i64 o.m.s, .int .i64 o.m.p.c, .int .i64 o.m.p.q, .int .i64 o.m.p.h, .string o.m.p.t, o.v]

set_option maxHeartbeats 4000000 in
set_option maxRecDepth 100000 in
theorem step_pack (o : Opd) (wb H : Nat) (vs : List Value) (w : World) (h : WOK w wb H vs) (hk : Kinds w) (h12 : o.k = 12) (hv : VAt w o.v o.m.a) (hn : (o.m.a.length + 1) * 56 ≤ 281474976710656) :
    Calls Tryz.prog 7 #[.pointer (some ⟨wb, 0, none⟩), .agg o.cells.toArray] w fun e w' => e = .returned (.bool true) ∧ WOK w' wb H vs ∧ Below w.heap.size w w' := by
  have hP := fun W hk hv => packed_any o.m o.v W hk hv hn
  obtain ⟨ok, on, oa, ob, os, ⟨pc, pq, ph, pt⟩, ⟨mk, mf, mt, mb, ms, ⟨mc, mq, mh, mx⟩, ma⟩, v⟩ := o
  simp only [mval, Opd.cells] at *
  subst h12
  obtain ⟨ao, cap, rfl, _⟩ := hv.form
  go_enter Tryz.func7, Tryz.ntmps7
  go_wp2_with fail
  refine (hP _ (hk.alloc _) (hv.alloc _)).mono ?_
  rintro e w1 ⟨rfl, hB1⟩
  clear hP
  have hBw : Below w.heap.size w w1 := ((Below.refl _ w).alloc (Nat.le_refl _) _).trans (hB1.mono (by simp))
  go_wp2_with fail
  go_ret
  exact ⟨rfl, h.below hBw, hBw⟩

set_option maxHeartbeats 4000000 in
set_option maxRecDepth 100000 in
theorem step_unpack (o : Opd) (wb H : Nat) (vs : List Value) (w : World) (h : WOK w wb H vs) (hk : Kinds w) (h13 : o.k = 13) (hl : o.s.size ≤ 9223372036854775807) (hlen : vs.length ≤ 5000000000000) (hv : ∃ ao n cap, o.v = .slice ao n cap) :
    Calls Tryz.prog 7 #[.pointer (some ⟨wb, 0, none⟩), .agg o.cells.toArray] w fun e w' => e = .returned (.bool true) ∧ (∃ vs', vs'.length = vs.length + 4 ∧ WOK w' wb H vs') ∧ Keeps (fun k => k = wb ∨ H ≤ k) w w' := by
  have hlt : o.s.data.toList.length ≤ 9223372036854775807 := by
    have e : o.s.data.toList.length = o.s.size := by rw [Array.length_toList]; rfl
    omega
  have hU := fun W hw hk => unpacked_any wb H vs o.s.data.toList W hw hk hlt hlen
  simp only [S_eta] at hU
  obtain ⟨ok, on, oa, ob, os, ⟨pc, pq, ph, pt⟩, ⟨mk, mf, mt, mb, ms, ⟨mc, mq, mh, mx⟩, ma⟩, v⟩ := o
  simp only [Opd.cells] at *
  subst h13
  obtain ⟨ao, n, cap, rfl⟩ := hv
  clear hlt
  go_enter Tryz.func7, Tryz.ntmps7
  go_wp2_with fail
  refine (hU _ (h.below ((Below.refl _ w).alloc (Nat.le_refl _) _)) (hk.alloc _)).mono ?_
  rintro e w1 ⟨rfl, hW1, hK1⟩
  clear hU
  go_wp2_with fail
  go_ret
  exact ⟨rfl, hW1, (Keeps.ofAlloc _ _).trans hK1⟩
end Go.Proofs.YtnnhnekfokbooaaGreatDoor
