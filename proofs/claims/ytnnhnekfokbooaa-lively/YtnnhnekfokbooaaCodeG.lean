/- The walk of a replica's yield. -/
import Derived.Test.YtnnhnekfokbooaaCodeF
import Derived.Handy
namespace Go.Proofs.Ytnnhnekfokbooaa
open Go.RowKit
set_option linter.unusedSimpArgs false
set_option linter.unusedVariables false

/-- The role of one that is idle, as a value. -/
def idleV : Value := .iface 89 (.agg #[.int .i64 0, .int .i64 0])

set_option maxRecDepth 100000 in
theorem std_two (a b : Value) : (List.take Try.prog.types[87].size [a, b]).toArray = #[a, b] := by kernel_rfl

set_option maxRecDepth 100000 in
theorem meth_info_prep : (Try.prog.info? 91).map (fun i => (i.methods.find? (·.name == "synod/replica.below")).map (fun m => (m.path, m.func))) = some (some (#[⟨96, 0, true⟩], some (102, false))) := by kernel_rfl
set_option maxRecDepth 100000 in
theorem meth_prep (n pb : Nat) (kd bal : Int) (w : World) (hk : w.cell? ⟨pb, 0, none⟩ = some (.int .i64 kd)) (hb : w.cell? ⟨pb, 1, none⟩ = some (.int .i64 bal)) :
    (method (n + 1) 91 (.pointer (some ⟨pb, 0, none⟩)) "synod/replica.below").run Try.prog w = .ok (102, .agg #[.int .i64 kd, .int .i64 bal]) w := by
  have h0 := meth_info_prep
  cases hi : Try.prog.info? 91 with
  | none => rw [hi] at h0; cases h0
  | some i =>
    rw [hi] at h0
    simp only [Option.map_some, Option.some.injEq] at h0
    cases hm : i.methods.find? (·.name == "synod/replica.below") with
    | none => rw [hm] at h0; cases h0
    | some m =>
      rw [hm] at h0
      simp only [Option.map_some, Option.some.injEq, Prod.mk.injEq] at h0
      obtain ⟨hp, hf⟩ := h0
      have hr : w.rangeAt pb 0 [.int .i64 kd, .int .i64 bal] := fun j u hu => by
        rcases j with _ | _ | j
        · simp at hu; subst hu; exact hk
        · simp at hu; subst hu; exact hb
        · simp at hu
      have hlv := run_loadVar_mid (P := Try.prog) w pb 0 87 [.int .i64 kd, .int .i64 bal] _ hr Try.underlying87 rfl (by kernel_rfl)
      unfold method
      simp [fieldPlace, hlv, Addr.add_mid, typeInfo, hi, hm, hp, hf, follow, run_underlying Try.underlying96, run_underlying Try.underlying87, Place.get, asAddr, receiverAt]
set_option maxRecDepth 100000 in
theorem meth_info_lead : (Try.prog.info? 102).map (fun i => (i.methods.find? (·.name == "synod/replica.below")).map (fun m => (m.path, m.func))) = some (some (#[⟨108, 0, true⟩], some (102, false))) := by kernel_rfl
set_option maxRecDepth 100000 in
theorem meth_lead (n pb : Nat) (kd bal : Int) (w : World) (hk : w.cell? ⟨pb, 0, none⟩ = some (.int .i64 kd)) (hb : w.cell? ⟨pb, 1, none⟩ = some (.int .i64 bal)) :
    (method (n + 1) 102 (.pointer (some ⟨pb, 0, none⟩)) "synod/replica.below").run Try.prog w = .ok (102, .agg #[.int .i64 kd, .int .i64 bal]) w := by
  have h0 := meth_info_lead
  cases hi : Try.prog.info? 102 with
  | none => rw [hi] at h0; cases h0
  | some i =>
    rw [hi] at h0
    simp only [Option.map_some, Option.some.injEq] at h0
    cases hm : i.methods.find? (·.name == "synod/replica.below") with
    | none => rw [hm] at h0; cases h0
    | some m =>
      rw [hm] at h0
      simp only [Option.map_some, Option.some.injEq, Prod.mk.injEq] at h0
      obtain ⟨hp, hf⟩ := h0
      have hr : w.rangeAt pb 0 [.int .i64 kd, .int .i64 bal] := fun j u hu => by
        rcases j with _ | _ | j
        · simp at hu; subst hu; exact hk
        · simp at hu; subst hu; exact hb
        · simp at hu
      have hlv := run_loadVar_mid (P := Try.prog) w pb 0 87 [.int .i64 kd, .int .i64 bal] _ hr Try.underlying87 rfl (by kernel_rfl)
      unfold method
      simp [fieldPlace, hlv, Addr.add_mid, typeInfo, hi, hm, hp, hf, follow, run_underlying Try.underlying108, run_underlying Try.underlying87, Place.get, asAddr, receiverAt]

/-- A role, as a value, whose ballot is so much. -/
def RoleAt (w : World) (rv : Value) (bal : Int) : Prop :=
  (rv = idleV ∧ bal = 0) ∨ ∃ t pb kd, (t = 91 ∨ t = 102) ∧ rv = .iface t (.pointer (some ⟨pb, 0, none⟩)) ∧ w.cell? ⟨pb, 0, none⟩ = some (.int .i64 kd) ∧ w.cell? ⟨pb, 1, none⟩ = some (.int .i64 bal)

set_option maxHeartbeats 4000000 in
set_option maxRecDepth 100000 in
theorem yield_any (rb : Nat) (cs : Array Value) (rv : Value) (s n bal : Int) (w : World) (hb : w.heap[rb]? = some (.cells cs 85 (0, 0))) (h4 : cs[4]? = some (.int .i64 s)) (hr : cs[181]? = some rv) (hrole : RoleAt w rv bal) :
    Calls Try.prog 83 #[.pointer (some ⟨rb, 0, none⟩), .int .i64 n] w fun e w' => e = .returned (.tuple #[]) ∧ w'.heap[rb]? = some (.cells ((if bal < n then cs.setIfInBounds 181 idleV else cs).setIfInBounds 4 (.int .i64 (max s n))) 85 (0, 0)) ∧ Keeps (fun k => k = rb) w w' := by
  have hlt := lt_of_block hb
  have c4 : w.cell? ⟨rb, 4, none⟩ = some (.int .i64 s) := (blk_cell hb 4).trans h4
  have cr : w.cell? ⟨rb, 181, none⟩ = some rv := (blk_cell hb 181).trans hr
  rcases hrole with ⟨rfl, rfl⟩ | ⟨t, pb, kd, ht, rfl, hk, hba⟩
  · simp only [idleV] at cr hr
    go_enter Try.func83, Try.ntmps83
    go_wp2_with fail
    rw [std_two]
    refine (below_any 0 0 n w).mono ?_
    rintro e w1 ⟨rfl, hB1⟩
    have hb1 := blk_below hB1 hb
    have hs1 := (blk_cell hb1 4).trans h4
    have hr1 := (blk_cell hb1 181).trans hr
    have hf1 := blk_free hb1
    by_cases hlt2 : 0 < n
    · have hd : decide (0 < n) = true := by simpa using hlt2
      rw [hd]
      go_wp2_with fail
      all_goals
        go_end0
        refine ⟨rfl, ?_, ((Keeps.ofBelow (P := fun k => k = rb) hB1).setAt (a := ⟨rb, 181, none⟩) (.inl rfl) _).setAt (a := ⟨rb, 4, none⟩) (.inl rfl) _⟩
        try rw [if_pos hlt2]
        have X := blk_set (blk_set hb1 181 idleV) 4 (.int .i64 (max s n))
        first
          | (have e : max s n = n := by omega
             rw [e] at X ⊢
             exact X)
          | (have e : max s n = s := by omega
             rw [e] at X ⊢
             exact X)
    · have hd : decide (0 < n) = false := by simpa using hlt2
      rw [hd]
      go_wp2_with fail
      all_goals
        go_end0
        refine ⟨rfl, ?_, (Keeps.ofBelow (P := fun k => k = rb) hB1).setAt (a := ⟨rb, 4, none⟩) (.inl rfl) _⟩
        try rw [if_neg (by omega)]
        have X := blk_set hb1 4 (.int .i64 (max s n))
        first
          | (have e : max s n = n := by omega
             rw [e] at X ⊢
             exact X)
          | (have e : max s n = s := by omega
             rw [e] at X ⊢
             exact X)
  · rcases ht with rfl | rfl
    · have hm := fun k => meth_prep k pb kd bal w hk hba
      go_enter Try.func83, Try.ntmps83
      go_wp2_with fail
      clear hm
      refine (below_any kd bal n w).mono ?_
      rintro e w1 ⟨rfl, hB1⟩
      have hb1 := blk_below hB1 hb
      have hs1 := (blk_cell hb1 4).trans h4
      have hr1 := (blk_cell hb1 181).trans hr
      have hf1 := blk_free hb1
      by_cases hlt2 : bal < n
      · have hd : decide (bal < n) = true := by simpa using hlt2
        rw [hd]
        go_wp2_with fail
        all_goals
          go_end0
          refine ⟨rfl, ?_, ((Keeps.ofBelow (P := fun k => k = rb) hB1).setAt (a := ⟨rb, 181, none⟩) (.inl rfl) _).setAt (a := ⟨rb, 4, none⟩) (.inl rfl) _⟩
          try rw [if_pos hlt2]
          have X := blk_set (blk_set hb1 181 idleV) 4 (.int .i64 (max s n))
          first
            | (have e : max s n = n := by omega
               rw [e] at X ⊢
               exact X)
            | (have e : max s n = s := by omega
               rw [e] at X ⊢
               exact X)
      · have hd : decide (bal < n) = false := by simpa using hlt2
        rw [hd]
        go_wp2_with fail
        all_goals
          go_end0
          refine ⟨rfl, ?_, (Keeps.ofBelow (P := fun k => k = rb) hB1).setAt (a := ⟨rb, 4, none⟩) (.inl rfl) _⟩
          try rw [if_neg (by omega)]
          have X := blk_set hb1 4 (.int .i64 (max s n))
          first
            | (have e : max s n = n := by omega
               rw [e] at X ⊢
               exact X)
            | (have e : max s n = s := by omega
               rw [e] at X ⊢
               exact X)
    · have hm := fun k => meth_lead k pb kd bal w hk hba
      go_enter Try.func83, Try.ntmps83
      go_wp2_with fail
      clear hm
      refine (below_any kd bal n w).mono ?_
      rintro e w1 ⟨rfl, hB1⟩
      have hb1 := blk_below hB1 hb
      have hs1 := (blk_cell hb1 4).trans h4
      have hr1 := (blk_cell hb1 181).trans hr
      have hf1 := blk_free hb1
      by_cases hlt2 : bal < n
      · have hd : decide (bal < n) = true := by simpa using hlt2
        rw [hd]
        go_wp2_with fail
        all_goals
          go_end0
          refine ⟨rfl, ?_, ((Keeps.ofBelow (P := fun k => k = rb) hB1).setAt (a := ⟨rb, 181, none⟩) (.inl rfl) _).setAt (a := ⟨rb, 4, none⟩) (.inl rfl) _⟩
          try rw [if_pos hlt2]
          have X := blk_set (blk_set hb1 181 idleV) 4 (.int .i64 (max s n))
          first
            | (have e : max s n = n := by omega
               rw [e] at X ⊢
               exact X)
            | (have e : max s n = s := by omega
               rw [e] at X ⊢
               exact X)
      · have hd : decide (bal < n) = false := by simpa using hlt2
        rw [hd]
        go_wp2_with fail
        all_goals
          go_end0
          refine ⟨rfl, ?_, (Keeps.ofBelow (P := fun k => k = rb) hB1).setAt (a := ⟨rb, 4, none⟩) (.inl rfl) _⟩
          try rw [if_neg (by omega)]
          have X := blk_set hb1 4 (.int .i64 (max s n))
          first
            | (have e : max s n = n := by omega
               rw [e] at X ⊢
               exact X)
            | (have e : max s n = s := by omega
               rw [e] at X ⊢
               exact X)
end Go.Proofs.Ytnnhnekfokbooaa
