/- The walk of a replica's yield. The walk of the list of all replicas' numbers. (Joined by merge.py.) -/
import Derived.Test.YtnnhnekfokbooaaGreatDoorVo04
import Derived.Handy
namespace Go.Proofs.YtnnhnekfokbooaaGreatDoor
open Go.RowKit
set_option linter.unusedSimpArgs false
set_option linter.unusedVariables false

/-- The role of one that is idle, as a value. -/
def idleV : Value := .iface 129 (.agg #[.int .i64 0, .int .i64 0])

set_option maxRecDepth 100000 in
theorem std_two (a b : Value) : (List.take Tryz.prog.types[127].size [a, b]).toArray = #[a, b] := by kernel_rfl

set_option maxRecDepth 100000 in
theorem meth_info_prep : (Tryz.prog.info? 152).map (fun i => (i.methods.find? (·.name == "synod/replica.below")).map (fun m => (m.path, m.func))) = some (some (#[⟨156, 0, true⟩], some (159, false))) := by kernel_rfl
set_option maxRecDepth 100000 in
theorem meth_prep (n pb : Nat) (kd bal : Int) (w : World) (hk : w.cell? ⟨pb, 0, none⟩ = some (.int .i64 kd)) (hb : w.cell? ⟨pb, 1, none⟩ = some (.int .i64 bal)) :
  (method (n + 1) 152 (.pointer (some ⟨pb, 0, none⟩)) "synod/replica.below").run Tryz.prog w = .ok (159, .agg #[.int .i64 kd, .int .i64 bal]) w := by
 have h0 := meth_info_prep
 cases hi : Tryz.prog.info? 152 with
 | none => rw [hi] at h0; cases h0
 | some i =>
  rw [hi] at h0
  simp only [Option.map_some, Option.some.injEq] at h0
  cases hm : i.methods.find? (·.name == "synod/replica.below") with
  | none => rw [hm] at h0; cases h0
  | some m =>
   rw [hm] at h0
   simp only [Option.map_some, Option.some.injEq, Prod.mk.injEq] at h0
   obtain ⟨hp, hf⟩ := h0
   have hr : w.rangeAt pb 0 [.int .i64 kd, .int .i64 bal] := fun j u hu => by
    rcases j with _ | _ | j
    ·simp at hu; subst hu; exact hk
    ·simp at hu; subst hu; exact hb
    ·simp at hu
   have hlv := run_loadVar_mid (P := Tryz.prog) w pb 0 127 [.int .i64 kd, .int .i64 bal] _ hr Tryz.underlying127 rfl (by kernel_rfl)
   unfold method
   simp [fieldPlace, hlv, Addr.add_mid, typeInfo, hi, hm, hp, hf, follow, run_underlying Tryz.underlying156, run_underlying Tryz.underlying127, Place.get, asAddr, receiverAt]
set_option maxRecDepth 100000 in
theorem meth_info_lead : (Tryz.prog.info? 160).map (fun i => (i.methods.find? (·.name == "synod/replica.below")).map (fun m => (m.path, m.func))) = some (some (#[⟨166, 0, true⟩], some (159, false))) := by kernel_rfl
set_option maxRecDepth 100000 in
theorem meth_lead (n pb : Nat) (kd bal : Int) (w : World) (hk : w.cell? ⟨pb, 0, none⟩ = some (.int .i64 kd)) (hb : w.cell? ⟨pb, 1, none⟩ = some (.int .i64 bal)) :
  (method (n + 1) 160 (.pointer (some ⟨pb, 0, none⟩)) "synod/replica.below").run Tryz.prog w = .ok (159, .agg #[.int .i64 kd, .int .i64 bal]) w := by
 have h0 := meth_info_lead
 cases hi : Tryz.prog.info? 160 with
 | none => rw [hi] at h0; cases h0
 | some i =>
  rw [hi] at h0
  simp only [Option.map_some, Option.some.injEq] at h0
  cases hm : i.methods.find? (·.name == "synod/replica.below") with
  | none => rw [hm] at h0; cases h0
  | some m =>
   rw [hm] at h0
   simp only [Option.map_some, Option.some.injEq, Prod.mk.injEq] at h0
   obtain ⟨hp, hf⟩ := h0
   have hr : w.rangeAt pb 0 [.int .i64 kd, .int .i64 bal] := fun j u hu => by
    rcases j with _ | _ | j
    ·simp at hu; subst hu; exact hk
    ·simp at hu; subst hu; exact hb
    ·simp at hu
   have hlv := run_loadVar_mid (P := Tryz.prog) w pb 0 127 [.int .i64 kd, .int .i64 bal] _ hr Tryz.underlying127 rfl (by kernel_rfl)
   unfold method
   simp [fieldPlace, hlv, Addr.add_mid, typeInfo, hi, hm, hp, hf, follow, run_underlying Tryz.underlying166, run_underlying Tryz.underlying127, Place.get, asAddr, receiverAt]

/-- A role, as a value, whose ballot is so much. -/
def RoleAt (w : World) (rv : Value) (bal : Int) : Prop :=
 (rv = idleV ∧ bal = 0) ∨ ∃ t pb kd, (t = 152 ∨ t = 160) ∧ rv = .iface t (.pointer (some ⟨pb, 0, none⟩)) ∧ w.cell? ⟨pb, 0, none⟩ = some (.int .i64 kd) ∧ w.cell? ⟨pb, 1, none⟩ = some (.int .i64 bal)

set_option maxHeartbeats 4000000 in
set_option maxRecDepth 100000 in
theorem yield_any (rb : Nat) (cs : Array Value) (rv : Value) (s n bal : Int) (w : World) (hb : w.heap[rb]? = some (.cells cs 137 (0, 0))) (h4 : cs[4]? = some (.int .i64 s)) (hr : cs[181]? = some rv) (hrole : RoleAt w rv bal) :
  Calls Tryz.prog 135 #[.pointer (some ⟨rb, 0, none⟩), .int .i64 n] w fun e w' => e = .returned (.tuple #[]) ∧ w'.heap[rb]? = some (.cells ((if bal < n then cs.setIfInBounds 181 idleV else cs).setIfInBounds 4 (.int .i64 (max s n))) 137 (0, 0)) ∧ Keeps (fun k => k = rb) w w' := by
 have hlt := lt_of_block hb
 have c4 : w.cell? ⟨rb, 4, none⟩ = some (.int .i64 s) := (blk_cell hb 4).trans h4
 have cr : w.cell? ⟨rb, 181, none⟩ = some rv := (blk_cell hb 181).trans hr
 rcases hrole with ⟨rfl, rfl⟩ | ⟨t, pb, kd, ht, rfl, hk, hba⟩
 ·simp only [idleV] at cr hr
  go_enter Tryz.func135, Tryz.ntmps135
  go_wp2_with fail
  rw [std_two]
  refine (below_any 0 0 n w).mono ?_
  rintro e w1 ⟨rfl, hB1⟩
  have hb1 := blk_below hB1 hb
  have hs1 := (blk_cell hb1 4).trans h4
  have hr1 := (blk_cell hb1 181).trans hr
  have hf1 := blk_free hb1
  by_cases hlt2 : 0 < n
  ·have hd : decide (0 < n) = true := by simpa using hlt2
   rw [hd]
   go_wp2_with fail
   all_goals
    go_end0
    refine ⟨rfl, ?_, ((Keeps.ofBelow (P := fun k => k = rb) hB1).setAt (a := ⟨rb, 181, none⟩) (.inl rfl) _).setAt (a := ⟨rb, 4, none⟩) (.inl rfl) _⟩
    try rw [if_pos hlt2]
    have X := blk_set (blk_set hb1 181 idleV) 4 (.int .i64 (max s n))
    first
     | (have e : max s n = n := by omega
        rw [e] at X ⊢
        exact X)
     | (have e : max s n = s := by omega
        rw [e] at X ⊢
        exact X)
  ·have hd : decide (0 < n) = false := by simpa using hlt2
   rw [hd]
   go_wp2_with fail
   all_goals
    go_end0
    refine ⟨rfl, ?_, (Keeps.ofBelow (P := fun k => k = rb) hB1).setAt (a := ⟨rb, 4, none⟩) (.inl rfl) _⟩
    try rw [if_neg (by omega)]
    have X := blk_set hb1 4 (.int .i64 (max s n))
    first
     | (have e : max s n = n := by omega
        rw [e] at X ⊢
        exact X)
     | (have e : max s n = s := by omega
        rw [e] at X ⊢
        exact X)
 ·rcases ht with rfl | rfl
  ·have hm := fun k => meth_prep k pb kd bal w hk hba
   go_enter Tryz.func135, Tryz.ntmps135
   go_wp2_with fail
   clear hm
   refine (below_any kd bal n w).mono ?_
   rintro e w1 ⟨rfl, hB1⟩
   have hb1 := blk_below hB1 hb
   have hs1 := (blk_cell hb1 4).trans h4
   have hr1 := (blk_cell hb1 181).trans hr
   have hf1 := blk_free hb1
   by_cases hlt2 : bal < n
   ·have hd : decide (bal < n) = true := by simpa using hlt2
    rw [hd]
    go_wp2_with fail
    all_goals
     go_end0
     refine ⟨rfl, ?_, ((Keeps.ofBelow (P := fun k => k = rb) hB1).setAt (a := ⟨rb, 181, none⟩) (.inl rfl) _).setAt (a := ⟨rb, 4, none⟩) (.inl rfl) _⟩
     try rw [if_pos hlt2]
     have X := blk_set (blk_set hb1 181 idleV) 4 (.int .i64 (max s n))
     first
      | (have e : max s n = n := by omega
         rw [e] at X ⊢
         exact X)
      | (have e : max s n = s := by omega
         rw [e] at X ⊢
         exact X)
   ·have hd : decide (bal < n) = false := by simpa using hlt2
    rw [hd]
    go_wp2_with fail
    all_goals
     go_end0
     refine ⟨rfl, ?_, (Keeps.ofBelow (P := fun k => k = rb) hB1).setAt (a := ⟨rb, 4, none⟩) (.inl rfl) _⟩
     try rw [if_neg (by omega)]
     have X := blk_set hb1 4 (.int .i64 (max s n))
     first
      | (have e : max s n = n := by omega
         rw [e] at X ⊢
         exact X)
      | (have e : max s n = s := by omega
         rw [e] at X ⊢
         exact X)
  ·have hm := fun k => meth_lead k pb kd bal w hk hba
   go_enter Tryz.func135, Tryz.ntmps135
   go_wp2_with fail
   clear hm
   refine (below_any kd bal n w).mono ?_
   rintro e w1 ⟨rfl, hB1⟩
   have hb1 := blk_below hB1 hb
   have hs1 := (blk_cell hb1 4).trans h4
   have hr1 := (blk_cell hb1 181).trans hr
   have hf1 := blk_free hb1
   by_cases hlt2 : bal < n
   ·have hd : decide (bal < n) = true := by simpa using hlt2
    rw [hd]
    go_wp2_with fail
    all_goals
     go_end0
     refine ⟨rfl, ?_, ((Keeps.ofBelow (P := fun k => k = rb) hB1).setAt (a := ⟨rb, 181, none⟩) (.inl rfl) _).setAt (a := ⟨rb, 4, none⟩) (.inl rfl) _⟩
     try rw [if_pos hlt2]
     have X := blk_set (blk_set hb1 181 idleV) 4 (.int .i64 (max s n))
     first
      | (have e : max s n = n := by omega
         rw [e] at X ⊢
         exact X)
      | (have e : max s n = s := by omega
         rw [e] at X ⊢
         exact X)
   ·have hd : decide (bal < n) = false := by simpa using hlt2
    rw [hd]
    go_wp2_with fail
    all_goals
     go_end0
     refine ⟨rfl, ?_, (Keeps.ofBelow (P := fun k => k = rb) hB1).setAt (a := ⟨rb, 4, none⟩) (.inl rfl) _⟩
     try rw [if_neg (by omega)]
     have X := blk_set hb1 4 (.int .i64 (max s n))
     first
      | (have e : max s n = n := by omega
         rw [e] at X ⊢
         exact X)
      | (have e : max s n = s := by omega
         rw [e] at X ⊢
         exact X)
end Go.Proofs.YtnnhnekfokbooaaGreatDoor

namespace Go.Proofs.YtnnhnekfokbooaaGreatDoor
open Go.RowKit
set_option linter.unusedSimpArgs false
set_option linter.unusedVariables false

/-- The numbers below n, as cells. -/
def nums (n : Nat) : List Value := (List.range n).map fun (i : Nat) => Value.int .i64 (i : Int)
theorem nums_length (n : Nat) : (nums n).length = n := by simp [nums]
theorem nums_at (n i : Nat) (h : i < n) : (nums n)[i]? = some (.int .i64 (i : Int)) := by simp [nums, h]
theorem Tryz.infoInt : (Tryz.prog.info? 3).map (fun i => (i.zero, i.size, i.bytes)) = some (some (.int .i64 0), 1, 8) := by kernel_rfl

set_option maxHeartbeats 4000000 in
set_option maxRecDepth 100000 in
theorem all_any (rb n : Nat) (w : World) (hc : w.cell? ⟨rb, 1, none⟩ = some (.int .i64 (n : Int))) (hn : n ≤ 1000) :
  Calls Tryz.prog 91 #[.pointer (some ⟨rb, 0, none⟩)] w fun e w' => ∃ v', e = .returned v' ∧ w'.ownsRow w.heap.size 3 1 v' n (nums n) ∧ Below w.heap.size w w' := by
 obtain ⟨i0, hi, hz0, hz1, hz2⟩ := info_parts Tryz.infoInt
 have hlt := World.block_lt_of_cell? w _ hc
 go_enter Tryz.func91, Tryz.ntmps91
 go_wp2_with (at_make; refine wpList_make_full _ rfl (.tmp 8) (.tmp 8) 158 rfl w.heap.size 3 i0 _ 1 Tryz.underlying158 hi hz0 hz1 _ _ _ _ n rfl rfl rfl rfl (by rw [hz2]; omega) (by unfold maxLen; omega) (Nat.le_refl _) ?_; intro w1 hown1 hgr1)
 obtain ⟨cur, hg1, hcs⟩ : ∃ cur : Array Value, w1.heap[w.heap.size]? = some (.cells cur 3 (0, 0)) ∧ cur.size = n := by
  rcases hown1.2 with ⟨h1, _⟩ | ⟨g, cap', cur, h1, _, h2, _, _, h3, _⟩
  ·cases h1
  ·cases h1; exact ⟨cur, h2, by simpa using h3⟩
 have hB1 : Below w.heap.size w w1 := ⟨hgr1.os, hgr1.tape, hgr1.output, hgr1.size, fun k hk => hgr1.block k hk (by simp)⟩
 clear hown1 hgr1
 go_loopw [4, 12] (fun q i wr => ∃ (j : Nat) (cz : Array Value), j ≤ n ∧ i = .int .i64 j ∧ wr.heap[w.heap.size]? = some (.cells cz 3 (0, 0)) ∧ cz.size = n ∧ (∀ x, x < j → cz[x]? = some (.int .i64 (x : Int))) ∧ Below w.heap.size w wr) (fun _ i _ => n - (intOf i).toNat)
 case atStart => exact ⟨0, cur, Nat.zero_le _, rfl, hg1, hcs, fun x hx => by omega, hB1⟩
 case round =>
  obtain ⟨j, cz, hj, rfl, hg, hsz, hx, hB⟩ := hrel
  by_cases hjn : j < n
  ·have hc0 : wr.cell? ⟨w.heap.size, j, none⟩ = some cz[j] := by rw [blk_cell hg]; exact Array.getElem?_eq_getElem (by omega)
   have hf0 := blk_free hg
   generalize cz[j] = y at *
   have q0 : (0 : Int) ≤ (j : Int) := by omega
   have q1 : (j : Int) < (n : Int) := by omega
   go_wp2_with fail
   go_roundw
   case rel =>
    refine ⟨j + 1, _, by omega, by go_num, blk_set hg j (.int .i64 (j : Int)), by simpa using hsz, fun x hxj => ?_, hB.setCell (by simp) _⟩
    by_cases e : x = j
    ·subst e
     rw [Array.getElem?_setIfInBounds_self_of_lt (by omega)]
    ·rw [Array.getElem?_setIfInBounds_ne (by omega)]
     exact hx x (by omega)
   case measure => simp [intOf]; omega
  ·obtain rfl : j = n := by omega
   go_wp2_with fail
   go_ret
   refine ⟨_, rfl, ⟨by simp [nums_length], .inr ⟨w.heap.size, j, cz, rfl, Nat.le_refl _, hg, Nat.le_refl _, by unfold maxLen; omega, by omega, ?_⟩⟩, hB⟩
   rw [Nat.mul_one, List.take_of_length_le (by simp; omega)]
   refine List.ext_getElem? fun x => ?_
   by_cases hxj : x < j
   ·rw [Array.getElem?_toList, hx x hxj, nums_at j x hxj]
   ·rw [List.getElem?_eq_none (by simp; omega), List.getElem?_eq_none (by rw [nums_length]; omega)]
end Go.Proofs.YtnnhnekfokbooaaGreatDoor
