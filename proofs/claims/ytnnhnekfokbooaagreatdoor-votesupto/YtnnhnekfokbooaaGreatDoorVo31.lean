/- The walks of slices.ContainsFunc and IndexFunc with the program's own closures (laid by mksynp.py). -/
import Derived.Test.YtnnhnekfokbooaaGreatDoorVo08
namespace Go.Proofs.YtnnhnekfokbooaaGreatDoor
open Go.RowKit
set_option linter.unusedSimpArgs false
set_option linter.unusedVariables false

theorem decEq_any (m : Bool) (c q h : Int) (t : ByteArray) (bx : Nat) (c' q' h' : Int) (t' : ByteArray) (w : World) (hb : w.heap[bx]? = some (.cells #[.int .i64 c', .int .i64 q', .int .i64 h', .string t'] 33 (0, 0))) :
  Calls Tryz.prog 124 #[.agg #[.bool m, .int .i64 c, .int .i64 q, .int .i64 h, .string t], .pointer (some ⟨bx, 0, none⟩)] w fun e w' => e = .returned (.bool (c == c' && q == q')) ∧ Below w.heap.size w w' := by
 have hb1 := blk_alloc hb (.cells #[.bool m, .int .i64 c, .int .i64 q, .int .i64 h, .string t] 132)
 have hc := blk_cell hb1
 have hn := blk_cell (blk_new w (.cells #[.bool m, .int .i64 c, .int .i64 q, .int .i64 h, .string t] 132))
 go_enter Tryz.func124, Tryz.ntmps124
 go_wp2_with fail
 refine (sameName_any c q h t c' q' h' t' _).mono ?_
 rintro e w2 ⟨rfl, hB⟩
 go_wp2_with fail
 go_ret
 exact ⟨rfl, Below.trans ((Below.refl _ w).alloc (Nat.le_refl _) _) (hB.mono (by simp))⟩

set_option maxHeartbeats 1000000 in
set_option maxRecDepth 100000 in
theorem decIx_any (rb bx cap : Nat) (l : List Dn) (p : Pst) (w : World) (hr : w.rangeAt rb 101 (dcells l)) (hll : l.length ≤ 1000000) (hb : w.heap[bx]? = some (.cells #[.int .i64 p.c, .int .i64 p.q, .int .i64 p.h, .string p.t] 33 (0, 0))) :
  Calls Tryz.prog 140 #[.slice (some ⟨rb, 101, none⟩) l.length cap, .func (.func 124) #[] #[.pointer (some ⟨bx, 0, none⟩)]] w fun e w' => ∃ j : Int, e = .returned (.int .i64 j) ∧ decide (0 ≤ j) = l.any (fun d => sameB d.p p) ∧ Below w.heap.size w w' := by
 have hbl := lt_of_block hb
 obtain ⟨pc, pq, ph, pt⟩ := p
 obtain ⟨N, hN⟩ : ∃ N, N = l.length := ⟨_, rfl⟩
 rw [← hN]
 have n1 : N ≤ l.length := by omega
 have n2 : l.length ≤ N := by omega
 clear hN
 go_enter Tryz.func140, Tryz.ntmps140
 go_wp2_with fail
 go_loopw [5, 8] (fun q i wr => ∃ j : Nat, j ≤ N ∧ i = .int .i64 j ∧ (l.take j).any (fun d => sameB d.p ⟨pc, pq, ph, pt⟩) = false ∧ Below w.heap.size w wr) (fun _ i _ => N - (intOf i).toNat)
 case atStart => exact ⟨0, by omega, rfl, by simp, Below.refl _ _⟩
 case round =>
  obtain ⟨j, hj, rfl, hany, hB⟩ := hrel
  by_cases hjn : j < N
  ·have hjl : j < l.length := by omega
   have q0 : (0 : Int) ≤ (j : Int) := by omega
   have q1 : (j : Int) < (N : Int) := by omega
   have htk : l.take (j + 1) = l.take j ++ [l[j]] := by rw [List.take_add_one, List.getElem?_eq_getElem hjl]; rfl
   have Htk : Hid (l.take (j + 1) = l.take j ++ [l[j]]) := htk
   have Hmem : Hid (l[j] ∈ l) := List.getElem_mem hjl
   have Hany : Hid ((l.take j).any (fun d => sameB d.p ⟨pc, pq, ph, pt⟩) = false) := hany
   have hbr := blk_below hB hb
   clear htk hany
   have hw : ∀ k, k < 5 → wr.cell? ⟨rb, 101 + j * 5 + k, none⟩ = l[j].cells[k]? := fun k hk => by
    have hlt : rb < w.heap.size := World.block_lt_of_cell? w _ (hr 0 (.bool (l[0]'(by omega)).m) (by rcases l with _ | ⟨x, l⟩; simp at hjl; rfl))
    rw [hB.cell (p := ⟨rb, 101 + j * 5 + k, none⟩) hlt]
    have e2 := dcells_cut l j hjl
    have e3 : ((List.drop (j * 5) (dcells l)).take 5)[k]? = (dcells l)[j * 5 + k]? := by rw [List.getElem?_take, if_pos hk, List.getElem?_drop]
    have hlen : k < l[j].cells.length := hk
    have h9 : (dcells l)[j * 5 + k]? = some (l[j].cells[k]'hlen) := by rw [← e3, e2, List.getElem?_eq_getElem hlen]
    have h8 := hr (j * 5 + k) _ h9
    rw [← Nat.add_assoc] at h8
    rw [h8, List.getElem?_eq_getElem hlen]
   generalize hd : l[j] = d at *
   obtain ⟨dm, dc, dq, dh, dt⟩ := d
   have c0 : wr.cell? ⟨rb, 101 + j * 5, none⟩ = some (.bool dm) := hw 0 (by decide)
   have c1 : wr.cell? ⟨rb, 101 + j * 5 + 1, none⟩ = some (.int .i64 dc) := hw 1 (by decide)
   have c2 : wr.cell? ⟨rb, 101 + j * 5 + 2, none⟩ = some (.int .i64 dq) := hw 2 (by decide)
   have c3 : wr.cell? ⟨rb, 101 + j * 5 + 3, none⟩ = some (.int .i64 dh) := hw 3 (by decide)
   have c4 : wr.cell? ⟨rb, 101 + j * 5 + 4, none⟩ = some (.string dt) := hw 4 (by decide)
   have Hd : Hid (Dn.mk dm ⟨dc, dq, dh, dt⟩ = l[j]) := hd.symm
   clear hw hd
   go_wp2_with fail
   refine (decEq_any dm dc dq dh dt bx pc pq ph pt wr hbr).mono ?_
   rintro e w2 ⟨rfl, hB2⟩
   have hB3 : Below w.heap.size w w2 := Below.trans hB (hB2.mono hB.size)
   cases hs : (dc == pc && dq == pq)
   ·go_wp2_with fail
    go_roundw
    case rel =>
     refine ⟨j + 1, by omega, by go_num, ?_, hB3⟩
     rw [Htk.out, List.any_append, Hany.out]
     simp [sameB, hs]
    case measure => simp [intOf]; omega
   ·go_wp2_with fail
    go_ret
    refine ⟨(j : Int), rfl, ?_, hB3⟩
    rw [decide_eq_true (by omega)]
    symm
    rw [List.any_eq_true]
    exact ⟨_, Hmem.out, hs⟩
  ·obtain rfl : j = N := by omega
   go_wp2_with fail
   go_ret
   refine ⟨-1, rfl, ?_, hB⟩
   rw [List.take_of_length_le n2] at hany
   rw [hany]
   decide
theorem decHas_any (rb bx cap : Nat) (l : List Dn) (p : Pst) (w : World) (hr : w.rangeAt rb 101 (dcells l)) (hll : l.length ≤ 1000000) (hb : w.heap[bx]? = some (.cells #[.int .i64 p.c, .int .i64 p.q, .int .i64 p.h, .string p.t] 33 (0, 0))) :
  Calls Tryz.prog 123 #[.slice (some ⟨rb, 101, none⟩) l.length cap, .func (.func 124) #[] #[.pointer (some ⟨bx, 0, none⟩)]] w fun e w' => e = .returned (.bool (l.any (fun d => sameB d.p p))) ∧ Below w.heap.size w w' := by
 have hI := decIx_any rb bx cap l p w hr hll hb
 go_enter Tryz.func123, Tryz.ntmps123
 go_wp2_with fail
 refine hI.mono ?_
 rintro e w2 ⟨j, rfl, hj, hB⟩
 clear hI
 go_wp2_with fail
 go_ret
 exact ⟨rfl, hB⟩

theorem proEq_any (c q h : Int) (t : ByteArray) (a0 a1 a2 a3 a4 a5 a6 : Bool) (n : Int) (bx : Nat) (c' q' h' : Int) (t' : ByteArray) (w : World) (hb : w.heap[bx]? = some (.cells #[.int .i64 c', .int .i64 q', .int .i64 h', .string t'] 33 (0, 0))) :
  Calls Tryz.prog 126 #[.agg #[.int .i64 c, .int .i64 q, .int .i64 h, .string t, .bool a0, .bool a1, .bool a2, .bool a3, .bool a4, .bool a5, .bool a6, .int .i64 n], .pointer (some ⟨bx, 0, none⟩)] w fun e w' => e = .returned (.bool (c == c' && q == q')) ∧ Below w.heap.size w w' := by
 have hb1 := blk_alloc hb (.cells #[.int .i64 c, .int .i64 q, .int .i64 h, .string t, .bool a0, .bool a1, .bool a2, .bool a3, .bool a4, .bool a5, .bool a6, .int .i64 n] 163)
 have hc := blk_cell hb1
 have hn := blk_cell (blk_new w (.cells #[.int .i64 c, .int .i64 q, .int .i64 h, .string t, .bool a0, .bool a1, .bool a2, .bool a3, .bool a4, .bool a5, .bool a6, .int .i64 n] 163))
 go_enter Tryz.func126, Tryz.ntmps126
 go_wp2_with fail
 refine (sameName_any c q h t c' q' h' t' _).mono ?_
 rintro e w2 ⟨rfl, hB⟩
 go_wp2_with fail
 go_ret
 exact ⟨rfl, Below.trans ((Below.refl _ w).alloc (Nat.le_refl _) _) (hB.mono (by simp))⟩

set_option maxHeartbeats 1000000 in
set_option maxRecDepth 100000 in
theorem proIx_any (rb bx cap : Nat) (l : List Pp) (p : Pst) (w : World) (hr : ∀ j (hj : j < l.length), rb < w.heap.size ∧ l[j].t.v.length = 7 ∧ ∀ k, k < 12 → w.cell? ⟨rb, 3 + j * 12 + k, none⟩ = l[j].cells[k]?) (hll : l.length ≤ 1000000) (hb : w.heap[bx]? = some (.cells #[.int .i64 p.c, .int .i64 p.q, .int .i64 p.h, .string p.t] 33 (0, 0))) :
  Calls Tryz.prog 141 #[.slice (some ⟨rb, 3, none⟩) l.length cap, .func (.func 126) #[] #[.pointer (some ⟨bx, 0, none⟩)]] w fun e w' => ∃ j : Int, e = .returned (.int .i64 j) ∧ decide (0 ≤ j) = l.any (fun d => sameB d.p p) ∧ Below w.heap.size w w' := by
 have hbl := lt_of_block hb
 obtain ⟨pc, pq, ph, pt⟩ := p
 obtain ⟨N, hN⟩ : ∃ N, N = l.length := ⟨_, rfl⟩
 rw [← hN]
 have n1 : N ≤ l.length := by omega
 have n2 : l.length ≤ N := by omega
 clear hN
 go_enter Tryz.func141, Tryz.ntmps141
 go_wp2_with fail
 go_loopw [5, 8] (fun q i wr => ∃ j : Nat, j ≤ N ∧ i = .int .i64 j ∧ (l.take j).any (fun d => sameB d.p ⟨pc, pq, ph, pt⟩) = false ∧ Below w.heap.size w wr) (fun _ i _ => N - (intOf i).toNat)
 case atStart => exact ⟨0, by omega, rfl, by simp, Below.refl _ _⟩
 case round =>
  obtain ⟨j, hj, rfl, hany, hB⟩ := hrel
  by_cases hjn : j < N
  ·have hjl : j < l.length := by omega
   have q0 : (0 : Int) ≤ (j : Int) := by omega
   have q1 : (j : Int) < (N : Int) := by omega
   have htk : l.take (j + 1) = l.take j ++ [l[j]] := by rw [List.take_add_one, List.getElem?_eq_getElem hjl]; rfl
   have Htk : Hid (l.take (j + 1) = l.take j ++ [l[j]]) := htk
   have Hmem : Hid (l[j] ∈ l) := List.getElem_mem hjl
   have Hany : Hid ((l.take j).any (fun d => sameB d.p ⟨pc, pq, ph, pt⟩) = false) := hany
   have hbr := blk_below hB hb
   clear htk hany
   have hw : ∀ k, k < 12 → wr.cell? ⟨rb, 3 + j * 12 + k, none⟩ = l[j].cells[k]? := fun k hk => by
    rw [hB.cell (p := ⟨rb, 3 + j * 12 + k, none⟩) (hr j hjl).1]
    exact (hr j hjl).2.2 k hk
   have hv7 : l[j].t.v.length = 7 := (hr j hjl).2.1
   generalize hd : l[j] = d at *
   obtain ⟨⟨dc, dq, dh, dt⟩, ⟨dv, dn⟩⟩ := d
   obtain ⟨a0, a1, a2, a3, a4, a5, a6, rfl⟩ : ∃ a0 a1 a2 a3 a4 a5 a6, dv = [a0, a1, a2, a3, a4, a5, a6] := by
    have h7 : dv.length = 7 := hv7
    match dv, h7 with
    | [a0, a1, a2, a3, a4, a5, a6], _ => exact ⟨a0, a1, a2, a3, a4, a5, a6, rfl⟩
   have c0 : wr.cell? ⟨rb, 3 + j * 12, none⟩ = some (.int .i64 dc) := hw 0 (by decide)
   have c1 : wr.cell? ⟨rb, 3 + j * 12 + 1, none⟩ = some (.int .i64 dq) := hw 1 (by decide)
   have c2 : wr.cell? ⟨rb, 3 + j * 12 + 2, none⟩ = some (.int .i64 dh) := hw 2 (by decide)
   have c3 : wr.cell? ⟨rb, 3 + j * 12 + 3, none⟩ = some (.string dt) := hw 3 (by decide)
   have c4 : wr.cell? ⟨rb, 3 + j * 12 + 4, none⟩ = some (.bool a0) := hw 4 (by decide)
   have c5 : wr.cell? ⟨rb, 3 + j * 12 + 5, none⟩ = some (.bool a1) := hw 5 (by decide)
   have c6 : wr.cell? ⟨rb, 3 + j * 12 + 6, none⟩ = some (.bool a2) := hw 6 (by decide)
   have c7 : wr.cell? ⟨rb, 3 + j * 12 + 7, none⟩ = some (.bool a3) := hw 7 (by decide)
   have c8 : wr.cell? ⟨rb, 3 + j * 12 + 8, none⟩ = some (.bool a4) := hw 8 (by decide)
   have c9 : wr.cell? ⟨rb, 3 + j * 12 + 9, none⟩ = some (.bool a5) := hw 9 (by decide)
   have c10 : wr.cell? ⟨rb, 3 + j * 12 + 10, none⟩ = some (.bool a6) := hw 10 (by decide)
   have c11 : wr.cell? ⟨rb, 3 + j * 12 + 11, none⟩ = some (.int .i64 dn) := hw 11 (by decide)
   have Hd : Hid (Pp.mk ⟨dc, dq, dh, dt⟩ ⟨[a0, a1, a2, a3, a4, a5, a6], dn⟩ = l[j]) := hd.symm
   clear hw hd hv7
   go_wp2_with fail
   refine (proEq_any dc dq dh dt a0 a1 a2 a3 a4 a5 a6 dn bx pc pq ph pt wr hbr).mono ?_
   rintro e w2 ⟨rfl, hB2⟩
   have hB3 : Below w.heap.size w w2 := Below.trans hB (hB2.mono hB.size)
   cases hs : (dc == pc && dq == pq)
   ·go_wp2_with fail
    go_roundw
    case rel =>
     refine ⟨j + 1, by omega, by go_num, ?_, hB3⟩
     rw [Htk.out, List.any_append, Hany.out]
     simp [sameB, hs]
    case measure => simp [intOf]; omega
   ·go_wp2_with fail
    go_ret
    refine ⟨(j : Int), rfl, ?_, hB3⟩
    rw [decide_eq_true (by omega)]
    symm
    rw [List.any_eq_true]
    exact ⟨_, Hmem.out, hs⟩
  ·obtain rfl : j = N := by omega
   go_wp2_with fail
   go_ret
   refine ⟨-1, rfl, ?_, hB⟩
   rw [List.take_of_length_le n2] at hany
   rw [hany]
   decide
theorem proHas_any (rb bx cap : Nat) (l : List Pp) (p : Pst) (w : World) (hr : ∀ j (hj : j < l.length), rb < w.heap.size ∧ l[j].t.v.length = 7 ∧ ∀ k, k < 12 → w.cell? ⟨rb, 3 + j * 12 + k, none⟩ = l[j].cells[k]?) (hll : l.length ≤ 1000000) (hb : w.heap[bx]? = some (.cells #[.int .i64 p.c, .int .i64 p.q, .int .i64 p.h, .string p.t] 33 (0, 0))) :
  Calls Tryz.prog 125 #[.slice (some ⟨rb, 3, none⟩) l.length cap, .func (.func 126) #[] #[.pointer (some ⟨bx, 0, none⟩)]] w fun e w' => e = .returned (.bool (l.any (fun d => sameB d.p p))) ∧ Below w.heap.size w w' := by
 have hI := proIx_any rb bx cap l p w hr hll hb
 go_enter Tryz.func125, Tryz.ntmps125
 go_wp2_with fail
 refine hI.mono ?_
 rintro e w2 ⟨j, rfl, hj, hB⟩
 clear hI
 go_wp2_with fail
 go_ret
 exact ⟨rfl, hB⟩

theorem pstEq_any (c q h : Int) (t : ByteArray) (bx : Nat) (c' q' h' : Int) (t' : ByteArray) (w : World) (hb : w.heap[bx]? = some (.cells #[.int .i64 c', .int .i64 q', .int .i64 h', .string t'] 33 (0, 0))) :
  Calls Tryz.prog 121 #[.agg #[.int .i64 c, .int .i64 q, .int .i64 h, .string t], .pointer (some ⟨bx, 0, none⟩)] w fun e w' => e = .returned (.bool (c == c' && q == q')) ∧ Below w.heap.size w w' := by
 have hb1 := blk_alloc hb (.cells #[.int .i64 c, .int .i64 q, .int .i64 h, .string t] 33)
 have hc := blk_cell hb1
 have hn := blk_cell (blk_new w (.cells #[.int .i64 c, .int .i64 q, .int .i64 h, .string t] 33))
 go_enter Tryz.func121, Tryz.ntmps121
 go_wp2_with fail
 refine (sameName_any c q h t c' q' h' t' _).mono ?_
 rintro e w2 ⟨rfl, hB⟩
 go_wp2_with fail
 go_ret
 exact ⟨rfl, Below.trans ((Below.refl _ w).alloc (Nat.le_refl _) _) (hB.mono (by simp))⟩

set_option maxHeartbeats 1000000 in
set_option maxRecDepth 100000 in
theorem pstIx_any (rb bx cap : Nat) (l : List Pst) (p : Pst) (w : World) (hr : ∀ j (hj : j < l.length), rb < w.heap.size ∧ ∀ k, k < 4 → w.cell? ⟨rb, j * 4 + k, none⟩ = l[j].cells[k]?) (hll : l.length ≤ 1000000) (hb : w.heap[bx]? = some (.cells #[.int .i64 p.c, .int .i64 p.q, .int .i64 p.h, .string p.t] 33 (0, 0))) :
  Calls Tryz.prog 139 #[.slice (some ⟨rb, 0, none⟩) l.length cap, .func (.func 121) #[] #[.pointer (some ⟨bx, 0, none⟩)]] w fun e w' => ∃ j : Int, e = .returned (.int .i64 j) ∧ decide (0 ≤ j) = l.any (fun d => sameB d p) ∧ Below w.heap.size w w' := by
 have hbl := lt_of_block hb
 obtain ⟨pc, pq, ph, pt⟩ := p
 obtain ⟨N, hN⟩ : ∃ N, N = l.length := ⟨_, rfl⟩
 rw [← hN]
 have n1 : N ≤ l.length := by omega
 have n2 : l.length ≤ N := by omega
 clear hN
 go_enter Tryz.func139, Tryz.ntmps139
 go_wp2_with fail
 go_loopw [5, 8] (fun q i wr => ∃ j : Nat, j ≤ N ∧ i = .int .i64 j ∧ (l.take j).any (fun d => sameB d ⟨pc, pq, ph, pt⟩) = false ∧ Below w.heap.size w wr) (fun _ i _ => N - (intOf i).toNat)
 case atStart => exact ⟨0, by omega, rfl, by simp, Below.refl _ _⟩
 case round =>
  obtain ⟨j, hj, rfl, hany, hB⟩ := hrel
  by_cases hjn : j < N
  ·have hjl : j < l.length := by omega
   have q0 : (0 : Int) ≤ (j : Int) := by omega
   have q1 : (j : Int) < (N : Int) := by omega
   have htk : l.take (j + 1) = l.take j ++ [l[j]] := by rw [List.take_add_one, List.getElem?_eq_getElem hjl]; rfl
   have Htk : Hid (l.take (j + 1) = l.take j ++ [l[j]]) := htk
   have Hmem : Hid (l[j] ∈ l) := List.getElem_mem hjl
   have Hany : Hid ((l.take j).any (fun d => sameB d ⟨pc, pq, ph, pt⟩) = false) := hany
   have hbr := blk_below hB hb
   clear htk hany
   have hw : ∀ k, k < 4 → wr.cell? ⟨rb, j * 4 + k, none⟩ = l[j].cells[k]? := fun k hk => by
    rw [hB.cell (p := ⟨rb, j * 4 + k, none⟩) (hr j hjl).1]
    exact (hr j hjl).2 k hk
   generalize hd : l[j] = d at *
   obtain ⟨dc, dq, dh, dt⟩ := d
   have c0 : wr.cell? ⟨rb, j * 4, none⟩ = some (.int .i64 dc) := hw 0 (by decide)
   have c1 : wr.cell? ⟨rb, j * 4 + 1, none⟩ = some (.int .i64 dq) := hw 1 (by decide)
   have c2 : wr.cell? ⟨rb, j * 4 + 2, none⟩ = some (.int .i64 dh) := hw 2 (by decide)
   have c3 : wr.cell? ⟨rb, j * 4 + 3, none⟩ = some (.string dt) := hw 3 (by decide)
   have Hd : Hid (Pst.mk dc dq dh dt = l[j]) := hd.symm
   clear hw hd
   go_wp2_with fail
   refine (pstEq_any dc dq dh dt bx pc pq ph pt wr hbr).mono ?_
   rintro e w2 ⟨rfl, hB2⟩
   have hB3 : Below w.heap.size w w2 := Below.trans hB (hB2.mono hB.size)
   cases hs : (dc == pc && dq == pq)
   ·go_wp2_with fail
    go_roundw
    case rel =>
     refine ⟨j + 1, by omega, by go_num, ?_, hB3⟩
     rw [Htk.out, List.any_append, Hany.out]
     simp [sameB, hs]
    case measure => simp [intOf]; omega
   ·go_wp2_with fail
    go_ret
    refine ⟨(j : Int), rfl, ?_, hB3⟩
    rw [decide_eq_true (by omega)]
    symm
    rw [List.any_eq_true]
    exact ⟨_, Hmem.out, hs⟩
  ·obtain rfl : j = N := by omega
   go_wp2_with fail
   go_ret
   refine ⟨-1, rfl, ?_, hB⟩
   rw [List.take_of_length_le n2] at hany
   rw [hany]
   decide
theorem pstHas_any (rb bx cap : Nat) (l : List Pst) (p : Pst) (w : World) (hr : ∀ j (hj : j < l.length), rb < w.heap.size ∧ ∀ k, k < 4 → w.cell? ⟨rb, j * 4 + k, none⟩ = l[j].cells[k]?) (hll : l.length ≤ 1000000) (hb : w.heap[bx]? = some (.cells #[.int .i64 p.c, .int .i64 p.q, .int .i64 p.h, .string p.t] 33 (0, 0))) :
  Calls Tryz.prog 120 #[.slice (some ⟨rb, 0, none⟩) l.length cap, .func (.func 121) #[] #[.pointer (some ⟨bx, 0, none⟩)]] w fun e w' => e = .returned (.bool (l.any (fun d => sameB d p))) ∧ Below w.heap.size w w' := by
 have hI := pstIx_any rb bx cap l p w hr hll hb
 go_enter Tryz.func120, Tryz.ntmps120
 go_wp2_with fail
 refine hI.mono ?_
 rintro e w2 ⟨j, rfl, hj, hB⟩
 clear hI
 go_wp2_with fail
 go_ret
 exact ⟨rfl, hB⟩
end Go.Proofs.YtnnhnekfokbooaaGreatDoor
