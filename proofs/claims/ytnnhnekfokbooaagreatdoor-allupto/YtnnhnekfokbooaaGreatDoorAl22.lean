/- SynP, Wire0, Clone -/
import Derived.Test.YtnnhnekfokbooaaGreatDoorAl05
import Derived.Shelf.LaysM
import Derived.Shelf.Strconv.Clone
set_option linter.unusedSimpArgs false
set_option linter.unusedVariables false
set_option maxRecDepth 100000
namespace Go.Proofs.YtnnhnekfokbooaaGreatDoor
section
open Go.RowKit
theorem decEq_any (m : Bool) (c q h : Int) (t : ByteArray) (bx : Nat) (c' q' h' : Int) (t' : ByteArray) (w : World) (hb : w.heap[bx]? = some (.cells #[I6 c', I6 q', I6 h', .string t'] 33 (0, 0))) :
  Calls Tryz.prog 124 #[.agg #[.bool m, I6 c, I6 q, I6 h, .string t], P6 bx] w fun e w' => e = .returned (.bool (c == c' && q == q')) ∧ Below w.heap.size w w' := by
 have hb1 := blk_alloc hb (.cells #[.bool m, I6 c, I6 q, I6 h, .string t] 132)
 have hc := blk_cell hb1
 have hn := blk_cell (blk_new w (.cells #[.bool m, I6 c, I6 q, I6 h, .string t] 132))
 go_enter Tryz.func124, Tryz.ntmps124
 go_wp2_with fail
 refine (sameName_any c q h t c' q' h' t' _).mono ?_
 rintro e w2 ⟨rfl, hB⟩
 go_wp2_with fail
 go_ret
 exact ⟨rfl, Below.trans ((Below.refl _ w).alloc (Nat.le_refl _) _) (hB.mono (by simp))⟩
set_option maxHeartbeats 1000000 in
theorem decIx_any (rb bx cap : Nat) (l : List Dn) (p : Pst) (w : World) (hr : w.rangeAt rb 101 (dcells l)) (hll : l.length ≤ 1000000) (hb : w.heap[bx]? = some (.cells #[I6 p.c, I6 p.q, I6 p.h, .string p.t] 33 (0, 0))) :
  Calls Tryz.prog 140 #[.slice (some (A6 rb 101)) l.length cap, .func (.func 124) #[] #[P6 bx]] w fun e w' => ∃ j : Int, e = .returned (I6 j) ∧ decide (0 ≤ j) = l.any (fun d => sameB d.p p) ∧ Below w.heap.size w w' := by
 have hbl := lt_of_block hb
 obtain ⟨pc, pq, ph, pt⟩ := p
 obtain ⟨N, hN⟩ : ∃ N, N = l.length := ⟨_, rfl⟩
 rw [← hN]
 have n1 : N ≤ l.length := by omega
 have n2 : l.length ≤ N := by omega
 clear hN
 go_enter Tryz.func140, Tryz.ntmps140
 go_wp2_with fail
 go_loopw [5, 8] (fun q i wr => ∃ j : Nat, j ≤ N ∧ i = I6 j ∧ (l.take j).any (fun d => sameB d.p ⟨pc, pq, ph, pt⟩) = false ∧ Below w.heap.size w wr) (fun _ i _ => N - (intOf i).toNat)
 case atStart => exact ⟨0, by omega, rfl, by simp, Below.refl _ _⟩
 case round =>
  obtain ⟨j, hj, rfl, hany, hB⟩ := hrel
  by_cases hjn : j < N
  ·have hjl : j < l.length := by omega
   have q0 : (0 : Int) ≤ (j : Int) := by omega
   have q1 : (j : Int) < (N : Int) := by omega
   have htk : l.take (j + 1) = l.take j ++ [l[j]] := by rw [List.take_add_one, List.getElem?_eq_getElem hjl]; rfl
   have Htk : Hid (l.take (j + 1) = l.take j ++ [l[j]]) := htk
   have Hmem : Hid (l[j] ∈ l) := List.getElem_mem hjl
   have Hany : Hid ((l.take j).any (fun d => sameB d.p ⟨pc, pq, ph, pt⟩) = false) := hany
   have hbr := blk_below hB hb
   clear htk hany
   have hw : ∀ k, k < 5 → wr.cell? (A6 rb (101 + j * 5 + k)) = l[j].cells[k]? := fun k hk => by
    have hlt : rb < w.heap.size := World.block_lt_of_cell? w _ (hr 0 (.bool (l[0]'(by omega)).m) (by rcases l with _ | ⟨x, l⟩; simp at hjl; rfl))
    rw [hB.cell (p := (A6 rb (101 + j * 5 + k))) hlt]
    have e2 := dcells_cut l j hjl
    have e3 : ((List.drop (j * 5) (dcells l)).take 5)[k]? = (dcells l)[j * 5 + k]? := by rw [List.getElem?_take, if_pos hk, List.getElem?_drop]
    have hlen : k < l[j].cells.length := hk
    have h9 : (dcells l)[j * 5 + k]? = some (l[j].cells[k]'hlen) := by rw [← e3, e2, List.getElem?_eq_getElem hlen]
    have h8 := hr (j * 5 + k) _ h9
    rw [← Nat.add_assoc] at h8
    rw [h8, List.getElem?_eq_getElem hlen]
   generalize hd : l[j] = d at *
   obtain ⟨dm, dc, dq, dh, dt⟩ := d
   have c0 : wr.cell? (A6 rb (101 + j * 5)) = some (.bool dm) := hw 0 (by decide)
   have c1 : wr.cell? (A6 rb (101 + j * 5 + 1)) = some (I6 dc) := hw 1 (by decide)
   have c2 : wr.cell? (A6 rb (101 + j * 5 + 2)) = some (I6 dq) := hw 2 (by decide)
   have c3 : wr.cell? (A6 rb (101 + j * 5 + 3)) = some (I6 dh) := hw 3 (by decide)
   have c4 : wr.cell? (A6 rb (101 + j * 5 + 4)) = some (.string dt) := hw 4 (by decide)
   have Hd : Hid (Dn.mk dm ⟨dc, dq, dh, dt⟩ = l[j]) := hd.symm
   clear hw hd
   go_wp2_with fail
   refine (decEq_any dm dc dq dh dt bx pc pq ph pt wr hbr).mono ?_
   rintro e w2 ⟨rfl, hB2⟩
   have hB3 : Below w.heap.size w w2 := Below.trans hB (hB2.mono hB.size)
   cases hs : (dc == pc && dq == pq)
   ·go_wp2_with fail
    go_roundw
    case rel =>
     refine ⟨j + 1, by omega, by go_num, ?_, hB3⟩
     rw [Htk.out, List.any_append, Hany.out]
     simp [sameB, hs]
    case measure => simp [intOf]; omega
   ·go_wp2_with fail
    go_ret
    refine ⟨(j : Int), rfl, ?_, hB3⟩
    rw [decide_eq_true (by omega)]
    symm
    rw [List.any_eq_true]
    exact ⟨_, Hmem.out, hs⟩
  ·obtain rfl : j = N := by omega
   go_wp2_with fail
   go_ret
   refine ⟨-1, rfl, ?_, hB⟩
   rw [List.take_of_length_le n2] at hany
   rw [hany]
   decide
theorem decHas_any (rb bx cap : Nat) (l : List Dn) (p : Pst) (w : World) (hr : w.rangeAt rb 101 (dcells l)) (hll : l.length ≤ 1000000) (hb : w.heap[bx]? = some (.cells #[I6 p.c, I6 p.q, I6 p.h, .string p.t] 33 (0, 0))) :
  Calls Tryz.prog 123 #[.slice (some (A6 rb 101)) l.length cap, .func (.func 124) #[] #[P6 bx]] w fun e w' => e = .returned (.bool (l.any (fun d => sameB d.p p))) ∧ Below w.heap.size w w' := by
 have hI := decIx_any rb bx cap l p w hr hll hb
 go_enter Tryz.func123, Tryz.ntmps123
 go_wp2_with fail
 refine hI.mono ?_
 rintro e w2 ⟨j, rfl, hj, hB⟩
 clear hI
 go_wp2_with fail
 go_ret
 exact ⟨rfl, hB⟩
theorem proEq_any (c q h : Int) (t : ByteArray) (a0 a1 a2 a3 a4 a5 a6 : Bool) (n : Int) (bx : Nat) (c' q' h' : Int) (t' : ByteArray) (w : World) (hb : w.heap[bx]? = some (.cells #[I6 c', I6 q', I6 h', .string t'] 33 (0, 0))) :
  Calls Tryz.prog 126 #[.agg #[I6 c, I6 q, I6 h, .string t, .bool a0, .bool a1, .bool a2, .bool a3, .bool a4, .bool a5, .bool a6, I6 n], P6 bx] w fun e w' => e = .returned (.bool (c == c' && q == q')) ∧ Below w.heap.size w w' := by
 have hb1 := blk_alloc hb (.cells #[I6 c, I6 q, I6 h, .string t, .bool a0, .bool a1, .bool a2, .bool a3, .bool a4, .bool a5, .bool a6, I6 n] 163)
 have hc := blk_cell hb1
 have hn := blk_cell (blk_new w (.cells #[I6 c, I6 q, I6 h, .string t, .bool a0, .bool a1, .bool a2, .bool a3, .bool a4, .bool a5, .bool a6, I6 n] 163))
 go_enter Tryz.func126, Tryz.ntmps126
 go_wp2_with fail
 refine (sameName_any c q h t c' q' h' t' _).mono ?_
 rintro e w2 ⟨rfl, hB⟩
 go_wp2_with fail
 go_ret
 exact ⟨rfl, Below.trans ((Below.refl _ w).alloc (Nat.le_refl _) _) (hB.mono (by simp))⟩
set_option maxHeartbeats 1000000 in
theorem proIx_any (rb bx cap : Nat) (l : List Pp) (p : Pst) (w : World) (hr : ∀ j (hj : j < l.length), rb < w.heap.size ∧ l[j].t.v.length = 7 ∧ ∀ k, k < 12 → w.cell? (A6 rb (3 + j * 12 + k)) = l[j].cells[k]?) (hll : l.length ≤ 1000000) (hb : w.heap[bx]? = some (.cells #[I6 p.c, I6 p.q, I6 p.h, .string p.t] 33 (0, 0))) :
  Calls Tryz.prog 141 #[.slice (some (A6 rb 3)) l.length cap, .func (.func 126) #[] #[P6 bx]] w fun e w' => ∃ j : Int, e = .returned (I6 j) ∧ decide (0 ≤ j) = l.any (fun d => sameB d.p p) ∧ Below w.heap.size w w' := by
 have hbl := lt_of_block hb
 obtain ⟨pc, pq, ph, pt⟩ := p
 obtain ⟨N, hN⟩ : ∃ N, N = l.length := ⟨_, rfl⟩
 rw [← hN]
 have n1 : N ≤ l.length := by omega
 have n2 : l.length ≤ N := by omega
 clear hN
 go_enter Tryz.func141, Tryz.ntmps141
 go_wp2_with fail
 go_loopw [5, 8] (fun q i wr => ∃ j : Nat, j ≤ N ∧ i = I6 j ∧ (l.take j).any (fun d => sameB d.p ⟨pc, pq, ph, pt⟩) = false ∧ Below w.heap.size w wr) (fun _ i _ => N - (intOf i).toNat)
 case atStart => exact ⟨0, by omega, rfl, by simp, Below.refl _ _⟩
 case round =>
  obtain ⟨j, hj, rfl, hany, hB⟩ := hrel
  by_cases hjn : j < N
  ·have hjl : j < l.length := by omega
   have q0 : (0 : Int) ≤ (j : Int) := by omega
   have q1 : (j : Int) < (N : Int) := by omega
   have htk : l.take (j + 1) = l.take j ++ [l[j]] := by rw [List.take_add_one, List.getElem?_eq_getElem hjl]; rfl
   have Htk : Hid (l.take (j + 1) = l.take j ++ [l[j]]) := htk
   have Hmem : Hid (l[j] ∈ l) := List.getElem_mem hjl
   have Hany : Hid ((l.take j).any (fun d => sameB d.p ⟨pc, pq, ph, pt⟩) = false) := hany
   have hbr := blk_below hB hb
   clear htk hany
   have hw : ∀ k, k < 12 → wr.cell? (A6 rb (3 + j * 12 + k)) = l[j].cells[k]? := fun k hk => by
    rw [hB.cell (p := (A6 rb (3 + j * 12 + k))) (hr j hjl).1]
    exact (hr j hjl).2.2 k hk
   have hv7 : l[j].t.v.length = 7 := (hr j hjl).2.1
   generalize hd : l[j] = d at *
   obtain ⟨⟨dc, dq, dh, dt⟩, ⟨dv, dn⟩⟩ := d
   obtain ⟨a0, a1, a2, a3, a4, a5, a6, rfl⟩ : ∃ a0 a1 a2 a3 a4 a5 a6, dv = [a0, a1, a2, a3, a4, a5, a6] := by
    have h7 : dv.length = 7 := hv7
    match dv, h7 with
    | [a0, a1, a2, a3, a4, a5, a6], _ => exact ⟨a0, a1, a2, a3, a4, a5, a6, rfl⟩
   have c0 : wr.cell? (A6 rb (3 + j * 12)) = some (I6 dc) := hw 0 (by decide)
   have c1 : wr.cell? (A6 rb (3 + j * 12 + 1)) = some (I6 dq) := hw 1 (by decide)
   have c2 : wr.cell? (A6 rb (3 + j * 12 + 2)) = some (I6 dh) := hw 2 (by decide)
   have c3 : wr.cell? (A6 rb (3 + j * 12 + 3)) = some (.string dt) := hw 3 (by decide)
   have c4 : wr.cell? (A6 rb (3 + j * 12 + 4)) = some (.bool a0) := hw 4 (by decide)
   have c5 : wr.cell? (A6 rb (3 + j * 12 + 5)) = some (.bool a1) := hw 5 (by decide)
   have c6 : wr.cell? (A6 rb (3 + j * 12 + 6)) = some (.bool a2) := hw 6 (by decide)
   have c7 : wr.cell? (A6 rb (3 + j * 12 + 7)) = some (.bool a3) := hw 7 (by decide)
   have c8 : wr.cell? (A6 rb (3 + j * 12 + 8)) = some (.bool a4) := hw 8 (by decide)
   have c9 : wr.cell? (A6 rb (3 + j * 12 + 9)) = some (.bool a5) := hw 9 (by decide)
   have c10 : wr.cell? (A6 rb (3 + j * 12 + 10)) = some (.bool a6) := hw 10 (by decide)
   have c11 : wr.cell? (A6 rb (3 + j * 12 + 11)) = some (I6 dn) := hw 11 (by decide)
   have Hd : Hid (Pp.mk ⟨dc, dq, dh, dt⟩ ⟨[a0, a1, a2, a3, a4, a5, a6], dn⟩ = l[j]) := hd.symm
   clear hw hd hv7
   go_wp2_with fail
   refine (proEq_any dc dq dh dt a0 a1 a2 a3 a4 a5 a6 dn bx pc pq ph pt wr hbr).mono ?_
   rintro e w2 ⟨rfl, hB2⟩
   have hB3 : Below w.heap.size w w2 := Below.trans hB (hB2.mono hB.size)
   cases hs : (dc == pc && dq == pq)
   ·go_wp2_with fail
    go_roundw
    case rel =>
     refine ⟨j + 1, by omega, by go_num, ?_, hB3⟩
     rw [Htk.out, List.any_append, Hany.out]
     simp [sameB, hs]
    case measure => simp [intOf]; omega
   ·go_wp2_with fail
    go_ret
    refine ⟨(j : Int), rfl, ?_, hB3⟩
    rw [decide_eq_true (by omega)]
    symm
    rw [List.any_eq_true]
    exact ⟨_, Hmem.out, hs⟩
  ·obtain rfl : j = N := by omega
   go_wp2_with fail
   go_ret
   refine ⟨-1, rfl, ?_, hB⟩
   rw [List.take_of_length_le n2] at hany
   rw [hany]
   decide
theorem proHas_any (rb bx cap : Nat) (l : List Pp) (p : Pst) (w : World) (hr : ∀ j (hj : j < l.length), rb < w.heap.size ∧ l[j].t.v.length = 7 ∧ ∀ k, k < 12 → w.cell? (A6 rb (3 + j * 12 + k)) = l[j].cells[k]?) (hll : l.length ≤ 1000000) (hb : w.heap[bx]? = some (.cells #[I6 p.c, I6 p.q, I6 p.h, .string p.t] 33 (0, 0))) :
  Calls Tryz.prog 125 #[.slice (some (A6 rb 3)) l.length cap, .func (.func 126) #[] #[P6 bx]] w fun e w' => e = .returned (.bool (l.any (fun d => sameB d.p p))) ∧ Below w.heap.size w w' := by
 have hI := proIx_any rb bx cap l p w hr hll hb
 go_enter Tryz.func125, Tryz.ntmps125
 go_wp2_with fail
 refine hI.mono ?_
 rintro e w2 ⟨j, rfl, hj, hB⟩
 clear hI
 go_wp2_with fail
 go_ret
 exact ⟨rfl, hB⟩
theorem pstEq_any (c q h : Int) (t : ByteArray) (bx : Nat) (c' q' h' : Int) (t' : ByteArray) (w : World) (hb : w.heap[bx]? = some (.cells #[I6 c', I6 q', I6 h', .string t'] 33 (0, 0))) :
  Calls Tryz.prog 121 #[.agg #[I6 c, I6 q, I6 h, .string t], P6 bx] w fun e w' => e = .returned (.bool (c == c' && q == q')) ∧ Below w.heap.size w w' := by
 have hb1 := blk_alloc hb (.cells #[I6 c, I6 q, I6 h, .string t] 33)
 have hc := blk_cell hb1
 have hn := blk_cell (blk_new w (.cells #[I6 c, I6 q, I6 h, .string t] 33))
 go_enter Tryz.func121, Tryz.ntmps121
 go_wp2_with fail
 refine (sameName_any c q h t c' q' h' t' _).mono ?_
 rintro e w2 ⟨rfl, hB⟩
 go_wp2_with fail
 go_ret
 exact ⟨rfl, Below.trans ((Below.refl _ w).alloc (Nat.le_refl _) _) (hB.mono (by simp))⟩
set_option maxHeartbeats 1000000 in
theorem pstIx_any (rb bx cap : Nat) (l : List Pst) (p : Pst) (w : World) (hr : ∀ j (hj : j < l.length), rb < w.heap.size ∧ ∀ k, k < 4 → w.cell? (A6 rb (j * 4 + k)) = l[j].cells[k]?) (hll : l.length ≤ 1000000) (hb : w.heap[bx]? = some (.cells #[I6 p.c, I6 p.q, I6 p.h, .string p.t] 33 (0, 0))) :
  Calls Tryz.prog 139 #[.slice (some (A6 rb 0)) l.length cap, .func (.func 121) #[] #[P6 bx]] w fun e w' => ∃ j : Int, e = .returned (I6 j) ∧ decide (0 ≤ j) = l.any (fun d => sameB d p) ∧ Below w.heap.size w w' := by
 have hbl := lt_of_block hb
 obtain ⟨pc, pq, ph, pt⟩ := p
 obtain ⟨N, hN⟩ : ∃ N, N = l.length := ⟨_, rfl⟩
 rw [← hN]
 have n1 : N ≤ l.length := by omega
 have n2 : l.length ≤ N := by omega
 clear hN
 go_enter Tryz.func139, Tryz.ntmps139
 go_wp2_with fail
 go_loopw [5, 8] (fun q i wr => ∃ j : Nat, j ≤ N ∧ i = I6 j ∧ (l.take j).any (fun d => sameB d ⟨pc, pq, ph, pt⟩) = false ∧ Below w.heap.size w wr) (fun _ i _ => N - (intOf i).toNat)
 case atStart => exact ⟨0, by omega, rfl, by simp, Below.refl _ _⟩
 case round =>
  obtain ⟨j, hj, rfl, hany, hB⟩ := hrel
  by_cases hjn : j < N
  ·have hjl : j < l.length := by omega
   have q0 : (0 : Int) ≤ (j : Int) := by omega
   have q1 : (j : Int) < (N : Int) := by omega
   have htk : l.take (j + 1) = l.take j ++ [l[j]] := by rw [List.take_add_one, List.getElem?_eq_getElem hjl]; rfl
   have Htk : Hid (l.take (j + 1) = l.take j ++ [l[j]]) := htk
   have Hmem : Hid (l[j] ∈ l) := List.getElem_mem hjl
   have Hany : Hid ((l.take j).any (fun d => sameB d ⟨pc, pq, ph, pt⟩) = false) := hany
   have hbr := blk_below hB hb
   clear htk hany
   have hw : ∀ k, k < 4 → wr.cell? (A6 rb (j * 4 + k)) = l[j].cells[k]? := fun k hk => by
    rw [hB.cell (p := (A6 rb (j * 4 + k))) (hr j hjl).1]
    exact (hr j hjl).2 k hk
   generalize hd : l[j] = d at *
   obtain ⟨dc, dq, dh, dt⟩ := d
   have c0 : wr.cell? (A6 rb (j * 4)) = some (I6 dc) := hw 0 (by decide)
   have c1 : wr.cell? (A6 rb (j * 4 + 1)) = some (I6 dq) := hw 1 (by decide)
   have c2 : wr.cell? (A6 rb (j * 4 + 2)) = some (I6 dh) := hw 2 (by decide)
   have c3 : wr.cell? (A6 rb (j * 4 + 3)) = some (.string dt) := hw 3 (by decide)
   have Hd : Hid (Pst.mk dc dq dh dt = l[j]) := hd.symm
   clear hw hd
   go_wp2_with fail
   refine (pstEq_any dc dq dh dt bx pc pq ph pt wr hbr).mono ?_
   rintro e w2 ⟨rfl, hB2⟩
   have hB3 : Below w.heap.size w w2 := Below.trans hB (hB2.mono hB.size)
   cases hs : (dc == pc && dq == pq)
   ·go_wp2_with fail
    go_roundw
    case rel =>
     refine ⟨j + 1, by omega, by go_num, ?_, hB3⟩
     rw [Htk.out, List.any_append, Hany.out]
     simp [sameB, hs]
    case measure => simp [intOf]; omega
   ·go_wp2_with fail
    go_ret
    refine ⟨(j : Int), rfl, ?_, hB3⟩
    rw [decide_eq_true (by omega)]
    symm
    rw [List.any_eq_true]
    exact ⟨_, Hmem.out, hs⟩
  ·obtain rfl : j = N := by omega
   go_wp2_with fail
   go_ret
   refine ⟨-1, rfl, ?_, hB⟩
   rw [List.take_of_length_le n2] at hany
   rw [hany]
   decide
theorem pstHas_any (rb bx cap : Nat) (l : List Pst) (p : Pst) (w : World) (hr : ∀ j (hj : j < l.length), rb < w.heap.size ∧ ∀ k, k < 4 → w.cell? (A6 rb (j * 4 + k)) = l[j].cells[k]?) (hll : l.length ≤ 1000000) (hb : w.heap[bx]? = some (.cells #[I6 p.c, I6 p.q, I6 p.h, .string p.t] 33 (0, 0))) :
  Calls Tryz.prog 120 #[.slice (some (A6 rb 0)) l.length cap, .func (.func 121) #[] #[P6 bx]] w fun e w' => e = .returned (.bool (l.any (fun d => sameB d p))) ∧ Below w.heap.size w w' := by
 have hI := pstIx_any rb bx cap l p w hr hll hb
 go_enter Tryz.func120, Tryz.ntmps120
 go_wp2_with fail
 refine hI.mono ?_
 rintro e w2 ⟨j, rfl, hj, hB⟩
 clear hI
 go_wp2_with fail
 go_ret
 exact ⟨rfl, hB⟩
end
section
open Go.RowKit
set_option maxHeartbeats 400000 in
theorem within_any (n a b : Int) (w : World) :
  Calls Tryz.prog 93 #[I6 n, I6 a, I6 b] w fun e w' => e = .returned (.bool (withinB n a b)) ∧ w' = w := by
 by_cases h1 : a ≤ n
 ·by_cases h2 : n ≤ b
  ·go_enter Tryz.func93, Tryz.ntmps93
   go_wp2
   go_ret
   exact ⟨by simp [withinB, h1, h2], rfl⟩
  ·go_enter Tryz.func93, Tryz.ntmps93
   go_wp2
   go_ret
   exact ⟨by simp [withinB, h1]; omega, rfl⟩
 ·go_enter Tryz.func93, Tryz.ntmps93
  go_wp2
  go_ret
  exact ⟨by simp [withinB]; omega, rfl⟩
set_option maxHeartbeats 400000 in
theorem isNothing_any (c q h : Int) (t : ByteArray) (w : World) :
  Calls Tryz.prog 87 #[.agg #[I6 c, I6 q, I6 h, .string t]] w fun e w' => e = .returned (.bool (nothingB ⟨c, q, h, t⟩)) ∧ Below w.heap.size w w' := by
 go_enter Tryz.func87, Tryz.ntmps87
 go_wp2
 all_goals
  go_ret
  exact ⟨by simp [nothingB, *], (Below.refl _ _).alloc (Nat.le_refl _) _⟩
set_option maxHeartbeats 800000 in
theorem rightPost_any (c q h : Int) (t : ByteArray) (w : World) :
  Calls Tryz.prog 65 #[.agg #[I6 c, I6 q, I6 h, .string t]] w fun e w' => e = .returned (.bool (rightPostB ⟨c, q, h, t⟩)) ∧ Below w.heap.size w w' := by
 cases h1 : withinB c 1 9
 ·go_enter Tryz.func65, Tryz.ntmps65
  go_wp2_with (go_at_call 93; refine (within_any _ _ _ _).mono ?_; rintro e w' ⟨rfl, rfl⟩)
  all_goals
   go_ret
   exact ⟨by simp [rightPostB, *], (Below.refl _ _).alloc (Nat.le_refl _) _⟩
 cases h2 : withinB q 1 1000
 ·go_enter Tryz.func65, Tryz.ntmps65
  go_wp2_with (go_at_call 93; refine (within_any _ _ _ _).mono ?_; rintro e w' ⟨rfl, rfl⟩)
  all_goals
   go_ret
   exact ⟨by simp [rightPostB, *], (Below.refl _ _).alloc (Nat.le_refl _) _⟩
 cases h3 : withinB h 0 3
 ·go_enter Tryz.func65, Tryz.ntmps65
  go_wp2_with (go_at_call 93; refine (within_any _ _ _ _).mono ?_; rintro e w' ⟨rfl, rfl⟩)
  all_goals
   go_ret
   exact ⟨by simp [rightPostB, *], (Below.refl _ _).alloc (Nat.le_refl _) _⟩
 ·go_enter Tryz.func65, Tryz.ntmps65
  go_wp2_with (go_at_call 93; refine (within_any _ _ _ _).mono ?_; rintro e w' ⟨rfl, rfl⟩)
  all_goals
   go_ret
   exact ⟨by simp [rightPostB, *], (Below.refl _ _).alloc (Nat.le_refl _) _⟩
end
section
open Go.Shelf Go.RowKit
def renClone : Ren := ⟨fun | 316 => 94 | n => n, fun | 9 => 9 | 3 => 3 | 4 => 4 | 37 => 141 | 0 => 0 | 127 => 179 | 5 => 5 | n => n, fun | n => n⟩
theorem laysClone : LaysM.n316 Tryz.prog renClone := {
 mixed := by kernel_rfl
 f316 := Tryz.func94.trans (congrArg some (by kernel_rfl))
 t0 := Tryz.underlying0
 a0 := Tryz.isAgg0
 z0 := Tryz.sizeOf0
 v0 := Tryz.zeroValue0
 t3 := Tryz.underlying3
 a3 := Tryz.isAgg3
 z3 := Tryz.sizeOf3
 v3 := Tryz.zeroValue3
 t4 := Tryz.underlying4
 a4 := Tryz.isAgg4
 z4 := Tryz.sizeOf4
 v4 := Tryz.zeroValue4
 t9 := Tryz.underlying9
 a9 := Tryz.isAgg9
 z9 := Tryz.sizeOf9
 v9 := Tryz.zeroValue9
 t37 := Tryz.underlying141
 a37 := Tryz.isAgg141
 z37 := Tryz.sizeOf141
 v37 := Tryz.zeroValue141
 t127 := Tryz.underlying179
 a127 := Tryz.isAgg179
 z127 := Tryz.sizeOf179
 v127 := Tryz.zeroValue179
 t5 := Tryz.underlying5
 a5 := Tryz.isAgg5
 z5 := Tryz.sizeOf5
 v5 := Tryz.zeroValue5
 i0 := by kernel_rfl
 i3 := by kernel_rfl
 i4 := by kernel_rfl
 i5 := by kernel_rfl
 i9 := by kernel_rfl
 i37 := by kernel_rfl
 i127 := by kernel_rfl }
theorem clone0_any (s : ByteArray) (w : World) (hlim : s.size ≤ 281474976710656) :
  Calls Tryz.prog 94 #[.string s] w fun e w' => e = .returned (.string s) ∧ Below w.heap.size w w' := Any.stringslite_Clone laysClone s w hlim
theorem clone_any (s : ByteArray) (w : World) (hlim : s.size ≤ 281474976710656) :
  Calls Tryz.prog 66 #[.string s] w fun e w' => e = .returned (.string s) ∧ Below w.heap.size w w' := by
 go_enter Tryz.func66, Tryz.ntmps66
 go_wp2_with (go_at_call 94; refine (clone0_any s w hlim).mono ?_; rintro e w' ⟨rfl, hb⟩)
 go_ret
 exact ⟨rfl, hb⟩
end
end Go.Proofs.YtnnhnekfokbooaaGreatDoor
