/- RnQ -/
import Derived.Test.YtnnhnekfokbooaaGreatDoorAl20
import Derived.Test.YtnnhnekfokbooaaGreatDoorAl27
set_option linter.unusedSimpArgs false
set_option linter.unusedVariables false
set_option maxRecDepth 100000
namespace Go.Proofs.YtnnhnekfokbooaaGreatDoor
section
open Go.RowKit
theorem there_newN (W : World) (Z : Array Value) (t : TypeId) {n : Nat} (hZ : Z.size = n) : World.there (W.alloc (.cells Z t)) W.heap.size 0 n := fun j hj => by
 have hb := blk_new W (.cells Z t)
 exact ⟨by rw [blk_cell hb, Nat.zero_add, Array.getElem?_eq_getElem (by omega)]; rfl, blk_free hb _⟩
theorem put_newN (W : World) (Z : Array Value) (t : TypeId) {n : Nat} (hZ : Z.size = n) (cs : List Value) (hc : cs.length = n) : (World.setCells (W.alloc (.cells Z t)) W.heap.size 0 cs).heap[W.heap.size]? = some (.cells cs.toArray t (0, 0)) := by
 rw [setCells_self W.heap.size t cs 0 _ Z (blk_new W (.cells Z t)) (by omega)]
 simp [hc, hZ]
theorem known_none {r : Rr} {p : Pst} (hl : r.sl.length = 16) (h : ∀ j, j < 16 → (r.at j).known p = false) : r.sl.any (fun y => y.known p) = false := by
 rw [List.any_eq_false]
 intro y hy
 obtain ⟨j, hj, rfl⟩ := List.getElem_of_mem hy
 have := h j (by omega)
 unfold Rr.at at this
 rw [List.getD_eq_getElem?_getD, List.getElem?_eq_getElem hj] at this
 simpa using this
theorem known_some {r : Rr} {p : Pst} (hl : r.sl.length = 16) {j : Nat} (hj : j < 16) (h : (r.at j).known p = true) : r.sl.any (fun y => y.known p) = true := by
 rw [List.any_eq_true]
 refine ⟨r.at j, ?_, h⟩
 unfold Rr.at
 rw [List.getD_eq_getElem?_getD, List.getElem?_eq_getElem (by omega)]
 exact List.getElem_mem _
theorem known_cases (b : Bool) (q p : Pst) : (b = false ∧ (b && sameB q p) = false) ∨ (b = true ∧ (q.c == p.c) = false ∧ (b && sameB q p) = false) ∨ (b = true ∧ (q.c == p.c) = true ∧ (q.q == p.q) = false ∧ (b && sameB q p) = false) ∨ (b = true ∧ (q.c == p.c) = true ∧ (q.q == p.q) = true ∧ (b && sameB q p) = true) := by
 unfold sameB
 cases b <;> cases (q.c == p.c) <;> cases (q.q == p.q) <;> simp
section
variable {w : World} {qb Rb : Nat} {v : Value} {x : Qs}
set_option maxHeartbeats 4000000 in
theorem rsub_any (h : QAt w qb Rb v x) {i : Nat} (hi : i < x.R.length) (p : Pst) (hp : rightPostB p = true) (hnx : 0 ≤ (x.rep i).nx ∧ (x.rep i).nx ≤ 16) :
  Calls Tryz.prog 38 #[P6 qb, I6 (i : Int), .agg #[I6 p.c, I6 p.q, I6 p.h, .string p.t]] w fun e w' => e = .returned (I6 (x.subE i p)) ∧ QTo w qb Rb v w' (x.submit i p) := by
 have hB1 : Below w.heap.size w (w.alloc (.cells #[I6 p.c, I6 p.q, I6 p.h, .string p.t] 33)) := (Below.refl _ w).alloc (Nat.le_refl _) _
 have hb1 := blk_new w (.cells #[I6 p.c, I6 p.q, I6 p.h, .string p.t] 33)
 have h1 := h.below hB1
 have hIs := ris_yes h1 hi
 have hPo := rpost_any p.c p.q p.h p.t (w.alloc (.cells #[I6 p.c, I6 p.q, I6 p.h, .string p.t] 33))
 have hpe : rightPostB ⟨p.c, p.q, p.h, p.t⟩ = true := hp
 rw [hpe] at hPo
 clear hpe hp
 have hbc := blk_cell hb1
 go_enter Tryz.func38, Tryz.ntmps38
 go_wp2_with fail
 refine hIs.mono ?_
 rintro e w' ⟨rfl, hw'⟩
 have hw9 := hw'
 subst hw9
 clear hIs hw'
 go_wp2_with fail
 refine hPo.mono ?_
 rintro e w2 ⟨rfl, hB2⟩
 clear hPo hbc
 have h2 := h1.below hB2
 have hb2 := blk_below hB2 hb1
 have hBw : Below w.heap.size w w2 := hB1.trans (hB2.mono hB1.size)
 clear hB1 hb1 h1 hB2
 have hno : ¬ qOwn qb Rb v w.heap.size := fun ho => by have := h.own_lt ho; omega
 have d0 := h2.c0
 have h7 := h2.n1
 have hfull := h2.full
 have q0 : (0 : Int) ≤ (i : Int) := by omega
 have q1 : (i : Int) < (x.R.length : Int) := by omega
 have hq := h2.reps.here hi
 have hR : x.rep i = x.R.getD i noRr := rfl
 rw [hR] at hnx
 generalize hr : x.R.getD i noRr = r at *
 have HR : Hid (x.rep i = r) := hR
 clear hr hR
 have hrk := hq.rok hi
 have hlen := hrk.len
 obtain ⟨n, hn⟩ := Int.eq_ofNat_of_zero_le hnx.1
 have hn16 : n ≤ 16 := by have := hnx.2; omega
 clear hnx
 have c2 := hq.hc hi (o := 2) (by decide) (v := I6 r.ro) rfl
 by_cases b0 : r.ro = 2
 ·have m0 : (r.ro != 2) = false := by simp [b0]
  have Hb0 : Hid (r.ro = 2) := b0
  clear b0
  go_wp2_with fail
  go_loopw [10] (fun kv wr => ∃ q : Nat, q ≤ 16 ∧ kv = I6 q ∧ (∀ j, j < q → (r.at j).known p = false) ∧ Below w2.heap.size w2 wr) (fun kv _ => 16 - (intOf kv).toNat)
  case atStart => exact ⟨0, by omega, rfl, fun j hj => by omega, Below.refl _ _⟩
  case round =>
   obtain ⟨q, hq16, rfl, hall, hBr⟩ := hrel
   have HA : Hid (∀ j, j < q → (r.at j).known p = false) := hall
   clear hall d0 c2 m0
   have hr3 := hq.below hBr
   have hbr := blk_below hBr hb2
   have hQr := h2.below hBr
   have hBwr := Below.trans hBw (hBr.mono hBw.size)
   by_cases hqn : q < 16
   ·have p0 : (0 : Int) ≤ (q : Int) := by omega
    have p1 : (q : Int) < 16 := by omega
    have gz := hr3.open hi hqn
    have hyo := Rr.at_ok hrk q
    obtain ⟨y, hy⟩ : ∃ y, y = r.at q := ⟨_, rfl⟩
    have Hy : Hid (r.at q = y) := by show _ = _; rw [hy]
    rw [← hy] at gz hyo
    clear hy
    have hcl := Sl.cells_len hyo
    have Hra : Hid (World.rangeAt wr Rb (i * 396 + 12 + q * 24) y.cells) := fun j u hu => gz.gc hi hlen hqn (o := j) (by have := (List.getElem?_eq_some_iff.1 hu).1; omega) hu
    have Hi : Hid ((Tryz.prog.info? 111).map (·.size) = some y.cells.length) := by show _ = _; rw [hcl]; kernel_rfl
    have Hi2 : Hid ((Tryz.prog.info? 111).map (·.size) = some y.cells.toArray.size) := by show _ = _; rw [List.size_toArray, hcl]; kernel_rfl
    have H1 : Hid (y.cells.toArray.all (·.oneCell') = true) := by
     show _ = _
     rw [List.all_toArray, List.all_eq_true]
     exact sl_one y
    have hZ : (#[I6 0, I6 0, I6 0, I6 0, .string ⟨#[]⟩, .bool false, I6 0, I6 0, I6 0, .string ⟨#[]⟩, .bool false, .bool false, I6 0, I6 0, I6 0, .string ⟨#[]⟩, I6 0, .bool false, .bool false, .bool false, .bool false, .bool false, .bool false, .bool false] : Array Value).size = 24 := by kernel_rfl
    have Hth : Hid (World.there (wr.alloc (.cells #[I6 0, I6 0, I6 0, I6 0, .string ⟨#[]⟩, .bool false, I6 0, I6 0, I6 0, .string ⟨#[]⟩, .bool false, .bool false, I6 0, I6 0, I6 0, .string ⟨#[]⟩, I6 0, .bool false, .bool false, .bool false, .bool false, .bool false, .bool false, .bool false] 111)) wr.heap.size 0 y.cells.toArray.size) := by
     show World.there _ _ _ _
     have hs9 : y.cells.toArray.size = 24 := by rw [List.size_toArray, hcl]
     rw [hs9]
     exact there_newN wr #[I6 0, I6 0, I6 0, I6 0, .string ⟨#[]⟩, .bool false, I6 0, I6 0, I6 0, .string ⟨#[]⟩, .bool false, .bool false, I6 0, I6 0, I6 0, .string ⟨#[]⟩, I6 0, .bool false, .bool false, .bool false, .bool false, .bool false, .bool false, .bool false] 111 hZ
    have hpn := put_newN wr #[I6 0, I6 0, I6 0, I6 0, .string ⟨#[]⟩, .bool false, I6 0, I6 0, I6 0, .string ⟨#[]⟩, .bool false, .bool false, I6 0, I6 0, I6 0, .string ⟨#[]⟩, I6 0, .bool false, .bool false, .bool false, .bool false, .bool false, .bool false, .bool false] 111 hZ y.cells hcl
    have hB9 : Below w2.heap.size w2 (World.setCells (wr.alloc (.cells #[I6 0, I6 0, I6 0, I6 0, .string ⟨#[]⟩, .bool false, I6 0, I6 0, I6 0, .string ⟨#[]⟩, .bool false, .bool false, I6 0, I6 0, I6 0, .string ⟨#[]⟩, I6 0, .bool false, .bool false, .bool false, .bool false, .bool false, .bool false, .bool false] 111)) wr.heap.size 0 y.cells) := hBr.trans (Below.trans ((Below.refl _ wr).alloc (Nat.le_refl _) _ |>.mono hBr.size) ⟨(keeps_sets _ _ _ _).os, (keeps_sets _ _ _ _).tape, (keeps_sets _ _ _ _).output, (keeps_sets _ _ _ _).size, fun b hb => (keeps_sets _ _ _ _).block b (by have := hBr.size; simp; omega) (by have := hBr.size; omega)⟩)
    clear hZ
    go_upto_region 12 with (first | (refine wpList_load_mid rfl 111 (.tmp 45) rfl Rb (i * 396 + 12 + q * 24) rfl y.cells _ Hra.out Tryz.underlying111 rfl Hi.out ?_) | (refine wpList_store_mid rfl 111 (.tmp 11) (.tmp 46) rfl wr.heap.size 0 y.cells.toArray rfl rfl Hth.out Hi2.out H1.out ?_; simp only [Act.put]))
    have hb9 := blk_below hB9 hb2
    have hnq9 : wr.heap.size ≠ w.heap.size := by have := lt_of_block hbr; omega
    generalize (World.setCells (wr.alloc (.cells #[I6 0, I6 0, I6 0, I6 0, .string ⟨#[]⟩, .bool false, I6 0, I6 0, I6 0, .string ⟨#[]⟩, .bool false, .bool false, I6 0, I6 0, I6 0, .string ⟨#[]⟩, I6 0, .bool false, .bool false, .bool false, .bool false, .bool false, .bool false, .bool false] 111)) wr.heap.size 0 y.cells) = w9 at *
    clear Hth H1 Hi Hi2 Hra gz hQr hbr hr3 hBr hBwr
    have s5 : w9.cell? (A6 wr.heap.size 5) = some (.bool y.is) := (blk_cell hpn 5).trans (by rw [List.getElem?_toArray]; rfl)
    have s6 : w9.cell? (A6 wr.heap.size 6) = some (I6 y.fin.c) := (blk_cell hpn 6).trans (by rw [List.getElem?_toArray]; rfl)
    have s7 : w9.cell? (A6 wr.heap.size 7) = some (I6 y.fin.q) := (blk_cell hpn 7).trans (by rw [List.getElem?_toArray]; rfl)
    have s11 : w9.cell? (A6 wr.heap.size 11) = some (.bool y.mine) := (blk_cell hpn 11).trans (by rw [List.getElem?_toArray]; rfl)
    have s12 : w9.cell? (A6 wr.heap.size 12) = some (I6 y.kept.c) := (blk_cell hpn 12).trans (by rw [List.getElem?_toArray]; rfl)
    have s13 : w9.cell? (A6 wr.heap.size 13) = some (I6 y.kept.q) := (blk_cell hpn 13).trans (by rw [List.getElem?_toArray]; rfl)
    have t0 : w9.cell? (A6 w.heap.size 0) = some (I6 p.c) := (blk_cell hb9 0).trans rfl
    have t1 : w9.cell? (A6 w.heap.size 1) = some (I6 p.q) := (blk_cell hb9 1).trans rfl
    have Hyes : Hid (y.known p = true → x.subE i p = 4 ∧ x.submit i p = x) := fun hk => by
     have hE : x.subE i p = 4 := by
      unfold Qs.subE
      rw [HR.out, if_neg (by rw [Hb0.out]; decide), if_pos (known_some hlen hqn (by rw [Hy.out]; exact hk))]
     exact ⟨hE, by unfold Qs.submit; rw [hE]; rfl⟩
    have Hno : Hid (y.known p = false → ∀ j, j < q + 1 → (r.at j).known p = false) := fun hk j hj => by
     by_cases e : j = q
     ·rw [e, Hy.out]; exact hk
     ·exact HA.out j (by omega)
    have hBw9 := Below.trans hBw (hB9.mono hBw.size)
    clear hpn
    rcases known_cases y.is y.fin p with ⟨a1, a9⟩ | ⟨a1, a2, a9⟩ | ⟨a1, a2, a3, a9⟩ | ⟨a1, a2, a3, a9⟩
    rotate_right 1
    ·have Hk : Hid (y.known p = true) := by show _ = _; unfold Sl.known; rw [a9]; rfl
     rw [a1] at s5
     clear a1 a9
     go_wp2_with fail
     all_goals
      go_ret
      obtain ⟨e1, e2⟩ := Hyes.out Hk.out
      rw [e1, e2]
      exact ⟨rfl, (QTo.refl h).below hBw9⟩
    all_goals
     have Ha9 : Hid ((y.is && sameB y.fin p) = false) := a9
     rw [a1] at s5
     clear a1 a9
     rcases known_cases y.mine y.kept p with ⟨b1, b9⟩ | ⟨b1, b2, b9⟩ | ⟨b1, b2, b3, b9⟩ | ⟨b1, b2, b3, b9⟩
     rotate_right 1
     ·have Hk : Hid (y.known p = true) := by show _ = _; unfold Sl.known; rw [Ha9.out, b9]; rfl
      rw [b1] at s11
      clear b1 b9
      go_wp2_with fail
      go_ret
      obtain ⟨e1, e2⟩ := Hyes.out Hk.out
      rw [e1, e2]
      exact ⟨rfl, (QTo.refl h).below hBw9⟩
     all_goals
      have Hk : Hid (y.known p = false) := by show _ = _; unfold Sl.known; rw [Ha9.out, b9]; rfl
      rw [b1] at s11
      clear b1 b9
      go_wp2_with fail
      go_roundw
      case rel => exact ⟨q + 1, by omega, by go_num, Hno.out Hk.out, hB9⟩
      case measure => simp [intOf]; omega
   ·have hqe : q = 16 := by omega
    have p1 : ¬ (q : Int) < 16 := by omega
    have HN : Hid (r.sl.any (fun y => y.known p) = false) := known_none hlen (by rw [← hqe]; exact HA.out)
    clear hqe HA hqn
    have c4 := hr3.hc hi (o := 4) (by decide) (v := I6 r.nx) rfl
    rw [hn] at c4
    by_cases b5 : n = 16
    ·have m5 : ((n : Int) == 16) = true := by simp; omega
     have hE : x.subE i p = 5 := by unfold Qs.subE; rw [HR.out, if_neg (by rw [Hb0.out]; decide), if_neg (by rw [HN.out]; decide), if_pos (by rw [hn]; omega)]
     have HE : Hid (x.subE i p = 5 ∧ x.submit i p = x) := ⟨hE, by unfold Qs.submit; rw [hE]; rfl⟩
     clear hE b5
     go_wp2_with fail
     go_ret
     rw [HE.out.1, HE.out.2]
     exact ⟨rfl, (QTo.refl h).below hBwr⟩
    ·have m5 : ((n : Int) == 16) = false := by simp; omega
     have hn15 : n < 16 := by omega
     have hne5 : ¬ r.nx = 16 := by rw [hn]; omega
     have HE5 : Hid (¬ r.nx = 16) := hne5
     clear b5 hne5
     have d0 := hQr.c0
     obtain ⟨a, c, hv, d1⟩ := hQr.c1
     have v5 : IntKind.i64.wrap ((x.net.length : Int) + (x.R.length : Int)) = (x.net.length : Int) + (x.R.length : Int) := wrap_ok _ (by omega) (by omega)
     by_cases hr2 : 200 < (x.net.length : Int) + (x.R.length : Int)
     ·have m2 : decide (200 < (x.net.length : Int) + (x.R.length : Int)) = true := by simp; omega
      have hE : x.subE i p = 6 := by unfold Qs.subE; rw [HR.out, if_neg (by rw [Hb0.out]; decide), if_neg (by rw [HN.out]; decide), if_neg HE5.out, if_pos hr2]
      have HE : Hid (x.subE i p = 6 ∧ x.submit i p = x) := ⟨hE, by unfold Qs.submit; rw [hE]; rfl⟩
      clear hE
      go_wp2_with fail
      go_quiet (fail)
      go_wp2_with fail
      go_ret
      rw [HE.out.1, HE.out.2]
      exact ⟨rfl, (QTo.refl h).below (Below.trans hBwr ((below_drewN (Below.refl _ _) _).mono hBwr.size))⟩
     ·have m2 : decide (200 < (x.net.length : Int) + (x.R.length : Int)) = false := by simp; omega
      have hE : x.subE i p = 0 := by unfold Qs.subE; rw [HR.out, if_neg (by rw [Hb0.out]; decide), if_neg (by rw [HN.out]; decide), if_neg HE5.out, if_neg hr2]
      have HX : Hid (x.submit i p = (x.put i ((r.next ((n : Int) + 1)).setAt n ((r.at n).propose p))).all (msg 3 r.ba (n : Int) p []) i) := by
       show _ = _
       unfold Qs.submit
       rw [hE, if_pos rfl, HR.out, hn]
       simp only [Int.toNat_natCast, Int.ofNat_eq_natCast]
      have HE : Hid (x.subE i p = 0) := hE
      clear hE
      go_wp2_with fail
      go_quiet (fail)
      have hBd : Below wr.heap.size wr (wr.drewN nq) := below_drewN (Below.refl _ _) nq
      have h4 := hQr.below hBd
      have g4 := hr3.below hBd
      have hb4 := blk_below hBd hbr
      have hBw4 := Below.trans hBwr (hBd.mono hBwr.size)
      generalize wr.drewN nq = w4 at *
      clear d0 d1 v5 m2 c4 m5 hQr hbr hr3 hBr hBwr hBd
      have hHR : w.heap.size ≠ Rb := fun e => hno (.inr (.inl e))
      have c4 := g4.hc hi (o := 4) (by decide) (v := I6 r.nx) rfl
      rw [hn] at c4
      have z4 := g4.fz (i * 396 + 4)
      have v1 : IntKind.i64.wrap ((n : Int) + 1) = (n : Int) + 1 := wrap_ok _ (by omega) (by omega)
      go_upto_region 22 with (fail)
      have g5 := g4.hd hi (v := I6 ((n : Int) + 1)) (r.next ((n : Int) + 1)) (o := 4) (by decide) rfl rfl rfl
      have k5 := keeps_set w4 Rb (i * 396 + 4) (I6 ((n : Int) + 1))
      generalize w4.setCell (A6 Rb (i * 396 + 4)) (I6 ((n : Int) + 1)) = w5 at *
      clear c4 z4 v1
      have s0 : (0 : Int) ≤ (n : Int) := by omega
      have s1 : (n : Int) < 16 := by omega
      have gz := g5.open hi hn15
      have hzl : (r.next ((n : Int) + 1)).sl.length = 16 := hlen
      have hyo : ((r.next ((n : Int) + 1)).at n).ok := Rr.at_ok (g5.rok hi) n
      have hae : (r.next ((n : Int) + 1)).at n = r.at n := rfl
      rw [hae] at gz hyo
      have hba : (r.next ((n : Int) + 1)).ba = r.ba := rfl
      generalize r.next ((n : Int) + 1) = z at *
      generalize r.at n = y at *
      clear g5 hae
      have c10 := gz.gc hi hzl hn15 (o := 10) (by decide) (v := .bool y.has) rfl
      have z10 := gz.fz (i * 396 + 12 + n * 24 + 10)
      go_upto_region 23 with (fail)
      have g6 := gz.gs1 hi hzl hn15 (o := 10) (v := .bool true) ⟨y.b, y.v, y.is, y.fin, true, y.mine, y.kept, y.kb, y.vo⟩ (by decide) hyo rfl
      have k6 := k5.trans (keeps_set w5 Rb (i * 396 + 12 + n * 24 + 10) (.bool true))
      generalize w5.setCell (A6 Rb (i * 396 + 12 + n * 24 + 10)) (.bool true) = w6 at *
      clear c10 z10 gz k5
      have c11 := g6.gc hi hzl hn15 (o := 11) (by decide) (v := .bool y.mine) rfl
      have z11 := g6.fz (i * 396 + 12 + n * 24 + 11)
      go_upto_region 24 with (fail)
      have g7 := g6.gs1 hi hzl hn15 (o := 11) (v := .bool true) ⟨y.b, y.v, y.is, y.fin, true, true, y.kept, y.kb, y.vo⟩ (by decide) hyo rfl
      have k7 := k6.trans (keeps_set w6 Rb (i * 396 + 12 + n * 24 + 11) (.bool true))
      generalize w6.setCell (A6 Rb (i * 396 + 12 + n * 24 + 11)) (.bool true) = w8 at *
      clear c11 z11 g6 k6
      have hb8 := blk_keeps k7 hb4 hHR
      have hth : World.there w8.drew Rb (i * 396 + 12 + n * 24 + 12) 4 := g7.thereS hi hn15 (by decide)
      have hi4 : (Tryz.prog.info? 33).map (·.size) = some (#[I6 p.c, I6 p.q, I6 p.h, .string p.t] : Array Value).size := by kernel_rfl
      have h14 : (#[I6 p.c, I6 p.q, I6 p.h, .string p.t] : Array Value).all (·.oneCell') = true := by simp [Value.oneCell']
      have g8 : RAt (World.setCells w8.drew Rb (i * 396 + 12 + n * 24 + 12) (#[I6 p.c, I6 p.q, I6 p.h, .string p.t] : Array Value).toList) Rb (x.R.set i (z.setAt n (y.propose p))) := (RAt.gs (w := w8.drew) (g7.below (Below.drew (Below.refl _ _))) hi hzl hn15 (o := 12) (vs := (#[I6 p.c, I6 p.q, I6 p.h, .string p.t] : Array Value).toList) (y.propose p) (by show 12 + 4 ≤ 24; decide) hyo rfl)
      have k8 : Keeps (fun b => b = Rb) w4 (World.setCells w8.drew Rb (i * 396 + 12 + n * 24 + 12) (#[I6 p.c, I6 p.q, I6 p.h, .string p.t] : Array Value).toList) := (k7.trans (Keeps.ofBelow (Below.drew (Below.refl _ _)))).trans (keeps_sets w8.drew Rb (i * 396 + 12 + n * 24 + 12) (#[I6 p.c, I6 p.q, I6 p.h, .string p.t] : Array Value).toList)
      have hb9 := blk_keeps k8 hb4 hHR
      go_wp2_with fail
      refine wp_region_held_drew (S := fun w' => w'.heap[w.heap.size]? = some (.cells #[I6 p.c, I6 p.q, I6 p.h, .string p.t] 33 (0, 0))) (by kernel_rfl) (hb8) (fun hS => ?_)
      refine tk 0 rfl hS (v := ?_) (fun w' hw => ?_) ?_
      rotate_left 1
      ·have d9 := blk_cell hw; go_simp; all_goals with_reducible rfl
      try simp only [ly]
      refine tk 1 rfl hS (v := ?_) (fun w' hw => ?_) ?_
      rotate_left 1
      ·have d9 := blk_cell hw; go_simp; all_goals with_reducible rfl
      try simp only [ly]
      refine tk 2 rfl hS (v := ?_) (fun w' hw => ?_) ?_
      rotate_left 1
      ·have d9 := blk_cell hw; go_simp; all_goals with_reducible rfl
      try simp only [ly]
      refine tk 3 rfl hS (v := ?_) (fun w' hw => ?_) ?_
      rotate_left 1
      ·have d9 := blk_cell hw; go_simp; all_goals with_reducible rfl
      try simp only [ly]
      refine tk 4 rfl hS (v := ?_) (fun w' hw => ?_) ?_
      rotate_left 1
      ·have d9 := blk_cell hw; go_simp; all_goals with_reducible rfl
      try simp only [ly]
      refine tk 5 rfl hS (v := ?_) (fun w' hw => ?_) ?_
      rotate_left 1
      ·have d9 := blk_cell hw; go_simp; all_goals with_reducible rfl
      try simp only [ly]
      refine tk 6 rfl hS (v := ?_) (fun w' hw => ?_) ?_
      rotate_left 1
      ·have d9 := blk_cell hw; go_simp; all_goals with_reducible rfl
      try simp only [ly]
      refine r1 7 rfl (fun K hK => ?_)
      rw [if_pos (by kernel_rfl)]
      refine wp_store_mid 33 (.tmp 131) (.tmp 127) rfl Rb (i * 396 + 12 + n * 24 + 12) #[I6 p.c, I6 p.q, I6 p.h, .string p.t] rfl rfl hth hi4 h14 ?_
      refine hK.out _ _ hb9 (fun hS => ?_)
      clear hK K
      try simp only [ly]
      refine dn ?_ _
      generalize World.setCells w8.drew Rb (i * 396 + 12 + n * 24 + 12) (#[I6 p.c, I6 p.q, I6 p.h, .string p.t] : Array Value).toList = w9 at *
      clear hS hth hi4 h14 g7 k7 hb8
      have h9 := h4.turn2 k8 g8 (by simp only [List.length_set])
      have hkw : Keeps (qOwn qb Rb v) w w9 := (Keeps.ofBelow hBw4).trans (k8.mono (fun b _ e => .inr (.inl e)))
      have c3 : w9.cell? (A6 Rb (i * 396 + 3)) = some (I6 r.ba) := by rw [← hba]; exact g8.hc hi (o := 3) (by decide) rfl
      have h9d := h9.below (Below.drew (Below.refl _ w9))
      have hAl := rall_any h9d ⟨⟨3, (i : Int), 0, r.ba, (n : Int), p, []⟩, .slice none 0 0⟩ (Nm.okt_nil _ _ rfl) i rfl
      simp only [Nm.cells] at hAl
      go_wp2_with fail
      refine wp_region_held_drew (S := fun w' => w'.heap[w.heap.size]? = some (.cells #[I6 p.c, I6 p.q, I6 p.h, .string p.t] 33 (0, 0)) ∧ w'.cell? (A6 Rb (i * 396 + 3)) = some (I6 r.ba)) (by kernel_rfl) (⟨hb9, c3⟩) (fun hS => ?_)
      refine tk 0 rfl hS (v := ?_) (fun w' hw => ?_) ?_
      rotate_left 1
      ·have d9 := blk_cell hw.1; have d8 := hw.2; go_simp; all_goals with_reducible rfl
      try simp only [ly]
      refine tk 1 rfl hS (v := ?_) (fun w' hw => ?_) ?_
      rotate_left 1
      ·have d9 := blk_cell hw.1; have d8 := hw.2; go_simp; all_goals with_reducible rfl
      try simp only [ly]
      refine tk 2 rfl hS (v := ?_) (fun w' hw => ?_) ?_
      rotate_left 1
      ·have d9 := blk_cell hw.1; have d8 := hw.2; go_simp; all_goals with_reducible rfl
      try simp only [ly]
      refine tk 3 rfl hS (v := ?_) (fun w' hw => ?_) ?_
      rotate_left 1
      ·have d9 := blk_cell hw.1; have d8 := hw.2; go_simp; all_goals with_reducible rfl
      try simp only [ly]
      refine tk 4 rfl hS (v := ?_) (fun w' hw => ?_) ?_
      rotate_left 1
      ·have d9 := blk_cell hw.1; have d8 := hw.2; go_simp; all_goals with_reducible rfl
      try simp only [ly]
      refine tk 5 rfl hS (v := ?_) (fun w' hw => ?_) ?_
      rotate_left 1
      ·have d9 := blk_cell hw.1; have d8 := hw.2; go_simp; all_goals with_reducible rfl
      try simp only [ly]
      refine tk 6 rfl hS (v := ?_) (fun w' hw => ?_) ?_
      rotate_left 1
      ·have d9 := blk_cell hw.1; have d8 := hw.2; go_simp; all_goals with_reducible rfl
      try simp only [ly]
      refine tk 7 rfl hS (v := ?_) (fun w' hw => ?_) ?_
      rotate_left 1
      ·have d9 := blk_cell hw.1; have d8 := hw.2; go_simp; all_goals with_reducible rfl
      try simp only [ly]
      refine tk 8 rfl hS (v := ?_) (fun w' hw => ?_) ?_
      rotate_left 1
      ·have d9 := blk_cell hw.1; have d8 := hw.2; go_simp; all_goals with_reducible rfl
      try simp only [ly]
      refine r1 9 rfl (fun K hK => ?_)
      go_simp
      refine hAl.mono ?_
      rintro e w10 ⟨rfl, v10, h10, o10, k10⟩
      clear hAl
      have hb10 := blk_keeps k10 (blk_below (Below.drew (Below.refl _ w9)) hb9) (fun ho => hno ho)
      have g10 := h10.reps
      have c3x : w10.cell? (A6 Rb (i * 396 + 3)) = some (I6 r.ba) := by
       have e9 : (Qs.all ⟨x.R.set i (z.setAt n (y.propose p)), x.net⟩ ⟨3, (i : Int), 0, r.ba, (n : Int), p, []⟩ i).R = x.R.set i (z.setAt n (y.propose p)) := rsendTo_R' _ _ _ _
       rw [e9] at g10
       rw [← hba]; exact g10.hc hi (o := 3) (by decide) rfl
      go_wp2_with fail
      refine hK.out _ _ ⟨hb10, c3x⟩ (fun hS => ?_)
      clear hK K
      try simp only [ly]
      refine dn ?_ _
      go_wp2_with fail
      go_ret
      refine ⟨by rw [HE.out]; rfl, ?_⟩
      rw [HX.out, all_same (m := msg 3 r.ba (n : Int) p []) (m' := ⟨3, (i : Int), 0, r.ba, (n : Int), p, []⟩) (fun _ => rfl)]
      exact QTo.next (fun _ h => .inl h) hkw (QTo.after (Below.drew (Below.refl _ w9)) ⟨v10, h10, o10, k10⟩)
 ·have m0 : (r.ro != 2) = true := by simp [b0]
  have hE : x.subE i p = 3 := by unfold Qs.subE; rw [HR.out, if_pos b0]
  have HE : Hid (x.subE i p = 3 ∧ x.submit i p = x) := ⟨hE, by unfold Qs.submit; rw [hE]; rfl⟩
  clear hE b0
  go_wp2_with fail
  go_ret
  rw [HE.out.1, HE.out.2]
  exact ⟨rfl, (QTo.refl h).below hBw⟩
theorem rsub_bad (h : QAt w qb Rb v x) {i : Nat} (hi : i < x.R.length) (p : Pst) (hp : rightPostB p = false) :
  Calls Tryz.prog 38 #[P6 qb, I6 (i : Int), .agg #[I6 p.c, I6 p.q, I6 p.h, .string p.t]] w fun e w' => e = .returned (I6 1) ∧ Below w.heap.size w w' := by
 have hB1 : Below w.heap.size w (w.alloc (.cells #[I6 p.c, I6 p.q, I6 p.h, .string p.t] 33)) := (Below.refl _ w).alloc (Nat.le_refl _) _
 have hb1 := blk_new w (.cells #[I6 p.c, I6 p.q, I6 p.h, .string p.t] 33)
 have h1 := h.below hB1
 have hIs := ris_yes h1 hi
 have hPo := rpost_any p.c p.q p.h p.t (w.alloc (.cells #[I6 p.c, I6 p.q, I6 p.h, .string p.t] 33))
 have hpe : rightPostB ⟨p.c, p.q, p.h, p.t⟩ = false := hp
 rw [hpe] at hPo
 clear hpe hp
 have hbc := blk_cell hb1
 go_enter Tryz.func38, Tryz.ntmps38
 go_wp2_with fail
 refine hIs.mono ?_
 rintro e w' ⟨rfl, hw'⟩
 have hw9 := hw'
 subst hw9
 clear hIs hw'
 go_wp2_with fail
 refine hPo.mono ?_
 rintro e w2 ⟨rfl, hB2⟩
 clear hPo hbc
 go_wp2_with fail
 go_ret
 exact ⟨rfl, hB1.trans (hB2.mono hB1.size)⟩
theorem rsub_no (h : QAt w qb Rb v x) {i : Int} (hi : i < 0 ∨ (x.R.length : Int) ≤ i) (p : Pst) :
  Calls Tryz.prog 38 #[P6 qb, I6 i, .agg #[I6 p.c, I6 p.q, I6 p.h, .string p.t]] w fun e w' => e = .returned (I6 1) ∧ Below w.heap.size w w' := by
 have hB1 : Below w.heap.size w (w.alloc (.cells #[I6 p.c, I6 p.q, I6 p.h, .string p.t] 33)) := (Below.refl _ w).alloc (Nat.le_refl _) _
 have hb1 := blk_new w (.cells #[I6 p.c, I6 p.q, I6 p.h, .string p.t] 33)
 have h1 := h.below hB1
 have hIs := ris_no h1 hi
 have hPo := rpost_any p.c p.q p.h p.t (w.alloc (.cells #[I6 p.c, I6 p.q, I6 p.h, .string p.t] 33))
 generalize rightPostB ⟨p.c, p.q, p.h, p.t⟩ = B at *
 have hbc := blk_cell hb1
 go_enter Tryz.func38, Tryz.ntmps38
 go_wp2_with fail
 refine hIs.mono ?_
 rintro e w' ⟨rfl, hw'⟩
 have hw9 := hw'
 subst hw9
 clear hIs hw'
 go_wp2_with fail
 refine hPo.mono ?_
 rintro e w2 ⟨rfl, hB2⟩
 clear hPo hbc
 go_wp2_with fail
 go_ret
 exact ⟨rfl, hB1.trans (hB2.mono hB1.size)⟩
end
end
end Go.Proofs.YtnnhnekfokbooaaGreatDoor
