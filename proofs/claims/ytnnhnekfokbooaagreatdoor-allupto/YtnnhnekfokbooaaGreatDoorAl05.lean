/- CodeN, CodeO, Mach, Syn, SynB -/
import Derived.Test.YtnnhnekfokbooaaGreatDoorAl04
set_option linter.unusedSimpArgs false
set_option linter.unusedVariables false
set_option maxRecDepth 100000
namespace Go.Proofs.YtnnhnekfokbooaaGreatDoor
section
open Go.RowKit
def keep1 (kept : List Vt) (v : Vt) : List Vt := if (kept.getD v.s.toNat ⟨0, 0, ⟨0, 0, 0, ⟨#[]⟩⟩⟩).b < v.b then kept.set v.s.toNat v else kept
def keepAll (kept : List Vt) : List Vt → List Vt
 | [] => kept
 | v :: l => keepAll (keep1 kept v) l
theorem keepAll_snoc : ∀ (a : List Vt) (v : Vt) (kept : List Vt), keepAll kept (a ++ [v]) = keep1 (keepAll kept a) v
 | [], v, kept => rfl
 | x :: a, v, kept => keepAll_snoc a v _
theorem keep1_length (kept : List Vt) (v : Vt) : (keep1 kept v).length = kept.length := by
 unfold keep1; split <;> simp
theorem keepAll_length : ∀ (a : List Vt) (kept : List Vt), (keepAll kept a).length = kept.length
 | [], kept => rfl
 | v :: a, kept => by rw [keepAll, keepAll_length a, keep1_length]
theorem vcells_set : ∀ (l : List Vt) (k : Nat) (hk : k < l.length) (v : Vt), (vcells l).take (k * 6) ++ v.cells ++ (vcells l).drop (k * 6 + 6) = vcells (l.set k v)
 | [], k, hk, _ => by simp at hk
 | x :: l, 0, _, v => by
  rw [List.set_cons_zero, vcells, vcells]
  have e : (x.cells ++ vcells l).drop (0 * 6 + 6) = vcells l := List.drop_left' rfl
  rw [e]; simp
 | x :: l, k + 1, hk, v => by
  have e1 : (k + 1) * 6 = x.cells.length + k * 6 := by show _ = 6 + _; omega
  have e2 : (k + 1) * 6 + 6 = x.cells.length + (k * 6 + 6) := by show _ = 6 + _; omega
  rw [List.set_cons_succ, vcells, vcells, e2, e1, ← vcells_set l k (by simpa using hk) v]
  rw [List.take_append, List.take_of_length_le (by omega), List.drop_append, List.drop_of_length_le (by omega), Nat.add_sub_cancel_left, Nat.add_sub_cancel_left]
  simp
set_option maxHeartbeats 4000000 in
theorem keep_any (pb : Nat) (hd : List Value) (kept l : List Vt) (v : Value) (w : World) (hb : w.heap[pb]? = some (.cells (hd ++ vcells kept).toArray 156 (0, 0))) (hhd : hd.length = 10) (hkl : kept.length = 16) (hv : VAt w v l) (hvp : ∀ g, v.ownBlock = some g → g ≠ pb)
  (hl : l.length ≤ 1000) (hs : ∀ x ∈ l, 0 ≤ x.s ∧ x.s < 16) :
  Calls Tryz.prog 130 #[P6 pb, v] w fun e w' => e = .returned (.tuple #[]) ∧ w'.heap[pb]? = some (.cells (hd ++ vcells (keepAll kept l)).toArray 156 (0, 0)) ∧ Keeps (fun k => k = pb) w w' := by
 have hlt := lt_of_block hb
 obtain ⟨ao, cap, rfl, hf⟩ := hv.form
 go_enter Tryz.func130, Tryz.ntmps130
 go_wp2_with fail
 go_loopw [8] (fun i wr => ∃ j : Nat, j ≤ l.length ∧ i = I6 j ∧ wr.heap[pb]? = some (.cells (hd ++ vcells (keepAll kept (l.take j))).toArray 156 (0, 0)) ∧ Keeps (fun k => k = pb) w wr) (fun i _ => l.length - (intOf i).toNat)
 case atStart => exact ⟨0, Nat.zero_le _, rfl, hb, Keeps.refl _ _⟩
 case round =>
  obtain ⟨j, hj, rfl, hbj, hKp⟩ := hrel
  have hpl := lt_of_block hbj
  by_cases hjn : j < l.length
  ·obtain ⟨g, off, rfl, hg, hc⟩ := hf (by intro e; subst e; simp at hjn)
   have hgp := hvp g rfl
   have src : ∀ i (hi : i < 6), wr.cell? (A6 g (off + j * 6 + i)) = l[j].cells[i]? := fun i hi => by
    have e := vcells_at l j hjn i hi
    rw [World.cell?_of_block (w := w) (hKp.block g hg hgp), Nat.add_assoc]
    have hl6 : i < l[j].cells.length := by simpa [Vt.cells] using hi
    rw [List.getElem?_eq_getElem hl6] at e ⊢
    exact hc _ _ e
   have c0 := src 0 (by decide)
   have c1 := src 1 (by decide)
   have c2 := src 2 (by decide)
   have c3 := src 3 (by decide)
   have c4 := src 4 (by decide)
   have c5 := src 5 (by decide)
   have hsj := hs l[j] (List.getElem_mem hjn)
   have hgz : g < wr.heap.size := Nat.lt_of_lt_of_le hg hKp.size
   have hpz : pb < wr.heap.size := hpl
   have htk : l.take (j + 1) = l.take j ++ [l[j]] := by rw [List.take_add_one, List.getElem?_eq_getElem hjn]; rfl
   have hkn := keepAll_snoc (l.take j) l[j] kept
   rw [← htk] at hkn
   have hkl2 := keepAll_length (l.take j) kept
   generalize keepAll kept (l.take j) = kj at *
   have HK : Hid (keepAll kept (l.take (j + 1)) = keep1 kj l[j]) := hkn
   clear hkn
   generalize l[j] = y at *
   obtain ⟨ys, yb, ⟨yc, yq, yh, yt⟩⟩ := y
   obtain ⟨s, rfl⟩ := Int.eq_ofNat_of_zero_le hsj.1
   have hs16 : s < kj.length := by have := hsj.2; simp at this; omega
   simp only [Vt.cells, List.getElem?_cons_zero, List.getElem?_cons_succ, Nat.add_zero] at c0 c1 c2 c3 c4 c5
   have q0 : (0 : Int) ≤ (j : Int) := by omega
   have q1 : (j : Int) < (l.length : Int) := by omega
   have q2 : (0 : Int) ≤ (s : Int) := by omega
   have q3 : (s : Int) < 16 := by omega
   have ck : wr.cell? (A6 pb (10 + s * 6 + 1)) = some (I6 kj[s].b) := by
    rw [blk_cell hbj, List.getElem?_toArray, List.getElem?_append_right (by omega), hhd]
    have e1 : 10 + s * 6 + 1 - 10 = s * 6 + 1 := by omega
    rw [e1, vcells_at kj s hs16 1 (by decide)]
    rfl
   have hgd : (kj.getD s ⟨0, 0, ⟨0, 0, 0, ⟨#[]⟩⟩⟩).b = kj[s].b := by rw [List.getD_eq_getElem?_getD, List.getElem?_eq_getElem hs16]; rfl
   have hbf := blk_free hbj
   have hle : (hd ++ vcells kj).length = 106 := by rw [List.length_append, vcells_length]; omega
   clear src
   have hboxq : ∀ q, ((wr.alloc (.cells #[I6 (s : Int), I6 yb, I6 yc, I6 yq, I6 yh, .string yt] 53)).drewN q).heap[wr.heap.size]? = some (.cells #[I6 (s : Int), I6 yb, I6 yc, I6 yq, I6 yh, .string yt] 53 (0, 0)) := fun q => blk_new wr _
   have hthq : ∀ q, World.there ((wr.alloc (.cells #[I6 (s : Int), I6 yb, I6 yc, I6 yq, I6 yh, .string yt] 53)).drewN q) pb (10 + s * 6) 6 := fun q j hj => ⟨by show (World.cell? (wr.alloc _) _).isSome = true; rw [blk_cell (blk_alloc hbj _), Array.getElem?_eq_getElem (by rw [List.size_toArray]; omega)]; rfl, blk_free (blk_alloc hbj _) _⟩
   have hi6 : (Tryz.prog.info? 53).map (·.size) = some (#[I6 (s : Int), I6 yb, I6 yc, I6 yq, I6 yh, .string yt] : Array Value).size := by kernel_rfl
   have h16 : (#[I6 (s : Int), I6 yb, I6 yc, I6 yq, I6 yh, .string yt] : Array Value).all (·.oneCell') = true := by simp [Value.oneCell']
   by_cases hlt2 : kj[s].b < yb
   ·have hdd : decide (kj[s].b < yb) = true := by simpa using hlt2
    have hk1 : keep1 kj ⟨(s : Int), yb, ⟨yc, yq, yh, yt⟩⟩ = kj.set s ⟨(s : Int), yb, ⟨yc, yq, yh, yt⟩⟩ := by simp only [keep1, Int.toNat_natCast]; rw [hgd, if_pos hlt2]
    generalize kj[s].b = kb at *
    go_wp2_with fail
    go_quiet (fail)
    go_wp2_with fail
    refine wp_region_held_drew (S := fun w' => w'.heap[wr.heap.size]? = some (.cells #[I6 (s : Int), I6 yb, I6 yc, I6 yq, I6 yh, .string yt] 53 (0, 0))) (by kernel_rfl) (hboxq 0) (fun hS => ?_)
    refine tk 0 rfl hS (v := P6 pb) (fun w' hw => by clear hS; go_simp) ?_
    try simp only [ly]
    refine tk 1 rfl hS (v := P6 wr.heap.size) (fun w' hw => by clear hS; go_simp) ?_
    try simp only [ly]
    refine tk 2 rfl hS (v := I6 (s : Int)) (fun w' hw => by have c := blk_cell hw; clear hS; go_simp) ?_
    try simp only [ly]
    refine tk 3 rfl hS (v := .agg #[I6 (s : Int), I6 yb, I6 yc, I6 yq, I6 yh, .string yt]) (fun w' hw => by have c := blk_cell hw; clear hS; go_simp) ?_
    try simp only [ly]
    refine tk 4 rfl hS (v := P6 pb) (fun w' hw => by clear hS; go_simp) ?_
    try simp only [ly]
    refine tk 5 rfl hS (v := .pointer (some (A6 pb 10))) (fun w' hw => by clear hS; go_simp) ?_
    try simp only [ly]
    refine tk 6 rfl hS (v := .pointer (some (A6 pb (10 + s * 6)))) (fun w' hw => by clear hS; go_simp) ?_
    try simp only [ly]
    refine r1 7 rfl (fun K hK => ?_)
    rw [if_pos (by kernel_rfl)]
    refine wp_store_mid 53 (.tmp 29) (.tmp 26) rfl pb (10 + s * 6) #[I6 (s : Int), I6 yb, I6 yc, I6 yq, I6 yh, .string yt] rfl rfl (hthq 0) hi6 h16 ?_
    refine hK.out _ _ ?_ (fun hS => ?_)
    ·show (World.setCells _ _ _ _).heap[_]? = _
     rw [setCells_other pb _ _ _ _ (by omega)]
     exact hboxq 0
    clear hK K
    try simp only [ly]
    refine dn ?_ _
    go_wp2_with fail
    go_roundw
    case rel =>
     refine ⟨j + 1, by omega, by go_num, ?_, ?_⟩
     ·rw [HK.out, hk1]
      have X := setCells_self pb 156 [I6 (s : Int), I6 yb, I6 yc, I6 yq, I6 yh, .string yt] (10 + s * 6) (wr.alloc (.cells #[I6 (s : Int), I6 yb, I6 yc, I6 yq, I6 yh, .string yt] 53)) _ (blk_alloc hbj _) (by rw [List.size_toArray, hle]; simp; omega)
      have e2 : (hd ++ vcells kj).toArray.toList.take (10 + s * 6) ++ [I6 (s : Int), I6 yb, I6 yc, I6 yq, I6 yh, .string yt] ++ (hd ++ vcells kj).toArray.toList.drop (10 + s * 6 + 6) = hd ++ vcells (kj.set s ⟨(s : Int), yb, ⟨yc, yq, yh, yt⟩⟩) := by
       rw [List.toList_toArray, ← vcells_set kj s hs16, ← hhd, List.take_append, List.take_of_length_le (by omega), List.drop_append, List.drop_of_length_le (by omega)]
       have e3 : hd.length + s * 6 - hd.length = s * 6 := by omega
       have e4 : hd.length + s * 6 + 6 - hd.length = s * 6 + 6 := by omega
       rw [e3, e4]
       simp [Vt.cells]
      have e5 : [I6 (s : Int), I6 yb, I6 yc, I6 yq, I6 yh, .string yt].length = 6 := rfl
      rw [e5, e2] at X
      exact X
     ·refine hKp.trans (Keeps.trans (Keeps.ofBelow ?_) (Keeps.ofSets (P := fun k => k = pb) pb rfl _ _ _))
      exact below_drewN ((Below.refl _ wr).alloc (Nat.le_refl _) _) _
    case measure => simp [intOf]; omega
   ·have hdd : decide (kj[s].b < yb) = false := by simpa using hlt2
    have hk1 : keep1 kj ⟨(s : Int), yb, ⟨yc, yq, yh, yt⟩⟩ = kj := by simp only [keep1, Int.toNat_natCast]; rw [hgd, if_neg hlt2]
    generalize kj[s].b = kb at *
    go_wp2_with fail
    go_quiet (fail)
    go_wp2_with fail
    go_roundw
    case rel =>
     refine ⟨j + 1, by omega, by go_num, ?_, ?_⟩
     ·rw [HK.out, hk1]; exact blk_alloc hbj _
     ·exact hKp.trans (Keeps.ofBelow (below_drewN ((Below.refl _ wr).alloc (Nat.le_refl _) _) _))
    case measure => simp [intOf]; omega
  ·go_wp2_with fail
   go_end0
   obtain rfl : j = l.length := by omega
   rw [List.take_length] at hbj
   exact ⟨rfl, hbj, hKp⟩
end
section
open Go.RowKit
set_option maxHeartbeats 4000000 in
theorem tell_any (k b : Int) (w : World) :
  Calls Tryz.prog 160 #[.agg #[I6 k, I6 b]] w fun e w' => e = .returned (.agg #[I6 k, I6 b, I6 0, I6 0]) ∧ Below w.heap.size w w' := by
 go_enter Tryz.func160, Tryz.ntmps160
 go_wp2
 refine bodyPost_ret (v := .agg #[I6 k, I6 b, I6 0, I6 0]) (by simp [results, Tryz.results160, go_sem]) rfl ⟨rfl, ?_⟩
 repeat refine Below.setCell ?_ (by simp) _
 exact ((Below.refl _ w).alloc (Nat.le_refl _) _).alloc (by simp) _
set_option maxHeartbeats 4000000 in
theorem ltell_any (lb : Nat) (k b n : Int) (w : World) (h0 : w.cell? (A6 lb 0) = some (I6 k)) (h1 : w.cell? (A6 lb 1) = some (I6 b)) (h2 : w.cell? (A6 lb 2) = some (I6 n)) :
  Calls Tryz.prog 161 #[P6 lb] w fun e w' => e = .returned (.agg #[I6 k, I6 b, I6 0, I6 n]) ∧ Below w.heap.size w w' := by
 have hlt := World.block_lt_of_cell? w _ h0
 have hq := blk_new w (.cells #[I6 0, I6 0, I6 0, I6 0] 85)
 go_enter Tryz.func161, Tryz.ntmps161
 go_wp2_with fail
 refine (tell_any k b _).mono ?_
 rintro e w1 ⟨rfl, hB1⟩
 have hq1 := blk_below hB1 hq
 have hqc := blk_cell hq1
 have hqf := blk_free hq1
 have hz1 := lt_of_block hq1
 have c2 : w1.cell? (A6 lb 2) = some (I6 n) := by
  rw [hB1.cell (p := (A6 lb 2)) (by simp; omega), World.cell?_alloc_lt _ _ _ hlt]; exact h2
 have hlb1 : lb < w1.heap.size := by omega
 have hlb2 : w.heap.size ≠ w1.heap.size := by omega
 go_wp2
 refine bodyPost_ret (v := .agg #[I6 k, I6 b, I6 0, I6 n]) (by simp [results, Tryz.results161, go_sem, hqc, hz1]) rfl ⟨rfl, ?_⟩
 refine Below.alloc ?_ (by simp [World.setCell]; omega) _
 repeat refine Below.setCell ?_ (by simp) _
 exact ((Below.refl _ w).alloc (Nat.le_refl _) _).trans (hB1.mono (by simp))
end
section
open Go.RowKit
def noPst : Pst := ⟨0, 0, 0, ⟨#[]⟩⟩
def noVt : Vt := ⟨0, 0, noPst⟩
def noDn : Dn := ⟨false, noPst⟩
structure Tl where
 v : List Bool
 c : Int
def Tl.cells (t : Tl) : List Value := t.v.map Value.bool ++ [I6 t.c]
def noTl : Tl := ⟨List.replicate 7 false, 0⟩
def Tl.has (t : Tl) (k : Nat) : Bool := t.v.getD k false
def Tl.add (t : Tl) (k : Nat) : Tl := ⟨t.v.set k true, t.c + 1⟩
structure Pp where
 p : Pst
 t : Tl
def Pp.cells (x : Pp) : List Value := x.p.cells ++ x.t.cells
def noPp : Pp := ⟨noPst, noTl⟩
def ppcells : List Pp → List Value
 | [] => []
 | x :: l => x.cells ++ ppcells l
inductive Rl where
 | idle
 | prep (b : Int) (t : Tl) (kept : List Vt)
 | lead (b : Int) (next : Nat) (ps : List Pp)
def Rl.bal : Rl → Int
 | .idle => 0
 | .prep b _ _ => b
 | .lead b _ _ => b
structure Rp where
 pr : Int
 sn : Int
 acc : List Vt
 dec : List Dn
 rl : Rl
def noRp : Rp := ⟨0, 0, List.replicate 16 noVt, List.replicate 16 noDn, .idle⟩
structure Sy where
 n : Nat
 reps : List Rp
 net : List Ms
def Sy.rep (s : Sy) (i : Nat) : Rp := s.reps.getD i noRp
def Sy.put (s : Sy) (i : Nat) (r : Rp) : Sy := ⟨s.n, s.reps.set i r, s.net⟩
def Sy.send1 (s : Sy) (m : Ms) : Sy := ⟨s.n, s.reps, if s.net.length < 200 then s.net ++ [m] else s.net⟩
def Ms.to (m : Ms) (f t : Int) : Ms := ⟨m.k, f, t, m.b, m.s, m.p, m.a⟩
def Sy.sendTo (s : Sy) (m : Ms) (f : Nat) : List Nat → Sy
 | [] => s
 | t :: r => (s.send1 (m.to (f : Int) (t : Int))).sendTo m f r
def newSy (n : Nat) : Sy := ⟨n, List.replicate n noRp, []⟩
def Rp.yield (r : Rp) (b : Int) : Rp := ⟨r.pr, max r.sn b, r.acc, r.dec, if r.rl.bal < b then .idle else r.rl⟩
def Rp.dm (r : Rp) (k : Nat) : Bool := (r.dec.getD k noDn).m
def Rp.decide (r : Rp) (k : Nat) (p : Pst) : Rp := ⟨r.pr, r.sn, r.acc, r.dec.set k ⟨true, p⟩, r.rl⟩
def Rp.role (r : Rp) (l : Rl) : Rp := ⟨r.pr, r.sn, r.acc, r.dec, l⟩
def Rp.accept (r : Rp) (k : Nat) (v : Vt) : Rp := ⟨r.pr, r.sn, r.acc.set k v, r.dec, r.rl⟩
def Rp.promise (r : Rp) (b : Int) : Rp := ⟨b, r.sn, r.acc, r.dec, r.rl⟩
def msg (k b s : Int) (p : Pst) (a : List Vt) : Ms := ⟨k, 0, 0, b, s, p, a⟩
def Sy.all (s : Sy) : List Nat := List.range s.n
def Sy.others (s : Sy) (i : Nat) : List Nat := (List.range s.n).eraseIdx i
def Sy.obeys (s : Sy) (i : Nat) (m : Ms) : Bool := decide ((s.rep i).pr ≤ m.b)
def Sy.obey (s : Sy) (i : Nat) (m : Ms) : Sy :=
 if m.b < (s.rep i).pr then s.sendTo (msg 6 (s.rep i).pr 0 noPst []) i [m.f.toNat] else s.put i (((s.rep i).yield m.b).promise m.b)
def Sy.takePrepare (s : Sy) (i : Nat) (m : Ms) : Sy :=
 if m.b < (s.rep i).pr then s.obey i m else (s.obey i m).sendTo (msg 2 m.b 0 noPst (voted (s.rep i).acc)) i [m.f.toNat]
def Sy.propose (s : Sy) (i k : Nat) (p : Pst) : Sy :=
 match (s.rep i).rl with
 | .lead b next ps => (s.put i ((s.rep i).role (.lead b next (ps.set k ⟨p, (ps.getD k noPp).t⟩)))).sendTo (msg 3 b (k : Int) p []) i s.all
 | _ => s
def Sy.leadTo (s : Sy) (i : Nat) (kept : List Vt) : Nat → Sy
 | 0 => s
 | k + 1 => if (s.rep i).dm k then s.leadTo i kept k else (s.leadTo i kept k).propose i k (kept.getD k noVt).p
def Sy.nextOf (s : Sy) (i : Nat) (kept : List Vt) : Nat := nextB (s.rep i).dm (fun k => (kept.getD k noVt).b) 16
def Sy.lead (s : Sy) (i : Nat) (b : Int) (kept : List Vt) : Sy :=
 (s.put i ((s.rep i).role (.lead b (s.nextOf i kept) (List.replicate 16 noPp)))).leadTo i kept (s.nextOf i kept)
def Sy.takePromise (s : Sy) (i : Nat) (m : Ms) : Sy :=
 match (s.rep i).rl with
 | .prep b t kept =>
  if b = m.b ∧ t.has m.f.toNat = false then
   if (s.n : Int) < 2 * (t.c + 1) then (s.put i ((s.rep i).role (.prep b (t.add m.f.toNat) (keepAll kept m.a)))).lead i b (keepAll kept m.a)
   else s.put i ((s.rep i).role (.prep b (t.add m.f.toNat) (keepAll kept m.a)))
  else s
 | _ => s
def Sy.takePropose (s : Sy) (i : Nat) (m : Ms) : Sy :=
 if m.b < (s.rep i).pr then s.obey i m
 else ((s.obey i m).put i (((s.obey i m).rep i).accept m.s.toNat ⟨m.s, m.b, m.p⟩)).sendTo (msg 4 m.b m.s noPst []) i [m.f.toNat]
def Sy.takeAccept (s : Sy) (i : Nat) (m : Ms) : Sy :=
 match (s.rep i).rl with
 | .lead b next ps =>
  if b = m.b ∧ (s.rep i).dm m.s.toNat = false ∧ (ps.getD m.s.toNat noPp).t.has m.f.toNat = false then
   let r := (s.rep i).role (.lead b next (ps.set m.s.toNat ⟨(ps.getD m.s.toNat noPp).p, (ps.getD m.s.toNat noPp).t.add m.f.toNat⟩))
   if (s.n : Int) < 2 * ((ps.getD m.s.toNat noPp).t.c + 1) then (s.put i (r.decide m.s.toNat (ps.getD m.s.toNat noPp).p)).sendTo (msg 5 0 m.s (ps.getD m.s.toNat noPp).p []) i (s.others i)
   else s.put i r
  else s
 | _ => s
def Sy.takeDecide (s : Sy) (i : Nat) (m : Ms) : Sy :=
 if (s.rep i).dm m.s.toNat then s else s.put i ((s.rep i).decide m.s.toNat m.p)
def Sy.takeRefuse (s : Sy) (i : Nat) (m : Ms) : Sy := s.put i ((s.rep i).yield m.b)
def Sy.receive (s : Sy) (i : Nat) (m : Ms) : Sy :=
 if m.k = 1 then s.takePrepare i m else if m.k = 2 then s.takePromise i m else if m.k = 3 then s.takePropose i m
 else if m.k = 4 then s.takeAccept i m else if m.k = 5 then s.takeDecide i m else s.takeRefuse i m
def Sy.without (s : Sy) (k : Nat) : Sy := ⟨s.n, s.reps, s.net.eraseIdx k⟩
def noMs : Ms := ⟨0, 0, 0, 0, 0, noPst, []⟩
def Sy.deliver (s : Sy) (k : Nat) : Sy := (s.without k).receive ((s.net.getD k noMs).t.toNat) (s.net.getD k noMs)
def Sy.double (s : Sy) (k : Nat) : Sy := s.send1 (s.net.getD k noMs)
def Sy.crash (s : Sy) (i : Nat) : Sy := s.put i ⟨(s.rep i).pr, 0, (s.rep i).acc, (s.rep i).dec, .idle⟩
def Rp.round (r : Rp) : Int := max r.pr r.sn / 8 + 1
def Sy.campE (s : Sy) (i : Nat) : Int :=
 if 1000 < (s.rep i).round then 7 else if (s.net.length : Int) + s.n ≤ 200 then 0 else 6
def Sy.campaign (s : Sy) (i : Nat) : Sy :=
 if s.campE i = 0 then (s.put i (((s.rep i).promise (8 * (s.rep i).round + i)).role (.prep (8 * (s.rep i).round + i) noTl (List.replicate 16 noVt)))).sendTo (msg 1 (8 * (s.rep i).round + i) 0 noPst []) i s.all
 else s
def sameB (a b : Pst) : Bool := a.c == b.c && a.q == b.q
def Sy.subE (s : Sy) (i : Nat) (p : Pst) : Int :=
 match (s.rep i).rl with
 | .lead _ next ps =>
  if (s.rep i).dec.any (fun d => sameB d.p p) || ps.any (fun x => sameB x.p p) then 4 else if next = 16 then 5 else if (s.net.length : Int) + s.n ≤ 200 then 0 else 6
 | _ => 3
def Rp.bump (r : Rp) : Rp :=
 match r.rl with
 | .lead b next ps => r.role (.lead b (next + 1) ps)
 | _ => r
def Rp.next (r : Rp) : Nat :=
 match r.rl with
 | .lead _ next _ => next
 | _ => 0
def Sy.submit (s : Sy) (i : Nat) (p : Pst) : Sy :=
 if s.subE i p = 0 then (s.propose i (s.rep i).next p).put i ((s.propose i (s.rep i).next p).rep i).bump else s
end
section
open Go.RowKit
theorem ppcells_length : ∀ (l : List Pp), (∀ x ∈ l, x.t.v.length = 7) → (ppcells l).length = l.length * 12
 | [], _ => rfl
 | x :: l, h => by
  have h1 := ppcells_length l (fun y hy => h y (List.mem_cons_of_mem _ hy))
  have h2 := h x List.mem_cons_self
  simp [ppcells, Pp.cells, Pst.cells, Tl.cells, h1, h2]; omega
def Tl.ok (t : Tl) : Prop := t.v.length = 7 ∧ t.c = ((t.v.filter id).length : Int)
theorem Tl.ok.le {t : Tl} (h : t.ok) : 0 ≤ t.c ∧ t.c ≤ 7 := by
 have := List.length_filter_le id t.v
 have h1 := h.1
 have h2 := h.2
 omega
def Rl.ok : Rl → Prop
 | .idle => True
 | .prep _ t kept => t.ok ∧ kept.length = 16
 | .lead _ next ps => next ≤ 16 ∧ ps.length = 16 ∧ ∀ x ∈ ps, x.t.ok
structure Rp.ok (r : Rp) : Prop where
 pr0 : 0 ≤ r.pr
 pr1 : r.pr ≤ 8007
 sn0 : 0 ≤ r.sn
 sn1 : r.sn ≤ 8007
 acc : r.acc.length = 16
 slot : ∀ v ∈ r.acc, 0 ≤ v.s ∧ v.s < 16
 dec : r.dec.length = 16
 rl : r.rl.ok
structure Ms.ok (n : Nat) (m : Ms) : Prop where
 k0 : 1 ≤ m.k
 k1 : m.k ≤ 6
 f0 : 0 ≤ m.f
 f1 : m.f < n
 t0 : 0 ≤ m.t
 t1 : m.t < n
 b0 : 0 ≤ m.b
 b1 : m.b ≤ 8007
 s0 : 0 ≤ m.s
 s1 : m.s < 16
 a : m.a.length ≤ 16
 sl : ∀ v ∈ m.a, 0 ≤ v.s ∧ v.s < 16
structure Sy.ok (s : Sy) : Prop where
 n0 : 1 ≤ s.n
 n1 : s.n ≤ 7
 len : s.reps.length = s.n
 rep : ∀ r ∈ s.reps, r.ok
 full : s.net.length ≤ 200
 net : ∀ m ∈ s.net, m.ok s.n
def repHead (i n sb : Nat) (r : Rp) : List Value := [I6 (i : Int), I6 (n : Int), .pointer (some (A6 sb 1)), I6 r.pr, I6 r.sn]
def repCells (i n sb : Nat) (r : Rp) (rv : Value) : List Value := repHead i n sb r ++ (vcells r.acc ++ (dcells r.dec ++ [rv]))
def prepHead (b : Int) (t : Tl) : List Value := [I6 1, I6 b] ++ t.cells
def leadHead (b : Int) (next : Nat) : List Value := [I6 2, I6 b, I6 (next : Int)]
def RoleIs (w : World) (rv : Value) : Rl → Prop
 | .idle => rv = idleV
 | .prep b t kept => ∃ pb, rv = .iface 152 (P6 pb) ∧ w.heap[pb]? = some (.cells (prepHead b t ++ vcells kept).toArray 156 (0, 0))
 | .lead b next ps => ∃ pb, rv = .iface 160 (P6 pb) ∧ w.heap[pb]? = some (.cells (leadHead b next ++ ppcells ps).toArray 166 (0, 0))
def roleBlk : Value → Option Nat
 | .iface _ (.pointer (some a)) => some a.block
 | _ => none
structure Lay where
 rb : Nat → Nat
 rv : Nat → Value
 v : Value
def Lay.gb (L : Lay) : Nat := L.rb 1000
def Lay.gc (L : Lay) : Nat := L.rb 1001
def Lay.own (L : Lay) (sb n k : Nat) : Prop := k = sb ∨ k = L.gb ∨ (∃ i, i < n ∧ (k = L.rb i ∨ roleBlk (L.rv i) = some k)) ∨ L.v.ownBlock = some k
def Nm.okt (w : World) (x : Nm) : Prop := x.ok w ∧ ∀ g, x.v.ownBlock = some g → ∃ cs, w.heap[g]? = some (.cells cs 53 (0, 0))
structure SynAt (w : World) (sb : Nat) (L : Lay) (s : Sy) : Prop where
 ok : s.ok
 syn : w.heap[sb]? = some (.cells #[.slice (some (A6 L.gb 0)) s.n L.gc, L.v] 97 (0, 0))
 ptrs : ∃ cs : Array Value, w.heap[L.gb]? = some (.cells cs 98 (0, 0)) ∧ ∀ i, i < s.n → cs[i]? = some (.pointer (some (A6 (L.rb i) 0)))
 rep : ∀ i, i < s.n → w.heap[L.rb i]? = some (.cells (repCells i s.n sb (s.rep i) (L.rv i)).toArray 137 (0, 0))
 role : ∀ i, i < s.n → RoleIs w (L.rv i) (s.rep i).rl
 inj : ∀ i j, i < s.n → j < s.n → L.rb i = L.rb j → i = j
 rinj : ∀ i j k, i < s.n → j < s.n → roleBlk (L.rv i) = some k → roleBlk (L.rv j) = some k → i = j
 net : ∃ l : List Nm, l.map (·.m) = s.net ∧ w.ownsRow 0 36 10 L.v l.length (ncs l) ∧ ∀ x ∈ l, x.okt w
theorem Sy.ok.repOk {s : Sy} (h : s.ok) {i : Nat} (hi : i < s.n) : (s.rep i).ok := by
 have hl : i < s.reps.length := by rw [h.len]; exact hi
 unfold Sy.rep
 rw [List.getD_eq_getElem?_getD, List.getElem?_eq_getElem hl]
 exact h.rep _ (List.getElem_mem hl)
theorem RoleIs.blk {w : World} {rv : Value} {l : Rl} (h : RoleIs w rv l) {k : Nat} (hk : roleBlk rv = some k) : ∃ cs t, (t = 156 ∨ t = 166) ∧ w.heap[k]? = some (.cells cs t (0, 0)) := by
 cases l with
 | idle => cases h; cases hk
 | prep b t kept =>
  obtain ⟨pb, rfl, hb⟩ := h
  obtain rfl : pb = k := by simpa [roleBlk] using hk
  exact ⟨_, _, .inl rfl, hb⟩
 | lead b next ps =>
  obtain ⟨pb, rfl, hb⟩ := h
  obtain rfl : pb = k := by simpa [roleBlk] using hk
  exact ⟨_, _, .inr rfl, hb⟩
theorem RoleIs.keeps {P : Nat → Prop} {w w' : World} {rv : Value} {l : Rl} (h : RoleIs w rv l) (hk : Keeps P w w') (hP : ∀ k, roleBlk rv = some k → ¬ P k) : RoleIs w' rv l := by
 cases l with
 | idle => exact h
 | prep b t kept =>
  obtain ⟨pb, rfl, hb⟩ := h
  exact ⟨pb, rfl, blk_keeps hk hb (hP pb rfl)⟩
 | lead b next ps =>
  obtain ⟨pb, rfl, hb⟩ := h
  exact ⟨pb, rfl, blk_keeps hk hb (hP pb rfl)⟩
theorem RoleIs.bal {w : World} {rv : Value} {l : Rl} (h : RoleIs w rv l) : RoleAt w rv l.bal := by
 cases l with
 | idle => exact .inl ⟨h, rfl⟩
 | prep b t kept =>
  obtain ⟨pb, rfl, hb⟩ := h
  exact .inr ⟨_, pb, 1, .inl rfl, rfl, (blk_cell hb 0).trans rfl, (blk_cell hb 1).trans rfl⟩
 | lead b next ps =>
  obtain ⟨pb, rfl, hb⟩ := h
  exact .inr ⟨_, pb, 2, .inr rfl, rfl, (blk_cell hb 0).trans rfl, (blk_cell hb 1).trans rfl⟩
theorem owns_blk {w : World} {base : Nat} {e : TypeId} {size : Nat} {v : Value} {n : Nat} {xs : List Value} (h : w.ownsRow base e size v n xs) {g : Nat} (hg : v.ownBlock = some g) : ∃ cs, w.heap[g]? = some (.cells cs e (0, 0)) := by
 rcases h.2 with ⟨rfl, _⟩ | ⟨g', cap, cur, rfl, _, h4, _⟩
 ·cases hg
 ·obtain rfl : g' = g := by simpa [Value.ownBlock] using hg
  exact ⟨_, h4⟩
theorem Nm.okt.keeps {P : Nat → Prop} {w w' : World} {x : Nm} (h : x.okt w) (hk : Keeps P w w') (hP : ∀ k cs, w.heap[k]? = some (.cells cs 53 (0, 0)) → ¬ P k) : x.okt w' := by
 obtain ⟨⟨⟨hl, ao, cap, he, hf⟩, hn⟩, ht⟩ := h
 refine ⟨⟨⟨hl, ao, cap, he, fun hne => ?_⟩, hn⟩, fun g hg => ?_⟩
 ·obtain ⟨g, off, rfl, hg, hc⟩ := hf hne
  obtain ⟨cs, hcs⟩ := ht g (by rw [he]; rfl)
  refine ⟨g, off, rfl, Nat.lt_of_lt_of_le hg hk.size, fun j u hu => ?_⟩
  rw [World.cell?_of_block (w := w) (hk.block g hg (hP g cs hcs))]
  exact hc j u hu
 ·obtain ⟨cs, hcs⟩ := ht g hg
  exact ⟨cs, blk_keeps hk hcs (hP g cs hcs)⟩
def ownT (t : TypeId) : Prop := t = 97 ∨ t = 98 ∨ t = 137 ∨ t = 156 ∨ t = 166 ∨ t = 36
theorem SynAt.ownType {w : World} {sb : Nat} {L : Lay} {s : Sy} (h : SynAt w sb L s) {k : Nat} (hk : L.own sb s.n k) : ∃ cs t, ownT t ∧ w.heap[k]? = some (.cells cs t (0, 0)) := by
 rcases hk with rfl | rfl | ⟨i, hi, rfl | hr⟩ | hv
 ·exact ⟨_, _, .inl rfl, h.syn⟩
 ·obtain ⟨cs, hc, _⟩ := h.ptrs
  exact ⟨_, _, .inr (.inl rfl), hc⟩
 ·exact ⟨_, _, .inr (.inr (.inl rfl)), h.rep i hi⟩
 ·obtain ⟨cs, t, ht, hb⟩ := (h.role i hi).blk hr
  rcases ht with rfl | rfl
  ·exact ⟨_, _, .inr (.inr (.inr (.inl rfl))), hb⟩
  ·exact ⟨_, _, .inr (.inr (.inr (.inr (.inl rfl)))), hb⟩
 ·obtain ⟨l, _, ho, _⟩ := h.net
  obtain ⟨cs, hc⟩ := owns_blk ho hv
  exact ⟨_, _, .inr (.inr (.inr (.inr (.inr rfl)))), hc⟩
theorem SynAt.own_lt {w : World} {sb : Nat} {L : Lay} {s : Sy} (h : SynAt w sb L s) {k : Nat} (hk : L.own sb s.n k) : k < w.heap.size := by
 obtain ⟨cs, t, _, hb⟩ := h.ownType hk
 exact lt_of_block hb
theorem SynAt.not_own {w : World} {sb : Nat} {L : Lay} {s : Sy} (h : SynAt w sb L s) {k : Nat} {cs : Array Value} {t : TypeId} (hb : w.heap[k]? = some (.cells cs t (0, 0))) (ht : ¬ ownT t) : ¬ L.own sb s.n k := fun hk => by
 obtain ⟨cs', t', h1, h2⟩ := h.ownType hk
 rw [hb] at h2
 injection h2 with h3
 injection h3 with _ h4
 exact ht (h4 ▸ h1)
theorem vote_not_own : ¬ ownT 53 := by unfold ownT; decide
theorem SynAt.frame {P : Nat → Prop} {w w' : World} {sb : Nat} {L : Lay} {s : Sy} (h : SynAt w sb L s) (hk : Keeps P w w') (hP : ∀ k, k < w.heap.size → P k → ¬ L.own sb s.n k) (hV : ∀ k cs, w.heap[k]? = some (.cells cs 53 (0, 0)) → ¬ P k) : SynAt w' sb L s := by
 have hn : ∀ k, L.own sb s.n k → ¬ P k := fun k ho hp => hP k (h.own_lt ho) hp ho
 refine ⟨h.ok, blk_keeps hk h.syn (hn _ (.inl rfl)), ?_, fun i hi => blk_keeps hk (h.rep i hi) (hn _ (.inr (.inr (.inl ⟨i, hi, .inl rfl⟩)))), fun i hi => (h.role i hi).keeps hk (fun k hr => hn _ (.inr (.inr (.inl ⟨i, hi, .inr hr⟩)))), h.inj, h.rinj, ?_⟩
 ·obtain ⟨cs, hc, hp⟩ := h.ptrs
  exact ⟨cs, blk_keeps hk hc (hn _ (.inr (.inl rfl))), hp⟩
 ·obtain ⟨l, hm, ho, hx⟩ := h.net
  exact ⟨l, hm, owns_keeps ho hk (fun g hg => hn _ (.inr (.inr (.inr hg)))), fun x hx' => (hx x hx').keeps hk hV⟩
theorem SynAt.below {w w' : World} {sb : Nat} {L : Lay} {s : Sy} (h : SynAt w sb L s) (hb : Below w.heap.size w w') : SynAt w' sb L s :=
 h.frame (Keeps.ofBelow (P := fun _ => False) hb) (fun _ _ => False.elim) (fun _ _ _ => id)
theorem SynAt.alloc {w : World} {sb : Nat} {L : Lay} {s : Sy} (h : SynAt w sb L s) (o : Obj) : SynAt (w.alloc o) sb L s := h.below ((Below.refl _ w).alloc (Nat.le_refl _) o)
theorem SynAt.drew {w : World} {sb : Nat} {L : Lay} {s : Sy} (h : SynAt w sb L s) : SynAt w.drew sb L s := h.below (Below.refl _ w).drew
def SynTo (w : World) (sb : Nat) (L : Lay) (w' : World) (s : Sy) : Prop :=
 ∃ L' : Lay, SynAt w' sb L' s ∧ L'.rb = L.rb ∧ (∀ k, L'.own sb s.n k → L.own sb s.n k ∨ w.heap.size ≤ k) ∧ Keeps (L.own sb s.n) w w'
theorem SynTo.refl {w : World} {sb : Nat} {L : Lay} {s : Sy} (h : SynAt w sb L s) : SynTo w sb L w s := ⟨L, h, rfl, fun _ h => .inl h, Keeps.refl _ _⟩
theorem SynTo.trans {w w1 w2 : World} {sb : Nat} {L : Lay} {s1 s2 : Sy} (a : SynTo w sb L w1 s1) (hn : s2.n = s1.n) (b : ∀ L1, SynAt w1 sb L1 s1 → L1.rb = L.rb → SynTo w1 sb L1 w2 s2) : SynTo w sb L w2 s2 := by
 obtain ⟨L1, h1, e1, o1, k1⟩ := a
 obtain ⟨L2, h2, e2, o2, k2⟩ := b L1 h1 e1
 rw [hn] at o2 k2
 refine ⟨L2, h2, e2.trans e1, fun k hk => ?_, ?_⟩
 ·rw [hn] at hk ⊢
  rcases o2 k hk with h | h
  ·exact o1 k h
  ·exact .inr (Nat.le_trans k1.size h)
 ·rw [hn]
  refine ⟨k2.os.trans k1.os, k2.tape.trans k1.tape, k2.output.trans k1.output, Nat.le_trans k1.size k2.size, fun k hk hno => ?_⟩
  rw [k2.block k (Nat.lt_of_lt_of_le hk k1.size) (fun ho => by rcases o1 k ho with h | h; exact hno h; omega)]
  exact k1.block k hk hno
theorem SynTo.below {w w1 w2 : World} {sb : Nat} {L : Lay} {s : Sy} (a : SynTo w sb L w1 s) (hb : Below w1.heap.size w1 w2) : SynTo w sb L w2 s := by
 refine a.trans rfl (fun L1 h1 _ => ⟨L1, h1.below hb, rfl, fun _ h => .inl h, Keeps.ofBelow hb⟩)
theorem SynTo.after {w w1 w2 : World} {sb : Nat} {L : Lay} {s0 s : Sy} (h : SynAt w sb L s0) (hn : s.n = s0.n) (hb : Below w.heap.size w w1) (b : SynTo w1 sb L w2 s) : SynTo w sb L w2 s := by
 have a : SynTo w sb L w1 s0 := ⟨L, h.below hb, rfl, fun _ h => .inl h, Keeps.ofBelow hb⟩
 obtain ⟨L2, h2, e2, o2, k2⟩ := b
 refine ⟨L2, h2, e2, fun k hk => (o2 k hk).imp id (fun h => Nat.le_trans hb.size h), ?_⟩
 exact Keeps.trans (Keeps.ofBelow hb) k2
theorem SynTo.blk {w w' : World} {sb : Nat} {L : Lay} {s : Sy} (a : SynTo w sb L w' s) {b : Nat} {ob : Obj} (hb : w.heap[b]? = some ob) (hn : ¬ L.own sb s.n b) : w'.heap[b]? = some ob := by
 obtain ⟨L', _, _, _, hk⟩ := a
 exact blk_keeps hk hb hn
def SynRv (f : Nat → Value) (w : World) (sb : Nat) (L : Lay) (w' : World) (s : Sy) : Prop :=
 ∃ L' : Lay, SynAt w' sb L' s ∧ L'.rb = L.rb ∧ L'.rv = f ∧ (∀ k, L'.own sb s.n k → L.own sb s.n k ∨ w.heap.size ≤ k) ∧ Keeps (L.own sb s.n) w w'
theorem SynRv.to {f : Nat → Value} {w w' : World} {sb : Nat} {L : Lay} {s : Sy} (a : SynRv f w sb L w' s) : SynTo w sb L w' s := by
 obtain ⟨L', h1, h2, _, h4, h5⟩ := a
 exact ⟨L', h1, h2, h4, h5⟩
theorem SynRv.refl {w : World} {sb : Nat} {L : Lay} {s : Sy} (h : SynAt w sb L s) : SynRv L.rv w sb L w s := ⟨L, h, rfl, rfl, fun _ h => .inl h, Keeps.refl _ _⟩
theorem SynRv.trans {f g : Nat → Value} {w w1 w2 : World} {sb : Nat} {L : Lay} {s1 s2 : Sy} (a : SynRv f w sb L w1 s1) (hn : s2.n = s1.n) (b : ∀ L1, SynAt w1 sb L1 s1 → L1.rb = L.rb → L1.rv = f → SynRv g w1 sb L1 w2 s2) : SynRv g w sb L w2 s2 := by
 obtain ⟨L1, h1, e1, r1, o1, k1⟩ := a
 obtain ⟨L2, h2, e2, r2, o2, k2⟩ := b L1 h1 e1 r1
 rw [hn] at o2 k2
 refine ⟨L2, h2, e2.trans e1, r2, fun k hk => ?_, ?_⟩
 ·rw [hn] at hk ⊢
  rcases o2 k hk with h | h
  ·exact o1 k h
  ·exact .inr (Nat.le_trans k1.size h)
 ·rw [hn]
  refine ⟨k2.os.trans k1.os, k2.tape.trans k1.tape, k2.output.trans k1.output, Nat.le_trans k1.size k2.size, fun k hk hno => ?_⟩
  rw [k2.block k (Nat.lt_of_lt_of_le hk k1.size) (fun ho => by rcases o1 k ho with h | h; exact hno h; omega)]
  exact k1.block k hk hno
theorem SynRv.below {f : Nat → Value} {w w1 w2 : World} {sb : Nat} {L : Lay} {s : Sy} (a : SynRv f w sb L w1 s) (hb : Below w1.heap.size w1 w2) : SynRv f w sb L w2 s := by
 refine a.trans rfl (fun L1 h1 _ r1 => ⟨L1, h1.below hb, rfl, r1, fun _ h => .inl h, Keeps.ofBelow hb⟩)
theorem SynRv.after {f : Nat → Value} {w w1 w2 : World} {sb : Nat} {L : Lay} {s0 s : Sy} (h : SynAt w sb L s0) (hn : s.n = s0.n) (hb : Below w.heap.size w w1) (b : SynRv f w1 sb L w2 s) : SynRv f w sb L w2 s := by
 obtain ⟨L2, h2, e2, r2, o2, k2⟩ := b
 exact ⟨L2, h2, e2, r2, fun k hk => (o2 k hk).imp id (fun h => Nat.le_trans hb.size h), Keeps.trans (Keeps.ofBelow hb) k2⟩
theorem SynRv.blk {f : Nat → Value} {w w' : World} {sb : Nat} {L : Lay} {s : Sy} (a : SynRv f w sb L w' s) {b : Nat} {ob : Obj} (hb : w.heap[b]? = some ob) (hn : ¬ L.own sb s.n b) : w'.heap[b]? = some ob := a.to.blk hb hn
theorem SynRv.next {f : Nat → Value} {w w1 w2 : World} {sb : Nat} {L L1 : Lay} {s1 s2 : Sy} (e1 : L1.rb = L.rb) (o1 : ∀ k, L1.own sb s1.n k → L.own sb s1.n k ∨ w.heap.size ≤ k) (k1 : Keeps (L.own sb s1.n) w w1) (hn : s2.n = s1.n) (b : SynRv f w1 sb L1 w2 s2) : SynRv f w sb L w2 s2 := by
 obtain ⟨L2, h2, e2, r2, o2, k2⟩ := b
 rw [hn] at o2 k2
 refine ⟨L2, h2, e2.trans e1, r2, fun k hk => ?_, ?_⟩
 ·rw [hn] at hk ⊢
  rcases o2 k hk with h | h
  ·exact o1 k h
  ·exact .inr (Nat.le_trans k1.size h)
 ·rw [hn]
  refine ⟨k2.os.trans k1.os, k2.tape.trans k1.tape, k2.output.trans k1.output, Nat.le_trans k1.size k2.size, fun k hk hno => ?_⟩
  rw [k2.block k (Nat.lt_of_lt_of_le hk k1.size) (fun ho => by rcases o1 k ho with h | h; exact hno h; omega)]
  exact k1.block k hk hno
theorem repCells_length (i n sb : Nat) (r : Rp) (rv : Value) (h : r.ok) : (repCells i n sb r rv).length = 182 := by
 simp [repCells, repHead, vcells_length, dcells_length, h.acc, h.dec]
theorem repCells_role (i n sb : Nat) (r : Rp) (rv : Value) (h : r.ok) : (repCells i n sb r rv).toArray[181]? = some rv := by
 have h1 : (repHead i n sb r).length = 5 := rfl
 have h2 : (vcells r.acc).length = 96 := by rw [vcells_length, h.acc]
 have h3 : (dcells r.dec).length = 80 := by rw [dcells_length, h.dec]
 rw [List.getElem?_toArray, repCells, List.getElem?_append_right (by omega), List.getElem?_append_right (by omega), List.getElem?_append_right (by omega), h1, h2, h3]
 rfl
theorem repCells_set3 (i n sb : Nat) (r : Rp) (rv : Value) (b : Int) : (repCells i n sb r rv).toArray.setIfInBounds 3 (I6 b) = (repCells i n sb (r.promise b) rv).toArray := by
 simp [repCells, repHead, Rp.promise]
theorem repCells_set4 (i n sb : Nat) (r : Rp) (rv : Value) (b : Int) : (repCells i n sb r rv).toArray.setIfInBounds 4 (I6 b) = (repCells i n sb ⟨r.pr, b, r.acc, r.dec, r.rl⟩ rv).toArray := by
 simp [repCells, repHead]
theorem repCells_set181 (i n sb : Nat) (r : Rp) (rv rv' : Value) (l : Rl) (h : r.ok) : (repCells i n sb r rv).toArray.setIfInBounds 181 rv' = (repCells i n sb (r.role l) rv').toArray := by
 have h1 : (repHead i n sb r).length = 5 := rfl
 have h2 : (vcells r.acc).length = 96 := by rw [vcells_length, h.acc]
 have h3 : (dcells r.dec).length = 80 := by rw [dcells_length, h.dec]
 rw [List.setIfInBounds_toArray, repCells, List.set_append_right _ _ (by omega), List.set_append_right _ _ (by omega), List.set_append_right _ _ (by omega), h1, h2, h3]
 rfl
theorem repCells_rl (i n sb : Nat) (r : Rp) (rv : Value) (l : Rl) : repCells i n sb (r.role l) rv = repCells i n sb r rv := rfl
theorem Sy.rep_put {s : Sy} {i : Nat} {r : Rp} (h : i < s.reps.length) : (s.put i r).rep i = r := by
 simp [Sy.rep, Sy.put, List.getD_eq_getElem?_getD, h]
theorem Sy.rep_put_ne {s : Sy} {i j : Nat} {r : Rp} (h : i ≠ j) : (s.put i r).rep j = s.rep j := by
 simp [Sy.rep, Sy.put, List.getD_eq_getElem?_getD, h]
theorem Sy.put_ok {s : Sy} (h : s.ok) {i : Nat} {r : Rp} (hr : r.ok) : (s.put i r).ok := by
 refine ⟨h.n0, h.n1, by simp [Sy.put, h.len], fun x hx => ?_, h.full, h.net⟩
 rcases List.mem_or_eq_of_mem_set hx with h1 | h1
 ·exact h.rep x h1
 ·rw [h1]; exact hr
def upd (f : Nat → Value) (i : Nat) (v : Value) : Nat → Value := fun k => if k = i then v else f k
theorem upd_same (f : Nat → Value) (i : Nat) (v : Value) : upd f i v i = v := by simp [upd]
theorem upd_ne {f : Nat → Value} {i k : Nat} {v : Value} (h : k ≠ i) : upd f i v k = f k := by simp [upd, h]
theorem upd_self (f : Nat → Value) (i : Nat) : upd f i (f i) = f := funext fun k => by unfold upd; split <;> simp_all
theorem SynAt.setRepR {w w' : World} {sb : Nat} {L : Lay} {s : Sy} (h : SynAt w sb L s) {i : Nat} (hi : i < s.n) {r : Rp} {rv : Value} (hr : r.ok) (hk : Keeps (fun k => k = L.rb i ∨ roleBlk (L.rv i) = some k) w w')
  (hb : w'.heap[L.rb i]? = some (.cells (repCells i s.n sb r rv).toArray 137 (0, 0))) (hrole : RoleIs w' rv r.rl) (hrb : ∀ k, roleBlk rv = some k → roleBlk (L.rv i) = some k ∨ w.heap.size ≤ k) : SynRv (upd L.rv i rv) w sb L w' (s.put i r) := by
 have hil : i < s.reps.length := by rw [h.ok.len]; exact hi
 have ty : ∀ {k : Nat} {cs : Array Value} {t : TypeId}, (k = L.rb i ∨ roleBlk (L.rv i) = some k) → w.heap[k]? = some (.cells cs t (0, 0)) → t = 137 ∨ t = 156 ∨ t = 166 := by
  intro k cs t hk' hb'
  rcases hk' with rfl | hk'
  ·rw [h.rep i hi] at hb'; injection hb' with e; injection e with _ e; exact .inl e.symm
  ·obtain ⟨cs', t', ht, hc⟩ := (h.role i hi).blk hk'
   rw [hc] at hb'; injection hb' with e; injection e with _ e
   rcases ht with rfl | rfl
   ·exact .inr (.inl e.symm)
   ·exact .inr (.inr e.symm)
 have hrl : ∀ j, j < s.n → j ≠ i → ¬ (L.rb j = L.rb i ∨ roleBlk (L.rv i) = some (L.rb j)) := by
  intro j hj hne hx
  rcases hx with e | e
  ·exact hne (h.inj j i hj hi e)
  ·obtain ⟨cs', t', ht, hc⟩ := (h.role i hi).blk e
   rw [h.rep j hj] at hc; injection hc with e2; injection e2 with _ e2
   rcases ht with rfl | rfl <;> simp at e2
 have hro : ∀ j k, j < s.n → j ≠ i → roleBlk (L.rv j) = some k → ¬ (k = L.rb i ∨ roleBlk (L.rv i) = some k) := by
  intro j k hj hne hjk hx
  rcases hx with rfl | e
  ·obtain ⟨cs', t', ht, hc⟩ := (h.role j hj).blk hjk
   rw [h.rep i hi] at hc; injection hc with e2; injection e2 with _ e2
   rcases ht with rfl | rfl <;> simp at e2
  ·exact hne (h.rinj j i k hj hi hjk e)
 refine ⟨⟨L.rb, upd L.rv i rv, L.v⟩, ⟨Sy.put_ok h.ok hr, ?_, ?_, fun j hj => ?_, fun j hj => ?_, h.inj, fun a b k ha hb' h1 h2 => ?_, ?_⟩, rfl, rfl, fun k ho => ?_, ?_⟩
 ·exact blk_keeps hk h.syn (fun x => by have := ty x h.syn; simp at this)
 ·obtain ⟨cs, hc, hp⟩ := h.ptrs
  exact ⟨cs, blk_keeps hk hc (fun x => by have := ty x hc; simp at this), hp⟩
 ·by_cases e : j = i
  ·subst e
   rw [Sy.rep_put hil]; simp only [upd_same]
   exact hb
  ·rw [Sy.rep_put_ne (Ne.symm e)]; simp only [upd_ne e]
   exact blk_keeps hk (h.rep j hj) (hrl j hj e)
 ·by_cases e : j = i
  ·subst e
   rw [Sy.rep_put hil]; simp only [upd_same]
   exact hrole
  ·rw [Sy.rep_put_ne (Ne.symm e)]; simp only [upd_ne e]
   exact (h.role j hj).keeps hk (fun k hk' => hro j k hj e hk')
 ·by_cases e1 : a = i
  ·by_cases e2 : b = i
   ·rw [e1, e2]
   ·subst e1
    simp only [upd_same] at h1
    simp only [upd_ne e2] at h2
    rcases hrb k h1 with h3 | h3
    ·exact h.rinj a b k ha hb' h3 h2
    ·obtain ⟨cs', t', _, hc⟩ := (h.role b hb').blk h2
     have := lt_of_block hc
     omega
  ·by_cases e2 : b = i
   ·subst e2
    simp only [upd_same] at h2
    simp only [upd_ne e1] at h1
    rcases hrb k h2 with h3 | h3
    ·exact h.rinj a b k ha hb' h1 h3
    ·obtain ⟨cs', t', _, hc⟩ := (h.role a ha).blk h1
     have := lt_of_block hc
     omega
   ·simp only [upd_ne e1] at h1
    simp only [upd_ne e2] at h2
    exact h.rinj a b k ha hb' h1 h2
 ·obtain ⟨l, hm, ho, hx⟩ := h.net
  refine ⟨l, hm, owns_keeps ho hk (fun g hg x => ?_), fun x hx' => (hx x hx').keeps hk (fun k cs hc x => ?_)⟩
  ·obtain ⟨cs, hc⟩ := owns_blk ho hg
   have := ty x hc; simp at this
  ·have := ty x hc; simp at this
 ·rcases ho with ho | ho | ⟨j, hj, ho | ho⟩ | ho
  ·exact .inl (.inl ho)
  ·exact .inl (.inr (.inl ho))
  ·exact .inl (.inr (.inr (.inl ⟨j, hj, .inl ho⟩)))
  ·by_cases e : j = i
   ·subst e
    simp only [upd_same] at ho
    exact (hrb k ho).imp (fun h => .inr (.inr (.inl ⟨j, hj, .inr h⟩))) id
   ·simp only [upd_ne e] at ho
    exact .inl (.inr (.inr (.inl ⟨j, hj, .inr ho⟩)))
  ·exact .inl (.inr (.inr (.inr ho)))
 ·exact hk.mono (fun k _ hx => .inr (.inr (.inl ⟨i, hi, hx⟩)))
theorem SynAt.setRep {w w' : World} {sb : Nat} {L : Lay} {s : Sy} (h : SynAt w sb L s) {i : Nat} (hi : i < s.n) {r : Rp} {rv : Value} (hr : r.ok) (hk : Keeps (fun k => k = L.rb i ∨ roleBlk (L.rv i) = some k) w w')
  (hb : w'.heap[L.rb i]? = some (.cells (repCells i s.n sb r rv).toArray 137 (0, 0))) (hrole : RoleIs w' rv r.rl) (hrb : ∀ k, roleBlk rv = some k → roleBlk (L.rv i) = some k ∨ w.heap.size ≤ k) : SynTo w sb L w' (s.put i r) := (h.setRepR hi hr hk hb hrole hrb).to
end
section
open Go.RowKit
theorem SynAt.setNetR {w w' : World} {sb : Nat} {L : Lay} {s : Sy} (h : SynAt w sb L s) {v : Value} {l : List Nm} {ns : List Ms} (hl : l.length ≤ 200) (hok : ∀ m ∈ ns, m.ok s.n) (hm : l.map (·.m) = ns) (hk : Keeps (fun k => k = sb ∨ L.v.ownBlock = some k) w w')
  (hb : w'.heap[sb]? = some (.cells #[.slice (some (A6 L.gb 0)) s.n L.gc, v] 97 (0, 0))) (hown : w'.ownsRow 0 36 10 v l.length (ncs l)) (hx : ∀ x ∈ l, x.okt w) (hv : ∀ g, v.ownBlock = some g → L.v.ownBlock = some g ∨ w.heap.size ≤ g) :
  SynRv L.rv w sb L w' ⟨s.n, s.reps, ns⟩ := by
 have ty : ∀ {k : Nat} {cs : Array Value} {t : TypeId}, (k = sb ∨ L.v.ownBlock = some k) → w.heap[k]? = some (.cells cs t (0, 0)) → t = 97 ∨ t = 36 := by
  intro k cs t hk' hb'
  rcases hk' with rfl | hk'
  ·rw [h.syn] at hb'; injection hb' with e; injection e with _ e; exact .inl e.symm
  ·obtain ⟨l0, _, ho, _⟩ := h.net
   obtain ⟨cs', hc⟩ := owns_blk ho hk'
   rw [hc] at hb'; injection hb' with e; injection e with _ e; exact .inr e.symm
 refine ⟨⟨L.rb, L.rv, v⟩, ⟨⟨h.ok.n0, h.ok.n1, h.ok.len, h.ok.rep, by rw [← hm, List.length_map]; exact hl, hok⟩, hb, ?_, fun j hj => ?_, fun j hj => ?_, h.inj, h.rinj, l, hm, hown, fun x hx' => (hx x hx').keeps hk (fun k cs hc x => ?_)⟩, rfl, rfl, fun k ho => ?_, ?_⟩
 ·obtain ⟨cs, hc, hp⟩ := h.ptrs
  exact ⟨cs, blk_keeps hk hc (fun x => by have := ty x hc; simp at this), hp⟩
 ·exact blk_keeps hk (h.rep j hj) (fun x => by have := ty x (h.rep j hj); simp at this)
 ·refine (h.role j hj).keeps hk (fun k hk' x => ?_)
  obtain ⟨cs, t, ht, hc⟩ := (h.role j hj).blk hk'
  have := ty x hc
  rcases ht with rfl | rfl <;> simp at this
 ·have := ty x hc; simp at this
 ·rcases ho with ho | ho | ho | ho
  ·exact .inl (.inl ho)
  ·exact .inl (.inr (.inl ho))
  ·exact .inl (.inr (.inr (.inl ho)))
  ·exact (hv k ho).imp (fun h => .inr (.inr (.inr h))) id
 ·refine hk.mono (fun k _ hx => ?_)
  rcases hx with hx | hx
  ·exact .inl hx
  ·exact .inr (.inr (.inr hx))
theorem sendTo_n (m : Ms) (f : Nat) : ∀ (a : List Nat) (s : Sy), (s.sendTo m f a).n = s.n
 | [], s => rfl
 | t :: a, s => sendTo_n m f a _
theorem sendTo_reps (m : Ms) (f : Nat) : ∀ (a : List Nat) (s : Sy), (s.sendTo m f a).reps = s.reps
 | [], s => rfl
 | t :: a, s => sendTo_reps m f a _
theorem sends_map (x : Nm) (f : Nat) : ∀ (a : List Nat) (l : List Nm) (s : Sy), l.map (·.m) = s.net → (sends l x f a).map (·.m) = (s.sendTo x.m f a).net
 | [], l, s, h => h
 | t :: a, l, s, h => by
  refine sends_map x f a _ _ ?_
  have e : s.net.length = l.length := by rw [← h, List.length_map]
  unfold sent Sy.send1
  simp only [e]
  split
  ·rw [List.map_append, h]; rfl
  ·exact h
theorem sends_okt {w : World} (x : Nm) (f : Int) (hx : x.okt w) : ∀ (a : List Nat) (l : List Nm), (∀ y ∈ l, y.okt w) → ∀ y ∈ sends l x f a, y.okt w
 | [], l, h => h
 | t :: a, l, h => by
  refine sends_okt x f hx a _ (fun y hy => ?_)
  unfold sent at hy
  split at hy
  ·rcases List.mem_append.1 hy with hy | hy
   ·exact h y hy
   ·rw [List.mem_singleton.1 hy]; exact hx
  ·exact h y hy
theorem Ms.ok_to {n : Nat} {m : Ms} (h : m.ok n) {f t : Nat} (hf : f < n) (ht : t < n) : (m.to (f : Int) (t : Int)).ok n :=
 ⟨h.k0, h.k1, by simp [Ms.to], by simp [Ms.to]; omega, by simp [Ms.to], by simp [Ms.to]; omega, h.b0, h.b1, h.s0, h.s1, h.a, h.sl⟩
theorem sendTo_ok (m : Ms) (f : Nat) : ∀ (a : List Nat) (s : Sy), s.ok → m.ok s.n → f < s.n → (∀ t ∈ a, t < s.n) → (s.sendTo m f a).ok
 | [], s, h, _, _, _ => h
 | t :: a, s, h, hm, hf, ht => by
  refine sendTo_ok m f a _ ⟨h.n0, h.n1, h.len, h.rep, ?_, fun y hy => ?_⟩ hm hf (fun u hu => ht u (List.mem_cons_of_mem _ hu))
  ·simp only [Sy.send1]; split
   ·simp; omega
   ·exact h.full
  ·simp only [Sy.send1] at hy ⊢
   split at hy
   ·rcases List.mem_append.1 hy with hy | hy
    ·exact h.net y hy
    ·rw [List.mem_singleton.1 hy]; exact Ms.ok_to hm hf (ht t List.mem_cons_self)
   ·exact h.net y hy
theorem SynAt.cells {w : World} {sb : Nat} {L : Lay} {s : Sy} (h : SynAt w sb L s) {i : Nat} (hi : i < s.n) :
  w.cell? (A6 (L.rb i) 0) = some (I6 (i : Int)) ∧ w.cell? (A6 (L.rb i) 1) = some (I6 (s.n : Int)) ∧ w.cell? (A6 (L.rb i) 2) = some (.pointer (some (A6 sb 1))) ∧ w.cell? (A6 (L.rb i) 3) = some (I6 (s.rep i).pr) ∧ w.cell? (A6 (L.rb i) 4) = some (I6 (s.rep i).sn) ∧ w.cell? (A6 (L.rb i) 181) = some (L.rv i) := by
 have hb := h.rep i hi
 refine ⟨(blk_cell hb 0).trans ?_, (blk_cell hb 1).trans ?_, (blk_cell hb 2).trans ?_, (blk_cell hb 3).trans ?_, (blk_cell hb 4).trans ?_, (blk_cell hb 181).trans (repCells_role _ _ _ _ _ (h.ok.repOk hi))⟩ <;> simp [repCells, repHead]
theorem ar2 (a b c : Value) : (#[a, b] : Array Value).setIfInBounds 1 c = #[a, c] := rfl
theorem send_rv {w : World} {sb : Nat} {L : Lay} {s : Sy} (h : SynAt w sb L s) {i : Nat} (hi : i < s.n) (x : Nm) (hx : x.okt w) (hm : (x.m.to 0 0).ok s.n) (tos : List Nat) (htos : ∀ t ∈ tos, t < s.n) (vt : Value)
  (hvt : RowAt w 1 vt tos.length (tos.map fun (i : Nat) => I6 (i : Int))) (hvd : ∀ g, vt.ownBlock = some g → ∃ cs, w.heap[g]? = some (.cells cs 3 (0, 0))) (hlen : tos.length ≤ 1000) :
  Calls Tryz.prog 90 #[.pointer (some (A6 (L.rb i) 0)), .agg x.cells.toArray, vt] w fun e w' => e = .returned (.tuple #[]) ∧ SynRv L.rv w sb L w' (s.sendTo x.m i tos) := by
 obtain ⟨c0, c1, c2, c3, c4, c5⟩ := h.cells hi
 obtain ⟨l, hlm, hown, hok⟩ := h.net
 have hll : l.length ≤ 200 := by have := h.ok.full; rw [← hlm, List.length_map] at this; exact this
 have nb : ∀ {k : Nat} {cs : Array Value} {t : TypeId}, w.heap[k]? = some (.cells cs t (0, 0)) → t ≠ 36 → L.v.ownBlock ≠ some k := by
  intro k cs t hk ht hv
  obtain ⟨cs', hc⟩ := owns_blk hown hv
  rw [hk] at hc; injection hc with e; injection e with _ e
  exact ht e
 have nd : ∀ {k k' : Nat} {cs cs' : Array Value} {t t' : TypeId}, w.heap[k]? = some (.cells cs t (0, 0)) → w.heap[k']? = some (.cells cs' t' (0, 0)) → t ≠ t' → k ≠ k' := by
  intro k k' cs cs' t t' hk hk' ht e
  subst e
  rw [hk] at hk'; injection hk' with e; injection e with _ e
  exact ht e
 refine (send_any (L.rb i) sb 0 (i : Int) #[.slice (some (A6 L.gb 0)) s.n L.gc, L.v] 97 L.v vt l x tos w c0 c2 h.syn rfl hown (nb h.syn (by decide)) (nd (h.rep i hi) h.syn (by decide)) (nb (h.rep i hi) (by decide)) hx.1 hll (Nat.zero_le _) hvt ?_ hlen ?_).mono ?_
 ·intro g hg
  obtain ⟨cs, hc⟩ := hvd g hg
  exact ⟨nd hc h.syn (by decide), nb hc (by decide)⟩
 ·intro g hg
  obtain ⟨cs, hc⟩ := hx.2 g hg
  exact ⟨nd hc h.syn (by decide), nb hc (by decide)⟩
 ·rintro e w' ⟨v', rfl, hs', ho', hne', hat', hk'⟩
  refine ⟨rfl, ?_⟩
  have hmm := sends_map x i tos l s hlm
  rw [ar2] at hs'
  have hm' : x.m.ok s.n ∨ True := .inr trivial
  have hsok : ∀ m ∈ (s.sendTo x.m i tos).net, m.ok s.n := by
   have e : s.sendTo x.m i tos = s.sendTo (x.m.to 0 0) i tos := by
    clear hvt hlen hmm ho' htos hs' hk' hat' hne'
    have : ∀ (a : List Nat) (s : Sy), s.sendTo x.m i a = s.sendTo (x.m.to 0 0) i a := by
     intro a
     induction a with
     | nil => intro s; rfl
     | cons t a ih => intro s; exact ih _
    exact this tos s
   have := (sendTo_ok (x.m.to 0 0) i tos s h.ok hm hi htos).net
   rw [sendTo_n, ← e] at this
   exact this
  have e : s.sendTo x.m i tos = ⟨s.n, s.reps, (s.sendTo x.m i tos).net⟩ := by
   have h1 := sendTo_n x.m i tos s
   have h2 := sendTo_reps x.m i tos s
   generalize s.sendTo x.m i tos = q at *
   cases q; simp_all
  rw [e]
  exact h.setNetR (sends_le _ _ _ _ hll) hsok hmm hk' hs' ho' (sends_okt x i hx tos l hok) hat'
theorem send_syn {w : World} {sb : Nat} {L : Lay} {s : Sy} (h : SynAt w sb L s) {i : Nat} (hi : i < s.n) (x : Nm) (hx : x.okt w) (hm : (x.m.to 0 0).ok s.n) (tos : List Nat) (htos : ∀ t ∈ tos, t < s.n) (vt : Value)
  (hvt : RowAt w 1 vt tos.length (tos.map fun (i : Nat) => I6 (i : Int))) (hvd : ∀ g, vt.ownBlock = some g → ∃ cs, w.heap[g]? = some (.cells cs 3 (0, 0))) (hlen : tos.length ≤ 1000) :
  Calls Tryz.prog 90 #[.pointer (some (A6 (L.rb i) 0)), .agg x.cells.toArray, vt] w fun e w' => e = .returned (.tuple #[]) ∧ SynTo w sb L w' (s.sendTo x.m i tos) :=
 (send_rv h hi x hx hm tos htos vt hvt hvd hlen).mono (fun _ _ ⟨e, h⟩ => ⟨e, h.to⟩)
end
end Go.Proofs.YtnnhnekfokbooaaGreatDoor
