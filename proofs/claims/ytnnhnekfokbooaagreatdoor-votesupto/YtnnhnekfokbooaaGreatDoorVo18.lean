/- The plain machine's moves, and what a move makes of each replica. The document's machine, plainly: what each call of package synodref makes of its lists. The document's machine and the program's, beside one another. What holds of every synod that moves: a ballot is its own replica's, and what it promised; what is promised does not go down; how much can be taken. What comes keeps a synod right (laid by mkrmo.py out of LivA). The document's machine does what the program's does. The document's machine does what the program's does: what comes, and what is submitted. The document's machine does what the program's does: every message. The document's replicas in memory. The document's replicas in memory: one of them turned. (Joined by merge.py.) -/
import Derived.Test.YtnnhnekfokbooaaGreatDoorVo17
import Derived.Test.YtnnhnekfokbooaaGreatDoorVo08
import Derived.Test.YtnnhnekfokbooaaGreatDoorVo01
import Derived.WalkKit
import Derived.WalkSpells
import Derived.WalkLawsBesides
namespace Go.Proofs.YtnnhnekfokbooaaGreatDoor
set_option linter.unusedSimpArgs false
set_option linter.unusedVariables false

/-- One move; the second list holds what was submitted and taken. -/
inductive Mv : Sy → List Pst → Sy → List Pst → Prop
 | camp (s : Sy) (ps : List Pst) (i : Nat) (hi : i < s.n) : Mv s ps (s.campaign i) ps
 | sub (s : Sy) (ps : List Pst) (i : Nat) (p : Pst) (hi : i < s.n) (hp : rightPostB p = true) : Mv s ps (s.submit i p) (if s.subE i p = 0 then ps ++ [p] else ps)
 | lose (s : Sy) (ps : List Pst) (k : Nat) (hk : k < s.net.length) : Mv s ps (s.without k) ps
 | dbl (s : Sy) (ps : List Pst) (k : Nat) (hk : k < s.net.length) : Mv s ps (s.double k) ps
 | crash (s : Sy) (ps : List Pst) (i : Nat) (hi : i < s.n) : Mv s ps (s.crash i) ps
 | dlv (s : Sy) (ps : List Pst) (k : Nat) (hk : k < s.net.length) : Mv s ps (s.deliver k) ps
inductive Mvs : Sy → List Pst → Sy → List Pst → Prop
 | refl (s : Sy) (ps : List Pst) : Mvs s ps s ps
 | step {s s' s'' : Sy} {ps ps' ps'' : List Pst} (h : Mvs s ps s' ps') (ok : s'.ok) (m : Mv s' ps' s'' ps'') : Mvs s ps s'' ps''
theorem Mvs.one {s s' : Sy} {ps ps' : List Pst} (ok : s.ok) (m : Mv s ps s' ps') : Mvs s ps s' ps' := .step (.refl _ _) ok m
theorem Mvs.trans {s s' s'' : Sy} {ps ps' ps'' : List Pst} (h : Mvs s ps s' ps') (k : Mvs s' ps' s'' ps'') : Mvs s ps s'' ps'' := by
 induction k with
 | refl => exact h
 | step _ ok m ih => exact .step (ih h) ok m

/-- What a move may make of the replica i that it is about. -/
inductive RS (i : Nat) (r : Rp) : Rp → Prop
 | same : RS i r r
 | camp (h : r.round ≤ 1000) : RS i r ((r.promise (8 * r.round + i)).role (.prep (8 * r.round + i) noTl (List.replicate 16 noVt)))
 | obey (b : Int) (h : r.pr ≤ b) (b1 : b ≤ 8007) : RS i r ((r.yield b).promise b)
 | accept (b : Int) (h : r.pr ≤ b) (b1 : b ≤ 8007) (k : Nat) (v : Vt) : RS i r (((r.yield b).promise b).accept k v)
 | count (b : Int) (t : Tl) (kept : List Vt) (h : r.rl = .prep b t kept) (t' : Tl) (kept' : List Vt) : RS i r (r.role (.prep b t' kept'))
 | lead (b : Int) (t : Tl) (kept : List Vt) (h : r.rl = .prep b t kept) (next : Nat) (ps : List Pp) (hn : next ≤ 16) : RS i r (r.role (.lead b next ps))
 | vote (b : Int) (next : Nat) (ps ps' : List Pp) (h : r.rl = .lead b next ps) : RS i r (r.role (.lead b next ps'))
 | votes (b : Int) (next : Nat) (ps ps' : List Pp) (h : r.rl = .lead b next ps) (k : Nat) (p : Pst) (hk : r.dm k = false) : RS i r ((r.role (.lead b next ps')).decide k p)
 | told (k : Nat) (p : Pst) (hk : r.dm k = false) : RS i r (r.decide k p)
 | yield (b : Int) : RS i r (r.yield b)
 | sub (b : Int) (next : Nat) (ps ps' : List Pp) (h : r.rl = .lead b next ps) (hn : next < 16) : RS i r (r.role (.lead b (next + 1) ps'))
 | crash : RS i r ⟨r.pr, 0, r.acc, r.dec, .idle⟩

theorem rep_send (s : Sy) (m : Ms) (f : Nat) (a : List Nat) (j : Nat) : (s.sendTo m f a).rep j = s.rep j := rep_sendTo m f a s j
theorem rep_put' {s : Sy} (h : s.reps.length = s.n) {i : Nat} (hi : i < s.n) (r : Rp) (j : Nat) : (s.put i r).rep j = if j = i then r else s.rep j := by
 by_cases e : j = i
 ·rw [if_pos e, e, Sy.rep_put (by rw [h]; exact hi)]
 ·rw [if_neg e, Sy.rep_put_ne (Ne.symm e)]
theorem propose_rep_ne (s : Sy) (i k : Nat) (p : Pst) {j : Nat} (hj : j ≠ i) : (s.propose i k p).rep j = s.rep j := by
 unfold Sy.propose
 split
 ·rw [rep_send, Sy.rep_put_ne (Ne.symm hj)]
 ·rfl
theorem leadTo_rep_ne (s : Sy) (i : Nat) (kept : List Vt) {j : Nat} (hj : j ≠ i) : ∀ k, (s.leadTo i kept k).rep j = s.rep j
 | 0 => rfl
 | k + 1 => by
  unfold Sy.leadTo
  split
  ·exact leadTo_rep_ne s i kept hj k
  ·rw [propose_rep_ne _ _ _ _ hj]; exact leadTo_rep_ne s i kept hj k
theorem nextB_le (dm : Nat → Bool) (kb : Nat → Int) : ∀ k, nextB dm kb k ≤ k
 | 0 => Nat.le_refl _
 | k + 1 => by
  unfold nextB
  split
  ·exact Nat.le_succ_of_le (nextB_le dm kb k)
  ·exact Nat.le_refl _
theorem lead_rep {s : Sy} (h : s.reps.length = s.n) {i : Nat} (hi : i < s.n) (b : Int) (kept : List Vt) : (∃ ps next, next ≤ 16 ∧ (s.lead i b kept).rep i = (s.rep i).role (.lead b next ps)) ∧ ∀ j, j ≠ i → (s.lead i b kept).rep j = s.rep j := by
 have hil : i < s.reps.length := by rw [h]; exact hi
 unfold Sy.lead
 constructor
 ·obtain ⟨ps', h1⟩ := leadTo_rep (s := s.put i ((s.rep i).role (.lead b (s.nextOf i kept) (List.replicate 16 noPp)))) (i := i) (by simp only [Sy.put, List.length_set]; exact hil) (by rw [Sy.rep_put hil]; rfl) kept (s.nextOf i kept)
  refine ⟨ps', s.nextOf i kept, nextB_le _ _ 16, ?_⟩
  rw [h1, Sy.rep_put hil]
  rfl
 ·intro j hj
  rw [leadTo_rep_ne _ _ _ hj, Sy.rep_put_ne (Ne.symm hj)]

/-- A message that comes to replica i. -/
theorem receive_rs {s : Sy} (h : s.ok) {i : Nat} (hi : i < s.n) {m : Ms} (hm : m.ok s.n) : RS i (s.rep i) ((s.receive i m).rep i) ∧ ∀ j, j ≠ i → (s.receive i m).rep j = s.rep j := by
 have hl := h.len
 have hb1 := hm.b1
 have hP : ∀ r j, (s.put i r).rep j = if j = i then r else s.rep j := rep_put' hl hi
 unfold Sy.receive
 split
 ·unfold Sy.takePrepare
  split
  ·rename_i hb
   unfold Sy.obey; rw [if_pos hb]
   exact ⟨by rw [rep_send]; exact .same, fun j _ => rep_send _ _ _ _ _⟩
  ·rename_i hb
   unfold Sy.obey; rw [if_neg hb]
   refine ⟨?_, fun j hj => ?_⟩
   ·rw [rep_send, hP, if_pos rfl]; exact .obey m.b (by omega) hb1
   ·rw [rep_send, hP, if_neg hj]
 split
 ·unfold Sy.takePromise
  split
  ·rename_i b t kept hrl
   split
   ·split
    ·have hl1 : (s.put i ((s.rep i).role (.prep b (t.add m.f.toNat) (keepAll kept m.a)))).reps.length = (s.put i ((s.rep i).role (.prep b (t.add m.f.toNat) (keepAll kept m.a)))).n := by simp only [Sy.put, List.length_set]; exact hl
     obtain ⟨⟨ps, next, hn, h1⟩, h2⟩ := lead_rep hl1 (i := i) hi b (keepAll kept m.a)
     refine ⟨?_, fun j hj => ?_⟩
     ·rw [h1, hP, if_pos rfl]
      exact .lead b t kept hrl next ps hn
     ·rw [h2 j hj, hP, if_neg hj]
    ·refine ⟨?_, fun j hj => ?_⟩
     ·rw [hP, if_pos rfl]; exact .count b t kept hrl _ _
     ·rw [hP, if_neg hj]
   ·exact ⟨.same, fun _ _ => rfl⟩
  ·exact ⟨.same, fun _ _ => rfl⟩
 split
 ·unfold Sy.takePropose
  split
  ·rename_i hb
   unfold Sy.obey; rw [if_pos hb]
   exact ⟨by rw [rep_send]; exact .same, fun j _ => rep_send _ _ _ _ _⟩
  ·rename_i hb
   unfold Sy.obey; rw [if_neg hb]
   have hP2 := rep_put' (s := s.put i (((s.rep i).yield m.b).promise m.b)) (by simp only [Sy.put, List.length_set]; exact hl) (i := i) hi
   refine ⟨?_, fun j hj => ?_⟩
   ·rw [rep_send, hP2, if_pos rfl, hP, if_pos rfl]; exact .accept m.b (by omega) hb1 _ _
   ·rw [rep_send, hP2, if_neg hj, hP, if_neg hj]
 split
 ·unfold Sy.takeAccept
  split
  ·rename_i b next ps hrl
   split
   ·rename_i hc
    dsimp only
    split
    ·refine ⟨?_, fun j hj => ?_⟩
     ·rw [rep_send, hP, if_pos rfl]; exact .votes b next ps _ hrl _ _ hc.2.1
     ·rw [rep_send, hP, if_neg hj]
    ·refine ⟨?_, fun j hj => ?_⟩
     ·rw [hP, if_pos rfl]; exact .vote b next ps _ hrl
     ·rw [hP, if_neg hj]
   ·exact ⟨.same, fun _ _ => rfl⟩
  ·exact ⟨.same, fun _ _ => rfl⟩
 split
 ·unfold Sy.takeDecide
  split
  ·exact ⟨.same, fun _ _ => rfl⟩
  ·rename_i hd
   refine ⟨?_, fun j hj => ?_⟩
   ·rw [hP, if_pos rfl]; exact .told _ _ (by simpa using hd)
   ·rw [hP, if_neg hj]
 ·unfold Sy.takeRefuse
  refine ⟨?_, fun j hj => ?_⟩
  ·rw [hP, if_pos rfl]; exact .yield _
  ·rw [hP, if_neg hj]

theorem campE_le {s : Sy} {i : Nat} (h : s.campE i = 0) : (s.rep i).round ≤ 1000 := by
 unfold Sy.campE at h
 split at h
 ·cases h
 ·omega
theorem subE_lead {s : Sy} {i : Nat} {p : Pst} (h : s.subE i p = 0) : ∃ b next ps, (s.rep i).rl = .lead b next ps ∧ next ≠ 16 := by
 unfold Sy.subE at h
 split at h
 ·rename_i b next ps hrl
  refine ⟨b, next, ps, hrl, fun e => ?_⟩
  split at h
  ·cases h
  ·simp [e] at h
 ·cases h
theorem submit_rep {s : Sy} (h : s.ok) {i : Nat} (hi : i < s.n) {p : Pst} (hE : s.subE i p = 0) : ∃ b next ps ps', (s.rep i).rl = .lead b next ps ∧ next < 16 ∧ (s.submit i p).rep i = (s.rep i).role (.lead b (next + 1) ps') ∧ (∀ j, j ≠ i → (s.submit i p).rep j = s.rep j) ∧ (s.submit i p).n = s.n := by
 have hl := h.len
 unfold Sy.submit
 rw [if_pos hE]
 obtain ⟨b, next, ps0, hrl, hn⟩ := subE_lead hE
 have hnx : (s.rep i).next = next := by unfold Rp.next; rw [hrl]
 have hlen : (s.propose i (s.rep i).next p).reps.length = (s.propose i (s.rep i).next p).n := by
  rw [propose_n]
  unfold Sy.propose; rw [hrl]
  simp only
  rw [sendTo_reps]; simp only [Sy.put, List.length_set]; exact hl
 have hr := propose_rep h hi hrl (s.rep i).next p
 have hok := (h.repOk hi).rl
 rw [hrl] at hok
 have hnl : next ≤ 16 := hok.1
 have hP := rep_put' hlen (i := i) (by rw [propose_n]; exact hi)
 refine ⟨b, next, ps0, ps0.set (s.rep i).next ⟨p, (ps0.getD (s.rep i).next noPp).t⟩, hrl, by omega, ?_, fun j hj => ?_, propose_n _ _ _ _⟩
 ·rw [hP, if_pos rfl, hr]
  rfl
 ·rw [hP, if_neg hj, propose_rep_ne _ _ _ _ hj]
/-- Every move: one replica at most is turned, as RS tells. -/
theorem mv_rs {s s' : Sy} {ps ps' : List Pst} (h : s.ok) (m : Mv s ps s' ps') : s'.n = s.n ∧ ∀ j, j < s.n → RS j (s.rep j) (s'.rep j) := by
 have hl := h.len
 cases m with
 | camp i hi =>
  unfold Sy.campaign
  split
  ·rename_i hE
   refine ⟨sendTo_n _ _ _ _, fun j hj => ?_⟩
   rw [rep_send, rep_put' hl hi]
   split
   ·rename_i e; subst e; exact .camp (campE_le hE)
   ·exact .same
  ·exact ⟨rfl, fun _ _ => .same⟩
 | sub i p hi hp =>
  by_cases hE : s.subE i p = 0
  ·obtain ⟨b, next, ps0, ps1, hrl, hn, h1, h2, h3⟩ := submit_rep h hi hE
   refine ⟨h3, fun j hj => ?_⟩
   by_cases e : j = i
   ·subst e; rw [h1]; exact .sub b next ps0 _ hrl hn
   ·rw [h2 j e]; exact .same
  ·have e : s.submit i p = s := if_neg hE
   rw [e]
   exact ⟨rfl, fun _ _ => .same⟩
 | lose k hk => exact ⟨rfl, fun _ _ => .same⟩
 | dbl k hk => exact ⟨rfl, fun _ _ => .same⟩
 | crash i hi =>
  refine ⟨rfl, fun j hj => ?_⟩
  unfold Sy.crash
  rw [rep_put' hl hi]
  split
  ·rename_i e; subst e; exact .crash
  ·exact .same
 | dlv k hk =>
  have hmem : s.net.getD k noMs ∈ s.net := by rw [List.getD_eq_getElem?_getD, List.getElem?_eq_getElem hk]; exact List.getElem_mem hk
  have hm := h.net _ hmem
  have hw : (s.without k).ok := ⟨h.n0, h.n1, h.len, h.rep, by have := h.full; have := List.length_eraseIdx_le s.net k; show (s.net.eraseIdx k).length ≤ 200; omega, fun m hm => h.net m (List.mem_of_mem_eraseIdx hm)⟩
  unfold Sy.deliver
  generalize s.net.getD k noMs = m0 at *
  have hti : m0.t.toNat < s.n := by have := hm.t0; have := hm.t1; omega
  obtain ⟨h1, h2⟩ := receive_rs hw (i := m0.t.toNat) hti (m := m0) hm
  refine ⟨receive_n _ _ _, fun j hj => ?_⟩
  by_cases e : j = m0.t.toNat
  ·rw [e]; exact h1
  ·rw [h2 j e]; exact .same
end Go.Proofs.YtnnhnekfokbooaaGreatDoor

namespace Go.Proofs.YtnnhnekfokbooaaGreatDoor
set_option linter.unusedSimpArgs false
set_option linter.unusedVariables false

/-- What a replica of the document knows of a slot. -/
structure Sl where
 b : Int
 v : Pst
 is : Bool
 fin : Pst
 has : Bool
 mine : Bool
 kept : Pst
 kb : Int
 vo : List Bool
def no7 : List Bool := List.replicate 7 false
def noSl : Sl := ⟨0, noPst, false, noPst, false, false, noPst, 0, no7⟩
/-- A replica of the document. -/
structure Rr where
 pr : Int
 sn : Int
 ro : Int
 ba : Int
 nx : Int
 fr : List Bool
 sl : List Sl
def noRr : Rr := ⟨0, 0, 0, 0, 0, no7, List.replicate 16 noSl⟩
structure Qs where
 R : List Rr
 net : List Ms
def newRs (n : Nat) : Qs := ⟨List.replicate n noRr, []⟩
def Qs.rep (x : Qs) (i : Nat) : Rr := x.R.getD i noRr
def Qs.put (x : Qs) (i : Nat) (r : Rr) : Qs := ⟨x.R.set i r, x.net⟩
def Rr.at (r : Rr) (k : Nat) : Sl := r.sl.getD k noSl
def Rr.setAt (r : Rr) (k : Nat) (y : Sl) : Rr := ⟨r.pr, r.sn, r.ro, r.ba, r.nx, r.fr, r.sl.set k y⟩
def Qs.send (x : Qs) (m : Ms) : Qs := ⟨x.R, if x.net.length < 200 then x.net ++ [m] else x.net⟩
def Qs.sendTo (x : Qs) (m : Ms) (f : Nat) : List Nat → Qs
 | [] => x
 | t :: l => (x.send (m.to (f : Int) (t : Int))).sendTo m f l
def Qs.all (x : Qs) (m : Ms) (f : Nat) : Qs := x.sendTo m f (List.range x.R.length)
def yeas (l : List Bool) : Int := ((l.filter id).length : Int)
def Sl.clear (y : Sl) : Sl := ⟨y.b, y.v, y.is, y.fin, false, false, noPst, 0, no7⟩
def Rr.idle (r : Rr) : Rr := ⟨r.pr, r.sn, 0, 0, 0, no7, r.sl.map Sl.clear⟩
def Rr.yields (r : Rr) (b : Int) : Rr :=
 let q := if r.ro ≠ 0 ∧ r.ba < b then r.idle else r
 ⟨q.pr, if q.sn < b then b else q.sn, q.ro, q.ba, q.nx, q.fr, q.sl⟩
def Rr.top (r : Rr) : Int := if r.pr < r.sn then r.sn else r.pr
def Qs.campE (x : Qs) (i : Nat) : Int := if 1000 < (x.rep i).top / 8 + 1 then 7 else if 200 < (x.net.length : Int) + x.R.length then 6 else 0
def Rr.prep (r : Rr) (b : Int) : Rr := ⟨b, r.sn, 1, b, 0, no7, r.sl.map Sl.clear⟩
def Qs.campaign (x : Qs) (i : Nat) : Qs :=
 if x.campE i = 0 then (x.put i ((x.rep i).prep (8 * ((x.rep i).top / 8 + 1) + i))).all (msg 1 (8 * ((x.rep i).top / 8 + 1) + i) 0 noPst []) i else x
def Sl.known (y : Sl) (p : Pst) : Bool := (y.is && sameB y.fin p) || (y.mine && sameB y.kept p)
def Qs.subE (x : Qs) (i : Nat) (p : Pst) : Int :=
 if (x.rep i).ro ≠ 2 then 3 else if (x.rep i).sl.any (fun y => y.known p) then 4 else if (x.rep i).nx = 16 then 5 else if 200 < (x.net.length : Int) + x.R.length then 6 else 0
def Sl.propose (y : Sl) (p : Pst) : Sl := ⟨y.b, y.v, y.is, y.fin, true, true, p, y.kb, y.vo⟩
def Rr.next (r : Rr) (n : Int) : Rr := ⟨r.pr, r.sn, r.ro, r.ba, n, r.fr, r.sl⟩
def Qs.submit (x : Qs) (i : Nat) (p : Pst) : Qs :=
 if x.subE i p = 0 then (x.put i (((x.rep i).next ((x.rep i).nx + 1)).setAt (x.rep i).nx.toNat (((x.rep i).at (x.rep i).nx.toNat).propose p))).all (msg 3 (x.rep i).ba (x.rep i).nx p []) i else x
/-- The place behind the last slot that is decided or kept. -/
def nextR (l : Nat → Sl) : Nat → Nat
 | 0 => 0
 | k + 1 => if (l k).is || (l k).has then k + 1 else nextR l k
def Sl.claim (y : Sl) : Sl := ⟨y.b, y.v, y.is, y.fin, true, true, y.kept, y.kb, y.vo⟩
def Qs.leadTo (x : Qs) (i : Nat) : Nat → Qs
 | 0 => x
 | k + 1 =>
  let z := x.leadTo i k
  if ((z.rep i).at k).is then z else (z.put i ((z.rep i).setAt k ((z.rep i).at k).claim)).all (msg 3 (z.rep i).ba (k : Int) ((z.rep i).at k).kept []) i
def Rr.leads (r : Rr) : Rr := ⟨r.pr, r.sn, 2, r.ba, (nextR r.at 16 : Int), r.fr, r.sl⟩
def Qs.leads (x : Qs) (i : Nat) : Qs := (x.put i (x.rep i).leads).leadTo i (nextR (x.rep i).at 16)
def Sl.keep (y : Sl) (v : Vt) : Sl := if y.kb < v.b then ⟨y.b, y.v, y.is, y.fin, true, y.mine, v.p, v.b, y.vo⟩ else y
def Rr.keepAll (r : Rr) : List Vt → Rr
 | [] => r
 | v :: l => (r.setAt v.s.toNat ((r.at v.s.toNat).keep v)).keepAll l
def Rr.from (r : Rr) (f : Nat) : Rr := ⟨r.pr, r.sn, r.ro, r.ba, r.nx, r.fr.set f true, r.sl⟩
def Qs.promised (x : Qs) (i : Nat) (m : Ms) : Qs :=
 let r := x.rep i
 if r.ro ≠ 1 ∨ r.ba ≠ m.b ∨ r.fr.getD m.f.toNat false = true then x
 else
  let r' := (r.from m.f.toNat).keepAll m.a
  if (x.R.length : Int) < 2 * yeas r'.fr then (x.put i r').leads i else x.put i r'
def Sl.vote (y : Sl) (f : Nat) : Sl := ⟨y.b, y.v, y.is, y.fin, y.has, y.mine, y.kept, y.kb, y.vo.set f true⟩
def Sl.final (y : Sl) (p : Pst) : Sl := ⟨y.b, y.v, true, p, y.has, y.mine, y.kept, y.kb, y.vo⟩
def Qs.accepted (x : Qs) (i : Nat) (m : Ms) : Qs :=
 let r := x.rep i
 let y := r.at m.s.toNat
 if r.ro ≠ 2 ∨ r.ba ≠ m.b ∨ y.is = true ∨ y.vo.getD m.f.toNat false = true then x
 else if (x.R.length : Int) < 2 * yeas (y.vo.set m.f.toNat true) then (x.put i (r.setAt m.s.toNat ((y.vote m.f.toNat).final y.kept))).sendTo (msg 5 0 m.s y.kept []) i ((List.range x.R.length).eraseIdx i)
 else x.put i (r.setAt m.s.toNat (y.vote m.f.toNat))
def votesR (l : List Sl) : Nat → List Vt
 | 0 => []
 | k + 1 => votesR l k ++ (if 0 < (l.getD k noSl).b then [⟨(k : Int), (l.getD k noSl).b, (l.getD k noSl).v⟩] else [])
def Sl.accept (y : Sl) (b : Int) (p : Pst) : Sl := ⟨b, p, y.is, y.fin, y.has, y.mine, y.kept, y.kb, y.vo⟩
def Rr.promise (r : Rr) (b : Int) : Rr := ⟨b, r.sn, r.ro, r.ba, r.nx, r.fr, r.sl⟩
def Qs.comes (x : Qs) (i : Nat) (m : Ms) : Qs :=
 let r := x.rep i
 if m.k = 1 ∨ m.k = 3 then
  if m.b < r.pr then x.send ((msg 6 r.pr 0 noPst []).to (i : Int) m.f)
  else
   let q := (r.yields m.b).promise m.b
   if m.k = 1 then (x.put i q).send ((msg 2 m.b 0 noPst (votesR q.sl 16)).to (i : Int) m.f)
   else (x.put i (q.setAt m.s.toNat ((q.at m.s.toNat).accept m.b m.p))).send ((msg 4 m.b m.s noPst []).to (i : Int) m.f)
 else if m.k = 2 then x.promised i m
 else if m.k = 4 then x.accepted i m
 else if m.k = 5 then (if (r.at m.s.toNat).is then x else x.put i (r.setAt m.s.toNat ((r.at m.s.toNat).final m.p)))
 else x.put i (r.yields m.b)
def Qs.without (x : Qs) (k : Nat) : Qs := ⟨x.R, x.net.eraseIdx k⟩
def Qs.deliver (x : Qs) (k : Nat) : Qs := (x.without k).comes ((x.net.getD k noMs).t.toNat) (x.net.getD k noMs)
def Qs.double (x : Qs) (k : Nat) : Qs := x.send (x.net.getD k noMs)
def Rr.crash (r : Rr) : Rr := ⟨r.pr, 0, 0, 0, 0, no7, r.sl.map Sl.clear⟩
def Qs.crash (x : Qs) (i : Nat) : Qs := x.put i (x.rep i).crash

theorem at_set {r : Rr} (h : r.sl.length = 16) {k : Nat} (hk : k < 16) (y : Sl) (q : Nat) : (r.setAt k y).at q = if q = k then y else r.at q := by
 unfold Rr.at Rr.setAt
 simp only [List.getD_eq_getElem?_getD]
 by_cases e : q = k
 ·rw [if_pos e, e, List.getElem?_set_self (by omega)]; rfl
 ·rw [if_neg e, List.getElem?_set_ne (Ne.symm e)]
theorem at_out {r : Rr} (h : r.sl.length = 16) {k : Nat} (hk : 16 ≤ k) : r.at k = noSl := by
 unfold Rr.at
 rw [List.getD_eq_getElem?_getD, List.getElem?_eq_none (by omega)]; rfl
theorem at_prep {r : Rr} (b : Int) (k : Nat) : (r.prep b).at k = (r.at k).clear := by
 unfold Rr.at Rr.prep
 simp only [List.getD_eq_getElem?_getD, List.getElem?_map]
 cases r.sl[k]? <;> rfl
theorem at_crash {r : Rr} (k : Nat) : r.crash.at k = (r.at k).clear := by
 unfold Rr.at Rr.crash
 simp only [List.getD_eq_getElem?_getD, List.getElem?_map]
 cases r.sl[k]? <;> rfl
theorem at_clear {r : Rr} (k : Nat) : (r.idle).at k = (r.at k).clear := by
 unfold Rr.at Rr.idle
 simp only [List.getD_eq_getElem?_getD, List.getElem?_map]
 cases r.sl[k]? <;> rfl
theorem Qs.rep_put {x : Qs} {i : Nat} (hi : i < x.R.length) (r : Rr) (j : Nat) : (x.put i r).rep j = if j = i then r else x.rep j := by
 unfold Qs.put Qs.rep
 simp only [List.getD_eq_getElem?_getD]
 by_cases e : j = i
 ·rw [if_pos e, e, List.getElem?_set_self hi]; rfl
 ·rw [if_neg e, List.getElem?_set_ne (Ne.symm e)]
end Go.Proofs.YtnnhnekfokbooaaGreatDoor

namespace Go.Proofs.YtnnhnekfokbooaaGreatDoor
set_option linter.unusedSimpArgs false
set_option linter.unusedVariables false

/-! The two machines beside one another. -/
def SimS (v : Vt) (d : Dn) (k : Nat) (y : Sl) : Prop := y.b = v.b ∧ y.v = v.p ∧ (0 < v.b → v.s = (k : Int)) ∧ y.is = d.m ∧ y.fin = d.p ∧ (d.m = false → d.p = noPst)
def SimL (dm : Nat → Bool) : Rl → Rr → Prop
 | .idle, r => r.ro = 0 ∧ r.ba = 0 ∧ r.nx = 0 ∧ r.fr = no7 ∧ ∀ k, (r.at k).has = false ∧ (r.at k).mine = false ∧ (r.at k).kept = noPst ∧ (r.at k).kb = 0 ∧ (r.at k).vo = no7
 | .prep b t kept, r => r.ro = 1 ∧ r.ba = b ∧ r.nx = 0 ∧ r.fr = t.v ∧ ∀ k, ((r.at k).has = decide ((r.at k).kb ≠ 0)) ∧ (r.at k).mine = false ∧ (r.at k).kept = (kept.getD k noVt).p ∧ (r.at k).kb = (kept.getD k noVt).b ∧ 0 ≤ (r.at k).kb ∧ ((r.at k).kb = 0 → (r.at k).kept = noPst) ∧ (r.at k).vo = no7
 | .lead b next ps, r => r.ro = 2 ∧ r.ba = b ∧ r.nx = (next : Int) ∧ ∀ k, (r.at k).vo = (ps.getD k noPp).t.v ∧ ((r.at k).mine = true → (r.at k).kept = (ps.getD k noPp).p) ∧ ((r.at k).mine = false → (ps.getD k noPp).p = noPst) ∧ (dm k = false → (r.at k).kept = (ps.getD k noPp).p)
structure SimR (p : Rp) (r : Rr) : Prop where
 pr : r.pr = p.pr
 sn : r.sn = p.sn
 len : r.sl.length = 16
 slot : ∀ k, k < 16 → SimS (p.acc.getD k noVt) (p.dec.getD k noDn) k (r.at k)
 role : SimL p.dm p.rl r
structure Sim (s : Sy) (x : Qs) : Prop where
 n : x.R.length = s.n
 net : x.net = s.net
 rep : ∀ i, i < s.n → SimR (s.rep i) (x.rep i)
theorem Sim.send {s : Sy} {x : Qs} (h : Sim s x) (m : Ms) : Sim (s.send1 m) (x.send m) := ⟨h.n, by unfold Qs.send Sy.send1; simp only [h.net], h.rep⟩
theorem Sim.sendTo (m : Ms) (f : Nat) : ∀ (l : List Nat) {s : Sy} {x : Qs}, Sim s x → Sim (s.sendTo m f l) (x.sendTo m f l)
 | [], s, x, h => h
 | t :: l, s, x, h => Sim.sendTo m f l (h.send _)
theorem Sim.all {s : Sy} {x : Qs} (h : Sim s x) (m : Ms) (f : Nat) : Sim (s.sendTo m f s.all) (x.all m f) := by
 unfold Qs.all Sy.all
 rw [h.n]
 exact h.sendTo m f _
theorem Sim.put {s : Sy} {x : Qs} (h : Sim s x) (hl : s.reps.length = s.n) {i : Nat} (hi : i < s.n) {p : Rp} {r : Rr} (hr : SimR p r) : Sim (s.put i p) (x.put i r) := by
 refine ⟨by unfold Qs.put Sy.put; simp only [List.length_set]; exact h.n, h.net, fun j hj => ?_⟩
 rw [rep_put' hl hi, Qs.rep_put (by rw [h.n]; exact hi)]
 split
 ·exact hr
 ·exact h.rep j hj
end Go.Proofs.YtnnhnekfokbooaaGreatDoor

namespace Go.Proofs.YtnnhnekfokbooaaGreatDoor
set_option linter.unusedSimpArgs false
set_option linter.unusedVariables false

def FI (i : Nat) (r : Rp) : Prop :=
 match r.rl with
 | .idle => True
 | .prep b _ _ => b = r.pr ∧ b % 8 = i
 | .lead b _ _ => b = r.pr ∧ b % 8 = i
def rolePot : Rl → Int
 | .idle => 0
 | .prep _ _ _ => 16
 | .lead _ next _ => 16 - next
def pot (r : Rp) : Int := 16 * (1000 - r.pr / 8) + rolePot r.rl
theorem rolePot_nonneg {l : Rl} (h : l.ok) : 0 ≤ rolePot l ∧ rolePot l ≤ 16 := by
 cases l with
 | idle => simp [rolePot]
 | prep b t k => simp [rolePot]
 | lead b n ps => have : n ≤ 16 := h.1; simp [rolePot]; omega
theorem pot_nonneg {r : Rp} (h : r.ok) : 0 ≤ pot r := by
 have := rolePot_nonneg h.rl
 have := h.pr1
 unfold pot; omega
theorem yield_fi {i : Nat} {r : Rp} (h : FI i r) (b : Int) : FI i (r.yield b) := by
 unfold FI Rp.yield
 simp only
 by_cases hb : r.rl.bal < b
 ·rw [if_pos hb]; trivial
 ·rw [if_neg hb]; exact h
theorem obey_fi {i : Nat} {r : Rp} (h : FI i r) (b : Int) (hb : r.pr ≤ b) : FI i ((r.yield b).promise b) := by
 unfold FI at h ⊢
 unfold Rp.yield Rp.promise
 simp only
 by_cases hlt : r.rl.bal < b
 ·rw [if_pos hlt]; trivial
 ·rw [if_neg hlt]
  cases hrl : r.rl with
  | idle => trivial
  | prep b' t k =>
   rw [hrl] at h hlt
   simp only [Rl.bal] at hlt h
   exact ⟨by omega, h.2⟩
  | lead b' n ps =>
   rw [hrl] at h hlt
   simp only [Rl.bal] at hlt h
   exact ⟨by omega, h.2⟩
theorem yield_rolePot {r : Rp} (h : r.ok) (b : Int) : rolePot (r.yield b).rl ≤ rolePot r.rl := by
 unfold Rp.yield
 simp only
 split
 ·exact (rolePot_nonneg h.rl).1
 ·exact Int.le_refl _
theorem rs_fi {i : Nat} (hi : i < 8) {r r' : Rp} (hok : r.ok) (h : FI i r) (s : RS i r r') : FI i r' ∧ r.pr ≤ r'.pr ∧ pot r' ≤ pot r := by
 have h0 := hok.pr0
 have h1 := hok.pr1
 have h2 := hok.sn0
 have hp := rolePot_nonneg hok.rl
 cases s with
 | same => exact ⟨h, Int.le_refl _, Int.le_refl _⟩
 | camp hr =>
  unfold Rp.round at hr ⊢
  refine ⟨⟨rfl, by omega⟩, by show r.pr ≤ 8 * (max r.pr r.sn / 8 + 1) + (i : Int); omega, ?_⟩
  show 16 * (1000 - (8 * (max r.pr r.sn / 8 + 1) + (i : Int)) / 8) + 16 ≤ 16 * (1000 - r.pr / 8) + rolePot r.rl
  omega
 | obey b hb b1 =>
  refine ⟨obey_fi h b hb, hb, ?_⟩
  have := yield_rolePot hok b
  show 16 * (1000 - b / 8) + rolePot (r.yield b).rl ≤ 16 * (1000 - r.pr / 8) + rolePot r.rl
  omega
 | accept b hb b1 k v =>
  refine ⟨obey_fi h b hb, hb, ?_⟩
  have := yield_rolePot hok b
  show 16 * (1000 - b / 8) + rolePot (r.yield b).rl ≤ 16 * (1000 - r.pr / 8) + rolePot r.rl
  omega
 | count b t kept hrl t' kept' =>
  unfold FI at h
  rw [hrl] at h
  refine ⟨h, Int.le_refl _, ?_⟩
  unfold pot; rw [hrl]; exact Int.le_refl _
 | lead b t kept hrl next ps hn =>
  unfold FI at h
  rw [hrl] at h
  refine ⟨h, Int.le_refl _, ?_⟩
  unfold pot; rw [hrl]
  show 16 * (1000 - r.pr / 8) + (16 - (next : Int)) ≤ 16 * (1000 - r.pr / 8) + 16
  omega
 | vote b next ps ps' hrl =>
  unfold FI at h
  rw [hrl] at h
  refine ⟨h, Int.le_refl _, ?_⟩
  unfold pot; rw [hrl]; exact Int.le_refl _
 | votes b next ps ps' hrl k p hk =>
  unfold FI at h
  rw [hrl] at h
  refine ⟨h, Int.le_refl _, ?_⟩
  unfold pot; rw [hrl]; exact Int.le_refl _
 | told k p hk => exact ⟨h, Int.le_refl _, Int.le_refl _⟩
 | yield b =>
  refine ⟨yield_fi h b, Int.le_refl _, ?_⟩
  have := yield_rolePot hok b
  show 16 * (1000 - r.pr / 8) + rolePot (r.yield b).rl ≤ 16 * (1000 - r.pr / 8) + rolePot r.rl
  omega
 | sub b next ps ps' hrl hn =>
  unfold FI at h
  rw [hrl] at h
  refine ⟨h, Int.le_refl _, ?_⟩
  unfold pot; rw [hrl]
  show 16 * (1000 - r.pr / 8) + (16 - ((next + 1 : Nat) : Int)) ≤ 16 * (1000 - r.pr / 8) + (16 - (next : Int))
  omega
 | crash =>
  refine ⟨trivial, Int.le_refl _, ?_⟩
  show 16 * (1000 - r.pr / 8) + 0 ≤ 16 * (1000 - r.pr / 8) + rolePot r.rl
  omega

def sumTo (f : Nat → Int) : Nat → Int
 | 0 => 0
 | k + 1 => sumTo f k + f k
theorem sumTo_le {f g : Nat → Int} : ∀ (n : Nat), (∀ j, j < n → g j ≤ f j) → sumTo g n ≤ sumTo f n
 | 0, _ => Int.le_refl _
 | n + 1, h => by
  have h1 := sumTo_le n (fun j hj => h j (by omega))
  have h2 := h n (by omega)
  unfold sumTo; omega
theorem sumTo_lt {f g : Nat → Int} : ∀ (n : Nat), (∀ j, j < n → g j ≤ f j) → ∀ i, i < n → g i + 1 ≤ f i → sumTo g n + 1 ≤ sumTo f n
 | 0, _, i, hi, _ => by omega
 | n + 1, h, i, hi, hd => by
  by_cases e : i = n
  ·subst e
   have h1 := sumTo_le i (fun j hj => h j (by omega))
   unfold sumTo; omega
  ·have h1 := sumTo_lt n (fun j hj => h j (by omega)) i (by omega) hd
   have h2 := h n (by omega)
   unfold sumTo; omega
theorem sumTo_nonneg {f : Nat → Int} : ∀ (n : Nat), (∀ j, j < n → 0 ≤ f j) → 0 ≤ sumTo f n
 | 0, _ => Int.le_refl _
 | n + 1, h => by
  have h1 := sumTo_nonneg n (fun j hj => h j (by omega))
  have h2 := h n (by omega)
  unfold sumTo; omega
theorem sumTo_bound {f : Nat → Int} {c : Int} : ∀ (n : Nat), (∀ j, j < n → f j ≤ c) → sumTo f n ≤ n * c
 | 0, _ => by simp [sumTo]
 | n + 1, h => by
  have h1 := sumTo_bound n (fun j hj => h j (by omega))
  have h2 := h n (by omega)
  have e : ((n + 1 : Nat) : Int) * c = n * c + c := by rw [Int.natCast_add, Int.add_mul]; simp
  unfold sumTo; omega
/-- What holds of every synod that moves, and of what was taken. -/
structure Good (s : Sy) (ps : List Pst) : Prop where
 fi : ∀ i, i < s.n → FI i (s.rep i)
 room : (ps.length : Int) + sumTo (fun i => pot (s.rep i)) s.n ≤ 112112
theorem Good.few {s : Sy} {ps : List Pst} (h : Good s ps) (hok : s.ok) : ps.length ≤ 112112 := by
 have h1 := sumTo_nonneg (f := fun i => pot (s.rep i)) s.n (fun j hj => pot_nonneg (hok.repOk hj))
 have h2 := h.room
 omega
theorem Good.bal {s : Sy} {ps : List Pst} (h : Good s ps) (hok : s.ok) {i : Nat} (hi : i < s.n) : 0 ≤ (s.rep i).rl.bal ∧ (s.rep i).rl.bal ≤ 8007 := by
 have h1 := h.fi i hi
 have h2 := (hok.repOk hi).pr0
 have h3 := (hok.repOk hi).pr1
 unfold FI at h1
 cases hrl : (s.rep i).rl with
 | idle => simp [Rl.bal]
 | prep b t k => rw [hrl] at h1; simp only [Rl.bal]; omega
 | lead b n p => rw [hrl] at h1; simp only [Rl.bal]; omega
theorem Good.mv {s s' : Sy} {ps ps' : List Pst} (h : Good s ps) (hok : s.ok) (m : Mv s ps s' ps') : Good s' ps' ∧ s'.n = s.n ∧ ∀ j, j < s.n → (s.rep j).pr ≤ (s'.rep j).pr := by
 obtain ⟨hn, hr⟩ := mv_rs hok m
 have hn7 := hok.n1
 have hall : ∀ j, j < s.n → FI j (s'.rep j) ∧ (s.rep j).pr ≤ (s'.rep j).pr ∧ pot (s'.rep j) ≤ pot (s.rep j) := fun j hj => rs_fi (by omega) (hok.repOk hj) (h.fi j hj) (hr j hj)
 refine ⟨⟨fun i hi => (hall i (by rw [← hn]; exact hi)).1, ?_⟩, hn, fun j hj => (hall j hj).2.1⟩
 rw [hn]
 have hsum := sumTo_le (f := fun i => pot (s.rep i)) (g := fun i => pot (s'.rep i)) s.n (fun j hj => (hall j hj).2.2)
 have hroom := h.room
 cases m with
 | sub i p hi hp =>
  by_cases hE : s.subE i p = 0
  ·rw [if_pos hE]
   obtain ⟨b, next, ps0, ps1, hrl, hnx, h1, h2, h3⟩ := submit_rep hok hi hE
   have hlt := sumTo_lt (f := fun i => pot (s.rep i)) (g := fun j => pot ((s.submit i p).rep j)) s.n (fun j hj => (hall j hj).2.2) i hi (by
    show pot ((s.submit i p).rep i) + 1 ≤ pot (s.rep i)
    rw [h1]
    unfold pot; rw [hrl]
    show 16 * (1000 - (s.rep i).pr / 8) + (16 - ((next + 1 : Nat) : Int)) + 1 ≤ 16 * (1000 - (s.rep i).pr / 8) + (16 - (next : Int))
    omega)
   rw [List.length_append, List.length_singleton]
   omega
  ·rw [if_neg hE]; omega
 | camp i hi => omega
 | lose k hk => omega
 | dbl k hk => omega
 | crash i hi => omega
 | dlv k hk => omega
theorem newSy_good (n : Nat) (hn : n ≤ 7) : Good (newSy n) [] := by
 refine ⟨fun i hi => ?_, ?_⟩
 ·have e : (newSy n).rep i = noRp := by
   have : i < n := hi
   unfold newSy Sy.rep
   simp [List.getD_eq_getElem?_getD, this]
  rw [e]; trivial
 ·have h1 := sumTo_bound (f := fun i => pot ((newSy n).rep i)) (c := 16000) n (fun j hj => by
   have e : (newSy n).rep j = noRp := by
    unfold newSy Sy.rep
    simp [List.getD_eq_getElem?_getD, hj]
   show pot ((newSy n).rep j) ≤ 16000
   rw [e]; decide)
  show (([] : List Pst).length : Int) + sumTo (fun i => pot ((newSy n).rep i)) n ≤ 112112
  simp only [List.length_nil]
  omega
theorem send_mem (x : Ms) (f : Nat) : ∀ (tos : List Nat) (s : Sy) (m : Ms), m ∈ (s.sendTo x f tos).net → m ∈ s.net ∨ ∃ t ∈ tos, m = x.to (f : Int) (t : Int)
 | [], s, m, h => .inl h
 | t :: tos, s, m, h => by
  rcases send_mem x f tos _ m h with h1 | ⟨u, hu, h1⟩
  ·unfold Sy.send1 at h1
   simp only at h1
   split at h1
   ·rcases List.mem_append.1 h1 with h2 | h2
    ·exact .inl h2
    ·exact .inr ⟨t, List.mem_cons_self, List.mem_singleton.1 h2⟩
   ·exact .inl h1
  ·exact .inr ⟨u, List.mem_cons_of_mem _ hu, h1⟩
theorem keep1_eq (kept : List Vt) (v : Vt) : keep1 kept v = if (kept.getD v.s.toNat noVt).b < v.b then kept.set v.s.toNat v else kept := rfl
theorem getD_set {α : Type} (l : List α) (k q : Nat) (x d : α) : (l.set k x).getD q d = if q = k ∧ k < l.length then x else l.getD q d := by
 rw [List.getD_eq_getElem?_getD, List.getD_eq_getElem?_getD]
 by_cases e : q = k
 ·subst e
  by_cases hl : q < l.length
  ·rw [List.getElem?_set_self hl, if_pos ⟨rfl, hl⟩]; rfl
  ·rw [if_neg (by intro h; exact hl h.2), List.getElem?_eq_none (by rw [List.length_set]; omega), List.getElem?_eq_none (by omega)]
 ·rw [List.getElem?_set_ne (Ne.symm e), if_neg (by intro h; exact e h.1)]
theorem without_ok {s : Sy} (h : s.ok) (k : Nat) : (s.without k).ok :=
 ⟨h.n0, h.n1, h.len, h.rep, by have := h.full; have := List.length_eraseIdx_le s.net k; show (s.net.eraseIdx k).length ≤ 200; omega, fun m hm => h.net m (List.mem_of_mem_eraseIdx hm)⟩
end Go.Proofs.YtnnhnekfokbooaaGreatDoor

namespace Go.Proofs.YtnnhnekfokbooaaGreatDoor
set_option linter.unusedSimpArgs false
set_option linter.unusedVariables false

/-! What comes keeps a synod right. -/
theorem all_lt (s : Sy) : ∀ t ∈ s.all, t < s.n := fun t ht => by unfold Sy.all at ht; exact List.mem_range.1 ht
theorem others_lt (s : Sy) (i : Nat) : ∀ t ∈ s.others i, t < s.n := fun t ht => by
 unfold Sy.others at ht
 exact List.mem_range.1 (List.mem_of_mem_eraseIdx ht)
theorem send_ok {s : Sy} (h : s.ok) {k b q : Int} {p : Pst} {a : List Vt} (k0 : 1 ≤ k) (k1 : k ≤ 6) (b0 : 0 ≤ b) (b1 : b ≤ 8007) (s0 : 0 ≤ q) (s1 : q < 16) (ha : a.length ≤ 16) (hs : ∀ v ∈ a, 0 ≤ v.s ∧ v.s < 16) {f : Nat} (hf : f < s.n) {l : List Nat} (hl : ∀ t ∈ l, t < s.n) : (s.sendTo (msg k b q p a) f l).ok :=
 sendTo_ok _ f l s h (msg_ok h.n0 k0 k1 b0 b1 s0 s1 ha hs) hf hl
theorem role_ok {r : Rp} (h : r.ok) {l : Rl} (hl : l.ok) : (r.role l).ok := ⟨h.pr0, h.pr1, h.sn0, h.sn1, h.acc, h.slot, h.dec, hl⟩
theorem noTl_ok : noTl.ok := ⟨rfl, rfl⟩
theorem propose_ok {s : Sy} (h : s.ok) {i : Nat} (hi : i < s.n) {b : Int} {next : Nat} {ps : List Pp} (hrl : (s.rep i).rl = .lead b next ps) (b0 : 0 ≤ b) (b1 : b ≤ 8007) {k : Nat} (hk : k < 16) (p : Pst) : (s.propose i k p).ok := by
 have hr := h.repOk hi
 have ho := hr.rl
 rw [hrl] at ho
 unfold Sy.propose
 rw [hrl]
 simp only
 refine send_ok (Sy.put_ok h (role_ok hr ?_)) (by decide) (by decide) b0 b1 (by omega) (by omega) (by simp) (by simp) hi (all_lt s)
 exact ⟨ho.1, by rw [List.length_set]; exact ho.2.1, set_ok ho.2.2 (getD_ok ho.2.2 (by rw [ho.2.1]; exact hk))⟩
theorem leadTo_ok {s : Sy} (h : s.ok) {i : Nat} (hi : i < s.n) {b : Int} {next : Nat} {ps : List Pp} (hrl : (s.rep i).rl = .lead b next ps) (b0 : 0 ≤ b) (b1 : b ≤ 8007) (kept : List Vt) : ∀ k, k ≤ 16 → (s.leadTo i kept k).ok
 | 0, _ => h
 | k + 1, hk => by
  have ih := leadTo_ok h hi hrl b0 b1 kept k (by omega)
  obtain ⟨ps', hr⟩ := leadTo_rep (by rw [h.len]; exact hi) hrl kept k
  unfold Sy.leadTo
  split
  ·exact ih
  ·exact propose_ok ih (by rw [leadTo_n]; exact hi) (by rw [hr]; rfl) b0 b1 (by omega) _
theorem lead_ok {s : Sy} (h : s.ok) {i : Nat} (hi : i < s.n) {b : Int} (b0 : 0 ≤ b) (b1 : b ≤ 8007) (kept : List Vt) : (s.lead i b kept).ok := by
 unfold Sy.lead
 have hr := h.repOk hi
 refine leadTo_ok (b := b) (next := s.nextOf i kept) (ps := List.replicate 16 noPp) (Sy.put_ok h (role_ok (l := .lead b (s.nextOf i kept) (List.replicate 16 noPp)) hr ⟨nextB_le _ _ 16, by simp, fun x hx => ?_⟩)) hi ?_ b0 b1 kept _ (nextB_le _ _ 16)
 ·rw [List.eq_of_mem_replicate hx]; exact noTl_ok
 ·rw [Sy.rep_put (by rw [h.len]; exact hi)]; rfl
theorem voted_fits {r : Rp} (h : r.ok) : (voted r.acc).length ≤ 16 ∧ ∀ v ∈ voted r.acc, 0 ≤ v.s ∧ v.s < 16 := by
 have h1 := h.acc
 refine ⟨?_, fun v hv => h.slot v ?_⟩
 ·have := List.length_filter_le (fun v : Vt => decide (0 < v.b)) r.acc
  unfold voted; omega
 ·unfold voted at hv
  exact (List.mem_filter.1 hv).1
theorem receive_ok {s : Sy} (h : s.ok) {i : Nat} (hi : i < s.n) {m : Ms} (hm : m.ok s.n) : (s.receive i m).ok := by
 have hr := h.repOk hi
 have hf : ∀ t ∈ [m.f.toNat], t < s.n := fun t ht => by
  have := hm.f0; have := hm.f1
  rw [List.mem_singleton.1 ht]; omega
 have hf7 : m.f.toNat < 7 := by have := hf _ (List.mem_singleton.2 rfl); have := h.n1; omega
 have hb0 := hm.b0
 have hb1 := hm.b1
 have hs0 := hm.s0
 have hs1 := hm.s1
 have hv := voted_fits hr
 have hobey : ¬ m.b < (s.rep i).pr → (s.put i (((s.rep i).yield m.b).promise m.b)).ok := fun _ => Sy.put_ok h (promise_ok (yield_ok hr hb0 hb1) hb0 hb1)
 have href : (s.sendTo (msg 6 (s.rep i).pr 0 noPst []) i [m.f.toNat]).ok := send_ok h (by decide) (by decide) hr.pr0 hr.pr1 (by decide) (by decide) (by simp) (by simp) hi hf
 unfold Sy.receive
 split
 ·unfold Sy.takePrepare Sy.obey
  split
  ·exact href
  ·rename_i hb
   exact send_ok (hobey hb) (by decide) (by decide) hb0 hb1 (by decide) (by decide) hv.1 hv.2 hi hf
 split
 ·unfold Sy.takePromise
  split
  ·rename_i b t kept hrl
   have ho := hr.rl
   rw [hrl] at ho
   split
   ·rename_i hc
    have ho2 : (Rl.prep b (t.add m.f.toNat) (keepAll kept m.a)).ok := ⟨Tl.add_ok ho.1 hf7 hc.2, by rw [keepAll_length]; exact ho.2⟩
    have h1 := Sy.put_ok (i := i) h (role_ok hr ho2)
    split
    ·exact lead_ok h1 hi (by rw [hc.1]; exact hb0) (by rw [hc.1]; exact hb1) _
    ·exact h1
   ·exact h
  ·exact h
 split
 ·unfold Sy.takePropose Sy.obey
  split
  ·exact href
  ·rename_i hb
   refine send_ok (Sy.put_ok (hobey hb) (accept_ok ((hobey hb).repOk hi) hs0 hs1)) (by decide) (by decide) hb0 hb1 hs0 hs1 (by simp) (by simp) hi hf
 split
 ·unfold Sy.takeAccept
  split
  ·rename_i b next ps hrl
   have ho := hr.rl
   rw [hrl] at ho
   split
   ·rename_i hc
    have hk : m.s.toNat < ps.length := by rw [ho.2.1]; omega
    have ho2 : (Rl.lead b next (ps.set m.s.toNat ⟨(ps.getD m.s.toNat noPp).p, (ps.getD m.s.toNat noPp).t.add m.f.toNat⟩)).ok :=
     ⟨ho.1, by rw [List.length_set]; exact ho.2.1, set_ok ho.2.2 (Tl.add_ok (getD_ok ho.2.2 hk) hf7 hc.2.2)⟩
    dsimp only
    split
    ·exact send_ok (Sy.put_ok h (decide_ok (role_ok hr ho2) _ _)) (by decide) (by decide) (by decide) (by decide) hs0 hs1 (by simp) (by simp) hi (others_lt s i)
    ·exact Sy.put_ok h (role_ok hr ho2)
   ·exact h
  ·exact h
 split
 ·unfold Sy.takeDecide
  split
  ·exact h
  ·exact Sy.put_ok h (decide_ok hr _ _)
 ·unfold Sy.takeRefuse
  exact Sy.put_ok h (yield_ok hr hb0 hb1)
theorem first_ok {s : Sy} (h : s.ok) {m : Ms} {l : List Ms} (hn : s.net = m :: l) : m.ok s.n ∧ (⟨s.n, s.reps, l⟩ : Sy).ok := by
 refine ⟨h.net m (by rw [hn]; exact List.mem_cons_self), ⟨h.n0, h.n1, h.len, h.rep, ?_, fun x hx => h.net x (by rw [hn]; exact List.mem_cons_of_mem _ hx)⟩⟩
 have := h.full
 rw [hn] at this
 show l.length ≤ 200
 simp at this; omega
theorem deliver_first {s : Sy} {m : Ms} {l : List Ms} (hn : s.net = m :: l) : s.deliver 0 = (⟨s.n, s.reps, l⟩ : Sy).receive m.t.toNat m := by
 unfold Sy.deliver Sy.without
 rw [hn]
 rfl
theorem Ms.ok.to_lt {n : Nat} {m : Ms} (h : m.ok n) : m.t.toNat < n ∧ m.f.toNat < n := by
 have := h.t0; have := h.t1; have := h.f0; have := h.f1
 omega
end Go.Proofs.YtnnhnekfokbooaaGreatDoor

namespace Go.Proofs.YtnnhnekfokbooaaGreatDoor
set_option linter.unusedSimpArgs false
set_option linter.unusedVariables false

theorem getD_rep {α : Type} (n : Nat) (x : α) (k : Nat) : (List.replicate n x).getD k x = x := by
 rw [List.getD_eq_getElem?_getD, List.getElem?_replicate]
 split <;> rfl
theorem SimS.clear {v : Vt} {d : Dn} {k : Nat} {y : Sl} (h : SimS v d k y) : SimS v d k y.clear := h
theorem sim_top {p : Rp} {r : Rr} (h : SimR p r) : r.top = max p.pr p.sn := by
 unfold Rr.top
 rw [h.pr, h.sn]
 split <;> omega
theorem sim_new (n : Nat) : Sim (newSy n) (newRs n) := by
 refine ⟨by simp [newSy, newRs], rfl, fun i hi => ?_⟩
 have e1 : (newSy n).rep i = noRp := newSy_rep' n i hi
 have e2 : (newRs n).rep i = noRr := by unfold newRs Qs.rep; exact getD_rep _ _ _
 rw [e1, e2]
 have hat : ∀ k, noRr.at k = noSl := fun k => getD_rep _ _ _
 refine ⟨rfl, rfl, rfl, fun k _ => ?_, rfl, rfl, rfl, rfl, fun k => ?_⟩
 ·rw [hat]
  have h1 : noRp.acc.getD k noVt = noVt := getD_rep _ _ _
  have h2 : noRp.dec.getD k noDn = noDn := getD_rep _ _ _
  rw [h1, h2]
  exact ⟨rfl, rfl, fun h => absurd h (by decide), rfl, rfl, fun _ => rfl⟩
 ·rw [hat]; exact ⟨rfl, rfl, rfl, rfl, rfl⟩
 where
 newSy_rep' (n i : Nat) (h : i < n) : (newSy n).rep i = noRp := by unfold newSy Sy.rep; exact getD_rep _ _ _
section
variable {s : Sy} {x : Qs}
theorem Sim.campE (h : Sim s x) {i : Nat} (hi : i < s.n) : x.campE i = s.campE i := by
 unfold Qs.campE Sy.campE Rp.round
 rw [sim_top (h.rep i hi), h.net, h.n]
 by_cases h1 : 1000 < max (s.rep i).pr (s.rep i).sn / 8 + 1
 ·rw [if_pos h1, if_pos h1]
 ·rw [if_neg h1, if_neg h1]
  by_cases h2 : 200 < (s.net.length : Int) + s.n
  ·rw [if_pos h2, if_neg (by omega)]
  ·rw [if_neg h2, if_pos (by omega)]
theorem Sim.campaign (h : Sim s x) (hok : s.ok) {i : Nat} (hi : i < s.n) : Sim (s.campaign i) (x.campaign i) := by
 unfold Sy.campaign Qs.campaign
 rw [h.campE hi]
 split
 ·have hr := h.rep i hi
  have ht : 8 * ((x.rep i).top / 8 + 1) + (i : Int) = 8 * (s.rep i).round + i := by rw [sim_top hr]; rfl
  rw [ht]
  refine (h.put hok.len hi ?_).all _ i
  refine ⟨rfl, hr.sn, by show ((x.rep i).sl.map Sl.clear).length = 16; rw [List.length_map]; exact hr.len, fun k hk => ?_, rfl, rfl, rfl, rfl, fun k => ?_⟩
  ·rw [at_prep]; exact (hr.slot k hk).clear
  ·rw [at_prep, getD_rep]
   exact ⟨rfl, rfl, rfl, rfl, Int.le_refl _, fun _ => rfl, rfl⟩
 ·exact h
theorem sim_idle {p : Rp} {r : Rr} (h : SimR p r) (sn : Int) : SimR ⟨p.pr, sn, p.acc, p.dec, .idle⟩ ⟨r.pr, sn, 0, 0, 0, no7, r.sl.map Sl.clear⟩ := by
 have hat : ∀ k, (⟨r.pr, sn, 0, 0, 0, no7, r.sl.map Sl.clear⟩ : Rr).at k = (r.at k).clear := fun k => by
  unfold Rr.at
  simp only [List.getD_eq_getElem?_getD, List.getElem?_map]
  cases r.sl[k]? <;> rfl
 refine ⟨h.pr, rfl, by show (r.sl.map Sl.clear).length = 16; rw [List.length_map]; exact h.len, fun k hk => ?_, rfl, rfl, rfl, rfl, fun k => ?_⟩
 ·rw [hat]; exact (h.slot k hk).clear
 ·rw [hat]; exact ⟨rfl, rfl, rfl, rfl, rfl⟩
theorem Sim.crash (h : Sim s x) (hok : s.ok) {i : Nat} (hi : i < s.n) : Sim (s.crash i) (x.crash i) :=
 h.put hok.len hi (sim_idle (h.rep i hi) 0)
theorem SimL.same {dm : Nat → Bool} {l : Rl} {r : Rr} (h : SimL dm l r) (pr sn : Int) : SimL dm l ⟨pr, sn, r.ro, r.ba, r.nx, r.fr, r.sl⟩ := by
 cases l <;> exact h
theorem sim_yield {p : Rp} {r : Rr} (h : SimR p r) {b : Int} (b0 : 0 ≤ b) : SimR (p.yield b) (r.yields b) := by
 have hro : r.ro ≠ 0 → r.ba = p.rl.bal := by
  have := h.role
  cases hrl : p.rl with
  | idle => rw [hrl] at this; intro h0; exact absurd this.1 h0
  | prep b' t k => rw [hrl] at this; intro _; exact this.2.1
  | lead b' n ps => rw [hrl] at this; intro _; exact this.2.1
 have hsn : (if r.sn < b then b else r.sn) = max p.sn b := by rw [h.sn]; split <;> omega
 unfold Rr.yields
 by_cases hc : r.ro ≠ 0 ∧ r.ba < b
 ·simp only [if_pos hc]
  have hb : p.rl.bal < b := by rw [← hro hc.1]; exact hc.2
  have e : p.yield b = ⟨p.pr, max p.sn b, p.acc, p.dec, .idle⟩ := by unfold Rp.yield; rw [if_pos hb]
  rw [e]
  have e2 : (if r.idle.sn < b then b else r.idle.sn) = max p.sn b := hsn
  rw [e2]
  exact sim_idle h _
 ·simp only [if_neg hc, hsn]
  by_cases hb : p.rl.bal < b
  · -- it is idle already
   have hz : r.ro = 0 := by
    apply Classical.byContradiction
    intro h0
    exact hc ⟨h0, by rw [hro h0]; exact hb⟩
   have hid : p.rl = .idle := by
    have := h.role
    cases hrl : p.rl with
    | idle => rfl
    | prep b' t k => rw [hrl] at this; rw [this.1] at hz; exact absurd hz (by decide)
    | lead b' n ps => rw [hrl] at this; rw [this.1] at hz; exact absurd hz (by decide)
   have e : p.yield b = ⟨p.pr, max p.sn b, p.acc, p.dec, .idle⟩ := by unfold Rp.yield; rw [if_pos hb]
   rw [e]
   have hrole := h.role
   rw [hid] at hrole
   exact ⟨h.pr, rfl, h.len, h.slot, hrole⟩
  ·have e : p.yield b = ⟨p.pr, max p.sn b, p.acc, p.dec, p.rl⟩ := by unfold Rp.yield; rw [if_neg hb]
   rw [e]
   exact ⟨h.pr, rfl, h.len, h.slot, h.role.same _ _⟩
theorem sim_promise {p : Rp} {r : Rr} (h : SimR p r) (b : Int) : SimR (p.promise b) (r.promise b) := ⟨rfl, h.sn, h.len, h.slot, h.role.same _ _⟩
/-- A slot is turned: what the role says of it goes on. -/
theorem sim_accept {p : Rp} {r : Rr} (h : SimR p r) (hok : p.ok) {k : Nat} (hk : k < 16) {b : Int} {v : Pst} : SimR (p.accept k ⟨(k : Int), b, v⟩) (r.setAt k ((r.at k).accept b v)) := by
 have hat := at_set h.len hk ((r.at k).accept b v)
 have hrl : SimL p.dm p.rl (r.setAt k ((r.at k).accept b v)) := by
  have := h.role
  cases hrl : p.rl with
  | idle =>
   rw [hrl] at this
   refine ⟨this.1, this.2.1, this.2.2.1, this.2.2.2.1, fun q => ?_⟩
   rw [hat]; split
   ·rename_i e; have := this.2.2.2.2 k; exact this
   ·exact this.2.2.2.2 q
  | prep b' t kp =>
   rw [hrl] at this
   refine ⟨this.1, this.2.1, this.2.2.1, this.2.2.2.1, fun q => ?_⟩
   rw [hat]; split
   ·rename_i e; subst e; exact this.2.2.2.2 q
   ·exact this.2.2.2.2 q
  | lead b' n ps =>
   rw [hrl] at this
   refine ⟨this.1, this.2.1, this.2.2.1, fun q => ?_⟩
   rw [hat]; split
   ·rename_i e; subst e; exact this.2.2.2 q
   ·exact this.2.2.2 q
 refine ⟨h.pr, h.sn, by show (r.sl.set k _).length = 16; rw [List.length_set]; exact h.len, fun q hq => ?_, hrl⟩
 rw [hat]
 have hs := h.slot q hq
 have ha := hok.acc
 show SimS ((p.acc.set k ⟨(k : Int), b, v⟩).getD q noVt) _ _ _
 rw [getD_set]
 by_cases e : q = k
 ·subst e
  rw [if_pos rfl, if_pos ⟨rfl, by omega⟩]
  exact ⟨rfl, rfl, fun _ => rfl, hs.2.2.2⟩
 ·rw [if_neg e, if_neg (fun h => e h.1)]
  exact hs
theorem sim_decide {p : Rp} {r : Rr} (h : SimR p r) (hok : p.ok) {k : Nat} (hk : k < 16) (v : Pst) : SimR (p.decide k v) (r.setAt k ((r.at k).final v)) := by
 have hat := at_set h.len hk ((r.at k).final v)
 have hdm : ∀ q, (p.decide k v).dm q = false → p.dm q = false := fun q hq => by
  unfold Rp.dm Rp.decide at hq
  simp only at hq
  rw [getD_set] at hq
  split at hq
  ·cases hq
  ·exact hq
 have hrl : SimL (p.decide k v).dm p.rl (r.setAt k ((r.at k).final v)) := by
  have := h.role
  cases hrl : p.rl with
  | idle =>
   rw [hrl] at this
   refine ⟨this.1, this.2.1, this.2.2.1, this.2.2.2.1, fun q => ?_⟩
   rw [hat]; split
   ·rename_i e; have := this.2.2.2.2 k; exact this
   ·exact this.2.2.2.2 q
  | prep b' t kp =>
   rw [hrl] at this
   refine ⟨this.1, this.2.1, this.2.2.1, this.2.2.2.1, fun q => ?_⟩
   rw [hat]; split
   ·rename_i e; subst e; exact this.2.2.2.2 q
   ·exact this.2.2.2.2 q
  | lead b' n ps =>
   rw [hrl] at this
   refine ⟨this.1, this.2.1, this.2.2.1, fun q => ?_⟩
   obtain ⟨h1, h2, h3, h4⟩ := this.2.2.2 q
   rw [hat]; split
   ·rename_i e; subst e; exact ⟨h1, h2, h3, fun hd => h4 (hdm q hd)⟩
   ·exact ⟨h1, h2, h3, fun hd => h4 (hdm q hd)⟩
 refine ⟨h.pr, h.sn, by show (r.sl.set k _).length = 16; rw [List.length_set]; exact h.len, fun q hq => ?_, hrl⟩
 rw [hat]
 have hs := h.slot q hq
 have ha := hok.dec
 show SimS _ ((p.dec.set k ⟨true, v⟩).getD q noDn) _ _
 rw [getD_set]
 by_cases e : q = k
 ·subst e
  rw [if_pos rfl, if_pos ⟨rfl, by omega⟩]
  exact ⟨hs.1, hs.2.1, hs.2.2.1, rfl, rfl, fun h => by cases h⟩
 ·rw [if_neg e, if_neg (fun h => e h.1)]
  exact hs
theorem sim_votes {p : Rp} {r : Rr} (h : SimR p r) (hok : p.ok) : votesR r.sl 16 = voted p.acc := by
 have : ∀ k, k ≤ 16 → votesR r.sl k = voted (p.acc.take k) := by
  intro k
  induction k with
  | zero => intro _; rfl
  | succ k ih =>
   intro hk
   have ha := hok.acc
   have hs := h.slot k (by omega)
   have hka : k < p.acc.length := by omega
   have e : p.acc.getD k noVt = p.acc[k] := by rw [List.getD_eq_getElem?_getD, List.getElem?_eq_getElem hka]; rfl
   rw [e] at hs
   unfold votesR
   rw [ih (by omega), List.take_add_one, List.getElem?_eq_getElem hka]
   unfold voted
   rw [List.filter_append]
   congr 1
   have h1 : (r.sl.getD k noSl).b = p.acc[k].b := hs.1
   have h2 : (r.sl.getD k noSl).v = p.acc[k].p := hs.2.1
   rw [h1, h2]
   by_cases hb : 0 < p.acc[k].b
   ·rw [if_pos hb]
    have h3 := hs.2.2.1 hb
    simp [hb]
    rw [← h3]
   ·rw [if_neg hb]
    simp [hb]
 rw [this 16 (Nat.le_refl _), List.take_of_length_le (by rw [hok.acc]; exact Nat.le_refl _)]
end
end Go.Proofs.YtnnhnekfokbooaaGreatDoor

namespace Go.Proofs.YtnnhnekfokbooaaGreatDoor
set_option linter.unusedSimpArgs false
set_option linter.unusedVariables false

section
variable {s : Sy} {x : Qs}
theorem any_at {α : Type} (l : List α) (d : α) (f : α → Bool) : l.any f = true ↔ ∃ k, k < l.length ∧ f (l.getD k d) = true := by
 rw [List.any_eq_true]
 constructor
 ·rintro ⟨y, hy, hf⟩
  obtain ⟨k, hk, rfl⟩ := List.getElem_of_mem hy
  exact ⟨k, hk, by rw [List.getD_eq_getElem?_getD, List.getElem?_eq_getElem hk]; exact hf⟩
 ·rintro ⟨k, hk, hf⟩
  rw [List.getD_eq_getElem?_getD, List.getElem?_eq_getElem hk] at hf
  exact ⟨_, List.getElem_mem hk, hf⟩
theorem not_same0 {p : Pst} (hp : rightPostB p = true) : sameB noPst p = false := by
 unfold rightPostB withinB at hp
 unfold sameB noPst
 simp at hp ⊢
 omega
theorem sim_known {p : Rp} {r : Rr} (h : SimR p r) (hok : p.ok) {b : Int} {next : Nat} {ps : List Pp} (hrl : p.rl = .lead b next ps) {v : Pst} (hv : rightPostB v = true) : r.sl.any (fun y => y.known v) = (p.dec.any (fun d => sameB d.p v) || ps.any (fun y => sameB y.p v)) := by
 have hz := not_same0 hv
 have hro := h.role
 rw [hrl] at hro
 have ho := hok.rl
 rw [hrl] at ho
 have hd := hok.dec
 rw [Bool.eq_iff_iff, Bool.or_eq_true, any_at _ noSl, any_at _ noDn, any_at _ noPp, h.len, hd, ho.2.1]
 constructor
 ·rintro ⟨k, hk, hf⟩
  have hs := h.slot k hk
  obtain ⟨h1, h2, h3, h4⟩ := hro.2.2.2 k
  have hf' : (r.at k).known v = true := hf
  unfold Sl.known at hf'
  rw [Bool.or_eq_true, Bool.and_eq_true, Bool.and_eq_true] at hf'
  rcases hf' with ⟨g1, g2⟩ | ⟨g1, g2⟩
  ·left
   exact ⟨k, hk, by rw [← hs.2.2.2.2.1]; exact g2⟩
  ·right
   exact ⟨k, hk, by rw [← h2 g1]; exact g2⟩
 ·intro hor
  rcases hor with ⟨k, hk, hf⟩ | ⟨k, hk, hf⟩
  ·refine ⟨k, hk, ?_⟩
   have hs := h.slot k hk
   show (r.at k).known v = true
   unfold Sl.known
   rw [Bool.or_eq_true, Bool.and_eq_true, Bool.and_eq_true]
   left
   refine ⟨?_, by rw [hs.2.2.2.2.1]; exact hf⟩
   rw [hs.2.2.2.1]
   cases hm : (p.dec.getD k noDn).m with
   | true => rfl
   | false => rw [hs.2.2.2.2.2 hm, hz] at hf; cases hf
  ·refine ⟨k, hk, ?_⟩
   obtain ⟨h1, h2, h3, h4⟩ := hro.2.2.2 k
   show (r.at k).known v = true
   unfold Sl.known
   rw [Bool.or_eq_true, Bool.and_eq_true, Bool.and_eq_true]
   right
   cases hm : (r.at k).mine with
   | false => rw [h3 hm, hz] at hf; cases hf
   | true => exact ⟨rfl, by rw [h2 hm]; exact hf⟩
theorem Sim.subE (h : Sim s x) (hok : s.ok) {i : Nat} (hi : i < s.n) {v : Pst} (hv : rightPostB v = true) : x.subE i v = s.subE i v := by
 have hr := h.rep i hi
 have hro := hr.role
 unfold Qs.subE Sy.subE
 cases hrl : (s.rep i).rl with
 | idle => rw [hrl] at hro; rw [if_pos (by rw [hro.1]; decide)]
 | prep b t k => rw [hrl] at hro; rw [if_pos (by rw [hro.1]; decide)]
 | lead b next ps =>
  rw [hrl] at hro
  rw [if_neg (by rw [hro.1]; decide), sim_known hr (hok.repOk hi) hrl hv, hro.2.2.1, h.net, h.n]
  dsimp only
  split
  ·rfl
  ·by_cases h16 : next = 16
   ·rw [if_pos (by omega), if_pos h16]
   ·rw [if_neg (by omega), if_neg h16]
    by_cases h2 : 200 < (s.net.length : Int) + s.n
    ·rw [if_pos h2, if_neg (by omega)]
    ·rw [if_neg h2, if_pos (by omega)]
theorem Sim.submit (h : Sim s x) (hok : s.ok) {i : Nat} (hi : i < s.n) {v : Pst} (hv : rightPostB v = true) : Sim (s.submit i v) (x.submit i v) := by
 by_cases hE : s.subE i v = 0
 ·obtain ⟨b, next, ps, hrl, hn16⟩ := subE_lead hE
  have hr := h.rep i hi
  have hro := hr.role
  rw [hrl] at hro
  have ho := (hok.repOk hi).rl
  rw [hrl] at ho
  have hn : next < 16 := by have := ho.1; omega
  have hnx : (x.rep i).nx.toNat = next := by rw [hro.2.2.1]; simp
  have hnext : (s.rep i).next = next := by unfold Rp.next; rw [hrl]
  unfold Qs.submit Sy.submit
  rw [h.subE hok hi hv, if_pos hE, if_pos hE, hnx, hro.2.1, hro.2.2.1, hnext]
  have hprop : s.propose i next v = (s.put i ((s.rep i).role (.lead b next (ps.set next ⟨v, (ps.getD next noPp).t⟩)))).sendTo (msg 3 b (next : Int) v []) i s.all := by
   unfold Sy.propose; rw [hrl]
  have hpr := propose_rep hok hi hrl next v
  have hfin : (s.propose i next v).put i ((s.propose i next v).rep i).bump = (s.put i ((s.rep i).role (.lead b (next + 1) (ps.set next ⟨v, (ps.getD next noPp).t⟩)))).sendTo (msg 3 b (next : Int) v []) i s.all := by
   rw [hpr, hprop, put_sendTo]
   have hb : ((s.rep i).role (.lead b next (ps.set next ⟨v, (ps.getD next noPp).t⟩))).bump = (s.rep i).role (.lead b (next + 1) (ps.set next ⟨v, (ps.getD next noPp).t⟩)) := rfl
   rw [hb]
   congr 1
   unfold Sy.put
   simp only [List.set_set]
  rw [hfin]
  have hall : (s.put i ((s.rep i).role (.lead b (next + 1) (ps.set next ⟨v, (ps.getD next noPp).t⟩)))).all = s.all := rfl
  rw [← hall]
  refine (h.put hok.len hi ?_).all _ i
  have hat := at_set (r := (x.rep i).next ((next : Int) + 1)) hr.len hn (((x.rep i).at next).propose v)
  have hat0 : ∀ q, ((x.rep i).next ((next : Int) + 1)).at q = (x.rep i).at q := fun _ => rfl
  refine ⟨hr.pr, hr.sn, by show ((x.rep i).sl.set _ _).length = 16; rw [List.length_set]; exact hr.len, fun k hk => ?_, hro.1, hro.2.1, by show (next : Int) + 1 = ((next + 1 : Nat) : Int); omega, fun k => ?_⟩
  ·rw [hat]
   have hs := hr.slot k hk
   split
   ·rename_i e; subst e; exact hs
   ·exact hs
  ·rw [hat, getD_set]
   obtain ⟨h1, h2, h3, h4⟩ := hro.2.2.2 k
   by_cases e : k = next
   ·subst e
    rw [if_pos rfl, if_pos ⟨rfl, by rw [ho.2.1]; exact hn⟩]
    exact ⟨h1, fun _ => rfl, fun hm => absurd hm (by show ¬ true = false; decide), fun _ => rfl⟩
   ·rw [if_neg e, if_neg (fun h => e h.1)]
    exact ⟨h1, h2, h3, h4⟩
 ·have e1 : s.submit i v = s := if_neg hE
  have e2 : x.submit i v = x := if_neg (by rw [h.subE hok hi hv]; exact hE)
  rw [e1, e2]; exact h
 where
 put_sendTo {s : Sy} {i f : Nat} {r r' : Rp} {m : Ms} {l : List Nat} : ((s.put i r).sendTo m f l).put i r' = ((s.put i r).put i r').sendTo m f l := by
  have : ∀ (l : List Nat) (s : Sy), (s.sendTo m f l).put i r' = (s.put i r').sendTo m f l := by
   intro l
   induction l with
   | nil => intro s; rfl
   | cons t l ih => intro s; exact ih _
  exact this l _

/-! A Promise comes. -/
theorem keep_sim : ∀ (a : List Vt), (∀ v ∈ a, 0 ≤ v.s ∧ v.s < 16) → ∀ {r : Rr} {kept : List Vt}, r.sl.length = 16 → kept.length = 16 → (∀ k, ((r.at k).has = decide ((r.at k).kb ≠ 0)) ∧ (r.at k).mine = false ∧ (r.at k).kept = (kept.getD k noVt).p ∧ (r.at k).kb = (kept.getD k noVt).b ∧ 0 ≤ (r.at k).kb ∧ ((r.at k).kb = 0 → (r.at k).kept = noPst) ∧ (r.at k).vo = no7) →
  (r.keepAll a).sl.length = 16 ∧ (∀ k, (((r.keepAll a).at k).has = decide (((r.keepAll a).at k).kb ≠ 0)) ∧ ((r.keepAll a).at k).mine = false ∧ ((r.keepAll a).at k).kept = ((keepAll kept a).getD k noVt).p ∧ ((r.keepAll a).at k).kb = ((keepAll kept a).getD k noVt).b ∧ 0 ≤ ((r.keepAll a).at k).kb ∧ (((r.keepAll a).at k).kb = 0 → ((r.keepAll a).at k).kept = noPst) ∧ ((r.keepAll a).at k).vo = no7) ∧
  (∀ k, ((r.keepAll a).at k).b = (r.at k).b ∧ ((r.keepAll a).at k).v = (r.at k).v ∧ ((r.keepAll a).at k).is = (r.at k).is ∧ ((r.keepAll a).at k).fin = (r.at k).fin) ∧ (r.keepAll a).pr = r.pr ∧ (r.keepAll a).sn = r.sn ∧ (r.keepAll a).ro = r.ro ∧ (r.keepAll a).ba = r.ba ∧ (r.keepAll a).nx = r.nx ∧ (r.keepAll a).fr = r.fr
 | [], _, r, kept, hl, _, h => ⟨hl, h, fun _ => ⟨rfl, rfl, rfl, rfl⟩, rfl, rfl, rfl, rfl, rfl, rfl⟩
 | v :: a, hv, r, kept, hl, hk, h => by
  have hvs := hv v List.mem_cons_self
  have hk16 : v.s.toNat < 16 := by omega
  have hat := at_set hl hk16 ((r.at v.s.toNat).keep v)
  have hl1 : (r.setAt v.s.toNat ((r.at v.s.toNat).keep v)).sl.length = 16 := by show (r.sl.set _ _).length = 16; rw [List.length_set]; exact hl
  obtain ⟨h1, h2, h3, h4, h5, h6, h7⟩ := h v.s.toNat
  have hkb : (kept.getD v.s.toNat ⟨0, 0, ⟨0, 0, 0, ⟨#[]⟩⟩⟩) = kept.getD v.s.toNat noVt := rfl
  have hstep : ∀ k, (((r.setAt v.s.toNat ((r.at v.s.toNat).keep v)).at k).has = decide (((r.setAt v.s.toNat ((r.at v.s.toNat).keep v)).at k).kb ≠ 0)) ∧ ((r.setAt v.s.toNat ((r.at v.s.toNat).keep v)).at k).mine = false ∧ ((r.setAt v.s.toNat ((r.at v.s.toNat).keep v)).at k).kept = ((keep1 kept v).getD k noVt).p ∧ ((r.setAt v.s.toNat ((r.at v.s.toNat).keep v)).at k).kb = ((keep1 kept v).getD k noVt).b ∧ 0 ≤ ((r.setAt v.s.toNat ((r.at v.s.toNat).keep v)).at k).kb ∧ (((r.setAt v.s.toNat ((r.at v.s.toNat).keep v)).at k).kb = 0 → ((r.setAt v.s.toNat ((r.at v.s.toNat).keep v)).at k).kept = noPst) ∧ ((r.setAt v.s.toNat ((r.at v.s.toNat).keep v)).at k).vo = no7 := by
   intro k
   rw [hat]
   unfold keep1
   rw [hkb, ← h4]
   by_cases hb : (r.at v.s.toNat).kb < v.b
   ·rw [if_pos hb, getD_set]
    by_cases e : k = v.s.toNat
    ·rw [if_pos e, if_pos ⟨e, by omega⟩]
     unfold Sl.keep
     rw [if_pos hb]
     refine ⟨?_, h2, rfl, rfl, by show 0 ≤ v.b; omega, fun h0 => ?_, h7⟩
     ·show true = decide (v.b ≠ 0)
      rw [decide_eq_true (by omega)]
     ·have h0' : v.b = 0 := h0
      omega
    ·rw [if_neg e, if_neg (fun h => e h.1)]; exact h k
   ·rw [if_neg hb]
    have e9 : (r.at v.s.toNat).keep v = r.at v.s.toNat := by unfold Sl.keep; rw [if_neg hb]
    rw [e9]
    split
    ·rename_i e; rw [e]; exact ⟨h1, h2, h3, h4, h5, h6, h7⟩
    ·exact h k
  obtain ⟨g1, g2, g3, g4⟩ := keep_sim a (fun w hw => hv w (List.mem_cons_of_mem _ hw)) (r := r.setAt v.s.toNat ((r.at v.s.toNat).keep v)) (kept := keep1 kept v) hl1 (by rw [keep1_length]; exact hk) hstep
  refine ⟨g1, g2, fun k => ?_, g4⟩
  obtain ⟨c1, c2, c3, c4⟩ := g3 k
  have hsame : ((r.setAt v.s.toNat ((r.at v.s.toNat).keep v)).at k).b = (r.at k).b ∧ ((r.setAt v.s.toNat ((r.at v.s.toNat).keep v)).at k).v = (r.at k).v ∧ ((r.setAt v.s.toNat ((r.at v.s.toNat).keep v)).at k).is = (r.at k).is ∧ ((r.setAt v.s.toNat ((r.at v.s.toNat).keep v)).at k).fin = (r.at k).fin := by
   rw [hat]
   split
   ·rename_i e
    rw [e]
    unfold Sl.keep
    split <;> exact ⟨rfl, rfl, rfl, rfl⟩
   ·exact ⟨rfl, rfl, rfl, rfl⟩
  exact ⟨c1.trans hsame.1, c2.trans hsame.2.1, c3.trans hsame.2.2.1, c4.trans hsame.2.2.2⟩
theorem next_sim {p : Rp} {r : Rr} (h : SimR p r) {b : Int} {t : Tl} {kept : List Vt} (hrl : p.rl = .prep b t kept) : ∀ k, k ≤ 16 → nextR r.at k = nextB p.dm (fun k => (kept.getD k noVt).b) k
 | 0, _ => rfl
 | k + 1, hk => by
  have hro := h.role
  rw [hrl] at hro
  obtain ⟨h1, h2, h3, h4, h5, h6, h7⟩ := hro.2.2.2.2 k
  have hs := h.slot k (by omega)
  have ih := next_sim h hrl k (by omega)
  unfold nextR nextB
  have e1 : (r.at k).is = p.dm k := hs.2.2.2.1
  rw [e1, h1, h4, ih]
  cases p.dm k with
  | true => simp
  | false =>
   by_cases h0 : (kept.getD k noVt).b = 0
   ·simp [h0]
   ·simp [h0]
/-- A lead under way: the first k slots are proposed. -/
structure SimK (b : Int) (next k : Nat) (p : Rp) (r : Rr) (ps : List Pp) (kept : List Vt) : Prop where
 pr : r.pr = p.pr
 sn : r.sn = p.sn
 len : r.sl.length = 16
 slot : ∀ q, q < 16 → SimS (p.acc.getD q noVt) (p.dec.getD q noDn) q (r.at q)
 role : p.rl = .lead b next ps
 pl : ps.length = 16
 ro : r.ro = 2 ∧ r.ba = b ∧ r.nx = (next : Int)
 all : ∀ q, (r.at q).vo = (ps.getD q noPp).t.v ∧ (ps.getD q noPp).t.v = no7 ∧ ((r.at q).mine = true → (r.at q).kept = (ps.getD q noPp).p) ∧ ((r.at q).mine = false → (ps.getD q noPp).p = noPst) ∧ (q < k → p.dm q = false → (r.at q).kept = (ps.getD q noPp).p)
 rest : ∀ q, k ≤ q → (r.at q).mine = false ∧ (r.at q).kept = (kept.getD q noVt).p
theorem lead_sim {b : Int} {next : Nat} {kept : List Vt} {i : Nat} : ∀ (k : Nat), k ≤ 16 → ∀ {s : Sy} {x : Qs}, s.reps.length = s.n → i < s.n → x.R.length = s.n → x.net = s.net → (∀ j, j < s.n → j ≠ i → SimR (s.rep j) (x.rep j)) → (∃ ps, SimK b next 0 (s.rep i) (x.rep i) ps kept) →
  (s.leadTo i kept k).reps.length = s.n ∧ (x.leadTo i k).R.length = s.n ∧ (x.leadTo i k).net = (s.leadTo i kept k).net ∧ (∀ j, j < s.n → j ≠ i → SimR ((s.leadTo i kept k).rep j) ((x.leadTo i k).rep j)) ∧ (∃ ps, SimK b next k ((s.leadTo i kept k).rep i) ((x.leadTo i k).rep i) ps kept) ∧ (s.rep i).dm = ((s.leadTo i kept k).rep i).dm
 | 0, _, s, x, h1, h2, h3, h4, h5, h6 => ⟨h1, h3, h4, h5, h6, rfl⟩
 | k + 1, hk, s, x, h1, h2, h3, h4, h5, h6 => by
  obtain ⟨g1, g2, g3, g4, ⟨ps, g5⟩, g6⟩ := lead_sim k (by omega) h1 h2 h3 h4 h5 h6
  have hn := leadTo_n s i kept k
  unfold Sy.leadTo Qs.leadTo
  generalize hz : s.leadTo i kept k = z at *
  generalize hy : x.leadTo i k = y at *
  have hdm : ((y.rep i).at k).is = (s.rep i).dm k := by
   have := (g5.slot k (by omega)).2.2.2.1
   rw [this, g6]; rfl
  dsimp only
  rw [hdm]
  split
  ·rename_i hd
   refine ⟨g1, g2, g3, g4, ⟨ps, g5.pr, g5.sn, g5.len, g5.slot, g5.role, g5.pl, g5.ro, fun q => ?_, fun q hq => g5.rest q (by omega)⟩, g6⟩
   obtain ⟨c1, c2, c3, c4, c5⟩ := g5.all q
   refine ⟨c1, c2, c3, c4, fun hq hdq => ?_⟩
   by_cases e : q = k
   ·rw [e, ← g6, hd] at hdq; cases hdq
   ·exact c5 (by omega) hdq
  ·rename_i hd
   have hd' : (s.rep i).dm k = false := by simpa using hd
   have hzi : i < z.n := by rw [hn]; exact h2
   have hkept := (g5.rest k (Nat.le_refl _)).2
   have hat := at_set g5.len (show k < 16 by omega) ((y.rep i).at k).claim
   have hprop : z.propose i k (kept.getD k noVt).p = (z.put i ((z.rep i).role (.lead b next (ps.set k ⟨(kept.getD k noVt).p, (ps.getD k noPp).t⟩)))).sendTo (msg 3 b (k : Int) (kept.getD k noVt).p []) i z.all := by
    unfold Sy.propose; rw [g5.role]
   rw [hprop, hkept, g5.ro.2.1]
   have hrz : ∀ j, (z.put i ((z.rep i).role (.lead b next (ps.set k ⟨(kept.getD k noVt).p, (ps.getD k noPp).t⟩)))).rep j = if j = i then (z.rep i).role (.lead b next (ps.set k ⟨(kept.getD k noVt).p, (ps.getD k noPp).t⟩)) else z.rep j := rep_put' (by rw [hn]; exact g1) hzi _
   have hry : ∀ j, (y.put i ((y.rep i).setAt k ((y.rep i).at k).claim)).rep j = if j = i then (y.rep i).setAt k ((y.rep i).at k).claim else y.rep j := Qs.rep_put (by rw [g2]; exact h2) _
   have hnet := sendTo_net_eq (msg 3 b (k : Int) (kept.getD k noVt).p []) i (List.range s.n) (s := z.put i ((z.rep i).role (.lead b next (ps.set k ⟨(kept.getD k noVt).p, (ps.getD k noPp).t⟩)))) (x := y.put i ((y.rep i).setAt k ((y.rep i).at k).claim)) g3
   have hall1 : z.all = List.range s.n := by unfold Sy.all; rw [hn]
   have hall2 : (y.put i ((y.rep i).setAt k ((y.rep i).at k).claim)).all (msg 3 b (k : Int) (kept.getD k noVt).p []) i = (y.put i ((y.rep i).setAt k ((y.rep i).at k).claim)).sendTo (msg 3 b (k : Int) (kept.getD k noVt).p []) i (List.range s.n) := by
    unfold Qs.all
    have : (y.put i ((y.rep i).setAt k ((y.rep i).at k).claim)).R.length = s.n := by unfold Qs.put; simp only [List.length_set]; exact g2
    rw [this]
   rw [hall1, hall2]
   refine ⟨?_, ?_, hnet, fun j hj hji => ?_, ⟨ps.set k ⟨(kept.getD k noVt).p, (ps.getD k noPp).t⟩, ?_⟩, ?_⟩
   ·rw [sendTo_reps]; unfold Sy.put; simp only [List.length_set]; exact g1
   ·rw [rsendTo_R]; unfold Qs.put; simp only [List.length_set]; exact g2
   ·rw [rep_send, rrep_send, hrz, hry, if_neg hji, if_neg hji]
    exact g4 j hj hji
   ·rw [rep_send, rrep_send, hrz, hry, if_pos rfl, if_pos rfl]
    refine ⟨g5.pr, g5.sn, by show ((y.rep i).sl.set _ _).length = 16; rw [List.length_set]; exact g5.len, fun q hq => ?_, rfl, by rw [List.length_set]; exact g5.pl, g5.ro, fun q => ?_, fun q hq => ?_⟩
    ·rw [hat]
     have hs := g5.slot q hq
     split
     ·rename_i e; subst e; exact hs
     ·exact hs
    ·rw [hat, getD_set]
     obtain ⟨c1, c2, c3, c4, c5⟩ := g5.all q
     by_cases e : q = k
     ·rw [if_pos e, if_pos ⟨e, by rw [g5.pl]; omega⟩]
      rw [e] at c1 c2
      exact ⟨c1, c2, fun _ => hkept, fun hm => absurd hm (by show ¬ true = false; decide), fun _ _ => hkept⟩
     ·rw [if_neg e, if_neg (fun h => e h.1)]
      exact ⟨c1, c2, c3, c4, fun hq hdq => c5 (by omega) hdq⟩
    ·rw [hat, if_neg (by omega)]
     exact g5.rest q (by omega)
   ·rw [rep_send, hrz, if_pos rfl, g6]; rfl
 where
 rsendTo_R {m : Ms} {f : Nat} : ∀ {l : List Nat} {x : Qs}, (x.sendTo m f l).R = x.R
  | [], x => rfl
  | t :: l, x => rsendTo_R (l := l) (x := x.send _)
 rrep_send {m : Ms} {f : Nat} {l : List Nat} {x : Qs} {j : Nat} : (x.sendTo m f l).rep j = x.rep j := by unfold Qs.rep; rw [rsendTo_R]
 sendTo_net_eq (m : Ms) (f : Nat) : ∀ (l : List Nat) {s : Sy} {x : Qs}, x.net = s.net → (x.sendTo m f l).net = (s.sendTo m f l).net
  | [], s, x, h => h
  | t :: l, s, x, h => sendTo_net_eq m f l (by unfold Qs.send Sy.send1; simp only [h])
end
end Go.Proofs.YtnnhnekfokbooaaGreatDoor

namespace Go.Proofs.YtnnhnekfokbooaaGreatDoor
set_option linter.unusedSimpArgs false
set_option linter.unusedVariables false

section
variable {s : Sy} {x : Qs}
theorem Sim.promised (h : Sim s x) (hok : s.ok) {i : Nat} (hi : i < s.n) {m : Ms} (hm : m.ok s.n) : Sim (s.takePromise i m) (x.promised i m) := by
 have hr := h.rep i hi
 have hro := hr.role
 have hro0 := (hok.repOk hi).rl
 have hf7 : m.f.toNat < 7 := by have := hm.to_lt.2; have := hok.n1; omega
 unfold Qs.promised Sy.takePromise
 cases hrl : (s.rep i).rl with
 | idle =>
  rw [hrl] at hro
  dsimp only
  rw [if_pos (.inl (by rw [hro.1]; decide))]; exact h
 | lead b next ps =>
  rw [hrl] at hro
  dsimp only
  rw [if_pos (.inl (by rw [hro.1]; decide))]; exact h
 | prep b t kept =>
  rw [hrl] at hro hro0
  obtain ⟨r1, r2, r3, r4, r5⟩ := hro
  dsimp only
  have hhas : (x.rep i).fr.getD m.f.toNat false = t.has m.f.toNat := by rw [r4]; rfl
  rw [hhas, r1, r2]
  by_cases hc : b = m.b ∧ t.has m.f.toNat = false
  ·have hneg : ¬ ((1 : Int) ≠ 1 ∨ b ≠ m.b ∨ t.has m.f.toNat = true) := by
    rintro (h1 | h1 | h1)
    ·exact h1 rfl
    ·exact h1 hc.1
    ·rw [hc.2] at h1; cases h1
   rw [if_pos hc, if_neg hneg]
   have hto := Tl.add_ok hro0.1 hf7 hc.2
   obtain ⟨g1, g2, g3, g4, g5, g6, g7, g8, g9⟩ := keep_sim m.a hm.sl (r := (x.rep i).from m.f.toNat) (kept := kept) hr.len hro0.2 r5
   have hfr : (((x.rep i).from m.f.toNat).keepAll m.a).fr = (t.add m.f.toNat).v := by rw [g9]; show (x.rep i).fr.set _ true = _; rw [r4]; rfl
   have hye : yeas (((x.rep i).from m.f.toNat).keepAll m.a).fr = t.c + 1 := by rw [hfr]; exact hto.2.symm
   have hR : SimR ((s.rep i).role (.prep b (t.add m.f.toNat) (keepAll kept m.a))) (((x.rep i).from m.f.toNat).keepAll m.a) := by
    refine ⟨g4.trans hr.pr, g5.trans hr.sn, g1, fun k hk => ?_, g6.trans r1, g7.trans r2, g8.trans r3, hfr, g2⟩
    obtain ⟨c1, c2, c3, c4⟩ := g3 k
    have hs := hr.slot k hk
    have a1 : (((x.rep i).from m.f.toNat).at k) = (x.rep i).at k := rfl
    rw [a1] at c1 c2 c3 c4
    exact ⟨c1.trans hs.1, c2.trans hs.2.1, hs.2.2.1, c3.trans hs.2.2.2.1, c4.trans hs.2.2.2.2.1, hs.2.2.2.2.2⟩
   rw [hye, h.n]
   have hS1 := h.put hok.len hi hR
   split
   · -- it leads
    have hil : i < s.reps.length := by rw [hok.len]; exact hi
    have hixl : i < x.R.length := by rw [h.n]; exact hi
    unfold Qs.leads Sy.lead Sy.nextOf
    have hnx := next_sim hR rfl 16 (Nat.le_refl _)
    rw [Sy.rep_put hil]
    have e1 : (x.put i (((x.rep i).from m.f.toNat).keepAll m.a)).rep i = ((x.rep i).from m.f.toNat).keepAll m.a := by rw [Qs.rep_put hixl, if_pos rfl]
    rw [e1, hnx]
    generalize hnn : nextB ((s.rep i).role (.prep b (t.add m.f.toNat) (keepAll kept m.a))).dm (fun k => ((keepAll kept m.a).getD k noVt).b) 16 = nn at *
    have hn16 : nn ≤ 16 := by rw [← hnn]; exact nextB_le _ _ 16
    have hl1 : (s.put i ((s.rep i).role (.prep b (t.add m.f.toNat) (keepAll kept m.a)))).reps.length = s.n := by unfold Sy.put; simp only [List.length_set]; exact hok.len
    have hl2 : ((s.put i ((s.rep i).role (.prep b (t.add m.f.toNat) (keepAll kept m.a)))).put i (((s.rep i).role (.prep b (t.add m.f.toNat) (keepAll kept m.a))).role (.lead b nn (List.replicate 16 noPp)))).reps.length = s.n := by unfold Sy.put; simp only [List.length_set]; exact hok.len
    have hrep2 : ∀ j, ((s.put i ((s.rep i).role (.prep b (t.add m.f.toNat) (keepAll kept m.a)))).put i (((s.rep i).role (.prep b (t.add m.f.toNat) (keepAll kept m.a))).role (.lead b nn (List.replicate 16 noPp)))).rep j = if j = i then (s.rep i).role (.lead b nn (List.replicate 16 noPp)) else s.rep j := fun j => by
     rw [rep_put' hl1 hi]
     split
     ·rfl
     ·rename_i hj; rw [rep_put' hok.len hi, if_neg hj]
    have hxl1 : (x.put i (((x.rep i).from m.f.toNat).keepAll m.a)).R.length = s.n := by unfold Qs.put; simp only [List.length_set]; exact h.n
    have hrepx : ∀ j, ((x.put i (((x.rep i).from m.f.toNat).keepAll m.a)).put i (((x.rep i).from m.f.toNat).keepAll m.a).leads).rep j = if j = i then (((x.rep i).from m.f.toNat).keepAll m.a).leads else x.rep j := fun j => by
     rw [Qs.rep_put (by rw [hxl1]; exact hi)]
     split
     ·rfl
     ·rename_i hj; rw [Qs.rep_put hixl, if_neg hj]
    have hat9 : ∀ q, ((((x.rep i).from m.f.toNat).keepAll m.a).leads).at q = (((x.rep i).from m.f.toNat).keepAll m.a).at q := fun _ => rfl
    have hK0 : SimK b nn 0 ((s.rep i).role (.lead b nn (List.replicate 16 noPp))) ((((x.rep i).from m.f.toNat).keepAll m.a).leads) (List.replicate 16 noPp) (keepAll kept m.a) := by
     refine ⟨hR.pr, hR.sn, hR.len, hR.slot, rfl, by simp, ⟨rfl, g7.trans r2, by show (nextR _ 16 : Int) = _; rw [hnx]⟩, fun q => ?_, fun q _ => ?_⟩
     ·rw [hat9, getD_rep]
      obtain ⟨c1, c2, c3, c4, c5, c6, c7⟩ := g2 q
      exact ⟨c7, rfl, fun hm => by (rw [c2] at hm; cases hm), fun _ => rfl, fun hq => by omega⟩
     ·rw [hat9]
      obtain ⟨c1, c2, c3, c4, c5, c6, c7⟩ := g2 q
      exact ⟨c2, c3⟩
    obtain ⟨k1, k2, k3, k4, ⟨ps, k5⟩, k6⟩ := lead_sim (b := b) (next := nn) (kept := keepAll kept m.a) (i := i) nn hn16 (s := (s.put i ((s.rep i).role (.prep b (t.add m.f.toNat) (keepAll kept m.a)))).put i (((s.rep i).role (.prep b (t.add m.f.toNat) (keepAll kept m.a))).role (.lead b nn (List.replicate 16 noPp)))) (x := (x.put i (((x.rep i).from m.f.toNat).keepAll m.a)).put i (((x.rep i).from m.f.toNat).keepAll m.a).leads) hl2 hi (by unfold Qs.put; simp only [List.length_set]; exact h.n) h.net (fun j hj hji => by rw [hrep2, hrepx, if_neg hji, if_neg hji]; exact h.rep j hj) ⟨List.replicate 16 noPp, by rw [hrep2, hrepx, if_pos rfl, if_pos rfl]; exact hK0⟩
    have hnz : ((s.put i ((s.rep i).role (.prep b (t.add m.f.toNat) (keepAll kept m.a)))).put i (((s.rep i).role (.prep b (t.add m.f.toNat) (keepAll kept m.a))).role (.lead b nn (List.replicate 16 noPp)))).n = s.n := rfl
    refine ⟨by rw [leadTo_n, hnz]; exact k2, k3, fun j hj => ?_⟩
    rw [leadTo_n, hnz] at hj
    by_cases hji : j = i
    ·rw [hji]
     have hdm : ((((s.put i ((s.rep i).role (.prep b (t.add m.f.toNat) (keepAll kept m.a)))).put i (((s.rep i).role (.prep b (t.add m.f.toNat) (keepAll kept m.a))).role (.lead b nn (List.replicate 16 noPp)))).leadTo i (keepAll kept m.a) nn).rep i).dm = (s.rep i).dm := by
      rw [← k6, hrep2, if_pos rfl]; rfl
     refine ⟨k5.pr, k5.sn, k5.len, k5.slot, ?_⟩
     rw [k5.role]
     refine ⟨k5.ro.1, k5.ro.2.1, k5.ro.2.2, fun q => ?_⟩
     obtain ⟨c1, c2, c3, c4, c5⟩ := k5.all q
     refine ⟨c1, c3, c4, fun hd => ?_⟩
     by_cases hq : q < nn
     ·exact c5 hq hd
     · -- behind the last: nothing was kept
      obtain ⟨d1, d2⟩ := k5.rest q (by omega)
      rw [c4 d1, d2]
      have hz := nextB_zero ((s.rep i).role (.prep b (t.add m.f.toNat) (keepAll kept m.a))).dm (fun k => ((keepAll kept m.a).getD k noVt).b) 16
      rw [hnn] at hz
      obtain ⟨e1, e2, e3, e4, e5, e6, e7⟩ := g2 q
      by_cases hq16 : q < 16
      ·have := (hz q (by omega) hq16)
       rw [← e3]
       exact e6 (by rw [e4]; exact this)
      ·rw [List.getD_eq_getElem?_getD, List.getElem?_eq_none (by rw [keepAll_length, hro0.2]; omega)]; rfl
    ·exact k4 j hj hji
   ·exact hS1
  ·have hpos : (1 : Int) ≠ 1 ∨ b ≠ m.b ∨ t.has m.f.toNat = true := by
    by_cases hb : b = m.b
    ·right; right
     cases hh : t.has m.f.toNat with
     | false => exact absurd ⟨hb, hh⟩ hc
     | true => rfl
    ·exact .inr (.inl hb)
   rw [if_neg hc, if_pos hpos]
   exact h
 where
 nextB_zero (dm : Nat → Bool) (kb : Nat → Int) : ∀ (n : Nat) (q : Nat), nextB dm kb n ≤ q → q < n → kb q = 0
  | 0, q, _, hq => by omega
  | n + 1, q, hle, hq => by
   unfold nextB at hle
   split at hle
   ·rename_i hc
    rw [Bool.and_eq_true] at hc
    by_cases e : q = n
    ·rw [e]; simpa using hc.2
    ·exact nextB_zero dm kb n q hle (by omega)
   ·omega
theorem Sim.accepted (h : Sim s x) (hok : s.ok) {i : Nat} (hi : i < s.n) {m : Ms} (hm : m.ok s.n) : Sim (s.takeAccept i m) (x.accepted i m) := by
 have hr := h.rep i hi
 have hro := hr.role
 have hro0 := (hok.repOk hi).rl
 have hf7 : m.f.toNat < 7 := by have := hm.to_lt.2; have := hok.n1; omega
 have hk16 : m.s.toNat < 16 := by have := hm.s0; have := hm.s1; omega
 unfold Qs.accepted Sy.takeAccept
 cases hrl : (s.rep i).rl with
 | idle =>
  rw [hrl] at hro
  dsimp only
  rw [if_pos (.inl (by rw [hro.1]; decide))]; exact h
 | prep b t kept =>
  rw [hrl] at hro
  dsimp only
  rw [if_pos (.inl (by rw [hro.1]; decide))]; exact h
 | lead b next ps =>
  rw [hrl] at hro hro0
  obtain ⟨r1, r2, r3, r4⟩ := hro
  dsimp only
  obtain ⟨c1, c2, c3, c4⟩ := r4 m.s.toNat
  have his : ((x.rep i).at m.s.toNat).is = (s.rep i).dm m.s.toNat := (hr.slot _ hk16).2.2.2.1
  have hhas : ((x.rep i).at m.s.toNat).vo.getD m.f.toNat false = (ps.getD m.s.toNat noPp).t.has m.f.toNat := by rw [c1]; rfl
  rw [his, hhas, r1, r2]
  by_cases hc : b = m.b ∧ (s.rep i).dm m.s.toNat = false ∧ (ps.getD m.s.toNat noPp).t.has m.f.toNat = false
  ·have hneg : ¬ ((2 : Int) ≠ 2 ∨ b ≠ m.b ∨ (s.rep i).dm m.s.toNat = true ∨ (ps.getD m.s.toNat noPp).t.has m.f.toNat = true) := by
    rintro (h1 | h1 | h1 | h1)
    ·exact h1 rfl
    ·exact h1 hc.1
    ·rw [hc.2.1] at h1; cases h1
    ·rw [hc.2.2] at h1; cases h1
   rw [if_pos hc, if_neg hneg]
   have hkp := c4 hc.2.1
   have hpl : ps.length = 16 := hro0.2.1
   have hto := Tl.add_ok (getD_ok hro0.2.2 (k := m.s.toNat) (by omega)) hf7 hc.2.2
   have hye : yeas (((x.rep i).at m.s.toNat).vo.set m.f.toNat true) = (ps.getD m.s.toNat noPp).t.c + 1 := by rw [c1]; exact hto.2.symm
   rw [hye, h.n, hkp]
   -- the vote counted
   have hat := at_set hr.len hk16 (((x.rep i).at m.s.toNat).vote m.f.toNat)
   have hV : SimR ((s.rep i).role (.lead b next (ps.set m.s.toNat ⟨(ps.getD m.s.toNat noPp).p, (ps.getD m.s.toNat noPp).t.add m.f.toNat⟩))) ((x.rep i).setAt m.s.toNat (((x.rep i).at m.s.toNat).vote m.f.toNat)) := by
    refine ⟨hr.pr, hr.sn, by show ((x.rep i).sl.set _ _).length = 16; rw [List.length_set]; exact hr.len, fun k hk => ?_, r1, r2, r3, fun k => ?_⟩
    ·rw [hat]
     have hs := hr.slot k hk
     split
     ·rename_i e; subst e; exact hs
     ·exact hs
    ·rw [hat, getD_set]
     obtain ⟨d1, d2, d3, d4⟩ := r4 k
     by_cases e : k = m.s.toNat
     ·rw [if_pos e, if_pos ⟨e, by omega⟩]
      refine ⟨?_, c2, c3, fun _ => hkp⟩
      show ((x.rep i).at m.s.toNat).vo.set m.f.toNat true = _
      rw [c1]; rfl
     ·rw [if_neg e, if_neg (fun h => e h.1)]
      exact ⟨d1, d2, d3, d4⟩
   split
   ·have hpo : ((s.rep i).role (.lead b next (ps.set m.s.toNat ⟨(ps.getD m.s.toNat noPp).p, (ps.getD m.s.toNat noPp).t.add m.f.toNat⟩))).ok := role_ok (hok.repOk hi) ⟨hro0.1, by rw [List.length_set]; exact hpl, set_ok hro0.2.2 hto⟩
    have hD := sim_decide hV hpo hk16 (ps.getD m.s.toNat noPp).p
    have e9 : ((x.rep i).setAt m.s.toNat (((x.rep i).at m.s.toNat).vote m.f.toNat)).setAt m.s.toNat ((((x.rep i).setAt m.s.toNat (((x.rep i).at m.s.toNat).vote m.f.toNat)).at m.s.toNat).final (ps.getD m.s.toNat noPp).p) = (x.rep i).setAt m.s.toNat ((((x.rep i).at m.s.toNat).vote m.f.toNat).final (ps.getD m.s.toNat noPp).p) := by
     rw [hat, if_pos rfl]
     unfold Rr.setAt
     simp only [List.set_set]
    rw [e9] at hD
    exact (h.put hok.len hi hD).sendTo _ i _
   ·exact h.put hok.len hi hV
  ·have hpos : (2 : Int) ≠ 2 ∨ b ≠ m.b ∨ (s.rep i).dm m.s.toNat = true ∨ (ps.getD m.s.toNat noPp).t.has m.f.toNat = true := by
    by_cases hb : b = m.b
    ·right; right
     cases hd : (s.rep i).dm m.s.toNat with
     | true => exact .inl rfl
     | false =>
      right
      cases hh : (ps.getD m.s.toNat noPp).t.has m.f.toNat with
      | false => exact absurd ⟨hb, hd, hh⟩ hc
      | true => rfl
    ·exact .inr (.inl hb)
   rw [if_neg hc, if_pos hpos]
   exact h
theorem Sim.comes (h : Sim s x) (hok : s.ok) {i : Nat} (hi : i < s.n) {m : Ms} (hm : m.ok s.n) : Sim (s.receive i m) (x.comes i m) := by
 have hr := h.rep i hi
 have hp := hok.repOk hi
 have hf : m.f = ((m.f.toNat : Nat) : Int) := by have := hm.f0; omega
 have hs : m.s = ((m.s.toNat : Nat) : Int) := by have := hm.s0; omega
 have hk16 : m.s.toNat < 16 := by have := hm.s0; have := hm.s1; omega
 have hk1 := hm.k1
 have hk0 := hm.k0
 have hy := sim_promise (sim_yield hr hm.b0) m.b
 have hyok := promise_ok (yield_ok hp hm.b0 hm.b1) hm.b0 hm.b1
 unfold Qs.comes Sy.receive
 dsimp only
 by_cases e1 : m.k = 1
 ·have c13 : m.k = 1 ∨ m.k = 3 := .inl e1
  rw [if_pos c13, if_pos e1]
  unfold Sy.takePrepare Sy.obey
  rw [hr.pr]
  split
  ·have := h.send ((msg 6 (s.rep i).pr 0 noPst []).to (i : Int) (m.f.toNat : Int))
   rw [← hf] at this
   have e : s.sendTo (msg 6 (s.rep i).pr 0 noPst []) i [m.f.toNat] = s.send1 ((msg 6 (s.rep i).pr 0 noPst []).to (i : Int) ((m.f.toNat : Nat) : Int)) := rfl
   rw [e, ← hf]; exact this
  ·have hv : votesR (((x.rep i).yields m.b).promise m.b).sl 16 = voted (s.rep i).acc := (sim_votes hy hyok).trans rfl
   rw [hv]
   have := (h.put hok.len hi hy).send ((msg 2 m.b 0 noPst (voted (s.rep i).acc)).to (i : Int) m.f)
   have e : ∀ z : Sy, z.sendTo (msg 2 m.b 0 noPst (voted (s.rep i).acc)) i [m.f.toNat] = z.send1 ((msg 2 m.b 0 noPst (voted (s.rep i).acc)).to (i : Int) ((m.f.toNat : Nat) : Int)) := fun _ => rfl
   rw [e, ← hf]; exact this
 ·by_cases e3 : m.k = 3
  ·have c13 : m.k = 1 ∨ m.k = 3 := .inr e3
   have c2 : ¬ m.k = 2 := by omega
   rw [if_pos c13, if_neg e1, if_neg c2, if_pos e3]
   unfold Sy.takePropose Sy.obey
   rw [hr.pr]
   split
   ·have := h.send ((msg 6 (s.rep i).pr 0 noPst []).to (i : Int) m.f)
    have e : s.sendTo (msg 6 (s.rep i).pr 0 noPst []) i [m.f.toNat] = s.send1 ((msg 6 (s.rep i).pr 0 noPst []).to (i : Int) ((m.f.toNat : Nat) : Int)) := rfl
    rw [e, ← hf]; exact this
   ·have hA := sim_accept hy hyok hk16 (b := m.b) (v := m.p)
    rw [← hs] at hA
    have hput : ((s.put i (((s.rep i).yield m.b).promise m.b)).put i (((s.put i (((s.rep i).yield m.b).promise m.b)).rep i).accept m.s.toNat ⟨m.s, m.b, m.p⟩)) = s.put i ((((s.rep i).yield m.b).promise m.b).accept m.s.toNat ⟨m.s, m.b, m.p⟩) := by
     rw [Sy.rep_put (by rw [hok.len]; exact hi)]
     unfold Sy.put
     simp only [List.set_set]
    rw [hput]
    have := (h.put hok.len hi hA).send ((msg 4 m.b m.s noPst []).to (i : Int) m.f)
    have e : ∀ z : Sy, z.sendTo (msg 4 m.b m.s noPst []) i [m.f.toNat] = z.send1 ((msg 4 m.b m.s noPst []).to (i : Int) ((m.f.toNat : Nat) : Int)) := fun _ => rfl
    rw [e, ← hf]; exact this
  ·have c13 : ¬ (m.k = 1 ∨ m.k = 3) := by omega
   rw [if_neg c13, if_neg e1]
   by_cases e2 : m.k = 2
   ·rw [if_pos e2, if_pos e2]; exact h.promised hok hi hm
   ·rw [if_neg e2, if_neg e2, if_neg e3]
    by_cases e4 : m.k = 4
    ·rw [if_pos e4, if_pos e4]; exact h.accepted hok hi hm
    ·rw [if_neg e4, if_neg e4]
     by_cases e5 : m.k = 5
     ·rw [if_pos e5, if_pos e5]
      unfold Sy.takeDecide
      have his : ((x.rep i).at m.s.toNat).is = (s.rep i).dm m.s.toNat := (hr.slot _ hk16).2.2.2.1
      rw [his]
      split
      ·exact h
      ·exact h.put hok.len hi (sim_decide hr hp hk16 m.p)
     ·rw [if_neg e5, if_neg e5]
      unfold Sy.takeRefuse
      exact h.put hok.len hi (sim_yield hr hm.b0)
theorem Sim.without (h : Sim s x) (k : Nat) : Sim (s.without k) (x.without k) := ⟨h.n, by unfold Qs.without Sy.without; simp only [h.net], h.rep⟩
theorem Sim.deliver (h : Sim s x) (hok : s.ok) {k : Nat} (hk : k < s.net.length) : Sim (s.deliver k) (x.deliver k) := by
 have hmem : s.net.getD k noMs ∈ s.net := by rw [List.getD_eq_getElem?_getD, List.getElem?_eq_getElem hk]; exact List.getElem_mem hk
 have hm := hok.net _ hmem
 unfold Qs.deliver Sy.deliver
 rw [h.net]
 exact (h.without k).comes (without_ok hok k) hm.to_lt.1 hm
theorem Sim.double (h : Sim s x) (k : Nat) : Sim (s.double k) (x.double k) := by
 unfold Qs.double Sy.double
 rw [h.net]
 exact h.send _
end
end Go.Proofs.YtnnhnekfokbooaaGreatDoor

namespace Go.Proofs.YtnnhnekfokbooaaGreatDoor
open Go.RowKit
set_option linter.unusedSimpArgs false
set_option linter.unusedVariables false

/-- Some values written over a list's own, from a place on. -/
def splice (L : List Value) (o : Nat) (vs : List Value) : List Value := L.take o ++ vs ++ L.drop (o + vs.length)
theorem splice_right (A B : List Value) (o : Nat) (vs : List Value) : splice (A ++ B) (A.length + o) vs = A ++ splice B o vs := by
 unfold splice
 rw [List.take_append, List.take_of_length_le (by omega), Nat.add_sub_cancel_left, List.drop_append, List.drop_of_length_le (by omega), List.nil_append]
 have e : A.length + o + vs.length - A.length = o + vs.length := by omega
 rw [e]
 simp [List.append_assoc]
theorem splice_left (A B : List Value) (o : Nat) (vs : List Value) (h : o + vs.length ≤ A.length) : splice (A ++ B) o vs = splice A o vs ++ B := by
 unfold splice
 rw [List.take_append_of_le_length (by omega), List.drop_append_of_le_length h]
 simp [List.append_assoc]
theorem splice_one (L : List Value) (o : Nat) (v : Value) (h : o < L.length) : L.set o v = splice L o [v] := by
 unfold splice
 rw [List.set_eq_take_append_cons_drop, if_pos h]
 simp
def flatC {α : Type} (f : α → List Value) : List α → List Value
 | [] => []
 | a :: l => f a ++ flatC f l
theorem flatC_length {α : Type} (f : α → List Value) (m : Nat) (hf : ∀ a, (f a).length = m) : ∀ l : List α, (flatC f l).length = l.length * m
 | [] => by simp [flatC]
 | a :: l => by
  show (f a ++ flatC f l).length = (l.length + 1) * m
  rw [List.length_append, flatC_length f m hf l, hf, Nat.add_mul]; omega
theorem flatC_get {α : Type} (f : α → List Value) (m : Nat) (d : α) : ∀ (l : List α), (∀ a ∈ l, (f a).length = m) → ∀ (i o : Nat), i < l.length → o < m → (flatC f l)[i * m + o]? = (f (l.getD i d))[o]?
 | [], _, i, o, hi, _ => by simp at hi
 | a :: l, hf, 0, o, _, ho => by
  show (f a ++ flatC f l)[0 * m + o]? = (f a)[o]?
  rw [Nat.zero_mul, Nat.zero_add, List.getElem?_append_left (by rw [hf a List.mem_cons_self]; exact ho)]
 | a :: l, hf, i + 1, o, hi, ho => by
  have e : (i + 1) * m + o = (f a).length + (i * m + o) := by rw [hf a List.mem_cons_self, Nat.add_mul]; omega
  show (f a ++ flatC f l)[(i + 1) * m + o]? = _
  rw [e, List.getElem?_append_right (by omega), Nat.add_sub_cancel_left, flatC_get f m d l (fun b hb => hf b (List.mem_cons_of_mem _ hb)) i o (by simpa using hi) ho]
  rfl
theorem flatC_splice {α : Type} (f : α → List Value) (m : Nat) (d : α) : ∀ (l : List α), (∀ a ∈ l, (f a).length = m) → ∀ (i o : Nat) (vs : List Value) (a' : α), i < l.length → o + vs.length ≤ m → f a' = splice (f (l.getD i d)) o vs → splice (flatC f l) (i * m + o) vs = flatC f (l.set i a')
 | [], _, i, o, vs, a', hi, _, _ => by simp at hi
 | a :: l, hf, 0, o, vs, a', _, ho, he => by
  show splice (f a ++ flatC f l) (0 * m + o) vs = f a' ++ flatC f l
  rw [Nat.zero_mul, Nat.zero_add, splice_left _ _ _ _ (by rw [hf a List.mem_cons_self]; exact ho), he]
  rfl
 | a :: l, hf, i + 1, o, vs, a', hi, ho, he => by
  have e : (i + 1) * m + o = (f a).length + (i * m + o) := by rw [hf a List.mem_cons_self, Nat.add_mul]; omega
  show splice (f a ++ flatC f l) ((i + 1) * m + o) vs = f a ++ flatC f (l.set i a')
  rw [e, splice_right, flatC_splice f m d l (fun b hb => hf b (List.mem_cons_of_mem _ hb)) i o vs a' (by simpa using hi) ho he]
def Sl.cells (y : Sl) : List Value := [.int .i64 y.b] ++ y.v.cells ++ [.bool y.is] ++ y.fin.cells ++ [.bool y.has, .bool y.mine] ++ y.kept.cells ++ [.int .i64 y.kb] ++ y.vo.map Value.bool
def Sl.ok (y : Sl) : Prop := y.vo.length = 7
structure Rr.ok (r : Rr) : Prop where
 fr : r.fr.length = 7
 len : r.sl.length = 16
 sl : ∀ y ∈ r.sl, y.ok
def Rr.head (r : Rr) : List Value := [.int .i64 r.pr, .int .i64 r.sn, .int .i64 r.ro, .int .i64 r.ba, .int .i64 r.nx]
def Rr.cells (r : Rr) : List Value := r.head ++ (r.fr.map Value.bool ++ flatC Sl.cells r.sl)
theorem Sl.cells_len {y : Sl} (h : y.ok) : y.cells.length = 24 := by
 have h7 : y.vo.length = 7 := h
 unfold Sl.cells Pst.cells
 simp [h7]
theorem Rr.at_ok {r : Rr} (h : r.ok) (k : Nat) : (r.at k).ok := by
 unfold Rr.at
 rw [List.getD_eq_getElem?_getD]
 by_cases hk : k < r.sl.length
 ·rw [List.getElem?_eq_getElem hk]; exact h.sl _ (List.getElem_mem hk)
 ·rw [List.getElem?_eq_none (by omega)]; rfl
theorem flatC_len' {α : Type} (f : α → List Value) (m : Nat) : ∀ l : List α, (∀ a ∈ l, (f a).length = m) → (flatC f l).length = l.length * m
 | [], _ => by simp [flatC]
 | a :: l, h => by
  show (f a ++ flatC f l).length = (l.length + 1) * m
  rw [List.length_append, flatC_len' f m l (fun b hb => h b (List.mem_cons_of_mem _ hb)), h a List.mem_cons_self, Nat.add_mul]; omega
theorem Rr.cells_len {r : Rr} (h : r.ok) : r.cells.length = 396 := by
 unfold Rr.cells Rr.head
 rw [List.length_append, List.length_append, List.length_map, h.fr, flatC_len' _ 24 _ (fun y hy => Sl.cells_len (h.sl y hy)), h.len]
 rfl
theorem Rr.set_ok {r : Rr} (h : r.ok) (k : Nat) {y : Sl} (hy : y.ok) : (r.setAt k y).ok := by
 refine ⟨h.fr, by show (r.sl.set k y).length = 16; rw [List.length_set]; exact h.len, fun z hz => ?_⟩
 rcases List.mem_or_eq_of_mem_set hz with hz | rfl
 ·exact h.sl z hz
 ·exact hy
/-- A slot's cells, read. -/
theorem Rr.slot_get {r : Rr} (h : r.ok) {k o : Nat} (hk : k < 16) (ho : o < 24) : r.cells[12 + k * 24 + o]? = (r.at k).cells[o]? := by
 unfold Rr.cells
 have e1 : 12 + k * 24 + o = r.head.length + (7 + (k * 24 + o)) := by show _ = 5 + _; omega
 rw [e1, List.getElem?_append_right (by omega), Nat.add_sub_cancel_left]
 have e2 : 7 + (k * 24 + o) = (r.fr.map Value.bool).length + (k * 24 + o) := by rw [List.length_map, h.fr]
 rw [e2, List.getElem?_append_right (by omega), Nat.add_sub_cancel_left]
 exact flatC_get Sl.cells 24 noSl r.sl (fun y hy => Sl.cells_len (h.sl y hy)) k o (by rw [h.len]; exact hk) ho
/-- A slot's cells, written. -/
theorem Rr.slot_splice {r : Rr} (h : r.ok) {k o : Nat} (hk : k < 16) {vs : List Value} (ho : o + vs.length ≤ 24) {y : Sl} (he : y.cells = splice (r.at k).cells o vs) : splice r.cells (12 + k * 24 + o) vs = (r.setAt k y).cells := by
 unfold Rr.cells
 have e1 : 12 + k * 24 + o = r.head.length + (7 + (k * 24 + o)) := by show _ = 5 + _; omega
 have e2 : 7 + (k * 24 + o) = (r.fr.map Value.bool).length + (k * 24 + o) := by rw [List.length_map, h.fr]
 rw [e1, splice_right, e2, splice_right, flatC_splice Sl.cells 24 noSl r.sl (fun y hy => Sl.cells_len (h.sl y hy)) k o vs y (by rw [h.len]; exact hk) ho he]
 rfl
theorem Rr.head_splice {r : Rr} {o : Nat} {v : Value} {r' : Rr} (ho : o < 5) (he : splice r.head o [v] = r'.head) (hf : r'.fr = r.fr) (hs : r'.sl = r.sl) : splice r.cells o [v] = r'.cells := by
 unfold Rr.cells
 rw [splice_left _ _ _ _ (by show o + 1 ≤ 5; omega), he, hf, hs]
/-- The replicas' block. -/
def rcs (R : List Rr) : List Value := flatC Rr.cells R
def RsOk (R : List Rr) : Prop := ∀ r ∈ R, r.ok
theorem RsOk.rep {R : List Rr} (h : RsOk R) {i : Nat} (hi : i < R.length) : (R.getD i noRr).ok := by
 rw [List.getD_eq_getElem?_getD, List.getElem?_eq_getElem hi]
 exact h _ (List.getElem_mem hi)
theorem RsOk.set {R : List Rr} (h : RsOk R) (i : Nat) {r : Rr} (hr : r.ok) : RsOk (R.set i r) := fun z hz => by
 rcases List.mem_or_eq_of_mem_set hz with hz | rfl
 ·exact h z hz
 ·exact hr
def RAt (w : World) (Rb : Nat) (R : List Rr) : Prop := w.heap[Rb]? = some (.cells (rcs R).toArray 114 (0, 0)) ∧ RsOk R
section
variable {w : World} {Rb : Nat} {R : List Rr}
theorem RAt.size (h : RAt w Rb R) : (rcs R).length = R.length * 396 := flatC_len' _ 396 _ (fun r hr => Rr.cells_len (h.2 r hr))
theorem RAt.cell (h : RAt w Rb R) {i o : Nat} (hi : i < R.length) (ho : o < 396) : w.cell? ⟨Rb, i * 396 + o, none⟩ = (R.getD i noRr).cells[o]? := by
 rw [blk_cell h.1, List.getElem?_toArray]
 exact flatC_get Rr.cells 396 noRr R (fun r hr => Rr.cells_len (h.2 r hr)) i o hi ho
theorem RAt.slot (h : RAt w Rb R) {i k o : Nat} (hi : i < R.length) (hk : k < 16) (ho : o < 24) : w.cell? ⟨Rb, i * 396 + (12 + k * 24 + o), none⟩ = ((R.getD i noRr).at k).cells[o]? := by
 rw [h.cell hi (by omega), Rr.slot_get (h.2.rep hi) hk ho]
theorem RAt.sets (h : RAt w Rb R) {i o : Nat} (hi : i < R.length) {vs : List Value} (ho : o + vs.length ≤ 396) {r : Rr} (hr : r.ok) (he : r.cells = splice (R.getD i noRr).cells o vs) : RAt (w.setCells Rb (i * 396 + o) vs) Rb (R.set i r) := by
 have hsz := h.size
 have hle : i * 396 + o + vs.length ≤ (rcs R).toArray.size := by
  rw [List.size_toArray, hsz]
  have : (i + 1) * 396 ≤ R.length * 396 := Nat.mul_le_mul_right _ hi
  omega
 refine ⟨?_, h.2.set i hr⟩
 rw [setCells_self Rb _ vs (i * 396 + o) w _ h.1 hle]
 have := flatC_splice Rr.cells 396 noRr R (fun r hr => Rr.cells_len (h.2 r hr)) i o vs r hi ho he
 unfold splice at this
 show some (Obj.cells (((rcs R).toArray.toList.take (i * 396 + o) ++ vs ++ (rcs R).toArray.toList.drop (i * 396 + o + vs.length)).toArray) _ _) = _
 rw [List.toList_toArray]
 show some (Obj.cells ((flatC Rr.cells R).take (i * 396 + o) ++ vs ++ (flatC Rr.cells R).drop (i * 396 + o + vs.length)).toArray _ _) = _
 rw [this]
 rfl
theorem RAt.set1 (h : RAt w Rb R) {i o : Nat} (hi : i < R.length) {v : Value} (ho : o < 396) {r : Rr} (hr : r.ok) (he : r.cells = splice (R.getD i noRr).cells o [v]) : RAt (w.setCell ⟨Rb, i * 396 + o, none⟩ v) Rb (R.set i r) := h.sets hi (vs := [v]) (by simp; omega) hr he
theorem RAt.there (h : RAt w Rb R) {i o m : Nat} (hi : i < R.length) (ho : o + m ≤ 396) : World.there w Rb (i * 396 + o) m := fun j hj => by
 have hsz := h.size
 have hlt : i * 396 + o + j < (rcs R).length := by
  rw [hsz]
  have : (i + 1) * 396 ≤ R.length * 396 := Nat.mul_le_mul_right _ hi
  omega
 exact ⟨by rw [blk_cell h.1, List.getElem?_toArray, List.getElem?_eq_getElem hlt]; rfl, blk_free h.1 _⟩
end
end Go.Proofs.YtnnhnekfokbooaaGreatDoor

namespace Go.Proofs.YtnnhnekfokbooaaGreatDoor
open Go.RowKit
set_option linter.unusedSimpArgs false
set_option linter.unusedVariables false

theorem getD_set_self {R : List Rr} {i : Nat} (hi : i < R.length) (r : Rr) : (R.set i r).getD i noRr = r := by
 rw [List.getD_eq_getElem?_getD, List.getElem?_set_self hi]; rfl
theorem set_self {R : List Rr} {i : Nat} (hi : i < R.length) : R.set i (R.getD i noRr) = R := by
 apply List.ext_getElem?
 intro j
 by_cases e : j = i
 ·subst e
  rw [List.getElem?_set_self hi, List.getD_eq_getElem?_getD, List.getElem?_eq_getElem hi]; rfl
 ·rw [List.getElem?_set_ne (Ne.symm e)]
section
variable {w : World} {Rb i : Nat} {R : List Rr} {r : Rr}
theorem RAt.here (h : RAt w Rb R) (hi : i < R.length) : RAt w Rb (R.set i (R.getD i noRr)) := by rw [set_self hi]; exact h
theorem RAt.rok (h : RAt w Rb (R.set i r)) (hi : i < R.length) : r.ok := by
 have := h.2.rep (i := i) (by rw [List.length_set]; exact hi)
 rwa [getD_set_self hi] at this
/-- A number of a replica's head, read. -/
theorem RAt.hc (h : RAt w Rb (R.set i r)) (hi : i < R.length) {o : Nat} (ho : o < 396) {v : Value} (hv : r.cells[o]? = some v) : w.cell? ⟨Rb, i * 396 + o, none⟩ = some v := by
 rw [h.cell (by rw [List.length_set]; exact hi) ho, getD_set_self hi]; exact hv
theorem RAt.sc (h : RAt w Rb (R.set i r)) (hi : i < R.length) {k o : Nat} (hk : k < 16) (ho : o < 24) {v : Value} (hv : (r.at k).cells[o]? = some v) : w.cell? ⟨Rb, i * 396 + 12 + k * 24 + o, none⟩ = some v := by
 have e : i * 396 + 12 + k * 24 + o = i * 396 + (12 + k * 24 + o) := by omega
 rw [e, h.slot (by rw [List.length_set]; exact hi) hk ho, getD_set_self hi]; exact hv
theorem RAt.fz (h : RAt w Rb (R.set i r)) (o : Nat) : w.frozen? ⟨Rb, o, none⟩ = false := blk_free h.1 o
theorem RAt.hd (h : RAt w Rb (R.set i r)) (hi : i < R.length) {o : Nat} {v : Value} (r' : Rr) (ho : o < 5) (he : splice r.head o [v] = r'.head) (hf : r'.fr = r.fr) (hs : r'.sl = r.sl) : RAt (w.setCell ⟨Rb, i * 396 + o, none⟩ v) Rb (R.set i r') := by
 have hk := h.rok hi
 have h1 := h.set1 (i := i) (o := o) (v := v) (r := r') (by rw [List.length_set]; exact hi) (by omega) ⟨by rw [hf]; exact hk.fr, by rw [hs]; exact hk.len, by rw [hs]; exact hk.sl⟩ (by rw [getD_set_self hi]; exact (Rr.head_splice ho he hf hs).symm)
 rwa [List.set_set] at h1
theorem RAt.from7 (h : RAt w Rb (R.set i r)) (hi : i < R.length) (r' : Rr) (hp : r'.head = r.head) (hs : r'.sl = r.sl) (h7 : r'.fr.length = 7) : RAt (w.setCells Rb (i * 396 + 5) (r'.fr.map Value.bool)) Rb (R.set i r') := by
 have hk := h.rok hi
 have h1 := h.sets (i := i) (o := 5) (vs := r'.fr.map Value.bool) (r := r') (by rw [List.length_set]; exact hi) (by rw [List.length_map]; omega) ⟨h7, by rw [hs]; exact hk.len, by rw [hs]; exact hk.sl⟩ (by
  rw [getD_set_self hi]
  unfold Rr.cells
  have e : 5 = r.head.length + 0 := rfl
  rw [e, splice_right, splice_left _ _ _ _ (by simp [h7, hk.fr]), hp, hs]
  unfold splice
  simp [h7, hk.fr])
 rwa [List.set_set] at h1
theorem RAt.vote1 (h : RAt w Rb (R.set i r)) (hi : i < R.length) {f : Nat} (hf : f < 7) (r' : Rr) (hp : r'.head = r.head) (hs : r'.sl = r.sl) {b : Bool} (hfr : r'.fr = r.fr.set f b) : RAt (w.setCell ⟨Rb, i * 396 + 5 + f, none⟩ (.bool b)) Rb (R.set i r') := by
 have hk := h.rok hi
 have e0 : i * 396 + 5 + f = i * 396 + (5 + f) := by omega
 rw [e0]
 have h1 := h.set1 (i := i) (o := 5 + f) (v := .bool b) (r := r') (by rw [List.length_set]; exact hi) (by omega) ⟨by rw [hfr, List.length_set]; exact hk.fr, by rw [hs]; exact hk.len, by rw [hs]; exact hk.sl⟩ (by
  rw [getD_set_self hi]
  unfold Rr.cells
  have e : 5 + f = r.head.length + f := rfl
  rw [e, splice_right, splice_left _ _ _ _ (by simp [hk.fr]; omega), hp, hs, ← splice_one _ _ _ (by simp [hk.fr]; omega), hfr, List.map_set])
 rwa [List.set_set] at h1
theorem RAt.sl (h : RAt w Rb (R.set i r)) (hi : i < R.length) {k o : Nat} {vs : List Value} (y : Sl) (hk : k < 16) (ho : o + vs.length ≤ 24) (hy : y.ok) (he : y.cells = splice (r.at k).cells o vs) : RAt (w.setCells Rb (i * 396 + 12 + k * 24 + o) vs) Rb (R.set i (r.setAt k y)) := by
 have hrk := h.rok hi
 have e0 : i * 396 + 12 + k * 24 + o = i * 396 + (12 + k * 24 + o) := by omega
 rw [e0]
 have h1 := h.sets (i := i) (o := 12 + k * 24 + o) (vs := vs) (r := r.setAt k y) (by rw [List.length_set]; exact hi) (by omega) (Rr.set_ok hrk k hy) (by rw [getD_set_self hi]; exact (Rr.slot_splice hrk hk ho he).symm)
 rwa [List.set_set] at h1
theorem RAt.sl1 (h : RAt w Rb (R.set i r)) (hi : i < R.length) {k o : Nat} {v : Value} (y : Sl) (hk : k < 16) (ho : o < 24) (hy : y.ok) (he : y.cells = splice (r.at k).cells o [v]) : RAt (w.setCell ⟨Rb, i * 396 + 12 + k * 24 + o, none⟩ v) Rb (R.set i (r.setAt k y)) := h.sl hi (vs := [v]) y hk (by simp; omega) hy he
theorem RAt.thereS (h : RAt w Rb (R.set i r)) (hi : i < R.length) {k o m : Nat} (hk : k < 16) (ho : o + m ≤ 24) : World.there w Rb (i * 396 + 12 + k * 24 + o) m := by
 have e0 : i * 396 + 12 + k * 24 + o = i * 396 + (12 + k * 24 + o) := by omega
 rw [e0]
 exact h.there (by rw [List.length_set]; exact hi) (by omega)
theorem RAt.keeps {w' : World} {P : Nat → Prop} (h : RAt w Rb R) (hk : Keeps P w w') (hn : ¬ P Rb) : RAt w' Rb R := ⟨blk_keeps hk h.1 hn, h.2⟩
theorem RAt.below {w' : World} (h : RAt w Rb R) (hB : Below w.heap.size w w') : RAt w' Rb R := ⟨blk_below hB h.1, h.2⟩
end
theorem setAt_setAt (r : Rr) (k : Nat) (y z : Sl) : (r.setAt k y).setAt k z = r.setAt k z := by unfold Rr.setAt; simp only [List.set_set]
theorem setAt_self {r : Rr} (h : r.sl.length = 16) {k : Nat} (hk : k < 16) : r.setAt k (r.at k) = r := by
 unfold Rr.setAt Rr.at
 have : r.sl.set k (r.sl.getD k noSl) = r.sl := by
  apply List.ext_getElem?
  intro j
  by_cases e : j = k
  ·subst e
   rw [List.getElem?_set_self (by omega), List.getD_eq_getElem?_getD, List.getElem?_eq_getElem (by omega)]; rfl
  ·rw [List.getElem?_set_ne (Ne.symm e)]
 rw [this]
theorem at_setAt {r : Rr} (h : r.sl.length = 16) {k : Nat} (hk : k < 16) (y : Sl) : (r.setAt k y).at k = y := by rw [at_set h hk, if_pos rfl]
section
variable {w : World} {Rb i k : Nat} {R : List Rr} {z : Rr} {y : Sl}
/-- A slot of a replica, opened. -/
theorem RAt.open (h : RAt w Rb (R.set i z)) (hi : i < R.length) (hk : k < 16) : RAt w Rb (R.set i (z.setAt k (z.at k))) := by rw [setAt_self (h.rok hi).len hk]; exact h
theorem RAt.gc (h : RAt w Rb (R.set i (z.setAt k y))) (hi : i < R.length) (hz : z.sl.length = 16) (hk : k < 16) {o : Nat} (ho : o < 24) {v : Value} (hv : y.cells[o]? = some v) : w.cell? ⟨Rb, i * 396 + 12 + k * 24 + o, none⟩ = some v := h.sc hi hk ho (by rw [at_setAt hz hk]; exact hv)
theorem RAt.gs (h : RAt w Rb (R.set i (z.setAt k y))) (hi : i < R.length) (hz : z.sl.length = 16) (hk : k < 16) {o : Nat} {vs : List Value} (y' : Sl) (ho : o + vs.length ≤ 24) (hy : y'.ok) (he : y'.cells = splice y.cells o vs) : RAt (w.setCells Rb (i * 396 + 12 + k * 24 + o) vs) Rb (R.set i (z.setAt k y')) := by
 have := h.sl hi (k := k) y' hk ho hy (by rw [at_setAt hz hk]; exact he)
 rwa [setAt_setAt] at this
theorem RAt.gs1 (h : RAt w Rb (R.set i (z.setAt k y))) (hi : i < R.length) (hz : z.sl.length = 16) (hk : k < 16) {o : Nat} {v : Value} (y' : Sl) (ho : o < 24) (hy : y'.ok) (he : y'.cells = splice y.cells o [v]) : RAt (w.setCell ⟨Rb, i * 396 + 12 + k * 24 + o, none⟩ v) Rb (R.set i (z.setAt k y')) := h.gs hi hz hk (vs := [v]) y' (by simp; omega) hy he
end
theorem keeps_set (w : World) (Rb o : Nat) (v : Value) : Keeps (fun k => k = Rb) w (w.setCell ⟨Rb, o, none⟩ v) := Keeps.ofSet (P := fun k => k = Rb) (a := ⟨Rb, o, none⟩) (.inl rfl) _
theorem keeps_sets (w : World) (Rb o : Nat) (vs : List Value) : Keeps (fun k => k = Rb) w (w.setCells Rb o vs) := Keeps.ofSets (P := fun k => k = Rb) Rb rfl _ _ _
end Go.Proofs.YtnnhnekfokbooaaGreatDoor
