/- The program's replicas and net, plainly: what each call makes of them. -/
import Derived.Test.YtnnhnekfokbooaaCodeO
namespace Go.Proofs.Ytnnhnekfokbooaa
open Go.RowKit
set_option linter.unusedSimpArgs false
set_option linter.unusedVariables false

def noPst : Pst := ⟨0, 0, 0, ⟨#[]⟩⟩
def noVt : Vt := ⟨0, 0, noPst⟩
def noDn : Dn := ⟨false, noPst⟩
/-- A tally: who voted, and how many. -/
structure Tl where
  v : List Bool
  c : Int
def Tl.cells (t : Tl) : List Value := t.v.map Value.bool ++ [.int .i64 t.c]
def noTl : Tl := ⟨List.replicate 7 false, 0⟩
def Tl.has (t : Tl) (k : Nat) : Bool := t.v.getD k false
def Tl.add (t : Tl) (k : Nat) : Tl := ⟨t.v.set k true, t.c + 1⟩
/-- A proposal: a value and its votes. -/
structure Pp where
  p : Pst
  t : Tl
def Pp.cells (x : Pp) : List Value := x.p.cells ++ x.t.cells
def noPp : Pp := ⟨noPst, noTl⟩
def ppcells : List Pp → List Value
  | [] => []
  | x :: l => x.cells ++ ppcells l
/-- A role. -/
inductive Rl where
  | idle
  | prep (b : Int) (t : Tl) (kept : List Vt)
  | lead (b : Int) (next : Nat) (ps : List Pp)
def Rl.bal : Rl → Int
  | .idle => 0
  | .prep b _ _ => b
  | .lead b _ _ => b
/-- A replica. -/
structure Rp where
  pr : Int
  sn : Int
  acc : List Vt
  dec : List Dn
  rl : Rl
def noRp : Rp := ⟨0, 0, List.replicate 16 noVt, List.replicate 16 noDn, .idle⟩
/-- A synod. -/
structure Sy where
  n : Nat
  reps : List Rp
  net : List Ms
def Sy.rep (s : Sy) (i : Nat) : Rp := s.reps.getD i noRp
def Sy.put (s : Sy) (i : Nat) (r : Rp) : Sy := ⟨s.n, s.reps.set i r, s.net⟩
def Sy.send1 (s : Sy) (m : Ms) : Sy := ⟨s.n, s.reps, if s.net.length < 200 then s.net ++ [m] else s.net⟩
def Ms.to (m : Ms) (f t : Int) : Ms := ⟨m.k, f, t, m.b, m.s, m.p, m.a⟩
def Sy.sendTo (s : Sy) (m : Ms) (f : Nat) : List Nat → Sy
  | [] => s
  | t :: r => (s.send1 (m.to (f : Int) (t : Int))).sendTo m f r
def newSy (n : Nat) : Sy := ⟨n, List.replicate n noRp, []⟩
def Rp.yield (r : Rp) (b : Int) : Rp := ⟨r.pr, max r.sn b, r.acc, r.dec, if r.rl.bal < b then .idle else r.rl⟩
def Rp.dm (r : Rp) (k : Nat) : Bool := (r.dec.getD k noDn).m
def Rp.decide (r : Rp) (k : Nat) (p : Pst) : Rp := ⟨r.pr, r.sn, r.acc, r.dec.set k ⟨true, p⟩, r.rl⟩
def Rp.role (r : Rp) (l : Rl) : Rp := ⟨r.pr, r.sn, r.acc, r.dec, l⟩
def Rp.accept (r : Rp) (k : Nat) (v : Vt) : Rp := ⟨r.pr, r.sn, r.acc.set k v, r.dec, r.rl⟩
def Rp.promise (r : Rp) (b : Int) : Rp := ⟨b, r.sn, r.acc, r.dec, r.rl⟩
/-- A message of some kind with a ballot, a slot, a value. -/
def msg (k b s : Int) (p : Pst) (a : List Vt) : Ms := ⟨k, 0, 0, b, s, p, a⟩
def Sy.all (s : Sy) : List Nat := List.range s.n
def Sy.others (s : Sy) (i : Nat) : List Nat := (List.range s.n).eraseIdx i

def Sy.obeys (s : Sy) (i : Nat) (m : Ms) : Bool := decide ((s.rep i).pr ≤ m.b)
def Sy.obey (s : Sy) (i : Nat) (m : Ms) : Sy :=
  if m.b < (s.rep i).pr then s.sendTo (msg 6 (s.rep i).pr 0 noPst []) i [m.f.toNat] else s.put i (((s.rep i).yield m.b).promise m.b)
def Sy.takePrepare (s : Sy) (i : Nat) (m : Ms) : Sy :=
  if m.b < (s.rep i).pr then s.obey i m else (s.obey i m).sendTo (msg 2 m.b 0 noPst (voted (s.rep i).acc)) i [m.f.toNat]
def Sy.propose (s : Sy) (i k : Nat) (p : Pst) : Sy :=
  match (s.rep i).rl with
  | .lead b next ps => (s.put i ((s.rep i).role (.lead b next (ps.set k ⟨p, (ps.getD k noPp).t⟩)))).sendTo (msg 3 b (k : Int) p []) i s.all
  | _ => s
def Sy.leadTo (s : Sy) (i : Nat) (kept : List Vt) : Nat → Sy
  | 0 => s
  | k + 1 => if (s.rep i).dm k then s.leadTo i kept k else (s.leadTo i kept k).propose i k (kept.getD k noVt).p
def Sy.nextOf (s : Sy) (i : Nat) (kept : List Vt) : Nat := nextB (s.rep i).dm (fun k => (kept.getD k noVt).b) 16
def Sy.lead (s : Sy) (i : Nat) (b : Int) (kept : List Vt) : Sy :=
  (s.put i ((s.rep i).role (.lead b (s.nextOf i kept) (List.replicate 16 noPp)))).leadTo i kept (s.nextOf i kept)
def Sy.takePromise (s : Sy) (i : Nat) (m : Ms) : Sy :=
  match (s.rep i).rl with
  | .prep b t kept =>
    if b = m.b ∧ t.has m.f.toNat = false then
      if (s.n : Int) < 2 * (t.c + 1) then (s.put i ((s.rep i).role (.prep b (t.add m.f.toNat) (keepAll kept m.a)))).lead i b (keepAll kept m.a)
      else s.put i ((s.rep i).role (.prep b (t.add m.f.toNat) (keepAll kept m.a)))
    else s
  | _ => s
def Sy.takePropose (s : Sy) (i : Nat) (m : Ms) : Sy :=
  if m.b < (s.rep i).pr then s.obey i m
  else ((s.obey i m).put i (((s.obey i m).rep i).accept m.s.toNat ⟨m.s, m.b, m.p⟩)).sendTo (msg 4 m.b m.s noPst []) i [m.f.toNat]
def Sy.takeAccept (s : Sy) (i : Nat) (m : Ms) : Sy :=
  match (s.rep i).rl with
  | .lead b next ps =>
    if b = m.b ∧ (s.rep i).dm m.s.toNat = false ∧ (ps.getD m.s.toNat noPp).t.has m.f.toNat = false then
      let r := (s.rep i).role (.lead b next (ps.set m.s.toNat ⟨(ps.getD m.s.toNat noPp).p, (ps.getD m.s.toNat noPp).t.add m.f.toNat⟩))
      if (s.n : Int) < 2 * ((ps.getD m.s.toNat noPp).t.c + 1) then (s.put i (r.decide m.s.toNat (ps.getD m.s.toNat noPp).p)).sendTo (msg 5 0 m.s (ps.getD m.s.toNat noPp).p []) i (s.others i)
      else s.put i r
    else s
  | _ => s
def Sy.takeDecide (s : Sy) (i : Nat) (m : Ms) : Sy :=
  if (s.rep i).dm m.s.toNat then s else s.put i ((s.rep i).decide m.s.toNat m.p)
def Sy.takeRefuse (s : Sy) (i : Nat) (m : Ms) : Sy := s.put i ((s.rep i).yield m.b)
def Sy.receive (s : Sy) (i : Nat) (m : Ms) : Sy :=
  if m.k = 1 then s.takePrepare i m else if m.k = 2 then s.takePromise i m else if m.k = 3 then s.takePropose i m
  else if m.k = 4 then s.takeAccept i m else if m.k = 5 then s.takeDecide i m else s.takeRefuse i m
def Sy.without (s : Sy) (k : Nat) : Sy := ⟨s.n, s.reps, s.net.eraseIdx k⟩
def noMs : Ms := ⟨0, 0, 0, 0, 0, noPst, []⟩
def Sy.deliver (s : Sy) (k : Nat) : Sy := (s.without k).receive ((s.net.getD k noMs).t.toNat) (s.net.getD k noMs)
def Sy.double (s : Sy) (k : Nat) : Sy := s.send1 (s.net.getD k noMs)
def Sy.crash (s : Sy) (i : Nat) : Sy := s.put i ⟨(s.rep i).pr, 0, (s.rep i).acc, (s.rep i).dec, .idle⟩
def Rp.round (r : Rp) : Int := max r.pr r.sn / 8 + 1
def Sy.campE (s : Sy) (i : Nat) : Int :=
  if 1000 < (s.rep i).round then 7 else if (s.net.length : Int) + s.n ≤ 200 then 0 else 6
def Sy.campaign (s : Sy) (i : Nat) : Sy :=
  if s.campE i = 0 then (s.put i (((s.rep i).promise (8 * (s.rep i).round + i)).role (.prep (8 * (s.rep i).round + i) noTl (List.replicate 16 noVt)))).sendTo (msg 1 (8 * (s.rep i).round + i) 0 noPst []) i s.all
  else s
def sameB (a b : Pst) : Bool := a.c == b.c && a.q == b.q
def Sy.subE (s : Sy) (i : Nat) (p : Pst) : Int :=
  match (s.rep i).rl with
  | .lead _ next ps =>
    if (s.rep i).dec.any (fun d => sameB d.p p) || ps.any (fun x => sameB x.p p) then 4 else if next = 16 then 5 else if (s.net.length : Int) + s.n ≤ 200 then 0 else 6
  | _ => 3
def Rp.bump (r : Rp) : Rp :=
  match r.rl with
  | .lead b next ps => r.role (.lead b (next + 1) ps)
  | _ => r
def Rp.next (r : Rp) : Nat :=
  match r.rl with
  | .lead _ next _ => next
  | _ => 0
def Sy.submit (s : Sy) (i : Nat) (p : Pst) : Sy :=
  if s.subE i p = 0 then (s.propose i (s.rep i).next p).put i ((s.propose i (s.rep i).next p).rep i).bump else s
end Go.Proofs.Ytnnhnekfokbooaa
