/- RmE, Hon, LawA, RefV, LawB -/
import Derived.Test.YtnnhnekfokbooaaGreatDoorAl24
set_option linter.unusedSimpArgs false
set_option linter.unusedVariables false
set_option maxRecDepth 100000
namespace Go.Proofs.YtnnhnekfokbooaaGreatDoor
section
theorem sim_role {p : Rp} {r : Rr} (h : SimR p r) : r.ro = p.rl.kind ∧ r.ba = p.rl.bal ∧ r.pr = p.pr ∧ r.nx = (p.rl.nxt : Int) := by
 have hro := h.role
 cases hrl : p.rl with
 | idle => rw [hrl] at hro; exact ⟨hro.1, hro.2.1, h.pr, hro.2.2.1⟩
 | prep b t k => rw [hrl] at hro; exact ⟨hro.1, hro.2.1, h.pr, hro.2.2.1⟩
 | lead b n ps => rw [hrl] at hro; exact ⟨hro.1, hro.2.1, h.pr, hro.2.2.1⟩
theorem sim_log {p : Rp} {r : Rr} (h : SimR p r) (hok : p.ok) : logR r = logOf p.dec := by
 have hd := hok.dec
 have hl := h.len
 have e : p.dec = r.sl.map (fun y => (⟨y.is, y.fin⟩ : Dn)) := by
  apply List.ext_getElem?
  intro k
  by_cases hk : k < 16
  ·have hs := h.slot k hk
   have e1 : p.dec.getD k noDn = p.dec[k] := by rw [List.getD_eq_getElem?_getD, List.getElem?_eq_getElem (by omega)]; rfl
   have e2 : r.at k = r.sl[k] := by unfold Rr.at; rw [List.getD_eq_getElem?_getD, List.getElem?_eq_getElem (by omega)]; rfl
   rw [e1, e2] at hs
   rw [List.getElem?_map, List.getElem?_eq_getElem (by omega), List.getElem?_eq_getElem (by omega)]
   show some p.dec[k] = some (⟨r.sl[k].is, r.sl[k].fin⟩ : Dn)
   rw [hs.2.2.2.1, hs.2.2.2.2.1]
  ·rw [List.getElem?_map, List.getElem?_eq_none (by omega), List.getElem?_eq_none (by omega)]; rfl
 unfold logR logOf
 rw [e, List.takeWhile_map, List.map_map]
 rfl
end
section
def RlV (G : Pst → Prop) : Rl → Prop
 | .idle => True
 | .prep _ _ kept => ∀ v ∈ kept, G v.p
 | .lead _ _ ps => ∀ x ∈ ps, G x.p
structure RpV (G : Pst → Prop) (r : Rp) : Prop where
 acc : ∀ v ∈ r.acc, G v.p
 dec : ∀ d ∈ r.dec, G d.p
 rl : RlV G r.rl
def MsV (G : Pst → Prop) (m : Ms) : Prop := G m.p ∧ ∀ v ∈ m.a, G v.p
structure SyV (G : Pst → Prop) (s : Sy) : Prop where
 no : G noPst
 net : ∀ m ∈ s.net, MsV G m
 rep : ∀ r ∈ s.reps, RpV G r
theorem getD_mem {α : Type} (l : List α) (k : Nat) (d : α) : l.getD k d ∈ l ∨ l.getD k d = d := by
 rw [List.getD_eq_getElem?_getD]
 by_cases h : k < l.length
 ·rw [List.getElem?_eq_getElem h]; exact .inl (List.getElem_mem h)
 ·rw [List.getElem?_eq_none (by omega)]; exact .inr rfl
theorem RlV.mono {G G' : Pst → Prop} (hG : ∀ p, G p → G' p) {l : Rl} (h : RlV G l) : RlV G' l := by
 cases l with
 | idle => trivial
 | prep b t kept => exact fun v hv => hG _ (h v hv)
 | lead b n ps => exact fun v hv => hG _ (h v hv)
theorem SyV.mono {G G' : Pst → Prop} (hG : ∀ p, G p → G' p) {s : Sy} (h : SyV G s) : SyV G' s :=
 ⟨hG _ h.no, fun m hm => ⟨hG _ (h.net m hm).1, fun v hv => hG _ ((h.net m hm).2 v hv)⟩, fun r hr => ⟨fun v hv => hG _ ((h.rep r hr).acc v hv), fun v hv => hG _ ((h.rep r hr).dec v hv), (h.rep r hr).rl.mono hG⟩⟩
variable {G : Pst → Prop} {s : Sy}
theorem noRpV (h : G noPst) : RpV G noRp := ⟨fun v hv => by rw [List.eq_of_mem_replicate hv]; exact h, fun v hv => by rw [List.eq_of_mem_replicate hv]; exact h, trivial⟩
theorem SyV.at (h : SyV G s) (i : Nat) : RpV G (s.rep i) := by
 rcases getD_mem s.reps i noRp with h1 | h1
 ·exact h.rep _ h1
 ·have h2 : s.rep i = noRp := h1
  rw [h2]; exact noRpV h.no
theorem SyV.put (h : SyV G s) (i : Nat) {r : Rp} (hr : RpV G r) : SyV G (s.put i r) :=
 ⟨h.no, h.net, fun r' hr' => by
  rcases List.mem_or_eq_of_mem_set hr' with h1 | h1
  ·exact h.rep _ h1
  ·rw [h1]; exact hr⟩
theorem SyV.send (h : SyV G s) (m : Ms) (hm : MsV G m) (f : Nat) (ts : List Nat) : SyV G (s.sendTo m f ts) :=
 ⟨h.no, fun m' hm' => by
  rcases send_mem m f ts s m' hm' with h1 | ⟨t, _, rfl⟩
  ·exact h.net _ h1
  ·exact hm, fun r hr => by rw [sendTo_reps] at hr; exact h.rep r hr⟩
theorem msgV (h : G noPst) (k b q : Int) {p : Pst} (hp : G p) : MsV G (msg k b q p []) := ⟨hp, fun v hv => by simp [msg] at hv⟩
theorem RpV.yield {r : Rp} (h : RpV G r) (b : Int) : RpV G (r.yield b) := by
 refine ⟨h.acc, h.dec, ?_⟩
 unfold Rp.yield; simp only
 split
 ·trivial
 ·exact h.rl
theorem RpV.promise {r : Rp} (h : RpV G r) (b : Int) : RpV G (r.promise b) := ⟨h.acc, h.dec, h.rl⟩
theorem RpV.role {r : Rp} (h : RpV G r) {l : Rl} (hl : RlV G l) : RpV G (r.role l) := ⟨h.acc, h.dec, hl⟩
theorem RpV.decide {r : Rp} (h : RpV G r) (k : Nat) {p : Pst} (hp : G p) : RpV G (r.decide k p) :=
 ⟨h.acc, fun d hd => by
  rcases List.mem_or_eq_of_mem_set hd with h1 | h1
  ·exact h.dec _ h1
  ·rw [h1]; exact hp, h.rl⟩
theorem RpV.accept {r : Rp} (h : RpV G r) (k : Nat) {v : Vt} (hv : G v.p) : RpV G (r.accept k v) :=
 ⟨fun d hd => by
  rcases List.mem_or_eq_of_mem_set hd with h1 | h1
  ·exact h.acc _ h1
  ·rw [h1]; exact hv, h.dec, h.rl⟩
theorem SyV.obey (h : SyV G s) (i : Nat) (m : Ms) : SyV G (s.obey i m) := by
 unfold Sy.obey
 split
 ·exact h.send _ (msgV h.no _ _ _ h.no) _ _
 ·exact h.put i (((h.at i).yield m.b).promise m.b)
theorem getPp (h : G noPst) {ps : List Pp} (hp : ∀ x ∈ ps, G x.p) (k : Nat) : G (ps.getD k noPp).p := by
 rcases getD_mem ps k noPp with h1 | h1
 ·exact hp _ h1
 ·rw [h1]; exact h
theorem setPp {ps : List Pp} (hp : ∀ x ∈ ps, G x.p) (k : Nat) {x : Pp} (hx : G x.p) : ∀ y ∈ ps.set k x, G y.p := fun y hy => by
 rcases List.mem_or_eq_of_mem_set hy with h1 | h1
 ·exact hp _ h1
 ·rw [h1]; exact hx
theorem SyV.propose (h : SyV G s) (i k : Nat) {p : Pst} (hp : G p) : SyV G (s.propose i k p) := by
 have hr := (h.at i).rl
 unfold Sy.propose
 split
 ·rename_i b next ps hrl
  rw [hrl] at hr
  exact (h.put i ((h.at i).role (l := .lead b next (ps.set k ⟨p, (ps.getD k noPp).t⟩)) (setPp hr k hp))).send _ (msgV h.no _ _ _ hp) _ _
 ·exact h
theorem getVt (h : G noPst) {l : List Vt} (hp : ∀ x ∈ l, G x.p) (k : Nat) : G (l.getD k noVt).p := by
 rcases getD_mem l k noVt with h1 | h1
 ·exact hp _ h1
 ·rw [h1]; exact h
theorem SyV.leadTo (h : SyV G s) (i : Nat) {kept : List Vt} (hk : ∀ v ∈ kept, G v.p) : ∀ k, SyV G (s.leadTo i kept k)
 | 0 => h
 | k + 1 => by
  unfold Sy.leadTo
  split
  ·exact h.leadTo i hk k
  ·exact (h.leadTo i hk k).propose i k (getVt h.no hk k)
theorem keepAllV : ∀ (a : List Vt) {kept : List Vt} (_ : ∀ v ∈ kept, G v.p) (_ : ∀ v ∈ a, G v.p), ∀ v ∈ keepAll kept a, G v.p
 | [], kept, hk, _ => hk
 | u :: a, kept, hk, ha => by
  refine keepAllV a (kept := keep1 kept u) (fun v hv => ?_) (fun v hv => ha v (List.mem_cons_of_mem _ hv))
  rw [keep1_eq] at hv
  split at hv
  ·rcases List.mem_or_eq_of_mem_set hv with h1 | h1
   ·exact hk _ h1
   ·rw [h1]; exact ha u List.mem_cons_self
  ·exact hk _ hv
theorem repPp (h : G noPst) : ∀ x ∈ List.replicate 16 noPp, G x.p := fun x hx => by rw [List.eq_of_mem_replicate hx]; exact h
theorem repVt (h : G noPst) : ∀ x ∈ List.replicate 16 noVt, G x.p := fun x hx => by rw [List.eq_of_mem_replicate hx]; exact h
theorem SyV.receive (h : SyV G s) (i : Nat) {m : Ms} (hm : MsV G m) : SyV G (s.receive i m) := by
 unfold Sy.receive
 split
 ·unfold Sy.takePrepare
  split
  ·exact h.obey i m
  ·exact (h.obey i m).send _ ⟨h.no, fun v hv => (h.at i).acc v (List.mem_filter.1 hv).1⟩ _ _
 split
 ·have hr := (h.at i).rl
  unfold Sy.takePromise
  split
  ·rename_i b t kept hrl
   rw [hrl] at hr
   have hk : ∀ v ∈ keepAll kept m.a, G v.p := keepAllV m.a hr hm.2
   split
   ·split
    ·have h1 := h.put i ((h.at i).role (l := .prep b (t.add m.f.toNat) (keepAll kept m.a)) hk)
     unfold Sy.lead
     exact (h1.put i ((h1.at i).role (l := .lead b _ _) (repPp h.no))).leadTo i hk _
    ·exact h.put i ((h.at i).role (l := .prep b _ _) hk)
   ·exact h
  ·exact h
 split
 ·unfold Sy.takePropose
  split
  ·exact h.obey i m
  ·have h1 := h.obey i m
   exact (h1.put i ((h1.at i).accept _ (v := ⟨m.s, m.b, m.p⟩) hm.1)).send _ (msgV h.no _ _ _ h.no) _ _
 split
 ·have hr := (h.at i).rl
  unfold Sy.takeAccept
  split
  ·rename_i b next ps hrl
   rw [hrl] at hr
   split
   ·dsimp only
    have hp := getPp h.no hr m.s.toNat
    have hl : RlV G (.lead b next (ps.set m.s.toNat ⟨(ps.getD m.s.toNat noPp).p, (ps.getD m.s.toNat noPp).t.add m.f.toNat⟩)) := setPp hr _ hp
    split
    ·exact (h.put i (((h.at i).role hl).decide _ hp)).send _ (msgV h.no _ _ _ hp) _ _
    ·exact h.put i ((h.at i).role hl)
   ·exact h
  ·exact h
 split
 ·unfold Sy.takeDecide
  split
  ·exact h
  ·exact h.put i ((h.at i).decide _ hm.1)
 ·unfold Sy.takeRefuse
  exact h.put i ((h.at i).yield _)
theorem SyV.bump {r : Rp} (h : RpV G r) : RpV G r.bump := by
 have hr := h.rl
 unfold Rp.bump
 split
 ·rename_i b next ps hrl
  rw [hrl] at hr
  exact h.role (l := .lead b (next + 1) ps) hr
 ·exact h
def Took (ps : List Pst) (p : Pst) : Prop := p = noPst ∨ (p ∈ ps ∧ rightPostB p = true)
theorem syv_mv {s s' : Sy} {ps ps' : List Pst} (h : SyV (Took ps) s) (m : Mv s ps s' ps') : SyV (Took ps') s' := by
 cases m with
 | camp i hi =>
  unfold Sy.campaign
  split
  ·exact (h.put i (((h.at i).promise _).role (l := .prep _ _ _) (repVt h.no))).send _ (msgV h.no _ _ _ h.no) _ _
  ·exact h
 | sub i p hi hp =>
  unfold Sy.submit
  split
  ·have h' : SyV (Took (ps ++ [p])) s := h.mono (fun q hq => hq.imp id (fun hq => ⟨List.mem_append_left _ hq.1, hq.2⟩))
   have h1 := h'.propose i (s.rep i).next (p := p) (.inr ⟨by simp, hp⟩)
   exact h1.put i (SyV.bump (h1.at i))
  ·exact h
 | lose k hk => exact ⟨h.no, fun m hm => h.net m (List.mem_of_mem_eraseIdx hm), h.rep⟩
 | dbl k hk =>
  refine ⟨h.no, fun m hm => ?_, h.rep⟩
  unfold Sy.double Sy.send1 at hm
  simp only at hm
  split at hm
  ·rcases List.mem_append.1 hm with h1 | h1
   ·exact h.net m h1
   ·rw [List.mem_singleton.1 h1]
    exact h.net _ (by rw [List.getD_eq_getElem?_getD, List.getElem?_eq_getElem hk]; exact List.getElem_mem hk)
  ·exact h.net m hm
 | crash i hi => exact h.put i ⟨(h.at i).acc, (h.at i).dec, trivial⟩
 | dlv k hk =>
  have hm : MsV (Took ps) (s.net.getD k noMs) := h.net _ (by rw [List.getD_eq_getElem?_getD, List.getElem?_eq_getElem hk]; exact List.getElem_mem hk)
  have h1 : SyV (Took ps) (s.without k) := ⟨h.no, fun m hm => h.net m (List.mem_of_mem_eraseIdx hm), h.rep⟩
  exact h1.receive _ hm
theorem newSy_v (n : Nat) : SyV (Took []) (newSy n) := ⟨.inl rfl, fun m hm => by simp [newSy] at hm, fun r hr => by
 have hr' : r ∈ List.replicate n noRp := hr
 rw [List.eq_of_mem_replicate hr']; exact noRpV (.inl rfl)⟩
theorem SyV.log {ps : List Pst} (h : SyV (Took ps) s) (i : Nat) : ∀ p ∈ logOf (s.rep i).dec, Took ps p := fun p hp => by
 unfold logOf at hp
 obtain ⟨d, hd, rfl⟩ := List.mem_map.1 hp
 exact (h.at i).dec d ((List.takeWhile_sublist _).subset hd)
end
section
open Go.RowKit
def Rn (s : Sy) : Prop := ∃ ps, Good s ps ∧ SyV (Took ps) s
theorem Rn.mv {s s' : Sy} (h : Rn s) (hok : s.ok) (m : ∀ ps, ∃ ps', Mv s ps s' ps') : Rn s' ∧ s'.n = s.n := by
 obtain ⟨ps, h1, h2⟩ := h
 obtain ⟨ps', hm⟩ := m ps
 exact ⟨⟨ps', (h1.mv hok hm).1, syv_mv h2 hm⟩, (h1.mv hok hm).2.1⟩
theorem Rn.bal {s : Sy} (h : Rn s) (hok : s.ok) {i : Nat} (hi : i < s.n) : 0 ≤ (s.rep i).rl.bal ∧ (s.rep i).rl.bal ≤ 8007 := by
 obtain ⟨ps, h1, _⟩ := h
 exact h1.bal hok hi
theorem Rn.log {s : Sy} (h : Rn s) (i : Nat) : ∀ p ∈ logOf (s.rep i).dec, p = noPst ∨ rightPostB p = true := fun p hp => by
 obtain ⟨ps, _, h2⟩ := h
 rcases h2.log i p hp with h | h
 ·exact .inl h
 ·exact .inr h.2
theorem Rn.new (n : Nat) (hn : n ≤ 7) : Rn (newSy n) := ⟨[], newSy_good n hn, newSy_v n⟩
structure Pr where
 sb : Nat
 L : Lay
 s : Sy
 qb : Nat
 Rb : Nat
 v : Value
 x : Qs
def Pr.own (p : Pr) (k : Nat) : Prop := p.L.own p.sb p.s.n k ∨ qOwn p.qb p.Rb p.v k
structure PAt (w : World) (p : Pr) : Prop where
 syn : SynAt w p.sb p.L p.s
 ref : QAt w p.qb p.Rb p.v p.x
 sim : Sim p.s p.x
 self : ∀ k, p.L.own p.sb p.s.n k → ¬ qOwn p.qb p.Rb p.v k
 run : Rn p.s
def PTo (w : World) (p : Pr) (w' : World) : Prop := ∃ p' : Pr, p'.sb = p.sb ∧ p'.qb = p.qb ∧ PAt w' p' ∧ (∀ k, p'.own k → p.own k ∨ w.heap.size ≤ k) ∧ Keeps p.own w w'
def pairT (t : TypeId) : Prop := ownT t ∨ t = 74 ∨ t = 114
theorem QAt.ownType {w : World} {qb Rb : Nat} {v : Value} {x : Qs} (h : QAt w qb Rb v x) {k : Nat} (hk : qOwn qb Rb v k) : ∃ cs t, pairT t ∧ w.heap[k]? = some (.cells cs t (0, 0)) := by
 rcases hk with rfl | rfl | hk
 ·exact ⟨_, _, .inr (.inl rfl), h.syn⟩
 ·exact ⟨_, _, .inr (.inr rfl), h.reps.1⟩
 ·obtain ⟨l, _, h2, _⟩ := h.net
  obtain ⟨cs, hc⟩ := owns_blk h2 hk
  exact ⟨cs, _, .inl (.inr (.inr (.inr (.inr (.inr rfl))))), hc⟩
theorem PAt.ownType {w : World} {p : Pr} (h : PAt w p) {k : Nat} (hk : p.own k) : ∃ cs t, pairT t ∧ w.heap[k]? = some (.cells cs t (0, 0)) := by
 rcases hk with hk | hk
 ·obtain ⟨cs, t, ht, hc⟩ := h.syn.ownType hk
  exact ⟨cs, t, .inl ht, hc⟩
 ·exact h.ref.ownType hk
theorem PAt.own_lt {w : World} {p : Pr} (h : PAt w p) {k : Nat} (hk : p.own k) : k < w.heap.size := by
 obtain ⟨cs, t, _, hc⟩ := h.ownType hk
 exact lt_of_block hc
theorem PAt.not_own {w : World} {p : Pr} (h : PAt w p) {k : Nat} {cs : Array Value} {t : TypeId} (hb : w.heap[k]? = some (.cells cs t (0, 0))) (ht : ¬ pairT t) : ¬ p.own k := fun hk => by
 obtain ⟨cs', t', h1, h2⟩ := h.ownType hk
 rw [hb] at h2
 injection h2 with h3
 injection h3 with _ h4
 exact ht (h4 ▸ h1)
theorem vote_not_pair : ¬ pairT 53 := by unfold pairT ownT; decide
theorem QAt.frame {P : Nat → Prop} {w w' : World} {qb Rb : Nat} {v : Value} {x : Qs} (h : QAt w qb Rb v x) (hk : Keeps P w w') (hP : ∀ k, k < w.heap.size → P k → ¬ qOwn qb Rb v k) (hV : ∀ k cs, w.heap[k]? = some (.cells cs 53 (0, 0)) → ¬ P k) : QAt w' qb Rb v x := by
 have hn : ∀ k, qOwn qb Rb v k → ¬ P k := fun k ho hp => hP k (h.own_lt ho) hp ho
 obtain ⟨l, h1, h2, h3⟩ := h.net
 exact ⟨blk_keeps hk h.syn (hn _ (.inl rfl)), h.reps.keeps hk (hn _ (.inr (.inl rfl))), ⟨l, h1, owns_keeps h2 hk (fun g hg => hn _ (.inr (.inr hg))), fun y hy => (h3 y hy).keeps hk hV⟩, h.n0, h.n1, h.full⟩
theorem PAt.frame {P : Nat → Prop} {w w' : World} {p : Pr} (h : PAt w p) (hk : Keeps P w w') (hP : ∀ k, k < w.heap.size → P k → ¬ p.own k) (hV : ∀ k cs, w.heap[k]? = some (.cells cs 53 (0, 0)) → ¬ P k) : PAt w' p :=
 ⟨h.syn.frame hk (fun k h1 h2 h3 => hP k h1 h2 (.inl h3)) hV, h.ref.frame hk (fun k h1 h2 h3 => hP k h1 h2 (.inr h3)) hV, h.sim, h.self, h.run⟩
theorem PAt.below {w w' : World} {p : Pr} (h : PAt w p) (hb : Below w.heap.size w w') : PAt w' p := h.frame (Keeps.ofBelow (P := fun _ => False) hb) (fun _ _ => False.elim) (fun _ _ _ => id)
theorem PAt.ref1 {w w1 : World} {p : Pr} {s1 : Sy} (h : PAt w p) (hn : s1.n = p.s.n) (a : SynTo w p.sb p.L w1 s1) : QAt w1 p.qb p.Rb p.v p.x := by
 obtain ⟨L', h1, _, _, k1⟩ := a
 rw [hn] at k1
 exact h.ref.frame k1 (fun k _ h2 h3 => h.self k h2 h3) (fun k cs hc => h.syn.not_own hc vote_not_own)
theorem PAt.step {w w1 w2 : World} {p : Pr} {s1 : Sy} {x2 : Qs} (h : PAt w p) (hn : s1.n = p.s.n) (a : SynTo w p.sb p.L w1 s1) (b : QTo w1 p.qb p.Rb p.v w2 x2) (sim : Sim s1 x2) (run : Rn s1) : PTo w p w2 := by
 have hq := h.ref1 hn a
 obtain ⟨L1, h1, _, o1, k1⟩ := a
 obtain ⟨v2, h2, o2, k2⟩ := b
 rw [hn] at k1
 have ho1 : ∀ k, L1.own p.sb s1.n k → p.L.own p.sb p.s.n k ∨ w.heap.size ≤ k := fun k hk => by
  have := o1 k hk
  rwa [hn] at this
 have hqlt : ∀ k, qOwn p.qb p.Rb p.v k → k < w.heap.size := fun k hk => h.ref.own_lt hk
 have hdis : ∀ k, L1.own p.sb s1.n k → ¬ qOwn p.qb p.Rb p.v k := fun k hk hq' => by
  rcases ho1 k hk with h9 | h9
  ·exact h.self k h9 hq'
  ·have := hqlt k hq'; omega
 have h1' : SynAt w2 p.sb L1 s1 := h1.frame k2 (fun k _ h3 h4 => hdis k h4 h3) (fun k cs hc => hq.vote hc)
 refine ⟨⟨p.sb, L1, s1, p.qb, p.Rb, v2, x2⟩, rfl, rfl, ⟨h1', h2, sim, fun k hk hq' => ?_, run⟩, fun k hk => ?_, ?_⟩
 ·rcases o2 k hq' with h9 | h9
  ·exact hdis k hk h9
  ·have := h1.own_lt hk; omega
 ·rcases hk with hk | hk
  ·rcases ho1 k hk with h9 | h9
   ·exact .inl (.inl h9)
   ·exact .inr h9
  ·rcases o2 k hk with h9 | h9
   ·exact .inl (.inr h9)
   ·exact .inr (Nat.le_trans k1.size h9)
 ·exact (k1.mono (fun k _ h => .inl h)).trans (k2.mono (fun k _ h => .inr h))
theorem PTo.refl {w : World} {p : Pr} (h : PAt w p) : PTo w p w := ⟨p, rfl, rfl, h, fun _ h => .inl h, Keeps.refl _ _⟩
theorem PTo.below {w w1 w2 : World} {p : Pr} (a : PTo w p w1) (hb : Below w1.heap.size w1 w2) : PTo w p w2 := by
 obtain ⟨p', e1, e2, h', o', k'⟩ := a
 exact ⟨p', e1, e2, h'.below hb, o', k'.trans (Keeps.ofBelow hb)⟩
theorem PTo.after {w w1 w2 : World} {p : Pr} (hb : Below w.heap.size w w1) (a : PTo w1 p w2) : PTo w p w2 := by
 obtain ⟨p', e1, e2, h', o', k'⟩ := a
 exact ⟨p', e1, e2, h', fun k hk => (o' k hk).imp id (fun h => Nat.le_trans hb.size h), (Keeps.ofBelow hb).trans k'⟩
structure LAt (w : World) (ps : List Pr) : Prop where
 each : ∀ i (hi : i < ps.length), PAt w ps[i]
 apart : ∀ i j (hi : i < ps.length) (hj : j < ps.length) k, i ≠ j → ps[i].own k → ¬ ps[j].own k
def lOwn (ps : List Pr) (k : Nat) : Prop := ∃ i, ∃ hi : i < ps.length, ps[i].own k
theorem LAt.own_lt {w : World} {ps : List Pr} (h : LAt w ps) {k : Nat} (hk : lOwn ps k) : k < w.heap.size := by
 obtain ⟨i, hi, ho⟩ := hk
 exact (h.each i hi).own_lt ho
theorem LAt.not_own {w : World} {ps : List Pr} (h : LAt w ps) {k : Nat} {cs : Array Value} {t : TypeId} (hb : w.heap[k]? = some (.cells cs t (0, 0))) (ht : ¬ pairT t) : ¬ lOwn ps k := fun ⟨i, hi, ho⟩ => (h.each i hi).not_own hb ht ho
theorem LAt.frame {P : Nat → Prop} {w w' : World} {ps : List Pr} (h : LAt w ps) (hk : Keeps P w w') (hP : ∀ k, k < w.heap.size → P k → ¬ lOwn ps k) (hV : ∀ k cs, w.heap[k]? = some (.cells cs 53 (0, 0)) → ¬ P k) : LAt w' ps :=
 ⟨fun i hi => (h.each i hi).frame hk (fun k h1 h2 h3 => hP k h1 h2 ⟨i, hi, h3⟩) hV, h.apart⟩
theorem LAt.below {w w' : World} {ps : List Pr} (h : LAt w ps) (hb : Below w.heap.size w w') : LAt w' ps := ⟨fun i hi => (h.each i hi).below hb, h.apart⟩
theorem LAt.step {w w' : World} {ps : List Pr} (h : LAt w ps) {i : Nat} (hi : i < ps.length) (a : PTo w ps[i] w') :
  ∃ p', LAt w' (ps.set i p') ∧ p'.sb = ps[i].sb ∧ p'.qb = ps[i].qb ∧ (∀ k, lOwn (ps.set i p') k → lOwn ps k ∨ w.heap.size ≤ k) ∧ Keeps ps[i].own w w' := by
 obtain ⟨p', e1, e2, h', o', k'⟩ := a
 refine ⟨p', ⟨fun j hj => ?_, fun j1 j2 h1 h2 k hne ho hq => ?_⟩, e1, e2, ?_, k'⟩
 ·rw [List.getElem_set]
  have hj' : j < ps.length := by simpa using hj
  split
  ·exact h'
  ·rename_i hne
   exact (h.each j hj').frame k' (fun k _ h3 h4 => h.apart i j hi hj' k hne h3 h4) (fun k cs hc => (h.each i hi).not_own hc vote_not_pair)
 ·have hj1 : j1 < ps.length := by simpa using h1
  have hj2 : j2 < ps.length := by simpa using h2
  rw [List.getElem_set] at ho hq
  split at ho
  ·rename_i e
   split at hq
   ·omega
   ·rename_i hne2
    rcases o' k ho with h9 | h9
    ·exact h.apart i j2 hi hj2 k hne2 h9 hq
    ·have := (h.each j2 hj2).own_lt hq; omega
  ·split at hq
   ·rename_i hne2 e
    rcases o' k hq with h9 | h9
    ·exact h.apart i j1 hi hj1 k hne2 h9 ho
    ·have := (h.each j1 hj1).own_lt ho; omega
   ·exact h.apart j1 j2 hj1 hj2 k hne ho hq
 ·rintro k ⟨j, hj, ho⟩
  have hj' : j < ps.length := by simpa using hj
  rw [List.getElem_set] at ho
  split at ho
  ·rcases o' k ho with h9 | h9
   ·exact .inl ⟨i, hi, h9⟩
   ·exact .inr h9
  ·exact .inl ⟨j, hj', ho⟩
theorem LAt.more {w w' : World} {ps : List Pr} (h : LAt w ps) (hb : Below w.heap.size w w') {p : Pr} (hp : PAt w' p) (hnew : ∀ k, p.own k → w.heap.size ≤ k) : LAt w' (ps ++ [p]) := by
 have hl := h.below hb
 refine ⟨fun i hi => ?_, fun i j hi hj k hne ho hq => ?_⟩
 ·by_cases hlt : i < ps.length
  ·rw [List.getElem_append_left hlt]; exact hl.each i hlt
  ·rw [List.getElem_append_right (by omega)]
   simp at hi
   have : i - ps.length = 0 := by omega
   simp only [this, List.getElem_cons_zero]; exact hp
 ·simp at hi hj
  by_cases h1 : i < ps.length
  ·rw [List.getElem_append_left h1] at ho
   by_cases h2 : j < ps.length
   ·rw [List.getElem_append_left h2] at hq
    exact h.apart i j h1 h2 k hne ho hq
   ·rw [List.getElem_append_right (by omega)] at hq
    have e : j - ps.length = 0 := by omega
    simp only [e, List.getElem_cons_zero] at hq
    have := hnew k hq
    have := (h.each i h1).own_lt ho
    omega
  ·by_cases h2 : j < ps.length
   ·rw [List.getElem_append_left h2] at hq
    rw [List.getElem_append_right (by omega)] at ho
    have e : i - ps.length = 0 := by omega
    simp only [e, List.getElem_cons_zero] at ho
    have := hnew k ho
    have := (h.each j h2).own_lt hq
    omega
   ·omega
theorem lOwn_more {ps : List Pr} {p : Pr} {k : Nat} (h : lOwn (ps ++ [p]) k) : lOwn ps k ∨ p.own k := by
 obtain ⟨i, hi, ho⟩ := h
 by_cases h1 : i < ps.length
 ·rw [List.getElem_append_left h1] at ho; exact .inl ⟨i, h1, ho⟩
 ·simp at hi
  rw [List.getElem_append_right (by omega)] at ho
  have e : i - ps.length = 0 := by omega
  simp only [e, List.getElem_cons_zero] at ho
  exact .inr ho
end
section
open Go.RowKit
def mvx (m : Int) : List Value := [I6 m, I6 0, I6 0, I6 0, I6 0, .string ⟨#[]⟩]
def mv (k : Nat) : List Value := mvx (-1000 - ((k / 4 : Nat) : Int))
theorem mark_any (k : Nat) (w : World) (hk : (k : Int) ≤ 1000000000000000) : Calls Tryz.prog 15 #[I6 (k : Int)] w fun e w' => e = .returned (I6 (-1000 - ((k / 4 : Nat) : Int))) ∧ w' = w := by
 have e4 : Int.tdiv (k : Int) 4 = ((k / 4 : Nat) : Int) := by rw [Int.tdiv_eq_ediv_of_nonneg (by omega)]; omega
 have hd : ((k / 4 : Nat) : Int) ≤ 1000000000000000 := by omega
 go_enter Tryz.func15, Tryz.ntmps15
 go_wp2
 go_ret
 refine ⟨?_, rfl⟩
 first | rfl | (congr 2; omega) | (simp [e4]; done)
theorem Tryz.infoVotes : (Tryz.prog.info? 34).map (fun i => (i.zero, i.size, i.bytes)) = some (some (.slice none 0 0), 1, 24) := by kernel_rfl
set_option maxHeartbeats 8000000 in
theorem voted_any (wb H : Nat) (wl wn wv wp v : Value) (n : Nat) (xs vs : List Value) (w : World) (hblk : w.heap[wb]? = some (.cells #[wl, wn, wv, wp] 31 (0, 0)))
  (hvs : w.ownsRow H 34 1 wv vs.length vs) (hv : w.ownsRow H 53 6 v n xs) (hl : vs.length ≤ 5000000000000) (hn : n ≤ 1000000) (hH : H ≤ w.heap.size) :
  Calls Tryz.prog 24 #[P6 wb, v] w fun e w' => ∃ wv' a b c, e = .returned (.tuple #[]) ∧ w'.heap[wb]? = some (.cells #[wl, wn, wv', wp] 31 (0, 0)) ∧
   w'.ownsRow H 34 1 wv' (vs.length + 4) (vs ++ [v, a, b, c]) ∧ MK w' H 53 (mv vs.length) v n ∧ MK w' H 53 (mv vs.length) a (n + 1) ∧ MK w' H 53 (mv vs.length) b (n + 2) ∧ MK w' H 53 (mv vs.length) c (n + 3) ∧
   Keeps (fun k => k = wb ∨ v.ownBlock = some k ∨ wv.ownBlock = some k) w w' ∧ (∀ u g, u = a ∨ u = b ∨ u = c → u.ownBlock = some g → v.ownBlock = some g ∨ w.heap.size ≤ g) ∧ (∀ g, wv'.ownBlock = some g → wv.ownBlock = some g ∨ w.heap.size ≤ g) := by
 obtain ⟨i0, hi, hz0, hz1, hz2⟩ := info_parts Tryz.infoVote
 obtain ⟨j0, hj0, hy0, hy1, hy2⟩ := info_parts Tryz.infoVotes
 obtain ⟨ao, cap, rfl, hao⟩ : ∃ ao cap, v = .slice ao n cap ∧ (ao = none → cap = 0) := by
  rcases hv.2 with ⟨rfl, rfl⟩ | ⟨g, cap, cur, rfl, _⟩
  ·exact ⟨none, 0, rfl, fun _ => rfl⟩
  ·exact ⟨_, cap, rfl, fun h => by cases h⟩
 obtain ⟨vo, vn, vc, rfl⟩ := owns_slice1 hvs
 obtain rfl : vn = vs.length := by
  rcases hvs.2 with ⟨h1, h2⟩ | ⟨g, cap, cur, h1, _⟩
  ·cases h1; exact h2.symm
  ·cases h1; rfl
 have hc := blk_cell hblk
 have hwlt := lt_of_block hblk
 have hvwb : (Value.slice ao n cap).ownBlock ≠ some wb := owns_not_block hv hblk (by decide)
 have hwvwb : (Value.slice vo vs.length vc).ownBlock ≠ some wb := owns_not_block hvs hblk (by decide)
 have hvlt := fun g hb => (hv.lt g hb).2
 generalize hL : vs.length = L at *
 have HM : Hid (mv L = mvx (-1000 - ((L / 4 : Nat) : Int))) := rfl
 have hmk0 := mark_any L w (by omega)
 generalize (-1000 - ((L / 4 : Nat) : Int)) = mk at *
 rw [HM.out]
 go_enter Tryz.func24, Tryz.ntmps24
 go_wp2_with fail
 refine hmk0.mono ?_
 rintro e w' ⟨rfl, rfl⟩
 clear hmk0
 go_wp2_with fail
 have hM0 : MK w' H 53 (mvx mk) (.slice ao 0 cap) 0 := MK.zero hv hao
 go_loopw [5] (fun i wr => ∃ j : Nat, j ≤ n ∧ i = I6 j ∧ MK wr H 53 (mvx mk) (.slice ao j cap) j ∧ wr.heap[w'.heap.size]? = some (.cells #[I6 mk, I6 0, I6 0, I6 0, I6 0, .string ⟨#[]⟩] 53 (0, 0)) ∧ Keeps (fun k => (Value.slice ao n cap).ownBlock = some k) w' wr) (fun i _ => n - (intOf i).toNat)
 case atStart => exact ⟨0, Nat.zero_le _, rfl, owns_alloc hM0 _, blk_new _ _, Keeps.ofAlloc _ _⟩
 case round =>
  obtain ⟨j, hj, rfl, hM, hx, hK⟩ := hrel
  have hxc := blk_cell hx
  by_cases hlt : j < n
  ·obtain ⟨g, rfl⟩ : ∃ g, ao = some (A6 g 0) := by
    rcases hv.2 with ⟨h1, h2⟩ | ⟨g, cap', cur, h1, _⟩
    ·omega
    ·cases h1; exact ⟨g, rfl⟩
   rcases hM.2 with ⟨h1, _⟩ | ⟨g', cap', cur, h1, hbg, hg, hnc, hcm, hcs, htake⟩
   ·cases h1
   cases h1
   have hgf := blk_free hg
   have hcapn : n ≤ cap := by rcases hv.2 with ⟨h1, _⟩ | ⟨g1, c1, u1, h1, _, _, h2, _⟩ <;> cases h1; exact h2
   have hsz : j * 6 + 6 ≤ cur.size := by rw [hcs]; show j * 6 + 6 ≤ cap * 6; omega
   have hth : Hid (wr.there g (j * 6) 6) := show World.there wr g (j * 6) 6 from fun k hk => ⟨by rw [blk_cell hg, Array.getElem?_eq_getElem (by omega)]; rfl, hgf _⟩
   have hi6 : Hid ((Tryz.prog.info? 53).map (·.size) = some (#[I6 mk, I6 0, I6 0, I6 0, I6 0, .string ⟨#[]⟩] : Array Value).size) := show _ = _ from by rw [hi]; simp [hz1]
   have h16 : Hid ((#[I6 mk, I6 0, I6 0, I6 0, I6 0, .string ⟨#[]⟩] : Array Value).all (·.oneCell') = true) := show _ = _ from by simp [Value.oneCell']
   clear hgf
   have hgx : g ≠ w'.heap.size := by have := hvlt g rfl; omega
   go_upto_region 3 with (refine wpList_store_mid rfl 53 (.tmp 25) (.tmp 24) rfl g (j * 6) #[I6 mk, I6 0, I6 0, I6 0, I6 0, .string ⟨#[]⟩] rfl rfl hth.out hi6.out h16.out ?_; simp only [Act.put])
   go_wp2_with fail
   go_roundw
   case rel =>
    exact ⟨j + 1, by omega, by go_num, MK.store (x := mvx mk) hM hlt hcapn, by rw [setCells_other g _ _ _ _ (Ne.symm hgx)]; exact hx, hK.trans (Keeps.ofSets (P := fun k => (Value.slice (some (A6 g 0)) n cap).ownBlock = some k) g rfl _ _ _)⟩
   case measure => simp [intOf]; omega
  ·obtain rfl : j = n := by omega
   have hwlt2 : w'.heap.size < wr.heap.size := lt_of_block hx
   have hbw : wr.heap[wb]? = some (.cells #[wl, wn, .slice vo L vc, wp] 31 (0, 0)) := by rw [hK.block wb hwlt hvwb]; exact hblk
   have hap : ∀ g, (Value.slice vo L vc).ownBlock = some g → ¬ (Value.slice ao j cap).ownBlock = some g := fun g hg => owns_apart hvs hv (by decide) hg
   have hvsr := owns_keeps hvs hK hap
   have hsz0 := hK.size
   have h1x : ∀ u ∈ mvx mk, u.oneCell' = true := by intro u hu; simp [mvx] at hu; rcases hu with rfl | rfl | rfl <;> rfl
   have hs6 : 0 < (mvx mk).length := by show 0 < 6; decide
   have hb1 : j + 1 ≤ maxLen ∧ (j + 1) * 56 ≤ 140737488355328 := ⟨by unfold maxLen; omega, by omega⟩
   have hb2 : j + 2 ≤ maxLen ∧ (j + 2) * 56 ≤ 140737488355328 := ⟨by unfold maxLen; omega, by omega⟩
   have hb3 : j + 3 ≤ maxLen ∧ (j + 3) * 56 ≤ 140737488355328 := ⟨by unfold maxLen; omega, by omega⟩
   have hnx : (Value.slice ao j cap).ownBlock ≠ some w'.heap.size := fun e => by have := hvlt _ e; omega
   go_upto_region 6 with (at_builtin; refine wpList_append_mark _ rfl (.tmp 26) (.tmp 28) 34 rfl H 53 i0 _ (mvx mk) 56 Tryz.underlying34 hi hz0 hz1 hz2 rfl hs6 (.slice ao j cap) j rfl (owns_alloc hM _) _ 1 1 rfl (news_new _ _ (by simp) _ _) h1x (by decide) hb1.1 hb1.2 (by simp; omega) ?_; intro g1 cap1 w1 hM1 hgr1 hat1 hlt1 hall1)
   have hMl1 := hall1 _ _ (owns_alloc hM _)
   have hx1 := blk_grown hgr1 (blk_alloc hx _) hnx
   have hbw1 := blk_grown hgr1 (blk_alloc hbw _) hvwb
   have hvs1 := owns_grown (owns_alloc hvsr _) hgr1 hap
   have hK1 := hK.trans ((Keeps.ofAlloc _ _).trans (Keeps.ofGrown hgr1))
   have hsi1 := hK1.size
   have hxc1 := blk_cell hx1
   clear hall1 hgr1 hxc
   go_upto_region 7 with (at_builtin; refine wpList_append_mark _ rfl (.tmp 30) (.tmp 33) 34 rfl H 53 i0 _ (mvx mk) 56 Tryz.underlying34 hi hz0 hz1 hz2 rfl hs6 (.slice ao j cap) j rfl (owns_alloc hMl1 _) _ 2 2 rfl (news_new _ _ (by simp) _ _) h1x (by decide) hb2.1 hb2.2 (by simp; omega) ?_; intro g2 cap2 w2 hM2 hgr2 hat2 hlt2 hall2)
   have hMl2 := hall2 _ _ (owns_alloc hMl1 _)
   have hM1x := hall2 _ _ (owns_alloc hM1 _)
   have hx2 := blk_grown hgr2 (blk_alloc hx1 _) hnx
   have hbw2 := blk_grown hgr2 (blk_alloc hbw1 _) hvwb
   have hvs2 := owns_grown (owns_alloc hvs1 _) hgr2 hap
   have hK2 := hK1.trans ((Keeps.ofAlloc _ _).trans (Keeps.ofGrown hgr2))
   have hsi2 := hK2.size
   have hxc2 := blk_cell hx2
   clear hall2 hgr2 hxc1
   go_upto_region 8 with (at_builtin; refine wpList_append_mark _ rfl (.tmp 35) (.tmp 39) 34 rfl H 53 i0 _ (mvx mk) 56 Tryz.underlying34 hi hz0 hz1 hz2 rfl hs6 (.slice ao j cap) j rfl (owns_alloc hMl2 _) _ 3 3 rfl (news_new _ _ (by simp) _ _) h1x (by decide) hb3.1 hb3.2 (by simp; omega) ?_; intro g3 cap3 w3 hM3 hgr3 hat3 hlt3 hall3)
   have hMl3 := hall3 _ _ (owns_alloc hMl2 _)
   have hM1xx := hall3 _ _ (owns_alloc hM1x _)
   have hM2x := hall3 _ _ (owns_alloc hM2 _)
   have hx3 := blk_grown hgr3 (blk_alloc hx2 _) hnx
   have hbw3 := blk_grown hgr3 (blk_alloc hbw2 _) hvwb
   have hvs3 := owns_grown (owns_alloc hvs2 _) hgr3 hap
   have hK3 := hK2.trans ((Keeps.ofAlloc _ _).trans (Keeps.ofGrown hgr3))
   have hsi3 := hK3.size
   have hxc3 := blk_cell hx3
   clear hall3 hgr3 hxc2
   have hwc := blk_cell hbw3
   have hwf := blk_free hbw3
   have h1s : ∀ u ∈ [Value.slice ao j cap, .slice (some (A6 g1 0)) (j + 1) cap1, .slice (some (A6 g2 0)) (j + 2) cap2, .slice (some (A6 g3 0)) (j + 3) cap3], u.oneCell' = true := by
    intro u hu; simp at hu; rcases hu with rfl | rfl | rfl | rfl <;> rfl
   have hbL : L + 4 ≤ maxLen ∧ (L + 4) * 24 ≤ 140737488355328 := ⟨by unfold maxLen; omega, by omega⟩
   have hHw : H ≤ w3.heap.size := by omega
   clear hblk hc hxc3
   go_wp2_with (at_builtin; refine wpList_append_lies _ rfl (.tmp 45) (.tmp 50) 28 rfl H 34 j0 _ 1 24 Tryz.underlying28 hj0 hy0 hy1 hy2 rfl (by decide) (.slice vo L vc) L vs rfl (owns_alloc hvs3 _) _ 4 4 [.slice ao j cap, .slice (some (A6 g1 0)) (j + 1) cap1, .slice (some (A6 g2 0)) (j + 2) cap2, .slice (some (A6 g3 0)) (j + 3) cap3] rfl rfl (news_new _ _ (by simp) _ _) h1s (by decide) hbL.1 hbL.2 (by simp; omega) _ rfl ?_; intro g4 cap4 w4 hown4 hgr4 hat4 hlt4; have hbw4 := blk_grown hgr4 (blk_alloc hbw3 _) hwvwb; have hwc4 := blk_cell hbw4; have hwf4 := blk_free hbw4)
   go_end0
   have fin : ∀ u k, MK w3 H 53 (mvx mk) u k → MK (w4.setCell (A6 wb 2) (.slice (some (A6 g4 0)) (L + 4) cap4)) H 53 (mvx mk) u k := fun u k hu => by
    have h1 : MK w4 H 53 (mvx mk) u k := owns_grown (owns_alloc hu _) hgr4 (fun g hg => owns_apart hu hvs3 (by decide) hg)
    exact owns_set h1 (owns_not_block h1 hbw4 (by decide)) _
   refine ⟨_, _, _, _, rfl, blk_set hbw4 2 _, owns_set hown4 (owns_not_block hown4 hbw4 (by decide)) _, fin _ _ hMl3, fin _ _ hM1xx, fin _ _ hM2x, fin _ _ hM3, ?_, ?_, ?_⟩
   rotate_left 1
   ·intro u g hu hg
    simp only [World.size_alloc] at hat1 hat2 hat3
    rcases hu with rfl | rfl | rfl
    ·obtain rfl : g1 = g := by simpa [Value.ownBlock] using hg
     exact hat1.imp id (fun h => by omega)
    ·obtain rfl : g2 = g := by simpa [Value.ownBlock] using hg
     exact hat2.imp id (fun h => by omega)
    ·obtain rfl : g3 = g := by simpa [Value.ownBlock] using hg
     exact hat3.imp id (fun h => by omega)
   ·intro g hg
    simp only [World.size_alloc] at hat4
    obtain rfl : g4 = g := by simpa [Value.ownBlock] using hg
    exact hat4.imp id (fun h => by omega)
   refine (hK3.mono (fun k _ h => .inr (.inl h))).trans ((Keeps.ofAlloc _ _).trans (((Keeps.ofGrown hgr4).mono (fun k _ h => .inr (.inr h))).trans (Keeps.ofSet (.inl (.inl rfl)) _)))
end
section
open Go.RowKit
def pcs : List Pr → List Value
 | [] => []
 | p :: l => [P6 p.sb, P6 p.qb] ++ pcs l
theorem pcs_append (a b : List Pr) : pcs (a ++ b) = pcs a ++ pcs b := by
 induction a with
 | nil => rfl
 | cons o l ih => simp [pcs, ih]
theorem pcs_at : ∀ (l : List Pr) (k : Nat) (hk : k < l.length), (pcs l)[k * 2]? = some (.pointer (some (A6 (l[k].sb) 0))) ∧ (pcs l)[k * 2 + 1]? = some (.pointer (some (A6 (l[k].qb) 0)))
 | [], k, hk => by simp at hk
 | p :: l, 0, _ => ⟨rfl, rfl⟩
 | p :: l, k + 1, hk => by
  have h := pcs_at l k (by simpa using hk)
  have e : (k + 1) * 2 = k * 2 + 1 + 1 := by omega
  rw [e]
  exact h
theorem pcs_set : ∀ (l : List Pr) (i : Nat) (hi : i < l.length) (p : Pr), p.sb = l[i].sb → p.qb = l[i].qb → pcs (l.set i p) = pcs l
 | [], i, hi, _, _, _ => by simp at hi
 | q :: l, 0, _, p, h1, h2 => by
  simp only [List.getElem_cons_zero] at h1 h2
  simp [pcs, h1, h2]
 | q :: l, i + 1, hi, p, h1, h2 => by
  simp only [List.getElem_cons_succ] at h1 h2
  simp only [List.set_cons_succ, pcs]
  rw [pcs_set l i (by simpa using hi) p h1 h2]
def mmx (m : Int) : List Value := [I6 m, I6 0, I6 0, I6 0, I6 0, I6 0, I6 0, I6 0, .string ⟨#[]⟩, .slice none 0 0]
def mm (k : Nat) : List Value := mmx (-1000 - ((k / 4 : Nat) : Int))
def mpx (m : Int) : List Value := [I6 m, I6 0, I6 0, .string ⟨#[]⟩]
def mp (k : Nat) : List Value := mpx (-1000 - ((k / 4 : Nat) : Int))
theorem four_same {j i : Nat} (hj : j % 4 = 0) (hi : i < 4) : (j + i) / 4 = j / 4 := by omega
theorem mm4 {j i : Nat} (hj : j % 4 = 0) (hi : i < 4) : mm (j + i) = mm j := by unfold mm; rw [four_same hj hi]
theorem mv4 {j i : Nat} (hj : j % 4 = 0) (hi : i < 4) : mv (j + i) = mv j := by unfold mv; rw [four_same hj hi]
theorem mp4 {j i : Nat} (hj : j % 4 = 0) (hi : i < 4) : mp (j + i) = mp j := by unfold mp; rw [four_same hj hi]
structure MAt (w : World) (H : Nat) (E T : TypeId) (mk : Nat → List Value) (sv : Value) (vs : List Value) : Prop where
 own : w.ownsRow H E 1 sv vs.length vs
 marks : ∀ k (hk : k < vs.length), ∃ n, n ≤ 2000000 ∧ MK w H T (mk k) vs[k] n
 four : vs.length % 4 = 0
theorem MAt.keeps {P : Nat → Prop} {w w' : World} {H : Nat} {E T : TypeId} {mk : Nat → List Value} {sv : Value} {vs : List Value} (h : MAt w H E T mk sv vs) (hk : Keeps P w w') (h1 : ∀ g, sv.ownBlock = some g → ¬ P g) (h2 : ∀ k (hk : k < vs.length) g, vs[k].ownBlock = some g → ¬ P g) : MAt w' H E T mk sv vs := by
 refine ⟨owns_keeps h.own hk h1, fun k hk' => ?_, h.four⟩
 obtain ⟨n, hn, hm⟩ := h.marks k hk'
 exact ⟨n, hn, owns_keeps hm hk (h2 k hk')⟩
theorem MAt.below {w w' : World} {H : Nat} {E T : TypeId} {mk : Nat → List Value} {sv : Value} {vs : List Value} (h : MAt w H E T mk sv vs) (hb : Below w.heap.size w w') : MAt w' H E T mk sv vs :=
 h.keeps (Keeps.ofBelow (P := fun _ => False) hb) (fun _ _ => id) (fun _ _ _ _ => id)
theorem MAt.blkT {w : World} {H : Nat} {E T : TypeId} {mk : Nat → List Value} {sv : Value} {vs : List Value} (h : MAt w H E T mk sv vs) {k : Nat} (hk : k < vs.length) {g : Nat} (hg : vs[k].ownBlock = some g) : H ≤ g ∧ ∃ cs, w.heap[g]? = some (.cells cs T (0, 0)) := by
 obtain ⟨n, hn, hm⟩ := h.marks k hk
 exact ⟨(World.ownsRow.lt hm g hg).1, owns_blk hm hg⟩
theorem blk_type {w : World} {k : Nat} {cs cs' : Array Value} {t t' : TypeId} (h : w.heap[k]? = some (.cells cs t (0, 0))) (h' : w.heap[k]? = some (.cells cs' t' (0, 0))) : t = t' := by
 rw [h] at h'
 injection h' with e
 injection e
theorem MAt.more {P : Nat → Prop} {w w' : World} {H : Nat} {E T : TypeId} {mk : Nat → List Value} {sv sv' v a b c : Value} {vs : List Value} {n : Nat} (h : MAt w H E T mk sv vs) (h4 : ∀ j i, j % 4 = 0 → i < 4 → mk (j + i) = mk j)
  (hK : Keeps P w w') (hnew : ∀ k (hk : k < vs.length) g, vs[k].ownBlock = some g → ¬ P g) (own' : w'.ownsRow H E 1 sv' (vs.length + 4) (vs ++ [v, a, b, c])) (hn : n ≤ 1000000)
  (m0 : MK w' H T (mk vs.length) v n) (m1 : MK w' H T (mk vs.length) a (n + 1)) (m2 : MK w' H T (mk vs.length) b (n + 2)) (m3 : MK w' H T (mk vs.length) c (n + 3)) : MAt w' H E T mk sv' (vs ++ [v, a, b, c]) := by
 refine ⟨by simpa using own', fun k hk' => ?_, by simp; have := h.four; omega⟩
 by_cases hlt : k < vs.length
 ·rw [List.getElem_append_left hlt]
  obtain ⟨n', hn', hm⟩ := h.marks k hlt
  exact ⟨n', hn', owns_keeps hm hK (hnew k hlt)⟩
 ·simp at hk'
  rw [List.getElem_append_right (by omega)]
  obtain ⟨i, hi⟩ : ∃ i, k = vs.length + i := ⟨k - vs.length, by omega⟩
  subst hi
  have hi4 : i < 4 := by omega
  simp only [Nat.add_sub_cancel_left]
  rw [h4 _ i h.four hi4]
  rcases (show i = 0 ∨ i = 1 ∨ i = 2 ∨ i = 3 from by omega) with rfl | rfl | rfl | rfl
  ·exact ⟨_, by omega, m0⟩
  ·exact ⟨_, by omega, m1⟩
  ·exact ⟨_, by omega, m2⟩
  ·exact ⟨_, by omega, m3⟩
structure Wd where
 wl : Value
 wn : Value
 wv : Value
 wp : Value
 ps : List Pr
 N : List Value
 V : List Value
 P : List Value
structure WAt (w : World) (wb H : Nat) (d : Wd) : Prop where
 blk : w.heap[wb]? = some (.cells #[d.wl, d.wn, d.wv, d.wp] 31 (0, 0))
 prs : w.ownsRow H 47 2 d.wl d.ps.length (pcs d.ps)
 nets : MAt w H 50 36 mm d.wn d.N
 votes : MAt w H 34 53 mv d.wv d.V
 posts : MAt w H 54 33 mp d.wp d.P
 lat : LAt w d.ps
 base : True ∧ wb < H ∧ H ≤ w.heap.size
 high : ∀ k, lOwn d.ps k → H ≤ k
 nown : ∀ k (hk : k < d.N.length) g, d.N[k].ownBlock = some g → ¬ lOwn d.ps g
def lawT (t : TypeId) : Prop := t = 31 ∨ t = 47 ∨ t = 50 ∨ t = 34 ∨ t = 54 ∨ t = 53 ∨ t = 33 ∨ t = 38
theorem lawT_not {t : TypeId} (h : lawT t) : ¬ pairT t := by
 rcases h with rfl | rfl | rfl | rfl | rfl | rfl | rfl | rfl <;> (unfold pairT ownT; decide)
theorem WAt.below {w w' : World} {wb H : Nat} {d : Wd} (h : WAt w wb H d) (hb : Below w.heap.size w w') : WAt w' wb H d :=
 ⟨blk_below hb h.blk, owns_below h.prs hb, h.nets.below hb, h.votes.below hb, h.posts.below hb, h.lat.below hb, ⟨h.base.1, h.base.2.1, Nat.le_trans h.base.2.2 hb.size⟩, h.high, h.nown⟩
theorem WAt.step {w w' : World} {wb H : Nat} {d : Wd} (h : WAt w wb H d) {i : Nat} (hi : i < d.ps.length) (a : PTo w d.ps[i] w') :
  (∃ p', WAt w' wb H ⟨d.wl, d.wn, d.wv, d.wp, d.ps.set i p', d.N, d.V, d.P⟩) ∧ Keeps (fun k => k = wb ∨ H ≤ k) w w' := by
 obtain ⟨p', hl, e1, e2, ho, hk⟩ := h.lat.step hi a
 have hno : ∀ {k : Nat} {cs : Array Value} {t : TypeId}, w.heap[k]? = some (.cells cs t (0, 0)) → lawT t → ¬ d.ps[i].own k := fun hb ht ho => h.lat.not_own hb (lawT_not ht) ⟨i, hi, ho⟩
 refine ⟨⟨p', ?_⟩, hk.mono (fun k _ hk => .inr (h.high k ⟨i, hi, hk⟩))⟩
 refine ⟨blk_keeps hk h.blk (hno h.blk (.inl rfl)), ?_, ?_, ?_, ?_, hl, ⟨h.base.1, h.base.2.1, Nat.le_trans h.base.2.2 hk.size⟩, ?_, ?_⟩
 ·show w'.ownsRow H _ 2 d.wl (d.ps.set i p').length (pcs (d.ps.set i p'))
  rw [pcs_set d.ps i hi p' e1 e2, List.length_set]
  exact owns_keeps h.prs hk (fun g hg => by obtain ⟨cs, hc⟩ := owns_blk h.prs hg; exact hno hc (.inr (.inl rfl)))
 ·exact h.nets.keeps hk (fun g hg => by obtain ⟨cs, hc⟩ := owns_blk h.nets.own hg; exact hno hc (.inr (.inr (.inl rfl)))) (fun k hk' g hg ho => h.nown k hk' g hg ⟨i, hi, ho⟩)
 ·exact h.votes.keeps hk (fun g hg => by obtain ⟨cs, hc⟩ := owns_blk h.votes.own hg; exact hno hc (.inr (.inr (.inr (.inl rfl))))) (fun k hk' g hg => by obtain ⟨_, cs, hc⟩ := h.votes.blkT hk' hg; exact hno hc (.inr (.inr (.inr (.inr (.inr (.inl rfl)))))))
 ·exact h.posts.keeps hk (fun g hg => by obtain ⟨cs, hc⟩ := owns_blk h.posts.own hg; exact hno hc (.inr (.inr (.inr (.inr (.inl rfl)))))) (fun k hk' g hg => by obtain ⟨_, cs, hc⟩ := h.posts.blkT hk' hg; exact hno hc (.inr (.inr (.inr (.inr (.inr (.inr (.inl rfl))))))))
 ·intro k hk'
  rcases ho k hk' with h9 | h9
  ·exact h.high k h9
  ·exact Nat.le_trans h.base.2.2 h9
 ·intro k hk' g hg ho'
  rcases ho g ho' with h9 | h9
  ·exact h.nown k hk' g hg h9
  ·obtain ⟨_, cs, hc⟩ := h.nets.blkT hk' hg
   have := lt_of_block hc
   omega
end
end Go.Proofs.YtnnhnekfokbooaaGreatDoor
