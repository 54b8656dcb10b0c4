/- The plain machine's moves, and what a move makes of each replica. -/
import Derived.Test.YtnnhnekfokbooaaSynL
namespace Go.Proofs.Ytnnhnekfokbooaa
set_option linter.unusedSimpArgs false
set_option linter.unusedVariables false

/-- One move; the second list holds what was submitted and taken. -/
inductive Mv : Sy → List Pst → Sy → List Pst → Prop
  | camp (s : Sy) (ps : List Pst) (i : Nat) (hi : i < s.n) : Mv s ps (s.campaign i) ps
  | sub (s : Sy) (ps : List Pst) (i : Nat) (p : Pst) (hi : i < s.n) (hp : rightPostB p = true) : Mv s ps (s.submit i p) (if s.subE i p = 0 then ps ++ [p] else ps)
  | lose (s : Sy) (ps : List Pst) (k : Nat) (hk : k < s.net.length) : Mv s ps (s.without k) ps
  | dbl (s : Sy) (ps : List Pst) (k : Nat) (hk : k < s.net.length) : Mv s ps (s.double k) ps
  | crash (s : Sy) (ps : List Pst) (i : Nat) (hi : i < s.n) : Mv s ps (s.crash i) ps
  | dlv (s : Sy) (ps : List Pst) (k : Nat) (hk : k < s.net.length) : Mv s ps (s.deliver k) ps
inductive Mvs : Sy → List Pst → Sy → List Pst → Prop
  | refl (s : Sy) (ps : List Pst) : Mvs s ps s ps
  | step {s s' s'' : Sy} {ps ps' ps'' : List Pst} (h : Mvs s ps s' ps') (ok : s'.ok) (m : Mv s' ps' s'' ps'') : Mvs s ps s'' ps''
theorem Mvs.one {s s' : Sy} {ps ps' : List Pst} (ok : s.ok) (m : Mv s ps s' ps') : Mvs s ps s' ps' := .step (.refl _ _) ok m
theorem Mvs.trans {s s' s'' : Sy} {ps ps' ps'' : List Pst} (h : Mvs s ps s' ps') (k : Mvs s' ps' s'' ps'') : Mvs s ps s'' ps'' := by
  induction k with
  | refl => exact h
  | step _ ok m ih => exact .step (ih h) ok m

/-- What a move may make of the replica i that it is about. -/
inductive RS (i : Nat) (r : Rp) : Rp → Prop
  | same : RS i r r
  | camp (h : r.round ≤ 1000) : RS i r ((r.promise (8 * r.round + i)).role (.prep (8 * r.round + i) noTl (List.replicate 16 noVt)))
  | obey (b : Int) (h : r.pr ≤ b) (b1 : b ≤ 8007) : RS i r ((r.yield b).promise b)
  | accept (b : Int) (h : r.pr ≤ b) (b1 : b ≤ 8007) (k : Nat) (v : Vt) : RS i r (((r.yield b).promise b).accept k v)
  | count (b : Int) (t : Tl) (kept : List Vt) (h : r.rl = .prep b t kept) (t' : Tl) (kept' : List Vt) : RS i r (r.role (.prep b t' kept'))
  | lead (b : Int) (t : Tl) (kept : List Vt) (h : r.rl = .prep b t kept) (next : Nat) (ps : List Pp) (hn : next ≤ 16) : RS i r (r.role (.lead b next ps))
  | vote (b : Int) (next : Nat) (ps ps' : List Pp) (h : r.rl = .lead b next ps) : RS i r (r.role (.lead b next ps'))
  | votes (b : Int) (next : Nat) (ps ps' : List Pp) (h : r.rl = .lead b next ps) (k : Nat) (p : Pst) (hk : r.dm k = false) : RS i r ((r.role (.lead b next ps')).decide k p)
  | told (k : Nat) (p : Pst) (hk : r.dm k = false) : RS i r (r.decide k p)
  | yield (b : Int) : RS i r (r.yield b)
  | sub (b : Int) (next : Nat) (ps ps' : List Pp) (h : r.rl = .lead b next ps) (hn : next < 16) : RS i r (r.role (.lead b (next + 1) ps'))
  | crash : RS i r ⟨r.pr, 0, r.acc, r.dec, .idle⟩

theorem rep_send (s : Sy) (m : Ms) (f : Nat) (a : List Nat) (j : Nat) : (s.sendTo m f a).rep j = s.rep j := rep_sendTo m f a s j
theorem rep_put' {s : Sy} (h : s.reps.length = s.n) {i : Nat} (hi : i < s.n) (r : Rp) (j : Nat) : (s.put i r).rep j = if j = i then r else s.rep j := by
  by_cases e : j = i
  · rw [if_pos e, e, Sy.rep_put (by rw [h]; exact hi)]
  · rw [if_neg e, Sy.rep_put_ne (Ne.symm e)]
theorem propose_rep_ne (s : Sy) (i k : Nat) (p : Pst) {j : Nat} (hj : j ≠ i) : (s.propose i k p).rep j = s.rep j := by
  unfold Sy.propose
  split
  · rw [rep_send, Sy.rep_put_ne (Ne.symm hj)]
  · rfl
theorem leadTo_rep_ne (s : Sy) (i : Nat) (kept : List Vt) {j : Nat} (hj : j ≠ i) : ∀ k, (s.leadTo i kept k).rep j = s.rep j
  | 0 => rfl
  | k + 1 => by
    unfold Sy.leadTo
    split
    · exact leadTo_rep_ne s i kept hj k
    · rw [propose_rep_ne _ _ _ _ hj]; exact leadTo_rep_ne s i kept hj k
theorem nextB_le (dm : Nat → Bool) (kb : Nat → Int) : ∀ k, nextB dm kb k ≤ k
  | 0 => Nat.le_refl _
  | k + 1 => by
    unfold nextB
    split
    · exact Nat.le_succ_of_le (nextB_le dm kb k)
    · exact Nat.le_refl _
theorem lead_rep {s : Sy} (h : s.reps.length = s.n) {i : Nat} (hi : i < s.n) (b : Int) (kept : List Vt) : (∃ ps next, next ≤ 16 ∧ (s.lead i b kept).rep i = (s.rep i).role (.lead b next ps)) ∧ ∀ j, j ≠ i → (s.lead i b kept).rep j = s.rep j := by
  have hil : i < s.reps.length := by rw [h]; exact hi
  unfold Sy.lead
  constructor
  · obtain ⟨ps', h1⟩ := leadTo_rep (s := s.put i ((s.rep i).role (.lead b (s.nextOf i kept) (List.replicate 16 noPp)))) (i := i) (by simp only [Sy.put, List.length_set]; exact hil) (by rw [Sy.rep_put hil]; rfl) kept (s.nextOf i kept)
    refine ⟨ps', s.nextOf i kept, nextB_le _ _ 16, ?_⟩
    rw [h1, Sy.rep_put hil]
    rfl
  · intro j hj
    rw [leadTo_rep_ne _ _ _ hj, Sy.rep_put_ne (Ne.symm hj)]

/-- A message that comes to replica i. -/
theorem receive_rs {s : Sy} (h : s.ok) {i : Nat} (hi : i < s.n) {m : Ms} (hm : m.ok s.n) : RS i (s.rep i) ((s.receive i m).rep i) ∧ ∀ j, j ≠ i → (s.receive i m).rep j = s.rep j := by
  have hl := h.len
  have hb1 := hm.b1
  have hP : ∀ r j, (s.put i r).rep j = if j = i then r else s.rep j := rep_put' hl hi
  unfold Sy.receive
  split
  · unfold Sy.takePrepare
    split
    · rename_i hb
      unfold Sy.obey; rw [if_pos hb]
      exact ⟨by rw [rep_send]; exact .same, fun j _ => rep_send _ _ _ _ _⟩
    · rename_i hb
      unfold Sy.obey; rw [if_neg hb]
      refine ⟨?_, fun j hj => ?_⟩
      · rw [rep_send, hP, if_pos rfl]; exact .obey m.b (by omega) hb1
      · rw [rep_send, hP, if_neg hj]
  split
  · unfold Sy.takePromise
    split
    · rename_i b t kept hrl
      split
      · split
        · have hl1 : (s.put i ((s.rep i).role (.prep b (t.add m.f.toNat) (keepAll kept m.a)))).reps.length = (s.put i ((s.rep i).role (.prep b (t.add m.f.toNat) (keepAll kept m.a)))).n := by simp only [Sy.put, List.length_set]; exact hl
          obtain ⟨⟨ps, next, hn, h1⟩, h2⟩ := lead_rep hl1 (i := i) hi b (keepAll kept m.a)
          refine ⟨?_, fun j hj => ?_⟩
          · rw [h1, hP, if_pos rfl]
            exact .lead b t kept hrl next ps hn
          · rw [h2 j hj, hP, if_neg hj]
        · refine ⟨?_, fun j hj => ?_⟩
          · rw [hP, if_pos rfl]; exact .count b t kept hrl _ _
          · rw [hP, if_neg hj]
      · exact ⟨.same, fun _ _ => rfl⟩
    · exact ⟨.same, fun _ _ => rfl⟩
  split
  · unfold Sy.takePropose
    split
    · rename_i hb
      unfold Sy.obey; rw [if_pos hb]
      exact ⟨by rw [rep_send]; exact .same, fun j _ => rep_send _ _ _ _ _⟩
    · rename_i hb
      unfold Sy.obey; rw [if_neg hb]
      have hP2 := rep_put' (s := s.put i (((s.rep i).yield m.b).promise m.b)) (by simp only [Sy.put, List.length_set]; exact hl) (i := i) hi
      refine ⟨?_, fun j hj => ?_⟩
      · rw [rep_send, hP2, if_pos rfl, hP, if_pos rfl]; exact .accept m.b (by omega) hb1 _ _
      · rw [rep_send, hP2, if_neg hj, hP, if_neg hj]
  split
  · unfold Sy.takeAccept
    split
    · rename_i b next ps hrl
      split
      · rename_i hc
        dsimp only
        split
        · refine ⟨?_, fun j hj => ?_⟩
          · rw [rep_send, hP, if_pos rfl]; exact .votes b next ps _ hrl _ _ hc.2.1
          · rw [rep_send, hP, if_neg hj]
        · refine ⟨?_, fun j hj => ?_⟩
          · rw [hP, if_pos rfl]; exact .vote b next ps _ hrl
          · rw [hP, if_neg hj]
      · exact ⟨.same, fun _ _ => rfl⟩
    · exact ⟨.same, fun _ _ => rfl⟩
  split
  · unfold Sy.takeDecide
    split
    · exact ⟨.same, fun _ _ => rfl⟩
    · rename_i hd
      refine ⟨?_, fun j hj => ?_⟩
      · rw [hP, if_pos rfl]; exact .told _ _ (by simpa using hd)
      · rw [hP, if_neg hj]
  · unfold Sy.takeRefuse
    refine ⟨?_, fun j hj => ?_⟩
    · rw [hP, if_pos rfl]; exact .yield _
    · rw [hP, if_neg hj]

theorem campE_le {s : Sy} {i : Nat} (h : s.campE i = 0) : (s.rep i).round ≤ 1000 := by
  unfold Sy.campE at h
  split at h
  · cases h
  · omega
theorem subE_lead {s : Sy} {i : Nat} {p : Pst} (h : s.subE i p = 0) : ∃ b next ps, (s.rep i).rl = .lead b next ps ∧ next ≠ 16 := by
  unfold Sy.subE at h
  split at h
  · rename_i b next ps hrl
    refine ⟨b, next, ps, hrl, fun e => ?_⟩
    split at h
    · cases h
    · simp [e] at h
  · cases h
theorem submit_rep {s : Sy} (h : s.ok) {i : Nat} (hi : i < s.n) {p : Pst} (hE : s.subE i p = 0) : ∃ b next ps ps', (s.rep i).rl = .lead b next ps ∧ next < 16 ∧ (s.submit i p).rep i = (s.rep i).role (.lead b (next + 1) ps') ∧ (∀ j, j ≠ i → (s.submit i p).rep j = s.rep j) ∧ (s.submit i p).n = s.n := by
  have hl := h.len
  unfold Sy.submit
  rw [if_pos hE]
  obtain ⟨b, next, ps0, hrl, hn⟩ := subE_lead hE
  have hnx : (s.rep i).next = next := by unfold Rp.next; rw [hrl]
  have hlen : (s.propose i (s.rep i).next p).reps.length = (s.propose i (s.rep i).next p).n := by
    rw [propose_n]
    unfold Sy.propose; rw [hrl]
    simp only
    rw [sendTo_reps]; simp only [Sy.put, List.length_set]; exact hl
  have hr := propose_rep h hi hrl (s.rep i).next p
  have hok := (h.repOk hi).rl
  rw [hrl] at hok
  have hnl : next ≤ 16 := hok.1
  have hP := rep_put' hlen (i := i) (by rw [propose_n]; exact hi)
  refine ⟨b, next, ps0, ps0.set (s.rep i).next ⟨p, (ps0.getD (s.rep i).next noPp).t⟩, hrl, by omega, ?_, fun j hj => ?_, propose_n _ _ _ _⟩
  · rw [hP, if_pos rfl, hr]
    rfl
  · rw [hP, if_neg hj, propose_rep_ne _ _ _ _ hj]
/-- Every move: one replica at most is turned, as RS tells. -/
theorem mv_rs {s s' : Sy} {ps ps' : List Pst} (h : s.ok) (m : Mv s ps s' ps') : s'.n = s.n ∧ ∀ j, j < s.n → RS j (s.rep j) (s'.rep j) := by
  have hl := h.len
  cases m with
  | camp i hi =>
    unfold Sy.campaign
    split
    · rename_i hE
      refine ⟨sendTo_n _ _ _ _, fun j hj => ?_⟩
      rw [rep_send, rep_put' hl hi]
      split
      · rename_i e; subst e; exact .camp (campE_le hE)
      · exact .same
    · exact ⟨rfl, fun _ _ => .same⟩
  | sub i p hi hp =>
    by_cases hE : s.subE i p = 0
    · obtain ⟨b, next, ps0, ps1, hrl, hn, h1, h2, h3⟩ := submit_rep h hi hE
      refine ⟨h3, fun j hj => ?_⟩
      by_cases e : j = i
      · subst e; rw [h1]; exact .sub b next ps0 _ hrl hn
      · rw [h2 j e]; exact .same
    · have e : s.submit i p = s := if_neg hE
      rw [e]
      exact ⟨rfl, fun _ _ => .same⟩
  | lose k hk => exact ⟨rfl, fun _ _ => .same⟩
  | dbl k hk => exact ⟨rfl, fun _ _ => .same⟩
  | crash i hi =>
    refine ⟨rfl, fun j hj => ?_⟩
    unfold Sy.crash
    rw [rep_put' hl hi]
    split
    · rename_i e; subst e; exact .crash
    · exact .same
  | dlv k hk =>
    have hmem : s.net.getD k noMs ∈ s.net := by rw [List.getD_eq_getElem?_getD, List.getElem?_eq_getElem hk]; exact List.getElem_mem hk
    have hm := h.net _ hmem
    have hw : (s.without k).ok := ⟨h.n0, h.n1, h.len, h.rep, by have := h.full; have := List.length_eraseIdx_le s.net k; show (s.net.eraseIdx k).length ≤ 200; omega, fun m hm => h.net m (List.mem_of_mem_eraseIdx hm)⟩
    unfold Sy.deliver
    generalize s.net.getD k noMs = m0 at *
    have hti : m0.t.toNat < s.n := by have := hm.t0; have := hm.t1; omega
    obtain ⟨h1, h2⟩ := receive_rs hw (i := m0.t.toNat) hti (m := m0) hm
    refine ⟨receive_n _ _ _, fun j hj => ?_⟩
    by_cases e : j = m0.t.toNat
    · rw [e]; exact h1
    · rw [h2 j e]; exact .same
end Go.Proofs.Ytnnhnekfokbooaa
