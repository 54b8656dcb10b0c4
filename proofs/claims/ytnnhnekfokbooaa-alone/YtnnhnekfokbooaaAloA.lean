/- A synod of one replica, plainly: it leads when its messages have come, and what it takes is decided at once. -/
import Derived.Test.YtnnhnekfokbooaaKeeC
import Derived.Test.YtnnhnekfokbooaaAgrA
namespace Go.Proofs.Ytnnhnekfokbooaa
open Go.RowKit
set_option linter.unusedSimpArgs false
set_option linter.unusedVariables false

def dsOf (l : List Pst) : List Dn := l.map (fun p => ⟨true, p⟩) ++ List.replicate (16 - l.length) noDn
theorem dsOf_log (l : List Pst) : logOf (dsOf l) = l := by
  unfold dsOf logOf
  generalize 16 - l.length = k
  induction l with
  | nil => cases k <;> simp [List.replicate_succ, noDn]
  | cons a l ih => simpa using ih
theorem dsOf_lt (l : List Pst) {j : Nat} (h : j < l.length) : ((dsOf l).getD j noDn).m = true := by
  unfold dsOf
  rw [List.getD_eq_getElem?_getD, List.getElem?_append_left (by simpa using h), List.getElem?_map, List.getElem?_eq_getElem h]
  rfl
theorem dsOf_ge (l : List Pst) {j : Nat} (h : l.length ≤ j) : (dsOf l).getD j noDn = noDn := by
  unfold dsOf
  rw [List.getD_eq_getElem?_getD, List.getElem?_append_right (by simpa using h), List.getElem?_replicate]
  split <;> rfl
theorem dsOf_set (l : List Pst) (p : Pst) (h : l.length < 16) : (dsOf l).set l.length ⟨true, p⟩ = dsOf (l ++ [p]) := by
  unfold dsOf
  obtain ⟨k, hk⟩ : ∃ k, 16 - l.length = k + 1 := ⟨15 - l.length, by omega⟩
  have hk2 : 16 - (l ++ [p]).length = k := by rw [List.length_append]; simp only [List.length_cons, List.length_nil]; omega
  rw [hk, hk2, List.set_append_right _ _ (by simp), List.length_map, Nat.sub_self, List.replicate_succ, List.set_cons_zero, List.map_append]
  simp
theorem nextB_eq (dm : Nat → Bool) (kb : Nat → Int) (m : Nat) (hd : ∀ j, j < m → dm j = true) (hk : ∀ j, m ≤ j → dm j = false ∧ kb j = 0) : ∀ k, m ≤ k → nextB dm kb k = m
  | 0, h => by unfold nextB; omega
  | k + 1, h => by
    unfold nextB
    by_cases e : m ≤ k
    · obtain ⟨h1, h2⟩ := hk k e
      rw [h1, h2]
      exact nextB_eq dm kb m hd hk k e
    · have h1 := hd k (by omega)
      rw [h1]
      simp only [Bool.not_true, Bool.false_and, Bool.false_eq_true, if_false]
      omega
theorem keep_ge (m : Nat) : ∀ (a kept : List Vt), (∀ v ∈ a, v.s.toNat < m) → ∀ k, m ≤ k → (keepAll kept a).getD k noVt = kept.getD k noVt
  | [], kept, _, k, _ => rfl
  | v :: a, kept, h, k, hk => by
    unfold keepAll
    rw [keep_ge m a _ (fun v hv => h v (List.mem_cons_of_mem _ hv)) k hk]
    have h1 := h v List.mem_cons_self
    unfold keep1
    split
    · rw [List.getD_eq_getElem?_getD, List.getD_eq_getElem?_getD, List.getElem?_set_ne (by omega)]
    · rfl
theorem leadTo_done (s : Sy) (i : Nat) (kept : List Vt) : ∀ k, (∀ j, j < k → (s.rep i).dm j = true) → s.leadTo i kept k = s
  | 0, _ => rfl
  | k + 1, h => by
    unfold Sy.leadTo
    rw [if_pos (h k (by omega))]
    exact leadTo_done s i kept k (fun j hj => h j (by omega))

def one (r : Rp) (net : List Ms) : Sy := ⟨1, [r], net⟩
/-- What holds of the one replica when all its messages have come. -/
structure AI (r : Rp) (want : List Pst) : Prop where
  le : want.length ≤ 16
  dec : r.dec = dsOf want
  acc : ∀ v ∈ r.acc, 0 < v.b → v.s.toNat < want.length
  rl : match r.rl with
    | .idle => True
    | .prep _ _ _ => False
    | .lead b n ps => n = want.length ∧ b = r.pr ∧ ps.length = 16 ∧ (∀ k, want.length ≤ k → ps.getD k noPp = noPp) ∧ ∀ x ∈ ps, x.p = noPst ∨ x.p ∈ want
theorem ai_new : AI noRp [] := ⟨by decide, rfl, fun v hv h => by rw [List.eq_of_mem_replicate hv] at h; exact absurd h (by decide), trivial⟩
theorem ai_crash {r : Rp} {want : List Pst} (h : AI r want) : AI ⟨r.pr, 0, r.acc, r.dec, .idle⟩ want := ⟨h.le, h.dec, h.acc, trivial⟩
theorem one_crash (r : Rp) (net : List Ms) : (one r net).crash 0 = one ⟨r.pr, 0, r.acc, r.dec, .idle⟩ net := rfl
theorem one_rep (r : Rp) (net : List Ms) : (one r net).rep 0 = r := rfl
theorem settle_nil : ∀ (k : Nat) (s : Sy), s.net = [] → Sy.settle k s = s
  | 0, _, _ => rfl
  | k + 1, s, h => by unfold Sy.settle; rw [if_pos h]
theorem one_put (r r' : Rp) (net : List Ms) : (one r net).put 0 r' = one r' net := rfl
theorem one_send (r : Rp) (m : Ms) : (one r []).sendTo m 0 [0] = one r [m.to 0 0] := rfl
theorem one_dlv (r : Rp) (m : Ms) (h : m.t = 0) : (one r [m]).deliver 0 = (one r []).receive 0 m := by
  unfold Sy.deliver
  show (one r []).receive m.t.toNat m = _
  rw [h]; rfl
theorem one_campE (r : Rp) : (one r []).campE 0 = if 1000 < r.round then 7 else 0 := by
  unfold Sy.campE
  rw [one_rep]
  split
  · rfl
  · exact if_pos (by simp [one])
/-- A campaign whose messages have come. -/
def Rp.led (r : Rp) (m : Nat) : Rp := ⟨8 * r.round, max r.sn (8 * r.round), r.acc, r.dec, .lead (8 * r.round) m (List.replicate 16 noPp)⟩
theorem one_obey (r : Rp) (m : Ms) (h : r.pr ≤ m.b) : (one r []).obey 0 m = one ((r.yield m.b).promise m.b) [] := by
  unfold Sy.obey
  rw [one_rep, if_neg (by omega), one_put]
theorem yield_rl (r : Rp) (b : Int) (h : r.rl.bal = b) : (r.yield b).rl = r.rl := by
  unfold Rp.yield
  simp only
  rw [if_neg (by omega)]
theorem ai_camp {r : Rp} {want : List Pst} (h : AI r want) (hr : r.round ≤ 1000) : Sy.settle 20000 ((one r []).campaign 0) = one (r.led want.length) [] := by
  unfold Sy.campaign
  have hE : (one r []).campE 0 = 0 := by rw [one_campE, if_neg (by omega)]
  rw [if_pos hE, one_rep]
  have e0 : (8 * r.round + ((0 : Nat) : Int)) = 8 * r.round := by simp
  rw [e0]
  generalize hb : 8 * r.round = b
  rw [one_put]
  show Sy.settle (19999 + 1) ((one _ []).sendTo _ 0 [0]) = _
  rw [one_send, settle_step _ _ (by simp [one]), one_dlv _ _ rfl]
  have e1 : ∀ (r : Rp) (m : Ms), m.k = 1 → r.pr ≤ m.b → m.f = 0 → (one r []).receive 0 m = one ((r.yield m.b).promise m.b) [(msg 2 m.b 0 noPst (voted r.acc)).to 0 0] := by
    intro r m hk hb hf
    unfold Sy.receive
    rw [if_pos hk]
    unfold Sy.takePrepare
    rw [one_rep, if_neg (by omega), one_obey _ _ hb, hf]
    rfl
  rw [e1 _ _ rfl (by show b ≤ b; omega) rfl]
  show Sy.settle (19998 + 1) _ = _
  rw [settle_step _ _ (by simp [one]), one_dlv _ _ rfl]
  have e2 : ∀ (r' : Rp), r'.rl = .prep b noTl (List.replicate 16 noVt) → r'.dec = r.dec → (one r' []).receive 0 ((msg 2 b 0 noPst (voted r.acc)).to 0 0) = one (r'.role (.lead b want.length (List.replicate 16 noPp))) [] := by
    intro r' hrl hd
    unfold Sy.receive
    have hk2 : ((msg 2 b 0 noPst (voted r.acc)).to 0 0).k = 2 := rfl
    rw [if_neg (by rw [hk2]; decide), if_pos hk2]
    unfold Sy.takePromise
    rw [one_rep, hrl]
    dsimp only
    rw [if_pos ⟨rfl, rfl⟩, if_pos (by show ((1 : Nat) : Int) < 2 * ((0 : Int) + 1); decide), one_put]
    unfold Sy.lead
    have hdm : ∀ l j, (r'.role l).dm j = ((dsOf want).getD j noDn).m := fun l j => by
      show (r'.dec.getD j noDn).m = _
      rw [hd, h.dec]
    have hn : ∀ l, (one (r'.role l) []).nextOf 0 (keepAll (List.replicate 16 noVt) (voted r.acc)) = want.length := by
      intro l
      refine nextB_eq _ _ want.length (fun j hj => ?_) (fun j hj => ⟨?_, ?_⟩) 16 h.le
      · show (r'.role l).dm j = true
        rw [hdm]; exact dsOf_lt _ hj
      · show (r'.role l).dm j = false
        rw [hdm, dsOf_ge _ hj]; rfl
      · rw [keep_ge want.length _ _ (fun v hv => ?_) j hj]
        · rw [List.getD_eq_getElem?_getD, List.getElem?_replicate]
          split <;> rfl
        · unfold voted at hv
          rw [List.mem_filter] at hv
          exact h.acc v hv.1 (by simpa using hv.2)
    show Sy.leadTo _ 0 (keepAll (List.replicate 16 noVt) (voted r.acc)) _ = _
    have hn' := hn (.prep b (noTl.add 0) (keepAll (List.replicate 16 noVt) (voted r.acc)))
    show Sy.leadTo ((one _ []).put 0 (Rp.role _ (.lead b ((one (r'.role (.prep b (noTl.add 0) (keepAll (List.replicate 16 noVt) (voted r.acc)))) []).nextOf 0 (keepAll (List.replicate 16 noVt) (voted r.acc))) (List.replicate 16 noPp)))) 0 _ ((one (r'.role (.prep b (noTl.add 0) (keepAll (List.replicate 16 noVt) (voted r.acc)))) []).nextOf 0 (keepAll (List.replicate 16 noVt) (voted r.acc))) = _
    rw [hn', one_put]
    rw [leadTo_done]
    · rfl
    · intro j hj
      show (r'.role _).dm j = true
      rw [hdm]; exact dsOf_lt _ hj
  show Sy.settle 19998 ((one _ []).receive 0 ((msg 2 b 0 noPst (voted r.acc)).to 0 0)) = _
  have e3 := e2 ((((r.promise b).role (.prep b noTl (List.replicate 16 noVt))).yield b).promise b) (yield_rl _ _ rfl) rfl
  have e4 : ∀ k : Nat, Sy.settle k (one (((((r.promise b).role (.prep b noTl (List.replicate 16 noVt))).yield b).promise b).role (.lead b want.length (List.replicate 16 noPp))) []) = one (((((r.promise b).role (.prep b noTl (List.replicate 16 noVt))).yield b).promise b).role (.lead b want.length (List.replicate 16 noPp))) [] := fun k => settle_nil k _ rfl
  refine (congrArg (Sy.settle 19998) e3).trans ((e4 _).trans ?_)
  unfold Rp.led
  rw [hb]
  rfl
theorem ai_led {r : Rp} {want : List Pst} (h : AI r want) : AI (r.led want.length) want := by
  refine ⟨h.le, h.dec, h.acc, rfl, rfl, by simp, fun k hk => ?_, fun x hx => ?_⟩
  · rw [List.getD_eq_getElem?_getD, List.getElem?_replicate]
    split <;> rfl
  · rw [List.eq_of_mem_replicate hx]; exact .inl rfl

theorem not_same {p : Pst} (hp : rightPostB p = true) : sameB noPst p = false := by
  unfold rightPostB withinB at hp
  unfold sameB noPst
  simp at hp ⊢
  omega
theorem ai_any {r : Rp} {want : List Pst} (h : AI r want) {b : Int} {n : Nat} {ps : List Pp} (hrl : r.rl = .lead b n ps) {p : Pst} (hp : rightPostB p = true) :
    (r.dec.any (fun d => sameB d.p p) || ps.any (fun x => sameB x.p p)) = want.any (fun q => sameB q p) := by
  have h1 := h.rl
  rw [hrl] at h1
  obtain ⟨_, _, _, _, hps⟩ := h1
  rw [h.dec]
  have hz := not_same hp
  have hd : (dsOf want).any (fun d => sameB d.p p) = want.any (fun q => sameB q p) := by
    unfold dsOf
    rw [List.any_append, List.any_map]
    have : (List.replicate (16 - want.length) noDn).any (fun d => sameB d.p p) = false := by
      rw [List.any_eq_false]
      intro x hx
      rw [List.eq_of_mem_replicate hx]
      show ¬ sameB noPst p = true
      rw [hz]; decide
    rw [this, Bool.or_false]
    rfl
  rw [hd]
  cases hw : want.any (fun q => sameB q p) with
  | true => rfl
  | false =>
    rw [Bool.false_or, List.any_eq_false]
    intro x hx hs
    rw [List.any_eq_false] at hw
    rcases hps x hx with e | e
    · rw [e, hz] at hs; cases hs
    · exact hw _ e hs
def aloE (want : List Pst) (p : Pst) : Int := if want.any (fun q => sameB q p) then 4 else if want.length = 16 then 5 else 0
theorem ai_subE {r : Rp} {want : List Pst} (h : AI r want) {b : Int} {n : Nat} {ps : List Pp} (hrl : r.rl = .lead b n ps) {p : Pst} (hp : rightPostB p = true) : (one r []).subE 0 p = aloE want p := by
  have h1 := h.rl
  rw [hrl] at h1
  unfold Sy.subE aloE
  rw [one_rep, hrl]
  dsimp only
  rw [ai_any h hrl hp, h1.1]
  have hz : ((one r []).net.length : Int) + ((one r []).n : Int) ≤ 200 := by simp [one]
  rw [if_pos hz]
def Rp.took (r : Rp) (want : List Pst) (p : Pst) : Rp :=
  match r.rl with
  | .lead b n ps => ⟨b, max r.sn b, r.acc.set want.length ⟨want.length, b, p⟩, dsOf (want ++ [p]), .lead b (want.length + 1) (ps.set want.length ⟨p, noTl.add 0⟩)⟩
  | _ => r
theorem ai_sub {r : Rp} {want : List Pst} (h : AI r want) {b : Int} {n : Nat} {ps : List Pp} (hrl : r.rl = .lead b n ps) {p : Pst} (hp : rightPostB p = true) (hE : aloE want p = 0) : Sy.settle 20000 ((one r []).submit 0 p) = one (r.took want p) [] ∧ AI (r.took want p) (want ++ [p]) := by
  have h1 := h.rl
  rw [hrl] at h1
  obtain ⟨hn, hbp, hlen, hno, hps⟩ := h1
  have hlt : want.length < 16 := by
    have := h.le
    unfold aloE at hE
    split at hE
    · cases hE
    · split at hE
      · cases hE
      · omega
  constructor
  · unfold Sy.submit
    rw [ai_subE h hrl hp, hE, if_pos rfl]
    have hnx : ((one r []).rep 0).next = want.length := by rw [one_rep]; unfold Rp.next; rw [hrl]; exact hn
    rw [hnx]
    have hpr : (one r []).propose 0 want.length p = one (r.role (.lead b n (ps.set want.length ⟨p, noTl⟩))) [(msg 3 b (want.length : Int) p []).to 0 0] := by
      unfold Sy.propose
      rw [one_rep, hrl]
      dsimp only
      rw [hno _ (Nat.le_refl _), one_put]
      rfl
    rw [hpr, one_rep]
    have e0 : (one (r.role (.lead b n (ps.set want.length ⟨p, noTl⟩))) [(msg 3 b (want.length : Int) p []).to 0 0]).put 0 (r.role (.lead b n (ps.set want.length ⟨p, noTl⟩))).bump = one (r.role (.lead b (want.length + 1) (ps.set want.length ⟨p, noTl⟩))) [(msg 3 b (want.length : Int) p []).to 0 0] := by
      rw [one_put, hn]; rfl
    rw [e0]
    show Sy.settle (19999 + 1) _ = _
    rw [settle_step _ _ (by simp [one]), one_dlv _ _ rfl]
    have e1 : ∀ (r : Rp) (m : Ms), m.k = 3 → r.pr ≤ m.b → m.f = 0 → (one r []).receive 0 m = one (((r.yield m.b).promise m.b).accept m.s.toNat ⟨m.s, m.b, m.p⟩) [(msg 4 m.b m.s noPst []).to 0 0] := by
      intro r m hk hb hf
      unfold Sy.receive
      rw [if_neg (by omega), if_neg (by omega), if_pos hk]
      unfold Sy.takePropose
      rw [one_rep, if_neg (by omega), one_obey _ _ hb, hf, one_rep]
      rfl
    rw [e1 _ _ rfl (by show r.pr ≤ b; omega) rfl]
    show Sy.settle (19998 + 1) (one (((Rp.yield _ b).promise b).accept want.length ⟨(want.length : Int), b, p⟩) [(msg 4 b (want.length : Int) noPst []).to 0 0]) = _
    rw [settle_step _ _ (by simp [one]), one_dlv _ _ rfl]
    have e2 : ∀ (r' : Rp), r'.rl = .lead b (want.length + 1) (ps.set want.length ⟨p, noTl⟩) → r'.dec = r.dec → (one r' []).receive 0 ((msg 4 b (want.length : Int) noPst []).to 0 0) = one ((r'.role (.lead b (want.length + 1) (ps.set want.length ⟨p, noTl.add 0⟩))).decide want.length p) [] := by
      intro r' hrl' hd
      unfold Sy.receive
      have hk4 : ((msg 4 b (want.length : Int) noPst []).to 0 0).k = 4 := rfl
      rw [if_neg (by rw [hk4]; decide), if_neg (by rw [hk4]; decide), if_neg (by rw [hk4]; decide), if_pos hk4]
      unfold Sy.takeAccept
      rw [one_rep, hrl']
      have hg : (ps.set want.length ⟨p, noTl⟩).getD want.length noPp = ⟨p, noTl⟩ := by
        rw [List.getD_eq_getElem?_getD, List.getElem?_set_self (by omega)]; rfl
      have hs : ((msg 4 b (want.length : Int) noPst []).to 0 0).s.toNat = want.length := rfl
      dsimp only
      rw [hs, hg]
      have hdm : r'.dm want.length = false := by
        unfold Rp.dm; rw [hd, h.dec, dsOf_ge _ (Nat.le_refl _)]; rfl
      rw [if_pos ⟨rfl, hdm, rfl⟩, if_pos (by show ((1 : Nat) : Int) < 2 * ((0 : Int) + 1); decide), List.set_set]
      rfl
    have e3 := e2 ((((r.role (.lead b (want.length + 1) (ps.set want.length ⟨p, noTl⟩))).yield b).promise b).accept want.length ⟨(want.length : Int), b, p⟩) (yield_rl (r.role (.lead b (want.length + 1) (ps.set want.length ⟨p, noTl⟩))) b rfl) rfl
    rw [e3, settle_nil _ _ rfl]
    unfold Rp.took
    rw [hrl]
    dsimp only
    rw [← dsOf_set want p hlt, ← h.dec]
    rfl
  · unfold Rp.took
    rw [hrl]
    dsimp only
    refine ⟨by rw [List.length_append]; simp; omega, rfl, fun v hv hb => ?_, by simp, rfl, by simpa using hlen, fun k hk => ?_, fun x hx => ?_⟩
    · rw [List.length_append]
      rcases List.mem_or_eq_of_mem_set hv with hv | rfl
      · have := h.acc v hv hb
        simp; omega
      · simp
    · rw [List.length_append] at hk
      simp at hk
      rw [List.getD_eq_getElem?_getD, List.getElem?_set_ne (by omega), ← List.getD_eq_getElem?_getD]
      exact hno k (by omega)
    · rcases List.mem_or_eq_of_mem_set hx with hx | rfl
      · rcases hps x hx with e | e
        · exact .inl e
        · exact .inr (List.mem_append_left _ e)
      · exact .inr (by simp)
theorem ai_not {r : Rp} {want : List Pst} (h : AI r want) {b : Int} {n : Nat} {ps : List Pp} (hrl : r.rl = .lead b n ps) {p : Pst} (hp : rightPostB p = true) (hE : aloE want p ≠ 0) : Sy.settle 20000 ((one r []).submit 0 p) = one r [] := by
  unfold Sy.submit
  rw [ai_subE h hrl hp, if_neg hE, settle_nil _ _ rfl]
theorem one_of {s : Sy} (ok : s.ok) (hn : s.n = 1) (he : s.net = []) : s = one (s.rep 0) [] := by
  have hl := ok.len
  obtain ⟨n, reps, net⟩ := s
  simp only at hn he hl
  subst hn; subst he
  match reps, hl with
  | [r], _ => rfl
end Go.Proofs.Ytnnhnekfokbooaa
