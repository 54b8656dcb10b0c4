/- Why no two replicas decide differently: on the plain machine. -/
import Derived.Test.YtnnhnekfokbooaaFir
namespace Go.Proofs.Ytnnhnekfokbooaa
set_option linter.unusedSimpArgs false
set_option linter.unusedVariables false

/-! Majorities. -/
def cnt (f : Nat → Bool) : Nat → Nat
  | 0 => 0
  | k + 1 => cnt f k + (if f k then 1 else 0)
def maj (n : Nat) (f : Nat → Bool) : Prop := n < 2 * cnt f n
theorem cnt_both (f g : Nat → Bool) : ∀ n, cnt f n + cnt g n ≤ n + cnt (fun i => f i && g i) n
  | 0 => Nat.le_refl _
  | n + 1 => by
    have := cnt_both f g n
    unfold cnt
    cases f n <;> cases g n <;> simp <;> omega
theorem cnt_zero (f : Nat → Bool) : ∀ n, (∀ i, i < n → f i = false) → cnt f n = 0
  | 0, _ => rfl
  | n + 1, h => by
    unfold cnt
    rw [cnt_zero f n (fun i hi => h i (by omega)), h n (by omega)]
    rfl
theorem maj_meet {n : Nat} {f g : Nat → Bool} (hf : maj n f) (hg : maj n g) : ∃ r, r < n ∧ f r = true ∧ g r = true := by
  apply Classical.byContradiction
  intro h
  have hz := cnt_zero (fun i => f i && g i) n (fun i hi => by
    cases hfi : f i
    · rfl
    · cases hgi : g i
      · rfl
      · exact absurd ⟨i, hi, hfi, hgi⟩ h)
  have := cnt_both f g n
  unfold maj at hf hg
  omega
theorem cnt_more (f : Nat → Bool) : ∀ (n d : Nat), (∀ i, n ≤ i → f i = false) → cnt f (n + d) = cnt f n
  | n, 0, _ => rfl
  | n, d + 1, h => by
    show cnt f (n + d) + (if f (n + d) then 1 else 0) = cnt f n
    rw [cnt_more f n d h, h (n + d) (by omega)]
    rfl
theorem cnt7 : ∀ a0 a1 a2 a3 a4 a5 a6 : Bool, ([a0, a1, a2, a3, a4, a5, a6].filter id).length = cnt (fun i => [a0, a1, a2, a3, a4, a5, a6].getD i false) 7 := by decide
theorem Tl.cnt {t : Tl} (h : t.ok) {n : Nat} (hn : n ≤ 7) (hr : ∀ r, t.has r = true → r < n) : t.c = (Go.Proofs.Ytnnhnekfokbooaa.cnt t.has n : Int) := by
  obtain ⟨v, c⟩ := t
  obtain ⟨h1, h2⟩ := h
  have h1' : v.length = 7 := h1
  have h2' : c = ((v.filter id).length : Int) := h2
  have hc : (v.filter id).length = Go.Proofs.Ytnnhnekfokbooaa.cnt (fun i => v.getD i false) 7 := by
    match v, h1' with
    | [a0, a1, a2, a3, a4, a5, a6], _ => exact cnt7 a0 a1 a2 a3 a4 a5 a6
  have hm := cnt_more (fun i => v.getD i false) n (7 - n) (fun i hi => by
    cases hx : v.getD i false
    · rfl
    · have := hr i hx; omega)
  have e : n + (7 - n) = 7 := by omega
  rw [e] at hm
  show c = _
  rw [h2', hc, hm]
  rfl
theorem Tl.maj {t : Tl} (h : t.ok) {n : Nat} (hn : n ≤ 7) (hr : ∀ r, t.has r = true → r < n) (hc : (n : Int) < 2 * t.c) : Go.Proofs.Ytnnhnekfokbooaa.maj n t.has := by
  have := Tl.cnt h hn hr
  unfold Go.Proofs.Ytnnhnekfokbooaa.maj
  omega
theorem has_add {t : Tl} (h : t.ok) {k : Nat} (hk : k < 7) (r : Nat) : (t.add k).has r = true ↔ r = k ∨ t.has r = true := by
  unfold Tl.has Tl.add
  rw [List.getD_eq_getElem?_getD, List.getD_eq_getElem?_getD]
  by_cases e : r = k
  · subst e
    rw [List.getElem?_set_self (by rw [h.1]; exact hk)]
    simp
  · rw [List.getElem?_set_ne (Ne.symm e)]
    simp [e]
theorem noTl_has (r : Nat) : noTl.has r = false := by
  unfold Tl.has noTl
  simp only [List.getD_eq_getElem?_getD, List.getElem?_replicate]
  split <;> rfl

/-! What was proposed and voted: ghosts. -/
structure Co where
  n : Nat
  pr : Nat → Int
  P : Int → Nat → Option Pst
  V : Nat → Int → Nat → Prop
def Free (c : Co) (f : Nat → Bool) (b : Int) (k : Nat) : Prop := ∀ r, f r = true → ∀ b', b' < b → ¬ c.V r b' k
def Safe (c : Co) (b : Int) (k : Nat) (v : Pst) : Prop :=
  ∃ f, maj c.n f ∧ (∀ r, f r = true → b ≤ c.pr r) ∧ (Free c f b k ∨ ∃ b0, b0 < b ∧ c.P b0 k = some v ∧ ∀ r, f r = true → ∀ b', b0 < b' → b' < b → ¬ c.V r b' k)
def Chosen (c : Co) (k : Nat) (v : Pst) : Prop := ∃ b f, maj c.n f ∧ c.P b k = some v ∧ ∀ r, f r = true → c.V r b k
structure Co.Ok (c : Co) : Prop where
  v : ∀ r b k, c.V r b k → b ≤ c.pr r ∧ 0 < b ∧ k < 16 ∧ ∃ v, c.P b k = some v
  p : ∀ b k v, c.P b k = some v → Safe c b k v ∧ 0 < b
  own : ∀ b k v, c.P b k = some v → b ≤ c.pr (b % 8).toNat
/-- What is chosen stays so in every greater ballot. -/
theorem chosen_up {c : Co} (h : c.Ok) {b : Int} {k : Nat} {v : Pst} {f : Nat → Bool} (hf : maj c.n f) (hp : c.P b k = some v) (hv : ∀ r, f r = true → c.V r b k) : ∀ (d : Nat) (b' : Int), b' = b + d → ∀ v', c.P b' k = some v' → v' = v := by
  intro d
  induction d using Nat.strongRecOn with
  | ind d ih =>
    intro b' hb v' hp'
    by_cases hd : d = 0
    · subst hd
      have e : b' = b := by simpa using hb
      rw [e, hp] at hp'
      injection hp' with e
      exact e.symm
    · obtain ⟨g, hg, hpr, hs⟩ := (h.p b' k v' hp').1
      obtain ⟨r, _, h1, h2⟩ := maj_meet hf hg
      have hvr := hv r h1
      rcases hs with hs | ⟨b0, hb0, hp0, hs⟩
      · exact absurd hvr (hs r h2 b (by omega))
      · have hle : b ≤ b0 := by
          apply Classical.byContradiction
          intro hlt
          exact hs r h2 b (by omega) (by omega) hvr
        exact ih (b0 - b).toNat (by omega) b0 (by omega) v' hp0
theorem chosen_one {c : Co} (h : c.Ok) {k : Nat} {v v' : Pst} (h1 : Chosen c k v) (h2 : Chosen c k v') : v = v' := by
  obtain ⟨b, f, hf, hp, hv⟩ := h1
  obtain ⟨b', f', hf', hp', hv'⟩ := h2
  by_cases hle : b ≤ b'
  · exact (chosen_up h hf hp hv (b' - b).toNat b' (by omega) v' hp').symm
  · exact chosen_up h hf' hp' hv' (b - b').toNat b (by omega) v hp

/-- c' goes on from c by what replica j does. -/
structure Ext (j : Nat) (c c' : Co) : Prop where
  n : c'.n = c.n
  pr : ∀ r, c.pr r ≤ c'.pr r
  pr' : ∀ r, r ≠ j → c'.pr r = c.pr r
  P : ∀ b k v, c.P b k = some v → c'.P b k = some v
  P' : ∀ b k, b % 8 ≠ (j : Int) → c'.P b k = c.P b k
  V : ∀ r b k, c.V r b k → c'.V r b k
  V' : ∀ r b k, c'.V r b k → c.V r b k ∨ (r = j ∧ c.pr r ≤ b)
theorem Ext.refl (j : Nat) (c : Co) : Ext j c c := ⟨rfl, fun _ => Int.le_refl _, fun _ _ => rfl, fun _ _ _ h => h, fun _ _ _ => rfl, fun _ _ _ h => h, fun _ _ _ h => .inl h⟩
theorem Ext.noVote {j : Nat} {c c' : Co} (e : Ext j c c') {r : Nat} {b b' : Int} {k : Nat} (hb : b ≤ c.pr r) (hlt : b' < b) (h : ¬ c.V r b' k) : ¬ c'.V r b' k := fun hv => by
  rcases e.V' r b' k hv with h1 | ⟨_, h1⟩
  · exact h h1
  · omega
theorem Ext.safe {j : Nat} {c c' : Co} (e : Ext j c c') {b : Int} {k : Nat} {v : Pst} (h : Safe c b k v) : Safe c' b k v := by
  obtain ⟨f, hf, hpr, hs⟩ := h
  refine ⟨f, by rw [e.n]; exact hf, fun r hr => Int.le_trans (hpr r hr) (e.pr r), ?_⟩
  rcases hs with hs | ⟨b0, hb0, hp0, hs⟩
  · exact .inl (fun r hr b' hb' => e.noVote (hpr r hr) hb' (hs r hr b' hb'))
  · exact .inr ⟨b0, hb0, e.P _ _ _ hp0, fun r hr b' h1 h2 => e.noVote (hpr r hr) h2 (hs r hr b' h1 h2)⟩
theorem Ext.chosen {j : Nat} {c c' : Co} (e : Ext j c c') {k : Nat} {v : Pst} (h : Chosen c k v) : Chosen c' k v := by
  obtain ⟨b, f, hf, hp, hv⟩ := h
  exact ⟨b, f, by rw [e.n]; exact hf, e.P _ _ _ hp, fun r hr => e.V _ _ _ (hv r hr)⟩

/-! What messages and replicas tell of it. -/
structure MOk (c : Co) (m : Ms) : Prop where
  promise : m.k = 2 → m.b ≤ c.pr m.f.toNat ∧ (∀ v ∈ m.a, c.V m.f.toNat v.b v.s.toNat ∧ c.P v.b v.s.toNat = some v.p ∧ v.b ≤ m.b) ∧ ∀ k b', c.V m.f.toNat b' k → b' < m.b → ∃ v ∈ m.a, v.s.toNat = k ∧ b' ≤ v.b
  propose : m.k = 3 → c.P m.b m.s.toNat = some m.p
  accept : m.k = 4 → c.V m.f.toNat m.b m.s.toNat
  decide : m.k = 5 → Chosen c m.s.toNat m.p
theorem Ext.mok {j : Nat} {c c' : Co} (e : Ext j c c') {m : Ms} (h : MOk c m) : MOk c' m := by
  refine ⟨fun hk => ?_, fun hk => e.P _ _ _ (h.propose hk), fun hk => e.V _ _ _ (h.accept hk), fun hk => e.chosen (h.decide hk)⟩
  obtain ⟨h1, h2, h3⟩ := h.promise hk
  refine ⟨Int.le_trans h1 (e.pr _), fun v hv => ?_, fun k b' hv hb => ?_⟩
  · obtain ⟨a, b, d⟩ := h2 v hv
    exact ⟨e.V _ _ _ a, e.P _ _ _ b, d⟩
  · rcases e.V' _ _ _ hv with h4 | ⟨_, h4⟩
    · exact h3 k b' h4 hb
    · omega
structure AccOk (c : Co) (i : Nat) (acc : List Vt) : Prop where
  all : ∀ k b, c.V i b k → 0 < (acc.getD k noVt).b ∧ b ≤ (acc.getD k noVt).b
  is : ∀ k, 0 < (acc.getD k noVt).b → (acc.getD k noVt).s = k ∧ c.V i (acc.getD k noVt).b k ∧ c.P (acc.getD k noVt).b k = some (acc.getD k noVt).p
def DecOk (c : Co) (dec : List Dn) : Prop := ∀ k, (dec.getD k noDn).m = true → Chosen c k (dec.getD k noDn).p
structure PrepOk (c : Co) (i : Nat) (b : Int) (t : Tl) (kept : List Vt) : Prop where
  b0 : 0 < b
  own : b % 8 = i
  pr : b ≤ c.pr i
  none : ∀ k, c.P b k = none
  has : ∀ r, t.has r = true → r < c.n ∧ b ≤ c.pr r ∧ ∀ k b', c.V r b' k → b' < b → b' ≤ (kept.getD k noVt).b
  kept : ∀ k, 0 ≤ (kept.getD k noVt).b ∧ (0 < (kept.getD k noVt).b → (kept.getD k noVt).b < b ∧ c.P (kept.getD k noVt).b k = some (kept.getD k noVt).p)
structure LeadOk (c : Co) (i : Nat) (b : Int) (next : Nat) (ps : List Pp) : Prop where
  b0 : 0 < b
  own : b % 8 = i
  pr : b ≤ c.pr i
  none : ∀ k, next ≤ k → c.P b k = none
  is : ∀ k v, c.P b k = some v → v = (ps.getD k noPp).p
  has : ∀ k r, (ps.getD k noPp).t.has r = true → c.V r b k ∧ r < c.n
  free : ∀ k, next ≤ k → k < 16 → ∃ f, maj c.n f ∧ (∀ r, f r = true → b ≤ c.pr r) ∧ Free c f b k
def RoleOk (c : Co) (i : Nat) : Rl → Prop
  | .idle => True
  | .prep b t kept => PrepOk c i b t kept
  | .lead b next ps => LeadOk c i b next ps
structure RepOk (c : Co) (i : Nat) (r : Rp) : Prop where
  acc : AccOk c i r.acc
  dec : DecOk c r.dec
  role : RoleOk c i r.rl
theorem Ext.dec {j : Nat} {c c' : Co} (e : Ext j c c') {dec : List Dn} (h : DecOk c dec) : DecOk c' dec := fun k hk => e.chosen (h k hk)
theorem Ext.accNe {i j : Nat} {c c' : Co} (e : Ext j c c') (hij : i ≠ j) {acc : List Vt} (h : AccOk c i acc) : AccOk c' i acc := by
  refine ⟨fun k b hv => ?_, fun k hk => ?_⟩
  · rcases e.V' _ _ _ hv with h1 | ⟨h1, _⟩
    · exact h.all k b h1
    · exact absurd h1 hij
  · obtain ⟨a, b, d⟩ := h.is k hk
    exact ⟨a, e.V _ _ _ b, e.P _ _ _ d⟩
/-- A role stays true where nothing more is proposed with its ballot. -/
theorem Ext.role {i j : Nat} {c c' : Co} (e : Ext j c c') {l : Rl} (h : RoleOk c i l) (hP : ∀ b, l.bal = b → ∀ k, c'.P b k = c.P b k) : RoleOk c' i l := by
  cases l with
  | idle => trivial
  | prep b t kept =>
    have h' : PrepOk c i b t kept := h
    have hPb := hP b rfl
    show PrepOk c' i b t kept
    refine ⟨h'.b0, h'.own, Int.le_trans h'.pr (e.pr _), fun k => by rw [hPb]; exact h'.none k, fun r hr => ?_, fun k => ?_⟩
    · obtain ⟨h1, h2, h3⟩ := h'.has r hr
      refine ⟨by rw [e.n]; exact h1, Int.le_trans h2 (e.pr _), fun k b' hv hb => ?_⟩
      rcases e.V' _ _ _ hv with h4 | ⟨_, h4⟩
      · exact h3 k b' h4 hb
      · omega
    · obtain ⟨h1, h2⟩ := h'.kept k
      exact ⟨h1, fun h0 => ⟨(h2 h0).1, e.P _ _ _ (h2 h0).2⟩⟩
  | lead b next ps =>
    have h' : LeadOk c i b next ps := h
    have hPb := hP b rfl
    show LeadOk c' i b next ps
    refine ⟨h'.b0, h'.own, Int.le_trans h'.pr (e.pr _), fun k hk => by rw [hPb]; exact h'.none k hk, fun k v hv => by rw [hPb] at hv; exact h'.is k v hv, fun k r hr => ⟨e.V _ _ _ (h'.has k r hr).1, by rw [e.n]; exact (h'.has k r hr).2⟩, fun k hk hk' => ?_⟩
    obtain ⟨f, hf, hpr, hfr⟩ := h'.free k hk hk'
    exact ⟨f, by rw [e.n]; exact hf, fun r hr => Int.le_trans (hpr r hr) (e.pr r), fun r hr b' hb' => e.noVote (hpr r hr) hb' (hfr r hr b' hb')⟩
theorem RoleOk.own {c : Co} {i : Nat} {l : Rl} (h : RoleOk c i l) (hl : l ≠ .idle) : l.bal % 8 = i := by
  cases l with
  | idle => exact absurd rfl hl
  | prep b t kept => exact PrepOk.own h
  | lead b next ps => exact LeadOk.own h
def co (P : Int → Nat → Option Pst) (V : Nat → Int → Nat → Prop) (s : Sy) : Co := ⟨s.n, fun i => (s.rep i).pr, P, V⟩
structure PInv (P : Int → Nat → Option Pst) (V : Nat → Int → Nat → Prop) (s : Sy) : Prop where
  ok : (co P V s).Ok
  net : ∀ m ∈ s.net, MOk (co P V s) m
  rep : ∀ i, i < s.n → RepOk (co P V s) i (s.rep i)
/-- What replica j does, put together. -/
theorem PInv.step {P P' : Int → Nat → Option Pst} {V V' : Nat → Int → Nat → Prop} {s s' : Sy} (h : PInv P V s) {j : Nat} (hn : s'.n = s.n) (hne : ∀ i, i ≠ j → s'.rep i = s.rep i) (e : Ext j (co P V s) (co P' V' s')) (hok : (co P' V' s').Ok) (hnet : ∀ m ∈ s'.net, m ∈ s.net ∨ MOk (co P' V' s') m) (hj : RepOk (co P' V' s') j (s'.rep j)) : PInv P' V' s' := by
  refine ⟨hok, fun m hm => ?_, fun i hi => ?_⟩
  · rcases hnet m hm with h1 | h1
    · exact e.mok (h.net m h1)
    · exact h1
  · by_cases hij : i = j
    · rw [hij]; exact hj
    · rw [hne i hij]
      have hr := h.rep i (by rw [← hn]; exact hi)
      refine ⟨e.accNe hij hr.acc, e.dec hr.dec, e.role hr.role (fun b hb k => ?_)⟩
      by_cases hl : (s.rep i).rl = .idle
      · rw [hl] at hb
        have hb' : b = 0 := hb.symm
        cases hx : (co P' V' s').P b k with
        | none =>
          cases hy : (co P V s).P b k with
          | none => rfl
          | some v => rw [e.P _ _ _ hy] at hx; cases hx
        | some v => have := (hok.p _ _ _ hx).2; omega
      · have := hr.role.own hl
        rw [hb] at this
        exact e.P' b k (by rw [this]; intro h9; exact hij (by omega))
theorem send_mem (x : Ms) (f : Nat) : ∀ (tos : List Nat) (s : Sy) (m : Ms), m ∈ (s.sendTo x f tos).net → m ∈ s.net ∨ ∃ t ∈ tos, m = x.to (f : Int) (t : Int)
  | [], s, m, h => .inl h
  | t :: tos, s, m, h => by
    rcases send_mem x f tos _ m h with h1 | ⟨u, hu, h1⟩
    · unfold Sy.send1 at h1
      simp only at h1
      split at h1
      · rcases List.mem_append.1 h1 with h2 | h2
        · exact .inl h2
        · exact .inr ⟨t, List.mem_cons_self, List.mem_singleton.1 h2⟩
      · exact .inl h1
    · exact .inr ⟨u, List.mem_cons_of_mem _ hu, h1⟩
/-- A message that tells nothing. -/
theorem mok_plain {c : Co} {m : Ms} (h : m.k = 1 ∨ m.k = 6) : MOk c m := by
  refine ⟨fun hk => ?_, fun hk => ?_, fun hk => ?_, fun hk => ?_⟩ <;> (rcases h with h | h <;> (rw [h] at hk; simp at hk))

/-! Every move keeps it. -/
variable {P : Int → Nat → Option Pst} {V : Nat → Int → Nat → Prop} {s s' : Sy}
theorem co_same (hn : s'.n = s.n) (hpr : ∀ i, (s'.rep i).pr = (s.rep i).pr) : co P V s' = co P V s := by
  unfold co
  rw [hn]
  congr 1
  funext i
  exact hpr i
theorem PInv.stepSame (h : PInv P V s) {j : Nat} (hn : s'.n = s.n) (hne : ∀ i, i ≠ j → s'.rep i = s.rep i) (hpr : (s'.rep j).pr = (s.rep j).pr) (hnet : ∀ m ∈ s'.net, m ∈ s.net ∨ MOk (co P V s) m) (hj : RepOk (co P V s) j (s'.rep j)) : PInv P V s' := by
  have e : co P V s' = co P V s := co_same hn (fun i => by by_cases hij : i = j; (rw [hij]; exact hpr); rw [hne i hij])
  exact h.step hn hne (by rw [e]; exact Ext.refl j _) (by rw [e]; exact h.ok) (by rw [e]; exact hnet) (by rw [e]; exact hj)
theorem PInv.netOnly (h : PInv P V s) (hn : s'.n = s.n) (hr : ∀ i, s'.rep i = s.rep i) (hnet : ∀ m ∈ s'.net, m ∈ s.net ∨ MOk (co P V s) m) : PInv P V s' := by
  have e : co P V s' = co P V s := co_same hn (fun i => by rw [hr])
  refine ⟨by rw [e]; exact h.ok, fun m hm => ?_, fun i hi => ?_⟩
  · rw [e]
    rcases hnet m hm with h1 | h1
    · exact h.net m h1
    · exact h1
  · rw [e, hr]
    exact h.rep i (by rw [← hn]; exact hi)
theorem ext_pr {j : Nat} (hn : s'.n = s.n) (hne : ∀ i, i ≠ j → s'.rep i = s.rep i) (hpr : (s.rep j).pr ≤ (s'.rep j).pr) : Ext j (co P V s) (co P V s') := by
  refine ⟨hn, fun r => ?_, fun r hr => ?_, fun _ _ _ h => h, fun _ _ _ => rfl, fun _ _ _ h => h, fun _ _ _ h => .inl h⟩
  · by_cases hr : r = j
    · rw [hr]; exact hpr
    · show (s.rep r).pr ≤ (s'.rep r).pr
      rw [hne r hr]; exact Int.le_refl _
  · show (s'.rep r).pr = (s.rep r).pr
    rw [hne r hr]
theorem ok_pr {j : Nat} (h : (co P V s).Ok) (e : Ext j (co P V s) (co P V s')) : (co P V s').Ok :=
  ⟨fun r b k hv => by
    obtain ⟨h1, h2, h3, h4⟩ := h.v r b k hv
    exact ⟨Int.le_trans h1 (e.pr r), h2, h3, h4⟩, fun b k v hp => ⟨e.safe (h.p b k v hp).1, (h.p b k v hp).2⟩, fun b k v hp => Int.le_trans (h.own b k v hp) (e.pr _)⟩
theorem acc_ext {j i : Nat} {c c' : Co} (e : Ext j c c') (hV : ∀ b k, c'.V i b k → c.V i b k) {acc : List Vt} (h : AccOk c i acc) : AccOk c' i acc :=
  ⟨fun k b hv => h.all k b (hV b k hv), fun k hk => by
    obtain ⟨a, b, d⟩ := h.is k hk
    exact ⟨a, e.V _ _ _ b, e.P _ _ _ d⟩⟩

theorem pinv_new (n : Nat) (hn : n ≤ 7) : PInv (fun _ _ => none) (fun _ _ _ => False) (newSy n) := by
  refine ⟨⟨fun r b k h => h.elim, fun b k v h => (nomatch (show (none : Option Pst) = some v from h)), fun b k v h => (nomatch (show (none : Option Pst) = some v from h))⟩, by simp [newSy], fun i hi => ?_⟩
  have e : (newSy n).rep i = noRp := by
    have : i < n := hi
    unfold newSy Sy.rep
    simp [List.getD_eq_getElem?_getD, this]
  rw [e]
  refine ⟨⟨fun k b h => h.elim, fun k hk => ?_⟩, fun k hk => ?_, trivial⟩
  · have : (noRp.acc.getD k noVt).b = 0 := by
      unfold noRp
      simp only [List.getD_eq_getElem?_getD, List.getElem?_replicate]
      split <;> rfl
    omega
  · have : (noRp.dec.getD k noDn).m = false := by
      unfold noRp
      simp only [List.getD_eq_getElem?_getD, List.getElem?_replicate]
      split <;> rfl
    rw [this] at hk; cases hk

theorem pinv_lose (h : PInv P V s) (k : Nat) : PInv P V (s.without k) :=
  h.netOnly rfl (fun _ => rfl) (fun m hm => .inl (List.mem_of_mem_eraseIdx hm))
theorem pinv_dbl (h : PInv P V s) (k : Nat) (hk : k < s.net.length) : PInv P V (s.double k) := by
  refine h.netOnly rfl (fun _ => rfl) (fun m hm => ?_)
  unfold Sy.double Sy.send1 at hm
  simp only at hm
  split at hm
  · rcases List.mem_append.1 hm with h1 | h1
    · exact .inl h1
    · rw [List.mem_singleton.1 h1]
      exact .inl (by rw [List.getD_eq_getElem?_getD, List.getElem?_eq_getElem hk]; exact List.getElem_mem hk)
  · exact .inl hm
theorem pinv_crash (h : PInv P V s) (hok : s.ok) {i : Nat} (hi : i < s.n) : PInv P V (s.crash i) := by
  have hP := rep_put' hok.len hi ⟨(s.rep i).pr, 0, (s.rep i).acc, (s.rep i).dec, .idle⟩
  have hr := h.rep i hi
  refine h.stepSame (j := i) rfl (fun r hr => ?_) ?_ (fun m hm => .inl hm) ?_
  · unfold Sy.crash; rw [hP, if_neg hr]
  · unfold Sy.crash; rw [hP, if_pos rfl]
  · unfold Sy.crash; rw [hP, if_pos rfl]
    exact ⟨hr.acc, hr.dec, trivial⟩
theorem pinv_camp (h : PInv P V s) (hok : s.ok) {i : Nat} (hi : i < s.n) : PInv P V (s.campaign i) := by
  unfold Sy.campaign
  split
  · rename_i hE
    have hn7 := hok.n1
    have hr := h.rep i hi
    have hP := rep_put' hok.len hi (((s.rep i).promise (8 * (s.rep i).round + i)).role (.prep (8 * (s.rep i).round + i) noTl (List.replicate 16 noVt)))
    have hlt : (s.rep i).pr < 8 * (s.rep i).round + i := by unfold Rp.round; omega
    have h0 := (hok.repOk hi).pr0
    have hrr : ∀ r, ((s.put i (((s.rep i).promise (8 * (s.rep i).round + i)).role (.prep (8 * (s.rep i).round + i) noTl (List.replicate 16 noVt)))).sendTo (msg 1 (8 * (s.rep i).round + i) 0 noPst []) i s.all).rep r = if r = i then ((s.rep i).promise (8 * (s.rep i).round + i)).role (.prep (8 * (s.rep i).round + i) noTl (List.replicate 16 noVt)) else s.rep r := fun r => by rw [rep_send, hP]
    have hpos : 0 < 8 * (s.rep i).round + (i : Int) := by omega
    have hmod : (8 * (s.rep i).round + (i : Int)) % 8 = i := by omega
    generalize 8 * (s.rep i).round + (i : Int) = B at *
    generalize hs' : (s.put i (((s.rep i).promise B).role (.prep B noTl (List.replicate 16 noVt)))).sendTo (msg 1 B 0 noPst []) i s.all = s' at *
    have hn : s'.n = s.n := by rw [← hs', sendTo_n]; rfl
    have hj : s'.rep i = ((s.rep i).promise B).role (.prep B noTl (List.replicate 16 noVt)) := by rw [hrr, if_pos rfl]
    have hne : ∀ r, r ≠ i → s'.rep r = s.rep r := fun r hr => by rw [hrr, if_neg hr]
    have e : Ext i (co P V s) (co P V s') := ext_pr hn hne (by rw [hj]; show (s.rep i).pr ≤ B; omega)
    have hpi : (co P V s').pr i = B := by show (s'.rep i).pr = B; rw [hj]; rfl
    refine h.step hn hne e (ok_pr h.ok e) (fun m hm => ?_) ?_
    · rw [← hs'] at hm
      rcases send_mem _ _ _ _ m hm with h1 | ⟨t, _, rfl⟩
      · exact .inl h1
      · exact .inr (mok_plain (.inl rfl))
    · rw [hj]
      refine ⟨acc_ext e (fun _ _ h => h) hr.acc, e.dec hr.dec, ?_⟩
      show PrepOk (co P V s') i B noTl (List.replicate 16 noVt)
      refine ⟨hpos, hmod, by rw [hpi]; exact Int.le_refl _, fun k => ?_, fun r hr => ?_, fun k => ?_⟩
      · cases hx : (co P V s').P B k with
        | none => rfl
        | some v =>
          have h1 := h.ok.own B k v hx
          rw [hmod] at h1
          have h2 : B ≤ (s.rep i).pr := by simpa [co] using h1
          omega
      · rw [noTl_has] at hr; cases hr
      · have : ((List.replicate 16 noVt).getD k noVt).b = 0 := by
          simp only [List.getD_eq_getElem?_getD, List.getElem?_replicate]
          split <;> rfl
        rw [this]
        exact ⟨Int.le_refl _, fun h => by omega⟩
  · exact h

/-- What ballot b proposes for slot k. -/
def updP (P : Int → Nat → Option Pst) (b : Int) (Q : Nat → Option Pst) : Int → Nat → Option Pst := fun b' k => if b' = b then (match Q k with | some v => some v | none => P b' k) else P b' k
theorem updP_ne {b b' : Int} {Q : Nat → Option Pst} (h : b' ≠ b) (k : Nat) : updP P b Q b' k = P b' k := by unfold updP; rw [if_neg h]
theorem updP_some {b : Int} {Q : Nat → Option Pst} {k : Nat} {v : Pst} (h : Q k = some v) : updP P b Q b k = some v := by unfold updP; rw [if_pos rfl, h]
theorem updP_none {b : Int} {Q : Nat → Option Pst} {k : Nat} (h : Q k = none) : updP P b Q b k = P b k := by unfold updP; rw [if_pos rfl, h]
/-- New proposals of replica j's own ballot, where there was none, each safe. -/
theorem ext_prop {j : Nat} (hn : s'.n = s.n) (hpr : ∀ i, (s'.rep i).pr = (s.rep i).pr) {b : Int} {Q : Nat → Option Pst} (hb : b % 8 = j) (hQ : ∀ k v, Q k = some v → P b k = none) : Ext j (co P V s) (co (updP P b Q) V s') := by
  refine ⟨hn, fun r => by show (s.rep r).pr ≤ (s'.rep r).pr; rw [hpr]; exact Int.le_refl _, fun r _ => hpr r, fun b' k v hp => ?_, fun b' k hb' => ?_, fun _ _ _ h => h, fun _ _ _ h => .inl h⟩
  · show updP P b Q b' k = some v
    have hp' : P b' k = some v := hp
    by_cases hbb : b' = b
    · subst hbb
      cases hq : Q k with
      | none => rw [updP_none hq]; exact hp'
      | some u => rw [hQ k u hq] at hp'; cases hp'
    · rw [updP_ne hbb]; exact hp'
  · show updP P b Q b' k = P b' k
    exact updP_ne (fun h => hb' (by rw [h]; exact hb)) k
theorem ok_prop {j : Nat} (h : (co P V s).Ok) {b : Int} {Q : Nat → Option Pst} (e : Ext j (co P V s) (co (updP P b Q) V s')) (hb : b % 8 = j) (hb0 : 0 < b) (hbp : b ≤ (co P V s).pr j) (hS : ∀ k v, Q k = some v → Safe (co P V s) b k v) : (co (updP P b Q) V s').Ok := by
  refine ⟨fun r b' k hv => ?_, fun b' k v hp => ?_, fun b' k v hp => ?_⟩
  · obtain ⟨h1, h2, h3, v, h4⟩ := h.v r b' k hv
    exact ⟨Int.le_trans h1 (e.pr r), h2, h3, v, e.P _ _ _ h4⟩
  · have hp' : updP P b Q b' k = some v := hp
    by_cases hbb : b' = b
    · subst hbb
      cases hq : Q k with
      | none =>
        rw [updP_none hq] at hp'
        exact ⟨e.safe (h.p b' k v hp').1, (h.p b' k v hp').2⟩
      | some u =>
        rw [updP_some hq] at hp'
        injection hp' with hp'
        exact ⟨e.safe (hS k v (by rw [hq, hp'])), hb0⟩
    · rw [updP_ne hbb] at hp'
      exact ⟨e.safe (h.p b' k v hp').1, (h.p b' k v hp').2⟩
  · have hp' : updP P b Q b' k = some v := hp
    by_cases hbb : b' = b
    · subst hbb
      rw [hb, Int.toNat_natCast]
      exact Int.le_trans hbp (e.pr j)
    · rw [updP_ne hbb] at hp'
      exact Int.le_trans (h.own b' k v hp') (e.pr _)

theorem getD_set {α : Type} (l : List α) (k q : Nat) (x d : α) : (l.set k x).getD q d = if q = k ∧ k < l.length then x else l.getD q d := by
  rw [List.getD_eq_getElem?_getD, List.getD_eq_getElem?_getD]
  by_cases e : q = k
  · subst e
    by_cases hl : q < l.length
    · rw [List.getElem?_set_self hl, if_pos ⟨rfl, hl⟩]; rfl
    · rw [if_neg (by intro h; exact hl h.2), List.getElem?_eq_none (by rw [List.length_set]; omega), List.getElem?_eq_none (by omega)]
  · rw [List.getElem?_set_ne (Ne.symm e), if_neg (by intro h; exact e h.1)]
theorem pinv_sub (h : PInv P V s) (hok : s.ok) {i : Nat} (hi : i < s.n) (p : Pst) : ∃ P', PInv P' V (s.submit i p) := by
  unfold Sy.submit
  split
  · rename_i hE
    obtain ⟨b, next, ps, hrl, hn16⟩ := subE_lead hE
    have hrk := (hok.repOk hi).rl
    rw [hrl] at hrk
    have hnx : next < 16 := by have := hrk.1; omega
    have hpl : ps.length = 16 := hrk.2.1
    have hnext : (s.rep i).next = next := by unfold Rp.next; rw [hrl]
    rw [hnext]
    have hr := h.rep i hi
    have hL : LeadOk (co P V s) i b next ps := by have := hr.role; rw [hrl] at this; exact this
    have hpn := propose_n s i next p
    have hprep := propose_rep hok hi hrl next p
    have hpne := fun r (hr : r ≠ i) => propose_rep_ne s i next p hr
    have hpnet : ∀ m ∈ (s.propose i next p).net, m ∈ s.net ∨ ∃ t ∈ s.all, m = (msg 3 b (next : Int) p []).to (i : Int) (t : Int) := fun m hm => by
      unfold Sy.propose at hm
      rw [hrl] at hm
      exact send_mem (msg 3 b (next : Int) p []) i s.all (s.put i ((s.rep i).role (.lead b next (ps.set next ⟨p, (ps.getD next noPp).t⟩)))) m hm
    have hlen : (s.propose i next p).reps.length = (s.propose i next p).n := by
      rw [hpn]
      unfold Sy.propose; rw [hrl]
      simp only
      rw [sendTo_reps]; simp only [Sy.put, List.length_set]; exact hok.len
    generalize s.propose i next p = s1 at *
    have hP := rep_put' hlen (i := i) (by rw [hpn]; exact hi) (s1.rep i).bump
    have hbump : (s1.rep i).bump = (s.rep i).role (.lead b (next + 1) (ps.set next ⟨p, (ps.getD next noPp).t⟩)) := by rw [hprep]; rfl
    have hrr : ∀ r, (s1.put i (s1.rep i).bump).rep r = if r = i then (s.rep i).role (.lead b (next + 1) (ps.set next ⟨p, (ps.getD next noPp).t⟩)) else s.rep r := fun r => by
      rw [hP, hbump]
      split
      · rfl
      · rename_i hne; rw [hpne r hne]
    have hpr : ∀ r, ((s1.put i (s1.rep i).bump).rep r).pr = (s.rep r).pr := fun r => by
      rw [hrr]
      split
      · rename_i e; rw [e]; rfl
      · rfl
    have hnn : (s1.put i (s1.rep i).bump).n = s.n := hpn
    obtain ⟨Q, hQs, hQn⟩ : ∃ Q : Nat → Option Pst, Q next = some p ∧ ∀ k, k ≠ next → Q k = none := ⟨fun k => if k = next then some p else none, if_pos rfl, fun k hk => if_neg hk⟩
    have hQ : ∀ k v, Q k = some v → P b k = none := fun k v hk => by
      by_cases e : k = next
      · exact hL.none k (by omega)
      · rw [hQn k e] at hk; cases hk
    have e := ext_prop (V := V) hnn hpr hL.own hQ
    have hk := ok_prop h.ok e hL.own hL.b0 hL.pr (fun k v hv => by
      have hkn : k = next := by
        apply Classical.byContradiction
        intro hne; rw [hQn k hne] at hv; cases hv
      obtain ⟨f, hf, hp1, hfr⟩ := hL.free k (by omega) (by omega)
      exact ⟨f, hf, hp1, .inl hfr⟩)
    refine ⟨updP P b Q, h.step hnn (fun r hr => by rw [hrr, if_neg hr]) e hk (fun m hm => ?_) ?_⟩
    · rcases hpnet m hm with h1 | ⟨t, _, rfl⟩
      · exact .inl h1
      · right
        refine ⟨fun hk => by simp [Ms.to, msg] at hk, fun _ => ?_, fun hk => by simp [Ms.to, msg] at hk, fun hk => by simp [Ms.to, msg] at hk⟩
        show updP P b Q b (next : Int).toNat = some p
        rw [Int.toNat_natCast]
        exact updP_some hQs
    · rw [hrr, if_pos rfl]
      refine ⟨acc_ext e (fun _ _ h => h) hr.acc, e.dec hr.dec, ?_⟩
      show LeadOk (co (updP P b Q) V (s1.put i (s1.rep i).bump)) i b (next + 1) (ps.set next ⟨p, (ps.getD next noPp).t⟩)
      refine ⟨hL.b0, hL.own, Int.le_trans hL.pr (e.pr i), fun k hk => ?_, fun k v hv => ?_, fun k r hr => ?_, fun k hk hk' => ?_⟩
      · show updP P b Q b k = none
        rw [updP_none (hQn k (by omega))]
        exact hL.none k (by omega)
      · have hv' : updP P b Q b k = some v := hv
        rw [getD_set]
        by_cases ek : k = next
        · rw [if_pos ⟨ek, by omega⟩]
          rw [ek, updP_some hQs] at hv'
          injection hv' with hv'
          exact hv'.symm
        · rw [if_neg (fun h => ek h.1)]
          rw [updP_none (hQn k ek)] at hv'
          exact hL.is k v hv'
      · rw [getD_set] at hr
        have hr' : (ps.getD k noPp).t.has r = true := by
          split at hr
          · rename_i hc; rw [hc.1]; exact hr
          · exact hr
        exact ⟨e.V _ _ _ (hL.has k r hr').1, by rw [e.n]; exact (hL.has k r hr').2⟩
      · obtain ⟨f, hf, hp1, hfr⟩ := hL.free k (by omega) hk'
        exact ⟨f, by rw [e.n]; exact hf, fun r hr => Int.le_trans (hp1 r hr) (e.pr r), fun r hr b' hb' => e.noVote (hp1 r hr) hb' (hfr r hr b' hb')⟩
  · exact ⟨P, h⟩

/-! Messages that come. -/
theorem yield_role {c : Co} {i : Nat} {r : Rp} (h : RoleOk c i r.rl) (b : Int) : RoleOk c i (r.yield b).rl := by
  unfold Rp.yield
  simp only
  split
  · trivial
  · exact h
theorem pinv_refuse (h : PInv P V s) (i : Nat) (b : Int) (ts : List Nat) : PInv P V (s.sendTo (msg 6 b 0 noPst []) i ts) := by
  refine h.netOnly (sendTo_n _ _ _ _) (fun r => rep_send _ _ _ _ _) (fun m hm => ?_)
  rcases send_mem _ _ _ _ m hm with h1 | ⟨t, _, rfl⟩
  · exact .inl h1
  · exact .inr (mok_plain (.inr rfl))
theorem pinv_prepare (h : PInv P V s) (hok : s.ok) {i : Nat} (hi : i < s.n) {m : Ms} : PInv P V (s.takePrepare i m) := by
  unfold Sy.takePrepare
  split
  · rename_i hb
    unfold Sy.obey; rw [if_pos hb]
    exact pinv_refuse h i _ _
  · rename_i hb
    unfold Sy.obey; rw [if_neg hb]
    have hle : (s.rep i).pr ≤ m.b := by omega
    have hr := h.rep i hi
    have hP := rep_put' hok.len hi (((s.rep i).yield m.b).promise m.b)
    have hrr : ∀ r, ((s.put i (((s.rep i).yield m.b).promise m.b)).sendTo (msg 2 m.b 0 noPst (voted (s.rep i).acc)) i [m.f.toNat]).rep r = if r = i then ((s.rep i).yield m.b).promise m.b else s.rep r := fun r => by rw [rep_send, hP]
    generalize hs' : (s.put i (((s.rep i).yield m.b).promise m.b)).sendTo (msg 2 m.b 0 noPst (voted (s.rep i).acc)) i [m.f.toNat] = s' at *
    have hn : s'.n = s.n := by rw [← hs', sendTo_n]; rfl
    have hj : s'.rep i = ((s.rep i).yield m.b).promise m.b := by rw [hrr, if_pos rfl]
    have hne : ∀ r, r ≠ i → s'.rep r = s.rep r := fun r hr => by rw [hrr, if_neg hr]
    have e : Ext i (co P V s) (co P V s') := ext_pr hn hne (by rw [hj]; exact hle)
    have hpi : (co P V s').pr i = m.b := by show (s'.rep i).pr = m.b; rw [hj]; rfl
    refine h.step hn hne e (ok_pr h.ok e) (fun m' hm => ?_) ?_
    · rw [← hs'] at hm
      rcases send_mem _ _ _ _ m' hm with h1 | ⟨t, _, rfl⟩
      · exact .inl h1
      · right
        refine ⟨fun _ => ?_, fun hk => by simp [Ms.to, msg] at hk, fun hk => by simp [Ms.to, msg] at hk, fun hk => by simp [Ms.to, msg] at hk⟩
        show m.b ≤ (co P V s').pr (i : Int).toNat ∧ (∀ v ∈ voted (s.rep i).acc, V (i : Int).toNat v.b v.s.toNat ∧ P v.b v.s.toNat = some v.p ∧ v.b ≤ m.b) ∧ ∀ k b', V (i : Int).toNat b' k → b' < m.b → ∃ v ∈ voted (s.rep i).acc, v.s.toNat = k ∧ b' ≤ v.b
        rw [Int.toNat_natCast]
        refine ⟨by rw [hpi]; exact Int.le_refl _, fun v hv => ?_, fun k b' hv hb => ?_⟩
        · obtain ⟨hm1, hm2⟩ := List.mem_filter.1 hv
          obtain ⟨q, hq, rfl⟩ := List.getElem_of_mem hm1
          have hg : (s.rep i).acc.getD q noVt = (s.rep i).acc[q] := by rw [List.getD_eq_getElem?_getD, List.getElem?_eq_getElem hq]; rfl
          have hpos : 0 < ((s.rep i).acc.getD q noVt).b := by rw [hg]; simpa using hm2
          obtain ⟨h1, h2, h3⟩ := hr.acc.is q hpos
          rw [hg] at h1 h2 h3
          have e1 : ((s.rep i).acc[q]).s.toNat = q := by rw [h1, Int.toNat_natCast]
          rw [e1]
          refine ⟨h2, h3, ?_⟩
          have h4 := (h.ok.v i _ q h2).1
          have h5 : ((s.rep i).acc[q]).b ≤ (s.rep i).pr := h4
          omega
        · obtain ⟨h1, h2⟩ := hr.acc.all k b' hv
          have hk16 := (h.ok.v i b' k hv).2.2.1
          have hkl : k < (s.rep i).acc.length := by rw [(hok.repOk hi).acc]; exact hk16
          have hg : (s.rep i).acc.getD k noVt = (s.rep i).acc[k] := by rw [List.getD_eq_getElem?_getD, List.getElem?_eq_getElem hkl]; rfl
          obtain ⟨h3, _, _⟩ := hr.acc.is k h1
          rw [hg] at h1 h2 h3
          exact ⟨(s.rep i).acc[k], List.mem_filter.2 ⟨List.getElem_mem hkl, by simpa using h1⟩, by rw [h3, Int.toNat_natCast], h2⟩
    · rw [hj]
      exact ⟨acc_ext e (fun _ _ h => h) hr.acc, e.dec hr.dec, e.role (yield_role hr.role m.b) (fun _ _ _ => rfl)⟩
theorem pinv_propose (h : PInv P V s) (hok : s.ok) {i : Nat} (hi : i < s.n) {m : Ms} (hm : m.ok s.n) (hk3 : m.k = 3) (hmo : MOk (co P V s) m) : ∃ V', PInv P V' (s.takePropose i m) := by
  unfold Sy.takePropose
  split
  · rename_i hb
    unfold Sy.obey; rw [if_pos hb]
    exact ⟨V, pinv_refuse h i _ _⟩
  · rename_i hb
    unfold Sy.obey; rw [if_neg hb]
    have hle : (s.rep i).pr ≤ m.b := by omega
    have hr := h.rep i hi
    have hP := rep_put' hok.len hi (((s.rep i).yield m.b).promise m.b)
    have hP2 := rep_put' (s := s.put i (((s.rep i).yield m.b).promise m.b)) (by simp only [Sy.put, List.length_set]; exact hok.len) (i := i) hi (((s.put i (((s.rep i).yield m.b).promise m.b)).rep i).accept m.s.toNat ⟨m.s, m.b, m.p⟩)
    have hsl : m.s.toNat < 16 := by have := hm.s0; have := hm.s1; omega
    have hsl' : (m.s.toNat : Int) = m.s := by have := hm.s0; omega
    have hrr : ∀ r, (((s.put i (((s.rep i).yield m.b).promise m.b)).put i (((s.put i (((s.rep i).yield m.b).promise m.b)).rep i).accept m.s.toNat ⟨m.s, m.b, m.p⟩)).sendTo (msg 4 m.b m.s noPst []) i [m.f.toNat]).rep r = if r = i then (((s.rep i).yield m.b).promise m.b).accept m.s.toNat ⟨m.s, m.b, m.p⟩ else s.rep r := fun r => by
      rw [rep_send, hP2, hP, if_pos rfl]
      split
      · rfl
      · rename_i hne; rw [hP, if_neg hne]
    generalize hs' : ((s.put i (((s.rep i).yield m.b).promise m.b)).put i (((s.put i (((s.rep i).yield m.b).promise m.b)).rep i).accept m.s.toNat ⟨m.s, m.b, m.p⟩)).sendTo (msg 4 m.b m.s noPst []) i [m.f.toNat] = s' at *
    have hn : s'.n = s.n := by rw [← hs', sendTo_n]; rfl
    have hj : s'.rep i = (((s.rep i).yield m.b).promise m.b).accept m.s.toNat ⟨m.s, m.b, m.p⟩ := by rw [hrr, if_pos rfl]
    have hne : ∀ r, r ≠ i → s'.rep r = s.rep r := fun r hr => by rw [hrr, if_neg hr]
    have hpv : P m.b m.s.toNat = some m.p := hmo.propose hk3
    have hb0 := (h.ok.p _ _ _ hpv).2
    have hpi : ∀ V', (co P V' s').pr i = m.b := fun V' => by show (s'.rep i).pr = m.b; rw [hj]; rfl
    have e0 : Ext i (co P V s) (co P V s') := ext_pr hn hne (by rw [hj]; exact hle)
    refine ⟨fun r b k => V r b k ∨ (r = i ∧ b = m.b ∧ k = m.s.toNat), ?_⟩
    have e : Ext i (co P V s) (co P (fun r b k => V r b k ∨ (r = i ∧ b = m.b ∧ k = m.s.toNat)) s') :=
      ⟨hn, e0.pr, e0.pr', fun _ _ _ h => h, fun _ _ _ => rfl, fun _ _ _ h => .inl h, fun r b k hv => by
        rcases hv with h1 | ⟨h1, h2, h3⟩
        · exact .inl h1
        · right
          refine ⟨h1, ?_⟩
          rw [h1, h2]; exact hle⟩
    refine h.step hn hne e ⟨fun r b k hv => ?_, fun b k v hp => ⟨e.safe (h.ok.p b k v hp).1, (h.ok.p b k v hp).2⟩, fun b k v hp => Int.le_trans (h.ok.own b k v hp) (e.pr _)⟩ (fun m' hm' => ?_) ?_
    · rcases hv with h1 | ⟨h1, h2, h3⟩
      · obtain ⟨a1, a2, a3, a4⟩ := h.ok.v r b k h1
        exact ⟨Int.le_trans a1 (e.pr r), a2, a3, a4⟩
      · subst h1 h2 h3
        exact ⟨by rw [hpi]; exact Int.le_refl _, hb0, hsl, m.p, hpv⟩
    · rw [← hs'] at hm'
      rcases send_mem _ _ _ _ m' hm' with h1 | ⟨t, _, rfl⟩
      · exact .inl h1
      · right
        refine ⟨fun hk => by simp [Ms.to, msg] at hk, fun hk => by simp [Ms.to, msg] at hk, fun _ => ?_, fun hk => by simp [Ms.to, msg] at hk⟩
        exact .inr ⟨Int.toNat_natCast i, rfl, rfl⟩
    · rw [hj]
      refine ⟨⟨fun k b hv => ?_, fun k hk => ?_⟩, e.dec hr.dec, e.role (yield_role hr.role m.b) (fun _ _ _ => rfl)⟩
      · show 0 < (((s.rep i).acc.set m.s.toNat ⟨m.s, m.b, m.p⟩).getD k noVt).b ∧ b ≤ (((s.rep i).acc.set m.s.toNat ⟨m.s, m.b, m.p⟩).getD k noVt).b
        have hlen := (hok.repOk hi).acc
        rw [getD_set]
        by_cases ek : k = m.s.toNat
        · rw [if_pos ⟨ek, by omega⟩]
          refine ⟨hb0, ?_⟩
          rcases hv with h1 | ⟨_, h2, _⟩
          · have h4 : b ≤ (s.rep i).pr := (h.ok.v i b k h1).1
            show b ≤ m.b
            omega
          · show b ≤ m.b
            omega
        · rw [if_neg (fun h => ek h.1)]
          rcases hv with h1 | ⟨_, _, h3⟩
          · exact hr.acc.all k b h1
          · exact absurd h3 ek
      · have hk' : 0 < (((s.rep i).acc.set m.s.toNat ⟨m.s, m.b, m.p⟩).getD k noVt).b := hk
        show (((s.rep i).acc.set m.s.toNat ⟨m.s, m.b, m.p⟩).getD k noVt).s = k ∧ (V i (((s.rep i).acc.set m.s.toNat ⟨m.s, m.b, m.p⟩).getD k noVt).b k ∨ (i = i ∧ (((s.rep i).acc.set m.s.toNat ⟨m.s, m.b, m.p⟩).getD k noVt).b = m.b ∧ k = m.s.toNat)) ∧ P (((s.rep i).acc.set m.s.toNat ⟨m.s, m.b, m.p⟩).getD k noVt).b k = some (((s.rep i).acc.set m.s.toNat ⟨m.s, m.b, m.p⟩).getD k noVt).p
        have hlen := (hok.repOk hi).acc
        rw [getD_set] at hk' ⊢
        by_cases ek : k = m.s.toNat
        · rw [if_pos ⟨ek, by omega⟩]
          refine ⟨by rw [ek, hsl'], .inr ⟨rfl, rfl, ek⟩, ?_⟩
          rw [ek]; exact hpv
        · rw [if_neg (fun h => ek h.1)] at hk' ⊢
          obtain ⟨h1, h2, h3⟩ := hr.acc.is k hk'
          exact ⟨h1, .inl h2, h3⟩
theorem pinv_decide (h : PInv P V s) (hok : s.ok) {i : Nat} (hi : i < s.n) {m : Ms} (hm : m.ok s.n) (hk5 : m.k = 5) (hmo : MOk (co P V s) m) : PInv P V (s.takeDecide i m) := by
  unfold Sy.takeDecide
  split
  · exact h
  · have hr := h.rep i hi
    have hP := rep_put' hok.len hi ((s.rep i).decide m.s.toNat m.p)
    refine h.stepSame (j := i) rfl (fun r hr => by rw [hP, if_neg hr]) (by rw [hP, if_pos rfl]; rfl) (fun m hm => .inl hm) ?_
    rw [hP, if_pos rfl]
    refine ⟨hr.acc, fun k hk => ?_, hr.role⟩
    have hk' : (((s.rep i).dec.set m.s.toNat ⟨true, m.p⟩).getD k noDn).m = true := hk
    show Chosen (co P V s) k (((s.rep i).dec.set m.s.toNat ⟨true, m.p⟩).getD k noDn).p
    rw [getD_set] at hk' ⊢
    by_cases ek : k = m.s.toNat ∧ m.s.toNat < (s.rep i).dec.length
    · rw [if_pos ek, ek.1]; exact hmo.decide hk5
    · rw [if_neg ek] at hk' ⊢; exact hr.dec k hk'
theorem pinv_yield (h : PInv P V s) (hok : s.ok) {i : Nat} (hi : i < s.n) (m : Ms) : PInv P V (s.takeRefuse i m) := by
  have hr := h.rep i hi
  have hP := rep_put' hok.len hi ((s.rep i).yield m.b)
  unfold Sy.takeRefuse
  refine h.stepSame (j := i) rfl (fun r hr => by rw [hP, if_neg hr]) (by rw [hP, if_pos rfl]; rfl) (fun m hm => .inl hm) ?_
  rw [hP, if_pos rfl]
  exact ⟨hr.acc, hr.dec, yield_role hr.role m.b⟩
theorem pinv_accept (h : PInv P V s) (hok : s.ok) {i : Nat} (hi : i < s.n) {m : Ms} (hm : m.ok s.n) (hk4 : m.k = 4) (hmo : MOk (co P V s) m) : PInv P V (s.takeAccept i m) := by
  unfold Sy.takeAccept
  split
  · rename_i b next ps hrl
    split
    · rename_i hc
      obtain ⟨rfl, hdm, hnh⟩ := hc
      have hr := h.rep i hi
      have hL : LeadOk (co P V s) i m.b next ps := by have := hr.role; rw [hrl] at this; exact this
      have hrk := (hok.repOk hi).rl
      rw [hrl] at hrk
      obtain ⟨hnx, hpl, hpo⟩ : next ≤ 16 ∧ ps.length = 16 ∧ ∀ x ∈ ps, x.t.ok := hrk
      have hn7 := hok.n1
      have hf7 : m.f.toNat < s.n := by have := hm.f0; have := hm.f1; omega
      have hsl : m.s.toNat < 16 := by have := hm.s0; have := hm.s1; omega
      have hvote : V m.f.toNat m.b m.s.toNat := hmo.accept hk4
      obtain ⟨v, hpv⟩ := (h.ok.v _ _ _ hvote).2.2.2
      have hv : v = (ps.getD m.s.toNat noPp).p := hL.is _ _ hpv
      have htok : (ps.getD m.s.toNat noPp).t.ok := by
        rw [List.getD_eq_getElem?_getD, List.getElem?_eq_getElem (by omega)]
        exact hpo _ (List.getElem_mem _)
      have hL' : LeadOk (co P V s) i m.b next (ps.set m.s.toNat ⟨(ps.getD m.s.toNat noPp).p, (ps.getD m.s.toNat noPp).t.add m.f.toNat⟩) := by
        refine ⟨hL.b0, hL.own, hL.pr, hL.none, fun k u hu => ?_, fun k r hr => ?_, hL.free⟩
        · rw [getD_set]
          by_cases ek : k = m.s.toNat
          · rw [if_pos ⟨ek, by omega⟩]
            have := hL.is k u hu
            rw [ek] at this
            exact this
          · rw [if_neg (fun h => ek h.1)]; exact hL.is k u hu
        · rw [getD_set] at hr
          by_cases ek : k = m.s.toNat
          · rw [if_pos ⟨ek, by omega⟩] at hr
            rw [ek]
            rcases (has_add htok (by omega) r).1 hr with h1 | h1
            · rw [h1]; exact ⟨hvote, hf7⟩
            · exact hL.has _ _ h1
          · rw [if_neg (fun h => ek h.1)] at hr; exact hL.has _ _ hr
      dsimp only
      split
      · rename_i hmaj
        have hP := rep_put' hok.len hi (((s.rep i).role (.lead m.b next (ps.set m.s.toNat ⟨(ps.getD m.s.toNat noPp).p, (ps.getD m.s.toNat noPp).t.add m.f.toNat⟩))).decide m.s.toNat (ps.getD m.s.toNat noPp).p)
        have hch : Chosen (co P V s) m.s.toNat (ps.getD m.s.toNat noPp).p := by
          have htok2 := Tl.add_ok htok (k := m.f.toNat) (by omega) hnh
          have hlt : ∀ r, ((ps.getD m.s.toNat noPp).t.add m.f.toNat).has r = true → r < s.n := fun r hr => by
            rcases (has_add htok (by omega) r).1 hr with h1 | h1
            · rw [h1]; exact hf7
            · exact (hL.has _ _ h1).2
          refine ⟨m.b, ((ps.getD m.s.toNat noPp).t.add m.f.toNat).has, Tl.maj htok2 hn7 hlt hmaj, by rw [← hv]; exact hpv, fun r hr => ?_⟩
          rcases (has_add htok (by omega) r).1 hr with h1 | h1
          · rw [h1]; exact hvote
          · exact (hL.has _ _ h1).1
        refine h.stepSame (j := i) (sendTo_n _ _ _ _) (fun r hr => by rw [rep_send, hP, if_neg hr]) (by rw [rep_send, hP, if_pos rfl]; rfl) (fun m' hm' => ?_) ?_
        · rcases send_mem _ _ _ _ m' hm' with h1 | ⟨t, _, rfl⟩
          · exact .inl h1
          · right
            exact ⟨fun hk => by simp [Ms.to, msg] at hk, fun hk => by simp [Ms.to, msg] at hk, fun hk => by simp [Ms.to, msg] at hk, fun _ => hch⟩
        · rw [rep_send, hP, if_pos rfl]
          refine ⟨hr.acc, fun k hk => ?_, hL'⟩
          have hk' : (((s.rep i).dec.set m.s.toNat ⟨true, (ps.getD m.s.toNat noPp).p⟩).getD k noDn).m = true := hk
          show Chosen (co P V s) k (((s.rep i).dec.set m.s.toNat ⟨true, (ps.getD m.s.toNat noPp).p⟩).getD k noDn).p
          rw [getD_set (s.rep i).dec] at hk' ⊢
          by_cases ek : k = m.s.toNat ∧ m.s.toNat < (s.rep i).dec.length
          · rw [if_pos ek, ek.1]; exact hch
          · rw [if_neg ek] at hk' ⊢; exact hr.dec k hk'
      · have hP := rep_put' hok.len hi ((s.rep i).role (.lead m.b next (ps.set m.s.toNat ⟨(ps.getD m.s.toNat noPp).p, (ps.getD m.s.toNat noPp).t.add m.f.toNat⟩)))
        refine h.stepSame (j := i) rfl (fun r hr => by rw [hP, if_neg hr]) (by rw [hP, if_pos rfl]; rfl) (fun m hm => .inl hm) ?_
        rw [hP, if_pos rfl]
        exact ⟨hr.acc, hr.dec, hL'⟩
    · exact h
  · exact h

/-! A Promise that comes. -/
theorem keep1_eq (kept : List Vt) (v : Vt) : keep1 kept v = if (kept.getD v.s.toNat noVt).b < v.b then kept.set v.s.toNat v else kept := rfl
theorem keep1_ge (kept : List Vt) (v : Vt) (k : Nat) : (kept.getD k noVt).b ≤ ((keep1 kept v).getD k noVt).b := by
  rw [keep1_eq]
  split
  · rename_i hlt
    rw [getD_set]
    split
    · rename_i hc; rw [hc.1]; omega
    · exact Int.le_refl _
  · exact Int.le_refl _
theorem keepAll_ge : ∀ (a : List Vt) (kept : List Vt) (k : Nat), (kept.getD k noVt).b ≤ ((keepAll kept a).getD k noVt).b
  | [], kept, k => Int.le_refl _
  | v :: a, kept, k => Int.le_trans (keep1_ge kept v k) (keepAll_ge a (keep1 kept v) k)
theorem keep1_dom (kept : List Vt) (v : Vt) (h : v.s.toNat < kept.length) : v.b ≤ ((keep1 kept v).getD v.s.toNat noVt).b := by
  rw [keep1_eq]
  split
  · rw [getD_set, if_pos ⟨rfl, h⟩]; exact Int.le_refl _
  · omega
theorem keepAll_dom : ∀ (a : List Vt) (kept : List Vt) (v : Vt), v ∈ a → v.s.toNat < kept.length → v.b ≤ ((keepAll kept a).getD v.s.toNat noVt).b
  | [], _, v, hv, _ => by simp at hv
  | u :: a, kept, v, hv, hl => by
    rcases List.mem_cons.1 hv with rfl | h1
    · exact Int.le_trans (keep1_dom kept v hl) (keepAll_ge a _ _)
    · exact keepAll_dom a (keep1 kept u) v h1 (by rw [keep1_length]; exact hl)
theorem keepAll_from : ∀ (a : List Vt) (kept : List Vt) (k : Nat), (keepAll kept a).getD k noVt = kept.getD k noVt ∨ ∃ v ∈ a, v.s.toNat = k ∧ (keepAll kept a).getD k noVt = v
  | [], _, _ => .inl rfl
  | u :: a, kept, k => by
    rcases keepAll_from a (keep1 kept u) k with h1 | ⟨v, hv, h1, h2⟩
    · by_cases hlt : (kept.getD u.s.toNat noVt).b < u.b ∧ k = u.s.toNat ∧ u.s.toNat < kept.length
      · right
        refine ⟨u, List.mem_cons_self, hlt.2.1.symm, ?_⟩
        show (keepAll (keep1 kept u) a).getD k noVt = u
        rw [h1, keep1_eq, if_pos hlt.1, getD_set, if_pos ⟨hlt.2.1, hlt.2.2⟩]
      · left
        show (keepAll (keep1 kept u) a).getD k noVt = _
        rw [h1, keep1_eq]
        split
        · rename_i h2
          rw [getD_set, if_neg (fun h => hlt ⟨h2, h.1, h.2⟩)]
        · rfl
    · exact .inr ⟨v, List.mem_cons_of_mem _ hv, h1, h2⟩
/-- A promise more is counted. -/
theorem prep_more {c : Co} (hco : c.Ok) {i : Nat} {b : Int} {t : Tl} {kept : List Vt} (h : PrepOk c i b t kept) (ht : t.ok) (hkl : kept.length = 16) {m : Ms} (hm : m.ok c.n) (hn7 : c.n ≤ 7) (hk2 : m.k = 2) (hmo : MOk c m) (hb : b = m.b) : PrepOk c i b (t.add m.f.toNat) (keepAll kept m.a) := by
  obtain ⟨h1, h2, h3⟩ := hmo.promise hk2
  have hf : m.f.toNat < c.n := by have := hm.f0; have := hm.f1; omega
  refine ⟨h.b0, h.own, h.pr, h.none, fun r hr => ?_, fun k => ?_⟩
  · rcases (has_add ht (by omega) r).1 hr with rfl | h4
    · refine ⟨hf, by rw [hb]; exact h1, fun k b' hv hlt => ?_⟩
      obtain ⟨v, hva, hvs, hvb⟩ := h3 k b' hv (by omega)
      have hsl := hm.sl v hva
      have := keepAll_dom m.a kept v hva (by rw [hkl]; omega)
      rw [hvs] at this
      omega
    · obtain ⟨a1, a2, a3⟩ := h.has r h4
      exact ⟨a1, a2, fun k b' hv hlt => Int.le_trans (a3 k b' hv hlt) (keepAll_ge m.a kept k)⟩
  · rcases keepAll_from m.a kept k with h4 | ⟨v, hva, hvs, h4⟩
    · rw [h4]; exact h.kept k
    · rw [h4]
      obtain ⟨a1, a2, a3⟩ := h2 v hva
      rw [hvs] at a1 a2
      have hpos := (hco.p _ _ _ a2).2
      refine ⟨by omega, fun _ => ⟨?_, a2⟩⟩
      have hne : v.b ≠ b := fun e => by rw [e, h.none k] at a2; cases a2
      omega

/-- What a lead proposes. -/
def leadQ (dm : Nat → Bool) (kept : List Vt) (next : Nat) : Nat → Option Pst := fun k => if k < next ∧ dm k = false then some (kept.getD k noVt).p else none
theorem leadTo_is {s0 : Sy} (hok : s0.reps.length = s0.n) {i : Nat} (hi : i < s0.n) {b : Int} {next : Nat} (hrl : (s0.rep i).rl = .lead b next (List.replicate 16 noPp)) (kept : List Vt) : ∀ (k : Nat), k ≤ 16 → (s0.leadTo i kept k).reps.length = s0.n ∧ (∃ ps, ps.length = 16 ∧ (s0.leadTo i kept k).rep i = (s0.rep i).role (.lead b next ps) ∧ (∀ q v, leadQ (s0.rep i).dm kept k q = some v → v = (ps.getD q noPp).p) ∧ ∀ q, (ps.getD q noPp).t = noTl) ∧ (∀ m ∈ (s0.leadTo i kept k).net, m ∈ s0.net ∨ (m.k = 3 ∧ m.b = b ∧ ∃ v, leadQ (s0.rep i).dm kept k m.s.toNat = some v ∧ m.p = v))
  | 0, _ => by
    refine ⟨hok, ⟨List.replicate 16 noPp, by simp, by unfold Sy.leadTo; rw [← hrl]; rfl, fun q v hq => ?_, fun q => ?_⟩, fun m hm => .inl hm⟩
    · unfold leadQ at hq
      rw [if_neg (by omega)] at hq; cases hq
    · simp only [List.getD_eq_getElem?_getD, List.getElem?_replicate]
      split <;> rfl
  | k + 1, hk => by
    obtain ⟨hl, ⟨ps, hpl, hrep, hps, hpt⟩, hnet⟩ := leadTo_is hok hi hrl kept k (by omega)
    unfold Sy.leadTo
    split
    · rename_i hd
      have hQ : ∀ q, leadQ (s0.rep i).dm kept (k + 1) q = leadQ (s0.rep i).dm kept k q := fun q => by
        unfold leadQ
        by_cases hq : q = k
        · subst hq
          rw [if_neg (by rw [hd]; intro h; cases h.2), if_neg (by omega)]
        · by_cases h2 : q < k ∧ (s0.rep i).dm q = false
          · rw [if_pos ⟨by omega, h2.2⟩, if_pos h2]
          · rw [if_neg (fun h => h2 ⟨by omega, h.2⟩), if_neg h2]
      refine ⟨hl, ⟨ps, hpl, hrep, fun q v hq => hps q v (by rw [← hQ]; exact hq), hpt⟩, fun m hm => ?_⟩
      rcases hnet m hm with h1 | ⟨h1, h2, v, h3, h4⟩
      · exact .inl h1
      · exact .inr ⟨h1, h2, v, by rw [hQ]; exact h3, h4⟩
    · rename_i hd
      have hd' : (s0.rep i).dm k = false := by simpa using hd
      have hQk : leadQ (s0.rep i).dm kept (k + 1) k = some (kept.getD k noVt).p := if_pos ⟨by omega, hd'⟩
      have hQ : ∀ q, q ≠ k → leadQ (s0.rep i).dm kept (k + 1) q = leadQ (s0.rep i).dm kept k q := fun q hq => by
        unfold leadQ
        by_cases h2 : q < k ∧ (s0.rep i).dm q = false
        · rw [if_pos ⟨by omega, h2.2⟩, if_pos h2]
        · rw [if_neg (fun h => h2 ⟨by omega, h.2⟩), if_neg h2]
      have hrl1 : ((s0.leadTo i kept k).rep i).rl = .lead b next ps := by rw [hrep]; rfl
      have hil : i < (s0.leadTo i kept k).reps.length := by rw [hl]; exact hi
      unfold Sy.propose
      rw [hrl1]
      simp only
      refine ⟨by rw [sendTo_reps]; simp only [Sy.put, List.length_set]; exact hl, ⟨ps.set k ⟨(kept.getD k noVt).p, (ps.getD k noPp).t⟩, by simpa using hpl, ?_, fun q v hq => ?_, fun q => ?_⟩, fun m hm => ?_⟩
      · rw [rep_send, Sy.rep_put hil, hrep]; rfl
      · rw [getD_set]
        by_cases e : q = k
        · rw [if_pos ⟨e, by omega⟩]
          rw [e, hQk] at hq
          injection hq with hq
          exact hq.symm
        · rw [if_neg (fun h => e h.1)]
          exact hps q v (by rw [← hQ q e]; exact hq)
      · rw [getD_set]
        split
        · exact hpt k
        · exact hpt q
      · rcases send_mem _ _ _ _ m hm with h1 | ⟨t, _, rfl⟩
        · rcases hnet m h1 with h1 | ⟨h1, h2, v, h3, h4⟩
          · exact .inl h1
          · refine .inr ⟨h1, h2, v, ?_, h4⟩
            by_cases e : m.s.toNat = k
            · unfold leadQ at h3
              rw [if_neg (by omega)] at h3; cases h3
            · rw [hQ _ e]; exact h3
        · refine .inr ⟨rfl, rfl, _, ?_, rfl⟩
          show leadQ (s0.rep i).dm kept (k + 1) (k : Int).toNat = some (kept.getD k noVt).p
          rw [Int.toNat_natCast]; exact hQk
theorem nextB_above (dm : Nat → Bool) (kb : Nat → Int) : ∀ (k : Nat) (q : Nat), nextB dm kb k ≤ q → q < k → dm q = false ∧ kb q = 0
  | 0, q, _, h => by omega
  | k + 1, q, h1, h2 => by
    unfold nextB at h1
    split at h1
    · rename_i hc
      simp at hc
      by_cases e : q = k
      · rw [e]; exact hc
      · exact nextB_above dm kb k q h1 (by omega)
    · omega
theorem pinv_promise (h : PInv P V s) (hok : s.ok) {i : Nat} (hi : i < s.n) {m : Ms} (hm : m.ok s.n) (hk2 : m.k = 2) (hmo : MOk (co P V s) m) : ∃ P', PInv P' V (s.takePromise i m) := by
  unfold Sy.takePromise
  split
  · rename_i b t kept hrl
    split
    · rename_i hc
      obtain ⟨hb, hnh⟩ := hc
      have hr := h.rep i hi
      have hPr : PrepOk (co P V s) i b t kept := by have := hr.role; rw [hrl] at this; exact this
      have hrk := (hok.repOk hi).rl
      rw [hrl] at hrk
      obtain ⟨htok, hkl⟩ : t.ok ∧ kept.length = 16 := hrk
      have hn7 := hok.n1
      have hf7 : m.f.toNat < s.n := by have := hm.f0; have := hm.f1; omega
      have hPr2 := prep_more h.ok hPr htok hkl (m := m) hm hn7 hk2 hmo hb
      have htok2 := Tl.add_ok htok (k := m.f.toNat) (by omega) hnh
      have hkl2 : (keepAll kept m.a).length = 16 := by rw [keepAll_length]; exact hkl
      generalize keepAll kept m.a = kept2 at *
      have hP := rep_put' hok.len hi ((s.rep i).role (.prep b (t.add m.f.toNat) kept2))
      split
      · rename_i hmaj
        have hlt : ∀ r, (t.add m.f.toNat).has r = true → r < s.n := fun r hr => (hPr2.has r hr).1
        have hmj : maj s.n (t.add m.f.toNat).has := Tl.maj htok2 hn7 hlt hmaj
        generalize t.add m.f.toNat = t2 at *
        have hl1 : (s.put i ((s.rep i).role (.prep b t2 kept2))).reps.length = s.n := by simp only [Sy.put, List.length_set]; exact hok.len
        generalize hs1 : s.put i ((s.rep i).role (.prep b t2 kept2)) = s1 at *
        have hn1 : s1.n = s.n := by rw [← hs1]; rfl
        have hnet1 : s1.net = s.net := by rw [← hs1]; rfl
        have hrep1 : s1.rep i = (s.rep i).role (.prep b t2 kept2) := by rw [hP, if_pos rfl]
        have hdm1 : (s1.rep i).dm = (s.rep i).dm := by rw [hrep1]; rfl
        unfold Sy.lead
        have hnx16 : s1.nextOf i kept2 ≤ 16 := nextB_le _ _ 16
        have habove : ∀ q, s1.nextOf i kept2 ≤ q → q < 16 → (s.rep i).dm q = false ∧ (kept2.getD q noVt).b = 0 := fun q h1 h2 => by
          have := nextB_above (s1.rep i).dm (fun k => (kept2.getD k noVt).b) 16 q h1 h2
          rw [hdm1] at this
          exact this
        generalize s1.nextOf i kept2 = nx at *
        have hP1 := rep_put' (s := s1) (by rw [hl1, hn1]) (i := i) (by rw [hn1]; exact hi) ((s1.rep i).role (.lead b nx (List.replicate 16 noPp)))
        have hT := leadTo_is (s0 := s1.put i ((s1.rep i).role (.lead b nx (List.replicate 16 noPp)))) (by simp only [Sy.put, List.length_set]; rw [hl1, hn1]) (i := i) (b := b) (next := nx) (by show i < s1.n; rw [hn1]; exact hi) (by rw [hP1, if_pos rfl]; rfl) kept2 nx hnx16
        have hTne := fun r (hr : r ≠ i) => leadTo_rep_ne (s1.put i ((s1.rep i).role (.lead b nx (List.replicate 16 noPp)))) i kept2 hr nx
        have hTn := leadTo_n (s1.put i ((s1.rep i).role (.lead b nx (List.replicate 16 noPp)))) i kept2 nx
        have hdm2 : ((s1.put i ((s1.rep i).role (.lead b nx (List.replicate 16 noPp)))).rep i).dm = (s.rep i).dm := by rw [hP1, if_pos rfl, hrep1]; rfl
        have hrep2 : (s1.put i ((s1.rep i).role (.lead b nx (List.replicate 16 noPp)))).rep i = (s.rep i).role (.lead b nx (List.replicate 16 noPp)) := by rw [hP1, if_pos rfl, hrep1]; rfl
        rw [hdm2, hrep2] at hT
        have hnet2 : (s1.put i ((s1.rep i).role (.lead b nx (List.replicate 16 noPp)))).net = s.net := hnet1
        have hn2 : (s1.put i ((s1.rep i).role (.lead b nx (List.replicate 16 noPp)))).n = s.n := hn1
        have hne2 : ∀ r, r ≠ i → (s1.put i ((s1.rep i).role (.lead b nx (List.replicate 16 noPp)))).rep r = s.rep r := fun r hr => by rw [hP1, if_neg hr, hP, if_neg hr]
        rw [hnet2] at hT
        rw [hn2] at hTn
        generalize (s1.put i ((s1.rep i).role (.lead b nx (List.replicate 16 noPp)))).leadTo i kept2 nx = s' at *
        obtain ⟨_, ⟨ps, hpl, hrep', hps, hpt⟩, hnet'⟩ := hT
        have hne' : ∀ r, r ≠ i → s'.rep r = s.rep r := fun r hr => (hTne r hr).trans (hne2 r hr)
        have hrep'' : s'.rep i = (s.rep i).role (.lead b nx ps) := hrep'
        have hpr' : ∀ r, (s'.rep r).pr = (s.rep r).pr := fun r => by
          by_cases e : r = i
          · rw [e, hrep'']; rfl
          · rw [hne' r e]
        have hQ : ∀ k v, leadQ (s.rep i).dm kept2 nx k = some v → P b k = none := fun k v _ => hPr2.none k
        have hQs : ∀ k v, leadQ (s.rep i).dm kept2 nx k = some v → k < nx ∧ v = (kept2.getD k noVt).p := fun k v hk => by
          unfold leadQ at hk
          split at hk
          · rename_i hc; injection hk with hk; exact ⟨hc.1, hk.symm⟩
          · cases hk
        have e := ext_prop (V := V) hTn hpr' hPr2.own hQ
        have hkok := ok_prop h.ok e hPr2.own hPr2.b0 hPr2.pr (fun k v hv => by
          obtain ⟨hk1, rfl⟩ := hQs k v hv
          refine ⟨t2.has, hmj, fun r hr => (hPr2.has r hr).2.1, ?_⟩
          obtain ⟨hk0, hkp⟩ := hPr2.kept k
          by_cases hz : 0 < (kept2.getD k noVt).b
          · right
            refine ⟨_, (hkp hz).1, (hkp hz).2, fun r hr b' h1 h2 hv => ?_⟩
            have := (hPr2.has r hr).2.2 k b' hv h2
            omega
          · left
            intro r hr b' h2 hv
            have := (hPr2.has r hr).2.2 k b' hv h2
            have := (h.ok.v r b' k hv).2.1
            omega)
        generalize hQQ : leadQ (s.rep i).dm kept2 nx = Q at *
        refine ⟨updP P b Q, h.step hTn hne' e hkok (fun m' hm' => ?_) ?_⟩
        · rcases hnet' m' hm' with h1 | ⟨h1, h2, v, h3, h4⟩
          · exact .inl h1
          · right
            refine ⟨fun hk => by rw [h1] at hk; simp at hk, fun _ => ?_, fun hk => by rw [h1] at hk; simp at hk, fun hk => by rw [h1] at hk; simp at hk⟩
            show updP P b Q m'.b m'.s.toNat = some m'.p
            rw [h2, h4]; exact updP_some h3
        · rw [hrep'']
          refine ⟨acc_ext e (fun _ _ h => h) hr.acc, e.dec hr.dec, ?_⟩
          show LeadOk (co (updP P b Q) V s') i b nx ps
          have hQn : ∀ k, nx ≤ k → Q k = none := fun k hk => by
            cases hq : Q k with
            | none => rfl
            | some v => have := (hQs k v hq).1; omega
          refine ⟨hPr2.b0, hPr2.own, Int.le_trans hPr2.pr (e.pr i), fun k hk => ?_, fun k v hv => ?_, fun k r hr => ?_, fun k hk hk' => ?_⟩
          · show updP P b Q b k = none
            rw [updP_none (hQn k hk)]; exact hPr2.none k
          · have hv' : updP P b Q b k = some v := hv
            cases hq : Q k with
            | none =>
              rw [updP_none hq] at hv'
              have hno : P b k = none := hPr2.none k
              rw [hno] at hv'; cases hv'
            | some u =>
              rw [updP_some hq] at hv'
              injection hv' with hv'
              rw [← hv']; exact hps k u hq
          · rw [hpt k, noTl_has] at hr; cases hr
          · refine ⟨t2.has, by rw [e.n]; exact hmj, fun r hr => Int.le_trans (hPr2.has r hr).2.1 (e.pr r), fun r hr b' hb' hv => ?_⟩
            have h1 := (hPr2.has r hr).2.2 k b' hv hb'
            have h2 := (habove k hk hk').2
            have h3 := (h.ok.v r b' k hv).2.1
            omega
      · refine ⟨P, h.stepSame (j := i) rfl (fun r hr => by rw [hP, if_neg hr]) (by rw [hP, if_pos rfl]; rfl) (fun m hm => .inl hm) ?_⟩
        rw [hP, if_pos rfl]
        exact ⟨hr.acc, hr.dec, hPr2⟩
    · exact ⟨P, h⟩
  · exact ⟨P, h⟩
theorem without_ok {s : Sy} (h : s.ok) (k : Nat) : (s.without k).ok :=
  ⟨h.n0, h.n1, h.len, h.rep, by have := h.full; have := List.length_eraseIdx_le s.net k; show (s.net.eraseIdx k).length ≤ 200; omega, fun m hm => h.net m (List.mem_of_mem_eraseIdx hm)⟩
/-- Every move. -/
theorem pinv_mv {ps ps' : List Pst} (h : PInv P V s) (hok : s.ok) (m : Mv s ps s' ps') : ∃ P' V', PInv P' V' s' := by
  cases m with
  | camp i hi => exact ⟨P, V, pinv_camp h hok hi⟩
  | sub i p hi hp =>
    obtain ⟨P', h'⟩ := pinv_sub h hok hi p
    exact ⟨P', V, h'⟩
  | lose k hk => exact ⟨P, V, pinv_lose h k⟩
  | dbl k hk => exact ⟨P, V, pinv_dbl h k hk⟩
  | crash i hi => exact ⟨P, V, pinv_crash h hok hi⟩
  | dlv k hk =>
    have hmem : s.net.getD k noMs ∈ s.net := by rw [List.getD_eq_getElem?_getD, List.getElem?_eq_getElem hk]; exact List.getElem_mem hk
    have hm := hok.net _ hmem
    have hmo : MOk (co P V (s.without k)) (s.net.getD k noMs) := h.net _ hmem
    have h1 := pinv_lose h k
    have hw := without_ok hok k
    unfold Sy.deliver
    generalize s.net.getD k noMs = m0 at *
    have hti : m0.t.toNat < (s.without k).n := by have := hm.t0; have := hm.t1; show m0.t.toNat < s.n; omega
    have hm' : m0.ok (s.without k).n := hm
    generalize s.without k = s1 at *
    unfold Sy.receive
    split
    · exact ⟨P, V, pinv_prepare h1 hw hti⟩
    split
    · rename_i hk2
      obtain ⟨P', h'⟩ := pinv_promise h1 hw hti hm' hk2 hmo
      exact ⟨P', V, h'⟩
    split
    · rename_i hk3
      obtain ⟨V', h'⟩ := pinv_propose h1 hw hti hm' hk3 hmo
      exact ⟨P, V', h'⟩
    split
    · rename_i hk4
      exact ⟨P, V, pinv_accept h1 hw hti hm' hk4 hmo⟩
    split
    · rename_i hk5
      exact ⟨P, V, pinv_decide h1 hw hti hm' hk5 hmo⟩
    · exact ⟨P, V, pinv_yield h1 hw hti m0⟩
/-- No two replicas decide differently. -/
def Agree (s : Sy) : Prop := ∀ i j k, i < s.n → j < s.n → (s.rep i).dm k = true → (s.rep j).dm k = true → ((s.rep i).dec.getD k noDn).p = ((s.rep j).dec.getD k noDn).p
theorem PInv.agree (h : PInv P V s) : Agree s := fun i j k hi hj h1 h2 =>
  chosen_one h.ok ((h.rep i hi).dec k h1) ((h.rep j hj).dec k h2)
end Go.Proofs.Ytnnhnekfokbooaa
