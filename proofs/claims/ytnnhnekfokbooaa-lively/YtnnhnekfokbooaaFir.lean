/- What holds of every synod that moves: a ballot is its own replica's, and what it promised; what is promised does not go down; how much can be taken. -/
import Derived.Test.YtnnhnekfokbooaaMov
namespace Go.Proofs.Ytnnhnekfokbooaa
set_option linter.unusedSimpArgs false
set_option linter.unusedVariables false

def FI (i : Nat) (r : Rp) : Prop :=
  match r.rl with
  | .idle => True
  | .prep b _ _ => b = r.pr ∧ b % 8 = i
  | .lead b _ _ => b = r.pr ∧ b % 8 = i
def rolePot : Rl → Int
  | .idle => 0
  | .prep _ _ _ => 16
  | .lead _ next _ => 16 - next
def pot (r : Rp) : Int := 16 * (1000 - r.pr / 8) + rolePot r.rl
theorem rolePot_nonneg {l : Rl} (h : l.ok) : 0 ≤ rolePot l ∧ rolePot l ≤ 16 := by
  cases l with
  | idle => simp [rolePot]
  | prep b t k => simp [rolePot]
  | lead b n ps => have : n ≤ 16 := h.1; simp [rolePot]; omega
theorem pot_nonneg {r : Rp} (h : r.ok) : 0 ≤ pot r := by
  have := rolePot_nonneg h.rl
  have := h.pr1
  unfold pot; omega
theorem yield_fi {i : Nat} {r : Rp} (h : FI i r) (b : Int) : FI i (r.yield b) := by
  unfold FI Rp.yield
  simp only
  by_cases hb : r.rl.bal < b
  · rw [if_pos hb]; trivial
  · rw [if_neg hb]; exact h
theorem obey_fi {i : Nat} {r : Rp} (h : FI i r) (b : Int) (hb : r.pr ≤ b) : FI i ((r.yield b).promise b) := by
  unfold FI at h ⊢
  unfold Rp.yield Rp.promise
  simp only
  by_cases hlt : r.rl.bal < b
  · rw [if_pos hlt]; trivial
  · rw [if_neg hlt]
    cases hrl : r.rl with
    | idle => trivial
    | prep b' t k =>
      rw [hrl] at h hlt
      simp only [Rl.bal] at hlt h
      exact ⟨by omega, h.2⟩
    | lead b' n ps =>
      rw [hrl] at h hlt
      simp only [Rl.bal] at hlt h
      exact ⟨by omega, h.2⟩
theorem yield_rolePot {r : Rp} (h : r.ok) (b : Int) : rolePot (r.yield b).rl ≤ rolePot r.rl := by
  unfold Rp.yield
  simp only
  split
  · exact (rolePot_nonneg h.rl).1
  · exact Int.le_refl _
theorem rs_fi {i : Nat} (hi : i < 8) {r r' : Rp} (hok : r.ok) (h : FI i r) (s : RS i r r') : FI i r' ∧ r.pr ≤ r'.pr ∧ pot r' ≤ pot r := by
  have h0 := hok.pr0
  have h1 := hok.pr1
  have h2 := hok.sn0
  have hp := rolePot_nonneg hok.rl
  cases s with
  | same => exact ⟨h, Int.le_refl _, Int.le_refl _⟩
  | camp hr =>
    unfold Rp.round at hr ⊢
    refine ⟨⟨rfl, by omega⟩, by show r.pr ≤ 8 * (max r.pr r.sn / 8 + 1) + (i : Int); omega, ?_⟩
    show 16 * (1000 - (8 * (max r.pr r.sn / 8 + 1) + (i : Int)) / 8) + 16 ≤ 16 * (1000 - r.pr / 8) + rolePot r.rl
    omega
  | obey b hb b1 =>
    refine ⟨obey_fi h b hb, hb, ?_⟩
    have := yield_rolePot hok b
    show 16 * (1000 - b / 8) + rolePot (r.yield b).rl ≤ 16 * (1000 - r.pr / 8) + rolePot r.rl
    omega
  | accept b hb b1 k v =>
    refine ⟨obey_fi h b hb, hb, ?_⟩
    have := yield_rolePot hok b
    show 16 * (1000 - b / 8) + rolePot (r.yield b).rl ≤ 16 * (1000 - r.pr / 8) + rolePot r.rl
    omega
  | count b t kept hrl t' kept' =>
    unfold FI at h
    rw [hrl] at h
    refine ⟨h, Int.le_refl _, ?_⟩
    unfold pot; rw [hrl]; exact Int.le_refl _
  | lead b t kept hrl next ps hn =>
    unfold FI at h
    rw [hrl] at h
    refine ⟨h, Int.le_refl _, ?_⟩
    unfold pot; rw [hrl]
    show 16 * (1000 - r.pr / 8) + (16 - (next : Int)) ≤ 16 * (1000 - r.pr / 8) + 16
    omega
  | vote b next ps ps' hrl =>
    unfold FI at h
    rw [hrl] at h
    refine ⟨h, Int.le_refl _, ?_⟩
    unfold pot; rw [hrl]; exact Int.le_refl _
  | votes b next ps ps' hrl k p hk =>
    unfold FI at h
    rw [hrl] at h
    refine ⟨h, Int.le_refl _, ?_⟩
    unfold pot; rw [hrl]; exact Int.le_refl _
  | told k p hk => exact ⟨h, Int.le_refl _, Int.le_refl _⟩
  | yield b =>
    refine ⟨yield_fi h b, Int.le_refl _, ?_⟩
    have := yield_rolePot hok b
    show 16 * (1000 - r.pr / 8) + rolePot (r.yield b).rl ≤ 16 * (1000 - r.pr / 8) + rolePot r.rl
    omega
  | sub b next ps ps' hrl hn =>
    unfold FI at h
    rw [hrl] at h
    refine ⟨h, Int.le_refl _, ?_⟩
    unfold pot; rw [hrl]
    show 16 * (1000 - r.pr / 8) + (16 - ((next + 1 : Nat) : Int)) ≤ 16 * (1000 - r.pr / 8) + (16 - (next : Int))
    omega
  | crash =>
    refine ⟨trivial, Int.le_refl _, ?_⟩
    show 16 * (1000 - r.pr / 8) + 0 ≤ 16 * (1000 - r.pr / 8) + rolePot r.rl
    omega

def sumTo (f : Nat → Int) : Nat → Int
  | 0 => 0
  | k + 1 => sumTo f k + f k
theorem sumTo_le {f g : Nat → Int} : ∀ (n : Nat), (∀ j, j < n → g j ≤ f j) → sumTo g n ≤ sumTo f n
  | 0, _ => Int.le_refl _
  | n + 1, h => by
    have h1 := sumTo_le n (fun j hj => h j (by omega))
    have h2 := h n (by omega)
    unfold sumTo; omega
theorem sumTo_lt {f g : Nat → Int} : ∀ (n : Nat), (∀ j, j < n → g j ≤ f j) → ∀ i, i < n → g i + 1 ≤ f i → sumTo g n + 1 ≤ sumTo f n
  | 0, _, i, hi, _ => by omega
  | n + 1, h, i, hi, hd => by
    by_cases e : i = n
    · subst e
      have h1 := sumTo_le i (fun j hj => h j (by omega))
      unfold sumTo; omega
    · have h1 := sumTo_lt n (fun j hj => h j (by omega)) i (by omega) hd
      have h2 := h n (by omega)
      unfold sumTo; omega
theorem sumTo_nonneg {f : Nat → Int} : ∀ (n : Nat), (∀ j, j < n → 0 ≤ f j) → 0 ≤ sumTo f n
  | 0, _ => Int.le_refl _
  | n + 1, h => by
    have h1 := sumTo_nonneg n (fun j hj => h j (by omega))
    have h2 := h n (by omega)
    unfold sumTo; omega
theorem sumTo_bound {f : Nat → Int} {c : Int} : ∀ (n : Nat), (∀ j, j < n → f j ≤ c) → sumTo f n ≤ n * c
  | 0, _ => by simp [sumTo]
  | n + 1, h => by
    have h1 := sumTo_bound n (fun j hj => h j (by omega))
    have h2 := h n (by omega)
    have e : ((n + 1 : Nat) : Int) * c = n * c + c := by rw [Int.natCast_add, Int.add_mul]; simp
    unfold sumTo; omega
/-- What holds of every synod that moves, and of what was taken. -/
structure Good (s : Sy) (ps : List Pst) : Prop where
  fi : ∀ i, i < s.n → FI i (s.rep i)
  room : (ps.length : Int) + sumTo (fun i => pot (s.rep i)) s.n ≤ 112112
theorem Good.few {s : Sy} {ps : List Pst} (h : Good s ps) (hok : s.ok) : ps.length ≤ 112112 := by
  have h1 := sumTo_nonneg (f := fun i => pot (s.rep i)) s.n (fun j hj => pot_nonneg (hok.repOk hj))
  have h2 := h.room
  omega
theorem Good.bal {s : Sy} {ps : List Pst} (h : Good s ps) (hok : s.ok) {i : Nat} (hi : i < s.n) : 0 ≤ (s.rep i).rl.bal ∧ (s.rep i).rl.bal ≤ 8007 := by
  have h1 := h.fi i hi
  have h2 := (hok.repOk hi).pr0
  have h3 := (hok.repOk hi).pr1
  unfold FI at h1
  cases hrl : (s.rep i).rl with
  | idle => simp [Rl.bal]
  | prep b t k => rw [hrl] at h1; simp only [Rl.bal]; omega
  | lead b n p => rw [hrl] at h1; simp only [Rl.bal]; omega
theorem Good.mv {s s' : Sy} {ps ps' : List Pst} (h : Good s ps) (hok : s.ok) (m : Mv s ps s' ps') : Good s' ps' ∧ s'.n = s.n ∧ ∀ j, j < s.n → (s.rep j).pr ≤ (s'.rep j).pr := by
  obtain ⟨hn, hr⟩ := mv_rs hok m
  have hn7 := hok.n1
  have hall : ∀ j, j < s.n → FI j (s'.rep j) ∧ (s.rep j).pr ≤ (s'.rep j).pr ∧ pot (s'.rep j) ≤ pot (s.rep j) := fun j hj => rs_fi (by omega) (hok.repOk hj) (h.fi j hj) (hr j hj)
  refine ⟨⟨fun i hi => (hall i (by rw [← hn]; exact hi)).1, ?_⟩, hn, fun j hj => (hall j hj).2.1⟩
  rw [hn]
  have hsum := sumTo_le (f := fun i => pot (s.rep i)) (g := fun i => pot (s'.rep i)) s.n (fun j hj => (hall j hj).2.2)
  have hroom := h.room
  cases m with
  | sub i p hi hp =>
    by_cases hE : s.subE i p = 0
    · rw [if_pos hE]
      obtain ⟨b, next, ps0, ps1, hrl, hnx, h1, h2, h3⟩ := submit_rep hok hi hE
      have hlt := sumTo_lt (f := fun i => pot (s.rep i)) (g := fun j => pot ((s.submit i p).rep j)) s.n (fun j hj => (hall j hj).2.2) i hi (by
        show pot ((s.submit i p).rep i) + 1 ≤ pot (s.rep i)
        rw [h1]
        unfold pot; rw [hrl]
        show 16 * (1000 - (s.rep i).pr / 8) + (16 - ((next + 1 : Nat) : Int)) + 1 ≤ 16 * (1000 - (s.rep i).pr / 8) + (16 - (next : Int))
        omega)
      rw [List.length_append, List.length_singleton]
      omega
    · rw [if_neg hE]; omega
  | camp i hi => omega
  | lose k hk => omega
  | dbl k hk => omega
  | crash i hi => omega
  | dlv k hk => omega
theorem newSy_good (n : Nat) (hn : n ≤ 7) : Good (newSy n) [] := by
  refine ⟨fun i hi => ?_, ?_⟩
  · have e : (newSy n).rep i = noRp := by
      have : i < n := hi
      unfold newSy Sy.rep
      simp [List.getD_eq_getElem?_getD, this]
    rw [e]; trivial
  · have h1 := sumTo_bound (f := fun i => pot ((newSy n).rep i)) (c := 16000) n (fun j hj => by
      have e : (newSy n).rep j = noRp := by
        unfold newSy Sy.rep
        simp [List.getD_eq_getElem?_getD, hj]
      show pot ((newSy n).rep j) ≤ 16000
      rw [e]; decide)
    show (([] : List Pst).length : Int) + sumTo (fun i => pot ((newSy n).rep i)) n ≤ 112112
    simp only [List.length_nil]
    omega
end Go.Proofs.Ytnnhnekfokbooaa
