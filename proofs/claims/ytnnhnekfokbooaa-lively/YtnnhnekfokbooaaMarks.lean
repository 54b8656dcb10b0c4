/- Rows that hold one mark over and over: an append of more of the same keeps every such row as it reads. -/
import Derived.Test.YtnnhnekfokbooaaFrame
import Derived.Maps.AppendAt
namespace Go.Proofs.Ytnnhnekfokbooaa
open Go.RowKit
set_option linter.unusedSimpArgs false
set_option linter.unusedVariables false

/-- n times the cells x. -/
def reps : Nat → List Value → List Value
  | 0, _ => []
  | n + 1, x => x ++ reps n x
theorem reps_length (n : Nat) (x : List Value) : (reps n x).length = n * x.length := by
  induction n with
  | zero => simp [reps]
  | succ n ih => rw [reps, List.length_append, ih, Nat.succ_mul, Nat.add_comm]
theorem reps_add (a b : Nat) (x : List Value) : reps (a + b) x = reps a x ++ reps b x := by
  induction a with
  | zero => simp [reps]
  | succ a ih => rw [Nat.succ_add, reps, reps, ih, List.append_assoc]
theorem reps_take (n k : Nat) (x : List Value) (h : k ≤ n) : (reps n x).take (k * x.length) = reps k x := by
  obtain ⟨d, rfl⟩ := Nat.exists_eq_add_of_le h
  rw [reps_add, ← reps_length k x]
  exact List.take_left
theorem reps_drop (n k : Nat) (x : List Value) (h : k ≤ n) : (reps n x).drop (k * x.length) = reps (n - k) x := by
  obtain ⟨d, rfl⟩ := Nat.exists_eq_add_of_le h
  rw [reps_add, ← reps_length k x, Nat.add_sub_cancel_left]
  exact List.drop_left
theorem reps_at (n : Nat) (x : List Value) : ∀ (k : Nat) (_ : k < n) (i : Nat) (_ : i < x.length), (reps n x)[k * x.length + i]? = x[i]? := by
  induction n with
  | zero => intro k hk; omega
  | succ n ih =>
    intro k hk i hi
    rw [reps]
    rcases k with _ | k
    · rw [Nat.zero_mul, Nat.zero_add, List.getElem?_append_left hi]
    · rw [List.getElem?_append_right (by rw [Nat.succ_mul]; omega)]
      have e : (k + 1) * x.length + i - x.length = k * x.length + i := by rw [Nat.succ_mul]; omega
      rw [e]
      exact ih k (by omega) i hi
theorem reps_mem {n : Nat} {x : List Value} {u : Value} (h : u ∈ reps n x) : u ∈ x := by
  induction n with
  | zero => simp [reps] at h
  | succ n ih =>
    rw [reps, List.mem_append] at h
    rcases h with h | h
    · exact h
    · exact ih h

/-- u is a slice of k elements, each of which reads x, in a row of its own above base. -/
def MK (w : World) (base : Nat) (e : TypeId) (x : List Value) (u : Value) (k : Nat) : Prop := w.ownsRow base e x.length u k (reps k x)

theorem owns_grown {w w' : World} {base : Nat} {e : TypeId} {size : Nat} {v : Value} {n : Nat} {xs : List Value} {row : Option Nat} (h : w.ownsRow base e size v n xs) (hg : w.grownBy w' row) (hne : ∀ g, v.ownBlock = some g → row ≠ some g) : w'.ownsRow base e size v n xs := by
  refine ⟨h.1, ?_⟩
  rcases h.2 with h2 | ⟨g, cap, cur, rfl, h3, h4, h5⟩
  · exact .inl h2
  · exact .inr ⟨g, cap, cur, rfl, h3, blk_grown hg h4 (hne g rfl), h5⟩
theorem owns_below {w w' : World} {base : Nat} {e : TypeId} {size : Nat} {v : Value} {n : Nat} {xs : List Value} (h : w.ownsRow base e size v n xs) (hb : Below w.heap.size w w') : w'.ownsRow base e size v n xs := by
  refine ⟨h.1, ?_⟩
  rcases h.2 with h2 | ⟨g, cap, cur, rfl, h3, h4, h5⟩
  · exact .inl h2
  · exact .inr ⟨g, cap, cur, rfl, h3, blk_below hb h4, h5⟩
theorem owns_set {w : World} {base : Nat} {e : TypeId} {size : Nat} {v : Value} {n : Nat} {xs : List Value} (h : w.ownsRow base e size v n xs) {a : Addr} (hne : v.ownBlock ≠ some a.block) (u : Value) : (w.setCell a u).ownsRow base e size v n xs := by
  refine ⟨h.1, ?_⟩
  rcases h.2 with h2 | ⟨g, cap, cur, rfl, h3, h4, h5⟩
  · exact .inl h2
  · exact .inr ⟨g, cap, cur, rfl, h3, blk_set_other h4 (fun e => hne (by simp [Value.ownBlock, e])) u, h5⟩
theorem owns_alloc {w : World} {base : Nat} {e : TypeId} {size : Nat} {v : Value} {n : Nat} {xs : List Value} (h : w.ownsRow base e size v n xs) (o : Obj) : (w.alloc o).ownsRow base e size v n xs :=
  owns_below h ((Below.refl _ w).alloc (Nat.le_refl _) o)
theorem owns_base {w : World} {base b' : Nat} {e : TypeId} {size : Nat} {v : Value} {n : Nat} {xs : List Value} (h : w.ownsRow base e size v n xs) (hb : b' ≤ base) : w.ownsRow b' e size v n xs := by
  refine ⟨h.1, ?_⟩
  rcases h.2 with h2 | ⟨g, cap, cur, rfl, h3, h4, h5⟩
  · exact .inl h2
  · exact .inr ⟨g, cap, cur, rfl, by omega, h4, h5⟩
/-- Two rows of elements of two types are two rows. -/
theorem owns_apart {w : World} {base b' : Nat} {e e' : TypeId} {size size' : Nat} {v v' : Value} {n n' : Nat} {xs xs' : List Value} (h : w.ownsRow base e size v n xs) (h' : w.ownsRow b' e' size' v' n' xs') (hne : e ≠ e') {g : Nat} (hv : v.ownBlock = some g) : v'.ownBlock ≠ some g := by
  intro hv'
  rcases h.2 with ⟨rfl, _⟩ | ⟨g1, cap, cur, rfl, _, h4, _⟩
  · simp [Value.ownBlock] at hv
  · rcases h'.2 with ⟨rfl, _⟩ | ⟨g2, cap2, cur2, rfl, _, h5, _⟩
    · simp [Value.ownBlock] at hv'
    · simp only [Value.ownBlock, Option.some.injEq] at hv hv'
      subst hv hv'
      rw [h4] at h5
      simp at h5
      exact hne h5.2
theorem owns_not_block {w : World} {base : Nat} {e t : TypeId} {size : Nat} {v : Value} {n : Nat} {xs : List Value} (h : w.ownsRow base e size v n xs) {b : Nat} {cs : Array Value} {fz : Nat × Nat} (hb : w.heap[b]? = some (.cells cs t fz)) (hne : e ≠ t) : v.ownBlock ≠ some b := by
  intro hv
  rcases h.2 with ⟨rfl, _⟩ | ⟨g1, cap, cur, rfl, _, h4, _⟩
  · simp [Value.ownBlock] at hv
  · simp only [Value.ownBlock, Option.some.injEq] at hv
    subst hv
    rw [hb] at h4
    simp at h4
    exact hne h4.2.1.symm

section
variable {P : Program} (w : World)
/-- append of m marks more: every row of that mark reads on as it did. -/
theorem run_append_mark (t ty : TypeId) (base : Nat) (e : TypeId) (i : TypeInfo) (z : Value) (x : List Value) (bytes : Nat) (ht : P.underlying t = some (.slice e)) (hi : P.info? e = some i) (hz : i.zero = some z)
    (hsize : i.size = x.length) (hby : i.bytes = bytes) (hzs : z.cells.size = x.length) (hsz : 0 < x.length)
    (v : Value) (n : Nat) (hown : MK w base e x v n)
    (ad : Addr) (m c : Nat) (hnews : ∀ j u, (reps m x)[j]? = some u → w.cell? (ad.add j) = some u) (h1 : ∀ u ∈ x, u.oneCell' = true)
    (hm : 0 < m) (h63 : n + m ≤ maxLen) (hbytes : (n + m) * bytes ≤ 140737488355328) (hbase : base ≤ w.heap.size) :
    ∃ g cap w', (Builtin.append_ #[t, t] ty #[v, .slice (some ad) m c]).run P w = .ok (.slice (some ⟨g, 0, none⟩) (n + m) cap) w' ∧
      MK w' base e x (.slice (some ⟨g, 0, none⟩) (n + m) cap) (n + m) ∧ w.grownBy w' v.ownBlock ∧ (v.ownBlock = some g ∨ g = w.heap.size) ∧ g < w'.heap.size ∧ (∀ u k, MK w base e x u k → MK w' base e x u k) := by
  subst hby
  have hsmall : n + m ≤ 9223372036854775807 := by simp only [maxLen] at h63; omega
  have hl : (reps m x).length = m * i.size := by rw [hsize]; exact reps_length m x
  have h1' : ∀ u ∈ reps m x, u.oneCell' = true := fun u hu => h1 u (reps_mem hu)
  have grown : ∀ (old : Nat), old < n + m → ∀ (row : Option Nat),
      MK (w.drew.alloc (.cells ((reps n x).toArray ++ (reps m x).toArray ++ Builtin.zeroCells z.cells (grownCap w (n + m) old e - (n + m))) e)) base e x
        (.slice (some ⟨w.heap.size, 0, none⟩) (n + m) (grownCap w (n + m) old e)) (n + m) ∧
      w.grownBy (w.drew.alloc (.cells ((reps n x).toArray ++ (reps m x).toArray ++ Builtin.zeroCells z.cells (grownCap w (n + m) old e - (n + m))) e)) row ∧
      (∀ u k, MK w base e x u k → MK (w.drew.alloc (.cells ((reps n x).toArray ++ (reps m x).toArray ++ Builtin.zeroCells z.cells (grownCap w (n + m) old e - (n + m))) e)) base e x u k) := by
    intro old ho row
    have hge := grownCap_ge w (n + m) old e
    have hcm : grownCap w (n + m) old e ≤ maxLen := grownCap_le_maxLen w (n + m) old e h63
    refine ⟨⟨reps_length _ _, .inr ⟨w.heap.size, _, _, rfl, hbase, heap_alloc_new w.drew _, hge, hcm, ?_, ?_⟩⟩, ⟨rfl, rfl, rfl, by simp, fun k hk _ => Below.heap_alloc w.drew _ k hk⟩, fun u k hu => ?_⟩
    · simp only [Array.size_append, List.size_toArray, size_zeroCells, hzs, reps_length, ← Nat.add_mul]
      congr 1
      omega
    · simp only [Array.toList_append, ← reps_add]
      rw [← reps_length (n + m) x]
      exact List.take_left
    · exact owns_grown (row := none) hu ⟨rfl, rfl, rfl, by simp, fun k hk _ => Below.heap_alloc w.drew _ k hk⟩ (fun _ _ => by simp)
  rcases hown.2 with ⟨rfl, rfl⟩ | ⟨g, cap, cur, rfl, hbg, hg, hnc, hcm, hcs, htake⟩
  · have hr := run_append_nil (P := P) w t ty e i z ht hi hz ad m c (reps m x) hl hnews (by omega) (by omega) (by have hb := hbytes; simp only [Nat.zero_add] at hb; omega)
    have hgr := grown 0 (by omega) (Value.ownBlock (.slice none 0 0))
    simp only [Nat.zero_add, reps, List.nil_append, Array.empty_append] at hgr ⊢
    exact ⟨_, _, _, hr, hgr.1, hgr.2.1, .inr rfl, by simp, hgr.2.2⟩
  · by_cases hroom : n + m ≤ cap
    · have hfit : n * i.size + (reps m x).length ≤ cur.size := by rw [hl, hsize, hcs, ← Nat.add_mul]; exact Nat.mul_le_mul_right _ hroom
      have hr := run_append_room (P := P) w t ty e i ht hi g n cap cur hg ad m c (reps m x) hl hnews h1' hroom hfit
      rw [hsize] at hr hfit
      have hcl : cur.toList.length = cap * x.length := by rw [Array.length_toList]; exact hcs
      have hrow : cur.toList.take (n * x.length) ++ reps m x ++ cur.toList.drop (n * x.length + (reps m x).length) = reps (n + m) x ++ cur.toList.drop ((n + m) * x.length) := by
        rw [htake, ← reps_add, reps_length, Nat.add_mul]
      rw [hrow] at hr
      have hsz' : (reps (n + m) x ++ cur.toList.drop ((n + m) * x.length)).length = cap * x.length := by
        rw [List.length_append, reps_length, List.length_drop, hcl]
        have := Nat.mul_le_mul_right x.length hroom
        omega
      refine ⟨g, cap, _, hr, ⟨reps_length _ _, .inr ⟨g, cap, _, rfl, hbg, setRow_heap w g cur _ e _ hg, hroom, hcm, ?_, ?_⟩⟩, ⟨rfl, rfl, rfl, by simp, fun k _ hk => setRow_other w g k _ (fun e => hk (by simp [Value.ownBlock, e]))⟩, .inl rfl, ?_, fun u k hu => ?_⟩
      · simpa using hsz'
      · simp only [List.toList_toArray]
        rw [← reps_length (n + m) x]
        exact List.take_left
      · have := lt_of_block hg
        simpa using this
      · refine ⟨hu.1, ?_⟩
        rcases hu.2 with hn | ⟨g2, cap2, cur2, rfl, hb2, hg2, hnc2, hcm2, hcs2, htake2⟩
        · exact .inl hn
        · by_cases hgg : g2 = g
          · subst hgg
            rw [hg] at hg2
            obtain rfl : cur = cur2 := by simpa using hg2
            refine .inr ⟨g2, cap2, _, rfl, hb2, setRow_heap w g2 cur _ e _ hg, hnc2, hcm2, ?_, ?_⟩
            · have : cap * x.length = cap2 * x.length := by rw [← hcs, ← hcs2]
              rw [← this]; simpa using hsz'
            · simp only [List.toList_toArray]
              rcases Nat.le_total k (n + m) with hle | hle
              · rw [List.take_append_of_le_length (by rw [reps_length]; exact Nat.mul_le_mul_right _ hle)]
                exact reps_take _ _ _ hle
              · rw [List.take_append, List.take_of_length_le (by rw [reps_length]; exact Nat.mul_le_mul_right _ hle), reps_length]
                have h3 : (cur.toList.take (k * x.length)).drop ((n + m) * x.length) = reps (k - (n + m)) x := by rw [htake2]; exact reps_drop _ _ _ hle
                rw [List.drop_take] at h3
                rw [h3, ← reps_add]
                congr 1
                omega
          · exact .inr ⟨g2, cap2, cur2, rfl, hb2, by rw [setRow_other w g g2 _ hgg]; exact hg2, hnc2, hcm2, hcs2, htake2⟩
    · have holds : ∀ j u, (reps n x)[j]? = some u → w.cell? ((⟨g, 0, none⟩ : Addr).add j) = some u := World.ownsRow.cells (g := g) hown rfl
      have hr := run_append_grow (P := P) w t ty e i z ht hi hz ⟨g, 0, none⟩ n cap (reps n x) (by rw [hsize]; exact reps_length n x) holds ad m c (reps m x) hl hnews (by omega) (by omega) (growslice_fits (by omega) hbytes)
      have hgr := grown cap (by omega) (Value.ownBlock (.slice (some ⟨g, 0, none⟩) n cap))
      exact ⟨_, _, _, hr, hgr.1, hgr.2.1, .inr rfl, by simp, hgr.2.2⟩

theorem wpList_append_mark {ops : Array Oper} {rest : List Oper} {o : Oper} {a : Act} {Q : Exit → Act → World → Prop} (hgd : o.guard = none) (s y : Operand) (t : TypeId)
    (ho : o.op = .call { callee := .builtin .append, args := #[s, y], argTypes := #[t, t] })
    (base : Nat) (e : TypeId) (i : TypeInfo) (z : Value) (x : List Value) (bytes : Nat) (ht : P.underlying t = some (.slice e)) (hi : P.info? e = some i) (hz : i.zero = some z)
    (hsize : i.size = x.length) (hby : i.bytes = bytes) (hzs : z.cells.size = x.length) (hsz : 0 < x.length)
    (v : Value) (n : Nat) (hs : a.eval s = v) (hown : MK w base e x v n)
    (ad : Addr) (m c : Nat) (hx : a.eval y = .slice (some ad) m c) (hnews : ∀ j u, (reps m x)[j]? = some u → w.cell? (ad.add j) = some u) (h1 : ∀ u ∈ x, u.oneCell' = true)
    (hm : 0 < m) (h63 : n + m ≤ maxLen) (hbytes : (n + m) * bytes ≤ 140737488355328) (hbase : base ≤ w.heap.size)
    (h : ∀ g cap w', MK w' base e x (.slice (some ⟨g, 0, none⟩) (n + m) cap) (n + m) → w.grownBy w' v.ownBlock → (v.ownBlock = some g ∨ g = w.heap.size) → g < w'.heap.size → (∀ u k, MK w base e x u k → MK w' base e x u k) →
      wpList P ops Q rest (a.put o.dst (.slice (some ⟨g, 0, none⟩) (n + m) cap)) w') : wpList P ops Q (o :: rest) a w := by
  refine wpList_plain hgd fun K hK => ?_
  obtain ⟨g, cap, w', hr, h2, h3, h4, h5, h6⟩ := run_append_mark (P := P) w t o.type base e i z x bytes ht hi hz hsize hby hzs hsz v n hown ad m c hnews h1 hm h63 hbytes hbase
  unfold Oper.wp execOp
  simp only [ho, resolve, invoke, builtin, Sem.run_bind, Sem.run_pure, Result.andThen_ok, List.map_toArray, List.map_cons, List.map_nil, hs, hx, hr]
  exact hK _ _ (h g cap w' h2 h3 h4 h5 h6)
end
end Go.Proofs.Ytnnhnekfokbooaa
