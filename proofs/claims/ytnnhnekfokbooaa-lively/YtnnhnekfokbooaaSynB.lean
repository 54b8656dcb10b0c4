/- The program's synod in memory: its net, what is sent. -/
import Derived.Test.YtnnhnekfokbooaaSyn
namespace Go.Proofs.Ytnnhnekfokbooaa
open Go.RowKit
set_option linter.unusedSimpArgs false
set_option linter.unusedVariables false

/-- The net is written. -/
theorem SynAt.setNetR {w w' : World} {sb : Nat} {L : Lay} {s : Sy} (h : SynAt w sb L s) {v : Value} {l : List Nm} {ns : List Ms} (hl : l.length ≤ 200) (hok : ∀ m ∈ ns, m.ok s.n) (hm : l.map (·.m) = ns) (hk : Keeps (fun k => k = sb ∨ L.v.ownBlock = some k) w w')
    (hb : w'.heap[sb]? = some (.cells #[.slice (some ⟨L.gb, 0, none⟩) s.n L.gc, v] 73 (0, 0))) (hown : w'.ownsRow 0 100 10 v l.length (ncs l)) (hx : ∀ x ∈ l, x.okt w) (hv : ∀ g, v.ownBlock = some g → L.v.ownBlock = some g ∨ w.heap.size ≤ g) :
    SynRv L.rv w sb L w' ⟨s.n, s.reps, ns⟩ := by
  have ty : ∀ {k : Nat} {cs : Array Value} {t : TypeId}, (k = sb ∨ L.v.ownBlock = some k) → w.heap[k]? = some (.cells cs t (0, 0)) → t = 73 ∨ t = 100 := by
    intro k cs t hk' hb'
    rcases hk' with rfl | hk'
    · rw [h.syn] at hb'; injection hb' with e; injection e with _ e; exact .inl e.symm
    · obtain ⟨l0, _, ho, _⟩ := h.net
      obtain ⟨cs', hc⟩ := owns_blk ho hk'
      rw [hc] at hb'; injection hb' with e; injection e with _ e; exact .inr e.symm
  refine ⟨⟨L.rb, L.rv, v⟩, ⟨⟨h.ok.n0, h.ok.n1, h.ok.len, h.ok.rep, by rw [← hm, List.length_map]; exact hl, hok⟩, hb, ?_, fun j hj => ?_, fun j hj => ?_, h.inj, h.rinj, l, hm, hown, fun x hx' => (hx x hx').keeps hk (fun k cs hc x => ?_)⟩, rfl, rfl, fun k ho => ?_, ?_⟩
  · obtain ⟨cs, hc, hp⟩ := h.ptrs
    exact ⟨cs, blk_keeps hk hc (fun x => by have := ty x hc; simp at this), hp⟩
  · exact blk_keeps hk (h.rep j hj) (fun x => by have := ty x (h.rep j hj); simp at this)
  · refine (h.role j hj).keeps hk (fun k hk' x => ?_)
    obtain ⟨cs, t, ht, hc⟩ := (h.role j hj).blk hk'
    have := ty x hc
    rcases ht with rfl | rfl <;> simp at this
  · have := ty x hc; simp at this
  · rcases ho with ho | ho | ho | ho
    · exact .inl (.inl ho)
    · exact .inl (.inr (.inl ho))
    · exact .inl (.inr (.inr (.inl ho)))
    · exact (hv k ho).imp (fun h => .inr (.inr (.inr h))) id
  · refine hk.mono (fun k _ hx => ?_)
    rcases hx with hx | hx
    · exact .inl hx
    · exact .inr (.inr (.inr hx))

theorem sendTo_n (m : Ms) (f : Nat) : ∀ (a : List Nat) (s : Sy), (s.sendTo m f a).n = s.n
  | [], s => rfl
  | t :: a, s => sendTo_n m f a _
theorem sendTo_reps (m : Ms) (f : Nat) : ∀ (a : List Nat) (s : Sy), (s.sendTo m f a).reps = s.reps
  | [], s => rfl
  | t :: a, s => sendTo_reps m f a _
theorem sends_map (x : Nm) (f : Nat) : ∀ (a : List Nat) (l : List Nm) (s : Sy), l.map (·.m) = s.net → (sends l x f a).map (·.m) = (s.sendTo x.m f a).net
  | [], l, s, h => h
  | t :: a, l, s, h => by
    refine sends_map x f a _ _ ?_
    have e : s.net.length = l.length := by rw [← h, List.length_map]
    unfold sent Sy.send1
    simp only [e]
    split
    · rw [List.map_append, h]; rfl
    · exact h
theorem sends_okt {w : World} (x : Nm) (f : Int) (hx : x.okt w) : ∀ (a : List Nat) (l : List Nm), (∀ y ∈ l, y.okt w) → ∀ y ∈ sends l x f a, y.okt w
  | [], l, h => h
  | t :: a, l, h => by
    refine sends_okt x f hx a _ (fun y hy => ?_)
    unfold sent at hy
    split at hy
    · rcases List.mem_append.1 hy with hy | hy
      · exact h y hy
      · rw [List.mem_singleton.1 hy]; exact hx
    · exact h y hy
theorem Ms.ok_to {n : Nat} {m : Ms} (h : m.ok n) {f t : Nat} (hf : f < n) (ht : t < n) : (m.to (f : Int) (t : Int)).ok n :=
  ⟨h.k0, h.k1, by simp [Ms.to], by simp [Ms.to]; omega, by simp [Ms.to], by simp [Ms.to]; omega, h.b0, h.b1, h.s0, h.s1, h.a, h.sl⟩
theorem sendTo_ok (m : Ms) (f : Nat) : ∀ (a : List Nat) (s : Sy), s.ok → m.ok s.n → f < s.n → (∀ t ∈ a, t < s.n) → (s.sendTo m f a).ok
  | [], s, h, _, _, _ => h
  | t :: a, s, h, hm, hf, ht => by
    refine sendTo_ok m f a _ ⟨h.n0, h.n1, h.len, h.rep, ?_, fun y hy => ?_⟩ hm hf (fun u hu => ht u (List.mem_cons_of_mem _ hu))
    · simp only [Sy.send1]; split
      · simp; omega
      · exact h.full
    · simp only [Sy.send1] at hy ⊢
      split at hy
      · rcases List.mem_append.1 hy with hy | hy
        · exact h.net y hy
        · rw [List.mem_singleton.1 hy]; exact Ms.ok_to hm hf (ht t List.mem_cons_self)
      · exact h.net y hy

theorem SynAt.cells {w : World} {sb : Nat} {L : Lay} {s : Sy} (h : SynAt w sb L s) {i : Nat} (hi : i < s.n) :
    w.cell? ⟨L.rb i, 0, none⟩ = some (.int .i64 (i : Int)) ∧ w.cell? ⟨L.rb i, 1, none⟩ = some (.int .i64 (s.n : Int)) ∧ w.cell? ⟨L.rb i, 2, none⟩ = some (.pointer (some ⟨sb, 1, none⟩)) ∧ w.cell? ⟨L.rb i, 3, none⟩ = some (.int .i64 (s.rep i).pr) ∧ w.cell? ⟨L.rb i, 4, none⟩ = some (.int .i64 (s.rep i).sn) ∧ w.cell? ⟨L.rb i, 181, none⟩ = some (L.rv i) := by
  have hb := h.rep i hi
  refine ⟨(blk_cell hb 0).trans ?_, (blk_cell hb 1).trans ?_, (blk_cell hb 2).trans ?_, (blk_cell hb 3).trans ?_, (blk_cell hb 4).trans ?_, (blk_cell hb 181).trans (repCells_role _ _ _ _ _ (h.ok.repOk hi))⟩ <;> simp [repCells, repHead]

theorem ar2 (a b c : Value) : (#[a, b] : Array Value).setIfInBounds 1 c = #[a, c] := rfl

/-- What a replica sends. -/
theorem send_rv {w : World} {sb : Nat} {L : Lay} {s : Sy} (h : SynAt w sb L s) {i : Nat} (hi : i < s.n) (x : Nm) (hx : x.okt w) (hm : (x.m.to 0 0).ok s.n) (tos : List Nat) (htos : ∀ t ∈ tos, t < s.n) (vt : Value)
    (hvt : RowAt w 1 vt tos.length (tos.map fun (i : Nat) => Value.int .i64 (i : Int))) (hvd : ∀ g, vt.ownBlock = some g → ∃ cs, w.heap[g]? = some (.cells cs 3 (0, 0))) (hlen : tos.length ≤ 1000) :
    Calls Try.prog 42 #[.pointer (some ⟨L.rb i, 0, none⟩), .agg x.cells.toArray, vt] w fun e w' => e = .returned (.tuple #[]) ∧ SynRv L.rv w sb L w' (s.sendTo x.m i tos) := by
  obtain ⟨c0, c1, c2, c3, c4, c5⟩ := h.cells hi
  obtain ⟨l, hlm, hown, hok⟩ := h.net
  have hll : l.length ≤ 200 := by have := h.ok.full; rw [← hlm, List.length_map] at this; exact this
  have nb : ∀ {k : Nat} {cs : Array Value} {t : TypeId}, w.heap[k]? = some (.cells cs t (0, 0)) → t ≠ 100 → L.v.ownBlock ≠ some k := by
    intro k cs t hk ht hv
    obtain ⟨cs', hc⟩ := owns_blk hown hv
    rw [hk] at hc; injection hc with e; injection e with _ e
    exact ht e
  have nd : ∀ {k k' : Nat} {cs cs' : Array Value} {t t' : TypeId}, w.heap[k]? = some (.cells cs t (0, 0)) → w.heap[k']? = some (.cells cs' t' (0, 0)) → t ≠ t' → k ≠ k' := by
    intro k k' cs cs' t t' hk hk' ht e
    subst e
    rw [hk] at hk'; injection hk' with e; injection e with _ e
    exact ht e
  refine (send_any (L.rb i) sb 0 (i : Int) #[.slice (some ⟨L.gb, 0, none⟩) s.n L.gc, L.v] 73 L.v vt l x tos w c0 c2 h.syn rfl hown (nb h.syn (by decide)) (nd (h.rep i hi) h.syn (by decide)) (nb (h.rep i hi) (by decide)) hx.1 hll (Nat.zero_le _) hvt ?_ hlen ?_).mono ?_
  · intro g hg
    obtain ⟨cs, hc⟩ := hvd g hg
    exact ⟨nd hc h.syn (by decide), nb hc (by decide)⟩
  · intro g hg
    obtain ⟨cs, hc⟩ := hx.2 g hg
    exact ⟨nd hc h.syn (by decide), nb hc (by decide)⟩
  · rintro e w' ⟨v', rfl, hs', ho', hne', hat', hk'⟩
    refine ⟨rfl, ?_⟩
    have hmm := sends_map x i tos l s hlm
    rw [ar2] at hs'
    have hm' : x.m.ok s.n ∨ True := .inr trivial
    have hsok : ∀ m ∈ (s.sendTo x.m i tos).net, m.ok s.n := by
      have e : s.sendTo x.m i tos = s.sendTo (x.m.to 0 0) i tos := by
        clear hvt hlen hmm ho' htos hs' hk' hat' hne'
        have : ∀ (a : List Nat) (s : Sy), s.sendTo x.m i a = s.sendTo (x.m.to 0 0) i a := by
          intro a
          induction a with
          | nil => intro s; rfl
          | cons t a ih => intro s; exact ih _
        exact this tos s
      have := (sendTo_ok (x.m.to 0 0) i tos s h.ok hm hi htos).net
      rw [sendTo_n, ← e] at this
      exact this
    have e : s.sendTo x.m i tos = ⟨s.n, s.reps, (s.sendTo x.m i tos).net⟩ := by
      have h1 := sendTo_n x.m i tos s
      have h2 := sendTo_reps x.m i tos s
      generalize s.sendTo x.m i tos = q at *
      cases q; simp_all
    rw [e]
    exact h.setNetR (sends_le _ _ _ _ hll) hsok hmm hk' hs' ho' (sends_okt x i hx tos l hok) hat'
theorem send_syn {w : World} {sb : Nat} {L : Lay} {s : Sy} (h : SynAt w sb L s) {i : Nat} (hi : i < s.n) (x : Nm) (hx : x.okt w) (hm : (x.m.to 0 0).ok s.n) (tos : List Nat) (htos : ∀ t ∈ tos, t < s.n) (vt : Value)
    (hvt : RowAt w 1 vt tos.length (tos.map fun (i : Nat) => Value.int .i64 (i : Int))) (hvd : ∀ g, vt.ownBlock = some g → ∃ cs, w.heap[g]? = some (.cells cs 3 (0, 0))) (hlen : tos.length ≤ 1000) :
    Calls Try.prog 42 #[.pointer (some ⟨L.rb i, 0, none⟩), .agg x.cells.toArray, vt] w fun e w' => e = .returned (.tuple #[]) ∧ SynTo w sb L w' (s.sendTo x.m i tos) :=
  (send_rv h hi x hx hm tos htos vt hvt hvd hlen).mono (fun _ _ ⟨e, h⟩ => ⟨e, h.to⟩)
end Go.Proofs.Ytnnhnekfokbooaa
