/- The program's synod in memory. -/
import Derived.Test.YtnnhnekfokbooaaMach
namespace Go.Proofs.Ytnnhnekfokbooaa
open Go.RowKit
set_option linter.unusedSimpArgs false
set_option linter.unusedVariables false

theorem ppcells_length : ∀ (l : List Pp), (∀ x ∈ l, x.t.v.length = 7) → (ppcells l).length = l.length * 12
  | [], _ => rfl
  | x :: l, h => by
    have h1 := ppcells_length l (fun y hy => h y (List.mem_cons_of_mem _ hy))
    have h2 := h x List.mem_cons_self
    simp [ppcells, Pp.cells, Pst.cells, Tl.cells, h1, h2]; omega

/-! What holds of every synod that the program makes. -/
def Tl.ok (t : Tl) : Prop := t.v.length = 7 ∧ t.c = ((t.v.filter id).length : Int)
theorem Tl.ok.le {t : Tl} (h : t.ok) : 0 ≤ t.c ∧ t.c ≤ 7 := by
  have := List.length_filter_le id t.v
  have h1 := h.1
  have h2 := h.2
  omega
def Rl.ok : Rl → Prop
  | .idle => True
  | .prep _ t kept => t.ok ∧ kept.length = 16
  | .lead _ next ps => next ≤ 16 ∧ ps.length = 16 ∧ ∀ x ∈ ps, x.t.ok
structure Rp.ok (r : Rp) : Prop where
  pr0 : 0 ≤ r.pr
  pr1 : r.pr ≤ 8007
  sn0 : 0 ≤ r.sn
  sn1 : r.sn ≤ 8007
  acc : r.acc.length = 16
  slot : ∀ v ∈ r.acc, 0 ≤ v.s ∧ v.s < 16
  dec : r.dec.length = 16
  rl : r.rl.ok
structure Ms.ok (n : Nat) (m : Ms) : Prop where
  k0 : 1 ≤ m.k
  k1 : m.k ≤ 6
  f0 : 0 ≤ m.f
  f1 : m.f < n
  t0 : 0 ≤ m.t
  t1 : m.t < n
  b0 : 0 ≤ m.b
  b1 : m.b ≤ 8007
  s0 : 0 ≤ m.s
  s1 : m.s < 16
  a : m.a.length ≤ 16
  sl : ∀ v ∈ m.a, 0 ≤ v.s ∧ v.s < 16
structure Sy.ok (s : Sy) : Prop where
  n0 : 1 ≤ s.n
  n1 : s.n ≤ 7
  len : s.reps.length = s.n
  rep : ∀ r ∈ s.reps, r.ok
  full : s.net.length ≤ 200
  net : ∀ m ∈ s.net, m.ok s.n

/-! Memory. -/
def repHead (i n sb : Nat) (r : Rp) : List Value := [.int .i64 (i : Int), .int .i64 (n : Int), .pointer (some ⟨sb, 1, none⟩), .int .i64 r.pr, .int .i64 r.sn]
def repCells (i n sb : Nat) (r : Rp) (rv : Value) : List Value := repHead i n sb r ++ (vcells r.acc ++ (dcells r.dec ++ [rv]))
def prepHead (b : Int) (t : Tl) : List Value := [.int .i64 1, .int .i64 b] ++ t.cells
def leadHead (b : Int) (next : Nat) : List Value := [.int .i64 2, .int .i64 b, .int .i64 (next : Int)]
def RoleIs (w : World) (rv : Value) : Rl → Prop
  | .idle => rv = idleV
  | .prep b t kept => ∃ pb, rv = .iface 91 (.pointer (some ⟨pb, 0, none⟩)) ∧ w.heap[pb]? = some (.cells (prepHead b t ++ vcells kept).toArray 96 (0, 0))
  | .lead b next ps => ∃ pb, rv = .iface 102 (.pointer (some ⟨pb, 0, none⟩)) ∧ w.heap[pb]? = some (.cells (leadHead b next ++ ppcells ps).toArray 108 (0, 0))
def roleBlk : Value → Option Nat
  | .iface _ (.pointer (some a)) => some a.block
  | _ => none
/-- Where a synod lies. -/
structure Lay where
  rb : Nat → Nat
  rv : Nat → Value
  v : Value
/-- The list of the replicas: its block and its capacity stand with the replicas' blocks, for nothing turns them. -/
def Lay.gb (L : Lay) : Nat := L.rb 1000
def Lay.gc (L : Lay) : Nat := L.rb 1001
/-- The blocks that a synod writes. -/
def Lay.own (L : Lay) (sb n k : Nat) : Prop := k = sb ∨ k = L.gb ∨ (∃ i, i < n ∧ (k = L.rb i ∨ roleBlk (L.rv i) = some k)) ∨ L.v.ownBlock = some k
/-- A message's list is there, in a block of votes. -/
def Nm.okt (w : World) (x : Nm) : Prop := x.ok w ∧ ∀ g, x.v.ownBlock = some g → ∃ cs, w.heap[g]? = some (.cells cs 77 (0, 0))
structure SynAt (w : World) (sb : Nat) (L : Lay) (s : Sy) : Prop where
  ok : s.ok
  syn : w.heap[sb]? = some (.cells #[.slice (some ⟨L.gb, 0, none⟩) s.n L.gc, L.v] 73 (0, 0))
  ptrs : ∃ cs : Array Value, w.heap[L.gb]? = some (.cells cs 57 (0, 0)) ∧ ∀ i, i < s.n → cs[i]? = some (.pointer (some ⟨L.rb i, 0, none⟩))
  rep : ∀ i, i < s.n → w.heap[L.rb i]? = some (.cells (repCells i s.n sb (s.rep i) (L.rv i)).toArray 85 (0, 0))
  role : ∀ i, i < s.n → RoleIs w (L.rv i) (s.rep i).rl
  inj : ∀ i j, i < s.n → j < s.n → L.rb i = L.rb j → i = j
  rinj : ∀ i j k, i < s.n → j < s.n → roleBlk (L.rv i) = some k → roleBlk (L.rv j) = some k → i = j
  net : ∃ l : List Nm, l.map (·.m) = s.net ∧ w.ownsRow 0 100 10 L.v l.length (ncs l) ∧ ∀ x ∈ l, x.okt w

theorem Sy.ok.repOk {s : Sy} (h : s.ok) {i : Nat} (hi : i < s.n) : (s.rep i).ok := by
  have hl : i < s.reps.length := by rw [h.len]; exact hi
  unfold Sy.rep
  rw [List.getD_eq_getElem?_getD, List.getElem?_eq_getElem hl]
  exact h.rep _ (List.getElem_mem hl)
theorem RoleIs.blk {w : World} {rv : Value} {l : Rl} (h : RoleIs w rv l) {k : Nat} (hk : roleBlk rv = some k) : ∃ cs t, (t = 96 ∨ t = 108) ∧ w.heap[k]? = some (.cells cs t (0, 0)) := by
  cases l with
  | idle => cases h; cases hk
  | prep b t kept =>
    obtain ⟨pb, rfl, hb⟩ := h
    obtain rfl : pb = k := by simpa [roleBlk] using hk
    exact ⟨_, _, .inl rfl, hb⟩
  | lead b next ps =>
    obtain ⟨pb, rfl, hb⟩ := h
    obtain rfl : pb = k := by simpa [roleBlk] using hk
    exact ⟨_, _, .inr rfl, hb⟩
theorem RoleIs.keeps {P : Nat → Prop} {w w' : World} {rv : Value} {l : Rl} (h : RoleIs w rv l) (hk : Keeps P w w') (hP : ∀ k, roleBlk rv = some k → ¬ P k) : RoleIs w' rv l := by
  cases l with
  | idle => exact h
  | prep b t kept =>
    obtain ⟨pb, rfl, hb⟩ := h
    exact ⟨pb, rfl, blk_keeps hk hb (hP pb rfl)⟩
  | lead b next ps =>
    obtain ⟨pb, rfl, hb⟩ := h
    exact ⟨pb, rfl, blk_keeps hk hb (hP pb rfl)⟩
theorem RoleIs.bal {w : World} {rv : Value} {l : Rl} (h : RoleIs w rv l) : RoleAt w rv l.bal := by
  cases l with
  | idle => exact .inl ⟨h, rfl⟩
  | prep b t kept =>
    obtain ⟨pb, rfl, hb⟩ := h
    exact .inr ⟨_, pb, 1, .inl rfl, rfl, (blk_cell hb 0).trans rfl, (blk_cell hb 1).trans rfl⟩
  | lead b next ps =>
    obtain ⟨pb, rfl, hb⟩ := h
    exact .inr ⟨_, pb, 2, .inr rfl, rfl, (blk_cell hb 0).trans rfl, (blk_cell hb 1).trans rfl⟩
theorem owns_blk {w : World} {base : Nat} {e : TypeId} {size : Nat} {v : Value} {n : Nat} {xs : List Value} (h : w.ownsRow base e size v n xs) {g : Nat} (hg : v.ownBlock = some g) : ∃ cs, w.heap[g]? = some (.cells cs e (0, 0)) := by
  rcases h.2 with ⟨rfl, _⟩ | ⟨g', cap, cur, rfl, _, h4, _⟩
  · cases hg
  · obtain rfl : g' = g := by simpa [Value.ownBlock] using hg
    exact ⟨_, h4⟩
theorem Nm.okt.keeps {P : Nat → Prop} {w w' : World} {x : Nm} (h : x.okt w) (hk : Keeps P w w') (hP : ∀ k cs, w.heap[k]? = some (.cells cs 77 (0, 0)) → ¬ P k) : x.okt w' := by
  obtain ⟨⟨⟨hl, ao, cap, he, hf⟩, hn⟩, ht⟩ := h
  refine ⟨⟨⟨hl, ao, cap, he, fun hne => ?_⟩, hn⟩, fun g hg => ?_⟩
  · obtain ⟨g, off, rfl, hg, hc⟩ := hf hne
    obtain ⟨cs, hcs⟩ := ht g (by rw [he]; rfl)
    refine ⟨g, off, rfl, Nat.lt_of_lt_of_le hg hk.size, fun j u hu => ?_⟩
    rw [World.cell?_of_block (w := w) (hk.block g hg (hP g cs hcs))]
    exact hc j u hu
  · obtain ⟨cs, hcs⟩ := ht g hg
    exact ⟨cs, blk_keeps hk hcs (hP g cs hcs)⟩

/-- The types of the blocks that a synod writes. -/
def ownT (t : TypeId) : Prop := t = 73 ∨ t = 57 ∨ t = 85 ∨ t = 96 ∨ t = 108 ∨ t = 100
theorem SynAt.ownType {w : World} {sb : Nat} {L : Lay} {s : Sy} (h : SynAt w sb L s) {k : Nat} (hk : L.own sb s.n k) : ∃ cs t, ownT t ∧ w.heap[k]? = some (.cells cs t (0, 0)) := by
  rcases hk with rfl | rfl | ⟨i, hi, rfl | hr⟩ | hv
  · exact ⟨_, _, .inl rfl, h.syn⟩
  · obtain ⟨cs, hc, _⟩ := h.ptrs
    exact ⟨_, _, .inr (.inl rfl), hc⟩
  · exact ⟨_, _, .inr (.inr (.inl rfl)), h.rep i hi⟩
  · obtain ⟨cs, t, ht, hb⟩ := (h.role i hi).blk hr
    rcases ht with rfl | rfl
    · exact ⟨_, _, .inr (.inr (.inr (.inl rfl))), hb⟩
    · exact ⟨_, _, .inr (.inr (.inr (.inr (.inl rfl)))), hb⟩
  · obtain ⟨l, _, ho, _⟩ := h.net
    obtain ⟨cs, hc⟩ := owns_blk ho hv
    exact ⟨_, _, .inr (.inr (.inr (.inr (.inr rfl)))), hc⟩
theorem SynAt.own_lt {w : World} {sb : Nat} {L : Lay} {s : Sy} (h : SynAt w sb L s) {k : Nat} (hk : L.own sb s.n k) : k < w.heap.size := by
  obtain ⟨cs, t, _, hb⟩ := h.ownType hk
  exact lt_of_block hb
/-- A block of another type is none of the synod's. -/
theorem SynAt.not_own {w : World} {sb : Nat} {L : Lay} {s : Sy} (h : SynAt w sb L s) {k : Nat} {cs : Array Value} {t : TypeId} (hb : w.heap[k]? = some (.cells cs t (0, 0))) (ht : ¬ ownT t) : ¬ L.own sb s.n k := fun hk => by
  obtain ⟨cs', t', h1, h2⟩ := h.ownType hk
  rw [hb] at h2
  injection h2 with h3
  injection h3 with _ h4
  exact ht (h4 ▸ h1)
theorem vote_not_own : ¬ ownT 77 := by unfold ownT; decide

/-- What is written elsewhere leaves the synod as it is. -/
theorem SynAt.frame {P : Nat → Prop} {w w' : World} {sb : Nat} {L : Lay} {s : Sy} (h : SynAt w sb L s) (hk : Keeps P w w') (hP : ∀ k, k < w.heap.size → P k → ¬ L.own sb s.n k) (hV : ∀ k cs, w.heap[k]? = some (.cells cs 77 (0, 0)) → ¬ P k) : SynAt w' sb L s := by
  have hn : ∀ k, L.own sb s.n k → ¬ P k := fun k ho hp => hP k (h.own_lt ho) hp ho
  refine ⟨h.ok, blk_keeps hk h.syn (hn _ (.inl rfl)), ?_, fun i hi => blk_keeps hk (h.rep i hi) (hn _ (.inr (.inr (.inl ⟨i, hi, .inl rfl⟩)))), fun i hi => (h.role i hi).keeps hk (fun k hr => hn _ (.inr (.inr (.inl ⟨i, hi, .inr hr⟩)))), h.inj, h.rinj, ?_⟩
  · obtain ⟨cs, hc, hp⟩ := h.ptrs
    exact ⟨cs, blk_keeps hk hc (hn _ (.inr (.inl rfl))), hp⟩
  · obtain ⟨l, hm, ho, hx⟩ := h.net
    exact ⟨l, hm, owns_keeps ho hk (fun g hg => hn _ (.inr (.inr (.inr hg)))), fun x hx' => (hx x hx').keeps hk hV⟩
theorem SynAt.below {w w' : World} {sb : Nat} {L : Lay} {s : Sy} (h : SynAt w sb L s) (hb : Below w.heap.size w w') : SynAt w' sb L s :=
  h.frame (Keeps.ofBelow (P := fun _ => False) hb) (fun _ _ => False.elim) (fun _ _ _ => id)
theorem SynAt.alloc {w : World} {sb : Nat} {L : Lay} {s : Sy} (h : SynAt w sb L s) (o : Obj) : SynAt (w.alloc o) sb L s := h.below ((Below.refl _ w).alloc (Nat.le_refl _) o)
theorem SynAt.drew {w : World} {sb : Nat} {L : Lay} {s : Sy} (h : SynAt w sb L s) : SynAt w.drew sb L s := h.below (Below.refl _ w).drew

/-- What a call makes of a synod. -/
def SynTo (w : World) (sb : Nat) (L : Lay) (w' : World) (s : Sy) : Prop :=
  ∃ L' : Lay, SynAt w' sb L' s ∧ L'.rb = L.rb ∧ (∀ k, L'.own sb s.n k → L.own sb s.n k ∨ w.heap.size ≤ k) ∧ Keeps (L.own sb s.n) w w'
theorem SynTo.refl {w : World} {sb : Nat} {L : Lay} {s : Sy} (h : SynAt w sb L s) : SynTo w sb L w s := ⟨L, h, rfl, fun _ h => .inl h, Keeps.refl _ _⟩
theorem SynTo.trans {w w1 w2 : World} {sb : Nat} {L : Lay} {s1 s2 : Sy} (a : SynTo w sb L w1 s1) (hn : s2.n = s1.n) (b : ∀ L1, SynAt w1 sb L1 s1 → L1.rb = L.rb → SynTo w1 sb L1 w2 s2) : SynTo w sb L w2 s2 := by
  obtain ⟨L1, h1, e1, o1, k1⟩ := a
  obtain ⟨L2, h2, e2, o2, k2⟩ := b L1 h1 e1
  rw [hn] at o2 k2
  refine ⟨L2, h2, e2.trans e1, fun k hk => ?_, ?_⟩
  · rw [hn] at hk ⊢
    rcases o2 k hk with h | h
    · exact o1 k h
    · exact .inr (Nat.le_trans k1.size h)
  · rw [hn]
    refine ⟨k2.os.trans k1.os, k2.tape.trans k1.tape, k2.output.trans k1.output, Nat.le_trans k1.size k2.size, fun k hk hno => ?_⟩
    rw [k2.block k (Nat.lt_of_lt_of_le hk k1.size) (fun ho => by rcases o1 k ho with h | h; exact hno h; omega)]
    exact k1.block k hk hno
theorem SynTo.below {w w1 w2 : World} {sb : Nat} {L : Lay} {s : Sy} (a : SynTo w sb L w1 s) (hb : Below w1.heap.size w1 w2) : SynTo w sb L w2 s := by
  refine a.trans rfl (fun L1 h1 _ => ⟨L1, h1.below hb, rfl, fun _ h => .inl h, Keeps.ofBelow hb⟩)
theorem SynTo.after {w w1 w2 : World} {sb : Nat} {L : Lay} {s0 s : Sy} (h : SynAt w sb L s0) (hn : s.n = s0.n) (hb : Below w.heap.size w w1) (b : SynTo w1 sb L w2 s) : SynTo w sb L w2 s := by
  have a : SynTo w sb L w1 s0 := ⟨L, h.below hb, rfl, fun _ h => .inl h, Keeps.ofBelow hb⟩
  obtain ⟨L2, h2, e2, o2, k2⟩ := b
  refine ⟨L2, h2, e2, fun k hk => (o2 k hk).imp id (fun h => Nat.le_trans hb.size h), ?_⟩
  exact Keeps.trans (Keeps.ofBelow hb) k2
/-- A block that is none of the synod's stays. -/
theorem SynTo.blk {w w' : World} {sb : Nat} {L : Lay} {s : Sy} (a : SynTo w sb L w' s) {b : Nat} {ob : Obj} (hb : w.heap[b]? = some ob) (hn : ¬ L.own sb s.n b) : w'.heap[b]? = some ob := by
  obtain ⟨L', _, _, _, hk⟩ := a
  exact blk_keeps hk hb hn

/-- The like, and where the roles lie. -/
def SynRv (f : Nat → Value) (w : World) (sb : Nat) (L : Lay) (w' : World) (s : Sy) : Prop :=
  ∃ L' : Lay, SynAt w' sb L' s ∧ L'.rb = L.rb ∧ L'.rv = f ∧ (∀ k, L'.own sb s.n k → L.own sb s.n k ∨ w.heap.size ≤ k) ∧ Keeps (L.own sb s.n) w w'
theorem SynRv.to {f : Nat → Value} {w w' : World} {sb : Nat} {L : Lay} {s : Sy} (a : SynRv f w sb L w' s) : SynTo w sb L w' s := by
  obtain ⟨L', h1, h2, _, h4, h5⟩ := a
  exact ⟨L', h1, h2, h4, h5⟩
theorem SynRv.refl {w : World} {sb : Nat} {L : Lay} {s : Sy} (h : SynAt w sb L s) : SynRv L.rv w sb L w s := ⟨L, h, rfl, rfl, fun _ h => .inl h, Keeps.refl _ _⟩
theorem SynRv.trans {f g : Nat → Value} {w w1 w2 : World} {sb : Nat} {L : Lay} {s1 s2 : Sy} (a : SynRv f w sb L w1 s1) (hn : s2.n = s1.n) (b : ∀ L1, SynAt w1 sb L1 s1 → L1.rb = L.rb → L1.rv = f → SynRv g w1 sb L1 w2 s2) : SynRv g w sb L w2 s2 := by
  obtain ⟨L1, h1, e1, r1, o1, k1⟩ := a
  obtain ⟨L2, h2, e2, r2, o2, k2⟩ := b L1 h1 e1 r1
  rw [hn] at o2 k2
  refine ⟨L2, h2, e2.trans e1, r2, fun k hk => ?_, ?_⟩
  · rw [hn] at hk ⊢
    rcases o2 k hk with h | h
    · exact o1 k h
    · exact .inr (Nat.le_trans k1.size h)
  · rw [hn]
    refine ⟨k2.os.trans k1.os, k2.tape.trans k1.tape, k2.output.trans k1.output, Nat.le_trans k1.size k2.size, fun k hk hno => ?_⟩
    rw [k2.block k (Nat.lt_of_lt_of_le hk k1.size) (fun ho => by rcases o1 k ho with h | h; exact hno h; omega)]
    exact k1.block k hk hno
theorem SynRv.below {f : Nat → Value} {w w1 w2 : World} {sb : Nat} {L : Lay} {s : Sy} (a : SynRv f w sb L w1 s) (hb : Below w1.heap.size w1 w2) : SynRv f w sb L w2 s := by
  refine a.trans rfl (fun L1 h1 _ r1 => ⟨L1, h1.below hb, rfl, r1, fun _ h => .inl h, Keeps.ofBelow hb⟩)
theorem SynRv.after {f : Nat → Value} {w w1 w2 : World} {sb : Nat} {L : Lay} {s0 s : Sy} (h : SynAt w sb L s0) (hn : s.n = s0.n) (hb : Below w.heap.size w w1) (b : SynRv f w1 sb L w2 s) : SynRv f w sb L w2 s := by
  obtain ⟨L2, h2, e2, r2, o2, k2⟩ := b
  exact ⟨L2, h2, e2, r2, fun k hk => (o2 k hk).imp id (fun h => Nat.le_trans hb.size h), Keeps.trans (Keeps.ofBelow hb) k2⟩
theorem SynRv.blk {f : Nat → Value} {w w' : World} {sb : Nat} {L : Lay} {s : Sy} (a : SynRv f w sb L w' s) {b : Nat} {ob : Obj} (hb : w.heap[b]? = some ob) (hn : ¬ L.own sb s.n b) : w'.heap[b]? = some ob := a.to.blk hb hn
theorem SynRv.next {f : Nat → Value} {w w1 w2 : World} {sb : Nat} {L L1 : Lay} {s1 s2 : Sy} (e1 : L1.rb = L.rb) (o1 : ∀ k, L1.own sb s1.n k → L.own sb s1.n k ∨ w.heap.size ≤ k) (k1 : Keeps (L.own sb s1.n) w w1) (hn : s2.n = s1.n) (b : SynRv f w1 sb L1 w2 s2) : SynRv f w sb L w2 s2 := by
  obtain ⟨L2, h2, e2, r2, o2, k2⟩ := b
  rw [hn] at o2 k2
  refine ⟨L2, h2, e2.trans e1, r2, fun k hk => ?_, ?_⟩
  · rw [hn] at hk ⊢
    rcases o2 k hk with h | h
    · exact o1 k h
    · exact .inr (Nat.le_trans k1.size h)
  · rw [hn]
    refine ⟨k2.os.trans k1.os, k2.tape.trans k1.tape, k2.output.trans k1.output, Nat.le_trans k1.size k2.size, fun k hk hno => ?_⟩
    rw [k2.block k (Nat.lt_of_lt_of_le hk k1.size) (fun ho => by rcases o1 k ho with h | h; exact hno h; omega)]
    exact k1.block k hk hno

/-! What the replica's cells are. -/
theorem repCells_length (i n sb : Nat) (r : Rp) (rv : Value) (h : r.ok) : (repCells i n sb r rv).length = 182 := by
  simp [repCells, repHead, vcells_length, dcells_length, h.acc, h.dec]
theorem repCells_role (i n sb : Nat) (r : Rp) (rv : Value) (h : r.ok) : (repCells i n sb r rv).toArray[181]? = some rv := by
  have h1 : (repHead i n sb r).length = 5 := rfl
  have h2 : (vcells r.acc).length = 96 := by rw [vcells_length, h.acc]
  have h3 : (dcells r.dec).length = 80 := by rw [dcells_length, h.dec]
  rw [List.getElem?_toArray, repCells, List.getElem?_append_right (by omega), List.getElem?_append_right (by omega), List.getElem?_append_right (by omega), h1, h2, h3]
  rfl
theorem repCells_set3 (i n sb : Nat) (r : Rp) (rv : Value) (b : Int) : (repCells i n sb r rv).toArray.setIfInBounds 3 (.int .i64 b) = (repCells i n sb (r.promise b) rv).toArray := by
  simp [repCells, repHead, Rp.promise]
theorem repCells_set4 (i n sb : Nat) (r : Rp) (rv : Value) (b : Int) : (repCells i n sb r rv).toArray.setIfInBounds 4 (.int .i64 b) = (repCells i n sb ⟨r.pr, b, r.acc, r.dec, r.rl⟩ rv).toArray := by
  simp [repCells, repHead]
theorem repCells_set181 (i n sb : Nat) (r : Rp) (rv rv' : Value) (l : Rl) (h : r.ok) : (repCells i n sb r rv).toArray.setIfInBounds 181 rv' = (repCells i n sb (r.role l) rv').toArray := by
  have h1 : (repHead i n sb r).length = 5 := rfl
  have h2 : (vcells r.acc).length = 96 := by rw [vcells_length, h.acc]
  have h3 : (dcells r.dec).length = 80 := by rw [dcells_length, h.dec]
  rw [List.setIfInBounds_toArray, repCells, List.set_append_right _ _ (by omega), List.set_append_right _ _ (by omega), List.set_append_right _ _ (by omega), h1, h2, h3]
  rfl
theorem repCells_rl (i n sb : Nat) (r : Rp) (rv : Value) (l : Rl) : repCells i n sb (r.role l) rv = repCells i n sb r rv := rfl

theorem Sy.rep_put {s : Sy} {i : Nat} {r : Rp} (h : i < s.reps.length) : (s.put i r).rep i = r := by
  simp [Sy.rep, Sy.put, List.getD_eq_getElem?_getD, h]
theorem Sy.rep_put_ne {s : Sy} {i j : Nat} {r : Rp} (h : i ≠ j) : (s.put i r).rep j = s.rep j := by
  simp [Sy.rep, Sy.put, List.getD_eq_getElem?_getD, h]
theorem Sy.put_ok {s : Sy} (h : s.ok) {i : Nat} {r : Rp} (hr : r.ok) : (s.put i r).ok := by
  refine ⟨h.n0, h.n1, by simp [Sy.put, h.len], fun x hx => ?_, h.full, h.net⟩
  rcases List.mem_or_eq_of_mem_set hx with h1 | h1
  · exact h.rep x h1
  · rw [h1]; exact hr
def upd (f : Nat → Value) (i : Nat) (v : Value) : Nat → Value := fun k => if k = i then v else f k
theorem upd_same (f : Nat → Value) (i : Nat) (v : Value) : upd f i v i = v := by simp [upd]
theorem upd_ne {f : Nat → Value} {i k : Nat} {v : Value} (h : k ≠ i) : upd f i v k = f k := by simp [upd, h]

/-- A replica's block and its role's are written. -/
theorem upd_self (f : Nat → Value) (i : Nat) : upd f i (f i) = f := funext fun k => by unfold upd; split <;> simp_all
theorem SynAt.setRepR {w w' : World} {sb : Nat} {L : Lay} {s : Sy} (h : SynAt w sb L s) {i : Nat} (hi : i < s.n) {r : Rp} {rv : Value} (hr : r.ok) (hk : Keeps (fun k => k = L.rb i ∨ roleBlk (L.rv i) = some k) w w')
    (hb : w'.heap[L.rb i]? = some (.cells (repCells i s.n sb r rv).toArray 85 (0, 0))) (hrole : RoleIs w' rv r.rl) (hrb : ∀ k, roleBlk rv = some k → roleBlk (L.rv i) = some k ∨ w.heap.size ≤ k) : SynRv (upd L.rv i rv) w sb L w' (s.put i r) := by
  have hil : i < s.reps.length := by rw [h.ok.len]; exact hi
  have ty : ∀ {k : Nat} {cs : Array Value} {t : TypeId}, (k = L.rb i ∨ roleBlk (L.rv i) = some k) → w.heap[k]? = some (.cells cs t (0, 0)) → t = 85 ∨ t = 96 ∨ t = 108 := by
    intro k cs t hk' hb'
    rcases hk' with rfl | hk'
    · rw [h.rep i hi] at hb'; injection hb' with e; injection e with _ e; exact .inl e.symm
    · obtain ⟨cs', t', ht, hc⟩ := (h.role i hi).blk hk'
      rw [hc] at hb'; injection hb' with e; injection e with _ e
      rcases ht with rfl | rfl
      · exact .inr (.inl e.symm)
      · exact .inr (.inr e.symm)
  have hrl : ∀ j, j < s.n → j ≠ i → ¬ (L.rb j = L.rb i ∨ roleBlk (L.rv i) = some (L.rb j)) := by
    intro j hj hne hx
    rcases hx with e | e
    · exact hne (h.inj j i hj hi e)
    · obtain ⟨cs', t', ht, hc⟩ := (h.role i hi).blk e
      rw [h.rep j hj] at hc; injection hc with e2; injection e2 with _ e2
      rcases ht with rfl | rfl <;> simp at e2
  have hro : ∀ j k, j < s.n → j ≠ i → roleBlk (L.rv j) = some k → ¬ (k = L.rb i ∨ roleBlk (L.rv i) = some k) := by
    intro j k hj hne hjk hx
    rcases hx with rfl | e
    · obtain ⟨cs', t', ht, hc⟩ := (h.role j hj).blk hjk
      rw [h.rep i hi] at hc; injection hc with e2; injection e2 with _ e2
      rcases ht with rfl | rfl <;> simp at e2
    · exact hne (h.rinj j i k hj hi hjk e)
  refine ⟨⟨L.rb, upd L.rv i rv, L.v⟩, ⟨Sy.put_ok h.ok hr, ?_, ?_, fun j hj => ?_, fun j hj => ?_, h.inj, fun a b k ha hb' h1 h2 => ?_, ?_⟩, rfl, rfl, fun k ho => ?_, ?_⟩
  · exact blk_keeps hk h.syn (fun x => by have := ty x h.syn; simp at this)
  · obtain ⟨cs, hc, hp⟩ := h.ptrs
    exact ⟨cs, blk_keeps hk hc (fun x => by have := ty x hc; simp at this), hp⟩
  · by_cases e : j = i
    · subst e
      rw [Sy.rep_put hil]; simp only [upd_same]
      exact hb
    · rw [Sy.rep_put_ne (Ne.symm e)]; simp only [upd_ne e]
      exact blk_keeps hk (h.rep j hj) (hrl j hj e)
  · by_cases e : j = i
    · subst e
      rw [Sy.rep_put hil]; simp only [upd_same]
      exact hrole
    · rw [Sy.rep_put_ne (Ne.symm e)]; simp only [upd_ne e]
      exact (h.role j hj).keeps hk (fun k hk' => hro j k hj e hk')
  · by_cases e1 : a = i
    · by_cases e2 : b = i
      · rw [e1, e2]
      · subst e1
        simp only [upd_same] at h1
        simp only [upd_ne e2] at h2
        rcases hrb k h1 with h3 | h3
        · exact h.rinj a b k ha hb' h3 h2
        · obtain ⟨cs', t', _, hc⟩ := (h.role b hb').blk h2
          have := lt_of_block hc
          omega
    · by_cases e2 : b = i
      · subst e2
        simp only [upd_same] at h2
        simp only [upd_ne e1] at h1
        rcases hrb k h2 with h3 | h3
        · exact h.rinj a b k ha hb' h1 h3
        · obtain ⟨cs', t', _, hc⟩ := (h.role a ha).blk h1
          have := lt_of_block hc
          omega
      · simp only [upd_ne e1] at h1
        simp only [upd_ne e2] at h2
        exact h.rinj a b k ha hb' h1 h2
  · obtain ⟨l, hm, ho, hx⟩ := h.net
    refine ⟨l, hm, owns_keeps ho hk (fun g hg x => ?_), fun x hx' => (hx x hx').keeps hk (fun k cs hc x => ?_)⟩
    · obtain ⟨cs, hc⟩ := owns_blk ho hg
      have := ty x hc; simp at this
    · have := ty x hc; simp at this
  · rcases ho with ho | ho | ⟨j, hj, ho | ho⟩ | ho
    · exact .inl (.inl ho)
    · exact .inl (.inr (.inl ho))
    · exact .inl (.inr (.inr (.inl ⟨j, hj, .inl ho⟩)))
    · by_cases e : j = i
      · subst e
        simp only [upd_same] at ho
        exact (hrb k ho).imp (fun h => .inr (.inr (.inl ⟨j, hj, .inr h⟩))) id
      · simp only [upd_ne e] at ho
        exact .inl (.inr (.inr (.inl ⟨j, hj, .inr ho⟩)))
    · exact .inl (.inr (.inr (.inr ho)))
  · exact hk.mono (fun k _ hx => .inr (.inr (.inl ⟨i, hi, hx⟩)))
theorem SynAt.setRep {w w' : World} {sb : Nat} {L : Lay} {s : Sy} (h : SynAt w sb L s) {i : Nat} (hi : i < s.n) {r : Rp} {rv : Value} (hr : r.ok) (hk : Keeps (fun k => k = L.rb i ∨ roleBlk (L.rv i) = some k) w w')
    (hb : w'.heap[L.rb i]? = some (.cells (repCells i s.n sb r rv).toArray 85 (0, 0))) (hrole : RoleIs w' rv r.rl) (hrb : ∀ k, roleBlk rv = some k → roleBlk (L.rv i) = some k ∨ w.heap.size ≤ k) : SynTo w sb L w' (s.put i r) := (h.setRepR hi hr hk hb hrole hrb).to
end Go.Proofs.Ytnnhnekfokbooaa
