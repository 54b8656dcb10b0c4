/- The walks of putValue and putVotes. -/
import Derived.Test.YtnnhnekfokbooaaGreatDoorWalkP
import Derived.Test.YtnnhnekfokbooaaGreatDoorWalkG
import Derived.Lib.AppendStr
import Derived.WalkKit
import Derived.WalkSpells
import Derived.WalkLawsBesides
namespace Go.Proofs.YtnnhnekfokbooaaGreatDoor
open Go.RowKit

/-- A value as bytes. -/
def encV (p : Pst) : List UInt8 := encA 1 [p.c] ++ if nothingB p then [] else encA 2 [p.q] ++ encA 1 [p.h, (p.t.size : Int)] ++ p.t.data.toList

theorem Own.below {w w' : World} {B : Nat} {v : Value} {bs : List UInt8} (h : Own w B v bs) (hb : Below w.heap.size w w') : Own w' B v bs := by
  refine World.ownsRow.kept h (Kp.ofBelow (o := none) hb).grownBy ?_
  cases hx : v.ownBlock with
  | none => exact .inl rfl
  | some g => exact .inr (by simp)
theorem Own.alloc {w : World} {B : Nat} {v : Value} {bs : List UInt8} (h : Own w B v bs) (o : Obj) : Own (w.alloc o) B v bs := World.ownsRow.alloc h o
theorem Own.lt {w : World} {B : Nat} {v : Value} {bs : List UInt8} (h : Own w B v bs) : ∀ k, v.ownBlock = some k → B ≤ k ∧ k < w.heap.size := World.ownsRow.lt h
theorem Own.ne {w : World} {B : Nat} {v : Value} {bs : List UInt8} (h : Own w B v bs) {b : Nat} (hb : w.heap.size ≤ b) : v.ownBlock ≠ some b := fun e => by have := (h.lt _ e).2; omega
theorem Kp.ne {o o' : Option Nat} {w w' : World} (h : Kp o o' w w') {b : Nat} (hb : b < w.heap.size) (ho : o ≠ some b) : o' ≠ some b := by
  rcases h.own with e | ⟨g, e, hg⟩
  · rw [e]; exact ho
  · rw [e]; intro x; injection x with x; omega
theorem cell_new1 (w : World) (x : Value) (n : Nat) (hn : w.heap.size = n) (t : TypeId) : (w.alloc (.cells #[x] t)).cell? ⟨n, 0, none⟩ = some x := by
  subst hn; rw [blk_cell (heap_alloc_new w (.cells #[x] t))]; rfl
theorem cells_one (w : World) (x : Int) (n : Nat) (hn : w.heap.size = n) (t : TypeId) : ∀ (j : Nat) (y : Int), [x][j]? = some y → (w.alloc (.cells #[.int .i64 x] t)).cell? ⟨n, j, none⟩ = some (.int .i64 y) := by
  subst hn
  intro j y hy
  rw [blk_cell (heap_alloc_new w (.cells #[.int .i64 x] t))]
  rcases j with _ | j
  · simp at hy; subst hy; rfl
  · simp at hy
theorem cells_two (w : World) (x x2 : Int) (n : Nat) (hn : w.heap.size = n) (t : TypeId) : ∀ (j : Nat) (y : Int), [x, x2][j]? = some y → (w.alloc (.cells #[.int .i64 x, .int .i64 x2] t)).cell? ⟨n, j, none⟩ = some (.int .i64 y) := by
  subst hn
  intro j y hy
  rw [blk_cell (heap_alloc_new w (.cells #[.int .i64 x, .int .i64 x2] t))]
  rcases j with _ | _ | j
  · simp at hy; subst hy; rfl
  · simp at hy; subst hy; rfl
  · simp at hy
theorem cells_three (w : World) (x x2 x3 : Int) (n : Nat) (hn : w.heap.size = n) (t : TypeId) : ∀ (j : Nat) (y : Int), [x, x2, x3][j]? = some y → (w.alloc (.cells #[.int .i64 x, .int .i64 x2, .int .i64 x3] t)).cell? ⟨n, j, none⟩ = some (.int .i64 y) := by
  subst hn
  intro j y hy
  rw [blk_cell (heap_alloc_new w (.cells #[.int .i64 x, .int .i64 x2, .int .i64 x3] t))]
  rcases j with _ | _ | _ | j
  · simp at hy; subst hy; rfl
  · simp at hy; subst hy; rfl
  · simp at hy; subst hy; rfl
  · simp at hy

set_option maxHeartbeats 4000000 in
set_option maxRecDepth 100000 in
theorem putValue_any (B : Nat) (v : Value) (bs : List UInt8) (c q h : Int) (t : ByteArray) (w : World) (hown : Own w B v bs) (hB : B ≤ w.heap.size) (hlen : bs.length ≤ 50000)
    (hc : 0 ≤ c ∧ c ≤ 1000000) (hq : 0 ≤ q ∧ q ≤ 1000000) (hh : 0 ≤ h ∧ h ≤ 1000000) (ht : t.size ≤ 1000) :
    Calls Tryz.prog 79 #[v, .agg #[.int .i64 c, .int .i64 q, .int .i64 h, .string t]] w fun e w' => ∃ v', e = .returned v' ∧ Own w' B v' (bs ++ encV ⟨c, q, h, t⟩) ∧ Below B w w' := by
  obtain ⟨i0, hi, hz0, hz1, hz2⟩ := info_parts Tryz.infoByte
  go_enter Tryz.func79, Tryz.ntmps79
  go_wp2_with fail
  refine (putNumbers_any B v bs 1 [c] (w.heap.size + 1) _ ((hown.alloc _).alloc _) (by simp; omega) (by simp) (hown.ne (by omega)) (cells_one _ _ _ (by simp) _) (by simpa using hc) (by decide) (by omega) (by simp)).mono ?_
  rintro e w1 ⟨v1, rfl, ho1, hk1⟩
  have hb1 : Below B w w1 := (((Below.refl _ w).alloc hB _).alloc (by simp; omega) _).trans (hk1.toBelow (by simp; omega) (fun k e => (hown.lt k e).1))
  have hp1 := blk_kp hk1 (blk_alloc (blk_new w _) _) (hown.ne (by omega))
  have hn1 := hk1.ne (b := w.heap.size) (by simp; omega) (hown.ne (by omega))
  have hz1' := hk1.size
  simp only [World.size_alloc] at hz1'
  clear hk1
  have hpc := blk_cell hp1
  go_wp2_with fail
  refine (isNothing_any c q h t _).mono ?_
  rintro e w2 ⟨rfl, hb2⟩
  have ho2 := ho1.below hb2
  have hp2 := blk_below hb2 hp1
  have hz2' := hb2.size
  have hB2 : Below B w w2 := hb1.trans (hb2.mono (by omega))
  clear hpc ho1 hb1 hb2 hp1
  cases hno : nothingB ⟨c, q, h, t⟩
  · have hpc := blk_cell hp2
    have hlb : w.heap.size < w2.heap.size := lt_of_block hp2
    go_wp2_with fail
    refine (putNumbers_any B v1 _ 2 [q] w2.heap.size _ (ho2.alloc _) (by simp; omega) (by simp) (ho2.ne (Nat.le_refl _)) (cells_one _ _ _ rfl _) (by simpa using hq) (by decide) (by simp [encA, encN]; omega) (by simp)).mono ?_
    rintro e w3 ⟨v3, rfl, ho3, hk3⟩
    have hB3 : Below B w w3 := (hB2.alloc (by omega) _).trans (hk3.toBelow (by simp; omega) (fun k e => (ho2.lt k e).1))
    have hp3 := blk_kp hk3 (blk_alloc hp2 _) hn1
    have hn3 := hk3.ne (b := w.heap.size) (by simp; omega) hn1
    have hz3' := hk3.size
    simp only [World.size_alloc] at hz3'
    clear hk3 ho2 hp2 hpc hB2
    have hpc := blk_cell hp3
    go_wp2_with fail
    refine (putNumbers_any B v3 _ 1 [h, (t.size : Int)] w3.heap.size _ (ho3.alloc _) (by simp; omega) (by simp) (ho3.ne (Nat.le_refl _)) (cells_two _ _ _ _ rfl _) (by simp; omega) (by decide) (by simp [encA, encN]; omega) (by simp)).mono ?_
    rintro e w4 ⟨v4, rfl, ho4, hk4⟩
    have hB4 : Below B w w4 := (hB3.alloc (by omega) _).trans (hk4.toBelow (by simp; omega) (fun k e => (ho3.lt k e).1))
    have hp4 := blk_kp hk4 (blk_alloc hp3 _) hn3
    have hz4' := hk4.size
    simp only [World.size_alloc] at hz4'
    clear hk4 ho3 hp3 hpc hB3
    have hpc := blk_cell hp4
    have hov := fun k e => (ho4.lt k e).1
    go_wp2_with (at_builtin; refine Lib.wpList_append_own_string _ rfl (.tmp 26) (.tmp 28) 141 9 rfl B 5 i0 Tryz.underlying141 Tryz.underlying9 hi hz0 hz1 hz2 v4 _ _ rfl ho4 t rfl ?_ ?_ ?_ ?_)
    · unfold maxLen; simp [encA, encN]; omega
    · simp [encA, encN]; omega
    · omega
    · intro v5 w5 ho5 hg5 _
      have hB5 : Below B w w5 := hB4.grown hg5 (by omega) (fun k e => hov k e)
      have hoN : Own w5 B v5 (bs ++ encV ⟨c, q, h, t⟩) := by
        unfold Own
        have e1 : (bs ++ encV ⟨c, q, h, t⟩) = (bs ++ encA 1 [c] ++ encA 2 [q] ++ encA 1 [h, (t.size : Int)]) ++ t.data.toList := by simp [encV, hno]
        have e2 : bcs t.data.toList = Lib.strCells t := rfl
        have e3 : t.data.toList.length = t.size := by rw [Array.length_toList]; rfl
        rw [e1, bcs_append, List.length_append, e2, e3]
        simpa only [List.append_assoc, List.length_append] using ho5
      clear ho5 hg5 ho4 hB4 hp4 hpc
      go_wp2
      go_ret
      exact ⟨_, rfl, hoN, hB5⟩
  · go_wp2
    go_ret
    exact ⟨_, rfl, by simpa [encV, hno] using ho2, hB2⟩

/-- A vote's bounds, as the bytes want them. -/
def Vt.ok (x : Vt) : Prop := (0 ≤ x.s ∧ x.s ≤ 1000000) ∧ (0 ≤ x.b ∧ x.b ≤ 1000000) ∧ (0 ≤ x.p.c ∧ x.p.c ≤ 1000000) ∧ (0 ≤ x.p.q ∧ x.p.q ≤ 1000000) ∧ (0 ≤ x.p.h ∧ x.p.h ≤ 1000000) ∧ x.p.t.size ≤ 1000
def encX (x : Vt) : List UInt8 := encA 1 [x.s] ++ encA 2 [x.b] ++ encV x.p
def encVs : List Vt → List UInt8
  | [] => []
  | x :: l => encX x ++ encVs l
theorem encVs_append (a b : List Vt) : encVs (a ++ b) = encVs a ++ encVs b := by
  induction a with
  | nil => rfl
  | cons x a ih => simp [encVs, ih]
theorem encV_length_le (p : Pst) (h : p.t.size ≤ 1000) : (encV p).length ≤ 1005 := by
  have e3 : p.t.data.toList.length = p.t.size := by rw [Array.length_toList]; rfl
  unfold encV
  split
  · simp [encA, encN]
  · simp only [List.length_append, e3, encA_length]; simp; omega
theorem encVs_length_le (l : List Vt) (h : ∀ x ∈ l, x.ok) : (encVs l).length ≤ l.length * 1010 := by
  induction l with
  | nil => simp [encVs]
  | cons x l ih =>
    have h1 := ih (fun y hy => h y (List.mem_cons_of_mem _ hy))
    have h2 := encV_length_le x.p (h x List.mem_cons_self).2.2.2.2.2
    simp only [encVs, encX, List.length_append, encA_length, List.length_cons]
    simp
    omega

set_option maxHeartbeats 4000000 in
set_option maxRecDepth 100000 in
theorem putVotes_any (B : Nat) (v : Value) (bs : List UInt8) (vv : Value) (l : List Vt) (w : World) (hown : Own w B v bs) (hB : B ≤ w.heap.size) (hlen : bs.length ≤ 1000) (hv : VAt w vv l) (hvB : l ≠ [] → ∀ g, vv.ownBlock = some g → g < B)
    (hl : l.length ≤ 16) (hok : ∀ x ∈ l, x.ok) :
    Calls Tryz.prog 80 #[v, vv] w fun e w' => ∃ v', e = .returned v' ∧ Own w' B v' (bs ++ encA 1 [(l.length : Int)] ++ encVs l) ∧ Below B w w' := by
  obtain ⟨ao, cap, rfl, hc⟩ := hv.form
  clear hv
  go_enter Tryz.func80, Tryz.ntmps80
  go_wp2_with fail
  refine (putNumbers_any B v bs 1 [(l.length : Int)] w.heap.size _ (hown.alloc _) (by simp; omega) (by simp) (hown.ne (Nat.le_refl _)) (cells_one _ _ _ rfl _) (by simp; omega) (by decide) (by omega) (by simp)).mono ?_
  rintro e w1 ⟨v1, rfl, ho1, hk1⟩
  have hb1 : Below B w w1 := ((Below.refl _ w).alloc hB _).trans (hk1.toBelow (by simp; omega) (fun k e => (hown.lt k e).1))
  clear hk1 hown
  obtain ⟨a1, n1, c1, rfl⟩ := owns_slice' ho1
  go_wp2_with fail
  go_loopw [0, 14] (fun o i wr => ∃ j : Nat, j ≤ l.length ∧ i = .int .i64 j ∧ Own wr B o (bs ++ encA 1 [(l.length : Int)] ++ encVs (l.take j)) ∧ Below B w wr) (fun _ i _ => l.length - (intOf i).toNat)
  case atStart => exact ⟨0, Nat.zero_le _, rfl, by simpa [encVs] using ho1, hb1⟩
  case round =>
    obtain ⟨j, hj, rfl, ho, hb⟩ := hrel
    by_cases hlt : j < l.length
    · obtain ⟨g, off, rfl, hg, hcell⟩ := hc (by intro e; subst e; simp at hlt)
      have hgB : g < B := hvB (by intro e; subst e; simp at hlt) g rfl
      have hz := hb.size
      have c0 : wr.cell? ⟨g, off + j * 6, none⟩ = some (.int .i64 l[j].s) := by
        rw [hb.cell (p := ⟨g, off + j * 6, none⟩) hgB]; exact hcell _ _ (vcells_at l j hlt 0 (by decide))
      have c1 : wr.cell? ⟨g, off + j * 6 + 1, none⟩ = some (.int .i64 l[j].b) := by
        rw [hb.cell (p := ⟨g, off + j * 6 + 1, none⟩) hgB]; exact hcell _ _ (vcells_at l j hlt 1 (by decide))
      have c2 : wr.cell? ⟨g, off + j * 6 + 2, none⟩ = some (.int .i64 l[j].p.c) := by
        rw [hb.cell (p := ⟨g, off + j * 6 + 2, none⟩) hgB]; exact hcell _ _ (vcells_at l j hlt 2 (by decide))
      have c3 : wr.cell? ⟨g, off + j * 6 + 3, none⟩ = some (.int .i64 l[j].p.q) := by
        rw [hb.cell (p := ⟨g, off + j * 6 + 3, none⟩) hgB]; exact hcell _ _ (vcells_at l j hlt 3 (by decide))
      have c4 : wr.cell? ⟨g, off + j * 6 + 4, none⟩ = some (.int .i64 l[j].p.h) := by
        rw [hb.cell (p := ⟨g, off + j * 6 + 4, none⟩) hgB]; exact hcell _ _ (vcells_at l j hlt 4 (by decide))
      have c5 : wr.cell? ⟨g, off + j * 6 + 5, none⟩ = some (.string l[j].p.t) := by
        rw [hb.cell (p := ⟨g, off + j * 6 + 5, none⟩) hgB]; exact hcell _ _ (vcells_at l j hlt 5 (by decide))
      obtain ⟨k1, k2, k3, k4, k5, k6⟩ := hok l[j] (List.getElem_mem hlt)
      have HE : Hid (encVs (l.take (j + 1)) = encVs (l.take j) ++ encX l[j]) := by
        show _ = _
        rw [List.take_succ_eq_append_getElem hlt, encVs_append]; simp [encVs]
      have HX : Hid (encX l[j] = encA 1 [l[j].s] ++ encA 2 [l[j].b] ++ encV l[j].p) := rfl
      have hle : (encVs (l.take j)).length ≤ 16160 := by
        have := encVs_length_le (l.take j) (fun x hx => hok x (List.mem_of_mem_take hx))
        simp only [List.length_take] at this
        have h2 : min j l.length * 1010 ≤ 16 * 1010 := Nat.mul_le_mul_right _ (by omega)
        omega
      clear hcell
      generalize encVs (l.take j) = ev at *
      generalize l[j] = x at *
      obtain ⟨xs, xb, ⟨pc, pq, ph, pt⟩⟩ := x
      dsimp only at *
      have hon := ho.ne (Nat.le_refl _)
      have hon1 := ho.ne (Nat.le_add_right _ 1)
      obtain ⟨a2, n2, cc2, rfl⟩ := owns_slice' ho
      go_wp2_with fail
      refine (putNumbers_any B _ _ 1 [xs] (wr.heap.size + 1) _ ((ho.alloc _).alloc _) (by simp; omega) (by simp) hon1 (cells_one _ _ _ (by simp) _) (by simpa using k1) (by decide) (by simp [encA, encN]; omega) (by simp)).mono ?_
      rintro e w2 ⟨v2, rfl, ho2, hk2⟩
      have hb2 : Below B w w2 := ((hb.alloc (by omega) _).alloc (by simp; omega) _).trans (hk2.toBelow (by simp; omega) (fun k e => (ho.lt k e).1))
      have hp2 := blk_kp hk2 (blk_alloc (blk_new wr _) _) hon
      have hn2 := hk2.ne (b := wr.heap.size) (by simp; omega) hon
      have hz2' := hk2.size
      simp only [World.size_alloc] at hz2'
      clear hk2 ho hb hon hon1
      have hpc := blk_cell hp2
      have hon2 := ho2.ne (Nat.le_refl _)
      go_wp2_with fail
      refine (putNumbers_any B _ _ 2 [xb] w2.heap.size _ (ho2.alloc _) (by simp; omega) (by simp) hon2 (cells_one _ _ _ rfl _) (by simpa using k2) (by decide) (by simp [encA, encN]; omega) (by simp)).mono ?_
      rintro e w3 ⟨v3, rfl, ho3, hk3⟩
      have hb3 : Below B w w3 := (hb2.alloc (by omega) _).trans (hk3.toBelow (by simp; omega) (fun k e => (ho2.lt k e).1))
      have hp3 := blk_kp hk3 (blk_alloc hp2 _) hn2
      have hz3' := hk3.size
      simp only [World.size_alloc] at hz3'
      clear hk3 ho2 hb2 hon2 hpc hp2 hn2
      have hpc := blk_cell hp3
      go_wp2_with fail
      refine (putValue_any B _ _ pc pq ph pt _ ho3 (by omega) (by simp [encA, encN]; omega) k3 k4 k5 k6).mono ?_
      rintro e w4 ⟨v4, rfl, ho4, hb4⟩
      have hB4 := hb3.trans hb4
      have hoN : Own w4 B v4 (bs ++ encA 1 [(l.length : Int)] ++ encVs (l.take (j + 1))) := by
        rw [HE.out, HX.out]; simpa only [List.append_assoc] using ho4
      clear ho4 ho3 hb3 hp3 hpc hb4
      go_wp2
      go_roundw
      case rel => exact ⟨j + 1, by omega, by go_num, hoN, hB4⟩
      case measure => simp [intOf]; omega
    · have hjl : j = l.length := by omega
      subst hjl
      go_wp2
      go_ret
      exact ⟨_, rfl, by simpa using ho, hb⟩
end Go.Proofs.YtnnhnekfokbooaaGreatDoor
