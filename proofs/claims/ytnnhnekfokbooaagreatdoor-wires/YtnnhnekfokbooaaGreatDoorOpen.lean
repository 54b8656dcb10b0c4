/- What a script that comes in looks like in memory: posts, votes, messages, steps. -/
import Derived.Test.YtnnhnekfokbooaaGreatDoorRefZ
import Derived.ProofKit
import Derived.OpenShut
import Derived.ChangeArms
import Derived.Lib.SmallJoins
namespace Go.Proofs.YtnnhnekfokbooaaGreatDoor
open Go.ChangeShapes Go.WideShapes Go.ChangeAt Go.RowKit Go.Joins
set_option linter.unusedSimpArgs false
set_option linter.unusedVariables false

theorem cells_int : Tryz.prog.cellsOf 3 = 1 := by kernel_rfl
theorem cells_string : Tryz.prog.cellsOf 9 = 1 := by kernel_rfl
theorem cells_post : Tryz.prog.cellsOf 33 = 4 := by kernel_rfl
theorem cells_vote : Tryz.prog.cellsOf 53 = 6 := by kernel_rfl
theorem cells_votes : Tryz.prog.cellsOf 34 = 1 := by kernel_rfl
theorem cells_message : Tryz.prog.cellsOf 36 = 10 := by kernel_rfl
theorem cells_op : Tryz.prog.cellsOf 38 = 19 := by kernel_rfl
theorem bytes_vote : Tryz.prog.bytesOf 53 = 56 := by kernel_rfl
theorem bytes_op : Tryz.prog.bytesOf 38 = 192 := by kernel_rfl

theorem seg (L : List Value) (n k : Nat) : L.drop n = (L.drop n).take k ++ L.drop (n + k) := by
  have := (List.take_append_drop k (L.drop n)).symm
  rw [List.drop_drop] at this
  exact this
theorem exists_list {α : Type} (P : Nat → α → Prop) : ∀ (n : Nat), (∀ i, i < n → ∃ x, P i x) → ∃ l : List α, l.length = n ∧ ∀ i (hi : i < l.length), P i l[i]
  | 0, _ => ⟨[], rfl, fun i hi => by simp at hi⟩
  | n + 1, h => by
    obtain ⟨l, hl, hp⟩ := exists_list P n (fun i hi => h i (by omega))
    obtain ⟨x, hx⟩ := h n (by omega)
    refine ⟨l ++ [x], by simp [hl], fun i hi => ?_⟩
    by_cases hlt : i < l.length
    · rw [List.getElem_append_left hlt]; exact hp i hlt
    · obtain rfl : i = n := by simp [hl] at hi; omega
      have e : (l ++ [x])[i]'hi = x := by rw [List.getElem_append_right (by omega)]; simp
      rw [e]; exact hx
theorem mapM_cells {w : World} {a : Addr} : ∀ (n : Nat) (cs : List Value), (List.range n).mapM (fun i => w.cell? (a.add i)) = some cs → cs.length = n ∧ ∀ j u, cs[j]? = some u → w.cell? (a.add j) = some u := by
  intro n cs h
  have hl : cs.length = n := by simpa using mapM_some_length h
  refine ⟨hl, fun j u hu => ?_⟩
  have hj : j < n := by have := (List.getElem?_eq_some_iff.1 hu).1; omega
  have := mapM_some_get h j j (by simp [hj])
  rw [← hu, ← this]

section
variable {H : Type} {enc : TypeId × Value → H} {w : World} {base : Nat} {spare : Nat → Bool} {held : Bool} {fuel : Nat}
theorem cells_of {a : Addr} {n : Nat} {cs : List Value} (h : w.cells? base a n = some cs) : cs.length = n ∧ ∀ j u, cs[j]? = some u → w.cell? (a.add j) = some u := by
  unfold World.cells? at h
  split at h
  · exact mapM_cells n cs h
  · cases h
set_option maxRecDepth 100000 in
theorem post_open {cs : List Value} {x : DataW H × List MemPlace} (h : DataW.trod enc Tryz.prog w base spare held fuel 33 cs = some x) : ∃ p : Pst, cs = p.cells := by
  obtain ⟨xs, n, rfl, rfl, hl, hlen, hf⟩ := DataW.trod_struct Tryz.underlying33 h
  rw [cells_post] at hl
  match xs, hlen with
  | [y0, y1, y2, y3], _ =>
    have g0 : DataW.trod enc Tryz.prog w base spare held n 3 ((cs.drop 0).take (Tryz.prog.cellsOf 3)) = some y0 := hf 0 _ rfl
    rw [cells_int] at g0
    have g1 : DataW.trod enc Tryz.prog w base spare held n 3 ((cs.drop 1).take (Tryz.prog.cellsOf 3)) = some y1 := hf 1 _ rfl
    rw [cells_int] at g1
    have g2 : DataW.trod enc Tryz.prog w base spare held n 3 ((cs.drop 2).take (Tryz.prog.cellsOf 3)) = some y2 := hf 2 _ rfl
    rw [cells_int] at g2
    have g3 : DataW.trod enc Tryz.prog w base spare held n 9 ((cs.drop 3).take (Tryz.prog.cellsOf 9)) = some y3 := hf 3 _ rfl
    rw [cells_string] at g3
    obtain ⟨c, e0, _, _⟩ := DataW.trod_int Tryz.underlying3 g0
    obtain ⟨q, e1, _, _⟩ := DataW.trod_int Tryz.underlying3 g1
    obtain ⟨k, e2, _, _⟩ := DataW.trod_int Tryz.underlying3 g2
    obtain ⟨t, e3, _, _⟩ := DataW.trod_string Tryz.underlying9 g3
    refine ⟨⟨c, q, k, t⟩, ?_⟩
    have z : cs.drop 4 = [] := List.drop_of_length_le (by omega)
    have f0 : cs = (cs.drop 0).take 1 ++ ((cs.drop 1).take 1 ++ ((cs.drop 2).take 1 ++ ((cs.drop 3).take 1 ++ cs.drop 4))) := by
      have s0 : cs.drop 0 = (cs.drop 0).take 1 ++ cs.drop 1 := seg cs 0 1
      have s1 : cs.drop 1 = (cs.drop 1).take 1 ++ cs.drop 2 := seg cs 1 1
      have s2 : cs.drop 2 = (cs.drop 2).take 1 ++ cs.drop 3 := seg cs 2 1
      have s3 : cs.drop 3 = (cs.drop 3).take 1 ++ cs.drop 4 := seg cs 3 1
      rw [← s3, ← s2, ← s1, ← s0]
      rfl
    rw [z, e0, e1, e2, e3] at f0
    simpa [Pst.cells] using f0
set_option maxRecDepth 100000 in
theorem vote_open {cs : List Value} {x : DataW H × List MemPlace} (h : DataW.trod enc Tryz.prog w base spare held fuel 53 cs = some x) : ∃ v : Vt, cs = v.cells := by
  obtain ⟨xs, n, rfl, rfl, hl, hlen, hf⟩ := DataW.trod_struct Tryz.underlying53 h
  rw [cells_vote] at hl
  match xs, hlen with
  | [y0, y1, y2], _ =>
    have g0 : DataW.trod enc Tryz.prog w base spare held n 3 ((cs.drop 0).take (Tryz.prog.cellsOf 3)) = some y0 := hf 0 _ rfl
    rw [cells_int] at g0
    have g1 : DataW.trod enc Tryz.prog w base spare held n 3 ((cs.drop 1).take (Tryz.prog.cellsOf 3)) = some y1 := hf 1 _ rfl
    rw [cells_int] at g1
    have g2 : DataW.trod enc Tryz.prog w base spare held n 33 ((cs.drop 2).take (Tryz.prog.cellsOf 33)) = some y2 := hf 2 _ rfl
    rw [cells_post] at g2
    obtain ⟨c, e0, _, _⟩ := DataW.trod_int Tryz.underlying3 g0
    obtain ⟨q, e1, _, _⟩ := DataW.trod_int Tryz.underlying3 g1
    obtain ⟨p, e2⟩ := post_open g2
    refine ⟨⟨c, q, p⟩, ?_⟩
    have z : cs.drop 6 = [] := List.drop_of_length_le (by omega)
    have f0 : cs = (cs.drop 0).take 1 ++ ((cs.drop 1).take 1 ++ ((cs.drop 2).take 4 ++ cs.drop 6)) := by
      have s0 : cs.drop 0 = (cs.drop 0).take 1 ++ cs.drop 1 := seg cs 0 1
      have s1 : cs.drop 1 = (cs.drop 1).take 1 ++ cs.drop 2 := seg cs 1 1
      have s2 : cs.drop 2 = (cs.drop 2).take 4 ++ cs.drop 6 := seg cs 2 4
      rw [← s2, ← s1, ← s0]
      rfl
    rw [z, e0, e1, e2] at f0
    simpa [Vt.cells, Pst.cells] using f0
/-- A slice's address is plain where it has a cell. -/
theorem addr_plain {a : Addr} {u : Value} {k : Nat} (hk : k = 0) (h : w.cell? (a.add k) = some u) : ∃ b off, a = ⟨b, off, none⟩ := by
  subst hk
  obtain ⟨b, off, spot⟩ := a
  have hspot : spot = none := by simpa [Addr.add] using World.cell?_spot h
  subst hspot
  exact ⟨b, off, rfl⟩
set_option maxRecDepth 100000 in
theorem votes_open {v : Value} {x : DataW H × List MemPlace} (h : DataW.trod enc Tryz.prog w base spare held fuel 34 [v] = some x) (hw : (x.1.weights Tryz.prog 34).all (· ≤ reachBytes) = true) :
    ∃ l : List Vt, VAt w v l ∧ l.length * 56 ≤ reachBytes := by
  rcases DataW.trod_slice Tryz.underlying34 h with ⟨hcs, _⟩ | ⟨a, len, cap, elems, rest, n, _, hcs, rfl, _, hlc, hcm, hel, hget, _, _⟩
  · obtain rfl : v = .slice none 0 0 := by simpa using hcs
    exact ⟨[], rvat_nil w, by simp⟩
  · obtain rfl : v = .slice (some a) len cap := by simpa using hcs
    simp only [DataW.weights, Tryz.underlying34, List.all_cons, Bool.and_eq_true, decide_eq_true_eq, List.length_map, bytes_vote] at hw
    obtain ⟨l, hll, hlp⟩ := exists_list (fun i (x : Vt) => ∀ j u, x.cells[j]? = some u → w.cell? (a.add (i * 6 + j)) = some u) len (fun i hi => by
      have hg := hget i hi
      rw [List.getElem?_eq_getElem (by omega), Option.bind_eq_some_iff, cells_vote] at hg
      obtain ⟨cs, hc1, hc2⟩ := hg
      obtain ⟨y, rfl⟩ := vote_open hc2
      refine ⟨y, fun j u hu => ?_⟩
      have := (cells_of hc1).2 j u hu
      rwa [Addr.add_add] at this)
    have h6 : l.length * 56 ≤ reachBytes := by rw [hll, ← hel]; have := hw.1; omega
    have h7 : l.length ≤ 4611686018427387903 := by unfold reachBytes at h6; omega
    refine ⟨l, ⟨h7, some a, cap, by rw [hll], fun hne => ?_⟩, h6⟩
    have hpos : 0 < l.length := List.length_pos_iff.2 hne
    obtain ⟨b, off, rfl⟩ := addr_plain rfl (hlp 0 hpos 0 _ rfl)
    refine ⟨b, off, rfl, ?_, fun j u hu => ?_⟩
    · have := hlp 0 hpos 0 _ rfl
      exact World.block_lt_of_cell? w _ this
    · have hj : j < l.length * 6 := by have := (List.getElem?_eq_some_iff.1 hu).1; rw [vcells_length] at this; exact this
      have e : j = j / 6 * 6 + j % 6 := by omega
      have hj6 : j / 6 < l.length := by omega
      rw [e, vcells_at l (j / 6) hj6 (j % 6) (by omega)] at hu
      have := hlp (j / 6) hj6 (j % 6) u hu
      rw [Addr.add_mid, ← e] at this
      exact this
set_option maxRecDepth 100000 in
theorem message_open {cs : List Value} {x : DataW H × List MemPlace} (h : DataW.trod enc Tryz.prog w base spare held fuel 36 cs = some x) (hw : (x.1.weights Tryz.prog 36).all (· ≤ reachBytes) = true) :
    ∃ (m : Ms) (v : Value), cs = (mval m v).toList ∧ VAt w v m.a ∧ m.a.length * 56 ≤ reachBytes := by
  obtain ⟨xs, n, rfl, rfl, hl, hlen, hf⟩ := DataW.trod_struct Tryz.underlying36 h
  rw [cells_message] at hl
  match xs, hlen with
  | [y0, y1, y2, y3, y4, y5, y6], _ =>
    have g0 : DataW.trod enc Tryz.prog w base spare held n 3 ((cs.drop 0).take (Tryz.prog.cellsOf 3)) = some y0 := hf 0 _ rfl
    rw [cells_int] at g0
    have g1 : DataW.trod enc Tryz.prog w base spare held n 3 ((cs.drop 1).take (Tryz.prog.cellsOf 3)) = some y1 := hf 1 _ rfl
    rw [cells_int] at g1
    have g2 : DataW.trod enc Tryz.prog w base spare held n 3 ((cs.drop 2).take (Tryz.prog.cellsOf 3)) = some y2 := hf 2 _ rfl
    rw [cells_int] at g2
    have g3 : DataW.trod enc Tryz.prog w base spare held n 3 ((cs.drop 3).take (Tryz.prog.cellsOf 3)) = some y3 := hf 3 _ rfl
    rw [cells_int] at g3
    have g4 : DataW.trod enc Tryz.prog w base spare held n 3 ((cs.drop 4).take (Tryz.prog.cellsOf 3)) = some y4 := hf 4 _ rfl
    rw [cells_int] at g4
    have g5 : DataW.trod enc Tryz.prog w base spare held n 33 ((cs.drop 5).take (Tryz.prog.cellsOf 33)) = some y5 := hf 5 _ rfl
    rw [cells_post] at g5
    have g6 : DataW.trod enc Tryz.prog w base spare held n 34 ((cs.drop 9).take (Tryz.prog.cellsOf 34)) = some y6 := hf 6 _ rfl
    rw [cells_votes] at g6
    simp only [DataW.weights, Tryz.underlying36, List.map_cons, List.map_nil, DataW.weightsEach, List.all_append, Bool.and_eq_true] at hw
    obtain ⟨c, e0, _, _⟩ := DataW.trod_int Tryz.underlying3 g0
    obtain ⟨f, e1, _, _⟩ := DataW.trod_int Tryz.underlying3 g1
    obtain ⟨t, e2, _, _⟩ := DataW.trod_int Tryz.underlying3 g2
    obtain ⟨b, e3, _, _⟩ := DataW.trod_int Tryz.underlying3 g3
    obtain ⟨s, e4, _, _⟩ := DataW.trod_int Tryz.underlying3 g4
    obtain ⟨p, e5⟩ := post_open g5
    obtain ⟨v, e6⟩ : ∃ v, (cs.drop 9).take 1 = [v] := by
      have : ((cs.drop 9).take 1).length = 1 := by rw [List.length_take, List.length_drop]; omega
      match hx : (cs.drop 9).take 1, this with
      | [v], _ => exact ⟨v, rfl⟩
    rw [e6] at g6
    obtain ⟨l, hv, hlb⟩ := votes_open g6 (by simp only [hw])
    refine ⟨⟨c, f, t, b, s, p, l⟩, v, ?_, hv, hlb⟩
    have z : cs.drop 10 = [] := List.drop_of_length_le (by omega)
    have f0 : cs = (cs.drop 0).take 1 ++ ((cs.drop 1).take 1 ++ ((cs.drop 2).take 1 ++ ((cs.drop 3).take 1 ++ ((cs.drop 4).take 1 ++ ((cs.drop 5).take 4 ++ ((cs.drop 9).take 1 ++ cs.drop 10)))))) := by
      have s0 : cs.drop 0 = (cs.drop 0).take 1 ++ cs.drop 1 := seg cs 0 1
      have s1 : cs.drop 1 = (cs.drop 1).take 1 ++ cs.drop 2 := seg cs 1 1
      have s2 : cs.drop 2 = (cs.drop 2).take 1 ++ cs.drop 3 := seg cs 2 1
      have s3 : cs.drop 3 = (cs.drop 3).take 1 ++ cs.drop 4 := seg cs 3 1
      have s4 : cs.drop 4 = (cs.drop 4).take 1 ++ cs.drop 5 := seg cs 4 1
      have s5 : cs.drop 5 = (cs.drop 5).take 4 ++ cs.drop 9 := seg cs 5 4
      have s6 : cs.drop 9 = (cs.drop 9).take 1 ++ cs.drop 10 := seg cs 9 1
      rw [← s6, ← s5, ← s4, ← s3, ← s2, ← s1, ← s0]
      rfl
    rw [z, e0, e1, e2, e3, e4, e5, e6] at f0
    simpa [mval, Pst.cells] using f0
set_option maxRecDepth 100000 in
theorem op_open {cs : List Value} {x : DataW H × List MemPlace} (h : DataW.trod enc Tryz.prog w base spare held fuel 38 cs = some x) (hw : (x.1.weights Tryz.prog 38).all (· ≤ reachBytes) = true) :
    ∃ o : Opd, cs = o.cells ∧ o.ok w := by
  obtain ⟨xs, n, rfl, rfl, hl, hlen, hf⟩ := DataW.trod_struct Tryz.underlying38 h
  rw [cells_op] at hl
  match xs, hlen with
  | [y0, y1, y2, y3, y4, y5, y6], _ =>
    have g0 : DataW.trod enc Tryz.prog w base spare held n 3 ((cs.drop 0).take (Tryz.prog.cellsOf 3)) = some y0 := hf 0 _ rfl
    rw [cells_int] at g0
    have g1 : DataW.trod enc Tryz.prog w base spare held n 3 ((cs.drop 1).take (Tryz.prog.cellsOf 3)) = some y1 := hf 1 _ rfl
    rw [cells_int] at g1
    have g2 : DataW.trod enc Tryz.prog w base spare held n 3 ((cs.drop 2).take (Tryz.prog.cellsOf 3)) = some y2 := hf 2 _ rfl
    rw [cells_int] at g2
    have g3 : DataW.trod enc Tryz.prog w base spare held n 3 ((cs.drop 3).take (Tryz.prog.cellsOf 3)) = some y3 := hf 3 _ rfl
    rw [cells_int] at g3
    have g4 : DataW.trod enc Tryz.prog w base spare held n 9 ((cs.drop 4).take (Tryz.prog.cellsOf 9)) = some y4 := hf 4 _ rfl
    rw [cells_string] at g4
    have g5 : DataW.trod enc Tryz.prog w base spare held n 33 ((cs.drop 5).take (Tryz.prog.cellsOf 33)) = some y5 := hf 5 _ rfl
    rw [cells_post] at g5
    have g6 : DataW.trod enc Tryz.prog w base spare held n 36 ((cs.drop 9).take (Tryz.prog.cellsOf 36)) = some y6 := hf 6 _ rfl
    rw [cells_message] at g6
    simp only [DataW.weights, Tryz.underlying38, List.map_cons, List.map_nil, DataW.weightsEach, List.all_append, Bool.and_eq_true] at hw
    obtain ⟨k, e0, _, _⟩ := DataW.trod_int Tryz.underlying3 g0
    obtain ⟨o, e1, _, _⟩ := DataW.trod_int Tryz.underlying3 g1
    obtain ⟨a, e2, _, _⟩ := DataW.trod_int Tryz.underlying3 g2
    obtain ⟨b, e3, _, _⟩ := DataW.trod_int Tryz.underlying3 g3
    obtain ⟨s, e4, _, hs⟩ := DataW.trod_string Tryz.underlying9 g4
    obtain ⟨p, e5⟩ := post_open g5
    obtain ⟨m, v, e6, hv, hlb⟩ := message_open g6 (by simp only [hw])
    refine ⟨⟨k, o, a, b, s, p, m, v⟩, ?_, hv, ?_, ?_⟩
    · have z : cs.drop 19 = [] := List.drop_of_length_le (by omega)
      have f0 : cs = (cs.drop 0).take 1 ++ ((cs.drop 1).take 1 ++ ((cs.drop 2).take 1 ++ ((cs.drop 3).take 1 ++ ((cs.drop 4).take 1 ++ ((cs.drop 5).take 4 ++ ((cs.drop 9).take 10 ++ cs.drop 19)))))) := by
        have s0 : cs.drop 0 = (cs.drop 0).take 1 ++ cs.drop 1 := seg cs 0 1
        have s1 : cs.drop 1 = (cs.drop 1).take 1 ++ cs.drop 2 := seg cs 1 1
        have s2 : cs.drop 2 = (cs.drop 2).take 1 ++ cs.drop 3 := seg cs 2 1
        have s3 : cs.drop 3 = (cs.drop 3).take 1 ++ cs.drop 4 := seg cs 3 1
        have s4 : cs.drop 4 = (cs.drop 4).take 1 ++ cs.drop 5 := seg cs 4 1
        have s5 : cs.drop 5 = (cs.drop 5).take 4 ++ cs.drop 9 := seg cs 5 4
        have s6 : cs.drop 9 = (cs.drop 9).take 10 ++ cs.drop 19 := seg cs 9 10
        rw [← s6, ← s5, ← s4, ← s3, ← s2, ← s1, ← s0]
        rfl
      rw [z, e0, e1, e2, e3, e4, e5, e6] at f0
      simpa [Opd.cells, mval, Pst.cells] using f0
    · show (m.a.length + 1) * 56 ≤ 281474976710656
      unfold reachBytes at hlb; omega
    · unfold maxLen at hs; exact hs
theorem weightsAll_get {t : TypeId} : ∀ (l : List (DataW H)) (i : Nat) (hi : i < l.length), (DataW.weightsAll Tryz.prog t l).all (· ≤ reachBytes) = true → (l[i].weights Tryz.prog t).all (· ≤ reachBytes) = true
  | [], _, hi, _ => by simp at hi
  | d :: r, 0, _, h => by
    simp only [DataW.weightsAll, List.all_append, Bool.and_eq_true] at h
    exact h.1
  | d :: r, i + 1, hi, h => by
    simp only [DataW.weightsAll, List.all_append, Bool.and_eq_true] at h
    exact weightsAll_get r i (by simpa using hi) h.2
set_option maxRecDepth 100000 in
theorem script_open {v : Value} {x : DataW H × List MemPlace} (h : DataW.trod enc Tryz.prog w base spare held fuel 22 [v] = some x) (hw : (x.1.weights Tryz.prog 22).all (· ≤ reachBytes) = true) :
    ∃ l : List Opd, SAt w v l := by
  rcases DataW.trod_slice Tryz.underlying22 h with ⟨hcs, _⟩ | ⟨a, len, cap, elems, rest, n, _, hcs, rfl, _, hlc, hcm, hel, hget, _, _⟩
  · obtain rfl : v = .slice none 0 0 := by simpa using hcs
    exact ⟨[], ⟨by simp, by simp, none, 0, rfl, fun hh => absurd rfl hh⟩⟩
  · obtain rfl : v = .slice (some a) len cap := by simpa using hcs
    simp only [DataW.weights, Tryz.underlying22, List.all_cons, List.all_append, Bool.and_eq_true, decide_eq_true_eq, List.length_map, bytes_op] at hw
    obtain ⟨l, hll, hlp⟩ := exists_list (fun i (x : Opd) => x.ok w ∧ ∀ j u, x.cells[j]? = some u → w.cell? (a.add (i * 19 + j)) = some u) len (fun i hi => by
      have hg := hget i hi
      rw [List.getElem?_eq_getElem (by omega), Option.bind_eq_some_iff, cells_op] at hg
      obtain ⟨cs, hc1, hc2⟩ := hg
      have hwi := weightsAll_get (elems.map (·.1)) i (by rw [List.length_map]; omega) hw.2.1
      rw [List.getElem_map] at hwi
      obtain ⟨y, rfl, hok⟩ := op_open hc2 hwi
      refine ⟨y, hok, fun j u hu => ?_⟩
      have := (cells_of hc1).2 j u hu
      rwa [Addr.add_add] at this)
    refine ⟨l, ⟨?_, fun o ho => ?_, some a, cap, by rw [hll], fun hne => ?_⟩⟩
    · have h6 := hw.1
      unfold reachBytes at h6
      rw [hll, ← hel]; omega
    · obtain ⟨i, hi, rfl⟩ := List.getElem_of_mem ho
      exact (hlp i hi).1
    · have hpos : 0 < l.length := List.length_pos_iff.2 hne
      obtain ⟨b, off, rfl⟩ := addr_plain rfl ((hlp 0 hpos).2 0 _ rfl)
      refine ⟨b, off, rfl, ?_, fun j u hu => ?_⟩
      · have := (hlp 0 hpos).2 0 _ rfl
        exact World.block_lt_of_cell? w _ this
      · have hj : j < l.length * 19 := by have := (List.getElem?_eq_some_iff.1 hu).1; rw [ocs_length] at this; exact this
        have e : j = j / 19 * 19 + j % 19 := by omega
        have hj6 : j / 19 < l.length := by omega
        rw [e, ocs_at l (j / 19) hj6 (j % 19) (by omega)] at hu
        have := (hlp (j / 19) hj6).2 (j % 19) u hu
        rw [Addr.add_mid, ← e] at this
        exact this
end
end Go.Proofs.YtnnhnekfokbooaaGreatDoor
