/- The walk of Honest (laid by mkhonf.py). -/
import Derived.Test.YtnnhnekfokbooaaHonA
import Derived.Test.YtnnhnekfokbooaaKeeB
import Derived.Test.YtnnhnekfokbooaaKeeC
import Derived.Test.YtnnhnekfokbooaaKeeD0
namespace Go.Proofs.Ytnnhnekfokbooaa
open Go.RowKit
set_option linter.unusedSimpArgs false
set_option linter.unusedVariables false

section
variable {P : Program}
theorem run_append_no (w : World) (t ty e : TypeId) (i : TypeInfo) (ht : P.underlying t = some (.slice e)) (hi : P.info? e = some i) (va : Option Addr) (n cap : Nat) (hle : n ≤ cap) (x : Option Addr) (c : Nat) :
    (Builtin.append_ #[t, t] ty #[.slice va n cap, .slice x 0 c]).run P w = .ok (.slice va n cap) w := by
  have hl : ∀ (y : Addr), (loadCells y 0).run P w = .ok #[] w := fun y => by simpa using run_loadCells_list (P := P) w y [] (by simp)
  cases va <;> cases x <;> simp [Builtin.append_, run_underlying ht, sizeOf, typeInfo, hi, Builtin.lenOf, Builtin.firstCells, hle, hl, storeCells]
theorem pcells_len4 (l : List Pst) : (pcells l).length = l.length * 4 := by
  induction l with
  | nil => rfl
  | cons p l ih => simp [pcells, ih, Pst.cells]; omega
theorem pcells_one (l : List Pst) : ∀ u ∈ pcells l, u.oneCell' = true := by
  induction l with
  | nil => simp [pcells]
  | cons p l ih =>
    intro u hu
    rcases List.mem_append.1 hu with h | h
    · simp [Pst.cells] at h
      rcases h with rfl | rfl | rfl | rfl <;> rfl
    · exact ih u h
/-- append(all, m...) of posts. -/
theorem wpList_append_posts {w : World} {ops : Array Oper} {rest : List Oper} {o : Oper} {a : Act} {Q : Exit → Act → World → Prop} (hgd : o.guard = none) (s x : Operand) (t : TypeId)
    (ho : o.op = .call { callee := .builtin .append, args := #[s, x], argTypes := #[t, t] })
    (base : Nat) (e : TypeId) (i : TypeInfo) (z : Value) (ht : P.underlying t = some (.slice e)) (hi : P.info? e = some i) (hz : i.zero = some z)
    (hsize : i.size = 4) (hby : i.bytes = 40) (hzs : z.cells.size = 4)
    (va : Option Addr) (vn vc : Nat) (hs : a.eval s = .slice va vn vc) (A : List Pst) (hown : w.ownsRow base e 4 (.slice va vn vc) A.length (pcells A)) (hA : A.length ≤ 1000)
    {own : Nat → Prop} (v : Value) (l : List Pst) (hx : a.eval x = v) (hv : PsAt own w v l) (hll : l.length ≤ 1000) (hbase : base ≤ w.heap.size)
    (h : ∀ va' vn' vc' w', w'.ownsRow base e 4 (.slice va' vn' vc') (A ++ l).length (pcells (A ++ l)) → w.grownBy w' (Value.slice va vn vc).ownBlock → wpList P ops Q rest (a.put o.dst (.slice va' vn' vc')) w') : wpList P ops Q (o :: rest) a w := by
  obtain ⟨ao, cap, rfl, hf⟩ := hv.form
  by_cases hl : l = []
  · subst hl
    refine wpList_plain hgd fun K hK => ?_
    have hcap : vn ≤ vc := by
      rcases hown.2 with ⟨h1, _⟩ | ⟨g, c, cur, h1, _, _, h2, _⟩
      · injection h1 with _ e1 e2
        omega
      · injection h1 with _ e1 e2
        omega
    have hrun := run_append_no (P := P) w t o.type e i ht hi va vn vc hcap ao cap
    unfold Oper.wp execOp
    simp only [ho, resolve, invoke, builtin, Sem.run_bind, Sem.run_pure, Result.andThen_ok, List.map_toArray, List.map_cons, List.map_nil, hs, hx, List.length_nil, hrun]
    exact hK _ _ (h va vn vc w (by simpa using hown) ⟨rfl, rfl, rfl, Nat.le_refl _, fun _ _ _ => rfl⟩)
  · obtain ⟨g, rfl, hg, _, hc⟩ := hf hl
    have hpos : 0 < l.length := List.length_pos_iff.2 hl
    refine wpList_append_lies w hgd s x t ho base e i z 4 40 ht hi hz hsize hby hzs (by decide) _ A.length (pcells A) hs hown ⟨g, 0, none⟩ l.length cap (pcells l) hx (pcells_len4 l) (fun j u hj => ?_) (pcells_one l) hpos (by unfold maxLen; omega) (by omega) hbase _ rfl ?_
    · have hjl : j < l.length * 4 := by
        rw [← pcells_len4]
        apply Classical.byContradiction
        intro h9
        rw [List.getElem?_eq_none (by omega)] at hj; cases hj
      have e1 : j = j / 4 * 4 + j % 4 := by omega
      have h2 := hc (j / 4) (by omega) (j % 4) (by omega)
      rw [← pcells_at' l (j / 4) (by omega) (j % 4) (by omega), ← e1, hj] at h2
      rw [Addr.add_mid, Nat.zero_add]
      exact h2
    · intro g' cap' w' k1 k2 _ _
      exact h _ _ _ w' (by rw [List.length_append, pcells_append]; exact k1) k2
end

set_option maxHeartbeats 4000000 in
set_option maxRecDepth 100000 in
theorem honest_any (raw : Int) (hraw : I64 raw) (sv : Value) (script : List St3) (w : World) (hs : StAt w sv script) :
    Calls Try.prog 6 #[.int .i64 raw, sv] w fun e w' => e = .returned (.bool true) ∧ Below w.heap.size w w' := by
  obtain ⟨i0, hi, hz0, hz1, hz2⟩ := info_parts Try.infoPost
  have hBg := begins_any raw hraw w
  obtain ⟨sa, sc, rfl, hsf⟩ := hs.form
  have hslen := hs.len
  go_enter Try.func6, Try.ntmps6
  go_wp2_with fail
  refine hBg.mono ?_
  rintro e w1 ⟨cb, sb, L, n, lb, rfl, hn, hc, hown, hlb, hlbn, hB1⟩
  clear hBg hn hlb
  have hn7 : n ≤ 7 := hc.syn.ok.n1
  have hrun : Run w w1 cb sb L (newSy n) (.slice none 0 0) (.slice (some ⟨lb, 0, none⟩) n n) [] := ⟨hc, hown, hB1⟩
  have hso := newSy_v n
  clear hc hown hB1
  go_wp2_with fail
  go_loopw [6] (fun i wr => ∃ (j : Nat) (s : Sy) (ps : List Pst) (L : Lay) (pv : Value), j ≤ script.length ∧ i = .int .i64 j ∧ Run w wr cb sb L s pv (.slice (some ⟨lb, 0, none⟩) n n) ps ∧ s.n = n ∧ SyV (Took ps) s) (fun i _ => script.length - (intOf i).toNat)
  case atStart => exact ⟨0, newSy n, [], L, .slice none 0 0, Nat.zero_le _, rfl, hrun, rfl, hso⟩
  case round =>
    obtain ⟨j, s, ps, L1, pv, hj, rfl, hr, hsn, hso⟩ := hrel
    by_cases hjn : j < script.length
    · obtain ⟨g, off, rfl, hg, hcells⟩ := hsf (by intro e; rw [e] at hjn; simp at hjn)
      obtain ⟨x0, x1, x2⟩ := hcells j hjn
      have hnum := hs.nums script[j] (List.getElem_mem hjn)
      generalize script[j] = x at *
      obtain ⟨xk, xa, xb⟩ := x
      have y0 := (hr.below.cell (p := ⟨g, off + j * 3, none⟩) hg).trans x0
      have y1 := (hr.below.cell (p := ⟨g, off + j * 3 + 1, none⟩) hg).trans x1
      have y2 := (hr.below.cell (p := ⟨g, off + j * 3 + 2, none⟩) hg).trans x2
      have q0 : (0 : Int) ≤ (j : Int) := by omega
      have q1 : (j : Int) < (script.length : Int) := by omega
      have hST := step_syn hr.chat xk xa xb hnum.2.1 hnum.2.2
      clear x0 x1 x2 hcells
      go_wp2_with fail
      refine hST.mono ?_
      rintro e w3 ⟨rfl, s3, ps3, hmv, hto⟩
      clear hST y0 y1 y2
      obtain ⟨L3, pv3, hr3, hn3, ho3, hk3⟩ := hr.next hto
      have hn3' : s3.n = n := hn3.trans hsn
      have hso3 := syv_mvs hso hmv
      clear hmv hto ho3 hk3 hso
      go_wp2_with fail
      go_roundw
      case rel => exact ⟨j + 1, s3, ps3, L3, pv3, by omega, by go_num, hr3, hn3', hso3⟩
      case measure => simp [intOf]; omega
    · obtain rfl : j = script.length := by omega
      have hpl : ps.length ≤ 1000000 := by have := hr.chat.good.few hr.chat.syn.ok; omega
      obtain ⟨pa, pn, pc, hpv⟩ := owns_slice1 hr.chat.posts
      subst hpv
      obtain rfl : pn = ps.length := by
        rcases hr.chat.posts.2 with ⟨h1, h0⟩ | ⟨_, _, _, h1, _⟩
        · injection h1 with _ h1 _
          cases ps with
          | nil => exact h1
          | cons x l => cases h0
        · injection h1 with _ h1 _
      go_wp2_with fail
      go_loopw [8] (fun i w2 => ∃ (k : Nat), k ≤ n ∧ i = .int .i64 k ∧ Run w w2 cb sb L1 s (.slice pa ps.length pc) (.slice (some ⟨lb, 0, none⟩) n n) ps) (fun i _ => n - (intOf i).toNat)
      case atStart => exact ⟨0, Nat.zero_le _, rfl, hr⟩
      case round =>
        clear hr
        obtain ⟨k, hk, rfl, hr⟩ := hrel
        have d0 : wr.cell? ⟨cb, 0, none⟩ = some (.pointer (some ⟨sb, 0, none⟩)) := (blk_cell hr.chat.blk 0).trans rfl
        have d1 : wr.cell? ⟨cb, 1, none⟩ = some (.int .i64 (n : Int)) := (blk_cell hr.chat.blk 1).trans (by rw [hsn]; rfl)
        by_cases hkn : k < n
        · have hLo := log_yes hr.chat.syn (i := k) (by rw [hsn]; exact hkn)
          have hlen : (logOf (s.rep k).dec).length ≤ 16 := by
            have h1 := log_le (s.rep k).dec
            have h2 := (hr.chat.syn.ok.repOk (i := k) (by rw [hsn]; exact hkn)).dec
            omega
          have HT : Hid (∀ p ∈ logOf (s.rep k).dec, Took ps p) := hso.log k
          have HCh : Hid (∀ (W : World), Run w W cb sb L1 s (.slice pa ps.length pc) (.slice (some ⟨lb, 0, none⟩) n n) ps → ∀ ch : Int, 0 ≤ ch → ch < 4 → Calls Try.prog 19 #[.pointer (some ⟨sb, 0, none⟩), .int .i64 (k : Int), .int .i64 ch] W fun e w' => ∃ v', e = .returned (.tuple #[v', .int .i64 0]) ∧ w'.ownsRow W.heap.size 38 4 v' (chatTo ch (logOf (s.rep k).dec) (logOf (s.rep k).dec).length).length (pcells (chatTo ch (logOf (s.rep k).dec) (logOf (s.rep k).dec).length)) ∧ Below W.heap.size W w') := fun W hW ch h0 h1 => chat_yes hW.chat.syn (by rw [hsn]; exact hkn) ch h0 h1
          generalize logOf (s.rep k).dec = l at *
          go_wp2_with fail
          refine hLo.mono ?_
          rintro e w2 ⟨v2, rfl, hown2, hB2⟩
          clear hLo d0 d1
          have hr2 := hr.over hB2
          have hl2 : PsAt (fun _ => False) w2 v2 l := psAt_owns hown2 (by omega) (fun _ _ h => h)
          obtain ⟨a2, c2', hv2e, _⟩ := hl2.form
          subst hv2e
          clear hr hB2 hown2
          go_wp2_with fail
          go_loopw [11, 12] (fun v i w3 => ∃ (c : Nat), c ≤ 4 ∧ i = .int .i64 c ∧ w3.ownsRow w2.heap.size 38 4 v (allTo l c).length (pcells (allTo l c)) ∧ Below w2.heap.size w2 w3) (fun _ i _ => 4 - (intOf i).toNat)
          case atStart => exact ⟨0, by omega, rfl, World.ownsRow_nil _ _ _ _, Below.refl _ _⟩
          case round =>
            obtain ⟨c, hc4, rfl, hownA, hBA⟩ := hrel
            obtain ⟨va, vn, vc, rfl⟩ := owns_slice1 hownA
            have hrA := hr2.over hBA
            have hlA := hl2.keeps (w' := wr) (Keeps.ofBelow (P := fun _ => False) hBA) (fun _ h => h.elim)
            have hAl := all_le l c
            have hAl2 : (allTo l c).length ≤ 64 := Nat.le_trans hAl (Nat.mul_le_mul hc4 hlen)
            clear hAl
            have d0 : wr.cell? ⟨cb, 0, none⟩ = some (.pointer (some ⟨sb, 0, none⟩)) := (blk_cell hrA.chat.blk 0).trans rfl
            by_cases hcn : c < 4
            · have hCh := HCh.out wr hrA (c : Int) (by omega) (by omega)
              have Hh : Hid (∀ p ∈ chatTo (c : Int) l l.length, p.h = (c : Int)) := chatTo_h _ _ _
              have hMl : (chatTo (c : Int) l l.length).length ≤ 16 := Nat.le_trans (chatTo_len _ _ _) hlen
              have Hal : Hid (allTo l (c + 1) = allTo l c ++ chatTo (c : Int) l l.length) := rfl
              generalize chatTo (c : Int) l l.length = M at *
              go_wp2_with fail
              refine hCh.mono ?_
              rintro e w4 ⟨v4, rfl, hown4, hB4⟩
              clear hCh d0
              have hP4 : PsAt (fun _ => False) w4 v4 M := psAt_owns hown4 (by omega) (fun _ _ h => h)
              have hownA4 := owns_below hownA hB4
              have hBA4 : Below w2.heap.size w2 w4 := Below.trans hBA (hB4.mono hBA.size)
              obtain ⟨a4, c4, hv4e, hf4⟩ := hP4.form
              subst hv4e
              clear hown4 hB4 hownA hBA hrA hlA
              go_wp2_with fail
              go_loopw [15] (fun i w5 => ∃ (q : Nat), q ≤ M.length ∧ i = .int .i64 q ∧ w5 = w4) (fun i _ => M.length - (intOf i).toNat)
              case atStart => exact ⟨0, Nat.zero_le _, rfl, rfl⟩
              case round =>
                obtain ⟨q, hq, rfl, hwe⟩ := hrel
                have hwe' := hwe.symm
                subst hwe'
                clear hwe
                by_cases hqn : q < M.length
                · obtain ⟨g, rfl, hg, _, hcc⟩ := hf4 (by intro e; rw [e] at hqn; simp at hqn)
                  have q0 : (0 : Int) ≤ (q : Int) := by omega
                  have q1 : (q : Int) < (M.length : Int) := by omega
                  have hm := Hh.out M[q] (List.getElem_mem hqn)
                  have k2 : w4.cell? ⟨g, q * 4 + 2, none⟩ = some (.int .i64 M[q].h) := hcc q hqn 2 (by decide)
                  rw [hm] at k2
                  have m1 : ((c : Int) != (c : Int)) = false := by simp
                  clear hm hcc
                  go_wp2_with fail
                  go_roundw
                  case rel => exact ⟨q + 1, by omega, by go_num, trivial⟩
                  case measure => simp [intOf]; omega
                · obtain rfl : q = M.length := by omega
                  have hbase := hBA4.size
                  go_wp2_with (at_builtin; refine wpList_append_posts rfl (.tmp 85) (.tmp 86) 25 rfl w2.heap.size 38 i0 _ Try.underlying25 hi hz0 hz1 hz2 rfl va vn vc rfl (allTo l c) hownA4 (by omega) (.slice a4 M.length c4) M rfl hP4 (by omega) hbase ?_; intro va' vn' vc' w6 hown6 hgr6)
                  go_roundw
                  case rel =>
                    refine ⟨c + 1, by omega, by go_num, by rw [Hal.out]; exact hown6, ?_⟩
                    exact hBA4.trans ⟨hgr6.os, hgr6.tape, hgr6.output, hgr6.size, fun b hb => hgr6.block b (by omega) (fun e => by have := (World.ownsRow.lt hownA4 b e.symm).1; omega)⟩
                  case measure => simp [intOf]; omega
            · have Hce : Hid (c = 4) := show c = 4 from (by omega)
              have m4 : decide ((c : Int) < 4) = false := decide_eq_false (by omega)
              have m5 : ¬ (c : Int) < 4 := by omega
              go_wp2_with fail
              clear d0 m4 m5 hcn
              go_loopw [16] (fun i w5 => ∃ (q : Nat), q ≤ l.length ∧ i = .int .i64 q ∧ w5.ownsRow w2.heap.size 38 4 (.slice va vn vc) (allTo l c).length (pcells (allTo l c)) ∧ Below w2.heap.size w2 w5) (fun i _ => l.length - (intOf i).toNat)
              case atStart => exact ⟨0, Nat.zero_le _, rfl, hownA, hBA⟩
              case round =>
                clear hownA hBA hrA hlA
                obtain ⟨q, hq, rfl, hownA, hBA⟩ := hrel
                have hrA := hr2.over hBA
                have hlA := hl2.keeps (w' := wr) (Keeps.ofBelow (P := fun _ => False) hBA) (fun _ h => h.elim)
                by_cases hqn : q < l.length
                · obtain ⟨a9, c9, hve, hfl⟩ := hlA.form
                  injection hve with e1 _ e3
                  subst e1 e3
                  obtain ⟨g, rfl, hg, _, hcc⟩ := hfl (by intro e; rw [e] at hqn; simp at hqn)
                  have q0 : (0 : Int) ≤ (q : Int) := by omega
                  have q1 : (q : Int) < (l.length : Int) := by omega
                  have ka := hcc q hqn
                  have htk := HT.out l[q] (List.getElem_mem hqn)
                  generalize l[q] = y at *
                  obtain ⟨yc, yq, yh, yt⟩ := y
                  have c0 : wr.cell? ⟨g, q * 4, none⟩ = some (.int .i64 yc) := ka 0 (by decide)
                  have c1 : wr.cell? ⟨g, q * 4 + 1, none⟩ = some (.int .i64 yq) := ka 1 (by decide)
                  have c2 : wr.cell? ⟨g, q * 4 + 2, none⟩ = some (.int .i64 yh) := ka 2 (by decide)
                  have c3 : wr.cell? ⟨g, q * 4 + 3, none⟩ = some (.string yt) := ka 3 (by decide)
                  have Htk : Hid (Took ps ⟨yc, yq, yh, yt⟩) := htk
                  have hPs : PsAt (fun _ => False) wr.drew (.slice pa ps.length pc) ps := psAt_owns (hrA.over (Below.drew (Below.refl _ _))).chat.posts hpl (fun _ _ h => h)
                  have hAm := among_any hPs ⟨yc, yq, yh, yt⟩
                  have hcb1 := hrA.chat.blk
                  clear ka hcc htk hfl hPs
                  go_wp2_with fail
                  refine wp_region_held_drew (S := fun w' => w'.heap[cb]? = some (.cells #[.pointer (some ⟨sb, 0, none⟩), .int .i64 (s.n : Int), .slice pa ps.length pc, .slice (some ⟨lb, 0, none⟩) n n] 30 (0, 0)) ∧ w'.cell? ⟨g, q * 4, none⟩ = some (.int .i64 yc) ∧ w'.cell? ⟨g, q * 4 + 1, none⟩ = some (.int .i64 yq) ∧ w'.cell? ⟨g, q * 4 + 2, none⟩ = some (.int .i64 yh) ∧ w'.cell? ⟨g, q * 4 + 3, none⟩ = some (.string yt)) (by kernel_rfl) (⟨hcb1, c0, c1, c2, c3⟩) (fun hS => ?_)
                  refine wpAnyH_take (i := 0) (v := ?_) rfl (by kernel_rfl) (by kernel_rfl) (by kernel_rfl) (fun _ _ _ h => h) (Or.inl ⟨by kernel_rfl, fun w' hw => ?_⟩) hS ?_
                  rotate_left 1
                  · have d1 := blk_cell hw.1; have d2 := hw.2.1; have d3 := hw.2.2.1; have d4 := hw.2.2.2.1; have d5 := hw.2.2.2.2; go_simp; all_goals with_reducible rfl
                  try simp only [Act.put, List.getElem_toArray, List.getElem_cons_zero, List.getElem_cons_succ, List.setIfInBounds_toArray, List.set_cons_zero, List.set_cons_succ]
                  refine wpAnyH_take (i := 1) (v := ?_) rfl (by kernel_rfl) (by kernel_rfl) (by kernel_rfl) (fun _ _ _ h => h) (Or.inl ⟨by kernel_rfl, fun w' hw => ?_⟩) hS ?_
                  rotate_left 1
                  · have d1 := blk_cell hw.1; have d2 := hw.2.1; have d3 := hw.2.2.1; have d4 := hw.2.2.2.1; have d5 := hw.2.2.2.2; go_simp; all_goals with_reducible rfl
                  try simp only [Act.put, List.getElem_toArray, List.getElem_cons_zero, List.getElem_cons_succ, List.setIfInBounds_toArray, List.set_cons_zero, List.set_cons_succ]
                  refine wpAnyH_take (i := 2) (v := ?_) rfl (by kernel_rfl) (by kernel_rfl) (by kernel_rfl) (fun _ _ _ h => h) (Or.inl ⟨by kernel_rfl, fun w' hw => ?_⟩) hS ?_
                  rotate_left 1
                  · have d1 := blk_cell hw.1; have d2 := hw.2.1; have d3 := hw.2.2.1; have d4 := hw.2.2.2.1; have d5 := hw.2.2.2.2; go_simp; all_goals with_reducible rfl
                  try simp only [Act.put, List.getElem_toArray, List.getElem_cons_zero, List.getElem_cons_succ, List.setIfInBounds_toArray, List.set_cons_zero, List.set_cons_succ]
                  refine wpAnyH_take (i := 3) (v := ?_) rfl (by kernel_rfl) (by kernel_rfl) (by kernel_rfl) (fun _ _ _ h => h) (Or.inl ⟨by kernel_rfl, fun w' hw => ?_⟩) hS ?_
                  rotate_left 1
                  · have d1 := blk_cell hw.1; have d2 := hw.2.1; have d3 := hw.2.2.1; have d4 := hw.2.2.2.1; have d5 := hw.2.2.2.2; go_simp; all_goals with_reducible rfl
                  try simp only [Act.put, List.getElem_toArray, List.getElem_cons_zero, List.getElem_cons_succ, List.setIfInBounds_toArray, List.set_cons_zero, List.set_cons_succ]
                  refine wpAnyH_take (i := 4) (v := ?_) rfl (by kernel_rfl) (by kernel_rfl) (by kernel_rfl) (fun _ _ _ h => h) (Or.inl ⟨by kernel_rfl, fun w' hw => ?_⟩) hS ?_
                  rotate_left 1
                  · have d1 := blk_cell hw.1; have d2 := hw.2.1; have d3 := hw.2.2.1; have d4 := hw.2.2.2.1; have d5 := hw.2.2.2.2; go_simp; all_goals with_reducible rfl
                  try simp only [Act.put, List.getElem_toArray, List.getElem_cons_zero, List.getElem_cons_succ, List.setIfInBounds_toArray, List.set_cons_zero, List.set_cons_succ]
                  refine wpAnyH_take (i := 5) (v := ?_) rfl (by kernel_rfl) (by kernel_rfl) (by kernel_rfl) (fun _ _ _ h => h) (Or.inl ⟨by kernel_rfl, fun w' hw => ?_⟩) hS ?_
                  rotate_left 1
                  · have d1 := blk_cell hw.1; have d2 := hw.2.1; have d3 := hw.2.2.1; have d4 := hw.2.2.2.1; have d5 := hw.2.2.2.2; go_simp; all_goals with_reducible rfl
                  try simp only [Act.put, List.getElem_toArray, List.getElem_cons_zero, List.getElem_cons_succ, List.setIfInBounds_toArray, List.set_cons_zero, List.set_cons_succ]
                  refine wpAnyH_take (i := 6) (v := ?_) rfl (by kernel_rfl) (by kernel_rfl) (by kernel_rfl) (fun _ _ _ h => h) (Or.inl ⟨by kernel_rfl, fun w' hw => ?_⟩) hS ?_
                  rotate_left 1
                  · have d1 := blk_cell hw.1; have d2 := hw.2.1; have d3 := hw.2.2.1; have d4 := hw.2.2.2.1; have d5 := hw.2.2.2.2; go_simp; all_goals with_reducible rfl
                  try simp only [Act.put, List.getElem_toArray, List.getElem_cons_zero, List.getElem_cons_succ, List.setIfInBounds_toArray, List.set_cons_zero, List.set_cons_succ]
                  refine wpAnyH_take (i := 7) (v := ?_) rfl (by kernel_rfl) (by kernel_rfl) (by kernel_rfl) (fun _ _ _ h => h) (Or.inl ⟨by kernel_rfl, fun w' hw => ?_⟩) hS ?_
                  rotate_left 1
                  · have d1 := blk_cell hw.1; have d2 := hw.2.1; have d3 := hw.2.2.1; have d4 := hw.2.2.2.1; have d5 := hw.2.2.2.2; go_simp; all_goals with_reducible rfl
                  try simp only [Act.put, List.getElem_toArray, List.getElem_cons_zero, List.getElem_cons_succ, List.setIfInBounds_toArray, List.set_cons_zero, List.set_cons_succ]
                  refine wpAnyH_ready (rs := [8]) (by kernel_rfl) (by simp) ?_
                  refine AllReadyH.cons rfl (fun K hK => ?_) AllReadyH.nil
                  go_simp
                  refine hAm.mono ?_
                  rintro e w6 ⟨r, rfl, hiff, hB6⟩
                  clear hAm
                  have hB6' : Below wr.heap.size wr w6 := Below.trans (Below.drew (Below.refl _ _)) hB6
                  have hcb6 := blk_below hB6' hcb1
                  have k0 := (hB6'.cell (p := ⟨g, q * 4, none⟩) hg).trans c0
                  have k1 := (hB6'.cell (p := ⟨g, q * 4 + 1, none⟩) hg).trans c1
                  have k2 := (hB6'.cell (p := ⟨g, q * 4 + 2, none⟩) hg).trans c2
                  have k3 := (hB6'.cell (p := ⟨g, q * 4 + 3, none⟩) hg).trans c3
                  have hBA6 : Below w2.heap.size w2 w6 := Below.trans hBA (hB6'.mono hBA.size)
                  have HO6 : Hid (w6.ownsRow w2.heap.size 38 4 (.slice va vn vc) (allTo l c).length (pcells (allTo l c)) ∧ Below w2.heap.size w2 w6) := ⟨owns_below hownA hB6', hBA6⟩
                  clear hBA6
                  have Hiff : Hid (r = true ↔ (⟨yc, yq, yh, yt⟩ : Pst) ∈ ps) := hiff
                  clear hiff
                  go_wp2_with fail
                  refine hK.out _ _ ⟨hcb6, k0, k1, k2, k3⟩ (fun hS => ?_)
                  clear hK K
                  try simp only [Act.put, List.getElem_toArray, List.getElem_cons_zero, List.getElem_cons_succ, List.setIfInBounds_toArray, List.set_cons_zero, List.set_cons_succ]
                  refine wpAnyH_ready (rs := [9]) (by kernel_rfl) (by simp) ?_
                  refine AllReadyH.cons rfl (fun K hK => ?_) AllReadyH.nil
                  go_simp
                  refine hK.out _ _ ⟨hcb6, k0, k1, k2, k3⟩ (fun hS => ?_)
                  clear hK K
                  try simp only [Act.put, List.getElem_toArray, List.getElem_cons_zero, List.getElem_cons_succ, List.setIfInBounds_toArray, List.set_cons_zero, List.set_cons_succ]
                  refine wpAnyH_done (by kernel_rfl) ?_ _
                  rcases Htk.out with he | ⟨hin, hrt⟩
                  · injection he with e1 e2 e3 e4
                    subst e1 e2 e3 e4
                    clear c0 c1 c2 c3
                    go_wp2_with fail
                    go_roundw
                    case rel => exact ⟨q + 1, by omega, by go_num, HO6.out⟩
                    case measure => simp [intOf]; omega
                  · obtain rfl : r = true := Hiff.out.2 hin
                    have hyc : ¬ yc = 0 := by
                      unfold rightPostB at hrt
                      simp only [Bool.and_eq_true] at hrt
                      have := withinB_true hrt.1.1.1
                      omega
                    clear c0 c1 c2 c3 hin hrt
                    go_wp2_with fail
                    go_roundw
                    case rel => exact ⟨q + 1, by omega, by go_num, HO6.out⟩
                    case measure => simp [intOf]; omega
                · obtain rfl : q = l.length := by omega
                  have hPA : PsAt (fun _ => False) wr (.slice va vn vc) (allTo l c) := psAt_owns hownA (by omega) (fun _ _ h => h)
                  have hCs := chosen_any hlA hPA hlen (by rw [Hce.out]; exact all_len HT.out) (by rw [Hce.out]; exact all_mem HT.out)
                  go_wp2_with fail
                  refine hCs.mono ?_
                  rintro e w6 ⟨rfl, hB6⟩
                  clear hCs
                  have hr6 := hrA.over hB6
                  go_wp2_with fail
                  go_roundw
                  case rel => exact ⟨k + 1, by omega, by go_num, hr6⟩
                  case measure => simp [intOf]; omega
        · obtain rfl : k = n := by omega
          go_wp2_with fail
          go_ret
          exact ⟨rfl, hr.below⟩
end Go.Proofs.Ytnnhnekfokbooaa
