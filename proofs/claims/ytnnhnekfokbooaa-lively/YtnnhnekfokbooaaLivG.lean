/- The walk of Lively (laid by mklivg.py). -/
import Derived.Test.YtnnhnekfokbooaaLivF
import Derived.Deep.DeepCutAuto
import Derived.BigQuiet
namespace Go.Proofs.Ytnnhnekfokbooaa
open Go.RowKit
set_option linter.unusedSimpArgs false
set_option linter.unusedVariables false

def Stage (r k : Nat) (s : Sy) : Prop := s.net = [] ∧ (k = 1 → ∀ j, j < s.n → (s.rep j).pr ≤ max (s.rep r).pr (s.rep r).sn) ∧ (k = 2 → ∃ b next, Led b r next s)
def LivTo (w : World) (cb sb lb n : Nat) (ps : List Pst) (pl : List Int) (b : Int) (r next rb : Nat) (ro : Array Value) (i : Value) (wr : World) : Prop :=
  ∃ (j : Nat) (s : Sy) (nx : Nat), j ≤ pl.length ∧ i = .int .i64 j ∧ LR w wr cb sb lb n s ps ∧ Led b r nx s ∧ next ≤ nx ∧ wr.heap[rb]? = some (.cells ro 33 (0, 0))
set_option maxHeartbeats 8000000 in
set_option maxRecDepth 100000 in
theorem lively_any (raw : Int) (hraw : I64 raw) (sv : Value) (script : List St3) (who : Int) (hwho : I64 who) (pv : Value) (pl : List Int) (w : World) (hs : StAt w sv script) (hp : ZsAt w pv pl) :
    Calls Try.prog 7 #[.int .i64 raw, sv, .int .i64 who, pv] w fun e w' => e = .returned (.bool true) ∧ Below w.heap.size w w' := by
  have hBg := begins_any raw hraw w
  obtain ⟨sa, sc, rfl, hsf⟩ := hs.form
  obtain ⟨pa, pc, rfl, hpf⟩ := hp.form
  have hslen := hs.len
  have hpnum := hp.nums
  have hplen := hp.len
  go_enter Try.func7, Try.ntmps7
  go_wp2_with fail
  refine hBg.mono ?_
  rintro e w1 ⟨cb, sb, L, n, lb, rfl, hn, hc, hown, hlb, hlbn, hB1⟩
  clear hBg hn
  have hn7 : n ≤ 7 := hc.syn.ok.n1
  have hn1 : 1 ≤ n := hc.syn.ok.n0
  have hrun : LR w w1 cb sb lb n (newSy n) [] := LR.start hc hown hlb hlbn hB1
  clear hc hown hlb hB1 hlbn
  go_wp2_with fail
  go_loopw [10] (fun i wr => ∃ (j : Nat) (s : Sy) (ps : List Pst), j ≤ script.length ∧ i = .int .i64 j ∧ LR w wr cb sb lb n s ps) (fun i _ => script.length - (intOf i).toNat)
  case atStart => exact ⟨0, newSy n, [], Nat.zero_le _, rfl, hrun⟩
  case round =>
    obtain ⟨j, s, ps, hj, rfl, hr⟩ := hrel
    by_cases hjn : j < script.length
    · obtain ⟨g, off, rfl, hg, hcells⟩ := hsf (by intro e; rw [e] at hjn; simp at hjn)
      obtain ⟨x0, x1, x2⟩ := hcells j hjn
      have hnum := hs.nums script[j] (List.getElem_mem hjn)
      generalize script[j] = x at *
      obtain ⟨xk, xa, xb⟩ := x
      have y0 := (hr.bel.cell (p := ⟨g, off + j * 3, none⟩) hg).trans x0
      have y1 := (hr.bel.cell (p := ⟨g, off + j * 3 + 1, none⟩) hg).trans x1
      have y2 := (hr.bel.cell (p := ⟨g, off + j * 3 + 2, none⟩) hg).trans x2
      have q0 : (0 : Int) ≤ (j : Int) := by omega
      have q1 : (j : Int) < (script.length : Int) := by omega
      have hST := hr.step xk xa xb hnum.2.1 hnum.2.2
      clear x0 x1 x2 hcells
      go_wp2_with fail
      refine hST.mono ?_
      rintro e w3 ⟨rfl, s3, ps3, hr3⟩
      clear hST y0 y1 y2
      go_wp2_with fail
      go_roundw
      case rel => exact ⟨j + 1, s3, ps3, by omega, by go_num, hr3⟩
      case measure => simp [intOf]; omega
    · obtain rfl : j = script.length := by omega
      have hCa := hr.calm
      have hz1 := settle_empty hr.ok
      generalize Sy.settle 20000 s = s1 at *
      go_wp2_with fail
      refine hCa.mono ?_
      rintro e w3 ⟨rfl, hL3, _, _⟩
      clear hCa hr
      have hPk := fun W => pick_any who (n : Int) W hwho (by omega) (by omega)
      have hbp := pickZ_bound who (n : Int) (by omega)
      obtain ⟨r, hr⟩ := Int.eq_ofNat_of_zero_le hbp.1
      rw [hr] at hbp
      simp only [hr] at hPk
      have hrn : r < n := by omega
      clear hr hbp
      have d1 := hL3.c1
      go_wp2_with fail
      refine (hPk _).mono ?_
      rintro e w' ⟨rfl, rfl⟩
      clear hPk d1
      go_wp2_with fail
      go_loopw [12, 14] (fun _ i wr => ∃ (k : Nat) (s : Sy), k ≤ 2 ∧ i = .int .i64 k ∧ LR w wr cb sb lb n s ps ∧ Stage r k s) (fun _ i _ => 2 - (intOf i).toNat)
      case atStart => exact ⟨0, s1, by omega, rfl, hL3, hz1, fun h => absurd h (by decide), fun h => absurd h (by decide)⟩
      case round =>
        clear hz1 hL3
        obtain ⟨k, s2, hk, rfl, hr, hst⟩ := hrel
        have Hst : Hid (Stage r k s2) := hst
        clear hst
        have d0 := hr.c0
        by_cases hk2 : k < 2
        · have q1 : (k : Int) < 2 := by omega
          have m1 : decide ((k : Int) < 2) = true := by simp; omega
          have hC := hr.camp hrn
          have hcs := campE_cases hr.ok Hst.out.1 r
          have hfi : s2.campE r = 0 → ∀ j, j < s2.n → _ := fun h => camp_first hr.ok Hst.out.1 (by rw [hr.nn]; exact hrn) h
          have hse : s2.campE r = 0 → k = 1 → Sound (Sy.settle 20000 (s2.campaign r)) → ∃ b next, Led b r next (Sy.settle 20000 (s2.campaign r)) := fun h e hso => camp_second hr.ok Hst.out.1 (by rw [hr.nn]; exact hrn) h (Hst.out.2.1 e) hso
          have hcn : (Sy.settle 20000 (s2.campaign r)).n = s2.n := (settle_n _ _).trans (campaign_n _ _)
          have hze := settle_empty (campaign_ok hr.ok (r := r) (by rw [hr.nn]; exact hrn))
          generalize s2.campE r = E at *
          generalize s2.campaign r = sc at *
          have HF : Hid (E = 0 → ∀ j, j < s2.n → ((Sy.settle 20000 sc).rep j).pr ≤ max ((Sy.settle 20000 sc).rep r).pr ((Sy.settle 20000 sc).rep r).sn) := hfi
          have HS : Hid (E = 0 → k = 1 → Sound (Sy.settle 20000 sc) → ∃ b next, Led b r next (Sy.settle 20000 sc)) := hse
          clear hfi hse
          rcases hcs with rfl | rfl
          · go_wp2_with fail
            refine hC.mono ?_
            rintro e w5 ⟨rfl, hL5, _⟩
            clear hC d0
            go_wp2_with fail
            go_ret
            exact ⟨rfl, hL5.bel⟩
          · go_wp2_with fail
            refine hC.mono ?_
            rintro e w5 ⟨rfl, hL5, _⟩
            clear hC d0
            have hCa := hL5.calm
            generalize Sy.settle 20000 sc = s4 at *
            go_wp2_with fail
            refine hCa.mono ?_
            rintro e w6 ⟨rfl, hL6, _, _⟩
            clear hCa
            have hst6 : Stage r (k + 1) s4 := ⟨hze, fun _ j hj => HF.out (by trivial) j (by rw [← hcn]; exact hj), fun h => HS.out (by trivial) (by omega) hL6.sound⟩
            clear hze hcn hr hL5
            go_wp2_with fail
            go_roundw
            case rel => exact ⟨k + 1, s4, by omega, by go_num, hL6, hst6⟩
            case measure => simp [intOf]; omega
        · have hke : k = 2 := by omega
          have m1 : decide ((k : Int) < 2) = false := by simp; omega
          have m2 : ¬ (k : Int) < 2 := by omega
          obtain ⟨b, next, hled⟩ := Hst.out.2.2 hke
          obtain ⟨pp, hrl⟩ := hled.role
          have hRo := hr.role hrn
          rw [hrl] at hRo
          have hRo2 : Rl.kind (Rl.lead b next pp) = 2 := rfl
          have hRo3 : Rl.bal (Rl.lead b next pp) = b := rfl
          have hRo4 : Rl.nxt (Rl.lead b next pp) = next := rfl
          rw [hRo2, hRo3, hRo4] at hRo
          generalize hprx : (s2.rep r).pr = pr at hRo
          obtain ⟨bl, hbl⟩ : ∃ bl, bl = b := ⟨_, rfl⟩
          rw [← hbl] at hRo
          obtain ⟨nn, hnn0⟩ : ∃ nn : Int, nn = (next : Int) := ⟨_, rfl⟩
          rw [← hnn0] at hRo
          have Hnn : Hid (nn = (next : Int)) := hnn0
          clear hRo2 hRo3 hRo4 hprx hbl hrl hnn0 Hst hke
          go_wp2_with fail
          refine hRo.mono ?_
          rintro e w5 ⟨rfl, hB5⟩
          clear hRo d0
          have hL6 := (hr.over hB5).over (w' := w5.alloc (.cells #[.int .i64 2, .int .i64 bl, .int .i64 pr, .int .i64 nn] 33)) ((Below.refl _ w5).alloc (Nat.le_refl _) _)
          have hro6 := blk_new w5 (.cells #[.int .i64 2, .int .i64 bl, .int .i64 pr, .int .i64 nn] 33)
          have hroc := blk_cell hro6
          have hz5 := blk_new w5 (.cells #[.int .i64 0, .int .i64 0, .int .i64 0, .int .i64 0] 33)
          clear hr hB5
          go_wp2_with fail
          clear hroc hz5
          go_loopw [12, 18] (fun _ i wr => LivTo w cb sb lb n ps pl b r next w5.heap.size #[.int .i64 2, .int .i64 bl, .int .i64 pr, .int .i64 nn] i wr) (fun _ i _ => pl.length - (intOf i).toNat)
          case atStart => exact ⟨0, s2, next, Nat.zero_le _, rfl, hL6, hled, Nat.le_refl _, hro6⟩
          case round =>
            clear hL6 hled hro6
            obtain ⟨j, s3, nx, hj, rfl, hr, hled, hnn, hro⟩ := hrel
            by_cases hjn : j < pl.length
            · obtain ⟨g, off, rfl, hg, hcells⟩ := hpf (by intro e; rw [e] at hjn; simp at hjn)
              have x0 := hcells j hjn
              have hnum := hpnum pl[j] (List.getElem_mem hjn)
              generalize pl[j] = z at *
              have q0 : (0 : Int) ≤ (j : Int) := by omega
              have q1 : (j : Int) < (pl.length : Int) := by omega
              clear hcells
              have hLo := hr.log hrn
              have hlen3 := hled.log hr.ok hr.sound
              rw [hlen3] at hLo
              generalize hlg3 : logOf (s3.rep r).dec = lg3 at hLo
              have Hlg3 : Hid (logOf (s3.rep r).dec = lg3) := hlg3
              have Hlen3 : Hid ((logOf (s3.rep r).dec).length = nx) := hlen3
              clear hlg3 hlen3
              have d0 := hr.c0
              go_wp2_with fail
              refine hLo.mono ?_
              rintro e wa ⟨a1, c1, rfl, _, hBa⟩
              clear hLo d0
              have hra := hr.over hBa
              have hroa := blk_below hBa hro
              have hLe := hra.lengths
              clear hr hro hBa
              go_wp2_with fail
              refine hLe.mono ?_
              rintro e wm ⟨a2, c2, rfl, hol, hBm⟩
              clear hLe
              have hrm := hra.over hBm
              have hrom := blk_below hBm hroa
              obtain ⟨go, rfl, csO, hgo, hcsO⟩ := ints_cell hol (by omega)
              clear hra hroa hBm hol
              have HO : Hid (∀ q, q < n → csO[q]? = some (.int .i64 ((logOf (s3.rep q).dec).length : Int))) := fun q hq => hcsO q _ (lens_at s3 hq)
              clear hcsO
              have y0 : wm.cell? ⟨g, off + j, none⟩ = some (.int .i64 z) := (hrm.bel.cell (p := ⟨g, off + j, none⟩) hg).trans x0
              have hgm : g < wm.heap.size := by have := hrm.bel.size; omega
              have hq5 : I64 (z.tdiv 7) := tdiv_in hnum (by decide)
              have hwr : IntKind.i64.wrap (z.tdiv 7) = z.tdiv 7 := wrap_in hq5
              have hPo := fun W => post_any z (z.tdiv 7) W hnum hq5
              have hpr : Hid (rightPostB (postZ z (z.tdiv 7)) = true) := postZ_right z (z.tdiv 7)
              clear x0
              go_upto_region 31 with (fail)
              go_cut [22] (fun s wx => ∃ (bb : Nat) (p : Pst), s = .pointer (some ⟨bb, 0, none⟩) ∧ wx.heap[bb]? = some (.cells #[.int .i64 p.c, .int .i64 p.q, .int .i64 p.h, .string p.t] 38 (0, 0)) ∧ wm.heap.size ≤ bb ∧ Below wm.heap.size wm wx ∧ rightPostB p = true)
              case first =>
                  refine wp_region_held_drew (S := fun w' => w'.cell? ⟨g, off + j, none⟩ = some (.int .i64 z)) (by kernel_rfl) (y0) (fun hS => ?_)
                  refine wpAnyH_take (i := 0) (v := ?_) rfl (by kernel_rfl) (by kernel_rfl) (by kernel_rfl) (fun _ _ _ h => h) (Or.inl ⟨by kernel_rfl, fun w' hw => ?_⟩) hS ?_
                  rotate_left 1
                  · have d1 := hw; go_simp; all_goals with_reducible rfl
                  try simp only [Act.put, List.getElem_toArray, List.getElem_cons_zero, List.getElem_cons_succ, List.setIfInBounds_toArray, List.set_cons_zero, List.set_cons_succ]
                  refine wpAnyH_take (i := 1) (v := ?_) rfl (by kernel_rfl) (by kernel_rfl) (by kernel_rfl) (fun _ _ _ h => h) (Or.inl ⟨by kernel_rfl, fun w' hw => ?_⟩) hS ?_
                  rotate_left 1
                  · have d1 := hw; go_simp; all_goals with_reducible rfl
                  try simp only [Act.put, List.getElem_toArray, List.getElem_cons_zero, List.getElem_cons_succ, List.setIfInBounds_toArray, List.set_cons_zero, List.set_cons_succ]
                  refine wpAnyH_take (i := 2) (v := ?_) rfl (by kernel_rfl) (by kernel_rfl) (by kernel_rfl) (fun _ _ _ h => h) (Or.inl ⟨by kernel_rfl, fun w' hw => ?_⟩) hS ?_
                  rotate_left 1
                  · have d1 := hw; go_simp; all_goals with_reducible rfl
                  try simp only [Act.put, List.getElem_toArray, List.getElem_cons_zero, List.getElem_cons_succ, List.setIfInBounds_toArray, List.set_cons_zero, List.set_cons_succ]
                  refine wpAnyH_take (i := 3) (v := ?_) rfl (by kernel_rfl) (by kernel_rfl) (by kernel_rfl) (fun _ _ _ h => h) (Or.inl ⟨by kernel_rfl, fun w' hw => ?_⟩) hS ?_
                  rotate_left 1
                  · have d1 := hw; go_simp; all_goals with_reducible rfl
                  try simp only [Act.put, List.getElem_toArray, List.getElem_cons_zero, List.getElem_cons_succ, List.setIfInBounds_toArray, List.set_cons_zero, List.set_cons_succ]
                  refine wpAnyH_take (i := 4) (v := ?_) rfl (by kernel_rfl) (by kernel_rfl) (by kernel_rfl) (fun _ _ _ h => h) (Or.inl ⟨by kernel_rfl, fun w' hw => ?_⟩) hS ?_
                  rotate_left 1
                  · have d1 := hw; go_simp; all_goals with_reducible rfl
                  try simp only [Act.put, List.getElem_toArray, List.getElem_cons_zero, List.getElem_cons_succ, List.setIfInBounds_toArray, List.set_cons_zero, List.set_cons_succ]
                  refine wpAnyH_take (i := 5) (v := ?_) rfl (by kernel_rfl) (by kernel_rfl) (by kernel_rfl) (fun _ _ _ h => h) (Or.inl ⟨by kernel_rfl, fun w' hw => ?_⟩) hS ?_
                  rotate_left 1
                  · have d1 := hw; go_simp; all_goals with_reducible rfl
                  try simp only [Act.put, List.getElem_toArray, List.getElem_cons_zero, List.getElem_cons_succ, List.setIfInBounds_toArray, List.set_cons_zero, List.set_cons_succ]
                  refine wpAnyH_take (i := 6) (v := ?_) rfl (by kernel_rfl) (by kernel_rfl) (by kernel_rfl) (fun _ _ _ h => h) (Or.inl ⟨by kernel_rfl, fun w' hw => ?_⟩) hS ?_
                  rotate_left 1
                  · have d1 := hw; go_simp; all_goals with_reducible rfl
                  try simp only [Act.put, List.getElem_toArray, List.getElem_cons_zero, List.getElem_cons_succ, List.setIfInBounds_toArray, List.set_cons_zero, List.set_cons_succ]
                  refine wpAnyH_take (i := 7) (v := ?_) rfl (by kernel_rfl) (by kernel_rfl) (by kernel_rfl) (fun _ _ _ h => h) (Or.inl ⟨by kernel_rfl, fun w' hw => ?_⟩) hS ?_
                  rotate_left 1
                  · have d1 := hw; go_simp; all_goals with_reducible rfl
                  try simp only [Act.put, List.getElem_toArray, List.getElem_cons_zero, List.getElem_cons_succ, List.setIfInBounds_toArray, List.set_cons_zero, List.set_cons_succ]
                  refine wpAnyH_take (i := 8) (v := ?_) rfl (by kernel_rfl) (by kernel_rfl) (by kernel_rfl) (fun _ _ _ h => h) (Or.inl ⟨by kernel_rfl, fun w' hw => ?_⟩) hS ?_
                  rotate_left 1
                  · have d1 := hw; go_simp; all_goals with_reducible rfl
                  try simp only [Act.put, List.getElem_toArray, List.getElem_cons_zero, List.getElem_cons_succ, List.setIfInBounds_toArray, List.set_cons_zero, List.set_cons_succ]
                  refine wpAnyH_ready (rs := [9, 10]) (by kernel_rfl) (by simp) ?_
                  refine AllReadyH.cons rfl (fun K hK => ?_) (AllReadyH.cons rfl (fun K hK => ?_) AllReadyH.nil)
                  · go_simp
                    refine (hPo _).mono ?_
                    rintro e w4 ⟨rfl, hB4⟩
                    clear hPo
                    have hB4' : Below wm.heap.size wm w4 := Below.trans (Below.drew (Below.refl _ _)) hB4
                    have hx4 := (hB4'.cell (p := ⟨g, off + j, none⟩) hgm).trans y0
                    go_wp2_with fail
                    refine hK.out _ _ hx4 (fun hS => ?_)
                    clear hK K
                    try simp only [Act.put, List.getElem_toArray, List.getElem_cons_zero, List.getElem_cons_succ, List.setIfInBounds_toArray, List.set_cons_zero, List.set_cons_succ]
                    refine wpAnyH_ready (rs := [10]) (by kernel_rfl) (by simp) ?_
                    refine AllReadyH.cons rfl (fun K hK => ?_) AllReadyH.nil
                    go_simp
                    have hz := blk_new w4 (.cells #[.int .i64 0, .int .i64 0, .int .i64 0, .string ⟨#[]⟩] 38)
                    have hB5 : Below wm.heap.size wm (w4.alloc (.cells #[.int .i64 0, .int .i64 0, .int .i64 0, .string ⟨#[]⟩] 38)) := hB4'.alloc hB4'.size _
                    have hx5 := (hB5.cell (p := ⟨g, off + j, none⟩) hgm).trans y0
                    refine hK.out _ _ hx5 (fun hS => ?_)
                    clear hK K
                    try simp only [Act.put, List.getElem_toArray, List.getElem_cons_zero, List.getElem_cons_succ, List.setIfInBounds_toArray, List.set_cons_zero, List.set_cons_succ]
                    refine wpAnyH_ready (rs := [11]) (by kernel_rfl) (by simp) ?_
                    refine AllReadyH.cons rfl (fun K hK => ?_) AllReadyH.nil
                    rw [if_pos (by kernel_rfl)]
                    generalize postZ z (z.tdiv 7) = p at *
                    have hth : World.there (w4.alloc (.cells #[.int .i64 0, .int .i64 0, .int .i64 0, .string ⟨#[]⟩] 38)) w4.heap.size 0 4 := fun j hj => ⟨by rw [blk_cell hz, Nat.zero_add, Array.getElem?_eq_getElem (by exact hj)]; rfl, blk_free hz _⟩
                    have hi4 : (Try.prog.info? 38).map (·.size) = some (#[.int .i64 p.c, .int .i64 p.q, .int .i64 p.h, .string p.t] : Array Value).size := by kernel_rfl
                    have h14 : (#[.int .i64 p.c, .int .i64 p.q, .int .i64 p.h, .string p.t] : Array Value).all (·.oneCell') = true := by simp [Value.oneCell']
                    refine wp_store_mid 38 (.tmp 22) (.tmp 119) rfl w4.heap.size 0 #[.int .i64 p.c, .int .i64 p.q, .int .i64 p.h, .string p.t] rfl rfl hth hi4 h14 ?_
                    have hbb : (World.setCells (w4.alloc (.cells #[.int .i64 0, .int .i64 0, .int .i64 0, .string ⟨#[]⟩] 38)) w4.heap.size 0 (#[.int .i64 p.c, .int .i64 p.q, .int .i64 p.h, .string p.t] : Array Value).toList).heap[w4.heap.size]? = some (.cells #[.int .i64 p.c, .int .i64 p.q, .int .i64 p.h, .string p.t] 38 (0, 0)) := setCells_self w4.heap.size 38 (#[.int .i64 p.c, .int .i64 p.q, .int .i64 p.h, .string p.t] : Array Value).toList 0 _ _ hz (by simp)
                    have hge : wm.heap.size ≤ w4.heap.size := hB4'.size
                    have hB5' : Below wm.heap.size wm (World.setCells (w4.alloc (.cells #[.int .i64 0, .int .i64 0, .int .i64 0, .string ⟨#[]⟩] 38)) w4.heap.size 0 (#[.int .i64 p.c, .int .i64 p.q, .int .i64 p.h, .string p.t] : Array Value).toList) := Keeps.toBelow hB5 (Keeps.ofSets (P := fun k => k = w4.heap.size) w4.heap.size rfl _ _ _) (fun k hk => by omega) hB5.size
                    have hx6 : (World.setCells (w4.alloc (.cells #[.int .i64 0, .int .i64 0, .int .i64 0, .string ⟨#[]⟩] 38)) w4.heap.size 0 (#[.int .i64 p.c, .int .i64 p.q, .int .i64 p.h, .string p.t] : Array Value).toList).cell? ⟨g, off + j, none⟩ = some (.int .i64 z) := (hB5'.cell (p := ⟨g, off + j, none⟩) hgm).trans y0
                    refine hK.out _ _ hx6 (fun hS => ?_)
                    clear hK K
                    try simp only [Act.put, List.getElem_toArray, List.getElem_cons_zero, List.getElem_cons_succ, List.setIfInBounds_toArray, List.set_cons_zero, List.set_cons_succ]
                    refine wpAnyH_done (by kernel_rfl) ?_ _
                    go_wp2_with fail
                    go_meet
                    case rel => exact ⟨w4.heap.size, p, rfl, hbb, hge, hB5', hpr.out⟩
                  · go_simp
                    have hz : (wm.alloc (.cells #[.int .i64 0, .int .i64 0, .int .i64 0, .string ⟨#[]⟩] 38)).heap[wm.heap.size]? = some (.cells #[.int .i64 0, .int .i64 0, .int .i64 0, .string ⟨#[]⟩] 38 (0, 0)) := blk_new wm _
                    have hB4' : Below wm.heap.size wm (wm.alloc (.cells #[.int .i64 0, .int .i64 0, .int .i64 0, .string ⟨#[]⟩] 38)) := (Below.refl _ _).alloc (Nat.le_refl _) _
                    have hx4 := (hB4'.cell (p := ⟨g, off + j, none⟩) hgm).trans y0
                    refine hK.out _ _ hx4 (fun hS => ?_)
                    clear hK K
                    try simp only [Act.put, List.getElem_toArray, List.getElem_cons_zero, List.getElem_cons_succ, List.setIfInBounds_toArray, List.set_cons_zero, List.set_cons_succ]
                    refine wpAnyH_ready (rs := [9]) (by kernel_rfl) (by simp) ?_
                    refine AllReadyH.cons rfl (fun K hK => ?_) AllReadyH.nil
                    go_simp
                    refine (hPo _).mono ?_
                    rintro e w4 ⟨rfl, hB4⟩
                    clear hPo
                    have hB5 : Below wm.heap.size wm w4 := Below.trans hB4' ((Below.trans (Below.drew (Below.refl _ _)) hB4).mono hB4'.size)
                    have hz5 := blk_below hB4 hz
                    have hx5 := (hB5.cell (p := ⟨g, off + j, none⟩) hgm).trans y0
                    go_wp2_with fail
                    refine hK.out _ _ hx5 (fun hS => ?_)
                    clear hK K
                    try simp only [Act.put, List.getElem_toArray, List.getElem_cons_zero, List.getElem_cons_succ, List.setIfInBounds_toArray, List.set_cons_zero, List.set_cons_succ]
                    refine wpAnyH_ready (rs := [11]) (by kernel_rfl) (by simp) ?_
                    refine AllReadyH.cons rfl (fun K hK => ?_) AllReadyH.nil
                    rw [if_pos (by kernel_rfl)]
                    generalize postZ z (z.tdiv 7) = p at *
                    have hth : World.there w4 wm.heap.size 0 4 := fun j hj => ⟨by rw [blk_cell hz5, Nat.zero_add, Array.getElem?_eq_getElem (by exact hj)]; rfl, blk_free hz5 _⟩
                    have hi4 : (Try.prog.info? 38).map (·.size) = some (#[.int .i64 p.c, .int .i64 p.q, .int .i64 p.h, .string p.t] : Array Value).size := by kernel_rfl
                    have h14 : (#[.int .i64 p.c, .int .i64 p.q, .int .i64 p.h, .string p.t] : Array Value).all (·.oneCell') = true := by simp [Value.oneCell']
                    refine wp_store_mid 38 (.tmp 22) (.tmp 119) rfl wm.heap.size 0 #[.int .i64 p.c, .int .i64 p.q, .int .i64 p.h, .string p.t] rfl rfl hth hi4 h14 ?_
                    have hbb : (World.setCells w4 wm.heap.size 0 (#[.int .i64 p.c, .int .i64 p.q, .int .i64 p.h, .string p.t] : Array Value).toList).heap[wm.heap.size]? = some (.cells #[.int .i64 p.c, .int .i64 p.q, .int .i64 p.h, .string p.t] 38 (0, 0)) := setCells_self wm.heap.size 38 (#[.int .i64 p.c, .int .i64 p.q, .int .i64 p.h, .string p.t] : Array Value).toList 0 _ _ hz5 (by simp)
                    have hge : wm.heap.size ≤ wm.heap.size := Nat.le_refl _
                    have hB5' : Below wm.heap.size wm (World.setCells w4 wm.heap.size 0 (#[.int .i64 p.c, .int .i64 p.q, .int .i64 p.h, .string p.t] : Array Value).toList) := Keeps.toBelow hB5 (Keeps.ofSets (P := fun k => k = wm.heap.size) wm.heap.size rfl _ _ _) (fun k hk => by omega) hB5.size
                    have hx6 : (World.setCells w4 wm.heap.size 0 (#[.int .i64 p.c, .int .i64 p.q, .int .i64 p.h, .string p.t] : Array Value).toList).cell? ⟨g, off + j, none⟩ = some (.int .i64 z) := (hB5'.cell (p := ⟨g, off + j, none⟩) hgm).trans y0
                    refine hK.out _ _ hx6 (fun hS => ?_)
                    clear hK K
                    try simp only [Act.put, List.getElem_toArray, List.getElem_cons_zero, List.getElem_cons_succ, List.setIfInBounds_toArray, List.set_cons_zero, List.set_cons_succ]
                    refine wpAnyH_done (by kernel_rfl) ?_ _
                    go_wp2_with fail
                    go_meet
                    case rel => exact ⟨wm.heap.size, p, rfl, hbb, hge, hB5', hpr.out⟩
              case rest =>
                  obtain ⟨bb, p, rfl, hbb, hbbge, hB4, hpr⟩ := hcut
                  obtain ⟨w4, rfl⟩ : ∃ w4 : World, w4 = wc := ⟨_, rfl⟩
                  have hr4 := hrm.over hB4
                  have hro4 := blk_below hB4 hrom
                  have hgo4 := blk_below hB4 hgo
                  have d0 := hr4.c0
                  have hSub := (hr4.over (Below.drew (Below.refl _ _))).sub hrn p hpr
                  clear hrm hrom hgo y0 hgm hB4
                  have hsE := led_subE hr4.ok hled p
                  have HT0 : Hid (∀ ps' ps'', Mvs s3 ps (s3.submit r p) ps' → Mvs (s3.submit r p) ps'' (Sy.settle 20000 (s3.submit r p)) ps'' → Sound (Sy.settle 20000 (s3.submit r p)) → ∃ nx', Taken b r nx s3 (Sy.settle 20000 (s3.submit r p)) p (s3.subE r p) nx') := fun ps' ps'' m1 m2 hso => taken hr4.ok hled hr4.sound hr4.good m1 m2 hso
                  have hs3n := hr4.nn
                  generalize s3.subE r p = E at *
                  generalize s3.submit r p = ss at *
                  clear hled hr4
                  go_wp2_with fail
                  refine wp_region_held_drew (S := fun w' => w'.heap[bb]? = some (.cells #[.int .i64 p.c, .int .i64 p.q, .int .i64 p.h, .string p.t] 38 (0, 0)) ∧ w'.cell? ⟨cb, 0, none⟩ = some (.pointer (some ⟨sb, 0, none⟩))) (by kernel_rfl) (⟨hbb, d0⟩) (fun hS => ?_)
                  refine wpAnyH_take (i := 0) (v := ?_) rfl (by kernel_rfl) (by kernel_rfl) (by kernel_rfl) (fun _ _ _ h => h) (Or.inl ⟨by kernel_rfl, fun w' hw => ?_⟩) hS ?_
                  rotate_left 1
                  · have d1 := blk_cell hw.1; have d2 := hw.2; go_simp; all_goals with_reducible rfl
                  try simp only [Act.put, List.getElem_toArray, List.getElem_cons_zero, List.getElem_cons_succ, List.setIfInBounds_toArray, List.set_cons_zero, List.set_cons_succ]
                  refine wpAnyH_take (i := 1) (v := ?_) rfl (by kernel_rfl) (by kernel_rfl) (by kernel_rfl) (fun _ _ _ h => h) (Or.inl ⟨by kernel_rfl, fun w' hw => ?_⟩) hS ?_
                  rotate_left 1
                  · have d1 := blk_cell hw.1; have d2 := hw.2; go_simp; all_goals with_reducible rfl
                  try simp only [Act.put, List.getElem_toArray, List.getElem_cons_zero, List.getElem_cons_succ, List.setIfInBounds_toArray, List.set_cons_zero, List.set_cons_succ]
                  refine wpAnyH_take (i := 2) (v := ?_) rfl (by kernel_rfl) (by kernel_rfl) (by kernel_rfl) (fun _ _ _ h => h) (Or.inl ⟨by kernel_rfl, fun w' hw => ?_⟩) hS ?_
                  rotate_left 1
                  · have d1 := blk_cell hw.1; have d2 := hw.2; go_simp; all_goals with_reducible rfl
                  try simp only [Act.put, List.getElem_toArray, List.getElem_cons_zero, List.getElem_cons_succ, List.setIfInBounds_toArray, List.set_cons_zero, List.set_cons_succ]
                  refine wpAnyH_take (i := 3) (v := ?_) rfl (by kernel_rfl) (by kernel_rfl) (by kernel_rfl) (fun _ _ _ h => h) (Or.inl ⟨by kernel_rfl, fun w' hw => ?_⟩) hS ?_
                  rotate_left 1
                  · have d1 := blk_cell hw.1; have d2 := hw.2; go_simp; all_goals with_reducible rfl
                  try simp only [Act.put, List.getElem_toArray, List.getElem_cons_zero, List.getElem_cons_succ, List.setIfInBounds_toArray, List.set_cons_zero, List.set_cons_succ]
                  refine wpAnyH_take (i := 4) (v := ?_) rfl (by kernel_rfl) (by kernel_rfl) (by kernel_rfl) (fun _ _ _ h => h) (Or.inl ⟨by kernel_rfl, fun w' hw => ?_⟩) hS ?_
                  rotate_left 1
                  · have d1 := blk_cell hw.1; have d2 := hw.2; go_simp; all_goals with_reducible rfl
                  try simp only [Act.put, List.getElem_toArray, List.getElem_cons_zero, List.getElem_cons_succ, List.setIfInBounds_toArray, List.set_cons_zero, List.set_cons_succ]
                  refine wpAnyH_take (i := 5) (v := ?_) rfl (by kernel_rfl) (by kernel_rfl) (by kernel_rfl) (fun _ _ _ h => h) (Or.inl ⟨by kernel_rfl, fun w' hw => ?_⟩) hS ?_
                  rotate_left 1
                  · have d1 := blk_cell hw.1; have d2 := hw.2; go_simp; all_goals with_reducible rfl
                  try simp only [Act.put, List.getElem_toArray, List.getElem_cons_zero, List.getElem_cons_succ, List.setIfInBounds_toArray, List.set_cons_zero, List.set_cons_succ]
                  refine wpAnyH_ready (rs := [6]) (by kernel_rfl) (by simp) ?_
                  refine AllReadyH.cons rfl (fun K hK => ?_) AllReadyH.nil
                  go_simp
                  refine hSub.mono ?_
                  rintro e w7 ⟨rfl, hL7, ⟨psx, hm7⟩, hsp7⟩
                  clear hSub
                  have hbb7 := hsp7 bb _ _ (by unfold ownT; decide) (blk_below (Below.drew (Below.refl _ w4)) hbb)
                  have hro7 := hsp7 w5.heap.size _ _ (by unfold ownT; decide) (blk_below (Below.drew (Below.refl _ w4)) hro4)
                  have hgo7 := hsp7 go _ _ (by unfold ownT; decide) (blk_below (Below.drew (Below.refl _ w4)) hgo4)
                  have d7 := hL7.c0
                  go_wp2_with fail
                  refine hK.out _ _ ⟨hbb7, d7⟩ (fun hS => ?_)
                  clear hK K
                  try simp only [Act.put, List.getElem_toArray, List.getElem_cons_zero, List.getElem_cons_succ, List.setIfInBounds_toArray, List.set_cons_zero, List.set_cons_succ]
                  refine wpAnyH_ready (rs := [7]) (by kernel_rfl) (by simp) ?_
                  refine AllReadyH.cons rfl (fun K hK => ?_) AllReadyH.nil
                  go_simp
                  refine hK.out _ _ ⟨hbb7, d7⟩ (fun hS => ?_)
                  clear hK K
                  try simp only [Act.put, List.getElem_toArray, List.getElem_cons_zero, List.getElem_cons_succ, List.setIfInBounds_toArray, List.set_cons_zero, List.set_cons_succ]
                  refine wpAnyH_done (by kernel_rfl) ?_ _
                  have hCa := hL7.calm
                  generalize Sy.settle 20000 ss = s5 at *
                  clear d0 d7 hbb hro4 hgo4
                  go_wp2_with fail
                  refine hCa.mono ?_
                  rintro e w8 ⟨rfl, hL8, hm8, hsp8⟩
                  clear hCa
                  obtain ⟨nx', hT⟩ := HT0.out _ _ hm7 hm8 hL8.sound
                  have HT : Hid (Taken b r nx s3 s5 p E nx') := hT
                  have hbb8 := hsp8 bb _ _ (by unfold ownT; decide) hbb7
                  have hro8 := hsp8 w5.heap.size _ _ (by unfold ownT; decide) hro7
                  have hgo8 := hsp8 go _ _ (by unfold ownT; decide) hgo7
                  clear HT0 hm7 hm8 hsp7 hsp8 hbb7 hro7 hgo7 hL7
                  have hLo := hL8.log hrn
                  rw [hT.now] at hLo
                  generalize hlg5 : logOf (s5.rep r).dec = lg5 at hLo
                  have Hlg5 : Hid (logOf (s5.rep r).dec = lg5) := hlg5
                  clear hlg5 hT
                  have d8 := hL8.c0
                  go_wp2_with fail
                  refine hLo.mono ?_
                  rintro e w9 ⟨a5, c5, rfl, hown5, hB9⟩
                  clear hLo d8
                  have hL9 := hL8.over hB9
                  have hbb9 := blk_below hB9 hbb8
                  have hro9 := blk_below hB9 hro8
                  have hgo9 := blk_below hB9 hgo8
                  have hLe := hL9.lengths
                  clear hL8 hbb8 hro8 hgo8 hB9
                  go_wp2_with fail
                  refine hLe.mono ?_
                  rintro e wz ⟨a6, c6, rfl, hol, hBz⟩
                  clear hLe
                  obtain ⟨ga, rfl, csA, hga, hcsA⟩ := ints_cell hol (by omega)
                  have HA : Hid (∀ q, q < n → csA[q]? = some (.int .i64 ((logOf (s5.rep q).dec).length : Int))) := fun q hq => hcsA q _ (lens_at s5 hq)
                  have hTail := hL9.over hBz
                  have hbbT := blk_below hBz hbb9
                  have hroT := blk_below hBz hro9
                  have hgoT := blk_below hBz hgo9
                  have hownT := owns_below hown5 hBz
                  clear hcsA hol hL9 hbb9 hro9 hgo9 hBz hown5
                  have dT := hTail.c1
                  have hgac := blk_cell hga
                  have hgoc := blk_cell hgoT
                  go_wp2_with fail
                  go_loopw [27] (fun i wx => ∃ (q : Nat), q ≤ n ∧ i = .int .i64 q ∧ wx = wz) (fun i _ => n - (intOf i).toNat)
                  case atStart => exact ⟨0, Nat.zero_le _, rfl, rfl⟩
                  case round =>
                    obtain ⟨q, hq, rfl, hwe⟩ := hrel
                    have hwe' := hwe.symm
                    subst hwe'
                    clear hwe
                    by_cases hqn : q < n
                    · have r0 : (0 : Int) ≤ (q : Int) := by omega
                      have r1 : (q : Int) < (n : Int) := by omega
                      have k1 := (hgoc q).trans (HO.out q hqn)
                      have k2 := (hgac q).trans (HA.out q hqn)
                      have Hoth : Hid ((logOf (s3.rep q).dec).length = nx → (logOf (s5.rep q).dec).length = nx') := HT.out.others q (by rw [hs3n]; exact hqn)
                      generalize (logOf (s3.rep q).dec).length = o1 at *
                      generalize (logOf (s5.rep q).dec).length = o2 at *
                      clear hgoc hgac
                      by_cases he : o1 = nx
                      · obtain rfl : o2 = nx' := Hoth.out he
                        subst he
                        have m1 : ((o1 : Int) == (o1 : Int)) = true := by simp
                        have m2 : ((o2 : Int) != (o2 : Int)) = false := by simp
                        go_wp2_with fail
                        go_roundw
                        case rel =>
                          first
                          | exact ⟨q + 1, by omega, by go_num, trivial⟩
                          | ((repeat apply Exists.intro); exact ⟨⟨q + 1, by omega, by go_num, trivial⟩, rfl⟩)
                        case measure => simp [intOf]; omega
                      · have m1 : ((o1 : Int) == (nx : Int)) = false := by simp; omega
                        go_wp2_with fail
                        go_roundw
                        case rel =>
                          first
                          | exact ⟨q + 1, by omega, by go_num, trivial⟩
                          | ((repeat apply Exists.intro); exact ⟨⟨q + 1, by omega, by go_num, trivial⟩, rfl⟩)
                        case measure => simp [intOf]; omega
                    · obtain rfl : q = n := by omega
                      clear hgoc hgac
                      have m0 : ¬ (q : Int) < (q : Int) := by omega
                      have hrc := blk_cell hroT
                      have hr3 : wz.cell? ⟨w5.heap.size, 3, none⟩ = some (.int .i64 (next : Int)) := by rw [hrc, Hnn.out]; rfl
                      clear hrc
                      rcases hsE with rfl | rfl | rfl
                      · obtain ⟨e1, e2⟩ := HT.out.yes rfl
                        have Hx : Hid (nx' = nx + 1) := e1
                        have hl5 : lg5.length = nx' := by rw [← Hlg5.out]; exact HT.out.now
                        have hle5 : lg5.length ≤ 16 := by
                          have h8 := log_le (s5.rep r).dec
                          have h9 := (hTail.ok.repOk (i := r) (by rw [hTail.nn]; exact hrn)).dec
                          rw [Hlg5.out] at h8
                          omega
                        have hlast : lg5[nx]? = some p := by
                          rw [← Hlg5.out, e2, List.getElem?_append_right (by rw [Hlen3.out]; exact Nat.le_refl _), Hlen3.out]
                          simp
                        have hP5 : PsAt (fun _ => False) wz (.slice a5 lg5.length c5) lg5 := psAt_owns (by rw [hl5]; exact hownT) (by omega) (fun _ _ h => h)
                        obtain ⟨ao, cp, hve, hf5⟩ := hP5.form
                        injection hve with e3 _ e4
                        subst e3 e4
                        have hnl : nx < lg5.length := by omega
                        obtain ⟨g5, rfl, hg5, _, hcc⟩ := hf5 (by intro h; rw [h] at hnl; simp at hnl)
                        have hel : lg5[nx] = p := by rw [List.getElem?_eq_getElem hnl] at hlast; injection hlast
                        have kc := hcc nx hnl
                        rw [hel] at kc
                        have k0 : wz.cell? ⟨g5, nx * 4, none⟩ = some (.int .i64 p.c) := kc 0 (by decide)
                        have k1 : wz.cell? ⟨g5, nx * 4 + 1, none⟩ = some (.int .i64 p.q) := kc 1 (by decide)
                        have k2 : wz.cell? ⟨g5, nx * 4 + 2, none⟩ = some (.int .i64 p.h) := kc 2 (by decide)
                        have k3 : wz.cell? ⟨g5, nx * 4 + 3, none⟩ = some (.string p.t) := kc 3 (by decide)
                        have v1 : IntKind.i64.wrap ((nx : Int) + 1) = (nx' : Int) := (wrap_of _ (by omega) (by omega)).trans (by omega)
                        have v2 : IntKind.i64.wrap ((nx' : Int) - 1) = (nx : Int) := (wrap_of _ (by omega) (by omega)).trans (by omega)
                        have m1 : ((nx' : Int) != (nx' : Int)) = false := by simp
                        have r0 : (0 : Int) ≤ (nx : Int) := by omega
                        have r1 : (nx : Int) < (nx' : Int) := by omega
                        have b0 : wz.cell? ⟨bb, 0, none⟩ = some (.int .i64 p.c) := (blk_cell hbbT 0).trans rfl
                        have b1 : wz.cell? ⟨bb, 1, none⟩ = some (.int .i64 p.q) := (blk_cell hbbT 1).trans rfl
                        have b2 : wz.cell? ⟨bb, 2, none⟩ = some (.int .i64 p.h) := (blk_cell hbbT 2).trans rfl
                        have b3 : wz.cell? ⟨bb, 3, none⟩ = some (.string p.t) := (blk_cell hbbT 3).trans rfl
                        clear hcc kc hel hlast e1 e2 hP5 hf5
                        go_wp2_with fail
                        go_quiet (fail)
                        clear k0 k1 k2 k3 b0 b1 b2 b3
                        have hr3d : ∀ m, (wz.drewN m).cell? ⟨w5.heap.size, 3, none⟩ = some (.int .i64 (next : Int)) := fun m => ((below_drewN (Below.refl _ _) m).cell (p := ⟨w5.heap.size, 3, none⟩) (lt_of_block hroT)).trans hr3
                        have hr3e := hr3d 16
                        have hlt : decide ((nx : Int) < (next : Int)) = false := decide_eq_false (by omega)
                        have hlt2 : ¬ (nx : Int) < (next : Int) := by omega
                        have hAg := fun m => (hTail.over (below_drewN (Below.refl _ wz) m)).agrees
                        go_wp2_with fail
                        refine (hAg _).mono ?_
                        rintro e w12 ⟨rfl, hL12, hro12⟩
                        clear hAg
                        have hroE := hro12 w5.heap.size _ (blk_below (below_drewN (Below.refl _ wz) _) hroT)
                        clear hro12
                        go_wp2_with fail
                        go_roundw
                        case rel =>
                          first
                          | exact ⟨j + 1, _, nx', by omega, by go_num, hL12, HT.out.led, Nat.le_trans hnn HT.out.le, hroE⟩
                          | ((repeat apply Exists.intro); exact ⟨⟨j + 1, _, nx', by omega, by go_num, hL12, HT.out.led, Nat.le_trans hnn HT.out.le, hroE⟩, rfl⟩)
                        case measure => simp [intOf]; omega
                      · have e1 := HT.out.no (by decide)
                        have Hx : Hid (nx' = nx) := e1
                        have m1 : ((nx' : Int) != (nx : Int)) = false := by rw [e1]; simp
                        clear e1
                        have hlt : decide ((nx : Int) < (next : Int)) = false := decide_eq_false (by omega)
                        have hlt2 : ¬ (nx : Int) < (next : Int) := by omega
                        have hAg := hTail.agrees
                        go_wp2_with fail
                        refine hAg.mono ?_
                        rintro e w12 ⟨rfl, hL12, hro12⟩
                        clear hAg
                        have hroE := hro12 w5.heap.size _ hroT
                        clear hro12
                        go_wp2_with fail
                        go_roundw
                        case rel =>
                          first
                          | exact ⟨j + 1, _, nx', by omega, by go_num, hL12, HT.out.led, Nat.le_trans hnn HT.out.le, hroE⟩
                          | ((repeat apply Exists.intro); exact ⟨⟨j + 1, _, nx', by omega, by go_num, hL12, HT.out.led, Nat.le_trans hnn HT.out.le, hroE⟩, rfl⟩)
                        case measure => simp [intOf]; omega
                      · have e1 := HT.out.no (by decide)
                        have Hx : Hid (nx' = nx) := e1
                        have m1 : ((nx' : Int) != (nx : Int)) = false := by rw [e1]; simp
                        clear e1
                        have hlt : decide ((nx : Int) < (next : Int)) = false := decide_eq_false (by omega)
                        have hlt2 : ¬ (nx : Int) < (next : Int) := by omega
                        have hAg := hTail.agrees
                        go_wp2_with fail
                        refine hAg.mono ?_
                        rintro e w12 ⟨rfl, hL12, hro12⟩
                        clear hAg
                        have hroE := hro12 w5.heap.size _ hroT
                        clear hro12
                        go_wp2_with fail
                        go_roundw
                        case rel =>
                          first
                          | exact ⟨j + 1, _, nx', by omega, by go_num, hL12, HT.out.led, Nat.le_trans hnn HT.out.le, hroE⟩
                          | ((repeat apply Exists.intro); exact ⟨⟨j + 1, _, nx', by omega, by go_num, hL12, HT.out.led, Nat.le_trans hnn HT.out.le, hroE⟩, rfl⟩)
                        case measure => simp [intOf]; omega
            · obtain rfl : j = pl.length := by omega
              go_wp2_with fail
              go_ret
              exact ⟨rfl, hr.bel⟩
end Go.Proofs.Ytnnhnekfokbooaa
