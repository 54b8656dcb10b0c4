/- The walk of Alone (laid by mkaloc.py). -/
import Derived.Test.YtnnhnekfokbooaaAloA
import Derived.Test.YtnnhnekfokbooaaAloB
import Derived.Test.YtnnhnekfokbooaaAgrB
import Derived.Deep.DeepCutAuto
namespace Go.Proofs.Ytnnhnekfokbooaa
open Go.RowKit
set_option linter.unusedSimpArgs false
set_option linter.unusedVariables false

theorem oneP (r : Rp) (net : List Ms) : 0 < (one r net).n := Nat.one_pos
def AloTo (w : World) (pl : List Int) (cb sb lb : Nat) (v i : Value) (wr : World) : Prop :=
  ∃ (j : Nat) (r : Rp) (want : List Pst) (L : Lay), j ≤ pl.length ∧ i = .int .i64 j ∧ Run w wr cb sb L (one r []) (.slice none 0 0) (.slice (some ⟨lb, 0, none⟩) 1 1) [] ∧ AI r want ∧ wr.ownsRow w.heap.size 38 4 v want.length (pcells want)
set_option maxHeartbeats 4000000 in
set_option maxRecDepth 100000 in
theorem alone_any (pv cv : Value) (pl cl : List Int) (w : World) (hp : ZsAt w pv pl) (hcr : ZsAt w cv cl) :
    Calls Try.prog 3 #[pv, cv] w fun e w' => e = .returned (.bool true) ∧ Below w.heap.size w w' := by
  obtain ⟨i0, hi, hz0, hz1, hz2⟩ := info_parts Try.infoPost
  have hBg := begins_any 0 ⟨by decide, by decide⟩ w
  obtain ⟨pa, pc, rfl, hpf⟩ := hp.form
  obtain ⟨ca, cc, rfl, hcf⟩ := hcr.form
  have hpnum := hp.nums
  have hplen := hp.len
  have hclen := hcr.len
  go_enter Try.func3, Try.ntmps3
  go_wp2_with fail
  refine hBg.mono ?_
  rintro e w1 ⟨cb, sb, L, n, lb, rfl, hn, hc, hown, hlb, hlbn, hB1⟩
  clear hBg
  obtain rfl : n = 1 := by
    have e0 : pickZ 0 4 = 0 := by decide
    rw [e0] at hn; omega
  have hrun : Run w w1 cb sb L (one noRp []) (.slice none 0 0) (.slice (some ⟨lb, 0, none⟩) 1 1) [] := ⟨hc, hown, hB1⟩
  clear hc hown hB1 hn hlb hlbn
  go_wp2_with fail
  go_loopw [6, 7] (fun v i wr => AloTo w pl cb sb lb v i wr) (fun _ i _ => pl.length - (intOf i).toNat)
  case atStart => exact ⟨0, noRp, [], L, Nat.zero_le _, rfl, hrun, ai_new, World.ownsRow_nil _ _ _ _⟩
  case round =>
    obtain ⟨j, r, want, L1, hj, rfl, hr, hai, hw⟩ := hrel
    have hwl := hai.le
    obtain ⟨va, vc, rfl, _⟩ := (owns_row hw).form
    by_cases hjn : j < pl.length
    · obtain ⟨g, off, rfl, hg, hcells⟩ := hpf (by intro e; rw [e] at hjn; simp at hjn)
      have x0 := hcells j hjn
      have hnum := hpnum pl[j] (List.getElem_mem hjn)
      generalize pl[j] = z at *
      have q0 : (0 : Int) ≤ (j : Int) := by omega
      have q1 : (j : Int) < (pl.length : Int) := by omega
      clear hcells
      go_upto_region 8 with (fail)
      go_cut [41] (fun s wx => ∃ B : Bool, s = .bool B ∧ wx = wr)
      case first =>
        by_cases hjc : j < cl.length
        · obtain ⟨gc, offc, rfl, hgc, hcellc⟩ := hcf (by intro e; rw [e] at hjc; simp at hjc)
          have yc := (hr.below.cell (p := ⟨gc, offc + j, none⟩) hgc).trans (hcellc j hjc)
          have c1 : (j : Int) < (cl.length : Int) := by omega
          have c2 : decide ((j : Int) < (cl.length : Int)) = true := by simp; omega
          clear hcellc
          go_wp2_with fail
          go_meet
          case rel => exact ⟨_, rfl, rfl⟩
        · have c1 : ¬ (j : Int) < (cl.length : Int) := by omega
          have c2 : decide ((j : Int) < (cl.length : Int)) = false := by simp; omega
          go_wp2_with fail
          go_meet
          case rel => exact ⟨_, rfl, rfl⟩
      case rest =>
        obtain ⟨B, rfl, hwe⟩ := hcut
        subst hwe
        go_upto_if 41 with (fail)
        go_cut [41] (fun _ wx => ∃ r' L', AI r' want ∧ Run w wx cb sb L' (one r' []) (.slice none 0 0) (.slice (some ⟨lb, 0, none⟩) 1 1) [] ∧ wx.ownsRow w.heap.size 38 4 (.slice va want.length vc) want.length (pcells want))
        case first =>
          have d0 : wc.cell? ⟨cb, 0, none⟩ = some (.pointer (some ⟨sb, 0, none⟩)) := (blk_cell hr.chat.blk 0).trans rfl
          cases B
          · go_wp2_with fail
            go_meet
            case rel => exact ⟨r, L1, hai, hr, hw⟩
          · have hC := crash_yes hr.chat.syn (i := 0) (oneP _ _)
            go_wp2_with fail
            refine hC.mono ?_
            rintro e w2 ⟨rfl, hto⟩
            clear hC
            have hg2 := mvs_good hr.chat.good hr.chat.syn.ok (.crash (one r []) [] 0 (oneP _ _))
            obtain ⟨L2, hr2⟩ := hr.to hto hg2 rfl
            have hown2 := owns_syn hr.chat.syn hw hto rfl
            go_wp2_with fail
            go_meet
            case rel => exact ⟨_, L2, ai_crash hai, hr2, hown2⟩
        case rest =>
          obtain ⟨r1, L2, hai1, hr1, hw1⟩ := hcut
          clear hai hr hw
          have hRo := role_yes hr1.chat.syn (i := 0) (oneP _ _)
          rw [one_rep] at hRo
          have d0 : wc.cell? ⟨cb, 0, none⟩ = some (.pointer (some ⟨sb, 0, none⟩)) := (blk_cell hr1.chat.blk 0).trans rfl
          obtain ⟨K, hK⟩ : ∃ K, K = r1.rl.kind := ⟨_, rfl⟩
          obtain ⟨bl, hbl⟩ : ∃ x, x = r1.rl.bal := ⟨_, rfl⟩
          obtain ⟨pr, hprx⟩ : ∃ x, x = r1.pr := ⟨_, rfl⟩
          obtain ⟨nx, hnx⟩ : ∃ x : Int, x = (r1.rl.nxt : Int) := ⟨_, rfl⟩
          rw [← hK, ← hbl, ← hprx, ← hnx] at hRo
          have HK : Hid (K = r1.rl.kind) := hK
          clear hK hbl hprx hnx
          go_wp2_with fail
          refine hRo.mono ?_
          rintro e w3 ⟨rfl, hB3⟩
          clear hRo d0
          have hB4 : Below w3.heap.size w3 (w3.alloc (.cells #[.int .i64 K, .int .i64 bl, .int .i64 pr, .int .i64 nx] 33)) := (Below.refl _ w3).alloc (Nat.le_refl _) _
          have hr4 := (hr1.over hB3).over hB4
          have hw4 := owns_below (owns_below hw1 hB3) hB4
          clear hB3 hB4
          have hz4 := blk_new w3 (.cells #[.int .i64 0, .int .i64 0, .int .i64 0, .int .i64 0] 33)
          have hbx4 := blk_new w3 (.cells #[.int .i64 K, .int .i64 bl, .int .i64 pr, .int .i64 nx] 33)
          have hbc4 := blk_cell hbx4
          go_upto_if 61 with (fail)
          go_cut [61] (fun _ wx => ∃ r' L' b ps, r'.rl = .lead b want.length ps ∧ AI r' want ∧ Run w wx cb sb L' (one r' []) (.slice none 0 0) (.slice (some ⟨lb, 0, none⟩) 1 1) [] ∧ wx.ownsRow w.heap.size 38 4 (.slice va want.length vc) want.length (pcells want))
          case first =>
            cases hrl : r1.rl with
            | prep b t kp =>
              have h9 := hai1.rl
              rw [hrl] at h9
              exact absurd h9 id
            | lead b n ps =>
              have h9 := hai1.rl
              rw [hrl] at h9
              obtain rfl : n = want.length := h9.1
              obtain rfl : K = 2 := by rw [HK.out, hrl]; rfl
              go_wp2_with fail
              go_meet
              case rel => exact ⟨r1, L2, b, ps, hrl, hai1, hr4, hw4⟩
            | idle =>
              obtain rfl : K = 0 := by rw [HK.out, hrl]; rfl
              have d4 : (w3.alloc (.cells #[.int .i64 0, .int .i64 bl, .int .i64 pr, .int .i64 nx] 33)).cell? ⟨cb, 0, none⟩ = some (.pointer (some ⟨sb, 0, none⟩)) := (blk_cell hr4.chat.blk 0).trans rfl
              have hC := campaign_yes hr4.chat.syn (i := 0) (oneP _ _)
              rw [one_campE] at hC
              have hg5 := mvs_good hr4.chat.good hr4.chat.syn.ok (.camp (one r1 []) [] 0 (oneP _ _))
              have hst0 := fun h => ai_camp hai1 h
              have hscn : ((one r1 []).campaign 0).n = (one r1 []).n := campaign_n _ _
              have hscm : (one (r1.led want.length) []).n = ((one r1 []).campaign 0).n := by rw [campaign_n]; rfl
              have hempt : (one (r1.led want.length) []).net.isEmpty = true := rfl
              have hlead : (r1.led want.length).rl = .lead (8 * r1.round) want.length (List.replicate 16 noPp) := rfl
              have haiL := ai_led hai1
              generalize (one r1 []).campaign 0 = sc at *
              by_cases hrd : 1000 < r1.round
              · rw [if_pos hrd] at hC
                go_wp2_with fail
                refine hC.mono ?_
                rintro e w5 ⟨rfl, hto⟩
                clear hC
                obtain ⟨L5, hr5⟩ := hr4.to hto hg5 hscn
                go_wp2_with fail
                go_ret
                exact ⟨rfl, hr5.below⟩
              · rw [if_neg hrd] at hC
                have hst := hst0 (by omega)
                generalize r1.led want.length = r9 at *
                go_wp2_with fail
                refine hC.mono ?_
                rintro e w5 ⟨rfl, hto⟩
                clear hC
                obtain ⟨L5, hr5⟩ := hr4.to hto hg5 hscn
                have hw5 := owns_syn hr4.chat.syn hw4 hto hscn
                have hCa := calm_any hr5.chat
                rw [hst] at hCa
                rw [hempt] at hCa
                go_wp2_with fail
                refine hCa.mono ?_
                rintro e w6 ⟨rfl, hm6, hto6⟩
                clear hCa
                obtain ⟨L6, hr6⟩ := hr5.to hto6 (goods hr5.chat.good hm6) hscm
                have hw6 := owns_syn hr5.chat.syn hw5 hto6 hscm
                go_wp2_with fail
                go_meet
                case rel => exact ⟨r9, L6, _, _, hlead, haiL, hr6, hw6⟩
          case rest =>
            obtain ⟨r2, L3, b, ps, hrl, hai2, hr2, hw2⟩ := hcut
            clear hai1 hr1 hw1 HK hr4 hw4 hz4 hbx4 hbc4
            obtain ⟨wm, rfl⟩ : ∃ wm : World, wm = wc := ⟨_, rfl⟩
            have y0 : wm.cell? ⟨g, off + j, none⟩ = some (.int .i64 z) := (hr2.below.cell (p := ⟨g, off + j, none⟩) hg).trans x0
            have hgm : g < wm.heap.size := by have := hr2.below.size; omega
            have hq5 : I64 (z.tdiv 5) := tdiv_in hnum (by decide)
            have hwr : IntKind.i64.wrap (z.tdiv 5) = z.tdiv 5 := wrap_in hq5
            have hPo := fun W => post_any z (z.tdiv 5) W hnum hq5
            have hpr : Hid (rightPostB (postZ z (z.tdiv 5)) = true) := postZ_right z (z.tdiv 5)
            clear x0
            go_upto_region 22 with (fail)
            go_cut [13] (fun s wx => ∃ (bb : Nat) (p : Pst), s = .pointer (some ⟨bb, 0, none⟩) ∧ wx.heap[bb]? = some (.cells #[.int .i64 p.c, .int .i64 p.q, .int .i64 p.h, .string p.t] 38 (0, 0)) ∧ wm.heap.size ≤ bb ∧ Below wm.heap.size wm wx ∧ rightPostB p = true)
            case first =>
              refine wp_region_held_drew (S := fun w' => w'.cell? ⟨g, off + j, none⟩ = some (.int .i64 z)) (by kernel_rfl) (y0) (fun hS => ?_)
              refine wpAnyH_take (i := 0) (v := ?_) rfl (by kernel_rfl) (by kernel_rfl) (by kernel_rfl) (fun _ _ _ h => h) (Or.inl ⟨by kernel_rfl, fun w' hw => ?_⟩) hS ?_
              rotate_left 1
              · have d1 := hw; go_simp; all_goals with_reducible rfl
              try simp only [Act.put, List.getElem_toArray, List.getElem_cons_zero, List.getElem_cons_succ, List.setIfInBounds_toArray, List.set_cons_zero, List.set_cons_succ]
              refine wpAnyH_take (i := 1) (v := ?_) rfl (by kernel_rfl) (by kernel_rfl) (by kernel_rfl) (fun _ _ _ h => h) (Or.inl ⟨by kernel_rfl, fun w' hw => ?_⟩) hS ?_
              rotate_left 1
              · have d1 := hw; go_simp; all_goals with_reducible rfl
              try simp only [Act.put, List.getElem_toArray, List.getElem_cons_zero, List.getElem_cons_succ, List.setIfInBounds_toArray, List.set_cons_zero, List.set_cons_succ]
              refine wpAnyH_take (i := 2) (v := ?_) rfl (by kernel_rfl) (by kernel_rfl) (by kernel_rfl) (fun _ _ _ h => h) (Or.inl ⟨by kernel_rfl, fun w' hw => ?_⟩) hS ?_
              rotate_left 1
              · have d1 := hw; go_simp; all_goals with_reducible rfl
              try simp only [Act.put, List.getElem_toArray, List.getElem_cons_zero, List.getElem_cons_succ, List.setIfInBounds_toArray, List.set_cons_zero, List.set_cons_succ]
              refine wpAnyH_take (i := 3) (v := ?_) rfl (by kernel_rfl) (by kernel_rfl) (by kernel_rfl) (fun _ _ _ h => h) (Or.inl ⟨by kernel_rfl, fun w' hw => ?_⟩) hS ?_
              rotate_left 1
              · have d1 := hw; go_simp; all_goals with_reducible rfl
              try simp only [Act.put, List.getElem_toArray, List.getElem_cons_zero, List.getElem_cons_succ, List.setIfInBounds_toArray, List.set_cons_zero, List.set_cons_succ]
              refine wpAnyH_take (i := 4) (v := ?_) rfl (by kernel_rfl) (by kernel_rfl) (by kernel_rfl) (fun _ _ _ h => h) (Or.inl ⟨by kernel_rfl, fun w' hw => ?_⟩) hS ?_
              rotate_left 1
              · have d1 := hw; go_simp; all_goals with_reducible rfl
              try simp only [Act.put, List.getElem_toArray, List.getElem_cons_zero, List.getElem_cons_succ, List.setIfInBounds_toArray, List.set_cons_zero, List.set_cons_succ]
              refine wpAnyH_take (i := 5) (v := ?_) rfl (by kernel_rfl) (by kernel_rfl) (by kernel_rfl) (fun _ _ _ h => h) (Or.inl ⟨by kernel_rfl, fun w' hw => ?_⟩) hS ?_
              rotate_left 1
              · have d1 := hw; go_simp; all_goals with_reducible rfl
              try simp only [Act.put, List.getElem_toArray, List.getElem_cons_zero, List.getElem_cons_succ, List.setIfInBounds_toArray, List.set_cons_zero, List.set_cons_succ]
              refine wpAnyH_take (i := 6) (v := ?_) rfl (by kernel_rfl) (by kernel_rfl) (by kernel_rfl) (fun _ _ _ h => h) (Or.inl ⟨by kernel_rfl, fun w' hw => ?_⟩) hS ?_
              rotate_left 1
              · have d1 := hw; go_simp; all_goals with_reducible rfl
              try simp only [Act.put, List.getElem_toArray, List.getElem_cons_zero, List.getElem_cons_succ, List.setIfInBounds_toArray, List.set_cons_zero, List.set_cons_succ]
              refine wpAnyH_take (i := 7) (v := ?_) rfl (by kernel_rfl) (by kernel_rfl) (by kernel_rfl) (fun _ _ _ h => h) (Or.inl ⟨by kernel_rfl, fun w' hw => ?_⟩) hS ?_
              rotate_left 1
              · have d1 := hw; go_simp; all_goals with_reducible rfl
              try simp only [Act.put, List.getElem_toArray, List.getElem_cons_zero, List.getElem_cons_succ, List.setIfInBounds_toArray, List.set_cons_zero, List.set_cons_succ]
              refine wpAnyH_take (i := 8) (v := ?_) rfl (by kernel_rfl) (by kernel_rfl) (by kernel_rfl) (fun _ _ _ h => h) (Or.inl ⟨by kernel_rfl, fun w' hw => ?_⟩) hS ?_
              rotate_left 1
              · have d1 := hw; go_simp; all_goals with_reducible rfl
              try simp only [Act.put, List.getElem_toArray, List.getElem_cons_zero, List.getElem_cons_succ, List.setIfInBounds_toArray, List.set_cons_zero, List.set_cons_succ]
              refine wpAnyH_ready (rs := [9, 10]) (by kernel_rfl) (by simp) ?_
              refine AllReadyH.cons rfl (fun K hK => ?_) (AllReadyH.cons rfl (fun K hK => ?_) AllReadyH.nil)
              · go_simp
                refine (hPo _).mono ?_
                rintro e w4 ⟨rfl, hB4⟩
                clear hPo
                have hB4' : Below wm.heap.size wm w4 := Below.trans (Below.drew (Below.refl _ _)) hB4
                have hx4 := (hB4'.cell (p := ⟨g, off + j, none⟩) hgm).trans y0
                go_wp2_with fail
                refine hK.out _ _ hx4 (fun hS => ?_)
                clear hK K
                try simp only [Act.put, List.getElem_toArray, List.getElem_cons_zero, List.getElem_cons_succ, List.setIfInBounds_toArray, List.set_cons_zero, List.set_cons_succ]
                refine wpAnyH_ready (rs := [10]) (by kernel_rfl) (by simp) ?_
                refine AllReadyH.cons rfl (fun K hK => ?_) AllReadyH.nil
                go_simp
                have hz := blk_new w4 (.cells #[.int .i64 0, .int .i64 0, .int .i64 0, .string ⟨#[]⟩] 38)
                have hB5 : Below wm.heap.size wm (w4.alloc (.cells #[.int .i64 0, .int .i64 0, .int .i64 0, .string ⟨#[]⟩] 38)) := hB4'.alloc hB4'.size _
                have hx5 := (hB5.cell (p := ⟨g, off + j, none⟩) hgm).trans y0
                refine hK.out _ _ hx5 (fun hS => ?_)
                clear hK K
                try simp only [Act.put, List.getElem_toArray, List.getElem_cons_zero, List.getElem_cons_succ, List.setIfInBounds_toArray, List.set_cons_zero, List.set_cons_succ]
                refine wpAnyH_ready (rs := [11]) (by kernel_rfl) (by simp) ?_
                refine AllReadyH.cons rfl (fun K hK => ?_) AllReadyH.nil
                rw [if_pos (by kernel_rfl)]
                generalize postZ z (z.tdiv 5) = p at *
                have hth : World.there (w4.alloc (.cells #[.int .i64 0, .int .i64 0, .int .i64 0, .string ⟨#[]⟩] 38)) w4.heap.size 0 4 := fun j hj => ⟨by rw [blk_cell hz, Nat.zero_add, Array.getElem?_eq_getElem (by exact hj)]; rfl, blk_free hz _⟩
                have hi4 : (Try.prog.info? 38).map (·.size) = some (#[.int .i64 p.c, .int .i64 p.q, .int .i64 p.h, .string p.t] : Array Value).size := by kernel_rfl
                have h14 : (#[.int .i64 p.c, .int .i64 p.q, .int .i64 p.h, .string p.t] : Array Value).all (·.oneCell') = true := by simp [Value.oneCell']
                refine wp_store_mid 38 (.tmp 13) (.tmp 86) rfl w4.heap.size 0 #[.int .i64 p.c, .int .i64 p.q, .int .i64 p.h, .string p.t] rfl rfl hth hi4 h14 ?_
                have hbb : (World.setCells (w4.alloc (.cells #[.int .i64 0, .int .i64 0, .int .i64 0, .string ⟨#[]⟩] 38)) w4.heap.size 0 (#[.int .i64 p.c, .int .i64 p.q, .int .i64 p.h, .string p.t] : Array Value).toList).heap[w4.heap.size]? = some (.cells #[.int .i64 p.c, .int .i64 p.q, .int .i64 p.h, .string p.t] 38 (0, 0)) := setCells_self w4.heap.size 38 (#[.int .i64 p.c, .int .i64 p.q, .int .i64 p.h, .string p.t] : Array Value).toList 0 _ _ hz (by simp)
                have hge : wm.heap.size ≤ w4.heap.size := hB4'.size
                have hB5' : Below wm.heap.size wm (World.setCells (w4.alloc (.cells #[.int .i64 0, .int .i64 0, .int .i64 0, .string ⟨#[]⟩] 38)) w4.heap.size 0 (#[.int .i64 p.c, .int .i64 p.q, .int .i64 p.h, .string p.t] : Array Value).toList) := Keeps.toBelow hB5 (Keeps.ofSets (P := fun k => k = w4.heap.size) w4.heap.size rfl _ _ _) (fun k hk => by omega) hB5.size
                have hx6 : (World.setCells (w4.alloc (.cells #[.int .i64 0, .int .i64 0, .int .i64 0, .string ⟨#[]⟩] 38)) w4.heap.size 0 (#[.int .i64 p.c, .int .i64 p.q, .int .i64 p.h, .string p.t] : Array Value).toList).cell? ⟨g, off + j, none⟩ = some (.int .i64 z) := (hB5'.cell (p := ⟨g, off + j, none⟩) hgm).trans y0
                refine hK.out _ _ hx6 (fun hS => ?_)
                clear hK K
                try simp only [Act.put, List.getElem_toArray, List.getElem_cons_zero, List.getElem_cons_succ, List.setIfInBounds_toArray, List.set_cons_zero, List.set_cons_succ]
                refine wpAnyH_done (by kernel_rfl) ?_ _
                go_wp2_with fail
                go_meet
                case rel => exact ⟨w4.heap.size, p, rfl, hbb, hge, hB5', hpr.out⟩
              · go_simp
                have hz : (wm.alloc (.cells #[.int .i64 0, .int .i64 0, .int .i64 0, .string ⟨#[]⟩] 38)).heap[wm.heap.size]? = some (.cells #[.int .i64 0, .int .i64 0, .int .i64 0, .string ⟨#[]⟩] 38 (0, 0)) := blk_new wm _
                have hB4' : Below wm.heap.size wm (wm.alloc (.cells #[.int .i64 0, .int .i64 0, .int .i64 0, .string ⟨#[]⟩] 38)) := (Below.refl _ _).alloc (Nat.le_refl _) _
                have hx4 := (hB4'.cell (p := ⟨g, off + j, none⟩) hgm).trans y0
                refine hK.out _ _ hx4 (fun hS => ?_)
                clear hK K
                try simp only [Act.put, List.getElem_toArray, List.getElem_cons_zero, List.getElem_cons_succ, List.setIfInBounds_toArray, List.set_cons_zero, List.set_cons_succ]
                refine wpAnyH_ready (rs := [9]) (by kernel_rfl) (by simp) ?_
                refine AllReadyH.cons rfl (fun K hK => ?_) AllReadyH.nil
                go_simp
                refine (hPo _).mono ?_
                rintro e w4 ⟨rfl, hB4⟩
                clear hPo
                have hB5 : Below wm.heap.size wm w4 := Below.trans hB4' ((Below.trans (Below.drew (Below.refl _ _)) hB4).mono hB4'.size)
                have hz5 := blk_below hB4 hz
                have hx5 := (hB5.cell (p := ⟨g, off + j, none⟩) hgm).trans y0
                go_wp2_with fail
                refine hK.out _ _ hx5 (fun hS => ?_)
                clear hK K
                try simp only [Act.put, List.getElem_toArray, List.getElem_cons_zero, List.getElem_cons_succ, List.setIfInBounds_toArray, List.set_cons_zero, List.set_cons_succ]
                refine wpAnyH_ready (rs := [11]) (by kernel_rfl) (by simp) ?_
                refine AllReadyH.cons rfl (fun K hK => ?_) AllReadyH.nil
                rw [if_pos (by kernel_rfl)]
                generalize postZ z (z.tdiv 5) = p at *
                have hth : World.there w4 wm.heap.size 0 4 := fun j hj => ⟨by rw [blk_cell hz5, Nat.zero_add, Array.getElem?_eq_getElem (by exact hj)]; rfl, blk_free hz5 _⟩
                have hi4 : (Try.prog.info? 38).map (·.size) = some (#[.int .i64 p.c, .int .i64 p.q, .int .i64 p.h, .string p.t] : Array Value).size := by kernel_rfl
                have h14 : (#[.int .i64 p.c, .int .i64 p.q, .int .i64 p.h, .string p.t] : Array Value).all (·.oneCell') = true := by simp [Value.oneCell']
                refine wp_store_mid 38 (.tmp 13) (.tmp 86) rfl wm.heap.size 0 #[.int .i64 p.c, .int .i64 p.q, .int .i64 p.h, .string p.t] rfl rfl hth hi4 h14 ?_
                have hbb : (World.setCells w4 wm.heap.size 0 (#[.int .i64 p.c, .int .i64 p.q, .int .i64 p.h, .string p.t] : Array Value).toList).heap[wm.heap.size]? = some (.cells #[.int .i64 p.c, .int .i64 p.q, .int .i64 p.h, .string p.t] 38 (0, 0)) := setCells_self wm.heap.size 38 (#[.int .i64 p.c, .int .i64 p.q, .int .i64 p.h, .string p.t] : Array Value).toList 0 _ _ hz5 (by simp)
                have hge : wm.heap.size ≤ wm.heap.size := Nat.le_refl _
                have hB5' : Below wm.heap.size wm (World.setCells w4 wm.heap.size 0 (#[.int .i64 p.c, .int .i64 p.q, .int .i64 p.h, .string p.t] : Array Value).toList) := Keeps.toBelow hB5 (Keeps.ofSets (P := fun k => k = wm.heap.size) wm.heap.size rfl _ _ _) (fun k hk => by omega) hB5.size
                have hx6 : (World.setCells w4 wm.heap.size 0 (#[.int .i64 p.c, .int .i64 p.q, .int .i64 p.h, .string p.t] : Array Value).toList).cell? ⟨g, off + j, none⟩ = some (.int .i64 z) := (hB5'.cell (p := ⟨g, off + j, none⟩) hgm).trans y0
                refine hK.out _ _ hx6 (fun hS => ?_)
                clear hK K
                try simp only [Act.put, List.getElem_toArray, List.getElem_cons_zero, List.getElem_cons_succ, List.setIfInBounds_toArray, List.set_cons_zero, List.set_cons_succ]
                refine wpAnyH_done (by kernel_rfl) ?_ _
                go_wp2_with fail
                go_meet
                case rel => exact ⟨wm.heap.size, p, rfl, hbb, hge, hB5', hpr.out⟩
            case rest =>
              obtain ⟨bb, p, rfl, hbb, hbbge, hB4, hpr⟩ := hcut
              obtain ⟨w4, rfl⟩ : ∃ w4 : World, w4 = wc := ⟨_, rfl⟩
              have hr4 := hr2.over hB4
              have hown4 := owns_below hw2 hB4
              have d0 : w4.cell? ⟨cb, 0, none⟩ = some (.pointer (some ⟨sb, 0, none⟩)) := (blk_cell hr4.chat.blk 0).trans rfl
              have hSub := submit_yes (hr4.chat.syn.below (Below.drew (Below.refl _ _))) (i := 0) (oneP _ _) p hpr (hr4.chat.good.bal hr4.chat.syn.ok (oneP _ _))
              rw [ai_subE hai2 hrl hpr] at hSub
              have hgood := mvs_good hr4.chat.good hr4.chat.syn.ok (.sub (one r2 []) [] 0 p (oneP _ _) hpr)
              obtain ⟨r3, hst, hai3⟩ : ∃ r3, Sy.settle 20000 ((one r2 []).submit 0 p) = one r3 [] ∧ AI r3 (if aloE want p = 0 then want ++ [p] else want) := by
                by_cases hE : aloE want p = 0
                · rw [if_pos hE]
                  exact ⟨_, ai_sub hai2 hrl hpr hE⟩
                · rw [if_neg hE]
                  exact ⟨_, ai_not hai2 hrl hpr hE, hai2⟩
              have hssn : ((one r2 []).submit 0 p).n = (one r2 []).n := submit_n _ _ _
              have hn8 : (one r3 []).n = ((one r2 []).submit 0 p).n := by rw [submit_n]; rfl
              have hem : (one r3 []).net.isEmpty = true := rfl
              generalize (one r2 []).submit 0 p = ss at *
              obtain ⟨E, hE⟩ : ∃ E, E = aloE want p := ⟨_, rfl⟩
              rw [← hE] at hSub hai3
              have HE : Hid (E = aloE want p) := hE
              clear hE hr2 hw2 y0
              go_wp2_with fail
              refine wp_region_held_drew (S := fun w' => w'.heap[bb]? = some (.cells #[.int .i64 p.c, .int .i64 p.q, .int .i64 p.h, .string p.t] 38 (0, 0)) ∧ w'.cell? ⟨cb, 0, none⟩ = some (.pointer (some ⟨sb, 0, none⟩))) (by kernel_rfl) (⟨hbb, d0⟩) (fun hS => ?_)
              refine wpAnyH_take (i := 0) (v := ?_) rfl (by kernel_rfl) (by kernel_rfl) (by kernel_rfl) (fun _ _ _ h => h) (Or.inl ⟨by kernel_rfl, fun w' hw => ?_⟩) hS ?_
              rotate_left 1
              · have d1 := blk_cell hw.1; have d2 := hw.2; go_simp; all_goals with_reducible rfl
              try simp only [Act.put, List.getElem_toArray, List.getElem_cons_zero, List.getElem_cons_succ, List.setIfInBounds_toArray, List.set_cons_zero, List.set_cons_succ]
              refine wpAnyH_take (i := 1) (v := ?_) rfl (by kernel_rfl) (by kernel_rfl) (by kernel_rfl) (fun _ _ _ h => h) (Or.inl ⟨by kernel_rfl, fun w' hw => ?_⟩) hS ?_
              rotate_left 1
              · have d1 := blk_cell hw.1; have d2 := hw.2; go_simp; all_goals with_reducible rfl
              try simp only [Act.put, List.getElem_toArray, List.getElem_cons_zero, List.getElem_cons_succ, List.setIfInBounds_toArray, List.set_cons_zero, List.set_cons_succ]
              refine wpAnyH_take (i := 2) (v := ?_) rfl (by kernel_rfl) (by kernel_rfl) (by kernel_rfl) (fun _ _ _ h => h) (Or.inl ⟨by kernel_rfl, fun w' hw => ?_⟩) hS ?_
              rotate_left 1
              · have d1 := blk_cell hw.1; have d2 := hw.2; go_simp; all_goals with_reducible rfl
              try simp only [Act.put, List.getElem_toArray, List.getElem_cons_zero, List.getElem_cons_succ, List.setIfInBounds_toArray, List.set_cons_zero, List.set_cons_succ]
              refine wpAnyH_take (i := 3) (v := ?_) rfl (by kernel_rfl) (by kernel_rfl) (by kernel_rfl) (fun _ _ _ h => h) (Or.inl ⟨by kernel_rfl, fun w' hw => ?_⟩) hS ?_
              rotate_left 1
              · have d1 := blk_cell hw.1; have d2 := hw.2; go_simp; all_goals with_reducible rfl
              try simp only [Act.put, List.getElem_toArray, List.getElem_cons_zero, List.getElem_cons_succ, List.setIfInBounds_toArray, List.set_cons_zero, List.set_cons_succ]
              refine wpAnyH_take (i := 4) (v := ?_) rfl (by kernel_rfl) (by kernel_rfl) (by kernel_rfl) (fun _ _ _ h => h) (Or.inl ⟨by kernel_rfl, fun w' hw => ?_⟩) hS ?_
              rotate_left 1
              · have d1 := blk_cell hw.1; have d2 := hw.2; go_simp; all_goals with_reducible rfl
              try simp only [Act.put, List.getElem_toArray, List.getElem_cons_zero, List.getElem_cons_succ, List.setIfInBounds_toArray, List.set_cons_zero, List.set_cons_succ]
              refine wpAnyH_ready (rs := [5]) (by kernel_rfl) (by simp) ?_
              refine AllReadyH.cons rfl (fun K hK => ?_) AllReadyH.nil
              go_simp
              refine hSub.mono ?_
              rintro e w7 ⟨rfl, hto7⟩
              clear hSub
              have hbb7 : w7.heap[bb]? = some (.cells #[.int .i64 p.c, .int .i64 p.q, .int .i64 p.h, .string p.t] 38 (0, 0)) := blk_syn (hr4.chat.syn.below (Below.drew (Below.refl _ _))) hbb hto7 hssn
              have hown7 := owns_syn (hr4.chat.syn.below (Below.drew (Below.refl _ _))) (owns_below hown4 (Below.drew (Below.refl _ _))) hto7 hssn
              obtain ⟨L7, hr7⟩ := (hr4.over (Below.drew (Below.refl _ _))).to hto7 hgood.nil hssn
              have d7 : w7.cell? ⟨cb, 0, none⟩ = some (.pointer (some ⟨sb, 0, none⟩)) := (blk_cell hr7.chat.blk 0).trans rfl
              clear hto7
              go_wp2_with fail
              refine hK.out _ _ ⟨hbb7, d7⟩ (fun hS => ?_)
              clear hK K
              try simp only [Act.put, List.getElem_toArray, List.getElem_cons_zero, List.getElem_cons_succ, List.setIfInBounds_toArray, List.set_cons_zero, List.set_cons_succ]
              refine wpAnyH_ready (rs := [6]) (by kernel_rfl) (by simp) ?_
              refine AllReadyH.cons rfl (fun K hK => ?_) AllReadyH.nil
              go_simp
              refine hK.out _ _ ⟨hbb7, d7⟩ (fun hS => ?_)
              clear hK K
              try simp only [Act.put, List.getElem_toArray, List.getElem_cons_zero, List.getElem_cons_succ, List.setIfInBounds_toArray, List.set_cons_zero, List.set_cons_succ]
              refine wpAnyH_done (by kernel_rfl) ?_ _
              have hCa := calm_any hr7.chat
              rw [hst] at hCa
              rw [hem] at hCa
              go_wp2_with fail
              refine hCa.mono ?_
              rintro e w8 ⟨rfl, hm8, hto8⟩
              clear hCa
              obtain ⟨L8, hr8⟩ := hr7.to hto8 (goods hr7.chat.good hm8) hn8
              have hown8 := owns_syn hr7.chat.syn hown7 hto8 hn8
              have hbb8 := blk_syn hr7.chat.syn hbb7 hto8 hn8
              clear hm8 hto8 hr7 hown7 hbb7 d7 d0 hn8 hst hgood hai2 hown4 hr4 hB4 hbb
              have hPw : PsAt (fun _ => False) w8 (.slice va want.length vc) want := psAt_owns hown8 (by omega) (fun _ _ h => h)
              obtain ⟨va', vc', hve, hfw⟩ := hPw.form
              injection hve with e1 _ e3
              subst e1 e3
              go_wp2_with fail
              go_loopw [16, 17] (fun t k wx => ∃ (q : Nat) (b : Bool), q ≤ want.length ∧ k = .int .i64 q ∧ t = .bool b ∧ b = (want.take q).any (fun x => sameB x p) ∧ Below w8.heap.size w8 wx) (fun _ k _ => want.length - (intOf k).toNat)
              case atStart => exact ⟨0, false, Nat.zero_le _, rfl, rfl, rfl, Below.refl _ _⟩
              case round =>
                obtain ⟨q, t, hq, rfl, rfl, ht, hBq⟩ := hrel
                have Ht : Hid (t = (want.take q).any (fun x => sameB x p)) := ht
                clear ht
                have hbq := blk_below hBq hbb8
                by_cases hqn : q < want.length
                · obtain ⟨g2, rfl, hg2, _, hcc⟩ := hfw (by intro e; rw [e] at hqn; simp at hqn)
                  have r0 : (0 : Int) ≤ (q : Int) := by omega
                  have r1' : (q : Int) < (want.length : Int) := by omega
                  have kd := fun k hk => (hBq.cell (p := ⟨g2, q * 4 + k, none⟩) hg2).trans (hcc q hqn k hk)
                  have xd : want[q]? = some want[q] := List.getElem?_eq_getElem hqn
                  generalize want[q] = d at *
                  obtain ⟨dc, dq, dh, dt⟩ := d
                  have c0 : wr.cell? ⟨g2, q * 4, none⟩ = some (.int .i64 dc) := kd 0 (by decide)
                  have c1 : wr.cell? ⟨g2, q * 4 + 1, none⟩ = some (.int .i64 dq) := kd 1 (by decide)
                  have b0 : wr.cell? ⟨bb, 0, none⟩ = some (.int .i64 p.c) := (blk_cell hbq 0).trans rfl
                  have b1 : wr.cell? ⟨bb, 1, none⟩ = some (.int .i64 p.q) := (blk_cell hbq 1).trans rfl
                  have Hn : Hid ((want.take (q + 1)).any (fun x => sameB x p) = ((want.take q).any (fun x => sameB x p) || sameB ⟨dc, dq, dh, dt⟩ p)) := any_next xd
                  clear kd xd hfw
                  cases t with
                  | true =>
                    have Hf : Hid (true = (want.take (q + 1)).any (fun x => sameB x p)) := by show _ = _; rw [Hn.out, ← Ht.out]; rfl
                    go_wp2_with fail
                    go_quiet (fail)
                    go_wp2_with fail
                    go_roundw
                    case rel =>
                      first
                      | exact ⟨q + 1, true, by omega, by go_num, rfl, Hf.out, below_drewN hBq _⟩
                      | ((repeat apply Exists.intro); exact ⟨⟨q + 1, true, by omega, by go_num, rfl, Hf.out, below_drewN hBq _⟩, rfl⟩)
                    case measure => simp [intOf]; omega
                  | false =>
                    by_cases e1 : dc = p.c
                    · have m1 : (dc == p.c) = true := by simpa using e1
                      by_cases e2 : dq = p.q
                      · have m2 : (dq == p.q) = true := by simpa using e2
                        have Hf : Hid (true = (want.take (q + 1)).any (fun x => sameB x p)) := by show _ = _; rw [Hn.out, ← Ht.out]; simp [sameB, e1, e2]
                        go_wp2_with fail
                        go_quiet (fail)
                        go_wp2_with fail
                        go_roundw
                        case rel =>
                          first
                          | exact ⟨q + 1, true, by omega, by go_num, rfl, Hf.out, below_drewN hBq _⟩
                          | ((repeat apply Exists.intro); exact ⟨⟨q + 1, true, by omega, by go_num, rfl, Hf.out, below_drewN hBq _⟩, rfl⟩)
                        case measure => simp [intOf]; omega
                      · have m2 : (dq == p.q) = false := by simpa using e2
                        have Hf : Hid (false = (want.take (q + 1)).any (fun x => sameB x p)) := by show _ = _; rw [Hn.out, ← Ht.out]; simp [sameB, e1, e2]
                        go_wp2_with fail
                        go_quiet (fail)
                        go_wp2_with fail
                        go_roundw
                        case rel =>
                          first
                          | exact ⟨q + 1, false, by omega, by go_num, rfl, Hf.out, below_drewN hBq _⟩
                          | ((repeat apply Exists.intro); exact ⟨⟨q + 1, false, by omega, by go_num, rfl, Hf.out, below_drewN hBq _⟩, rfl⟩)
                        case measure => simp [intOf]; omega
                    · have m1 : (dc == p.c) = false := by simpa using e1
                      have Hf : Hid (false = (want.take (q + 1)).any (fun x => sameB x p)) := by show _ = _; rw [Hn.out, ← Ht.out]; simp [sameB, e1]
                      go_wp2_with fail
                      go_quiet (fail)
                      go_wp2_with fail
                      go_roundw
                      case rel =>
                        first
                        | exact ⟨q + 1, false, by omega, by go_num, rfl, Hf.out, below_drewN hBq _⟩
                        | ((repeat apply Exists.intro); exact ⟨⟨q + 1, false, by omega, by go_num, rfl, Hf.out, below_drewN hBq _⟩, rfl⟩)
                      case measure => simp [intOf]; omega
                · obtain rfl : q = want.length := by omega
                  have ht := Ht.out
                  rw [List.take_length] at ht
                  have hrA := hr8.over hBq
                  have hownA := owns_below hown8 hBq
                  clear hr8 hown8 hbb8 hBq hPw hfw Ht
                  have HW : Hid (∀ u ∈ [Value.int .i64 p.c, .int .i64 p.q, .int .i64 p.h, .string p.t], u.oneCell' = true) := by
                    intro u hu; simp at hu; rcases hu with rfl | rfl | rfl | rfl <;> rfl
                  cases t with
                  | true =>
                    obtain rfl : E = 4 := by rw [HE.out]; unfold aloE; rw [if_pos ht.symm]
                    rw [if_neg (by decide)] at hai3
                    clear ht HE hbq
                    have hlog : logOf ((one r3 []).rep 0).dec = want := by rw [one_rep, hai3.dec, dsOf_log]
                    have hLo := log_yes hrA.chat.syn (i := 0) (oneP _ _)
                    rw [hlog] at hLo
                    have hl16 := hai3.le
                    have dA : wr.cell? ⟨cb, 0, none⟩ = some (.pointer (some ⟨sb, 0, none⟩)) := (blk_cell hrA.chat.blk 0).trans rfl
                    go_wp2_with fail
                    refine hLo.mono ?_
                    rintro e w6 ⟨v6, rfl, hown6, hB6⟩
                    clear hLo dA
                    have hP6 : PsAt (fun _ => False) w6 v6 (want) := psAt_owns hown6 (by omega) (fun _ _ h => h)
                    have hownB := owns_below hownA hB6
                    have hP7 : PsAt (fun _ => False) w6 (.slice va want.length vc) (want) := psAt_owns hownB (by omega) (fun _ _ h => h)
                    have hb1 := begun_any hP6 hP7
                    go_wp2_with fail
                    refine hb1.mono ?_
                    rintro e w8' ⟨r1', rfl, hr1', hB8⟩
                    clear hb1
                    obtain rfl : r1' = true := hr1'.2 (List.prefix_refl _)
                    have hb2 := begun_any (hP7.keeps (Keeps.ofBelow (P := fun _ => False) hB8) (fun _ h => h.elim)) (hP6.keeps (Keeps.ofBelow (P := fun _ => False) hB8) (fun _ h => h.elim))
                    clear hr1'
                    go_wp2_with fail
                    refine hb2.mono ?_
                    rintro e w9' ⟨r1', rfl, hr1', hB9⟩
                    clear hb2
                    obtain rfl : r1' = true := hr1'.2 (List.prefix_refl _)
                    clear hr1'
                    have hr9 := ((hrA.over hB6).over hB8).over hB9
                    have hown9' := owns_below (owns_below hownB hB8) hB9
                    go_wp2_with fail
                    go_roundw
                    case rel =>
                      first
                      | exact ⟨j + 1, r3, want, _, by omega, by go_num, hr9, hai3, hown9'⟩
                      | ((repeat apply Exists.intro); exact ⟨⟨j + 1, r3, want, _, by omega, by go_num, hr9, hai3, hown9'⟩, rfl⟩)
                    case measure => simp [intOf]; omega
                  | false =>
                    have hany : ¬ want.any (fun x => sameB x p) = true := by rw [← ht]; decide
                    by_cases h16 : want.length = 16
                    · obtain rfl : E = 5 := by rw [HE.out]; unfold aloE; rw [if_neg hany, if_pos h16]
                      rw [if_neg (by decide)] at hai3
                      have m16 : ((want.length : Int) == 16) = true := by simp; omega
                      have Hj : Hid (want.length = 16) := h16
                      clear ht HE hbq h16 hany
                      have hlog : logOf ((one r3 []).rep 0).dec = want := by rw [one_rep, hai3.dec, dsOf_log]
                      have hLo := log_yes hrA.chat.syn (i := 0) (oneP _ _)
                      rw [hlog] at hLo
                      have hl16 := hai3.le
                      have dA : wr.cell? ⟨cb, 0, none⟩ = some (.pointer (some ⟨sb, 0, none⟩)) := (blk_cell hrA.chat.blk 0).trans rfl
                      go_wp2_with fail
                      refine hLo.mono ?_
                      rintro e w6 ⟨v6, rfl, hown6, hB6⟩
                      clear hLo dA
                      have hP6 : PsAt (fun _ => False) w6 v6 (want) := psAt_owns hown6 (by omega) (fun _ _ h => h)
                      have hownB := owns_below hownA hB6
                      have hP7 : PsAt (fun _ => False) w6 (.slice va want.length vc) (want) := psAt_owns hownB (by omega) (fun _ _ h => h)
                      have hb1 := begun_any hP6 hP7
                      go_wp2_with fail
                      refine hb1.mono ?_
                      rintro e w8' ⟨r1', rfl, hr1', hB8⟩
                      clear hb1
                      obtain rfl : r1' = true := hr1'.2 (List.prefix_refl _)
                      have hb2 := begun_any (hP7.keeps (Keeps.ofBelow (P := fun _ => False) hB8) (fun _ h => h.elim)) (hP6.keeps (Keeps.ofBelow (P := fun _ => False) hB8) (fun _ h => h.elim))
                      clear hr1'
                      go_wp2_with fail
                      refine hb2.mono ?_
                      rintro e w9' ⟨r1', rfl, hr1', hB9⟩
                      clear hb2
                      obtain rfl : r1' = true := hr1'.2 (List.prefix_refl _)
                      clear hr1'
                      have hr9 := ((hrA.over hB6).over hB8).over hB9
                      have hown9' := owns_below (owns_below hownB hB8) hB9
                      go_wp2_with fail
                      go_roundw
                      case rel =>
                        first
                        | exact ⟨j + 1, r3, want, _, by omega, by go_num, hr9, hai3, hown9'⟩
                        | ((repeat apply Exists.intro); exact ⟨⟨j + 1, r3, want, _, by omega, by go_num, hr9, hai3, hown9'⟩, rfl⟩)
                      case measure => simp [intOf]; omega
                    · obtain rfl : E = 0 := by rw [HE.out]; unfold aloE; rw [if_neg hany, if_neg h16]
                      rw [if_pos rfl] at hai3
                      have m16 : ((want.length : Int) == 16) = false := by simp; omega
                      have hbd : want.length + 1 ≤ maxLen ∧ (want.length + 1) * 40 ≤ 140737488355328 := ⟨by unfold maxLen; omega, by omega⟩
                      have hbc := blk_cell hbq
                      have hz := hrA.below.size
                      clear ht HE h16 hany
                      have h1c := HW.out
                      go_wp2_with (at_builtin; refine wpList_append_lies _ rfl (.tmp 124) (.tmp 126) 25 rfl w.heap.size 38 i0 _ 4 40 Try.underlying25 hi hz0 hz1 hz2 rfl (by decide) (.slice va want.length vc) want.length (pcells want) rfl (owns_alloc hownA _) _ 1 1 [.int .i64 p.c, .int .i64 p.q, .int .i64 p.h, .string p.t] rfl rfl (news_new _ _ (by simp) _ _) h1c (by decide) hbd.1 hbd.2 (by simp; omega) _ rfl ?_; intro g2 cap2 w9 hown9 hgr9 hat9 hlt9; obtain ⟨hrB, hownB'⟩ : Run w w9 cb sb L8 (one r3 []) (.slice none 0 0) (.slice (some ⟨lb, 0, none⟩) 1 1) [] ∧ w9.ownsRow w.heap.size 38 4 (.slice (some ⟨g2, 0, none⟩) (want.length + 1) cap2) (want ++ [p]).length (pcells (want ++ [p])) := ⟨(hrA.over ((Below.refl _ _).alloc (Nat.le_refl _) _)).grown (owns_alloc hownA _) (Nat.le_refl _) hgr9, by rw [pcells_append, List.length_append]; simpa [pcells, Pst.cells] using hown9⟩; clear hown9 hgr9 hat9 hlt9 hbc hbq hrA hownA; have dA : w9.cell? ⟨cb, 0, none⟩ = some (.pointer (some ⟨sb, 0, none⟩)) := (blk_cell hrB.chat.blk 0).trans rfl)
                      have hrA := hrB
                      have hownA := hownB'
                      clear hrB hownB'
                      have hlog : logOf ((one r3 []).rep 0).dec = (want ++ [p]) := by rw [one_rep, hai3.dec, dsOf_log]
                      have hLo := log_yes hrA.chat.syn (i := 0) (oneP _ _)
                      rw [hlog] at hLo
                      have hl16 := hai3.le
                      refine hLo.mono ?_
                      rintro e w6 ⟨v6, rfl, hown6, hB6⟩
                      clear hLo dA
                      have hP6 : PsAt (fun _ => False) w6 v6 ((want ++ [p])) := psAt_owns hown6 (by omega) (fun _ _ h => h)
                      have hownB := owns_below hownA hB6
                      have hP7 : PsAt (fun _ => False) w6 (.slice (some ⟨g2, 0, none⟩) (want.length + 1) cap2) ((want ++ [p])) := psAt_owns hownB (by omega) (fun _ _ h => h)
                      have hb1 := begun_any hP6 hP7
                      go_wp2_with fail
                      refine hb1.mono ?_
                      rintro e w8' ⟨r1', rfl, hr1', hB8⟩
                      clear hb1
                      obtain rfl : r1' = true := hr1'.2 (List.prefix_refl _)
                      have hb2 := begun_any (hP7.keeps (Keeps.ofBelow (P := fun _ => False) hB8) (fun _ h => h.elim)) (hP6.keeps (Keeps.ofBelow (P := fun _ => False) hB8) (fun _ h => h.elim))
                      clear hr1'
                      go_wp2_with fail
                      refine hb2.mono ?_
                      rintro e w9' ⟨r1', rfl, hr1', hB9⟩
                      clear hb2
                      obtain rfl : r1' = true := hr1'.2 (List.prefix_refl _)
                      clear hr1'
                      have hr9 := ((hrA.over hB6).over hB8).over hB9
                      have hown9' := owns_below (owns_below hownB hB8) hB9
                      go_wp2_with fail
                      go_roundw
                      case rel =>
                        first
                        | exact ⟨j + 1, r3, (want ++ [p]), _, by omega, by go_num, hr9, hai3, hown9'⟩
                        | ((repeat apply Exists.intro); exact ⟨⟨j + 1, r3, (want ++ [p]), _, by omega, by go_num, hr9, hai3, hown9'⟩, rfl⟩)
                      case measure => simp [intOf]; omega
    · obtain rfl : j = pl.length := by omega
      go_wp2_with fail
      go_ret
      exact ⟨rfl, hr.below⟩
end Go.Proofs.Ytnnhnekfokbooaa
