/- The walk of Agreed (laid by mkagrd.py). -/
import Derived.Test.YtnnhnekfokbooaaAgrC
import Derived.Test.YtnnhnekfokbooaaKeeB
import Derived.Test.YtnnhnekfokbooaaKeeC
namespace Go.Proofs.Ytnnhnekfokbooaa
open Go.RowKit
set_option linter.unusedSimpArgs false
set_option linter.unusedVariables false

set_option maxHeartbeats 4000000 in
set_option maxRecDepth 100000 in
theorem agreed_any (raw : Int) (hraw : I64 raw) (sv : Value) (script : List St3) (w : World) (hs : StAt w sv script) :
    Calls Try.prog 4 #[.int .i64 raw, sv] w fun e w' => e = .returned (.bool true) ∧ Below w.heap.size w w' := by
  have hBg := begins_any raw hraw w
  obtain ⟨sa, sc, rfl, hsf⟩ := hs.form
  have hslen := hs.len
  go_enter Try.func4, Try.ntmps4
  go_wp2_with fail
  refine hBg.mono ?_
  rintro e w1 ⟨cb, sb, L, n, lb, rfl, hn, hc, hown, hlb, hlbn, hB1⟩
  clear hBg hn
  have hn7 : n ≤ 7 := hc.syn.ok.n1
  have hrun : Run w w1 cb sb L (newSy n) (.slice none 0 0) (.slice (some ⟨lb, 0, none⟩) n n) [] := ⟨hc, hown, hB1⟩
  have hlbno : ¬ cOwn cb sb L n (.slice none 0 0) lb := fun ho => by
    rcases ho with e | ho | ho
    · have hb := hc.blk
      rw [← e, hlb] at hb; injection hb with e1; injection e1 with _ e1; simp at e1
    · exact hc.syn.not_own hlb (by unfold ownT; decide) ho
    · cases ho
  have hlg : LgAt (fun k => cOwn cb sb L n (.slice none 0 0) k ∨ k = lb) w1 lb n (List.replicate n (.slice none 0 0)) (fun _ => []) := ⟨hlb, by simp, fun k hk => by
    rw [List.getD_eq_getElem?_getD, List.getElem?_replicate, if_pos hk]
    exact PsAt.nil _ _⟩
  have hso := newSy_sound n hn7
  clear hc hown hlb hB1
  go_wp2_with fail
  go_loopw [6] (fun i wr => ∃ (j : Nat) (s : Sy) (ps : List Pst) (L : Lay) (pv : Value) (vs : List Value) (ls : Nat → List Pst), j ≤ script.length ∧ i = .int .i64 j ∧ Run w wr cb sb L s pv (.slice (some ⟨lb, 0, none⟩) n n) ps ∧ s.n = n ∧ ¬ cOwn cb sb L n pv lb ∧ LgAt (fun k => cOwn cb sb L n pv k ∨ k = lb) wr lb n vs ls ∧ (∀ k, k < n → ls k <+: logOf (s.rep k).dec) ∧ Sound s) (fun i _ => script.length - (intOf i).toNat)
  case atStart => exact ⟨0, newSy n, [], L, .slice none 0 0, _, _, Nat.zero_le _, rfl, hrun, rfl, hlbno, hlg, fun _ _ => List.nil_prefix, hso⟩
  case round =>
    obtain ⟨j, s, ps, L1, pv, vs, ls, hj, rfl, hr, hsn, hno, hl, hpre, hso⟩ := hrel
    by_cases hjn : j < script.length
    · obtain ⟨g, off, rfl, hg, hcells⟩ := hsf (by intro e; rw [e] at hjn; simp at hjn)
      obtain ⟨x0, x1, x2⟩ := hcells j hjn
      have hnum := hs.nums script[j] (List.getElem_mem hjn)
      generalize script[j] = x at *
      obtain ⟨xk, xa, xb⟩ := x
      have y0 := (hr.below.cell (p := ⟨g, off + j * 3, none⟩) hg).trans x0
      have y1 := (hr.below.cell (p := ⟨g, off + j * 3 + 1, none⟩) hg).trans x1
      have y2 := (hr.below.cell (p := ⟨g, off + j * 3 + 2, none⟩) hg).trans x2
      have q0 : (0 : Int) ≤ (j : Int) := by omega
      have q1 : (j : Int) < (script.length : Int) := by omega
      have hST := step_syn hr.chat xk xa xb hnum.2.1 hnum.2.2
      clear x0 x1 x2 hcells
      go_wp2_with fail
      refine hST.mono ?_
      rintro e w3 ⟨rfl, s3, ps3, hmv, hto⟩
      clear hST y0 y1 y2
      obtain ⟨L3, pv3, hr3, hn3, ho3, hk3⟩ := hr.next hto
      have hn3' : s3.n = n := hn3.trans hsn
      have hso3 := mvs_sound hso hmv
      have hgr := (mvs_log hmv).2
      have hlbl := lt_of_block hl.blk
      rw [hsn] at ho3 hk3 hgr
      have hno3 : ¬ cOwn cb sb L3 n pv3 lb := fun ho => by
        rcases ho3 lb ho with h9 | h9
        · exact hno h9
        · omega
      have hl3 : LgAt (fun k => cOwn cb sb L3 n pv3 k ∨ k = lb) w3 lb n vs ls := by
        refine ⟨blk_keeps hk3 hl.blk hno, hl.len, fun k hk => ?_⟩
        refine ((hl.row k hk).mono (own' := fun k => cOwn cb sb L1 n pv k ∨ cOwn cb sb L3 n pv3 k ∨ k = lb) ?_).keeps hk3 (fun g h9 => .inl h9) |>.mono (fun g _ h9 => .inr h9)
        intro g hg h9
        rcases h9 with h9 | h9 | h9
        · exact .inl h9
        · rcases ho3 g h9 with h9 | h9
          · exact .inl h9
          · omega
        · exact .inr h9
      have hpre3 : ∀ k, k < n → ls k <+: logOf (s3.rep k).dec := fun k hk => List.IsPrefix.trans (hpre k hk) (hgr k hk)
      have hAg := agrees_any hr3 hn3' hlbn (by rw [hn3']; exact hno3) hl3 hpre3 hso3
      clear hmv hto ho3 hk3 hgr hpre3 hl3 hso hl hpre
      go_wp2_with fail
      refine hAg.mono ?_
      rintro e w5 ⟨rfl, hr5, vs5, hl5⟩
      clear hAg
      go_wp2_with fail
      go_roundw
      case rel => exact ⟨j + 1, s3, ps3, L3, pv3, vs5, _, by omega, by go_num, hr5, hn3', hno3, hl5, fun _ _ => List.prefix_refl _, hso3⟩
      case measure => simp [intOf]; omega
    · obtain rfl : j = script.length := by omega
      go_wp2_with fail
      go_ret
      exact ⟨rfl, hr.below⟩
end Go.Proofs.Ytnnhnekfokbooaa
