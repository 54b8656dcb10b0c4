/- RnS, LawH -/
import Derived.Test.YtnnhnekfokbooaaGreatDoorAl32
import Derived.Test.YtnnhnekfokbooaaGreatDoorAl26
import Derived.Test.YtnnhnekfokbooaaGreatDoorAl31
set_option linter.unusedSimpArgs false
set_option linter.unusedVariables false
set_option maxRecDepth 100000
namespace Go.Proofs.YtnnhnekfokbooaaGreatDoor
section
open Go.RowKit
def newTo (l : List Pst) (p : Pst) (j : Nat) : Bool := (l.take j).all (fun d => d.c != p.c || d.q != p.q)
theorem newTo_succ (l : List Pst) (p : Pst) (j : Nat) (hj : j < l.length) : newTo l p (j + 1) = (newTo l p j && (l[j].c != p.c || l[j].q != p.q)) := by
 unfold newTo
 rw [List.take_add_one, List.getElem?_eq_getElem hj, List.all_append]
 simp
theorem inChatR_of (ch : Int) (l : List Pst) (k : Nat) (p : Pst) : inChatR ch l k p = (newTo l p k && p.c != 0 && p.h == ch) := rfl
theorem logR_le {r : Rr} (h : r.sl.length = 16) : (logR r).length ≤ 16 := by
 unfold logR
 rw [List.length_map]
 have := (List.takeWhile_prefix (p := fun y : Sl => y.is) (l := r.sl)).length_le
 omega
section
variable {w : World} {qb Rb : Nat} {v : Value} {x : Qs}
set_option maxHeartbeats 4000000 in
theorem rchatQ_yes (h : QAt w qb Rb v x) {i : Nat} (hi : i < x.R.length) (ch : Int) (h0 : 0 ≤ ch) (h1 : ch < 4) (hval : ∀ p ∈ logR (x.rep i), valP p) :
  Calls Tryz.prog 32 #[P6 qb, I6 (i : Int), I6 ch] w fun e w' => ∃ v', e = .returned (.tuple #[v', I6 0]) ∧ w'.ownsRow w.heap.size 33 4 v' (chatTo ch (logR (x.rep i)) (logR (x.rep i)).length).length (pcells (chatTo ch (logR (x.rep i)) (logR (x.rep i)).length)) ∧ Below w.heap.size w w' := by
 obtain ⟨i0, hi0, hz0, hz1, hz2⟩ := info_parts Tryz.infoPost
 have hLo := rlog_yes h hi
 have hll : (logR (x.rep i)).length ≤ 16 := logR_le (h.reps.2.rep hi).len
 have Hval : Hid (∀ p ∈ logR (x.rep i), valP p) := hval
 clear hval
 generalize logR (x.rep i) = l at *
 have n0 : decide (ch < 0) = false := by simp; omega
 have n1 : decide (4 ≤ ch) = false := by simp; omega
 go_enter Tryz.func32, Tryz.ntmps32
 go_wp2_with fail
 refine hLo.mono ?_
 rintro e w1 ⟨v1, rfl, hown1, hB1⟩
 clear hLo
 have hp1 : PsAt (fun _ => False) w1 v1 l := psAt_owns hown1 (by omega) (fun _ _ h => h)
 obtain ⟨a1, c1, rfl, hf1⟩ := hp1.form
 clear hp1
 go_wp2_with fail
 go_loopw [10, 11] (fun ov kv wr => ∃ (k : Nat) (M : List Pst), k ≤ l.length ∧ kv = I6 k ∧ M = chatTo ch l k ∧ wr.ownsRow w1.heap.size 33 4 ov M.length (pcells M) ∧ Below w1.heap.size w1 wr) (fun _ kv _ => l.length - (intOf kv).toNat)
 case atStart => exact ⟨0, [], Nat.zero_le _, rfl, rfl, World.ownsRow_nil _ _ _ _, Below.refl _ _⟩
 case round =>
  obtain ⟨k, M, hk, rfl, hM, hown, hB⟩ := hrel
  have HM : Hid (M = chatTo ch l k) := hM
  have hMl : M.length ≤ 16 := by rw [hM]; have := chatTo_len ch l k; omega
  clear hM
  obtain ⟨va, vc, hve, _⟩ := (owns_row hown).form
  subst hve
  have hz := hB.size
  by_cases hkn : k < l.length
  ·obtain ⟨g, rfl, hg, _, hcs⟩ := hf1 (fun e => by rw [e] at hkn; simp at hkn)
   have hcr : Hid (∀ j (hj : j < l.length), ∀ o, o < 4 → ∀ W, Below w1.heap.size w1 W → W.cell? (A6 g (j * 4 + o)) = l[j].cells[o]?) := fun j hj o ho W hW => by
    rw [hW.cell (p := (A6 g (j * 4 + o))) hg]; exact hcs j hj o ho
   have q0 : (0 : Int) ≤ (k : Int) := by omega
   have q1 : (k : Int) < (l.length : Int) := by omega
   have Hp : Hid (valP l[k]) := Hval.out _ (List.getElem_mem hkn)
   have HG : Hid (l[k]? = some l[k]) := List.getElem?_eq_getElem hkn
   have kk : Hid (∀ W, Below w1.heap.size w1 W → W.cell? (A6 g (k * 4)) = some (I6 l[k].c) ∧ W.cell? (A6 g (k * 4 + 1)) = some (I6 l[k].q) ∧ W.cell? (A6 g (k * 4 + 2)) = some (I6 l[k].h) ∧ W.cell? (A6 g (k * 4 + 3)) = some (.string l[k].t)) := fun W hW => ⟨hcr.out k hkn 0 (by decide) W hW, hcr.out k hkn 1 (by decide) W hW, hcr.out k hkn 2 (by decide) W hW, hcr.out k hkn 3 (by decide) W hW⟩
   generalize l[k] = p at *
   clear hf1 hcs
   go_wp2_with fail
   go_loopw [12, 13] (fun fv jv wj => ∃ (j : Nat) (b : Bool), j ≤ k ∧ jv = I6 j ∧ fv = .bool b ∧ b = newTo l p j ∧ wj.ownsRow w1.heap.size 33 4 (.slice va M.length vc) M.length (pcells M) ∧ Below w1.heap.size w1 wj) (fun _ jv _ => k - (intOf jv).toNat)
   case atStart => exact ⟨0, true, Nat.zero_le _, rfl, rfl, rfl, hown, hB⟩
   case round =>
    obtain ⟨j, b, hj, rfl, rfl, hb, hownj, hBj⟩ := hrel
    have Hb : Hid (b = newTo l p j) := hb
    clear hb
    obtain ⟨t0, t1, t2, t3⟩ := kk.out _ hBj
    by_cases hjk : j < k
    ·have p1 : (j : Int) < (k : Int) := by omega
     have p0 : (0 : Int) ≤ (j : Int) := by omega
     have p2 : (j : Int) < (l.length : Int) := by omega
     have hjl : j < l.length := by omega
     have s0 : wr.cell? (A6 g (j * 4)) = some (I6 l[j].c) := hcr.out j hjl 0 (by decide) wr hBj
     have s1 : wr.cell? (A6 g (j * 4 + 1)) = some (I6 l[j].q) := hcr.out j hjl 1 (by decide) wr hBj
     have HN : Hid (newTo l p (j + 1) = (b && (l[j].c != p.c || l[j].q != p.q))) := by show _ = _; rw [newTo_succ l p j hjl, Hb.out]
     generalize l[j] = d at *
     cases b
     ·have HV : Hid (newTo l p (j + 1) = false) := by show _ = _; rw [HN.out]; rfl
      go_wp2_with fail
      go_quiet (fail)
      go_wp2_with fail
      go_roundw
      case rel => exact ⟨j + 1, false, by omega, by go_num, rfl, HV.out.symm, owns_below hownj (below_drewN (Below.refl _ _) _), Below.trans hBj ((below_drewN (Below.refl _ _) _).mono hBj.size)⟩
      case measure => simp [intOf]; omega
     ·by_cases e1 : d.c = p.c
      ·have m1 : (d.c != p.c) = false := by simp [e1]
       by_cases e2 : d.q = p.q
       ·have m2 : (d.q != p.q) = false := by simp [e2]
        have HV : Hid (newTo l p (j + 1) = false) := by show _ = _; rw [HN.out, m1, m2]; rfl
        clear e1 e2
        go_wp2_with fail
        go_quiet (fail)
        go_wp2_with fail
        go_roundw
        case rel => exact ⟨j + 1, false, by omega, by go_num, rfl, HV.out.symm, owns_below hownj (below_drewN (Below.refl _ _) _), Below.trans hBj ((below_drewN (Below.refl _ _) _).mono hBj.size)⟩
        case measure => simp [intOf]; omega
       ·have m2 : (d.q != p.q) = true := by simp [e2]
        have HV : Hid (newTo l p (j + 1) = true) := by show _ = _; rw [HN.out, m1, m2]; rfl
        clear e1 e2
        go_wp2_with fail
        go_quiet (fail)
        go_wp2_with fail
        go_roundw
        case rel => exact ⟨j + 1, true, by omega, by go_num, rfl, HV.out.symm, owns_below hownj (below_drewN (Below.refl _ _) _), Below.trans hBj ((below_drewN (Below.refl _ _) _).mono hBj.size)⟩
        case measure => simp [intOf]; omega
      ·have m1 : (d.c != p.c) = true := by simp [e1]
       have HV : Hid (newTo l p (j + 1) = true) := by show _ = _; rw [HN.out, m1]; rfl
       clear e1
       go_wp2_with fail
       go_quiet (fail)
       go_wp2_with fail
       go_roundw
       case rel => exact ⟨j + 1, true, by omega, by go_num, rfl, HV.out.symm, owns_below hownj (below_drewN (Below.refl _ _) _), Below.trans hBj ((below_drewN (Below.refl _ _) _).mono hBj.size)⟩
       case measure => simp [intOf]; omega
    ·have hjk' : j = k := by omega
     subst hjk'
     have p1 : ¬ (j : Int) < (j : Int) := by omega
     have hzj := hBj.size
     have HI : Hid (inChat ch l j p = (b && p.c != 0 && p.h == ch)) := by show _ = _; rw [← inChat_eq Hp.out, inChatR_of, Hb.out]
     cases b
     ·have HV : Hid (chatTo ch l (j + 1) = M) := by show _ = _; rw [chatTo_no ⟨p, HG.out, by rw [HI.out]; rfl⟩, HM.out]
      go_wp2_with fail
      go_roundw
      case rel => exact ⟨j + 1, M, by omega, by go_num, HV.out.symm, hownj, hBj⟩
      case measure => simp [intOf]; omega
     ·by_cases e1 : p.c = 0
      ·have m1 : (p.c != 0) = false := by simp [e1]
       have HV : Hid (chatTo ch l (j + 1) = M) := by show _ = _; rw [chatTo_no ⟨p, HG.out, by rw [HI.out, m1]; rfl⟩, HM.out]
       clear e1
       go_wp2_with fail
       go_roundw
       case rel => exact ⟨j + 1, M, by omega, by go_num, HV.out.symm, hownj, hBj⟩
       case measure => simp [intOf]; omega
      ·have m1 : (p.c != 0) = true := by simp [e1]
       by_cases e2 : p.h = ch
       ·have m2 : (p.h == ch) = true := by simp [e2]
        have HV : Hid (chatTo ch l (j + 1) = M ++ [p]) := by show _ = _; rw [chatTo_yes HG.out (by rw [HI.out, m1, m2]; rfl), HM.out]
        clear e1 e2
        have hbb : M.length + 1 ≤ maxLen ∧ (M.length + 1) * 40 ≤ 140737488355328 := ⟨by unfold maxLen; omega, by omega⟩
        obtain ⟨pc, pq, ph, pt⟩ := p
        have h1c : ∀ u ∈ [I6 pc, I6 pq, I6 ph, .string pt], u.oneCell' = true := by
         intro u hu; simp at hu; rcases hu with rfl | rfl | rfl | rfl <;> rfl
        simp only at t0 t1 t2 t3 m1 m2
        go_wp2_with (at_builtin; refine wpList_append_lies _ rfl (.tmp 86) (.tmp 91) 54 rfl w1.heap.size 33 i0 _ 4 40 Tryz.underlying54 hi0 hz0 hz1 hz2 rfl (by decide) (.slice va M.length vc) M.length (pcells M) rfl (owns_alloc hownj _) _ 1 1 [I6 pc, I6 pq, I6 ph, .string pt] rfl rfl (news_new _ _ (by simp) _ _) h1c (by decide) hbb.1 hbb.2 (by simp; omega) _ rfl ?_; intro g2 cap2 w9 hown9 hgr hat hlt9)
        go_roundw
        case rel =>
         refine ⟨j + 1, M ++ [⟨pc, pq, ph, pt⟩], by omega, by go_num, HV.out.symm, ?_, ?_⟩
         ·rw [pcells_append, List.length_append]
          simpa [pcells, Pst.cells] using hown9
         ·refine (hBj.alloc (by omega) _).trans ⟨hgr.os, hgr.tape, hgr.output, hgr.size, fun b hb => hgr.block b (by simp; omega) (fun e => by have := (World.ownsRow.lt hownj b e.symm).1; omega)⟩
        case measure => simp [intOf]; omega
       ·have m2 : (p.h == ch) = false := by simp [e2]
        have HV : Hid (chatTo ch l (j + 1) = M) := by show _ = _; rw [chatTo_no ⟨p, HG.out, by rw [HI.out, m1, m2]; rfl⟩, HM.out]
        clear e1 e2
        go_wp2_with fail
        go_roundw
        case rel => exact ⟨j + 1, M, by omega, by go_num, HV.out.symm, hownj, hBj⟩
        case measure => simp [intOf]; omega
  ·have hke : k = l.length := by omega
   have p1 : ¬ (k : Int) < (l.length : Int) := by omega
   have HE : Hid (chatTo ch l l.length = M) := by show _ = _; rw [HM.out, hke]
   clear hke
   go_wp2_with fail
   go_ret2
   refine ⟨_, rfl, ?_, Below.trans hB1 (hB.mono hB1.size)⟩
   rw [HE.out]
   exact owns_base hown hB1.size
theorem rchatQ_no (h : QAt w qb Rb v x) {i : Int} (hi : i < 0 ∨ (x.R.length : Int) ≤ i) (ch : Int) : Calls Tryz.prog 32 #[P6 qb, I6 i, I6 ch] w fun e w' => e = .returned (.tuple #[.slice none 0 0, I6 1]) ∧ Below w.heap.size w w' := by
 have hLo := rlog_no h hi
 go_enter Tryz.func32, Tryz.ntmps32
 go_wp2_with fail
 refine hLo.mono ?_
 rintro e w1 ⟨rfl, rfl⟩
 clear hLo
 go_wp2_with fail
 go_ret2
 exact ⟨rfl, Below.refl _ _⟩
theorem rchatQ_ch (h : QAt w qb Rb v x) {i : Nat} (hi : i < x.R.length) (ch : Int) (hc : ch < 0 ∨ 4 ≤ ch) : Calls Tryz.prog 32 #[P6 qb, I6 (i : Int), I6 ch] w fun e w' => e = .returned (.tuple #[.slice none 0 0, I6 1]) ∧ Below w.heap.size w w' := by
 have hLo := rlog_yes h hi
 by_cases hc0 : ch < 0
 ·have n0 : decide (ch < 0) = true := by simp; omega
  go_enter Tryz.func32, Tryz.ntmps32
  go_wp2_with fail
  refine hLo.mono ?_
  rintro e w1 ⟨v1, rfl, _, hB1⟩
  clear hLo
  go_wp2_with fail
  go_ret2
  exact ⟨rfl, hB1⟩
 ·have n0 : decide (ch < 0) = false := by simp; omega
  have n1 : decide (4 ≤ ch) = true := by simp; omega
  go_enter Tryz.func32, Tryz.ntmps32
  go_wp2_with fail
  refine hLo.mono ?_
  rintro e w1 ⟨v1, rfl, _, hB1⟩
  clear hLo
  go_wp2_with fail
  go_ret2
  exact ⟨rfl, hB1⟩
end
end
section
open Go.RowKit
set_option maxHeartbeats 4000000 in
theorem samePosts_same {l : List Pst} {va vb : Value} {w : World} (hva : PsAt (fun _ => False) w va l) (hvb : PsAt (fun _ => False) w vb l) :
  Calls Tryz.prog 29 #[va, vb] w fun e w' => e = .returned (.bool true) ∧ Below w.heap.size w w' := by
 obtain ⟨aa, ca, rfl, hfa⟩ := hva.form
 obtain ⟨ab, cb, rfl, hfb⟩ := hvb.form
 have hlen := hva.len
 have Hfa : Hid (l ≠ [] → ∃ g, aa = some (A6 g 0) ∧ g < w.heap.size ∧ ¬ False ∧ ∀ j (hj : j < l.length), ∀ k, k < 4 → w.cell? (A6 g (j * 4 + k)) = l[j].cells[k]?) := hfa
 have Hfb : Hid (l ≠ [] → ∃ g, ab = some (A6 g 0) ∧ g < w.heap.size ∧ ¬ False ∧ ∀ j (hj : j < l.length), ∀ k, k < 4 → w.cell? (A6 g (j * 4 + k)) = l[j].cells[k]?) := hfb
 clear hva hvb hfa hfb
 go_enter Tryz.func29, Tryz.ntmps29
 go_wp2_with fail
 go_loopw [5] (fun i wr => ∃ j : Nat, j ≤ l.length ∧ i = I6 j ∧ Below w.heap.size w wr) (fun i _ => l.length - (intOf i).toNat)
 case atStart => exact ⟨0, Nat.zero_le _, rfl, Below.refl _ _⟩
 case round =>
  obtain ⟨j, hj, rfl, hb⟩ := hrel
  by_cases hlt : j < l.length
  ·have hne : l ≠ [] := by intro e; subst e; simp at hlt
   obtain ⟨ga, rfl, hga, _, hca⟩ := Hfa.out hne
   obtain ⟨gb, rfl, hgb, _, hcb⟩ := Hfb.out hne
   have ca0 : wr.cell? (A6 ga (j * 4)) = some (I6 l[j].c) := by
    rw [hb.cell (p := (A6 ga (j * 4))) hga]; exact hca j hlt 0 (by decide)
   have ca1 : wr.cell? (A6 ga (j * 4 + 1)) = some (I6 l[j].q) := by
    rw [hb.cell (p := (A6 ga (j * 4 + 1))) hga]; exact hca j hlt 1 (by decide)
   have ca2 : wr.cell? (A6 ga (j * 4 + 2)) = some (I6 l[j].h) := by
    rw [hb.cell (p := (A6 ga (j * 4 + 2))) hga]; exact hca j hlt 2 (by decide)
   have ca3 : wr.cell? (A6 ga (j * 4 + 3)) = some (.string l[j].t) := by
    rw [hb.cell (p := (A6 ga (j * 4 + 3))) hga]; exact hca j hlt 3 (by decide)
   have cb0 : wr.cell? (A6 gb (j * 4)) = some (I6 l[j].c) := by
    rw [hb.cell (p := (A6 gb (j * 4))) hgb]; exact hcb j hlt 0 (by decide)
   have cb1 : wr.cell? (A6 gb (j * 4 + 1)) = some (I6 l[j].q) := by
    rw [hb.cell (p := (A6 gb (j * 4 + 1))) hgb]; exact hcb j hlt 1 (by decide)
   have cb2 : wr.cell? (A6 gb (j * 4 + 2)) = some (I6 l[j].h) := by
    rw [hb.cell (p := (A6 gb (j * 4 + 2))) hgb]; exact hcb j hlt 2 (by decide)
   have cb3 : wr.cell? (A6 gb (j * 4 + 3)) = some (.string l[j].t) := by
    rw [hb.cell (p := (A6 gb (j * 4 + 3))) hgb]; exact hcb j hlt 3 (by decide)
   have q0 : (0 : Int) ≤ (j : Int) := by omega
   have q1 : (j : Int) < (l.length : Int) := by omega
   clear hca hcb
   generalize l[j].c = c at *
   generalize l[j].q = q at *
   generalize l[j].h = h at *
   generalize l[j].t = t at *
   go_wp2_with fail
   go_quiet (fail)
   go_wp2_with fail
   go_roundw
   case rel => exact ⟨j + 1, by omega, by go_num, below_drewN hb _⟩
   case measure => simp [intOf]; omega
  ·have q1 : ¬ (j : Int) < (l.length : Int) := by omega
   go_wp2_with fail
   go_ret
   exact ⟨rfl, hb⟩
theorem WAt.post {w w' : World} {wb H : Nat} {d : Wd} {wp' v a b c : Value} {n : Nat} (h : WAt w wb H d) (kk : Keeps (fun k => k = wb ∨ d.wp.ownBlock = some k) w w') (hb : w'.heap[wb]? = some (.cells #[d.wl, d.wn, d.wv, wp'] 31 (0, 0)))
  (own' : w'.ownsRow H 54 1 wp' (d.P.length + 4) (d.P ++ [v, a, b, c])) (hn : n ≤ 1000000) (m0 : MK w' H 33 (mp d.P.length) v n) (m1 : MK w' H 33 (mp d.P.length) a (n + 1)) (m2 : MK w' H 33 (mp d.P.length) b (n + 2)) (m3 : MK w' H 33 (mp d.P.length) c (n + 3)) :
  WAt w' wb H ⟨d.wl, d.wn, d.wv, wp', d.ps, d.N, d.V, d.P ++ [v, a, b, c]⟩ := by
 have hT : ∀ {k : Nat} {cs : Array Value} {t : TypeId}, w.heap[k]? = some (.cells cs t (0, 0)) → t ≠ 31 → t ≠ 54 → ¬ (k = wb ∨ d.wp.ownBlock = some k) := fun hc h1 h2 ho => by
  rcases ho with rfl | ho
  ·exact h1 (blk_type hc h.blk)
  ·obtain ⟨cs', hc'⟩ := owns_blk h.posts.own ho
   exact h2 (blk_type hc hc')
 refine ⟨hb, owns_keeps h.prs kk (fun g hg => by obtain ⟨cs, hc⟩ := owns_blk h.prs hg; exact hT hc (by decide) (by decide)), h.nets.keeps kk (fun g hg => by obtain ⟨cs, hc⟩ := owns_blk h.nets.own hg; exact hT hc (by decide) (by decide)) (fun k hk g hg => by obtain ⟨_, cs, hc⟩ := h.nets.blkT hk hg; exact hT hc (by decide) (by decide)), h.votes.keeps kk (fun g hg => by obtain ⟨cs, hc⟩ := owns_blk h.votes.own hg; exact hT hc (by decide) (by decide)) (fun k hk g hg => by obtain ⟨_, cs, hc⟩ := h.votes.blkT hk hg; exact hT hc (by decide) (by decide)), h.posts.more (fun j i => mp4) kk (fun k hk g hg => by obtain ⟨_, cs, hc⟩ := h.posts.blkT hk hg; exact hT hc (by decide) (by decide)) own' hn m0 m1 m2 m3, ?_, ⟨h.base.1, h.base.2.1, Nat.le_trans h.base.2.2 kk.size⟩, h.high, h.nown⟩
 refine h.lat.frame kk (fun k _ ho => ?_) (fun k cs hc => hT hc (by decide) (by decide))
 rcases ho with rfl | ho
 ·exact h.lat.not_own h.blk (lawT_not (.inl rfl))
 ·obtain ⟨cs, hc⟩ := owns_blk h.posts.own ho
  exact h.lat.not_own hc (lawT_not (.inr (.inr (.inr (.inr (.inl rfl))))))
theorem WAt.net {w w' : World} {wb H : Nat} {d : Wd} {wn' wv' : Value} {N' V' : List Value} (h : WAt w wb H d) (kk : Keeps (fun k => k = wb ∨ d.wn.ownBlock = some k ∨ d.wv.ownBlock = some k) w w') (hb : w'.heap[wb]? = some (.cells #[d.wl, wn', wv', d.wp] 31 (0, 0)))
  (hN : (∀ k (hk : k < d.N.length) g, d.N[k].ownBlock = some g → ¬ (g = wb ∨ d.wn.ownBlock = some g ∨ d.wv.ownBlock = some g)) → MAt w' H 50 36 mm wn' N') (hV : MAt w' H 34 53 mv wv' V') (hown : ∀ k (hk : k < N'.length) g, N'[k].ownBlock = some g → ¬ lOwn d.ps g) :
  WAt w' wb H ⟨d.wl, wn', wv', d.wp, d.ps, N', V', d.P⟩ := by
 have hT : ∀ {k : Nat} {cs : Array Value} {t : TypeId}, w.heap[k]? = some (.cells cs t (0, 0)) → t ≠ 31 → t ≠ 50 → t ≠ 34 → ¬ (k = wb ∨ d.wn.ownBlock = some k ∨ d.wv.ownBlock = some k) := fun hc h1 h2 h3 ho => by
  rcases ho with rfl | ho | ho
  ·exact h1 (blk_type hc h.blk)
  ·obtain ⟨cs', hc'⟩ := owns_blk h.nets.own ho
   exact h2 (blk_type hc hc')
  ·obtain ⟨cs', hc'⟩ := owns_blk h.votes.own ho
   exact h3 (blk_type hc hc')
 refine ⟨hb, owns_keeps h.prs kk (fun g hg => by obtain ⟨cs, hc⟩ := owns_blk h.prs hg; exact hT hc (by decide) (by decide) (by decide)), hN (fun k hk g hg => by obtain ⟨_, cs, hc⟩ := h.nets.blkT hk hg; exact hT hc (by decide) (by decide) (by decide)), hV, h.posts.keeps kk (fun g hg => by obtain ⟨cs, hc⟩ := owns_blk h.posts.own hg; exact hT hc (by decide) (by decide) (by decide)) (fun k hk g hg => by obtain ⟨_, cs, hc⟩ := h.posts.blkT hk hg; exact hT hc (by decide) (by decide) (by decide)), ?_, ⟨h.base.1, h.base.2.1, Nat.le_trans h.base.2.2 kk.size⟩, h.high, hown⟩
 refine h.lat.frame kk (fun k _ ho => ?_) (fun k cs hc => hT hc (by decide) (by decide) (by decide))
 rcases ho with rfl | ho | ho
 ·exact h.lat.not_own h.blk (lawT_not (.inl rfl))
 ·obtain ⟨cs, hc⟩ := owns_blk h.nets.own ho
  exact h.lat.not_own hc (lawT_not (.inr (.inr (.inl rfl))))
 ·obtain ⟨cs, hc⟩ := owns_blk h.votes.own ho
  exact h.lat.not_own hc (lawT_not (.inr (.inr (.inr (.inl rfl)))))
end
end Go.Proofs.YtnnhnekfokbooaaGreatDoor
