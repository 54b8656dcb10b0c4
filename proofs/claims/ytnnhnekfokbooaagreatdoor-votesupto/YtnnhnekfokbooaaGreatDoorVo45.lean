/- The law's samePosts on two lists that are the same; what posted and netted make of the law's world. The law's told: Role, Log, Chat (laid by mklawi.py). (Joined by merge.py.) -/
import Derived.Test.YtnnhnekfokbooaaGreatDoorVo37
import Derived.Test.YtnnhnekfokbooaaGreatDoorVo42
import Derived.Test.YtnnhnekfokbooaaGreatDoorVo44
import Derived.Test.YtnnhnekfokbooaaGreatDoorVo28
import Derived.Test.YtnnhnekfokbooaaGreatDoorVo39
namespace Go.Proofs.YtnnhnekfokbooaaGreatDoor
open Go.RowKit
set_option linter.unusedSimpArgs false
set_option linter.unusedVariables false

set_option maxHeartbeats 4000000 in
set_option maxRecDepth 100000 in
theorem samePosts_same {l : List Pst} {va vb : Value} {w : World} (hva : PsAt (fun _ => False) w va l) (hvb : PsAt (fun _ => False) w vb l) :
  Calls Tryz.prog 29 #[va, vb] w fun e w' => e = .returned (.bool true) ∧ Below w.heap.size w w' := by
 obtain ⟨aa, ca, rfl, hfa⟩ := hva.form
 obtain ⟨ab, cb, rfl, hfb⟩ := hvb.form
 have hlen := hva.len
 have Hfa : Hid (l ≠ [] → ∃ g, aa = some ⟨g, 0, none⟩ ∧ g < w.heap.size ∧ ¬ False ∧ ∀ j (hj : j < l.length), ∀ k, k < 4 → w.cell? ⟨g, j * 4 + k, none⟩ = l[j].cells[k]?) := hfa
 have Hfb : Hid (l ≠ [] → ∃ g, ab = some ⟨g, 0, none⟩ ∧ g < w.heap.size ∧ ¬ False ∧ ∀ j (hj : j < l.length), ∀ k, k < 4 → w.cell? ⟨g, j * 4 + k, none⟩ = l[j].cells[k]?) := hfb
 clear hva hvb hfa hfb
 go_enter Tryz.func29, Tryz.ntmps29
 go_wp2_with fail
 go_loopw [5] (fun i wr => ∃ j : Nat, j ≤ l.length ∧ i = .int .i64 j ∧ Below w.heap.size w wr) (fun i _ => l.length - (intOf i).toNat)
 case atStart => exact ⟨0, Nat.zero_le _, rfl, Below.refl _ _⟩
 case round =>
  obtain ⟨j, hj, rfl, hb⟩ := hrel
  by_cases hlt : j < l.length
  ·have hne : l ≠ [] := by intro e; subst e; simp at hlt
   obtain ⟨ga, rfl, hga, _, hca⟩ := Hfa.out hne
   obtain ⟨gb, rfl, hgb, _, hcb⟩ := Hfb.out hne
   have ca0 : wr.cell? ⟨ga, j * 4, none⟩ = some (.int .i64 l[j].c) := by
    rw [hb.cell (p := ⟨ga, j * 4, none⟩) hga]; exact hca j hlt 0 (by decide)
   have ca1 : wr.cell? ⟨ga, j * 4 + 1, none⟩ = some (.int .i64 l[j].q) := by
    rw [hb.cell (p := ⟨ga, j * 4 + 1, none⟩) hga]; exact hca j hlt 1 (by decide)
   have ca2 : wr.cell? ⟨ga, j * 4 + 2, none⟩ = some (.int .i64 l[j].h) := by
    rw [hb.cell (p := ⟨ga, j * 4 + 2, none⟩) hga]; exact hca j hlt 2 (by decide)
   have ca3 : wr.cell? ⟨ga, j * 4 + 3, none⟩ = some (.string l[j].t) := by
    rw [hb.cell (p := ⟨ga, j * 4 + 3, none⟩) hga]; exact hca j hlt 3 (by decide)
   have cb0 : wr.cell? ⟨gb, j * 4, none⟩ = some (.int .i64 l[j].c) := by
    rw [hb.cell (p := ⟨gb, j * 4, none⟩) hgb]; exact hcb j hlt 0 (by decide)
   have cb1 : wr.cell? ⟨gb, j * 4 + 1, none⟩ = some (.int .i64 l[j].q) := by
    rw [hb.cell (p := ⟨gb, j * 4 + 1, none⟩) hgb]; exact hcb j hlt 1 (by decide)
   have cb2 : wr.cell? ⟨gb, j * 4 + 2, none⟩ = some (.int .i64 l[j].h) := by
    rw [hb.cell (p := ⟨gb, j * 4 + 2, none⟩) hgb]; exact hcb j hlt 2 (by decide)
   have cb3 : wr.cell? ⟨gb, j * 4 + 3, none⟩ = some (.string l[j].t) := by
    rw [hb.cell (p := ⟨gb, j * 4 + 3, none⟩) hgb]; exact hcb j hlt 3 (by decide)
   have q0 : (0 : Int) ≤ (j : Int) := by omega
   have q1 : (j : Int) < (l.length : Int) := by omega
   clear hca hcb
   generalize l[j].c = c at *
   generalize l[j].q = q at *
   generalize l[j].h = h at *
   generalize l[j].t = t at *
   go_wp2_with fail
   go_quiet (fail)
   go_wp2_with fail
   go_roundw
   case rel => exact ⟨j + 1, by omega, by go_num, below_drewN hb _⟩
   case measure => simp [intOf]; omega
  ·have q1 : ¬ (j : Int) < (l.length : Int) := by omega
   go_wp2_with fail
   go_ret
   exact ⟨rfl, hb⟩
/-- Posts came out. -/
theorem WAt.post {w w' : World} {wb H : Nat} {d : Wd} {wp' v a b c : Value} {n : Nat} (h : WAt w wb H d) (kk : Keeps (fun k => k = wb ∨ d.wp.ownBlock = some k) w w') (hb : w'.heap[wb]? = some (.cells #[d.wl, d.wn, d.wv, wp'] 31 (0, 0)))
  (own' : w'.ownsRow H 54 1 wp' (d.P.length + 4) (d.P ++ [v, a, b, c])) (hn : n ≤ 1000000) (m0 : MK w' H 33 (mp d.P.length) v n) (m1 : MK w' H 33 (mp d.P.length) a (n + 1)) (m2 : MK w' H 33 (mp d.P.length) b (n + 2)) (m3 : MK w' H 33 (mp d.P.length) c (n + 3)) :
  WAt w' wb H ⟨d.wl, d.wn, d.wv, wp', d.ps, d.N, d.V, d.P ++ [v, a, b, c]⟩ := by
 have hT : ∀ {k : Nat} {cs : Array Value} {t : TypeId}, w.heap[k]? = some (.cells cs t (0, 0)) → t ≠ 31 → t ≠ 54 → ¬ (k = wb ∨ d.wp.ownBlock = some k) := fun hc h1 h2 ho => by
  rcases ho with rfl | ho
  ·exact h1 (blk_type hc h.blk)
  ·obtain ⟨cs', hc'⟩ := owns_blk h.posts.own ho
   exact h2 (blk_type hc hc')
 refine ⟨hb, owns_keeps h.prs kk (fun g hg => by obtain ⟨cs, hc⟩ := owns_blk h.prs hg; exact hT hc (by decide) (by decide)), h.nets.keeps kk (fun g hg => by obtain ⟨cs, hc⟩ := owns_blk h.nets.own hg; exact hT hc (by decide) (by decide)) (fun k hk g hg => by obtain ⟨_, cs, hc⟩ := h.nets.blkT hk hg; exact hT hc (by decide) (by decide)), h.votes.keeps kk (fun g hg => by obtain ⟨cs, hc⟩ := owns_blk h.votes.own hg; exact hT hc (by decide) (by decide)) (fun k hk g hg => by obtain ⟨_, cs, hc⟩ := h.votes.blkT hk hg; exact hT hc (by decide) (by decide)), h.posts.more (fun j i => mp4) kk (fun k hk g hg => by obtain ⟨_, cs, hc⟩ := h.posts.blkT hk hg; exact hT hc (by decide) (by decide)) own' hn m0 m1 m2 m3, ?_, ⟨h.base.1, h.base.2.1, Nat.le_trans h.base.2.2 kk.size⟩, h.high, h.nown⟩
 refine h.lat.frame kk (fun k _ ho => ?_) (fun k cs hc => hT hc (by decide) (by decide))
 rcases ho with rfl | ho
 ·exact h.lat.not_own h.blk (lawT_not (.inl rfl))
 ·obtain ⟨cs, hc⟩ := owns_blk h.posts.own ho
  exact h.lat.not_own hc (lawT_not (.inr (.inr (.inr (.inr (.inl rfl))))))
/-- A net came out. -/
theorem WAt.net {w w' : World} {wb H : Nat} {d : Wd} {wn' wv' : Value} {N' V' : List Value} (h : WAt w wb H d) (kk : Keeps (fun k => k = wb ∨ d.wn.ownBlock = some k ∨ d.wv.ownBlock = some k) w w') (hb : w'.heap[wb]? = some (.cells #[d.wl, wn', wv', d.wp] 31 (0, 0)))
  (hN : (∀ k (hk : k < d.N.length) g, d.N[k].ownBlock = some g → ¬ (g = wb ∨ d.wn.ownBlock = some g ∨ d.wv.ownBlock = some g)) → MAt w' H 50 36 mm wn' N') (hV : MAt w' H 34 53 mv wv' V') (hown : ∀ k (hk : k < N'.length) g, N'[k].ownBlock = some g → ¬ lOwn d.ps g) :
  WAt w' wb H ⟨d.wl, wn', wv', d.wp, d.ps, N', V', d.P⟩ := by
 have hT : ∀ {k : Nat} {cs : Array Value} {t : TypeId}, w.heap[k]? = some (.cells cs t (0, 0)) → t ≠ 31 → t ≠ 50 → t ≠ 34 → ¬ (k = wb ∨ d.wn.ownBlock = some k ∨ d.wv.ownBlock = some k) := fun hc h1 h2 h3 ho => by
  rcases ho with rfl | ho | ho
  ·exact h1 (blk_type hc h.blk)
  ·obtain ⟨cs', hc'⟩ := owns_blk h.nets.own ho
   exact h2 (blk_type hc hc')
  ·obtain ⟨cs', hc'⟩ := owns_blk h.votes.own ho
   exact h3 (blk_type hc hc')
 refine ⟨hb, owns_keeps h.prs kk (fun g hg => by obtain ⟨cs, hc⟩ := owns_blk h.prs hg; exact hT hc (by decide) (by decide) (by decide)), hN (fun k hk g hg => by obtain ⟨_, cs, hc⟩ := h.nets.blkT hk hg; exact hT hc (by decide) (by decide) (by decide)), hV, h.posts.keeps kk (fun g hg => by obtain ⟨cs, hc⟩ := owns_blk h.posts.own hg; exact hT hc (by decide) (by decide) (by decide)) (fun k hk g hg => by obtain ⟨_, cs, hc⟩ := h.posts.blkT hk hg; exact hT hc (by decide) (by decide) (by decide)), ?_, ⟨h.base.1, h.base.2.1, Nat.le_trans h.base.2.2 kk.size⟩, h.high, hown⟩
 refine h.lat.frame kk (fun k _ ho => ?_) (fun k cs hc => hT hc (by decide) (by decide) (by decide))
 rcases ho with rfl | ho | ho
 ·exact h.lat.not_own h.blk (lawT_not (.inl rfl))
 ·obtain ⟨cs, hc⟩ := owns_blk h.nets.own ho
  exact h.lat.not_own hc (lawT_not (.inr (.inr (.inl rfl))))
 ·obtain ⟨cs, hc⟩ := owns_blk h.votes.own ho
  exact h.lat.not_own hc (lawT_not (.inr (.inr (.inr (.inl rfl)))))
end Go.Proofs.YtnnhnekfokbooaaGreatDoor

namespace Go.Proofs.YtnnhnekfokbooaaGreatDoor
open Go.RowKit
set_option linter.unusedSimpArgs false
set_option linter.unusedVariables false

theorem chat_none {w : World} {sb : Nat} {L : Lay} {s : Sy} (h : SynAt w sb L s) {i : Int} (hi : i < 0 ∨ (s.n : Int) ≤ i) (ch : Int) :
  Calls Tryz.prog 31 #[.pointer (some ⟨sb, 0, none⟩), .int .i64 i, .int .i64 ch] w fun e w' => e = .returned (.tuple #[.slice none 0 0, .int .i64 1]) ∧ w' = w := by
 have hF := find_no h hi
 go_enter Tryz.func31, Tryz.ntmps31
 go_wp2_with fail
 refine hF.mono ?_
 rintro e w2 ⟨rfl, rfl⟩
 clear hF
 go_wp2_with fail
 go_ret2
 exact ⟨rfl, rfl⟩
theorem chat_wrong {w : World} {sb : Nat} {L : Lay} {s : Sy} (h : SynAt w sb L s) {i : Nat} (hi : i < s.n) (ch : Int) (hc : ch < 0 ∨ 4 ≤ ch) :
  Calls Tryz.prog 31 #[.pointer (some ⟨sb, 0, none⟩), .int .i64 (i : Int), .int .i64 ch] w fun e w' => e = .returned (.tuple #[.slice none 0 0, .int .i64 1]) ∧ w' = w := by
 have hF := find_yes h hi
 by_cases hc0 : ch < 0
 ·have n0 : decide (ch < 0) = true := by simp; omega
  go_enter Tryz.func31, Tryz.ntmps31
  go_wp2_with fail
  refine hF.mono ?_
  rintro e w2 ⟨rfl, rfl⟩
  clear hF
  go_wp2_with fail
  go_ret2
  exact ⟨rfl, rfl⟩
 ·have n0 : decide (ch < 0) = false := by simp; omega
  have n1 : decide (4 ≤ ch) = true := by simp; omega
  go_enter Tryz.func31, Tryz.ntmps31
  go_wp2_with fail
  refine hF.mono ?_
  rintro e w2 ⟨rfl, rfl⟩
  clear hF
  go_wp2_with fail
  go_ret2
  exact ⟨rfl, rfl⟩
/-- What a step makes of the law's world. -/
def WTo (w : World) (wb H : Nat) (d : Wd) (w' : World) : Prop :=
 ∃ d' : Wd, WAt w' wb H d' ∧ d.ps.length ≤ d'.ps.length ∧ d'.ps.length ≤ d.ps.length + 1 ∧ d'.N.length ≤ d.N.length + 4 ∧ d'.V.length ≤ d.V.length + 800 ∧ d'.P.length ≤ d.P.length + 4 ∧ Keeps (fun k => k = wb ∨ H ≤ k) w w'
def BothR (p : Pr) (a : Int) : Prop :=
 ∃ (r0 r1 r2 r3 n : Int),
  (∀ W, SynAt W p.sb p.L p.s → Calls Tryz.prog 33 #[pt p.sb, .int .i64 a] W fun e w' => e = .returned (.tuple #[.agg #[.int .i64 r0, .int .i64 r1, .int .i64 r2, .int .i64 r3], .int .i64 n]) ∧ Below W.heap.size W w') ∧
  (∀ W, QAt W p.qb p.Rb p.v p.x → Calls Tryz.prog 34 #[pt p.qb, .int .i64 a] W fun e w' => e = .returned (.tuple #[.agg #[.int .i64 r0, .int .i64 r1, .int .i64 r2, .int .i64 r3], .int .i64 n]) ∧ Below W.heap.size W w')
def BothP (p : Pr) (code ref : FuncId) (args : Value → Array Value) : Prop :=
 ∃ (l : List Pst) (n : Int), l.length ≤ 16 ∧
  (∀ W, SynAt W p.sb p.L p.s → Calls Tryz.prog code (args (pt p.sb)) W fun e w' => ∃ v', e = .returned (.tuple #[v', .int .i64 n]) ∧ w'.ownsRow W.heap.size 33 4 v' l.length (pcells l) ∧ Below W.heap.size W w') ∧
  (∀ W, QAt W p.qb p.Rb p.v p.x → Calls Tryz.prog ref (args (pt p.qb)) W fun e w' => ∃ v', e = .returned (.tuple #[v', .int .i64 n]) ∧ w'.ownsRow W.heap.size 33 4 v' l.length (pcells l) ∧ Below W.heap.size W w')
theorem both_role {w : World} {p : Pr} (h : PAt w p) (a : Int) : BothR p a := by
 rcases one_of a p.s.n with hn | ⟨i, rfl, hi⟩
 ·exact ⟨0, 0, 0, 0, 1, fun W hW => role_no hW hn, fun W hW => rrole_no hW (by rw [h.sim.n]; exact hn)⟩
 ·obtain ⟨e0, e1, e2, e3⟩ := sim_role (h.sim.rep i hi)
  refine ⟨_, _, _, _, 0, fun W hW => role_yes hW hi, fun W hW => ?_⟩
  have := rrole_yes hW (i := i) (by rw [h.sim.n]; exact hi)
  rw [e0, e1, e2, e3] at this
  exact this
theorem both_log {w : World} {p : Pr} (h : PAt w p) (a : Int) : BothP p 27 28 (fun v => #[v, .int .i64 a]) := by
 rcases one_of a p.s.n with hn | ⟨i, rfl, hi⟩
 ·refine ⟨[], 1, by simp, fun W hW => (log_no hW hn).mono ?_, fun W hW => (rlog_no hW (by rw [h.sim.n]; exact hn)).mono ?_⟩
  ·rintro e w' ⟨rfl, rfl⟩; exact ⟨_, rfl, World.ownsRow_nil _ _ _ _, Below.refl _ _⟩
  ·rintro e w' ⟨rfl, rfl⟩; exact ⟨_, rfl, World.ownsRow_nil _ _ _ _, Below.refl _ _⟩
 ·have hok := h.syn.ok.repOk hi
  have he := sim_log (h.sim.rep i hi) hok
  have hl16 : (logOf (p.s.rep i).dec).length ≤ 16 := by have := log_le (p.s.rep i).dec; have := hok.dec; omega
  refine ⟨logOf (p.s.rep i).dec, 0, hl16, fun W hW => log_yes hW hi, fun W hW => ?_⟩
  have := rlog_yes hW (i := i) (by rw [h.sim.n]; exact hi)
  rw [he] at this
  exact this
theorem both_chat {w : World} {p : Pr} (h : PAt w p) (a ch : Int) : BothP p 31 32 (fun v => #[v, .int .i64 a, .int .i64 ch]) := by
 rcases one_of a p.s.n with hn | ⟨i, rfl, hi⟩
 ·refine ⟨[], 1, by simp, fun W hW => (chat_none hW hn ch).mono ?_, fun W hW => (rchatQ_no hW (by rw [h.sim.n]; exact hn) ch).mono ?_⟩
  ·rintro e w' ⟨rfl, rfl⟩; exact ⟨_, rfl, World.ownsRow_nil _ _ _ _, Below.refl _ _⟩
  ·rintro e w' ⟨rfl, hB⟩; exact ⟨_, rfl, World.ownsRow_nil _ _ _ _, hB⟩
 ·have hix : i < p.x.R.length := by rw [h.sim.n]; exact hi
  by_cases hc : ch < 0 ∨ 4 ≤ ch
  ·refine ⟨[], 1, by simp, fun W hW => (chat_wrong hW hi ch hc).mono ?_, fun W hW => (rchatQ_ch hW hix ch hc).mono ?_⟩
   ·rintro e w' ⟨rfl, rfl⟩; exact ⟨_, rfl, World.ownsRow_nil _ _ _ _, Below.refl _ _⟩
   ·rintro e w' ⟨rfl, hB⟩; exact ⟨_, rfl, World.ownsRow_nil _ _ _ _, hB⟩
  ·have hok := h.syn.ok.repOk hi
   have he := sim_log (h.sim.rep i hi) hok
   have hl16 : (logOf (p.s.rep i).dec).length ≤ 16 := by have := log_le (p.s.rep i).dec; have := hok.dec; omega
   refine ⟨_, 0, ?_, fun W hW => chat_yes hW hi ch (by omega) (by omega), fun W hW => ?_⟩
   ·have := chatTo_len ch (logOf (p.s.rep i).dec) (logOf (p.s.rep i).dec).length
    omega
   ·have := rchatQ_yes hW hix ch (by omega) (by omega) (by rw [he]; exact h.run.log i)
    rw [he] at this
    exact this
set_option maxHeartbeats 4000000 in
set_option maxRecDepth 100000 in
theorem told_role {w : World} {wb : Nat} {p : Pr} (h : PAt w p) (o : Opd) (ho : ∃ ao n cap, o.v = .slice ao n cap) (hk : o.k = 8) (hb : BothR p o.a) :
  Calls Tryz.prog 13 #[.pointer (some ⟨wb, 0, none⟩), .agg #[.pointer (some ⟨p.sb, 0, none⟩), .pointer (some ⟨p.qb, 0, none⟩)], .agg o.cells.toArray] w fun e w' => e = .returned (.bool true) ∧ Below w.heap.size w w' := by
 obtain ⟨r0, r1, r2, r3, n, hC, hQ⟩ := hb
 obtain ⟨ok, on, oa, ob, os, ⟨pc, pq, ph, pt9⟩, ⟨mk, mf, mt, mb, ms, ⟨mc, mq, mh, mx⟩, ma⟩, v⟩ := o
 obtain ⟨va, vn, vc, hve⟩ := ho
 simp only at hve hk
 subst hve hk
 try simp only [pt] at hC hQ
 simp only [Opd.cells]
 have hB2 : Below w.heap.size w ((w.alloc (.cells #[.pointer (some ⟨p.sb, 0, none⟩), .pointer (some ⟨p.qb, 0, none⟩)] 47)).alloc (.cells #[.int .i64 8, .int .i64 on, .int .i64 oa, .int .i64 ob, .string os, .int .i64 pc, .int .i64 pq, .int .i64 ph, .string pt9, .int .i64 mk, .int .i64 mf, .int .i64 mt, .int .i64 mb, .int .i64 ms, .int .i64 mc, .int .i64 mq, .int .i64 mh, .string mx, .slice va vn vc] 38)) := ((Below.refl _ w).alloc (Nat.le_refl _) _).alloc (by simp) _
 have h2 := h.below hB2
 have hbp : ((w.alloc (.cells #[.pointer (some ⟨p.sb, 0, none⟩), .pointer (some ⟨p.qb, 0, none⟩)] 47)).alloc (.cells #[.int .i64 8, .int .i64 on, .int .i64 oa, .int .i64 ob, .string os, .int .i64 pc, .int .i64 pq, .int .i64 ph, .string pt9, .int .i64 mk, .int .i64 mf, .int .i64 mt, .int .i64 mb, .int .i64 ms, .int .i64 mc, .int .i64 mq, .int .i64 mh, .string mx, .slice va vn vc] 38)).heap[w.heap.size]? = some (.cells #[.pointer (some ⟨p.sb, 0, none⟩), .pointer (some ⟨p.qb, 0, none⟩)] 47 (0, 0)) := blk_alloc (blk_new w (.cells #[.pointer (some ⟨p.sb, 0, none⟩), .pointer (some ⟨p.qb, 0, none⟩)] 47)) _
 have hbo : ((w.alloc (.cells #[.pointer (some ⟨p.sb, 0, none⟩), .pointer (some ⟨p.qb, 0, none⟩)] 47)).alloc (.cells #[.int .i64 8, .int .i64 on, .int .i64 oa, .int .i64 ob, .string os, .int .i64 pc, .int .i64 pq, .int .i64 ph, .string pt9, .int .i64 mk, .int .i64 mf, .int .i64 mt, .int .i64 mb, .int .i64 ms, .int .i64 mc, .int .i64 mq, .int .i64 mh, .string mx, .slice va vn vc] 38)).heap[w.heap.size + 1]? = some (.cells #[.int .i64 8, .int .i64 on, .int .i64 oa, .int .i64 ob, .string os, .int .i64 pc, .int .i64 pq, .int .i64 ph, .string pt9, .int .i64 mk, .int .i64 mf, .int .i64 mt, .int .i64 mb, .int .i64 ms, .int .i64 mc, .int .i64 mq, .int .i64 mh, .string mx, .slice va vn vc] 38 (0, 0)) := by
  have := blk_new (w.alloc (.cells #[.pointer (some ⟨p.sb, 0, none⟩), .pointer (some ⟨p.qb, 0, none⟩)] 47)) (.cells #[.int .i64 8, .int .i64 on, .int .i64 oa, .int .i64 ob, .string os, .int .i64 pc, .int .i64 pq, .int .i64 ph, .string pt9, .int .i64 mk, .int .i64 mf, .int .i64 mt, .int .i64 mb, .int .i64 ms, .int .i64 mc, .int .i64 mq, .int .i64 mh, .string mx, .slice va vn vc] 38)
  rwa [World.size_alloc] at this
 have hbpc := blk_cell hbp
 have hboc := blk_cell hbo
 have hlt2 := lt_of_block hbo
 go_enter Tryz.func13, Tryz.ntmps13
 go_wp2_with fail
 generalize ((w.alloc (.cells #[.pointer (some ⟨p.sb, 0, none⟩), .pointer (some ⟨p.qb, 0, none⟩)] 47)).alloc (.cells #[.int .i64 8, .int .i64 on, .int .i64 oa, .int .i64 ob, .string os, .int .i64 pc, .int .i64 pq, .int .i64 ph, .string pt9, .int .i64 mk, .int .i64 mf, .int .i64 mt, .int .i64 mb, .int .i64 ms, .int .i64 mc, .int .i64 mq, .int .i64 mh, .string mx, .slice va vn vc] 38)) = w2 at *
 refine (hC _ h2.syn).mono ?_
 rintro e w3 ⟨rfl, hB3⟩
 clear hC hbpc hboc
 have hz3 := hB3.size
 go_upto_region 24 with (fail)
 have hBa : Below w2.heap.size w2 (w3.alloc (.cells #[.int .i64 r0, .int .i64 r1, .int .i64 r2, .int .i64 r3] 85)) := hB3.alloc hz3 _
 have hr3 := blk_new w3 (.cells #[.int .i64 r0, .int .i64 r1, .int .i64 r2, .int .i64 r3] 85)
 generalize w3.alloc (.cells #[.int .i64 r0, .int .i64 r1, .int .i64 r2, .int .i64 r3] 85) = w4 at *
 have hbpc := blk_cell (blk_below hBa hbp)
 have hboc := blk_cell (blk_below hBa hbo)
 have h4 := h2.below hBa
 go_wp2_with fail
 refine (hQ _ h4.ref).mono ?_
 rintro e w5 ⟨rfl, hB5⟩
 clear hQ hbpc hboc
 have hr5 := blk_below hB5 hr3
 have hBw5 : Below w.heap.size w w5 := Below.trans hB2 ((Below.trans hBa (hB5.mono hBa.size)).mono hB2.size)
 go_upto_region 25 with (fail)
 have hBw6 := hBw5.alloc hBw5.size (.cells #[.int .i64 r0, .int .i64 r1, .int .i64 r2, .int .i64 r3] 85)
 have hq6 := blk_new w5 (.cells #[.int .i64 r0, .int .i64 r1, .int .i64 r2, .int .i64 r3] 85)
 have hr6 := blk_alloc hr5 (.cells #[.int .i64 r0, .int .i64 r1, .int .i64 r2, .int .i64 r3] 85)
 generalize w5.alloc (.cells #[.int .i64 r0, .int .i64 r1, .int .i64 r2, .int .i64 r3] 85) = w6 at *
 have hc1 := blk_cell hr6
 have hc2 := blk_cell hq6
 go_wp2_with fail
 refine (num_same n _).mono ?_
 rintro e w7 ⟨rfl, rfl⟩
 go_wp2_with fail
 go_ret
 exact ⟨by simp, hBw6⟩
set_option maxHeartbeats 4000000 in
set_option maxRecDepth 100000 in
theorem told_log {w : World} {wb H : Nat} {d : Wd} {p : Pr} (hW : WAt w wb H d) (h : PAt w p) (o : Opd) (ho : ∃ ao n cap, o.v = .slice ao n cap) (hk : o.k = 6) (hl : d.P.length ≤ 4000000000000) (hb : BothP p 27 28 (fun v => #[v, .int .i64 o.a])) :
  Calls Tryz.prog 13 #[.pointer (some ⟨wb, 0, none⟩), .agg #[.pointer (some ⟨p.sb, 0, none⟩), .pointer (some ⟨p.qb, 0, none⟩)], .agg o.cells.toArray] w fun e w' => e = .returned (.bool true) ∧ WTo w wb H d w' := by
 obtain ⟨l, n, hl16, hC, hQ⟩ := hb
 obtain ⟨ok, on, oa, ob, os, ⟨pc, pq, ph, pt9⟩, ⟨mk, mf, mt, mb, ms, ⟨mc, mq, mh, mx⟩, ma⟩, v⟩ := o
 obtain ⟨va, vn, vc, hve⟩ := ho
 simp only at hve hk
 subst hve hk
 try simp only [pt] at hC hQ
 simp only [Opd.cells]
 have hB2 : Below w.heap.size w ((w.alloc (.cells #[.pointer (some ⟨p.sb, 0, none⟩), .pointer (some ⟨p.qb, 0, none⟩)] 47)).alloc (.cells #[.int .i64 6, .int .i64 on, .int .i64 oa, .int .i64 ob, .string os, .int .i64 pc, .int .i64 pq, .int .i64 ph, .string pt9, .int .i64 mk, .int .i64 mf, .int .i64 mt, .int .i64 mb, .int .i64 ms, .int .i64 mc, .int .i64 mq, .int .i64 mh, .string mx, .slice va vn vc] 38)) := ((Below.refl _ w).alloc (Nat.le_refl _) _).alloc (by simp) _
 have h2 := h.below hB2
 have hbp : ((w.alloc (.cells #[.pointer (some ⟨p.sb, 0, none⟩), .pointer (some ⟨p.qb, 0, none⟩)] 47)).alloc (.cells #[.int .i64 6, .int .i64 on, .int .i64 oa, .int .i64 ob, .string os, .int .i64 pc, .int .i64 pq, .int .i64 ph, .string pt9, .int .i64 mk, .int .i64 mf, .int .i64 mt, .int .i64 mb, .int .i64 ms, .int .i64 mc, .int .i64 mq, .int .i64 mh, .string mx, .slice va vn vc] 38)).heap[w.heap.size]? = some (.cells #[.pointer (some ⟨p.sb, 0, none⟩), .pointer (some ⟨p.qb, 0, none⟩)] 47 (0, 0)) := blk_alloc (blk_new w (.cells #[.pointer (some ⟨p.sb, 0, none⟩), .pointer (some ⟨p.qb, 0, none⟩)] 47)) _
 have hbo : ((w.alloc (.cells #[.pointer (some ⟨p.sb, 0, none⟩), .pointer (some ⟨p.qb, 0, none⟩)] 47)).alloc (.cells #[.int .i64 6, .int .i64 on, .int .i64 oa, .int .i64 ob, .string os, .int .i64 pc, .int .i64 pq, .int .i64 ph, .string pt9, .int .i64 mk, .int .i64 mf, .int .i64 mt, .int .i64 mb, .int .i64 ms, .int .i64 mc, .int .i64 mq, .int .i64 mh, .string mx, .slice va vn vc] 38)).heap[w.heap.size + 1]? = some (.cells #[.int .i64 6, .int .i64 on, .int .i64 oa, .int .i64 ob, .string os, .int .i64 pc, .int .i64 pq, .int .i64 ph, .string pt9, .int .i64 mk, .int .i64 mf, .int .i64 mt, .int .i64 mb, .int .i64 ms, .int .i64 mc, .int .i64 mq, .int .i64 mh, .string mx, .slice va vn vc] 38 (0, 0)) := by
  have := blk_new (w.alloc (.cells #[.pointer (some ⟨p.sb, 0, none⟩), .pointer (some ⟨p.qb, 0, none⟩)] 47)) (.cells #[.int .i64 6, .int .i64 on, .int .i64 oa, .int .i64 ob, .string os, .int .i64 pc, .int .i64 pq, .int .i64 ph, .string pt9, .int .i64 mk, .int .i64 mf, .int .i64 mt, .int .i64 mb, .int .i64 ms, .int .i64 mc, .int .i64 mq, .int .i64 mh, .string mx, .slice va vn vc] 38)
  rwa [World.size_alloc] at this
 have hbpc := blk_cell hbp
 have hboc := blk_cell hbo
 have hlt2 := lt_of_block hbo
 go_enter Tryz.func13, Tryz.ntmps13
 go_wp2_with fail
 generalize ((w.alloc (.cells #[.pointer (some ⟨p.sb, 0, none⟩), .pointer (some ⟨p.qb, 0, none⟩)] 47)).alloc (.cells #[.int .i64 6, .int .i64 on, .int .i64 oa, .int .i64 ob, .string os, .int .i64 pc, .int .i64 pq, .int .i64 ph, .string pt9, .int .i64 mk, .int .i64 mf, .int .i64 mt, .int .i64 mb, .int .i64 ms, .int .i64 mc, .int .i64 mq, .int .i64 mh, .string mx, .slice va vn vc] 38)) = w2 at *
 refine (hC _ h2.syn).mono ?_
 rintro e w3 ⟨v3, rfl, hown3, hB3⟩
 clear hC hbpc hboc
 obtain ⟨a3, c3, hv3, _⟩ := (owns_row hown3).form
 subst hv3
 have hbpc := blk_cell (blk_below hB3 hbp)
 have hboc := blk_cell (blk_below hB3 hbo)
 have h3 := h2.below hB3
 go_wp2_with fail
 refine (hQ _ h3.ref).mono ?_
 rintro e w4 ⟨v4, rfl, hown4, hB4⟩
 clear hQ hbpc hboc
 obtain ⟨a4, c4, hv4, _⟩ := (owns_row hown4).form
 subst hv4
 have hown3' := owns_below hown3 hB4
 have hSa := samePosts_same (psAt_owns (own := fun _ => False) hown3' (by omega) (fun _ _ h => h)) (psAt_owns (own := fun _ => False) hown4 (by omega) (fun _ _ h => h))
 go_wp2_with fail
 refine hSa.mono ?_
 rintro e w5 ⟨rfl, hB5⟩
 clear hSa
 have hB35 : Below w3.heap.size w3 w5 := Below.trans hB4 (hB5.mono hB4.size)
 have hB25 : Below w2.heap.size w2 w5 := Below.trans hB3 (hB35.mono hB3.size)
 have hBw5 : Below w.heap.size w w5 := Below.trans hB2 (hB25.mono hB2.size)
 have hW5 := hW.below hBw5
 have hown5 := owns_below hown3 hB35
 have hHw := hW.base.2.2
 have hPo := posted_any wb H d.wl d.wn d.wv d.wp (.slice a3 l.length c3) l.length (pcells l) d.P w5 hW5.blk hW5.posts.own (owns_base hown5 (by have := hB2.size; omega)) (by omega) (by omega) hW5.base.2.2
 have hge : ∀ g, (Value.slice a3 l.length c3).ownBlock = some g → w.heap.size ≤ g := fun g hg => by have := (World.ownsRow.lt hown3 g hg).1; have := hB2.size; omega
 clear hown3 hown4 hown3'
 go_wp2_with fail
 refine hPo.mono ?_
 rintro e w6 ⟨wp', ua, ub, uc, rfl, hb6, ho6, m0, m1, m2, m3, k6, _, _⟩
 clear hPo
 have kk : Keeps (fun k => k = wb ∨ d.wp.ownBlock = some k) w w6 := Keeps.high (Keeps.ofBelow hBw5) (k6.mono (fun k _ ho => by
  rcases ho with ho | ho | ho
  ·exact .inl (.inl ho)
  ·exact .inr (hge k ho)
  ·exact .inl (.inr ho)))
 have hW6 := hW.post kk hb6 ho6 (n := l.length) (by omega) m0 m1 m2 m3
 have hfin : WTo w wb H d w6 := ⟨_, hW6, Nat.le_refl _, by show d.ps.length ≤ _; omega, by show d.N.length ≤ _; omega, by show d.V.length ≤ _; omega, by show (d.P ++ [_, _, _, _]).length ≤ _; simp, kk.mono (fun k _ ho => by
  rcases ho with ho | ho
  ·exact .inl ho
  ·exact .inr (World.ownsRow.lt hW.posts.own k ho).1)⟩
 clear m0 m1 m2 m3 ho6 hb6 k6 kk hW6 hW5
 go_wp2_with fail
 refine (num_same n _).mono ?_
 rintro e w7 ⟨rfl, rfl⟩
 go_wp2_with fail
 go_ret
 exact ⟨by simp, hfin⟩
set_option maxHeartbeats 4000000 in
set_option maxRecDepth 100000 in
theorem told_chat {w : World} {wb H : Nat} {d : Wd} {p : Pr} (hW : WAt w wb H d) (h : PAt w p) (o : Opd) (ho : ∃ ao n cap, o.v = .slice ao n cap) (hk : o.k = 7) (hl : d.P.length ≤ 4000000000000) (hb : BothP p 31 32 (fun v => #[v, .int .i64 o.a, .int .i64 o.b])) :
  Calls Tryz.prog 13 #[.pointer (some ⟨wb, 0, none⟩), .agg #[.pointer (some ⟨p.sb, 0, none⟩), .pointer (some ⟨p.qb, 0, none⟩)], .agg o.cells.toArray] w fun e w' => e = .returned (.bool true) ∧ WTo w wb H d w' := by
 obtain ⟨l, n, hl16, hC, hQ⟩ := hb
 obtain ⟨ok, on, oa, ob, os, ⟨pc, pq, ph, pt9⟩, ⟨mk, mf, mt, mb, ms, ⟨mc, mq, mh, mx⟩, ma⟩, v⟩ := o
 obtain ⟨va, vn, vc, hve⟩ := ho
 simp only at hve hk
 subst hve hk
 try simp only [pt] at hC hQ
 simp only [Opd.cells]
 have hB2 : Below w.heap.size w ((w.alloc (.cells #[.pointer (some ⟨p.sb, 0, none⟩), .pointer (some ⟨p.qb, 0, none⟩)] 47)).alloc (.cells #[.int .i64 7, .int .i64 on, .int .i64 oa, .int .i64 ob, .string os, .int .i64 pc, .int .i64 pq, .int .i64 ph, .string pt9, .int .i64 mk, .int .i64 mf, .int .i64 mt, .int .i64 mb, .int .i64 ms, .int .i64 mc, .int .i64 mq, .int .i64 mh, .string mx, .slice va vn vc] 38)) := ((Below.refl _ w).alloc (Nat.le_refl _) _).alloc (by simp) _
 have h2 := h.below hB2
 have hbp : ((w.alloc (.cells #[.pointer (some ⟨p.sb, 0, none⟩), .pointer (some ⟨p.qb, 0, none⟩)] 47)).alloc (.cells #[.int .i64 7, .int .i64 on, .int .i64 oa, .int .i64 ob, .string os, .int .i64 pc, .int .i64 pq, .int .i64 ph, .string pt9, .int .i64 mk, .int .i64 mf, .int .i64 mt, .int .i64 mb, .int .i64 ms, .int .i64 mc, .int .i64 mq, .int .i64 mh, .string mx, .slice va vn vc] 38)).heap[w.heap.size]? = some (.cells #[.pointer (some ⟨p.sb, 0, none⟩), .pointer (some ⟨p.qb, 0, none⟩)] 47 (0, 0)) := blk_alloc (blk_new w (.cells #[.pointer (some ⟨p.sb, 0, none⟩), .pointer (some ⟨p.qb, 0, none⟩)] 47)) _
 have hbo : ((w.alloc (.cells #[.pointer (some ⟨p.sb, 0, none⟩), .pointer (some ⟨p.qb, 0, none⟩)] 47)).alloc (.cells #[.int .i64 7, .int .i64 on, .int .i64 oa, .int .i64 ob, .string os, .int .i64 pc, .int .i64 pq, .int .i64 ph, .string pt9, .int .i64 mk, .int .i64 mf, .int .i64 mt, .int .i64 mb, .int .i64 ms, .int .i64 mc, .int .i64 mq, .int .i64 mh, .string mx, .slice va vn vc] 38)).heap[w.heap.size + 1]? = some (.cells #[.int .i64 7, .int .i64 on, .int .i64 oa, .int .i64 ob, .string os, .int .i64 pc, .int .i64 pq, .int .i64 ph, .string pt9, .int .i64 mk, .int .i64 mf, .int .i64 mt, .int .i64 mb, .int .i64 ms, .int .i64 mc, .int .i64 mq, .int .i64 mh, .string mx, .slice va vn vc] 38 (0, 0)) := by
  have := blk_new (w.alloc (.cells #[.pointer (some ⟨p.sb, 0, none⟩), .pointer (some ⟨p.qb, 0, none⟩)] 47)) (.cells #[.int .i64 7, .int .i64 on, .int .i64 oa, .int .i64 ob, .string os, .int .i64 pc, .int .i64 pq, .int .i64 ph, .string pt9, .int .i64 mk, .int .i64 mf, .int .i64 mt, .int .i64 mb, .int .i64 ms, .int .i64 mc, .int .i64 mq, .int .i64 mh, .string mx, .slice va vn vc] 38)
  rwa [World.size_alloc] at this
 have hbpc := blk_cell hbp
 have hboc := blk_cell hbo
 have hlt2 := lt_of_block hbo
 go_enter Tryz.func13, Tryz.ntmps13
 go_wp2_with fail
 generalize ((w.alloc (.cells #[.pointer (some ⟨p.sb, 0, none⟩), .pointer (some ⟨p.qb, 0, none⟩)] 47)).alloc (.cells #[.int .i64 7, .int .i64 on, .int .i64 oa, .int .i64 ob, .string os, .int .i64 pc, .int .i64 pq, .int .i64 ph, .string pt9, .int .i64 mk, .int .i64 mf, .int .i64 mt, .int .i64 mb, .int .i64 ms, .int .i64 mc, .int .i64 mq, .int .i64 mh, .string mx, .slice va vn vc] 38)) = w2 at *
 refine (hC _ h2.syn).mono ?_
 rintro e w3 ⟨v3, rfl, hown3, hB3⟩
 clear hC hbpc hboc
 obtain ⟨a3, c3, hv3, _⟩ := (owns_row hown3).form
 subst hv3
 have hbpc := blk_cell (blk_below hB3 hbp)
 have hboc := blk_cell (blk_below hB3 hbo)
 have h3 := h2.below hB3
 go_wp2_with fail
 refine (hQ _ h3.ref).mono ?_
 rintro e w4 ⟨v4, rfl, hown4, hB4⟩
 clear hQ hbpc hboc
 obtain ⟨a4, c4, hv4, _⟩ := (owns_row hown4).form
 subst hv4
 have hown3' := owns_below hown3 hB4
 have hSa := samePosts_same (psAt_owns (own := fun _ => False) hown3' (by omega) (fun _ _ h => h)) (psAt_owns (own := fun _ => False) hown4 (by omega) (fun _ _ h => h))
 go_wp2_with fail
 refine hSa.mono ?_
 rintro e w5 ⟨rfl, hB5⟩
 clear hSa
 have hB35 : Below w3.heap.size w3 w5 := Below.trans hB4 (hB5.mono hB4.size)
 have hB25 : Below w2.heap.size w2 w5 := Below.trans hB3 (hB35.mono hB3.size)
 have hBw5 : Below w.heap.size w w5 := Below.trans hB2 (hB25.mono hB2.size)
 have hW5 := hW.below hBw5
 have hown5 := owns_below hown3 hB35
 have hHw := hW.base.2.2
 have hPo := posted_any wb H d.wl d.wn d.wv d.wp (.slice a3 l.length c3) l.length (pcells l) d.P w5 hW5.blk hW5.posts.own (owns_base hown5 (by have := hB2.size; omega)) (by omega) (by omega) hW5.base.2.2
 have hge : ∀ g, (Value.slice a3 l.length c3).ownBlock = some g → w.heap.size ≤ g := fun g hg => by have := (World.ownsRow.lt hown3 g hg).1; have := hB2.size; omega
 clear hown3 hown4 hown3'
 go_wp2_with fail
 refine hPo.mono ?_
 rintro e w6 ⟨wp', ua, ub, uc, rfl, hb6, ho6, m0, m1, m2, m3, k6, _, _⟩
 clear hPo
 have kk : Keeps (fun k => k = wb ∨ d.wp.ownBlock = some k) w w6 := Keeps.high (Keeps.ofBelow hBw5) (k6.mono (fun k _ ho => by
  rcases ho with ho | ho | ho
  ·exact .inl (.inl ho)
  ·exact .inr (hge k ho)
  ·exact .inl (.inr ho)))
 have hW6 := hW.post kk hb6 ho6 (n := l.length) (by omega) m0 m1 m2 m3
 have hfin : WTo w wb H d w6 := ⟨_, hW6, Nat.le_refl _, by show d.ps.length ≤ _; omega, by show d.N.length ≤ _; omega, by show d.V.length ≤ _; omega, by show (d.P ++ [_, _, _, _]).length ≤ _; simp, kk.mono (fun k _ ho => by
  rcases ho with ho | ho
  ·exact .inl ho
  ·exact .inr (World.ownsRow.lt hW.posts.own k ho).1)⟩
 clear m0 m1 m2 m3 ho6 hb6 k6 kk hW6 hW5
 go_wp2_with fail
 refine (num_same n _).mono ?_
 rintro e w7 ⟨rfl, rfl⟩
 go_wp2_with fail
 go_ret
 exact ⟨by simp, hfin⟩
end Go.Proofs.YtnnhnekfokbooaaGreatDoor
