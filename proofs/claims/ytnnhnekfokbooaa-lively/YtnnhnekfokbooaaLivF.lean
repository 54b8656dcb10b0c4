/- A run of Lively: the chat with its logs, and what each call makes of it. -/
import Derived.Test.YtnnhnekfokbooaaLivAll
import Derived.Test.YtnnhnekfokbooaaKeeB
import Derived.Test.YtnnhnekfokbooaaKeeC
namespace Go.Proofs.Ytnnhnekfokbooaa
open Go.RowKit
set_option linter.unusedSimpArgs false
set_option linter.unusedVariables false

/-- Blocks that a synod does not own stay as they are. -/
def Spare (w w' : World) : Prop := ∀ (b : Nat) (cs : Array Value) (t : TypeId), ¬ ownT t → w.heap[b]? = some (.cells cs t (0, 0)) → w'.heap[b]? = some (.cells cs t (0, 0))
theorem Spare.below {w w' : World} (hB : Below w.heap.size w w') : Spare w w' := fun b cs t _ h => blk_below hB h
theorem Spare.trans {w w1 w2 : World} (a : Spare w w1) (b : Spare w1 w2) : Spare w w2 := fun k cs t ht h => b k cs t ht (a k cs t ht h)
/-- Where a run stands: the chat, all its logs, nobody decided otherwise. -/
def LR (w0 w : World) (cb sb lb n : Nat) (s : Sy) (ps : List Pst) : Prop :=
  ∃ (L : Lay) (pv : Value) (vs : List Value) (ls : Nat → List Pst), Run w0 w cb sb L s pv (.slice (some ⟨lb, 0, none⟩) n n) ps ∧ s.n = n ∧ w0.heap.size ≤ lb ∧ ¬ cOwn cb sb L n pv lb ∧ LgAt (fun k => cOwn cb sb L n pv k ∨ k = lb) w lb n vs ls ∧ (∀ k, k < n → ls k <+: logOf (s.rep k).dec) ∧ Sound s
section
variable {w0 w w' : World} {cb sb lb n : Nat} {s s' : Sy} {ps ps' : List Pst}
theorem LR.ok (h : LR w0 w cb sb lb n s ps) : s.ok := by obtain ⟨L, pv, vs, ls, hr, _⟩ := h; exact hr.chat.syn.ok
theorem LR.nn (h : LR w0 w cb sb lb n s ps) : s.n = n := by obtain ⟨L, pv, vs, ls, hr, hn, _⟩ := h; exact hn
theorem LR.good (h : LR w0 w cb sb lb n s ps) : Good s ps := by obtain ⟨L, pv, vs, ls, hr, _⟩ := h; exact hr.chat.good
theorem LR.sound (h : LR w0 w cb sb lb n s ps) : Sound s := by obtain ⟨L, pv, vs, ls, hr, hn, _, _, _, _, hs⟩ := h; exact hs
theorem LR.bel (h : LR w0 w cb sb lb n s ps) : Below w0.heap.size w0 w := by obtain ⟨L, pv, vs, ls, hr, _⟩ := h; exact hr.below
theorem LR.c0 (h : LR w0 w cb sb lb n s ps) : w.cell? ⟨cb, 0, none⟩ = some (.pointer (some ⟨sb, 0, none⟩)) := by
  obtain ⟨L, pv, vs, ls, hr, _⟩ := h
  exact (blk_cell hr.chat.blk 0).trans rfl
theorem LR.c1 (h : LR w0 w cb sb lb n s ps) : w.cell? ⟨cb, 1, none⟩ = some (.int .i64 (n : Int)) := by
  obtain ⟨L, pv, vs, ls, hr, hn, _⟩ := h
  exact (blk_cell hr.chat.blk 1).trans (by rw [hn]; rfl)
theorem LR.over (h : LR w0 w cb sb lb n s ps) (hB : Below w.heap.size w w') : LR w0 w' cb sb lb n s ps := by
  obtain ⟨L, pv, vs, ls, hr, hn, hlb, hno, hl, hpre, hs⟩ := h
  exact ⟨L, pv, vs, ls, hr.over hB, hn, hlb, hno, hl.below hB, hpre, hs⟩
theorem LR.start {L : Lay} (hc : ChatAt w cb sb L (newSy n) (.slice none 0 0) (.slice (some ⟨lb, 0, none⟩) n n) []) (hown : ∀ k, cOwn cb sb L n (.slice none 0 0) k → w0.heap.size ≤ k) (hlb : w.heap[lb]? = some (.cells (List.replicate n (Value.slice none 0 0)).toArray 25 (0, 0))) (hlbn : w0.heap.size ≤ lb) (hB : Below w0.heap.size w0 w) : LR w0 w cb sb lb n (newSy n) [] := by
  have hn7 : n ≤ 7 := hc.syn.ok.n1
  refine ⟨L, .slice none 0 0, List.replicate n (.slice none 0 0), fun _ => [], ⟨hc, hown, hB⟩, rfl, hlbn, fun ho => ?_, ⟨hlb, by simp, fun k hk => ?_⟩, fun _ _ => List.nil_prefix, newSy_sound n hn7⟩
  · rcases ho with e | ho | ho
    · have hb := hc.blk
      rw [← e, hlb] at hb; injection hb with e1; injection e1 with _ e1; simp at e1
    · exact hc.syn.not_own hlb (by unfold ownT; decide) ho
    · cases ho
  · rw [List.getD_eq_getElem?_getD, List.getElem?_replicate, if_pos hk]
    exact PsAt.nil _ _
/-- The synod moves. -/
theorem LR.move {L : Lay} {pv : Value} {vs : List Value} {ls : Nat → List Pst} (hr : Run w0 w cb sb L s pv (.slice (some ⟨lb, 0, none⟩) n n) ps) (hn : s.n = n) (hlb : w0.heap.size ≤ lb) (hno : ¬ cOwn cb sb L n pv lb) (hl : LgAt (fun k => cOwn cb sb L n pv k ∨ k = lb) w lb n vs ls) (hpre : ∀ k, k < n → ls k <+: logOf (s.rep k).dec) (hs : Sound s)
    (hto : SynTo w sb L w' s') (hm : Mvs s ps s' ps') (hg : Good s' ps) : LR w0 w' cb sb lb n s' ps ∧ Spare w w' := by
  have hn' : s'.n = s.n := (mvs_log hm).1
  have hgr := (mvs_log hm).2
  obtain ⟨L', h1, e1, o1, k1⟩ := hto
  rw [hn'] at o1 k1
  have hlbl := lt_of_block hl.blk
  have hlbt : ¬ L.own sb s.n lb := fun ho => hno (by rw [← hn]; exact .inr (.inl ho))
  have hrun : Run w0 w' cb sb L' s' pv (.slice (some ⟨lb, 0, none⟩) n n) ps := by
    refine ⟨⟨h1, hg, ?_, owns_keeps hr.chat.posts k1 (fun g hg => hr.chat.pvNot hg)⟩, fun k hk => ?_, Keeps.toBelow hr.below k1 (fun b hb => hr.new b (.inr (.inl hb))) hr.below.size⟩
    · rw [hn']; exact blk_keeps k1 hr.chat.blk hr.chat.cbNot
    · rw [hn'] at hk
      rcases hk with hk | hk | hk
      · exact hr.new k (.inl hk)
      · rcases o1 k hk with h9 | h9
        · exact hr.new k (.inr (.inl h9))
        · have := hr.below.size; omega
      · exact hr.new k (.inr (.inr hk))
  rw [hn] at o1 k1 hgr
  have hno' : ¬ cOwn cb sb L' n pv lb := fun ho => by
    rcases ho with ho | ho | ho
    · exact hno (.inl ho)
    · rcases o1 lb ho with h9 | h9
      · exact hno (.inr (.inl h9))
      · omega
    · exact hno (.inr (.inr ho))
  refine ⟨⟨L', pv, vs, ls, hrun, hn'.trans hn, hlb, hno', ⟨blk_keeps k1 hl.blk (fun h => hno (.inr (.inl h))), hl.len, fun k hk => ?_⟩, fun k hk => List.IsPrefix.trans (hpre k hk) (hgr k hk), mvs_sound hs hm⟩, fun b cs t ht hb => ?_⟩
  · refine ((hl.row k hk).mono (own' := fun k => cOwn cb sb L n pv k ∨ cOwn cb sb L' n pv k ∨ k = lb) ?_).keeps k1 (fun g h9 => .inl (.inr (.inl h9))) |>.mono (fun g _ h9 => .inr h9)
    intro g hg h9
    rcases h9 with h9 | h9 | h9
    · exact .inl h9
    · rcases h9 with h9 | h9 | h9
      · exact .inl (.inl h9)
      · rcases o1 g h9 with h9 | h9
        · exact .inl (.inr (.inl h9))
        · omega
      · exact .inl (.inr (.inr h9))
    · exact .inr h9
  · exact blk_keeps k1 hb (by have := hr.chat.syn.not_own hb ht; rw [hn] at this; exact this)
theorem Good.less {p : Pst} (h : Good s (ps ++ [p])) : Good s ps := ⟨h.fi, by have := h.room; rw [List.length_append] at this; simp at this; omega⟩
theorem LR.calm (h : LR w0 w cb sb lb n s ps) : Calls Try.prog 12 #[.pointer (some ⟨cb, 0, none⟩)] w fun e w' => e = .returned (.bool true) ∧ LR w0 w' cb sb lb n (Sy.settle 20000 s) ps ∧ Mvs s ps (Sy.settle 20000 s) ps ∧ Spare w w' := by
  have hz := settle_empty h.ok
  obtain ⟨L, pv, vs, ls, hr, hn, hlb, hno, hl, hpre, hs⟩ := h
  refine (calm_any hr.chat).mono ?_
  rintro e w' ⟨he, hm, hto⟩
  rw [hz] at he
  obtain ⟨h1, h2⟩ := LR.move hr hn hlb hno hl hpre hs hto hm (goods hr.chat.good hm)
  exact ⟨he, h1, hm, h2⟩
theorem LR.camp (h : LR w0 w cb sb lb n s ps) {r : Nat} (hrn : r < n) : Calls Try.prog 11 #[.pointer (some ⟨sb, 0, none⟩), .int .i64 (r : Int)] w fun e w' => e = .returned (.int .i64 (s.campE r)) ∧ LR w0 w' cb sb lb n (s.campaign r) ps ∧ Spare w w' := by
  obtain ⟨L, pv, vs, ls, hr, hn, hlb, hno, hl, hpre, hs⟩ := h
  have hrs : r < s.n := by rw [hn]; exact hrn
  refine (campaign_yes hr.chat.syn hrs).mono ?_
  rintro e w' ⟨he, hto⟩
  have hm := Mvs.one hr.chat.syn.ok (.camp s ps r hrs)
  obtain ⟨h1, h2⟩ := LR.move hr hn hlb hno hl hpre hs hto hm (goods hr.chat.good hm)
  exact ⟨he, h1, h2⟩
theorem LR.sub (h : LR w0 w cb sb lb n s ps) {r : Nat} (hrn : r < n) (p : Pst) (hp : rightPostB p = true) : Calls Try.prog 14 #[.pointer (some ⟨sb, 0, none⟩), .int .i64 (r : Int), .agg #[.int .i64 p.c, .int .i64 p.q, .int .i64 p.h, .string p.t]] w fun e w' => e = .returned (.int .i64 (s.subE r p)) ∧ LR w0 w' cb sb lb n (s.submit r p) ps ∧ (∃ ps', Mvs s ps (s.submit r p) ps') ∧ Spare w w' := by
  obtain ⟨L, pv, vs, ls, hr, hn, hlb, hno, hl, hpre, hs⟩ := h
  have hrs : r < s.n := by rw [hn]; exact hrn
  refine (submit_yes hr.chat.syn hrs p hp (hr.chat.good.bal hr.chat.syn.ok hrs)).mono ?_
  rintro e w' ⟨he, hto⟩
  have hm := Mvs.one hr.chat.syn.ok (.sub s ps r p hrs hp)
  have hg := goods hr.chat.good hm
  have hg' : Good (s.submit r p) ps := by
    split at hg
    · exact hg.less
    · exact hg
  obtain ⟨h1, h2⟩ := LR.move hr hn hlb hno hl hpre hs hto hm hg'
  exact ⟨he, h1, ⟨_, hm⟩, h2⟩
theorem LR.agrees (h : LR w0 w cb sb lb n s ps) : Calls Try.prog 18 #[.pointer (some ⟨cb, 0, none⟩)] w fun e w' => e = .returned (.bool true) ∧ LR w0 w' cb sb lb n s ps ∧ ∀ (b : Nat) (cs : Array Value), w.heap[b]? = some (.cells cs 33 (0, 0)) → w'.heap[b]? = some (.cells cs 33 (0, 0)) := by
  obtain ⟨L, pv, vs, ls, hr, hn, hlb, hno, hl, hpre, hs⟩ := h
  refine (agrees_any hr hn hlb (by rw [hn]; exact hno) hl hpre hs).mono ?_
  rintro e w' ⟨he, hr', hk, vs', hl'⟩
  refine ⟨he, ⟨L, pv, vs', _, hr', hn, hlb, hno, hl', fun _ _ => List.prefix_refl _, hs⟩, fun b cs hb => blk_keeps hk hb (fun e => ?_)⟩
  rw [e, hl.blk] at hb; injection hb with e1; injection e1 with _ e1; simp at e1
theorem LR.step (h : LR w0 w cb sb lb n s ps) (kd a b : Int) (ha : I64 a) (hb : I64 b) : Calls Try.prog 17 #[.pointer (some ⟨cb, 0, none⟩), .agg #[.int .i64 kd, .int .i64 a, .int .i64 b]] w fun e w' => e = .returned (.bool true) ∧ ∃ s' ps', LR w0 w' cb sb lb n s' ps' := by
  obtain ⟨L, pv, vs, ls, hr, hn, hlb, hno, hl, hpre, hs⟩ := h
  refine (step_syn hr.chat kd a b ha hb).mono ?_
  rintro e w3 ⟨he, s3, ps3, hmv, hto⟩
  obtain ⟨L3, pv3, hr3, hn3, ho3, hk3⟩ := hr.next hto
  have hgr := (mvs_log hmv).2
  have hlbl := lt_of_block hl.blk
  rw [hn] at ho3 hk3 hgr
  have hno3 : ¬ cOwn cb sb L3 n pv3 lb := fun ho => by
    rcases ho3 lb ho with h9 | h9
    · exact hno h9
    · omega
  refine ⟨he, s3, ps3, L3, pv3, vs, ls, hr3, hn3.trans hn, hlb, hno3, ⟨blk_keeps hk3 hl.blk hno, hl.len, fun k hk => ?_⟩, fun k hk => List.IsPrefix.trans (hpre k hk) (hgr k hk), mvs_sound hs hmv⟩
  refine ((hl.row k hk).mono (own' := fun k => cOwn cb sb L n pv k ∨ cOwn cb sb L3 n pv3 k ∨ k = lb) ?_).keeps hk3 (fun g h9 => .inl h9) |>.mono (fun g _ h9 => .inr h9)
  intro g hg h9
  rcases h9 with h9 | h9 | h9
  · exact .inl h9
  · rcases ho3 g h9 with h9 | h9
    · exact .inl h9
    · omega
  · exact .inr h9
theorem LR.log (h : LR w0 w cb sb lb n s ps) {i : Nat} (hi : i < n) : Calls Try.prog 15 #[.pointer (some ⟨sb, 0, none⟩), .int .i64 (i : Int)] w fun e w' => ∃ a c, e = .returned (.tuple #[.slice a (logOf (s.rep i).dec).length c, .int .i64 0]) ∧ w'.ownsRow w.heap.size 38 4 (.slice a (logOf (s.rep i).dec).length c) (logOf (s.rep i).dec).length (pcells (logOf (s.rep i).dec)) ∧ Below w.heap.size w w' := by
  obtain ⟨L, pv, vs, ls, hr, hn, hlb, hno, hl, hpre, hs⟩ := h
  refine (log_yes hr.chat.syn (by rw [hn]; exact hi)).mono ?_
  rintro e w' ⟨v, he, hown, hB⟩
  obtain ⟨a, c, rfl, _⟩ := (owns_row hown).form
  exact ⟨a, c, he, hown, hB⟩
theorem LR.role (h : LR w0 w cb sb lb n s ps) {i : Nat} (hi : i < n) : Calls Try.prog 10 #[.pointer (some ⟨sb, 0, none⟩), .int .i64 (i : Int)] w fun e w' => e = .returned (.tuple #[.agg #[.int .i64 (s.rep i).rl.kind, .int .i64 (s.rep i).rl.bal, .int .i64 (s.rep i).pr, .int .i64 (s.rep i).rl.nxt], .int .i64 0]) ∧ Below w.heap.size w w' := by
  obtain ⟨L, pv, vs, ls, hr, hn, hlb, hno, hl, hpre, hs⟩ := h
  exact role_yes hr.chat.syn (by rw [hn]; exact hi)
end

/-- How long the first k logs are. -/
def lens (s : Sy) (k : Nat) : List Int := (List.range k).map fun i => ((logOf (s.rep i).dec).length : Int)
theorem lens_len (s : Sy) (k : Nat) : (lens s k).length = k := by simp [lens]
theorem lens_succ (s : Sy) (k : Nat) : lens s (k + 1) = lens s k ++ [((logOf (s.rep k).dec).length : Int)] := by
  unfold lens
  rw [List.range_succ, List.map_append]
  rfl
theorem lens_at (s : Sy) {k j : Nat} (h : j < k) : (lens s k)[j]? = some ((logOf (s.rep j).dec).length : Int) := by
  unfold lens
  rw [List.getElem?_map, List.getElem?_range h]
  rfl
theorem Try.infoInt9 : (Try.prog.info? 3).map (fun i => (i.zero, i.size, i.bytes)) = some (some (.int .i64 0), 1, 8) := by kernel_rfl
set_option maxHeartbeats 2000000 in
set_option maxRecDepth 100000 in
theorem LR.lengths {w0 w : World} {cb sb lb n : Nat} {s : Sy} {ps : List Pst} (h : LR w0 w cb sb lb n s ps) : Calls Try.prog 23 #[.pointer (some ⟨cb, 0, none⟩)] w fun e w' => ∃ a c, e = .returned (.slice a n c) ∧ w'.ownsRow w.heap.size 3 1 (.slice a n c) n ((lens s n).map (Value.int .i64)) ∧ Below w.heap.size w w' := by
  obtain ⟨i0, hi, hz0, hz1, hz2⟩ := info_parts Try.infoInt9
  have hn7 : n ≤ 7 := by have := h.ok.n1; rw [h.nn] at this; exact this
  go_enter Try.func23, Try.ntmps23
  go_wp2_with fail
  go_loopw [3, 4] (fun v i wr => ∃ (k : Nat), k ≤ n ∧ i = .int .i64 k ∧ wr.ownsRow w.heap.size 3 1 v k ((lens s k).map (Value.int .i64)) ∧ Below w.heap.size w wr) (fun _ i _ => n - (intOf i).toNat)
  case atStart => exact ⟨0, Nat.zero_le _, rfl, World.ownsRow_nil _ _ _ _, Below.refl _ _⟩
  case round =>
    obtain ⟨k, hk, rfl, hown, hB⟩ := hrel
    obtain ⟨va, vc, rfl, _⟩ := (owns_row hown).form
    have hR := h.over hB
    have d0 := hR.c0
    have d1 := hR.c1
    by_cases hkn : k < n
    · have hLo := hR.log hkn
      have Hs : Hid (lens s (k + 1) = lens s k ++ [((logOf (s.rep k).dec).length : Int)]) := lens_succ s k
      generalize (logOf (s.rep k).dec) = l at *
      have hbd : k + 1 ≤ maxLen ∧ (k + 1) * 8 ≤ 140737488355328 := ⟨by unfold maxLen; omega, by omega⟩
      have h1c : ∀ u ∈ [Value.int .i64 (l.length : Int)], u.oneCell' = true := by
        intro u hu; simp at hu; rcases hu with rfl; rfl
      go_wp2_with fail
      refine hLo.mono ?_
      rintro e w2 ⟨a, c, rfl, hown2, hB2⟩
      clear hLo d0 d1
      have hownA := owns_below hown hB2
      have hBA : Below w.heap.size w w2 := Below.trans hB (hB2.mono hB.size)
      have hz := hBA.size
      go_wp2_with (at_builtin; refine wpList_append_lies _ rfl (.tmp 24) (.tmp 27) 22 rfl w.heap.size 3 i0 _ 1 8 Try.underlying22 hi hz0 hz1 hz2 rfl (by decide) (.slice va k vc) k ((lens s k).map (Value.int .i64)) rfl (owns_alloc hownA _) _ 1 1 [.int .i64 (l.length : Int)] rfl rfl (news_new _ _ (by simp) _ _) h1c (by decide) hbd.1 hbd.2 (by simp; omega) _ rfl ?_; intro g2 cap2 w9 hown9 hgr hat hlt9)
      go_roundw
      case rel =>
        refine ⟨k + 1, by omega, by go_num, ?_, ?_⟩
        · rw [Hs.out, List.map_append]; exact hown9
        · refine (hBA.alloc (by omega) _).trans ⟨hgr.os, hgr.tape, hgr.output, hgr.size, fun b hb => hgr.block b (by simp; omega) (fun e => by have := (World.ownsRow.lt hownA b e.symm).1; omega)⟩
      case measure => simp [intOf]; omega
    · obtain rfl : k = n := by omega
      go_wp2_with fail
      go_ret
      exact ⟨va, vc, rfl, hown, hB⟩
/-- A slice of numbers of our own, read. -/
theorem ints_cell {w : World} {base n c : Nat} {a : Option Addr} {l : List Int} (h : w.ownsRow base 3 1 (.slice a n c) n (l.map (Value.int .i64))) (h0 : 0 < n) : ∃ g, a = some ⟨g, 0, none⟩ ∧ (∃ cs, w.heap[g]? = some (.cells cs 3 (0, 0)) ∧ ∀ (k : Nat) (x : Int), l[k]? = some x → cs[k]? = some (Value.int .i64 x)) := by
  rcases h.2 with ⟨h1, _⟩ | ⟨g, cap, cur, h1, hbg, hg, hnc, hcm, hcs, htake⟩
  · injection h1 with _ e _; omega
  · injection h1 with e1 e2 e3
    subst e1
    refine ⟨g, rfl, cur, hg, fun k x hk => ?_⟩
    have h9 : (l.map (Value.int .i64))[k]? = some (.int .i64 x) := by rw [List.getElem?_map, hk]; rfl
    rw [← htake, List.getElem?_take] at h9
    split at h9
    · rw [Array.getElem?_toList] at h9; exact h9
    · cases h9
theorem led_subE {b : Int} {r next : Nat} {s : Sy} (hok : s.ok) (h : Led b r next s) (p : Pst) : s.subE r p = 0 ∨ s.subE r p = 4 ∨ s.subE r p = 5 := by
  obtain ⟨ps, hrl⟩ := h.role
  have h7 := hok.n1
  unfold Sy.subE
  rw [hrl]
  dsimp only
  split
  · exact .inr (.inl rfl)
  · split
    · exact .inr (.inr rfl)
    · rw [if_pos (by rw [h.net]; simp; omega)]; exact .inl rfl
/-- What a submission of the one that leads makes of all logs. -/
structure Taken (b : Int) (r nx : Nat) (s s' : Sy) (p : Pst) (E : Int) (nx' : Nat) : Prop where
  led : Led b r nx' s'
  le : nx ≤ nx'
  now : (logOf (s'.rep r).dec).length = nx'
  others : ∀ q, q < s.n → (logOf (s.rep q).dec).length = nx → (logOf (s'.rep q).dec).length = nx'
  yes : E = 0 → nx' = nx + 1 ∧ logOf (s'.rep r).dec = logOf (s.rep r).dec ++ [p]
  no : E ≠ 0 → nx' = nx
theorem taken {b : Int} {r nx : Nat} {s : Sy} (hok : s.ok) (hL : Led b r nx s) (hso : Sound s) {ps ps' ps'' : List Pst} (hg : Good s ps) {p : Pst} (hm1 : Mvs s ps (s.submit r p) ps') (hm2 : Mvs (s.submit r p) ps'' (Sy.settle 20000 (s.submit r p)) ps'') (hso' : Sound (Sy.settle 20000 (s.submit r p))) : ∃ nx', Taken b r nx s (Sy.settle 20000 (s.submit r p)) p (s.subE r p) nx' := by
  by_cases hE : s.subE r p = 0
  · have hbal := hg.bal hok hL.rn
    obtain ⟨pp, hrl⟩ := hL.role
    rw [hrl] at hbal
    have hb : 0 ≤ b ∧ b ≤ 8007 := hbal
    have g1 := mvs_log hm1
    have g2 := mvs_log hm2
    obtain ⟨h1, h2, h3⟩ := sub_led hok hL hso hb hE hso' (fun j hj => List.IsPrefix.trans (g1.2 j hj) (g2.2 j (by rw [g1.1]; exact hj)))
    refine ⟨nx + 1, h1, Nat.le_succ _, ?_, h3, fun _ => ⟨rfl, h2⟩, fun h => absurd hE h⟩
    rw [h2, List.length_append, hL.log hok hso]; rfl
  · have e : s.submit r p = s := if_neg hE
    have e2 : Sy.settle 20000 s = s := by
      have : ∀ k : Nat, Sy.settle k s = s := fun k => by
        cases k with
        | zero => rfl
        | succ k => unfold Sy.settle; rw [if_pos hL.net]
      exact this _
    rw [e, e2]
    exact ⟨nx, hL, Nat.le_refl _, hL.log hok hso, fun _ _ h => h, fun h => absurd h hE, fun _ => rfl⟩
end Go.Proofs.Ytnnhnekfokbooaa
