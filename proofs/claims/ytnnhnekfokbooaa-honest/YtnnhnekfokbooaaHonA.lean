/- What Honest needs: Hon, HonB, HonC, HonD, HonE in one (laid by mkhona.py). -/
import Derived.Test.YtnnhnekfokbooaaAgrB
import Derived.Test.YtnnhnekfokbooaaSynP
import Derived.Test.YtnnhnekfokbooaaSynR
import Derived.BigQuiet
namespace Go.Proofs.Ytnnhnekfokbooaa
open Go.RowKit
set_option linter.unusedSimpArgs false
set_option linter.unusedVariables false

section
def RlV (G : Pst → Prop) : Rl → Prop
  | .idle => True
  | .prep _ _ kept => ∀ v ∈ kept, G v.p
  | .lead _ _ ps => ∀ x ∈ ps, G x.p
structure RpV (G : Pst → Prop) (r : Rp) : Prop where
  acc : ∀ v ∈ r.acc, G v.p
  dec : ∀ d ∈ r.dec, G d.p
  rl : RlV G r.rl
def MsV (G : Pst → Prop) (m : Ms) : Prop := G m.p ∧ ∀ v ∈ m.a, G v.p
structure SyV (G : Pst → Prop) (s : Sy) : Prop where
  no : G noPst
  net : ∀ m ∈ s.net, MsV G m
  rep : ∀ r ∈ s.reps, RpV G r
theorem getD_mem {α : Type} (l : List α) (k : Nat) (d : α) : l.getD k d ∈ l ∨ l.getD k d = d := by
  rw [List.getD_eq_getElem?_getD]
  by_cases h : k < l.length
  · rw [List.getElem?_eq_getElem h]; exact .inl (List.getElem_mem h)
  · rw [List.getElem?_eq_none (by omega)]; exact .inr rfl
theorem RlV.mono {G G' : Pst → Prop} (hG : ∀ p, G p → G' p) {l : Rl} (h : RlV G l) : RlV G' l := by
  cases l with
  | idle => trivial
  | prep b t kept => exact fun v hv => hG _ (h v hv)
  | lead b n ps => exact fun v hv => hG _ (h v hv)
theorem SyV.mono {G G' : Pst → Prop} (hG : ∀ p, G p → G' p) {s : Sy} (h : SyV G s) : SyV G' s :=
  ⟨hG _ h.no, fun m hm => ⟨hG _ (h.net m hm).1, fun v hv => hG _ ((h.net m hm).2 v hv)⟩, fun r hr => ⟨fun v hv => hG _ ((h.rep r hr).acc v hv), fun v hv => hG _ ((h.rep r hr).dec v hv), (h.rep r hr).rl.mono hG⟩⟩
variable {G : Pst → Prop} {s : Sy}
theorem noRpV (h : G noPst) : RpV G noRp := ⟨fun v hv => by rw [List.eq_of_mem_replicate hv]; exact h, fun v hv => by rw [List.eq_of_mem_replicate hv]; exact h, trivial⟩
theorem SyV.at (h : SyV G s) (i : Nat) : RpV G (s.rep i) := by
  rcases getD_mem s.reps i noRp with h1 | h1
  · exact h.rep _ h1
  · have h2 : s.rep i = noRp := h1
    rw [h2]; exact noRpV h.no
theorem SyV.put (h : SyV G s) (i : Nat) {r : Rp} (hr : RpV G r) : SyV G (s.put i r) :=
  ⟨h.no, h.net, fun r' hr' => by
    rcases List.mem_or_eq_of_mem_set hr' with h1 | h1
    · exact h.rep _ h1
    · rw [h1]; exact hr⟩
theorem SyV.send (h : SyV G s) (m : Ms) (hm : MsV G m) (f : Nat) (ts : List Nat) : SyV G (s.sendTo m f ts) :=
  ⟨h.no, fun m' hm' => by
    rcases send_mem m f ts s m' hm' with h1 | ⟨t, _, rfl⟩
    · exact h.net _ h1
    · exact hm, fun r hr => by rw [sendTo_reps] at hr; exact h.rep r hr⟩
theorem msgV (h : G noPst) (k b q : Int) {p : Pst} (hp : G p) : MsV G (msg k b q p []) := ⟨hp, fun v hv => by simp [msg] at hv⟩
theorem RpV.yield {r : Rp} (h : RpV G r) (b : Int) : RpV G (r.yield b) := by
  refine ⟨h.acc, h.dec, ?_⟩
  unfold Rp.yield; simp only
  split
  · trivial
  · exact h.rl
theorem RpV.promise {r : Rp} (h : RpV G r) (b : Int) : RpV G (r.promise b) := ⟨h.acc, h.dec, h.rl⟩
theorem RpV.role {r : Rp} (h : RpV G r) {l : Rl} (hl : RlV G l) : RpV G (r.role l) := ⟨h.acc, h.dec, hl⟩
theorem RpV.decide {r : Rp} (h : RpV G r) (k : Nat) {p : Pst} (hp : G p) : RpV G (r.decide k p) :=
  ⟨h.acc, fun d hd => by
    rcases List.mem_or_eq_of_mem_set hd with h1 | h1
    · exact h.dec _ h1
    · rw [h1]; exact hp, h.rl⟩
theorem RpV.accept {r : Rp} (h : RpV G r) (k : Nat) {v : Vt} (hv : G v.p) : RpV G (r.accept k v) :=
  ⟨fun d hd => by
    rcases List.mem_or_eq_of_mem_set hd with h1 | h1
    · exact h.acc _ h1
    · rw [h1]; exact hv, h.dec, h.rl⟩
theorem SyV.obey (h : SyV G s) (i : Nat) (m : Ms) : SyV G (s.obey i m) := by
  unfold Sy.obey
  split
  · exact h.send _ (msgV h.no _ _ _ h.no) _ _
  · exact h.put i (((h.at i).yield m.b).promise m.b)
theorem getPp (h : G noPst) {ps : List Pp} (hp : ∀ x ∈ ps, G x.p) (k : Nat) : G (ps.getD k noPp).p := by
  rcases getD_mem ps k noPp with h1 | h1
  · exact hp _ h1
  · rw [h1]; exact h
theorem setPp {ps : List Pp} (hp : ∀ x ∈ ps, G x.p) (k : Nat) {x : Pp} (hx : G x.p) : ∀ y ∈ ps.set k x, G y.p := fun y hy => by
  rcases List.mem_or_eq_of_mem_set hy with h1 | h1
  · exact hp _ h1
  · rw [h1]; exact hx
theorem SyV.propose (h : SyV G s) (i k : Nat) {p : Pst} (hp : G p) : SyV G (s.propose i k p) := by
  have hr := (h.at i).rl
  unfold Sy.propose
  split
  · rename_i b next ps hrl
    rw [hrl] at hr
    exact (h.put i ((h.at i).role (l := .lead b next (ps.set k ⟨p, (ps.getD k noPp).t⟩)) (setPp hr k hp))).send _ (msgV h.no _ _ _ hp) _ _
  · exact h
theorem getVt (h : G noPst) {l : List Vt} (hp : ∀ x ∈ l, G x.p) (k : Nat) : G (l.getD k noVt).p := by
  rcases getD_mem l k noVt with h1 | h1
  · exact hp _ h1
  · rw [h1]; exact h
theorem SyV.leadTo (h : SyV G s) (i : Nat) {kept : List Vt} (hk : ∀ v ∈ kept, G v.p) : ∀ k, SyV G (s.leadTo i kept k)
  | 0 => h
  | k + 1 => by
    unfold Sy.leadTo
    split
    · exact h.leadTo i hk k
    · exact (h.leadTo i hk k).propose i k (getVt h.no hk k)
theorem keepAllV : ∀ (a : List Vt) {kept : List Vt} (_ : ∀ v ∈ kept, G v.p) (_ : ∀ v ∈ a, G v.p), ∀ v ∈ keepAll kept a, G v.p
  | [], kept, hk, _ => hk
  | u :: a, kept, hk, ha => by
    refine keepAllV a (kept := keep1 kept u) (fun v hv => ?_) (fun v hv => ha v (List.mem_cons_of_mem _ hv))
    rw [keep1_eq] at hv
    split at hv
    · rcases List.mem_or_eq_of_mem_set hv with h1 | h1
      · exact hk _ h1
      · rw [h1]; exact ha u List.mem_cons_self
    · exact hk _ hv
theorem repPp (h : G noPst) : ∀ x ∈ List.replicate 16 noPp, G x.p := fun x hx => by rw [List.eq_of_mem_replicate hx]; exact h
theorem repVt (h : G noPst) : ∀ x ∈ List.replicate 16 noVt, G x.p := fun x hx => by rw [List.eq_of_mem_replicate hx]; exact h
theorem SyV.receive (h : SyV G s) (i : Nat) {m : Ms} (hm : MsV G m) : SyV G (s.receive i m) := by
  unfold Sy.receive
  split
  · unfold Sy.takePrepare
    split
    · exact h.obey i m
    · exact (h.obey i m).send _ ⟨h.no, fun v hv => (h.at i).acc v (List.mem_filter.1 hv).1⟩ _ _
  split
  · have hr := (h.at i).rl
    unfold Sy.takePromise
    split
    · rename_i b t kept hrl
      rw [hrl] at hr
      have hk : ∀ v ∈ keepAll kept m.a, G v.p := keepAllV m.a hr hm.2
      split
      · split
        · have h1 := h.put i ((h.at i).role (l := .prep b (t.add m.f.toNat) (keepAll kept m.a)) hk)
          unfold Sy.lead
          exact (h1.put i ((h1.at i).role (l := .lead b _ _) (repPp h.no))).leadTo i hk _
        · exact h.put i ((h.at i).role (l := .prep b _ _) hk)
      · exact h
    · exact h
  split
  · unfold Sy.takePropose
    split
    · exact h.obey i m
    · have h1 := h.obey i m
      exact (h1.put i ((h1.at i).accept _ (v := ⟨m.s, m.b, m.p⟩) hm.1)).send _ (msgV h.no _ _ _ h.no) _ _
  split
  · have hr := (h.at i).rl
    unfold Sy.takeAccept
    split
    · rename_i b next ps hrl
      rw [hrl] at hr
      split
      · dsimp only
        have hp := getPp h.no hr m.s.toNat
        have hl : RlV G (.lead b next (ps.set m.s.toNat ⟨(ps.getD m.s.toNat noPp).p, (ps.getD m.s.toNat noPp).t.add m.f.toNat⟩)) := setPp hr _ hp
        split
        · exact (h.put i (((h.at i).role hl).decide _ hp)).send _ (msgV h.no _ _ _ hp) _ _
        · exact h.put i ((h.at i).role hl)
      · exact h
    · exact h
  split
  · unfold Sy.takeDecide
    split
    · exact h
    · exact h.put i ((h.at i).decide _ hm.1)
  · unfold Sy.takeRefuse
    exact h.put i ((h.at i).yield _)
theorem SyV.bump {r : Rp} (h : RpV G r) : RpV G r.bump := by
  have hr := h.rl
  unfold Rp.bump
  split
  · rename_i b next ps hrl
    rw [hrl] at hr
    exact h.role (l := .lead b (next + 1) ps) hr
  · exact h
/-- What was taken, and right. -/
def Took (ps : List Pst) (p : Pst) : Prop := p = noPst ∨ (p ∈ ps ∧ rightPostB p = true)
theorem syv_mv {s s' : Sy} {ps ps' : List Pst} (h : SyV (Took ps) s) (m : Mv s ps s' ps') : SyV (Took ps') s' := by
  cases m with
  | camp i hi =>
    unfold Sy.campaign
    split
    · exact (h.put i (((h.at i).promise _).role (l := .prep _ _ _) (repVt h.no))).send _ (msgV h.no _ _ _ h.no) _ _
    · exact h
  | sub i p hi hp =>
    unfold Sy.submit
    split
    · have h' : SyV (Took (ps ++ [p])) s := h.mono (fun q hq => hq.imp id (fun hq => ⟨List.mem_append_left _ hq.1, hq.2⟩))
      have h1 := h'.propose i (s.rep i).next (p := p) (.inr ⟨by simp, hp⟩)
      exact h1.put i (SyV.bump (h1.at i))
    · exact h
  | lose k hk => exact ⟨h.no, fun m hm => h.net m (List.mem_of_mem_eraseIdx hm), h.rep⟩
  | dbl k hk =>
    refine ⟨h.no, fun m hm => ?_, h.rep⟩
    unfold Sy.double Sy.send1 at hm
    simp only at hm
    split at hm
    · rcases List.mem_append.1 hm with h1 | h1
      · exact h.net m h1
      · rw [List.mem_singleton.1 h1]
        exact h.net _ (by rw [List.getD_eq_getElem?_getD, List.getElem?_eq_getElem hk]; exact List.getElem_mem hk)
    · exact h.net m hm
  | crash i hi => exact h.put i ⟨(h.at i).acc, (h.at i).dec, trivial⟩
  | dlv k hk =>
    have hm : MsV (Took ps) (s.net.getD k noMs) := h.net _ (by rw [List.getD_eq_getElem?_getD, List.getElem?_eq_getElem hk]; exact List.getElem_mem hk)
    have h1 : SyV (Took ps) (s.without k) := ⟨h.no, fun m hm => h.net m (List.mem_of_mem_eraseIdx hm), h.rep⟩
    exact h1.receive _ hm
theorem syv_mvs {s s' : Sy} {ps ps' : List Pst} (h : SyV (Took ps) s) (m : Mvs s ps s' ps') : SyV (Took ps') s' := by
  induction m with
  | refl => exact h
  | step _ ok m ih => exact syv_mv (ih h) m
theorem newSy_v (n : Nat) : SyV (Took []) (newSy n) := ⟨.inl rfl, fun m hm => by simp [newSy] at hm, fun r hr => by
  have hr' : r ∈ List.replicate n noRp := hr
  rw [List.eq_of_mem_replicate hr']; exact noRpV (.inl rfl)⟩
theorem SyV.log {ps : List Pst} (h : SyV (Took ps) s) (i : Nat) : ∀ p ∈ logOf (s.rep i).dec, Took ps p := fun p hp => by
  unfold logOf at hp
  obtain ⟨d, hd, rfl⟩ := List.mem_map.1 hp
  exact (h.at i).dec d ((List.takeWhile_sublist _).subset hd)
end

section
def AmongTo (w : World) (l : List Pst) (p : Pst) (e : Ending) (w' : World) : Prop := ∃ r : Bool, e = .returned (.bool r) ∧ (r = true ↔ p ∈ l) ∧ Below w.heap.size w w'
theorem notIn_take {l : List Pst} {p x : Pst} {j : Nat} (h : p ∉ l.take j) (hx : l[j]? = some x) (hne : p ≠ x) : p ∉ l.take (j + 1) := by
  rw [List.take_add_one, hx]
  intro hm
  rcases List.mem_append.1 hm with h1 | h1
  · exact h h1
  · exact hne (by simpa using h1)
set_option maxHeartbeats 1000000 in
set_option maxRecDepth 100000 in
theorem among_any {own : Nat → Prop} {v : Value} {l : List Pst} {w : World} (h : PsAt own w v l) (p : Pst) :
    Calls Try.prog 20 #[v, .agg #[.int .i64 p.c, .int .i64 p.q, .int .i64 p.h, .string p.t]] w (AmongTo w l p) := by
  have hll := h.len
  obtain ⟨pa, ca, rfl, hf⟩ := h.form
  obtain ⟨pc, pq, ph, pT⟩ := p
  have hbx := blk_new w (.cells #[.int .i64 pc, .int .i64 pq, .int .i64 ph, .string pT] 38)
  have hB1 : Below w.heap.size w (w.alloc (.cells #[.int .i64 pc, .int .i64 pq, .int .i64 ph, .string pT] 38)) := (Below.refl _ w).alloc (Nat.le_refl _) _
  go_enter Try.func20, Try.ntmps20
  go_wp2_with fail
  go_loopw [5] (fun i wr => ∃ j : Nat, j ≤ l.length ∧ i = .int .i64 j ∧ (⟨pc, pq, ph, pT⟩ : Pst) ∉ l.take j ∧ Below w.heap.size w wr ∧ wr.heap[w.heap.size]? = some (.cells #[.int .i64 pc, .int .i64 pq, .int .i64 ph, .string pT] 38 (0, 0))) (fun i _ => l.length - (intOf i).toNat)
  case atStart => exact ⟨0, Nat.zero_le _, rfl, by simp, hB1, hbx⟩
  case round =>
    obtain ⟨j, hj, rfl, htk, hB, hb⟩ := hrel
    by_cases hjn : j < l.length
    · obtain ⟨ga, rfl, hga, _, hca⟩ := hf (by intro e; rw [e] at hjn; simp at hjn)
      have q0 : (0 : Int) ≤ (j : Int) := by omega
      have q1 : (j : Int) < (l.length : Int) := by omega
      have ka := fun k hk => (hB.cell (p := ⟨ga, j * 4 + k, none⟩) hga).trans (hca j hjn k hk)
      have xa : l[j]? = some l[j] := List.getElem?_eq_getElem hjn
      generalize l[j] = x at *
      obtain ⟨ac, aq, ah, aT⟩ := x
      have c0 : wr.cell? ⟨ga, j * 4, none⟩ = some (.int .i64 ac) := ka 0 (by decide)
      have c1 : wr.cell? ⟨ga, j * 4 + 1, none⟩ = some (.int .i64 aq) := ka 1 (by decide)
      have c2 : wr.cell? ⟨ga, j * 4 + 2, none⟩ = some (.int .i64 ah) := ka 2 (by decide)
      have c3 : wr.cell? ⟨ga, j * 4 + 3, none⟩ = some (.string aT) := ka 3 (by decide)
      have Hx : Hid (l[j]? = some ⟨ac, aq, ah, aT⟩) := xa
      have Ht : Hid ((⟨pc, pq, ph, pT⟩ : Pst) ∉ l.take j) := htk
      obtain ⟨E, hE⟩ : ∃ E : Bool, E = true ↔ (ac = pc ∧ aq = pq ∧ ah = ph ∧ aT.toList = pT.toList) := ⟨decide (ac = pc ∧ aq = pq ∧ ah = ph ∧ aT.toList = pT.toList), decide_eq_true_iff⟩
      have HE : Hid (E = true ↔ (ac = pc ∧ aq = pq ∧ ah = ph ∧ aT.toList = pT.toList)) := hE
      clear hE ka hca xa htk
      go_wp2_with fail
      refine wp_region_held_drew (S := fun w' => w'.heap[w.heap.size]? = some (.cells #[.int .i64 pc, .int .i64 pq, .int .i64 ph, .string pT] 38 (0, 0)) ∧ w'.cell? ⟨ga, j * 4, none⟩ = some (.int .i64 ac) ∧ w'.cell? ⟨ga, j * 4 + 1, none⟩ = some (.int .i64 aq) ∧ w'.cell? ⟨ga, j * 4 + 2, none⟩ = some (.int .i64 ah) ∧ w'.cell? ⟨ga, j * 4 + 3, none⟩ = some (.string aT)) (by kernel_rfl) (⟨hb, c0, c1, c2, c3⟩) (fun hS => ?_)
      refine wpAnyH_take (i := 0) (v := ?_) rfl (by kernel_rfl) (by kernel_rfl) (by kernel_rfl) (fun _ _ _ h => h) (Or.inl ⟨by kernel_rfl, fun w' hw => ?_⟩) hS ?_
      rotate_left 1
      · obtain ⟨e0, e1, e2, e3, e4⟩ := hw; have e5 := blk_cell e0; go_simp; all_goals with_reducible rfl
      try simp only [Act.put, List.getElem_toArray, List.getElem_cons_zero, List.getElem_cons_succ, List.setIfInBounds_toArray, List.set_cons_zero, List.set_cons_succ]
      refine wpAnyH_take (i := 1) (v := ?_) rfl (by kernel_rfl) (by kernel_rfl) (by kernel_rfl) (fun _ _ _ h => h) (Or.inl ⟨by kernel_rfl, fun w' hw => ?_⟩) hS ?_
      rotate_left 1
      · obtain ⟨e0, e1, e2, e3, e4⟩ := hw; have e5 := blk_cell e0; go_simp; all_goals with_reducible rfl
      try simp only [Act.put, List.getElem_toArray, List.getElem_cons_zero, List.getElem_cons_succ, List.setIfInBounds_toArray, List.set_cons_zero, List.set_cons_succ]
      refine wpAnyH_take (i := 2) (v := ?_) rfl (by kernel_rfl) (by kernel_rfl) (by kernel_rfl) (fun _ _ _ h => h) (Or.inl ⟨by kernel_rfl, fun w' hw => ?_⟩) hS ?_
      rotate_left 1
      · obtain ⟨e0, e1, e2, e3, e4⟩ := hw; have e5 := blk_cell e0; go_simp; all_goals with_reducible rfl
      try simp only [Act.put, List.getElem_toArray, List.getElem_cons_zero, List.getElem_cons_succ, List.setIfInBounds_toArray, List.set_cons_zero, List.set_cons_succ]
      refine wpAnyH_take (i := 3) (v := ?_) rfl (by kernel_rfl) (by kernel_rfl) (by kernel_rfl) (fun _ _ _ h => h) (Or.inl ⟨by kernel_rfl, fun w' hw => ?_⟩) hS ?_
      rotate_left 1
      · obtain ⟨e0, e1, e2, e3, e4⟩ := hw; have e5 := blk_cell e0; go_simp; all_goals with_reducible rfl
      try simp only [Act.put, List.getElem_toArray, List.getElem_cons_zero, List.getElem_cons_succ, List.setIfInBounds_toArray, List.set_cons_zero, List.set_cons_succ]
      refine wpAnyH_take (i := 4) (v := ?_) rfl (by kernel_rfl) (by kernel_rfl) (by kernel_rfl) (fun _ _ _ h => h) (Or.inl ⟨by kernel_rfl, fun w' hw => ?_⟩) hS ?_
      rotate_left 1
      · obtain ⟨e0, e1, e2, e3, e4⟩ := hw; have e5 := blk_cell e0; go_simp; all_goals with_reducible rfl
      try simp only [Act.put, List.getElem_toArray, List.getElem_cons_zero, List.getElem_cons_succ, List.setIfInBounds_toArray, List.set_cons_zero, List.set_cons_succ]
      refine wpAnyH_take (i := 5) (v := .bool E) rfl (by kernel_rfl) (by kernel_rfl) (by kernel_rfl) (fun _ _ _ h => h) (Or.inl ⟨by kernel_rfl, fun w' hw => ?_⟩) hS ?_
      · go_simp
        have hE := HE.out
        by_cases h1 : ac = pc <;> by_cases h2 : aq = pq <;> by_cases h3 : ah = ph <;> by_cases h4 : aT.toList = pT.toList <;> (cases E <;> simp [h1, h2, h3, h4] at hE ⊢)
      try simp only [Act.put, List.getElem_toArray, List.getElem_cons_zero, List.getElem_cons_succ, List.setIfInBounds_toArray, List.set_cons_zero, List.set_cons_succ]
      refine wpAnyH_done (by kernel_rfl) ?_ _
      cases E with
      | true =>
        obtain ⟨rfl, rfl, rfl, h4⟩ := HE.out.1 rfl
        have h5 : aT = pT := bytes_one h4
        subst h5
        clear h4
        go_wp2_with fail
        go_ret
        exact ⟨true, rfl, ⟨fun _ => List.mem_of_getElem? Hx.out, fun _ => rfl⟩, Below.drew hB⟩
      | false =>
        have hne : (⟨pc, pq, ph, pT⟩ : Pst) ≠ ⟨ac, aq, ah, aT⟩ := fun e => by
          injection e with e1 e2 e3 e4
          exact nomatch HE.out.2 ⟨e1.symm, e2.symm, e3.symm, by rw [e4]⟩
        have Hne : Hid ((⟨pc, pq, ph, pT⟩ : Pst) ≠ ⟨ac, aq, ah, aT⟩) := hne
        clear hne
        go_wp2_with fail
        go_roundw
        case rel => exact ⟨j + 1, by omega, by go_num, notIn_take Ht.out Hx.out Hne.out, Below.drew hB, hb⟩
        case measure => simp [intOf]; omega
    · obtain rfl : j = l.length := by omega
      have Ht : Hid ((⟨pc, pq, ph, pT⟩ : Pst) ∉ l.take l.length) := htk
      clear htk
      go_wp2_with fail
      go_ret
      refine ⟨false, rfl, ⟨fun h => (nomatch h), fun h => ?_⟩, hB⟩
      have := Ht.out
      rw [List.take_length] at this
      exact absurd h this
theorem hasName_any (rb cap : Nat) (l : List Pst) (p : Pst) (w : World) (hr : ∀ j (hj : j < l.length), rb < w.heap.size ∧ ∀ k, k < 4 → w.cell? ⟨rb, j * 4 + k, none⟩ = l[j].cells[k]?) (hll : l.length ≤ 1000000) :
    Calls Try.prog 54 #[.slice (some ⟨rb, 0, none⟩) l.length cap, .agg #[.int .i64 p.c, .int .i64 p.q, .int .i64 p.h, .string p.t]] w fun e w' => e = .returned (.bool (l.any (fun d => sameB d p))) ∧ Below w.heap.size w w' := by
  have hbx := blk_new w (.cells #[.int .i64 p.c, .int .i64 p.q, .int .i64 p.h, .string p.t] 38)
  have hB1 : Below w.heap.size w (w.alloc (.cells #[.int .i64 p.c, .int .i64 p.q, .int .i64 p.h, .string p.t] 38)) := (Below.refl _ w).alloc (Nat.le_refl _) _
  have hX := pstHas_any rb w.heap.size cap l p (w.alloc (.cells #[.int .i64 p.c, .int .i64 p.q, .int .i64 p.h, .string p.t] 38)) (fun j hj => ⟨Nat.lt_of_lt_of_le (hr j hj).1 hB1.size, fun k hk => (hB1.cell (p := ⟨rb, j * 4 + k, none⟩) (hr j hj).1).trans ((hr j hj).2 k hk)⟩) hll hbx
  generalize l.any (fun d => sameB d p) = B at *
  go_enter Try.func54, Try.ntmps54
  go_wp2_with fail
  refine hX.mono ?_
  rintro e w2 ⟨rfl, hB⟩
  clear hX
  have hB2 : Below w.heap.size w w2 := Below.trans hB1 (hB.mono hB1.size)
  go_wp2_with fail
  go_ret
  exact ⟨rfl, hB2⟩
end

section
def inChat (ch : Int) (l : List Pst) (k : Nat) (p : Pst) : Bool := p.h == ch && !nothingB p && !(l.take k).any (fun d => sameB d p)
/-- What the first k posts of a log give to a channel. -/
def chatTo (ch : Int) (l : List Pst) : Nat → List Pst
  | 0 => []
  | k + 1 => chatTo ch l k ++ (match l[k]? with | some p => if inChat ch l k p then [p] else [] | none => [])
theorem chatTo_no {ch : Int} {l : List Pst} {k : Nat} (h : ∃ p, l[k]? = some p ∧ inChat ch l k p = false) : chatTo ch l (k + 1) = chatTo ch l k := by
  obtain ⟨p, h1, h2⟩ := h
  simp [chatTo, h1, h2]
theorem chatTo_yes {ch : Int} {l : List Pst} {k : Nat} {p : Pst} (h1 : l[k]? = some p) (h2 : inChat ch l k p = true) : chatTo ch l (k + 1) = chatTo ch l k ++ [p] := by
  simp [chatTo, h1, h2]
theorem chatTo_len (ch : Int) (l : List Pst) : ∀ k, (chatTo ch l k).length ≤ k
  | 0 => by simp [chatTo]
  | k + 1 => by
    have := chatTo_len ch l k
    unfold chatTo
    rw [List.length_append]
    split
    · split <;> simp <;> omega
    · simp; omega
set_option maxHeartbeats 4000000 in
set_option maxRecDepth 100000 in
theorem rchat_any (rb : Nat) (dec : List Dn) (ch : Int) (w : World) (hr : w.rangeAt rb 101 (dcells dec)) (hl : dec.length = 16) :
    Calls Try.prog 39 #[.pointer (some ⟨rb, 0, none⟩), .int .i64 ch] w fun e w' => ∃ v', e = .returned v' ∧ w'.ownsRow w.heap.size 38 4 v' (chatTo ch (logOf dec) (logOf dec).length).length (pcells (chatTo ch (logOf dec) (logOf dec).length)) ∧ Below w.heap.size w w' := by
  obtain ⟨i0, hi, hz0, hz1, hz2⟩ := info_parts Try.infoPost
  have hLo := log_any rb dec w hr hl
  have hll : (logOf dec).length ≤ 16 := by have := log_le dec; omega
  generalize logOf dec = l at *
  go_enter Try.func39, Try.ntmps39
  go_wp2_with fail
  refine hLo.mono ?_
  rintro e w1 ⟨v1, rfl, hown1, hB1⟩
  clear hLo
  have hp1 : PsAt (fun _ => False) w1 v1 l := psAt_owns hown1 (by omega) (fun _ _ h => h)
  have hge : ∀ g, v1.ownBlock = some g → w.heap.size ≤ g := fun g hg => (World.ownsRow.lt hown1 g hg).1
  obtain ⟨a1, c1, rfl, hf1⟩ := hp1.form
  have hcap : l ≠ [] → l.length ≤ c1 := fun hne => by
    rcases hown1.2 with ⟨h1, h0⟩ | ⟨g, cap, cur, h1, hbg, hg, hnc, hcm, hcs, htake⟩
    · cases l with
      | nil => exact absurd rfl hne
      | cons x l => cases h0
    · injection h1 with _ _ h1
      omega
  clear hown1 hp1
  go_wp2_with fail
  go_loopw [5, 13] (fun v i wr => ∃ (k : Nat) (M : List Pst), k ≤ l.length ∧ i = .int .i64 k ∧ M = chatTo ch l k ∧ wr.ownsRow w1.heap.size 38 4 v M.length (pcells M) ∧ Below w1.heap.size w1 wr) (fun _ i _ => l.length - (intOf i).toNat)
  case atStart => exact ⟨0, [], by omega, rfl, rfl, World.ownsRow_nil _ _ _ _, Below.refl _ _⟩
  case round =>
    obtain ⟨k, M, hk, rfl, hM, hown, hB⟩ := hrel
    obtain ⟨va, vn, vc, rfl⟩ := owns_slice1 hown
    have hMl : M.length ≤ 16 := by have := chatTo_len ch l k; rw [hM]; omega
    have HM : Hid (M = chatTo ch l k) := hM
    clear hM
    by_cases hkn : k < l.length
    · have hlne : l ≠ [] := by intro e; rw [e] at hkn; simp at hkn
      have hcap' := hcap hlne
      obtain ⟨g, rfl, hg, _, hc⟩ := hf1 hlne
      have q0 : (0 : Int) ≤ (k : Int) := by omega
      have q1 : (k : Int) < (l.length : Int) := by omega
      have ka := fun j hj => (hB.cell (p := ⟨g, k * 4 + j, none⟩) hg).trans (hc k hkn j hj)
      have xa : l[k]? = some l[k] := List.getElem?_eq_getElem hkn
      have Hpre : Hid (∀ j (hj : j < (l.take k).length), g < w1.heap.size ∧ ∀ q, q < 4 → w1.cell? ⟨g, j * 4 + q, none⟩ = (l.take k)[j].cells[q]?) := fun j hj => ⟨hg, fun q hq => by
        rw [hc j (by rw [List.length_take] at hj; omega) q hq, List.getElem_take]⟩
      generalize l[k] = y at *
      obtain ⟨yc, yq, yh, yt⟩ := y
      have c0 : wr.cell? ⟨g, k * 4, none⟩ = some (.int .i64 yc) := ka 0 (by decide)
      have c1' : wr.cell? ⟨g, k * 4 + 1, none⟩ = some (.int .i64 yq) := ka 1 (by decide)
      have c2 : wr.cell? ⟨g, k * 4 + 2, none⟩ = some (.int .i64 yh) := ka 2 (by decide)
      have c3 : wr.cell? ⟨g, k * 4 + 3, none⟩ = some (.string yt) := ka 3 (by decide)
      have Hy : Hid (l[k]? = some ⟨yc, yq, yh, yt⟩) := xa
      clear ka hc xa hf1
      have hbz := blk_new wr (.cells #[.int .i64 0, .int .i64 0, .int .i64 0, .string ⟨#[]⟩] 38)
      have hzc := blk_cell hbz
      have hzf := blk_free hbz
      have hb8 := blk_new wr (.cells #[.int .i64 yc, .int .i64 yq, .int .i64 yh, .string yt] 38)
      have hw5 : Below wr.heap.size wr (wr.alloc (.cells #[.int .i64 yc, .int .i64 yq, .int .i64 yh, .string yt] 38)) := (Below.refl _ wr).alloc (Nat.le_refl _) _
      have hB5 : Below w1.heap.size w1 (wr.alloc (.cells #[.int .i64 yc, .int .i64 yq, .int .i64 yh, .string yt] 38)) := Below.trans hB (hw5.mono hB.size)
      have hown5 := owns_alloc hown (.cells #[.int .i64 yc, .int .i64 yq, .int .i64 yh, .string yt] 38)
      have hbge : w1.heap.size ≤ wr.heap.size := hB.size
      have hIn := isNothing_any yc yq yh yt (wr.alloc (.cells #[.int .i64 yc, .int .i64 yq, .int .i64 yh, .string yt] 38)).drew
      go_wp2_with fail
      clear hbz hzc hzf c0 c1' c2 c3 hown hB hw5
      generalize wr.alloc (.cells #[.int .i64 yc, .int .i64 yq, .int .i64 yh, .string yt] 38) = w5 at *
      generalize wr.heap.size = b8 at *
      by_cases hh : yh = ch
      · subst hh
        refine wp_region_held_drew (S := fun w' => w'.heap[b8]? = some (.cells #[.int .i64 yc, .int .i64 yq, .int .i64 yh, .string yt] 38 (0, 0))) (by kernel_rfl) (hb8) (fun hS => ?_)
        refine wpAnyH_take (i := 0) (v := ?_) rfl (by kernel_rfl) (by kernel_rfl) (by kernel_rfl) (fun _ _ _ h => h) (Or.inl ⟨by kernel_rfl, fun w' hw => ?_⟩) hS ?_
        rotate_left 1
        · have d1 := blk_cell hw; go_simp; all_goals with_reducible rfl
        try simp only [Act.put, List.getElem_toArray, List.getElem_cons_zero, List.getElem_cons_succ, List.setIfInBounds_toArray, List.set_cons_zero, List.set_cons_succ]
        refine wpAnyH_take (i := 1) (v := ?_) rfl (by kernel_rfl) (by kernel_rfl) (by kernel_rfl) (fun _ _ _ h => h) (Or.inl ⟨by kernel_rfl, fun w' hw => ?_⟩) hS ?_
        rotate_left 1
        · have d1 := blk_cell hw; go_simp; all_goals with_reducible rfl
        try simp only [Act.put, List.getElem_toArray, List.getElem_cons_zero, List.getElem_cons_succ, List.setIfInBounds_toArray, List.set_cons_zero, List.set_cons_succ]
        refine wpAnyH_take (i := 2) (v := ?_) rfl (by kernel_rfl) (by kernel_rfl) (by kernel_rfl) (fun _ _ _ h => h) (Or.inl ⟨by kernel_rfl, fun w' hw => ?_⟩) hS ?_
        rotate_left 1
        · have d1 := blk_cell hw; go_simp; all_goals with_reducible rfl
        try simp only [Act.put, List.getElem_toArray, List.getElem_cons_zero, List.getElem_cons_succ, List.setIfInBounds_toArray, List.set_cons_zero, List.set_cons_succ]
        refine wpAnyH_take (i := 3) (v := ?_) rfl (by kernel_rfl) (by kernel_rfl) (by kernel_rfl) (fun _ _ _ h => h) (Or.inl ⟨by kernel_rfl, fun w' hw => ?_⟩) hS ?_
        rotate_left 1
        · have d1 := blk_cell hw; go_simp; all_goals with_reducible rfl
        try simp only [Act.put, List.getElem_toArray, List.getElem_cons_zero, List.getElem_cons_succ, List.setIfInBounds_toArray, List.set_cons_zero, List.set_cons_succ]
        refine wpAnyH_take (i := 4) (v := ?_) rfl (by kernel_rfl) (by kernel_rfl) (by kernel_rfl) (fun _ _ _ h => h) (Or.inl ⟨by kernel_rfl, fun w' hw => ?_⟩) hS ?_
        rotate_left 1
        · have d1 := blk_cell hw; go_simp; all_goals with_reducible rfl
        try simp only [Act.put, List.getElem_toArray, List.getElem_cons_zero, List.getElem_cons_succ, List.setIfInBounds_toArray, List.set_cons_zero, List.set_cons_succ]
        refine wpAnyH_take (i := 5) (v := ?_) rfl (by kernel_rfl) (by kernel_rfl) (by kernel_rfl) (fun _ _ _ h => h) (Or.inl ⟨by kernel_rfl, fun w' hw => ?_⟩) hS ?_
        rotate_left 1
        · have d1 := blk_cell hw; go_simp; all_goals with_reducible rfl
        try simp only [Act.put, List.getElem_toArray, List.getElem_cons_zero, List.getElem_cons_succ, List.setIfInBounds_toArray, List.set_cons_zero, List.set_cons_succ]
        refine wpAnyH_ready (rs := [6]) (by kernel_rfl) (by simp) ?_
        refine AllReadyH.cons rfl (fun K hK => ?_) AllReadyH.nil
        go_simp
        refine hIn.mono ?_
        rintro e w6 ⟨rfl, hB6⟩
        clear hIn
        have hb6 := blk_below (w := w5.drew) hB6 hb8
        have hown6 := owns_below (w := w5.drew) (owns_drew hown5) hB6
        have hB6' : Below w1.heap.size w1 w6 := Below.trans (Below.drew hB5) (hB6.mono hB5.size)
        have hHas := hasName_any g c1 (l.take k) ⟨yc, yq, yh, yt⟩ w6 (fun j hj => ⟨Nat.lt_of_lt_of_le hg hB6'.size, fun q hq => (hB6'.cell (p := ⟨g, j * 4 + q, none⟩) hg).trans ((Hpre.out j hj).2 q hq)⟩) (by rw [List.length_take]; omega)
        rw [List.length_take, Nat.min_eq_left (by omega)] at hHas
        go_wp2_with fail
        refine hK.out _ _ hb6 (fun hS => ?_)
        clear hK K
        try simp only [Act.put, List.getElem_toArray, List.getElem_cons_zero, List.getElem_cons_succ, List.setIfInBounds_toArray, List.set_cons_zero, List.set_cons_succ]
        cases hN : nothingB ⟨yc, yq, yh, yt⟩ with
        | true =>
          have HC : Hid (∃ p, l[k]? = some p ∧ inChat yh l k p = false) := ⟨_, Hy.out, by simp [inChat, hN]⟩
          have hown7 := hown6
          have hBz := hB6'
          clear hHas
          refine wpAnyH_take (i := 7) (v := ?_) rfl (by kernel_rfl) (by kernel_rfl) (by kernel_rfl) (fun _ _ _ h => h) (Or.inl ⟨by kernel_rfl, fun w' hw => ?_⟩) hS ?_
          rotate_left 1
          · go_simp; all_goals with_reducible rfl
          try simp only [Act.put, List.getElem_toArray, List.getElem_cons_zero, List.getElem_cons_succ, List.setIfInBounds_toArray, List.set_cons_zero, List.set_cons_succ]
          refine wpAnyH_take (i := 8) (v := ?_) rfl (by kernel_rfl) (by kernel_rfl) (by kernel_rfl) (fun _ _ _ h => h) (Or.inl ⟨by kernel_rfl, fun w' hw => ?_⟩) hS ?_
          rotate_left 1
          · go_simp; all_goals with_reducible rfl
          try simp only [Act.put, List.getElem_toArray, List.getElem_cons_zero, List.getElem_cons_succ, List.setIfInBounds_toArray, List.set_cons_zero, List.set_cons_succ]
          refine wpAnyH_take (i := 9) (v := ?_) rfl (by kernel_rfl) (by kernel_rfl) (by kernel_rfl) (fun _ _ _ h => h) (Or.inl ⟨by kernel_rfl, fun w' hw => ?_⟩) hS ?_
          rotate_left 1
          · go_simp; all_goals with_reducible rfl
          try simp only [Act.put, List.getElem_toArray, List.getElem_cons_zero, List.getElem_cons_succ, List.setIfInBounds_toArray, List.set_cons_zero, List.set_cons_succ]
          refine wpAnyH_take (i := 10) (v := undef) rfl (by kernel_rfl) (by kernel_rfl) (by kernel_rfl) (fun _ _ _ h => h) (Or.inr ⟨by kernel_rfl, rfl⟩) hS ?_
          try simp only [Act.put, List.getElem_toArray, List.getElem_cons_zero, List.getElem_cons_succ, List.setIfInBounds_toArray, List.set_cons_zero, List.set_cons_succ]
          refine wpAnyH_take (i := 11) (v := undef) rfl (by kernel_rfl) (by kernel_rfl) (by kernel_rfl) (fun _ _ _ h => h) (Or.inr ⟨by kernel_rfl, rfl⟩) hS ?_
          try simp only [Act.put, List.getElem_toArray, List.getElem_cons_zero, List.getElem_cons_succ, List.setIfInBounds_toArray, List.set_cons_zero, List.set_cons_succ]
          refine wpAnyH_take (i := 12) (v := undef) rfl (by kernel_rfl) (by kernel_rfl) (by kernel_rfl) (fun _ _ _ h => h) (Or.inr ⟨by kernel_rfl, rfl⟩) hS ?_
          try simp only [Act.put, List.getElem_toArray, List.getElem_cons_zero, List.getElem_cons_succ, List.setIfInBounds_toArray, List.set_cons_zero, List.set_cons_succ]
          refine wpAnyH_take (i := 13) (v := undef) rfl (by kernel_rfl) (by kernel_rfl) (by kernel_rfl) (fun _ _ _ h => h) (Or.inr ⟨by kernel_rfl, rfl⟩) hS ?_
          try simp only [Act.put, List.getElem_toArray, List.getElem_cons_zero, List.getElem_cons_succ, List.setIfInBounds_toArray, List.set_cons_zero, List.set_cons_succ]
          refine wpAnyH_take (i := 14) (v := undef) rfl (by kernel_rfl) (by kernel_rfl) (by kernel_rfl) (fun _ _ _ h => h) (Or.inr ⟨by kernel_rfl, rfl⟩) hS ?_
          try simp only [Act.put, List.getElem_toArray, List.getElem_cons_zero, List.getElem_cons_succ, List.setIfInBounds_toArray, List.set_cons_zero, List.set_cons_succ]
          refine wpAnyH_take (i := 15) (v := undef) rfl (by kernel_rfl) (by kernel_rfl) (by kernel_rfl) (fun _ _ _ h => h) (Or.inr ⟨by kernel_rfl, rfl⟩) hS ?_
          try simp only [Act.put, List.getElem_toArray, List.getElem_cons_zero, List.getElem_cons_succ, List.setIfInBounds_toArray, List.set_cons_zero, List.set_cons_succ]
          refine wpAnyH_take (i := 16) (v := ?_) rfl (by kernel_rfl) (by kernel_rfl) (by kernel_rfl) (fun _ _ _ h => h) (Or.inl ⟨by kernel_rfl, fun w' hw => ?_⟩) hS ?_
          rotate_left 1
          · go_simp; all_goals with_reducible rfl
          try simp only [Act.put, List.getElem_toArray, List.getElem_cons_zero, List.getElem_cons_succ, List.setIfInBounds_toArray, List.set_cons_zero, List.set_cons_succ]
          refine wpAnyH_done (by kernel_rfl) ?_ _
          go_wp2_with fail
          go_roundw
          case rel => exact ⟨k + 1, M, by omega, by go_num, by rw [HM.out]; exact (chatTo_no HC.out).symm, hown7, hBz⟩
          case measure => simp [intOf]; omega
        | false =>
          obtain ⟨A, hA⟩ : ∃ A, A = (l.take k).any (fun d => sameB d ⟨yc, yq, yh, yt⟩) := ⟨_, rfl⟩
          rw [← hA] at hHas
          have HA : Hid (A = (l.take k).any (fun d => sameB d ⟨yc, yq, yh, yt⟩)) := hA
          have HN : Hid (nothingB ⟨yc, yq, yh, yt⟩ = false) := hN
          clear hA hN
          have hkc : (k : Int) ≤ (c1 : Int) := by omega
          refine wpAnyH_take (i := 7) (v := ?_) rfl (by kernel_rfl) (by kernel_rfl) (by kernel_rfl) (fun _ _ _ h => h) (Or.inl ⟨by kernel_rfl, fun w' hw => ?_⟩) hS ?_
          rotate_left 1
          · have d1 := blk_cell hw; go_simp; all_goals with_reducible rfl
          try simp only [Act.put, List.getElem_toArray, List.getElem_cons_zero, List.getElem_cons_succ, List.setIfInBounds_toArray, List.set_cons_zero, List.set_cons_succ]
          refine wpAnyH_take (i := 8) (v := ?_) rfl (by kernel_rfl) (by kernel_rfl) (by kernel_rfl) (fun _ _ _ h => h) (Or.inl ⟨by kernel_rfl, fun w' hw => ?_⟩) hS ?_
          rotate_left 1
          · have d1 := blk_cell hw; go_simp; all_goals with_reducible rfl
          try simp only [Act.put, List.getElem_toArray, List.getElem_cons_zero, List.getElem_cons_succ, List.setIfInBounds_toArray, List.set_cons_zero, List.set_cons_succ]
          refine wpAnyH_take (i := 9) (v := ?_) rfl (by kernel_rfl) (by kernel_rfl) (by kernel_rfl) (fun _ _ _ h => h) (Or.inl ⟨by kernel_rfl, fun w' hw => ?_⟩) hS ?_
          rotate_left 1
          · have d1 := blk_cell hw; go_simp; all_goals with_reducible rfl
          try simp only [Act.put, List.getElem_toArray, List.getElem_cons_zero, List.getElem_cons_succ, List.setIfInBounds_toArray, List.set_cons_zero, List.set_cons_succ]
          refine wpAnyH_take (i := 10) (v := ?_) rfl (by kernel_rfl) (by kernel_rfl) (by kernel_rfl) (fun _ _ _ h => h) (Or.inl ⟨by kernel_rfl, fun w' hw => ?_⟩) hS ?_
          rotate_left 1
          · have d1 := blk_cell hw; go_simp; all_goals with_reducible rfl
          try simp only [Act.put, List.getElem_toArray, List.getElem_cons_zero, List.getElem_cons_succ, List.setIfInBounds_toArray, List.set_cons_zero, List.set_cons_succ]
          refine wpAnyH_take (i := 11) (v := ?_) rfl (by kernel_rfl) (by kernel_rfl) (by kernel_rfl) (fun _ _ _ h => h) (Or.inl ⟨by kernel_rfl, fun w' hw => ?_⟩) hS ?_
          rotate_left 1
          · have d1 := blk_cell hw; go_simp; all_goals with_reducible rfl
          try simp only [Act.put, List.getElem_toArray, List.getElem_cons_zero, List.getElem_cons_succ, List.setIfInBounds_toArray, List.set_cons_zero, List.set_cons_succ]
          refine wpAnyH_take (i := 12) (v := ?_) rfl (by kernel_rfl) (by kernel_rfl) (by kernel_rfl) (fun _ _ _ h => h) (Or.inl ⟨by kernel_rfl, fun w' hw => ?_⟩) hS ?_
          rotate_left 1
          · have d1 := blk_cell hw; go_simp; all_goals with_reducible rfl
          try simp only [Act.put, List.getElem_toArray, List.getElem_cons_zero, List.getElem_cons_succ, List.setIfInBounds_toArray, List.set_cons_zero, List.set_cons_succ]
          refine wpAnyH_take (i := 13) (v := ?_) rfl (by kernel_rfl) (by kernel_rfl) (by kernel_rfl) (fun _ _ _ h => h) (Or.inl ⟨by kernel_rfl, fun w' hw => ?_⟩) hS ?_
          rotate_left 1
          · have d1 := blk_cell hw; go_simp; all_goals with_reducible rfl
          try simp only [Act.put, List.getElem_toArray, List.getElem_cons_zero, List.getElem_cons_succ, List.setIfInBounds_toArray, List.set_cons_zero, List.set_cons_succ]
          refine wpAnyH_ready (rs := [14]) (by kernel_rfl) (by simp) ?_
          refine AllReadyH.cons rfl (fun K hK => ?_) AllReadyH.nil
          go_simp
          refine hHas.mono ?_
          rintro e w7 ⟨rfl, hB7⟩
          clear hHas
          have hb7 := blk_below hB7 hb6
          have hown7 := owns_below hown6 hB7
          have hBz : Below w1.heap.size w1 w7 := Below.trans hB6' (hB7.mono hB6'.size)
          go_wp2_with fail
          refine hK.out _ _ hb7 (fun hS => ?_)
          clear hK K
          try simp only [Act.put, List.getElem_toArray, List.getElem_cons_zero, List.getElem_cons_succ, List.setIfInBounds_toArray, List.set_cons_zero, List.set_cons_succ]
          cases A with
          | true =>
            have HC : Hid (∃ p, l[k]? = some p ∧ inChat yh l k p = false) := ⟨_, Hy.out, by simp only [inChat, ← HA.out]; simp⟩
            refine wpAnyH_take (i := 15) (v := ?_) rfl (by kernel_rfl) (by kernel_rfl) (by kernel_rfl) (fun _ _ _ h => h) (Or.inl ⟨by kernel_rfl, fun w' hw => ?_⟩) hS ?_
            rotate_left 1
            · go_simp; all_goals with_reducible rfl
            try simp only [Act.put, List.getElem_toArray, List.getElem_cons_zero, List.getElem_cons_succ, List.setIfInBounds_toArray, List.set_cons_zero, List.set_cons_succ]
            refine wpAnyH_take (i := 16) (v := ?_) rfl (by kernel_rfl) (by kernel_rfl) (by kernel_rfl) (fun _ _ _ h => h) (Or.inl ⟨by kernel_rfl, fun w' hw => ?_⟩) hS ?_
            rotate_left 1
            · go_simp; all_goals with_reducible rfl
            try simp only [Act.put, List.getElem_toArray, List.getElem_cons_zero, List.getElem_cons_succ, List.setIfInBounds_toArray, List.set_cons_zero, List.set_cons_succ]
            refine wpAnyH_done (by kernel_rfl) ?_ _
            go_wp2_with fail
            go_roundw
            case rel => exact ⟨k + 1, M, by omega, by go_num, by rw [HM.out]; exact (chatTo_no HC.out).symm, hown7, hBz⟩
            case measure => simp [intOf]; omega
          | false =>
            have HC : Hid (inChat yh l k ⟨yc, yq, yh, yt⟩ = true) := by show _ = _; simp only [inChat, ← HA.out, HN.out]; simp
            have hbb : M.length + 1 ≤ maxLen ∧ (M.length + 1) * 40 ≤ 140737488355328 := ⟨by unfold maxLen; omega, by omega⟩
            have hz := hBz.size
            have h1c : ∀ u ∈ [Value.int .i64 yc, .int .i64 yq, .int .i64 yh, .string yt], u.oneCell' = true := by
              intro u hu; simp at hu; rcases hu with rfl | rfl | rfl | rfl <;> rfl
            have hbc7 := blk_cell hb7
            refine wpAnyH_take (i := 15) (v := ?_) rfl (by kernel_rfl) (by kernel_rfl) (by kernel_rfl) (fun _ _ _ h => h) (Or.inl ⟨by kernel_rfl, fun w' hw => ?_⟩) hS ?_
            rotate_left 1
            · go_simp; all_goals with_reducible rfl
            try simp only [Act.put, List.getElem_toArray, List.getElem_cons_zero, List.getElem_cons_succ, List.setIfInBounds_toArray, List.set_cons_zero, List.set_cons_succ]
            refine wpAnyH_take (i := 16) (v := ?_) rfl (by kernel_rfl) (by kernel_rfl) (by kernel_rfl) (fun _ _ _ h => h) (Or.inl ⟨by kernel_rfl, fun w' hw => ?_⟩) hS ?_
            rotate_left 1
            · go_simp; all_goals with_reducible rfl
            try simp only [Act.put, List.getElem_toArray, List.getElem_cons_zero, List.getElem_cons_succ, List.setIfInBounds_toArray, List.set_cons_zero, List.set_cons_succ]
            refine wpAnyH_done (by kernel_rfl) ?_ _
            go_wp2_with (at_builtin; refine wpList_append_lies _ rfl (.tmp 35) (.tmp 37) 25 rfl w1.heap.size 38 i0 _ 4 40 Try.underlying25 hi hz0 hz1 hz2 rfl (by decide) (.slice va vn vc) M.length (pcells M) rfl (owns_alloc hown7 _) _ 1 1 [.int .i64 yc, .int .i64 yq, .int .i64 yh, .string yt] rfl rfl (news_new _ _ (by simp) _ _) h1c (by decide) hbb.1 hbb.2 (by simp; omega) _ rfl ?_; intro g2 cap2 w9 hown9 hgr hat hlt9)
            go_roundw
            case rel =>
              refine ⟨k + 1, M ++ [⟨yc, yq, yh, yt⟩], by omega, by go_num, ?_, ?_, ?_⟩
              · rw [HM.out]; exact (chatTo_yes Hy.out HC.out).symm
              · rw [pcells_append, List.length_append]
                simpa [pcells, Pst.cells] using hown9
              · refine (hBz.alloc (by omega) _).trans ⟨hgr.os, hgr.tape, hgr.output, hgr.size, fun b hb => hgr.block b (by simp; omega) (fun e => by have := (World.ownsRow.lt hown7 b e.symm).1; omega)⟩
            case measure => simp [intOf]; omega
      · have HC : Hid (∃ p, l[k]? = some p ∧ inChat ch l k p = false) := ⟨_, Hy.out, by simp [inChat, hh]⟩
        have hh' : (yh == ch) = false := by simpa using hh
        have hown7 := owns_drew hown5
        have hBz := Below.drew hB5
        clear hIn
        refine wp_region_held_drew (S := fun w' => w'.heap[b8]? = some (.cells #[.int .i64 yc, .int .i64 yq, .int .i64 yh, .string yt] 38 (0, 0))) (by kernel_rfl) (hb8) (fun hS => ?_)
        refine wpAnyH_take (i := 0) (v := ?_) rfl (by kernel_rfl) (by kernel_rfl) (by kernel_rfl) (fun _ _ _ h => h) (Or.inl ⟨by kernel_rfl, fun w' hw => ?_⟩) hS ?_
        rotate_left 1
        · have d1 := blk_cell hw; go_simp; all_goals with_reducible rfl
        try simp only [Act.put, List.getElem_toArray, List.getElem_cons_zero, List.getElem_cons_succ, List.setIfInBounds_toArray, List.set_cons_zero, List.set_cons_succ]
        refine wpAnyH_take (i := 1) (v := ?_) rfl (by kernel_rfl) (by kernel_rfl) (by kernel_rfl) (fun _ _ _ h => h) (Or.inl ⟨by kernel_rfl, fun w' hw => ?_⟩) hS ?_
        rotate_left 1
        · have d1 := blk_cell hw; go_simp; all_goals with_reducible rfl
        try simp only [Act.put, List.getElem_toArray, List.getElem_cons_zero, List.getElem_cons_succ, List.setIfInBounds_toArray, List.set_cons_zero, List.set_cons_succ]
        refine wpAnyH_take (i := 2) (v := ?_) rfl (by kernel_rfl) (by kernel_rfl) (by kernel_rfl) (fun _ _ _ h => h) (Or.inl ⟨by kernel_rfl, fun w' hw => ?_⟩) hS ?_
        rotate_left 1
        · have d1 := blk_cell hw; go_simp; all_goals with_reducible rfl
        try simp only [Act.put, List.getElem_toArray, List.getElem_cons_zero, List.getElem_cons_succ, List.setIfInBounds_toArray, List.set_cons_zero, List.set_cons_succ]
        refine wpAnyH_take (i := 3) (v := ?_) rfl (by kernel_rfl) (by kernel_rfl) (by kernel_rfl) (fun _ _ _ h => h) (Or.inl ⟨by kernel_rfl, fun w' hw => ?_⟩) hS ?_
        rotate_left 1
        · have d1 := blk_cell hw; go_simp; all_goals with_reducible rfl
        try simp only [Act.put, List.getElem_toArray, List.getElem_cons_zero, List.getElem_cons_succ, List.setIfInBounds_toArray, List.set_cons_zero, List.set_cons_succ]
        refine wpAnyH_take (i := 4) (v := ?_) rfl (by kernel_rfl) (by kernel_rfl) (by kernel_rfl) (fun _ _ _ h => h) (Or.inl ⟨by kernel_rfl, fun w' hw => ?_⟩) hS ?_
        rotate_left 1
        · have d1 := blk_cell hw; go_simp; all_goals with_reducible rfl
        try simp only [Act.put, List.getElem_toArray, List.getElem_cons_zero, List.getElem_cons_succ, List.setIfInBounds_toArray, List.set_cons_zero, List.set_cons_succ]
        refine wpAnyH_take (i := 5) (v := undef) rfl (by kernel_rfl) (by kernel_rfl) (by kernel_rfl) (fun _ _ _ h => h) (Or.inr ⟨by kernel_rfl, rfl⟩) hS ?_
        try simp only [Act.put, List.getElem_toArray, List.getElem_cons_zero, List.getElem_cons_succ, List.setIfInBounds_toArray, List.set_cons_zero, List.set_cons_succ]
        refine wpAnyH_take (i := 6) (v := undef) rfl (by kernel_rfl) (by kernel_rfl) (by kernel_rfl) (fun _ _ _ h => h) (Or.inr ⟨by kernel_rfl, rfl⟩) hS ?_
        try simp only [Act.put, List.getElem_toArray, List.getElem_cons_zero, List.getElem_cons_succ, List.setIfInBounds_toArray, List.set_cons_zero, List.set_cons_succ]
        refine wpAnyH_take (i := 7) (v := undef) rfl (by kernel_rfl) (by kernel_rfl) (by kernel_rfl) (fun _ _ _ h => h) (Or.inr ⟨by kernel_rfl, rfl⟩) hS ?_
        try simp only [Act.put, List.getElem_toArray, List.getElem_cons_zero, List.getElem_cons_succ, List.setIfInBounds_toArray, List.set_cons_zero, List.set_cons_succ]
        refine wpAnyH_take (i := 8) (v := ?_) rfl (by kernel_rfl) (by kernel_rfl) (by kernel_rfl) (fun _ _ _ h => h) (Or.inl ⟨by kernel_rfl, fun w' hw => ?_⟩) hS ?_
        rotate_left 1
        · go_simp; all_goals with_reducible rfl
        try simp only [Act.put, List.getElem_toArray, List.getElem_cons_zero, List.getElem_cons_succ, List.setIfInBounds_toArray, List.set_cons_zero, List.set_cons_succ]
        refine wpAnyH_take (i := 9) (v := ?_) rfl (by kernel_rfl) (by kernel_rfl) (by kernel_rfl) (fun _ _ _ h => h) (Or.inl ⟨by kernel_rfl, fun w' hw => ?_⟩) hS ?_
        rotate_left 1
        · go_simp; all_goals with_reducible rfl
        try simp only [Act.put, List.getElem_toArray, List.getElem_cons_zero, List.getElem_cons_succ, List.setIfInBounds_toArray, List.set_cons_zero, List.set_cons_succ]
        refine wpAnyH_take (i := 10) (v := undef) rfl (by kernel_rfl) (by kernel_rfl) (by kernel_rfl) (fun _ _ _ h => h) (Or.inr ⟨by kernel_rfl, rfl⟩) hS ?_
        try simp only [Act.put, List.getElem_toArray, List.getElem_cons_zero, List.getElem_cons_succ, List.setIfInBounds_toArray, List.set_cons_zero, List.set_cons_succ]
        refine wpAnyH_take (i := 11) (v := undef) rfl (by kernel_rfl) (by kernel_rfl) (by kernel_rfl) (fun _ _ _ h => h) (Or.inr ⟨by kernel_rfl, rfl⟩) hS ?_
        try simp only [Act.put, List.getElem_toArray, List.getElem_cons_zero, List.getElem_cons_succ, List.setIfInBounds_toArray, List.set_cons_zero, List.set_cons_succ]
        refine wpAnyH_take (i := 12) (v := undef) rfl (by kernel_rfl) (by kernel_rfl) (by kernel_rfl) (fun _ _ _ h => h) (Or.inr ⟨by kernel_rfl, rfl⟩) hS ?_
        try simp only [Act.put, List.getElem_toArray, List.getElem_cons_zero, List.getElem_cons_succ, List.setIfInBounds_toArray, List.set_cons_zero, List.set_cons_succ]
        refine wpAnyH_take (i := 13) (v := undef) rfl (by kernel_rfl) (by kernel_rfl) (by kernel_rfl) (fun _ _ _ h => h) (Or.inr ⟨by kernel_rfl, rfl⟩) hS ?_
        try simp only [Act.put, List.getElem_toArray, List.getElem_cons_zero, List.getElem_cons_succ, List.setIfInBounds_toArray, List.set_cons_zero, List.set_cons_succ]
        refine wpAnyH_take (i := 14) (v := undef) rfl (by kernel_rfl) (by kernel_rfl) (by kernel_rfl) (fun _ _ _ h => h) (Or.inr ⟨by kernel_rfl, rfl⟩) hS ?_
        try simp only [Act.put, List.getElem_toArray, List.getElem_cons_zero, List.getElem_cons_succ, List.setIfInBounds_toArray, List.set_cons_zero, List.set_cons_succ]
        refine wpAnyH_take (i := 15) (v := undef) rfl (by kernel_rfl) (by kernel_rfl) (by kernel_rfl) (fun _ _ _ h => h) (Or.inr ⟨by kernel_rfl, rfl⟩) hS ?_
        try simp only [Act.put, List.getElem_toArray, List.getElem_cons_zero, List.getElem_cons_succ, List.setIfInBounds_toArray, List.set_cons_zero, List.set_cons_succ]
        refine wpAnyH_take (i := 16) (v := ?_) rfl (by kernel_rfl) (by kernel_rfl) (by kernel_rfl) (fun _ _ _ h => h) (Or.inl ⟨by kernel_rfl, fun w' hw => ?_⟩) hS ?_
        rotate_left 1
        · go_simp; all_goals with_reducible rfl
        try simp only [Act.put, List.getElem_toArray, List.getElem_cons_zero, List.getElem_cons_succ, List.setIfInBounds_toArray, List.set_cons_zero, List.set_cons_succ]
        refine wpAnyH_done (by kernel_rfl) ?_ _
        go_wp2_with fail
        go_roundw
        case rel => exact ⟨k + 1, M, by omega, by go_num, by rw [HM.out]; exact (chatTo_no HC.out).symm, hown7, hBz⟩
        case measure => simp [intOf]; omega
    · obtain rfl : k = l.length := by omega
      go_wp2_with fail
      go_ret
      refine ⟨_, rfl, ?_, Below.trans hB1 (hB.mono hB1.size)⟩
      rw [← HM.out]
      exact owns_base hown hB1.size
theorem chat_yes {w : World} {sb : Nat} {L : Lay} {s : Sy} (h : SynAt w sb L s) {i : Nat} (hi : i < s.n) (ch : Int) (h0 : 0 ≤ ch) (h1 : ch < 4) :
    Calls Try.prog 19 #[.pointer (some ⟨sb, 0, none⟩), .int .i64 (i : Int), .int .i64 ch] w fun e w' => ∃ v', e = .returned (.tuple #[v', .int .i64 0]) ∧ w'.ownsRow w.heap.size 38 4 v' (chatTo ch (logOf (s.rep i).dec) (logOf (s.rep i).dec).length).length (pcells (chatTo ch (logOf (s.rep i).dec) (logOf (s.rep i).dec).length)) ∧ Below w.heap.size w w' := by
  have hF := find_yes h hi
  have hL := rchat_any (L.rb i) (s.rep i).dec ch w (h.decs hi) (h.ok.repOk hi).dec
  go_enter Try.func19, Try.ntmps19
  go_wp2_with fail
  refine hF.mono ?_
  rintro e w2 ⟨rfl, hw2⟩
  have hw2' := hw2.symm
  subst hw2'
  clear hF hw2
  go_wp2_with fail
  refine hL.mono ?_
  rintro e w2 ⟨v', rfl, hown, hB⟩
  clear hL
  go_wp2_with fail
  go_ret2
  exact ⟨v', rfl, hown, hB⟩
end

section
def unlike (d p : Pst) : Bool := d.c != p.c || d.q != p.q
def firstTo (l : List Pst) (p : Pst) (j : Nat) : Bool := p.c != 0 && (l.take j).all (fun d => unlike d p)
/-- The first of each name among the first k posts. -/
def wantTo (l : List Pst) : Nat → List Pst
  | 0 => []
  | k + 1 => wantTo l k ++ (match l[k]? with | some p => if firstTo l p k then [p] else [] | none => [])
theorem wantTo_no {l : List Pst} {k : Nat} {p : Pst} (h1 : l[k]? = some p) (h2 : false = firstTo l p k) : wantTo l (k + 1) = wantTo l k := by
  simp [wantTo, h1, ← h2]
theorem wantTo_yes {l : List Pst} {k : Nat} {p : Pst} (h1 : l[k]? = some p) (h2 : true = firstTo l p k) : wantTo l (k + 1) = wantTo l k ++ [p] := by
  simp [wantTo, h1, ← h2]
theorem wantTo_len (l : List Pst) : ∀ k, (wantTo l k).length ≤ k
  | 0 => by simp [wantTo]
  | k + 1 => by
    have := wantTo_len l k
    unfold wantTo
    rw [List.length_append]
    split
    · split <;> simp <;> omega
    · simp; omega
theorem firstTo_next {l : List Pst} {p d : Pst} {j : Nat} (h : l[j]? = some d) : firstTo l p (j + 1) = (firstTo l p j && unlike d p) := by
  unfold firstTo
  rw [List.take_add_one, h]
  simp [Bool.and_assoc]
theorem drewN_heap (w : World) : ∀ k, (w.drewN k).heap = w.heap
  | 0 => rfl
  | k + 1 => drewN_heap _ k
theorem owns_drewN {w : World} {base : Nat} {e : TypeId} {size : Nat} {v : Value} {n : Nat} {xs : List Value} (h : w.ownsRow base e size v n xs) (k : Nat) : (w.drewN k).ownsRow base e size v n xs := owns_below h (below_drewN (Below.refl _ _) k)
set_option maxHeartbeats 4000000 in
set_option maxRecDepth 100000 in
theorem chosen_any {oa ob : Nat → Prop} {vl va : Value} {l all : List Pst} {w : World} (hl : PsAt oa w vl l) (ha : PsAt ob w va all) (h16 : l.length ≤ 16) (hlen : (wantTo l l.length).length = all.length) (hmem : ∀ p ∈ wantTo l l.length, p ∈ all) :
    Calls Try.prog 21 #[vl, va] w fun e w' => e = .returned (.bool true) ∧ Below w.heap.size w w' := by
  obtain ⟨i0, hi, hz0, hz1, hz2⟩ := info_parts Try.infoPost
  obtain ⟨pl, cl, rfl, hfl⟩ := hl.form
  have Ha : Hid (PsAt ob w va all) := ha
  have hav := ha.form
  obtain ⟨pa, ca, rfl, _⟩ := hav
  clear ha hl
  have Hlen : Hid ((wantTo l l.length).length = all.length) := hlen
  have Hmem : Hid (∀ p ∈ wantTo l l.length, p ∈ all) := hmem
  clear hlen hmem
  go_enter Try.func21, Try.ntmps21
  go_wp2_with fail
  go_loopw [5, 6] (fun v i wr => ∃ (k : Nat) (M : List Pst), k ≤ l.length ∧ i = .int .i64 k ∧ M = wantTo l k ∧ wr.ownsRow w.heap.size 38 4 v M.length (pcells M) ∧ Below w.heap.size w wr) (fun _ i _ => l.length - (intOf i).toNat)
  case atStart => exact ⟨0, [], by omega, rfl, rfl, World.ownsRow_nil _ _ _ _, Below.refl _ _⟩
  case round =>
    obtain ⟨k, M, hk, rfl, hM, hown, hB⟩ := hrel
    obtain ⟨va5, vn, vc, rfl⟩ := owns_slice1 hown
    have hMl : M.length ≤ 16 := by have := wantTo_len l k; rw [hM]; omega
    have HM : Hid (M = wantTo l k) := hM
    clear hM
    by_cases hkn : k < l.length
    · obtain ⟨g, rfl, hg, _, hc⟩ := hfl (by intro e; rw [e] at hkn; simp at hkn)
      have q0 : (0 : Int) ≤ (k : Int) := by omega
      have q1 : (k : Int) < (l.length : Int) := by omega
      have Hc : Hid (∀ j (hj : j < l.length), ∀ k, k < 4 → w.cell? ⟨g, j * 4 + k, none⟩ = l[j].cells[k]?) := hc
      have ka := fun (W : World) (hW : Below w.heap.size w W) (j : Nat) (hj : j < 4) => (hW.cell (p := ⟨g, k * 4 + j, none⟩) hg).trans (hc k hkn j hj)
      have xa : l[k]? = some l[k] := List.getElem?_eq_getElem hkn
      generalize l[k] = y at *
      obtain ⟨yc, yq, yh, yt⟩ := y
      have Hy : Hid (l[k]? = some ⟨yc, yq, yh, yt⟩) := xa
      have Hk : Hid (∀ (W : World), Below w.heap.size w W → ∀ (j : Nat), j < 4 → W.cell? ⟨g, k * 4 + j, none⟩ = (Pst.mk yc yq yh yt).cells[j]?) := ka
      have c0 : wr.cell? ⟨g, k * 4, none⟩ = some (.int .i64 yc) := ka wr hB 0 (by decide)
      clear ka hc xa hfl
      go_wp2_with fail
      clear c0
      go_loopw [7, 8] (fun f i w2 => ∃ (j : Nat) (b : Bool), j ≤ k ∧ i = .int .i64 j ∧ f = .bool b ∧ b = firstTo l ⟨yc, yq, yh, yt⟩ j ∧ w2.ownsRow w.heap.size 38 4 (.slice va5 vn vc) M.length (pcells M) ∧ Below w.heap.size w w2) (fun _ i _ => k - (intOf i).toNat)
      case atStart => exact ⟨0, yc != 0, Nat.zero_le _, rfl, rfl, by simp [firstTo], hown, hB⟩
      case round =>
        obtain ⟨j, b, hj, rfl, rfl, hb, hown2, hB2⟩ := hrel
        have Hb : Hid (b = firstTo l ⟨yc, yq, yh, yt⟩ j) := hb
        clear hb
        have c0 : wr.cell? ⟨g, k * 4, none⟩ = some (.int .i64 yc) := Hk.out wr hB2 0 (by decide)
        have c1 : wr.cell? ⟨g, k * 4 + 1, none⟩ = some (.int .i64 yq) := Hk.out wr hB2 1 (by decide)
        have c2 : wr.cell? ⟨g, k * 4 + 2, none⟩ = some (.int .i64 yh) := Hk.out wr hB2 2 (by decide)
        have c3 : wr.cell? ⟨g, k * 4 + 3, none⟩ = some (.string yt) := Hk.out wr hB2 3 (by decide)
        by_cases hjk : j < k
        · have hjl : j < l.length := by omega
          have r0 : (0 : Int) ≤ (j : Int) := by omega
          have r1 : (j : Int) < (l.length : Int) := by omega
          have kd := fun q hq => (hB2.cell (p := ⟨g, j * 4 + q, none⟩) hg).trans (Hc.out j hjl q hq)
          have xd : l[j]? = some l[j] := List.getElem?_eq_getElem hjl
          generalize l[j] = d at *
          obtain ⟨dc, dq, dh, dt⟩ := d
          have d0 : wr.cell? ⟨g, j * 4, none⟩ = some (.int .i64 dc) := kd 0 (by decide)
          have d1 : wr.cell? ⟨g, j * 4 + 1, none⟩ = some (.int .i64 dq) := kd 1 (by decide)
          have Hd : Hid (l[j]? = some ⟨dc, dq, dh, dt⟩) := xd
          clear kd xd
          have Hn : Hid (firstTo l ⟨yc, yq, yh, yt⟩ (j + 1) = (firstTo l ⟨yc, yq, yh, yt⟩ j && unlike ⟨dc, dq, dh, dt⟩ ⟨yc, yq, yh, yt⟩)) := firstTo_next Hd.out
          clear c2 c3
          cases b with
          | false =>
            have Hf : Hid (false = firstTo l ⟨yc, yq, yh, yt⟩ (j + 1)) := by show _ = _; rw [Hn.out, ← Hb.out]; rfl
            go_wp2_with fail
            go_quiet (fail)
            go_wp2_with fail
            go_roundw
            case rel => exact ⟨j + 1, false, by omega, by go_num, rfl, Hf.out, owns_drewN hown2 _, below_drewN hB2 _⟩
            case measure => simp [intOf]; omega
          | true =>
            by_cases e1 : dc = yc
            · by_cases e2 : dq = yq
              · have Hf : Hid (false = firstTo l ⟨yc, yq, yh, yt⟩ (j + 1)) := by show _ = _; rw [Hn.out, ← Hb.out]; simp [unlike, e1, e2]
                subst e1 e2
                have m1 : (dc != dc) = false := by simp
                have m2 : (dq != dq) = false := by simp
                go_wp2_with fail
                go_quiet (fail)
                go_wp2_with fail
                go_roundw
                case rel => exact ⟨j + 1, false, by omega, by go_num, rfl, Hf.out, owns_drewN hown2 _, below_drewN hB2 _⟩
                case measure => simp [intOf]; omega
              · have Hf : Hid (true = firstTo l ⟨yc, yq, yh, yt⟩ (j + 1)) := by show _ = _; rw [Hn.out, ← Hb.out]; simp [unlike, e2]
                subst e1
                have m1 : (dc != dc) = false := by simp
                have m2 : (dq != yq) = true := by simpa using e2
                go_wp2_with fail
                go_quiet (fail)
                go_wp2_with fail
                go_roundw
                case rel => exact ⟨j + 1, true, by omega, by go_num, rfl, Hf.out, owns_drewN hown2 _, below_drewN hB2 _⟩
                case measure => simp [intOf]; omega
            · have Hf : Hid (true = firstTo l ⟨yc, yq, yh, yt⟩ (j + 1)) := by show _ = _; rw [Hn.out, ← Hb.out]; simp [unlike, e1]
              have m1 : (dc != yc) = true := by simpa using e1
              go_wp2_with fail
              go_quiet (fail)
              go_wp2_with fail
              go_roundw
              case rel => exact ⟨j + 1, true, by omega, by go_num, rfl, Hf.out, owns_drewN hown2 _, below_drewN hB2 _⟩
              case measure => simp [intOf]; omega
        · obtain rfl : j = k := by omega
          have hbb : M.length + 1 ≤ maxLen ∧ (M.length + 1) * 40 ≤ 140737488355328 := ⟨by unfold maxLen; omega, by omega⟩
          have hz := hB2.size
          have h1c : ∀ u ∈ [Value.int .i64 yc, .int .i64 yq, .int .i64 yh, .string yt], u.oneCell' = true := by
            intro u hu; simp at hu; rcases hu with rfl | rfl | rfl | rfl <;> rfl
          cases b with
          | false =>
            go_wp2_with fail
            go_roundw
            case rel => exact ⟨j + 1, M, by omega, by go_num, by rw [HM.out]; exact (wantTo_no Hy.out Hb.out).symm, hown2, hB2⟩
            case measure => simp [intOf]; omega
          | true =>
            go_wp2_with (at_builtin; refine wpList_append_lies _ rfl (.tmp 56) (.tmp 61) 25 rfl w.heap.size 38 i0 _ 4 40 Try.underlying25 hi hz0 hz1 hz2 rfl (by decide) (.slice va5 vn vc) M.length (pcells M) rfl (owns_alloc hown2 _) _ 1 1 [.int .i64 yc, .int .i64 yq, .int .i64 yh, .string yt] rfl rfl (news_new _ _ (by simp) _ _) h1c (by decide) hbb.1 hbb.2 (by simp; omega) _ rfl ?_; intro g2 cap2 w9 hown9 hgr hat hlt9)
            go_roundw
            case rel =>
              refine ⟨j + 1, M ++ [⟨yc, yq, yh, yt⟩], by omega, by go_num, ?_, ?_, ?_⟩
              · rw [HM.out]; exact (wantTo_yes Hy.out Hb.out).symm
              · rw [pcells_append, List.length_append]
                simpa [pcells, Pst.cells] using hown9
              · refine (hB2.alloc (by omega) _).trans ⟨hgr.os, hgr.tape, hgr.output, hgr.size, fun b hb => hgr.block b (by simp; omega) (fun e => by have := (World.ownsRow.lt hown2 b e.symm).1; omega)⟩
            case measure => simp [intOf]; omega
    · obtain rfl : k = l.length := by omega
      have hM := HM.out
      have hPM := psAt_owns (own := fun _ => False) hown (by omega) (fun _ _ h => h)
      obtain ⟨pm, cm, hve, hfm⟩ := hPM.form
      injection hve with e1 e2 e3
      subst e1 e2 e3
      clear hfm hown
      have hla : M.length = all.length := by rw [hM]; exact Hlen.out
      have HM2 : Hid (∀ p ∈ M, p ∈ all) := by intro p hp; rw [hM] at hp; exact Hmem.out p hp
      have HA : Hid (PsAt ob w (.slice pa M.length ca) all) := by have := Ha.out; rw [← hla] at this; exact this
      have hm0 := hMl
      clear hM HM Ha
      rw [← hla]
      clear hla
      go_wp2_with fail
      go_loopw [9] (fun i w2 => ∃ (k : Nat), k ≤ M.length ∧ i = .int .i64 k ∧ Below w.heap.size w w2 ∧ PsAt (fun _ => False) w2 (.slice va5 M.length vc) M) (fun i _ => M.length - (intOf i).toNat)
      case atStart => exact ⟨0, by omega, rfl, hB, hPM⟩
      case round =>
        obtain ⟨q, hq, rfl, hB2, hP2⟩ := hrel
        by_cases hqn : q < M.length
        · obtain ⟨pm, cm, hve, hfm⟩ := hP2.form
          injection hve with e1 e2 e3
          subst e1 e3
          obtain ⟨g, rfl, hg, _, hc⟩ := hfm (by intro e; rw [e] at hqn; simp at hqn)
          have q0 : (0 : Int) ≤ (q : Int) := by omega
          have q1 : (q : Int) < (M.length : Int) := by omega
          have ka := hc q hqn
          have hin : M[q] ∈ all := HM2.out _ (List.getElem_mem hqn)
          generalize M[q] = y at *
          obtain ⟨yc, yq, yh, yt⟩ := y
          have c0 : wr.cell? ⟨g, q * 4, none⟩ = some (.int .i64 yc) := ka 0 (by decide)
          have c1 : wr.cell? ⟨g, q * 4 + 1, none⟩ = some (.int .i64 yq) := ka 1 (by decide)
          have c2 : wr.cell? ⟨g, q * 4 + 2, none⟩ = some (.int .i64 yh) := ka 2 (by decide)
          have c3 : wr.cell? ⟨g, q * 4 + 3, none⟩ = some (.string yt) := ka 3 (by decide)
          have Hin : Hid ((⟨yc, yq, yh, yt⟩ : Pst) ∈ all) := hin
          have hAm := among_any (HA.out.keeps (w' := wr) (Q := fun _ => False) ⟨hB2.os, hB2.tape, hB2.output, hB2.size, fun k hk _ => hB2.block k hk⟩ (fun g h9 => h9.elim)) ⟨yc, yq, yh, yt⟩
          clear ka hc hfm hin
          go_wp2_with fail
          refine hAm.mono ?_
          rintro e w6 ⟨r, rfl, hiff, hB6⟩
          obtain rfl : r = true := hiff.2 Hin.out
          clear hAm hiff
          have hB7 : Below w.heap.size w w6 := Below.trans hB2 (hB6.mono hB2.size)
          have hP7 := hP2.keeps (Keeps.ofBelow (P := fun _ => False) hB6) (fun _ h => h.elim)
          go_wp2_with fail
          go_roundw
          case rel => exact ⟨q + 1, by omega, by go_num, hB7, hP7⟩
          case measure => simp [intOf]; omega
        · obtain rfl : q = M.length := by omega
          go_wp2_with fail
          go_ret
          exact ⟨rfl, hB2⟩
end

section
theorem took_c {ps : List Pst} {p : Pst} (h : Took ps p) : (!nothingB p) = (p.c != 0) ∧ (p.c ≠ 0 → 0 ≤ p.h ∧ p.h ≤ 3 ∧ p ∈ ps) := by
  rcases h with rfl | ⟨h1, h2⟩
  · exact ⟨by simp [nothingB, noPst, ByteArray.toList_eq], fun h => absurd rfl h⟩
  · unfold rightPostB at h2
    simp only [Bool.and_eq_true] at h2
    obtain ⟨⟨⟨a1, a2⟩, a3⟩, a4⟩ := h2
    have b1 := withinB_true a1
    have b3 := withinB_true a3
    refine ⟨?_, fun _ => ⟨b3.1, b3.2, h1⟩⟩
    have hc : (p.c == 0) = false := by simp; omega
    unfold nothingB
    simp [hc, bne]
theorem inChat_first {ps l : List Pst} {p : Pst} (h : Took ps p) (ch : Int) (k : Nat) : inChat ch l k p = (p.h == ch && firstTo l p k) := by
  unfold inChat firstTo
  rw [(took_c h).1, Bool.and_assoc]
  congr 2
  rw [List.not_any_eq_all_not]
  congr 1
  funext d
  unfold sameB unlike
  simp [Bool.not_and, bne]
theorem wantTo_mem {ps l : List Pst} (h : ∀ p ∈ l, Took ps p) : ∀ k, ∀ p ∈ wantTo l k, 0 ≤ p.h ∧ p.h < 4 ∧ p ∈ chatTo p.h l k
  | 0, p, hp => by simp [wantTo] at hp
  | k + 1, p, hp => by
    unfold wantTo at hp
    unfold chatTo
    rcases List.mem_append.1 hp with h1 | h1
    · obtain ⟨a, b, c⟩ := wantTo_mem h k p h1
      exact ⟨a, b, List.mem_append_left _ c⟩
    · cases hx : l[k]? with
      | none => rw [hx] at h1; simp at h1
      | some q =>
        rw [hx] at h1
        simp only at h1 ⊢
        split at h1
        · rename_i hf
          have e : p = q := by simpa using h1
          subst e
          have ht := h p (List.mem_of_getElem? hx)
          have hc : p.c ≠ 0 := by
            unfold firstTo at hf
            simp at hf
            exact hf.1
          obtain ⟨b1, b2, _⟩ := (took_c ht).2 hc
          refine ⟨b1, by omega, List.mem_append_right _ ?_⟩
          rw [inChat_first ht, hf]
          simp
        · simp at h1
theorem lens (l : List Pst) {ps : List Pst} (h : ∀ p ∈ l, Took ps p) : ∀ k, (wantTo l k).length = (chatTo 0 l k).length + (chatTo 1 l k).length + (chatTo 2 l k).length + (chatTo 3 l k).length
  | 0 => by simp [wantTo, chatTo]
  | k + 1 => by
    have ih := lens l h k
    unfold wantTo chatTo
    simp only [List.length_append]
    cases hx : l[k]? with
    | none => simp; omega
    | some q =>
      have ht := h q (List.mem_of_getElem? hx)
      simp only [inChat_first ht]
      cases hf : firstTo l q k with
      | false => simp; omega
      | true =>
        have hc : q.c ≠ 0 := by
          unfold firstTo at hf
          simp at hf
          exact hf.1
        obtain ⟨b1, b2, _⟩ := (took_c ht).2 hc
        have h4 : q.h = 0 ∨ q.h = 1 ∨ q.h = 2 ∨ q.h = 3 := by omega
        rcases h4 with e | e | e | e <;> simp [e] <;> omega
theorem chatTo_h (ch : Int) (l : List Pst) : ∀ k, ∀ p ∈ chatTo ch l k, p.h = ch
  | 0, p, hp => by simp [chatTo] at hp
  | k + 1, p, hp => by
    unfold chatTo at hp
    rcases List.mem_append.1 hp with h1 | h1
    · exact chatTo_h ch l k p h1
    · cases hx : l[k]? with
      | none => rw [hx] at h1; simp at h1
      | some q =>
        rw [hx] at h1
        simp only at h1
        split at h1
        · rename_i hf
          have e : p = q := by simpa using h1
          subst e
          unfold inChat at hf
          simp at hf
          exact hf.1.1
        · simp at h1
/-- The chats of the first c channels. -/
def allTo (l : List Pst) : Nat → List Pst
  | 0 => []
  | c + 1 => allTo l c ++ chatTo (c : Int) l l.length
theorem all_len {l ps : List Pst} (h : ∀ p ∈ l, Took ps p) : (wantTo l l.length).length = (allTo l 4).length := by
  rw [lens l h]
  show _ = ((((([] : List Pst) ++ chatTo ((0 : Nat) : Int) l l.length) ++ chatTo ((1 : Nat) : Int) l l.length) ++ chatTo ((2 : Nat) : Int) l l.length) ++ chatTo ((3 : Nat) : Int) l l.length).length
  simp only [List.length_append, List.length_nil]
  simp
theorem all_mem {l ps : List Pst} (h : ∀ p ∈ l, Took ps p) : ∀ p ∈ wantTo l l.length, p ∈ allTo l 4 := fun p hp => by
  obtain ⟨a, b, c⟩ := wantTo_mem h _ p hp
  show p ∈ (((([] : List Pst) ++ chatTo ((0 : Nat) : Int) l l.length) ++ chatTo ((1 : Nat) : Int) l l.length) ++ chatTo ((2 : Nat) : Int) l l.length) ++ chatTo ((3 : Nat) : Int) l l.length
  have h4 : p.h = 0 ∨ p.h = 1 ∨ p.h = 2 ∨ p.h = 3 := by omega
  rcases h4 with e | e | e | e <;> rw [e] at c <;> simp [c]
theorem all_le (l : List Pst) : ∀ c, (allTo l c).length ≤ c * l.length
  | 0 => by simp [allTo]
  | c + 1 => by
    have h1 := all_le l c
    have h2 := chatTo_len (c : Int) l l.length
    show (allTo l c ++ chatTo (c : Int) l l.length).length ≤ _
    rw [List.length_append, Nat.succ_mul]
    omega
end
end Go.Proofs.Ytnnhnekfokbooaa
