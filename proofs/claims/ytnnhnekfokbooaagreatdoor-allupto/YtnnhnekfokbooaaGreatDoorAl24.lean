/- SynR -/
import Derived.Test.YtnnhnekfokbooaaGreatDoorAl23
set_option linter.unusedSimpArgs false
set_option linter.unusedVariables false
set_option maxRecDepth 100000
namespace Go.Proofs.YtnnhnekfokbooaaGreatDoor
section
open Go.RowKit
set_option maxHeartbeats 1000000 in
theorem submit_yes {w : World} {sb : Nat} {L : Lay} {s : Sy} (h : SynAt w sb L s) {i : Nat} (hi : i < s.n) (p : Pst) (hp : rightPostB p = true) (hbal : 0 ≤ (s.rep i).rl.bal ∧ (s.rep i).rl.bal ≤ 8007) :
  Calls Tryz.prog 37 #[P6 sb, I6 (i : Int), .agg #[I6 p.c, I6 p.q, I6 p.h, .string p.t]] w fun e w' => e = .returned (I6 (s.subE i p)) ∧ SynTo w sb L w' (s.submit i p) := by
 have hAt := h
 have hF := find_yes (h.alloc (.cells #[I6 p.c, I6 p.q, I6 p.h, .string p.t] 33)) hi
 have hbox := blk_new w (.cells #[I6 p.c, I6 p.q, I6 p.h, .string p.t] 33)
 have hB : Below w.heap.size w (w.alloc (.cells #[I6 p.c, I6 p.q, I6 p.h, .string p.t] 33)) := (Below.refl _ w).alloc (Nat.le_refl _) _
 have hbc := blk_cell hbox
 have hts : p.t.size ≤ 12 := by
  unfold rightPostB at hp
  simp at hp
  omega
 have hR := rightPost_any p.c p.q p.h p.t (w.alloc (.cells #[I6 p.c, I6 p.q, I6 p.h, .string p.t] 33))
 rw [show rightPostB ⟨p.c, p.q, p.h, p.t⟩ = true from hp] at hR
 have hS := fun (W : World) (hW : Below w.heap.size w W) => rsubmit_syn (hAt.below hW) hi p hbal
 generalize s.subE i p = E at *
 go_enter Tryz.func37, Tryz.ntmps37
 go_wp2_with fail
 refine hF.mono ?_
 rintro e w2 ⟨rfl, hw2⟩
 subst hw2
 clear hF
 go_wp2_with fail
 refine hR.mono ?_
 rintro e w2 ⟨rfl, hB2⟩
 clear hR
 have hB2' : Below w.heap.size w w2 := Below.trans hB (hB2.mono hB.size)
 have hbox2 := blk_below hB2 hbox
 have hbc2 := blk_cell hbox2
 clear hbc
 go_wp2_with fail
 refine (clone_any p.t w2 (by omega)).mono ?_
 rintro e w3 ⟨rfl, hB3⟩
 have hB3' : Below w.heap.size w w3 := Below.trans hB2' (hB3.mono hB2'.size)
 have hbox3 := blk_below hB3 hbox2
 have hbc3 := blk_cell hbox3
 have hbf3 := blk_free hbox3
 have hB4 : Below w.heap.size w (w3.setCell (A6 w.heap.size 3) (.string p.t)) := hB3'.setCell (Nat.le_refl _) _
 clear hbc2
 go_wp2_with fail
 refine (hS _ hB4).mono ?_
 rintro e w5 ⟨rfl, hto⟩
 clear hS
 go_wp2_with fail
 go_ret
 refine ⟨rfl, SynTo.after hAt ?_ hB4 hto⟩
 unfold Sy.submit
 split
 ·exact propose_n _ _ _ _
 ·rfl
set_option maxHeartbeats 1000000 in
theorem submit_none {w : World} {sb : Nat} {L : Lay} {s : Sy} (h : SynAt w sb L s) {i : Int} (p : Pst) (hi : i < 0 ∨ (s.n : Int) ≤ i) :
  Calls Tryz.prog 37 #[P6 sb, I6 i, .agg #[I6 p.c, I6 p.q, I6 p.h, .string p.t]] w fun e w' => e = .returned (I6 1) ∧ Below w.heap.size w w' := by
 have hF := find_no (h.alloc (.cells #[I6 p.c, I6 p.q, I6 p.h, .string p.t] 33)) hi
 have hB : Below w.heap.size w (w.alloc (.cells #[I6 p.c, I6 p.q, I6 p.h, .string p.t] 33)) := (Below.refl _ w).alloc (Nat.le_refl _) _
 go_enter Tryz.func37, Tryz.ntmps37
 go_wp2_with fail
 refine hF.mono ?_
 rintro e w2 ⟨rfl, hw2⟩
 subst hw2
 clear hF
 go_wp2_with fail
 go_ret
 exact ⟨rfl, hB⟩
set_option maxHeartbeats 1000000 in
theorem submit_wrong {w : World} {sb : Nat} {L : Lay} {s : Sy} (h : SynAt w sb L s) {i : Nat} (hi : i < s.n) (p : Pst) (hp : rightPostB p = false) :
  Calls Tryz.prog 37 #[P6 sb, I6 (i : Int), .agg #[I6 p.c, I6 p.q, I6 p.h, .string p.t]] w fun e w' => e = .returned (I6 1) ∧ Below w.heap.size w w' := by
 have hF := find_yes (h.alloc (.cells #[I6 p.c, I6 p.q, I6 p.h, .string p.t] 33)) hi
 have hbox := blk_new w (.cells #[I6 p.c, I6 p.q, I6 p.h, .string p.t] 33)
 have hB : Below w.heap.size w (w.alloc (.cells #[I6 p.c, I6 p.q, I6 p.h, .string p.t] 33)) := (Below.refl _ w).alloc (Nat.le_refl _) _
 have hbc := blk_cell hbox
 have hR := rightPost_any p.c p.q p.h p.t (w.alloc (.cells #[I6 p.c, I6 p.q, I6 p.h, .string p.t] 33))
 rw [show rightPostB ⟨p.c, p.q, p.h, p.t⟩ = false from hp] at hR
 go_enter Tryz.func37, Tryz.ntmps37
 go_wp2_with fail
 refine hF.mono ?_
 rintro e w2 ⟨rfl, hw2⟩
 subst hw2
 clear hF
 go_wp2_with fail
 refine hR.mono ?_
 rintro e w2 ⟨rfl, hB2⟩
 clear hR
 go_wp2_with fail
 go_ret
 exact ⟨rfl, Below.trans hB (hB2.mono hB.size)⟩
theorem log_yes {w : World} {sb : Nat} {L : Lay} {s : Sy} (h : SynAt w sb L s) {i : Nat} (hi : i < s.n) :
  Calls Tryz.prog 27 #[P6 sb, I6 (i : Int)] w fun e w' => ∃ v', e = .returned (.tuple #[v', I6 0]) ∧ w'.ownsRow w.heap.size 33 4 v' (logOf (s.rep i).dec).length (pcells (logOf (s.rep i).dec)) ∧ Below w.heap.size w w' := by
 have hF := find_yes h hi
 have hL := log_any (L.rb i) (s.rep i).dec w (h.decs hi) (h.ok.repOk hi).dec
 go_enter Tryz.func27, Tryz.ntmps27
 go_wp2_with fail
 refine hF.mono ?_
 rintro e w2 ⟨rfl, hw2⟩
 have hw2' := hw2.symm
 subst hw2'
 clear hF hw2
 go_wp2_with fail
 refine hL.mono ?_
 rintro e w2 ⟨v', rfl, hown, hB⟩
 clear hL
 go_wp2_with fail
 go_ret2
 exact ⟨v', rfl, hown, hB⟩
theorem log_no {w : World} {sb : Nat} {L : Lay} {s : Sy} (h : SynAt w sb L s) {i : Int} (hi : i < 0 ∨ (s.n : Int) ≤ i) :
  Calls Tryz.prog 27 #[P6 sb, I6 i] w fun e w' => e = .returned (.tuple #[.slice none 0 0, I6 1]) ∧ w' = w := by
 have hF := find_no h hi
 go_enter Tryz.func27, Tryz.ntmps27
 go_wp2_with fail
 refine hF.mono ?_
 rintro e w2 ⟨rfl, hw2⟩
 have hw2' := hw2.symm
 subst hw2'
 clear hF hw2
 go_wp2_with fail
 go_ret2
 exact ⟨rfl, rfl⟩
def Rl.kind : Rl → Int
 | .idle => 0
 | .prep _ _ _ => 1
 | .lead _ _ _ => 2
def Rl.nxt : Rl → Nat
 | .lead _ n _ => n
 | _ => 0
theorem tell_info_prep : (Tryz.prog.info? 152).map (fun i => (i.methods.find? (·.name == "synod/replica.tell")).map (fun m => (m.path, m.func))) = some (some (#[⟨156, 0, true⟩], some (160, false))) := by kernel_rfl
theorem tell_meth_prep (n pb : Nat) (kd bal : Int) (w : World) (hk : w.cell? (A6 pb 0) = some (I6 kd)) (hb : w.cell? (A6 pb 1) = some (I6 bal)) :
  (method (n + 1) 152 (P6 pb) "synod/replica.tell").run Tryz.prog w = .ok (160, .agg #[I6 kd, I6 bal]) w := by
 have h0 := tell_info_prep
 cases hi : Tryz.prog.info? 152 with
 | none => rw [hi] at h0; cases h0
 | some i =>
  rw [hi] at h0
  simp only [Option.map_some, Option.some.injEq] at h0
  cases hm : i.methods.find? (·.name == "synod/replica.tell") with
  | none => rw [hm] at h0; cases h0
  | some m =>
   rw [hm] at h0
   simp only [Option.map_some, Option.some.injEq, Prod.mk.injEq] at h0
   obtain ⟨hp, hf⟩ := h0
   have hr : w.rangeAt pb 0 [I6 kd, I6 bal] := fun j u hu => by
    rcases j with _ | _ | j
    ·simp at hu; subst hu; exact hk
    ·simp at hu; subst hu; exact hb
    ·simp at hu
   have hlv := run_loadVar_mid (P := Tryz.prog) w pb 0 127 [I6 kd, I6 bal] _ hr Tryz.underlying127 rfl (by kernel_rfl)
   unfold method
   simp [fieldPlace, hlv, Addr.add_mid, typeInfo, hi, hm, hp, hf, follow, run_underlying Tryz.underlying156, run_underlying Tryz.underlying127, Place.get, asAddr, receiverAt]
set_option maxHeartbeats 1000000 in
theorem rrole_syn {w : World} {sb : Nat} {L : Lay} {s : Sy} (h : SynAt w sb L s) {i : Nat} (hi : i < s.n) :
  Calls Tryz.prog 61 #[.pointer (some (A6 (L.rb i) 0))] w fun e w' => e = .returned (.agg #[I6 (s.rep i).rl.kind, I6 (s.rep i).rl.bal, I6 (s.rep i).pr, I6 (s.rep i).rl.nxt]) ∧ Below w.heap.size w w' := by
 have hz := blk_new w (.cells #[I6 0, I6 0, I6 0, I6 0] 85)
 have hA := h.alloc (.cells #[I6 0, I6 0, I6 0, I6 0] 85)
 have c5 := (hA.cells hi).2.2.2.2.2
 have hro := hA.role i hi
 have hB : Below w.heap.size w (w.alloc (.cells #[I6 0, I6 0, I6 0, I6 0] 85)) := (Below.refl _ w).alloc (Nat.le_refl _) _
 cases hrl : (s.rep i).rl with
 | idle =>
  rw [hrl] at hro
  have hrv : L.rv i = idleV := hro
  rw [hrv, idleV] at c5
  clear hro hrv
  go_enter Tryz.func61, Tryz.ntmps61
  go_wp2_with fail
  rw [std_two]
  refine (tell_any 0 0 _).mono ?_
  rintro e w2 ⟨rfl, hB2⟩
  have hB2' := Below.trans hB (hB2.mono hB.size)
  have hz2 := blk_below hB2 hz
  have hzc := blk_cell hz2
  have hzf := blk_free hz2
  have hzl := lt_of_block hz2
  have d3 := ((h.below hB2').cells hi).2.2.2.1
  have hrl1 := lt_of_block (h.rep i hi)
  have hrl2 : L.rb i < w2.heap.size := by omega
  have hne : w.heap.size ≠ w2.heap.size := by omega
  have hne2 : L.rb i ≠ w.heap.size := by omega
  go_wp2_with fail
  refine bodyPost_ret (v := .agg #[I6 0, I6 0, I6 (s.rep i).pr, I6 0]) (by simp [results, Tryz.results61, go_sem, hzc, hzl]) rfl ⟨rfl, ?_⟩
  refine Below.alloc ?_ (by simp [World.setCell]; omega) _
  repeat refine Below.setCell ?_ (by simp) _
  exact hB2'
 | prep b t kept =>
  rw [hrl] at hro
  obtain ⟨pb, hrv, hpb⟩ := hro
  rw [hrv] at c5
  have hm := fun k => tell_meth_prep k pb 1 b (w.alloc (.cells #[I6 0, I6 0, I6 0, I6 0] 85)) ((blk_cell hpb 0).trans rfl) ((blk_cell hpb 1).trans rfl)
  clear hrv
  go_enter Tryz.func61, Tryz.ntmps61
  go_wp2_with fail
  clear hm
  refine (tell_any 1 b _).mono ?_
  rintro e w2 ⟨rfl, hB2⟩
  have hB2' := Below.trans hB (hB2.mono hB.size)
  have hz2 := blk_below hB2 hz
  have hzc := blk_cell hz2
  have hzf := blk_free hz2
  have hzl := lt_of_block hz2
  have d3 := ((h.below hB2').cells hi).2.2.2.1
  have hrl1 := lt_of_block (h.rep i hi)
  have hrl2 : L.rb i < w2.heap.size := by omega
  have hne : w.heap.size ≠ w2.heap.size := by omega
  have hne2 : L.rb i ≠ w.heap.size := by omega
  go_wp2_with fail
  refine bodyPost_ret (v := .agg #[I6 1, I6 b, I6 (s.rep i).pr, I6 0]) (by simp [results, Tryz.results61, go_sem, hzc, hzl]) rfl ⟨rfl, ?_⟩
  refine Below.alloc ?_ (by simp [World.setCell]; omega) _
  repeat refine Below.setCell ?_ (by simp) _
  exact hB2'
 | lead b next ps =>
  rw [hrl] at hro
  obtain ⟨pb, hrv, hpb⟩ := hro
  rw [hrv] at c5
  clear hrv
  go_enter Tryz.func61, Tryz.ntmps61
  go_wp2_with fail
  refine (ltell_any pb 2 b next _ ((blk_cell hpb 0).trans rfl) ((blk_cell hpb 1).trans rfl) ((blk_cell hpb 2).trans rfl)).mono ?_
  rintro e w2 ⟨rfl, hB2⟩
  have hB2' := Below.trans hB (hB2.mono hB.size)
  have hz2 := blk_below hB2 hz
  have hzc := blk_cell hz2
  have hzf := blk_free hz2
  have hzl := lt_of_block hz2
  have d3 := ((h.below hB2').cells hi).2.2.2.1
  have hrl1 := lt_of_block (h.rep i hi)
  have hrl2 : L.rb i < w2.heap.size := by omega
  have hne : w.heap.size ≠ w2.heap.size := by omega
  have hne2 : L.rb i ≠ w.heap.size := by omega
  go_wp2_with fail
  refine bodyPost_ret (v := .agg #[I6 2, I6 b, I6 (s.rep i).pr, I6 next]) (by simp [results, Tryz.results61, go_sem, hzc, hzl]) rfl ⟨rfl, ?_⟩
  refine Below.alloc ?_ (by simp [World.setCell]; omega) _
  repeat refine Below.setCell ?_ (by simp) _
  exact hB2'
set_option maxHeartbeats 1000000 in
theorem role_yes {w : World} {sb : Nat} {L : Lay} {s : Sy} (h : SynAt w sb L s) {i : Nat} (hi : i < s.n) :
  Calls Tryz.prog 33 #[P6 sb, I6 (i : Int)] w fun e w' => e = .returned (.tuple #[.agg #[I6 (s.rep i).rl.kind, I6 (s.rep i).rl.bal, I6 (s.rep i).pr, I6 (s.rep i).rl.nxt], I6 0]) ∧ Below w.heap.size w w' := by
 have hA := h.alloc (.cells #[I6 0, I6 0, I6 0, I6 0] 85)
 have hB : Below w.heap.size w (w.alloc (.cells #[I6 0, I6 0, I6 0, I6 0] 85)) := (Below.refl _ w).alloc (Nat.le_refl _) _
 have hz := blk_new w (.cells #[I6 0, I6 0, I6 0, I6 0] 85)
 have hF := find_yes hA hi
 have hR := rrole_syn hA hi
 generalize (s.rep i).rl.kind = rk at *
 generalize (s.rep i).rl.bal = rbal at *
 generalize ((s.rep i).rl.nxt : Int) = rn at *
 generalize (s.rep i).pr = pr at *
 go_enter Tryz.func33, Tryz.ntmps33
 go_wp2_with fail
 refine hF.mono ?_
 rintro e w2 ⟨rfl, hw2⟩
 subst hw2
 clear hF
 go_wp2_with fail
 refine hR.mono ?_
 rintro e w2 ⟨rfl, hB2⟩
 clear hR
 have hB2' := Below.trans hB (hB2.mono hB.size)
 have hz2 := blk_below hB2 hz
 have hzc := blk_cell hz2
 have hzf := blk_free hz2
 go_wp2_with fail
 refine bodyPost_ret (v := .tuple #[.agg #[I6 rk, I6 rbal, I6 pr, I6 rn], I6 0]) (by simp [results, Tryz.results33, go_sem, hzc]) rfl ⟨rfl, ?_⟩
 repeat refine Below.setCell ?_ (by simp) _
 exact hB2'
set_option maxHeartbeats 1000000 in
theorem role_no {w : World} {sb : Nat} {L : Lay} {s : Sy} (h : SynAt w sb L s) {i : Int} (hi : i < 0 ∨ (s.n : Int) ≤ i) :
  Calls Tryz.prog 33 #[P6 sb, I6 i] w fun e w' => e = .returned (.tuple #[.agg #[I6 0, I6 0, I6 0, I6 0], I6 1]) ∧ Below w.heap.size w w' := by
 have hA := h.alloc (.cells #[I6 0, I6 0, I6 0, I6 0] 85)
 have hB : Below w.heap.size w (w.alloc (.cells #[I6 0, I6 0, I6 0, I6 0] 85)) := (Below.refl _ w).alloc (Nat.le_refl _) _
 have hz := blk_new w (.cells #[I6 0, I6 0, I6 0, I6 0] 85)
 have hzc := blk_cell hz
 have hzf := blk_free hz
 have hF := find_no hA hi
 go_enter Tryz.func33, Tryz.ntmps33
 go_wp2_with fail
 refine hF.mono ?_
 rintro e w2 ⟨rfl, hw2⟩
 subst hw2
 clear hF
 go_wp2_with fail
 refine bodyPost_ret (v := .tuple #[.agg #[I6 0, I6 0, I6 0, I6 0], I6 1]) (by simp [results, Tryz.results33, go_sem, hzc]) rfl ⟨rfl, ?_⟩
 repeat refine Below.setCell ?_ (by simp) _
 exact hB
end
end Go.Proofs.YtnnhnekfokbooaaGreatDoor
