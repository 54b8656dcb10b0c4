/- WalkJ, WalkP, WalkQ -/
import Derived.Test.YtnnhnekfokbooaaGreatDoorAl44
import Derived.Lib.AppendStr
set_option linter.unusedSimpArgs false
set_option linter.unusedVariables false
set_option maxRecDepth 100000
namespace Go.Proofs.YtnnhnekfokbooaaGreatDoor
section
open Go.RowKit
def unB (l : List UInt8) : Bool := !(Rs.msgAft ⟨l, false⟩).sh && (Rs.msgAft ⟨l, false⟩).l.isEmpty && rmB (Rs.msg ⟨l, false⟩)
theorem vts_le (s : Rs) : s.msg.a.length ≤ 255 := by
 unfold Rs.msg Rs.acc
 dsimp only
 split
 ·rw [vts_length]; have := num1_le ((((s.m1.balAft (s.num 1)).sloAft (s.num 1)).vauAft (s.num 1))); omega
 ·simp
set_option maxHeartbeats 2000000 in
theorem unpack_any (l : List UInt8) (w : World) (hk : Kinds w) (hl : l.length ≤ 9223372036854775807) :
  Calls Tryz.prog 53 #[.string (S l)] w fun e w' => (unB l = true → ∃ v, e = .returned (.tuple #[.agg #[I6 (Rs.msg ⟨l, false⟩).k, I6 (Rs.msg ⟨l, false⟩).f, I6 (Rs.msg ⟨l, false⟩).t, I6 (Rs.msg ⟨l, false⟩).b, I6 (Rs.msg ⟨l, false⟩).s, I6 (Rs.msg ⟨l, false⟩).p.c, I6 (Rs.msg ⟨l, false⟩).p.q, I6 (Rs.msg ⟨l, false⟩).p.h, .string (Rs.msg ⟨l, false⟩).p.t, v], I6 0])
   ∧ w'.ownsRow w.heap.size 53 6 v (Rs.msg ⟨l, false⟩).a.length (vcells (Rs.msg ⟨l, false⟩).a))
   ∧ (unB l = false → e = .returned (.tuple #[.agg #[I6 0, I6 0, I6 0, I6 0, I6 0, I6 0, I6 0, I6 0, .string (S []), .slice none 0 0], I6 2]))
   ∧ Below w.heap.size w w' := by
 have hw0 := hk.1
 have hva := vts_le ⟨l, false⟩
 have hu : unB l = (!(Rs.msgAft ⟨l, false⟩).sh && (Rs.msgAft ⟨l, false⟩).l.isEmpty && rmB (Rs.msg ⟨l, false⟩)) := rfl
 have HU : Hid (unB l = (!(Rs.msgAft ⟨l, false⟩).sh && (Rs.msgAft ⟨l, false⟩).l.isEmpty && rmB (Rs.msg ⟨l, false⟩))) := hu
 clear hu
 go_enter Tryz.func53, Tryz.ntmps53
 go_wp2_with fail
 refine (message_any (w.heap.size + 1) ⟨l, false⟩ _ ?_ hl ((hk.alloc _).alloc _) (by omega)).mono ?_
 ·have := blk_new (w.alloc (.cells #[I6 0, I6 0, I6 0, I6 0, I6 0, I6 0, I6 0, I6 0, .string ⟨#[]⟩, .slice none 0 0] 36)) (.cells #[.string (S l), .bool false] 147)
  simp only [World.size_alloc] at this
  exact this
 rintro e w1 ⟨v, rfl, hown, hr1, hk1⟩
 obtain ⟨ao, an, ac, rfl⟩ := owns_slice hown
 generalize hm : Rs.msg ⟨l, false⟩ = m at *
 generalize Rs.msgAft ⟨l, false⟩ = sa at *
 have HM : Hid (Rs.msg ⟨l, false⟩ = m) := hm
 clear hm
 obtain ⟨sl, ssh⟩ := sa
 have hb1 : Below w.heap.size w w1 := (((Below.refl _ w).alloc (Nat.le_refl _) _).alloc (by simp) _).trans (hk1.toBelow (B := w.heap.size) (by simp; omega) (fun k e => by injection e with e; omega))
 have hz1 : w.heap.size + 2 ≤ w1.heap.size := by have := hk1.size; simpa using this
 have hq1 := blk_kp hk1 (blk_alloc (blk_new _ _) _) (by simp)
 have hkn := (((hk.alloc _).alloc _).kp hk1 (by simp))
 have hvat : VAt w1 (.slice ao an ac) m.a := owns_vat hown (by omega)
 have hownB := owns_mono hown (base' := w.heap.size) (by simp; omega)
 have hnq : (Value.slice ao an ac).ownBlock ≠ some w.heap.size := fun e => by have := (hown.lt _ e).1; simp at this; omega
 clear hown hk1 hk
 have hqA := blk_alloc hq1 (.cells #[I6 m.k, I6 m.f, I6 m.t, I6 m.b, I6 m.s, I6 m.p.c, I6 m.p.q, I6 m.p.h, .string m.p.t, .slice ao an ac] 36)
 have hrA := Rd.alloc hr1 (.cells #[I6 m.k, I6 m.f, I6 m.t, I6 m.b, I6 m.s, I6 m.p.c, I6 m.p.q, I6 m.p.h, .string m.p.t, .slice ao an ac] 36)
 have hkA := hkn.alloc (.cells #[I6 m.k, I6 m.f, I6 m.t, I6 m.b, I6 m.s, I6 m.p.c, I6 m.p.q, I6 m.p.h, .string m.p.t, .slice ao an ac] 36)
 have hvA := hvat.alloc (.cells #[I6 m.k, I6 m.f, I6 m.t, I6 m.b, I6 m.s, I6 m.p.c, I6 m.p.q, I6 m.p.h, .string m.p.t, .slice ao an ac] 36)
 have hqc := blk_cell hqA
 have hqf := blk_free hqA
 have hrc0 : _ = some (Value.string (S sl)) := (blk_cell hrA 0).trans rfl
 have hrc1 : _ = some (Value.bool ssh) := (blk_cell hrA 1).trans rfl
 cases ssh
 case true =>
  go_wp2
  refine bodyPost_ret (v := .tuple #[.agg #[I6 0, I6 0, I6 0, I6 0, I6 0, I6 0, I6 0, I6 0, .string (S []), .slice none 0 0], I6 2]) (by simp [results, Tryz.results53, go_sem, hqc, hqf, S]) rfl ⟨fun h => ?_, fun _ => rfl, ?_⟩
  ·rw [HU.out] at h; simp [] at h
  ·repeat refine Below.setCell ?_ (by simp) _
   exact hb1.alloc (by omega) _
 case false =>
 by_cases hsl : sl = []
 ·subst hsl
  have he : (S []).toList.isEmpty = true := by simp [S]
  have he' : (S []).toList = [] := by simp [S]
  cases hrm : rmB m
  ·go_wp2_with (go_at_call 76; refine (rightMessage_any m _ _ hkA hvA).mono ?_; rintro e w2 ⟨rfl, hb2⟩; have hq2 := blk_below hb2 hqA; have hqc2 := blk_cell hq2; have hqf2 := blk_free hq2)
   have hz2 := hb2.size
   simp at hz2
   refine bodyPost_ret (v := .tuple #[.agg #[I6 0, I6 0, I6 0, I6 0, I6 0, I6 0, I6 0, I6 0, .string (S []), .slice none 0 0], I6 2]) (by simp [results, Tryz.results53, go_sem, hqc2, hqf2, S]) rfl ⟨fun h => ?_, fun _ => rfl, ?_⟩
   ·rw [HU.out] at h; simp [hrm] at h
   ·repeat refine Below.setCell ?_ (by simp) _
    exact (hb1.alloc (by omega) _).trans (hb2.mono (by simp; omega))
  ·go_wp2_with (go_at_call 76; refine (rightMessage_any m _ _ hkA hvA).mono ?_; rintro e w2 ⟨rfl, hb2⟩; have hq2 := blk_below hb2 hqA; have hqc2 := blk_cell hq2; have hqf2 := blk_free hq2; have hmm := blk_below hb2 (blk_new w1 _); have hmc := blk_cell hmm)
   have hz2 := hb2.size
   simp at hz2
   refine bodyPost_ret (v := .tuple #[.agg #[I6 m.k, I6 m.f, I6 m.t, I6 m.b, I6 m.s, I6 m.p.c, I6 m.p.q, I6 m.p.h, .string m.p.t, .slice ao an ac], I6 0]) (by simp [results, Tryz.results53, go_sem, hqc2, hqf2, S]) rfl ⟨fun _ => ?_, fun h => ?_, ?_⟩
   ·rw [HM.out]
    refine ⟨_, rfl, ?_⟩
    iterate 10 refine ownsRow_setCell_other ?_ (by exact hnq) _
    refine World.ownsRow.kept (hownB.alloc _) (Kp.ofBelow (o := none) hb2).grownBy ?_
    cases hx : (Value.slice ao an ac).ownBlock with
    | none => exact .inl rfl
    | some g => exact .inr (by simp)
   ·rw [HU.out] at h; simp [hrm] at h
   ·repeat refine Below.setCell ?_ (by simp) _
    exact (hb1.alloc (by omega) _).trans (hb2.mono (by simp; omega))
 ·have he : (S sl).toList.isEmpty = false := by simp [S, hsl]
  have he' : ¬ (S sl).toList = [] := by simp [S, hsl]
  go_wp2
  refine bodyPost_ret (v := .tuple #[.agg #[I6 0, I6 0, I6 0, I6 0, I6 0, I6 0, I6 0, I6 0, .string (S []), .slice none 0 0], I6 2]) (by simp [results, Tryz.results53, go_sem, hqc, hqf, S]) rfl ⟨fun h => ?_, fun _ => rfl, ?_⟩
  ·rw [HU.out] at h; simp [hsl] at h
  ·repeat refine Below.setCell ?_ (by simp) _
   exact hb1.alloc (by omega) _
set_option maxHeartbeats 2000000 in
theorem Unpack_any (l : List UInt8) (w : World) (hk : Kinds w) (hl : l.length ≤ 9223372036854775807) :
  Calls Tryz.prog 21 #[.string (S l)] w fun e w' => (unB l = true → ∃ v, e = .returned (.tuple #[.agg #[I6 (Rs.msg ⟨l, false⟩).k, I6 (Rs.msg ⟨l, false⟩).f, I6 (Rs.msg ⟨l, false⟩).t, I6 (Rs.msg ⟨l, false⟩).b, I6 (Rs.msg ⟨l, false⟩).s, I6 (Rs.msg ⟨l, false⟩).p.c, I6 (Rs.msg ⟨l, false⟩).p.q, I6 (Rs.msg ⟨l, false⟩).p.h, .string (Rs.msg ⟨l, false⟩).p.t, v], I6 0])
   ∧ w'.ownsRow w.heap.size 53 6 v (Rs.msg ⟨l, false⟩).a.length (vcells (Rs.msg ⟨l, false⟩).a))
   ∧ (unB l = false → e = .returned (.tuple #[.agg #[I6 0, I6 0, I6 0, I6 0, I6 0, I6 0, I6 0, I6 0, .string (S []), .slice none 0 0], I6 2]))
   ∧ Below w.heap.size w w' := by
 have hC := unpack_any l (w.alloc (.cells #[I6 0, I6 0, I6 0, I6 0, I6 0, I6 0, I6 0, I6 0, .string ⟨#[]⟩, .slice none 0 0] 36)) (hk.alloc _) hl
 generalize Rs.msg ⟨l, false⟩ = m at *
 cases hu : unB l
 ·go_enter Tryz.func21, Tryz.ntmps21
  go_wp2_with fail
  refine hC.mono ?_
  rintro e w1 ⟨-, h2, hb⟩
  obtain rfl := h2 hu
  clear h2 hC
  have hq := blk_below hb (blk_new _ _)
  have hqc := blk_cell hq
  have hqf := blk_free hq
  go_wp2
  refine bodyPost_ret (v := .tuple #[.agg #[I6 0, I6 0, I6 0, I6 0, I6 0, I6 0, I6 0, I6 0, .string (S []), .slice none 0 0], I6 2]) (by simp [results, Tryz.results21, go_sem, hqc, hqf, S]) rfl ⟨fun h => by simp at h, fun _ => rfl, ?_⟩
  repeat refine Below.setCell ?_ (by simp) _
  exact ((Below.refl _ _).alloc (Nat.le_refl _) _).trans (hb.mono (by simp))
 ·go_enter Tryz.func21, Tryz.ntmps21
  go_wp2_with fail
  refine hC.mono ?_
  rintro e w1 ⟨h1, -, hb⟩
  obtain ⟨v, rfl, hown⟩ := h1 hu
  obtain ⟨ao, an, ac, rfl⟩ := owns_slice hown
  have hownB := owns_mono hown (base' := w.heap.size) (by simp)
  have hnq : (Value.slice ao an ac).ownBlock ≠ some w.heap.size := fun e => by have := (hown.lt _ e).1; simp at this; omega
  clear h1 hC hown
  have hq := blk_below hb (blk_new _ _)
  have hqc := blk_cell hq
  have hqf := blk_free hq
  go_wp2
  refine bodyPost_ret (v := .tuple #[.agg #[I6 m.k, I6 m.f, I6 m.t, I6 m.b, I6 m.s, I6 m.p.c, I6 m.p.q, I6 m.p.h, .string m.p.t, .slice ao an ac], I6 0]) (by simp [results, Tryz.results21, go_sem, hqc, hqf, S]) rfl ⟨fun _ => ⟨_, rfl, ?_⟩, fun h => by simp at h, ?_⟩
  ·iterate 10 refine ownsRow_setCell_other ?_ (by exact hnq) _
   exact hownB
  ·repeat refine Below.setCell ?_ (by simp) _
   exact ((Below.refl _ _).alloc (Nat.le_refl _) _).trans (hb.mono (by simp))
end
section
open Go.RowKit
def byteOf (n : Int) : UInt8 := UInt8.ofNat (n % 256).toNat
def encN : Nat → Int → List UInt8
 | 0, _ => []
 | k + 1, n => byteOf n :: encN k (n / 256)
def encA (k : Nat) : List Int → List UInt8
 | [] => []
 | n :: l => encN k n ++ encA k l
def bcs (l : List UInt8) : List Value := l.map fun b => Value.int .u8 (b.toNat : Int)
theorem bcs_append (a b : List UInt8) : bcs (a ++ b) = bcs a ++ bcs b := by simp [bcs]
theorem byteOf_nat (n : Int) : ((byteOf n).toNat : Int) = n % 256 := by
 have h : (n % 256).toNat < 256 := by omega
 simp [byteOf]; omega
theorem encN_length (k : Nat) (n : Int) : (encN k n).length = k := by
 induction k generalizing n with
 | zero => rfl
 | succ k ih => simp [encN, ih]
theorem encA_length (k : Nat) (l : List Int) : (encA k l).length = l.length * k := by
 induction l with
 | nil => simp [encA]
 | cons n l ih => simp [encA, ih, encN_length, Nat.succ_mul, Nat.add_comm]
theorem encA_append (k : Nat) (a b : List Int) : encA k (a ++ b) = encA k a ++ encA k b := by
 induction a with
 | nil => rfl
 | cons n l ih => simp [encA, ih]
def Own (w : World) (B : Nat) (v : Value) (bs : List UInt8) : Prop := w.ownsRow B 5 1 v bs.length (bcs bs)
theorem owns_slice' {w : World} {base : Nat} {e : TypeId} {size : Nat} {v : Value} {n : Nat} {xs : List Value} (h : w.ownsRow base e size v n xs) : ∃ ao k cap, v = .slice ao k cap := by
 rcases h.2 with ⟨e, _⟩ | ⟨g, cap, cur, e, _⟩
 ·exact ⟨_, _, _, e⟩
 ·exact ⟨_, _, _, e⟩
theorem Tryz.infoByte : (Tryz.prog.info? 5).map (fun i => (i.zero, i.size, i.bytes)) = some (some (.int .u8 0), 1, 1) := by kernel_rfl
set_option maxHeartbeats 4000000 in
theorem putNumbers_any (B : Nat) (v : Value) (bs : List UInt8) (k : Nat) (ns : List Int) (g : Nat) (w : World) (hown : Own w B v bs) (hB : B ≤ w.heap.size) (hg : g < w.heap.size) (hvg : v.ownBlock ≠ some g)
  (hcell : ∀ (j : Nat) (n : Int), ns[j]? = some n → w.cell? (A6 g j) = some (I6 n)) (hns : ∀ n ∈ ns, 0 ≤ n ∧ n ≤ 1000000) (hk : k ≤ 2) (hlen : bs.length ≤ 100000) (hnl : ns.length ≤ 100) :
  Calls Tryz.prog 78 #[v, I6 k, .slice (some (A6 g 0)) ns.length ns.length] w fun e w' => ∃ v', e = .returned v' ∧ Own w' B v' (bs ++ encA k ns) ∧ Kp v.ownBlock v'.ownBlock w w' := by
 obtain ⟨i0, hi, hz0, hz1, hz2⟩ := info_parts Tryz.infoByte
 obtain ⟨ao, an, ac, hvs⟩ := owns_slice' hown
 subst hvs
 go_enter Tryz.func78, Tryz.ntmps78
 go_wp2_with fail
 go_loopw [0, 11] (fun o i wr => ∃ j : Nat, j ≤ ns.length ∧ i = I6 j ∧ Own wr B o (bs ++ encA k (ns.take j)) ∧ Kp (Value.slice ao an ac).ownBlock o.ownBlock w wr) (fun _ i _ => ns.length - (intOf i).toNat)
 case atStart => exact ⟨0, Nat.zero_le _, rfl, by simpa [encA] using hown, Kp.refl _ _⟩
 case round =>
  obtain ⟨j, hj, rfl, ho, hkp⟩ := hrel
  by_cases hlt : j < ns.length
  ·have hcj : wr.cell? (A6 g j) = some (I6 ns[j]) := by rw [hkp.cell hg hvg]; exact hcell j _ (List.getElem?_eq_getElem hlt)
   obtain ⟨hn0, hn1⟩ := hns ns[j] (List.getElem_mem hlt)
   have HE : Hid (encA k (ns.take (j + 1)) = encA k (ns.take j) ++ encN k ns[j]) := by
    show _ = _
    rw [List.take_succ_eq_append_getElem hlt, encA_append]; simp [encA]
   have hl1 : (encA k (ns.take j)).length ≤ 200 := by
    rw [encA_length, List.length_take]
    have : min j ns.length * k ≤ 100 * 2 := Nat.mul_le_mul (by omega) hk
    omega
   generalize ns[j] = n at *
   generalize encA k (ns.take j) = ea at *
   go_wp2_with fail
   go_loopw [0, 8, 16] (fun o nn c wi => ∃ (i : Nat) (P : List UInt8) (n' : Int), i ≤ k ∧ c = I6 i ∧ nn = I6 n' ∧ 0 ≤ n' ∧ n' ≤ 1000000 ∧ P ++ encN (k - i) n' = encN k n ∧ P.length = i ∧ Own wi B o (bs ++ ea ++ P) ∧ Kp (Value.slice ao an ac).ownBlock o.ownBlock w wi) (fun _ _ c _ => k - (intOf c).toNat)
   case atStart => exact ⟨0, [], n, Nat.zero_le _, rfl, rfl, hn0, hn1, rfl, rfl, by simpa using ho, hkp⟩
   case round =>
    obtain ⟨i, P, n', hik, rfl, rfl, hm0, hm1, hP, hPl, hoi, hki⟩ := hrel
    have HP : Hid (P ++ encN (k - i) n' = encN k n) := hP
    clear hP
    by_cases hlti : i < k
    ·go_wp2_with (at_builtin; refine wpList_append_lies _ rfl (.tmp 18) (.tmp 21) 141 rfl B 5 i0 _ 1 1 Tryz.underlying141 hi hz0 hz1 hz2 rfl (by decide) _ (bs ++ ea ++ P).length (bcs (bs ++ ea ++ P)) rfl (World.ownsRow.alloc hoi _) _ 1 1 [.int .u8 (n' % 256)] rfl rfl ?_ ?_ (by decide) ?_ ?_ ?_ _ rfl ?_)
     ·exact news_new _ _ rfl _ _
     ·intro u hu; simp at hu; subst hu; rfl
     ·unfold maxLen; simp; omega
     ·simp; omega
     ·have := hki.size; simp; omega
     ·intro g' cap w1 hown1 hgrow hat hlt1
      have hoN : Own w1 B (.slice (some (A6 g' 0)) (bs.length + (ea.length + i) + 1) cap) (bs ++ ea ++ (P ++ [byteOf n'])) := by
       have e1 : (bs ++ ea ++ (P ++ [byteOf n'])).length = bs.length + (ea.length + i) + 1 := by simp [hPl]; omega
       have e2 : bcs (bs ++ ea ++ (P ++ [byteOf n'])) = bcs (bs ++ (ea ++ P)) ++ [Value.int .u8 (n' % 256)] := by
        simp [bcs, byteOf_nat]
       unfold Own
       rw [e1, e2]
       exact hown1
      have hKN : Kp (Value.slice ao an ac).ownBlock (Value.slice (some (A6 g' 0)) (bs.length + (ea.length + i) + 1) cap).ownBlock w w1 := (hki.alloc _).grown hgrow hat (by simp)
      have HP2 : Hid (P ++ [byteOf n'] ++ encN (k - (i + 1)) (n' / 256) = encN k n) := by
       show _ = _
       rw [← HP.out, show k - i = (k - (i + 1)) + 1 from by omega]
       simp [encN]
      clear hgrow hown1 hat hlt1 hki hoi
      go_wp2
      go_roundw
      case rel => exact ⟨i + 1, P ++ [byteOf n'], n' / 256, by omega, by go_num, by go_num, by omega, by omega, HP2.out, by simp [hPl], hoN, hKN⟩
      case measure => simp [intOf]; omega
    ·have hki' : i = k := by omega
     subst hki'
     have hP2 : P = encN i n := by have := HP.out; simpa [encN] using this
     have hoN : Own wr B u0 (bs ++ encA i (ns.take (j + 1))) := by rw [HE.out, ← hP2, ← List.append_assoc]; exact hoi
     go_wp2
     go_roundw
     case rel => exact ⟨j + 1, by omega, by go_num, hoN, hki⟩
     case measure => simp [intOf]; omega
  ·have hjl : j = ns.length := by omega
   subst hjl
   go_wp2
   go_ret
   exact ⟨_, rfl, by simpa using ho, hkp⟩
end
section
open Go.RowKit
def encV (p : Pst) : List UInt8 := encA 1 [p.c] ++ if nothingB p then [] else encA 2 [p.q] ++ encA 1 [p.h, (p.t.size : Int)] ++ p.t.data.toList
theorem Own.below {w w' : World} {B : Nat} {v : Value} {bs : List UInt8} (h : Own w B v bs) (hb : Below w.heap.size w w') : Own w' B v bs := by
 refine World.ownsRow.kept h (Kp.ofBelow (o := none) hb).grownBy ?_
 cases hx : v.ownBlock with
 | none => exact .inl rfl
 | some g => exact .inr (by simp)
theorem Own.alloc {w : World} {B : Nat} {v : Value} {bs : List UInt8} (h : Own w B v bs) (o : Obj) : Own (w.alloc o) B v bs := World.ownsRow.alloc h o
theorem Own.lt {w : World} {B : Nat} {v : Value} {bs : List UInt8} (h : Own w B v bs) : ∀ k, v.ownBlock = some k → B ≤ k ∧ k < w.heap.size := World.ownsRow.lt h
theorem Own.ne {w : World} {B : Nat} {v : Value} {bs : List UInt8} (h : Own w B v bs) {b : Nat} (hb : w.heap.size ≤ b) : v.ownBlock ≠ some b := fun e => by have := (h.lt _ e).2; omega
theorem Kp.ne {o o' : Option Nat} {w w' : World} (h : Kp o o' w w') {b : Nat} (hb : b < w.heap.size) (ho : o ≠ some b) : o' ≠ some b := by
 rcases h.own with e | ⟨g, e, hg⟩
 ·rw [e]; exact ho
 ·rw [e]; intro x; injection x with x; omega
theorem cells_one (w : World) (x : Int) (n : Nat) (hn : w.heap.size = n) (t : TypeId) : ∀ (j : Nat) (y : Int), [x][j]? = some y → (w.alloc (.cells #[I6 x] t)).cell? (A6 n j) = some (I6 y) := by
 subst hn
 intro j y hy
 rw [blk_cell (heap_alloc_new w (.cells #[I6 x] t))]
 rcases j with _ | j
 ·simp at hy; subst hy; rfl
 ·simp at hy
theorem cells_two (w : World) (x x2 : Int) (n : Nat) (hn : w.heap.size = n) (t : TypeId) : ∀ (j : Nat) (y : Int), [x, x2][j]? = some y → (w.alloc (.cells #[I6 x, I6 x2] t)).cell? (A6 n j) = some (I6 y) := by
 subst hn
 intro j y hy
 rw [blk_cell (heap_alloc_new w (.cells #[I6 x, I6 x2] t))]
 rcases j with _ | _ | j
 ·simp at hy; subst hy; rfl
 ·simp at hy; subst hy; rfl
 ·simp at hy
theorem cells_three (w : World) (x x2 x3 : Int) (n : Nat) (hn : w.heap.size = n) (t : TypeId) : ∀ (j : Nat) (y : Int), [x, x2, x3][j]? = some y → (w.alloc (.cells #[I6 x, I6 x2, I6 x3] t)).cell? (A6 n j) = some (I6 y) := by
 subst hn
 intro j y hy
 rw [blk_cell (heap_alloc_new w (.cells #[I6 x, I6 x2, I6 x3] t))]
 rcases j with _ | _ | _ | j
 ·simp at hy; subst hy; rfl
 ·simp at hy; subst hy; rfl
 ·simp at hy; subst hy; rfl
 ·simp at hy
set_option maxHeartbeats 4000000 in
theorem putValue_any (B : Nat) (v : Value) (bs : List UInt8) (c q h : Int) (t : ByteArray) (w : World) (hown : Own w B v bs) (hB : B ≤ w.heap.size) (hlen : bs.length ≤ 50000)
  (hc : 0 ≤ c ∧ c ≤ 1000000) (hq : 0 ≤ q ∧ q ≤ 1000000) (hh : 0 ≤ h ∧ h ≤ 1000000) (ht : t.size ≤ 1000) :
  Calls Tryz.prog 79 #[v, .agg #[I6 c, I6 q, I6 h, .string t]] w fun e w' => ∃ v', e = .returned v' ∧ Own w' B v' (bs ++ encV ⟨c, q, h, t⟩) ∧ Below B w w' := by
 obtain ⟨i0, hi, hz0, hz1, hz2⟩ := info_parts Tryz.infoByte
 go_enter Tryz.func79, Tryz.ntmps79
 go_wp2_with fail
 refine (putNumbers_any B v bs 1 [c] (w.heap.size + 1) _ ((hown.alloc _).alloc _) (by simp; omega) (by simp) (hown.ne (by omega)) (cells_one _ _ _ (by simp) _) (by simpa using hc) (by decide) (by omega) (by simp)).mono ?_
 rintro e w1 ⟨v1, rfl, ho1, hk1⟩
 have hb1 : Below B w w1 := (((Below.refl _ w).alloc hB _).alloc (by simp; omega) _).trans (hk1.toBelow (by simp; omega) (fun k e => (hown.lt k e).1))
 have hp1 := blk_kp hk1 (blk_alloc (blk_new w _) _) (hown.ne (by omega))
 have hn1 := hk1.ne (b := w.heap.size) (by simp; omega) (hown.ne (by omega))
 have hz1' := hk1.size
 simp only [World.size_alloc] at hz1'
 clear hk1
 have hpc := blk_cell hp1
 go_wp2_with fail
 refine (isNothing_any c q h t _).mono ?_
 rintro e w2 ⟨rfl, hb2⟩
 have ho2 := ho1.below hb2
 have hp2 := blk_below hb2 hp1
 have hz2' := hb2.size
 have hB2 : Below B w w2 := hb1.trans (hb2.mono (by omega))
 clear hpc ho1 hb1 hb2 hp1
 cases hno : nothingB ⟨c, q, h, t⟩
 ·have hpc := blk_cell hp2
  have hlb : w.heap.size < w2.heap.size := lt_of_block hp2
  go_wp2_with fail
  refine (putNumbers_any B v1 _ 2 [q] w2.heap.size _ (ho2.alloc _) (by simp; omega) (by simp) (ho2.ne (Nat.le_refl _)) (cells_one _ _ _ rfl _) (by simpa using hq) (by decide) (by simp [encA, encN]; omega) (by simp)).mono ?_
  rintro e w3 ⟨v3, rfl, ho3, hk3⟩
  have hB3 : Below B w w3 := (hB2.alloc (by omega) _).trans (hk3.toBelow (by simp; omega) (fun k e => (ho2.lt k e).1))
  have hp3 := blk_kp hk3 (blk_alloc hp2 _) hn1
  have hn3 := hk3.ne (b := w.heap.size) (by simp; omega) hn1
  have hz3' := hk3.size
  simp only [World.size_alloc] at hz3'
  clear hk3 ho2 hp2 hpc hB2
  have hpc := blk_cell hp3
  go_wp2_with fail
  refine (putNumbers_any B v3 _ 1 [h, (t.size : Int)] w3.heap.size _ (ho3.alloc _) (by simp; omega) (by simp) (ho3.ne (Nat.le_refl _)) (cells_two _ _ _ _ rfl _) (by simp; omega) (by decide) (by simp [encA, encN]; omega) (by simp)).mono ?_
  rintro e w4 ⟨v4, rfl, ho4, hk4⟩
  have hB4 : Below B w w4 := (hB3.alloc (by omega) _).trans (hk4.toBelow (by simp; omega) (fun k e => (ho3.lt k e).1))
  have hp4 := blk_kp hk4 (blk_alloc hp3 _) hn3
  have hz4' := hk4.size
  simp only [World.size_alloc] at hz4'
  clear hk4 ho3 hp3 hpc hB3
  have hpc := blk_cell hp4
  have hov := fun k e => (ho4.lt k e).1
  go_wp2_with (at_builtin; refine Lib.wpList_append_own_string _ rfl (.tmp 26) (.tmp 28) 141 9 rfl B 5 i0 Tryz.underlying141 Tryz.underlying9 hi hz0 hz1 hz2 v4 _ _ rfl ho4 t rfl ?_ ?_ ?_ ?_)
  ·unfold maxLen; simp [encA, encN]; omega
  ·simp [encA, encN]; omega
  ·omega
  ·intro v5 w5 ho5 hg5 _
   have hB5 : Below B w w5 := hB4.grown hg5 (by omega) (fun k e => hov k e)
   have hoN : Own w5 B v5 (bs ++ encV ⟨c, q, h, t⟩) := by
    unfold Own
    have e1 : (bs ++ encV ⟨c, q, h, t⟩) = (bs ++ encA 1 [c] ++ encA 2 [q] ++ encA 1 [h, (t.size : Int)]) ++ t.data.toList := by simp [encV, hno]
    have e2 : bcs t.data.toList = Lib.strCells t := rfl
    have e3 : t.data.toList.length = t.size := by rw [Array.length_toList]; rfl
    rw [e1, bcs_append, List.length_append, e2, e3]
    simpa only [List.append_assoc, List.length_append] using ho5
   clear ho5 hg5 ho4 hB4 hp4 hpc
   go_wp2
   go_ret
   exact ⟨_, rfl, hoN, hB5⟩
 ·go_wp2
  go_ret
  exact ⟨_, rfl, by simpa [encV, hno] using ho2, hB2⟩
def Vt.ok (x : Vt) : Prop := (0 ≤ x.s ∧ x.s ≤ 1000000) ∧ (0 ≤ x.b ∧ x.b ≤ 1000000) ∧ (0 ≤ x.p.c ∧ x.p.c ≤ 1000000) ∧ (0 ≤ x.p.q ∧ x.p.q ≤ 1000000) ∧ (0 ≤ x.p.h ∧ x.p.h ≤ 1000000) ∧ x.p.t.size ≤ 1000
def encX (x : Vt) : List UInt8 := encA 1 [x.s] ++ encA 2 [x.b] ++ encV x.p
def encVs : List Vt → List UInt8
 | [] => []
 | x :: l => encX x ++ encVs l
theorem encVs_append (a b : List Vt) : encVs (a ++ b) = encVs a ++ encVs b := by
 induction a with
 | nil => rfl
 | cons x a ih => simp [encVs, ih]
theorem encV_length_le (p : Pst) (h : p.t.size ≤ 1000) : (encV p).length ≤ 1005 := by
 have e3 : p.t.data.toList.length = p.t.size := by rw [Array.length_toList]; rfl
 unfold encV
 split
 ·simp [encA, encN]
 ·simp only [List.length_append, e3, encA_length]; simp; omega
theorem encVs_length_le (l : List Vt) (h : ∀ x ∈ l, x.ok) : (encVs l).length ≤ l.length * 1010 := by
 induction l with
 | nil => simp [encVs]
 | cons x l ih =>
  have h1 := ih (fun y hy => h y (List.mem_cons_of_mem _ hy))
  have h2 := encV_length_le x.p (h x List.mem_cons_self).2.2.2.2.2
  simp only [encVs, encX, List.length_append, encA_length, List.length_cons]
  simp
  omega
set_option maxHeartbeats 4000000 in
theorem putVotes_any (B : Nat) (v : Value) (bs : List UInt8) (vv : Value) (l : List Vt) (w : World) (hown : Own w B v bs) (hB : B ≤ w.heap.size) (hlen : bs.length ≤ 1000) (hv : VAt w vv l) (hvB : l ≠ [] → ∀ g, vv.ownBlock = some g → g < B)
  (hl : l.length ≤ 16) (hok : ∀ x ∈ l, x.ok) :
  Calls Tryz.prog 80 #[v, vv] w fun e w' => ∃ v', e = .returned v' ∧ Own w' B v' (bs ++ encA 1 [(l.length : Int)] ++ encVs l) ∧ Below B w w' := by
 obtain ⟨ao, cap, rfl, hc⟩ := hv.form
 clear hv
 go_enter Tryz.func80, Tryz.ntmps80
 go_wp2_with fail
 refine (putNumbers_any B v bs 1 [(l.length : Int)] w.heap.size _ (hown.alloc _) (by simp; omega) (by simp) (hown.ne (Nat.le_refl _)) (cells_one _ _ _ rfl _) (by simp; omega) (by decide) (by omega) (by simp)).mono ?_
 rintro e w1 ⟨v1, rfl, ho1, hk1⟩
 have hb1 : Below B w w1 := ((Below.refl _ w).alloc hB _).trans (hk1.toBelow (by simp; omega) (fun k e => (hown.lt k e).1))
 clear hk1 hown
 obtain ⟨a1, n1, c1, rfl⟩ := owns_slice' ho1
 go_wp2_with fail
 go_loopw [0, 14] (fun o i wr => ∃ j : Nat, j ≤ l.length ∧ i = I6 j ∧ Own wr B o (bs ++ encA 1 [(l.length : Int)] ++ encVs (l.take j)) ∧ Below B w wr) (fun _ i _ => l.length - (intOf i).toNat)
 case atStart => exact ⟨0, Nat.zero_le _, rfl, by simpa [encVs] using ho1, hb1⟩
 case round =>
  obtain ⟨j, hj, rfl, ho, hb⟩ := hrel
  by_cases hlt : j < l.length
  ·obtain ⟨g, off, rfl, hg, hcell⟩ := hc (by intro e; subst e; simp at hlt)
   have hgB : g < B := hvB (by intro e; subst e; simp at hlt) g rfl
   have hz := hb.size
   have c0 : wr.cell? (A6 g (off + j * 6)) = some (I6 l[j].s) := by
    rw [hb.cell (p := (A6 g (off + j * 6))) hgB]; exact hcell _ _ (vcells_at l j hlt 0 (by decide))
   have c1 : wr.cell? (A6 g (off + j * 6 + 1)) = some (I6 l[j].b) := by
    rw [hb.cell (p := (A6 g (off + j * 6 + 1))) hgB]; exact hcell _ _ (vcells_at l j hlt 1 (by decide))
   have c2 : wr.cell? (A6 g (off + j * 6 + 2)) = some (I6 l[j].p.c) := by
    rw [hb.cell (p := (A6 g (off + j * 6 + 2))) hgB]; exact hcell _ _ (vcells_at l j hlt 2 (by decide))
   have c3 : wr.cell? (A6 g (off + j * 6 + 3)) = some (I6 l[j].p.q) := by
    rw [hb.cell (p := (A6 g (off + j * 6 + 3))) hgB]; exact hcell _ _ (vcells_at l j hlt 3 (by decide))
   have c4 : wr.cell? (A6 g (off + j * 6 + 4)) = some (I6 l[j].p.h) := by
    rw [hb.cell (p := (A6 g (off + j * 6 + 4))) hgB]; exact hcell _ _ (vcells_at l j hlt 4 (by decide))
   have c5 : wr.cell? (A6 g (off + j * 6 + 5)) = some (.string l[j].p.t) := by
    rw [hb.cell (p := (A6 g (off + j * 6 + 5))) hgB]; exact hcell _ _ (vcells_at l j hlt 5 (by decide))
   obtain ⟨k1, k2, k3, k4, k5, k6⟩ := hok l[j] (List.getElem_mem hlt)
   have HE : Hid (encVs (l.take (j + 1)) = encVs (l.take j) ++ encX l[j]) := by
    show _ = _
    rw [List.take_succ_eq_append_getElem hlt, encVs_append]; simp [encVs]
   have HX : Hid (encX l[j] = encA 1 [l[j].s] ++ encA 2 [l[j].b] ++ encV l[j].p) := rfl
   have hle : (encVs (l.take j)).length ≤ 16160 := by
    have := encVs_length_le (l.take j) (fun x hx => hok x (List.mem_of_mem_take hx))
    simp only [List.length_take] at this
    have h2 : min j l.length * 1010 ≤ 16 * 1010 := Nat.mul_le_mul_right _ (by omega)
    omega
   clear hcell
   generalize encVs (l.take j) = ev at *
   generalize l[j] = x at *
   obtain ⟨xs, xb, ⟨pc, pq, ph, pt⟩⟩ := x
   dsimp only at *
   have hon := ho.ne (Nat.le_refl _)
   have hon1 := ho.ne (Nat.le_add_right _ 1)
   obtain ⟨a2, n2, cc2, rfl⟩ := owns_slice' ho
   go_wp2_with fail
   refine (putNumbers_any B _ _ 1 [xs] (wr.heap.size + 1) _ ((ho.alloc _).alloc _) (by simp; omega) (by simp) hon1 (cells_one _ _ _ (by simp) _) (by simpa using k1) (by decide) (by simp [encA, encN]; omega) (by simp)).mono ?_
   rintro e w2 ⟨v2, rfl, ho2, hk2⟩
   have hb2 : Below B w w2 := ((hb.alloc (by omega) _).alloc (by simp; omega) _).trans (hk2.toBelow (by simp; omega) (fun k e => (ho.lt k e).1))
   have hp2 := blk_kp hk2 (blk_alloc (blk_new wr _) _) hon
   have hn2 := hk2.ne (b := wr.heap.size) (by simp; omega) hon
   have hz2' := hk2.size
   simp only [World.size_alloc] at hz2'
   clear hk2 ho hb hon hon1
   have hpc := blk_cell hp2
   have hon2 := ho2.ne (Nat.le_refl _)
   go_wp2_with fail
   refine (putNumbers_any B _ _ 2 [xb] w2.heap.size _ (ho2.alloc _) (by simp; omega) (by simp) hon2 (cells_one _ _ _ rfl _) (by simpa using k2) (by decide) (by simp [encA, encN]; omega) (by simp)).mono ?_
   rintro e w3 ⟨v3, rfl, ho3, hk3⟩
   have hb3 : Below B w w3 := (hb2.alloc (by omega) _).trans (hk3.toBelow (by simp; omega) (fun k e => (ho2.lt k e).1))
   have hp3 := blk_kp hk3 (blk_alloc hp2 _) hn2
   have hz3' := hk3.size
   simp only [World.size_alloc] at hz3'
   clear hk3 ho2 hb2 hon2 hpc hp2 hn2
   have hpc := blk_cell hp3
   go_wp2_with fail
   refine (putValue_any B _ _ pc pq ph pt _ ho3 (by omega) (by simp [encA, encN]; omega) k3 k4 k5 k6).mono ?_
   rintro e w4 ⟨v4, rfl, ho4, hb4⟩
   have hB4 := hb3.trans hb4
   have hoN : Own w4 B v4 (bs ++ encA 1 [(l.length : Int)] ++ encVs (l.take (j + 1))) := by
    rw [HE.out, HX.out]; simpa only [List.append_assoc] using ho4
   clear ho4 ho3 hb3 hp3 hpc hb4
   go_wp2
   go_roundw
   case rel => exact ⟨j + 1, by omega, by go_num, hoN, hB4⟩
   case measure => simp [intOf]; omega
  ·have hjl : j = l.length := by omega
   subst hjl
   go_wp2
   go_ret
   exact ⟨_, rfl, by simpa using ho, hb⟩
end
end Go.Proofs.YtnnhnekfokbooaaGreatDoor
