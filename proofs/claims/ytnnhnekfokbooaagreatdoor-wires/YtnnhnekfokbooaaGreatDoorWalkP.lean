/- The walk of putNumbers. -/
import Derived.Test.YtnnhnekfokbooaaGreatDoorWalkD
import Derived.Deep.AppendLies
import Derived.WalkKit
import Derived.WalkSpells
import Derived.WalkLawsBesides
namespace Go.Proofs.YtnnhnekfokbooaaGreatDoor
open Go.RowKit

def byteOf (n : Int) : UInt8 := UInt8.ofNat (n % 256).toNat
def encN : Nat → Int → List UInt8
  | 0, _ => []
  | k + 1, n => byteOf n :: encN k (n / 256)
def encA (k : Nat) : List Int → List UInt8
  | [] => []
  | n :: l => encN k n ++ encA k l
def bcs (l : List UInt8) : List Value := l.map fun b => Value.int .u8 (b.toNat : Int)
theorem bcs_append (a b : List UInt8) : bcs (a ++ b) = bcs a ++ bcs b := by simp [bcs]
theorem bcs_length (a : List UInt8) : (bcs a).length = a.length := by simp [bcs]
theorem byteOf_nat (n : Int) : ((byteOf n).toNat : Int) = n % 256 := by
  have h : (n % 256).toNat < 256 := by omega
  simp [byteOf]; omega
theorem encN_length (k : Nat) (n : Int) : (encN k n).length = k := by
  induction k generalizing n with
  | zero => rfl
  | succ k ih => simp [encN, ih]
theorem encA_length (k : Nat) (l : List Int) : (encA k l).length = l.length * k := by
  induction l with
  | nil => simp [encA]
  | cons n l ih => simp [encA, ih, encN_length, Nat.succ_mul, Nat.add_comm]
theorem encA_append (k : Nat) (a b : List Int) : encA k (a ++ b) = encA k a ++ encA k b := by
  induction a with
  | nil => rfl
  | cons n l ih => simp [encA, ih]

/-- A slice of bytes that the call itself made, with what it holds. -/
def Own (w : World) (B : Nat) (v : Value) (bs : List UInt8) : Prop := w.ownsRow B 5 1 v bs.length (bcs bs)

theorem owns_slice' {w : World} {base : Nat} {e : TypeId} {size : Nat} {v : Value} {n : Nat} {xs : List Value} (h : w.ownsRow base e size v n xs) : ∃ ao k cap, v = .slice ao k cap := by
  rcases h.2 with ⟨e, _⟩ | ⟨g, cap, cur, e, _⟩
  · exact ⟨_, _, _, e⟩
  · exact ⟨_, _, _, e⟩
theorem Tryz.infoByte : (Tryz.prog.info? 5).map (fun i => (i.zero, i.size, i.bytes)) = some (some (.int .u8 0), 1, 1) := by kernel_rfl

set_option maxHeartbeats 4000000 in
set_option maxRecDepth 100000 in
theorem putNumbers_any (B : Nat) (v : Value) (bs : List UInt8) (k : Nat) (ns : List Int) (g : Nat) (w : World) (hown : Own w B v bs) (hB : B ≤ w.heap.size) (hg : g < w.heap.size) (hvg : v.ownBlock ≠ some g)
    (hcell : ∀ (j : Nat) (n : Int), ns[j]? = some n → w.cell? ⟨g, j, none⟩ = some (.int .i64 n)) (hns : ∀ n ∈ ns, 0 ≤ n ∧ n ≤ 1000000) (hk : k ≤ 2) (hlen : bs.length ≤ 100000) (hnl : ns.length ≤ 100) :
    Calls Tryz.prog 78 #[v, .int .i64 k, .slice (some ⟨g, 0, none⟩) ns.length ns.length] w fun e w' => ∃ v', e = .returned v' ∧ Own w' B v' (bs ++ encA k ns) ∧ Kp v.ownBlock v'.ownBlock w w' := by
  obtain ⟨i0, hi, hz0, hz1, hz2⟩ := info_parts Tryz.infoByte
  obtain ⟨ao, an, ac, hvs⟩ := owns_slice' hown
  subst hvs
  go_enter Tryz.func78, Tryz.ntmps78
  go_wp2_with fail
  go_loopw [0, 11] (fun o i wr => ∃ j : Nat, j ≤ ns.length ∧ i = .int .i64 j ∧ Own wr B o (bs ++ encA k (ns.take j)) ∧ Kp (Value.slice ao an ac).ownBlock o.ownBlock w wr) (fun _ i _ => ns.length - (intOf i).toNat)
  case atStart => exact ⟨0, Nat.zero_le _, rfl, by simpa [encA] using hown, Kp.refl _ _⟩
  case round =>
    obtain ⟨j, hj, rfl, ho, hkp⟩ := hrel
    by_cases hlt : j < ns.length
    · have hcj : wr.cell? ⟨g, j, none⟩ = some (.int .i64 ns[j]) := by rw [hkp.cell hg hvg]; exact hcell j _ (List.getElem?_eq_getElem hlt)
      obtain ⟨hn0, hn1⟩ := hns ns[j] (List.getElem_mem hlt)
      have HE : Hid (encA k (ns.take (j + 1)) = encA k (ns.take j) ++ encN k ns[j]) := by
        show _ = _
        rw [List.take_succ_eq_append_getElem hlt, encA_append]; simp [encA]
      have hl1 : (encA k (ns.take j)).length ≤ 200 := by
        rw [encA_length, List.length_take]
        have : min j ns.length * k ≤ 100 * 2 := Nat.mul_le_mul (by omega) hk
        omega
      generalize ns[j] = n at *
      generalize encA k (ns.take j) = ea at *
      go_wp2_with fail
      go_loopw [0, 8, 16] (fun o nn c wi => ∃ (i : Nat) (P : List UInt8) (n' : Int), i ≤ k ∧ c = .int .i64 i ∧ nn = .int .i64 n' ∧ 0 ≤ n' ∧ n' ≤ 1000000 ∧ P ++ encN (k - i) n' = encN k n ∧ P.length = i ∧ Own wi B o (bs ++ ea ++ P) ∧ Kp (Value.slice ao an ac).ownBlock o.ownBlock w wi) (fun _ _ c _ => k - (intOf c).toNat)
      case atStart => exact ⟨0, [], n, Nat.zero_le _, rfl, rfl, hn0, hn1, rfl, rfl, by simpa using ho, hkp⟩
      case round =>
        obtain ⟨i, P, n', hik, rfl, rfl, hm0, hm1, hP, hPl, hoi, hki⟩ := hrel
        have HP : Hid (P ++ encN (k - i) n' = encN k n) := hP
        clear hP
        by_cases hlti : i < k
        · go_wp2_with (at_builtin; refine wpList_append_lies _ rfl (.tmp 18) (.tmp 21) 141 rfl B 5 i0 _ 1 1 Tryz.underlying141 hi hz0 hz1 hz2 rfl (by decide) _ (bs ++ ea ++ P).length (bcs (bs ++ ea ++ P)) rfl (World.ownsRow.alloc hoi _) _ 1 1 [.int .u8 (n' % 256)] rfl rfl ?_ ?_ (by decide) ?_ ?_ ?_ _ rfl ?_)
          · exact news_new _ _ rfl _ _
          · intro u hu; simp at hu; subst hu; rfl
          · unfold maxLen; simp; omega
          · simp; omega
          · have := hki.size; simp; omega
          · intro g' cap w1 hown1 hgrow hat hlt1
            have hoN : Own w1 B (.slice (some ⟨g', 0, none⟩) (bs.length + (ea.length + i) + 1) cap) (bs ++ ea ++ (P ++ [byteOf n'])) := by
              have e1 : (bs ++ ea ++ (P ++ [byteOf n'])).length = bs.length + (ea.length + i) + 1 := by simp [hPl]; omega
              have e2 : bcs (bs ++ ea ++ (P ++ [byteOf n'])) = bcs (bs ++ (ea ++ P)) ++ [Value.int .u8 (n' % 256)] := by
                simp [bcs, byteOf_nat]
              unfold Own
              rw [e1, e2]
              exact hown1
            have hKN : Kp (Value.slice ao an ac).ownBlock (Value.slice (some ⟨g', 0, none⟩) (bs.length + (ea.length + i) + 1) cap).ownBlock w w1 := (hki.alloc _).grown hgrow hat (by simp)
            have HP2 : Hid (P ++ [byteOf n'] ++ encN (k - (i + 1)) (n' / 256) = encN k n) := by
              show _ = _
              rw [← HP.out, show k - i = (k - (i + 1)) + 1 from by omega]
              simp [encN]
            clear hgrow hown1 hat hlt1 hki hoi
            go_wp2
            go_roundw
            case rel => exact ⟨i + 1, P ++ [byteOf n'], n' / 256, by omega, by go_num, by go_num, by omega, by omega, HP2.out, by simp [hPl], hoN, hKN⟩
            case measure => simp [intOf]; omega
        · have hki' : i = k := by omega
          subst hki'
          have hP2 : P = encN i n := by have := HP.out; simpa [encN] using this
          have hoN : Own wr B u0 (bs ++ encA i (ns.take (j + 1))) := by rw [HE.out, ← hP2, ← List.append_assoc]; exact hoi
          go_wp2
          go_roundw
          case rel => exact ⟨j + 1, by omega, by go_num, hoN, hki⟩
          case measure => simp [intOf]; omega
    · have hjl : j = ns.length := by omega
      subst hjl
      go_wp2
      go_ret
      exact ⟨_, rfl, by simpa using ho, hkp⟩
end Go.Proofs.YtnnhnekfokbooaaGreatDoor
