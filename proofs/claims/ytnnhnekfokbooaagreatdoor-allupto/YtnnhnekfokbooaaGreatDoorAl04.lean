/- CodeI, CodeJ, CodeK, CodeL, CodeM -/
import Derived.Test.YtnnhnekfokbooaaGreatDoorAl03
set_option linter.unusedSimpArgs false
set_option linter.unusedVariables false
set_option maxRecDepth 100000
namespace Go.Proofs.YtnnhnekfokbooaaGreatDoor
section
open Go.RowKit
def Nm.to (x : Nm) (f t : Int) : Nm := ⟨⟨x.m.k, f, t, x.m.b, x.m.s, x.m.p, x.m.a⟩, x.v⟩
def sends (l : List Nm) (x : Nm) (f : Int) : List Nat → List Nm
 | [] => l
 | t :: r => sends (sent l (x.to f t)) x f r
theorem sends_snoc (x : Nm) (f : Int) : ∀ (a : List Nat) (t : Nat) (l : List Nm), sends l x f (a ++ [t]) = sent (sends l x f a) (x.to f t)
 | [], t, l => rfl
 | s :: a, t, l => sends_snoc x f a t _
theorem sent_le {l : List Nm} (x : Nm) (h : l.length ≤ 200) : (sent l x).length ≤ 200 := by
 unfold sent; split
 ·simp; omega
 ·exact h
theorem sends_le (x : Nm) (f : Int) : ∀ (a : List Nat) (l : List Nm), l.length ≤ 200 → (sends l x f a).length ≤ 200
 | [], l, h => h
 | t :: a, l, h => sends_le x f a _ (sent_le _ h)
set_option maxHeartbeats 8000000 in
theorem send_any (rb sb H : Nat) (f : Int) (css : Array Value) (ts : TypeId) (v vt : Value) (l : List Nm) (x : Nm) (tos : List Nat) (w : World) (hnum : w.cell? (A6 rb 0) = some (I6 f)) (hnet : w.cell? (A6 rb 2) = some (.pointer (some (A6 sb 1))))
  (hbs : w.heap[sb]? = some (.cells css ts (0, 0))) (hcv : css[1]? = some v) (hown : w.ownsRow H 36 10 v l.length (ncs l)) (hne : v.ownBlock ≠ some sb) (hrs : rb ≠ sb) (hrv : v.ownBlock ≠ some rb) (hx : x.ok w) (hl : l.length ≤ 200) (hH : H ≤ w.heap.size)
  (hvt : RowAt w 1 vt tos.length (tos.map fun (i : Nat) => I6 (i : Int))) (hvd : ∀ g, vt.ownBlock = some g → g ≠ sb ∧ v.ownBlock ≠ some g) (hlen : tos.length ≤ 1000) (hxd : ∀ g, x.v.ownBlock = some g → g ≠ sb ∧ v.ownBlock ≠ some g) :
  Calls Tryz.prog 90 #[P6 rb, .agg x.cells.toArray, vt] w fun e w' => ∃ v', e = .returned (.tuple #[]) ∧ w'.heap[sb]? = some (.cells (css.setIfInBounds 1 v') ts (0, 0)) ∧ w'.ownsRow H 36 10 v' (sends l x f tos).length (ncs (sends l x f tos)) ∧ v'.ownBlock ≠ some sb ∧
   (∀ g, v'.ownBlock = some g → v.ownBlock = some g ∨ w.heap.size ≤ g) ∧ Keeps (fun k => k = sb ∨ v.ownBlock = some k) w w' := by
 have hslt := lt_of_block hbs
 have hrlt := World.block_lt_of_cell? w _ hnum
 have hvlt := fun g hg => (World.ownsRow.lt hown g hg).2
 obtain ⟨va, vc, hvte, hvf⟩ := hvt.form
 subst hvte
 have hx0 := hx
 obtain ⟨xa, xc, hxe, _⟩ := hx.1.form
 obtain ⟨⟨mk, mf, mt, mb, ms, ⟨mc, mq, mh, mx⟩, ma⟩, xv⟩ := x
 have HX : Hid (Nm.ok w ⟨⟨mk, mf, mt, mb, ms, ⟨mc, mq, mh, mx⟩, ma⟩, xv⟩) := hx0
 clear hx0 hx
 simp only [Nm.cells] at *
 subst hxe
 generalize hxn : ma.length = xn at *
 have hcse : css.setIfInBounds 1 v = css := by
  apply Array.ext_getElem?
  intro i
  by_cases e : i = 1
  ·subst e
   have hlt := (Array.getElem?_eq_some_iff.1 hcv).1
   rw [Array.getElem?_setIfInBounds_self_of_lt hlt, hcv]
  ·rw [Array.getElem?_setIfInBounds_ne (by omega)]
 have hxok : ∀ W : World, Keeps (fun k => k = sb ∨ v.ownBlock = some k) w W → VAt W (.slice xa xn xc) ma ∧ ma.length ≤ 1000 := fun W hW => by
  refine ⟨⟨HX.out.1.len, ?_⟩, HX.out.2⟩
  obtain ⟨ao, cap, he, hfo⟩ := HX.out.1.form
  refine ⟨ao, cap, he, fun hne0 => ?_⟩
  obtain ⟨g, off, rfl, hg, hcc⟩ := hfo hne0
  have hd := hxd g (by have e2 := he; injection e2 with e3; rw [e3]; rfl)
  refine ⟨g, off, rfl, Nat.lt_of_lt_of_le hg hW.size, fun j u hu => ?_⟩
  rw [World.cell?_of_block (w := w) (hW.block g hg (by rintro (e | e); exact hd.1 e; exact hd.2 e))]
  exact hcc j u hu
 have hbx := blk_new w (.cells #[I6 mk, I6 mf, I6 mt, I6 mb, I6 ms, I6 mc, I6 mq, I6 mh, .string mx, .slice xa xn xc] 36)
 go_enter Tryz.func90, Tryz.ntmps90
 go_wp2_with fail
 go_loopw [7, 15] (fun q i wr => ∃ (j : Nat) (v' : Value) (tt : Int), j ≤ tos.length ∧ i = I6 j ∧ wr.heap[sb]? = some (.cells (css.setIfInBounds 1 v') ts (0, 0)) ∧ wr.ownsRow H 36 10 v' (sends l ⟨⟨mk, mf, mt, mb, ms, ⟨mc, mq, mh, mx⟩, ma⟩, .slice xa xn xc⟩ f (tos.take j)).length (ncs (sends l ⟨⟨mk, mf, mt, mb, ms, ⟨mc, mq, mh, mx⟩, ma⟩, .slice xa xn xc⟩ f (tos.take j)))
   ∧ v'.ownBlock ≠ some sb ∧ (∀ g, v'.ownBlock = some g → v.ownBlock = some g ∨ w.heap.size < g) ∧ wr.heap[w.heap.size]? = some (.cells #[I6 mk, I6 f, I6 tt, I6 mb, I6 ms, I6 mc, I6 mq, I6 mh, .string mx, .slice xa xn xc] 36 (0, 0)) ∧ Keeps (fun k => k = sb ∨ v.ownBlock = some k) w wr) (fun _ i _ => tos.length - (intOf i).toNat)
 case atStart =>
  refine ⟨0, v, mt, Nat.zero_le _, rfl, ?_, owns_alloc hown _, hne, fun g hg => .inl hg, blk_new _ _, Keeps.ofAlloc w _⟩
  rw [hcse]
  exact blk_alloc hbs _
 case round =>
  obtain ⟨j, v', tt, hj, rfl, hsb, hown', hne', hat', hbox, hKp⟩ := hrel
  have hlt0 : w.heap.size < wr.heap.size := lt_of_block hbox
  by_cases hjn : j < tos.length
  ·have hp6' : wr.cell? (A6 rb 2) = some (.pointer (some (A6 sb 1))) := by
    rw [World.cell?_of_block (w := w) (hKp.block rb hrlt (by rintro (e | e); exact hrs e; exact hrv e))]; exact hnet
   obtain ⟨g, off, rfl, hg, hgc⟩ := hvf (by omega)
   obtain ⟨hg1, hg2⟩ := hvd g rfl
   have hct : wr.cell? (A6 g (off + j)) = some (I6 (tos[j] : Int)) := by
    rw [World.cell?_of_block (w := w) (hKp.block g hg (by rintro (e | e); exact hg1 e; exact hg2 e))]
    exact hgc j _ (by simp [hjn])
   have hxo : VAt wr (.slice xa xn xc) ma ∧ ma.length ≤ 1000 := hxok wr hKp
   have htk : tos.take (j + 1) = tos.take j ++ [tos[j]] := by rw [List.take_add_one, List.getElem?_eq_getElem hjn]; rfl
   generalize hto : (tos[j] : Int) = tq at *
   have q0 : (0 : Int) ≤ (j : Int) := by omega
   have q1 : (j : Int) < (tos.length : Int) := by omega
   have hboxc := blk_cell hbox
   have hboxf := blk_free hbox
   go_wp2_with fail
   have hb6 := blk_set hbox 2 (I6 tq)
   have hp6 : (wr.setCell (A6 w.heap.size 2) (I6 tq)).cell? (A6 rb 2) = some (.pointer (some (A6 sb 1))) := by
    rw [World.cell?_of_block (w := wr) (Below.heap_setCell _ _ _ _ (by show rb ≠ w.heap.size; omega))]; exact hp6'
   have hsb6 := blk_set_other hsb (a := (A6 w.heap.size 2)) (by show sb ≠ w.heap.size; omega) (I6 tq)
   have hvB : v'.ownBlock ≠ some w.heap.size := fun e => by rcases hat' _ e with h | h; (have := hvlt _ h; omega); omega
   have hown6 := owns_set hown' (a := (A6 w.heap.size 2)) hvB (I6 tq)
   have hK6 := hKp.setAt (a := (A6 w.heap.size 2)) (.inr (Nat.le_refl _)) (I6 tq)
   generalize wr.setCell (A6 w.heap.size 2) (I6 tq) = w6 at *
   have hb6' : w6.heap[w.heap.size]? = some (.cells #[I6 mk, I6 f, I6 tq, I6 mb, I6 ms, I6 mc, I6 mq, I6 mh, .string mx, .slice xa xn xc] 36 (0, 0)) := hb6
   clear hb6
   have hb6 := hb6'
   have ho1 : (css.setIfInBounds 1 v')[1]? = some v' := by
    have hlt1 := (Array.getElem?_eq_some_iff.1 hcv).1
    rw [Array.getElem?_setIfInBounds_self_of_lt hlt1]
   have hle := sends_le (Nm.mk (Ms.mk mk mf mt mb ms ⟨mc, mq, mh, mx⟩ ma) (.slice xa xn xc)) f (tos.take j) l hl
   have hsn := sends_snoc (Nm.mk (Ms.mk mk mf mt mb ms ⟨mc, mq, mh, mx⟩ ma) (.slice xa xn xc)) f (tos.take j) tos[j] l
   rw [← htk] at hsn
   generalize sends l ⟨⟨mk, mf, mt, mb, ms, ⟨mc, mq, mh, mx⟩, ma⟩, .slice xa xn xc⟩ f (tos.take j) = Lj at *
   have hz6 := hK6.size
   have hPut := put_any sb 1 H (css.setIfInBounds 1 v') ts v' Lj (Nm.to ⟨⟨mk, mf, mt, mb, ms, ⟨mc, mq, mh, mx⟩, ma⟩, .slice xa xn xc⟩ f (tos[j] : Int)) w6.drew hsb6 ho1 hown6 hne' (hxok w6.drew ⟨hK6.os, hK6.tape, hK6.output, hK6.size, hK6.block⟩) hle (Nat.le_trans hH hz6)
   have HS : Hid (sends l ⟨⟨mk, mf, mt, mb, ms, ⟨mc, mq, mh, mx⟩, ma⟩, .slice xa xn xc⟩ f (tos.take (j + 1)) = sent Lj (Nm.to ⟨⟨mk, mf, mt, mb, ms, ⟨mc, mq, mh, mx⟩, ma⟩, .slice xa xn xc⟩ f (tos[j] : Int))) := hsn
   clear hsn
   generalize sent Lj (Nm.to ⟨⟨mk, mf, mt, mb, ms, ⟨mc, mq, mh, mx⟩, ma⟩, .slice xa xn xc⟩ f (tos[j] : Int)) = L1 at *
   simp only [Nm.to, Nm.cells, hto] at hPut
   refine wp_region_held_drew (S := fun w' => w'.cell? (A6 rb 2) = some (.pointer (some (A6 sb 1))) ∧ w'.heap[w.heap.size]? = some (.cells #[I6 mk, I6 f, I6 tq, I6 mb, I6 ms, I6 mc, I6 mq, I6 mh, .string mx, .slice xa xn xc] 36 (0, 0))) (by kernel_rfl) (⟨hp6, hb6⟩) (fun hS => ?_)
   refine tk 0 rfl hS (v := P6 rb) (fun w' hw => by clear hS; go_simp) ?_
   try simp only [ly]
   refine tk 1 rfl hS (v := P6 rb) (fun w' hw => by clear hS; go_simp) ?_
   try simp only [ly]
   refine tk 2 rfl hS (v := .pointer (some (A6 rb 2))) (fun w' hw => by clear hS; go_simp) ?_
   try simp only [ly]
   refine tk 3 rfl hS (v := .pointer (some (A6 sb 1))) (fun w' hw => by have c := hw.1; clear hS; go_simp) ?_
   try simp only [ly]
   refine tk 4 rfl hS (v := .agg #[I6 mk, I6 f, I6 tq, I6 mb, I6 ms, I6 mc, I6 mq, I6 mh, .string mx, .slice xa xn xc]) (fun w' hw => by have c := blk_cell hw.2; clear hS; go_simp) ?_
   try simp only [ly]
   refine r1 5 rfl (fun K hK => ?_)
   go_simp
   refine hPut.mono ?_
   rintro e w7 ⟨v7, rfl, hs7, ho7, hn7, hat7, hk7⟩
   have hp7 : w7.cell? (A6 rb 2) = some (.pointer (some (A6 sb 1))) := by
    have hr6 : rb < w6.heap.size := by omega
    rw [World.cell?_of_block (w := w6) (hk7.block rb hr6 (by rintro (e | e); exact hrs e; (rcases hat' _ e with h | h; exact hrv h; omega)))]
    exact hp6
   have hb7 := blk_keeps hk7 (b := w.heap.size) hb6 (by rintro (e | e); omega; exact hvB e)
   go_wp2_with fail
   refine hK.out _ _ ⟨hp7, hb7⟩ (fun hS => ?_)
   clear hK K
   try simp only [ly]
   refine dn ?_ _
   go_wp2_with fail
   go_roundw
   case rel =>
    refine ⟨j + 1, v7, tq, by omega, by go_num, ?_, ?_, hn7, fun g' hg' => ?_, hb7, ?_⟩
    ·rw [Array.setIfInBounds_setIfInBounds] at hs7
     exact hs7
    ·rw [HS.out]; exact ho7
    ·rcases hat7 g' hg' with h | h
     ·exact hat' g' h
     ·right
      have h9 : w6.heap.size ≤ g' := h
      have h8 := lt_of_block hb6
      omega
    ·refine ⟨hk7.os.trans hK6.os, hk7.tape.trans hK6.tape, hk7.output.trans hK6.output, Nat.le_trans hz6 hk7.size, fun k hk hn => ?_⟩
     have hk6 : k < w6.heap.size := by omega
     refine (hk7.block k hk6 (fun h => ?_)).trans (hK6.block k hk hn)
     rcases h with h | h
     ·exact hn (.inl h)
     ·rcases hat' k h with h9 | h9
      ·exact hn (.inr h9)
      ·omega
   case measure => simp [intOf]; omega
  ·obtain rfl : j = tos.length := by omega
   go_wp2_with fail
   go_end0
   rw [List.take_length] at hown'
   exact ⟨v', rfl, hsb, hown', hne', fun g hg => (hat' g hg).imp id (fun h => by omega), hKp⟩
end
section
open Go.RowKit
def voted (l : List Vt) : List Vt := l.filter fun v => decide (0 < v.b)
theorem vcells_cut : ∀ (l : List Vt) (k : Nat) (hk : k < l.length), (List.drop (k * 6) (vcells l)).take 6 = l[k].cells
 | [], k, hk => by simp at hk
 | v :: l, 0, _ => by
  show (v.cells ++ vcells l).take 6 = v.cells
  exact List.take_left' rfl
 | v :: l, k + 1, hk => by
  have e : (k + 1) * 6 = v.cells.length + k * 6 := by show _ = 6 + _; omega
  rw [vcells, e, List.drop_append, List.drop_of_length_le (by omega), List.nil_append, Nat.add_sub_cancel_left]
  exact vcells_cut l k (by simpa using hk)
theorem voted_snoc (acc : List Vt) (k : Nat) (hk : k < acc.length) : voted (acc.take (k + 1)) = voted (acc.take k) ++ (if 0 < acc[k].b then [acc[k]] else []) := by
 rw [List.take_add_one, List.getElem?_eq_getElem hk]
 unfold voted
 rw [List.filter_append]
 congr 1
 by_cases h : 0 < acc[k].b
 ·simp [h]
 ·simp [h]
theorem voted_le (l : List Vt) : (voted l).length ≤ l.length := List.length_filter_le _ _
theorem index_vote (acc : List Vt) (hl : acc.length = 16) (k : Nat) (hk : k < acc.length) (w : World) :
  (Instr.index 130 (.agg (vcells acc).toArray) (I6 (k : Int))).run Tryz.prog w = .ok (.agg acc[k].cells.toArray) w := by
 obtain ⟨i0, hi, hz0, hz1, hz2⟩ := info_parts Tryz.infoVote
 have q0 : (0 : Int) ≤ (k : Int) ∧ (k : Int) < 16 := by omega
 have q1 : (k : Int) < 16 := q0.2
 have hagg : (isAgg 53).run Tryz.prog w = .ok true w := by
  unfold isAgg
  rw [Sem.run_bind, run_underlying Tryz.underlying53 w]
  rfl
 simp [Instr.index, asIntOf, run_underlying Tryz.underlying130, q1, sizeOf, typeInfo, hi, hz1, part, hagg]
 rw [if_pos (by omega), vcells_cut acc k hk]
set_option maxHeartbeats 4000000 in
theorem allAccepted_any (rb : Nat) (acc : List Vt) (w : World) (hr : w.rangeAt rb 5 (vcells acc)) (hl : acc.length = 16) :
  Calls Tryz.prog 128 #[P6 rb] w fun e w' => ∃ v', e = .returned v' ∧ w'.ownsRow w.heap.size 53 6 v' (voted acc).length (vcells (voted acc)) ∧ Below w.heap.size w w' := by
 obtain ⟨i0, hi, hz0, hz1, hz2⟩ := info_parts Tryz.infoVote
 have hvl := vcells_length acc
 have hra : Hid (w.rangeAt rb 5 (vcells acc)) := hr
 have hi96 : Hid ((Tryz.prog.info? 130).map (·.size) = some (vcells acc).length) := show _ = _ from (by rw [hvl, hl]; kernel_rfl)
 go_enter Tryz.func128, Tryz.ntmps128
 go_upto_region 3 with (refine wpList_load_mid rfl 130 (.tmp 8) rfl rb 5 rfl (vcells acc) _ hra.out Tryz.underlying130 rfl hi96.out ?_)
 go_loopw [3, 10] (fun v i wr => ∃ k : Nat, k ≤ 16 ∧ i = I6 k ∧ wr.ownsRow w.heap.size 53 6 v (voted (acc.take k)).length (vcells (voted (acc.take k))) ∧ Below w.heap.size w wr) (fun _ i _ => 16 - (intOf i).toNat)
 case atStart => exact ⟨0, by omega, rfl, World.ownsRow_nil _ _ _ _, Below.refl _ _⟩
 case round =>
  obtain ⟨k, hk, rfl, hown, hB⟩ := hrel
  obtain ⟨va, vn, vc, rfl⟩ := owns_slice1 hown
  by_cases hlt : k < 16
  ·have q0 : (0 : Int) ≤ (k : Int) := by omega
   have q1 : (k : Int) < 16 := by omega
   have hka : k < acc.length := by omega
   have hix := index_vote acc hl k hka wr
   have hsn := voted_snoc acc k hka
   have hvn := voted_le (acc.take k)
   rw [List.length_take] at hvn
   generalize voted (acc.take k) = L at *
   have h1c := vcells_one [acc[k]]
   generalize acc[k] = y at *
   obtain ⟨ys, yb, ⟨yc, yq, yh, yt⟩⟩ := y
   simp only [Vt.cells] at hix hsn
   have HS := show Hid (voted (acc.take (k + 1)) = _) from hsn
   clear hsn
   have hLn : L.length ≤ 16 := by omega
   have hbb : L.length + 1 ≤ maxLen ∧ (L.length + 1) * 56 ≤ 140737488355328 := ⟨by unfold maxLen; omega, by omega⟩
   have hz := hB.size
   by_cases hyb : 0 < yb
   ·have hd : decide (0 < yb) = true := by simpa using hyb
    go_wp2_with (at_builtin; refine wpList_append_lies _ rfl (.tmp 16) (.tmp 18) 34 rfl w.heap.size 53 i0 _ 6 56 Tryz.underlying34 hi hz0 hz1 hz2 rfl (by decide) (.slice va vn vc) L.length (vcells L) rfl (owns_alloc (owns_alloc hown _) _) _ 1 1 [I6 ys, I6 yb, I6 yc, I6 yq, I6 yh, .string yt] rfl rfl (news_new _ _ (by simp) _ _) (by simpa [vcells, Vt.cells] using h1c) (by decide) hbb.1 hbb.2 (by simp; omega) _ rfl ?_; intro g cap w4 hown4 hgr hat hlt4)
    go_roundw
    case rel =>
     refine ⟨k + 1, by omega, by go_num, ?_, ?_⟩
     ·rw [HS.out, if_pos hyb, vcells_append, List.length_append]
      simpa [vcells, Vt.cells] using hown4
     ·refine ((hB.alloc (by omega) _).alloc (by simp; omega) _).trans ⟨hgr.os, hgr.tape, hgr.output, hgr.size, fun b hb => hgr.block b (by simp; omega) (fun e => by have := (World.ownsRow.lt hown b e.symm).1; omega)⟩
    case measure => simp [intOf]; omega
   ·have hd : decide (0 < yb) = false := by simpa using hyb
    go_wp2_with fail
    go_roundw
    case rel =>
     refine ⟨k + 1, by omega, by go_num, ?_, hB.alloc (by omega) _⟩
     rw [HS.out, if_neg hyb, List.append_nil]
     exact owns_alloc hown _
    case measure => simp [intOf]; omega
  ·obtain rfl : k = 16 := by omega
   go_wp2_with fail
   go_ret
   rw [List.take_of_length_le (by omega)] at hown
   exact ⟨_, rfl, hown, hB⟩
end
section
open Go.RowKit
structure Dn where
 m : Bool
 p : Pst
def Dn.cells (d : Dn) : List Value := [.bool d.m, I6 d.p.c, I6 d.p.q, I6 d.p.h, .string d.p.t]
def dcells : List Dn → List Value
 | [] => []
 | d :: l => d.cells ++ dcells l
theorem dcells_length (l : List Dn) : (dcells l).length = l.length * 5 := by
 induction l with
 | nil => rfl
 | cons x l ih => simp [dcells, ih, Dn.cells]; omega
def pcells : List Pst → List Value
 | [] => []
 | p :: l => p.cells ++ pcells l
theorem pcells_append (a b : List Pst) : pcells (a ++ b) = pcells a ++ pcells b := by
 induction a with
 | nil => rfl
 | cons x l ih => simp [pcells, ih]
theorem pcells_length (l : List Pst) : (pcells l).length = l.length * 4 := by
 induction l with
 | nil => rfl
 | cons x l ih => simp [pcells, ih, Pst.cells]; omega
def logOf (l : List Dn) : List Pst := (l.takeWhile (·.m)).map (·.p)
theorem log_le (l : List Dn) : (logOf l).length ≤ l.length := by
 unfold logOf
 rw [List.length_map]
 exact (List.takeWhile_prefix _).length_le
theorem Tryz.infoPost : (Tryz.prog.info? 33).map (fun i => (i.zero, i.size, i.bytes)) = some (some (.agg #[I6 0, I6 0, I6 0, .string ⟨#[]⟩]), 4, 40) := by kernel_rfl
theorem Tryz.infoDecision : (Tryz.prog.info? 132).map (fun i => (i.zero, i.size, i.bytes)) = some (some (.agg #[.bool false, I6 0, I6 0, I6 0, .string ⟨#[]⟩]), 5, 48) := by kernel_rfl
theorem dcells_cut : ∀ (l : List Dn) (k : Nat) (hk : k < l.length), (List.drop (k * 5) (dcells l)).take 5 = l[k].cells
 | [], k, hk => by simp at hk
 | v :: l, 0, _ => by
  show (v.cells ++ dcells l).take 5 = v.cells
  exact List.take_left' rfl
 | v :: l, k + 1, hk => by
  have e : (k + 1) * 5 = v.cells.length + k * 5 := by show _ = 5 + _; omega
  rw [dcells, e, List.drop_append, List.drop_of_length_le (by omega), List.nil_append, Nat.add_sub_cancel_left]
  exact dcells_cut l k (by simpa using hk)
theorem index_dec (acc : List Dn) (hl : acc.length = 16) (k : Nat) (hk : k < acc.length) (w : World) :
  (Instr.index 133 (.agg (dcells acc).toArray) (I6 (k : Int))).run Tryz.prog w = .ok (.agg acc[k].cells.toArray) w := by
 obtain ⟨i0, hi, hz0, hz1, hz2⟩ := info_parts Tryz.infoDecision
 have q1 : (k : Int) < 16 := by omega
 have hagg : (isAgg 132).run Tryz.prog w = .ok true w := by
  unfold isAgg
  rw [Sem.run_bind, run_underlying Tryz.underlying132 w]
  rfl
 simp [Instr.index, asIntOf, run_underlying Tryz.underlying133, q1, sizeOf, typeInfo, hi, hz1, part, hagg]
 rw [if_pos (by omega), dcells_cut acc k hk]
set_option maxHeartbeats 4000000 in
theorem log_any (rb : Nat) (dec : List Dn) (w : World) (hr : w.rangeAt rb 101 (dcells dec)) (hl : dec.length = 16) :
  Calls Tryz.prog 58 #[P6 rb] w fun e w' => ∃ v', e = .returned v' ∧ w'.ownsRow w.heap.size 33 4 v' (logOf dec).length (pcells (logOf dec)) ∧ Below w.heap.size w w' := by
 obtain ⟨i0, hi, hz0, hz1, hz2⟩ := info_parts Tryz.infoPost
 have hvl := dcells_length dec
 have hra : Hid (w.rangeAt rb 101 (dcells dec)) := hr
 have hi80 : Hid ((Tryz.prog.info? 133).map (·.size) = some (dcells dec).length) := show _ = _ from (by rw [hvl, hl]; kernel_rfl)
 go_enter Tryz.func58, Tryz.ntmps58
 go_upto_region 3 with (refine wpList_load_mid rfl 133 (.tmp 8) rfl rb 101 rfl (dcells dec) _ hra.out Tryz.underlying133 rfl hi80.out ?_)
 go_loopw [3, 10] (fun v i wr => ∃ (k : Nat) (L : List Pst), k ≤ 16 ∧ i = I6 k ∧ L.length = k ∧ logOf dec = L ++ logOf (dec.drop k) ∧ wr.ownsRow w.heap.size 33 4 v L.length (pcells L) ∧ Below w.heap.size w wr) (fun _ i _ => 16 - (intOf i).toNat)
 case atStart => exact ⟨0, [], by omega, rfl, rfl, rfl, World.ownsRow_nil _ _ _ _, Below.refl _ _⟩
 case round =>
  obtain ⟨k, L, hk, rfl, hLk, hlog, hown, hB⟩ := hrel
  obtain ⟨va, vn, vc, rfl⟩ := owns_slice1 hown
  have HL : Hid (logOf dec = L ++ logOf (dec.drop k)) := hlog
  clear hlog
  by_cases hlt : k < 16
  ·have q0 : (0 : Int) ≤ (k : Int) := by omega
   have q1 : (k : Int) < 16 := by omega
   have hka : k < dec.length := by omega
   have hix := index_dec dec hl k hka wr
   have hdr : dec.drop k = dec[k] :: dec.drop (k + 1) := List.drop_eq_getElem_cons hka
   generalize dec[k] = y at *
   have HD : Hid (dec.drop k = y :: dec.drop (k + 1)) := hdr
   clear hdr
   obtain ⟨ym, ⟨yc, yq, yh, yt⟩⟩ := y
   simp only [Dn.cells] at hix
   have hbb : L.length + 1 ≤ maxLen ∧ (L.length + 1) * 40 ≤ 140737488355328 := ⟨by unfold maxLen; omega, by omega⟩
   have hz := hB.size
   have h1c : ∀ u ∈ [I6 yc, I6 yq, I6 yh, .string yt], u.oneCell' = true := by
    intro u hu; simp at hu; rcases hu with rfl | rfl | rfl | rfl <;> rfl
   cases ym
   ·go_wp2_with fail
    go_ret
    have e0 : logOf dec = L := by rw [HL.out, HD.out]; simp [logOf]
    rw [e0]
    exact ⟨_, rfl, owns_alloc hown _, hB.alloc (by omega) _⟩
   ·go_wp2_with (at_builtin; refine wpList_append_lies _ rfl (.tmp 16) (.tmp 19) 54 rfl w.heap.size 33 i0 _ 4 40 Tryz.underlying54 hi hz0 hz1 hz2 rfl (by decide) (.slice va vn vc) L.length (pcells L) rfl (owns_alloc (owns_alloc hown _) _) _ 1 1 [I6 yc, I6 yq, I6 yh, .string yt] rfl rfl (news_new _ _ (by simp) _ _) h1c (by decide) hbb.1 hbb.2 (by simp; omega) _ rfl ?_; intro g cap w4 hown4 hgr hat hlt4)
    go_roundw
    case rel =>
     refine ⟨k + 1, L ++ [⟨yc, yq, yh, yt⟩], by omega, by go_num, by simp [hLk], ?_, ?_, ?_⟩
     ·rw [HL.out, HD.out]; simp [logOf]
     ·rw [pcells_append, List.length_append]
      simpa [pcells, Pst.cells, hLk] using hown4
     ·refine ((hB.alloc (by omega) _).alloc (by simp; omega) _).trans ⟨hgr.os, hgr.tape, hgr.output, hgr.size, fun b hb => hgr.block b (by simp; omega) (fun e => by have := (World.ownsRow.lt hown b e.symm).1; omega)⟩
    case measure => simp [intOf]; omega
  ·go_wp2_with fail
   go_ret
   have e0 : logOf dec = L := by rw [HL.out, List.drop_of_length_le (by omega)]; simp [logOf]
   rw [e0]
   exact ⟨_, rfl, hown, hB⟩
end
section
open Go.RowKit
set_option maxHeartbeats 4000000 in
theorem decide_any (rb slot : Nat) (cs : Array Value) (c q h : Int) (t : ByteArray) (w : World) (hb : w.heap[rb]? = some (.cells cs 137 (0, 0))) (hcs : cs.size = 182) (hs : slot < 16) :
  Calls Tryz.prog 133 #[P6 rb, I6 (slot : Int), .agg #[I6 c, I6 q, I6 h, .string t]] w fun e w' => e = .returned (.tuple #[]) ∧
   w'.heap[rb]? = some (.cells (cs.toList.take (101 + slot * 5) ++ [Value.bool true, I6 c, I6 q, I6 h, Value.string t] ++ cs.toList.drop (101 + slot * 5 + 5)).toArray 137 (0, 0)) ∧ Keeps (fun k => k = rb) w w' := by
 have hlt := lt_of_block hb
 have q0 : (0 : Int) ≤ (slot : Int) := by omega
 have q1 : (slot : Int) < 16 := by omega
 have hbox := blk_new w (.cells #[I6 c, I6 q, I6 h, .string t] 33)
 have hb1 := blk_alloc hb (.cells #[I6 c, I6 q, I6 h, .string t] 33)
 have hf1 := blk_free hb1
 go_enter Tryz.func133, Tryz.ntmps133
 go_wp2_with fail
 have hth : World.there (w.alloc (.cells #[I6 c, I6 q, I6 h, .string t] 33)).drew rb (101 + slot * 5) 5 := fun j hj => ⟨by show (World.cell? (w.alloc _) _).isSome = true; rw [blk_cell hb1, Array.getElem?_eq_getElem (by omega)]; rfl, hf1 _⟩
 have hi5 : (Tryz.prog.info? 132).map (·.size) = some (#[.bool true, I6 c, I6 q, I6 h, .string t] : Array Value).size := by kernel_rfl
 have h15 : (#[.bool true, I6 c, I6 q, I6 h, .string t] : Array Value).all (·.oneCell') = true := by simp [Value.oneCell']
 refine wp_region_held_drew (S := fun w' => w'.heap[w.heap.size]? = some (.cells #[I6 c, I6 q, I6 h, .string t] 33 (0, 0))) (by kernel_rfl) (hbox) (fun hS => ?_)
 refine tk 0 rfl hS (v := P6 rb) (fun w' hw => by clear hS; go_simp) ?_
 try simp only [ly]
 refine tk 1 rfl hS (v := I6 (slot : Int)) (fun w' hw => by clear hS; go_simp) ?_
 try simp only [ly]
 refine tk 2 rfl hS (v := .agg #[I6 c, I6 q, I6 h, .string t]) (fun w' hw => by have c := blk_cell hw; clear hS; go_simp) ?_
 try simp only [ly]
 refine tk 3 rfl hS (v := .agg #[.bool true, I6 c, I6 q, I6 h, .string t]) (fun w' hw => by clear hS; go_simp) ?_
 try simp only [ly]
 refine tk 4 rfl hS (v := P6 rb) (fun w' hw => by clear hS; go_simp) ?_
 try simp only [ly]
 refine tk 5 rfl hS (v := .pointer (some (A6 rb 101))) (fun w' hw => by clear hS; go_simp) ?_
 try simp only [ly]
 refine tk 6 rfl hS (v := .pointer (some (A6 rb (101 + slot * 5)))) (fun w' hw => by clear hS; go_simp) ?_
 try simp only [ly]
 refine r1 7 rfl (fun K hK => ?_)
 rw [if_pos (by kernel_rfl)]
 refine wp_store_mid 132 (.tmp 12) (.tmp 9) rfl rb (101 + slot * 5) #[.bool true, I6 c, I6 q, I6 h, .string t] rfl rfl hth hi5 h15 ?_
 refine hK.out _ _ ?_ (fun hS => ?_)
 ·show (World.setCells _ _ _ _).heap[_]? = _
  rw [setCells_other rb _ _ _ _ (by omega)]
  exact hbox
 clear hK K
 try simp only [ly]
 refine dn ?_ _
 go_wp2_with fail
 go_end0
 refine ⟨rfl, ?_, ?_⟩
 ·have X := setCells_self rb 137 [.bool true, I6 c, I6 q, I6 h, .string t] (101 + slot * 5) _ cs (blk_drew hb1) (by simp; omega)
  simpa using X
 ·exact Keeps.trans (Keeps.ofBelow (((Below.refl _ w).alloc (Nat.le_refl _) (.cells #[I6 c, I6 q, I6 h, .string t] 33)).drew)) (Keeps.ofSets (P := fun k => k = rb) rb rfl _ _ _)
end
section
open Go.RowKit
def nextB (dm : Nat → Bool) (kb : Nat → Int) : Nat → Nat
 | 0 => 0
 | k + 1 => if !dm k && kb k == 0 then nextB dm kb k else k + 1
set_option maxHeartbeats 4000000 in
theorem nextBehind_any (rb pb : Nat) (dm : Nat → Bool) (kb : Nat → Int) (w : World) (hd : ∀ k, k < 16 → w.cell? (A6 rb (101 + k * 5)) = some (.bool (dm k))) (hk : ∀ k, k < 16 → w.cell? (A6 pb (10 + k * 6 + 1)) = some (I6 (kb k))) :
  Calls Tryz.prog 142 #[P6 rb, P6 pb] w fun e w' => e = .returned (I6 (nextB dm kb 16 : Int)) ∧ Below w.heap.size w w' := by
 have hrl := World.block_lt_of_cell? w _ (hd 0 (by omega))
 have hpl := World.block_lt_of_cell? w _ (hk 0 (by omega))
 obtain ⟨N, hN⟩ : ∃ N, N = nextB dm kb 16 := ⟨_, rfl⟩
 rw [← hN]
 go_enter Tryz.func142, Tryz.ntmps142
 go_wp2_with fail
 go_loopw [5] (fun i wr => ∃ k : Nat, k ≤ 16 ∧ i = I6 k ∧ N = nextB dm kb k ∧ Below w.heap.size w wr) (fun i _ => (intOf i).toNat)
 case atStart => exact ⟨16, Nat.le_refl _, rfl, hN, Below.refl _ _⟩
 case round =>
  obtain ⟨k, hk16, rfl, hNk, hB⟩ := hrel
  rcases k with _ | k
  ·go_wp2_with fail
   go_ret
   simp only [nextB] at hNk
   subst hNk
   exact ⟨rfl, hB⟩
  ·have c1 : wr.cell? (A6 rb (101 + k * 5)) = some (.bool (dm k)) := (hB.cell (p := (A6 rb (101 + k * 5))) hrl).trans (hd k (by omega))
   have c2 : wr.cell? (A6 pb (10 + k * 6 + 1)) = some (I6 (kb k)) := (hB.cell (p := (A6 pb (10 + k * 6 + 1))) hpl).trans (hk k (by omega))
   have HN : Hid (N = nextB dm kb (k + 1)) := hNk
   clear hNk hN hd hk
   have q0 : (0 : Int) < ((k + 1 : Nat) : Int) := by omega
   have q1 : (0 : Int) ≤ ((k + 1 : Nat) : Int) - 1 := by omega
   have q2 : ((k + 1 : Nat) : Int) - 1 < 16 := by omega
   have q3 : (((k + 1 : Nat) : Int) - 1).toNat = k := by omega
   have hdg : decide ((0 : Int) < ((k + 1 : Nat) : Int)) = true := decide_eq_true q0
   cases hm : dm k
   ·rw [hm] at c1
    cases hb : (kb k == 0)
    ·have hfin : N = k + 1 := by rw [HN.out, nextB, hm, hb]; rfl
     go_wp2_with fail
     go_ret
     rw [hfin]
     exact ⟨rfl, hB⟩
    ·have hfin : N = nextB dm kb k := by rw [HN.out, nextB, hm, hb]; rfl
     go_wp2_with fail
     go_roundw
     case rel => exact ⟨k, by omega, by go_num, hfin, hB⟩
     case measure => simp [intOf]
   ·rw [hm] at c1
    have hfin : N = k + 1 := by rw [HN.out, nextB, hm]; rfl
    go_wp2_with fail
    go_ret
    rw [hfin]
    exact ⟨rfl, hB⟩
end
end Go.Proofs.YtnnhnekfokbooaaGreatDoor
