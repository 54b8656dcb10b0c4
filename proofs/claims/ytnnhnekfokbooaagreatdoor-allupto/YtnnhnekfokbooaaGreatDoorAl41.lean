/- WalkH -/
import Derived.Test.YtnnhnekfokbooaaGreatDoorAl40
set_option linter.unusedSimpArgs false
set_option linter.unusedVariables false
set_option maxRecDepth 100000
namespace Go.Proofs.YtnnhnekfokbooaaGreatDoor
section
open Go.RowKit
def MS (W : World) (bm bh : Nat) (m : Array Value) (h : Array Value) (w' : World) : Prop :=
 w'.heap[bm]? = some (.cells m 36 (0, 0)) ∧ w'.heap[bh]? = some (.cells h 139 (0, 0)) ∧ Below W.heap.size W w'
theorem MS.step {W : World} {bm bh : Nat} {m h : Array Value} {w w' : World} (hs : MS W bm bh m h w) (hb : Below w.heap.size w w') : MS W bm bh m h w' :=
 ⟨blk_below hb hs.1, blk_below hb hs.2.1, hs.2.2.trans (hb.mono hs.2.2.size)⟩
theorem MS.drew {W : World} {bm bh : Nat} {m h : Array Value} {w : World} (hs : MS W bm bh m h w) : MS W bm bh m h w.drew := ⟨hs.1, hs.2.1, hs.2.2.drew⟩
def rmB (m : Ms) : Bool :=
 withinB m.k 1 6 && withinB m.f 0 6 && withinB m.t 0 6 && fitsB (hasB m.k) (withinB m.b 1 8007) (m.b == 0) && fitsB (hasS m.k) (withinB m.s 0 15) (m.s == 0) &&
 fitsB (hasV m.k) (rightValueB m.p) (nothingB m.p) && fitsB (hasA m.k) (rvB (-1) m.a) ((m.a.length : Int) == 0)
end
end Go.Proofs.YtnnhnekfokbooaaGreatDoor
