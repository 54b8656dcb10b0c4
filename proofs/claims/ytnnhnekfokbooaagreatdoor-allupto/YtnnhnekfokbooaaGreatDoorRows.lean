/-
  NARROWER THAN 'FOR EVERY INPUT', by the rows' own cells (each row's printed sentence says how): Wires: laid · Votes: laid · All: laid.
  DERIVED. THE GIVEN ROWS OF THIS SEAT. 3 by the template 'for every input the law returns true; each argument reads behind the call as it read before'; 0 by the template 'total and deterministic' (their statements: YtnnhnekfokbooaaGreatDoorTotals.lean).
  GIVEN WITH THE SEED: the statements are not yours to turn. If you find one false, say at which input.
  Laid BY PROGRAM, IN A SANDBOX (cutbox-rows.mjs): the forced cells as the released guide's own fill.sh prints them over the translation ec9082f4bcfd3fe9… (all of the seat's roots in one cut). By AI agents, Wed Nov 11 2026. No macro, syntax, notation, axiom, sorry.
-/
import Derived.Test.YtnnhnekfokbooaaGreatDoorChecked
import GoSem.Claim
import GoSem.ClaimJoined
import GoSem.ClaimMapViews
import Derived.JoinedTies
import Derived.KernelRfl
namespace Go.Proofs.YtnnhnekfokbooaaGreatDoor
/- THE CELL 'sum', in the pinned program and in every row, IS THE sha256 OF THE DUMP (.gsa) THAT YtnnhnekfokbooaaGreatDoorProg.lean LOADS. Nothing in Lean hashes anything: it is a label: what it is worth is what the hold of that sum in a sandbox is worth. -/
noncomputable def Tryz.pinned : Pinned := { name := "ytnnhnekfokbooaagreatdoor", sum := "ec9082f4bcfd3fe911db820b806f27e9a72e7186a42b7d80b1d755b7c5423f91", checked := Tryz.checked }
namespace Rows
def none {H : Type} : Left H := { results := [], args := [] }

/- WHAT THE LISTED PACKAGE-LEVEL VARIABLES READ AS WHEN THE CALL BEGINS. Each datum BY PROGRAM (the guide's laid-datum.mjs) off the statement by which the dump's own 'gosem.cut.vars' lays the variable. In a bare row this is a premise. The card (YtnnhnekfokbooaaGreatDoorCards.lean) ties it to the program's text. -/
def laid_synod_wire_kinds {H : Type} : DataW H := .agg [.agg [.lit (.bool false), .lit (.bool false), .lit (.bool false), .lit (.bool false)], .agg [.lit (.bool true), .lit (.bool false), .lit (.bool false), .lit (.bool false)], .agg [.lit (.bool true), .lit (.bool false), .lit (.bool false), .lit (.bool true)], .agg [.lit (.bool true), .lit (.bool true), .lit (.bool true), .lit (.bool false)], .agg [.lit (.bool true), .lit (.bool true), .lit (.bool false), .lit (.bool false)], .agg [.lit (.bool false), .lit (.bool true), .lit (.bool true), .lit (.bool false)], .agg [.lit (.bool true), .lit (.bool false), .lit (.bool false), .lit (.bool false)]]

/-- 'synodlaw.Wires': WHATEVER THE INPUT: true; the input reads as it did. -/
def wiresSpec : ChangeSpec := { name := "wires", fn := fun _ => fun
  | [d] => { results := [.lit (.bool true)], args := [d] }
  | _ => none }
def wiresRow : OpenClaim := { program := "ytnnhnekfokbooaagreatdoor", sum := "ec9082f4bcfd3fe911db820b806f27e9a72e7186a42b7d80b1d755b7c5423f91", func := "synod/synodlaw.Wires", spec := "wires", unfollowed := true, recurses := true, named := ["synod/wire.kinds"], apart := false, laid := [("synod/wire.kinds", laid_synod_wire_kinds)] }
def WiresSaid : Prop := wiresRow.holds Tryz.pinned (OpenSpec.ofChange wiresSpec)

/-- ITS FALSE NEIGHBOUR: 'it returns false'. Refute it at one input. -/
def wiresWrong : ChangeSpec := { name := "wires", fn := fun _ => fun
  | [d] => { results := [.lit (.bool false)], args := [d] }
  | _ => none }
def WiresWrongFalsely : Prop := wiresRow.holds Tryz.pinned (OpenSpec.ofChange wiresWrong)

/-- 'synodlaw.Votes': WHATEVER THE INPUT: true; the input reads as it did. -/
def votesSpec : ChangeSpec := { name := "votes", fn := fun _ => fun
  | [d] => { results := [.lit (.bool true)], args := [d] }
  | _ => none }
def votesRow : OpenClaim := { program := "ytnnhnekfokbooaagreatdoor", sum := "ec9082f4bcfd3fe911db820b806f27e9a72e7186a42b7d80b1d755b7c5423f91", func := "synod/synodlaw.Votes", spec := "votes", unfollowed := true, recurses := true, named := ["synod/wire.kinds"], apart := false, laid := [("synod/wire.kinds", laid_synod_wire_kinds)] }
def VotesSaid : Prop := votesRow.holds Tryz.pinned (OpenSpec.ofChange votesSpec)

/-- ITS FALSE NEIGHBOUR: 'it returns false'. Refute it at one input. -/
def votesWrong : ChangeSpec := { name := "votes", fn := fun _ => fun
  | [d] => { results := [.lit (.bool false)], args := [d] }
  | _ => none }
def VotesWrongFalsely : Prop := votesRow.holds Tryz.pinned (OpenSpec.ofChange votesWrong)

/-- 'synodlaw.All': WHATEVER THE INPUT: true; the input reads as it did. -/
def allSpec : ChangeSpec := { name := "all", fn := fun _ => fun
  | [d] => { results := [.lit (.bool true)], args := [d] }
  | _ => none }
def allRow : OpenClaim := { program := "ytnnhnekfokbooaagreatdoor", sum := "ec9082f4bcfd3fe911db820b806f27e9a72e7186a42b7d80b1d755b7c5423f91", func := "synod/synodlaw.All", spec := "all", unfollowed := true, recurses := true, named := ["synod/wire.kinds"], apart := false, laid := [("synod/wire.kinds", laid_synod_wire_kinds)] }
def AllSaid : Prop := allRow.holds Tryz.pinned (OpenSpec.ofChange allSpec)

/-- ITS FALSE NEIGHBOUR: 'it returns false'. Refute it at one input. -/
def allWrong : ChangeSpec := { name := "all", fn := fun _ => fun
  | [d] => { results := [.lit (.bool false)], args := [d] }
  | _ => none }
def AllWrongFalsely : Prop := allRow.holds Tryz.pinned (OpenSpec.ofChange allWrong)

/- THE SECOND FORM. 'bulk': how many values and letters a reading holds, each counted each time it is reached (what is shared counts as often as it is met; a slice's spare places count too). A statement '..UptoSaid' is the law's where the arguments, and the package variables that the reading takes, are together of bulk at most 1048576: NARROWER than '..Said'. Prove '..Said' where nothing that the law and all that it calls make is longer than what came in: it says more and counts as full. Else prove '..UptoSaid'. A law counts once. -/
mutual
def uptoBulk {H : Type} : DataW H → Nat
  | .lit (.string bytes) => bytes.length + 1
  | .lit _ => 1
  | .nil => 1
  | .ptr d => uptoBulk d + 1
  | .slice elems spare => uptoBulkAll elems + uptoBulkAll spare + 1
  | .agg parts => uptoBulkAll parts + 1
  | .iface _ d => uptoBulk d + 1
  | .map entries => uptoBulkEntries entries + 1
  | .held _ => 1
def uptoBulkAll {H : Type} : List (DataW H) → Nat
  | [] => 0
  | d :: r => uptoBulk d + uptoBulkAll r
def uptoBulkEntries {H : Type} : List (Lit × DataW H) → Nat
  | [] => 0
  | x :: r => uptoBulkEntry x + uptoBulkEntries r
def uptoBulkEntry {H : Type} : Lit × DataW H → Nat
  | (.string bytes, d) => bytes.length + uptoBulk d + 1
  | (_, d) => uptoBulk d + 1
 end
def uptoSmall : (H : Type) → List (DataW H) → Bool := fun _ ds => decide (uptoBulkAll ds ≤ 1048576)
def OpenSpec.upto (s : _root_.Go.ChangeSpec) : _root_.Go.OpenSpec := { _root_.Go.OpenSpec.ofChange s with cond := some uptoSmall }

/-- 'synodlaw.Wires', WHERE WHAT IT READS IS OF BULK AT MOST 1048576: true; the input reads as it did. -/
def wiresUptoRow : OpenClaim := { program := "ytnnhnekfokbooaagreatdoor", sum := "ec9082f4bcfd3fe911db820b806f27e9a72e7186a42b7d80b1d755b7c5423f91", func := "synod/synodlaw.Wires", spec := "wires", unfollowed := true, recurses := true, named := ["synod/wire.kinds"], apart := false, laid := [("synod/wire.kinds", laid_synod_wire_kinds)], narrowed := true }
def WiresUptoSaid : Prop := wiresUptoRow.holds Tryz.pinned (OpenSpec.upto wiresSpec)

/-- 'synodlaw.Votes', WHERE WHAT IT READS IS OF BULK AT MOST 1048576: true; the input reads as it did. -/
def votesUptoRow : OpenClaim := { program := "ytnnhnekfokbooaagreatdoor", sum := "ec9082f4bcfd3fe911db820b806f27e9a72e7186a42b7d80b1d755b7c5423f91", func := "synod/synodlaw.Votes", spec := "votes", unfollowed := true, recurses := true, named := ["synod/wire.kinds"], apart := false, laid := [("synod/wire.kinds", laid_synod_wire_kinds)], narrowed := true }
def VotesUptoSaid : Prop := votesUptoRow.holds Tryz.pinned (OpenSpec.upto votesSpec)

/-- 'synodlaw.All', WHERE WHAT IT READS IS OF BULK AT MOST 1048576: true; the input reads as it did. -/
def allUptoRow : OpenClaim := { program := "ytnnhnekfokbooaagreatdoor", sum := "ec9082f4bcfd3fe911db820b806f27e9a72e7186a42b7d80b1d755b7c5423f91", func := "synod/synodlaw.All", spec := "all", unfollowed := true, recurses := true, named := ["synod/wire.kinds"], apart := false, laid := [("synod/wire.kinds", laid_synod_wire_kinds)], narrowed := true }
def AllUptoSaid : Prop := allUptoRow.holds Tryz.pinned (OpenSpec.upto allSpec)

end Rows
end Go.Proofs.YtnnhnekfokbooaaGreatDoor
