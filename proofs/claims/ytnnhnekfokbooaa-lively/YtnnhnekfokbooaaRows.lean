/-
  No cell of these rows narrows 'for every input' (looked for: loops, veiled, ifaces, maps, wideKeys, modest, calm, conditions, laid).
  DERIVED. THE GIVEN ROWS OF THIS SEAT. 5 by the template 'for every input the law returns true; each argument reads behind the call as it read before'; 0 by the template 'total and deterministic' (their statements: YtnnhnekfokbooaaTotals.lean).
  GIVEN WITH THE SEED: the statements are not yours to turn. If you find one false, say at which input.
  Laid BY PROGRAM, IN A SANDBOX (cutbox-rows.mjs): the forced cells as the released guide's own fill.sh prints them over the translation 0a69918679916eb8… (all of the seat's roots in one cut). By AI agents, Wed Nov 11 2026. No macro, syntax, notation, axiom, sorry.
-/
import Derived.Test.YtnnhnekfokbooaaChecked
import GoSem.Claim
import GoSem.ClaimJoined
import GoSem.ClaimMapViews
import Derived.JoinedTies
import Derived.KernelRfl
namespace Go.Proofs.Ytnnhnekfokbooaa
/- THE CELL 'sum', in the pinned program and in every row, IS THE sha256 OF THE DUMP (.gsa) THAT YtnnhnekfokbooaaProg.lean LOADS. Nothing in Lean hashes anything: it is a label: what it is worth is what the hold of that sum in a sandbox is worth. -/
noncomputable def Try.pinned : Pinned := { name := "ytnnhnekfokbooaa", sum := "0a69918679916eb898445927c3fd4c62ea19f0bd75f16d64c9a29615027d9c96", checked := Try.checked }
namespace Rows
def none {H : Type} : Left H := { results := [], args := [] }

/-- 'synodkeep.Alone': WHATEVER THE INPUT: true; the input reads as it did. -/
def aloneSpec : ChangeSpec := { name := "alone", fn := fun _ => fun
  | [d1, d2] => { results := [.lit (.bool true)], args := [d1, d2] }
  | _ => none }
def aloneRow : OpenClaim := { program := "ytnnhnekfokbooaa", sum := "0a69918679916eb898445927c3fd4c62ea19f0bd75f16d64c9a29615027d9c96", func := "synod/synodkeep.Alone", spec := "alone", unfollowed := true, recurses := true, apart := false }
def AloneSaid : Prop := aloneRow.holds Try.pinned (OpenSpec.ofChange aloneSpec)

/-- ITS FALSE NEIGHBOUR: 'it returns false'. Refute it at one input. -/
def aloneWrong : ChangeSpec := { name := "alone", fn := fun _ => fun
  | [d1, d2] => { results := [.lit (.bool false)], args := [d1, d2] }
  | _ => none }
def AloneWrongFalsely : Prop := aloneRow.holds Try.pinned (OpenSpec.ofChange aloneWrong)

/-- 'synodkeep.Agreed': WHATEVER THE INPUT: true; the input reads as it did. -/
def agreedSpec : ChangeSpec := { name := "agreed", fn := fun _ => fun
  | [d1, d2] => { results := [.lit (.bool true)], args := [d1, d2] }
  | _ => none }
def agreedRow : OpenClaim := { program := "ytnnhnekfokbooaa", sum := "0a69918679916eb898445927c3fd4c62ea19f0bd75f16d64c9a29615027d9c96", func := "synod/synodkeep.Agreed", spec := "agreed", unfollowed := true, recurses := true, apart := false }
def AgreedSaid : Prop := agreedRow.holds Try.pinned (OpenSpec.ofChange agreedSpec)

/-- ITS FALSE NEIGHBOUR: 'it returns false'. Refute it at one input. -/
def agreedWrong : ChangeSpec := { name := "agreed", fn := fun _ => fun
  | [d1, d2] => { results := [.lit (.bool false)], args := [d1, d2] }
  | _ => none }
def AgreedWrongFalsely : Prop := agreedRow.holds Try.pinned (OpenSpec.ofChange agreedWrong)

/-- 'synodkeep.Firm': WHATEVER THE INPUT: true; the input reads as it did. -/
def firmSpec : ChangeSpec := { name := "firm", fn := fun _ => fun
  | [d1, d2] => { results := [.lit (.bool true)], args := [d1, d2] }
  | _ => none }
def firmRow : OpenClaim := { program := "ytnnhnekfokbooaa", sum := "0a69918679916eb898445927c3fd4c62ea19f0bd75f16d64c9a29615027d9c96", func := "synod/synodkeep.Firm", spec := "firm", unfollowed := true, recurses := true, apart := false }
def FirmSaid : Prop := firmRow.holds Try.pinned (OpenSpec.ofChange firmSpec)

/-- ITS FALSE NEIGHBOUR: 'it returns false'. Refute it at one input. -/
def firmWrong : ChangeSpec := { name := "firm", fn := fun _ => fun
  | [d1, d2] => { results := [.lit (.bool false)], args := [d1, d2] }
  | _ => none }
def FirmWrongFalsely : Prop := firmRow.holds Try.pinned (OpenSpec.ofChange firmWrong)

/-- 'synodkeep.Honest': WHATEVER THE INPUT: true; the input reads as it did. -/
def honestSpec : ChangeSpec := { name := "honest", fn := fun _ => fun
  | [d1, d2] => { results := [.lit (.bool true)], args := [d1, d2] }
  | _ => none }
def honestRow : OpenClaim := { program := "ytnnhnekfokbooaa", sum := "0a69918679916eb898445927c3fd4c62ea19f0bd75f16d64c9a29615027d9c96", func := "synod/synodkeep.Honest", spec := "honest", unfollowed := true, recurses := true, apart := false }
def HonestSaid : Prop := honestRow.holds Try.pinned (OpenSpec.ofChange honestSpec)

/-- ITS FALSE NEIGHBOUR: 'it returns false'. Refute it at one input. -/
def honestWrong : ChangeSpec := { name := "honest", fn := fun _ => fun
  | [d1, d2] => { results := [.lit (.bool false)], args := [d1, d2] }
  | _ => none }
def HonestWrongFalsely : Prop := honestRow.holds Try.pinned (OpenSpec.ofChange honestWrong)

/-- 'synodkeep.Lively': WHATEVER THE INPUT: true; the input reads as it did. -/
def livelySpec : ChangeSpec := { name := "lively", fn := fun _ => fun
  | [d1, d2, d3, d4] => { results := [.lit (.bool true)], args := [d1, d2, d3, d4] }
  | _ => none }
def livelyRow : OpenClaim := { program := "ytnnhnekfokbooaa", sum := "0a69918679916eb898445927c3fd4c62ea19f0bd75f16d64c9a29615027d9c96", func := "synod/synodkeep.Lively", spec := "lively", unfollowed := true, recurses := true, apart := false }
def LivelySaid : Prop := livelyRow.holds Try.pinned (OpenSpec.ofChange livelySpec)

/-- ITS FALSE NEIGHBOUR: 'it returns false'. Refute it at one input. -/
def livelyWrong : ChangeSpec := { name := "lively", fn := fun _ => fun
  | [d1, d2, d3, d4] => { results := [.lit (.bool false)], args := [d1, d2, d3, d4] }
  | _ => none }
def LivelyWrongFalsely : Prop := livelyRow.holds Try.pinned (OpenSpec.ofChange livelyWrong)

/- THE SECOND FORM. 'bulk': how many values and letters a reading holds, each counted each time it is reached (what is shared counts as often as it is met; a slice's spare places count too). A statement '..UptoSaid' is the law's where the arguments, and the package variables that the reading takes, are together of bulk at most 1048576: NARROWER than '..Said'. Prove '..Said' where nothing that the law and all that it calls make is longer than what came in: it says more and counts as full. Else prove '..UptoSaid'. A law counts once. -/
mutual
def uptoBulk {H : Type} : DataW H → Nat
  | .lit (.string bytes) => bytes.length + 1
  | .lit _ => 1
  | .nil => 1
  | .ptr d => uptoBulk d + 1
  | .slice elems spare => uptoBulkAll elems + uptoBulkAll spare + 1
  | .agg parts => uptoBulkAll parts + 1
  | .iface _ d => uptoBulk d + 1
  | .map entries => uptoBulkEntries entries + 1
  | .held _ => 1
def uptoBulkAll {H : Type} : List (DataW H) → Nat
  | [] => 0
  | d :: r => uptoBulk d + uptoBulkAll r
def uptoBulkEntries {H : Type} : List (Lit × DataW H) → Nat
  | [] => 0
  | x :: r => uptoBulkEntry x + uptoBulkEntries r
def uptoBulkEntry {H : Type} : Lit × DataW H → Nat
  | (.string bytes, d) => bytes.length + uptoBulk d + 1
  | (_, d) => uptoBulk d + 1
 end
def uptoSmall : (H : Type) → List (DataW H) → Bool := fun _ ds => decide (uptoBulkAll ds ≤ 1048576)
def OpenSpec.upto (s : _root_.Go.ChangeSpec) : _root_.Go.OpenSpec := { _root_.Go.OpenSpec.ofChange s with cond := some uptoSmall }

/-- 'synodkeep.Alone', WHERE WHAT IT READS IS OF BULK AT MOST 1048576: true; the input reads as it did. -/
def aloneUptoRow : OpenClaim := { program := "ytnnhnekfokbooaa", sum := "0a69918679916eb898445927c3fd4c62ea19f0bd75f16d64c9a29615027d9c96", func := "synod/synodkeep.Alone", spec := "alone", unfollowed := true, recurses := true, apart := false, narrowed := true }
def AloneUptoSaid : Prop := aloneUptoRow.holds Try.pinned (OpenSpec.upto aloneSpec)

/-- 'synodkeep.Agreed', WHERE WHAT IT READS IS OF BULK AT MOST 1048576: true; the input reads as it did. -/
def agreedUptoRow : OpenClaim := { program := "ytnnhnekfokbooaa", sum := "0a69918679916eb898445927c3fd4c62ea19f0bd75f16d64c9a29615027d9c96", func := "synod/synodkeep.Agreed", spec := "agreed", unfollowed := true, recurses := true, apart := false, narrowed := true }
def AgreedUptoSaid : Prop := agreedUptoRow.holds Try.pinned (OpenSpec.upto agreedSpec)

/-- 'synodkeep.Firm', WHERE WHAT IT READS IS OF BULK AT MOST 1048576: true; the input reads as it did. -/
def firmUptoRow : OpenClaim := { program := "ytnnhnekfokbooaa", sum := "0a69918679916eb898445927c3fd4c62ea19f0bd75f16d64c9a29615027d9c96", func := "synod/synodkeep.Firm", spec := "firm", unfollowed := true, recurses := true, apart := false, narrowed := true }
def FirmUptoSaid : Prop := firmUptoRow.holds Try.pinned (OpenSpec.upto firmSpec)

/-- 'synodkeep.Honest', WHERE WHAT IT READS IS OF BULK AT MOST 1048576: true; the input reads as it did. -/
def honestUptoRow : OpenClaim := { program := "ytnnhnekfokbooaa", sum := "0a69918679916eb898445927c3fd4c62ea19f0bd75f16d64c9a29615027d9c96", func := "synod/synodkeep.Honest", spec := "honest", unfollowed := true, recurses := true, apart := false, narrowed := true }
def HonestUptoSaid : Prop := honestUptoRow.holds Try.pinned (OpenSpec.upto honestSpec)

/-- 'synodkeep.Lively', WHERE WHAT IT READS IS OF BULK AT MOST 1048576: true; the input reads as it did. -/
def livelyUptoRow : OpenClaim := { program := "ytnnhnekfokbooaa", sum := "0a69918679916eb898445927c3fd4c62ea19f0bd75f16d64c9a29615027d9c96", func := "synod/synodkeep.Lively", spec := "lively", unfollowed := true, recurses := true, apart := false, narrowed := true }
def LivelyUptoSaid : Prop := livelyUptoRow.holds Try.pinned (OpenSpec.upto livelySpec)

end Rows
end Go.Proofs.Ytnnhnekfokbooaa
