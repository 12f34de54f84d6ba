/-
  No cell of these rows narrows 'for every input' (looked for: loops, veiled, ifaces, maps, wideKeys, modest, calm, conditions, laid).
  DERIVED. THE GIVEN ROWS OF THIS SEAT. 3 by the template 'for every input the law returns true; each argument reads behind the call as it read before'; 0 by the template 'total and deterministic' (their statements: YtmhbidokpboomaaTotals.lean).
  GIVEN WITH THE SEED: the statements are not yours to turn. If you find one false, say at which input.
  Laid BY PROGRAM, IN A SANDBOX (cutbox-rows.mjs): the forced cells as the released guide's own fill.sh prints them over the translation 24be4b7fd8d34f66… (all of the seat's roots in one cut). By AI agents, Wed Nov 11 2026. No macro, syntax, notation, axiom, sorry.
-/
import Derived.Test.YtmhbidokpboomaaChecked
import GoSem.Claim
import GoSem.ClaimJoined
import GoSem.ClaimMapViews
import Derived.JoinedTies
import Derived.KernelRfl
namespace Go.Proofs.Ytmhbidokpboomaa
/- THE CELL 'sum', in the pinned program and in every row, IS THE sha256 OF THE DUMP (.gsa) THAT YtmhbidokpboomaaProg.lean LOADS. Nothing in Lean hashes anything: it is a label: what it is worth is what the hold of that sum in a sandbox is worth. -/
noncomputable def Try.pinned : Pinned := { name := "ytmhbidokpboomaa", sum := "24be4b7fd8d34f66036d61a8bd78ce275e2cdcf8126e24daf56afce13592cb17", checked := Try.checked }
namespace Rows
def none {H : Type} : Left H := { results := [], args := [] }

/-- 'stilemanlaw07.WaitSteps': WHATEVER THE INPUT: true; the input reads as it did. -/
def waitStepsSpec : ChangeSpec := { name := "waitSteps", fn := fun _ => fun
  | [d1, d2, d3, d4, d5, d6, d7] => { results := [.lit (.bool true)], args := [d1, d2, d3, d4, d5, d6, d7] }
  | _ => none }
def waitStepsRow : OpenClaim := { program := "ytmhbidokpboomaa", sum := "24be4b7fd8d34f66036d61a8bd78ce275e2cdcf8126e24daf56afce13592cb17", func := "stileman/stilemanlaw07.WaitSteps", spec := "waitSteps", unfollowed := true, recurses := true, apart := false }
def WaitStepsSaid : Prop := waitStepsRow.holds Try.pinned (OpenSpec.ofChange waitStepsSpec)

/-- ITS FALSE NEIGHBOUR: 'it returns false'. Refute it at one input. -/
def waitStepsWrong : ChangeSpec := { name := "waitSteps", fn := fun _ => fun
  | [d1, d2, d3, d4, d5, d6, d7] => { results := [.lit (.bool false)], args := [d1, d2, d3, d4, d5, d6, d7] }
  | _ => none }
def WaitStepsWrongFalsely : Prop := waitStepsRow.holds Try.pinned (OpenSpec.ofChange waitStepsWrong)

/-- 'stilemanlaw07.WaitWakes': WHATEVER THE INPUT: true; the input reads as it did. -/
def waitWakesSpec : ChangeSpec := { name := "waitWakes", fn := fun _ => fun
  | [d1, d2] => { results := [.lit (.bool true)], args := [d1, d2] }
  | _ => none }
def waitWakesRow : OpenClaim := { program := "ytmhbidokpboomaa", sum := "24be4b7fd8d34f66036d61a8bd78ce275e2cdcf8126e24daf56afce13592cb17", func := "stileman/stilemanlaw07.WaitWakes", spec := "waitWakes", unfollowed := true, recurses := true, apart := false }
def WaitWakesSaid : Prop := waitWakesRow.holds Try.pinned (OpenSpec.ofChange waitWakesSpec)

/-- ITS FALSE NEIGHBOUR: 'it returns false'. Refute it at one input. -/
def waitWakesWrong : ChangeSpec := { name := "waitWakes", fn := fun _ => fun
  | [d1, d2] => { results := [.lit (.bool false)], args := [d1, d2] }
  | _ => none }
def WaitWakesWrongFalsely : Prop := waitWakesRow.holds Try.pinned (OpenSpec.ofChange waitWakesWrong)

/-- 'stilemanlaw07.WaitAccess': WHATEVER THE INPUT: true; the input reads as it did. -/
def waitAccessSpec : ChangeSpec := { name := "waitAccess", fn := fun _ => fun
  | [d1, d2, d3, d4, d5, d6, d7] => { results := [.lit (.bool true)], args := [d1, d2, d3, d4, d5, d6, d7] }
  | _ => none }
def waitAccessRow : OpenClaim := { program := "ytmhbidokpboomaa", sum := "24be4b7fd8d34f66036d61a8bd78ce275e2cdcf8126e24daf56afce13592cb17", func := "stileman/stilemanlaw07.WaitAccess", spec := "waitAccess", unfollowed := true, recurses := true, apart := false }
def WaitAccessSaid : Prop := waitAccessRow.holds Try.pinned (OpenSpec.ofChange waitAccessSpec)

/-- ITS FALSE NEIGHBOUR: 'it returns false'. Refute it at one input. -/
def waitAccessWrong : ChangeSpec := { name := "waitAccess", fn := fun _ => fun
  | [d1, d2, d3, d4, d5, d6, d7] => { results := [.lit (.bool false)], args := [d1, d2, d3, d4, d5, d6, d7] }
  | _ => none }
def WaitAccessWrongFalsely : Prop := waitAccessRow.holds Try.pinned (OpenSpec.ofChange waitAccessWrong)

/- THE SECOND FORM. 'bulk': how many values and letters a reading holds, each counted each time it is reached (what is shared counts as often as it is met; a slice's spare places count too). A statement '..UptoSaid' is the law's where the arguments, and the package variables that the reading takes, are together of bulk at most 1048576: NARROWER than '..Said'. Prove '..Said' where nothing that the law and all that it calls make is longer than what came in: it says more and counts as full. Else prove '..UptoSaid'. A law counts once. -/
mutual
def uptoBulk {H : Type} : DataW H → Nat
  | .lit (.string bytes) => bytes.length + 1
  | .lit _ => 1
  | .nil => 1
  | .ptr d => uptoBulk d + 1
  | .slice elems spare => uptoBulkAll elems + uptoBulkAll spare + 1
  | .agg parts => uptoBulkAll parts + 1
  | .iface _ d => uptoBulk d + 1
  | .map entries => uptoBulkEntries entries + 1
  | .held _ => 1
def uptoBulkAll {H : Type} : List (DataW H) → Nat
  | [] => 0
  | d :: r => uptoBulk d + uptoBulkAll r
def uptoBulkEntries {H : Type} : List (Lit × DataW H) → Nat
  | [] => 0
  | x :: r => uptoBulkEntry x + uptoBulkEntries r
def uptoBulkEntry {H : Type} : Lit × DataW H → Nat
  | (.string bytes, d) => bytes.length + uptoBulk d + 1
  | (_, d) => uptoBulk d + 1
 end
def uptoSmall : (H : Type) → List (DataW H) → Bool := fun _ ds => decide (uptoBulkAll ds ≤ 1048576)
def OpenSpec.upto (s : _root_.Go.ChangeSpec) : _root_.Go.OpenSpec := { _root_.Go.OpenSpec.ofChange s with cond := some uptoSmall }

/-- 'stilemanlaw07.WaitSteps', WHERE WHAT IT READS IS OF BULK AT MOST 1048576: true; the input reads as it did. -/
def waitStepsUptoRow : OpenClaim := { program := "ytmhbidokpboomaa", sum := "24be4b7fd8d34f66036d61a8bd78ce275e2cdcf8126e24daf56afce13592cb17", func := "stileman/stilemanlaw07.WaitSteps", spec := "waitSteps", unfollowed := true, recurses := true, apart := false, narrowed := true }
def WaitStepsUptoSaid : Prop := waitStepsUptoRow.holds Try.pinned (OpenSpec.upto waitStepsSpec)

/-- 'stilemanlaw07.WaitWakes', WHERE WHAT IT READS IS OF BULK AT MOST 1048576: true; the input reads as it did. -/
def waitWakesUptoRow : OpenClaim := { program := "ytmhbidokpboomaa", sum := "24be4b7fd8d34f66036d61a8bd78ce275e2cdcf8126e24daf56afce13592cb17", func := "stileman/stilemanlaw07.WaitWakes", spec := "waitWakes", unfollowed := true, recurses := true, apart := false, narrowed := true }
def WaitWakesUptoSaid : Prop := waitWakesUptoRow.holds Try.pinned (OpenSpec.upto waitWakesSpec)

/-- 'stilemanlaw07.WaitAccess', WHERE WHAT IT READS IS OF BULK AT MOST 1048576: true; the input reads as it did. -/
def waitAccessUptoRow : OpenClaim := { program := "ytmhbidokpboomaa", sum := "24be4b7fd8d34f66036d61a8bd78ce275e2cdcf8126e24daf56afce13592cb17", func := "stileman/stilemanlaw07.WaitAccess", spec := "waitAccess", unfollowed := true, recurses := true, apart := false, narrowed := true }
def WaitAccessUptoSaid : Prop := waitAccessUptoRow.holds Try.pinned (OpenSpec.upto waitAccessSpec)

end Rows
end Go.Proofs.Ytmhbidokpboomaa
