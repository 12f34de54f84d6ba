/-
  No cell of these rows narrows 'for every input' (looked for: loops, veiled, ifaces, maps, wideKeys, modest, calm, conditions, laid).
  DERIVED. THE GIVEN ROWS OF THIS SEAT. 3 by the template 'for every input the law returns true; each argument reads behind the call as it read before'; 0 by the template 'total and deterministic' (their statements: YtaifeejciglkpaaTotals.lean).
  GIVEN WITH THE SEED: the statements are not yours to turn. If you find one false, say at which input.
  Laid BY PROGRAM, IN A SANDBOX (cutbox-rows.mjs): the forced cells as the released guide's own fill.sh prints them over the translation 2385818e0f7771be… (all of the seat's roots in one cut). By AI agents, Wed Nov 11 2026. No macro, syntax, notation, axiom, sorry.
-/
import Derived.Test.YtaifeejciglkpaaChecked
import GoSem.Claim
import GoSem.ClaimJoined
import GoSem.ClaimMapViews
import Derived.JoinedTies
import Derived.KernelRfl
namespace Go.Proofs.Ytaifeejciglkpaa
/- THE CELL 'sum', in the pinned program and in every row, IS THE sha256 OF THE DUMP (.gsa) THAT YtaifeejciglkpaaProg.lean LOADS. Nothing in Lean hashes anything: it is a label: what it is worth is what the hold of that sum in a sandbox is worth. -/
noncomputable def Try.pinned : Pinned := { name := "ytaifeejciglkpaa", sum := "2385818e0f7771bea455fe04700eb1cb13860c71f2d940000ec3d3eb96efffab", checked := Try.checked }
namespace Rows
def none {H : Type} : Left H := { results := [], args := [] }

/-- 'stilemanlaw12.MutexSteps': WHATEVER THE INPUT: true; the input reads as it did. -/
def mutexStepsSpec : ChangeSpec := { name := "mutexSteps", fn := fun _ => fun
  | [d1, d2, d3, d4, d5, d6, d7, d8, d9] => { results := [.lit (.bool true)], args := [d1, d2, d3, d4, d5, d6, d7, d8, d9] }
  | _ => none }
def mutexStepsRow : OpenClaim := { program := "ytaifeejciglkpaa", sum := "2385818e0f7771bea455fe04700eb1cb13860c71f2d940000ec3d3eb96efffab", func := "stileman/stilemanlaw12.MutexSteps", spec := "mutexSteps", unfollowed := true, recurses := true, apart := false }
def MutexStepsSaid : Prop := mutexStepsRow.holds Try.pinned (OpenSpec.ofChange mutexStepsSpec)

/-- ITS FALSE NEIGHBOUR: 'it returns false'. Refute it at one input. -/
def mutexStepsWrong : ChangeSpec := { name := "mutexSteps", fn := fun _ => fun
  | [d1, d2, d3, d4, d5, d6, d7, d8, d9] => { results := [.lit (.bool false)], args := [d1, d2, d3, d4, d5, d6, d7, d8, d9] }
  | _ => none }
def MutexStepsWrongFalsely : Prop := mutexStepsRow.holds Try.pinned (OpenSpec.ofChange mutexStepsWrong)

/-- 'stilemanlaw12.MutexPlay': WHATEVER THE INPUT: true; the input reads as it did. -/
def mutexPlaySpec : ChangeSpec := { name := "mutexPlay", fn := fun _ => fun
  | [d1, d2, d3] => { results := [.lit (.bool true)], args := [d1, d2, d3] }
  | _ => none }
def mutexPlayRow : OpenClaim := { program := "ytaifeejciglkpaa", sum := "2385818e0f7771bea455fe04700eb1cb13860c71f2d940000ec3d3eb96efffab", func := "stileman/stilemanlaw12.MutexPlay", spec := "mutexPlay", unfollowed := true, recurses := true, apart := false }
def MutexPlaySaid : Prop := mutexPlayRow.holds Try.pinned (OpenSpec.ofChange mutexPlaySpec)

/-- ITS FALSE NEIGHBOUR: 'it returns false'. Refute it at one input. -/
def mutexPlayWrong : ChangeSpec := { name := "mutexPlay", fn := fun _ => fun
  | [d1, d2, d3] => { results := [.lit (.bool false)], args := [d1, d2, d3] }
  | _ => none }
def MutexPlayWrongFalsely : Prop := mutexPlayRow.holds Try.pinned (OpenSpec.ofChange mutexPlayWrong)

/-- 'stilemanlaw12.MutexFair': WHATEVER THE INPUT: true; the input reads as it did. -/
def mutexFairSpec : ChangeSpec := { name := "mutexFair", fn := fun _ => fun
  | [d1, d2, d3] => { results := [.lit (.bool true)], args := [d1, d2, d3] }
  | _ => none }
def mutexFairRow : OpenClaim := { program := "ytaifeejciglkpaa", sum := "2385818e0f7771bea455fe04700eb1cb13860c71f2d940000ec3d3eb96efffab", func := "stileman/stilemanlaw12.MutexFair", spec := "mutexFair", unfollowed := true, recurses := true, apart := false }
def MutexFairSaid : Prop := mutexFairRow.holds Try.pinned (OpenSpec.ofChange mutexFairSpec)

/-- ITS FALSE NEIGHBOUR: 'it returns false'. Refute it at one input. -/
def mutexFairWrong : ChangeSpec := { name := "mutexFair", fn := fun _ => fun
  | [d1, d2, d3] => { results := [.lit (.bool false)], args := [d1, d2, d3] }
  | _ => none }
def MutexFairWrongFalsely : Prop := mutexFairRow.holds Try.pinned (OpenSpec.ofChange mutexFairWrong)

/- THE SECOND FORM. 'bulk': how many values and letters a reading holds, each counted each time it is reached (what is shared counts as often as it is met; a slice's spare places count too). A statement '..UptoSaid' is the law's where the arguments, and the package variables that the reading takes, are together of bulk at most 1048576: NARROWER than '..Said'. Prove '..Said' where nothing that the law and all that it calls make is longer than what came in: it says more and counts as full. Else prove '..UptoSaid'. A law counts once. -/
mutual
def uptoBulk {H : Type} : DataW H → Nat
  | .lit (.string bytes) => bytes.length + 1
  | .lit _ => 1
  | .nil => 1
  | .ptr d => uptoBulk d + 1
  | .slice elems spare => uptoBulkAll elems + uptoBulkAll spare + 1
  | .agg parts => uptoBulkAll parts + 1
  | .iface _ d => uptoBulk d + 1
  | .map entries => uptoBulkEntries entries + 1
  | .held _ => 1
def uptoBulkAll {H : Type} : List (DataW H) → Nat
  | [] => 0
  | d :: r => uptoBulk d + uptoBulkAll r
def uptoBulkEntries {H : Type} : List (Lit × DataW H) → Nat
  | [] => 0
  | x :: r => uptoBulkEntry x + uptoBulkEntries r
def uptoBulkEntry {H : Type} : Lit × DataW H → Nat
  | (.string bytes, d) => bytes.length + uptoBulk d + 1
  | (_, d) => uptoBulk d + 1
 end
def uptoSmall : (H : Type) → List (DataW H) → Bool := fun _ ds => decide (uptoBulkAll ds ≤ 1048576)
def OpenSpec.upto (s : _root_.Go.ChangeSpec) : _root_.Go.OpenSpec := { _root_.Go.OpenSpec.ofChange s with cond := some uptoSmall }

/-- 'stilemanlaw12.MutexSteps', WHERE WHAT IT READS IS OF BULK AT MOST 1048576: true; the input reads as it did. -/
def mutexStepsUptoRow : OpenClaim := { program := "ytaifeejciglkpaa", sum := "2385818e0f7771bea455fe04700eb1cb13860c71f2d940000ec3d3eb96efffab", func := "stileman/stilemanlaw12.MutexSteps", spec := "mutexSteps", unfollowed := true, recurses := true, apart := false, narrowed := true }
def MutexStepsUptoSaid : Prop := mutexStepsUptoRow.holds Try.pinned (OpenSpec.upto mutexStepsSpec)

/-- 'stilemanlaw12.MutexPlay', WHERE WHAT IT READS IS OF BULK AT MOST 1048576: true; the input reads as it did. -/
def mutexPlayUptoRow : OpenClaim := { program := "ytaifeejciglkpaa", sum := "2385818e0f7771bea455fe04700eb1cb13860c71f2d940000ec3d3eb96efffab", func := "stileman/stilemanlaw12.MutexPlay", spec := "mutexPlay", unfollowed := true, recurses := true, apart := false, narrowed := true }
def MutexPlayUptoSaid : Prop := mutexPlayUptoRow.holds Try.pinned (OpenSpec.upto mutexPlaySpec)

/-- 'stilemanlaw12.MutexFair', WHERE WHAT IT READS IS OF BULK AT MOST 1048576: true; the input reads as it did. -/
def mutexFairUptoRow : OpenClaim := { program := "ytaifeejciglkpaa", sum := "2385818e0f7771bea455fe04700eb1cb13860c71f2d940000ec3d3eb96efffab", func := "stileman/stilemanlaw12.MutexFair", spec := "mutexFair", unfollowed := true, recurses := true, apart := false, narrowed := true }
def MutexFairUptoSaid : Prop := mutexFairUptoRow.holds Try.pinned (OpenSpec.upto mutexFairSpec)

end Rows
end Go.Proofs.Ytaifeejciglkpaa
