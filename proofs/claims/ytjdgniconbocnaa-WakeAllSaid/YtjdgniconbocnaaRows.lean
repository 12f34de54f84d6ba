/-
  No cell of these rows narrows 'for every input' (looked for: loops, veiled, ifaces, maps, wideKeys, modest, calm, conditions, laid).
  DERIVED. THE GIVEN ROWS OF THIS SEAT. 2 by the template 'for every input the law returns true; each argument reads behind the call as it read before'; 0 by the template 'total and deterministic' (their statements: YtjdgniconbocnaaTotals.lean).
  GIVEN WITH THE SEED: the statements are not yours to turn. If you find one false, say at which input.
  Laid BY PROGRAM, IN A SANDBOX (cutbox-rows.mjs): the forced cells as the released guide's own fill.sh prints them over the translation a026b7a0293910dc… (all of the seat's roots in one cut). By AI agents, Wed Nov 11 2026. No macro, syntax, notation, axiom, sorry.
-/
import Derived.Test.YtjdgniconbocnaaChecked
import GoSem.Claim
import GoSem.ClaimJoined
import GoSem.ClaimMapViews
import Derived.JoinedTies
import Derived.KernelRfl
namespace Go.Proofs.Ytjdgniconbocnaa
/- THE CELL 'sum', in the pinned program and in every row, IS THE sha256 OF THE DUMP (.gsa) THAT YtjdgniconbocnaaProg.lean LOADS. Nothing in Lean hashes anything: it is a label: what it is worth is what the hold of that sum in a sandbox is worth. -/
noncomputable def Try.pinned : Pinned := { name := "ytjdgniconbocnaa", sum := "a026b7a0293910dcc38ea898657efc9687db1a551890300cdca0ae4be59a895a", checked := Try.checked }
namespace Rows
def none {H : Type} : Left H := { results := [], args := [] }

/-- 'stilemanlaw08.WakeSteps': WHATEVER THE INPUT: true; the input reads as it did. -/
def wakeStepsSpec : ChangeSpec := { name := "wakeSteps", fn := fun _ => fun
  | [d1, d2, d3, d4] => { results := [.lit (.bool true)], args := [d1, d2, d3, d4] }
  | _ => none }
def wakeStepsRow : OpenClaim := { program := "ytjdgniconbocnaa", sum := "a026b7a0293910dcc38ea898657efc9687db1a551890300cdca0ae4be59a895a", func := "stileman/stilemanlaw08.WakeSteps", spec := "wakeSteps", unfollowed := true, recurses := true, apart := false }
def WakeStepsSaid : Prop := wakeStepsRow.holds Try.pinned (OpenSpec.ofChange wakeStepsSpec)

/-- ITS FALSE NEIGHBOUR: 'it returns false'. Refute it at one input. -/
def wakeStepsWrong : ChangeSpec := { name := "wakeSteps", fn := fun _ => fun
  | [d1, d2, d3, d4] => { results := [.lit (.bool false)], args := [d1, d2, d3, d4] }
  | _ => none }
def WakeStepsWrongFalsely : Prop := wakeStepsRow.holds Try.pinned (OpenSpec.ofChange wakeStepsWrong)

/-- 'stilemanlaw08.WakeAll': WHATEVER THE INPUT: true; the input reads as it did. -/
def wakeAllSpec : ChangeSpec := { name := "wakeAll", fn := fun _ => fun
  | [d1, d2, d3] => { results := [.lit (.bool true)], args := [d1, d2, d3] }
  | _ => none }
def wakeAllRow : OpenClaim := { program := "ytjdgniconbocnaa", sum := "a026b7a0293910dcc38ea898657efc9687db1a551890300cdca0ae4be59a895a", func := "stileman/stilemanlaw08.WakeAll", spec := "wakeAll", unfollowed := true, recurses := true, apart := false }
def WakeAllSaid : Prop := wakeAllRow.holds Try.pinned (OpenSpec.ofChange wakeAllSpec)

/-- ITS FALSE NEIGHBOUR: 'it returns false'. Refute it at one input. -/
def wakeAllWrong : ChangeSpec := { name := "wakeAll", fn := fun _ => fun
  | [d1, d2, d3] => { results := [.lit (.bool false)], args := [d1, d2, d3] }
  | _ => none }
def WakeAllWrongFalsely : Prop := wakeAllRow.holds Try.pinned (OpenSpec.ofChange wakeAllWrong)

/- THE SECOND FORM. 'bulk': how many values and letters a reading holds, each counted each time it is reached (what is shared counts as often as it is met; a slice's spare places count too). A statement '..UptoSaid' is the law's where the arguments, and the package variables that the reading takes, are together of bulk at most 1048576: NARROWER than '..Said'. Prove '..Said' where nothing that the law and all that it calls make is longer than what came in: it says more and counts as full. Else prove '..UptoSaid'. A law counts once. -/
mutual
def uptoBulk {H : Type} : DataW H → Nat
  | .lit (.string bytes) => bytes.length + 1
  | .lit _ => 1
  | .nil => 1
  | .ptr d => uptoBulk d + 1
  | .slice elems spare => uptoBulkAll elems + uptoBulkAll spare + 1
  | .agg parts => uptoBulkAll parts + 1
  | .iface _ d => uptoBulk d + 1
  | .map entries => uptoBulkEntries entries + 1
  | .held _ => 1
def uptoBulkAll {H : Type} : List (DataW H) → Nat
  | [] => 0
  | d :: r => uptoBulk d + uptoBulkAll r
def uptoBulkEntries {H : Type} : List (Lit × DataW H) → Nat
  | [] => 0
  | x :: r => uptoBulkEntry x + uptoBulkEntries r
def uptoBulkEntry {H : Type} : Lit × DataW H → Nat
  | (.string bytes, d) => bytes.length + uptoBulk d + 1
  | (_, d) => uptoBulk d + 1
 end
def uptoSmall : (H : Type) → List (DataW H) → Bool := fun _ ds => decide (uptoBulkAll ds ≤ 1048576)
def OpenSpec.upto (s : _root_.Go.ChangeSpec) : _root_.Go.OpenSpec := { _root_.Go.OpenSpec.ofChange s with cond := some uptoSmall }

/-- 'stilemanlaw08.WakeSteps', WHERE WHAT IT READS IS OF BULK AT MOST 1048576: true; the input reads as it did. -/
def wakeStepsUptoRow : OpenClaim := { program := "ytjdgniconbocnaa", sum := "a026b7a0293910dcc38ea898657efc9687db1a551890300cdca0ae4be59a895a", func := "stileman/stilemanlaw08.WakeSteps", spec := "wakeSteps", unfollowed := true, recurses := true, apart := false, narrowed := true }
def WakeStepsUptoSaid : Prop := wakeStepsUptoRow.holds Try.pinned (OpenSpec.upto wakeStepsSpec)

/-- 'stilemanlaw08.WakeAll', WHERE WHAT IT READS IS OF BULK AT MOST 1048576: true; the input reads as it did. -/
def wakeAllUptoRow : OpenClaim := { program := "ytjdgniconbocnaa", sum := "a026b7a0293910dcc38ea898657efc9687db1a551890300cdca0ae4be59a895a", func := "stileman/stilemanlaw08.WakeAll", spec := "wakeAll", unfollowed := true, recurses := true, apart := false, narrowed := true }
def WakeAllUptoSaid : Prop := wakeAllUptoRow.holds Try.pinned (OpenSpec.upto wakeAllSpec)

end Rows
end Go.Proofs.Ytjdgniconbocnaa
