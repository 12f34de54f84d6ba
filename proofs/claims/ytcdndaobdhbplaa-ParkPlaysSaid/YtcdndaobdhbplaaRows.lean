/-
  No cell of these rows narrows 'for every input' (looked for: loops, veiled, ifaces, maps, wideKeys, modest, calm, conditions, laid).
  DERIVED. THE GIVEN ROWS OF THIS SEAT. 3 by the template 'for every input the law returns true; each argument reads behind the call as it read before'; 0 by the template 'total and deterministic' (their statements: YtcdndaobdhbplaaTotals.lean).
  GIVEN WITH THE SEED: the statements are not yours to turn. If you find one false, say at which input.
  Laid BY PROGRAM, IN A SANDBOX (cutbox-rows.mjs): the forced cells as the released guide's own fill.sh prints them over the translation b309ec4a401336bc… (all of the seat's roots in one cut). By AI agents, Wed Nov 11 2026. No macro, syntax, notation, axiom, sorry.
-/
import Derived.Test.YtcdndaobdhbplaaChecked
import GoSem.Claim
import GoSem.ClaimJoined
import GoSem.ClaimMapViews
import Derived.JoinedTies
import Derived.KernelRfl
namespace Go.Proofs.Ytcdndaobdhbplaa
/- THE CELL 'sum', in the pinned program and in every row, IS THE sha256 OF THE DUMP (.gsa) THAT YtcdndaobdhbplaaProg.lean LOADS. Nothing in Lean hashes anything: it is a label: what it is worth is what the hold of that sum in a sandbox is worth. -/
noncomputable def Try.pinned : Pinned := { name := "ytcdndaobdhbplaa", sum := "b309ec4a401336bc80f4eb3f8a29949341a14232819dea62b097c4e26ccdfa69", checked := Try.checked }
namespace Rows
def none {H : Type} : Left H := { results := [], args := [] }

/-- 'stilemanlaw06.ParkPlays': WHATEVER THE INPUT: true; the input reads as it did. -/
def parkPlaysSpec : ChangeSpec := { name := "parkPlays", fn := fun _ => fun
  | [d1, d2, d3] => { results := [.lit (.bool true)], args := [d1, d2, d3] }
  | _ => none }
def parkPlaysRow : OpenClaim := { program := "ytcdndaobdhbplaa", sum := "b309ec4a401336bc80f4eb3f8a29949341a14232819dea62b097c4e26ccdfa69", func := "stileman/stilemanlaw06.ParkPlays", spec := "parkPlays", unfollowed := true, recurses := true, apart := false }
def ParkPlaysSaid : Prop := parkPlaysRow.holds Try.pinned (OpenSpec.ofChange parkPlaysSpec)

/-- ITS FALSE NEIGHBOUR: 'it returns false'. Refute it at one input. -/
def parkPlaysWrong : ChangeSpec := { name := "parkPlays", fn := fun _ => fun
  | [d1, d2, d3] => { results := [.lit (.bool false)], args := [d1, d2, d3] }
  | _ => none }
def ParkPlaysWrongFalsely : Prop := parkPlaysRow.holds Try.pinned (OpenSpec.ofChange parkPlaysWrong)

/-- 'stilemanlaw06.ParkOnce': WHATEVER THE INPUT: true; the input reads as it did. -/
def parkOnceSpec : ChangeSpec := { name := "parkOnce", fn := fun _ => fun
  | [d1, d2, d3, d4] => { results := [.lit (.bool true)], args := [d1, d2, d3, d4] }
  | _ => none }
def parkOnceRow : OpenClaim := { program := "ytcdndaobdhbplaa", sum := "b309ec4a401336bc80f4eb3f8a29949341a14232819dea62b097c4e26ccdfa69", func := "stileman/stilemanlaw06.ParkOnce", spec := "parkOnce", unfollowed := true, recurses := true, apart := false }
def ParkOnceSaid : Prop := parkOnceRow.holds Try.pinned (OpenSpec.ofChange parkOnceSpec)

/-- ITS FALSE NEIGHBOUR: 'it returns false'. Refute it at one input. -/
def parkOnceWrong : ChangeSpec := { name := "parkOnce", fn := fun _ => fun
  | [d1, d2, d3, d4] => { results := [.lit (.bool false)], args := [d1, d2, d3, d4] }
  | _ => none }
def ParkOnceWrongFalsely : Prop := parkOnceRow.holds Try.pinned (OpenSpec.ofChange parkOnceWrong)

/-- 'stilemanlaw06.ParkNone': WHATEVER THE INPUT: true; the input reads as it did. -/
def parkNoneSpec : ChangeSpec := { name := "parkNone", fn := fun _ => fun
  | [d1, d2] => { results := [.lit (.bool true)], args := [d1, d2] }
  | _ => none }
def parkNoneRow : OpenClaim := { program := "ytcdndaobdhbplaa", sum := "b309ec4a401336bc80f4eb3f8a29949341a14232819dea62b097c4e26ccdfa69", func := "stileman/stilemanlaw06.ParkNone", spec := "parkNone", unfollowed := true, recurses := true, apart := false }
def ParkNoneSaid : Prop := parkNoneRow.holds Try.pinned (OpenSpec.ofChange parkNoneSpec)

/-- ITS FALSE NEIGHBOUR: 'it returns false'. Refute it at one input. -/
def parkNoneWrong : ChangeSpec := { name := "parkNone", fn := fun _ => fun
  | [d1, d2] => { results := [.lit (.bool false)], args := [d1, d2] }
  | _ => none }
def ParkNoneWrongFalsely : Prop := parkNoneRow.holds Try.pinned (OpenSpec.ofChange parkNoneWrong)

/- THE SECOND FORM. 'bulk': how many values and letters a reading holds, each counted each time it is reached (what is shared counts as often as it is met; a slice's spare places count too). A statement '..UptoSaid' is the law's where the arguments, and the package variables that the reading takes, are together of bulk at most 1048576: NARROWER than '..Said'. Prove '..Said' where nothing that the law and all that it calls make is longer than what came in: it says more and counts as full. Else prove '..UptoSaid'. A law counts once. -/
mutual
def uptoBulk {H : Type} : DataW H → Nat
  | .lit (.string bytes) => bytes.length + 1
  | .lit _ => 1
  | .nil => 1
  | .ptr d => uptoBulk d + 1
  | .slice elems spare => uptoBulkAll elems + uptoBulkAll spare + 1
  | .agg parts => uptoBulkAll parts + 1
  | .iface _ d => uptoBulk d + 1
  | .map entries => uptoBulkEntries entries + 1
  | .held _ => 1
def uptoBulkAll {H : Type} : List (DataW H) → Nat
  | [] => 0
  | d :: r => uptoBulk d + uptoBulkAll r
def uptoBulkEntries {H : Type} : List (Lit × DataW H) → Nat
  | [] => 0
  | x :: r => uptoBulkEntry x + uptoBulkEntries r
def uptoBulkEntry {H : Type} : Lit × DataW H → Nat
  | (.string bytes, d) => bytes.length + uptoBulk d + 1
  | (_, d) => uptoBulk d + 1
 end
def uptoSmall : (H : Type) → List (DataW H) → Bool := fun _ ds => decide (uptoBulkAll ds ≤ 1048576)
def OpenSpec.upto (s : _root_.Go.ChangeSpec) : _root_.Go.OpenSpec := { _root_.Go.OpenSpec.ofChange s with cond := some uptoSmall }

/-- 'stilemanlaw06.ParkPlays', WHERE WHAT IT READS IS OF BULK AT MOST 1048576: true; the input reads as it did. -/
def parkPlaysUptoRow : OpenClaim := { program := "ytcdndaobdhbplaa", sum := "b309ec4a401336bc80f4eb3f8a29949341a14232819dea62b097c4e26ccdfa69", func := "stileman/stilemanlaw06.ParkPlays", spec := "parkPlays", unfollowed := true, recurses := true, apart := false, narrowed := true }
def ParkPlaysUptoSaid : Prop := parkPlaysUptoRow.holds Try.pinned (OpenSpec.upto parkPlaysSpec)

/-- 'stilemanlaw06.ParkOnce', WHERE WHAT IT READS IS OF BULK AT MOST 1048576: true; the input reads as it did. -/
def parkOnceUptoRow : OpenClaim := { program := "ytcdndaobdhbplaa", sum := "b309ec4a401336bc80f4eb3f8a29949341a14232819dea62b097c4e26ccdfa69", func := "stileman/stilemanlaw06.ParkOnce", spec := "parkOnce", unfollowed := true, recurses := true, apart := false, narrowed := true }
def ParkOnceUptoSaid : Prop := parkOnceUptoRow.holds Try.pinned (OpenSpec.upto parkOnceSpec)

/-- 'stilemanlaw06.ParkNone', WHERE WHAT IT READS IS OF BULK AT MOST 1048576: true; the input reads as it did. -/
def parkNoneUptoRow : OpenClaim := { program := "ytcdndaobdhbplaa", sum := "b309ec4a401336bc80f4eb3f8a29949341a14232819dea62b097c4e26ccdfa69", func := "stileman/stilemanlaw06.ParkNone", spec := "parkNone", unfollowed := true, recurses := true, apart := false, narrowed := true }
def ParkNoneUptoSaid : Prop := parkNoneUptoRow.holds Try.pinned (OpenSpec.upto parkNoneSpec)

end Rows
end Go.Proofs.Ytcdndaobdhbplaa
