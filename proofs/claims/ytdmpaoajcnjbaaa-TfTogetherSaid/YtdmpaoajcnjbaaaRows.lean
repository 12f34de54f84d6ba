/-
  No cell of these rows narrows 'for every input' (looked for: loops, veiled, ifaces, maps, wideKeys, modest, calm, conditions, laid).
  DERIVED. THE GIVEN ROWS OF THIS SEAT. 4 by the template 'for every input the law returns true; each argument reads behind the call as it read before'; 0 by the template 'total and deterministic' (their statements: YtdmpaoajcnjbaaaTotals.lean).
  GIVEN WITH THE SEED: the statements are not yours to turn. If you find one false, say at which input.
  Laid BY PROGRAM, IN A SANDBOX (cutbox-rows.mjs): the forced cells as the released guide's own fill.sh prints them over the translation 2f64a636975de99a… (all of the seat's roots in one cut). By AI agents, Wed Nov 11 2026. No macro, syntax, notation, axiom, sorry.
-/
import Derived.Test.YtdmpaoajcnjbaaaChecked
import GoSem.Claim
import GoSem.ClaimJoined
import GoSem.ClaimMapViews
import Derived.JoinedTies
import Derived.KernelRfl
namespace Go.Proofs.Ytdmpaoajcnjbaaa
/- THE CELL 'sum', in the pinned program and in every row, IS THE sha256 OF THE DUMP (.gsa) THAT YtdmpaoajcnjbaaaProg.lean LOADS. Nothing in Lean hashes anything: it is a label: what it is worth is what the hold of that sum in a sandbox is worth. -/
noncomputable def Try.pinned : Pinned := { name := "ytdmpaoajcnjbaaa", sum := "2f64a636975de99a194d4cd319d316dc3962412a08448203b9f649fe0a76136b", checked := Try.checked }
namespace Rows
def none {H : Type} : Left H := { results := [], args := [] }

/-- 'stilemanlaw10.TfAlone': WHATEVER THE INPUT: true; the input reads as it did. -/
def tfAloneSpec : ChangeSpec := { name := "tfAlone", fn := fun _ => fun
  | [d1, d2, d3] => { results := [.lit (.bool true)], args := [d1, d2, d3] }
  | _ => none }
def tfAloneRow : OpenClaim := { program := "ytdmpaoajcnjbaaa", sum := "2f64a636975de99a194d4cd319d316dc3962412a08448203b9f649fe0a76136b", func := "stileman/stilemanlaw10.TfAlone", spec := "tfAlone", unfollowed := true, recurses := true, apart := false }
def TfAloneSaid : Prop := tfAloneRow.holds Try.pinned (OpenSpec.ofChange tfAloneSpec)

/-- ITS FALSE NEIGHBOUR: 'it returns false'. Refute it at one input. -/
def tfAloneWrong : ChangeSpec := { name := "tfAlone", fn := fun _ => fun
  | [d1, d2, d3] => { results := [.lit (.bool false)], args := [d1, d2, d3] }
  | _ => none }
def TfAloneWrongFalsely : Prop := tfAloneRow.holds Try.pinned (OpenSpec.ofChange tfAloneWrong)

/-- 'stilemanlaw10.TfTries': WHATEVER THE INPUT: true; the input reads as it did. -/
def tfTriesSpec : ChangeSpec := { name := "tfTries", fn := fun _ => fun
  | [d1, d2, d3] => { results := [.lit (.bool true)], args := [d1, d2, d3] }
  | _ => none }
def tfTriesRow : OpenClaim := { program := "ytdmpaoajcnjbaaa", sum := "2f64a636975de99a194d4cd319d316dc3962412a08448203b9f649fe0a76136b", func := "stileman/stilemanlaw10.TfTries", spec := "tfTries", unfollowed := true, recurses := true, apart := false }
def TfTriesSaid : Prop := tfTriesRow.holds Try.pinned (OpenSpec.ofChange tfTriesSpec)

/-- ITS FALSE NEIGHBOUR: 'it returns false'. Refute it at one input. -/
def tfTriesWrong : ChangeSpec := { name := "tfTries", fn := fun _ => fun
  | [d1, d2, d3] => { results := [.lit (.bool false)], args := [d1, d2, d3] }
  | _ => none }
def TfTriesWrongFalsely : Prop := tfTriesRow.holds Try.pinned (OpenSpec.ofChange tfTriesWrong)

/-- 'stilemanlaw10.TfExcludes': WHATEVER THE INPUT: true; the input reads as it did. -/
def tfExcludesSpec : ChangeSpec := { name := "tfExcludes", fn := fun _ => fun
  | [d1, d2, d3, d4] => { results := [.lit (.bool true)], args := [d1, d2, d3, d4] }
  | _ => none }
def tfExcludesRow : OpenClaim := { program := "ytdmpaoajcnjbaaa", sum := "2f64a636975de99a194d4cd319d316dc3962412a08448203b9f649fe0a76136b", func := "stileman/stilemanlaw10.TfExcludes", spec := "tfExcludes", unfollowed := true, recurses := true, apart := false }
def TfExcludesSaid : Prop := tfExcludesRow.holds Try.pinned (OpenSpec.ofChange tfExcludesSpec)

/-- ITS FALSE NEIGHBOUR: 'it returns false'. Refute it at one input. -/
def tfExcludesWrong : ChangeSpec := { name := "tfExcludes", fn := fun _ => fun
  | [d1, d2, d3, d4] => { results := [.lit (.bool false)], args := [d1, d2, d3, d4] }
  | _ => none }
def TfExcludesWrongFalsely : Prop := tfExcludesRow.holds Try.pinned (OpenSpec.ofChange tfExcludesWrong)

/-- 'stilemanlaw10.TfTogether': WHATEVER THE INPUT: true; the input reads as it did. -/
def tfTogetherSpec : ChangeSpec := { name := "tfTogether", fn := fun _ => fun
  | [d1, d2, d3, d4] => { results := [.lit (.bool true)], args := [d1, d2, d3, d4] }
  | _ => none }
def tfTogetherRow : OpenClaim := { program := "ytdmpaoajcnjbaaa", sum := "2f64a636975de99a194d4cd319d316dc3962412a08448203b9f649fe0a76136b", func := "stileman/stilemanlaw10.TfTogether", spec := "tfTogether", unfollowed := true, recurses := true, apart := false }
def TfTogetherSaid : Prop := tfTogetherRow.holds Try.pinned (OpenSpec.ofChange tfTogetherSpec)

/-- ITS FALSE NEIGHBOUR: 'it returns false'. Refute it at one input. -/
def tfTogetherWrong : ChangeSpec := { name := "tfTogether", fn := fun _ => fun
  | [d1, d2, d3, d4] => { results := [.lit (.bool false)], args := [d1, d2, d3, d4] }
  | _ => none }
def TfTogetherWrongFalsely : Prop := tfTogetherRow.holds Try.pinned (OpenSpec.ofChange tfTogetherWrong)

/- THE SECOND FORM. 'bulk': how many values and letters a reading holds, each counted each time it is reached (what is shared counts as often as it is met; a slice's spare places count too). A statement '..UptoSaid' is the law's where the arguments, and the package variables that the reading takes, are together of bulk at most 1048576: NARROWER than '..Said'. Prove '..Said' where nothing that the law and all that it calls make is longer than what came in: it says more and counts as full. Else prove '..UptoSaid'. A law counts once. -/
mutual
def uptoBulk {H : Type} : DataW H → Nat
  | .lit (.string bytes) => bytes.length + 1
  | .lit _ => 1
  | .nil => 1
  | .ptr d => uptoBulk d + 1
  | .slice elems spare => uptoBulkAll elems + uptoBulkAll spare + 1
  | .agg parts => uptoBulkAll parts + 1
  | .iface _ d => uptoBulk d + 1
  | .map entries => uptoBulkEntries entries + 1
  | .held _ => 1
def uptoBulkAll {H : Type} : List (DataW H) → Nat
  | [] => 0
  | d :: r => uptoBulk d + uptoBulkAll r
def uptoBulkEntries {H : Type} : List (Lit × DataW H) → Nat
  | [] => 0
  | x :: r => uptoBulkEntry x + uptoBulkEntries r
def uptoBulkEntry {H : Type} : Lit × DataW H → Nat
  | (.string bytes, d) => bytes.length + uptoBulk d + 1
  | (_, d) => uptoBulk d + 1
 end
def uptoSmall : (H : Type) → List (DataW H) → Bool := fun _ ds => decide (uptoBulkAll ds ≤ 1048576)
def OpenSpec.upto (s : _root_.Go.ChangeSpec) : _root_.Go.OpenSpec := { _root_.Go.OpenSpec.ofChange s with cond := some uptoSmall }

/-- 'stilemanlaw10.TfAlone', WHERE WHAT IT READS IS OF BULK AT MOST 1048576: true; the input reads as it did. -/
def tfAloneUptoRow : OpenClaim := { program := "ytdmpaoajcnjbaaa", sum := "2f64a636975de99a194d4cd319d316dc3962412a08448203b9f649fe0a76136b", func := "stileman/stilemanlaw10.TfAlone", spec := "tfAlone", unfollowed := true, recurses := true, apart := false, narrowed := true }
def TfAloneUptoSaid : Prop := tfAloneUptoRow.holds Try.pinned (OpenSpec.upto tfAloneSpec)

/-- 'stilemanlaw10.TfTries', WHERE WHAT IT READS IS OF BULK AT MOST 1048576: true; the input reads as it did. -/
def tfTriesUptoRow : OpenClaim := { program := "ytdmpaoajcnjbaaa", sum := "2f64a636975de99a194d4cd319d316dc3962412a08448203b9f649fe0a76136b", func := "stileman/stilemanlaw10.TfTries", spec := "tfTries", unfollowed := true, recurses := true, apart := false, narrowed := true }
def TfTriesUptoSaid : Prop := tfTriesUptoRow.holds Try.pinned (OpenSpec.upto tfTriesSpec)

/-- 'stilemanlaw10.TfExcludes', WHERE WHAT IT READS IS OF BULK AT MOST 1048576: true; the input reads as it did. -/
def tfExcludesUptoRow : OpenClaim := { program := "ytdmpaoajcnjbaaa", sum := "2f64a636975de99a194d4cd319d316dc3962412a08448203b9f649fe0a76136b", func := "stileman/stilemanlaw10.TfExcludes", spec := "tfExcludes", unfollowed := true, recurses := true, apart := false, narrowed := true }
def TfExcludesUptoSaid : Prop := tfExcludesUptoRow.holds Try.pinned (OpenSpec.upto tfExcludesSpec)

/-- 'stilemanlaw10.TfTogether', WHERE WHAT IT READS IS OF BULK AT MOST 1048576: true; the input reads as it did. -/
def tfTogetherUptoRow : OpenClaim := { program := "ytdmpaoajcnjbaaa", sum := "2f64a636975de99a194d4cd319d316dc3962412a08448203b9f649fe0a76136b", func := "stileman/stilemanlaw10.TfTogether", spec := "tfTogether", unfollowed := true, recurses := true, apart := false, narrowed := true }
def TfTogetherUptoSaid : Prop := tfTogetherUptoRow.holds Try.pinned (OpenSpec.upto tfTogetherSpec)

end Rows
end Go.Proofs.Ytdmpaoajcnjbaaa
