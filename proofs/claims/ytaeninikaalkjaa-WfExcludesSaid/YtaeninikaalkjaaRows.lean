/-
  No cell of these rows narrows 'for every input' (looked for: loops, veiled, ifaces, maps, wideKeys, modest, calm, conditions, laid).
  DERIVED. THE GIVEN ROWS OF THIS SEAT. 4 by the template 'for every input the law returns true; each argument reads behind the call as it read before'; 0 by the template 'total and deterministic' (their statements: YtaeninikaalkjaaTotals.lean).
  GIVEN WITH THE SEED: the statements are not yours to turn. If you find one false, say at which input.
  Laid BY PROGRAM, IN A SANDBOX (cutbox-rows.mjs): the forced cells as the released guide's own fill.sh prints them over the translation e7ec184da98e5ebe… (all of the seat's roots in one cut). By AI agents, Wed Nov 11 2026. No macro, syntax, notation, axiom, sorry.
-/
import Derived.Test.YtaeninikaalkjaaChecked
import GoSem.Claim
import GoSem.ClaimJoined
import GoSem.ClaimMapViews
import Derived.JoinedTies
import Derived.KernelRfl
namespace Go.Proofs.Ytaeninikaalkjaa
/- THE CELL 'sum', in the pinned program and in every row, IS THE sha256 OF THE DUMP (.gsa) THAT YtaeninikaalkjaaProg.lean LOADS. Nothing in Lean hashes anything: it is a label: what it is worth is what the hold of that sum in a sandbox is worth. -/
noncomputable def Try.pinned : Pinned := { name := "ytaeninikaalkjaa", sum := "e7ec184da98e5ebe7684f6b3df0692b94d2b71f7c029cd0a6036c68708b056ee", checked := Try.checked }
namespace Rows
def none {H : Type} : Left H := { results := [], args := [] }

/-- 'stilemanlaw16.WfAlone': WHATEVER THE INPUT: true; the input reads as it did. -/
def wfAloneSpec : ChangeSpec := { name := "wfAlone", fn := fun _ => fun
  | [d1, d2, d3] => { results := [.lit (.bool true)], args := [d1, d2, d3] }
  | _ => none }
def wfAloneRow : OpenClaim := { program := "ytaeninikaalkjaa", sum := "e7ec184da98e5ebe7684f6b3df0692b94d2b71f7c029cd0a6036c68708b056ee", func := "stileman/stilemanlaw16.WfAlone", spec := "wfAlone", unfollowed := true, recurses := true, apart := false }
def WfAloneSaid : Prop := wfAloneRow.holds Try.pinned (OpenSpec.ofChange wfAloneSpec)

/-- ITS FALSE NEIGHBOUR: 'it returns false'. Refute it at one input. -/
def wfAloneWrong : ChangeSpec := { name := "wfAlone", fn := fun _ => fun
  | [d1, d2, d3] => { results := [.lit (.bool false)], args := [d1, d2, d3] }
  | _ => none }
def WfAloneWrongFalsely : Prop := wfAloneRow.holds Try.pinned (OpenSpec.ofChange wfAloneWrong)

/-- 'stilemanlaw16.WfTries': WHATEVER THE INPUT: true; the input reads as it did. -/
def wfTriesSpec : ChangeSpec := { name := "wfTries", fn := fun _ => fun
  | [d1, d2, d3] => { results := [.lit (.bool true)], args := [d1, d2, d3] }
  | _ => none }
def wfTriesRow : OpenClaim := { program := "ytaeninikaalkjaa", sum := "e7ec184da98e5ebe7684f6b3df0692b94d2b71f7c029cd0a6036c68708b056ee", func := "stileman/stilemanlaw16.WfTries", spec := "wfTries", unfollowed := true, recurses := true, apart := false }
def WfTriesSaid : Prop := wfTriesRow.holds Try.pinned (OpenSpec.ofChange wfTriesSpec)

/-- ITS FALSE NEIGHBOUR: 'it returns false'. Refute it at one input. -/
def wfTriesWrong : ChangeSpec := { name := "wfTries", fn := fun _ => fun
  | [d1, d2, d3] => { results := [.lit (.bool false)], args := [d1, d2, d3] }
  | _ => none }
def WfTriesWrongFalsely : Prop := wfTriesRow.holds Try.pinned (OpenSpec.ofChange wfTriesWrong)

/-- 'stilemanlaw16.WfExcludes': WHATEVER THE INPUT: true; the input reads as it did. -/
def wfExcludesSpec : ChangeSpec := { name := "wfExcludes", fn := fun _ => fun
  | [d1, d2, d3, d4] => { results := [.lit (.bool true)], args := [d1, d2, d3, d4] }
  | _ => none }
def wfExcludesRow : OpenClaim := { program := "ytaeninikaalkjaa", sum := "e7ec184da98e5ebe7684f6b3df0692b94d2b71f7c029cd0a6036c68708b056ee", func := "stileman/stilemanlaw16.WfExcludes", spec := "wfExcludes", unfollowed := true, recurses := true, apart := false }
def WfExcludesSaid : Prop := wfExcludesRow.holds Try.pinned (OpenSpec.ofChange wfExcludesSpec)

/-- ITS FALSE NEIGHBOUR: 'it returns false'. Refute it at one input. -/
def wfExcludesWrong : ChangeSpec := { name := "wfExcludes", fn := fun _ => fun
  | [d1, d2, d3, d4] => { results := [.lit (.bool false)], args := [d1, d2, d3, d4] }
  | _ => none }
def WfExcludesWrongFalsely : Prop := wfExcludesRow.holds Try.pinned (OpenSpec.ofChange wfExcludesWrong)

/-- 'stilemanlaw16.WfTogether': WHATEVER THE INPUT: true; the input reads as it did. -/
def wfTogetherSpec : ChangeSpec := { name := "wfTogether", fn := fun _ => fun
  | [d1, d2, d3, d4] => { results := [.lit (.bool true)], args := [d1, d2, d3, d4] }
  | _ => none }
def wfTogetherRow : OpenClaim := { program := "ytaeninikaalkjaa", sum := "e7ec184da98e5ebe7684f6b3df0692b94d2b71f7c029cd0a6036c68708b056ee", func := "stileman/stilemanlaw16.WfTogether", spec := "wfTogether", unfollowed := true, recurses := true, apart := false }
def WfTogetherSaid : Prop := wfTogetherRow.holds Try.pinned (OpenSpec.ofChange wfTogetherSpec)

/-- ITS FALSE NEIGHBOUR: 'it returns false'. Refute it at one input. -/
def wfTogetherWrong : ChangeSpec := { name := "wfTogether", fn := fun _ => fun
  | [d1, d2, d3, d4] => { results := [.lit (.bool false)], args := [d1, d2, d3, d4] }
  | _ => none }
def WfTogetherWrongFalsely : Prop := wfTogetherRow.holds Try.pinned (OpenSpec.ofChange wfTogetherWrong)

/- THE SECOND FORM. 'bulk': how many values and letters a reading holds, each counted each time it is reached (what is shared counts as often as it is met; a slice's spare places count too). A statement '..UptoSaid' is the law's where the arguments, and the package variables that the reading takes, are together of bulk at most 1048576: NARROWER than '..Said'. Prove '..Said' where nothing that the law and all that it calls make is longer than what came in: it says more and counts as full. Else prove '..UptoSaid'. A law counts once. -/
mutual
def uptoBulk {H : Type} : DataW H → Nat
  | .lit (.string bytes) => bytes.length + 1
  | .lit _ => 1
  | .nil => 1
  | .ptr d => uptoBulk d + 1
  | .slice elems spare => uptoBulkAll elems + uptoBulkAll spare + 1
  | .agg parts => uptoBulkAll parts + 1
  | .iface _ d => uptoBulk d + 1
  | .map entries => uptoBulkEntries entries + 1
  | .held _ => 1
def uptoBulkAll {H : Type} : List (DataW H) → Nat
  | [] => 0
  | d :: r => uptoBulk d + uptoBulkAll r
def uptoBulkEntries {H : Type} : List (Lit × DataW H) → Nat
  | [] => 0
  | x :: r => uptoBulkEntry x + uptoBulkEntries r
def uptoBulkEntry {H : Type} : Lit × DataW H → Nat
  | (.string bytes, d) => bytes.length + uptoBulk d + 1
  | (_, d) => uptoBulk d + 1
 end
def uptoSmall : (H : Type) → List (DataW H) → Bool := fun _ ds => decide (uptoBulkAll ds ≤ 1048576)
def OpenSpec.upto (s : _root_.Go.ChangeSpec) : _root_.Go.OpenSpec := { _root_.Go.OpenSpec.ofChange s with cond := some uptoSmall }

/-- 'stilemanlaw16.WfAlone', WHERE WHAT IT READS IS OF BULK AT MOST 1048576: true; the input reads as it did. -/
def wfAloneUptoRow : OpenClaim := { program := "ytaeninikaalkjaa", sum := "e7ec184da98e5ebe7684f6b3df0692b94d2b71f7c029cd0a6036c68708b056ee", func := "stileman/stilemanlaw16.WfAlone", spec := "wfAlone", unfollowed := true, recurses := true, apart := false, narrowed := true }
def WfAloneUptoSaid : Prop := wfAloneUptoRow.holds Try.pinned (OpenSpec.upto wfAloneSpec)

/-- 'stilemanlaw16.WfTries', WHERE WHAT IT READS IS OF BULK AT MOST 1048576: true; the input reads as it did. -/
def wfTriesUptoRow : OpenClaim := { program := "ytaeninikaalkjaa", sum := "e7ec184da98e5ebe7684f6b3df0692b94d2b71f7c029cd0a6036c68708b056ee", func := "stileman/stilemanlaw16.WfTries", spec := "wfTries", unfollowed := true, recurses := true, apart := false, narrowed := true }
def WfTriesUptoSaid : Prop := wfTriesUptoRow.holds Try.pinned (OpenSpec.upto wfTriesSpec)

/-- 'stilemanlaw16.WfExcludes', WHERE WHAT IT READS IS OF BULK AT MOST 1048576: true; the input reads as it did. -/
def wfExcludesUptoRow : OpenClaim := { program := "ytaeninikaalkjaa", sum := "e7ec184da98e5ebe7684f6b3df0692b94d2b71f7c029cd0a6036c68708b056ee", func := "stileman/stilemanlaw16.WfExcludes", spec := "wfExcludes", unfollowed := true, recurses := true, apart := false, narrowed := true }
def WfExcludesUptoSaid : Prop := wfExcludesUptoRow.holds Try.pinned (OpenSpec.upto wfExcludesSpec)

/-- 'stilemanlaw16.WfTogether', WHERE WHAT IT READS IS OF BULK AT MOST 1048576: true; the input reads as it did. -/
def wfTogetherUptoRow : OpenClaim := { program := "ytaeninikaalkjaa", sum := "e7ec184da98e5ebe7684f6b3df0692b94d2b71f7c029cd0a6036c68708b056ee", func := "stileman/stilemanlaw16.WfTogether", spec := "wfTogether", unfollowed := true, recurses := true, apart := false, narrowed := true }
def WfTogetherUptoSaid : Prop := wfTogetherUptoRow.holds Try.pinned (OpenSpec.upto wfTogetherSpec)

end Rows
end Go.Proofs.Ytaeninikaalkjaa
