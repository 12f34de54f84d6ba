/-
  No cell of these rows narrows 'for every input' (looked for: loops, veiled, ifaces, maps, wideKeys, modest, calm, conditions, laid).
  DERIVED. THE GIVEN ROWS OF THIS SEAT. 4 by the template 'for every input the law returns true; each argument reads behind the call as it read before'; 0 by the template 'total and deterministic' (their statements: YtocdbeonogfopaaGreatTotals.lean).
  GIVEN WITH THE SEED: the statements are not yours to turn. If you find one false, say at which input.
  Laid BY PROGRAM, IN A SANDBOX (cutbox-rows.mjs): the forced cells as the released guide's own fill.sh prints them over the translation 9216b28daf57e4a6… (all of the seat's roots in one cut). By AI agents, Wed Nov 11 2026. No macro, syntax, notation, axiom, sorry.
-/
import Derived.Test.YtocdbeonogfopaaGreatChecked
import GoSem.Claim
import GoSem.ClaimJoined
import GoSem.ClaimMapViews
import Derived.JoinedTies
import Derived.KernelRfl
namespace Go.Proofs.YtocdbeonogfopaaGreat
/- THE CELL 'sum', in the pinned program and in every row, IS THE sha256 OF THE DUMP (.gsa) THAT YtocdbeonogfopaaGreatProg.lean LOADS. Nothing in Lean hashes anything: it is a label: what it is worth is what the hold of that sum in a sandbox is worth. -/
noncomputable def Tryz.pinned : Pinned := { name := "ytocdbeonogfopaagreat", sum := "9216b28daf57e4a6d264c59c059de9b758b8e182a2d3de80275b2c7084ed0087", checked := Tryz.checked }
namespace Rows
def none {H : Type} : Left H := { results := [], args := [] }

/-- 'stilemanlaw14.PqAlone': WHATEVER THE INPUT: true; the input reads as it did. -/
def pqAloneSpec : ChangeSpec := { name := "pqAlone", fn := fun _ => fun
  | [d1, d2, d3] => { results := [.lit (.bool true)], args := [d1, d2, d3] }
  | _ => none }
def pqAloneRow : OpenClaim := { program := "ytocdbeonogfopaagreat", sum := "9216b28daf57e4a6d264c59c059de9b758b8e182a2d3de80275b2c7084ed0087", func := "stileman/stilemanlaw14.PqAlone", spec := "pqAlone", unfollowed := true, recurses := true, apart := false }
def PqAloneSaid : Prop := pqAloneRow.holds Tryz.pinned (OpenSpec.ofChange pqAloneSpec)

/-- ITS FALSE NEIGHBOUR: 'it returns false'. Refute it at one input. -/
def pqAloneWrong : ChangeSpec := { name := "pqAlone", fn := fun _ => fun
  | [d1, d2, d3] => { results := [.lit (.bool false)], args := [d1, d2, d3] }
  | _ => none }
def PqAloneWrongFalsely : Prop := pqAloneRow.holds Tryz.pinned (OpenSpec.ofChange pqAloneWrong)

/-- 'stilemanlaw14.PqTries': WHATEVER THE INPUT: true; the input reads as it did. -/
def pqTriesSpec : ChangeSpec := { name := "pqTries", fn := fun _ => fun
  | [d1, d2, d3] => { results := [.lit (.bool true)], args := [d1, d2, d3] }
  | _ => none }
def pqTriesRow : OpenClaim := { program := "ytocdbeonogfopaagreat", sum := "9216b28daf57e4a6d264c59c059de9b758b8e182a2d3de80275b2c7084ed0087", func := "stileman/stilemanlaw14.PqTries", spec := "pqTries", unfollowed := true, recurses := true, apart := false }
def PqTriesSaid : Prop := pqTriesRow.holds Tryz.pinned (OpenSpec.ofChange pqTriesSpec)

/-- ITS FALSE NEIGHBOUR: 'it returns false'. Refute it at one input. -/
def pqTriesWrong : ChangeSpec := { name := "pqTries", fn := fun _ => fun
  | [d1, d2, d3] => { results := [.lit (.bool false)], args := [d1, d2, d3] }
  | _ => none }
def PqTriesWrongFalsely : Prop := pqTriesRow.holds Tryz.pinned (OpenSpec.ofChange pqTriesWrong)

/-- 'stilemanlaw14.PqExcludes': WHATEVER THE INPUT: true; the input reads as it did. -/
def pqExcludesSpec : ChangeSpec := { name := "pqExcludes", fn := fun _ => fun
  | [d1, d2, d3, d4] => { results := [.lit (.bool true)], args := [d1, d2, d3, d4] }
  | _ => none }
def pqExcludesRow : OpenClaim := { program := "ytocdbeonogfopaagreat", sum := "9216b28daf57e4a6d264c59c059de9b758b8e182a2d3de80275b2c7084ed0087", func := "stileman/stilemanlaw14.PqExcludes", spec := "pqExcludes", unfollowed := true, recurses := true, apart := false }
def PqExcludesSaid : Prop := pqExcludesRow.holds Tryz.pinned (OpenSpec.ofChange pqExcludesSpec)

/-- ITS FALSE NEIGHBOUR: 'it returns false'. Refute it at one input. -/
def pqExcludesWrong : ChangeSpec := { name := "pqExcludes", fn := fun _ => fun
  | [d1, d2, d3, d4] => { results := [.lit (.bool false)], args := [d1, d2, d3, d4] }
  | _ => none }
def PqExcludesWrongFalsely : Prop := pqExcludesRow.holds Tryz.pinned (OpenSpec.ofChange pqExcludesWrong)

/-- 'stilemanlaw14.PqTogether': WHATEVER THE INPUT: true; the input reads as it did. -/
def pqTogetherSpec : ChangeSpec := { name := "pqTogether", fn := fun _ => fun
  | [d1, d2, d3, d4] => { results := [.lit (.bool true)], args := [d1, d2, d3, d4] }
  | _ => none }
def pqTogetherRow : OpenClaim := { program := "ytocdbeonogfopaagreat", sum := "9216b28daf57e4a6d264c59c059de9b758b8e182a2d3de80275b2c7084ed0087", func := "stileman/stilemanlaw14.PqTogether", spec := "pqTogether", unfollowed := true, recurses := true, apart := false }
def PqTogetherSaid : Prop := pqTogetherRow.holds Tryz.pinned (OpenSpec.ofChange pqTogetherSpec)

/-- ITS FALSE NEIGHBOUR: 'it returns false'. Refute it at one input. -/
def pqTogetherWrong : ChangeSpec := { name := "pqTogether", fn := fun _ => fun
  | [d1, d2, d3, d4] => { results := [.lit (.bool false)], args := [d1, d2, d3, d4] }
  | _ => none }
def PqTogetherWrongFalsely : Prop := pqTogetherRow.holds Tryz.pinned (OpenSpec.ofChange pqTogetherWrong)

/- THE SECOND FORM. 'bulk': how many values and letters a reading holds, each counted each time it is reached (what is shared counts as often as it is met; a slice's spare places count too). A statement '..UptoSaid' is the law's where the arguments, and the package variables that the reading takes, are together of bulk at most 1048576: NARROWER than '..Said'. Prove '..Said' where nothing that the law and all that it calls make is longer than what came in: it says more and counts as full. Else prove '..UptoSaid'. A law counts once. -/
mutual
def uptoBulk {H : Type} : DataW H → Nat
  | .lit (.string bytes) => bytes.length + 1
  | .lit _ => 1
  | .nil => 1
  | .ptr d => uptoBulk d + 1
  | .slice elems spare => uptoBulkAll elems + uptoBulkAll spare + 1
  | .agg parts => uptoBulkAll parts + 1
  | .iface _ d => uptoBulk d + 1
  | .map entries => uptoBulkEntries entries + 1
  | .held _ => 1
def uptoBulkAll {H : Type} : List (DataW H) → Nat
  | [] => 0
  | d :: r => uptoBulk d + uptoBulkAll r
def uptoBulkEntries {H : Type} : List (Lit × DataW H) → Nat
  | [] => 0
  | x :: r => uptoBulkEntry x + uptoBulkEntries r
def uptoBulkEntry {H : Type} : Lit × DataW H → Nat
  | (.string bytes, d) => bytes.length + uptoBulk d + 1
  | (_, d) => uptoBulk d + 1
 end
def uptoSmall : (H : Type) → List (DataW H) → Bool := fun _ ds => decide (uptoBulkAll ds ≤ 1048576)
def OpenSpec.upto (s : _root_.Go.ChangeSpec) : _root_.Go.OpenSpec := { _root_.Go.OpenSpec.ofChange s with cond := some uptoSmall }

/-- 'stilemanlaw14.PqAlone', WHERE WHAT IT READS IS OF BULK AT MOST 1048576: true; the input reads as it did. -/
def pqAloneUptoRow : OpenClaim := { program := "ytocdbeonogfopaagreat", sum := "9216b28daf57e4a6d264c59c059de9b758b8e182a2d3de80275b2c7084ed0087", func := "stileman/stilemanlaw14.PqAlone", spec := "pqAlone", unfollowed := true, recurses := true, apart := false, narrowed := true }
def PqAloneUptoSaid : Prop := pqAloneUptoRow.holds Tryz.pinned (OpenSpec.upto pqAloneSpec)

/-- 'stilemanlaw14.PqTries', WHERE WHAT IT READS IS OF BULK AT MOST 1048576: true; the input reads as it did. -/
def pqTriesUptoRow : OpenClaim := { program := "ytocdbeonogfopaagreat", sum := "9216b28daf57e4a6d264c59c059de9b758b8e182a2d3de80275b2c7084ed0087", func := "stileman/stilemanlaw14.PqTries", spec := "pqTries", unfollowed := true, recurses := true, apart := false, narrowed := true }
def PqTriesUptoSaid : Prop := pqTriesUptoRow.holds Tryz.pinned (OpenSpec.upto pqTriesSpec)

/-- 'stilemanlaw14.PqExcludes', WHERE WHAT IT READS IS OF BULK AT MOST 1048576: true; the input reads as it did. -/
def pqExcludesUptoRow : OpenClaim := { program := "ytocdbeonogfopaagreat", sum := "9216b28daf57e4a6d264c59c059de9b758b8e182a2d3de80275b2c7084ed0087", func := "stileman/stilemanlaw14.PqExcludes", spec := "pqExcludes", unfollowed := true, recurses := true, apart := false, narrowed := true }
def PqExcludesUptoSaid : Prop := pqExcludesUptoRow.holds Tryz.pinned (OpenSpec.upto pqExcludesSpec)

/-- 'stilemanlaw14.PqTogether', WHERE WHAT IT READS IS OF BULK AT MOST 1048576: true; the input reads as it did. -/
def pqTogetherUptoRow : OpenClaim := { program := "ytocdbeonogfopaagreat", sum := "9216b28daf57e4a6d264c59c059de9b758b8e182a2d3de80275b2c7084ed0087", func := "stileman/stilemanlaw14.PqTogether", spec := "pqTogether", unfollowed := true, recurses := true, apart := false, narrowed := true }
def PqTogetherUptoSaid : Prop := pqTogetherUptoRow.holds Tryz.pinned (OpenSpec.upto pqTogetherSpec)

end Rows
end Go.Proofs.YtocdbeonogfopaaGreat
