/-
  No cell of these rows narrows 'for every input' (looked for: loops, veiled, ifaces, maps, wideKeys, modest, calm, conditions, laid).
  DERIVED. THE GIVEN ROWS OF THIS SEAT. 3 by the template 'for every input the law returns true; each argument reads behind the call as it read before'; 0 by the template 'total and deterministic' (their statements: YtigdbokfapedcaaTotals.lean).
  GIVEN WITH THE SEED: the statements are not yours to turn. If you find one false, say at which input.
  Laid BY PROGRAM, IN A SANDBOX (cutbox-rows.mjs): the forced cells as the released guide's own fill.sh prints them over the translation ac55141af094fef0… (all of the seat's roots in one cut). By AI agents, Wed Nov 11 2026. No macro, syntax, notation, axiom, sorry.
-/
import Derived.Test.YtigdbokfapedcaaChecked
import GoSem.Claim
import GoSem.ClaimJoined
import GoSem.ClaimMapViews
import Derived.JoinedTies
import Derived.KernelRfl
namespace Go.Proofs.Ytigdbokfapedcaa
/- THE CELL 'sum', in the pinned program and in every row, IS THE sha256 OF THE DUMP (.gsa) THAT YtigdbokfapedcaaProg.lean LOADS. Nothing in Lean hashes anything: it is a label: what it is worth is what the hold of that sum in a sandbox is worth. -/
noncomputable def Try.pinned : Pinned := { name := "ytigdbokfapedcaa", sum := "ac55141af094fef0f19f0fe65d3785007629e4c8d1abd8183f70c8e25b6d9073", checked := Try.checked }
namespace Rows
def none {H : Type} : Left H := { results := [], args := [] }

/-- 'stilemanlaw20.RecCalls': WHATEVER THE INPUT: true; the input reads as it did. -/
def recCallsSpec : ChangeSpec := { name := "recCalls", fn := fun _ => fun
  | [d] => { results := [.lit (.bool true)], args := [d] }
  | _ => none }
def recCallsRow : OpenClaim := { program := "ytigdbokfapedcaa", sum := "ac55141af094fef0f19f0fe65d3785007629e4c8d1abd8183f70c8e25b6d9073", func := "stileman/stilemanlaw20.RecCalls", spec := "recCalls", unfollowed := true, recurses := true, apart := false }
def RecCallsSaid : Prop := recCallsRow.holds Try.pinned (OpenSpec.ofChange recCallsSpec)

/-- ITS FALSE NEIGHBOUR: 'it returns false'. Refute it at one input. -/
def recCallsWrong : ChangeSpec := { name := "recCalls", fn := fun _ => fun
  | [d] => { results := [.lit (.bool false)], args := [d] }
  | _ => none }
def RecCallsWrongFalsely : Prop := recCallsRow.holds Try.pinned (OpenSpec.ofChange recCallsWrong)

/-- 'stilemanlaw20.RecChecks': WHATEVER THE INPUT: true; the input reads as it did. -/
def recChecksSpec : ChangeSpec := { name := "recChecks", fn := fun _ => fun
  | [d1, d2] => { results := [.lit (.bool true)], args := [d1, d2] }
  | _ => none }
def recChecksRow : OpenClaim := { program := "ytigdbokfapedcaa", sum := "ac55141af094fef0f19f0fe65d3785007629e4c8d1abd8183f70c8e25b6d9073", func := "stileman/stilemanlaw20.RecChecks", spec := "recChecks", apart := false }
def RecChecksSaid : Prop := recChecksRow.holds Try.pinned (OpenSpec.ofChange recChecksSpec)

/-- ITS FALSE NEIGHBOUR: 'it returns false'. Refute it at one input. -/
def recChecksWrong : ChangeSpec := { name := "recChecks", fn := fun _ => fun
  | [d1, d2] => { results := [.lit (.bool false)], args := [d1, d2] }
  | _ => none }
def RecChecksWrongFalsely : Prop := recChecksRow.holds Try.pinned (OpenSpec.ofChange recChecksWrong)

/-- 'stilemanlaw20.RecOverlaps': WHATEVER THE INPUT: true; the input reads as it did. -/
def recOverlapsSpec : ChangeSpec := { name := "recOverlaps", fn := fun _ => fun
  | [d1, d2] => { results := [.lit (.bool true)], args := [d1, d2] }
  | _ => none }
def recOverlapsRow : OpenClaim := { program := "ytigdbokfapedcaa", sum := "ac55141af094fef0f19f0fe65d3785007629e4c8d1abd8183f70c8e25b6d9073", func := "stileman/stilemanlaw20.RecOverlaps", spec := "recOverlaps", apart := false }
def RecOverlapsSaid : Prop := recOverlapsRow.holds Try.pinned (OpenSpec.ofChange recOverlapsSpec)

/-- ITS FALSE NEIGHBOUR: 'it returns false'. Refute it at one input. -/
def recOverlapsWrong : ChangeSpec := { name := "recOverlaps", fn := fun _ => fun
  | [d1, d2] => { results := [.lit (.bool false)], args := [d1, d2] }
  | _ => none }
def RecOverlapsWrongFalsely : Prop := recOverlapsRow.holds Try.pinned (OpenSpec.ofChange recOverlapsWrong)

/- THE SECOND FORM. 'bulk': how many values and letters a reading holds, each counted each time it is reached (what is shared counts as often as it is met; a slice's spare places count too). A statement '..UptoSaid' is the law's where the arguments, and the package variables that the reading takes, are together of bulk at most 1048576: NARROWER than '..Said'. Prove '..Said' where nothing that the law and all that it calls make is longer than what came in: it says more and counts as full. Else prove '..UptoSaid'. A law counts once. -/
mutual
def uptoBulk {H : Type} : DataW H → Nat
  | .lit (.string bytes) => bytes.length + 1
  | .lit _ => 1
  | .nil => 1
  | .ptr d => uptoBulk d + 1
  | .slice elems spare => uptoBulkAll elems + uptoBulkAll spare + 1
  | .agg parts => uptoBulkAll parts + 1
  | .iface _ d => uptoBulk d + 1
  | .map entries => uptoBulkEntries entries + 1
  | .held _ => 1
def uptoBulkAll {H : Type} : List (DataW H) → Nat
  | [] => 0
  | d :: r => uptoBulk d + uptoBulkAll r
def uptoBulkEntries {H : Type} : List (Lit × DataW H) → Nat
  | [] => 0
  | x :: r => uptoBulkEntry x + uptoBulkEntries r
def uptoBulkEntry {H : Type} : Lit × DataW H → Nat
  | (.string bytes, d) => bytes.length + uptoBulk d + 1
  | (_, d) => uptoBulk d + 1
 end
def uptoSmall : (H : Type) → List (DataW H) → Bool := fun _ ds => decide (uptoBulkAll ds ≤ 1048576)
def OpenSpec.upto (s : _root_.Go.ChangeSpec) : _root_.Go.OpenSpec := { _root_.Go.OpenSpec.ofChange s with cond := some uptoSmall }

/-- 'stilemanlaw20.RecCalls', WHERE WHAT IT READS IS OF BULK AT MOST 1048576: true; the input reads as it did. -/
def recCallsUptoRow : OpenClaim := { program := "ytigdbokfapedcaa", sum := "ac55141af094fef0f19f0fe65d3785007629e4c8d1abd8183f70c8e25b6d9073", func := "stileman/stilemanlaw20.RecCalls", spec := "recCalls", unfollowed := true, recurses := true, apart := false, narrowed := true }
def RecCallsUptoSaid : Prop := recCallsUptoRow.holds Try.pinned (OpenSpec.upto recCallsSpec)

/-- 'stilemanlaw20.RecChecks', WHERE WHAT IT READS IS OF BULK AT MOST 1048576: true; the input reads as it did. -/
def recChecksUptoRow : OpenClaim := { program := "ytigdbokfapedcaa", sum := "ac55141af094fef0f19f0fe65d3785007629e4c8d1abd8183f70c8e25b6d9073", func := "stileman/stilemanlaw20.RecChecks", spec := "recChecks", apart := false, narrowed := true }
def RecChecksUptoSaid : Prop := recChecksUptoRow.holds Try.pinned (OpenSpec.upto recChecksSpec)

/-- 'stilemanlaw20.RecOverlaps', WHERE WHAT IT READS IS OF BULK AT MOST 1048576: true; the input reads as it did. -/
def recOverlapsUptoRow : OpenClaim := { program := "ytigdbokfapedcaa", sum := "ac55141af094fef0f19f0fe65d3785007629e4c8d1abd8183f70c8e25b6d9073", func := "stileman/stilemanlaw20.RecOverlaps", spec := "recOverlaps", apart := false, narrowed := true }
def RecOverlapsUptoSaid : Prop := recOverlapsUptoRow.holds Try.pinned (OpenSpec.upto recOverlapsSpec)

end Rows
end Go.Proofs.Ytigdbokfapedcaa
