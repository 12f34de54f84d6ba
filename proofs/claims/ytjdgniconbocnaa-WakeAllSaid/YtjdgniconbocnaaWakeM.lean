/- Waking: plain functions; returns of two structs that lie in blocks of their own. -/
import Derived.Test.YtjdgniconbocnaaWaitM
set_option linter.unusedVariables false
set_option linter.unusedSimpArgs false
namespace Go.Proofs.Ytjdgniconbocnaa
open Go.RowKit

/-- A wake-up. -/
structure WkV where
  on : Bool
  c : Int
  i : Int
  hit : Bool

def WkV.v (k : WkV) : Value := .agg #[.bool k.on, .int .i64 k.c, .int .i64 k.i, .bool k.hit]
def wk0 : WkV := ⟨false, 0, 0, false⟩

/-- What a step of a wake-up tells, and leaves. -/
structure WakeR where
  next : WkV
  acc : Value
  xs : List Int

/-- The wake-up behind the task i. -/
def nextI (n c i : Int) : WkV := if i + 1 = n then wk0 else ⟨true, c, i + 1, false⟩

def restI (xs : List Int) : WakeR := ⟨wk0, accOf 0 0 0 0 0, xs⟩
def giveI (xs : List Int) (n c i : Int) : WakeR := if there xs (pc n i) then ⟨nextI n c i, doVal xs 2 (pc n i) 1 0, st xs (pc n i) 1⟩ else restI xs
def lookI (xs : List Int) (n c i : Int) : WakeR :=
  if there xs (wc n i) then
    (if wordAt xs (wc n i) = (c + 1) % 4294967296 then ⟨⟨true, c, i, true⟩, doVal xs 1 (wc n i) 0 0, xs⟩ else ⟨nextI n c i, doVal xs 1 (wc n i) 0 0, xs⟩)
  else restI xs
/-- One step. -/
def wakeI (xs : List Int) (n : Int) (on : Bool) (c i : Int) (hit : Bool) : WakeR := if on then (if hit then giveI xs n c i else lookI xs n c i) else restI xs

/-- A return of two structs that lie in blocks of their own. -/
theorem post_two {P : Program} {fn : Func} {R : Ending → World → Prop} {a : Act} {w : World} {p q : Tmp} {ty ty' : TypeId} (h : fn.results = #[.cell p ty, .cell q ty']) {g g' : Nat} {t t' : TypeId} {cs cs' : Array Value} {d d' : TypeDesc}
    (hp : a.tmps.getD p undef = .pointer (some ⟨g, 0, none⟩)) (hg : Row w g t cs) (hu : P.underlying ty = some d) (hd : (match d with | .struct _ | .array _ _ => true | _ => false) = true) (hi : (P.info? ty).map (·.size) = some cs.size)
    (hq : a.tmps.getD q undef = .pointer (some ⟨g', 0, none⟩)) (hg' : Row w g' t' cs') (hu' : P.underlying ty' = some d') (hd' : (match d' with | .struct _ | .array _ _ => true | _ => false) = true) (hi' : (P.info? ty').map (·.size) = some cs'.size)
    (hf : a.defers = []) (hR : R (.returned (.tuple #[.agg cs, .agg cs'])) w) : bodyPost P fn R .ret a w := by
  refine ⟨hf, _, ?_, hR⟩
  have hp' : a.tmps[p]?.getD undef = .pointer (some ⟨g, 0, none⟩) := by simpa using hp
  have hq' : a.tmps[q]?.getD undef = .pointer (some ⟨g', 0, none⟩) := by simpa using hq
  simp [results, h, hp', hq', asAddr, run_loadVar_row w g t ty cs (0, 0) d hg hu hd hi, run_loadVar_row w g' t' ty' cs' (0, 0) d' hg' hu' hd' hi']

/-- The same, and a value more. -/
theorem post_two_tmp {P : Program} {fn : Func} {R : Ending → World → Prop} {a : Act} {w : World} {p q u : Tmp} {ty ty' : TypeId} (h : fn.results = #[.cell p ty, .cell q ty', .tmp u]) {g g' : Nat} {t t' : TypeId} {cs cs' : Array Value} {d d' : TypeDesc}
    (hp : a.tmps.getD p undef = .pointer (some ⟨g, 0, none⟩)) (hg : Row w g t cs) (hu : P.underlying ty = some d) (hd : (match d with | .struct _ | .array _ _ => true | _ => false) = true) (hi : (P.info? ty).map (·.size) = some cs.size)
    (hq : a.tmps.getD q undef = .pointer (some ⟨g', 0, none⟩)) (hg' : Row w g' t' cs') (hu' : P.underlying ty' = some d') (hd' : (match d' with | .struct _ | .array _ _ => true | _ => false) = true) (hi' : (P.info? ty').map (·.size) = some cs'.size)
    (hf : a.defers = []) (hR : R (.returned (.tuple #[.agg cs, .agg cs', a.tmps.getD u undef])) w) : bodyPost P fn R .ret a w := by
  refine ⟨hf, _, ?_, hR⟩
  have hp' : a.tmps[p]?.getD undef = .pointer (some ⟨g, 0, none⟩) := by simpa using hp
  have hq' : a.tmps[q]?.getD undef = .pointer (some ⟨g', 0, none⟩) := by simpa using hq
  simp [results, h, hp', hq', asAddr, run_loadVar_row w g t ty cs (0, 0) d hg hu hd hi, run_loadVar_row w g' t' ty' cs' (0, 0) d' hg' hu' hd' hi']

/-- A struct of four cells stored into a block. -/
theorem four {w : World} {g : Nat} {t : TypeId} {a0 a1 a2 a3 : Value} (h : Row w g t #[a0, a1, a2, a3]) (v0 v1 v2 v3 : Value) :
    Row ((((w.setCell ⟨g, 0, none⟩ v0).setCell ⟨g, 1, none⟩ v1).setCell ⟨g, 2, none⟩ v2).setCell ⟨g, 3, none⟩ v3) g t #[v0, v1, v2, v3] := by
  simpa using (((h.set 0 v0).set 1 v1).set 2 v2).set 3 v3

theorem four_only {S : Nat → Prop} {w w' : World} (h : Only S w w') {g : Nat} (hg : w.heap.size ≤ g ∨ S g) (v0 v1 v2 v3 : Value) :
    Only S w ((((w'.setCell ⟨g, 0, none⟩ v0).setCell ⟨g, 1, none⟩ v1).setCell ⟨g, 2, none⟩ v2).setCell ⟨g, 3, none⟩ v3) :=
  (((h.setCell (p := ⟨g, 0, none⟩) hg v0).setCell (p := ⟨g, 1, none⟩) hg v1).setCell (p := ⟨g, 2, none⟩) hg v2).setCell (p := ⟨g, 3, none⟩) hg v3
end Go.Proofs.Ytjdgniconbocnaa
