/- Waiting: plain functions; a return of two structs that lie in blocks of their own, and of two values more. -/
import Derived.Test.YtjdgniconbocnaaParkM
set_option linter.unusedVariables false
set_option linter.unusedSimpArgs false
namespace Go.Proofs.Ytjdgniconbocnaa
open Go.RowKit

/-- A task's watch's cell. -/
def wc (n i : Int) : Int := cellI n 2 i
/-- Each word is one. -/
def Words (xs : List Int) : Prop := ∀ n ∈ xs, (Lit.int .u32 n).wf = true

/-- What a step tells, and leaves. -/
structure StepR where
  next : Int
  acc : Value
  seen : Bool
  done : Bool
  xs : List Int

/-- One step. -/
def stepI (xs : List Int) (n mode i s c : Int) (q : Int → Bool) : StepR :=
  if mode ≠ 2 then ⟨0, doVal xs 1 c 0 0, q (wordAt xs c), q (wordAt xs c), xs⟩
  else if s = 1 then ⟨2, doVal xs 2 (wc n i) ((c + 1) % 4294967296) 0, false, false, st xs (wc n i) ((c + 1) % 4294967296)⟩
  else if s = 2 then ⟨if q (wordAt xs c) then 4 else 3, doVal xs 1 c 0 0, q (wordAt xs c), false, xs⟩
  else if s = 3 then ⟨if hasP xs n i then 2 else 3, takeVal xs n i, false, false, st xs (pc n i) 0⟩
  else if s = 4 then ⟨0, doVal xs 2 (wc n i) 0 0, false, true, st xs (wc n i) 0⟩
  else ⟨if q (wordAt xs c) then 0 else 1, doVal xs 1 c 0 0, q (wordAt xs c), q (wordAt xs c), xs⟩

/-- Would the step take a permit that isn't there? -/
def stuckB (xs : List Int) (n mode i s : Int) : Bool := (mode == 2) && (s == 3) && !hasP xs n i

section
variable {xs : List Int} {n mode i s c : Int} {q : Int → Bool}
theorem stepI_spin (h : mode ≠ 2) : stepI xs n mode i s c q = ⟨0, doVal xs 1 c 0 0, q (wordAt xs c), q (wordAt xs c), xs⟩ := if_pos h
theorem stepI_1 : stepI xs n 2 i 1 c q = ⟨2, doVal xs 2 (wc n i) ((c + 1) % 4294967296) 0, false, false, st xs (wc n i) ((c + 1) % 4294967296)⟩ := rfl
theorem stepI_2 : stepI xs n 2 i 2 c q = ⟨if q (wordAt xs c) then 4 else 3, doVal xs 1 c 0 0, q (wordAt xs c), false, xs⟩ := rfl
theorem stepI_3 : stepI xs n 2 i 3 c q = ⟨if hasP xs n i then 2 else 3, takeVal xs n i, false, false, st xs (pc n i) 0⟩ := rfl
theorem stepI_4 : stepI xs n 2 i 4 c q = ⟨0, doVal xs 2 (wc n i) 0 0, false, true, st xs (wc n i) 0⟩ := rfl
theorem stepI_0 (h1 : s ≠ 1) (h2 : s ≠ 2) (h3 : s ≠ 3) (h4 : s ≠ 4) : stepI xs n 2 i s c q = ⟨if q (wordAt xs c) then 0 else 1, doVal xs 1 c 0 0, q (wordAt xs c), q (wordAt xs c), xs⟩ := by
  unfold stepI
  rw [if_neg (by simp), if_neg h1, if_neg h2, if_neg h3, if_neg h4]
end

/-- A return of two structs that lie in blocks of their own, and of two values more. -/
theorem post_two_tmps {P : Program} {fn : Func} {R : Ending → World → Prop} {a : Act} {w : World} {p q u v : Tmp} {ty ty' : TypeId} (h : fn.results = #[.cell p ty, .cell q ty', .tmp u, .tmp v]) {g g' : Nat} {t t' : TypeId} {cs cs' : Array Value} {d d' : TypeDesc}
    (hp : a.tmps.getD p undef = .pointer (some ⟨g, 0, none⟩)) (hg : Row w g t cs) (hu : P.underlying ty = some d) (hd : (match d with | .struct _ | .array _ _ => true | _ => false) = true) (hi : (P.info? ty).map (·.size) = some cs.size)
    (hq : a.tmps.getD q undef = .pointer (some ⟨g', 0, none⟩)) (hg' : Row w g' t' cs') (hu' : P.underlying ty' = some d') (hd' : (match d' with | .struct _ | .array _ _ => true | _ => false) = true) (hi' : (P.info? ty').map (·.size) = some cs'.size)
    (hf : a.defers = []) (hR : R (.returned (.tuple #[.agg cs, .agg cs', a.tmps.getD u undef, a.tmps.getD v undef])) w) : bodyPost P fn R .ret a w := by
  refine ⟨hf, _, ?_, hR⟩
  have hp' : a.tmps[p]?.getD undef = .pointer (some ⟨g, 0, none⟩) := by simpa using hp
  have hq' : a.tmps[q]?.getD undef = .pointer (some ⟨g', 0, none⟩) := by simpa using hq
  simp [results, h, hp', hq', asAddr, run_loadVar_row w g t ty cs (0, 0) d hg hu hd hi, run_loadVar_row w g' t' ty' cs' (0, 0) d' hg' hu' hd' hi']
end Go.Proofs.Ytjdgniconbocnaa
