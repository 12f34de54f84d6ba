/- PfL. -/
import Derived.Test.YtigdbokfapedcaaGreatB29
import Derived.Test.YtigdbokfapedcaaGreatB13
/- pf.Lines, the program's, whole; a step. -/
set_option linter.unusedVariables false
set_option linter.unusedSimpArgs false
namespace Go.Proofs.YtigdbokfapedcaaGreat
open Go.RowKit
theorem pf_lines (B : Nat) (p A : Option Addr) (cp : Nat) (nv : Value) (r : LS) (w : World) (h : RunP w B p A cp nv r) (hl : r.ns.length ≤ 900) (hx : Words r.xs) (ha : 0 ≤ r.a ∧ r.a < 4294967296) (hb : 0 ≤ r.b ∧ r.b < 4294967296) : Calls Tryz.prog 26 #[Value.pointer (some ⟨B, 0, none⟩)] w (Done B p A cp w (.tuple #[]) r.pf) := pf_lo (st_new h hl (rows_nil _) asides_nil) hx ha hb
theorem pf_lines_nil (w : World) : Calls Tryz.prog 26 #[.pointer none] w fun e w' => e = .returned (.tuple #[]) ∧ w = w' := by
  go_enter Tryz.func26, Tryz.ntmps26
  go_wp2
  go_returns
  exact ⟨rfl, rfl⟩
theorem pf_enters : Enters1 26 := fun args w => by simp [callFunc, go_sem, Tryz.func26, Tryz.f26]
/-- A step of a run, whole. -/
theorem pf_step (B : Nat) (p A : Option Addr) (cp : Nat) (nv : Value) (r : LS) (w : World) (h : RunQ w B p A cp nv r) (hx : Words r.xs) (ha : 0 ≤ r.a ∧ r.a < 4294967296) (hb : 0 ≤ r.b ∧ r.b < 4294967296) :
    Calls Tryz.prog 164 #[Value.pointer (some ⟨B, 0, none⟩), .func (.func 26) #[] #[]] w (Stepd B p A cp (r.next LS.pf) (TurnB B A) (fun _ => True) w) :=
  step_of pf_enters LS.pf h fun w nv h => pf_lines B p A cp nv _ w h (Nat.zero_le _) hx ha hb
end Go.Proofs.YtigdbokfapedcaaGreat
