/- WfL. -/
import Derived.Test.YtigdbokfapedcaaGreatB47
import Derived.Test.YtigdbokfapedcaaGreatB13
/- wf.Lines, the program's, whole; a step. -/
set_option linter.unusedVariables false
set_option linter.unusedSimpArgs false
namespace Go.Proofs.YtigdbokfapedcaaGreat
open Go.RowKit
theorem wf_lines (B : Nat) (p A : Option Addr) (cp : Nat) (nv : Value) (r : LS) (w : World) (h : RunP w B p A cp nv r) (hl : r.ns.length ≤ 900) (hx : Words r.xs) (ha : 0 ≤ r.a ∧ r.a < 4294967296) : Calls Tryz.prog 30 #[Value.pointer (some ⟨B, 0, none⟩)] w (Done B p A cp w (.tuple #[]) r.wf) := wf_lo (st_new h hl (rows_nil _) asides_nil) hx ha
theorem wf_lines_nil (w : World) : Calls Tryz.prog 30 #[.pointer none] w fun e w' => e = .returned (.tuple #[]) ∧ w = w' := by
  go_enter Tryz.func30, Tryz.ntmps30
  go_wp2
  go_returns
  exact ⟨rfl, rfl⟩
theorem wf_enters : Enters1 30 := fun args w => by simp [callFunc, go_sem, Tryz.func30, Tryz.f30]
/-- A step of a run, whole. -/
theorem wf_step (B : Nat) (p A : Option Addr) (cp : Nat) (nv : Value) (r : LS) (w : World) (h : RunQ w B p A cp nv r) (hx : Words r.xs) (ha : 0 ≤ r.a ∧ r.a < 4294967296) :
    Calls Tryz.prog 164 #[Value.pointer (some ⟨B, 0, none⟩), .func (.func 30) #[] #[]] w (Stepd B p A cp (r.next LS.wf) (TurnB B A) (fun _ => True) w) :=
  step_of wf_enters LS.wf h fun w nv h => wf_lines B p A cp nv _ w h (Nat.zero_le _) hx ha
end Go.Proofs.YtigdbokfapedcaaGreat
