import Derived.Test.YtlepokgagickmaaGreatG41
import Derived.Test.YtlepokgagickmaaGreatG13
set_option linter.unusedVariables false
set_option linter.unusedSimpArgs false
namespace Go.Proofs.YtlepokgagickmaaGreat
open Go.RowKit
theorem wf_lines (B : Nat) (p A : Option Addr) (cp : Nat) (nv : Value) (r : LS) (w : World) (h : RunP w B p A cp nv r) (hl : r.ns.length ≤ 900) (hx : Words r.xs) (ha : 0 ≤ r.a ∧ r.a < 4294967296) : Calls Tryz.prog 48 #[Value.pointer (some ⟨B, 0, none⟩)] w (Done B p A cp w (.tuple #[]) r.wf) := wf_lo (st_new h hl (rows_nil _) asides_nil) hx ha
theorem wf_enters : Enters1 48 := fun args w => by simp [callFunc, go_sem, Tryz.func48, Tryz.f48]
theorem wf_step (B : Nat) (p A : Option Addr) (cp : Nat) (nv : Value) (r : LS) (w : World) (h : RunQ w B p A cp nv r) (hx : Words r.xs) (ha : 0 ≤ r.a ∧ r.a < 4294967296) :
    Calls Tryz.prog 96 #[Value.pointer (some ⟨B, 0, none⟩), .func (.func 48) #[] #[]] w (Stepd B p A cp (r.next LS.wf) (TurnB B A) (fun _ => True) w) :=
  step_of wf_enters LS.wf h fun w nv h => wf_lines B p A cp nv _ w h (Nat.zero_le _) hx ha
end Go.Proofs.YtlepokgagickmaaGreat
