import Derived.Test.YtlepokgagickmaaGreatG23
import Derived.Test.YtlepokgagickmaaGreatG13
set_option linter.unusedVariables false
set_option linter.unusedSimpArgs false
namespace Go.Proofs.YtlepokgagickmaaGreat
open Go.RowKit
theorem pf_lines (B : Nat) (p A : Option Addr) (cp : Nat) (nv : Value) (r : LS) (w : World) (h : RunP w B p A cp nv r) (hl : r.ns.length ≤ 900) (hx : Words r.xs) (ha : 0 ≤ r.a ∧ r.a < 4294967296) (hb : 0 ≤ r.b ∧ r.b < 4294967296) : Calls Tryz.prog 44 #[Value.pointer (some ⟨B, 0, none⟩)] w (Done B p A cp w (.tuple #[]) r.pf) := pf_lo (st_new h hl (rows_nil _) asides_nil) hx ha hb
theorem pf_enters : Enters1 44 := fun args w => by simp [callFunc, go_sem, Tryz.func44, Tryz.f44]
theorem pf_step (B : Nat) (p A : Option Addr) (cp : Nat) (nv : Value) (r : LS) (w : World) (h : RunQ w B p A cp nv r) (hx : Words r.xs) (ha : 0 ≤ r.a ∧ r.a < 4294967296) (hb : 0 ≤ r.b ∧ r.b < 4294967296) :
    Calls Tryz.prog 96 #[Value.pointer (some ⟨B, 0, none⟩), .func (.func 44) #[] #[]] w (Stepd B p A cp (r.next LS.pf) (TurnB B A) (fun _ => True) w) :=
  step_of pf_enters LS.pf h fun w nv h => pf_lines B p A cp nv _ w h (Nat.zero_le _) hx ha hb
end Go.Proofs.YtlepokgagickmaaGreat
