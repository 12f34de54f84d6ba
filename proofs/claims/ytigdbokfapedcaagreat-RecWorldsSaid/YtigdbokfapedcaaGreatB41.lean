/- FqSo, FqL. -/
import Derived.Test.YtigdbokfapedcaaGreatB36
import Derived.Test.YtigdbokfapedcaaGreatB37
import Derived.Test.YtigdbokfapedcaaGreatB38
import Derived.Test.YtigdbokfapedcaaGreatB39
import Derived.Test.YtigdbokfapedcaaGreatB40
import Derived.Test.YtigdbokfapedcaaGreatB13
/- fq.stepOf, the program's: which line it is. -/
set_option linter.unusedVariables false
set_option linter.unusedSimpArgs false
namespace Go.Proofs.YtigdbokfapedcaaGreat
open Go.RowKit
theorem fq_so (B : Nat) (p A : Option Addr) (cp : Nat) (nv : Value) (r : LS) (w : World) (h : RunP w B p A cp nv r) (hl : r.ns.length ≤ 900) (hx : Words r.xs) (ha : 0 ≤ r.a ∧ r.a < 4294967296) : Calls Tryz.prog 60 #[Value.pointer (some ⟨B, 0, none⟩)] w (ClS [213, 215, 219, 214, 216, 222, 217, 221] B p A cp r r.fq w) := by
  by_cases o0 : r.op = 1 ∨ r.op = 2
  · exact fq_so1 B p A cp nv r w h hl hx ha o0
  by_cases o1 : r.op = 5 ∨ r.op = 3
  · exact fq_so2 B p A cp nv r w h hl hx ha o1
  by_cases o2 : r.op = 6 ∨ r.op = 4
  · exact fq_so3 B p A cp nv r w h hl hx ha o2
  by_cases o3 : r.op = 7
  · exact fq_so4 B p A cp nv r w h hl hx ha o3
  exact fq_so5 B p A cp nv r w h hl hx ha (by omega)
end Go.Proofs.YtigdbokfapedcaaGreat
/- fq.Lines, the program's. -/
set_option linter.unusedVariables false
set_option linter.unusedSimpArgs false
namespace Go.Proofs.YtigdbokfapedcaaGreat
open Go.RowKit
set_option maxHeartbeats 4000000 in
theorem fq_lines (B : Nat) (p A : Option Addr) (cp : Nat) (nv : Value) (r : LS) (w : World) (h : RunP w B p A cp nv r) (hl : r.ns.length ≤ 900) (hx : Words r.xs) (ha : 0 ≤ r.a ∧ r.a < 4294967296) : Calls Tryz.prog 28 #[Value.pointer (some ⟨B, 0, none⟩)] w (Done B p A cp w (.tuple #[]) r.fq) := by
  have HS := Lib.hid (fq_so B p A cp nv r w h hl hx ha)
  have HP := Lib.hid h
  clear h hl hx ha
  have hn := neq_fnC
  have hn0 := neq_nilC
  go_enter Tryz.func28, Tryz.ntmps28
  go_wp2_with fail
  refine HS.out.mono ?_
  rintro e w1 (⟨F, hF, caps, rfl, hO, hC⟩ | ⟨rfl, hO, hr⟩)
  · have HO := Lib.hid hO
    have HC := Lib.hid hC
    clear hO hC HS HP
    simp only [List.mem_cons, List.not_mem_nil, or_false] at hF
    rcases hF with rfl | rfl | rfl | rfl | rfl | rfl | rfl | rfl
    all_goals
      go_wp2_with fail
      refine HC.out.mono ?_
      rintro e w2 ⟨rfl, hO, hP⟩
      have H := Lib.hid (And.intro ((HO.out.mono (T := TurnB B A) (fun _ _ h => h.elim)).trans hO) hP)
      clear hO hP HO HC
      go_wp2
      go_returns
      exact ⟨rfl, H.out⟩
  · have HO := Lib.hid hO
    clear hO HS
    go_wp2
    go_returns
    exact ⟨rfl, HO.out.mono (fun _ _ h => h.elim), nv, by rw [hr]; exact HP.out.keep HO.out⟩
theorem fq_lines_nil (w : World) : Calls Tryz.prog 28 #[.pointer none] w fun e w' => e = .returned (.tuple #[]) ∧ w = w' := by
  go_enter Tryz.func28, Tryz.ntmps28
  go_wp2
  go_returns
  exact ⟨rfl, rfl⟩
theorem fq_enters : Enters1 28 := fun args w => by simp [callFunc, go_sem, Tryz.func28, Tryz.f28]
/-- A step of a run, whole. -/
theorem fq_step (B : Nat) (p A : Option Addr) (cp : Nat) (nv : Value) (r : LS) (w : World) (h : RunQ w B p A cp nv r) (hx : Words r.xs) (ha : 0 ≤ r.a ∧ r.a < 4294967296) :
    Calls Tryz.prog 164 #[Value.pointer (some ⟨B, 0, none⟩), .func (.func 28) #[] #[]] w (Stepd B p A cp (r.next LS.fq) (TurnB B A) (fun _ => True) w) :=
  step_of fq_enters LS.fq h fun w nv h => fq_lines B p A cp nv _ w h (Nat.zero_le _) hx ha
end Go.Proofs.YtigdbokfapedcaaGreat
