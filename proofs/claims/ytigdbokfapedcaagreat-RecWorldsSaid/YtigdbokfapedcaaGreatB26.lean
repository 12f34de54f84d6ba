/- TfL. -/
import Derived.Test.YtigdbokfapedcaaGreatB25
/- tf.Lines, the program's. -/
set_option linter.unusedVariables false
set_option linter.unusedSimpArgs false
namespace Go.Proofs.YtigdbokfapedcaaGreat
open Go.RowKit
set_option maxHeartbeats 4000000 in
theorem tf_lines (B : Nat) (p A : Option Addr) (cp : Nat) (nv : Value) (r : LS) (w : World) (h : RunP w B p A cp nv r) (hl : r.ns.length ≤ 900) (hx : Words r.xs) : Calls Tryz.prog 25 #[Value.pointer (some ⟨B, 0, none⟩)] w (Done B p A cp w (.tuple #[]) r.tf) := by
  have HS := Lib.hid (tf_so B p A cp nv r w h hl hx)
  have HP := Lib.hid h
  clear h hl hx
  have hn := neq_fnC
  have hn0 := neq_nilC
  go_enter Tryz.func25, Tryz.ntmps25
  go_wp2_with fail
  refine HS.out.mono ?_
  rintro e w1 (⟨F, hF, caps, rfl, hO, hC⟩ | ⟨rfl, hO, hr⟩)
  · have HO := Lib.hid hO
    have HC := Lib.hid hC
    clear hO hC HS HP
    simp only [List.mem_cons, List.not_mem_nil, or_false] at hF
    rcases hF with rfl | rfl | rfl | rfl | rfl | rfl | rfl | rfl | rfl
    all_goals
      go_wp2_with fail
      refine HC.out.mono ?_
      rintro e w2 ⟨rfl, hO, hP⟩
      have H := Lib.hid (And.intro ((HO.out.mono (T := TurnB B A) (fun _ _ h => h.elim)).trans hO) hP)
      clear hO hP HO HC
      go_wp2
      go_returns
      exact ⟨rfl, H.out⟩
  · have HO := Lib.hid hO
    clear hO HS
    go_wp2
    go_returns
    exact ⟨rfl, HO.out.mono (fun _ _ h => h.elim), nv, by rw [hr]; exact HP.out.keep HO.out⟩
theorem tf_lines_nil (w : World) : Calls Tryz.prog 25 #[.pointer none] w fun e w' => e = .returned (.tuple #[]) ∧ w = w' := by
  go_enter Tryz.func25, Tryz.ntmps25
  go_wp2
  go_returns
  exact ⟨rfl, rfl⟩
theorem tf_enters : Enters1 25 := fun args w => by simp [callFunc, go_sem, Tryz.func25, Tryz.f25]
/-- A step of a run, whole. -/
theorem tf_step (B : Nat) (p A : Option Addr) (cp : Nat) (nv : Value) (r : LS) (w : World) (h : RunQ w B p A cp nv r) (hx : Words r.xs) :
    Calls Tryz.prog 164 #[Value.pointer (some ⟨B, 0, none⟩), .func (.func 25) #[] #[]] w (Stepd B p A cp (r.next LS.tf) (TurnB B A) (fun _ => True) w) :=
  step_of tf_enters LS.tf h fun w nv h => tf_lines B p A cp nv _ w h (Nat.zero_le _) hx
end Go.Proofs.YtigdbokfapedcaaGreat
