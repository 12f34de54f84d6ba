/- PqL. -/
import Derived.Test.YtigdbokfapedcaaGreatB33
import Derived.Test.YtigdbokfapedcaaGreatB13
/- pq.Lines, the program's. -/
set_option linter.unusedVariables false
set_option linter.unusedSimpArgs false
namespace Go.Proofs.YtigdbokfapedcaaGreat
open Go.RowKit
set_option maxHeartbeats 4000000 in
theorem pq_lines (B : Nat) (p A : Option Addr) (cp : Nat) (nv : Value) (r : LS) (w : World) (h : RunP w B p A cp nv r) (hl : r.ns.length ≤ 900) (hx : Words r.xs) (ha : 0 ≤ r.a ∧ r.a < 4294967296) (hb : 0 ≤ r.b ∧ r.b < 4294967296) : Calls Tryz.prog 27 #[Value.pointer (some ⟨B, 0, none⟩)] w (Done B p A cp w (.tuple #[]) r.pq) := by
  have HS := Lib.hid (pq_so B p A cp nv r w h hl hx ha hb)
  have HP := Lib.hid h
  clear h hl hx ha hb
  have hn := neq_fnC
  have hn0 := neq_nilC
  go_enter Tryz.func27, Tryz.ntmps27
  go_wp2_with fail
  refine HS.out.mono ?_
  rintro e w1 (⟨F, hF, caps, rfl, hO, hC⟩ | ⟨rfl, hO, hr⟩)
  · have HO := Lib.hid hO
    have HC := Lib.hid hC
    clear hO hC HS HP
    simp only [List.mem_cons, List.not_mem_nil, or_false] at hF
    rcases hF with rfl | rfl | rfl | rfl | rfl | rfl | rfl | rfl | rfl | rfl | rfl | rfl | rfl
    all_goals
      go_wp2_with fail
      refine HC.out.mono ?_
      rintro e w2 ⟨rfl, hO, hP⟩
      have H := Lib.hid (And.intro ((HO.out.mono (T := TurnB B A) (fun _ _ h => h.elim)).trans hO) hP)
      clear hO hP HO HC
      go_wp2
      go_returns
      exact ⟨rfl, H.out⟩
  · have HO := Lib.hid hO
    clear hO HS
    go_wp2
    go_returns
    exact ⟨rfl, HO.out.mono (fun _ _ h => h.elim), nv, by rw [hr]; exact HP.out.keep HO.out⟩
theorem pq_lines_nil (w : World) : Calls Tryz.prog 27 #[.pointer none] w fun e w' => e = .returned (.tuple #[]) ∧ w = w' := by
  go_enter Tryz.func27, Tryz.ntmps27
  go_wp2
  go_returns
  exact ⟨rfl, rfl⟩
theorem pq_enters : Enters1 27 := fun args w => by simp [callFunc, go_sem, Tryz.func27, Tryz.f27]
/-- A step of a run, whole. -/
theorem pq_step (B : Nat) (p A : Option Addr) (cp : Nat) (nv : Value) (r : LS) (w : World) (h : RunQ w B p A cp nv r) (hx : Words r.xs) (ha : 0 ≤ r.a ∧ r.a < 4294967296) (hb : 0 ≤ r.b ∧ r.b < 4294967296) :
    Calls Tryz.prog 164 #[Value.pointer (some ⟨B, 0, none⟩), .func (.func 27) #[] #[]] w (Stepd B p A cp (r.next LS.pq) (TurnB B A) (fun _ => True) w) :=
  step_of pq_enters LS.pq h fun w nv h => pq_lines B p A cp nv _ w h (Nat.zero_le _) hx ha hb
end Go.Proofs.YtigdbokfapedcaaGreat
