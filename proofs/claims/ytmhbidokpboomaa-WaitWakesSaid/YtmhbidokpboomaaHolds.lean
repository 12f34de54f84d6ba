/- wait.holds: a function of a word is asked; a deferred call that recovers nothing. -/
import Derived.Test.YtmhbidokpboomaaIs
import Derived.Defers
import Derived.Recover
set_option linter.unusedVariables false
set_option linter.unusedSimpArgs false
namespace Go.Proofs.Ytmhbidokpboomaa
open Go.RowKit

/-- What is handed in as a function of a word tells q of it. -/
def Holds (fv : Value) (q : Int → Bool) : Prop := ∀ (v : Int) (w : World), 0 ≤ v → v < 4294967296 →
  Calls Try.prog 41 #[fv, .int .u32 v] w fun e w' => e = .returned (.bool (q v)) ∧ Only Nil w w'

theorem rec_idle (w : World) :
    CallsD Try.prog 46 #[] .returning w fun e u' w' => e = .returned (.tuple #[]) ∧ u' = .returning ∧ w = w' := by
  refine callsD_of_wpS Try.func46 rfl fun c₀ cs hu => ?_
  apply wpS_region
  simp [wpOpsS, go_sem, recoverD, hu, Try.ntmps46, Exit.thenS]
  cases c₀
  simp_all [bodyPostS, results, Try.results46]

theorem neq_nil (w : World) : (binOp .neq 42 .nilFunc .nilFunc).run Try.prog w = .ok (.bool false) w := by
  first | rfl | kernel_rfl
theorem neq_fn (f : Fn) (first cap : Array Value) (w : World) : (binOp .neq 42 (.func f first cap) .nilFunc).run Try.prog w = .ok (.bool true) w := by
  first | rfl | kernel_rfl

theorem holds_nil : Holds .nilFunc (fun _ => false) := by
  intro v w h0 h1
  have hn := neq_nil
  go_enter_defers Try.func41, Try.ntmps41
  go_wp2
  refine leaves_cons (f := 46) (args := #[]) (by simp) (by simp [go_sem]) ?_
  refine (rec_idle _).mono ?_
  rintro e u' w'' ⟨rfl, rfl, rfl⟩
  exact ⟨_, results_tmp rfl _ _ _, rfl, Only.refl _ _⟩

theorem holds_until (k m x : Int) : Holds (.func (.func 12) #[.agg #[.int .i64 k, .int .u32 m, .int .u32 x]] #[]) (uIs k m x) := by
  intro v w h0 h1
  have hn := neq_fn
  go_enter_defers Try.func41, Try.ntmps41
  go_wp2_with fail
  refine (is_any k m x v _ h0 h1).mono ?_
  rintro e w1 ⟨rfl, hO⟩
  have HO := Lib.hid hO
  clear hO
  go_wp2
  refine leaves_cons (f := 46) (args := #[]) (by simp) (by simp [go_sem]) ?_
  refine (rec_idle _).mono ?_
  rintro e u' w'' ⟨rfl, rfl, rfl⟩
  exact ⟨_, results_tmp rfl _ _ _, rfl, HO.out⟩

theorem four_any (v : Int) (w : World) : Calls Try.prog 23 #[.int .u32 v] w fun e w' => e = .returned (.bool (v == 4)) ∧ Only Nil w w' := by
  go_enter Try.func23, Try.ntmps23
  go_wp2
  go_ret
  exact ⟨rfl, Only.refl _ _⟩

theorem holds_four : Holds (.func (.func 23) #[] #[]) (fun v => v == 4) := by
  intro v w h0 h1
  have hn := neq_fn
  go_enter_defers Try.func41, Try.ntmps41
  go_wp2_with fail
  refine (four_any v _).mono ?_
  rintro e w1 ⟨rfl, hO⟩
  have HO := Lib.hid hO
  clear hO
  generalize hb : (v == 4) = b at *
  have HB := Lib.hid hb
  clear hb
  go_wp2
  refine leaves_cons (f := 46) (args := #[]) (by simp) (by simp [go_sem]) ?_
  refine (rec_idle _).mono ?_
  rintro e u' w'' ⟨rfl, rfl, rfl⟩
  exact ⟨_, results_tmp rfl _ _ _, by simp only [HB.out]; rfl, HO.out⟩
end Go.Proofs.Ytmhbidokpboomaa
