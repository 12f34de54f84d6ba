/- PfLo. -/
import Derived.Test.YtigdbokfapedcaaGreatB28
/- pf.Lines, the program's: which line it is. -/
set_option linter.unusedVariables false
set_option linter.unusedSimpArgs false
namespace Go.Proofs.YtigdbokfapedcaaGreat
open Go.RowKit
section
variable {B : Nat} {p A : Option Addr} {cp : Nat} {r : LS} {w0 w : World}
set_option maxRecDepth 100000 in
set_option maxHeartbeats 40000000 in
theorem pf_lo (S : St w0 B p A cp [] 900 r w) (hx : Words r.xs) (ha : 0 ≤ r.a ∧ r.a < 4294967296) (hb : 0 ≤ r.b ∧ r.b < 4294967296) : Calls Tryz.prog 26 #[Value.pointer (some ⟨B, 0, none⟩)] w (Done B p A cp w0 (.tuple #[]) r.pf) := by
  obtain ⟨ol, H1⟩ : ∃ ol, Hid (r.op = ol) := ⟨_, Lib.hid rfl⟩
  obtain ⟨ln, H2⟩ : ∃ ln, Hid (r.line = ln) := ⟨_, Lib.hid rfl⟩
  have HX := Lib.hid hx
  have HA := Lib.hid ha
  have HB := Lib.hid hb
  clear hx ha hb
  go_enter Tryz.func26, Tryz.ntmps26
  go_upto_region 1 with (fail)
  refine wp_region_phase (n := 11) 10 (fun w => w.cell? ⟨B, 4, none⟩ = some (.int .i64 ol) ∧ w.cell? ⟨B, 5, none⟩ = some (.int .i64 ln)) rfl (by kernel_rfl) ⟨by rw [← H1.out]; exact S.at 4 fun _ => rfl, by rw [← H2.out]; exact S.at 5 fun _ => rfl⟩ (fun hHeld => ?_)
  replace S := S.drew
  generalize w.drew = w2 at *
  refine za 0 rfl ?_
  refine za 1 rfl ?_
  refine za 2 rfl ?_
  refine za 3 rfl ?_
  refine zt 4 rfl ?_
  refine za 5 rfl ?_
  refine za 6 rfl ?_
  refine za 7 rfl ?_
  refine za 8 rfl ?_
  refine zt 9 rfl ?_
  refine mpc 10 rfl (by kernel_rfl) (by rfl) (fun K hK => ?_)
  go_simp
  refine hK.out _ _ (.inl (by kernel_rfl)) ?_
  clear hK K hHeld
  refine wpAnyP_done (by kernel_rfl) ?_ _
  by_cases o1 : ol = 1
  · rcases o1 with rfl
    by_cases g : ln = 0
    · rcases g with rfl
      go_wp2_with fail
      refine run1 (r' := r.pf) (come_run S HX.out) (by unfold LS.pf; rw [H1.out, H2.out]; rfl) fun w3 H => ?_
      go_wp2
      go_returns
      exact H.out
    by_cases g : ln = 1
    · rcases g with rfl
      go_wp2_with fail
      refine run1 (r' := r.pf) (left_run S HX.out HA.out) (by unfold LS.pf; rw [H1.out, H2.out]; rfl) fun w3 H => ?_
      go_wp2
      go_returns
      exact H.out
    go_wp2_with fail
    refine run1 (r' := r.pf) (pf_to S HX.out HA.out HB.out (fun _ => pf_is0 (by rw [H1.out, H2.out]; exact (by unfold pfCase; repeat (first | rw [if_neg (by omega)]))))) (rfl) fun w3 H => ?_
    go_wp2
    go_returns
    exact H.out
  by_cases o2 : ol = 2
  · rcases o2 with rfl
    by_cases g : ln = 0
    · rcases g with rfl
      go_wp2_with fail
      refine run1 (r' := r.pf) (depart_run S) (by unfold LS.pf; rw [H1.out, H2.out]; rfl) fun w3 H => ?_
      go_wp2
      go_returns
      exact H.out
    go_wp2_with fail
    refine run1 (r' := r.pf) (pf_to S HX.out HA.out HB.out (fun _ => pf_is0 (by rw [H1.out, H2.out]; exact (by unfold pfCase; repeat (first | rw [if_neg (by omega)]))))) (rfl) fun w3 H => ?_
    go_wp2
    go_returns
    exact H.out
  by_cases o3 : ol = 3
  · rcases o3 with rfl
    by_cases g : ln = 0
    · rcases g with rfl
      go_wp2_with fail
      refine run1 (r' := r.pf) (draw_run S) (by unfold LS.pf; rw [H1.out, H2.out]; rfl) fun w3 H => ?_
      go_wp2
      go_returns
      exact H.out
    by_cases g : ln = 1
    · rcases g with rfl
      go_wp2_with fail
      refine run1 (r' := r.pf) (turn_run S HX.out) (by unfold LS.pf; rw [H1.out, H2.out]; rfl) fun w3 H => ?_
      go_wp2
      go_returns
      exact H.out
    by_cases g : ln = 2
    · rcases g with rfl
      go_wp2_with fail
      refine run1 (r' := r.pf) (keep_run 3 S) (by unfold LS.pf; rw [H1.out, H2.out]; rfl) fun w3 H => ?_
      go_wp2
      go_returns
      exact H.out
    by_cases g : ln = 3
    · rcases g with rfl
      go_wp2_with fail
      refine run1 (r' := r.pf) (appear_run 4 S HB.out) (by unfold LS.pf; rw [H1.out, H2.out]; rfl) fun w3 H => ?_
      go_wp2
      go_returns
      exact H.out
    by_cases g : ln = 4
    · rcases g with rfl
      go_wp2_with fail
      refine run1 (r' := r.pf) (readers_run S HX.out) (by unfold LS.pf; rw [H1.out, H2.out]; rfl) fun w3 H => ?_
      go_wp2
      go_returns
      exact H.out
    go_wp2_with fail
    refine run1 (r' := r.pf) (pf_to S HX.out HA.out HB.out (fun _ => pf_is0 (by rw [H1.out, H2.out]; exact (by unfold pfCase; repeat (first | rw [if_neg (by omega)]))))) (rfl) fun w3 H => ?_
    go_wp2
    go_returns
    exact H.out
  by_cases o4 : ol = 4
  · rcases o4 with rfl
    by_cases g : ln = 0
    · rcases g with rfl
      go_wp2_with fail
      refine run1 (r' := r.pf) (keep_run 1 S) (by unfold LS.pf; rw [H1.out, H2.out]; rfl) fun w3 H => ?_
      go_wp2
      go_returns
      exact H.out
    by_cases g : ln = 1
    · rcases g with rfl
      go_wp2_with fail
      refine run1 (r' := r.pf) (vanish_run 0 7 S HB.out) (by unfold LS.pf; rw [H1.out, H2.out]; rfl) fun w3 H => ?_
      go_wp2
      go_returns
      exact H.out
    by_cases g : ln = 2
    · rcases g with rfl
      go_wp2_with fail
      refine run1 (r' := r.pf) (count_run S) (by unfold LS.pf; rw [H1.out, H2.out]; rfl) fun w3 H => ?_
      go_wp2
      go_returns
      exact H.out
    by_cases g : ln = 3
    · rcases g with rfl
      go_wp2_with fail
      refine run1 (r' := r.pf) (pass_run true S) (by unfold LS.pf; rw [H1.out, H2.out]; rfl) fun w3 H => ?_
      go_wp2
      go_returns
      exact H.out
    go_wp2_with fail
    refine run1 (r' := r.pf) (pf_to S HX.out HA.out HB.out (fun _ => pf_is0 (by rw [H1.out, H2.out]; exact (by unfold pfCase; repeat (first | rw [if_neg (by omega)]))))) (rfl) fun w3 H => ?_
    go_wp2
    go_returns
    exact H.out
  by_cases o5 : ol = 5
  · rcases o5 with rfl
    by_cases g : ln = 0
    · rcases g with rfl
      go_wp2_with fail
      refine run1 (r' := r.pf) (lookIn_run S HX.out) (by unfold LS.pf; rw [H1.out, H2.out]; rfl) fun w3 H => ?_
      go_wp2
      go_returns
      exact H.out
    by_cases g : ln = 1
    · rcases g with rfl
      go_wp2_with fail
      refine run1 (r' := r.pf) (slip_run S) (by unfold LS.pf; rw [H1.out, H2.out]; rfl) fun w3 H => ?_
      go_wp2
      go_returns
      exact H.out
    go_wp2_with fail
    refine run1 (r' := r.pf) (pf_to S HX.out HA.out HB.out (fun _ => pf_is0 (by rw [H1.out, H2.out]; exact (by unfold pfCase; repeat (first | rw [if_neg (by omega)]))))) (rfl) fun w3 H => ?_
    go_wp2
    go_returns
    exact H.out
  by_cases o8 : ol = 8
  · rcases o8 with rfl
    by_cases g : ln = 0
    · rcases g with rfl
      go_wp2_with fail
      refine run1 (r' := r.pf) (keep_run 1 S) (by unfold LS.pf; rw [H1.out, H2.out]; rfl) fun w3 H => ?_
      go_wp2
      go_returns
      exact H.out
    by_cases g : ln = 1
    · rcases g with rfl
      go_wp2_with fail
      refine run1 (r' := r.pf) (vanish_run 256 10 S HB.out) (by unfold LS.pf; rw [H1.out, H2.out]; rfl) fun w3 H => ?_
      go_wp2
      go_returns
      exact H.out
    by_cases g : ln = 2
    · rcases g with rfl
      go_wp2_with fail
      refine run1 (r' := r.pf) (count_run S) (by unfold LS.pf; rw [H1.out, H2.out]; rfl) fun w3 H => ?_
      go_wp2
      go_returns
      exact H.out
    by_cases g : ln = 3
    · rcases g with rfl
      go_wp2_with fail
      refine run1 (r' := r.pf) (pass_run true S) (by unfold LS.pf; rw [H1.out, H2.out]; rfl) fun w3 H => ?_
      go_wp2
      go_returns
      exact H.out
    go_wp2_with fail
    refine run1 (r' := r.pf) (pf_to S HX.out HA.out HB.out (fun _ => pf_is0 (by rw [H1.out, H2.out]; exact (by unfold pfCase; repeat (first | rw [if_neg (by omega)]))))) (rfl) fun w3 H => ?_
    go_wp2
    go_returns
    exact H.out
  go_wp2_with fail
  refine run1 (r' := r.pf) (pf_to S HX.out HA.out HB.out (fun ho => pf_is0 (by rw [H1.out] at ho; rw [H1.out, H2.out]; exact (by unfold pfCase; repeat (first | rw [if_neg (by omega)]))))) (rfl) fun w3 H => ?_
  go_wp2
  go_returns
  exact H.out
end
end Go.Proofs.YtigdbokfapedcaaGreat
