/- WfLo. -/
import Derived.Test.YtigdbokfapedcaaGreatB46
/- wf.Lines, the program's: which line it is. -/
set_option linter.unusedVariables false
set_option linter.unusedSimpArgs false
namespace Go.Proofs.YtigdbokfapedcaaGreat
open Go.RowKit
section
variable {B : Nat} {p A : Option Addr} {cp : Nat} {r : LS} {w0 w : World}
set_option maxRecDepth 100000 in
set_option maxHeartbeats 40000000 in
theorem wf_lo (S : St w0 B p A cp [] 900 r w) (hx : Words r.xs) (ha : 0 ≤ r.a ∧ r.a < 4294967296) : Calls Tryz.prog 30 #[Value.pointer (some ⟨B, 0, none⟩)] w (Done B p A cp w0 (.tuple #[]) r.wf) := by
  obtain ⟨ol, H1⟩ : ∃ ol, Hid (r.op = ol) := ⟨_, Lib.hid rfl⟩
  obtain ⟨ln, H2⟩ : ∃ ln, Hid (r.line = ln) := ⟨_, Lib.hid rfl⟩
  have HX := Lib.hid hx
  have HA := Lib.hid ha
  clear hx ha
  go_enter Tryz.func30, Tryz.ntmps30
  go_upto_region 1 with (fail)
  refine wp_region_phase (n := 11) 10 (fun w => w.cell? ⟨B, 4, none⟩ = some (.int .i64 ol) ∧ w.cell? ⟨B, 5, none⟩ = some (.int .i64 ln)) rfl (by kernel_rfl) ⟨by rw [← H1.out]; exact S.at 4 fun _ => rfl, by rw [← H2.out]; exact S.at 5 fun _ => rfl⟩ (fun hHeld => ?_)
  replace S := S.drew
  generalize w.drew = w2 at *
  refine za 0 rfl ?_
  refine za 1 rfl ?_
  refine za 2 rfl ?_
  refine za 3 rfl ?_
  refine zt 4 rfl ?_
  refine za 5 rfl ?_
  refine za 6 rfl ?_
  refine za 7 rfl ?_
  refine za 8 rfl ?_
  refine zt 9 rfl ?_
  refine mpc 10 rfl (by kernel_rfl) (by rfl) (fun K hK => ?_)
  go_simp
  refine hK.out _ _ (.inl (by kernel_rfl)) ?_
  clear hK K hHeld
  refine wpAnyP_done (by kernel_rfl) ?_ _
  by_cases o1 : ol = 1
  · rcases o1 with rfl
    by_cases g : ln = 0
    · rcases g with rfl
      go_wp2_with fail
      refine S.call (fun nv h => glook_run (st_new h S.len (rows_nil _) asides_nil) HX.out) (m' := 900) (by unfold LS.gSee; split <;> exact S.len) fun w S => ?_
      go_wp2_with fail
      refine xNote S fun w S => ?_
      go_wp2
      go_returns
      exact S.fit (by unfold LS.wf; rw [H1.out, H2.out]; show r.gSee true = _; unfold LS.gSee; cases freeW (wordAt r.xs 0) <;> rfl)
    by_cases g : ln = 1
    · rcases g with rfl
      go_wp2_with fail
      obtain ⟨q, hq⟩ : ∃ q, r.at0 r.a = q := ⟨_, rfl⟩
      have HQ := Lib.hid hq
      refine S.call (fun nv h => gclaim_run 1 3 q (st_new h S.len (rows_nil _) asides_nil) hq) (m' := 900) (by unfold LS.gClaim; split <;> exact S.len) fun w S => ?_
      clear hq
      cases q
      · skip
        go_wp2
        go_returns
        exact S.fit (by unfold LS.wf; rw [H1.out, H2.out]; show r.gTake = _; unfold LS.gTake LS.gClaim; rw [if_neg (by rw [HQ.out]; decide), if_neg (by rw [HQ.out]; decide)])
      · rw [show r.gClaim 1 3 = (r.gCas 1).fin true by unfold LS.gClaim; exact ite_t HQ.out] at S
        go_wp2_with fail
        refine xNote S fun w S => ?_
        go_wp2
        go_returns
        exact S.fit (by unfold LS.wf; rw [H1.out, H2.out]; show r.gTake = _; unfold LS.gTake; rw [if_pos HQ.out]; rfl)
    by_cases g : ln = 2
    · rcases g with rfl
      go_wp2_with fail
      refine run1 (r' := r.wf) (nowriter_run S HX.out) (by unfold LS.wf; rw [H1.out, H2.out]; rfl) fun w3 H => ?_
      go_wp2
      go_returns
      exact H.out
    by_cases g : ln = 3
    · rcases g with rfl
      go_wp2_with fail
      refine run1 (r' := r.wf) (glook_run S HX.out) (by unfold LS.wf; rw [H1.out, H2.out]; rfl) fun w3 H => ?_
      go_wp2
      go_returns
      exact H.out
    go_wp2_with fail
    refine run1 (r' := r.wf) (wf_to S HX.out HA.out (fun _ => wf_is0 (by rw [H1.out, H2.out]; exact (by unfold wfCase; repeat (first | rw [if_neg (by omega)]))))) (rfl) fun w3 H => ?_
    go_wp2
    go_returns
    exact H.out
  by_cases o2 : ol = 2
  · rcases o2 with rfl
    by_cases g : ln = 0
    · rcases g with rfl
      go_wp2_with fail
      obtain ⟨nv, hp⟩ := S.run
      refine run1 (r' := r.wf) (change_run (4294967295) _ ([6]) (S.keep ((Only.refl Nil w2).alloc _)) (whats_1 hp 6) (by decide)) (by unfold LS.wf; rw [H1.out, H2.out]; rfl) fun w3 H => ?_
      go_wp2
      go_returns
      exact H.out
    go_wp2_with fail
    refine run1 (r' := r.wf) (wf_to S HX.out HA.out (fun _ => wf_is0 (by rw [H1.out, H2.out]; exact (by unfold wfCase; repeat (first | rw [if_neg (by omega)]))))) (rfl) fun w3 H => ?_
    go_wp2
    go_returns
    exact H.out
  by_cases o3 : ol = 3
  · rcases o3 with rfl
    by_cases g : ln = 0
    · rcases g with rfl
      go_wp2_with fail
      refine run1 (r' := r.wf) (gdraw_run S) (by unfold LS.wf; rw [H1.out, H2.out]; rfl) fun w3 H => ?_
      go_wp2
      go_returns
      exact H.out
    by_cases g : ln = 1
    · rcases g with rfl
      go_wp2_with fail
      refine run1 (r' := r.wf) (myturn_run S HX.out HA.out) (by unfold LS.wf; rw [H1.out, H2.out]; rfl) fun w3 H => ?_
      go_wp2
      go_returns
      exact H.out
    go_wp2_with fail
    refine run1 (r' := r.wf) (wf_to S HX.out HA.out (fun _ => wf_is0 (by rw [H1.out, H2.out]; exact (by unfold wfCase; repeat (first | rw [if_neg (by omega)]))))) (rfl) fun w3 H => ?_
    go_wp2
    go_returns
    exact H.out
  by_cases o4 : ol = 4
  · rcases o4 with rfl
    by_cases g : ln = 0
    · rcases g with rfl
      go_wp2_with fail
      refine run1 (r' := r.wf) (gkeep_run S) (by unfold LS.wf; rw [H1.out, H2.out]; rfl) fun w3 H => ?_
      go_wp2
      go_returns
      exact H.out
    by_cases g : ln = 1
    · rcases g with rfl
      go_wp2_with fail
      refine (turnOn_run S HA.out).mono ?_
      rintro e w2 ⟨rfl, S⟩
      go_wp2_with fail
      obtain ⟨nv, hp⟩ := S.run
      refine run1 (r' := r.wf) (change_run (nextO r.a) _ ([7, 8]) (S.keep ((Only.refl Nil w2).alloc _)) (whats_2 hp 7 8) (by decide)) (by unfold LS.wf; rw [H1.out, H2.out]; rfl) fun w3 H => ?_
      go_wp2
      go_returns
      exact H.out
    go_wp2_with fail
    refine run1 (r' := r.wf) (wf_to S HX.out HA.out (fun _ => wf_is0 (by rw [H1.out, H2.out]; exact (by unfold wfCase; repeat (first | rw [if_neg (by omega)]))))) (rfl) fun w3 H => ?_
    go_wp2
    go_returns
    exact H.out
  by_cases o8 : ol = 8
  · rcases o8 with rfl
    by_cases g : ln = 0
    · rcases g with rfl
      go_wp2_with fail
      refine run1 (r' := r.wf) (gkeep_run S) (by unfold LS.wf; rw [H1.out, H2.out]; rfl) fun w3 H => ?_
      go_wp2
      go_returns
      exact H.out
    by_cases g : ln = 1
    · rcases g with rfl
      go_wp2_with fail
      refine (turnOn_run S HA.out).mono ?_
      rintro e w2 ⟨rfl, S⟩
      have hx1 : IntKind.u32.wrap (nextO r.a + 1) = (nextO r.a + 1) % 4294967296 := rfl
      go_wp2_with fail
      obtain ⟨nv, hp⟩ := S.run
      refine run1 (r' := r.wf) (change_run ((nextO r.a + 1) % 4294967296) _ ([10]) (S.keep ((Only.refl Nil w2).alloc _)) (whats_1 hp 10) (by decide)) (by unfold LS.wf; rw [H1.out, H2.out]; rfl) fun w3 H => ?_
      go_wp2
      go_returns
      exact H.out
    go_wp2_with fail
    refine run1 (r' := r.wf) (wf_to S HX.out HA.out (fun _ => wf_is0 (by rw [H1.out, H2.out]; exact (by unfold wfCase; repeat (first | rw [if_neg (by omega)]))))) (rfl) fun w3 H => ?_
    go_wp2
    go_returns
    exact H.out
  go_wp2_with fail
  refine run1 (r' := r.wf) (wf_to S HX.out HA.out (fun ho => wf_is0 (by rw [H1.out] at ho; rw [H1.out, H2.out]; exact (by unfold wfCase; repeat (first | rw [if_neg (by omega)]))))) (rfl) fun w3 H => ?_
  go_wp2
  go_returns
  exact H.out
end
end Go.Proofs.YtigdbokfapedcaaGreat
