/- WfTo. -/
import Derived.Test.YtigdbokfapedcaaGreatB45
/- wf.tries, the program's: which line it is. -/
set_option linter.unusedVariables false
set_option linter.unusedSimpArgs false
namespace Go.Proofs.YtigdbokfapedcaaGreat
open Go.RowKit
section
variable {B : Nat} {p A : Option Addr} {cp : Nat} {r : LS} {w0 w : World}
theorem wf_is0 {r : LS} (h : wfCase r.op r.line = 0) : r.wf = r := by unfold LS.wf; rw [h]; rfl
set_option maxRecDepth 100000 in
set_option maxHeartbeats 40000000 in
theorem wf_to (S : St w0 B p A cp [] 900 r w) (hx : Words r.xs) (ha : 0 ≤ r.a ∧ r.a < 4294967296) (hno : r.op ≠ 5 ∧ r.op ≠ 6 ∧ r.op ≠ 7 → r.wf = r) : Calls Tryz.prog 71 #[Value.pointer (some ⟨B, 0, none⟩)] w (Done B p A cp w0 (.tuple #[]) r.wf) := by
  obtain ⟨ol, H1⟩ : ∃ ol, Hid (r.op = ol) := ⟨_, Lib.hid rfl⟩
  obtain ⟨ln, H2⟩ : ∃ ln, Hid (r.line = ln) := ⟨_, Lib.hid rfl⟩
  have HX := Lib.hid hx
  have HA := Lib.hid ha
  clear hx ha
  go_enter Tryz.func71, Tryz.ntmps71
  go_upto_region 0 with (fail)
  refine wp_region_phase (n := 11) 10 (fun w => w.cell? ⟨B, 4, none⟩ = some (.int .i64 ol) ∧ w.cell? ⟨B, 5, none⟩ = some (.int .i64 ln)) rfl (by kernel_rfl) ⟨by rw [← H1.out]; exact S.at 4 fun _ => rfl, by rw [← H2.out]; exact S.at 5 fun _ => rfl⟩ (fun hHeld => ?_)
  replace S := S.drew
  generalize w.drew = w2 at *
  refine za 0 rfl ?_
  refine za 1 rfl ?_
  refine za 2 rfl ?_
  refine za 3 rfl ?_
  refine zt 4 rfl ?_
  refine za 5 rfl ?_
  refine za 6 rfl ?_
  refine za 7 rfl ?_
  refine za 8 rfl ?_
  refine zt 9 rfl ?_
  refine mpc 10 rfl (by kernel_rfl) (by rfl) (fun K hK => ?_)
  go_simp
  refine hK.out _ _ (.inl (by kernel_rfl)) ?_
  clear hK K hHeld
  refine wpAnyP_done (by kernel_rfl) ?_ _
  by_cases o5 : ol = 5
  · rcases o5 with rfl
    by_cases g : ln = 0
    · rcases g with rfl
      go_wp2_with fail
      refine run1 (r' := r.wf) (weigh_run 152 enters_nw freeW gasks_free S HX.out) (by unfold LS.wf; rw [H1.out, H2.out]; rfl) fun w3 H => ?_
      go_wp2
      go_returns
      exact H.out
    by_cases g : ln = 1
    · rcases g with rfl
      go_wp2_with fail
      obtain ⟨q, hq⟩ : ∃ q, r.at0 r.a = q := ⟨_, rfl⟩
      have HQ := Lib.hid hq
      refine S.call (fun nv h => gclaim_run 1 0 q (st_new h S.len (rows_nil _) asides_nil) hq) (m' := 900) (by unfold LS.gClaim; split <;> exact S.len) fun w S => ?_
      clear hq
      cases q
      · skip
        go_wp2
        go_returns
        exact S.fit (by unfold LS.wf; rw [H1.out, H2.out]; show r.gSlip = _; unfold LS.gSlip LS.gClaim; rw [if_neg (by rw [HQ.out]; decide), if_neg (by rw [HQ.out]; decide)])
      · rw [show r.gClaim 1 0 = (r.gCas 1).fin true by unfold LS.gClaim; exact ite_t HQ.out] at S
        go_wp2_with fail
        refine run1 (r' := r.wf) (enter_st 1 ⟨S.only, S.rows, S.aside, S.run, Nat.le_succ_of_le S.len⟩) (by unfold LS.wf; rw [H1.out, H2.out]; show r.gSlip = _; unfold LS.gSlip; rw [if_pos HQ.out]; rfl) fun w3 H => ?_
        go_wp2
        go_returns
        exact H.out
    go_wp2
    go_returns
    exact S.fit (wf_is0 (by rw [H1.out, H2.out]; exact (by unfold wfCase; repeat (first | rw [if_neg (by omega)]))))
  by_cases o6 : ol = 6
  · rcases o6 with rfl
    by_cases g : ln = 0
    · rcases g with rfl
      go_wp2_with fail
      refine run1 (r' := r.wf) (weigh_run 160 enters_t1 (fun v => freeW v && rF v == 0) asks_none S HX.out) (by unfold LS.wf; rw [H1.out, H2.out]; rfl) fun w3 H => ?_
      go_wp2
      go_returns
      exact H.out
    by_cases g : ln = 1
    · rcases g with rfl
      go_wp2_with fail
      obtain ⟨q, hq⟩ : ∃ q, r.at0 r.a = q := ⟨_, rfl⟩
      have HQ := Lib.hid hq
      refine S.call (fun nv h => gclaim_run 65536 0 q (st_new h S.len (rows_nil _) asides_nil) hq) (m' := 900) (by unfold LS.gClaim; split <;> exact S.len) fun w S => ?_
      clear hq
      cases q
      · skip
        go_wp2
        go_returns
        exact S.fit (by unfold LS.wf; rw [H1.out, H2.out]; show r.gTry = _; unfold LS.gTry LS.gClaim; rw [if_neg (by rw [HQ.out]; decide), if_neg (by rw [HQ.out]; decide)])
      · rw [show r.gClaim 65536 0 = (r.gCas 65536).fin true by unfold LS.gClaim; exact ite_t HQ.out] at S
        go_wp2_with fail
        refine run1 (r' := r.wf) (enter_st 2 ⟨S.only, S.rows, S.aside, S.run, Nat.le_succ_of_le S.len⟩) (by unfold LS.wf; rw [H1.out, H2.out]; show r.gTry = _; unfold LS.gTry; rw [if_pos HQ.out]; rfl) fun w3 H => ?_
        go_wp2
        go_returns
        exact H.out
    go_wp2
    go_returns
    exact S.fit (wf_is0 (by rw [H1.out, H2.out]; exact (by unfold wfCase; repeat (first | rw [if_neg (by omega)]))))
  by_cases o7 : ol = 7
  · rcases o7 with rfl
    by_cases g : ln = 0
    · rcases g with rfl
      go_wp2_with fail
      refine run1 (r' := r.wf) (weigh_run 161 enters_t2 (fun v => freeW v && rF v == 1) asks_sole S HX.out) (by unfold LS.wf; rw [H1.out, H2.out]; rfl) fun w3 H => ?_
      go_wp2
      go_returns
      exact H.out
    by_cases g : ln = 1
    · rcases g with rfl
      go_wp2_with fail
      obtain ⟨q, hq⟩ : ∃ q, r.at0 r.a = q := ⟨_, rfl⟩
      have HQ := Lib.hid hq
      refine S.call (fun nv h => gclaim_run 65535 0 q (st_new h S.len (rows_nil _) asides_nil) hq) (m' := 900) (by unfold LS.gClaim; split <;> exact S.len) fun w S => ?_
      clear hq
      cases q
      · skip
        go_wp2
        go_returns
        exact S.fit (by unfold LS.wf; rw [H1.out, H2.out]; show r.gUp = _; unfold LS.gUp LS.gClaim; rw [if_neg (by rw [HQ.out]; decide), if_neg (by rw [HQ.out]; decide)])
      · rw [show r.gClaim 65535 0 = (r.gCas 65535).fin true by unfold LS.gClaim; exact ite_t HQ.out] at S
        go_wp2_with fail
        refine xNote S fun w S => ?_
        go_wp2
        go_returns
        exact S.fit (by unfold LS.wf; rw [H1.out, H2.out]; show r.gUp = _; unfold LS.gUp; rw [if_pos HQ.out]; rfl)
    go_wp2
    go_returns
    exact S.fit (wf_is0 (by rw [H1.out, H2.out]; exact (by unfold wfCase; repeat (first | rw [if_neg (by omega)]))))
  go_wp2
  go_returns
  exact S.fit (hno ⟨by rw [H1.out]; exact o5, by rw [H1.out]; exact o6, by rw [H1.out]; exact o7⟩)
end
end Go.Proofs.YtigdbokfapedcaaGreat
