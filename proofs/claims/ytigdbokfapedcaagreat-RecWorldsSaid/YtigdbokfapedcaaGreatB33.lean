/- PqSo. -/
import Derived.Test.YtigdbokfapedcaaGreatB32
import Derived.Test.YtigdbokfapedcaaGreatB30
import Derived.Test.YtigdbokfapedcaaGreatB15
/- pq.stepOf, the program's: which line it is. -/
set_option linter.unusedVariables false
set_option linter.unusedSimpArgs false
namespace Go.Proofs.YtigdbokfapedcaaGreat
open Go.RowKit
set_option maxRecDepth 100000 in
set_option maxHeartbeats 40000000 in
theorem pq_so (B : Nat) (p A : Option Addr) (cp : Nat) (nv : Value) (r : LS) (w : World) (h : RunP w B p A cp nv r) (hl : r.ns.length ≤ 900) (hx : Words r.xs) (ha : 0 ≤ r.a ∧ r.a < 4294967296) (hb : 0 ≤ r.b ∧ r.b < 4294967296) : Calls Tryz.prog 59 #[Value.pointer (some ⟨B, 0, none⟩)] w (ClS [196, 197, 199, 200, 202, 204, 205, 206, 263, 264, 265, 266, 268] B p A cp r r.pq w) := by
  obtain ⟨ol, H1⟩ : ∃ ol, Hid (r.op = ol) := ⟨_, Lib.hid rfl⟩
  obtain ⟨ln, H2⟩ : ∃ ln, Hid (r.line = ln) := ⟨_, Lib.hid rfl⟩
  have HX := Lib.hid hx
  have HL := Lib.hid hl
  have HA := Lib.hid ha
  have HB := Lib.hid hb
  have HP := Lib.hid h
  have c4 : w.cell? ⟨B, 4, none⟩ = some (.int .i64 ol) := by rw [← H1.out]; exact HP.out.row.cell_ (i := 4) rfl
  have c5 : w.cell? ⟨B, 5, none⟩ = some (.int .i64 ln) := by rw [← H2.out]; exact HP.out.row.cell_ (i := 5) rfl
  clear h hl hx ha hb
  go_enter Tryz.func59, Tryz.ntmps59
  go_upto_region 1 with (fail)
  refine wp_region_phase (n := 11) 10 (fun w => w.cell? ⟨B, 4, none⟩ = some (.int .i64 ol) ∧ w.cell? ⟨B, 5, none⟩ = some (.int .i64 ln)) rfl (by kernel_rfl) ⟨c4, c5⟩ (fun hHeld => ?_)
  clear c4 c5
  have HP1 := Lib.hid (HP.out.keep (Only.refl Nil w).drew)
  have HO1 := Lib.hid (Only.refl Nil w).drew
  clear HP
  generalize w.drew = w2 at *
  refine za 0 rfl ?_
  refine za 1 rfl ?_
  refine za 2 rfl ?_
  refine za 3 rfl ?_
  refine zt 4 rfl ?_
  refine za 5 rfl ?_
  refine za 6 rfl ?_
  refine za 7 rfl ?_
  refine za 8 rfl ?_
  refine zt 9 rfl ?_
  refine mpc 10 rfl (by kernel_rfl) (by rfl) (fun K hK => ?_)
  go_simp
  refine hK.out _ _ (.inl (by kernel_rfl)) ?_
  clear hK K hHeld
  refine wpAnyP_done (by kernel_rfl) ?_ _
  by_cases o1 : ol = 1
  · rcases o1 with rfl
    by_cases g : ln = 0 ∨ ln = 1
    · rcases g with rfl | rfl
      all_goals
        go_wp2_with fail
        refine arm (FS := [196, 197, 199, 200, 202, 204, 205, 206, 263, 264, 265, 266, 268]) (r := r) (r' := r.pq) (read_make r.pf HP1.out HL.out (fun w' nv h' => pf_lines B p A cp nv r w' h' HL.out HX.out HA.out HB.out)) HO1.out (by unfold LS.pq LS.pf; rw [H1.out, H2.out]; rfl) (by decide) fun caps w3 H => ?_
        go_wp2
        go_ret
        exact H.out
    go_wp2_with fail
    refine passed (pq_to B p A cp nv r _ HP1.out HL.out HX.out HA.out HB.out (fun _ => (pq_is0 (by rw [H1.out, H2.out]; exact (by unfold pqCase; repeat (first | rw [if_neg (by omega)])))))) HO1.out (fun F caps w3 H => ?_) fun w3 H => ?_
    all_goals
      go_wp2
      go_ret
      exact H.out
  by_cases o2 : ol = 2
  · rcases o2 with rfl
    by_cases g : ln = 0
    · rcases g with rfl
      go_wp2_with fail
      refine arm (FS := [196, 197, 199, 200, 202, 204, 205, 206, 263, 264, 265, 266, 268]) (r := r) (r' := r.pq) (read_make r.pf HP1.out HL.out (fun w' nv h' => pf_lines B p A cp nv r w' h' HL.out HX.out HA.out HB.out)) HO1.out (by unfold LS.pq LS.pf; rw [H1.out, H2.out]; rfl) (by decide) fun caps w3 H => ?_
      go_wp2
      go_ret
      exact H.out
    go_wp2_with fail
    refine passed (pq_to B p A cp nv r _ HP1.out HL.out HX.out HA.out HB.out (fun _ => (pq_is0 (by rw [H1.out, H2.out]; exact (by unfold pqCase; repeat (first | rw [if_neg (by omega)])))))) HO1.out (fun F caps w3 H => ?_) fun w3 H => ?_
    all_goals
      go_wp2
      go_ret
      exact H.out
  by_cases o3 : ol = 3
  · rcases o3 with rfl
    by_cases g : ln = 0 ∨ ln = 1 ∨ ln = 2 ∨ ln = 3 ∨ ln = 4
    · rcases g with rfl | rfl | rfl | rfl | rfl
      all_goals
        go_wp2_with fail
        refine arm (FS := [196, 197, 199, 200, 202, 204, 205, 206, 263, 264, 265, 266, 268]) (r := r) (r' := r.pq) (wenter_make HP1.out HL.out HX.out HA.out) HO1.out (by unfold LS.pq; rw [H1.out, H2.out]; rfl) (by decide) fun caps w3 H => ?_
        go_wp2
        go_ret
        exact H.out
    by_cases g : ln = 5
    · rcases g with rfl
      go_wp2_with fail
      refine arm (FS := [196, 197, 199, 200, 202, 204, 205, 206, 263, 264, 265, 266, 268]) (r := r) (r' := r.pq) (wkeep_make 6 HP1.out HL.out) HO1.out (by unfold LS.pq; rw [H1.out, H2.out]; rfl) (by decide) fun caps w3 H => ?_
      go_wp2
      go_ret
      exact H.out
    by_cases g : ln = 6
    · rcases g with rfl
      go_wp2_with fail
      refine arm (FS := [196, 197, 199, 200, 202, 204, 205, 206, 263, 264, 265, 266, 268]) (r := r) (r' := r.pq) (wapp_make 7 HP1.out HL.out HB.out) HO1.out (by unfold LS.pq; rw [H1.out, H2.out]; rfl) (by decide) fun caps w3 H => ?_
      go_wp2
      go_ret
      exact H.out
    by_cases g : ln = 7
    · rcases g with rfl
      go_wp2_with fail
      refine arm (FS := [196, 197, 199, 200, 202, 204, 205, 206, 263, 264, 265, 266, 268]) (r := r) (r' := r.pq) (wread_make HP1.out HL.out HX.out) HO1.out (by unfold LS.pq; rw [H1.out, H2.out]; rfl) (by decide) fun caps w3 H => ?_
      go_wp2
      go_ret
      exact H.out
    go_wp2_with fail
    refine passed (pq_to B p A cp nv r _ HP1.out HL.out HX.out HA.out HB.out (fun _ => (pq_is0 (by rw [H1.out, H2.out]; exact (by unfold pqCase; repeat (first | rw [if_neg (by omega)])))))) HO1.out (fun F caps w3 H => ?_) fun w3 H => ?_
    all_goals
      go_wp2
      go_ret
      exact H.out
  by_cases o4 : ol = 4
  · rcases o4 with rfl
    by_cases g : ln = 0
    · rcases g with rfl
      go_wp2_with fail
      refine arm (FS := [196, 197, 199, 200, 202, 204, 205, 206, 263, 264, 265, 266, 268]) (r := r) (r' := r.pq) (wkeep_make 1 HP1.out HL.out) HO1.out (by unfold LS.pq; rw [H1.out, H2.out]; rfl) (by decide) fun caps w3 H => ?_
      go_wp2
      go_ret
      exact H.out
    by_cases g : ln = 1
    · rcases g with rfl
      go_wp2_with fail
      refine arm (FS := [196, 197, 199, 200, 202, 204, 205, 206, 263, 264, 265, 266, 268]) (r := r) (r' := r.pq) (wvan_make 0 7 HP1.out HL.out HB.out) HO1.out (by unfold LS.pq; rw [H1.out, H2.out]; rfl) (by decide) fun caps w3 H => ?_
      go_wp2
      go_ret
      exact H.out
    by_cases g : ln = 2
    · rcases g with rfl
      go_wp2_with fail
      refine arm (FS := [196, 197, 199, 200, 202, 204, 205, 206, 263, 264, 265, 266, 268]) (r := r) (r' := r.pq) (wcnt_make HP1.out HL.out) HO1.out (by unfold LS.pq; rw [H1.out, H2.out]; rfl) (by decide) fun caps w3 H => ?_
      go_wp2
      go_ret
      exact H.out
    by_cases g : ln = 3 ∨ ln = 4 ∨ ln = 5 ∨ ln = 6
    · rcases g with rfl | rfl | rfl | rfl
      all_goals
        go_wp2_with fail
        refine arm (FS := [196, 197, 199, 200, 202, 204, 205, 206, 263, 264, 265, 266, 268]) (r := r) (r' := r.pq) (wgive_make 3 true HP1.out HL.out HX.out HA.out (by decide) (by decide)) HO1.out (by unfold LS.pq; rw [H1.out, H2.out]; rfl) (by decide) fun caps w3 H => ?_
        go_wp2
        go_ret
        exact H.out
    go_wp2_with fail
    refine passed (pq_to B p A cp nv r _ HP1.out HL.out HX.out HA.out HB.out (fun _ => (by unfold LS.pq; rw [H1.out, H2.out, show pqCase 4 ln = 14 from (by unfold pqCase; repeat (first | rw [if_neg (by omega)] | rw [if_pos (by omega)]))]; exact wGive_no (a := 3) (by rw [H2.out]; omega) (by rw [H2.out]; omega) (by rw [H2.out]; omega) (by rw [H2.out]; omega)))) HO1.out (fun F caps w3 H => ?_) fun w3 H => ?_
    all_goals
      go_wp2
      go_ret
      exact H.out
  by_cases o5 : ol = 5
  · rcases o5 with rfl
    by_cases g : ln = 0 ∨ ln = 1
    · rcases g with rfl | rfl
      all_goals
        go_wp2_with fail
        refine arm (FS := [196, 197, 199, 200, 202, 204, 205, 206, 263, 264, 265, 266, 268]) (r := r) (r' := r.pq) (read_make r.pf HP1.out HL.out (fun w' nv h' => pf_lines B p A cp nv r w' h' HL.out HX.out HA.out HB.out)) HO1.out (by unfold LS.pq LS.pf; rw [H1.out, H2.out]; rfl) (by decide) fun caps w3 H => ?_
        go_wp2
        go_ret
        exact H.out
    go_wp2_with fail
    refine passed (pq_to B p A cp nv r _ HP1.out HL.out HX.out HA.out HB.out (fun _ => (pq_is0 (by rw [H1.out, H2.out]; exact (by unfold pqCase; repeat (first | rw [if_neg (by omega)])))))) HO1.out (fun F caps w3 H => ?_) fun w3 H => ?_
    all_goals
      go_wp2
      go_ret
      exact H.out
  by_cases o8 : ol = 8
  · rcases o8 with rfl
    by_cases g : ln = 0
    · rcases g with rfl
      go_wp2_with fail
      refine arm (FS := [196, 197, 199, 200, 202, 204, 205, 206, 263, 264, 265, 266, 268]) (r := r) (r' := r.pq) (wkeep_make 1 HP1.out HL.out) HO1.out (by unfold LS.pq; rw [H1.out, H2.out]; rfl) (by decide) fun caps w3 H => ?_
      go_wp2
      go_ret
      exact H.out
    by_cases g : ln = 1
    · rcases g with rfl
      go_wp2_with fail
      refine arm (FS := [196, 197, 199, 200, 202, 204, 205, 206, 263, 264, 265, 266, 268]) (r := r) (r' := r.pq) (wvan_make 256 10 HP1.out HL.out HB.out) HO1.out (by unfold LS.pq; rw [H1.out, H2.out]; rfl) (by decide) fun caps w3 H => ?_
      go_wp2
      go_ret
      exact H.out
    by_cases g : ln = 2
    · rcases g with rfl
      go_wp2_with fail
      refine arm (FS := [196, 197, 199, 200, 202, 204, 205, 206, 263, 264, 265, 266, 268]) (r := r) (r' := r.pq) (wcnt_make HP1.out HL.out) HO1.out (by unfold LS.pq; rw [H1.out, H2.out]; rfl) (by decide) fun caps w3 H => ?_
      go_wp2
      go_ret
      exact H.out
    by_cases g : ln = 3 ∨ ln = 4 ∨ ln = 5 ∨ ln = 6
    · rcases g with rfl | rfl | rfl | rfl
      all_goals
        go_wp2_with fail
        refine arm (FS := [196, 197, 199, 200, 202, 204, 205, 206, 263, 264, 265, 266, 268]) (r := r) (r' := r.pq) (wgive_make 3 true HP1.out HL.out HX.out HA.out (by decide) (by decide)) HO1.out (by unfold LS.pq; rw [H1.out, H2.out]; rfl) (by decide) fun caps w3 H => ?_
        go_wp2
        go_ret
        exact H.out
    go_wp2_with fail
    refine passed (pq_to B p A cp nv r _ HP1.out HL.out HX.out HA.out HB.out (fun _ => (by unfold LS.pq; rw [H1.out, H2.out, show pqCase 8 ln = 14 from (by unfold pqCase; repeat (first | rw [if_neg (by omega)] | rw [if_pos (by omega)]))]; exact wGive_no (a := 3) (by rw [H2.out]; omega) (by rw [H2.out]; omega) (by rw [H2.out]; omega) (by rw [H2.out]; omega)))) HO1.out (fun F caps w3 H => ?_) fun w3 H => ?_
    all_goals
      go_wp2
      go_ret
      exact H.out
  go_wp2_with fail
  refine passed (pq_to B p A cp nv r _ HP1.out HL.out HX.out HA.out HB.out (fun ho => (pq_is0 (by rw [H1.out] at ho; rw [H1.out, H2.out]; exact (by unfold pqCase; repeat (first | rw [if_neg (by omega)])))))) HO1.out (fun F caps w3 H => ?_) fun w3 H => ?_
  all_goals
    go_wp2
    go_ret
    exact H.out
end Go.Proofs.YtigdbokfapedcaaGreat
