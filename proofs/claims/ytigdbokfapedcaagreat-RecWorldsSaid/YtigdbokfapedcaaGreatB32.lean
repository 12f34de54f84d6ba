/- PqTo. -/
import Derived.Test.YtigdbokfapedcaaGreatB31
/- pq.tryOf, the program's: which line it is. -/
set_option linter.unusedVariables false
set_option linter.unusedSimpArgs false
namespace Go.Proofs.YtigdbokfapedcaaGreat
open Go.RowKit
theorem wGive_no {r : LS} {a : Int} {ok : Bool} (h0 : r.line ≠ a) (h1 : r.line ≠ a + 1) (h2 : r.line ≠ a + 2) (h3 : r.line ≠ a + 3) : r.wGive a ok = r :=
  wGive_of (by unfold LS.mxGive; rw [if_neg h0, if_neg h1, if_neg h2, if_neg h3]) (d := false)
theorem pq_is0 {r : LS} (h : pqCase r.op r.line = 0) : r.pq = r := by unfold LS.pq; rw [h]; rfl
set_option maxRecDepth 100000 in
set_option maxHeartbeats 40000000 in
theorem pq_to (B : Nat) (p A : Option Addr) (cp : Nat) (nv : Value) (r : LS) (w : World) (h : RunP w B p A cp nv r) (hl : r.ns.length ≤ 900) (hx : Words r.xs) (ha : 0 ≤ r.a ∧ r.a < 4294967296) (hb : 0 ≤ r.b ∧ r.b < 4294967296) (hno : r.op ≠ 6 ∧ r.op ≠ 7 → r.pq = r) : Calls Tryz.prog 125 #[Value.pointer (some ⟨B, 0, none⟩)] w (ClS [196, 197, 199, 200, 202, 204, 205, 206, 263, 264, 265, 266, 268] B p A cp r r.pq w) := by
  obtain ⟨ol, H1⟩ : ∃ ol, Hid (r.op = ol) := ⟨_, Lib.hid rfl⟩
  obtain ⟨ln, H2⟩ : ∃ ln, Hid (r.line = ln) := ⟨_, Lib.hid rfl⟩
  have HX := Lib.hid hx
  have HL := Lib.hid hl
  have HA := Lib.hid ha
  have HB := Lib.hid hb
  have HP := Lib.hid h
  have c4 : w.cell? ⟨B, 4, none⟩ = some (.int .i64 ol) := by rw [← H1.out]; exact HP.out.row.cell_ (i := 4) rfl
  have c5 : w.cell? ⟨B, 5, none⟩ = some (.int .i64 ln) := by rw [← H2.out]; exact HP.out.row.cell_ (i := 5) rfl
  clear h hl hx ha hb
  go_enter Tryz.func125, Tryz.ntmps125
  go_upto_region 1 with (fail)
  refine wp_region_phase (n := 11) 10 (fun w => w.cell? ⟨B, 4, none⟩ = some (.int .i64 ol) ∧ w.cell? ⟨B, 5, none⟩ = some (.int .i64 ln)) rfl (by kernel_rfl) ⟨c4, c5⟩ (fun hHeld => ?_)
  clear c4 c5
  have HP1 := Lib.hid (HP.out.keep (Only.refl Nil w).drew)
  have HO1 := Lib.hid (Only.refl Nil w).drew
  clear HP
  generalize w.drew = w2 at *
  refine za 0 rfl ?_
  refine za 1 rfl ?_
  refine za 2 rfl ?_
  refine za 3 rfl ?_
  refine zt 4 rfl ?_
  refine za 5 rfl ?_
  refine za 6 rfl ?_
  refine za 7 rfl ?_
  refine za 8 rfl ?_
  refine zt 9 rfl ?_
  refine mpc 10 rfl (by kernel_rfl) (by rfl) (fun K hK => ?_)
  go_simp
  refine hK.out _ _ (.inl (by kernel_rfl)) ?_
  clear hK K hHeld
  refine wpAnyP_done (by kernel_rfl) ?_ _
  by_cases o6 : ol = 6
  · rcases o6 with rfl
    by_cases g : ln = 0 ∨ ln = 1
    · rcases g with rfl | rfl
      all_goals
        go_wp2_with fail
        refine arm (FS := [196, 197, 199, 200, 202, 204, 205, 206, 263, 264, 265, 266, 268]) (r := r) (r' := r.pq) (wtry_make HP1.out HL.out HX.out HA.out) HO1.out (by unfold LS.pq; rw [H1.out, H2.out]; rfl) (by decide) fun caps w3 H => ?_
        go_wp2
        go_ret
        exact H.out
    by_cases g : ln = 2
    · rcases g with rfl
      go_wp2_with fail
      refine arm (FS := [196, 197, 199, 200, 202, 204, 205, 206, 263, 264, 265, 266, 268]) (r := r) (r' := r.pq) (wcom_make HP1.out HL.out) HO1.out (by unfold LS.pq; rw [H1.out, H2.out]; rfl) (by decide) fun caps w3 H => ?_
      go_wp2
      go_ret
      exact H.out
    by_cases g : ln = 3
    · rcases g with rfl
      go_wp2_with fail
      refine arm (FS := [196, 197, 199, 200, 202, 204, 205, 206, 263, 264, 265, 266, 268]) (r := r) (r' := r.pq) (wweigh_make 0 HP1.out HL.out) HO1.out (by unfold LS.pq; rw [H1.out, H2.out]; rfl) (by decide) fun caps w3 H => ?_
      go_wp2
      go_ret
      exact H.out
    by_cases g : ln = 4
    · rcases g with rfl
      go_wp2_with fail
      refine arm (FS := [196, 197, 199, 200, 202, 204, 205, 206, 263, 264, 265, 266, 268]) (r := r) (r' := r.pq) (wkeep_make 5 HP1.out HL.out) HO1.out (by unfold LS.pq; rw [H1.out, H2.out]; rfl) (by decide) fun caps w3 H => ?_
      go_wp2
      go_ret
      exact H.out
    by_cases g : ln = 5
    · rcases g with rfl
      go_wp2_with fail
      refine arm (FS := [196, 197, 199, 200, 202, 204, 205, 206, 263, 264, 265, 266, 268]) (r := r) (r' := r.pq) (wapp_make 6 HP1.out HL.out HB.out) HO1.out (by unfold LS.pq; rw [H1.out, H2.out]; rfl) (by decide) fun caps w3 H => ?_
      go_wp2
      go_ret
      exact H.out
    by_cases g : ln = 6
    · rcases g with rfl
      go_wp2_with fail
      refine arm (FS := [196, 197, 199, 200, 202, 204, 205, 206, 263, 264, 265, 266, 268]) (r := r) (r' := r.pq) (wread_make HP1.out HL.out HX.out) HO1.out (by unfold LS.pq; rw [H1.out, H2.out]; rfl) (by decide) fun caps w3 H => ?_
      go_wp2
      go_ret
      exact H.out
    by_cases g : ln = 8 ∨ ln = 9 ∨ ln = 10 ∨ ln = 11
    · rcases g with rfl | rfl | rfl | rfl
      all_goals
        go_wp2_with fail
        refine arm (FS := [196, 197, 199, 200, 202, 204, 205, 206, 263, 264, 265, 266, 268]) (r := r) (r' := r.pq) (wgive_make 8 false HP1.out HL.out HX.out HA.out (by decide) (by decide)) HO1.out (by unfold LS.pq; rw [H1.out, H2.out]; rfl) (by decide) fun caps w3 H => ?_
        go_wp2
        go_ret
        exact H.out
    go_wp2
    go_ret
    exact .inr ⟨rfl, HO1.out, (by unfold LS.pq; rw [H1.out, H2.out, show pqCase 6 ln = 24 from (by unfold pqCase; repeat (first | rw [if_neg (by omega)] | rw [if_pos (by omega)]))]; exact wGive_no (a := 8) (by rw [H2.out]; omega) (by rw [H2.out]; omega) (by rw [H2.out]; omega) (by rw [H2.out]; omega))⟩
  by_cases o7 : ol = 7
  · rcases o7 with rfl
    by_cases g : ln = 0 ∨ ln = 1
    · rcases g with rfl | rfl
      all_goals
        go_wp2_with fail
        refine arm (FS := [196, 197, 199, 200, 202, 204, 205, 206, 263, 264, 265, 266, 268]) (r := r) (r' := r.pq) (wtry_make HP1.out HL.out HX.out HA.out) HO1.out (by unfold LS.pq; rw [H1.out, H2.out]; rfl) (by decide) fun caps w3 H => ?_
        go_wp2
        go_ret
        exact H.out
    by_cases g : ln = 2
    · rcases g with rfl
      go_wp2_with fail
      refine arm (FS := [196, 197, 199, 200, 202, 204, 205, 206, 263, 264, 265, 266, 268]) (r := r) (r' := r.pq) (wcom_make HP1.out HL.out) HO1.out (by unfold LS.pq; rw [H1.out, H2.out]; rfl) (by decide) fun caps w3 H => ?_
      go_wp2
      go_ret
      exact H.out
    by_cases g : ln = 3
    · rcases g with rfl
      go_wp2_with fail
      refine arm (FS := [196, 197, 199, 200, 202, 204, 205, 206, 263, 264, 265, 266, 268]) (r := r) (r' := r.pq) (wweigh_make 256 HP1.out HL.out) HO1.out (by unfold LS.pq; rw [H1.out, H2.out]; rfl) (by decide) fun caps w3 H => ?_
      go_wp2
      go_ret
      exact H.out
    by_cases g : ln = 4
    · rcases g with rfl
      go_wp2_with fail
      refine arm (FS := [196, 197, 199, 200, 202, 204, 205, 206, 263, 264, 265, 266, 268]) (r := r) (r' := r.pq) (wkeep_make 5 HP1.out HL.out) HO1.out (by unfold LS.pq; rw [H1.out, H2.out]; rfl) (by decide) fun caps w3 H => ?_
      go_wp2
      go_ret
      exact H.out
    by_cases g : ln = 5
    · rcases g with rfl
      go_wp2_with fail
      refine arm (FS := [196, 197, 199, 200, 202, 204, 205, 206, 263, 264, 265, 266, 268]) (r := r) (r' := r.pq) (wapp_make 6 HP1.out HL.out HB.out) HO1.out (by unfold LS.pq; rw [H1.out, H2.out]; rfl) (by decide) fun caps w3 H => ?_
      go_wp2
      go_ret
      exact H.out
    by_cases g : ln = 6
    · rcases g with rfl
      go_wp2_with fail
      refine arm (FS := [196, 197, 199, 200, 202, 204, 205, 206, 263, 264, 265, 266, 268]) (r := r) (r' := r.pq) (wothers_make HP1.out HL.out HX.out) HO1.out (by unfold LS.pq; rw [H1.out, H2.out]; rfl) (by decide) fun caps w3 H => ?_
      go_wp2
      go_ret
      exact H.out
    by_cases g : ln = 7
    · rcases g with rfl
      go_wp2_with fail
      refine arm (FS := [196, 197, 199, 200, 202, 204, 205, 206, 263, 264, 265, 266, 268]) (r := r) (r' := r.pq) (wstop_make HP1.out HL.out) HO1.out (by unfold LS.pq; rw [H1.out, H2.out]; rfl) (by decide) fun caps w3 H => ?_
      go_wp2
      go_ret
      exact H.out
    by_cases g : ln = 8 ∨ ln = 9 ∨ ln = 10 ∨ ln = 11
    · rcases g with rfl | rfl | rfl | rfl
      all_goals
        go_wp2_with fail
        refine arm (FS := [196, 197, 199, 200, 202, 204, 205, 206, 263, 264, 265, 266, 268]) (r := r) (r' := r.pq) (wgive_make 8 false HP1.out HL.out HX.out HA.out (by decide) (by decide)) HO1.out (by unfold LS.pq; rw [H1.out, H2.out]; rfl) (by decide) fun caps w3 H => ?_
        go_wp2
        go_ret
        exact H.out
    go_wp2
    go_ret
    exact .inr ⟨rfl, HO1.out, (by unfold LS.pq; rw [H1.out, H2.out, show pqCase 7 ln = 24 from (by unfold pqCase; repeat (first | rw [if_neg (by omega)] | rw [if_pos (by omega)]))]; exact wGive_no (a := 8) (by rw [H2.out]; omega) (by rw [H2.out]; omega) (by rw [H2.out]; omega) (by rw [H2.out]; omega))⟩
  go_wp2
  go_ret
  exact .inr ⟨rfl, HO1.out, hno ⟨by rw [H1.out]; exact o6, by rw [H1.out]; exact o7⟩⟩
end Go.Proofs.YtigdbokfapedcaaGreat
