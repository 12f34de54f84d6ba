import Derived.IntWalk
import Derived.Test.YtaeninikaalkjaaGreatH32
import Derived.Test.YtaeninikaalkjaaGreatH5
set_option linter.unusedVariables false
set_option linter.unusedSimpArgs false
namespace Go.Proofs.YtaeninikaalkjaaGreat
open Go.RowKit
section
variable {B base : Nat} {A : Option Addr} {l cp : Nat} {r : LS} {w0 w : World}
set_option maxRecDepth 100000 in
set_option maxHeartbeats 40000000 in
theorem wfr_B (S : SR w0 B base A l cp 900 r w) (hx : Words r.xs) (ha : 0 ≤ r.a ∧ r.a < 4294967296) (hh : (r.op = 4 ∧ r.line = 0) ∨ (r.op = 8 ∧ r.line = 0) ∨ (r.op = 4 ∧ r.line = 1) ∨ (r.op = 8 ∧ r.line = 1) ∨ (r.op = 5 ∧ r.line = 0) ∨ (r.op = 6 ∧ r.line = 0) ∨ (r.op = 7 ∧ r.line = 0)) : Calls Tryz.prog 10 #[Value.pointer (some ⟨B, 0, none⟩)] w (DoneR B base A l cp w0 (.tuple #[]) r.wf) := by
  obtain ⟨ol, H1⟩ : ∃ ol, Hid (r.op = ol) := ⟨_, Lib.hid rfl⟩
  obtain ⟨ln, H2⟩ : ∃ ln, Hid (r.line = ln) := ⟨_, Lib.hid rfl⟩
  rw [H1.out, H2.out] at hh
  have HX := Lib.hid hx
  have HA := Lib.hid ha
  clear hx ha
  have c4 : w.cell? ⟨B, 4, none⟩ = some (.int .i64 ol) := by rw [← H1.out]; exact S.c4
  have c5 : w.cell? ⟨B, 5, none⟩ = some (.int .i64 ln) := by rw [← H2.out]; exact S.c5
  have q0 : ¬ ln < 0 := by omega
  have q1 : ¬ 3 < ln := by omega
  have q2 : ¬ ol < 1 := by omega
  have q3 : ¬ 8 < ol := by omega
  have hw1 : IntKind.i64.wrap (ol * 10) = ol * 10 := IntWalk.i64_in _ (by omega)
  have hw2 : IntKind.i64.wrap (ol * 10 + ln) = ol * 10 + ln := IntWalk.i64_in _ (by omega)
  have HH := Lib.hid hh
  clear hh
  go_enter Tryz.func10, Tryz.ntmps10
  go_upto_region 2 with (fail)
  clear q0 q1 q2 q3
  refine wp_region_phase (n := 10) 9 (fun w => w.cell? ⟨B, 4, none⟩ = some (.int .i64 ol) ∧ w.cell? ⟨B, 5, none⟩ = some (.int .i64 ln)) rfl (by kernel_rfl) ⟨c4, c5⟩ (fun hHeld => ?_)
  clear c4 c5
  replace S := S.drew
  generalize w.drew = w2 at *
  refine za 0 rfl ?_
  refine za 1 rfl ?_
  refine za 2 rfl ?_
  refine zt 3 rfl ?_
  refine mpa 4 rfl (.int .i64 (ol * 10)) (fun w => ?_) ?_
  · go_simp
  refine za 5 rfl ?_
  refine za 6 rfl ?_
  refine za 7 rfl ?_
  refine zt 8 rfl ?_
  refine mpc 9 rfl (by kernel_rfl) (by rfl) (fun K hK => ?_)
  go_simp
  refine hK.out _ _ (.inl (by kernel_rfl)) ?_
  clear hK K hHeld hw1 hw2
  refine wpAnyP_done (by kernel_rfl) ?_ _
  have hh := HH.out
  clear HH
  rcases hh with ⟨rfl, rfl⟩ | ⟨rfl, rfl⟩ | ⟨rfl, rfl⟩ | ⟨rfl, rfl⟩ | ⟨rfl, rfl⟩ | ⟨rfl, rfl⟩ | ⟨rfl, rfl⟩
  · skip
    go_wp2_with fail
    refine yLoad S fun w3 S => ?_
    have c6 := S.c6
    have f6 := S.froz 6
    replace S := S.setA (wordAt r.xs 0)
    go_upto_region 39 with (fail)
    clear c6 f6
    generalize w3.setCell ⟨B, 6, none⟩ (.int .u32 (wordAt r.xs 0)) = w4 at *
    have c5 := S.c5
    have f5 := S.froz 5
    replace S := S.setLine (1)
    go_wp2
    go_returns
    exact S.fit (by rw [wf_4_0 H1.out H2.out]; rfl)
  · skip
    go_wp2_with fail
    refine yLoad S fun w3 S => ?_
    have c6 := S.c6
    have f6 := S.froz 6
    replace S := S.setA (wordAt r.xs 0)
    go_upto_region 39 with (fail)
    clear c6 f6
    generalize w3.setCell ⟨B, 6, none⟩ (.int .u32 (wordAt r.xs 0)) = w4 at *
    have c5 := S.c5
    have f5 := S.froz 5
    replace S := S.setLine (1)
    go_wp2
    go_returns
    exact S.fit (by rw [wf_8_0 H1.out H2.out]; rfl)
  · skip
    have c6 := S.c6
    go_wp2_with fail
    clear c6
    refine (rbump_any r.a 8 8 _ HA.out).mono ?_
    rw [bump_o]
    rintro e w3 ⟨rfl, hd⟩
    replace S := S.drewd hd
    clear hd
    go_wp2_with fail
    refine yAdd S fun w S => ?_
    go_wp2_with fail
    refine yNote S fun w S => ?_
    go_wp2_with fail
    refine yNote S fun w S => ?_
    go_wp2_with fail
    refine yWake S fun w S => ?_
    go_wp2_with fail
    refine yEnd S fun w S => ?_
    go_wp2
    go_returns
    exact S.fit (by rw [wf_4_1 H1.out H2.out]; rfl)
  · skip
    have c6 := S.c6
    go_wp2_with fail
    clear c6
    refine (rbump_any r.a 8 8 _ HA.out).mono ?_
    rw [bump_o]
    rintro e w3 ⟨rfl, hd⟩
    replace S := S.drewd hd
    clear hd
    have hx1 : IntKind.u32.wrap (nextO r.a + 1) = (nextO r.a + 1) % 4294967296 := rfl
    go_wp2_with fail
    clear hx1
    refine yAdd (x := (nextO r.a + 1) % 4294967296) S fun w S => ?_
    go_wp2_with fail
    refine yNote S fun w S => ?_
    go_wp2_with fail
    refine yWake S fun w S => ?_
    go_wp2_with fail
    refine yEnd S fun w S => ?_
    go_wp2
    go_returns
    exact S.fit (by rw [wf_8_1 H1.out H2.out]; rfl)
  · skip
    go_wp2_with fail
    refine yLoad S fun w3 S => ?_
    have c6 := S.c6
    have f6 := S.froz 6
    replace S := S.setA (wordAt r.xs 0)
    go_upto_region 55 with (fail)
    clear c6 f6
    generalize w3.setCell ⟨B, 6, none⟩ (.int .u32 (wordAt r.xs 0)) = w4 at *
    refine wp_region_phase (n := 12) 9 (fun w => w.cell? ⟨B, 6, none⟩ = some (.int .u32 (wordAt r.xs 0))) rfl (by kernel_rfl) S.c6 (fun hHeld => ?_)
    replace S := S.drew
    generalize w4.drew = w6 at *
    refine za 0 rfl ?_
    refine za 1 rfl ?_
    refine za 2 rfl ?_
    refine zt 3 rfl ?_
    refine za 5 rfl ?_
    refine za 6 rfl ?_
    refine za 7 rfl ?_
    refine zt 8 rfl ?_
    refine mpc 4 rfl (by kernel_rfl) (by rfl) (fun K hK => ?_)
    go_simp
    refine (ri_any _ _ (word_wf HX.out 0)).mono ?_
    rintro e w7 ⟨rfl, rfl⟩
    refine hK.out _ _ (.inr hHeld) ?_
    clear hK K
    refine mpc 9 rfl (by kernel_rfl) (by rfl) (fun K hK => ?_)
    go_simp
    refine (ro_any _ _ (word_wf HX.out 0)).mono ?_
    rintro e w7 ⟨rfl, rfl⟩
    refine hK.out _ _ (.inl (by kernel_rfl)) ?_
    clear hK K hHeld
    obtain ⟨i, hi⟩ : ∃ i, iF (wordAt r.xs 0) = i := ⟨_, rfl⟩
    obtain ⟨o, ho⟩ : ∃ o, oF (wordAt r.xs 0) = o := ⟨_, rfl⟩
    have HF := Lib.hid (show freeW (wordAt r.xs 0) = (i == o) by unfold freeW; rw [hi, ho])
    rw [hi, ho]
    clear hi ho
    by_cases h : i = o
    · subst h
      refine mpa 10 rfl (.bool true) (fun w => ?_) ?_
      · go_simp
      refine za 11 rfl ?_
      refine wpAnyP_done (by kernel_rfl) ?_ _
      have c4 : w6.cell? ⟨B, 4, none⟩ = some (.int .i64 5) := by rw [← H1.out]; exact S.c4
      have c5 := S.c5
      have f5 := S.froz 5
      replace S := S.setLine (1)
      go_wp2
      clear c4
      go_returns
      exact S.fit (by rw [wf_5_0 H1.out H2.out]; unfold LS.fLook; rw [HF.out, beq_self_eq_true]; rfl)
    · have hq : (i == o) = false := by simpa using h
      refine mpa 10 rfl (.bool false) (fun w => ?_) ?_
      · go_simp
      refine za 11 rfl ?_
      refine wpAnyP_done (by kernel_rfl) ?_ _
      have c4 : w6.cell? ⟨B, 4, none⟩ = some (.int .i64 5) := by rw [← H1.out]; exact S.c4
      go_wp2_with fail
      clear c4
      refine yNote S fun w S => ?_
      go_wp2_with fail
      refine yEnd S fun w S => ?_
      go_wp2
      go_returns
      exact S.fit (by rw [wf_5_0 H1.out H2.out]; unfold LS.fLook; rw [HF.out, hq]; rfl)
  · skip
    go_wp2_with fail
    refine yLoad S fun w3 S => ?_
    have c6 := S.c6
    have f6 := S.froz 6
    replace S := S.setA (wordAt r.xs 0)
    go_upto_region 55 with (fail)
    clear c6 f6
    generalize w3.setCell ⟨B, 6, none⟩ (.int .u32 (wordAt r.xs 0)) = w4 at *
    refine wp_region_phase (n := 12) 9 (fun w => w.cell? ⟨B, 6, none⟩ = some (.int .u32 (wordAt r.xs 0))) rfl (by kernel_rfl) S.c6 (fun hHeld => ?_)
    replace S := S.drew
    generalize w4.drew = w6 at *
    refine za 0 rfl ?_
    refine za 1 rfl ?_
    refine za 2 rfl ?_
    refine zt 3 rfl ?_
    refine za 5 rfl ?_
    refine za 6 rfl ?_
    refine za 7 rfl ?_
    refine zt 8 rfl ?_
    refine mpc 4 rfl (by kernel_rfl) (by rfl) (fun K hK => ?_)
    go_simp
    refine (ri_any _ _ (word_wf HX.out 0)).mono ?_
    rintro e w7 ⟨rfl, rfl⟩
    refine hK.out _ _ (.inr hHeld) ?_
    clear hK K
    refine mpc 9 rfl (by kernel_rfl) (by rfl) (fun K hK => ?_)
    go_simp
    refine (ro_any _ _ (word_wf HX.out 0)).mono ?_
    rintro e w7 ⟨rfl, rfl⟩
    refine hK.out _ _ (.inl (by kernel_rfl)) ?_
    clear hK K hHeld
    obtain ⟨i, hi⟩ : ∃ i, iF (wordAt r.xs 0) = i := ⟨_, rfl⟩
    obtain ⟨o, ho⟩ : ∃ o, oF (wordAt r.xs 0) = o := ⟨_, rfl⟩
    have HF := Lib.hid (show freeW (wordAt r.xs 0) = (i == o) by unfold freeW; rw [hi, ho])
    rw [hi, ho]
    clear hi ho
    by_cases h : i = o
    · subst h
      refine mpa 10 rfl (.bool true) (fun w => ?_) ?_
      · go_simp
      refine za 11 rfl ?_
      refine wpAnyP_done (by kernel_rfl) ?_ _
      have c4 : w6.cell? ⟨B, 4, none⟩ = some (.int .i64 6) := by rw [← H1.out]; exact S.c4
      have c6 := S.c6
      go_wp2_with fail
      clear c6
      refine (rr_any _ _ (word_wf HX.out 0)).mono ?_
      rintro e w7 ⟨rfl, rfl⟩
      obtain ⟨z, hz⟩ : ∃ z, rF (wordAt r.xs 0) = z := ⟨_, rfl⟩
      have HZ := Lib.hid hz
      rw [hz]
      clear hz
      by_cases h : z = 0
      · subst h
        have c5 := S.c5
        have f5 := S.froz 5
        replace S := S.setLine (1)
        go_wp2
        clear c4
        go_returns
        exact S.fit (by rw [wf_6_0 H1.out H2.out]; unfold LS.fLook; rw [HF.out, beq_self_eq_true, HZ.out]; rfl)
      · have hz : (z == 0) = false := by simpa using h
        go_wp2_with fail
        clear c4
        refine yNote S fun w S => ?_
        go_wp2_with fail
        refine yEnd S fun w S => ?_
        go_wp2
        go_returns
        exact S.fit (by rw [wf_6_0 H1.out H2.out]; unfold LS.fLook; rw [HF.out, beq_self_eq_true, HZ.out, hz]; rfl)
    · have hq : (i == o) = false := by simpa using h
      refine mpa 10 rfl (.bool false) (fun w => ?_) ?_
      · go_simp
      refine za 11 rfl ?_
      refine wpAnyP_done (by kernel_rfl) ?_ _
      have c4 : w6.cell? ⟨B, 4, none⟩ = some (.int .i64 6) := by rw [← H1.out]; exact S.c4
      go_wp2_with fail
      clear c4
      refine yNote S fun w S => ?_
      go_wp2_with fail
      refine yEnd S fun w S => ?_
      go_wp2
      go_returns
      exact S.fit (by rw [wf_6_0 H1.out H2.out]; unfold LS.fLook; rw [HF.out, hq]; rfl)
  · skip
    go_wp2_with fail
    refine yLoad S fun w3 S => ?_
    have c6 := S.c6
    have f6 := S.froz 6
    replace S := S.setA (wordAt r.xs 0)
    go_upto_region 55 with (fail)
    clear c6 f6
    generalize w3.setCell ⟨B, 6, none⟩ (.int .u32 (wordAt r.xs 0)) = w4 at *
    refine wp_region_phase (n := 12) 9 (fun w => w.cell? ⟨B, 6, none⟩ = some (.int .u32 (wordAt r.xs 0))) rfl (by kernel_rfl) S.c6 (fun hHeld => ?_)
    replace S := S.drew
    generalize w4.drew = w6 at *
    refine za 0 rfl ?_
    refine za 1 rfl ?_
    refine za 2 rfl ?_
    refine zt 3 rfl ?_
    refine za 5 rfl ?_
    refine za 6 rfl ?_
    refine za 7 rfl ?_
    refine zt 8 rfl ?_
    refine mpc 4 rfl (by kernel_rfl) (by rfl) (fun K hK => ?_)
    go_simp
    refine (ri_any _ _ (word_wf HX.out 0)).mono ?_
    rintro e w7 ⟨rfl, rfl⟩
    refine hK.out _ _ (.inr hHeld) ?_
    clear hK K
    refine mpc 9 rfl (by kernel_rfl) (by rfl) (fun K hK => ?_)
    go_simp
    refine (ro_any _ _ (word_wf HX.out 0)).mono ?_
    rintro e w7 ⟨rfl, rfl⟩
    refine hK.out _ _ (.inl (by kernel_rfl)) ?_
    clear hK K hHeld
    obtain ⟨i, hi⟩ : ∃ i, iF (wordAt r.xs 0) = i := ⟨_, rfl⟩
    obtain ⟨o, ho⟩ : ∃ o, oF (wordAt r.xs 0) = o := ⟨_, rfl⟩
    have HF := Lib.hid (show freeW (wordAt r.xs 0) = (i == o) by unfold freeW; rw [hi, ho])
    rw [hi, ho]
    clear hi ho
    by_cases h : i = o
    · subst h
      refine mpa 10 rfl (.bool true) (fun w => ?_) ?_
      · go_simp
      refine za 11 rfl ?_
      refine wpAnyP_done (by kernel_rfl) ?_ _
      have c4 : w6.cell? ⟨B, 4, none⟩ = some (.int .i64 7) := by rw [← H1.out]; exact S.c4
      have c6 := S.c6
      go_wp2_with fail
      clear c6
      refine (rr_any _ _ (word_wf HX.out 0)).mono ?_
      rintro e w7 ⟨rfl, rfl⟩
      obtain ⟨z, hz⟩ : ∃ z, rF (wordAt r.xs 0) = z := ⟨_, rfl⟩
      have HZ := Lib.hid hz
      rw [hz]
      clear hz
      by_cases h : z = 1
      · subst h
        have c5 := S.c5
        have f5 := S.froz 5
        replace S := S.setLine (1)
        go_wp2
        clear c4
        go_returns
        exact S.fit (by rw [wf_7_0 H1.out H2.out]; unfold LS.fLook; rw [HF.out, beq_self_eq_true, HZ.out]; rfl)
      · have hz : (z == 1) = false := by simpa using h
        go_wp2_with fail
        clear c4
        refine yNote S fun w S => ?_
        go_wp2_with fail
        refine yEnd S fun w S => ?_
        go_wp2
        go_returns
        exact S.fit (by rw [wf_7_0 H1.out H2.out]; unfold LS.fLook; rw [HF.out, beq_self_eq_true, HZ.out, hz]; rfl)
    · have hq : (i == o) = false := by simpa using h
      refine mpa 10 rfl (.bool false) (fun w => ?_) ?_
      · go_simp
      refine za 11 rfl ?_
      refine wpAnyP_done (by kernel_rfl) ?_ _
      have c4 : w6.cell? ⟨B, 4, none⟩ = some (.int .i64 7) := by rw [← H1.out]; exact S.c4
      go_wp2_with fail
      clear c4
      refine yNote S fun w S => ?_
      go_wp2_with fail
      refine yEnd S fun w S => ?_
      go_wp2
      go_returns
      exact S.fit (by rw [wf_7_0 H1.out H2.out]; unfold LS.fLook; rw [HF.out, hq]; rfl)
end
end Go.Proofs.YtaeninikaalkjaaGreat
set_option linter.unusedVariables false
set_option linter.unusedSimpArgs false
namespace Go.Proofs.YtaeninikaalkjaaGreat
open Go.RowKit
section
variable {B base : Nat} {A : Option Addr} {l cp : Nat} {r : LS} {w0 w : World}
set_option maxRecDepth 100000 in
set_option maxHeartbeats 40000000 in
theorem wfr_C (S : SR w0 B base A l cp 900 r w) (hx : Words r.xs) (ha : 0 ≤ r.a ∧ r.a < 4294967296) (hh : (r.op = 5 ∧ r.line = 1) ∨ (r.op = 6 ∧ r.line = 1) ∨ (r.op = 7 ∧ r.line = 1)) : Calls Tryz.prog 10 #[Value.pointer (some ⟨B, 0, none⟩)] w (DoneR B base A l cp w0 (.tuple #[]) r.wf) := by
  obtain ⟨ol, H1⟩ : ∃ ol, Hid (r.op = ol) := ⟨_, Lib.hid rfl⟩
  obtain ⟨ln, H2⟩ : ∃ ln, Hid (r.line = ln) := ⟨_, Lib.hid rfl⟩
  rw [H1.out, H2.out] at hh
  have HX := Lib.hid hx
  have HA := Lib.hid ha
  clear hx ha
  have c4 : w.cell? ⟨B, 4, none⟩ = some (.int .i64 ol) := by rw [← H1.out]; exact S.c4
  have c5 : w.cell? ⟨B, 5, none⟩ = some (.int .i64 ln) := by rw [← H2.out]; exact S.c5
  have q0 : ¬ ln < 0 := by omega
  have q1 : ¬ 3 < ln := by omega
  have q2 : ¬ ol < 1 := by omega
  have q3 : ¬ 8 < ol := by omega
  have hw1 : IntKind.i64.wrap (ol * 10) = ol * 10 := IntWalk.i64_in _ (by omega)
  have hw2 : IntKind.i64.wrap (ol * 10 + ln) = ol * 10 + ln := IntWalk.i64_in _ (by omega)
  have HH := Lib.hid hh
  clear hh
  go_enter Tryz.func10, Tryz.ntmps10
  go_upto_region 2 with (fail)
  clear q0 q1 q2 q3
  refine wp_region_phase (n := 10) 9 (fun w => w.cell? ⟨B, 4, none⟩ = some (.int .i64 ol) ∧ w.cell? ⟨B, 5, none⟩ = some (.int .i64 ln)) rfl (by kernel_rfl) ⟨c4, c5⟩ (fun hHeld => ?_)
  clear c4 c5
  replace S := S.drew
  generalize w.drew = w2 at *
  refine za 0 rfl ?_
  refine za 1 rfl ?_
  refine za 2 rfl ?_
  refine zt 3 rfl ?_
  refine mpa 4 rfl (.int .i64 (ol * 10)) (fun w => ?_) ?_
  · go_simp
  refine za 5 rfl ?_
  refine za 6 rfl ?_
  refine za 7 rfl ?_
  refine zt 8 rfl ?_
  refine mpc 9 rfl (by kernel_rfl) (by rfl) (fun K hK => ?_)
  go_simp
  refine hK.out _ _ (.inl (by kernel_rfl)) ?_
  clear hK K hHeld hw1 hw2
  refine wpAnyP_done (by kernel_rfl) ?_ _
  have hh := HH.out
  clear HH
  rcases hh with ⟨rfl, rfl⟩ | ⟨rfl, rfl⟩ | ⟨rfl, rfl⟩
  · skip
    have c6 := S.c6
    have hx1 : IntKind.u32.wrap (r.a + 1) = (r.a + 1) % 4294967296 := rfl
    go_upto_region 65 with (fail)
    refine wp_region_phase (n := 11) 10 (fun w => w.cell? ⟨B, 6, none⟩ = some (.int .u32 r.a)) rfl (by kernel_rfl) c6 (fun hHeld => ?_)
    clear c6
    replace S := S.drew
    generalize w2.drew = w3 at *
    refine za 0 rfl ?_
    refine za 1 rfl ?_
    refine za 2 rfl ?_
    refine za 3 rfl ?_
    refine zt 4 rfl ?_
    refine za 5 rfl ?_
    refine za 6 rfl ?_
    refine za 7 rfl ?_
    refine zt 8 rfl ?_
    refine mpa 9 rfl (.int .u32 ((r.a + 1) % 4294967296)) (fun w => ?_) ?_
    · go_simp
    refine mpc 10 rfl (by kernel_rfl) (by rfl) (fun K hK => ?_)
    go_simp
    refine yCas S fun w4 S => ?_
    refine hK.out _ _ (.inl (by kernel_rfl)) ?_
    clear hK K hHeld hx1
    obtain ⟨q, hq⟩ : ∃ q, r.at0 r.a = q := ⟨_, rfl⟩
    have HQ := Lib.hid hq
    rw [show (there r.xs 0 && (wordAt r.xs 0 == r.a)) = q from hq]
    clear hq
    refine wpAnyP_done (by kernel_rfl) ?_ _
    cases q
    · skip
      have c5 := S.c5
      have f5 := S.froz 5
      replace S := S.setLine (0)
      go_wp2
      go_returns
      exact S.fit (by rw [wf_5_1 H1.out H2.out]; unfold LS.gSlip; rw [if_neg (by rw [HQ.out]; exact Bool.false_ne_true)]; rfl)
    · skip
      go_wp2_with fail
      refine yNote S fun w S => ?_
      go_wp2_with fail
      refine S.call (fun nv h => rend16 4 (sr_new h (Nat.le_trans S.len (by decide)))) (m' := 903) (by have := S.len; simp only [LS.fin, LS.note, List.length_append, List.length_cons, List.length_nil] at this ⊢; omega) fun w S => ?_
      go_wp2
      go_returns
      exact S.fit (by rw [wf_5_1 H1.out H2.out]; unfold LS.gSlip; rw [if_pos HQ.out]; rfl)
  · skip
    have c6 := S.c6
    have hx1 : IntKind.u32.wrap (r.a + 65536) = (r.a + 65536) % 4294967296 := rfl
    go_upto_region 70 with (fail)
    refine wp_region_phase (n := 11) 10 (fun w => w.cell? ⟨B, 6, none⟩ = some (.int .u32 r.a)) rfl (by kernel_rfl) c6 (fun hHeld => ?_)
    clear c6
    replace S := S.drew
    generalize w2.drew = w3 at *
    refine za 0 rfl ?_
    refine za 1 rfl ?_
    refine za 2 rfl ?_
    refine za 3 rfl ?_
    refine zt 4 rfl ?_
    refine za 5 rfl ?_
    refine za 6 rfl ?_
    refine za 7 rfl ?_
    refine zt 8 rfl ?_
    refine mpa 9 rfl (.int .u32 ((r.a + 65536) % 4294967296)) (fun w => ?_) ?_
    · go_simp
    refine mpc 10 rfl (by kernel_rfl) (by rfl) (fun K hK => ?_)
    go_simp
    refine yCas S fun w4 S => ?_
    refine hK.out _ _ (.inl (by kernel_rfl)) ?_
    clear hK K hHeld hx1
    obtain ⟨q, hq⟩ : ∃ q, r.at0 r.a = q := ⟨_, rfl⟩
    have HQ := Lib.hid hq
    rw [show (there r.xs 0 && (wordAt r.xs 0 == r.a)) = q from hq]
    clear hq
    refine wpAnyP_done (by kernel_rfl) ?_ _
    cases q
    · skip
      have c5 := S.c5
      have f5 := S.froz 5
      replace S := S.setLine (0)
      go_wp2
      go_returns
      exact S.fit (by rw [wf_6_1 H1.out H2.out]; unfold LS.gTry; rw [if_neg (by rw [HQ.out]; exact Bool.false_ne_true)]; rfl)
    · skip
      go_wp2_with fail
      refine yNote S fun w S => ?_
      go_wp2_with fail
      refine S.call (fun nv h => rend16 4 (sr_new h (Nat.le_trans S.len (by decide)))) (m' := 903) (by have := S.len; simp only [LS.fin, LS.note, List.length_append, List.length_cons, List.length_nil] at this ⊢; omega) fun w S => ?_
      go_wp2
      go_returns
      exact S.fit (by rw [wf_6_1 H1.out H2.out]; unfold LS.gTry; rw [if_pos HQ.out]; rfl)
  · skip
    have c6 := S.c6
    have hx1 : IntKind.u32.wrap (r.a + 65535) = (r.a + 65535) % 4294967296 := rfl
    go_upto_region 75 with (fail)
    refine wp_region_phase (n := 11) 10 (fun w => w.cell? ⟨B, 6, none⟩ = some (.int .u32 r.a)) rfl (by kernel_rfl) c6 (fun hHeld => ?_)
    clear c6
    replace S := S.drew
    generalize w2.drew = w3 at *
    refine za 0 rfl ?_
    refine za 1 rfl ?_
    refine za 2 rfl ?_
    refine za 3 rfl ?_
    refine zt 4 rfl ?_
    refine za 5 rfl ?_
    refine za 6 rfl ?_
    refine za 7 rfl ?_
    refine zt 8 rfl ?_
    refine mpa 9 rfl (.int .u32 ((r.a + 65535) % 4294967296)) (fun w => ?_) ?_
    · go_simp
    refine mpc 10 rfl (by kernel_rfl) (by rfl) (fun K hK => ?_)
    go_simp
    refine yCas S fun w4 S => ?_
    refine hK.out _ _ (.inl (by kernel_rfl)) ?_
    clear hK K hHeld hx1
    obtain ⟨q, hq⟩ : ∃ q, r.at0 r.a = q := ⟨_, rfl⟩
    have HQ := Lib.hid hq
    rw [show (there r.xs 0 && (wordAt r.xs 0 == r.a)) = q from hq]
    clear hq
    refine wpAnyP_done (by kernel_rfl) ?_ _
    cases q
    · skip
      have c5 := S.c5
      have f5 := S.froz 5
      replace S := S.setLine (0)
      go_wp2
      go_returns
      exact S.fit (by rw [wf_7_1 H1.out H2.out]; unfold LS.gUp; rw [if_neg (by rw [HQ.out]; exact Bool.false_ne_true)]; rfl)
    · skip
      go_wp2_with fail
      refine S.call (fun nv h => rend16 9 (sr_new h (Nat.le_trans S.len (by decide)))) (m' := 903) (by have := S.len; simp only [LS.fin, LS.note, List.length_append, List.length_cons, List.length_nil] at this ⊢; omega) fun w S => ?_
      go_wp2
      go_returns
      exact S.fit (by rw [wf_7_1 H1.out H2.out]; unfold LS.gUp; rw [if_pos HQ.out]; rfl)
end
end Go.Proofs.YtaeninikaalkjaaGreat
set_option linter.unusedVariables false
set_option linter.unusedSimpArgs false
namespace Go.Proofs.YtaeninikaalkjaaGreat
open Go.RowKit
section
variable {B base : Nat} {A : Option Addr} {l cp : Nat} {r : LS} {w0 w : World}
set_option maxRecDepth 100000 in
set_option maxHeartbeats 40000000 in
theorem wfr_D (S : SR w0 B base A l cp 900 r w) (hx : Words r.xs) (ha : 0 ≤ r.a ∧ r.a < 4294967296) (hh : (r.op = 2 ∧ r.line = 1) ∨ (r.op = 2 ∧ r.line = 2) ∨ (r.op = 2 ∧ r.line = 3) ∨ (r.op = 3 ∧ r.line = 2) ∨ (r.op = 3 ∧ r.line = 3) ∨ (r.op = 4 ∧ r.line = 2) ∨ (r.op = 4 ∧ r.line = 3) ∨ (r.op = 5 ∧ r.line = 2) ∨ (r.op = 5 ∧ r.line = 3) ∨ (r.op = 6 ∧ r.line = 2) ∨ (r.op = 6 ∧ r.line = 3) ∨ (r.op = 7 ∧ r.line = 2) ∨ (r.op = 7 ∧ r.line = 3) ∨ (r.op = 8 ∧ r.line = 2) ∨ (r.op = 8 ∧ r.line = 3)) : Calls Tryz.prog 10 #[Value.pointer (some ⟨B, 0, none⟩)] w (DoneR B base A l cp w0 (.tuple #[]) r.wf) := by
  obtain ⟨ol, H1⟩ : ∃ ol, Hid (r.op = ol) := ⟨_, Lib.hid rfl⟩
  obtain ⟨ln, H2⟩ : ∃ ln, Hid (r.line = ln) := ⟨_, Lib.hid rfl⟩
  rw [H1.out, H2.out] at hh
  have HX := Lib.hid hx
  have HA := Lib.hid ha
  clear hx ha
  have c4 : w.cell? ⟨B, 4, none⟩ = some (.int .i64 ol) := by rw [← H1.out]; exact S.c4
  have c5 : w.cell? ⟨B, 5, none⟩ = some (.int .i64 ln) := by rw [← H2.out]; exact S.c5
  have q0 : ¬ ln < 0 := by omega
  have q1 : ¬ 3 < ln := by omega
  have q2 : ¬ ol < 1 := by omega
  have q3 : ¬ 8 < ol := by omega
  have hw1 : IntKind.i64.wrap (ol * 10) = ol * 10 := IntWalk.i64_in _ (by omega)
  have hw2 : IntKind.i64.wrap (ol * 10 + ln) = ol * 10 + ln := IntWalk.i64_in _ (by omega)
  have HH := Lib.hid hh
  clear hh
  go_enter Tryz.func10, Tryz.ntmps10
  go_upto_region 2 with (fail)
  clear q0 q1 q2 q3
  refine wp_region_phase (n := 10) 9 (fun w => w.cell? ⟨B, 4, none⟩ = some (.int .i64 ol) ∧ w.cell? ⟨B, 5, none⟩ = some (.int .i64 ln)) rfl (by kernel_rfl) ⟨c4, c5⟩ (fun hHeld => ?_)
  clear c4 c5
  replace S := S.drew
  generalize w.drew = w2 at *
  refine za 0 rfl ?_
  refine za 1 rfl ?_
  refine za 2 rfl ?_
  refine zt 3 rfl ?_
  refine mpa 4 rfl (.int .i64 (ol * 10)) (fun w => ?_) ?_
  · go_simp
  refine za 5 rfl ?_
  refine za 6 rfl ?_
  refine za 7 rfl ?_
  refine zt 8 rfl ?_
  refine mpc 9 rfl (by kernel_rfl) (by rfl) (fun K hK => ?_)
  go_simp
  refine hK.out _ _ (.inl (by kernel_rfl)) ?_
  clear hK K hHeld hw1 hw2
  refine wpAnyP_done (by kernel_rfl) ?_ _
  have hh := HH.out
  clear HH
  rcases hh with ⟨rfl, rfl⟩ | ⟨rfl, rfl⟩ | ⟨rfl, rfl⟩ | ⟨rfl, rfl⟩ | ⟨rfl, rfl⟩ | ⟨rfl, rfl⟩ | ⟨rfl, rfl⟩ | ⟨rfl, rfl⟩ | ⟨rfl, rfl⟩ | ⟨rfl, rfl⟩ | ⟨rfl, rfl⟩ | ⟨rfl, rfl⟩ | ⟨rfl, rfl⟩ | ⟨rfl, rfl⟩ | ⟨rfl, rfl⟩
  · skip
    go_wp2
    go_returns
    exact S.fit (by unfold LS.wf; rw [H1.out, H2.out]; rfl)
  · skip
    go_wp2
    go_returns
    exact S.fit (by unfold LS.wf; rw [H1.out, H2.out]; rfl)
  · skip
    go_wp2
    go_returns
    exact S.fit (by unfold LS.wf; rw [H1.out, H2.out]; rfl)
  · skip
    go_wp2
    go_returns
    exact S.fit (by unfold LS.wf; rw [H1.out, H2.out]; rfl)
  · skip
    go_wp2
    go_returns
    exact S.fit (by unfold LS.wf; rw [H1.out, H2.out]; rfl)
  · skip
    go_wp2
    go_returns
    exact S.fit (by unfold LS.wf; rw [H1.out, H2.out]; rfl)
  · skip
    go_wp2
    go_returns
    exact S.fit (by unfold LS.wf; rw [H1.out, H2.out]; rfl)
  · skip
    go_wp2
    go_returns
    exact S.fit (by unfold LS.wf; rw [H1.out, H2.out]; rfl)
  · skip
    go_wp2
    go_returns
    exact S.fit (by unfold LS.wf; rw [H1.out, H2.out]; rfl)
  · skip
    go_wp2
    go_returns
    exact S.fit (by unfold LS.wf; rw [H1.out, H2.out]; rfl)
  · skip
    go_wp2
    go_returns
    exact S.fit (by unfold LS.wf; rw [H1.out, H2.out]; rfl)
  · skip
    go_wp2
    go_returns
    exact S.fit (by unfold LS.wf; rw [H1.out, H2.out]; rfl)
  · skip
    go_wp2
    go_returns
    exact S.fit (by unfold LS.wf; rw [H1.out, H2.out]; rfl)
  · skip
    go_wp2
    go_returns
    exact S.fit (by unfold LS.wf; rw [H1.out, H2.out]; rfl)
  · skip
    go_wp2
    go_returns
    exact S.fit (by unfold LS.wf; rw [H1.out, H2.out]; rfl)
end
end Go.Proofs.YtaeninikaalkjaaGreat
set_option linter.unusedVariables false
set_option linter.unusedSimpArgs false
namespace Go.Proofs.YtaeninikaalkjaaGreat
open Go.RowKit
set_option maxRecDepth 100000 in
set_option maxHeartbeats 4000000 in
theorem wfr_out (B base : Nat) (A : Option Addr) (l cp : Nat) (nv : Value) (r : LS) (w : World) (h : RunR w B base A l cp nv r) (hh : r.line < 0 ∨ 3 < r.line ∨ r.op < 1 ∨ 8 < r.op) :
    Calls Tryz.prog 10 #[Value.pointer (some ⟨B, 0, none⟩)] w (DoneR B base A l cp w (.tuple #[]) r) := by
  have HH := Lib.hid h
  have c4 : w.cell? ⟨B, 4, none⟩ = some (.int .i64 r.op) := h.row.cell_ (i := 4) rfl
  have c5 : w.cell? ⟨B, 5, none⟩ = some (.int .i64 r.line) := h.row.cell_ (i := 5) rfl
  clear h
  generalize r.op = ol at *
  generalize r.line = ln at *
  by_cases q0 : ln < 0
  · clear hh
    go_enter Tryz.func10, Tryz.ntmps10
    go_wp2
    go_returns
    exact ⟨rfl, Only.refl _ _, nv, HH.out⟩
  by_cases q1 : 3 < ln
  · clear hh
    go_enter Tryz.func10, Tryz.ntmps10
    go_wp2
    go_returns
    exact ⟨rfl, Only.refl _ _, nv, HH.out⟩
  by_cases q2 : ol < 1
  · clear hh
    go_enter Tryz.func10, Tryz.ntmps10
    go_wp2
    go_returns
    exact ⟨rfl, Only.refl _ _, nv, HH.out⟩
  · have q3 : 8 < ol := by omega
    clear hh
    go_enter Tryz.func10, Tryz.ntmps10
    go_wp2
    go_returns
    exact ⟨rfl, Only.refl _ _, nv, HH.out⟩
theorem wf_none {r : LS} (h : r.line < 0 ∨ 3 < r.line ∨ r.op < 1 ∨ 8 < r.op) : r.wf = r := by
  have hc : wfCase r.op r.line = 0 := by
    unfold wfCase
    repeat (first | rw [if_neg (by omega)])
  unfold LS.wf
  rw [hc]
  rfl
theorem wfref_lines (B base : Nat) (A : Option Addr) (l cp : Nat) (nv : Value) (r : LS) (w : World) (h : RunR w B base A l cp nv r) (hl : r.ns.length ≤ 900) (hx : Words r.xs) (ha : 0 ≤ r.a ∧ r.a < 4294967296) : Calls Tryz.prog 10 #[Value.pointer (some ⟨B, 0, none⟩)] w (DoneR B base A l cp w (.tuple #[]) r.wf) := by
  by_cases hi : r.line < 0 ∨ 3 < r.line ∨ r.op < 1 ∨ 8 < r.op
  · rw [wf_none hi]
    exact wfr_out B base A l cp nv r w h hi
  have S := sr_new (m := 900) h hl
  have ho : r.op = 1 ∨ r.op = 2 ∨ r.op = 3 ∨ r.op = 4 ∨ r.op = 5 ∨ r.op = 6 ∨ r.op = 7 ∨ r.op = 8 := by omega
  have hn : r.line = 0 ∨ r.line = 1 ∨ r.line = 2 ∨ r.line = 3 := by omega
  rcases ho with h1 | h1 | h1 | h1 | h1 | h1 | h1 | h1
  · rcases hn with h2 | h2 | h2 | h2
    · exact wfr_A S hx ha (.inl ⟨h1, h2⟩)
    · exact wfr_A S hx ha (.inr (.inr (.inl ⟨h1, h2⟩)))
    · exact wfr_A S hx ha (.inr (.inr (.inr (.inl ⟨h1, h2⟩))))
    · exact wfr_A S hx ha (.inr (.inl ⟨h1, h2⟩))
  · rcases hn with h2 | h2 | h2 | h2
    · exact wfr_A S hx ha (.inr (.inr (.inr (.inr (.inl ⟨h1, h2⟩)))))
    · exact wfr_D S hx ha (.inl ⟨h1, h2⟩)
    · exact wfr_D S hx ha (.inr (.inl ⟨h1, h2⟩))
    · exact wfr_D S hx ha (.inr (.inr (.inl ⟨h1, h2⟩)))
  · rcases hn with h2 | h2 | h2 | h2
    · exact wfr_A S hx ha (.inr (.inr (.inr (.inr (.inr (.inl ⟨h1, h2⟩))))))
    · exact wfr_A S hx ha (.inr (.inr (.inr (.inr (.inr (.inr (⟨h1, h2⟩)))))))
    · exact wfr_D S hx ha (.inr (.inr (.inr (.inl ⟨h1, h2⟩))))
    · exact wfr_D S hx ha (.inr (.inr (.inr (.inr (.inl ⟨h1, h2⟩)))))
  · rcases hn with h2 | h2 | h2 | h2
    · exact wfr_B S hx ha (.inl ⟨h1, h2⟩)
    · exact wfr_B S hx ha (.inr (.inr (.inl ⟨h1, h2⟩)))
    · exact wfr_D S hx ha (.inr (.inr (.inr (.inr (.inr (.inl ⟨h1, h2⟩))))))
    · exact wfr_D S hx ha (.inr (.inr (.inr (.inr (.inr (.inr (.inl ⟨h1, h2⟩)))))))
  · rcases hn with h2 | h2 | h2 | h2
    · exact wfr_B S hx ha (.inr (.inr (.inr (.inr (.inl ⟨h1, h2⟩)))))
    · exact wfr_C S hx ha (.inl ⟨h1, h2⟩)
    · exact wfr_D S hx ha (.inr (.inr (.inr (.inr (.inr (.inr (.inr (.inl ⟨h1, h2⟩))))))))
    · exact wfr_D S hx ha (.inr (.inr (.inr (.inr (.inr (.inr (.inr (.inr (.inl ⟨h1, h2⟩)))))))))
  · rcases hn with h2 | h2 | h2 | h2
    · exact wfr_B S hx ha (.inr (.inr (.inr (.inr (.inr (.inl ⟨h1, h2⟩))))))
    · exact wfr_C S hx ha (.inr (.inl ⟨h1, h2⟩))
    · exact wfr_D S hx ha (.inr (.inr (.inr (.inr (.inr (.inr (.inr (.inr (.inr (.inl ⟨h1, h2⟩))))))))))
    · exact wfr_D S hx ha (.inr (.inr (.inr (.inr (.inr (.inr (.inr (.inr (.inr (.inr (.inl ⟨h1, h2⟩)))))))))))
  · rcases hn with h2 | h2 | h2 | h2
    · exact wfr_B S hx ha (.inr (.inr (.inr (.inr (.inr (.inr (⟨h1, h2⟩)))))))
    · exact wfr_C S hx ha (.inr (.inr (⟨h1, h2⟩)))
    · exact wfr_D S hx ha (.inr (.inr (.inr (.inr (.inr (.inr (.inr (.inr (.inr (.inr (.inr (.inl ⟨h1, h2⟩))))))))))))
    · exact wfr_D S hx ha (.inr (.inr (.inr (.inr (.inr (.inr (.inr (.inr (.inr (.inr (.inr (.inr (.inl ⟨h1, h2⟩)))))))))))))
  · rcases hn with h2 | h2 | h2 | h2
    · exact wfr_B S hx ha (.inr (.inl ⟨h1, h2⟩))
    · exact wfr_B S hx ha (.inr (.inr (.inr (.inl ⟨h1, h2⟩))))
    · exact wfr_D S hx ha (.inr (.inr (.inr (.inr (.inr (.inr (.inr (.inr (.inr (.inr (.inr (.inr (.inr (.inl ⟨h1, h2⟩))))))))))))))
    · exact wfr_D S hx ha (.inr (.inr (.inr (.inr (.inr (.inr (.inr (.inr (.inr (.inr (.inr (.inr (.inr (.inr (⟨h1, h2⟩)))))))))))))))
end Go.Proofs.YtaeninikaalkjaaGreat
