import Derived.Laws.BitsAllLaws
import Derived.Laws.BitsLemmas
import Derived.Test.YtkmkeleifkkbnaaGreatH14
import Derived.Test.YtkmkeleifkkbnaaGreatH19
import Derived.Test.YtkmkeleifkkbnaaGreatH22
import Derived.Test.YtkmkeleifkkbnaaGreatH28
import Derived.Test.YtkmkeleifkkbnaaGreatH30
import Derived.Test.YtkmkeleifkkbnaaGreatH27
set_option linter.unusedVariables false
set_option linter.unusedSimpArgs false
namespace Go.Proofs.YtkmkeleifkkbnaaGreat
open Go.RowKit
theorem RunR.setA {w : World} {B base : Nat} {A : Option Addr} {l cp : Nat} {nv : Value} {r : LS} (h : RunR w B base A l cp nv r) (v : Int) : RunR (w.setCell ⟨B, 6, none⟩ (.int .u32 v)) B base A l cp nv (r.keepA v) :=
  h.turn ((Only.refl (· = B) w).setCell (p := ⟨B, 6, none⟩) (.inr rfl) _) (h.row.set 6 (.int .u32 v)) rfl rfl
theorem all32 {x : Int} (hx : 0 ≤ x ∧ x < 4294967296) : bits .and .u32 x 4294967295 = x := by
  have := bits_mask .u32 32 (by decide) (fun k h0 h1 => by rw [IntKind.wrap_u32']; omega) 32 (by omega) x hx.1 (by simpa using hx.2)
  have h2 : x % 4294967296 = x := by omega
  simpa [h2] using this
theorem stepI_same {xs : List Int} {n mode i s c : Int} {q q' : Int → Bool} (h : q (wordAt xs c) = q' (wordAt xs c)) : stepI xs n mode i s c q = stepI xs n mode i s c q' := by unfold stepI; rw [h]
end Go.Proofs.YtkmkeleifkkbnaaGreat
set_option linter.unusedVariables false
set_option linter.unusedSimpArgs false
namespace Go.Proofs.YtkmkeleifkkbnaaGreat
open Go.RowKit
theorem uIs_out {v : Int} (hv : 0 ≤ v ∧ v < 4294967296) : uIs 0 65536 0 v = outW v := by
  show (bits .and .u32 v 65536 == 0) = outW v
  rw [bit16 hv.1 hv.2]
  unfold outW
  rcases Int.emod_two_eq (v / 65536) with e | e <;> rw [e] <;> rfl
theorem uIs_z {v : Int} (hv : 0 ≤ v ∧ v < 4294967296) : uIs 0 4294967295 0 v = isZ v := by
  show (bits .and .u32 v 4294967295 == 0) = (v == 0)
  rw [all32 hv]
theorem go_go_self {r : LS} (x : Int) {l : Int} (h : r.line = l) : (r.go x).go l = r := by subst h; rfl
end Go.Proofs.YtkmkeleifkkbnaaGreat
set_option linter.unusedVariables false
set_option linter.unusedSimpArgs false
namespace Go.Proofs.YtkmkeleifkkbnaaGreat
open Go.RowKit
set_option maxRecDepth 100000 in
set_option maxHeartbeats 4000000 in
theorem rfr_1_1 (B base : Nat) (A : Option Addr) (l cp : Nat) (nv : Value) (r : LS) (w : World) (h : RunR w B base A l cp nv r) (hl : r.ns.length ≤ 900) (hx : Words r.xs) (h1 : r.op = 1) (h2 : r.line = 1) :
    Calls Tryz.prog 10 #[Value.pointer (some ⟨B, 0, none⟩)] w (DoneR B base A l cp w (.tuple #[]) r.rf) := by
  rw [rf_1_1 h1 h2]
  have HE := Lib.hid (show r.stepR 0 (uIs 0 65536 0) = r.stepR 0 outW from stepI_same (uIs_out (word_wf hx 0)))
  generalize hsn : (r.stepR 0 outW).seen = sn
  generalize hdn : (r.stepR 0 outW).done = dn
  obtain ⟨r1, hr1⟩ : ∃ r1, r.wait 0 outW = r1 := ⟨_, rfl⟩
  have HL1 := Lib.hid (show r1.ns.length ≤ 900 by rw [← hr1]; exact hl)
  have HW1 := Lib.hid (show r.wait 0 (uIs 0 65536 0) = r1 by rw [← hr1]; unfold LS.wait; rw [HE.out])
  have HSN := Lib.hid (show (r.stepR 0 (uIs 0 65536 0)).seen = sn by rw [HE.out]; exact hsn)
  have HDN := Lib.hid (show (r.stepR 0 (uIs 0 65536 0)).done = dn by rw [HE.out]; exact hdn)
  unfold LS.pAdmit
  rw [hdn, hsn, hr1]
  obtain ⟨RR, hRR⟩ : ∃ RR, (if dn then (r1.noteIf sn 4).fin true else r1.noteIf sn 4) = RR := ⟨_, rfl⟩
  rw [hRR]
  have HRR := Lib.hid hRR
  clear hRR
  clear hr1 hsn hdn HE
  have H1 := Lib.hid h1
  have H2 := Lib.hid h2
  clear h1 h2
  have HX := Lib.hid hx
  have HL := Lib.hid hl
  have HH := Lib.hid h
  clear h hl hx
  have c4 : w.cell? ⟨B, 4, none⟩ = some (.int .i64 (1)) := by rw [← H1.out]; exact HH.out.row.cell_ (i := 4) rfl
  have c5 : w.cell? ⟨B, 5, none⟩ = some (.int .i64 (1)) := by rw [← H2.out]; exact HH.out.row.cell_ (i := 5) rfl
  go_enter Tryz.func10, Tryz.ntmps10
  go_upto_region 3 with (fail)
  have hw1 : IntKind.i64.wrap (10) = 10 := rfl
  have hw2 : IntKind.i64.wrap (11) = 11 := rfl
  refine wp_region_phase (n := 10) 9 (fun w => w.cell? ⟨B, 4, none⟩ = some (.int .i64 (1)) ∧ w.cell? ⟨B, 5, none⟩ = some (.int .i64 (1))) rfl (by kernel_rfl) ⟨c4, c5⟩ (fun hHeld => ?_)
  have HP0 := Lib.hid (HH.out.keep (Only.refl Nil w).drew)
  have HO0 := Lib.hid ((Only.refl (TurnB B A) w).drew)
  clear HH c4 c5
  generalize w.drew = w2 at *
  refine za 0 rfl ?_
  refine za 1 rfl ?_
  refine za 2 rfl ?_
  refine zt 3 rfl ?_
  refine mpa 4 rfl (.int .i64 (10)) (fun w => ?_) ?_
  · go_simp
  refine za 5 rfl ?_
  refine za 6 rfl ?_
  refine za 7 rfl ?_
  refine zt 8 rfl ?_
  refine mpc 9 rfl (by kernel_rfl) (by rfl) (fun K hK => ?_)
  go_simp
  refine hK.out _ _ (.inl (by kernel_rfl)) ?_
  clear hK K hHeld hw1 hw2
  refine wpAnyP_done (by kernel_rfl) ?_ _
  go_wp2_with fail
  refine (rwait_run B base A l cp nv r 0 0 65536 0 _ HP0.out HX.out).mono ?_
  rw [HSN.out, HDN.out, HW1.out]
  clear HSN HDN HW1
  rintro e w3_ ⟨rfl, hO, nv3, hP⟩
  have HO3 := Lib.hid (HO0.out.trans hO)
  have HP3 := Lib.hid hP
  clear hO hP HP0 HO0
  cases sn
  all_goals cases dn
  · have eR : r1 = RR := HRR.out
    subst eR
    go_wp2
    go_returns
    exact ⟨rfl, HO3.out, nv3, HP3.out⟩
  · have eR : (r1).fin true = RR := HRR.out
    subst eR
    go_wp2_with fail
    refine (rend_run B base A l cp nv3 _ _ true HP3.out).mono ?_
    rintro e w5_ ⟨rfl, hO, nv5, hP⟩
    have HO5 := Lib.hid (HO3.out.trans hO)
    have HP5 := Lib.hid hP
    clear hO hP HP3 HO3
    go_wp2
    go_returns
    exact ⟨rfl, HO5.out, nv5, HP5.out⟩
  · have eR : (r1).note 4 0 = RR := HRR.out
    subst eR
    go_wp2_with fail
    refine (rnote_run B base A l cp nv3 _ 4 0 _ HP3.out (Nat.le_trans HL1.out (by decide))).mono ?_
    rintro e w4_ ⟨rfl, hO, nv4, hP⟩
    have HO4 := Lib.hid (HO3.out.trans hO)
    have HP4 := Lib.hid hP
    clear hO hP HP3 HO3
    go_wp2
    go_returns
    exact ⟨rfl, HO4.out, nv4, HP4.out⟩
  · have eR : ((r1).note 4 0).fin true = RR := HRR.out
    subst eR
    go_wp2_with fail
    refine (rnote_run B base A l cp nv3 _ 4 0 _ HP3.out (Nat.le_trans HL1.out (by decide))).mono ?_
    rintro e w4_ ⟨rfl, hO, nv4, hP⟩
    have HO4 := Lib.hid (HO3.out.trans hO)
    have HP4 := Lib.hid hP
    clear hO hP HP3 HO3
    go_wp2_with fail
    refine (rend_run B base A l cp nv4 _ _ true HP4.out).mono ?_
    rintro e w5_ ⟨rfl, hO, nv5, hP⟩
    have HO5 := Lib.hid (HO4.out.trans hO)
    have HP5 := Lib.hid hP
    clear hO hP HP4 HO4
    go_wp2
    go_returns
    exact ⟨rfl, HO5.out, nv5, HP5.out⟩
set_option maxRecDepth 100000 in
set_option maxHeartbeats 4000000 in
theorem rfr_4_0 (B base : Nat) (A : Option Addr) (l cp : Nat) (nv : Value) (r : LS) (w : World) (h : RunR w B base A l cp nv r) (hl : r.ns.length ≤ 900) (hx : Words r.xs) (h1 : r.op = 4) (h2 : r.line = 0) :
    Calls Tryz.prog 10 #[Value.pointer (some ⟨B, 0, none⟩)] w (DoneR B base A l cp w (.tuple #[]) r.rf) := by
  rw [rf_4_0 h1 h2]
  obtain ⟨r1, hr1⟩ : ∃ r1, r.doA 3 0 4294901760 0 = r1 := ⟨_, rfl⟩
  have HR1 := Lib.hid hr1
  have HL1 := Lib.hid (show r1.ns.length ≤ 900 by rw [← hr1]; exact hl)
  unfold LS.fLeave
  rw [hr1]
  clear hr1
  have H1 := Lib.hid h1
  have H2 := Lib.hid h2
  clear h1 h2
  have HX := Lib.hid hx
  have HL := Lib.hid hl
  have HH := Lib.hid h
  clear h hl hx
  have c4 : w.cell? ⟨B, 4, none⟩ = some (.int .i64 (4)) := by rw [← H1.out]; exact HH.out.row.cell_ (i := 4) rfl
  have c5 : w.cell? ⟨B, 5, none⟩ = some (.int .i64 (0)) := by rw [← H2.out]; exact HH.out.row.cell_ (i := 5) rfl
  go_enter Tryz.func10, Tryz.ntmps10
  go_upto_region 3 with (fail)
  have hw1 : IntKind.i64.wrap (40) = 40 := rfl
  have hw2 : IntKind.i64.wrap (40) = 40 := rfl
  refine wp_region_phase (n := 10) 9 (fun w => w.cell? ⟨B, 4, none⟩ = some (.int .i64 (4)) ∧ w.cell? ⟨B, 5, none⟩ = some (.int .i64 (0))) rfl (by kernel_rfl) ⟨c4, c5⟩ (fun hHeld => ?_)
  have HP0 := Lib.hid (HH.out.keep (Only.refl Nil w).drew)
  have HO0 := Lib.hid ((Only.refl (TurnB B A) w).drew)
  clear HH c4 c5
  generalize w.drew = w2 at *
  refine za 0 rfl ?_
  refine za 1 rfl ?_
  refine za 2 rfl ?_
  refine zt 3 rfl ?_
  refine mpa 4 rfl (.int .i64 (40)) (fun w => ?_) ?_
  · go_simp
  refine za 5 rfl ?_
  refine za 6 rfl ?_
  refine za 7 rfl ?_
  refine zt 8 rfl ?_
  refine mpc 9 rfl (by kernel_rfl) (by rfl) (fun K hK => ?_)
  go_simp
  refine hK.out _ _ (.inl (by kernel_rfl)) ?_
  clear hK K hHeld hw1 hw2
  refine wpAnyP_done (by kernel_rfl) ?_ _
  go_wp2_with fail
  refine (radd_run B base A l cp nv r 0 4294901760 _ HP0.out).mono ?_
  rintro e w1_ ⟨rfl, hO, nv1, hP⟩
  have HO1 := Lib.hid (HO0.out.trans hO)
  have HP1 := Lib.hid hP
  clear hO hP HP0 HO0
  rw [HR1.out] at HP1
  go_wp2_with fail
  refine (rnote_run B base A l cp nv1 _ 7 0 _ HP1.out (Nat.le_trans HL1.out (by decide))).mono ?_
  rintro e w2_ ⟨rfl, hO, nv2, hP⟩
  have HO2 := Lib.hid (HO1.out.trans hO)
  have HP2 := Lib.hid hP
  clear hO hP HP1 HO1
  go_wp2_with fail
  refine (rnote_run B base A l cp nv2 _ 8 0 _ HP2.out (by have := HL1.out; simp only [LS.note, LS.go, List.length_append, List.length_cons, List.length_nil]; omega)).mono ?_
  rintro e w3_ ⟨rfl, hO, nv3, hP⟩
  have HO3 := Lib.hid (HO2.out.trans hO)
  have HP3 := Lib.hid hP
  clear hO hP HP2 HO2
  go_wp2_with fail
  refine (rwake_run B base A l cp nv3 _ 0 _ HP3.out).mono ?_
  rintro e w4_ ⟨rfl, hO, nv4, hP⟩
  have HO4 := Lib.hid (HO3.out.trans hO)
  have HP4 := Lib.hid hP
  clear hO hP HP3 HO3
  go_wp2_with fail
  refine (rend_run B base A l cp nv4 _ _ true HP4.out).mono ?_
  rintro e w5_ ⟨rfl, hO, nv5, hP⟩
  have HO5 := Lib.hid (HO4.out.trans hO)
  have HP5 := Lib.hid hP
  clear hO hP HP4 HO4
  go_wp2
  go_returns
  exact ⟨rfl, HO5.out, nv5, HP5.out⟩
set_option maxRecDepth 100000 in
set_option maxHeartbeats 4000000 in
theorem rfr_8_0 (B base : Nat) (A : Option Addr) (l cp : Nat) (nv : Value) (r : LS) (w : World) (h : RunR w B base A l cp nv r) (hl : r.ns.length ≤ 900) (hx : Words r.xs) (h1 : r.op = 8) (h2 : r.line = 0) :
    Calls Tryz.prog 10 #[Value.pointer (some ⟨B, 0, none⟩)] w (DoneR B base A l cp w (.tuple #[]) r.rf) := by
  rw [rf_8_0 h1 h2]
  obtain ⟨r1, hr1⟩ : ∃ r1, r.doA 3 0 4294901761 0 = r1 := ⟨_, rfl⟩
  have HR1 := Lib.hid hr1
  have HL1 := Lib.hid (show r1.ns.length ≤ 900 by rw [← hr1]; exact hl)
  unfold LS.fDown
  rw [hr1]
  clear hr1
  have H1 := Lib.hid h1
  have H2 := Lib.hid h2
  clear h1 h2
  have HX := Lib.hid hx
  have HL := Lib.hid hl
  have HH := Lib.hid h
  clear h hl hx
  have c4 : w.cell? ⟨B, 4, none⟩ = some (.int .i64 (8)) := by rw [← H1.out]; exact HH.out.row.cell_ (i := 4) rfl
  have c5 : w.cell? ⟨B, 5, none⟩ = some (.int .i64 (0)) := by rw [← H2.out]; exact HH.out.row.cell_ (i := 5) rfl
  go_enter Tryz.func10, Tryz.ntmps10
  go_upto_region 3 with (fail)
  have hw1 : IntKind.i64.wrap (80) = 80 := rfl
  have hw2 : IntKind.i64.wrap (80) = 80 := rfl
  refine wp_region_phase (n := 10) 9 (fun w => w.cell? ⟨B, 4, none⟩ = some (.int .i64 (8)) ∧ w.cell? ⟨B, 5, none⟩ = some (.int .i64 (0))) rfl (by kernel_rfl) ⟨c4, c5⟩ (fun hHeld => ?_)
  have HP0 := Lib.hid (HH.out.keep (Only.refl Nil w).drew)
  have HO0 := Lib.hid ((Only.refl (TurnB B A) w).drew)
  clear HH c4 c5
  generalize w.drew = w2 at *
  refine za 0 rfl ?_
  refine za 1 rfl ?_
  refine za 2 rfl ?_
  refine zt 3 rfl ?_
  refine mpa 4 rfl (.int .i64 (80)) (fun w => ?_) ?_
  · go_simp
  refine za 5 rfl ?_
  refine za 6 rfl ?_
  refine za 7 rfl ?_
  refine zt 8 rfl ?_
  refine mpc 9 rfl (by kernel_rfl) (by rfl) (fun K hK => ?_)
  go_simp
  refine hK.out _ _ (.inl (by kernel_rfl)) ?_
  clear hK K hHeld hw1 hw2
  refine wpAnyP_done (by kernel_rfl) ?_ _
  go_wp2_with fail
  refine (radd_run B base A l cp nv r 0 4294901761 _ HP0.out).mono ?_
  rintro e w1_ ⟨rfl, hO, nv1, hP⟩
  have HO1 := Lib.hid (HO0.out.trans hO)
  have HP1 := Lib.hid hP
  clear hO hP HP0 HO0
  rw [HR1.out] at HP1
  go_wp2_with fail
  refine (rnote_run B base A l cp nv1 _ 10 0 _ HP1.out (Nat.le_trans HL1.out (by decide))).mono ?_
  rintro e w2_ ⟨rfl, hO, nv2, hP⟩
  have HO2 := Lib.hid (HO1.out.trans hO)
  have HP2 := Lib.hid hP
  clear hO hP HP1 HO1
  go_wp2_with fail
  refine (rwake_run B base A l cp nv2 _ 0 _ HP2.out).mono ?_
  rintro e w3_ ⟨rfl, hO, nv3, hP⟩
  have HO3 := Lib.hid (HO2.out.trans hO)
  have HP3 := Lib.hid hP
  clear hO hP HP2 HO2
  go_wp2_with fail
  refine (rend_run B base A l cp nv3 _ _ true HP3.out).mono ?_
  rintro e w4_ ⟨rfl, hO, nv4, hP⟩
  have HO4 := Lib.hid (HO3.out.trans hO)
  have HP4 := Lib.hid hP
  clear hO hP HP3 HO3
  go_wp2
  go_returns
  exact ⟨rfl, HO4.out, nv4, HP4.out⟩
set_option maxRecDepth 100000 in
set_option maxHeartbeats 4000000 in
theorem rfr_5_1 (B base : Nat) (A : Option Addr) (l cp : Nat) (nv : Value) (r : LS) (w : World) (h : RunR w B base A l cp nv r) (hl : r.ns.length ≤ 900) (hx : Words r.xs) (h1 : r.op = 5) (h2 : r.line = 1) :
    Calls Tryz.prog 10 #[Value.pointer (some ⟨B, 0, none⟩)] w (DoneR B base A l cp w (.tuple #[]) r.rf) := by
  rw [rf_5_1 h1 h2]
  obtain ⟨r1, hr1⟩ : ∃ r1, r.doA 5 0 (r.a) ((r.a + 1) % 4294967296) = r1 := ⟨_, rfl⟩
  have HR1 := Lib.hid hr1
  have HL1 := Lib.hid (show r1.ns.length ≤ 900 by rw [← hr1]; exact hl)
  have HG := Lib.hid (show (r.go 0).doA 5 0 (r.a) ((r.a + 1) % 4294967296) = r1.go 0 by rw [← hr1]; rfl)
  have HLN := Lib.hid (go_go_self (r := r1) 0 (show r1.line = 1 by rw [← hr1]; exact h2))
  unfold LS.fSlip
  rw [hr1]
  clear hr1 HR1
  obtain ⟨cl, hcl⟩ : ∃ cl, r.at0 (r.a) = cl := ⟨_, rfl⟩
  rw [hcl]
  have HCL := Lib.hid (show (there (r.go 0).xs 0 && (wordAt (r.go 0).xs 0 == (r.a))) = cl from hcl)
  clear hcl
  obtain ⟨RR, hRR⟩ : ∃ RR, (if cl then (((r1).note 2 1).note 4 0).fin true else r1.go 0) = RR := ⟨_, rfl⟩
  rw [hRR]
  have HRR := Lib.hid hRR
  clear hRR
  have H1 := Lib.hid h1
  have H2 := Lib.hid h2
  clear h1 h2
  have HX := Lib.hid hx
  have HL := Lib.hid hl
  have HH := Lib.hid h
  clear h hl hx
  have c4 : w.cell? ⟨B, 4, none⟩ = some (.int .i64 (5)) := by rw [← H1.out]; exact HH.out.row.cell_ (i := 4) rfl
  have c5 : w.cell? ⟨B, 5, none⟩ = some (.int .i64 (1)) := by rw [← H2.out]; exact HH.out.row.cell_ (i := 5) rfl
  go_enter Tryz.func10, Tryz.ntmps10
  go_upto_region 3 with (fail)
  have hw1 : IntKind.i64.wrap (50) = 50 := rfl
  have hw2 : IntKind.i64.wrap (51) = 51 := rfl
  refine wp_region_phase (n := 10) 9 (fun w => w.cell? ⟨B, 4, none⟩ = some (.int .i64 (5)) ∧ w.cell? ⟨B, 5, none⟩ = some (.int .i64 (1))) rfl (by kernel_rfl) ⟨c4, c5⟩ (fun hHeld => ?_)
  have HP0 := Lib.hid (HH.out.keep (Only.refl Nil w).drew)
  have HO0 := Lib.hid ((Only.refl (TurnB B A) w).drew)
  clear HH c4 c5
  generalize w.drew = w2 at *
  refine za 0 rfl ?_
  refine za 1 rfl ?_
  refine za 2 rfl ?_
  refine zt 3 rfl ?_
  refine mpa 4 rfl (.int .i64 (50)) (fun w => ?_) ?_
  · go_simp
  refine za 5 rfl ?_
  refine za 6 rfl ?_
  refine za 7 rfl ?_
  refine zt 8 rfl ?_
  refine mpc 9 rfl (by kernel_rfl) (by rfl) (fun K hK => ?_)
  go_simp
  refine hK.out _ _ (.inl (by kernel_rfl)) ?_
  clear hK K hHeld hw1 hw2
  refine wpAnyP_done (by kernel_rfl) ?_ _
  have c5 : w2.cell? ⟨B, 5, none⟩ = some (.int .i64 (r.line)) := HP0.out.row.cell_ (i := 5) rfl
  have f5 : w2.frozen? ⟨B, 5, none⟩ = false := HP0.out.row.frozen 5
  go_upto_region 59 with (fail)
  clear c5 f5
  have HP1 := Lib.hid (HP0.out.setLine 0)
  have HO1 := Lib.hid (HO0.out.setCell (p := ⟨B, 5, none⟩) (.inr (.inl rfl)) (.int .i64 0))
  clear HP0 HO0
  generalize w2.setCell ⟨B, 5, none⟩ (.int .i64 0) = w4 at *
  have hx1 : IntKind.u32.wrap (r.a + 1) = (r.a + 1) % 4294967296 := rfl
  have c6 : w4.cell? ⟨B, 6, none⟩ = some (.int .u32 r.a) := HP1.out.row.cell_ (i := 6) rfl
  refine wp_region_phase (n := 11) 10 (fun w => w.cell? ⟨B, 6, none⟩ = some (.int .u32 r.a)) rfl (by kernel_rfl) c6 (fun hHeld => ?_)
  clear c6
  have HP2 := Lib.hid (HP1.out.keep (Only.refl Nil w4).drew)
  have HO2 := Lib.hid HO1.out.drew
  clear HP1 HO1
  generalize w4.drew = w5 at *
  refine za 0 rfl ?_
  refine za 1 rfl ?_
  refine za 2 rfl ?_
  refine za 3 rfl ?_
  refine zt 4 rfl ?_
  refine za 5 rfl ?_
  refine za 6 rfl ?_
  refine za 7 rfl ?_
  refine zt 8 rfl ?_
  refine mpa 9 rfl (.int .u32 ((r.a + 1) % 4294967296)) (fun w => ?_) ?_
  · go_simp
  refine mpc 10 rfl (by kernel_rfl) (by rfl) (fun K hK => ?_)
  go_simp
  refine (rcas_run B base A l cp nv _ 0 (r.a) ((r.a + 1) % 4294967296) _ HP2.out).mono ?_
  rw [HCL.out, HG.out]
  rintro e w3_ ⟨rfl, hO, nv3, hP⟩
  have HO3 := Lib.hid (HO2.out.trans hO)
  have HP3 := Lib.hid hP
  clear hO hP HP2 HO2
  refine hK.out _ _ (.inl (by kernel_rfl)) ?_
  clear hK K hHeld hx1
  refine wpAnyP_done (by kernel_rfl) ?_ _
  cases cl
  · have eR : r1.go 0 = RR := HRR.out
    subst eR
    go_wp2
    go_returns
    exact ⟨rfl, HO3.out, nv3, HP3.out⟩
  · have eR : (((r1).note 2 1).note 4 0).fin true = RR := HRR.out
    subst eR
    have c5 : w3_.cell? ⟨B, 5, none⟩ = some (.int .i64 ((r1.go 0).line)) := HP3.out.row.cell_ (i := 5) rfl
    have f5 : w3_.frozen? ⟨B, 5, none⟩ = false := HP3.out.row.frozen 5
    go_upto_region 61 with (fail)
    clear c5 f5
    have HP4 := Lib.hid (HP3.out.setLine 1)
    have HO4 := Lib.hid (HO3.out.setCell (p := ⟨B, 5, none⟩) (.inr (.inl rfl)) (.int .i64 1))
    clear HP3 HO3
    rw [HLN.out] at HP4
    generalize w3_.setCell ⟨B, 5, none⟩ (.int .i64 1) = w6 at *
    go_wp2_with fail
    refine (rnote_run B base A l cp nv3 _ 2 1 _ HP4.out (Nat.le_trans HL1.out (by decide))).mono ?_
    rintro e w5_ ⟨rfl, hO, nv5, hP⟩
    have HO5 := Lib.hid (HO4.out.trans hO)
    have HP5 := Lib.hid hP
    clear hO hP HP4 HO4
    go_wp2_with fail
    refine (rnote_run B base A l cp nv5 _ 4 0 _ HP5.out (by have := HL1.out; simp only [LS.note, LS.go, List.length_append, List.length_cons, List.length_nil]; omega)).mono ?_
    rintro e w6_ ⟨rfl, hO, nv6, hP⟩
    have HO6 := Lib.hid (HO5.out.trans hO)
    have HP6 := Lib.hid hP
    clear hO hP HP5 HO5
    go_wp2_with fail
    refine (rend_run B base A l cp nv6 _ _ true HP6.out).mono ?_
    rintro e w7_ ⟨rfl, hO, nv7, hP⟩
    have HO7 := Lib.hid (HO6.out.trans hO)
    have HP7 := Lib.hid hP
    clear hO hP HP6 HO6
    go_wp2
    go_returns
    exact ⟨rfl, HO7.out, nv7, HP7.out⟩
end Go.Proofs.YtkmkeleifkkbnaaGreat
set_option linter.unusedVariables false
set_option linter.unusedSimpArgs false
namespace Go.Proofs.YtkmkeleifkkbnaaGreat
open Go.RowKit
set_option maxRecDepth 100000 in
set_option maxHeartbeats 4000000 in
theorem rfr_1_0 (B base : Nat) (A : Option Addr) (l cp : Nat) (nv : Value) (r : LS) (w : World) (h : RunR w B base A l cp nv r) (hl : r.ns.length ≤ 900) (hx : Words r.xs) (h1 : r.op = 1) (h2 : r.line = 0) :
    Calls Tryz.prog 10 #[Value.pointer (some ⟨B, 0, none⟩)] w (DoneR B base A l cp w (.tuple #[]) r.rf) := by
  rw [rf_1_0 h1 h2]
  obtain ⟨r1, hr1⟩ : ∃ r1, (r.doA 3 0 1 0).keepA (wordAt r.xs 0) = r1 := ⟨_, rfl⟩
  have HR1 := Lib.hid hr1
  have HL1 := Lib.hid (show r1.ns.length ≤ 900 by rw [← hr1]; exact hl)
  have HA1 := Lib.hid (show r1.a = wordAt r.xs 0 by rw [← hr1]; rfl)
  unfold LS.fCome
  rw [hr1]
  clear hr1
  have hv := word_wf hx 0
  have hb := bit16 hv.1 hv.2
  have HZ := Lib.hid (show (wordAt r.xs 0 / 65536 % 2 * 65536 == 0) = outW (wordAt r.xs 0) by unfold outW; rcases Int.emod_two_eq (wordAt r.xs 0 / 65536) with e | e <;> rw [e] <;> rfl)
  have HB := Lib.hid hb
  clear hv hb
  obtain ⟨RR, hRR⟩ : ∃ RR, (if outW (wordAt r.xs 0) then ((r1.note 2 1).note 4 0).fin true else (r1.note 2 1).go 1) = RR := ⟨_, rfl⟩
  rw [hRR]
  have HRR := Lib.hid hRR
  clear hRR
  have H1 := Lib.hid h1
  have H2 := Lib.hid h2
  clear h1 h2
  have HX := Lib.hid hx
  have HL := Lib.hid hl
  have HH := Lib.hid h
  clear h hl hx
  have c4 : w.cell? ⟨B, 4, none⟩ = some (.int .i64 (1)) := by rw [← H1.out]; exact HH.out.row.cell_ (i := 4) rfl
  have c5 : w.cell? ⟨B, 5, none⟩ = some (.int .i64 (0)) := by rw [← H2.out]; exact HH.out.row.cell_ (i := 5) rfl
  go_enter Tryz.func10, Tryz.ntmps10
  go_upto_region 3 with (fail)
  have hw1 : IntKind.i64.wrap (10) = 10 := rfl
  have hw2 : IntKind.i64.wrap (10) = 10 := rfl
  refine wp_region_phase (n := 10) 9 (fun w => w.cell? ⟨B, 4, none⟩ = some (.int .i64 (1)) ∧ w.cell? ⟨B, 5, none⟩ = some (.int .i64 (0))) rfl (by kernel_rfl) ⟨c4, c5⟩ (fun hHeld => ?_)
  have HP0 := Lib.hid (HH.out.keep (Only.refl Nil w).drew)
  have HO0 := Lib.hid ((Only.refl (TurnB B A) w).drew)
  clear HH c4 c5
  generalize w.drew = w2 at *
  refine za 0 rfl ?_
  refine za 1 rfl ?_
  refine za 2 rfl ?_
  refine zt 3 rfl ?_
  refine mpa 4 rfl (.int .i64 (10)) (fun w => ?_) ?_
  · go_simp
  refine za 5 rfl ?_
  refine za 6 rfl ?_
  refine za 7 rfl ?_
  refine zt 8 rfl ?_
  refine mpc 9 rfl (by kernel_rfl) (by rfl) (fun K hK => ?_)
  go_simp
  refine hK.out _ _ (.inl (by kernel_rfl)) ?_
  clear hK K hHeld hw1 hw2
  refine wpAnyP_done (by kernel_rfl) ?_ _
  go_wp2_with fail
  refine (radd_run B base A l cp nv r 0 1 _ HP0.out).mono ?_
  rintro e w1_ ⟨rfl, hO, nv1, hP⟩
  have HO1 := Lib.hid (HO0.out.trans hO)
  have HP1 := Lib.hid hP
  clear hO hP HP0 HO0
  have c6 : w1_.cell? ⟨B, 6, none⟩ = some (.int .u32 r.a) := HP1.out.row.cell_ (i := 6) rfl
  have f6 : w1_.frozen? ⟨B, 6, none⟩ = false := HP1.out.row.frozen 6
  go_upto_region 6 with (fail)
  clear c6 f6
  have HP2 := Lib.hid (HP1.out.setA (wordAt r.xs 0))
  have HO2 := Lib.hid (HO1.out.setCell (p := ⟨B, 6, none⟩) (.inr (.inl rfl)) (.int .u32 (wordAt r.xs 0)))
  clear HP1 HO1
  rw [HR1.out] at HP2
  generalize w1_.setCell ⟨B, 6, none⟩ (.int .u32 (wordAt r.xs 0)) = w4 at *
  go_wp2_with fail
  refine (rnote_run B base A l cp nv1 _ 2 1 _ HP2.out (Nat.le_trans HL1.out (by decide))).mono ?_
  rintro e w5_ ⟨rfl, hO, nv5, hP⟩
  have HO5 := Lib.hid (HO2.out.trans hO)
  have HP5 := Lib.hid hP
  clear hO hP HP2 HO2
  have c6 : w5_.cell? ⟨B, 6, none⟩ = some (.int .u32 (wordAt r.xs 0)) := by rw [← HA1.out]; exact HP5.out.row.cell_ (i := 6) rfl
  obtain ⟨q, hq⟩ : ∃ q, outW (wordAt r.xs 0) = q := ⟨_, rfl⟩
  have hb := HB.out
  have hz : (wordAt r.xs 0 / 65536 % 2 * 65536 == 0) = q := HZ.out.trans hq
  have hRR := HRR.out
  rw [hq] at hRR
  generalize wordAt r.xs 0 / 65536 % 2 * 65536 = z at *
  clear hq HB HZ HRR
  cases q
  · have eR : (r1.note 2 1).go 1 = RR := hRR
    clear hRR
    subst eR
    have c5 : w5_.cell? ⟨B, 5, none⟩ = some (.int .i64 ((r1.note 2 1).line)) := HP5.out.row.cell_ (i := 5) rfl
    have f5 : w5_.frozen? ⟨B, 5, none⟩ = false := HP5.out.row.frozen 5
    go_wp2
    clear c5 f5 c6 hb hz
    have HPZ := Lib.hid (HP5.out.setLine 1)
    have HOZ := Lib.hid (HO5.out.setCell (p := ⟨B, 5, none⟩) (.inr (.inl rfl)) (.int .i64 1))
    go_returns
    exact ⟨rfl, HOZ.out, nv5, HPZ.out⟩
  · have eR : ((r1.note 2 1).note 4 0).fin true = RR := hRR
    clear hRR
    subst eR
    go_wp2_with fail
    clear c6 hb hz
    refine (rnote_run B base A l cp nv5 _ 4 0 _ HP5.out (by have := HL1.out; simp only [LS.note, LS.go, List.length_append, List.length_cons, List.length_nil]; omega)).mono ?_
    rintro e w6_ ⟨rfl, hO, nv6, hP⟩
    have HO6 := Lib.hid (HO5.out.trans hO)
    have HP6 := Lib.hid hP
    clear hO hP HP5 HO5
    go_wp2_with fail
    refine (rend_run B base A l cp nv6 _ _ true HP6.out).mono ?_
    rintro e w7_ ⟨rfl, hO, nv7, hP⟩
    have HO7 := Lib.hid (HO6.out.trans hO)
    have HP7 := Lib.hid hP
    clear hO hP HP6 HO6
    go_wp2
    go_returns
    exact ⟨rfl, HO7.out, nv7, HP7.out⟩
set_option maxRecDepth 100000 in
set_option maxHeartbeats 4000000 in
theorem rfr_3_1 (B base : Nat) (A : Option Addr) (l cp : Nat) (nv : Value) (r : LS) (w : World) (h : RunR w B base A l cp nv r) (hl : r.ns.length ≤ 900) (hx : Words r.xs) (h1 : r.op = 3) (h2 : r.line = 1) :
    Calls Tryz.prog 10 #[Value.pointer (some ⟨B, 0, none⟩)] w (DoneR B base A l cp w (.tuple #[]) r.rf) := by
  rw [rf_3_1 h1 h2]
  obtain ⟨r1, hr1⟩ : ∃ r1, r.doA 5 0 (0) (65536) = r1 := ⟨_, rfl⟩
  have HR1 := Lib.hid hr1
  have HL1 := Lib.hid (show r1.ns.length ≤ 900 by rw [← hr1]; exact hl)
  have HG := Lib.hid (show (r.go 2).doA 5 0 (0) (65536) = r1.go 2 by rw [← hr1]; rfl)
  have HLN := Lib.hid (go_go_self (r := r1) 2 (show r1.line = 1 by rw [← hr1]; exact h2))
  unfold LS.fTake
  rw [hr1]
  clear hr1 HR1
  obtain ⟨cl, hcl⟩ : ∃ cl, r.at0 (0) = cl := ⟨_, rfl⟩
  rw [hcl]
  have HCL := Lib.hid (show (there (r.go 2).xs 0 && (wordAt (r.go 2).xs 0 == (0))) = cl from hcl)
  clear hcl
  obtain ⟨RR, hRR⟩ : ∃ RR, (if cl then ((r1).note 4 0).fin true else r1.go 2) = RR := ⟨_, rfl⟩
  rw [hRR]
  have HRR := Lib.hid hRR
  clear hRR
  have H1 := Lib.hid h1
  have H2 := Lib.hid h2
  clear h1 h2
  have HX := Lib.hid hx
  have HL := Lib.hid hl
  have HH := Lib.hid h
  clear h hl hx
  have c4 : w.cell? ⟨B, 4, none⟩ = some (.int .i64 (3)) := by rw [← H1.out]; exact HH.out.row.cell_ (i := 4) rfl
  have c5 : w.cell? ⟨B, 5, none⟩ = some (.int .i64 (1)) := by rw [← H2.out]; exact HH.out.row.cell_ (i := 5) rfl
  go_enter Tryz.func10, Tryz.ntmps10
  go_upto_region 3 with (fail)
  have hw1 : IntKind.i64.wrap (30) = 30 := rfl
  have hw2 : IntKind.i64.wrap (31) = 31 := rfl
  refine wp_region_phase (n := 10) 9 (fun w => w.cell? ⟨B, 4, none⟩ = some (.int .i64 (3)) ∧ w.cell? ⟨B, 5, none⟩ = some (.int .i64 (1))) rfl (by kernel_rfl) ⟨c4, c5⟩ (fun hHeld => ?_)
  have HP0 := Lib.hid (HH.out.keep (Only.refl Nil w).drew)
  have HO0 := Lib.hid ((Only.refl (TurnB B A) w).drew)
  clear HH c4 c5
  generalize w.drew = w2 at *
  refine za 0 rfl ?_
  refine za 1 rfl ?_
  refine za 2 rfl ?_
  refine zt 3 rfl ?_
  refine mpa 4 rfl (.int .i64 (30)) (fun w => ?_) ?_
  · go_simp
  refine za 5 rfl ?_
  refine za 6 rfl ?_
  refine za 7 rfl ?_
  refine zt 8 rfl ?_
  refine mpc 9 rfl (by kernel_rfl) (by rfl) (fun K hK => ?_)
  go_simp
  refine hK.out _ _ (.inl (by kernel_rfl)) ?_
  clear hK K hHeld hw1 hw2
  refine wpAnyP_done (by kernel_rfl) ?_ _
  have c5 : w2.cell? ⟨B, 5, none⟩ = some (.int .i64 (r.line)) := HP0.out.row.cell_ (i := 5) rfl
  have f5 : w2.frozen? ⟨B, 5, none⟩ = false := HP0.out.row.frozen 5
  go_upto_region 30 with (fail)
  clear c5 f5
  have HP1 := Lib.hid (HP0.out.setLine 2)
  have HO1 := Lib.hid (HO0.out.setCell (p := ⟨B, 5, none⟩) (.inr (.inl rfl)) (.int .i64 2))
  clear HP0 HO0
  generalize w2.setCell ⟨B, 5, none⟩ (.int .i64 2) = w4 at *
  go_wp2_with fail
  refine (rcas_run B base A l cp nv _ 0 (0) (65536) _ HP1.out).mono ?_
  rw [HCL.out, HG.out]
  rintro e w3_ ⟨rfl, hO, nv3, hP⟩
  have HO3 := Lib.hid (HO1.out.trans hO)
  have HP3 := Lib.hid hP
  clear hO hP HP1 HO1
  cases cl
  · have eR : r1.go 2 = RR := HRR.out
    subst eR
    go_wp2
    go_returns
    exact ⟨rfl, HO3.out, nv3, HP3.out⟩
  · have eR : ((r1).note 4 0).fin true = RR := HRR.out
    subst eR
    have c5 : w3_.cell? ⟨B, 5, none⟩ = some (.int .i64 ((r1.go 2).line)) := HP3.out.row.cell_ (i := 5) rfl
    have f5 : w3_.frozen? ⟨B, 5, none⟩ = false := HP3.out.row.frozen 5
    go_upto_region 32 with (fail)
    clear c5 f5
    have HP4 := Lib.hid (HP3.out.setLine 1)
    have HO4 := Lib.hid (HO3.out.setCell (p := ⟨B, 5, none⟩) (.inr (.inl rfl)) (.int .i64 1))
    clear HP3 HO3
    rw [HLN.out] at HP4
    generalize w3_.setCell ⟨B, 5, none⟩ (.int .i64 1) = w6 at *
    go_wp2_with fail
    refine (rnote_run B base A l cp nv3 _ 4 0 _ HP4.out (Nat.le_trans HL1.out (by decide))).mono ?_
    rintro e w5_ ⟨rfl, hO, nv5, hP⟩
    have HO5 := Lib.hid (HO4.out.trans hO)
    have HP5 := Lib.hid hP
    clear hO hP HP4 HO4
    go_wp2_with fail
    refine (rend_run B base A l cp nv5 _ _ true HP5.out).mono ?_
    rintro e w6_ ⟨rfl, hO, nv6, hP⟩
    have HO6 := Lib.hid (HO5.out.trans hO)
    have HP6 := Lib.hid hP
    clear hO hP HP5 HO5
    go_wp2
    go_returns
    exact ⟨rfl, HO6.out, nv6, HP6.out⟩
set_option maxRecDepth 100000 in
set_option maxHeartbeats 4000000 in
theorem rfr_6_1 (B base : Nat) (A : Option Addr) (l cp : Nat) (nv : Value) (r : LS) (w : World) (h : RunR w B base A l cp nv r) (hl : r.ns.length ≤ 900) (hx : Words r.xs) (h1 : r.op = 6) (h2 : r.line = 1) :
    Calls Tryz.prog 10 #[Value.pointer (some ⟨B, 0, none⟩)] w (DoneR B base A l cp w (.tuple #[]) r.rf) := by
  rw [rf_6_1 h1 h2]
  obtain ⟨r1, hr1⟩ : ∃ r1, r.doA 5 0 (0) (65536) = r1 := ⟨_, rfl⟩
  have HR1 := Lib.hid hr1
  have HL1 := Lib.hid (show r1.ns.length ≤ 900 by rw [← hr1]; exact hl)
  have HG := Lib.hid (show (r.go 0).doA 5 0 (0) (65536) = r1.go 0 by rw [← hr1]; rfl)
  have HLN := Lib.hid (go_go_self (r := r1) 0 (show r1.line = 1 by rw [← hr1]; exact h2))
  unfold LS.fTry
  rw [hr1]
  clear hr1 HR1
  obtain ⟨cl, hcl⟩ : ∃ cl, r.at0 (0) = cl := ⟨_, rfl⟩
  rw [hcl]
  have HCL := Lib.hid (show (there (r.go 0).xs 0 && (wordAt (r.go 0).xs 0 == (0))) = cl from hcl)
  clear hcl
  obtain ⟨RR, hRR⟩ : ∃ RR, (if cl then (((r1).note 2 2).note 4 0).fin true else r1.go 0) = RR := ⟨_, rfl⟩
  rw [hRR]
  have HRR := Lib.hid hRR
  clear hRR
  have H1 := Lib.hid h1
  have H2 := Lib.hid h2
  clear h1 h2
  have HX := Lib.hid hx
  have HL := Lib.hid hl
  have HH := Lib.hid h
  clear h hl hx
  have c4 : w.cell? ⟨B, 4, none⟩ = some (.int .i64 (6)) := by rw [← H1.out]; exact HH.out.row.cell_ (i := 4) rfl
  have c5 : w.cell? ⟨B, 5, none⟩ = some (.int .i64 (1)) := by rw [← H2.out]; exact HH.out.row.cell_ (i := 5) rfl
  go_enter Tryz.func10, Tryz.ntmps10
  go_upto_region 3 with (fail)
  have hw1 : IntKind.i64.wrap (60) = 60 := rfl
  have hw2 : IntKind.i64.wrap (61) = 61 := rfl
  refine wp_region_phase (n := 10) 9 (fun w => w.cell? ⟨B, 4, none⟩ = some (.int .i64 (6)) ∧ w.cell? ⟨B, 5, none⟩ = some (.int .i64 (1))) rfl (by kernel_rfl) ⟨c4, c5⟩ (fun hHeld => ?_)
  have HP0 := Lib.hid (HH.out.keep (Only.refl Nil w).drew)
  have HO0 := Lib.hid ((Only.refl (TurnB B A) w).drew)
  clear HH c4 c5
  generalize w.drew = w2 at *
  refine za 0 rfl ?_
  refine za 1 rfl ?_
  refine za 2 rfl ?_
  refine zt 3 rfl ?_
  refine mpa 4 rfl (.int .i64 (60)) (fun w => ?_) ?_
  · go_simp
  refine za 5 rfl ?_
  refine za 6 rfl ?_
  refine za 7 rfl ?_
  refine zt 8 rfl ?_
  refine mpc 9 rfl (by kernel_rfl) (by rfl) (fun K hK => ?_)
  go_simp
  refine hK.out _ _ (.inl (by kernel_rfl)) ?_
  clear hK K hHeld hw1 hw2
  refine wpAnyP_done (by kernel_rfl) ?_ _
  have c5 : w2.cell? ⟨B, 5, none⟩ = some (.int .i64 (r.line)) := HP0.out.row.cell_ (i := 5) rfl
  have f5 : w2.frozen? ⟨B, 5, none⟩ = false := HP0.out.row.frozen 5
  go_upto_region 66 with (fail)
  clear c5 f5
  have HP1 := Lib.hid (HP0.out.setLine 0)
  have HO1 := Lib.hid (HO0.out.setCell (p := ⟨B, 5, none⟩) (.inr (.inl rfl)) (.int .i64 0))
  clear HP0 HO0
  generalize w2.setCell ⟨B, 5, none⟩ (.int .i64 0) = w4 at *
  go_wp2_with fail
  refine (rcas_run B base A l cp nv _ 0 (0) (65536) _ HP1.out).mono ?_
  rw [HCL.out, HG.out]
  rintro e w3_ ⟨rfl, hO, nv3, hP⟩
  have HO3 := Lib.hid (HO1.out.trans hO)
  have HP3 := Lib.hid hP
  clear hO hP HP1 HO1
  cases cl
  · have eR : r1.go 0 = RR := HRR.out
    subst eR
    go_wp2
    go_returns
    exact ⟨rfl, HO3.out, nv3, HP3.out⟩
  · have eR : (((r1).note 2 2).note 4 0).fin true = RR := HRR.out
    subst eR
    have c5 : w3_.cell? ⟨B, 5, none⟩ = some (.int .i64 ((r1.go 0).line)) := HP3.out.row.cell_ (i := 5) rfl
    have f5 : w3_.frozen? ⟨B, 5, none⟩ = false := HP3.out.row.frozen 5
    go_upto_region 68 with (fail)
    clear c5 f5
    have HP4 := Lib.hid (HP3.out.setLine 1)
    have HO4 := Lib.hid (HO3.out.setCell (p := ⟨B, 5, none⟩) (.inr (.inl rfl)) (.int .i64 1))
    clear HP3 HO3
    rw [HLN.out] at HP4
    generalize w3_.setCell ⟨B, 5, none⟩ (.int .i64 1) = w6 at *
    go_wp2_with fail
    refine (rnote_run B base A l cp nv3 _ 2 2 _ HP4.out (Nat.le_trans HL1.out (by decide))).mono ?_
    rintro e w5_ ⟨rfl, hO, nv5, hP⟩
    have HO5 := Lib.hid (HO4.out.trans hO)
    have HP5 := Lib.hid hP
    clear hO hP HP4 HO4
    go_wp2_with fail
    refine (rnote_run B base A l cp nv5 _ 4 0 _ HP5.out (by have := HL1.out; simp only [LS.note, LS.go, List.length_append, List.length_cons, List.length_nil]; omega)).mono ?_
    rintro e w6_ ⟨rfl, hO, nv6, hP⟩
    have HO6 := Lib.hid (HO5.out.trans hO)
    have HP6 := Lib.hid hP
    clear hO hP HP5 HO5
    go_wp2_with fail
    refine (rend_run B base A l cp nv6 _ _ true HP6.out).mono ?_
    rintro e w7_ ⟨rfl, hO, nv7, hP⟩
    have HO7 := Lib.hid (HO6.out.trans hO)
    have HP7 := Lib.hid hP
    clear hO hP HP6 HO6
    go_wp2
    go_returns
    exact ⟨rfl, HO7.out, nv7, HP7.out⟩
set_option maxRecDepth 100000 in
set_option maxHeartbeats 4000000 in
theorem rfr_out (B base : Nat) (A : Option Addr) (l cp : Nat) (nv : Value) (r : LS) (w : World) (h : RunR w B base A l cp nv r) (hl : r.ns.length ≤ 900) (hx : Words r.xs) (hh : r.line < 0 ∨ 2 < r.line ∨ r.op < 1 ∨ 8 < r.op) :
    Calls Tryz.prog 10 #[Value.pointer (some ⟨B, 0, none⟩)] w (DoneR B base A l cp w (.tuple #[]) r) := by
  have HH := Lib.hid h
  have c4 : w.cell? ⟨B, 4, none⟩ = some (.int .i64 r.op) := h.row.cell_ (i := 4) rfl
  have c5 : w.cell? ⟨B, 5, none⟩ = some (.int .i64 r.line) := h.row.cell_ (i := 5) rfl
  clear h hl hx
  generalize r.op = ol at *
  generalize r.line = ln at *
  by_cases q0 : ln < 0
  · clear hh
    go_enter Tryz.func10, Tryz.ntmps10
    go_wp2
    go_returns
    exact ⟨rfl, Only.refl _ _, nv, HH.out⟩
  by_cases q1 : 2 < ln
  · clear hh
    go_enter Tryz.func10, Tryz.ntmps10
    go_wp2
    go_returns
    exact ⟨rfl, Only.refl _ _, nv, HH.out⟩
  by_cases q2 : ol < 1
  · clear hh
    go_enter Tryz.func10, Tryz.ntmps10
    go_wp2
    go_returns
    exact ⟨rfl, Only.refl _ _, nv, HH.out⟩
  · have q3 : 8 < ol := by omega
    clear hh
    go_enter Tryz.func10, Tryz.ntmps10
    go_wp2
    go_returns
    exact ⟨rfl, Only.refl _ _, nv, HH.out⟩
end Go.Proofs.YtkmkeleifkkbnaaGreat
