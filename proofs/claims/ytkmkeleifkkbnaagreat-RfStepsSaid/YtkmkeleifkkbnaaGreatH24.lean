import Derived.Laws.AppendOwnNone
import Derived.Test.YtkmkeleifkkbnaaGreatH23
import Derived.Test.YtkmkeleifkkbnaaGreatH12
import Derived.Test.YtkmkeleifkkbnaaGreatH21
import Derived.Test.YtkmkeleifkkbnaaGreatH19
import Derived.Test.YtkmkeleifkkbnaaGreatH16
import Derived.Test.YtkmkeleifkkbnaaGreatH7
import Derived.Test.YtkmkeleifkkbnaaGreatH5
set_option linter.unusedVariables false
set_option linter.unusedSimpArgs false
namespace Go.Proofs.YtkmkeleifkkbnaaGreat
open Go.RowKit
set_option maxRecDepth 100000 in
set_option maxHeartbeats 4000000 in
theorem rf_so (B : Nat) (p A : Option Addr) (cp : Nat) (nv : Value) (r : LS) (w : World) (h : RunP w B p A cp nv r) (hl : r.ns.length ≤ 900) (hx : Words r.xs) (o1 : ¬ r.op = 1) (o2 : ¬ r.op = 2) (o3 : ¬ r.op = 3) (o4 : ¬ r.op = 4) (o5 : ¬ r.op = 5) (o6 : ¬ r.op = 6) (o7 : ¬ r.op = 7) (o8 : ¬ r.op = 8) (hno : r.rf = r) : Calls Tryz.prog 22 #[Value.pointer (some ⟨B, 0, none⟩)] w (ClS [68, 72, 75, 77, 79, 82, 84] B p A cp r r.rf w) := by
  obtain ⟨ol, H1⟩ : ∃ ol, Hid (r.op = ol) := ⟨_, Lib.hid rfl⟩
  rw [H1.out] at o1 o2 o3 o4 o5 o6 o7 o8
  obtain ⟨ln, H2⟩ : ∃ ln, Hid (r.line = ln) := ⟨_, Lib.hid rfl⟩
  have HX := Lib.hid hx
  have HL := Lib.hid hl
  have e0 := (Only.refl Nil w).alloc (.cells #[Value.pointer (some ⟨B, 0, none⟩)] 35)
  have HP := Lib.hid (h.keep e0)
  have HO := Lib.hid e0
  have HR := Lib.hid (Row.new w 35 #[Value.pointer (some ⟨B, 0, none⟩)])
  clear h hl hx e0
  go_enter Tryz.func22, Tryz.ntmps22
  go_upto_region 1 with (fail)
  generalize w.alloc (.cells #[Value.pointer (some ⟨B, 0, none⟩)] 35) = w1 at *
  generalize w.heap.size = gs at *
  refine wp_region_phase (n := 11) 10 (fun w => w.cell? ⟨gs, 0, none⟩ = some (Value.pointer (some ⟨B, 0, none⟩)) ∧ w.cell? ⟨B, 4, none⟩ = some (.int .i64 (ol)) ∧ w.cell? ⟨B, 5, none⟩ = some (.int .i64 ln)) rfl (by kernel_rfl) ⟨HR.out.cell_ (i := 0) rfl, by rw [← H1.out]; exact HP.out.row.cell_ (i := 4) rfl, by rw [← H2.out]; exact HP.out.row.cell_ (i := 5) rfl⟩ (fun hHeld => ?_)
  have HP1 := Lib.hid (HP.out.keep (Only.refl Nil w1).drew)
  have HR1 := Lib.hid HR.out.drew
  have HO1 := Lib.hid HO.out.drew
  clear HP HR HO
  generalize w1.drew = w2 at *
  refine zt 0 rfl ?_
  refine za 1 rfl ?_
  refine za 2 rfl ?_
  refine za 3 rfl ?_
  refine zt 4 rfl ?_
  refine zt 5 rfl ?_
  refine za 6 rfl ?_
  refine za 7 rfl ?_
  refine za 8 rfl ?_
  refine zt 9 rfl ?_
  refine mpc 10 rfl (by kernel_rfl) (by rfl) (fun K hK => ?_)
  go_simp
  refine hK.out _ _ (.inl (by kernel_rfl)) ?_
  clear hK K
  refine wpAnyP_done (by kernel_rfl) ?_ _
  clear hHeld
  have b0 : w2.cell? ⟨gs, 0, none⟩ = some (Value.pointer (some ⟨B, 0, none⟩)) := HR1.out.cell_ (i := 0) rfl
  go_wp2
  go_ret
  exact .inr ⟨rfl, HO1.out, hno⟩
set_option maxRecDepth 100000 in
set_option maxHeartbeats 4000000 in
theorem rf_so4 (B : Nat) (p A : Option Addr) (cp : Nat) (nv : Value) (r : LS) (w : World) (h : RunP w B p A cp nv r) (hl : r.ns.length ≤ 900) (hx : Words r.xs) (h1 : r.op = 4) : Calls Tryz.prog 22 #[Value.pointer (some ⟨B, 0, none⟩)] w (ClS [68, 72, 75, 77, 79, 82, 84] B p A cp r r.rf w) := by
  have H1 := Lib.hid h1
  clear h1
  obtain ⟨ln, H2⟩ : ∃ ln, Hid (r.line = ln) := ⟨_, Lib.hid rfl⟩
  have HX := Lib.hid hx
  have HL := Lib.hid hl
  have e0 := (Only.refl Nil w).alloc (.cells #[Value.pointer (some ⟨B, 0, none⟩)] 35)
  have HP := Lib.hid (h.keep e0)
  have HO := Lib.hid e0
  have HR := Lib.hid (Row.new w 35 #[Value.pointer (some ⟨B, 0, none⟩)])
  clear h hl hx e0
  go_enter Tryz.func22, Tryz.ntmps22
  go_upto_region 1 with (fail)
  generalize w.alloc (.cells #[Value.pointer (some ⟨B, 0, none⟩)] 35) = w1 at *
  generalize w.heap.size = gs at *
  refine wp_region_phase (n := 11) 10 (fun w => w.cell? ⟨gs, 0, none⟩ = some (Value.pointer (some ⟨B, 0, none⟩)) ∧ w.cell? ⟨B, 4, none⟩ = some (.int .i64 (4)) ∧ w.cell? ⟨B, 5, none⟩ = some (.int .i64 ln)) rfl (by kernel_rfl) ⟨HR.out.cell_ (i := 0) rfl, by rw [← H1.out]; exact HP.out.row.cell_ (i := 4) rfl, by rw [← H2.out]; exact HP.out.row.cell_ (i := 5) rfl⟩ (fun hHeld => ?_)
  have HP1 := Lib.hid (HP.out.keep (Only.refl Nil w1).drew)
  have HR1 := Lib.hid HR.out.drew
  have HO1 := Lib.hid HO.out.drew
  clear HP HR HO
  generalize w1.drew = w2 at *
  refine zt 0 rfl ?_
  refine za 1 rfl ?_
  refine za 2 rfl ?_
  refine za 3 rfl ?_
  refine zt 4 rfl ?_
  refine zt 5 rfl ?_
  refine za 6 rfl ?_
  refine za 7 rfl ?_
  refine za 8 rfl ?_
  refine zt 9 rfl ?_
  refine mpc 10 rfl (by kernel_rfl) (by rfl) (fun K hK => ?_)
  go_simp
  refine hK.out _ _ (.inl (by kernel_rfl)) ?_
  clear hK K
  refine wpAnyP_done (by kernel_rfl) ?_ _
  clear hHeld
  have b0 : w2.cell? ⟨gs, 0, none⟩ = some (Value.pointer (some ⟨B, 0, none⟩)) := HR1.out.cell_ (i := 0) rfl
  by_cases g0 : ln = 0
  · rcases g0 with rfl
    go_wp2_with fail
    have e0 := (Only.refl Nil w2).alloc (.cells #[.int .i64 7, .int .i64 8] 3)
    refine (rchange_make B p A cp nv r 4294901760 _ [7, 8] _ (HP1.out.keep e0) HL.out (whats_2 HP1.out 7 8) (by decide)).mono ?_
    rintro e w3 ⟨caps, rfl, hO, hC⟩
    have H := Lib.hid (And.intro (e0.trans hO) hC)
    clear hO hC e0
    go_wp2
    go_ret
    exact .inl ⟨_, by decide, caps, rfl, HO1.out.trans H.out.1, by rw [show r.rf = r.fChange 4294901760 [7, 8] from by unfold LS.rf; rw [H1.out, H2.out]; rfl]; exact H.out.2⟩
  have n0 : ¬ ln = 0 := by omega
  clear g0
  go_wp2
  go_ret
  exact .inr ⟨rfl, HO1.out, by exact rf_no4 H1.out (by rw [H2.out]; exact n0)⟩
end Go.Proofs.YtkmkeleifkkbnaaGreat
set_option linter.unusedVariables false
set_option linter.unusedSimpArgs false
namespace Go.Proofs.YtkmkeleifkkbnaaGreat
open Go.RowKit
set_option maxRecDepth 100000 in
set_option maxHeartbeats 4000000 in
theorem rf_so1 (B : Nat) (p A : Option Addr) (cp : Nat) (nv : Value) (r : LS) (w : World) (h : RunP w B p A cp nv r) (hl : r.ns.length ≤ 900) (hx : Words r.xs) (h1 : r.op = 1) : Calls Tryz.prog 22 #[Value.pointer (some ⟨B, 0, none⟩)] w (ClS [68, 72, 75, 77, 79, 82, 84] B p A cp r r.rf w) := by
  have H1 := Lib.hid h1
  clear h1
  obtain ⟨ln, H2⟩ : ∃ ln, Hid (r.line = ln) := ⟨_, Lib.hid rfl⟩
  have HX := Lib.hid hx
  have HL := Lib.hid hl
  have e0 := (Only.refl Nil w).alloc (.cells #[Value.pointer (some ⟨B, 0, none⟩)] 35)
  have HP := Lib.hid (h.keep e0)
  have HO := Lib.hid e0
  have HR := Lib.hid (Row.new w 35 #[Value.pointer (some ⟨B, 0, none⟩)])
  clear h hl hx e0
  go_enter Tryz.func22, Tryz.ntmps22
  go_upto_region 1 with (fail)
  generalize w.alloc (.cells #[Value.pointer (some ⟨B, 0, none⟩)] 35) = w1 at *
  generalize w.heap.size = gs at *
  refine wp_region_phase (n := 11) 10 (fun w => w.cell? ⟨gs, 0, none⟩ = some (Value.pointer (some ⟨B, 0, none⟩)) ∧ w.cell? ⟨B, 4, none⟩ = some (.int .i64 (1)) ∧ w.cell? ⟨B, 5, none⟩ = some (.int .i64 ln)) rfl (by kernel_rfl) ⟨HR.out.cell_ (i := 0) rfl, by rw [← H1.out]; exact HP.out.row.cell_ (i := 4) rfl, by rw [← H2.out]; exact HP.out.row.cell_ (i := 5) rfl⟩ (fun hHeld => ?_)
  have HP1 := Lib.hid (HP.out.keep (Only.refl Nil w1).drew)
  have HR1 := Lib.hid HR.out.drew
  have HO1 := Lib.hid HO.out.drew
  clear HP HR HO
  generalize w1.drew = w2 at *
  refine zt 0 rfl ?_
  refine za 1 rfl ?_
  refine za 2 rfl ?_
  refine za 3 rfl ?_
  refine zt 4 rfl ?_
  refine zt 5 rfl ?_
  refine za 6 rfl ?_
  refine za 7 rfl ?_
  refine za 8 rfl ?_
  refine zt 9 rfl ?_
  refine mpc 10 rfl (by kernel_rfl) (by rfl) (fun K hK => ?_)
  go_simp
  refine hK.out _ _ (.inl (by kernel_rfl)) ?_
  clear hK K
  refine wpAnyP_done (by kernel_rfl) ?_ _
  clear hHeld
  have b0 : w2.cell? ⟨gs, 0, none⟩ = some (Value.pointer (some ⟨B, 0, none⟩)) := HR1.out.cell_ (i := 0) rfl
  by_cases g0 : ln = 0
  · rcases g0 with rfl
    go_wp2_with fail
    refine (rcin_make B p A cp nv r _ HP1.out HL.out HX.out).mono ?_
    rintro e w3 ⟨caps, rfl, hO, hC⟩
    have H := Lib.hid (And.intro hO hC)
    clear hO hC
    go_wp2
    go_ret
    exact .inl ⟨_, by decide, caps, rfl, HO1.out.trans H.out.1, by rw [show r.rf = r.fCome from by unfold LS.rf; rw [H1.out, H2.out]; rfl]; exact H.out.2⟩
  by_cases g1 : ln = 1
  · rcases g1 with rfl
    go_wp2_with fail
    refine (rleave_make B p A cp nv r _ HP1.out HL.out HX.out).mono ?_
    rintro e w3 ⟨caps, rfl, hO, hC⟩
    have H := Lib.hid (And.intro hO hC)
    clear hO hC
    go_wp2
    go_ret
    exact .inl ⟨_, by decide, caps, rfl, HO1.out.trans H.out.1, by rw [show r.rf = r.pAdmit 0 outW from by unfold LS.rf; rw [H1.out, H2.out]; rfl]; exact H.out.2⟩
  have n0 : ¬ ln = 0 := by omega
  have n1 : ¬ ln = 1 := by omega
  clear g0 g1
  go_wp2
  go_ret
  exact .inr ⟨rfl, HO1.out, by exact rf_no1 H1.out (by rw [H2.out]; exact n0) (by rw [H2.out]; exact n1)⟩
set_option maxRecDepth 100000 in
set_option maxHeartbeats 4000000 in
theorem rf_so6 (B : Nat) (p A : Option Addr) (cp : Nat) (nv : Value) (r : LS) (w : World) (h : RunP w B p A cp nv r) (hl : r.ns.length ≤ 900) (hx : Words r.xs) (h1 : r.op = 6) : Calls Tryz.prog 22 #[Value.pointer (some ⟨B, 0, none⟩)] w (ClS [68, 72, 75, 77, 79, 82, 84] B p A cp r r.rf w) := by
  have H1 := Lib.hid h1
  clear h1
  obtain ⟨ln, H2⟩ : ∃ ln, Hid (r.line = ln) := ⟨_, Lib.hid rfl⟩
  have HX := Lib.hid hx
  have HL := Lib.hid hl
  have e0 := (Only.refl Nil w).alloc (.cells #[Value.pointer (some ⟨B, 0, none⟩)] 35)
  have HP := Lib.hid (h.keep e0)
  have HO := Lib.hid e0
  have HR := Lib.hid (Row.new w 35 #[Value.pointer (some ⟨B, 0, none⟩)])
  clear h hl hx e0
  go_enter Tryz.func22, Tryz.ntmps22
  go_upto_region 1 with (fail)
  generalize w.alloc (.cells #[Value.pointer (some ⟨B, 0, none⟩)] 35) = w1 at *
  generalize w.heap.size = gs at *
  refine wp_region_phase (n := 11) 10 (fun w => w.cell? ⟨gs, 0, none⟩ = some (Value.pointer (some ⟨B, 0, none⟩)) ∧ w.cell? ⟨B, 4, none⟩ = some (.int .i64 (6)) ∧ w.cell? ⟨B, 5, none⟩ = some (.int .i64 ln)) rfl (by kernel_rfl) ⟨HR.out.cell_ (i := 0) rfl, by rw [← H1.out]; exact HP.out.row.cell_ (i := 4) rfl, by rw [← H2.out]; exact HP.out.row.cell_ (i := 5) rfl⟩ (fun hHeld => ?_)
  have HP1 := Lib.hid (HP.out.keep (Only.refl Nil w1).drew)
  have HR1 := Lib.hid HR.out.drew
  have HO1 := Lib.hid HO.out.drew
  clear HP HR HO
  generalize w1.drew = w2 at *
  refine zt 0 rfl ?_
  refine za 1 rfl ?_
  refine za 2 rfl ?_
  refine za 3 rfl ?_
  refine zt 4 rfl ?_
  refine zt 5 rfl ?_
  refine za 6 rfl ?_
  refine za 7 rfl ?_
  refine za 8 rfl ?_
  refine zt 9 rfl ?_
  refine mpc 10 rfl (by kernel_rfl) (by rfl) (fun K hK => ?_)
  go_simp
  refine hK.out _ _ (.inl (by kernel_rfl)) ?_
  clear hK K
  refine wpAnyP_done (by kernel_rfl) ?_ _
  clear hHeld
  have b0 : w2.cell? ⟨gs, 0, none⟩ = some (Value.pointer (some ⟨B, 0, none⟩)) := HR1.out.cell_ (i := 0) rfl
  by_cases g0 : ln = 0
  · rcases g0 with rfl
    go_wp2_with fail
    refine (rweigh_make 51 enters_s4 (fun v => v == 0) asks_zero B p A cp nv r _ HP1.out HL.out HX.out).mono ?_
    rintro e w3 ⟨caps, rfl, hO, hC⟩
    have H := Lib.hid (And.intro hO hC)
    clear hO hC
    go_wp2
    go_ret
    exact .inl ⟨_, by decide, caps, rfl, HO1.out.trans H.out.1, by rw [show r.rf = r.fLook (wordAt r.xs 0 == 0) from by unfold LS.rf; rw [H1.out, H2.out]; rfl]; exact H.out.2⟩
  by_cases g1 : ln = 1
  · rcases g1 with rfl
    go_wp2_with fail
    refine (rclaim_make 52 enters_s5 (fun r => (r.note 2 2).note 4 0) (fun B p A cp nv r g0 w h hl hb => rthen_5 B p A cp nv r g0 w h hl hb) B p A cp nv r (0) (65536) 0 gs _ HP1.out HL.out HR1.out).mono ?_
    rintro e w3 ⟨caps, rfl, hO, hC⟩
    have H := Lib.hid (And.intro hO hC)
    clear hO hC
    go_wp2
    go_ret
    exact .inl ⟨_, by decide, caps, rfl, HO1.out.trans H.out.1, by rw [show r.rf = r.fClaim 0 65536 0 (fun r => (r.note 2 2).note 4 0) from by unfold LS.rf; rw [H1.out, H2.out]; rfl]; exact H.out.2⟩
  have n0 : ¬ ln = 0 := by omega
  have n1 : ¬ ln = 1 := by omega
  clear g0 g1
  go_wp2
  go_ret
  exact .inr ⟨rfl, HO1.out, by exact rf_no6 H1.out (by rw [H2.out]; exact n0) (by rw [H2.out]; exact n1)⟩
end Go.Proofs.YtkmkeleifkkbnaaGreat
set_option linter.unusedVariables false
set_option linter.unusedSimpArgs false
namespace Go.Proofs.YtkmkeleifkkbnaaGreat
open Go.RowKit
set_option maxRecDepth 100000 in
set_option maxHeartbeats 4000000 in
theorem rf_so5 (B : Nat) (p A : Option Addr) (cp : Nat) (nv : Value) (r : LS) (w : World) (h : RunP w B p A cp nv r) (hl : r.ns.length ≤ 900) (hx : Words r.xs) (h1 : r.op = 5) : Calls Tryz.prog 22 #[Value.pointer (some ⟨B, 0, none⟩)] w (ClS [68, 72, 75, 77, 79, 82, 84] B p A cp r r.rf w) := by
  have H1 := Lib.hid h1
  clear h1
  obtain ⟨ln, H2⟩ : ∃ ln, Hid (r.line = ln) := ⟨_, Lib.hid rfl⟩
  have HX := Lib.hid hx
  have HL := Lib.hid hl
  have e0 := (Only.refl Nil w).alloc (.cells #[Value.pointer (some ⟨B, 0, none⟩)] 35)
  have HP := Lib.hid (h.keep e0)
  have HO := Lib.hid e0
  have HR := Lib.hid (Row.new w 35 #[Value.pointer (some ⟨B, 0, none⟩)])
  clear h hl hx e0
  go_enter Tryz.func22, Tryz.ntmps22
  go_upto_region 1 with (fail)
  generalize w.alloc (.cells #[Value.pointer (some ⟨B, 0, none⟩)] 35) = w1 at *
  generalize w.heap.size = gs at *
  refine wp_region_phase (n := 11) 10 (fun w => w.cell? ⟨gs, 0, none⟩ = some (Value.pointer (some ⟨B, 0, none⟩)) ∧ w.cell? ⟨B, 4, none⟩ = some (.int .i64 (5)) ∧ w.cell? ⟨B, 5, none⟩ = some (.int .i64 ln)) rfl (by kernel_rfl) ⟨HR.out.cell_ (i := 0) rfl, by rw [← H1.out]; exact HP.out.row.cell_ (i := 4) rfl, by rw [← H2.out]; exact HP.out.row.cell_ (i := 5) rfl⟩ (fun hHeld => ?_)
  have HP1 := Lib.hid (HP.out.keep (Only.refl Nil w1).drew)
  have HR1 := Lib.hid HR.out.drew
  have HO1 := Lib.hid HO.out.drew
  clear HP HR HO
  generalize w1.drew = w2 at *
  refine zt 0 rfl ?_
  refine za 1 rfl ?_
  refine za 2 rfl ?_
  refine za 3 rfl ?_
  refine zt 4 rfl ?_
  refine zt 5 rfl ?_
  refine za 6 rfl ?_
  refine za 7 rfl ?_
  refine za 8 rfl ?_
  refine zt 9 rfl ?_
  refine mpc 10 rfl (by kernel_rfl) (by rfl) (fun K hK => ?_)
  go_simp
  refine hK.out _ _ (.inl (by kernel_rfl)) ?_
  clear hK K
  refine wpAnyP_done (by kernel_rfl) ?_ _
  clear hHeld
  have b0 : w2.cell? ⟨gs, 0, none⟩ = some (Value.pointer (some ⟨B, 0, none⟩)) := HR1.out.cell_ (i := 0) rfl
  by_cases g0 : ln = 0
  · rcases g0 with rfl
    go_wp2_with fail
    refine (rweigh_make 47 enters_s2 outW asks_out B p A cp nv r _ HP1.out HL.out HX.out).mono ?_
    rintro e w3 ⟨caps, rfl, hO, hC⟩
    have H := Lib.hid (And.intro hO hC)
    clear hO hC
    go_wp2
    go_ret
    exact .inl ⟨_, by decide, caps, rfl, HO1.out.trans H.out.1, by rw [show r.rf = r.fLook (outW (wordAt r.xs 0)) from by unfold LS.rf; rw [H1.out, H2.out]; rfl]; exact H.out.2⟩
  by_cases g1 : ln = 1
  · rcases g1 with rfl
    have hx1 : IntKind.u32.wrap (r.a + 1) = (r.a + 1) % 4294967296 := rfl
    go_upto_region 19 with (fail)
    refine wp_region_phase (n := 15) 13 (fun w => w.cell? ⟨gs, 0, none⟩ = some (Value.pointer (some ⟨B, 0, none⟩)) ∧ w.cell? ⟨B, 6, none⟩ = some (.int .u32 r.a)) rfl (by kernel_rfl) ⟨b0, HP1.out.row.cell_ (i := 6) rfl⟩ (fun hHeld => ?_)
    clear b0
    have HP2 := Lib.hid (HP1.out.keep (Only.refl Nil w2).drew)
    have HR2 := Lib.hid HR1.out.drew
    have HO2 := Lib.hid HO1.out.drew
    clear HP1 HR1 HO1
    generalize w2.drew = w3 at *
    refine zt 0 rfl ?_
    refine zt 1 rfl ?_
    refine za 2 rfl ?_
    refine za 3 rfl ?_
    refine za 4 rfl ?_
    refine zt 5 rfl ?_
    refine zt 6 rfl ?_
    refine za 7 rfl ?_
    refine za 8 rfl ?_
    refine za 9 rfl ?_
    refine zt 10 rfl ?_
    refine za 11 rfl ?_
    refine za 12 rfl ?_
    refine mpc 13 rfl (by kernel_rfl) (by rfl) (fun K hK => ?_)
    go_simp
    refine (rclaim_make 49 enters_s3 (fun r => (r.note 2 1).note 4 0) (fun B p A cp nv r g0 w h hl hb => rthen_3 B p A cp nv r g0 w h hl hb) B p A cp nv r r.a ((r.a + 1) % 4294967296) 0 gs _ HP2.out HL.out HR2.out).mono ?_
    rintro e w4 ⟨caps, rfl, hO, hC⟩
    have H := Lib.hid (And.intro hO hC)
    clear hO hC
    refine hK.out _ _ (.inl (by kernel_rfl)) ?_
    clear hK K hHeld
    refine za 14 rfl ?_
    refine wpAnyP_done (by kernel_rfl) ?_ _
    go_wp2
    go_ret
    exact .inl ⟨_, by decide, caps, rfl, HO2.out.trans H.out.1, by rw [show r.rf = r.fClaim r.a ((r.a + 1) % 4294967296) 0 (fun r => (r.note 2 1).note 4 0) from by unfold LS.rf; rw [H1.out, H2.out]; rfl]; exact H.out.2⟩
  have n0 : ¬ ln = 0 := by omega
  have n1 : ¬ ln = 1 := by omega
  clear g0 g1
  go_wp2
  go_ret
  exact .inr ⟨rfl, HO1.out, by exact rf_no5 H1.out (by rw [H2.out]; exact n0) (by rw [H2.out]; exact n1)⟩
set_option maxRecDepth 100000 in
set_option maxHeartbeats 4000000 in
theorem rf_so7 (B : Nat) (p A : Option Addr) (cp : Nat) (nv : Value) (r : LS) (w : World) (h : RunP w B p A cp nv r) (hl : r.ns.length ≤ 900) (hx : Words r.xs) (h1 : r.op = 7) : Calls Tryz.prog 22 #[Value.pointer (some ⟨B, 0, none⟩)] w (ClS [68, 72, 75, 77, 79, 82, 84] B p A cp r r.rf w) := by
  have H1 := Lib.hid h1
  clear h1
  obtain ⟨ln, H2⟩ : ∃ ln, Hid (r.line = ln) := ⟨_, Lib.hid rfl⟩
  have HX := Lib.hid hx
  have HL := Lib.hid hl
  have e0 := (Only.refl Nil w).alloc (.cells #[Value.pointer (some ⟨B, 0, none⟩)] 35)
  have HP := Lib.hid (h.keep e0)
  have HO := Lib.hid e0
  have HR := Lib.hid (Row.new w 35 #[Value.pointer (some ⟨B, 0, none⟩)])
  clear h hl hx e0
  go_enter Tryz.func22, Tryz.ntmps22
  go_upto_region 1 with (fail)
  generalize w.alloc (.cells #[Value.pointer (some ⟨B, 0, none⟩)] 35) = w1 at *
  generalize w.heap.size = gs at *
  refine wp_region_phase (n := 11) 10 (fun w => w.cell? ⟨gs, 0, none⟩ = some (Value.pointer (some ⟨B, 0, none⟩)) ∧ w.cell? ⟨B, 4, none⟩ = some (.int .i64 (7)) ∧ w.cell? ⟨B, 5, none⟩ = some (.int .i64 ln)) rfl (by kernel_rfl) ⟨HR.out.cell_ (i := 0) rfl, by rw [← H1.out]; exact HP.out.row.cell_ (i := 4) rfl, by rw [← H2.out]; exact HP.out.row.cell_ (i := 5) rfl⟩ (fun hHeld => ?_)
  have HP1 := Lib.hid (HP.out.keep (Only.refl Nil w1).drew)
  have HR1 := Lib.hid HR.out.drew
  have HO1 := Lib.hid HO.out.drew
  clear HP HR HO
  generalize w1.drew = w2 at *
  refine zt 0 rfl ?_
  refine za 1 rfl ?_
  refine za 2 rfl ?_
  refine za 3 rfl ?_
  refine zt 4 rfl ?_
  refine zt 5 rfl ?_
  refine za 6 rfl ?_
  refine za 7 rfl ?_
  refine za 8 rfl ?_
  refine zt 9 rfl ?_
  refine mpc 10 rfl (by kernel_rfl) (by rfl) (fun K hK => ?_)
  go_simp
  refine hK.out _ _ (.inl (by kernel_rfl)) ?_
  clear hK K
  refine wpAnyP_done (by kernel_rfl) ?_ _
  clear hHeld
  have b0 : w2.cell? ⟨gs, 0, none⟩ = some (Value.pointer (some ⟨B, 0, none⟩)) := HR1.out.cell_ (i := 0) rfl
  by_cases g0 : ln = 0
  · rcases g0 with rfl
    go_wp2_with fail
    refine (rweigh_make 53 enters_s6 (fun v => v == 1) asks_one B p A cp nv r _ HP1.out HL.out HX.out).mono ?_
    rintro e w3 ⟨caps, rfl, hO, hC⟩
    have H := Lib.hid (And.intro hO hC)
    clear hO hC
    go_wp2
    go_ret
    exact .inl ⟨_, by decide, caps, rfl, HO1.out.trans H.out.1, by rw [show r.rf = r.fLook (wordAt r.xs 0 == 1) from by unfold LS.rf; rw [H1.out, H2.out]; rfl]; exact H.out.2⟩
  by_cases g1 : ln = 1
  · rcases g1 with rfl
    go_wp2_with fail
    refine (rclaim_make 54 enters_s7 (fun r => r.note 9 0) (fun B p A cp nv r g0 w h hl hb => rthen_7 B p A cp nv r g0 w h hl hb) B p A cp nv r (1) (65536) 0 gs _ HP1.out HL.out HR1.out).mono ?_
    rintro e w3 ⟨caps, rfl, hO, hC⟩
    have H := Lib.hid (And.intro hO hC)
    clear hO hC
    go_wp2
    go_ret
    exact .inl ⟨_, by decide, caps, rfl, HO1.out.trans H.out.1, by rw [show r.rf = r.fClaim 1 65536 0 (fun r => r.note 9 0) from by unfold LS.rf; rw [H1.out, H2.out]; rfl]; exact H.out.2⟩
  have n0 : ¬ ln = 0 := by omega
  have n1 : ¬ ln = 1 := by omega
  clear g0 g1
  go_wp2
  go_ret
  exact .inr ⟨rfl, HO1.out, by exact rf_no7 H1.out (by rw [H2.out]; exact n0) (by rw [H2.out]; exact n1)⟩
end Go.Proofs.YtkmkeleifkkbnaaGreat
set_option linter.unusedVariables false
set_option linter.unusedSimpArgs false
namespace Go.Proofs.YtkmkeleifkkbnaaGreat
open Go.RowKit
set_option maxHeartbeats 4000000 in
theorem rf_runs (B : Nat) (p A : Option Addr) (cp : Nat) (nv : Value) (r r' : LS) (w : World) (h : RunP w B p A cp nv r) (hs : Calls Tryz.prog 22 #[Value.pointer (some ⟨B, 0, none⟩)] w (ClS [68, 72, 75, 77, 79, 82, 84] B p A cp r r' w)) : Calls Tryz.prog 8 #[Value.pointer (some ⟨B, 0, none⟩)] w (Done B p A cp w (.tuple #[]) r') := by
  have HS := Lib.hid hs
  have HP := Lib.hid h
  clear hs h
  have hn := neq_fnC
  have hn0 := neq_nilC
  go_enter Tryz.func8, Tryz.ntmps8
  go_wp2_with fail
  refine HS.out.mono ?_
  rintro e w1 (⟨F, hF, caps, rfl, hO, hC⟩ | ⟨rfl, hO, rfl⟩)
  · have HO := Lib.hid hO
    have HC := Lib.hid hC
    clear hO hC HS HP
    simp only [List.mem_cons, List.not_mem_nil, or_false] at hF
    rcases hF with rfl | rfl | rfl | rfl | rfl | rfl | rfl
    all_goals
      go_wp2_with fail
      refine HC.out.mono ?_
      rintro e w2 ⟨rfl, hO, nv2, hP⟩
      have HO2 := Lib.hid ((HO.out.mono (T := TurnB B A) (fun _ _ h => h.elim)).trans hO)
      have HP2 := Lib.hid hP
      clear hO hP HO HC
      go_wp2
      go_returns
      exact ⟨rfl, HO2.out, nv2, HP2.out⟩
  · have HO := Lib.hid hO
    clear hO HS
    go_wp2
    go_returns
    exact ⟨rfl, HO.out.mono (fun _ _ h => h.elim), nv, HP.out.keep HO.out⟩
theorem rf_lines (B : Nat) (p A : Option Addr) (cp : Nat) (nv : Value) (r : LS) (w : World) (h : RunP w B p A cp nv r) (hl : r.ns.length ≤ 900) (hx : Words r.xs) : Calls Tryz.prog 8 #[Value.pointer (some ⟨B, 0, none⟩)] w (Done B p A cp w (.tuple #[]) r.rf) := by
  refine rf_runs B p A cp nv r _ w h ?_
  by_cases o1 : r.op = 1
  · exact rf_so1 B p A cp nv r w h hl hx o1
  by_cases o2 : r.op = 2
  · exact rf_so2 B p A cp nv r w h hl hx o2
  by_cases o3 : r.op = 3
  · exact rf_so3 B p A cp nv r w h hl hx o3
  by_cases o4 : r.op = 4
  · exact rf_so4 B p A cp nv r w h hl hx o4
  by_cases o5 : r.op = 5
  · exact rf_so5 B p A cp nv r w h hl hx o5
  by_cases o6 : r.op = 6
  · exact rf_so6 B p A cp nv r w h hl hx o6
  by_cases o7 : r.op = 7
  · exact rf_so7 B p A cp nv r w h hl hx o7
  by_cases o8 : r.op = 8
  · exact rf_so8 B p A cp nv r w h hl hx o8
  exact rf_so B p A cp nv r w h hl hx o1 o2 o3 o4 o5 o6 o7 o8 (rf_no9 o1 o2 o3 o4 o5 o6 o7 o8)
theorem rf_lines_nil (w : World) : Calls Tryz.prog 8 #[.pointer none] w fun e w' => e = .returned (.tuple #[]) ∧ w = w' := by
  go_enter Tryz.func8, Tryz.ntmps8
  go_wp2
  go_returns
  exact ⟨rfl, rfl⟩
theorem rf_lined (B : Nat) (p A : Option Addr) (cp : Nat) (r : LS) (hl : r.ns.length ≤ 900) (hx : Words r.xs) : Lined B p A cp (.func (.func 8) #[] #[]) r r.rf (TurnB B A) (fun _ => True) (fun _ => True) := by
  intro w nv _ h
  have HT := Lib.hid (rf_lines B p A cp nv r w h hl hx)
  have hn := neq_fnL
  clear h hl hx
  go_enter_defers Tryz.func21, Tryz.ntmps21
  go_wp2_with fail
  refine HT.out.mono ?_
  rintro e w1 ⟨rfl, hO, nv1, hP⟩
  have HO := Lib.hid hO
  have HP := Lib.hid hP
  clear hO hP HT
  go_wp2
  refine leaves_cons (f := 37) (args := #[]) (by simp) (by simp [go_sem]) ?_
  refine (rec_run _).mono ?_
  rintro e u' w'' ⟨rfl, rfl, rfl⟩
  exact ⟨_, by simp [results, Tryz.results21, go_sem], rfl, HO.out, trivial, nv1, HP.out⟩
theorem rf_step (B : Nat) (p A : Option Addr) (cp : Nat) (nv : Value) (r : LS) (w : World) (h : RunQ w B p A cp nv r) (hx : Words r.xs) :
    Calls Tryz.prog 7 #[Value.pointer (some ⟨B, 0, none⟩), .func (.func 8) #[] #[]] w (Stepd B p A cp (r.next LS.rf) (TurnB B A) (fun _ => True) w) := by
  unfold LS.next
  cases hon : r.k.on
  · rw [if_neg Bool.false_ne_true]
    exact step_lines B p A cp nv _ r _ _ _ _ w h hon (rf_lined B p A cp r.fresh (Nat.zero_le _) hx) (.inl rfl) (fun _ _ => trivial)
  · rw [if_pos rfl]
    exact step_wake B p A cp nv _ r w h hon
end Go.Proofs.YtkmkeleifkkbnaaGreat
set_option linter.unusedVariables false
set_option linter.unusedSimpArgs false
namespace Go.Proofs.YtkmkeleifkkbnaaGreat
open Go.RowKit
structure LS.WA (r : LS) : Prop where
  words : Words r.xs
  a : 0 ≤ r.a ∧ r.a < 4294967296
theorem wa_new {k mode task op : Int} {xs : List Int} (h : Words xs) : (newR k mode task op xs).WA := ⟨h, ⟨Int.le_refl _, by show (0 : Int) < _; decide⟩⟩
theorem wa_next {r : LS} (h : r.WA) : (r.next LS.rf).WA := by
  unfold LS.next
  split
  · exact ⟨good_waking.words h.words, h.a⟩
  · obtain ⟨h1, h2⟩ := (keep_rf (r := r.fresh)).ab h.words h.a
    exact ⟨h1, h2⟩
end Go.Proofs.YtkmkeleifkkbnaaGreat
set_option linter.unusedVariables false
set_option linter.unusedSimpArgs false
namespace Go.Proofs.YtkmkeleifkkbnaaGreat
open Go.RowKit
theorem flat_cells : ∀ (zs : List Nt) (u : Value), u ∈ flat zs → u.oneCell' = true
  | [], u, h => by simp [flat] at h
  | n :: r, u, h => by
    rw [flat, List.mem_append] at h
    rcases h with h | h
    · unfold flat1 at h
      simp only [List.mem_cons, List.not_mem_nil, or_false] at h
      rcases h with rfl | rfl | rfl | rfl <;> rfl
    · exact flat_cells r u h
theorem wp_appNs {w : World} {ops : Array Oper} {rest : List Oper} {o : Oper} {a : Act} {Q : Exit → Act → World → Prop} (hgd : o.guard = none) (s x : Operand)
    (ho : o.op = .call { callee := .builtin .append, args := #[s, x], argTypes := #[40, 40] })
    (base : Nat) (v : Value) (zs : List Nt) (hs : a.eval s = v) (hown : OwnN base w v zs)
    (u : Value) (ys : List Nt) (hx : a.eval x = u) (hu : OwnN 0 w u ys)
    (h1 : zs.length ≤ 4000) (h2 : ys.length ≤ 1000) (hbase : base ≤ w.heap.size)
    (h : ∀ v' w', OwnN base w' v' (zs ++ ys) → Only (fun k => v.ownBlock = some k) w w' → wpList Tryz.prog ops Q rest (a.put o.dst v') w') : wpList Tryz.prog ops Q (o :: rest) a w := by
  obtain ⟨i0, hi, hz0, hz1, hz2⟩ := info_parts infoN
  rcases hu.2 with ⟨rfl, hn⟩ | ⟨g, cap, cur, rfl, _, hg, hc, hm, hsz, ht⟩
  · obtain rfl := List.eq_nil_of_length_eq_zero hn
    refine wpList_append_own_none hgd s x 40 ho base 78 i0 4 Tryz.underlying40 hi v zs.length (flat zs) hs hown hx ?_
    exact h v w (by rw [List.append_nil]; exact hown) (Only.refl _ _)
  · refine wpList_append_own w hgd s x 40 ho base 78 i0 (.agg #[.int .i64 0, .int .i64 0, .int .i64 0, .int .i64 0]) 4 32 Tryz.underlying40 hi hz0 hz1 hz2 rfl (by decide) v zs.length (flat zs) hs hown ⟨g, 0, none⟩ ys.length cap (flat ys) hx (flat_len ys) (fun j u hj => World.ownsRow.cells hu (g := g) rfl j u hj) (fun u hu => flat_cells ys u hu) (by unfold maxLen; omega) (by omega) hbase (fun v' w' hO hG _ => ?_)
    refine h v' w' ?_ ((Only.refl _ w).grown hG (fun k hk => .inr hk))
    have e : (zs ++ ys).length = zs.length + ys.length := List.length_append
    unfold OwnN
    rw [e, flat_app]
    exact hO
end Go.Proofs.YtkmkeleifkkbnaaGreat
set_option linter.unusedVariables false
set_option linter.unusedSimpArgs false
namespace Go.Proofs.YtkmkeleifkkbnaaGreat
open Go.RowKit
structure AloneI (w0 : World) (B : Nat) (p A : Option Addr) (cp : Nat) (r0 : LS) (most j : Nat) (v : Value) (wr : World) : Prop where
  run : ∃ nv r, RunQ wr B p A cp nv r ∧ r.WA ∧ aloneL LS.rf most r0 = aloneL LS.rf (most - j) r
  notes : ∃ zs, OwnN w0.heap.size wr v zs ∧ zs.length ≤ 2 * j
  only : Only (At A) w0 wr
  new : w0.heap.size ≤ B
  old : ∀ j, At p j ∨ At A j → j < w0.heap.size
def AloneP (p A : Option Addr) (cp : Nat) (w : World) (t : Int × List Int) (e : Ending) (w' : World) : Prop := ∃ nv, e = .returned (.tuple #[.int .i64 t.1, nv]) ∧ Only (At A) w w' ∧ Memo w' p A cp t.2 ∧ Words t.2
theorem ownN_form {base : Nat} {w : World} {v : Value} {zs : List Nt} (h : OwnN base w v zs) : ∃ A n c, v = .slice A n c := by
  rcases h.2 with ⟨rfl, _⟩ | ⟨g, cap, cur, rfl, _⟩
  · exact ⟨none, 0, 0, rfl⟩
  · exact ⟨_, _, _, rfl⟩
set_option maxRecDepth 100000 in
set_option maxHeartbeats 2000000 in
theorem alone_any (p A : Option Addr) (cp : Nat) (k mode op : Int) (most : Nat) (xs : List Int) (w : World) (h : Memo w p A cp xs) (hx : Words xs) (hmost : most ≤ 1000) :
    Calls Tryz.prog 16 #[.pointer p, .int .i64 k, .int .i64 mode, .int .i64 op, .int .i64 most] w (AloneP p A cp w (aloneL LS.rf most (newR k mode 0 op xs))) := by
  have e0 := (Only.refl Nil w).alloc (.cells ((newR k mode 0 op xs).cells (.pointer p) (.slice none 0 0)) 42)
  have HI0 : Hid (AloneI w w.heap.size p A cp (newR k mode 0 op xs) most 0 (.slice none 0 0) (w.alloc (.cells ((newR k mode 0 op xs).cells (.pointer p) (.slice none 0 0)) 42))) :=
    Lib.hid ⟨⟨_, _, ⟨Row.new w _ _, h.keep e0⟩, wa_new hx, rfl⟩, ⟨[], ownN_nil _ _, Nat.zero_le _⟩, e0.mono (fun _ _ h => h.elim), Nat.le_refl _, h.lt⟩
  rw [show (newR k mode 0 op xs).cells (.pointer p) (.slice none 0 0) = newCells p k mode 0 op from rfl] at HI0
  unfold newCells at HI0
  clear e0 h hx
  generalize hr0 : newR k mode 0 op xs = r0 at *
  clear hr0
  go_enter Tryz.func16, Tryz.ntmps16
  go_upto_region 2 with (fail)
  generalize w.alloc (.cells #[.pointer p, .int .i64 k, .int .i64 mode, .int .i64 0, .int .i64 op, .int .i64 0, .int .u32 0, .int .u32 0, .int .i64 0, .bool false, .int .i64 0, .int .i64 0, .bool false, .int .i64 0, .int .i64 0, .int .i64 0, .int .u32 0, .int .u32 0, .int .u32 0, .slice none 0 0] 42) = w1 at *
  generalize hB : w.heap.size = B at *
  have HB := Lib.hid hB
  clear hB
  go_wp2_with fail
  go_loopw [13, 14] (fun nv i wr => ∃ j : Nat, j ≤ most ∧ i = .int .i64 j ∧ AloneI w B p A cp r0 most j nv wr) (fun _ i _ => most - (intOf i).toNat)
  case atStart => exact ⟨0, Nat.zero_le _, rfl, HI0.out⟩
  case round =>
    obtain ⟨j, hj, rfl, hI⟩ := hrel
    clear HI0
    obtain ⟨nvr, r, hQ, hW, hA⟩ := hI.run
    have HI := Lib.hid hI
    have HQ := Lib.hid hQ
    have HW := Lib.hid hW
    have HA := Lib.hid hA
    clear hI hQ hW hA
    by_cases hlt : j < most
    · go_wp2_with fail
      refine (rf_step B p A cp nvr r _ HQ.out HW.out.words).mono ?_
      obtain ⟨hg, hn2⟩ := good_next (L := LS.rf) (fun r => good_rf) r
      have HG := Lib.hid hg
      have HN2 := Lib.hid hn2
      clear hg hn2
      have HNW := Lib.hid (wa_next HW.out)
      rintro e w2 ⟨rfl, hO, _, nv2, hP⟩
      have HO := Lib.hid hO
      have HP := Lib.hid hP
      clear hO hP
      obtain ⟨zs, hzs, hzl⟩ := HI.out.notes
      have HZ := Lib.hid (show OwnN w.heap.size w2 _ zs from own_only hzs HO.out (fun i hi e => by
        obtain ⟨cur, hc⟩ := ownN_tag hzs hi
        rcases e with e | e
        · exact row_ne hc HQ.out.row (by decide) e
        · exact memo_not HQ.out.memo hc (by decide) (by decide) (.inr e)))
      have HZL := Lib.hid hzl
      clear hzs hzl
      have HSTEP : Hid (aloneL LS.rf most r0 = if (r.next LS.rf).over then ((r.next LS.rf).ret, (r.next LS.rf).xs) else aloneL LS.rf (most - (j + 1)) (r.next LS.rf)) := Lib.hid (by
        rw [HA.out, show most - j = (most - (j + 1)) + 1 by omega]
        rfl)
      generalize r.next LS.rf = r2 at *
      have c19 : w2.cell? ⟨B, 19, none⟩ = some nv2 := HP.out.row.cell_ (i := 19) rfl
      have hbase : w.heap.size ≤ w2.heap.size := Nat.le_trans HI.out.only.size HO.out.size
      have HBA := Lib.hid hbase
      clear hbase
      go_wp2_with (at_builtin; refine wp_appNs rfl (.tmp 31) (.tmp 35) rfl w.heap.size _ _ (by rfl) HZ.out nv2 r2.ns (by rfl) HP.out.notes (by have := HZL.out; omega) (by have := HN2.out; omega) HBA.out ?_)
      intro v' w3 hown hO3
      clear c19
      have HRQ : Hid (RunQ w3 B p A cp nv2 r2) := Lib.hid ⟨HP.out.row.only hO3 (fun e => by
          obtain ⟨cur, hc⟩ := ownN_tag HZ.out e
          exact absurd (HP.out.row.same hc).1 (by decide)), HP.out.memo.far hO3 (fun j hj e => by
          obtain ⟨cur, hc⟩ := ownN_tag HZ.out e
          exact memo_not HP.out.memo hc (by decide) (by decide) hj)⟩
      have HO3 : Hid (Only (At A) w w3) := Lib.hid ((HI.out.only.step HO.out (fun i hi e => by
          rcases e with e | e
          · have := HI.out.new; omega
          · exact e)).step hO3 (fun i hi e => by
          have := (World.ownsRow.lt HZ.out i e).1
          omega))
      have HOW := Lib.hid hown
      obtain ⟨A9, n9, c9, rfl⟩ := ownN_form hown
      clear hown hO3
      cases hov : r2.over
      · have HSTEP2 := Lib.hid (HSTEP.out.trans (by rw [hov, if_neg Bool.false_ne_true]))
        clear hov
        go_wp2
        go_roundw
        case rel => exact ⟨j + 1, by omega, by go_num, ⟨⟨nv2, r2, HRQ.out, HNW.out, HSTEP2.out⟩, ⟨_, HOW.out, by rw [List.length_append]; have := HZL.out; have := HN2.out; omega⟩, HO3.out, HI.out.new, HI.out.old⟩⟩
        case measure => simp [intOf]; omega
      · have HSTEP2 := Lib.hid (HSTEP.out.trans (by rw [hov, if_pos rfl]))
        clear hov
        have c13 : w3.cell? ⟨B, 13, none⟩ = some (.int .i64 r2.ret) := HRQ.out.row.cell_ (i := 13) rfl
        go_wp2
        go_ret2
        rw [HSTEP2.out]
        exact ⟨_, rfl, HO3.out, HRQ.out.memo, HNW.out.words⟩
    · obtain rfl : j = most := by omega
      have HE := Lib.hid (show aloneL LS.rf j r0 = (0, r.xs) by rw [HA.out, Nat.sub_self]; rfl)
      go_wp2
      go_ret2
      rw [HE.out]
      exact ⟨_, rfl, HI.out.only, HQ.out.memo, HW.out.words⟩
end Go.Proofs.YtkmkeleifkkbnaaGreat
set_option linter.unusedVariables false
set_option linter.unusedSimpArgs false
namespace Go.Proofs.YtkmkeleifkkbnaaGreat
open Go.RowKit
def Fresh (w : World) (xs : List Int) (e : Ending) (w' : World) : Prop := ∃ b A' c', e = .returned (.tuple #[.pointer (some ⟨b, 0, none⟩), .int .i64 0]) ∧ w.heap.size ≤ b ∧ (∀ i, At A' i → w.heap.size ≤ i) ∧ Mem w' b A' c' xs ∧ Only Nil w w'
theorem from_ok (A : Option Addr) (n cap : Nat) (xs : List Int) (w : World) (hm : n ≤ 1024) (h : Held w A n cap xs) :
    Calls Tryz.prog 5 #[.slice A n cap] w (Fresh w xs) := by
  have hl := h.1
  have hm' : (n : Int) ≤ 1024 := by omega
  have HH := Lib.hid h
  have HL := Lib.hid hl
  clear h hl
  go_enter Tryz.func5, Tryz.ntmps5
  go_wp2_with (go_at_call 18; refine (clone_held A n cap xs _ (by omega) HH.out).mono ?_; rintro e w1 ⟨A', c', rfl, ho, hO⟩)
  have HO := Lib.hid ho
  have HW := Lib.hid hO
  clear ho hO
  go_ret2
  refine ⟨w1.heap.size, A', c', rfl, HW.out.size, HO.out.base, ⟨Row.new w1 _ _, ?_, ?_⟩, HW.out.alloc _⟩
  · exact ⟨own_base (own_only HO.out.own ((Only.refl Nil w1).alloc _) (fun _ _ h => h)) (Nat.zero_le _), HO.out.nil, fun _ _ => Nat.zero_le _⟩
  · rw [HL.out]; exact hm
end Go.Proofs.YtkmkeleifkkbnaaGreat
set_option linter.unusedVariables false
set_option linter.unusedSimpArgs false
namespace Go.Proofs.YtkmkeleifkkbnaaGreat
open Go.RowKit
structure Made (w0 : World) (b : Nat) (A : Option Addr) (cp : Nat) (xs : List Int) (W : World) : Prop where
  mem : Mem W b A cp xs
  new : ∀ j, At A j → w0.heap.size ≤ j
  only : Only Nil w0 W
theorem Made.call {w0 W W' : World} {b : Nat} {A : Option Addr} {cp : Nat} {xs ys : List Int} (h : Made w0 b A cp xs W) (ho : Only (At A) W W') (hm : Mem W' b A cp ys) : Made w0 b A cp ys W' :=
  ⟨hm, h.new, h.only.step ho (fun i hi e => by have := h.new i e; omega)⟩
end Go.Proofs.YtkmkeleifkkbnaaGreat
