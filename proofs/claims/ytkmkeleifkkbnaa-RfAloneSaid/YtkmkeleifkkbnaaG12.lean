import Derived.Test.YtkmkeleifkkbnaaG11
import Derived.Test.YtkmkeleifkkbnaaG7
set_option linter.unusedVariables false
set_option linter.unusedSimpArgs false
namespace Go.Proofs.Ytkmkeleifkkbnaa
open Go.RowKit
set_option maxRecDepth 100000 in
set_option maxHeartbeats 4000000 in
theorem rf_so3 (B : Nat) (p A : Option Addr) (cp : Nat) (nv : Value) (r : LS) (w : World) (h : RunP w B p A cp nv r) (hl : r.ns.length ≤ 900) (hx : Words r.xs) (h1 : r.op = 3) : Calls Try.prog 32 #[Value.pointer (some ⟨B, 0, none⟩)] w (ClS [59, 63, 66, 68, 70, 73, 75] B p A cp r r.rf w) := by
  have H1 := Lib.hid h1
  clear h1
  obtain ⟨ln, H2⟩ : ∃ ln, Hid (r.line = ln) := ⟨_, Lib.hid rfl⟩
  have HX := Lib.hid hx
  have HL := Lib.hid hl
  have e0 := (Only.refl Nil w).alloc (.cells #[Value.pointer (some ⟨B, 0, none⟩)] 62)
  have HP := Lib.hid (h.keep e0)
  have HO := Lib.hid e0
  have HR := Lib.hid (Row.new w 62 #[Value.pointer (some ⟨B, 0, none⟩)])
  clear h hl hx e0
  go_enter Try.func32, Try.ntmps32
  go_upto_region 1 with (fail)
  generalize w.alloc (.cells #[Value.pointer (some ⟨B, 0, none⟩)] 62) = w1 at *
  generalize w.heap.size = gs at *
  refine wp_region_phase (n := 11) 10 (fun w => w.cell? ⟨gs, 0, none⟩ = some (Value.pointer (some ⟨B, 0, none⟩)) ∧ w.cell? ⟨B, 4, none⟩ = some (.int .i64 (3)) ∧ w.cell? ⟨B, 5, none⟩ = some (.int .i64 ln)) rfl (by kernel_rfl) ⟨HR.out.cell_ (i := 0) rfl, by rw [← H1.out]; exact HP.out.row.cell_ (i := 4) rfl, by rw [← H2.out]; exact HP.out.row.cell_ (i := 5) rfl⟩ (fun hHeld => ?_)
  have HP1 := Lib.hid (HP.out.keep (Only.refl Nil w1).drew)
  have HR1 := Lib.hid HR.out.drew
  have HO1 := Lib.hid HO.out.drew
  clear HP HR HO
  generalize w1.drew = w2 at *
  refine zt 0 rfl ?_
  refine za 1 rfl ?_
  refine za 2 rfl ?_
  refine za 3 rfl ?_
  refine zt 4 rfl ?_
  refine zt 5 rfl ?_
  refine za 6 rfl ?_
  refine za 7 rfl ?_
  refine za 8 rfl ?_
  refine zt 9 rfl ?_
  refine mpc 10 rfl (by kernel_rfl) (by rfl) (fun K hK => ?_)
  go_simp
  refine hK.out _ _ (.inl (by kernel_rfl)) ?_
  clear hK K
  refine wpAnyP_done (by kernel_rfl) ?_ _
  clear hHeld
  have b0 : w2.cell? ⟨gs, 0, none⟩ = some (Value.pointer (some ⟨B, 0, none⟩)) := HR1.out.cell_ (i := 0) rfl
  by_cases g0 : ln = 0
  · rcases g0 with rfl
    go_wp2_with fail
    refine (rask_make B p A cp nv r _ HP1.out HL.out HX.out).mono ?_
    rintro e w3 ⟨caps, rfl, hO, hC⟩
    have H := Lib.hid (And.intro hO hC)
    clear hO hC
    go_wp2
    go_ret
    exact .inl ⟨_, by decide, caps, rfl, HO1.out.trans H.out.1, by rw [show r.rf = r.fReg from by unfold LS.rf; rw [H1.out, H2.out]; rfl]; exact H.out.2⟩
  by_cases g1 : ln = 1
  · rcases g1 with rfl
    go_wp2_with fail
    refine (rclaim_make 43 enters_s1 (fun r => r.note 4 0) (fun B p A cp nv r g0 w h hl hb => rthen_1 B p A cp nv r g0 w h hl hb) B p A cp nv r (0) (65536) 2 gs _ HP1.out HL.out HR1.out).mono ?_
    rintro e w3 ⟨caps, rfl, hO, hC⟩
    have H := Lib.hid (And.intro hO hC)
    clear hO hC
    go_wp2
    go_ret
    exact .inl ⟨_, by decide, caps, rfl, HO1.out.trans H.out.1, by rw [show r.rf = r.fClaim 0 65536 2 (fun r => r.note 4 0) from by unfold LS.rf; rw [H1.out, H2.out]; rfl]; exact H.out.2⟩
  by_cases g2 : ln = 2
  · rcases g2 with rfl
    go_wp2_with fail
    refine (rfree_make B p A cp nv r _ HP1.out HL.out HX.out).mono ?_
    rintro e w3 ⟨caps, rfl, hO, hC⟩
    have H := Lib.hid (And.intro hO hC)
    clear hO hC
    go_wp2
    go_ret
    exact .inl ⟨_, by decide, caps, rfl, HO1.out.trans H.out.1, by rw [show r.rf = r.fWait from by unfold LS.rf; rw [H1.out, H2.out]; rfl]; exact H.out.2⟩
  have n0 : ¬ ln = 0 := by omega
  have n1 : ¬ ln = 1 := by omega
  have n2 : ¬ ln = 2 := by omega
  clear g0 g1 g2
  go_wp2
  go_ret
  exact .inr ⟨rfl, HO1.out, by exact rf_no3 H1.out (by rw [H2.out]; exact n0) (by rw [H2.out]; exact n1) (by rw [H2.out]; exact n2)⟩
set_option maxRecDepth 100000 in
set_option maxHeartbeats 4000000 in
theorem rf_so2 (B : Nat) (p A : Option Addr) (cp : Nat) (nv : Value) (r : LS) (w : World) (h : RunP w B p A cp nv r) (hl : r.ns.length ≤ 900) (hx : Words r.xs) (h1 : r.op = 2) : Calls Try.prog 32 #[Value.pointer (some ⟨B, 0, none⟩)] w (ClS [59, 63, 66, 68, 70, 73, 75] B p A cp r r.rf w) := by
  have H1 := Lib.hid h1
  clear h1
  obtain ⟨ln, H2⟩ : ∃ ln, Hid (r.line = ln) := ⟨_, Lib.hid rfl⟩
  have HX := Lib.hid hx
  have HL := Lib.hid hl
  have e0 := (Only.refl Nil w).alloc (.cells #[Value.pointer (some ⟨B, 0, none⟩)] 62)
  have HP := Lib.hid (h.keep e0)
  have HO := Lib.hid e0
  have HR := Lib.hid (Row.new w 62 #[Value.pointer (some ⟨B, 0, none⟩)])
  clear h hl hx e0
  go_enter Try.func32, Try.ntmps32
  go_upto_region 1 with (fail)
  generalize w.alloc (.cells #[Value.pointer (some ⟨B, 0, none⟩)] 62) = w1 at *
  generalize w.heap.size = gs at *
  refine wp_region_phase (n := 11) 10 (fun w => w.cell? ⟨gs, 0, none⟩ = some (Value.pointer (some ⟨B, 0, none⟩)) ∧ w.cell? ⟨B, 4, none⟩ = some (.int .i64 (2)) ∧ w.cell? ⟨B, 5, none⟩ = some (.int .i64 ln)) rfl (by kernel_rfl) ⟨HR.out.cell_ (i := 0) rfl, by rw [← H1.out]; exact HP.out.row.cell_ (i := 4) rfl, by rw [← H2.out]; exact HP.out.row.cell_ (i := 5) rfl⟩ (fun hHeld => ?_)
  have HP1 := Lib.hid (HP.out.keep (Only.refl Nil w1).drew)
  have HR1 := Lib.hid HR.out.drew
  have HO1 := Lib.hid HO.out.drew
  clear HP HR HO
  generalize w1.drew = w2 at *
  refine zt 0 rfl ?_
  refine za 1 rfl ?_
  refine za 2 rfl ?_
  refine za 3 rfl ?_
  refine zt 4 rfl ?_
  refine zt 5 rfl ?_
  refine za 6 rfl ?_
  refine za 7 rfl ?_
  refine za 8 rfl ?_
  refine zt 9 rfl ?_
  refine mpc 10 rfl (by kernel_rfl) (by rfl) (fun K hK => ?_)
  go_simp
  refine hK.out _ _ (.inl (by kernel_rfl)) ?_
  clear hK K
  refine wpAnyP_done (by kernel_rfl) ?_ _
  clear hHeld
  have b0 : w2.cell? ⟨gs, 0, none⟩ = some (Value.pointer (some ⟨B, 0, none⟩)) := HR1.out.cell_ (i := 0) rfl
  by_cases g0 : ln = 0
  · rcases g0 with rfl
    go_wp2_with fail
    have e0 := (Only.refl Nil w2).alloc (.cells #[.int .i64 6] 3)
    refine (rchange_make B p A cp nv r 4294967295 _ [6] _ (HP1.out.keep e0) HL.out (whats_1 HP1.out 6) (by decide)).mono ?_
    rintro e w3 ⟨caps, rfl, hO, hC⟩
    have H := Lib.hid (And.intro (e0.trans hO) hC)
    clear hO hC e0
    go_wp2
    go_ret
    exact .inl ⟨_, by decide, caps, rfl, HO1.out.trans H.out.1, by rw [show r.rf = r.fChange 4294967295 [6] from by unfold LS.rf; rw [H1.out, H2.out]; rfl]; exact H.out.2⟩
  have n0 : ¬ ln = 0 := by omega
  clear g0
  go_wp2
  go_ret
  exact .inr ⟨rfl, HO1.out, by exact rf_no2 H1.out (by rw [H2.out]; exact n0)⟩
set_option maxRecDepth 100000 in
set_option maxHeartbeats 4000000 in
theorem rf_so8 (B : Nat) (p A : Option Addr) (cp : Nat) (nv : Value) (r : LS) (w : World) (h : RunP w B p A cp nv r) (hl : r.ns.length ≤ 900) (hx : Words r.xs) (h1 : r.op = 8) : Calls Try.prog 32 #[Value.pointer (some ⟨B, 0, none⟩)] w (ClS [59, 63, 66, 68, 70, 73, 75] B p A cp r r.rf w) := by
  have H1 := Lib.hid h1
  clear h1
  obtain ⟨ln, H2⟩ : ∃ ln, Hid (r.line = ln) := ⟨_, Lib.hid rfl⟩
  have HX := Lib.hid hx
  have HL := Lib.hid hl
  have e0 := (Only.refl Nil w).alloc (.cells #[Value.pointer (some ⟨B, 0, none⟩)] 62)
  have HP := Lib.hid (h.keep e0)
  have HO := Lib.hid e0
  have HR := Lib.hid (Row.new w 62 #[Value.pointer (some ⟨B, 0, none⟩)])
  clear h hl hx e0
  go_enter Try.func32, Try.ntmps32
  go_upto_region 1 with (fail)
  generalize w.alloc (.cells #[Value.pointer (some ⟨B, 0, none⟩)] 62) = w1 at *
  generalize w.heap.size = gs at *
  refine wp_region_phase (n := 11) 10 (fun w => w.cell? ⟨gs, 0, none⟩ = some (Value.pointer (some ⟨B, 0, none⟩)) ∧ w.cell? ⟨B, 4, none⟩ = some (.int .i64 (8)) ∧ w.cell? ⟨B, 5, none⟩ = some (.int .i64 ln)) rfl (by kernel_rfl) ⟨HR.out.cell_ (i := 0) rfl, by rw [← H1.out]; exact HP.out.row.cell_ (i := 4) rfl, by rw [← H2.out]; exact HP.out.row.cell_ (i := 5) rfl⟩ (fun hHeld => ?_)
  have HP1 := Lib.hid (HP.out.keep (Only.refl Nil w1).drew)
  have HR1 := Lib.hid HR.out.drew
  have HO1 := Lib.hid HO.out.drew
  clear HP HR HO
  generalize w1.drew = w2 at *
  refine zt 0 rfl ?_
  refine za 1 rfl ?_
  refine za 2 rfl ?_
  refine za 3 rfl ?_
  refine zt 4 rfl ?_
  refine zt 5 rfl ?_
  refine za 6 rfl ?_
  refine za 7 rfl ?_
  refine za 8 rfl ?_
  refine zt 9 rfl ?_
  refine mpc 10 rfl (by kernel_rfl) (by rfl) (fun K hK => ?_)
  go_simp
  refine hK.out _ _ (.inl (by kernel_rfl)) ?_
  clear hK K
  refine wpAnyP_done (by kernel_rfl) ?_ _
  clear hHeld
  have b0 : w2.cell? ⟨gs, 0, none⟩ = some (Value.pointer (some ⟨B, 0, none⟩)) := HR1.out.cell_ (i := 0) rfl
  by_cases g0 : ln = 0
  · rcases g0 with rfl
    go_wp2_with fail
    have e0 := (Only.refl Nil w2).alloc (.cells #[.int .i64 10] 3)
    refine (rchange_make B p A cp nv r 4294901761 _ [10] _ (HP1.out.keep e0) HL.out (whats_1 HP1.out 10) (by decide)).mono ?_
    rintro e w3 ⟨caps, rfl, hO, hC⟩
    have H := Lib.hid (And.intro (e0.trans hO) hC)
    clear hO hC e0
    go_wp2
    go_ret
    exact .inl ⟨_, by decide, caps, rfl, HO1.out.trans H.out.1, by rw [show r.rf = r.fChange 4294901761 [10] from by unfold LS.rf; rw [H1.out, H2.out]; rfl]; exact H.out.2⟩
  have n0 : ¬ ln = 0 := by omega
  clear g0
  go_wp2
  go_ret
  exact .inr ⟨rfl, HO1.out, by exact rf_no8 H1.out (by rw [H2.out]; exact n0)⟩
end Go.Proofs.Ytkmkeleifkkbnaa
set_option linter.unusedVariables false
set_option linter.unusedSimpArgs false
namespace Go.Proofs.Ytkmkeleifkkbnaa
open Go.RowKit
set_option maxRecDepth 100000 in
set_option maxHeartbeats 4000000 in
theorem rf_so (B : Nat) (p A : Option Addr) (cp : Nat) (nv : Value) (r : LS) (w : World) (h : RunP w B p A cp nv r) (hl : r.ns.length ≤ 900) (hx : Words r.xs) (o1 : ¬ r.op = 1) (o2 : ¬ r.op = 2) (o3 : ¬ r.op = 3) (o4 : ¬ r.op = 4) (o5 : ¬ r.op = 5) (o6 : ¬ r.op = 6) (o7 : ¬ r.op = 7) (o8 : ¬ r.op = 8) (hno : r.rf = r) : Calls Try.prog 32 #[Value.pointer (some ⟨B, 0, none⟩)] w (ClS [59, 63, 66, 68, 70, 73, 75] B p A cp r r.rf w) := by
  obtain ⟨ol, H1⟩ : ∃ ol, Hid (r.op = ol) := ⟨_, Lib.hid rfl⟩
  rw [H1.out] at o1 o2 o3 o4 o5 o6 o7 o8
  obtain ⟨ln, H2⟩ : ∃ ln, Hid (r.line = ln) := ⟨_, Lib.hid rfl⟩
  have HX := Lib.hid hx
  have HL := Lib.hid hl
  have e0 := (Only.refl Nil w).alloc (.cells #[Value.pointer (some ⟨B, 0, none⟩)] 62)
  have HP := Lib.hid (h.keep e0)
  have HO := Lib.hid e0
  have HR := Lib.hid (Row.new w 62 #[Value.pointer (some ⟨B, 0, none⟩)])
  clear h hl hx e0
  go_enter Try.func32, Try.ntmps32
  go_upto_region 1 with (fail)
  generalize w.alloc (.cells #[Value.pointer (some ⟨B, 0, none⟩)] 62) = w1 at *
  generalize w.heap.size = gs at *
  refine wp_region_phase (n := 11) 10 (fun w => w.cell? ⟨gs, 0, none⟩ = some (Value.pointer (some ⟨B, 0, none⟩)) ∧ w.cell? ⟨B, 4, none⟩ = some (.int .i64 (ol)) ∧ w.cell? ⟨B, 5, none⟩ = some (.int .i64 ln)) rfl (by kernel_rfl) ⟨HR.out.cell_ (i := 0) rfl, by rw [← H1.out]; exact HP.out.row.cell_ (i := 4) rfl, by rw [← H2.out]; exact HP.out.row.cell_ (i := 5) rfl⟩ (fun hHeld => ?_)
  have HP1 := Lib.hid (HP.out.keep (Only.refl Nil w1).drew)
  have HR1 := Lib.hid HR.out.drew
  have HO1 := Lib.hid HO.out.drew
  clear HP HR HO
  generalize w1.drew = w2 at *
  refine zt 0 rfl ?_
  refine za 1 rfl ?_
  refine za 2 rfl ?_
  refine za 3 rfl ?_
  refine zt 4 rfl ?_
  refine zt 5 rfl ?_
  refine za 6 rfl ?_
  refine za 7 rfl ?_
  refine za 8 rfl ?_
  refine zt 9 rfl ?_
  refine mpc 10 rfl (by kernel_rfl) (by rfl) (fun K hK => ?_)
  go_simp
  refine hK.out _ _ (.inl (by kernel_rfl)) ?_
  clear hK K
  refine wpAnyP_done (by kernel_rfl) ?_ _
  clear hHeld
  have b0 : w2.cell? ⟨gs, 0, none⟩ = some (Value.pointer (some ⟨B, 0, none⟩)) := HR1.out.cell_ (i := 0) rfl
  go_wp2
  go_ret
  exact .inr ⟨rfl, HO1.out, hno⟩
set_option maxRecDepth 100000 in
set_option maxHeartbeats 4000000 in
theorem rf_so4 (B : Nat) (p A : Option Addr) (cp : Nat) (nv : Value) (r : LS) (w : World) (h : RunP w B p A cp nv r) (hl : r.ns.length ≤ 900) (hx : Words r.xs) (h1 : r.op = 4) : Calls Try.prog 32 #[Value.pointer (some ⟨B, 0, none⟩)] w (ClS [59, 63, 66, 68, 70, 73, 75] B p A cp r r.rf w) := by
  have H1 := Lib.hid h1
  clear h1
  obtain ⟨ln, H2⟩ : ∃ ln, Hid (r.line = ln) := ⟨_, Lib.hid rfl⟩
  have HX := Lib.hid hx
  have HL := Lib.hid hl
  have e0 := (Only.refl Nil w).alloc (.cells #[Value.pointer (some ⟨B, 0, none⟩)] 62)
  have HP := Lib.hid (h.keep e0)
  have HO := Lib.hid e0
  have HR := Lib.hid (Row.new w 62 #[Value.pointer (some ⟨B, 0, none⟩)])
  clear h hl hx e0
  go_enter Try.func32, Try.ntmps32
  go_upto_region 1 with (fail)
  generalize w.alloc (.cells #[Value.pointer (some ⟨B, 0, none⟩)] 62) = w1 at *
  generalize w.heap.size = gs at *
  refine wp_region_phase (n := 11) 10 (fun w => w.cell? ⟨gs, 0, none⟩ = some (Value.pointer (some ⟨B, 0, none⟩)) ∧ w.cell? ⟨B, 4, none⟩ = some (.int .i64 (4)) ∧ w.cell? ⟨B, 5, none⟩ = some (.int .i64 ln)) rfl (by kernel_rfl) ⟨HR.out.cell_ (i := 0) rfl, by rw [← H1.out]; exact HP.out.row.cell_ (i := 4) rfl, by rw [← H2.out]; exact HP.out.row.cell_ (i := 5) rfl⟩ (fun hHeld => ?_)
  have HP1 := Lib.hid (HP.out.keep (Only.refl Nil w1).drew)
  have HR1 := Lib.hid HR.out.drew
  have HO1 := Lib.hid HO.out.drew
  clear HP HR HO
  generalize w1.drew = w2 at *
  refine zt 0 rfl ?_
  refine za 1 rfl ?_
  refine za 2 rfl ?_
  refine za 3 rfl ?_
  refine zt 4 rfl ?_
  refine zt 5 rfl ?_
  refine za 6 rfl ?_
  refine za 7 rfl ?_
  refine za 8 rfl ?_
  refine zt 9 rfl ?_
  refine mpc 10 rfl (by kernel_rfl) (by rfl) (fun K hK => ?_)
  go_simp
  refine hK.out _ _ (.inl (by kernel_rfl)) ?_
  clear hK K
  refine wpAnyP_done (by kernel_rfl) ?_ _
  clear hHeld
  have b0 : w2.cell? ⟨gs, 0, none⟩ = some (Value.pointer (some ⟨B, 0, none⟩)) := HR1.out.cell_ (i := 0) rfl
  by_cases g0 : ln = 0
  · rcases g0 with rfl
    go_wp2_with fail
    have e0 := (Only.refl Nil w2).alloc (.cells #[.int .i64 7, .int .i64 8] 3)
    refine (rchange_make B p A cp nv r 4294901760 _ [7, 8] _ (HP1.out.keep e0) HL.out (whats_2 HP1.out 7 8) (by decide)).mono ?_
    rintro e w3 ⟨caps, rfl, hO, hC⟩
    have H := Lib.hid (And.intro (e0.trans hO) hC)
    clear hO hC e0
    go_wp2
    go_ret
    exact .inl ⟨_, by decide, caps, rfl, HO1.out.trans H.out.1, by rw [show r.rf = r.fChange 4294901760 [7, 8] from by unfold LS.rf; rw [H1.out, H2.out]; rfl]; exact H.out.2⟩
  have n0 : ¬ ln = 0 := by omega
  clear g0
  go_wp2
  go_ret
  exact .inr ⟨rfl, HO1.out, by exact rf_no4 H1.out (by rw [H2.out]; exact n0)⟩
end Go.Proofs.Ytkmkeleifkkbnaa
set_option linter.unusedVariables false
set_option linter.unusedSimpArgs false
namespace Go.Proofs.Ytkmkeleifkkbnaa
open Go.RowKit
set_option maxRecDepth 100000 in
set_option maxHeartbeats 4000000 in
theorem rf_so1 (B : Nat) (p A : Option Addr) (cp : Nat) (nv : Value) (r : LS) (w : World) (h : RunP w B p A cp nv r) (hl : r.ns.length ≤ 900) (hx : Words r.xs) (h1 : r.op = 1) : Calls Try.prog 32 #[Value.pointer (some ⟨B, 0, none⟩)] w (ClS [59, 63, 66, 68, 70, 73, 75] B p A cp r r.rf w) := by
  have H1 := Lib.hid h1
  clear h1
  obtain ⟨ln, H2⟩ : ∃ ln, Hid (r.line = ln) := ⟨_, Lib.hid rfl⟩
  have HX := Lib.hid hx
  have HL := Lib.hid hl
  have e0 := (Only.refl Nil w).alloc (.cells #[Value.pointer (some ⟨B, 0, none⟩)] 62)
  have HP := Lib.hid (h.keep e0)
  have HO := Lib.hid e0
  have HR := Lib.hid (Row.new w 62 #[Value.pointer (some ⟨B, 0, none⟩)])
  clear h hl hx e0
  go_enter Try.func32, Try.ntmps32
  go_upto_region 1 with (fail)
  generalize w.alloc (.cells #[Value.pointer (some ⟨B, 0, none⟩)] 62) = w1 at *
  generalize w.heap.size = gs at *
  refine wp_region_phase (n := 11) 10 (fun w => w.cell? ⟨gs, 0, none⟩ = some (Value.pointer (some ⟨B, 0, none⟩)) ∧ w.cell? ⟨B, 4, none⟩ = some (.int .i64 (1)) ∧ w.cell? ⟨B, 5, none⟩ = some (.int .i64 ln)) rfl (by kernel_rfl) ⟨HR.out.cell_ (i := 0) rfl, by rw [← H1.out]; exact HP.out.row.cell_ (i := 4) rfl, by rw [← H2.out]; exact HP.out.row.cell_ (i := 5) rfl⟩ (fun hHeld => ?_)
  have HP1 := Lib.hid (HP.out.keep (Only.refl Nil w1).drew)
  have HR1 := Lib.hid HR.out.drew
  have HO1 := Lib.hid HO.out.drew
  clear HP HR HO
  generalize w1.drew = w2 at *
  refine zt 0 rfl ?_
  refine za 1 rfl ?_
  refine za 2 rfl ?_
  refine za 3 rfl ?_
  refine zt 4 rfl ?_
  refine zt 5 rfl ?_
  refine za 6 rfl ?_
  refine za 7 rfl ?_
  refine za 8 rfl ?_
  refine zt 9 rfl ?_
  refine mpc 10 rfl (by kernel_rfl) (by rfl) (fun K hK => ?_)
  go_simp
  refine hK.out _ _ (.inl (by kernel_rfl)) ?_
  clear hK K
  refine wpAnyP_done (by kernel_rfl) ?_ _
  clear hHeld
  have b0 : w2.cell? ⟨gs, 0, none⟩ = some (Value.pointer (some ⟨B, 0, none⟩)) := HR1.out.cell_ (i := 0) rfl
  by_cases g0 : ln = 0
  · rcases g0 with rfl
    go_wp2_with fail
    refine (rcin_make B p A cp nv r _ HP1.out HL.out HX.out).mono ?_
    rintro e w3 ⟨caps, rfl, hO, hC⟩
    have H := Lib.hid (And.intro hO hC)
    clear hO hC
    go_wp2
    go_ret
    exact .inl ⟨_, by decide, caps, rfl, HO1.out.trans H.out.1, by rw [show r.rf = r.fCome from by unfold LS.rf; rw [H1.out, H2.out]; rfl]; exact H.out.2⟩
  by_cases g1 : ln = 1
  · rcases g1 with rfl
    go_wp2_with fail
    refine (rleave_make B p A cp nv r _ HP1.out HL.out HX.out).mono ?_
    rintro e w3 ⟨caps, rfl, hO, hC⟩
    have H := Lib.hid (And.intro hO hC)
    clear hO hC
    go_wp2
    go_ret
    exact .inl ⟨_, by decide, caps, rfl, HO1.out.trans H.out.1, by rw [show r.rf = r.pAdmit 0 outW from by unfold LS.rf; rw [H1.out, H2.out]; rfl]; exact H.out.2⟩
  have n0 : ¬ ln = 0 := by omega
  have n1 : ¬ ln = 1 := by omega
  clear g0 g1
  go_wp2
  go_ret
  exact .inr ⟨rfl, HO1.out, by exact rf_no1 H1.out (by rw [H2.out]; exact n0) (by rw [H2.out]; exact n1)⟩
set_option maxRecDepth 100000 in
set_option maxHeartbeats 4000000 in
theorem rf_so6 (B : Nat) (p A : Option Addr) (cp : Nat) (nv : Value) (r : LS) (w : World) (h : RunP w B p A cp nv r) (hl : r.ns.length ≤ 900) (hx : Words r.xs) (h1 : r.op = 6) : Calls Try.prog 32 #[Value.pointer (some ⟨B, 0, none⟩)] w (ClS [59, 63, 66, 68, 70, 73, 75] B p A cp r r.rf w) := by
  have H1 := Lib.hid h1
  clear h1
  obtain ⟨ln, H2⟩ : ∃ ln, Hid (r.line = ln) := ⟨_, Lib.hid rfl⟩
  have HX := Lib.hid hx
  have HL := Lib.hid hl
  have e0 := (Only.refl Nil w).alloc (.cells #[Value.pointer (some ⟨B, 0, none⟩)] 62)
  have HP := Lib.hid (h.keep e0)
  have HO := Lib.hid e0
  have HR := Lib.hid (Row.new w 62 #[Value.pointer (some ⟨B, 0, none⟩)])
  clear h hl hx e0
  go_enter Try.func32, Try.ntmps32
  go_upto_region 1 with (fail)
  generalize w.alloc (.cells #[Value.pointer (some ⟨B, 0, none⟩)] 62) = w1 at *
  generalize w.heap.size = gs at *
  refine wp_region_phase (n := 11) 10 (fun w => w.cell? ⟨gs, 0, none⟩ = some (Value.pointer (some ⟨B, 0, none⟩)) ∧ w.cell? ⟨B, 4, none⟩ = some (.int .i64 (6)) ∧ w.cell? ⟨B, 5, none⟩ = some (.int .i64 ln)) rfl (by kernel_rfl) ⟨HR.out.cell_ (i := 0) rfl, by rw [← H1.out]; exact HP.out.row.cell_ (i := 4) rfl, by rw [← H2.out]; exact HP.out.row.cell_ (i := 5) rfl⟩ (fun hHeld => ?_)
  have HP1 := Lib.hid (HP.out.keep (Only.refl Nil w1).drew)
  have HR1 := Lib.hid HR.out.drew
  have HO1 := Lib.hid HO.out.drew
  clear HP HR HO
  generalize w1.drew = w2 at *
  refine zt 0 rfl ?_
  refine za 1 rfl ?_
  refine za 2 rfl ?_
  refine za 3 rfl ?_
  refine zt 4 rfl ?_
  refine zt 5 rfl ?_
  refine za 6 rfl ?_
  refine za 7 rfl ?_
  refine za 8 rfl ?_
  refine zt 9 rfl ?_
  refine mpc 10 rfl (by kernel_rfl) (by rfl) (fun K hK => ?_)
  go_simp
  refine hK.out _ _ (.inl (by kernel_rfl)) ?_
  clear hK K
  refine wpAnyP_done (by kernel_rfl) ?_ _
  clear hHeld
  have b0 : w2.cell? ⟨gs, 0, none⟩ = some (Value.pointer (some ⟨B, 0, none⟩)) := HR1.out.cell_ (i := 0) rfl
  by_cases g0 : ln = 0
  · rcases g0 with rfl
    go_wp2_with fail
    refine (rweigh_make 51 enters_s4 (fun v => v == 0) asks_zero B p A cp nv r _ HP1.out HL.out HX.out).mono ?_
    rintro e w3 ⟨caps, rfl, hO, hC⟩
    have H := Lib.hid (And.intro hO hC)
    clear hO hC
    go_wp2
    go_ret
    exact .inl ⟨_, by decide, caps, rfl, HO1.out.trans H.out.1, by rw [show r.rf = r.fLook (wordAt r.xs 0 == 0) from by unfold LS.rf; rw [H1.out, H2.out]; rfl]; exact H.out.2⟩
  by_cases g1 : ln = 1
  · rcases g1 with rfl
    go_wp2_with fail
    refine (rclaim_make 52 enters_s5 (fun r => (r.note 2 2).note 4 0) (fun B p A cp nv r g0 w h hl hb => rthen_5 B p A cp nv r g0 w h hl hb) B p A cp nv r (0) (65536) 0 gs _ HP1.out HL.out HR1.out).mono ?_
    rintro e w3 ⟨caps, rfl, hO, hC⟩
    have H := Lib.hid (And.intro hO hC)
    clear hO hC
    go_wp2
    go_ret
    exact .inl ⟨_, by decide, caps, rfl, HO1.out.trans H.out.1, by rw [show r.rf = r.fClaim 0 65536 0 (fun r => (r.note 2 2).note 4 0) from by unfold LS.rf; rw [H1.out, H2.out]; rfl]; exact H.out.2⟩
  have n0 : ¬ ln = 0 := by omega
  have n1 : ¬ ln = 1 := by omega
  clear g0 g1
  go_wp2
  go_ret
  exact .inr ⟨rfl, HO1.out, by exact rf_no6 H1.out (by rw [H2.out]; exact n0) (by rw [H2.out]; exact n1)⟩
end Go.Proofs.Ytkmkeleifkkbnaa
set_option linter.unusedVariables false
set_option linter.unusedSimpArgs false
namespace Go.Proofs.Ytkmkeleifkkbnaa
open Go.RowKit
set_option maxRecDepth 100000 in
set_option maxHeartbeats 4000000 in
theorem rf_so5 (B : Nat) (p A : Option Addr) (cp : Nat) (nv : Value) (r : LS) (w : World) (h : RunP w B p A cp nv r) (hl : r.ns.length ≤ 900) (hx : Words r.xs) (h1 : r.op = 5) : Calls Try.prog 32 #[Value.pointer (some ⟨B, 0, none⟩)] w (ClS [59, 63, 66, 68, 70, 73, 75] B p A cp r r.rf w) := by
  have H1 := Lib.hid h1
  clear h1
  obtain ⟨ln, H2⟩ : ∃ ln, Hid (r.line = ln) := ⟨_, Lib.hid rfl⟩
  have HX := Lib.hid hx
  have HL := Lib.hid hl
  have e0 := (Only.refl Nil w).alloc (.cells #[Value.pointer (some ⟨B, 0, none⟩)] 62)
  have HP := Lib.hid (h.keep e0)
  have HO := Lib.hid e0
  have HR := Lib.hid (Row.new w 62 #[Value.pointer (some ⟨B, 0, none⟩)])
  clear h hl hx e0
  go_enter Try.func32, Try.ntmps32
  go_upto_region 1 with (fail)
  generalize w.alloc (.cells #[Value.pointer (some ⟨B, 0, none⟩)] 62) = w1 at *
  generalize w.heap.size = gs at *
  refine wp_region_phase (n := 11) 10 (fun w => w.cell? ⟨gs, 0, none⟩ = some (Value.pointer (some ⟨B, 0, none⟩)) ∧ w.cell? ⟨B, 4, none⟩ = some (.int .i64 (5)) ∧ w.cell? ⟨B, 5, none⟩ = some (.int .i64 ln)) rfl (by kernel_rfl) ⟨HR.out.cell_ (i := 0) rfl, by rw [← H1.out]; exact HP.out.row.cell_ (i := 4) rfl, by rw [← H2.out]; exact HP.out.row.cell_ (i := 5) rfl⟩ (fun hHeld => ?_)
  have HP1 := Lib.hid (HP.out.keep (Only.refl Nil w1).drew)
  have HR1 := Lib.hid HR.out.drew
  have HO1 := Lib.hid HO.out.drew
  clear HP HR HO
  generalize w1.drew = w2 at *
  refine zt 0 rfl ?_
  refine za 1 rfl ?_
  refine za 2 rfl ?_
  refine za 3 rfl ?_
  refine zt 4 rfl ?_
  refine zt 5 rfl ?_
  refine za 6 rfl ?_
  refine za 7 rfl ?_
  refine za 8 rfl ?_
  refine zt 9 rfl ?_
  refine mpc 10 rfl (by kernel_rfl) (by rfl) (fun K hK => ?_)
  go_simp
  refine hK.out _ _ (.inl (by kernel_rfl)) ?_
  clear hK K
  refine wpAnyP_done (by kernel_rfl) ?_ _
  clear hHeld
  have b0 : w2.cell? ⟨gs, 0, none⟩ = some (Value.pointer (some ⟨B, 0, none⟩)) := HR1.out.cell_ (i := 0) rfl
  by_cases g0 : ln = 0
  · rcases g0 with rfl
    go_wp2_with fail
    refine (rweigh_make 47 enters_s2 outW asks_out B p A cp nv r _ HP1.out HL.out HX.out).mono ?_
    rintro e w3 ⟨caps, rfl, hO, hC⟩
    have H := Lib.hid (And.intro hO hC)
    clear hO hC
    go_wp2
    go_ret
    exact .inl ⟨_, by decide, caps, rfl, HO1.out.trans H.out.1, by rw [show r.rf = r.fLook (outW (wordAt r.xs 0)) from by unfold LS.rf; rw [H1.out, H2.out]; rfl]; exact H.out.2⟩
  by_cases g1 : ln = 1
  · rcases g1 with rfl
    have hx1 : IntKind.u32.wrap (r.a + 1) = (r.a + 1) % 4294967296 := rfl
    go_upto_region 19 with (fail)
    refine wp_region_phase (n := 15) 13 (fun w => w.cell? ⟨gs, 0, none⟩ = some (Value.pointer (some ⟨B, 0, none⟩)) ∧ w.cell? ⟨B, 6, none⟩ = some (.int .u32 r.a)) rfl (by kernel_rfl) ⟨b0, HP1.out.row.cell_ (i := 6) rfl⟩ (fun hHeld => ?_)
    clear b0
    have HP2 := Lib.hid (HP1.out.keep (Only.refl Nil w2).drew)
    have HR2 := Lib.hid HR1.out.drew
    have HO2 := Lib.hid HO1.out.drew
    clear HP1 HR1 HO1
    generalize w2.drew = w3 at *
    refine zt 0 rfl ?_
    refine zt 1 rfl ?_
    refine za 2 rfl ?_
    refine za 3 rfl ?_
    refine za 4 rfl ?_
    refine zt 5 rfl ?_
    refine zt 6 rfl ?_
    refine za 7 rfl ?_
    refine za 8 rfl ?_
    refine za 9 rfl ?_
    refine zt 10 rfl ?_
    refine za 11 rfl ?_
    refine za 12 rfl ?_
    refine mpc 13 rfl (by kernel_rfl) (by rfl) (fun K hK => ?_)
    go_simp
    refine (rclaim_make 49 enters_s3 (fun r => (r.note 2 1).note 4 0) (fun B p A cp nv r g0 w h hl hb => rthen_3 B p A cp nv r g0 w h hl hb) B p A cp nv r r.a ((r.a + 1) % 4294967296) 0 gs _ HP2.out HL.out HR2.out).mono ?_
    rintro e w4 ⟨caps, rfl, hO, hC⟩
    have H := Lib.hid (And.intro hO hC)
    clear hO hC
    refine hK.out _ _ (.inl (by kernel_rfl)) ?_
    clear hK K hHeld
    refine za 14 rfl ?_
    refine wpAnyP_done (by kernel_rfl) ?_ _
    go_wp2
    go_ret
    exact .inl ⟨_, by decide, caps, rfl, HO2.out.trans H.out.1, by rw [show r.rf = r.fClaim r.a ((r.a + 1) % 4294967296) 0 (fun r => (r.note 2 1).note 4 0) from by unfold LS.rf; rw [H1.out, H2.out]; rfl]; exact H.out.2⟩
  have n0 : ¬ ln = 0 := by omega
  have n1 : ¬ ln = 1 := by omega
  clear g0 g1
  go_wp2
  go_ret
  exact .inr ⟨rfl, HO1.out, by exact rf_no5 H1.out (by rw [H2.out]; exact n0) (by rw [H2.out]; exact n1)⟩
set_option maxRecDepth 100000 in
set_option maxHeartbeats 4000000 in
theorem rf_so7 (B : Nat) (p A : Option Addr) (cp : Nat) (nv : Value) (r : LS) (w : World) (h : RunP w B p A cp nv r) (hl : r.ns.length ≤ 900) (hx : Words r.xs) (h1 : r.op = 7) : Calls Try.prog 32 #[Value.pointer (some ⟨B, 0, none⟩)] w (ClS [59, 63, 66, 68, 70, 73, 75] B p A cp r r.rf w) := by
  have H1 := Lib.hid h1
  clear h1
  obtain ⟨ln, H2⟩ : ∃ ln, Hid (r.line = ln) := ⟨_, Lib.hid rfl⟩
  have HX := Lib.hid hx
  have HL := Lib.hid hl
  have e0 := (Only.refl Nil w).alloc (.cells #[Value.pointer (some ⟨B, 0, none⟩)] 62)
  have HP := Lib.hid (h.keep e0)
  have HO := Lib.hid e0
  have HR := Lib.hid (Row.new w 62 #[Value.pointer (some ⟨B, 0, none⟩)])
  clear h hl hx e0
  go_enter Try.func32, Try.ntmps32
  go_upto_region 1 with (fail)
  generalize w.alloc (.cells #[Value.pointer (some ⟨B, 0, none⟩)] 62) = w1 at *
  generalize w.heap.size = gs at *
  refine wp_region_phase (n := 11) 10 (fun w => w.cell? ⟨gs, 0, none⟩ = some (Value.pointer (some ⟨B, 0, none⟩)) ∧ w.cell? ⟨B, 4, none⟩ = some (.int .i64 (7)) ∧ w.cell? ⟨B, 5, none⟩ = some (.int .i64 ln)) rfl (by kernel_rfl) ⟨HR.out.cell_ (i := 0) rfl, by rw [← H1.out]; exact HP.out.row.cell_ (i := 4) rfl, by rw [← H2.out]; exact HP.out.row.cell_ (i := 5) rfl⟩ (fun hHeld => ?_)
  have HP1 := Lib.hid (HP.out.keep (Only.refl Nil w1).drew)
  have HR1 := Lib.hid HR.out.drew
  have HO1 := Lib.hid HO.out.drew
  clear HP HR HO
  generalize w1.drew = w2 at *
  refine zt 0 rfl ?_
  refine za 1 rfl ?_
  refine za 2 rfl ?_
  refine za 3 rfl ?_
  refine zt 4 rfl ?_
  refine zt 5 rfl ?_
  refine za 6 rfl ?_
  refine za 7 rfl ?_
  refine za 8 rfl ?_
  refine zt 9 rfl ?_
  refine mpc 10 rfl (by kernel_rfl) (by rfl) (fun K hK => ?_)
  go_simp
  refine hK.out _ _ (.inl (by kernel_rfl)) ?_
  clear hK K
  refine wpAnyP_done (by kernel_rfl) ?_ _
  clear hHeld
  have b0 : w2.cell? ⟨gs, 0, none⟩ = some (Value.pointer (some ⟨B, 0, none⟩)) := HR1.out.cell_ (i := 0) rfl
  by_cases g0 : ln = 0
  · rcases g0 with rfl
    go_wp2_with fail
    refine (rweigh_make 53 enters_s6 (fun v => v == 1) asks_one B p A cp nv r _ HP1.out HL.out HX.out).mono ?_
    rintro e w3 ⟨caps, rfl, hO, hC⟩
    have H := Lib.hid (And.intro hO hC)
    clear hO hC
    go_wp2
    go_ret
    exact .inl ⟨_, by decide, caps, rfl, HO1.out.trans H.out.1, by rw [show r.rf = r.fLook (wordAt r.xs 0 == 1) from by unfold LS.rf; rw [H1.out, H2.out]; rfl]; exact H.out.2⟩
  by_cases g1 : ln = 1
  · rcases g1 with rfl
    go_wp2_with fail
    refine (rclaim_make 54 enters_s7 (fun r => r.note 9 0) (fun B p A cp nv r g0 w h hl hb => rthen_7 B p A cp nv r g0 w h hl hb) B p A cp nv r (1) (65536) 0 gs _ HP1.out HL.out HR1.out).mono ?_
    rintro e w3 ⟨caps, rfl, hO, hC⟩
    have H := Lib.hid (And.intro hO hC)
    clear hO hC
    go_wp2
    go_ret
    exact .inl ⟨_, by decide, caps, rfl, HO1.out.trans H.out.1, by rw [show r.rf = r.fClaim 1 65536 0 (fun r => r.note 9 0) from by unfold LS.rf; rw [H1.out, H2.out]; rfl]; exact H.out.2⟩
  have n0 : ¬ ln = 0 := by omega
  have n1 : ¬ ln = 1 := by omega
  clear g0 g1
  go_wp2
  go_ret
  exact .inr ⟨rfl, HO1.out, by exact rf_no7 H1.out (by rw [H2.out]; exact n0) (by rw [H2.out]; exact n1)⟩
end Go.Proofs.Ytkmkeleifkkbnaa
set_option linter.unusedVariables false
set_option linter.unusedSimpArgs false
namespace Go.Proofs.Ytkmkeleifkkbnaa
open Go.RowKit
set_option maxHeartbeats 4000000 in
theorem rf_runs (B : Nat) (p A : Option Addr) (cp : Nat) (nv : Value) (r r' : LS) (w : World) (h : RunP w B p A cp nv r) (hs : Calls Try.prog 32 #[Value.pointer (some ⟨B, 0, none⟩)] w (ClS [59, 63, 66, 68, 70, 73, 75] B p A cp r r' w)) : Calls Try.prog 22 #[Value.pointer (some ⟨B, 0, none⟩)] w (Done B p A cp w (.tuple #[]) r') := by
  have HS := Lib.hid hs
  have HP := Lib.hid h
  clear hs h
  have hn := neq_fnC
  have hn0 := neq_nilC
  go_enter Try.func22, Try.ntmps22
  go_wp2_with fail
  refine HS.out.mono ?_
  rintro e w1 (⟨F, hF, caps, rfl, hO, hC⟩ | ⟨rfl, hO, rfl⟩)
  · have HO := Lib.hid hO
    have HC := Lib.hid hC
    clear hO hC HS HP
    simp only [List.mem_cons, List.not_mem_nil, or_false] at hF
    rcases hF with rfl | rfl | rfl | rfl | rfl | rfl | rfl
    all_goals
      go_wp2_with fail
      refine HC.out.mono ?_
      rintro e w2 ⟨rfl, hO, nv2, hP⟩
      have HO2 := Lib.hid ((HO.out.mono (T := TurnB B A) (fun _ _ h => h.elim)).trans hO)
      have HP2 := Lib.hid hP
      clear hO hP HO HC
      go_wp2
      go_returns
      exact ⟨rfl, HO2.out, nv2, HP2.out⟩
  · have HO := Lib.hid hO
    clear hO HS
    go_wp2
    go_returns
    exact ⟨rfl, HO.out.mono (fun _ _ h => h.elim), nv, HP.out.keep HO.out⟩
theorem rf_lines (B : Nat) (p A : Option Addr) (cp : Nat) (nv : Value) (r : LS) (w : World) (h : RunP w B p A cp nv r) (hl : r.ns.length ≤ 900) (hx : Words r.xs) : Calls Try.prog 22 #[Value.pointer (some ⟨B, 0, none⟩)] w (Done B p A cp w (.tuple #[]) r.rf) := by
  refine rf_runs B p A cp nv r _ w h ?_
  by_cases o1 : r.op = 1
  · exact rf_so1 B p A cp nv r w h hl hx o1
  by_cases o2 : r.op = 2
  · exact rf_so2 B p A cp nv r w h hl hx o2
  by_cases o3 : r.op = 3
  · exact rf_so3 B p A cp nv r w h hl hx o3
  by_cases o4 : r.op = 4
  · exact rf_so4 B p A cp nv r w h hl hx o4
  by_cases o5 : r.op = 5
  · exact rf_so5 B p A cp nv r w h hl hx o5
  by_cases o6 : r.op = 6
  · exact rf_so6 B p A cp nv r w h hl hx o6
  by_cases o7 : r.op = 7
  · exact rf_so7 B p A cp nv r w h hl hx o7
  by_cases o8 : r.op = 8
  · exact rf_so8 B p A cp nv r w h hl hx o8
  exact rf_so B p A cp nv r w h hl hx o1 o2 o3 o4 o5 o6 o7 o8 (rf_no9 o1 o2 o3 o4 o5 o6 o7 o8)
theorem rf_lined (B : Nat) (p A : Option Addr) (cp : Nat) (r : LS) (hl : r.ns.length ≤ 900) (hx : Words r.xs) : Lined B p A cp (.func (.func 22) #[] #[]) r r.rf (TurnB B A) (fun _ => True) (fun _ => True) := by
  intro w nv _ h
  have HT := Lib.hid (rf_lines B p A cp nv r w h hl hx)
  have hn := neq_fnL
  clear h hl hx
  go_enter_defers Try.func31, Try.ntmps31
  go_wp2_with fail
  refine HT.out.mono ?_
  rintro e w1 ⟨rfl, hO, nv1, hP⟩
  have HO := Lib.hid hO
  have HP := Lib.hid hP
  clear hO hP HT
  go_wp2
  refine leaves_cons (f := 37) (args := #[]) (by simp) (by simp [go_sem]) ?_
  refine (rec_run _).mono ?_
  rintro e u' w'' ⟨rfl, rfl, rfl⟩
  exact ⟨_, by simp [results, Try.results31, go_sem], rfl, HO.out, trivial, nv1, HP.out⟩
theorem rf_step (B : Nat) (p A : Option Addr) (cp : Nat) (nv : Value) (r : LS) (w : World) (h : RunQ w B p A cp nv r) (hx : Words r.xs) :
    Calls Try.prog 21 #[Value.pointer (some ⟨B, 0, none⟩), .func (.func 22) #[] #[]] w (Stepd B p A cp (r.next LS.rf) (TurnB B A) (fun _ => True) w) := by
  unfold LS.next
  cases hon : r.k.on
  · rw [if_neg Bool.false_ne_true]
    exact step_lines B p A cp nv _ r _ _ _ _ w h hon (rf_lined B p A cp r.fresh (Nat.zero_le _) hx) (.inl rfl) (fun _ _ => trivial)
  · rw [if_pos rfl]
    exact step_wake B p A cp nv _ r w h hon
end Go.Proofs.Ytkmkeleifkkbnaa
