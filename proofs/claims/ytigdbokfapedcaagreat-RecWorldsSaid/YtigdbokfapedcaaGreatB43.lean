/- RfSo. -/
import Derived.Test.YtigdbokfapedcaaGreatB42
import Derived.Test.YtigdbokfapedcaaGreatB13
/- rf.stepOf, the program's: which line it is. -/
set_option linter.unusedVariables false
set_option linter.unusedSimpArgs false
namespace Go.Proofs.YtigdbokfapedcaaGreat
open Go.RowKit
theorem rf_is0 {r : LS} (h : rfCase r.op r.line = 0) : r.rf = r := by unfold LS.rf; rw [h]; rfl
set_option maxRecDepth 100000 in
set_option maxHeartbeats 40000000 in
theorem rf_so (B : Nat) (p A : Option Addr) (cp : Nat) (nv : Value) (r : LS) (w : World) (h : RunP w B p A cp nv r) (hl : r.ns.length ≤ 900) (hx : Words r.xs) : Calls Tryz.prog 61 #[Value.pointer (some ⟨B, 0, none⟩)] w (ClS [223, 224, 226, 227, 228, 229, 231] B p A cp r r.rf w) := by
  obtain ⟨ol, H1⟩ : ∃ ol, Hid (r.op = ol) := ⟨_, Lib.hid rfl⟩
  obtain ⟨ln, H2⟩ : ∃ ln, Hid (r.line = ln) := ⟨_, Lib.hid rfl⟩
  have HX := Lib.hid hx
  have HL := Lib.hid hl
  have e0 := (Only.refl Nil w).alloc (.cells #[Value.pointer (some ⟨B, 0, none⟩)] 99)
  have HP := Lib.hid (h.keep e0)
  have HO := Lib.hid e0
  have HR := Lib.hid (Row.new w 99 #[Value.pointer (some ⟨B, 0, none⟩)])
  clear h hl hx e0
  go_enter Tryz.func61, Tryz.ntmps61
  go_upto_region 1 with (fail)
  generalize w.alloc (.cells #[Value.pointer (some ⟨B, 0, none⟩)] 99) = w1 at *
  generalize w.heap.size = gs at *
  refine wp_region_phase (n := 11) 10 (fun w => w.cell? ⟨gs, 0, none⟩ = some (Value.pointer (some ⟨B, 0, none⟩)) ∧ w.cell? ⟨B, 4, none⟩ = some (.int .i64 ol) ∧ w.cell? ⟨B, 5, none⟩ = some (.int .i64 ln)) rfl (by kernel_rfl) ⟨HR.out.one, by rw [← H1.out]; exact HP.out.row.cell_ (i := 4) rfl, by rw [← H2.out]; exact HP.out.row.cell_ (i := 5) rfl⟩ (fun hHeld => ?_)
  have HP1 := Lib.hid (HP.out.keep (Only.refl Nil w1).drew)
  have HR1 := Lib.hid HR.out.drew
  have HO1 := Lib.hid HO.out.drew
  clear HP HR HO
  generalize w1.drew = w2 at *
  refine zt 0 rfl ?_
  refine za 1 rfl ?_
  refine za 2 rfl ?_
  refine za 3 rfl ?_
  refine zt 4 rfl ?_
  refine zt 5 rfl ?_
  refine za 6 rfl ?_
  refine za 7 rfl ?_
  refine za 8 rfl ?_
  refine zt 9 rfl ?_
  refine mpc 10 rfl (by kernel_rfl) (by rfl) (fun K hK => ?_)
  go_simp
  refine hK.out _ _ (.inl (by kernel_rfl)) ?_
  clear hK K hHeld
  refine wpAnyP_done (by kernel_rfl) ?_ _
  have b0 : w2.cell? ⟨gs, 0, none⟩ = some (Value.pointer (some ⟨B, 0, none⟩)) := HR1.out.one
  by_cases o1 : ol = 1
  · rcases o1 with rfl
    by_cases g : ln = 0
    · rcases g with rfl
      go_wp2_with fail
      refine arm (FS := [223, 224, 226, 227, 228, 229, 231]) (r := r) (r' := r.rf) (rcin_make B p A cp nv r _ HP1.out HL.out HX.out) HO1.out (rf_1_0 H1.out H2.out) (by decide) fun caps w3 H => ?_
      go_wp2
      go_ret
      exact H.out
    by_cases g : ln = 1
    · rcases g with rfl
      go_wp2_with fail
      refine arm (FS := [223, 224, 226, 227, 228, 229, 231]) (r := r) (r' := r.rf) (rleave_make B p A cp nv r _ HP1.out HL.out HX.out) HO1.out (rf_1_1 H1.out H2.out) (by decide) fun caps w3 H => ?_
      go_wp2
      go_ret
      exact H.out
    go_wp2
    go_ret
    exact .inr ⟨rfl, HO1.out, rf_is0 (by rw [H1.out, H2.out]; exact (by unfold rfCase; repeat (first | rw [if_neg (by omega)])))⟩
  by_cases o2 : ol = 2
  · rcases o2 with rfl
    by_cases g : ln = 0
    · rcases g with rfl
      go_wp2_with fail
      refine arm (FS := [223, 224, 226, 227, 228, 229, 231]) (r := r) (r' := r.rf) (rchange_make B p A cp nv r 4294967295 _ [6] _ (HP1.out.keep ((Only.refl Nil w2).alloc _)) HL.out (whats_1 HP1.out 6) (by decide)) (HO1.out.alloc _) (rf_2_0 H1.out H2.out) (by decide) fun caps w3 H => ?_
      go_wp2
      go_ret
      exact H.out
    go_wp2
    go_ret
    exact .inr ⟨rfl, HO1.out, rf_is0 (by rw [H1.out, H2.out]; exact (by unfold rfCase; repeat (first | rw [if_neg (by omega)])))⟩
  by_cases o3 : ol = 3
  · rcases o3 with rfl
    by_cases g : ln = 0
    · rcases g with rfl
      go_wp2_with fail
      refine arm (FS := [223, 224, 226, 227, 228, 229, 231]) (r := r) (r' := r.rf) (rask_make B p A cp nv r _ HP1.out HL.out HX.out) HO1.out (rf_3_0 H1.out H2.out) (by decide) fun caps w3 H => ?_
      go_wp2
      go_ret
      exact H.out
    by_cases g : ln = 1
    · rcases g with rfl
      go_wp2_with fail
      refine arm (FS := [223, 224, 226, 227, 228, 229, 231]) (r := r) (r' := r.rf) (rclaim_make 141 enters_s1 (fun r => r.note 4 0) rthen_1 B p A cp nv r (0) (65536) 2 gs _ HP1.out HL.out HR1.out) HO1.out (rf_3_1 H1.out H2.out) (by decide) fun caps w3 H => ?_
      go_wp2
      go_ret
      exact H.out
    by_cases g : ln = 2
    · rcases g with rfl
      go_wp2_with fail
      refine arm (FS := [223, 224, 226, 227, 228, 229, 231]) (r := r) (r' := r.rf) (rfree_make B p A cp nv r _ HP1.out HL.out HX.out) HO1.out (rf_3_2 H1.out H2.out) (by decide) fun caps w3 H => ?_
      go_wp2
      go_ret
      exact H.out
    go_wp2
    go_ret
    exact .inr ⟨rfl, HO1.out, rf_is0 (by rw [H1.out, H2.out]; exact (by unfold rfCase; repeat (first | rw [if_neg (by omega)])))⟩
  by_cases o4 : ol = 4
  · rcases o4 with rfl
    by_cases g : ln = 0
    · rcases g with rfl
      go_wp2_with fail
      refine arm (FS := [223, 224, 226, 227, 228, 229, 231]) (r := r) (r' := r.rf) (rchange_make B p A cp nv r 4294901760 _ [7, 8] _ (HP1.out.keep ((Only.refl Nil w2).alloc _)) HL.out (whats_2 HP1.out 7 8) (by decide)) (HO1.out.alloc _) (rf_4_0 H1.out H2.out) (by decide) fun caps w3 H => ?_
      go_wp2
      go_ret
      exact H.out
    go_wp2
    go_ret
    exact .inr ⟨rfl, HO1.out, rf_is0 (by rw [H1.out, H2.out]; exact (by unfold rfCase; repeat (first | rw [if_neg (by omega)])))⟩
  by_cases o5 : ol = 5
  · rcases o5 with rfl
    by_cases g : ln = 0
    · rcases g with rfl
      go_wp2_with fail
      refine arm (FS := [223, 224, 226, 227, 228, 229, 231]) (r := r) (r' := r.rf) (rweigh_make 144 enters_s2 outW asks_out B p A cp nv r _ HP1.out HL.out HX.out) HO1.out (rf_5_0 H1.out H2.out) (by decide) fun caps w3 H => ?_
      go_wp2
      go_ret
      exact H.out
    by_cases g : ln = 1
    · rcases g with rfl
      have hx1 : IntKind.u32.wrap (r.a + 1) = (r.a + 1) % 4294967296 := rfl
      go_upto_region 19 with (fail)
      refine wp_region_phase (n := 15) 13 (fun w => w.cell? ⟨gs, 0, none⟩ = some (Value.pointer (some ⟨B, 0, none⟩)) ∧ w.cell? ⟨B, 6, none⟩ = some (.int .u32 r.a)) rfl (by kernel_rfl) ⟨b0, HP1.out.row.cell_ (i := 6) rfl⟩ (fun hHeld => ?_)
      clear b0
      have HP2 := Lib.hid (HP1.out.keep (Only.refl Nil w2).drew)
      have HR2 := Lib.hid HR1.out.drew
      have HO2 := Lib.hid HO1.out.drew
      clear HP1 HR1 HO1
      generalize w2.drew = w3 at *
      refine zt 0 rfl ?_
      refine zt 1 rfl ?_
      refine za 2 rfl ?_
      refine za 3 rfl ?_
      refine za 4 rfl ?_
      refine zt 5 rfl ?_
      refine zt 6 rfl ?_
      refine za 7 rfl ?_
      refine za 8 rfl ?_
      refine za 9 rfl ?_
      refine zt 10 rfl ?_
      refine za 11 rfl ?_
      refine za 12 rfl ?_
      refine mpc 13 rfl (by kernel_rfl) (by rfl) (fun K hK => ?_)
      go_simp
      refine arm (FS := [223, 224, 226, 227, 228, 229, 231]) (r := r) (r' := r.rf) (rclaim_make 146 enters_s3 (fun r => (r.note 2 1).note 4 0) rthen_3 B p A cp nv r r.a ((r.a + 1) % 4294967296) 0 gs _ HP2.out HL.out HR2.out) HO2.out (rf_5_1 H1.out H2.out) (by decide) fun caps w4 H => ?_
      refine hK.out _ _ (.inl (by kernel_rfl)) ?_
      clear hK K hHeld
      refine za 14 rfl ?_
      refine wpAnyP_done (by kernel_rfl) ?_ _
      go_wp2
      go_ret
      exact H.out
    go_wp2
    go_ret
    exact .inr ⟨rfl, HO1.out, rf_is0 (by rw [H1.out, H2.out]; exact (by unfold rfCase; repeat (first | rw [if_neg (by omega)])))⟩
  by_cases o6 : ol = 6
  · rcases o6 with rfl
    by_cases g : ln = 0
    · rcases g with rfl
      go_wp2_with fail
      refine arm (FS := [223, 224, 226, 227, 228, 229, 231]) (r := r) (r' := r.rf) (rweigh_make 148 enters_s4 (fun v => v == 0) asks_zero B p A cp nv r _ HP1.out HL.out HX.out) HO1.out (rf_6_0 H1.out H2.out) (by decide) fun caps w3 H => ?_
      go_wp2
      go_ret
      exact H.out
    by_cases g : ln = 1
    · rcases g with rfl
      go_wp2_with fail
      refine arm (FS := [223, 224, 226, 227, 228, 229, 231]) (r := r) (r' := r.rf) (rclaim_make 149 enters_s5 (fun r => (r.note 2 2).note 4 0) rthen_5 B p A cp nv r (0) (65536) 0 gs _ HP1.out HL.out HR1.out) HO1.out (rf_6_1 H1.out H2.out) (by decide) fun caps w3 H => ?_
      go_wp2
      go_ret
      exact H.out
    go_wp2
    go_ret
    exact .inr ⟨rfl, HO1.out, rf_is0 (by rw [H1.out, H2.out]; exact (by unfold rfCase; repeat (first | rw [if_neg (by omega)])))⟩
  by_cases o7 : ol = 7
  · rcases o7 with rfl
    by_cases g : ln = 0
    · rcases g with rfl
      go_wp2_with fail
      refine arm (FS := [223, 224, 226, 227, 228, 229, 231]) (r := r) (r' := r.rf) (rweigh_make 150 enters_s6 (fun v => v == 1) asks_one B p A cp nv r _ HP1.out HL.out HX.out) HO1.out (rf_7_0 H1.out H2.out) (by decide) fun caps w3 H => ?_
      go_wp2
      go_ret
      exact H.out
    by_cases g : ln = 1
    · rcases g with rfl
      go_wp2_with fail
      refine arm (FS := [223, 224, 226, 227, 228, 229, 231]) (r := r) (r' := r.rf) (rclaim_make 151 enters_s7 (fun r => r.note 9 0) rthen_7 B p A cp nv r (1) (65536) 0 gs _ HP1.out HL.out HR1.out) HO1.out (rf_7_1 H1.out H2.out) (by decide) fun caps w3 H => ?_
      go_wp2
      go_ret
      exact H.out
    go_wp2
    go_ret
    exact .inr ⟨rfl, HO1.out, rf_is0 (by rw [H1.out, H2.out]; exact (by unfold rfCase; repeat (first | rw [if_neg (by omega)])))⟩
  by_cases o8 : ol = 8
  · rcases o8 with rfl
    by_cases g : ln = 0
    · rcases g with rfl
      go_wp2_with fail
      refine arm (FS := [223, 224, 226, 227, 228, 229, 231]) (r := r) (r' := r.rf) (rchange_make B p A cp nv r 4294901761 _ [10] _ (HP1.out.keep ((Only.refl Nil w2).alloc _)) HL.out (whats_1 HP1.out 10) (by decide)) (HO1.out.alloc _) (rf_8_0 H1.out H2.out) (by decide) fun caps w3 H => ?_
      go_wp2
      go_ret
      exact H.out
    go_wp2
    go_ret
    exact .inr ⟨rfl, HO1.out, rf_is0 (by rw [H1.out, H2.out]; exact (by unfold rfCase; repeat (first | rw [if_neg (by omega)])))⟩
  go_wp2
  go_ret
  exact .inr ⟨rfl, HO1.out, rf_is0 (by rw [H1.out, H2.out]; exact (by unfold rfCase; repeat (first | rw [if_neg (by omega)])))⟩
end Go.Proofs.YtigdbokfapedcaaGreat
