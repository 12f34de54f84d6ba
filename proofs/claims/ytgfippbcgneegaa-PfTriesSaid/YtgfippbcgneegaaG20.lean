import Derived.Test.YtgfippbcgneegaaG19
import Derived.Test.YtgfippbcgneegaaG3
import Derived.Test.YtgfippbcgneegaaG2
import Derived.Test.YtgfippbcgneegaaG7
import Derived.Test.YtgfippbcgneegaaG18
import Derived.Test.YtgfippbcgneegaaG9
set_option linter.unusedVariables false
set_option linter.unusedSimpArgs false
namespace Go.Proofs.Ytgfippbcgneegaa
open Go.RowKit
def TriesR (k m : Nat) (mode b p q v z : Int) : Prop := ∃ x1 x2 x3 x4 : List Int, aloneL LS.pf m (newR k mode 0 p ((T5.at b).xs k)) = (2, x1) ∧ aloneL LS.pf m (newR k mode 0 q x1) = (v, x2) ∧ aloneL LS.pf m (newR k mode 0 z x2) = (2, x3) ∧ (v = 1 → aloneL LS.pf m (newR k mode 0 6 x3) = (2, x4))
theorem tries_ok {k m : Nat} {mode b : Int} (hk : 1 ≤ k ∧ k ≤ 64) (hm : 2 * k + 16 ≤ m) (hb : 0 ≤ b ∧ b < 4294967296) : TriesR k m mode b 3 5 1 4 ∧ TriesR k m mode b 3 6 1 4 ∧ TriesR k m mode b 1 6 1 2 ∧ TriesR k m mode b 1 5 2 2 := by
  have h0 : bitsI (b * 256 % 4294967296) = 0 := by unfold bitsI; omega
  have h1 := pres_bd b
  have al : ∀ {op : Int} {s : T5}, okP op s → aloneL LS.pf m (newR k mode 0 op (s.xs k)) = (2, (opP op s).xs k) := fun h => alone_pfG chk_n hk hm h
  refine ⟨⟨_, _, _, _, al ?_, pf_r_noG chk_n hk hm ?_, al ?_, fun _ => al ?_⟩, ⟨_, _, _, _, al ?_, pf_w_noTG chk_n hk hm ?_, al ?_, fun _ => al ?_⟩, ⟨_, _, _, _, al ?_, pf_w_noRG chk_n hk hm ?_ ?_, al ?_, fun _ => al ?_⟩, ⟨_, _, _, ((T5.at b).xs k), al ?_, al ?_, al ?_, fun h => absurd h (by decide)⟩⟩
  all_goals simp [okP, opP, T5.at, T5.back, h0]
  all_goals first
    | done
    | (unfold bitsI ad; omega)
    | (unfold aheadI ad; omega)
    | (unfold ad; omega)
set_option maxRecDepth 100000 in
set_option maxHeartbeats 2000000 in
theorem walk_pfTries (a0 a1 a2 : Int) (w : World) (h0 : (Lit.int .u32 a0).wf = true) (h1 : (Lit.int .u8 a1).wf = true) (h2 : (Lit.int .i64 a2).wf = true) :
    Calls Try.prog 4 #[.int .u32 a0, .int .u8 a1, .int .i64 a2] w fun e w' => e = .returned (.bool true) ∧ Only Nil w w' := by
  have HBD := Lib.hid (wf_u32 h0)
  obtain ⟨n0, n1⟩ := wf_u8 h1
  obtain ⟨k, hkk⟩ : ∃ k : Nat, 1 + a1 % 64 = (k : Int) := ⟨(1 + a1 % 64).toNat, by omega⟩
  have HK := Lib.hid (show 1 ≤ k ∧ k ≤ 64 by omega)
  have HKK := Lib.hid hkk
  have HR := Lib.hid (Row.new w 38 #[.int .i64 3, .int .i64 5, .int .i64 1, .int .i64 4, .int .i64 3, .int .i64 6, .int .i64 1, .int .i64 4, .int .i64 1, .int .i64 6, .int .i64 1, .int .i64 2, .int .i64 1, .int .i64 5, .int .i64 2, .int .i64 2])
  have HO := Lib.hid ((Only.refl Nil w).alloc (.cells #[.int .i64 3, .int .i64 5, .int .i64 1, .int .i64 4, .int .i64 3, .int .i64 6, .int .i64 1, .int .i64 4, .int .i64 1, .int .i64 6, .int .i64 1, .int .i64 2, .int .i64 1, .int .i64 5, .int .i64 2, .int .i64 2] 38))
  clear h0 h1 h2 hkk
  go_enter Try.func4, Try.ntmps4
  go_upto_region 3 with (fail)
  rw [HKK.out]
  generalize w.alloc (.cells #[.int .i64 3, .int .i64 5, .int .i64 1, .int .i64 4, .int .i64 3, .int .i64 6, .int .i64 1, .int .i64 4, .int .i64 1, .int .i64 6, .int .i64 1, .int .i64 2, .int .i64 1, .int .i64 5, .int .i64 2, .int .i64 2] 38) = w1 at *
  generalize w.heap.size = gL at *
  clear HKK n0 n1
  have hk1 : (1 : Int) ≤ k := by have := HK.out; omega
  have hk2 : (k : Int) ≤ 64 := by have := HK.out; omega
  go_loopw [32] (fun iv wr => ∃ i : Nat, i ≤ 4 ∧ iv = .int .i64 i ∧ Only Nil w1 wr) (fun iv _ => 4 - (intOf iv).toNat)
  case atStart => exact ⟨0, Nat.zero_le _, rfl, Only.refl _ _⟩
  case round =>
    obtain ⟨i, hi, rfl, hOr⟩ := hrel
    have HOR := Lib.hid hOr
    clear hOr
    by_cases hlt : i < 4
    · have h4 : i = 0 ∨ i = 1 ∨ i = 2 ∨ i = 3 := by omega
      have HRR := Lib.hid (HR.out.only HOR.out id)
      have hbT := tries_ok (k := k) (m := 40 + 8 * k) (mode := a2) HK.out (by have := HK.out; omega) HBD.out
      obtain ⟨t1, t2, t3, t4⟩ := hbT
      have T1 := Lib.hid t1
      have T2 := Lib.hid t2
      have T3' := Lib.hid t3
      have T4 := Lib.hid t4
      clear t1 t2 t3 t4
      rcases h4 with rfl | rfl | rfl | rfl
      · have HTR := T1
        rw [show (((0 : Nat) : Int)) = 0 from rfl]
        have c0 : wr.cell? ⟨gL, 0, none⟩ = some (.int .i64 3) := HRR.out.cell_ (i := 0) rfl
        have c1 : wr.cell? ⟨gL, 1, none⟩ = some (.int .i64 5) := HRR.out.cell_ (i := 1) rfl
        have c2 : wr.cell? ⟨gL, 2, none⟩ = some (.int .i64 1) := HRR.out.cell_ (i := 2) rfl
        have c3 : wr.cell? ⟨gL, 3, none⟩ = some (.int .i64 4) := HRR.out.cell_ (i := 3) rfl
        have HX0 := Lib.hid (Row.new wr 38 #[.int .i64 3, .int .i64 5, .int .i64 1, .int .i64 4])
        have HO0 := Lib.hid ((Only.refl Nil wr).alloc (.cells #[.int .i64 3, .int .i64 5, .int .i64 1, .int .i64 4] 38))
        go_upto_region 5 with (fail)
        clear c0 c1 c2 c3
        generalize wr.alloc (.cells #[.int .i64 3, .int .i64 5, .int .i64 1, .int .i64 4] 38) = w2 at *
        generalize wr.heap.size = gx at *
        go_wp2_with fail
        refine (first_pf k a0 _ HK.out HBD.out).mono ?_
        rintro e w3 ⟨gf, rfl, hg, hH, hO⟩
        have HH := Lib.hid hH
        have HO3 := Lib.hid hO
        clear hg hH hO
        go_wp2_with fail
        refine (from_ok _ _ _ _ _ (by omega) HH.out).mono ?_
        rintro e w4 ⟨b, A', c', rfl, hb, hA, hM, hO⟩
        have HM0 : Hid (Made w2 b A' c' ((T5.at a0).xs k) w4) := Lib.hid ⟨hM, fun j hj => Nat.le_trans HO3.out.size (hA j hj), HO3.out.trans hO⟩
        have HW0 : Hid (Words ((T5.at a0).xs k)) := Lib.hid (at_ok HBD.out).words
        clear hb hA hM hO HO3 HH
        obtain ⟨x1, x2, x3, x4, t1, t2, t3, t4⟩ := HTR.out
        have HT1 := Lib.hid t1
        have HT2 := Lib.hid t2
        have HT3 := Lib.hid t3
        have HT4 := Lib.hid t4
        clear t1 t2 t3 t4
        have d0 : w4.cell? ⟨gx, 0, none⟩ = some (.int .i64 3) := (HX0.out.only HM0.out.only id).cell_ (i := 0) rfl
        go_wp2_with fail
        clear d0
        rw [show (40 : Int) + 8 * (k : Int) = ((40 + 8 * k : Nat) : Int) by push_cast; rfl]
        refine (alone_any (some ⟨b, 0, none⟩) A' c' k a2 3 (40 + 8 * k) _ _ (Memo.of HM0.out.mem) HW0.out (by omega)).mono ?_
        rw [HT1.out]
        rintro e w5 ⟨nv1, rfl, hO, hM, hW⟩
        have HM1 := Lib.hid (HM0.out.call hO hM.mem)
        have HW1 := Lib.hid hW
        clear hO hM hW HM0 HW0
        have d1 : w5.cell? ⟨gx, 1, none⟩ = some (.int .i64 5) := (HX0.out.only HM1.out.only id).cell_ (i := 1) rfl
        go_wp2_with fail
        clear d1
        rw [show (40 : Int) + 8 * (k : Int) = ((40 + 8 * k : Nat) : Int) by push_cast; rfl]
        refine (alone_any (some ⟨b, 0, none⟩) A' c' k a2 5 (40 + 8 * k) _ _ (Memo.of HM1.out.mem) HW1.out (by omega)).mono ?_
        rw [HT2.out]
        rintro e w6 ⟨nv2, rfl, hO, hM, hW⟩
        have HM2 := Lib.hid (HM1.out.call hO hM.mem)
        have HW2 := Lib.hid hW
        clear hO hM hW HM1 HW1
        have d3 : w6.cell? ⟨gx, 3, none⟩ = some (.int .i64 4) := (HX0.out.only HM2.out.only id).cell_ (i := 3) rfl
        go_wp2_with fail
        clear d3
        rw [show (40 : Int) + 8 * (k : Int) = ((40 + 8 * k : Nat) : Int) by push_cast; rfl]
        refine (alone_any (some ⟨b, 0, none⟩) A' c' k a2 4 (40 + 8 * k) _ _ (Memo.of HM2.out.mem) HW2.out (by omega)).mono ?_
        rw [HT3.out]
        rintro e w7 ⟨nv3, rfl, hO, hM, hW⟩
        have HM3 := Lib.hid (HM2.out.call hO hM.mem)
        have HW3 := Lib.hid hW
        clear hO hM hW HM2 HW2
        have d2 : w7.cell? ⟨gx, 2, none⟩ = some (.int .i64 1) := (HX0.out.only HM3.out.only id).cell_ (i := 2) rfl
        have HT5 := Lib.hid (HT4.out (by first | rfl | trivial))
        go_wp2_with fail
        clear d2
        rw [show (40 : Int) + 8 * (k : Int) = ((40 + 8 * k : Nat) : Int) by push_cast; rfl]
        refine (alone_any (some ⟨b, 0, none⟩) A' c' k a2 6 (40 + 8 * k) _ _ (Memo.of HM3.out.mem) HW3.out (by omega)).mono ?_
        rw [HT5.out]
        rintro e w8 ⟨nv4, rfl, hO, hM, hW⟩
        have HM4 := Lib.hid (HM3.out.call hO hM.mem)
        have HW4 := Lib.hid hW
        clear hO hM hW HM3 HW3
        have HOF := Lib.hid ((HOR.out.trans HO0.out).trans HM4.out.only)
        go_wp2
        go_roundw
        case rel => exact ⟨0 + 1, by omega, rfl, HOF.out⟩
        case measure => simp [intOf]
      · have HTR := T2
        rw [show (((1 : Nat) : Int)) = 1 from rfl]
        have c4 : wr.cell? ⟨gL, 4, none⟩ = some (.int .i64 3) := HRR.out.cell_ (i := 4) rfl
        have c5 : wr.cell? ⟨gL, 5, none⟩ = some (.int .i64 6) := HRR.out.cell_ (i := 5) rfl
        have c6 : wr.cell? ⟨gL, 6, none⟩ = some (.int .i64 1) := HRR.out.cell_ (i := 6) rfl
        have c7 : wr.cell? ⟨gL, 7, none⟩ = some (.int .i64 4) := HRR.out.cell_ (i := 7) rfl
        have HX0 := Lib.hid (Row.new wr 38 #[.int .i64 3, .int .i64 6, .int .i64 1, .int .i64 4])
        have HO0 := Lib.hid ((Only.refl Nil wr).alloc (.cells #[.int .i64 3, .int .i64 6, .int .i64 1, .int .i64 4] 38))
        go_upto_region 5 with (fail)
        clear c4 c5 c6 c7
        generalize wr.alloc (.cells #[.int .i64 3, .int .i64 6, .int .i64 1, .int .i64 4] 38) = w2 at *
        generalize wr.heap.size = gx at *
        go_wp2_with fail
        refine (first_pf k a0 _ HK.out HBD.out).mono ?_
        rintro e w3 ⟨gf, rfl, hg, hH, hO⟩
        have HH := Lib.hid hH
        have HO3 := Lib.hid hO
        clear hg hH hO
        go_wp2_with fail
        refine (from_ok _ _ _ _ _ (by omega) HH.out).mono ?_
        rintro e w4 ⟨b, A', c', rfl, hb, hA, hM, hO⟩
        have HM0 : Hid (Made w2 b A' c' ((T5.at a0).xs k) w4) := Lib.hid ⟨hM, fun j hj => Nat.le_trans HO3.out.size (hA j hj), HO3.out.trans hO⟩
        have HW0 : Hid (Words ((T5.at a0).xs k)) := Lib.hid (at_ok HBD.out).words
        clear hb hA hM hO HO3 HH
        obtain ⟨x1, x2, x3, x4, t1, t2, t3, t4⟩ := HTR.out
        have HT1 := Lib.hid t1
        have HT2 := Lib.hid t2
        have HT3 := Lib.hid t3
        have HT4 := Lib.hid t4
        clear t1 t2 t3 t4
        have d0 : w4.cell? ⟨gx, 0, none⟩ = some (.int .i64 3) := (HX0.out.only HM0.out.only id).cell_ (i := 0) rfl
        go_wp2_with fail
        clear d0
        rw [show (40 : Int) + 8 * (k : Int) = ((40 + 8 * k : Nat) : Int) by push_cast; rfl]
        refine (alone_any (some ⟨b, 0, none⟩) A' c' k a2 3 (40 + 8 * k) _ _ (Memo.of HM0.out.mem) HW0.out (by omega)).mono ?_
        rw [HT1.out]
        rintro e w5 ⟨nv1, rfl, hO, hM, hW⟩
        have HM1 := Lib.hid (HM0.out.call hO hM.mem)
        have HW1 := Lib.hid hW
        clear hO hM hW HM0 HW0
        have d1 : w5.cell? ⟨gx, 1, none⟩ = some (.int .i64 6) := (HX0.out.only HM1.out.only id).cell_ (i := 1) rfl
        go_wp2_with fail
        clear d1
        rw [show (40 : Int) + 8 * (k : Int) = ((40 + 8 * k : Nat) : Int) by push_cast; rfl]
        refine (alone_any (some ⟨b, 0, none⟩) A' c' k a2 6 (40 + 8 * k) _ _ (Memo.of HM1.out.mem) HW1.out (by omega)).mono ?_
        rw [HT2.out]
        rintro e w6 ⟨nv2, rfl, hO, hM, hW⟩
        have HM2 := Lib.hid (HM1.out.call hO hM.mem)
        have HW2 := Lib.hid hW
        clear hO hM hW HM1 HW1
        have d3 : w6.cell? ⟨gx, 3, none⟩ = some (.int .i64 4) := (HX0.out.only HM2.out.only id).cell_ (i := 3) rfl
        go_wp2_with fail
        clear d3
        rw [show (40 : Int) + 8 * (k : Int) = ((40 + 8 * k : Nat) : Int) by push_cast; rfl]
        refine (alone_any (some ⟨b, 0, none⟩) A' c' k a2 4 (40 + 8 * k) _ _ (Memo.of HM2.out.mem) HW2.out (by omega)).mono ?_
        rw [HT3.out]
        rintro e w7 ⟨nv3, rfl, hO, hM, hW⟩
        have HM3 := Lib.hid (HM2.out.call hO hM.mem)
        have HW3 := Lib.hid hW
        clear hO hM hW HM2 HW2
        have d2 : w7.cell? ⟨gx, 2, none⟩ = some (.int .i64 1) := (HX0.out.only HM3.out.only id).cell_ (i := 2) rfl
        have HT5 := Lib.hid (HT4.out (by first | rfl | trivial))
        go_wp2_with fail
        clear d2
        rw [show (40 : Int) + 8 * (k : Int) = ((40 + 8 * k : Nat) : Int) by push_cast; rfl]
        refine (alone_any (some ⟨b, 0, none⟩) A' c' k a2 6 (40 + 8 * k) _ _ (Memo.of HM3.out.mem) HW3.out (by omega)).mono ?_
        rw [HT5.out]
        rintro e w8 ⟨nv4, rfl, hO, hM, hW⟩
        have HM4 := Lib.hid (HM3.out.call hO hM.mem)
        have HW4 := Lib.hid hW
        clear hO hM hW HM3 HW3
        have HOF := Lib.hid ((HOR.out.trans HO0.out).trans HM4.out.only)
        go_wp2
        go_roundw
        case rel => exact ⟨1 + 1, by omega, rfl, HOF.out⟩
        case measure => simp [intOf]
      · have HTR := T3'
        rw [show (((2 : Nat) : Int)) = 2 from rfl]
        have c8 : wr.cell? ⟨gL, 8, none⟩ = some (.int .i64 1) := HRR.out.cell_ (i := 8) rfl
        have c9 : wr.cell? ⟨gL, 9, none⟩ = some (.int .i64 6) := HRR.out.cell_ (i := 9) rfl
        have c10 : wr.cell? ⟨gL, 10, none⟩ = some (.int .i64 1) := HRR.out.cell_ (i := 10) rfl
        have c11 : wr.cell? ⟨gL, 11, none⟩ = some (.int .i64 2) := HRR.out.cell_ (i := 11) rfl
        have HX0 := Lib.hid (Row.new wr 38 #[.int .i64 1, .int .i64 6, .int .i64 1, .int .i64 2])
        have HO0 := Lib.hid ((Only.refl Nil wr).alloc (.cells #[.int .i64 1, .int .i64 6, .int .i64 1, .int .i64 2] 38))
        go_upto_region 5 with (fail)
        clear c8 c9 c10 c11
        generalize wr.alloc (.cells #[.int .i64 1, .int .i64 6, .int .i64 1, .int .i64 2] 38) = w2 at *
        generalize wr.heap.size = gx at *
        go_wp2_with fail
        refine (first_pf k a0 _ HK.out HBD.out).mono ?_
        rintro e w3 ⟨gf, rfl, hg, hH, hO⟩
        have HH := Lib.hid hH
        have HO3 := Lib.hid hO
        clear hg hH hO
        go_wp2_with fail
        refine (from_ok _ _ _ _ _ (by omega) HH.out).mono ?_
        rintro e w4 ⟨b, A', c', rfl, hb, hA, hM, hO⟩
        have HM0 : Hid (Made w2 b A' c' ((T5.at a0).xs k) w4) := Lib.hid ⟨hM, fun j hj => Nat.le_trans HO3.out.size (hA j hj), HO3.out.trans hO⟩
        have HW0 : Hid (Words ((T5.at a0).xs k)) := Lib.hid (at_ok HBD.out).words
        clear hb hA hM hO HO3 HH
        obtain ⟨x1, x2, x3, x4, t1, t2, t3, t4⟩ := HTR.out
        have HT1 := Lib.hid t1
        have HT2 := Lib.hid t2
        have HT3 := Lib.hid t3
        have HT4 := Lib.hid t4
        clear t1 t2 t3 t4
        have d0 : w4.cell? ⟨gx, 0, none⟩ = some (.int .i64 1) := (HX0.out.only HM0.out.only id).cell_ (i := 0) rfl
        go_wp2_with fail
        clear d0
        rw [show (40 : Int) + 8 * (k : Int) = ((40 + 8 * k : Nat) : Int) by push_cast; rfl]
        refine (alone_any (some ⟨b, 0, none⟩) A' c' k a2 1 (40 + 8 * k) _ _ (Memo.of HM0.out.mem) HW0.out (by omega)).mono ?_
        rw [HT1.out]
        rintro e w5 ⟨nv1, rfl, hO, hM, hW⟩
        have HM1 := Lib.hid (HM0.out.call hO hM.mem)
        have HW1 := Lib.hid hW
        clear hO hM hW HM0 HW0
        have d1 : w5.cell? ⟨gx, 1, none⟩ = some (.int .i64 6) := (HX0.out.only HM1.out.only id).cell_ (i := 1) rfl
        go_wp2_with fail
        clear d1
        rw [show (40 : Int) + 8 * (k : Int) = ((40 + 8 * k : Nat) : Int) by push_cast; rfl]
        refine (alone_any (some ⟨b, 0, none⟩) A' c' k a2 6 (40 + 8 * k) _ _ (Memo.of HM1.out.mem) HW1.out (by omega)).mono ?_
        rw [HT2.out]
        rintro e w6 ⟨nv2, rfl, hO, hM, hW⟩
        have HM2 := Lib.hid (HM1.out.call hO hM.mem)
        have HW2 := Lib.hid hW
        clear hO hM hW HM1 HW1
        have d3 : w6.cell? ⟨gx, 3, none⟩ = some (.int .i64 2) := (HX0.out.only HM2.out.only id).cell_ (i := 3) rfl
        go_wp2_with fail
        clear d3
        rw [show (40 : Int) + 8 * (k : Int) = ((40 + 8 * k : Nat) : Int) by push_cast; rfl]
        refine (alone_any (some ⟨b, 0, none⟩) A' c' k a2 2 (40 + 8 * k) _ _ (Memo.of HM2.out.mem) HW2.out (by omega)).mono ?_
        rw [HT3.out]
        rintro e w7 ⟨nv3, rfl, hO, hM, hW⟩
        have HM3 := Lib.hid (HM2.out.call hO hM.mem)
        have HW3 := Lib.hid hW
        clear hO hM hW HM2 HW2
        have d2 : w7.cell? ⟨gx, 2, none⟩ = some (.int .i64 1) := (HX0.out.only HM3.out.only id).cell_ (i := 2) rfl
        have HT5 := Lib.hid (HT4.out (by first | rfl | trivial))
        go_wp2_with fail
        clear d2
        rw [show (40 : Int) + 8 * (k : Int) = ((40 + 8 * k : Nat) : Int) by push_cast; rfl]
        refine (alone_any (some ⟨b, 0, none⟩) A' c' k a2 6 (40 + 8 * k) _ _ (Memo.of HM3.out.mem) HW3.out (by omega)).mono ?_
        rw [HT5.out]
        rintro e w8 ⟨nv4, rfl, hO, hM, hW⟩
        have HM4 := Lib.hid (HM3.out.call hO hM.mem)
        have HW4 := Lib.hid hW
        clear hO hM hW HM3 HW3
        have HOF := Lib.hid ((HOR.out.trans HO0.out).trans HM4.out.only)
        go_wp2
        go_roundw
        case rel => exact ⟨2 + 1, by omega, rfl, HOF.out⟩
        case measure => simp [intOf]
      · have HTR := T4
        rw [show (((3 : Nat) : Int)) = 3 from rfl]
        have c12 : wr.cell? ⟨gL, 12, none⟩ = some (.int .i64 1) := HRR.out.cell_ (i := 12) rfl
        have c13 : wr.cell? ⟨gL, 13, none⟩ = some (.int .i64 5) := HRR.out.cell_ (i := 13) rfl
        have c14 : wr.cell? ⟨gL, 14, none⟩ = some (.int .i64 2) := HRR.out.cell_ (i := 14) rfl
        have c15 : wr.cell? ⟨gL, 15, none⟩ = some (.int .i64 2) := HRR.out.cell_ (i := 15) rfl
        have HX0 := Lib.hid (Row.new wr 38 #[.int .i64 1, .int .i64 5, .int .i64 2, .int .i64 2])
        have HO0 := Lib.hid ((Only.refl Nil wr).alloc (.cells #[.int .i64 1, .int .i64 5, .int .i64 2, .int .i64 2] 38))
        go_upto_region 5 with (fail)
        clear c12 c13 c14 c15
        generalize wr.alloc (.cells #[.int .i64 1, .int .i64 5, .int .i64 2, .int .i64 2] 38) = w2 at *
        generalize wr.heap.size = gx at *
        go_wp2_with fail
        refine (first_pf k a0 _ HK.out HBD.out).mono ?_
        rintro e w3 ⟨gf, rfl, hg, hH, hO⟩
        have HH := Lib.hid hH
        have HO3 := Lib.hid hO
        clear hg hH hO
        go_wp2_with fail
        refine (from_ok _ _ _ _ _ (by omega) HH.out).mono ?_
        rintro e w4 ⟨b, A', c', rfl, hb, hA, hM, hO⟩
        have HM0 : Hid (Made w2 b A' c' ((T5.at a0).xs k) w4) := Lib.hid ⟨hM, fun j hj => Nat.le_trans HO3.out.size (hA j hj), HO3.out.trans hO⟩
        have HW0 : Hid (Words ((T5.at a0).xs k)) := Lib.hid (at_ok HBD.out).words
        clear hb hA hM hO HO3 HH
        obtain ⟨x1, x2, x3, x4, t1, t2, t3, t4⟩ := HTR.out
        have HT1 := Lib.hid t1
        have HT2 := Lib.hid t2
        have HT3 := Lib.hid t3
        have HT4 := Lib.hid t4
        clear t1 t2 t3 t4
        have d0 : w4.cell? ⟨gx, 0, none⟩ = some (.int .i64 1) := (HX0.out.only HM0.out.only id).cell_ (i := 0) rfl
        go_wp2_with fail
        clear d0
        rw [show (40 : Int) + 8 * (k : Int) = ((40 + 8 * k : Nat) : Int) by push_cast; rfl]
        refine (alone_any (some ⟨b, 0, none⟩) A' c' k a2 1 (40 + 8 * k) _ _ (Memo.of HM0.out.mem) HW0.out (by omega)).mono ?_
        rw [HT1.out]
        rintro e w5 ⟨nv1, rfl, hO, hM, hW⟩
        have HM1 := Lib.hid (HM0.out.call hO hM.mem)
        have HW1 := Lib.hid hW
        clear hO hM hW HM0 HW0
        have d1 : w5.cell? ⟨gx, 1, none⟩ = some (.int .i64 5) := (HX0.out.only HM1.out.only id).cell_ (i := 1) rfl
        go_wp2_with fail
        clear d1
        rw [show (40 : Int) + 8 * (k : Int) = ((40 + 8 * k : Nat) : Int) by push_cast; rfl]
        refine (alone_any (some ⟨b, 0, none⟩) A' c' k a2 5 (40 + 8 * k) _ _ (Memo.of HM1.out.mem) HW1.out (by omega)).mono ?_
        rw [HT2.out]
        rintro e w6 ⟨nv2, rfl, hO, hM, hW⟩
        have HM2 := Lib.hid (HM1.out.call hO hM.mem)
        have HW2 := Lib.hid hW
        clear hO hM hW HM1 HW1
        have d3 : w6.cell? ⟨gx, 3, none⟩ = some (.int .i64 2) := (HX0.out.only HM2.out.only id).cell_ (i := 3) rfl
        go_wp2_with fail
        clear d3
        rw [show (40 : Int) + 8 * (k : Int) = ((40 + 8 * k : Nat) : Int) by push_cast; rfl]
        refine (alone_any (some ⟨b, 0, none⟩) A' c' k a2 2 (40 + 8 * k) _ _ (Memo.of HM2.out.mem) HW2.out (by omega)).mono ?_
        rw [HT3.out]
        rintro e w7 ⟨nv3, rfl, hO, hM, hW⟩
        have HM3 := Lib.hid (HM2.out.call hO hM.mem)
        have HW3 := Lib.hid hW
        clear hO hM hW HM2 HW2
        have d2 : w7.cell? ⟨gx, 2, none⟩ = some (.int .i64 2) := (HX0.out.only HM3.out.only id).cell_ (i := 2) rfl
        have HOF := Lib.hid ((HOR.out.trans HO0.out).trans HM3.out.only)
        go_wp2
        go_roundw
        case rel => exact ⟨3 + 1, by omega, rfl, HOF.out⟩
        case measure => simp [intOf]
    · obtain rfl : i = 4 := by omega
      go_wp2_with fail
      refine (awake_any _).mono ?_
      rintro e w9 ⟨rfl, hO⟩
      have HO9 := Lib.hid ((HO.out.trans HOR.out).trans hO)
      clear hO
      go_wp2
      go_ret
      exact ⟨rfl, HO9.out⟩
end Go.Proofs.Ytgfippbcgneegaa
set_option linter.unusedVariables false
set_option linter.unusedSimpArgs false
namespace Go.Proofs.Ytgfippbcgneegaa
open Go.RowKit
def upd {α : Type} (f : Nat → α) (t : Nat) (v : α) : Nat → α := fun i => if i = t then v else f i
theorem upd_same {α : Type} (f : Nat → α) (t : Nat) (v : α) : upd f t v t = v := if_pos rfl
theorem upd_other {α : Type} (f : Nat → α) {t i : Nat} (v : α) (h : i ≠ t) : upd f t v i = f i := if_neg h
structure MV where
  rs : Nat → LS
  hold : Nat → Int
  xs : List Int
def MV.at (m : MV) (t : Nat) : LS := { m.rs t with xs := m.xs }
def MV.setR (m : MV) (t : Nat) (r : LS) : MV := ⟨upd m.rs t r, m.hold, r.xs⟩
def MV.setH (m : MV) (t : Nat) (h : Int) : MV := ⟨m.rs, upd m.hold t h, m.xs⟩
def zeroF (r : LS) (op : Int) : LS := { r with op := op, line := 0, a := 0, b := 0, s := 0, k := wk0, ret := 0 }
def mayI (op hold : Int) : Bool := if hold = 0 then (op == 1 || op == 3 || op == 5 || op == 6) else if hold = 1 then (op == 2 || op == 7) else (op == 4 || op == 8)
def fromI (op hold : Int) : Int := if op = 2 ∨ op = 4 then 0 else if op = 8 then 1 else hold
def behindI (op ret hold : Int) : Int := if ret ≠ 2 then hold else if op = 1 ∨ op = 5 then 1 else if op = 3 ∨ op = 6 ∨ op = 7 then 2 else hold
def MV.start (m : MV) (t : Nat) (op : Int) : MV := (m.setH t (fromI op (m.hold t))).setR t (zeroF (m.at t) op)
def MV.go (L : LS → LS) (m : MV) (t : Nat) : MV :=
  if (m.at t).stuck then m
  else if ((m.at t).next L).over then ((m.setR t ((m.at t).next L)).setH t (behindI ((m.at t).next L).op ((m.at t).next L).ret (m.hold t))).setR t (zeroF ((m.at t).next L) 0)
  else m.setR t ((m.at t).next L)
def playI (L : LS → LS) (m : MV) (t : Nat) (op : Int) : MV := if (m.at t).op = 0 then (if mayI op (m.hold t) then (m.start t op).go L t else m) else m.go L t
def whileI (L : LS → LS) (t : Nat) : Nat → MV → MV
  | 0, m => m
  | n + 1, m => if (m.at t).op = 0 then m else whileI L t n (playI L m t 0)
def wholeI (L : LS → LS) (m : MV) (t : Nat) (op : Int) : MV := whileI L t 200 (playI L m t op)
def manyI (m : MV) (what : Int) : Nat → Nat
  | 0 => 0
  | k + 1 => if m.hold k = what then manyI m what k + 1 else manyI m what k
section
variable {m : MV} {t i : Nat} {r : LS} {h : Int}
theorem at_setR : (m.setR t r).at t = r := by
  unfold MV.setR MV.at
  simp only [upd_same]
theorem at_setR_other (hi : i ≠ t) : (m.setR t r).at i = { m.rs i with xs := r.xs } := by
  unfold MV.setR MV.at
  simp only [upd_other m.rs r hi]
theorem at_setH : (m.setH t h).at i = m.at i := rfl
end
end Go.Proofs.Ytgfippbcgneegaa
set_option linter.unusedVariables false
set_option linter.unusedSimpArgs false
namespace Go.Proofs.Ytgfippbcgneegaa
open Go.RowKit
theorem stuck_any (p A : Option Addr) (cp : Nat) (xs : List Int) (n mode i s : Int) (w : World) (h : Memo w p A cp xs) :
    Calls Try.prog 58 #[.pointer p, .agg #[.int .i64 n], .int .i64 mode, .int .i64 i, .agg #[.int .i64 s]] w fun e w' =>
      e = .returned (.bool (stuckB xs n mode i s)) ∧ Only (At A) w w' ∧ Memo w' p A cp xs := by
  have e0 := ((Only.refl (At A) w).alloc (Obj.cells #[Value.int IntKind.i64 n] 57)).alloc (Obj.cells #[Value.int IntKind.i64 s] 51)
  have e1 := ((Only.refl Nil w).alloc (Obj.cells #[Value.int IntKind.i64 n] 57)).alloc (Obj.cells #[Value.int IntKind.i64 s] 51)
  have HH := Lib.hid (h.keep e1)
  have HO := Lib.hid e0
  clear h e0 e1
  by_cases h2 : mode = 2
  · by_cases h3 : s = 3
    · have hs : stuckB xs n mode i s = !hasP xs n i := by rw [h2, h3]; rfl
      rw [hs]
      clear hs
      subst h2 h3
      go_enter Try.func58, Try.ntmps58
      go_wp2_with fail
      refine (has_any p A cp xs n i _ HH.out).mono ?_
      rintro e w2 ⟨rfl, hO, hM⟩
      have HS := Lib.hid (HO.out.trans hO)
      have HM := Lib.hid hM
      clear hO hM
      go_wp2
      go_ret
      exact ⟨rfl, HS.out, HM.out⟩
    · have hs : stuckB xs n mode i s = false := by unfold stuckB; rw [beq_eq_false_iff_ne.2 h3, Bool.and_false, Bool.false_and]
      rw [hs]
      clear hs
      subst h2
      have h3' := beq_eq_false_iff_ne.2 h3
      go_enter Try.func58, Try.ntmps58
      go_wp2
      go_ret
      exact ⟨rfl, HO.out, HH.out⟩
  · have hs : stuckB xs n mode i s = false := by unfold stuckB; rw [beq_eq_false_iff_ne.2 h2, Bool.false_and, Bool.false_and]
    rw [hs]
    clear hs
    have h2' := beq_eq_false_iff_ne.2 h2
    go_enter Try.func58, Try.ntmps58
    go_wp2
    go_ret
    exact ⟨rfl, HO.out, HH.out⟩
end Go.Proofs.Ytgfippbcgneegaa
set_option linter.unusedVariables false
set_option linter.unusedSimpArgs false
namespace Go.Proofs.Ytgfippbcgneegaa
open Go.RowKit
theorem stuckL_any (p A : Option Addr) (cp : Nat) (nv : Value) (r : LS) (w : World) (h : Memo w p A cp r.xs) :
    Calls Try.prog 31 #[.agg (r.cells (.pointer p) nv)] w fun e w' => e = .returned (.bool r.stuck) ∧ Only (At A) w w' ∧ Memo w' p A cp r.xs := by
  obtain ⟨n, mode, task, op, line, a, b, s, ⟨on, kc, ki, hit⟩, ret, ⟨ak, ac, ax, ay, ao⟩, ns, xs⟩ := r
  dsimp only [LS.cells, LS.stuck] at h ⊢
  have e0 := (Only.refl Nil w).alloc (.cells #[.pointer p, .int .i64 n, .int .i64 mode, .int .i64 task, .int .i64 op, .int .i64 line, .int .u32 a, .int .u32 b, .int .i64 s, .bool on, .int .i64 kc, .int .i64 ki, .bool hit, .int .i64 ret, .int .i64 ak, .int .i64 ac, .int .u32 ax, .int .u32 ay, .int .u32 ao, nv] 61)
  have HR := Lib.hid (Row.new w 61 #[.pointer p, .int .i64 n, .int .i64 mode, .int .i64 task, .int .i64 op, .int .i64 line, .int .u32 a, .int .u32 b, .int .i64 s, .bool on, .int .i64 kc, .int .i64 ki, .bool hit, .int .i64 ret, .int .i64 ak, .int .i64 ac, .int .u32 ax, .int .u32 ay, .int .u32 ao, nv])
  have HM := Lib.hid (h.keep e0)
  have HO := Lib.hid (e0.mono (T := At A) (fun _ _ h => h.elim))
  clear h e0
  cases on
  · go_enter Try.func31, Try.ntmps31
    go_upto_region 1 with (fail)
    generalize w.alloc (.cells #[.pointer p, .int .i64 n, .int .i64 mode, .int .i64 task, .int .i64 op, .int .i64 line, .int .u32 a, .int .u32 b, .int .i64 s, .bool false, .int .i64 kc, .int .i64 ki, .bool hit, .int .i64 ret, .int .i64 ak, .int .i64 ac, .int .u32 ax, .int .u32 ay, .int .u32 ao, nv] 61) = w1 at *
    generalize w.heap.size = g at *
    have a0 : w1.cell? ⟨g, 0, none⟩ = some (.pointer p) := HR.out.cell_ (i := 0) rfl
    have a1 : w1.cell? ⟨g, 1, none⟩ = some (.int .i64 n) := HR.out.cell_ (i := 1) rfl
    have a2 : w1.cell? ⟨g, 2, none⟩ = some (.int .i64 mode) := HR.out.cell_ (i := 2) rfl
    have a3 : w1.cell? ⟨g, 3, none⟩ = some (.int .i64 task) := HR.out.cell_ (i := 3) rfl
    have a8 : w1.cell? ⟨g, 8, none⟩ = some (.int .i64 s) := HR.out.cell_ (i := 8) rfl
    have a9 : w1.cell? ⟨g, 9, none⟩ = some (.bool false) := HR.out.cell_ (i := 9) rfl
    go_wp2_with fail
    clear a0 a1 a2 a3 a8 a9
    refine (stuck_any p A cp xs n mode task s _ HM.out).mono ?_
    rintro e w2 ⟨rfl, hO, hM⟩
    have HM2 := Lib.hid hM
    have HO2 := Lib.hid (HO.out.trans hO)
    clear hO hM
    go_wp2
    go_ret
    exact ⟨ret_bool (by rfl), HO2.out, HM2.out⟩
  · go_enter Try.func31, Try.ntmps31
    go_upto_region 1 with (fail)
    generalize w.alloc (.cells #[.pointer p, .int .i64 n, .int .i64 mode, .int .i64 task, .int .i64 op, .int .i64 line, .int .u32 a, .int .u32 b, .int .i64 s, .bool true, .int .i64 kc, .int .i64 ki, .bool hit, .int .i64 ret, .int .i64 ak, .int .i64 ac, .int .u32 ax, .int .u32 ay, .int .u32 ao, nv] 61) = w1 at *
    generalize w.heap.size = g at *
    have a9 : w1.cell? ⟨g, 9, none⟩ = some (.bool true) := HR.out.cell_ (i := 9) rfl
    go_wp2
    go_ret
    exact ⟨ret_bool (by rfl), HO.out, HM.out⟩
end Go.Proofs.Ytgfippbcgneegaa
set_option linter.unusedVariables false
set_option linter.unusedSimpArgs false
namespace Go.Proofs.Ytgfippbcgneegaa
open Go.RowKit
def LS.AB (r : LS) : Prop := (0 ≤ r.a ∧ r.a < 4294967296) ∧ (0 ≤ r.b ∧ r.b < 4294967296)
structure MatchP (L : List (Nat × TypeId × Array Value)) (w0 : World) (X GL GH : Nat) (B : Nat → Nat) (p A : Option Addr) (cp k : Nat) (m : MV) (W : World) : Prop where
  x : ∃ cl, Row W X 49 #[.slice (some ⟨GL, 0, none⟩) k cl, .slice (some ⟨GH, 0, none⟩) k k]
  l : ∃ cs, Row W GL 62 cs ∧ ∀ i, i < k → cs[i]? = some (.pointer (some ⟨B i, 0, none⟩))
  h : ∃ cs, Row W GH 3 cs ∧ ∀ i, i < k → cs[i]? = some (.int .i64 (m.hold i))
  run : ∀ i, i < k → ∃ nv, RunQ W (B i) p A cp nv (m.at i)
  inj : ∀ i j, i < k → j < k → B i = B j → i = j
  memo : Memo W p A cp m.xs
  words : Words m.xs
  only : Only Nil w0 W
  new : ∀ j, (j = GH ∨ At A j ∨ ∃ i, i < k ∧ j = B i) → w0.heap.size ≤ j
  side : RowsL W L
  sideT : ∀ x ∈ L, Aside x.2.1 ∧ x.2.1 ≠ 3
  ab : ∀ i, i < k → (m.rs i).AB
section
variable {L : List (Nat × TypeId × Array Value)} {w0 W W' : World} {X GL GH : Nat} {B : Nat → Nat} {p A : Option Addr} {cp k : Nat} {m : MV} {t : Nat} {r' : LS} {nv : Value} {v : Int}
theorem RunQ.aside {w w' : World} {b : Nat} {p A : Option Addr} {cp : Nat} {nv : Value} {r : LS} {g : Nat} {t : TypeId} {cs : Array Value} (h : RunQ w b p A cp nv r) (hg : Row w g t cs) (ho : Only (TurnB b A) w w') (ht : Aside t) : Row w' g t cs :=
  hg.only ho (fun e => by
    rcases e with e | e
    · exact row_ne hg h.row ht.1 e
    · exact memo_not h.memo hg ht.2.1 ht.2.2 (.inr e))
theorem aside_m : Aside 49 := ⟨by decide, by decide, by decide⟩
theorem aside_pp : Aside 62 := ⟨by decide, by decide, by decide⟩
theorem aside_ii : Aside 3 := ⟨by decide, by decide, by decide⟩
theorem MatchP.ran (h : MatchP L w0 X GL GH B p A cp k m W) (ht : t < k) (ho : Only (TurnB (B t) A) W W') (hq : RunQ W' (B t) p A cp nv r') (hw : Words r'.xs) (hab : r'.AB) : MatchP L w0 X GL GH B p A cp k (m.setR t r') W' := by
  obtain ⟨nv0, q0⟩ := h.run t ht
  refine ⟨?_, ?_, ?_, fun i hi => ?_, h.inj, hq.memo, hw, h.only.step ho (fun j hj e => ?_), h.new, fun x hx => q0.aside (h.side x hx) ho (h.sideT x hx).1, h.sideT, fun i hi => by
    show (upd m.rs t r' i).AB
    by_cases e : i = t
    · subst e; rw [upd_same]; exact hab
    · rw [upd_other _ _ e]; exact h.ab i hi⟩
  · obtain ⟨cl, e⟩ := h.x
    exact ⟨cl, q0.aside e ho aside_m⟩
  · obtain ⟨cs, e, e2⟩ := h.l
    exact ⟨cs, q0.aside e ho aside_pp, e2⟩
  · obtain ⟨cs, e, e2⟩ := h.h
    exact ⟨cs, q0.aside e ho aside_ii, e2⟩
  · by_cases e : i = t
    · subst e
      rw [at_setR]
      exact ⟨nv, hq⟩
    · obtain ⟨nvi, qi⟩ := h.run i hi
      rw [at_setR_other e]
      refine ⟨nvi, qi.row.only ho (fun e2 => ?_), hq.memo⟩
      rcases e2 with e2 | e2
      · exact e (h.inj i t hi ht e2)
      · exact qi.far (.inr e2) rfl
  · have := h.new j (by rcases e with e | e; exact .inr (.inr ⟨t, ht, e⟩); exact .inr (.inl e))
    omega
theorem MatchP.same (h : MatchP L w0 X GL GH B p A cp k m W) (ho : Only (At A) W W') (hm : Memo W' p A cp m.xs) : MatchP L w0 X GL GH B p A cp k m W' := by
  refine ⟨?_, ?_, ?_, fun i hi => ?_, h.inj, hm, h.words, h.only.step ho (fun j hj e => ?_), h.new, fun x hx => (h.side x hx).only ho (fun e2 => memo_not h.memo (h.side x hx) (h.sideT x hx).1.2.1 (h.sideT x hx).1.2.2 (.inr e2)), h.sideT, h.ab⟩
  · obtain ⟨cl, e⟩ := h.x
    exact ⟨cl, e.only ho (fun e2 => memo_not h.memo e aside_m.2.1 aside_m.2.2 (.inr e2))⟩
  · obtain ⟨cs, e, e2⟩ := h.l
    exact ⟨cs, e.only ho (fun e2 => memo_not h.memo e aside_pp.2.1 aside_pp.2.2 (.inr e2)), e2⟩
  · obtain ⟨cs, e, e2⟩ := h.h
    exact ⟨cs, e.only ho (fun e2 => memo_not h.memo e aside_ii.2.1 aside_ii.2.2 (.inr e2)), e2⟩
  · obtain ⟨nvi, qi⟩ := h.run i hi
    exact ⟨nvi, qi.row.only ho (fun e2 => qi.far (.inr e2) rfl), hm⟩
  · have := h.new j (.inr (.inl e))
    omega
theorem MatchP.keep (h : MatchP L w0 X GL GH B p A cp k m W) (ho : Only Nil W W') : MatchP L w0 X GL GH B p A cp k m W' := h.same (ho.mono (fun _ _ h => h.elim)) (h.memo.keep ho)
theorem MatchP.held (h : MatchP L w0 X GL GH B p A cp k m W) (ht : t < k) (v : Int) : MatchP L w0 X GL GH B p A cp k (m.setH t v) (W.setCell ⟨GH, t, none⟩ (.int .i64 v)) := by
  obtain ⟨cs, hh, hc⟩ := h.h
  have ho := (Only.refl (· = GH) W).setCell (p := ⟨GH, t, none⟩) (.inr rfl) (.int .i64 v)
  have hsz : t < cs.size := by have := hc t ht; exact (Array.getElem?_eq_some_iff.1 this).1
  refine ⟨?_, ?_, ⟨_, hh.set t (.int .i64 v), fun i hi => ?_⟩, fun i hi => ?_, h.inj, h.memo.far ho (fun j hj e => ?_), h.words, h.only.setCell (.inl (h.new GH (.inl rfl))) _, h.new, fun x hx => (h.side x hx).only ho (fun e2 => row_ne (h.side x hx) hh (h.sideT x hx).2 e2), h.sideT, h.ab⟩
  · obtain ⟨cl, e⟩ := h.x
    exact ⟨cl, e.only ho (fun e2 => row_ne e hh (by decide) e2)⟩
  · obtain ⟨cs', e, e2⟩ := h.l
    exact ⟨cs', e.only ho (fun e2 => row_ne e hh (by decide) e2), e2⟩
  · show (cs.setIfInBounds t _)[i]? = some (.int .i64 (upd m.hold t v i))
    by_cases e : i = t
    · subst e
      rw [upd_same, Array.getElem?_setIfInBounds_self]
      simp [hsz]
    · rw [upd_other _ _ e, Array.getElem?_setIfInBounds_ne (Ne.symm e)]
      exact hc i hi
  · obtain ⟨nvi, qi⟩ := h.run i hi
    exact ⟨nvi, qi.row.only ho (fun e2 => row_ne qi.row hh (by decide) e2), h.memo.far ho (fun j hj e => memo_not h.memo hh (by decide) (by decide) (by subst e; exact hj))⟩
  · exact memo_not h.memo hh (by decide) (by decide) (by subst e; exact hj)
theorem MatchP.beside {g : Nat} {ty : TypeId} {cs : Array Value} (h : MatchP L w0 X GL GH B p A cp k m W) (hr : Row W g ty cs) (h1 : Aside ty) (h2 : ty ≠ 3) : MatchP ((g, ty, cs) :: L) w0 X GL GH B p A cp k m W :=
  ⟨h.x, h.l, h.h, h.run, h.inj, h.memo, h.words, h.only, h.new, h.side.cons hr, fun x hx => by
    rcases List.mem_cons.1 hx with rfl | hx
    · exact ⟨h1, h2⟩
    · exact h.sideT x hx, h.ab⟩
def frameW (W : World) (b : Nat) (op : Int) : World :=
  (((((((((W.setCell ⟨b, 4, none⟩ (.int .i64 op)).setCell ⟨b, 5, none⟩ (.int .i64 0)).setCell ⟨b, 6, none⟩ (.int .u32 0)).setCell ⟨b, 7, none⟩ (.int .u32 0)).setCell ⟨b, 8, none⟩ (.int .i64 0)).setCell ⟨b, 9, none⟩ (.bool false)).setCell ⟨b, 10, none⟩ (.int .i64 0)).setCell ⟨b, 11, none⟩ (.int .i64 0)).setCell ⟨b, 12, none⟩ (.bool false)).setCell ⟨b, 13, none⟩ (.int .i64 0)
theorem frame_only (W : World) (b : Nat) (op : Int) : Only (· = b) W (frameW W b op) :=
  (((((((((((Only.refl (· = b) W).setCell (p := ⟨b, 4, none⟩) (.inr rfl) _).setCell (p := ⟨b, 5, none⟩) (.inr rfl) _).setCell (p := ⟨b, 6, none⟩) (.inr rfl) _).setCell (p := ⟨b, 7, none⟩) (.inr rfl) _).setCell (p := ⟨b, 8, none⟩) (.inr rfl) _).setCell (p := ⟨b, 9, none⟩) (.inr rfl) _).setCell (p := ⟨b, 10, none⟩) (.inr rfl) _).setCell (p := ⟨b, 11, none⟩) (.inr rfl) _).setCell (p := ⟨b, 12, none⟩) (.inr rfl) _).setCell (p := ⟨b, 13, none⟩) (.inr rfl) _)
theorem frame_row {b : Nat} {r : LS} {hv nv : Value} {ty : TypeId} (h : Row W b ty (r.cells hv nv)) (op : Int) : Row (frameW W b op) b ty ((zeroF r op).cells hv nv) := by
  have e1 : Row (((((W.setCell ⟨b, 4, none⟩ (.int .i64 op)).setCell ⟨b, 5, none⟩ (.int .i64 0)).setCell ⟨b, 6, none⟩ (.int .u32 0)).setCell ⟨b, 7, none⟩ (.int .u32 0)).setCell ⟨b, 8, none⟩ (.int .i64 0)) b ty (({ r with op := op, line := 0, a := 0, b := 0, s := 0 } : LS).cells hv nv) :=
    ((((h.set 4 (.int .i64 op)).set 5 (.int .i64 0)).set 6 (.int .u32 0)).set 7 (.int .u32 0)).set 8 (.int .i64 0)
  have e2 := (set_wake_row e1 wk0).set 13 (.int .i64 0)
  exact e2
theorem MatchP.framed (h : MatchP L w0 X GL GH B p A cp k m W) (ht : t < k) (op : Int) : MatchP L w0 X GL GH B p A cp k (m.setR t (zeroF (m.at t) op)) (frameW W (B t) op) := by
  obtain ⟨nv, q⟩ := h.run t ht
  exact h.ran ht ((frame_only W (B t) op).mono (fun _ _ e => .inl e)) ⟨frame_row q.row op, h.memo.far (frame_only W (B t) op) (fun j hj => q.far hj)⟩ h.words ⟨⟨Int.le_refl _, by show (0 : Int) < _; decide⟩, ⟨Int.le_refl _, by show (0 : Int) < _; decide⟩⟩
end
end Go.Proofs.Ytgfippbcgneegaa
