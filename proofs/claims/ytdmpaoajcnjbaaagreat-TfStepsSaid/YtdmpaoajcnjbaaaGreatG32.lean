import Derived.Test.YtdmpaoajcnjbaaaGreatG24
import Derived.Test.YtdmpaoajcnjbaaaGreatG26
import Derived.Test.YtdmpaoajcnjbaaaGreatG15
import Derived.Test.YtdmpaoajcnjbaaaGreatG27
set_option linter.unusedVariables false
set_option linter.unusedSimpArgs false
namespace Go.Proofs.YtdmpaoajcnjbaaaGreat
open Go.RowKit
set_option maxRecDepth 100000 in
set_option maxHeartbeats 4000000 in
theorem ref_6_1 (B base : Nat) (A : Option Addr) (l cp : Nat) (nv : Value) (r : LS) (w : World) (h : RunR w B base A l cp nv r) (hl : r.ns.length ≤ 900) (hx : Words r.xs) (ha : 0 ≤ r.a ∧ r.a < 4294967296) (h1 : r.op = 6) (h2 : r.line = 1) :
    Calls Tryz.prog 10 #[Value.pointer (some ⟨B, 0, none⟩)] w (DoneR B base A l cp w (.tuple #[]) r.tf) := by
  rw [show r.tf = r.weigh 2 0 by unfold LS.tf; rw [h1, h2]; rfl]
  have H1 := Lib.hid h1
  have H2 := Lib.hid h2
  clear h1 h2
  have HLN := Lib.hid (show ((r.doA 1 2 0 0).keepB (wordAt r.xs 2)).ns.length ≤ 1000 from Nat.le_trans hl (by decide))
  generalize hah : aheadI r.a (wordAt r.xs 2) = ah
  by_cases q1 : 0 < ah
  · have q2 : ¬ ah < 0 := by omega
    have q3 : (ah == 0) = false := beq_eq_false_iff_ne.2 (by omega)
    rw [show r.weigh 2 0 = (((r.doA 1 2 0 0).keepB (wordAt r.xs 2)).note 5 0).fin false by unfold LS.weigh; rw [hah, if_pos q1]]
    have HAH := Lib.hid hah
    clear hah
    have HX := Lib.hid hx
    have HL := Lib.hid hl
    have HA := Lib.hid ha
    have HH := Lib.hid h
    clear h hl hx ha
    have c4 : w.cell? ⟨B, 4, none⟩ = some (.int .i64 (6)) := by rw [← H1.out]; exact HH.out.row.cell_ (i := 4) rfl
    have c5 : w.cell? ⟨B, 5, none⟩ = some (.int .i64 (1)) := by rw [← H2.out]; exact HH.out.row.cell_ (i := 5) rfl
    have c6 : w.cell? ⟨B, 6, none⟩ = some (.int .u32 r.a) := HH.out.row.cell_ (i := 6) rfl
    have e0 := (Only.refl Nil w).alloc (.cells #[.int .i64 0, .int .u32 4294967295, .int .u32 r.a] 69)
    have HP := Lib.hid (HH.out.keep e0)
    have HO := Lib.hid (e0.mono (T := TurnB B A) (fun _ _ h => h.elim))
    have HU := Lib.hid (Row.new w 69 #[.int .i64 0, .int .u32 4294967295, .int .u32 r.a])
    clear e0 HH
    go_enter Tryz.func10, Tryz.ntmps10
    go_upto_region 3 with (fail)
    clear c4 c5 c6
    generalize w.alloc (.cells #[.int .i64 0, .int .u32 4294967295, .int .u32 r.a] 69) = w1 at *
    generalize w.heap.size = gu at *
    have hw1 : IntKind.i64.wrap (60) = 60 := rfl
    have hw2 : IntKind.i64.wrap (61) = 61 := rfl
    refine wp_region_phase (n := 10) 9 (fun w => w.cell? ⟨B, 4, none⟩ = some (.int .i64 (6)) ∧ w.cell? ⟨B, 5, none⟩ = some (.int .i64 (1))) rfl (by kernel_rfl) ⟨by rw [← H1.out]; exact HP.out.row.cell_ (i := 4) rfl, by rw [← H2.out]; exact HP.out.row.cell_ (i := 5) rfl⟩ (fun hHeld => ?_)
    have HP0 := Lib.hid (HP.out.keep (Only.refl Nil w1).drew)
    have HO0 := Lib.hid HO.out.drew
    have HU0 := Lib.hid HU.out.drew
    clear HP HO HU
    generalize w1.drew = w2 at *
    refine mpa 0 rfl (.pointer (some ⟨B, 4, none⟩)) (fun w => ?_) ?_
    · go_simp
    (try simp only [Act.put, k1, k2, k3])
    refine mpa 1 rfl (.pointer (some ⟨B, 4, none⟩)) (fun w => ?_) ?_
    · go_simp
    (try simp only [Act.put, k1, k2, k3])
    refine mpa 2 rfl (.pointer (some ⟨B, 4, none⟩)) (fun w => ?_) ?_
    · go_simp
    (try simp only [Act.put, k1, k2, k3])
    refine mpt 3 rfl (.int .i64 (6)) (fun w hSw => ?_) ?_
    · (try dsimp only at hSw)
      go_split_ands
      go_simp
    (try simp only [Act.put, k1, k2, k3])
    refine mpa 4 rfl (.int .i64 (60)) (fun w => ?_) ?_
    · go_simp
    (try simp only [Act.put, k1, k2, k3])
    refine mpa 5 rfl (.pointer (some ⟨B, 4, none⟩)) (fun w => ?_) ?_
    · go_simp
    (try simp only [Act.put, k1, k2, k3])
    refine mpa 6 rfl (.pointer (some ⟨B, 4, none⟩)) (fun w => ?_) ?_
    · go_simp
    (try simp only [Act.put, k1, k2, k3])
    refine mpa 7 rfl (.pointer (some ⟨B, 5, none⟩)) (fun w => ?_) ?_
    · go_simp
    (try simp only [Act.put, k1, k2, k3])
    refine mpt 8 rfl (.int .i64 (1)) (fun w hSw => ?_) ?_
    · (try dsimp only at hSw)
      go_split_ands
      go_simp
    (try simp only [Act.put, k1, k2, k3])
    refine mpc 9 rfl (by kernel_rfl) (by rfl) (fun K hK => ?_)
    go_simp
    refine hK.out _ _ (.inl (by kernel_rfl)) ?_
    clear hK K hHeld hw1 hw2
    (try simp only [Act.put, k1, k2, k3])
    refine wpAnyP_done (by kernel_rfl) ?_ _
    have c4 : w2.cell? ⟨B, 4, none⟩ = some (.int .i64 (6)) := by rw [← H1.out]; exact HP0.out.row.cell_ (i := 4) rfl
    go_wp2_with fail
    clear c4
    refine (rload_run B base A l cp nv r 2 _ HP0.out).mono ?_
    rintro e w3 ⟨rfl, hO, nv1, hP⟩
    have HO1 := Lib.hid (HO0.out.trans hO)
    have HP1 := Lib.hid hP
    clear hO hP HP0 HO0
    have c7 : w3.cell? ⟨B, 7, none⟩ = some (.int .u32 r.b) := HP1.out.row.cell_ (i := 7) rfl
    have f7 : w3.frozen? ⟨B, 7, none⟩ = false := HP1.out.row.frozen 7
    go_upto_region 58 with (fail)
    clear c7 f7
    have HP2 := Lib.hid (HP1.out.setB (wordAt r.xs 2))
    have HO2 := Lib.hid (HO1.out.setCell (p := ⟨B, 7, none⟩) (.inr (.inl rfl)) (.int .u32 (wordAt r.xs 2)))
    clear HP1 HO1
    generalize w3.setCell ⟨B, 7, none⟩ (.int .u32 (wordAt r.xs 2)) = w4 at *
    refine wp_region_phase (n := 10) 8 (fun w => w.cell? ⟨B, 6, none⟩ = some (.int .u32 r.a) ∧ w.cell? ⟨B, 7, none⟩ = some (.int .u32 (wordAt r.xs 2))) rfl (by kernel_rfl) ⟨HP2.out.row.cell_ (i := 6) rfl, HP2.out.row.cell_ (i := 7) rfl⟩ (fun hHeld => ?_)
    have HP3 := Lib.hid (HP2.out.keep (Only.refl Nil w4).drew)
    have HO3 := Lib.hid HO2.out.drew
    clear HP2 HO2
    generalize w4.drew = w5 at *
    refine mpa 0 rfl (.pointer (some ⟨B, 4, none⟩)) (fun w => ?_) ?_
    · go_simp
    (try simp only [Act.put, k1, k2, k3])
    refine mpa 1 rfl (.pointer (some ⟨B, 4, none⟩)) (fun w => ?_) ?_
    · go_simp
    (try simp only [Act.put, k1, k2, k3])
    refine mpa 2 rfl (.pointer (some ⟨B, 6, none⟩)) (fun w => ?_) ?_
    · go_simp
    (try simp only [Act.put, k1, k2, k3])
    refine mpt 3 rfl (.int .u32 r.a) (fun w hSw => ?_) ?_
    · (try dsimp only at hSw)
      go_split_ands
      go_simp
    (try simp only [Act.put, k1, k2, k3])
    refine mpa 4 rfl (.pointer (some ⟨B, 4, none⟩)) (fun w => ?_) ?_
    · go_simp
    (try simp only [Act.put, k1, k2, k3])
    refine mpa 5 rfl (.pointer (some ⟨B, 4, none⟩)) (fun w => ?_) ?_
    · go_simp
    (try simp only [Act.put, k1, k2, k3])
    refine mpa 6 rfl (.pointer (some ⟨B, 7, none⟩)) (fun w => ?_) ?_
    · go_simp
    (try simp only [Act.put, k1, k2, k3])
    refine mpt 7 rfl (.int .u32 (wordAt r.xs 2)) (fun w hSw => ?_) ?_
    · (try dsimp only at hSw)
      go_split_ands
      go_simp
    (try simp only [Act.put, k1, k2, k3])
    refine mpc 8 rfl (by kernel_rfl) (by rfl) (fun K hK => ?_)
    go_simp
    refine (refAhead_any r.a (wordAt r.xs 2) _ HA.out (word_bd HX.out 2)).mono ?_
    rw [HAH.out]
    rintro e w9 ⟨rfl, rfl⟩
    refine hK.out _ _ (.inl (by kernel_rfl)) ?_
    clear hK K hHeld
    (try simp only [Act.put, k1, k2, k3])
    refine mpa 9 rfl (.int .i64 ah) (fun w => ?_) ?_
    · go_simp
    (try simp only [Act.put, k1, k2, k3])
    refine wpAnyP_done (by kernel_rfl) ?_ _
    go_wp2_with fail
    refine (rnote_run B base A l cp nv1 _ 5 0 _ HP3.out HLN.out).mono ?_
    rintro e w6 ⟨rfl, hO, nv6, hP⟩
    have HO6 := Lib.hid (HO3.out.trans hO)
    have HP6 := Lib.hid hP
    clear hO hP HP3 HO3
    go_wp2_with fail
    refine (rend_run B base A l cp nv6 _ _ false HP6.out).mono ?_
    rintro e w7 ⟨rfl, hO, nv7, hP⟩
    have HO7 := Lib.hid (HO6.out.trans hO)
    have HP7 := Lib.hid hP
    clear hO hP HP6 HO6
    go_wp2
    go_returns
    exact ⟨rfl, HO7.out, nv7, HP7.out⟩
  · by_cases q2 : ah < 0
    · have q3 : (ah == 0) = false := beq_eq_false_iff_ne.2 (by omega)
      rw [show r.weigh 2 0 = ((r.doA 1 2 0 0).keepB (wordAt r.xs 2)).go 0 by unfold LS.weigh; rw [hah, if_neg q1, if_pos q2]]
      have HAH := Lib.hid hah
      clear hah
      have HX := Lib.hid hx
      have HL := Lib.hid hl
      have HA := Lib.hid ha
      have HH := Lib.hid h
      clear h hl hx ha
      have c4 : w.cell? ⟨B, 4, none⟩ = some (.int .i64 (6)) := by rw [← H1.out]; exact HH.out.row.cell_ (i := 4) rfl
      have c5 : w.cell? ⟨B, 5, none⟩ = some (.int .i64 (1)) := by rw [← H2.out]; exact HH.out.row.cell_ (i := 5) rfl
      have c6 : w.cell? ⟨B, 6, none⟩ = some (.int .u32 r.a) := HH.out.row.cell_ (i := 6) rfl
      have e0 := (Only.refl Nil w).alloc (.cells #[.int .i64 0, .int .u32 4294967295, .int .u32 r.a] 69)
      have HP := Lib.hid (HH.out.keep e0)
      have HO := Lib.hid (e0.mono (T := TurnB B A) (fun _ _ h => h.elim))
      have HU := Lib.hid (Row.new w 69 #[.int .i64 0, .int .u32 4294967295, .int .u32 r.a])
      clear e0 HH
      go_enter Tryz.func10, Tryz.ntmps10
      go_upto_region 3 with (fail)
      clear c4 c5 c6
      generalize w.alloc (.cells #[.int .i64 0, .int .u32 4294967295, .int .u32 r.a] 69) = w1 at *
      generalize w.heap.size = gu at *
      have hw1 : IntKind.i64.wrap (60) = 60 := rfl
      have hw2 : IntKind.i64.wrap (61) = 61 := rfl
      refine wp_region_phase (n := 10) 9 (fun w => w.cell? ⟨B, 4, none⟩ = some (.int .i64 (6)) ∧ w.cell? ⟨B, 5, none⟩ = some (.int .i64 (1))) rfl (by kernel_rfl) ⟨by rw [← H1.out]; exact HP.out.row.cell_ (i := 4) rfl, by rw [← H2.out]; exact HP.out.row.cell_ (i := 5) rfl⟩ (fun hHeld => ?_)
      have HP0 := Lib.hid (HP.out.keep (Only.refl Nil w1).drew)
      have HO0 := Lib.hid HO.out.drew
      have HU0 := Lib.hid HU.out.drew
      clear HP HO HU
      generalize w1.drew = w2 at *
      refine mpa 0 rfl (.pointer (some ⟨B, 4, none⟩)) (fun w => ?_) ?_
      · go_simp
      (try simp only [Act.put, k1, k2, k3])
      refine mpa 1 rfl (.pointer (some ⟨B, 4, none⟩)) (fun w => ?_) ?_
      · go_simp
      (try simp only [Act.put, k1, k2, k3])
      refine mpa 2 rfl (.pointer (some ⟨B, 4, none⟩)) (fun w => ?_) ?_
      · go_simp
      (try simp only [Act.put, k1, k2, k3])
      refine mpt 3 rfl (.int .i64 (6)) (fun w hSw => ?_) ?_
      · (try dsimp only at hSw)
        go_split_ands
        go_simp
      (try simp only [Act.put, k1, k2, k3])
      refine mpa 4 rfl (.int .i64 (60)) (fun w => ?_) ?_
      · go_simp
      (try simp only [Act.put, k1, k2, k3])
      refine mpa 5 rfl (.pointer (some ⟨B, 4, none⟩)) (fun w => ?_) ?_
      · go_simp
      (try simp only [Act.put, k1, k2, k3])
      refine mpa 6 rfl (.pointer (some ⟨B, 4, none⟩)) (fun w => ?_) ?_
      · go_simp
      (try simp only [Act.put, k1, k2, k3])
      refine mpa 7 rfl (.pointer (some ⟨B, 5, none⟩)) (fun w => ?_) ?_
      · go_simp
      (try simp only [Act.put, k1, k2, k3])
      refine mpt 8 rfl (.int .i64 (1)) (fun w hSw => ?_) ?_
      · (try dsimp only at hSw)
        go_split_ands
        go_simp
      (try simp only [Act.put, k1, k2, k3])
      refine mpc 9 rfl (by kernel_rfl) (by rfl) (fun K hK => ?_)
      go_simp
      refine hK.out _ _ (.inl (by kernel_rfl)) ?_
      clear hK K hHeld hw1 hw2
      (try simp only [Act.put, k1, k2, k3])
      refine wpAnyP_done (by kernel_rfl) ?_ _
      have c4 : w2.cell? ⟨B, 4, none⟩ = some (.int .i64 (6)) := by rw [← H1.out]; exact HP0.out.row.cell_ (i := 4) rfl
      go_wp2_with fail
      clear c4
      refine (rload_run B base A l cp nv r 2 _ HP0.out).mono ?_
      rintro e w3 ⟨rfl, hO, nv1, hP⟩
      have HO1 := Lib.hid (HO0.out.trans hO)
      have HP1 := Lib.hid hP
      clear hO hP HP0 HO0
      have c7 : w3.cell? ⟨B, 7, none⟩ = some (.int .u32 r.b) := HP1.out.row.cell_ (i := 7) rfl
      have f7 : w3.frozen? ⟨B, 7, none⟩ = false := HP1.out.row.frozen 7
      go_upto_region 58 with (fail)
      clear c7 f7
      have HP2 := Lib.hid (HP1.out.setB (wordAt r.xs 2))
      have HO2 := Lib.hid (HO1.out.setCell (p := ⟨B, 7, none⟩) (.inr (.inl rfl)) (.int .u32 (wordAt r.xs 2)))
      clear HP1 HO1
      generalize w3.setCell ⟨B, 7, none⟩ (.int .u32 (wordAt r.xs 2)) = w4 at *
      refine wp_region_phase (n := 10) 8 (fun w => w.cell? ⟨B, 6, none⟩ = some (.int .u32 r.a) ∧ w.cell? ⟨B, 7, none⟩ = some (.int .u32 (wordAt r.xs 2))) rfl (by kernel_rfl) ⟨HP2.out.row.cell_ (i := 6) rfl, HP2.out.row.cell_ (i := 7) rfl⟩ (fun hHeld => ?_)
      have HP3 := Lib.hid (HP2.out.keep (Only.refl Nil w4).drew)
      have HO3 := Lib.hid HO2.out.drew
      clear HP2 HO2
      generalize w4.drew = w5 at *
      refine mpa 0 rfl (.pointer (some ⟨B, 4, none⟩)) (fun w => ?_) ?_
      · go_simp
      (try simp only [Act.put, k1, k2, k3])
      refine mpa 1 rfl (.pointer (some ⟨B, 4, none⟩)) (fun w => ?_) ?_
      · go_simp
      (try simp only [Act.put, k1, k2, k3])
      refine mpa 2 rfl (.pointer (some ⟨B, 6, none⟩)) (fun w => ?_) ?_
      · go_simp
      (try simp only [Act.put, k1, k2, k3])
      refine mpt 3 rfl (.int .u32 r.a) (fun w hSw => ?_) ?_
      · (try dsimp only at hSw)
        go_split_ands
        go_simp
      (try simp only [Act.put, k1, k2, k3])
      refine mpa 4 rfl (.pointer (some ⟨B, 4, none⟩)) (fun w => ?_) ?_
      · go_simp
      (try simp only [Act.put, k1, k2, k3])
      refine mpa 5 rfl (.pointer (some ⟨B, 4, none⟩)) (fun w => ?_) ?_
      · go_simp
      (try simp only [Act.put, k1, k2, k3])
      refine mpa 6 rfl (.pointer (some ⟨B, 7, none⟩)) (fun w => ?_) ?_
      · go_simp
      (try simp only [Act.put, k1, k2, k3])
      refine mpt 7 rfl (.int .u32 (wordAt r.xs 2)) (fun w hSw => ?_) ?_
      · (try dsimp only at hSw)
        go_split_ands
        go_simp
      (try simp only [Act.put, k1, k2, k3])
      refine mpc 8 rfl (by kernel_rfl) (by rfl) (fun K hK => ?_)
      go_simp
      refine (refAhead_any r.a (wordAt r.xs 2) _ HA.out (word_bd HX.out 2)).mono ?_
      rw [HAH.out]
      rintro e w9 ⟨rfl, rfl⟩
      refine hK.out _ _ (.inl (by kernel_rfl)) ?_
      clear hK K hHeld
      (try simp only [Act.put, k1, k2, k3])
      refine mpa 9 rfl (.int .i64 ah) (fun w => ?_) ?_
      · go_simp
      (try simp only [Act.put, k1, k2, k3])
      refine wpAnyP_done (by kernel_rfl) ?_ _
      have c5 : w5.cell? ⟨B, 5, none⟩ = some (.int .i64 (1)) := by rw [← H2.out]; exact HP3.out.row.cell_ (i := 5) rfl
      have f5 : w5.frozen? ⟨B, 5, none⟩ = false := HP3.out.row.frozen 5
      go_wp2
      clear c5 f5
      have HP5 := Lib.hid (HP3.out.setLine 0)
      have HO5 := Lib.hid (HO3.out.setCell (p := ⟨B, 5, none⟩) (.inr (.inl rfl)) (.int .i64 0))
      go_returns
      exact ⟨rfl, HO5.out, nv1, HP5.out⟩
    · have q3 : ah = 0 := by omega
      rw [show r.weigh 2 0 = ((r.doA 1 2 0 0).keepB (wordAt r.xs 2)).go 2 by unfold LS.weigh; rw [hah, if_neg q1, if_neg q2]]
      rw [q3] at hah
      clear q1 q2 q3
      have HAH := Lib.hid hah
      clear hah
      have HX := Lib.hid hx
      have HL := Lib.hid hl
      have HA := Lib.hid ha
      have HH := Lib.hid h
      clear h hl hx ha
      have c4 : w.cell? ⟨B, 4, none⟩ = some (.int .i64 (6)) := by rw [← H1.out]; exact HH.out.row.cell_ (i := 4) rfl
      have c5 : w.cell? ⟨B, 5, none⟩ = some (.int .i64 (1)) := by rw [← H2.out]; exact HH.out.row.cell_ (i := 5) rfl
      have c6 : w.cell? ⟨B, 6, none⟩ = some (.int .u32 r.a) := HH.out.row.cell_ (i := 6) rfl
      have e0 := (Only.refl Nil w).alloc (.cells #[.int .i64 0, .int .u32 4294967295, .int .u32 r.a] 69)
      have HP := Lib.hid (HH.out.keep e0)
      have HO := Lib.hid (e0.mono (T := TurnB B A) (fun _ _ h => h.elim))
      have HU := Lib.hid (Row.new w 69 #[.int .i64 0, .int .u32 4294967295, .int .u32 r.a])
      clear e0 HH
      go_enter Tryz.func10, Tryz.ntmps10
      go_upto_region 3 with (fail)
      clear c4 c5 c6
      generalize w.alloc (.cells #[.int .i64 0, .int .u32 4294967295, .int .u32 r.a] 69) = w1 at *
      generalize w.heap.size = gu at *
      have hw1 : IntKind.i64.wrap (60) = 60 := rfl
      have hw2 : IntKind.i64.wrap (61) = 61 := rfl
      refine wp_region_phase (n := 10) 9 (fun w => w.cell? ⟨B, 4, none⟩ = some (.int .i64 (6)) ∧ w.cell? ⟨B, 5, none⟩ = some (.int .i64 (1))) rfl (by kernel_rfl) ⟨by rw [← H1.out]; exact HP.out.row.cell_ (i := 4) rfl, by rw [← H2.out]; exact HP.out.row.cell_ (i := 5) rfl⟩ (fun hHeld => ?_)
      have HP0 := Lib.hid (HP.out.keep (Only.refl Nil w1).drew)
      have HO0 := Lib.hid HO.out.drew
      have HU0 := Lib.hid HU.out.drew
      clear HP HO HU
      generalize w1.drew = w2 at *
      refine mpa 0 rfl (.pointer (some ⟨B, 4, none⟩)) (fun w => ?_) ?_
      · go_simp
      (try simp only [Act.put, k1, k2, k3])
      refine mpa 1 rfl (.pointer (some ⟨B, 4, none⟩)) (fun w => ?_) ?_
      · go_simp
      (try simp only [Act.put, k1, k2, k3])
      refine mpa 2 rfl (.pointer (some ⟨B, 4, none⟩)) (fun w => ?_) ?_
      · go_simp
      (try simp only [Act.put, k1, k2, k3])
      refine mpt 3 rfl (.int .i64 (6)) (fun w hSw => ?_) ?_
      · (try dsimp only at hSw)
        go_split_ands
        go_simp
      (try simp only [Act.put, k1, k2, k3])
      refine mpa 4 rfl (.int .i64 (60)) (fun w => ?_) ?_
      · go_simp
      (try simp only [Act.put, k1, k2, k3])
      refine mpa 5 rfl (.pointer (some ⟨B, 4, none⟩)) (fun w => ?_) ?_
      · go_simp
      (try simp only [Act.put, k1, k2, k3])
      refine mpa 6 rfl (.pointer (some ⟨B, 4, none⟩)) (fun w => ?_) ?_
      · go_simp
      (try simp only [Act.put, k1, k2, k3])
      refine mpa 7 rfl (.pointer (some ⟨B, 5, none⟩)) (fun w => ?_) ?_
      · go_simp
      (try simp only [Act.put, k1, k2, k3])
      refine mpt 8 rfl (.int .i64 (1)) (fun w hSw => ?_) ?_
      · (try dsimp only at hSw)
        go_split_ands
        go_simp
      (try simp only [Act.put, k1, k2, k3])
      refine mpc 9 rfl (by kernel_rfl) (by rfl) (fun K hK => ?_)
      go_simp
      refine hK.out _ _ (.inl (by kernel_rfl)) ?_
      clear hK K hHeld hw1 hw2
      (try simp only [Act.put, k1, k2, k3])
      refine wpAnyP_done (by kernel_rfl) ?_ _
      have c4 : w2.cell? ⟨B, 4, none⟩ = some (.int .i64 (6)) := by rw [← H1.out]; exact HP0.out.row.cell_ (i := 4) rfl
      go_wp2_with fail
      clear c4
      refine (rload_run B base A l cp nv r 2 _ HP0.out).mono ?_
      rintro e w3 ⟨rfl, hO, nv1, hP⟩
      have HO1 := Lib.hid (HO0.out.trans hO)
      have HP1 := Lib.hid hP
      clear hO hP HP0 HO0
      have c7 : w3.cell? ⟨B, 7, none⟩ = some (.int .u32 r.b) := HP1.out.row.cell_ (i := 7) rfl
      have f7 : w3.frozen? ⟨B, 7, none⟩ = false := HP1.out.row.frozen 7
      go_upto_region 58 with (fail)
      clear c7 f7
      have HP2 := Lib.hid (HP1.out.setB (wordAt r.xs 2))
      have HO2 := Lib.hid (HO1.out.setCell (p := ⟨B, 7, none⟩) (.inr (.inl rfl)) (.int .u32 (wordAt r.xs 2)))
      clear HP1 HO1
      generalize w3.setCell ⟨B, 7, none⟩ (.int .u32 (wordAt r.xs 2)) = w4 at *
      refine wp_region_phase (n := 10) 8 (fun w => w.cell? ⟨B, 6, none⟩ = some (.int .u32 r.a) ∧ w.cell? ⟨B, 7, none⟩ = some (.int .u32 (wordAt r.xs 2))) rfl (by kernel_rfl) ⟨HP2.out.row.cell_ (i := 6) rfl, HP2.out.row.cell_ (i := 7) rfl⟩ (fun hHeld => ?_)
      have HP3 := Lib.hid (HP2.out.keep (Only.refl Nil w4).drew)
      have HO3 := Lib.hid HO2.out.drew
      clear HP2 HO2
      generalize w4.drew = w5 at *
      refine mpa 0 rfl (.pointer (some ⟨B, 4, none⟩)) (fun w => ?_) ?_
      · go_simp
      (try simp only [Act.put, k1, k2, k3])
      refine mpa 1 rfl (.pointer (some ⟨B, 4, none⟩)) (fun w => ?_) ?_
      · go_simp
      (try simp only [Act.put, k1, k2, k3])
      refine mpa 2 rfl (.pointer (some ⟨B, 6, none⟩)) (fun w => ?_) ?_
      · go_simp
      (try simp only [Act.put, k1, k2, k3])
      refine mpt 3 rfl (.int .u32 r.a) (fun w hSw => ?_) ?_
      · (try dsimp only at hSw)
        go_split_ands
        go_simp
      (try simp only [Act.put, k1, k2, k3])
      refine mpa 4 rfl (.pointer (some ⟨B, 4, none⟩)) (fun w => ?_) ?_
      · go_simp
      (try simp only [Act.put, k1, k2, k3])
      refine mpa 5 rfl (.pointer (some ⟨B, 4, none⟩)) (fun w => ?_) ?_
      · go_simp
      (try simp only [Act.put, k1, k2, k3])
      refine mpa 6 rfl (.pointer (some ⟨B, 7, none⟩)) (fun w => ?_) ?_
      · go_simp
      (try simp only [Act.put, k1, k2, k3])
      refine mpt 7 rfl (.int .u32 (wordAt r.xs 2)) (fun w hSw => ?_) ?_
      · (try dsimp only at hSw)
        go_split_ands
        go_simp
      (try simp only [Act.put, k1, k2, k3])
      refine mpc 8 rfl (by kernel_rfl) (by rfl) (fun K hK => ?_)
      go_simp
      refine (refAhead_any r.a (wordAt r.xs 2) _ HA.out (word_bd HX.out 2)).mono ?_
      rw [HAH.out]
      rintro e w9 ⟨rfl, rfl⟩
      refine hK.out _ _ (.inl (by kernel_rfl)) ?_
      clear hK K hHeld
      (try simp only [Act.put, k1, k2, k3])
      refine mpa 9 rfl (.int .i64 0) (fun w => ?_) ?_
      · go_simp
      (try simp only [Act.put, k1, k2, k3])
      refine wpAnyP_done (by kernel_rfl) ?_ _
      have c5 : w5.cell? ⟨B, 5, none⟩ = some (.int .i64 (1)) := by rw [← H2.out]; exact HP3.out.row.cell_ (i := 5) rfl
      have f5 : w5.frozen? ⟨B, 5, none⟩ = false := HP3.out.row.frozen 5
      go_wp2
      clear c5 f5
      have HP5 := Lib.hid (HP3.out.setLine 2)
      have HO5 := Lib.hid (HO3.out.setCell (p := ⟨B, 5, none⟩) (.inr (.inl rfl)) (.int .i64 2))
      go_returns
      exact ⟨rfl, HO5.out, nv1, HP5.out⟩
set_option maxRecDepth 100000 in
set_option maxHeartbeats 4000000 in
theorem ref_1_3 (B base : Nat) (A : Option Addr) (l cp : Nat) (nv : Value) (r : LS) (w : World) (h : RunR w B base A l cp nv r) (hl : r.ns.length ≤ 900) (hx : Words r.xs) (ha : 0 ≤ r.a ∧ r.a < 4294967296) (h1 : r.op = 1) (h2 : r.line = 3) :
    Calls Tryz.prog 10 #[Value.pointer (some ⟨B, 0, none⟩)] w (DoneR B base A l cp w (.tuple #[]) r.tf) := by
  rw [show r.tf = r by unfold LS.tf; rw [h1, h2]; rfl]
  have H1 := Lib.hid h1
  have H2 := Lib.hid h2
  clear h1 h2
  have HX := Lib.hid hx
  have HL := Lib.hid hl
  have HA := Lib.hid ha
  have HH := Lib.hid h
  clear h hl hx ha
  have c4 : w.cell? ⟨B, 4, none⟩ = some (.int .i64 (1)) := by rw [← H1.out]; exact HH.out.row.cell_ (i := 4) rfl
  have c5 : w.cell? ⟨B, 5, none⟩ = some (.int .i64 (3)) := by rw [← H2.out]; exact HH.out.row.cell_ (i := 5) rfl
  have c6 : w.cell? ⟨B, 6, none⟩ = some (.int .u32 r.a) := HH.out.row.cell_ (i := 6) rfl
  have e0 := (Only.refl Nil w).alloc (.cells #[.int .i64 0, .int .u32 4294967295, .int .u32 r.a] 69)
  have HP := Lib.hid (HH.out.keep e0)
  have HO := Lib.hid (e0.mono (T := TurnB B A) (fun _ _ h => h.elim))
  have HU := Lib.hid (Row.new w 69 #[.int .i64 0, .int .u32 4294967295, .int .u32 r.a])
  clear e0 HH
  go_enter Tryz.func10, Tryz.ntmps10
  go_upto_region 3 with (fail)
  clear c4 c5 c6
  generalize w.alloc (.cells #[.int .i64 0, .int .u32 4294967295, .int .u32 r.a] 69) = w1 at *
  generalize w.heap.size = gu at *
  have hw1 : IntKind.i64.wrap (10) = 10 := rfl
  have hw2 : IntKind.i64.wrap (13) = 13 := rfl
  refine wp_region_phase (n := 10) 9 (fun w => w.cell? ⟨B, 4, none⟩ = some (.int .i64 (1)) ∧ w.cell? ⟨B, 5, none⟩ = some (.int .i64 (3))) rfl (by kernel_rfl) ⟨by rw [← H1.out]; exact HP.out.row.cell_ (i := 4) rfl, by rw [← H2.out]; exact HP.out.row.cell_ (i := 5) rfl⟩ (fun hHeld => ?_)
  have HP0 := Lib.hid (HP.out.keep (Only.refl Nil w1).drew)
  have HO0 := Lib.hid HO.out.drew
  have HU0 := Lib.hid HU.out.drew
  clear HP HO HU
  generalize w1.drew = w2 at *
  refine mpa 0 rfl (.pointer (some ⟨B, 4, none⟩)) (fun w => ?_) ?_
  · go_simp
  (try simp only [Act.put, k1, k2, k3])
  refine mpa 1 rfl (.pointer (some ⟨B, 4, none⟩)) (fun w => ?_) ?_
  · go_simp
  (try simp only [Act.put, k1, k2, k3])
  refine mpa 2 rfl (.pointer (some ⟨B, 4, none⟩)) (fun w => ?_) ?_
  · go_simp
  (try simp only [Act.put, k1, k2, k3])
  refine mpt 3 rfl (.int .i64 (1)) (fun w hSw => ?_) ?_
  · (try dsimp only at hSw)
    go_split_ands
    go_simp
  (try simp only [Act.put, k1, k2, k3])
  refine mpa 4 rfl (.int .i64 (10)) (fun w => ?_) ?_
  · go_simp
  (try simp only [Act.put, k1, k2, k3])
  refine mpa 5 rfl (.pointer (some ⟨B, 4, none⟩)) (fun w => ?_) ?_
  · go_simp
  (try simp only [Act.put, k1, k2, k3])
  refine mpa 6 rfl (.pointer (some ⟨B, 4, none⟩)) (fun w => ?_) ?_
  · go_simp
  (try simp only [Act.put, k1, k2, k3])
  refine mpa 7 rfl (.pointer (some ⟨B, 5, none⟩)) (fun w => ?_) ?_
  · go_simp
  (try simp only [Act.put, k1, k2, k3])
  refine mpt 8 rfl (.int .i64 (3)) (fun w hSw => ?_) ?_
  · (try dsimp only at hSw)
    go_split_ands
    go_simp
  (try simp only [Act.put, k1, k2, k3])
  refine mpc 9 rfl (by kernel_rfl) (by rfl) (fun K hK => ?_)
  go_simp
  refine hK.out _ _ (.inl (by kernel_rfl)) ?_
  clear hK K hHeld hw1 hw2
  (try simp only [Act.put, k1, k2, k3])
  refine wpAnyP_done (by kernel_rfl) ?_ _
  go_wp2
  go_returns
  exact ⟨rfl, HO0.out, nv, HP0.out⟩
set_option maxRecDepth 100000 in
set_option maxHeartbeats 4000000 in
theorem ref_3_2 (B base : Nat) (A : Option Addr) (l cp : Nat) (nv : Value) (r : LS) (w : World) (h : RunR w B base A l cp nv r) (hl : r.ns.length ≤ 900) (hx : Words r.xs) (ha : 0 ≤ r.a ∧ r.a < 4294967296) (h1 : r.op = 3) (h2 : r.line = 2) :
    Calls Tryz.prog 10 #[Value.pointer (some ⟨B, 0, none⟩)] w (DoneR B base A l cp w (.tuple #[]) r.tf) := by
  rw [show r.tf = r by unfold LS.tf; rw [h1, h2]; rfl]
  have H1 := Lib.hid h1
  have H2 := Lib.hid h2
  clear h1 h2
  have HX := Lib.hid hx
  have HL := Lib.hid hl
  have HA := Lib.hid ha
  have HH := Lib.hid h
  clear h hl hx ha
  have c4 : w.cell? ⟨B, 4, none⟩ = some (.int .i64 (3)) := by rw [← H1.out]; exact HH.out.row.cell_ (i := 4) rfl
  have c5 : w.cell? ⟨B, 5, none⟩ = some (.int .i64 (2)) := by rw [← H2.out]; exact HH.out.row.cell_ (i := 5) rfl
  have c6 : w.cell? ⟨B, 6, none⟩ = some (.int .u32 r.a) := HH.out.row.cell_ (i := 6) rfl
  have e0 := (Only.refl Nil w).alloc (.cells #[.int .i64 0, .int .u32 4294967295, .int .u32 r.a] 69)
  have HP := Lib.hid (HH.out.keep e0)
  have HO := Lib.hid (e0.mono (T := TurnB B A) (fun _ _ h => h.elim))
  have HU := Lib.hid (Row.new w 69 #[.int .i64 0, .int .u32 4294967295, .int .u32 r.a])
  clear e0 HH
  go_enter Tryz.func10, Tryz.ntmps10
  go_upto_region 3 with (fail)
  clear c4 c5 c6
  generalize w.alloc (.cells #[.int .i64 0, .int .u32 4294967295, .int .u32 r.a] 69) = w1 at *
  generalize w.heap.size = gu at *
  have hw1 : IntKind.i64.wrap (30) = 30 := rfl
  have hw2 : IntKind.i64.wrap (32) = 32 := rfl
  refine wp_region_phase (n := 10) 9 (fun w => w.cell? ⟨B, 4, none⟩ = some (.int .i64 (3)) ∧ w.cell? ⟨B, 5, none⟩ = some (.int .i64 (2))) rfl (by kernel_rfl) ⟨by rw [← H1.out]; exact HP.out.row.cell_ (i := 4) rfl, by rw [← H2.out]; exact HP.out.row.cell_ (i := 5) rfl⟩ (fun hHeld => ?_)
  have HP0 := Lib.hid (HP.out.keep (Only.refl Nil w1).drew)
  have HO0 := Lib.hid HO.out.drew
  have HU0 := Lib.hid HU.out.drew
  clear HP HO HU
  generalize w1.drew = w2 at *
  refine mpa 0 rfl (.pointer (some ⟨B, 4, none⟩)) (fun w => ?_) ?_
  · go_simp
  (try simp only [Act.put, k1, k2, k3])
  refine mpa 1 rfl (.pointer (some ⟨B, 4, none⟩)) (fun w => ?_) ?_
  · go_simp
  (try simp only [Act.put, k1, k2, k3])
  refine mpa 2 rfl (.pointer (some ⟨B, 4, none⟩)) (fun w => ?_) ?_
  · go_simp
  (try simp only [Act.put, k1, k2, k3])
  refine mpt 3 rfl (.int .i64 (3)) (fun w hSw => ?_) ?_
  · (try dsimp only at hSw)
    go_split_ands
    go_simp
  (try simp only [Act.put, k1, k2, k3])
  refine mpa 4 rfl (.int .i64 (30)) (fun w => ?_) ?_
  · go_simp
  (try simp only [Act.put, k1, k2, k3])
  refine mpa 5 rfl (.pointer (some ⟨B, 4, none⟩)) (fun w => ?_) ?_
  · go_simp
  (try simp only [Act.put, k1, k2, k3])
  refine mpa 6 rfl (.pointer (some ⟨B, 4, none⟩)) (fun w => ?_) ?_
  · go_simp
  (try simp only [Act.put, k1, k2, k3])
  refine mpa 7 rfl (.pointer (some ⟨B, 5, none⟩)) (fun w => ?_) ?_
  · go_simp
  (try simp only [Act.put, k1, k2, k3])
  refine mpt 8 rfl (.int .i64 (2)) (fun w hSw => ?_) ?_
  · (try dsimp only at hSw)
    go_split_ands
    go_simp
  (try simp only [Act.put, k1, k2, k3])
  refine mpc 9 rfl (by kernel_rfl) (by rfl) (fun K hK => ?_)
  go_simp
  refine hK.out _ _ (.inl (by kernel_rfl)) ?_
  clear hK K hHeld hw1 hw2
  (try simp only [Act.put, k1, k2, k3])
  refine wpAnyP_done (by kernel_rfl) ?_ _
  go_wp2
  go_returns
  exact ⟨rfl, HO0.out, nv, HP0.out⟩
set_option maxRecDepth 100000 in
set_option maxHeartbeats 4000000 in
theorem ref_5_0 (B base : Nat) (A : Option Addr) (l cp : Nat) (nv : Value) (r : LS) (w : World) (h : RunR w B base A l cp nv r) (hl : r.ns.length ≤ 900) (hx : Words r.xs) (ha : 0 ≤ r.a ∧ r.a < 4294967296) (h1 : r.op = 5) (h2 : r.line = 0) :
    Calls Tryz.prog 10 #[Value.pointer (some ⟨B, 0, none⟩)] w (DoneR B base A l cp w (.tuple #[]) r.tf) := by
  rw [show r.tf = r.look by unfold LS.tf; rw [h1, h2]; rfl]
  have H1 := Lib.hid h1
  have H2 := Lib.hid h2
  clear h1 h2
  have HX := Lib.hid hx
  have HL := Lib.hid hl
  have HA := Lib.hid ha
  have HH := Lib.hid h
  clear h hl hx ha
  have c4 : w.cell? ⟨B, 4, none⟩ = some (.int .i64 (5)) := by rw [← H1.out]; exact HH.out.row.cell_ (i := 4) rfl
  have c5 : w.cell? ⟨B, 5, none⟩ = some (.int .i64 (0)) := by rw [← H2.out]; exact HH.out.row.cell_ (i := 5) rfl
  have c6 : w.cell? ⟨B, 6, none⟩ = some (.int .u32 r.a) := HH.out.row.cell_ (i := 6) rfl
  have e0 := (Only.refl Nil w).alloc (.cells #[.int .i64 0, .int .u32 4294967295, .int .u32 r.a] 69)
  have HP := Lib.hid (HH.out.keep e0)
  have HO := Lib.hid (e0.mono (T := TurnB B A) (fun _ _ h => h.elim))
  have HU := Lib.hid (Row.new w 69 #[.int .i64 0, .int .u32 4294967295, .int .u32 r.a])
  clear e0 HH
  go_enter Tryz.func10, Tryz.ntmps10
  go_upto_region 3 with (fail)
  clear c4 c5 c6
  generalize w.alloc (.cells #[.int .i64 0, .int .u32 4294967295, .int .u32 r.a] 69) = w1 at *
  generalize w.heap.size = gu at *
  have hw1 : IntKind.i64.wrap (50) = 50 := rfl
  have hw2 : IntKind.i64.wrap (50) = 50 := rfl
  refine wp_region_phase (n := 10) 9 (fun w => w.cell? ⟨B, 4, none⟩ = some (.int .i64 (5)) ∧ w.cell? ⟨B, 5, none⟩ = some (.int .i64 (0))) rfl (by kernel_rfl) ⟨by rw [← H1.out]; exact HP.out.row.cell_ (i := 4) rfl, by rw [← H2.out]; exact HP.out.row.cell_ (i := 5) rfl⟩ (fun hHeld => ?_)
  have HP0 := Lib.hid (HP.out.keep (Only.refl Nil w1).drew)
  have HO0 := Lib.hid HO.out.drew
  have HU0 := Lib.hid HU.out.drew
  clear HP HO HU
  generalize w1.drew = w2 at *
  refine mpa 0 rfl (.pointer (some ⟨B, 4, none⟩)) (fun w => ?_) ?_
  · go_simp
  (try simp only [Act.put, k1, k2, k3])
  refine mpa 1 rfl (.pointer (some ⟨B, 4, none⟩)) (fun w => ?_) ?_
  · go_simp
  (try simp only [Act.put, k1, k2, k3])
  refine mpa 2 rfl (.pointer (some ⟨B, 4, none⟩)) (fun w => ?_) ?_
  · go_simp
  (try simp only [Act.put, k1, k2, k3])
  refine mpt 3 rfl (.int .i64 (5)) (fun w hSw => ?_) ?_
  · (try dsimp only at hSw)
    go_split_ands
    go_simp
  (try simp only [Act.put, k1, k2, k3])
  refine mpa 4 rfl (.int .i64 (50)) (fun w => ?_) ?_
  · go_simp
  (try simp only [Act.put, k1, k2, k3])
  refine mpa 5 rfl (.pointer (some ⟨B, 4, none⟩)) (fun w => ?_) ?_
  · go_simp
  (try simp only [Act.put, k1, k2, k3])
  refine mpa 6 rfl (.pointer (some ⟨B, 4, none⟩)) (fun w => ?_) ?_
  · go_simp
  (try simp only [Act.put, k1, k2, k3])
  refine mpa 7 rfl (.pointer (some ⟨B, 5, none⟩)) (fun w => ?_) ?_
  · go_simp
  (try simp only [Act.put, k1, k2, k3])
  refine mpt 8 rfl (.int .i64 (0)) (fun w hSw => ?_) ?_
  · (try dsimp only at hSw)
    go_split_ands
    go_simp
  (try simp only [Act.put, k1, k2, k3])
  refine mpc 9 rfl (by kernel_rfl) (by rfl) (fun K hK => ?_)
  go_simp
  refine hK.out _ _ (.inl (by kernel_rfl)) ?_
  clear hK K hHeld hw1 hw2
  (try simp only [Act.put, k1, k2, k3])
  refine wpAnyP_done (by kernel_rfl) ?_ _
  go_wp2_with fail
  refine (rload_run B base A l cp nv r 0 _ HP0.out).mono ?_
  rintro e w3 ⟨rfl, hO, nv1, hP⟩
  have HO1 := Lib.hid (HO0.out.trans hO)
  have HP1 := Lib.hid hP
  clear hO hP HP0 HO0
  have c6 : w3.cell? ⟨B, 6, none⟩ = some (.int .u32 r.a) := HP1.out.row.cell_ (i := 6) rfl
  have f6 : w3.frozen? ⟨B, 6, none⟩ = false := HP1.out.row.frozen 6
  have c5 : w3.cell? ⟨B, 5, none⟩ = some (.int .i64 (0)) := by rw [← H2.out]; exact HP1.out.row.cell_ (i := 5) rfl
  have f5 : w3.frozen? ⟨B, 5, none⟩ = false := HP1.out.row.frozen 5
  go_wp2
  clear c6 f6 c5 f5
  have HP2 := Lib.hid ((HP1.out.setA (wordAt r.xs 0)).setLine 1)
  have HO2 := Lib.hid ((HO1.out.setCell (p := ⟨B, 6, none⟩) (.inr (.inl rfl)) (.int .u32 (wordAt r.xs 0))).setCell (p := ⟨B, 5, none⟩) (.inr (.inl rfl)) (.int .i64 1))
  go_returns
  exact ⟨rfl, HO2.out, nv1, HP2.out⟩
set_option maxRecDepth 100000 in
set_option maxHeartbeats 4000000 in
theorem ref_8_0 (B base : Nat) (A : Option Addr) (l cp : Nat) (nv : Value) (r : LS) (w : World) (h : RunR w B base A l cp nv r) (hl : r.ns.length ≤ 900) (hx : Words r.xs) (ha : 0 ≤ r.a ∧ r.a < 4294967296) (h1 : r.op = 8) (h2 : r.line = 0) :
    Calls Tryz.prog 10 #[Value.pointer (some ⟨B, 0, none⟩)] w (DoneR B base A l cp w (.tuple #[]) r.tf) := by
  rw [show r.tf = r.turn 1 10 by unfold LS.tf; rw [h1, h2]; rfl]
  have H1 := Lib.hid h1
  have H2 := Lib.hid h2
  clear h1 h2
  have HX := Lib.hid hx
  have HL := Lib.hid hl
  have HA := Lib.hid ha
  have HH := Lib.hid h
  clear h hl hx ha
  have c4 : w.cell? ⟨B, 4, none⟩ = some (.int .i64 (8)) := by rw [← H1.out]; exact HH.out.row.cell_ (i := 4) rfl
  have c5 : w.cell? ⟨B, 5, none⟩ = some (.int .i64 (0)) := by rw [← H2.out]; exact HH.out.row.cell_ (i := 5) rfl
  have c6 : w.cell? ⟨B, 6, none⟩ = some (.int .u32 r.a) := HH.out.row.cell_ (i := 6) rfl
  have e0 := (Only.refl Nil w).alloc (.cells #[.int .i64 0, .int .u32 4294967295, .int .u32 r.a] 69)
  have HP := Lib.hid (HH.out.keep e0)
  have HO := Lib.hid (e0.mono (T := TurnB B A) (fun _ _ h => h.elim))
  have HU := Lib.hid (Row.new w 69 #[.int .i64 0, .int .u32 4294967295, .int .u32 r.a])
  clear e0 HH
  go_enter Tryz.func10, Tryz.ntmps10
  go_upto_region 3 with (fail)
  clear c4 c5 c6
  generalize w.alloc (.cells #[.int .i64 0, .int .u32 4294967295, .int .u32 r.a] 69) = w1 at *
  generalize w.heap.size = gu at *
  have hw1 : IntKind.i64.wrap (80) = 80 := rfl
  have hw2 : IntKind.i64.wrap (80) = 80 := rfl
  refine wp_region_phase (n := 10) 9 (fun w => w.cell? ⟨B, 4, none⟩ = some (.int .i64 (8)) ∧ w.cell? ⟨B, 5, none⟩ = some (.int .i64 (0))) rfl (by kernel_rfl) ⟨by rw [← H1.out]; exact HP.out.row.cell_ (i := 4) rfl, by rw [← H2.out]; exact HP.out.row.cell_ (i := 5) rfl⟩ (fun hHeld => ?_)
  have HP0 := Lib.hid (HP.out.keep (Only.refl Nil w1).drew)
  have HO0 := Lib.hid HO.out.drew
  have HU0 := Lib.hid HU.out.drew
  clear HP HO HU
  generalize w1.drew = w2 at *
  refine mpa 0 rfl (.pointer (some ⟨B, 4, none⟩)) (fun w => ?_) ?_
  · go_simp
  (try simp only [Act.put, k1, k2, k3])
  refine mpa 1 rfl (.pointer (some ⟨B, 4, none⟩)) (fun w => ?_) ?_
  · go_simp
  (try simp only [Act.put, k1, k2, k3])
  refine mpa 2 rfl (.pointer (some ⟨B, 4, none⟩)) (fun w => ?_) ?_
  · go_simp
  (try simp only [Act.put, k1, k2, k3])
  refine mpt 3 rfl (.int .i64 (8)) (fun w hSw => ?_) ?_
  · (try dsimp only at hSw)
    go_split_ands
    go_simp
  (try simp only [Act.put, k1, k2, k3])
  refine mpa 4 rfl (.int .i64 (80)) (fun w => ?_) ?_
  · go_simp
  (try simp only [Act.put, k1, k2, k3])
  refine mpa 5 rfl (.pointer (some ⟨B, 4, none⟩)) (fun w => ?_) ?_
  · go_simp
  (try simp only [Act.put, k1, k2, k3])
  refine mpa 6 rfl (.pointer (some ⟨B, 4, none⟩)) (fun w => ?_) ?_
  · go_simp
  (try simp only [Act.put, k1, k2, k3])
  refine mpa 7 rfl (.pointer (some ⟨B, 5, none⟩)) (fun w => ?_) ?_
  · go_simp
  (try simp only [Act.put, k1, k2, k3])
  refine mpt 8 rfl (.int .i64 (0)) (fun w hSw => ?_) ?_
  · (try dsimp only at hSw)
    go_split_ands
    go_simp
  (try simp only [Act.put, k1, k2, k3])
  refine mpc 9 rfl (by kernel_rfl) (by rfl) (fun K hK => ?_)
  go_simp
  refine hK.out _ _ (.inl (by kernel_rfl)) ?_
  clear hK K hHeld hw1 hw2
  (try simp only [Act.put, k1, k2, k3])
  refine wpAnyP_done (by kernel_rfl) ?_ _
  go_wp2_with fail
  refine (radd_run B base A l cp nv r 1 1 _ HP0.out).mono ?_
  rintro e w3 ⟨rfl, hO, nv1, hP⟩
  have HO1 := Lib.hid (HO0.out.trans hO)
  have HP1 := Lib.hid hP
  clear hO hP HP0 HO0
  have c4 : w3.cell? ⟨B, 4, none⟩ = some (.int .i64 (8)) := by rw [← H1.out]; exact HP1.out.row.cell_ (i := 4) rfl
  go_wp2_with fail
  clear c4
  refine (rnote_run B base A l cp nv1 _ 10 0 _ HP1.out (show (r.doA 3 1 1 0).ns.length ≤ 1000 from Nat.le_trans HL.out (by decide))).mono ?_
  rintro e w4 ⟨rfl, hO, nv2, hP⟩
  have HO2 := Lib.hid (HO1.out.trans hO)
  have HP2 := Lib.hid hP
  clear hO hP HP1 HO1
  go_wp2_with fail
  refine (rwake_run B base A l cp nv2 _ 1 _ HP2.out).mono ?_
  rintro e w5 ⟨rfl, hO, nv3, hP⟩
  have HO3 := Lib.hid (HO2.out.trans hO)
  have HP3 := Lib.hid hP
  clear hO hP HP2 HO2
  go_wp2_with fail
  refine (rend_run B base A l cp nv3 _ _ true HP3.out).mono ?_
  rintro e w6 ⟨rfl, hO, nv4, hP⟩
  have HO4 := Lib.hid (HO3.out.trans hO)
  have HP4 := Lib.hid hP
  clear hO hP HP3 HO3
  go_wp2
  go_returns
  exact ⟨rfl, HO4.out, nv4, HP4.out⟩
end Go.Proofs.YtdmpaoajcnjbaaaGreat
