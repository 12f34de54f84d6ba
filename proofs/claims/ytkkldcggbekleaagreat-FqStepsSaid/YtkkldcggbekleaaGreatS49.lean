import Derived.Test.YtkkldcggbekleaaGreatS47
set_option linter.unusedVariables false
set_option linter.unusedSimpArgs false
namespace Go.Proofs.YtkkldcggbekleaaGreat
open Go.RowKit
set_option maxRecDepth 100000 in
set_option maxHeartbeats 4000000 in
theorem fqr_t5 (B base : Nat) (A : Option Addr) (l cp : Nat) (nv : Value) (r : LS) (w : World) (h : RunR w B base A l cp nv r) (hl : r.ns.length ≤ 900) (hx : Words r.xs) (ha : 0 ≤ r.a ∧ r.a < 4294967296) (h1 : r.op = 5) (hh : 0 ≤ r.line ∧ r.line ≤ 1) :
    Calls Tryz.prog 10 #[Value.pointer (some ⟨B, 0, none⟩)] w (DoneR B base A l cp w (.tuple #[]) (r.qTryG 1 5)) := by
  have hn := try_done (r := r)
  obtain ⟨r', d, i, hd⟩ : ∃ r' d i, r.mxTry 0 0 = (r', d, i) := ⟨_, _, _, rfl⟩
  rw [hd] at hn
  rw [qTryG_of hd]
  replace hn : d = false → i = false := hn
  obtain ⟨RR, hRR⟩ : ∃ RR, (if i then (r'.note 2 1).go 5 else if d then (r'.note 5 0).fin false else r') = RR := ⟨_, rfl⟩
  rw [hRR]
  have HRR := Lib.hid hRR
  clear hRR
  have H1 := Lib.hid h1
  clear h1
  obtain ⟨ln, H2⟩ : ∃ ln, Hid (r.line = ln) := ⟨_, Lib.hid rfl⟩
  rw [H2.out] at hh
  obtain ⟨hh0, hh1⟩ := hh
  have q0 : decide ((0 : Int) ≤ ln) = true := by simp; omega
  have q1 : decide (ln ≤ (1 : Int)) = true := by simp; omega
  clear hh0 hh1
  have hc : ∀ W, RunR W B base A l cp nv r → Calls Tryz.prog 25 #[Value.pointer (some ⟨B, 0, none⟩), .int .i64 0, .int .i64 0] W (DoneR B base A l cp W (.tuple #[.bool d, .bool i]) r') := fun W hW => by
    have e := rtry_run B base A l cp nv r 0 0 W hW hl hx ha (by decide) (by decide)
    rw [hd] at e
    exact e
  have HC := Lib.hid hc
  have HG := Lib.hid (show r'.ns.length ≤ 900 by have e := try_ns r; rw [hd] at e; exact e ▸ hl)
  have HN := Lib.hid hn
  clear hc hd hn
  have HX := Lib.hid hx
  have HL := Lib.hid hl
  have HA := Lib.hid ha
  have HH := Lib.hid h
  clear h hl hx ha
  have c4 : w.cell? ⟨B, 4, none⟩ = some (.int .i64 (5)) := by rw [← H1.out]; exact HH.out.row.cell_ (i := 4) rfl
  have c5 : w.cell? ⟨B, 5, none⟩ = some (.int .i64 (ln)) := by rw [← H2.out]; exact HH.out.row.cell_ (i := 5) rfl
  go_enter Tryz.func10, Tryz.ntmps10
  go_upto_region 1 with (fail)
  refine wp_region_phase (n := 10) 9 (fun w => w.cell? ⟨B, 4, none⟩ = some (.int .i64 (5)) ∧ w.cell? ⟨B, 5, none⟩ = some (.int .i64 (ln))) rfl (by kernel_rfl) ⟨c4, c5⟩ (fun hHeld => ?_)
  have HP0 := Lib.hid (HH.out.keep (Only.refl Nil w).drew)
  have HO0 := Lib.hid ((Only.refl (TurnB B A) w).drew)
  clear HH c4 c5
  generalize w.drew = w2 at *
  refine mpa 0 rfl (.pointer (some ⟨B, 4, none⟩)) (fun w => ?_) ?_
  · go_simp
  (try simp only [Act.put, k1, k2, k3])
  refine mpa 1 rfl (.pointer (some ⟨B, 4, none⟩)) (fun w => ?_) ?_
  · go_simp
  (try simp only [Act.put, k1, k2, k3])
  refine mpa 2 rfl (.pointer (some ⟨B, 4, none⟩)) (fun w => ?_) ?_
  · go_simp
  (try simp only [Act.put, k1, k2, k3])
  refine mpt 3 rfl (.int .i64 (5)) (fun w hSw => ?_) ?_
  · (try dsimp only at hSw)
    go_split_ands
    go_simp
  (try simp only [Act.put, k1, k2, k3])
  refine mpa 4 rfl (.pointer (some ⟨B, 4, none⟩)) (fun w => ?_) ?_
  · go_simp
  (try simp only [Act.put, k1, k2, k3])
  refine mpa 5 rfl (.pointer (some ⟨B, 4, none⟩)) (fun w => ?_) ?_
  · go_simp
  (try simp only [Act.put, k1, k2, k3])
  refine mpa 6 rfl (.pointer (some ⟨B, 5, none⟩)) (fun w => ?_) ?_
  · go_simp
  (try simp only [Act.put, k1, k2, k3])
  refine mpt 7 rfl (.int .i64 (ln)) (fun w hSw => ?_) ?_
  · (try dsimp only at hSw)
    go_split_ands
    go_simp
  (try simp only [Act.put, k1, k2, k3])
  refine mpa 8 rfl (.int .i64 (5)) (fun w => ?_) ?_
  · go_simp
  (try simp only [Act.put, k1, k2, k3])
  refine mpc 9 rfl (by kernel_rfl) (by rfl) (fun K hK => ?_)
  go_simp
  refine hK.out _ _ (.inl (by kernel_rfl)) ?_
  clear hK K hHeld
  (try simp only [Act.put, k1, k2, k3])
  refine wpAnyP_done (by kernel_rfl) ?_ _
  go_wp2_with fail
  refine (HC.out _ HP0.out).mono ?_
  clear HC
  rintro e w3 ⟨rfl, hO, nv1, hP⟩
  have HO1 := Lib.hid (HO0.out.trans hO)
  have HP1 := Lib.hid hP
  clear hO hP HP0 HO0
  cases d
  · obtain rfl : i = false := HN.out rfl
    have eR := HRR.out
    rw [if_neg Bool.false_ne_true, if_neg Bool.false_ne_true] at eR
    subst eR
    go_wp2
    go_returns
    exact ⟨rfl, HO1.out, nv1, HP1.out⟩
  cases i
  · have eR := HRR.out
    rw [if_neg Bool.false_ne_true, if_pos rfl] at eR
    subst eR
    go_wp2_with fail
    refine (rnote_run B base A l cp nv1 _ 5 0 _ HP1.out (Nat.le_trans HG.out (by decide))).mono ?_
    rintro e w2_ ⟨rfl, hO, nv2, hP⟩
    have HO2 := Lib.hid (HO1.out.trans hO)
    have HP2 := Lib.hid hP
    clear hO hP HP1 HO1
    go_wp2_with fail
    refine (rend_run B base A l cp nv2 _ _ false HP2.out).mono ?_
    rintro e w3_ ⟨rfl, hO, nv3, hP⟩
    have HO3 := Lib.hid (HO2.out.trans hO)
    have HP3 := Lib.hid hP
    clear hO hP HP2 HO2
    go_wp2
    go_returns
    exact ⟨rfl, HO3.out, nv3, HP3.out⟩
  · have eR := HRR.out
    rw [if_pos rfl] at eR
    subst eR
    go_wp2_with fail
    refine (rnote_run B base A l cp nv1 _ 2 1 _ HP1.out (Nat.le_trans HG.out (by decide))).mono ?_
    rintro e w2_ ⟨rfl, hO, nv2, hP⟩
    have HO2 := Lib.hid (HO1.out.trans hO)
    have HP2 := Lib.hid hP
    clear hO hP HP1 HO1
    have c5 : w2_.cell? ⟨B, 5, none⟩ = some (.int .i64 (r'.line)) := HP2.out.row.cell_ (i := 5) rfl
    have f5 : w2_.frozen? ⟨B, 5, none⟩ = false := HP2.out.row.frozen 5
    go_wp2
    clear c5 f5
    have HPZ := Lib.hid (HP2.out.setLine (5))
    have HOZ := Lib.hid (HO2.out.setCell (p := ⟨B, 5, none⟩) (.inr (.inl rfl)) (.int .i64 (5)))
    go_returns
    exact ⟨rfl, HOZ.out, nv2, HPZ.out⟩
set_option maxRecDepth 100000 in
set_option maxHeartbeats 4000000 in
theorem fqr_o2 (B base : Nat) (A : Option Addr) (l cp : Nat) (nv : Value) (r : LS) (w : World) (h : RunR w B base A l cp nv r) (hl : r.ns.length ≤ 900) (hx : Words r.xs) (ha : 0 ≤ r.a ∧ r.a < 4294967296) (h1 : r.op = 2) (h2 : r.line = 0) :
    Calls Tryz.prog 10 #[Value.pointer (some ⟨B, 0, none⟩)] w (DoneR B base A l cp w (.tuple #[]) (((((r.doA 3 1 4294967295 0).note 6 0).wake 1).fin true))) := by
  have H1 := Lib.hid h1
  clear h1
  have H2 := Lib.hid h2
  clear h2
  have HX := Lib.hid hx
  have HL := Lib.hid hl
  have HA := Lib.hid ha
  have HH := Lib.hid h
  clear h hl hx ha
  have c4 : w.cell? ⟨B, 4, none⟩ = some (.int .i64 (2)) := by rw [← H1.out]; exact HH.out.row.cell_ (i := 4) rfl
  have c5 : w.cell? ⟨B, 5, none⟩ = some (.int .i64 (0)) := by rw [← H2.out]; exact HH.out.row.cell_ (i := 5) rfl
  go_enter Tryz.func10, Tryz.ntmps10
  go_upto_region 1 with (fail)
  refine wp_region_phase (n := 10) 9 (fun w => w.cell? ⟨B, 4, none⟩ = some (.int .i64 (2)) ∧ w.cell? ⟨B, 5, none⟩ = some (.int .i64 (0))) rfl (by kernel_rfl) ⟨c4, c5⟩ (fun hHeld => ?_)
  have HP0 := Lib.hid (HH.out.keep (Only.refl Nil w).drew)
  have HO0 := Lib.hid ((Only.refl (TurnB B A) w).drew)
  clear HH c4 c5
  generalize w.drew = w2 at *
  refine mpa 0 rfl (.pointer (some ⟨B, 4, none⟩)) (fun w => ?_) ?_
  · go_simp
  (try simp only [Act.put, k1, k2, k3])
  refine mpa 1 rfl (.pointer (some ⟨B, 4, none⟩)) (fun w => ?_) ?_
  · go_simp
  (try simp only [Act.put, k1, k2, k3])
  refine mpa 2 rfl (.pointer (some ⟨B, 4, none⟩)) (fun w => ?_) ?_
  · go_simp
  (try simp only [Act.put, k1, k2, k3])
  refine mpt 3 rfl (.int .i64 (2)) (fun w hSw => ?_) ?_
  · (try dsimp only at hSw)
    go_split_ands
    go_simp
  (try simp only [Act.put, k1, k2, k3])
  refine mpa 4 rfl (.pointer (some ⟨B, 4, none⟩)) (fun w => ?_) ?_
  · go_simp
  (try simp only [Act.put, k1, k2, k3])
  refine mpa 5 rfl (.pointer (some ⟨B, 4, none⟩)) (fun w => ?_) ?_
  · go_simp
  (try simp only [Act.put, k1, k2, k3])
  refine mpa 6 rfl (.pointer (some ⟨B, 5, none⟩)) (fun w => ?_) ?_
  · go_simp
  (try simp only [Act.put, k1, k2, k3])
  refine mpt 7 rfl (.int .i64 (0)) (fun w hSw => ?_) ?_
  · (try dsimp only at hSw)
    go_split_ands
    go_simp
  (try simp only [Act.put, k1, k2, k3])
  refine mpa 8 rfl (.int .i64 (2)) (fun w => ?_) ?_
  · go_simp
  (try simp only [Act.put, k1, k2, k3])
  refine mpc 9 rfl (by kernel_rfl) (by rfl) (fun K hK => ?_)
  go_simp
  refine hK.out _ _ (.inl (by kernel_rfl)) ?_
  clear hK K hHeld
  (try simp only [Act.put, k1, k2, k3])
  refine wpAnyP_done (by kernel_rfl) ?_ _
  go_wp2_with fail
  refine (radd_run B base A l cp nv r 1 4294967295 _ HP0.out).mono ?_
  rintro e w1_ ⟨rfl, hO, nv1, hP⟩
  have HO1 := Lib.hid (HO0.out.trans hO)
  have HP1 := Lib.hid hP
  clear hO hP HP0 HO0
  go_wp2_with fail
  refine (rnote_run B base A l cp nv1 _ 6 0 _ HP1.out (show (r.doA 3 1 4294967295 0).ns.length ≤ 1000 from Nat.le_trans HL.out (by decide))).mono ?_
  rintro e w2_ ⟨rfl, hO, nv2, hP⟩
  have HO2 := Lib.hid (HO1.out.trans hO)
  have HP2 := Lib.hid hP
  clear hO hP HP1 HO1
  go_wp2_with fail
  refine (rwake_run B base A l cp nv2 _ 1 _ HP2.out).mono ?_
  rintro e w3_ ⟨rfl, hO, nv3, hP⟩
  have HO3 := Lib.hid (HO2.out.trans hO)
  have HP3 := Lib.hid hP
  clear hO hP HP2 HO2
  go_wp2_with fail
  refine (rend_run B base A l cp nv3 _ _ true HP3.out).mono ?_
  rintro e w4_ ⟨rfl, hO, nv4, hP⟩
  have HO4 := Lib.hid (HO3.out.trans hO)
  have HP4 := Lib.hid hP
  clear hO hP HP3 HO3
  go_wp2
  go_returns
  exact ⟨rfl, HO4.out, nv4, HP4.out⟩
set_option maxRecDepth 100000 in
set_option maxHeartbeats 4000000 in
theorem fqr_g4 (B base : Nat) (A : Option Addr) (l cp : Nat) (nv : Value) (r : LS) (w : World) (h : RunR w B base A l cp nv r) (hl : r.ns.length ≤ 900) (hx : Words r.xs) (ha : 0 ≤ r.a ∧ r.a < 4294967296) (h1 : r.op = 4) :
    Calls Tryz.prog 10 #[Value.pointer (some ⟨B, 0, none⟩)] w (DoneR B base A l cp w (.tuple #[]) (r.qGive 0 true [7, 8])) := by
  have H1 := Lib.hid h1
  clear h1
  obtain ⟨ln, H2⟩ : ∃ ln, Hid (r.line = ln) := ⟨_, Lib.hid rfl⟩
  have HX := Lib.hid hx
  have HL := Lib.hid hl
  have HA := Lib.hid ha
  have HH := Lib.hid h
  clear h hl hx ha
  have c4 : w.cell? ⟨B, 4, none⟩ = some (.int .i64 (4)) := by rw [← H1.out]; exact HH.out.row.cell_ (i := 4) rfl
  have c5 : w.cell? ⟨B, 5, none⟩ = some (.int .i64 (ln)) := by rw [← H2.out]; exact HH.out.row.cell_ (i := 5) rfl
  go_enter Tryz.func10, Tryz.ntmps10
  go_upto_region 1 with (fail)
  refine wp_region_phase (n := 10) 9 (fun w => w.cell? ⟨B, 4, none⟩ = some (.int .i64 (4)) ∧ w.cell? ⟨B, 5, none⟩ = some (.int .i64 (ln))) rfl (by kernel_rfl) ⟨c4, c5⟩ (fun hHeld => ?_)
  have HP0 := Lib.hid (HH.out.keep (Only.refl Nil w).drew)
  have HO0 := Lib.hid ((Only.refl (TurnB B A) w).drew)
  clear HH c4 c5
  generalize w.drew = w2 at *
  refine mpa 0 rfl (.pointer (some ⟨B, 4, none⟩)) (fun w => ?_) ?_
  · go_simp
  (try simp only [Act.put, k1, k2, k3])
  refine mpa 1 rfl (.pointer (some ⟨B, 4, none⟩)) (fun w => ?_) ?_
  · go_simp
  (try simp only [Act.put, k1, k2, k3])
  refine mpa 2 rfl (.pointer (some ⟨B, 4, none⟩)) (fun w => ?_) ?_
  · go_simp
  (try simp only [Act.put, k1, k2, k3])
  refine mpt 3 rfl (.int .i64 (4)) (fun w hSw => ?_) ?_
  · (try dsimp only at hSw)
    go_split_ands
    go_simp
  (try simp only [Act.put, k1, k2, k3])
  refine mpa 4 rfl (.pointer (some ⟨B, 4, none⟩)) (fun w => ?_) ?_
  · go_simp
  (try simp only [Act.put, k1, k2, k3])
  refine mpa 5 rfl (.pointer (some ⟨B, 4, none⟩)) (fun w => ?_) ?_
  · go_simp
  (try simp only [Act.put, k1, k2, k3])
  refine mpa 6 rfl (.pointer (some ⟨B, 5, none⟩)) (fun w => ?_) ?_
  · go_simp
  (try simp only [Act.put, k1, k2, k3])
  refine mpt 7 rfl (.int .i64 (ln)) (fun w hSw => ?_) ?_
  · (try dsimp only at hSw)
    go_split_ands
    go_simp
  (try simp only [Act.put, k1, k2, k3])
  refine mpa 8 rfl (.int .i64 (4)) (fun w => ?_) ?_
  · go_simp
  (try simp only [Act.put, k1, k2, k3])
  refine mpc 9 rfl (by kernel_rfl) (by rfl) (fun K hK => ?_)
  go_simp
  refine hK.out _ _ (.inl (by kernel_rfl)) ?_
  clear hK K hHeld
  (try simp only [Act.put, k1, k2, k3])
  refine wpAnyP_done (by kernel_rfl) ?_ _
  go_wp2_with fail
  have e0 := (Only.refl Nil w2).alloc (.cells #[.int .i64 7, .int .i64 8] 3)
  have HPA := Lib.hid (HP0.out.keep e0)
  have HOA := Lib.hid (HO0.out.trans (e0.mono (T := TurnB B A) (fun _ _ h => h.elim)))
  refine (rqgive_run B base A l cp nv r 0 true _ [7, 8] _ HPA.out HL.out HX.out HA.out (rwhats_2 HP0.out 7 8) (by decide) (by decide) (by decide)).mono ?_
  clear e0
  rintro e w3 ⟨rfl, hO, nv1, hP⟩
  have HO1 := Lib.hid (HOA.out.trans hO)
  have HP1 := Lib.hid hP
  clear hO hP HPA HOA
  go_wp2
  go_returns
  exact ⟨rfl, HO1.out, nv1, HP1.out⟩
set_option maxRecDepth 100000 in
set_option maxHeartbeats 4000000 in
theorem fqr_w (B base : Nat) (A : Option Addr) (l cp : Nat) (nv : Value) (r : LS) (w : World) (h : RunR w B base A l cp nv r) (hl : r.ns.length ≤ 900) (hx : Words r.xs) (ha : 0 ≤ r.a ∧ r.a < 4294967296) (h1 : r.op = 3) (h2 : r.line = 5) :
    Calls Tryz.prog 10 #[Value.pointer (some ⟨B, 0, none⟩)] w (DoneR B base A l cp w (.tuple #[]) (r.awaitQ)) := by
  generalize hsn : (r.stepR 1 isZ).seen = sn
  generalize hdn : (r.stepR 1 isZ).done = dn
  rw [show r.awaitQ = if dn then ((r.wait 1 isZ).noteIf sn 4).fin true else (r.wait 1 isZ).noteIf sn 4 by unfold LS.awaitQ; rw [hdn, hsn]]
  obtain ⟨rw1, hw1⟩ : ∃ rw1, r.wait 1 isZ = rw1 := ⟨_, rfl⟩
  have HLN := Lib.hid (show rw1.ns.length ≤ 1000 from by rw [← hw1]; exact Nat.le_trans hl (by decide))
  rw [hw1]
  have HW1 := Lib.hid hw1
  clear hw1
  obtain ⟨RR, hRR⟩ : ∃ RR, (if dn then (rw1.noteIf sn 4).fin true else rw1.noteIf sn 4) = RR := ⟨_, rfl⟩
  rw [hRR]
  have HRR := Lib.hid hRR
  clear hRR
  have H1 := Lib.hid h1
  clear h1
  have H2 := Lib.hid h2
  clear h2
  have HSN := Lib.hid (show (r.stepR 1 (uIs 0 4294967295 0)).seen = sn by rw [stepR_zero hx]; exact hsn)
  have HDN := Lib.hid (show (r.stepR 1 (uIs 0 4294967295 0)).done = dn by rw [stepR_zero hx]; exact hdn)
  clear hsn hdn
  have HX := Lib.hid hx
  have HL := Lib.hid hl
  have HA := Lib.hid ha
  have HH := Lib.hid h
  clear h hl hx ha
  have c4 : w.cell? ⟨B, 4, none⟩ = some (.int .i64 (3)) := by rw [← H1.out]; exact HH.out.row.cell_ (i := 4) rfl
  have c5 : w.cell? ⟨B, 5, none⟩ = some (.int .i64 (5)) := by rw [← H2.out]; exact HH.out.row.cell_ (i := 5) rfl
  go_enter Tryz.func10, Tryz.ntmps10
  go_upto_region 1 with (fail)
  refine wp_region_phase (n := 10) 9 (fun w => w.cell? ⟨B, 4, none⟩ = some (.int .i64 (3)) ∧ w.cell? ⟨B, 5, none⟩ = some (.int .i64 (5))) rfl (by kernel_rfl) ⟨c4, c5⟩ (fun hHeld => ?_)
  have HP0 := Lib.hid (HH.out.keep (Only.refl Nil w).drew)
  have HO0 := Lib.hid ((Only.refl (TurnB B A) w).drew)
  clear HH c4 c5
  generalize w.drew = w2 at *
  refine mpa 0 rfl (.pointer (some ⟨B, 4, none⟩)) (fun w => ?_) ?_
  · go_simp
  (try simp only [Act.put, k1, k2, k3])
  refine mpa 1 rfl (.pointer (some ⟨B, 4, none⟩)) (fun w => ?_) ?_
  · go_simp
  (try simp only [Act.put, k1, k2, k3])
  refine mpa 2 rfl (.pointer (some ⟨B, 4, none⟩)) (fun w => ?_) ?_
  · go_simp
  (try simp only [Act.put, k1, k2, k3])
  refine mpt 3 rfl (.int .i64 (3)) (fun w hSw => ?_) ?_
  · (try dsimp only at hSw)
    go_split_ands
    go_simp
  (try simp only [Act.put, k1, k2, k3])
  refine mpa 4 rfl (.pointer (some ⟨B, 4, none⟩)) (fun w => ?_) ?_
  · go_simp
  (try simp only [Act.put, k1, k2, k3])
  refine mpa 5 rfl (.pointer (some ⟨B, 4, none⟩)) (fun w => ?_) ?_
  · go_simp
  (try simp only [Act.put, k1, k2, k3])
  refine mpa 6 rfl (.pointer (some ⟨B, 5, none⟩)) (fun w => ?_) ?_
  · go_simp
  (try simp only [Act.put, k1, k2, k3])
  refine mpt 7 rfl (.int .i64 (5)) (fun w hSw => ?_) ?_
  · (try dsimp only at hSw)
    go_split_ands
    go_simp
  (try simp only [Act.put, k1, k2, k3])
  refine mpa 8 rfl (.int .i64 (3)) (fun w => ?_) ?_
  · go_simp
  (try simp only [Act.put, k1, k2, k3])
  refine mpc 9 rfl (by kernel_rfl) (by rfl) (fun K hK => ?_)
  go_simp
  refine hK.out _ _ (.inl (by kernel_rfl)) ?_
  clear hK K hHeld
  (try simp only [Act.put, k1, k2, k3])
  refine wpAnyP_done (by kernel_rfl) ?_ _
  go_wp2_with fail
  refine (rwait_run B base A l cp nv r 1 0 4294967295 0 _ HP0.out HX.out).mono ?_
  rw [HSN.out, HDN.out, wait_zero HX.out 1, HW1.out]
  clear HSN HDN
  rintro e w3 ⟨rfl, hO, nv1, hP⟩
  have HO1 := Lib.hid (HO0.out.trans hO)
  have HP1 := Lib.hid hP
  clear hO hP HP0 HO0
  cases sn
  all_goals cases dn
  · have eR : rw1 = RR := HRR.out
    subst eR
    go_wp2
    go_returns
    exact ⟨rfl, HO1.out, nv1, HP1.out⟩
  · have eR : (rw1).fin true = RR := HRR.out
    subst eR
    go_wp2_with fail
    refine (rend_run B base A l cp nv1 _ _ true HP1.out).mono ?_
    rintro e w2_ ⟨rfl, hO, nv2, hP⟩
    have HO2 := Lib.hid (HO1.out.trans hO)
    have HP2 := Lib.hid hP
    clear hO hP HP1 HO1
    go_wp2
    go_returns
    exact ⟨rfl, HO2.out, nv2, HP2.out⟩
  · have eR : (rw1).note 4 0 = RR := HRR.out
    subst eR
    go_wp2_with fail
    refine (rnote_run B base A l cp nv1 _ 4 0 _ HP1.out HLN.out).mono ?_
    rintro e w2_ ⟨rfl, hO, nv2, hP⟩
    have HO2 := Lib.hid (HO1.out.trans hO)
    have HP2 := Lib.hid hP
    clear hO hP HP1 HO1
    go_wp2
    go_returns
    exact ⟨rfl, HO2.out, nv2, HP2.out⟩
  · have eR : ((rw1).note 4 0).fin true = RR := HRR.out
    subst eR
    go_wp2_with fail
    refine (rnote_run B base A l cp nv1 _ 4 0 _ HP1.out HLN.out).mono ?_
    rintro e w2_ ⟨rfl, hO, nv2, hP⟩
    have HO2 := Lib.hid (HO1.out.trans hO)
    have HP2 := Lib.hid hP
    clear hO hP HP1 HO1
    go_wp2_with fail
    refine (rend_run B base A l cp nv2 _ _ true HP2.out).mono ?_
    rintro e w3_ ⟨rfl, hO, nv3, hP⟩
    have HO3 := Lib.hid (HO2.out.trans hO)
    have HP3 := Lib.hid hP
    clear hO hP HP2 HO2
    go_wp2
    go_returns
    exact ⟨rfl, HO3.out, nv3, HP3.out⟩
set_option maxRecDepth 100000 in
set_option maxHeartbeats 4000000 in
theorem fqr_n0 (B base : Nat) (A : Option Addr) (l cp : Nat) (nv : Value) (r : LS) (w : World) (h : RunR w B base A l cp nv r) (hl : r.ns.length ≤ 900) (hx : Words r.xs) (ha : 0 ≤ r.a ∧ r.a < 4294967296) (hh : r.op < 1 ∨ 8 < r.op) :
    Calls Tryz.prog 10 #[Value.pointer (some ⟨B, 0, none⟩)] w (DoneR B base A l cp w (.tuple #[]) (r)) := by
  obtain ⟨ol, H1⟩ : ∃ ol, Hid (r.op = ol) := ⟨_, Lib.hid rfl⟩
  obtain ⟨ln, H2⟩ : ∃ ln, Hid (r.line = ln) := ⟨_, Lib.hid rfl⟩
  rw [H1.out] at hh
  have n1 : (ol == 1) = false := beq_eq_false_iff_ne.2 (by omega)
  have n2 : (ol == 2) = false := beq_eq_false_iff_ne.2 (by omega)
  have n3 : (ol == 3) = false := beq_eq_false_iff_ne.2 (by omega)
  have n4 : (ol == 4) = false := beq_eq_false_iff_ne.2 (by omega)
  have n5 : (ol == 5) = false := beq_eq_false_iff_ne.2 (by omega)
  have n6 : (ol == 6) = false := beq_eq_false_iff_ne.2 (by omega)
  have n7 : (ol == 7) = false := beq_eq_false_iff_ne.2 (by omega)
  have n8 : (ol == 8) = false := beq_eq_false_iff_ne.2 (by omega)
  clear hh
  have HX := Lib.hid hx
  have HL := Lib.hid hl
  have HA := Lib.hid ha
  have HH := Lib.hid h
  clear h hl hx ha
  have c4 : w.cell? ⟨B, 4, none⟩ = some (.int .i64 (ol)) := by rw [← H1.out]; exact HH.out.row.cell_ (i := 4) rfl
  have c5 : w.cell? ⟨B, 5, none⟩ = some (.int .i64 (ln)) := by rw [← H2.out]; exact HH.out.row.cell_ (i := 5) rfl
  go_enter Tryz.func10, Tryz.ntmps10
  go_upto_region 1 with (fail)
  refine wp_region_phase (n := 10) 9 (fun w => w.cell? ⟨B, 4, none⟩ = some (.int .i64 (ol)) ∧ w.cell? ⟨B, 5, none⟩ = some (.int .i64 (ln))) rfl (by kernel_rfl) ⟨c4, c5⟩ (fun hHeld => ?_)
  have HP0 := Lib.hid (HH.out.keep (Only.refl Nil w).drew)
  have HO0 := Lib.hid ((Only.refl (TurnB B A) w).drew)
  clear HH c4 c5
  generalize w.drew = w2 at *
  refine mpa 0 rfl (.pointer (some ⟨B, 4, none⟩)) (fun w => ?_) ?_
  · go_simp
  (try simp only [Act.put, k1, k2, k3])
  refine mpa 1 rfl (.pointer (some ⟨B, 4, none⟩)) (fun w => ?_) ?_
  · go_simp
  (try simp only [Act.put, k1, k2, k3])
  refine mpa 2 rfl (.pointer (some ⟨B, 4, none⟩)) (fun w => ?_) ?_
  · go_simp
  (try simp only [Act.put, k1, k2, k3])
  refine mpt 3 rfl (.int .i64 (ol)) (fun w hSw => ?_) ?_
  · (try dsimp only at hSw)
    go_split_ands
    go_simp
  (try simp only [Act.put, k1, k2, k3])
  refine mpa 4 rfl (.pointer (some ⟨B, 4, none⟩)) (fun w => ?_) ?_
  · go_simp
  (try simp only [Act.put, k1, k2, k3])
  refine mpa 5 rfl (.pointer (some ⟨B, 4, none⟩)) (fun w => ?_) ?_
  · go_simp
  (try simp only [Act.put, k1, k2, k3])
  refine mpa 6 rfl (.pointer (some ⟨B, 5, none⟩)) (fun w => ?_) ?_
  · go_simp
  (try simp only [Act.put, k1, k2, k3])
  refine mpt 7 rfl (.int .i64 (ln)) (fun w hSw => ?_) ?_
  · (try dsimp only at hSw)
    go_split_ands
    go_simp
  (try simp only [Act.put, k1, k2, k3])
  refine mpa 8 rfl (.int .i64 (ol)) (fun w => ?_) ?_
  · go_simp
  (try simp only [Act.put, k1, k2, k3])
  refine mpc 9 rfl (by kernel_rfl) (by rfl) (fun K hK => ?_)
  go_simp
  refine hK.out _ _ (.inl (by kernel_rfl)) ?_
  clear hK K hHeld
  (try simp only [Act.put, k1, k2, k3])
  refine wpAnyP_done (by kernel_rfl) ?_ _
  go_wp2
  go_returns
  exact ⟨rfl, HO0.out, nv, HP0.out⟩
end Go.Proofs.YtkkldcggbekleaaGreat
