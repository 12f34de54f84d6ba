import Derived.Test.YtkkldcggbekleaaGreatS47
set_option linter.unusedVariables false
set_option linter.unusedSimpArgs false
namespace Go.Proofs.YtkkldcggbekleaaGreat
open Go.RowKit
set_option maxRecDepth 100000 in
set_option maxHeartbeats 4000000 in
theorem fqr_t6 (B base : Nat) (A : Option Addr) (l cp : Nat) (nv : Value) (r : LS) (w : World) (h : RunR w B base A l cp nv r) (hl : r.ns.length ≤ 900) (hx : Words r.xs) (ha : 0 ≤ r.a ∧ r.a < 4294967296) (h1 : r.op = 6) (hh : 0 ≤ r.line ∧ r.line ≤ 1) :
    Calls Tryz.prog 10 #[Value.pointer (some ⟨B, 0, none⟩)] w (DoneR B base A l cp w (.tuple #[]) (r.qTryG 2 2)) := by
  have hn := try_done (r := r)
  obtain ⟨r', d, i, hd⟩ : ∃ r' d i, r.mxTry 0 0 = (r', d, i) := ⟨_, _, _, rfl⟩
  rw [hd] at hn
  rw [qTryG_of hd]
  replace hn : d = false → i = false := hn
  obtain ⟨RR, hRR⟩ : ∃ RR, (if i then (r'.note 2 2).go 2 else if d then (r'.note 5 0).fin false else r') = RR := ⟨_, rfl⟩
  rw [hRR]
  have HRR := Lib.hid hRR
  clear hRR
  have H1 := Lib.hid h1
  clear h1
  obtain ⟨ln, H2⟩ : ∃ ln, Hid (r.line = ln) := ⟨_, Lib.hid rfl⟩
  rw [H2.out] at hh
  obtain ⟨hh0, hh1⟩ := hh
  have q0 : decide ((0 : Int) ≤ ln) = true := by simp; omega
  have q1 : decide (ln ≤ (1 : Int)) = true := by simp; omega
  clear hh0 hh1
  have hc : ∀ W, RunR W B base A l cp nv r → Calls Tryz.prog 25 #[Value.pointer (some ⟨B, 0, none⟩), .int .i64 0, .int .i64 0] W (DoneR B base A l cp W (.tuple #[.bool d, .bool i]) r') := fun W hW => by
    have e := rtry_run B base A l cp nv r 0 0 W hW hl hx ha (by decide) (by decide)
    rw [hd] at e
    exact e
  have HC := Lib.hid hc
  have HG := Lib.hid (show r'.ns.length ≤ 900 by have e := try_ns r; rw [hd] at e; exact e ▸ hl)
  have HN := Lib.hid hn
  clear hc hd hn
  have HX := Lib.hid hx
  have HL := Lib.hid hl
  have HA := Lib.hid ha
  have HH := Lib.hid h
  clear h hl hx ha
  have c4 : w.cell? ⟨B, 4, none⟩ = some (.int .i64 (6)) := by rw [← H1.out]; exact HH.out.row.cell_ (i := 4) rfl
  have c5 : w.cell? ⟨B, 5, none⟩ = some (.int .i64 (ln)) := by rw [← H2.out]; exact HH.out.row.cell_ (i := 5) rfl
  go_enter Tryz.func10, Tryz.ntmps10
  go_upto_region 1 with (fail)
  refine wp_region_phase (n := 10) 9 (fun w => w.cell? ⟨B, 4, none⟩ = some (.int .i64 (6)) ∧ w.cell? ⟨B, 5, none⟩ = some (.int .i64 (ln))) rfl (by kernel_rfl) ⟨c4, c5⟩ (fun hHeld => ?_)
  have HP0 := Lib.hid (HH.out.keep (Only.refl Nil w).drew)
  have HO0 := Lib.hid ((Only.refl (TurnB B A) w).drew)
  clear HH c4 c5
  generalize w.drew = w2 at *
  refine mpa 0 rfl (.pointer (some ⟨B, 4, none⟩)) (fun w => ?_) ?_
  · go_simp
  (try simp only [Act.put, k1, k2, k3])
  refine mpa 1 rfl (.pointer (some ⟨B, 4, none⟩)) (fun w => ?_) ?_
  · go_simp
  (try simp only [Act.put, k1, k2, k3])
  refine mpa 2 rfl (.pointer (some ⟨B, 4, none⟩)) (fun w => ?_) ?_
  · go_simp
  (try simp only [Act.put, k1, k2, k3])
  refine mpt 3 rfl (.int .i64 (6)) (fun w hSw => ?_) ?_
  · (try dsimp only at hSw)
    go_split_ands
    go_simp
  (try simp only [Act.put, k1, k2, k3])
  refine mpa 4 rfl (.pointer (some ⟨B, 4, none⟩)) (fun w => ?_) ?_
  · go_simp
  (try simp only [Act.put, k1, k2, k3])
  refine mpa 5 rfl (.pointer (some ⟨B, 4, none⟩)) (fun w => ?_) ?_
  · go_simp
  (try simp only [Act.put, k1, k2, k3])
  refine mpa 6 rfl (.pointer (some ⟨B, 5, none⟩)) (fun w => ?_) ?_
  · go_simp
  (try simp only [Act.put, k1, k2, k3])
  refine mpt 7 rfl (.int .i64 (ln)) (fun w hSw => ?_) ?_
  · (try dsimp only at hSw)
    go_split_ands
    go_simp
  (try simp only [Act.put, k1, k2, k3])
  refine mpa 8 rfl (.int .i64 (6)) (fun w => ?_) ?_
  · go_simp
  (try simp only [Act.put, k1, k2, k3])
  refine mpc 9 rfl (by kernel_rfl) (by rfl) (fun K hK => ?_)
  go_simp
  refine hK.out _ _ (.inl (by kernel_rfl)) ?_
  clear hK K hHeld
  (try simp only [Act.put, k1, k2, k3])
  refine wpAnyP_done (by kernel_rfl) ?_ _
  go_wp2_with fail
  refine (HC.out _ HP0.out).mono ?_
  clear HC
  rintro e w3 ⟨rfl, hO, nv1, hP⟩
  have HO1 := Lib.hid (HO0.out.trans hO)
  have HP1 := Lib.hid hP
  clear hO hP HP0 HO0
  cases d
  · obtain rfl : i = false := HN.out rfl
    have eR := HRR.out
    rw [if_neg Bool.false_ne_true, if_neg Bool.false_ne_true] at eR
    subst eR
    go_wp2
    go_returns
    exact ⟨rfl, HO1.out, nv1, HP1.out⟩
  cases i
  · have eR := HRR.out
    rw [if_neg Bool.false_ne_true, if_pos rfl] at eR
    subst eR
    go_wp2_with fail
    refine (rnote_run B base A l cp nv1 _ 5 0 _ HP1.out (Nat.le_trans HG.out (by decide))).mono ?_
    rintro e w2_ ⟨rfl, hO, nv2, hP⟩
    have HO2 := Lib.hid (HO1.out.trans hO)
    have HP2 := Lib.hid hP
    clear hO hP HP1 HO1
    go_wp2_with fail
    refine (rend_run B base A l cp nv2 _ _ false HP2.out).mono ?_
    rintro e w3_ ⟨rfl, hO, nv3, hP⟩
    have HO3 := Lib.hid (HO2.out.trans hO)
    have HP3 := Lib.hid hP
    clear hO hP HP2 HO2
    go_wp2
    go_returns
    exact ⟨rfl, HO3.out, nv3, HP3.out⟩
  · have eR := HRR.out
    rw [if_pos rfl] at eR
    subst eR
    go_wp2_with fail
    refine (rnote_run B base A l cp nv1 _ 2 2 _ HP1.out (Nat.le_trans HG.out (by decide))).mono ?_
    rintro e w2_ ⟨rfl, hO, nv2, hP⟩
    have HO2 := Lib.hid (HO1.out.trans hO)
    have HP2 := Lib.hid hP
    clear hO hP HP1 HO1
    have c5 : w2_.cell? ⟨B, 5, none⟩ = some (.int .i64 (r'.line)) := HP2.out.row.cell_ (i := 5) rfl
    have f5 : w2_.frozen? ⟨B, 5, none⟩ = false := HP2.out.row.frozen 5
    go_wp2
    clear c5 f5
    have HPZ := Lib.hid (HP2.out.setLine (2))
    have HOZ := Lib.hid (HO2.out.setCell (p := ⟨B, 5, none⟩) (.inr (.inl rfl)) (.int .i64 (2)))
    go_returns
    exact ⟨rfl, HOZ.out, nv2, HPZ.out⟩
set_option maxRecDepth 100000 in
set_option maxHeartbeats 4000000 in
theorem fqr_s7 (B base : Nat) (A : Option Addr) (l cp : Nat) (nv : Value) (r : LS) (w : World) (h : RunR w B base A l cp nv r) (hl : r.ns.length ≤ 900) (hx : Words r.xs) (ha : 0 ≤ r.a ∧ r.a < 4294967296) (h1 : r.op = 7) (h2 : r.line = 3) :
    Calls Tryz.prog 10 #[Value.pointer (some ⟨B, 0, none⟩)] w (DoneR B base A l cp w (.tuple #[]) ((((r.doA 3 1 4294967295 0).note 9 0).fin true))) := by
  have H1 := Lib.hid h1
  clear h1
  have H2 := Lib.hid h2
  clear h2
  have HX := Lib.hid hx
  have HL := Lib.hid hl
  have HA := Lib.hid ha
  have HH := Lib.hid h
  clear h hl hx ha
  have c4 : w.cell? ⟨B, 4, none⟩ = some (.int .i64 (7)) := by rw [← H1.out]; exact HH.out.row.cell_ (i := 4) rfl
  have c5 : w.cell? ⟨B, 5, none⟩ = some (.int .i64 (3)) := by rw [← H2.out]; exact HH.out.row.cell_ (i := 5) rfl
  go_enter Tryz.func10, Tryz.ntmps10
  go_upto_region 1 with (fail)
  refine wp_region_phase (n := 10) 9 (fun w => w.cell? ⟨B, 4, none⟩ = some (.int .i64 (7)) ∧ w.cell? ⟨B, 5, none⟩ = some (.int .i64 (3))) rfl (by kernel_rfl) ⟨c4, c5⟩ (fun hHeld => ?_)
  have HP0 := Lib.hid (HH.out.keep (Only.refl Nil w).drew)
  have HO0 := Lib.hid ((Only.refl (TurnB B A) w).drew)
  clear HH c4 c5
  generalize w.drew = w2 at *
  refine mpa 0 rfl (.pointer (some ⟨B, 4, none⟩)) (fun w => ?_) ?_
  · go_simp
  (try simp only [Act.put, k1, k2, k3])
  refine mpa 1 rfl (.pointer (some ⟨B, 4, none⟩)) (fun w => ?_) ?_
  · go_simp
  (try simp only [Act.put, k1, k2, k3])
  refine mpa 2 rfl (.pointer (some ⟨B, 4, none⟩)) (fun w => ?_) ?_
  · go_simp
  (try simp only [Act.put, k1, k2, k3])
  refine mpt 3 rfl (.int .i64 (7)) (fun w hSw => ?_) ?_
  · (try dsimp only at hSw)
    go_split_ands
    go_simp
  (try simp only [Act.put, k1, k2, k3])
  refine mpa 4 rfl (.pointer (some ⟨B, 4, none⟩)) (fun w => ?_) ?_
  · go_simp
  (try simp only [Act.put, k1, k2, k3])
  refine mpa 5 rfl (.pointer (some ⟨B, 4, none⟩)) (fun w => ?_) ?_
  · go_simp
  (try simp only [Act.put, k1, k2, k3])
  refine mpa 6 rfl (.pointer (some ⟨B, 5, none⟩)) (fun w => ?_) ?_
  · go_simp
  (try simp only [Act.put, k1, k2, k3])
  refine mpt 7 rfl (.int .i64 (3)) (fun w hSw => ?_) ?_
  · (try dsimp only at hSw)
    go_split_ands
    go_simp
  (try simp only [Act.put, k1, k2, k3])
  refine mpa 8 rfl (.int .i64 (7)) (fun w => ?_) ?_
  · go_simp
  (try simp only [Act.put, k1, k2, k3])
  refine mpc 9 rfl (by kernel_rfl) (by rfl) (fun K hK => ?_)
  go_simp
  refine hK.out _ _ (.inl (by kernel_rfl)) ?_
  clear hK K hHeld
  (try simp only [Act.put, k1, k2, k3])
  refine wpAnyP_done (by kernel_rfl) ?_ _
  go_wp2_with fail
  refine (radd_run B base A l cp nv r 1 4294967295 _ HP0.out).mono ?_
  rintro e w1_ ⟨rfl, hO, nv1, hP⟩
  have HO1 := Lib.hid (HO0.out.trans hO)
  have HP1 := Lib.hid hP
  clear hO hP HP0 HO0
  go_wp2_with fail
  refine (rnote_run B base A l cp nv1 _ 9 0 _ HP1.out (show (r.doA 3 1 4294967295 0).ns.length ≤ 1000 from Nat.le_trans HL.out (by decide))).mono ?_
  rintro e w2_ ⟨rfl, hO, nv2, hP⟩
  have HO2 := Lib.hid (HO1.out.trans hO)
  have HP2 := Lib.hid hP
  clear hO hP HP1 HO1
  go_wp2_with fail
  refine (rend_run B base A l cp nv2 _ _ true HP2.out).mono ?_
  rintro e w3_ ⟨rfl, hO, nv3, hP⟩
  have HO3 := Lib.hid (HO2.out.trans hO)
  have HP3 := Lib.hid hP
  clear hO hP HP2 HO2
  go_wp2
  go_returns
  exact ⟨rfl, HO3.out, nv3, HP3.out⟩
set_option maxRecDepth 100000 in
set_option maxHeartbeats 4000000 in
theorem fqr_g6_a (B base : Nat) (A : Option Addr) (l cp : Nat) (nv : Value) (r : LS) (w : World) (h : RunR w B base A l cp nv r) (hl : r.ns.length ≤ 900) (hx : Words r.xs) (ha : 0 ≤ r.a ∧ r.a < 4294967296) (h1 : r.op = 6) (hh : r.line < 0) :
    Calls Tryz.prog 10 #[Value.pointer (some ⟨B, 0, none⟩)] w (DoneR B base A l cp w (.tuple #[]) (r.qGive 6 false [8])) := by
  have H1 := Lib.hid h1
  clear h1
  obtain ⟨ln, H2⟩ : ∃ ln, Hid (r.line = ln) := ⟨_, Lib.hid rfl⟩
  rw [H2.out] at hh
  have q0 : decide ((0 : Int) ≤ ln) = false := by simp; omega
  have n2 : (ln == 2) = false := beq_eq_false_iff_ne.2 (by omega)
  clear hh
  have HX := Lib.hid hx
  have HL := Lib.hid hl
  have HA := Lib.hid ha
  have HH := Lib.hid h
  clear h hl hx ha
  have c4 : w.cell? ⟨B, 4, none⟩ = some (.int .i64 (6)) := by rw [← H1.out]; exact HH.out.row.cell_ (i := 4) rfl
  have c5 : w.cell? ⟨B, 5, none⟩ = some (.int .i64 (ln)) := by rw [← H2.out]; exact HH.out.row.cell_ (i := 5) rfl
  go_enter Tryz.func10, Tryz.ntmps10
  go_upto_region 1 with (fail)
  refine wp_region_phase (n := 10) 9 (fun w => w.cell? ⟨B, 4, none⟩ = some (.int .i64 (6)) ∧ w.cell? ⟨B, 5, none⟩ = some (.int .i64 (ln))) rfl (by kernel_rfl) ⟨c4, c5⟩ (fun hHeld => ?_)
  have HP0 := Lib.hid (HH.out.keep (Only.refl Nil w).drew)
  have HO0 := Lib.hid ((Only.refl (TurnB B A) w).drew)
  clear HH c4 c5
  generalize w.drew = w2 at *
  refine mpa 0 rfl (.pointer (some ⟨B, 4, none⟩)) (fun w => ?_) ?_
  · go_simp
  (try simp only [Act.put, k1, k2, k3])
  refine mpa 1 rfl (.pointer (some ⟨B, 4, none⟩)) (fun w => ?_) ?_
  · go_simp
  (try simp only [Act.put, k1, k2, k3])
  refine mpa 2 rfl (.pointer (some ⟨B, 4, none⟩)) (fun w => ?_) ?_
  · go_simp
  (try simp only [Act.put, k1, k2, k3])
  refine mpt 3 rfl (.int .i64 (6)) (fun w hSw => ?_) ?_
  · (try dsimp only at hSw)
    go_split_ands
    go_simp
  (try simp only [Act.put, k1, k2, k3])
  refine mpa 4 rfl (.pointer (some ⟨B, 4, none⟩)) (fun w => ?_) ?_
  · go_simp
  (try simp only [Act.put, k1, k2, k3])
  refine mpa 5 rfl (.pointer (some ⟨B, 4, none⟩)) (fun w => ?_) ?_
  · go_simp
  (try simp only [Act.put, k1, k2, k3])
  refine mpa 6 rfl (.pointer (some ⟨B, 5, none⟩)) (fun w => ?_) ?_
  · go_simp
  (try simp only [Act.put, k1, k2, k3])
  refine mpt 7 rfl (.int .i64 (ln)) (fun w hSw => ?_) ?_
  · (try dsimp only at hSw)
    go_split_ands
    go_simp
  (try simp only [Act.put, k1, k2, k3])
  refine mpa 8 rfl (.int .i64 (6)) (fun w => ?_) ?_
  · go_simp
  (try simp only [Act.put, k1, k2, k3])
  refine mpc 9 rfl (by kernel_rfl) (by rfl) (fun K hK => ?_)
  go_simp
  refine hK.out _ _ (.inl (by kernel_rfl)) ?_
  clear hK K hHeld
  (try simp only [Act.put, k1, k2, k3])
  refine wpAnyP_done (by kernel_rfl) ?_ _
  go_wp2_with fail
  have e0 := (Only.refl Nil w2).alloc (.cells #[.int .i64 8] 3)
  have HPA := Lib.hid (HP0.out.keep e0)
  have HOA := Lib.hid (HO0.out.trans (e0.mono (T := TurnB B A) (fun _ _ h => h.elim)))
  refine (rqgive_run B base A l cp nv r 6 false _ [8] _ HPA.out HL.out HX.out HA.out (rwhats_1 HP0.out 8) (by decide) (by decide) (by decide)).mono ?_
  clear e0
  rintro e w3 ⟨rfl, hO, nv1, hP⟩
  have HO1 := Lib.hid (HOA.out.trans hO)
  have HP1 := Lib.hid hP
  clear hO hP HPA HOA
  go_wp2
  go_returns
  exact ⟨rfl, HO1.out, nv1, HP1.out⟩
set_option maxRecDepth 100000 in
set_option maxHeartbeats 4000000 in
theorem fqr_y6 (B base : Nat) (A : Option Addr) (l cp : Nat) (nv : Value) (r : LS) (w : World) (h : RunR w B base A l cp nv r) (hl : r.ns.length ≤ 900) (hx : Words r.xs) (ha : 0 ≤ r.a ∧ r.a < 4294967296) (h1 : r.op = 6) (h2 : r.line = 2) :
    Calls Tryz.prog 10 #[Value.pointer (some ⟨B, 0, none⟩)] w (DoneR B base A l cp w (.tuple #[]) (if wordAt r.xs 1 = 0 then ((r.qCount.note 4 0).fin true) else (r.qCount.note 5 0).go 6)) := by
  obtain ⟨RR, hRR⟩ : ∃ RR, (if wordAt r.xs 1 = 0 then ((r.qCount.note 4 0).fin true) else (r.qCount.note 5 0).go 6) = RR := ⟨_, rfl⟩
  rw [hRR]
  have HRR := Lib.hid hRR
  clear hRR
  have H1 := Lib.hid h1
  clear h1
  have H2 := Lib.hid h2
  clear h2
  have HLN := Lib.hid (show r.qCount.ns.length ≤ 900 from hl)
  have HX := Lib.hid hx
  have HL := Lib.hid hl
  have HA := Lib.hid ha
  have HH := Lib.hid h
  clear h hl hx ha
  have c4 : w.cell? ⟨B, 4, none⟩ = some (.int .i64 (6)) := by rw [← H1.out]; exact HH.out.row.cell_ (i := 4) rfl
  have c5 : w.cell? ⟨B, 5, none⟩ = some (.int .i64 (2)) := by rw [← H2.out]; exact HH.out.row.cell_ (i := 5) rfl
  go_enter Tryz.func10, Tryz.ntmps10
  go_upto_region 1 with (fail)
  refine wp_region_phase (n := 10) 9 (fun w => w.cell? ⟨B, 4, none⟩ = some (.int .i64 (6)) ∧ w.cell? ⟨B, 5, none⟩ = some (.int .i64 (2))) rfl (by kernel_rfl) ⟨c4, c5⟩ (fun hHeld => ?_)
  have HP0 := Lib.hid (HH.out.keep (Only.refl Nil w).drew)
  have HO0 := Lib.hid ((Only.refl (TurnB B A) w).drew)
  clear HH c4 c5
  generalize w.drew = w2 at *
  refine mpa 0 rfl (.pointer (some ⟨B, 4, none⟩)) (fun w => ?_) ?_
  · go_simp
  (try simp only [Act.put, k1, k2, k3])
  refine mpa 1 rfl (.pointer (some ⟨B, 4, none⟩)) (fun w => ?_) ?_
  · go_simp
  (try simp only [Act.put, k1, k2, k3])
  refine mpa 2 rfl (.pointer (some ⟨B, 4, none⟩)) (fun w => ?_) ?_
  · go_simp
  (try simp only [Act.put, k1, k2, k3])
  refine mpt 3 rfl (.int .i64 (6)) (fun w hSw => ?_) ?_
  · (try dsimp only at hSw)
    go_split_ands
    go_simp
  (try simp only [Act.put, k1, k2, k3])
  refine mpa 4 rfl (.pointer (some ⟨B, 4, none⟩)) (fun w => ?_) ?_
  · go_simp
  (try simp only [Act.put, k1, k2, k3])
  refine mpa 5 rfl (.pointer (some ⟨B, 4, none⟩)) (fun w => ?_) ?_
  · go_simp
  (try simp only [Act.put, k1, k2, k3])
  refine mpa 6 rfl (.pointer (some ⟨B, 5, none⟩)) (fun w => ?_) ?_
  · go_simp
  (try simp only [Act.put, k1, k2, k3])
  refine mpt 7 rfl (.int .i64 (2)) (fun w hSw => ?_) ?_
  · (try dsimp only at hSw)
    go_split_ands
    go_simp
  (try simp only [Act.put, k1, k2, k3])
  refine mpa 8 rfl (.int .i64 (6)) (fun w => ?_) ?_
  · go_simp
  (try simp only [Act.put, k1, k2, k3])
  refine mpc 9 rfl (by kernel_rfl) (by rfl) (fun K hK => ?_)
  go_simp
  refine hK.out _ _ (.inl (by kernel_rfl)) ?_
  clear hK K hHeld
  (try simp only [Act.put, k1, k2, k3])
  refine wpAnyP_done (by kernel_rfl) ?_ _
  go_wp2_with fail
  refine (rload_run B base A l cp nv r 1 _ HP0.out).mono ?_
  rintro e w1_ ⟨rfl, hO, nv1, hP⟩
  have HO1 := Lib.hid (HO0.out.trans hO)
  have HP1 := Lib.hid hP
  clear hO hP HP0 HO0
  have c6 : w1_.cell? ⟨B, 6, none⟩ = some (.int .u32 r.a) := HP1.out.row.cell_ (i := 6) rfl
  have f6 : w1_.frozen? ⟨B, 6, none⟩ = false := HP1.out.row.frozen 6
  go_upto_region 36 with (fail)
  clear c6 f6
  have HP2 : Hid (RunR (w1_.setCell ⟨B, 6, none⟩ (.int .u32 (wordAt r.xs 1))) B base A l cp nv1 r.qCount) := Lib.hid (HP1.out.setA (wordAt r.xs 1))
  have HO2 := Lib.hid (HO1.out.setCell (p := ⟨B, 6, none⟩) (.inr (.inl rfl)) (.int .u32 (wordAt r.xs 1)))
  clear HP1 HO1
  generalize w1_.setCell ⟨B, 6, none⟩ (.int .u32 (wordAt r.xs 1)) = w4 at *
  have c6 : w4.cell? ⟨B, 6, none⟩ = some (.int .u32 (wordAt r.xs 1)) := HP2.out.row.cell_ (i := 6) rfl
  by_cases hw : wordAt r.xs 1 = 0
  · have eR := HRR.out
    rw [if_pos hw] at eR
    subst eR
    have hz : (wordAt r.xs 1 == 0) = true := beq_iff_eq.2 hw
    clear hw
    go_wp2_with fail
    clear c6 hz
    refine (rnote_run B base A l cp nv1 _ 4 0 _ HP2.out (Nat.le_trans HLN.out (by decide))).mono ?_
    rintro e w3_ ⟨rfl, hO, nv3, hP⟩
    have HO3 := Lib.hid (HO2.out.trans hO)
    have HP3 := Lib.hid hP
    clear hO hP HP2 HO2
    go_wp2_with fail
    refine (rend_run B base A l cp nv3 _ _ true HP3.out).mono ?_
    rintro e w4_ ⟨rfl, hO, nv4, hP⟩
    have HO4 := Lib.hid (HO3.out.trans hO)
    have HP4 := Lib.hid hP
    clear hO hP HP3 HO3
    go_wp2
    go_returns
    exact ⟨rfl, HO4.out, nv4, HP4.out⟩
  · have eR := HRR.out
    rw [if_neg hw] at eR
    subst eR
    have hz : (wordAt r.xs 1 == 0) = false := beq_eq_false_iff_ne.2 hw
    clear hw
    go_wp2_with fail
    clear c6 hz
    refine (rnote_run B base A l cp nv1 _ 5 0 _ HP2.out (Nat.le_trans HLN.out (by decide))).mono ?_
    rintro e w3_ ⟨rfl, hO, nv3, hP⟩
    have HO3 := Lib.hid (HO2.out.trans hO)
    have HP3 := Lib.hid hP
    clear hO hP HP2 HO2
    have c5 : w3_.cell? ⟨B, 5, none⟩ = some (.int .i64 (r.line)) := HP3.out.row.cell_ (i := 5) rfl
    have f5 : w3_.frozen? ⟨B, 5, none⟩ = false := HP3.out.row.frozen 5
    go_wp2
    clear c5 f5
    have HPZ := Lib.hid (HP3.out.setLine (6))
    have HOZ := Lib.hid (HO3.out.setCell (p := ⟨B, 5, none⟩) (.inr (.inl rfl)) (.int .i64 (6)))
    go_returns
    exact ⟨rfl, HOZ.out, nv3, HPZ.out⟩
end Go.Proofs.YtkkldcggbekleaaGreat
