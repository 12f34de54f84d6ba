import Derived.Test.YtkmkeleifkkbnaaGreatH22
set_option linter.unusedVariables false
set_option linter.unusedSimpArgs false
namespace Go.Proofs.YtkmkeleifkkbnaaGreat
open Go.RowKit
-- waiting
theorem asks_leave : Asks 74 outW := by
  intro v w h0 h1
  have HT := Lib.hid (written_any v w h0 h1)
  clear h0 h1
  generalize outW v = q at *
  go_enter Tryz.func74, Tryz.ntmps74
  go_wp2_with fail
  refine HT.out.mono ?_
  rintro e w1 ⟨rfl, rfl⟩
  clear HT
  go_wp2
  go_ret
  exact ⟨rfl, rfl⟩
theorem asks_free : Asks 83 isZ := by
  intro v w h0 h1
  have HQ := Lib.hid (show (v == 0) = isZ v from rfl)
  go_enter Tryz.func83, Tryz.ntmps83
  go_wp2
  go_ret
  exact ⟨congrArg (fun x => Ending.returned (.bool x)) HQ.out, rfl⟩
theorem enters_l2 : Enters1 74 := fun args w => by simp [callFunc, go_sem, Tryz.func74, Tryz.f74]
theorem enters_f2 : Enters1 83 := fun args w => by simp [callFunc, go_sem, Tryz.func83, Tryz.f83]
theorem holds_asks (F : FuncId) (hcf : Enters1 F) {q : Int → Bool} (ha : Asks F q) : HoldsAny (.func (.func F) #[] #[]) q := by
  intro v w h0 h1
  have HA := Lib.hid (ha v w h0 h1)
  clear ha
  generalize q v = b at *
  have hn := neq_fn
  unfold Enters1 at hcf
  go_enter_defers Tryz.func104, Tryz.ntmps104
  go_wp2_with fail
  clear hcf
  refine HA.out.mono ?_
  rintro e w1 ⟨rfl, rfl⟩
  clear HA
  go_wp2
  refine leaves_cons (f := 106) (args := #[]) (by simp) (by simp [go_sem]) ?_
  refine (rec_idle _).mono ?_
  rintro e u' w'' ⟨rfl, rfl, rfl⟩
  exact ⟨_, results_tmp rfl _ _ _, rfl, Only.refl _ _⟩
theorem rleave_clo (B : Nat) (p A : Option Addr) (cp : Nat) (nv : Value) (r : LS) (g0 : Nat) (w : World) (h : RunP w B p A cp nv r) (hl : r.ns.length ≤ 900) (hx : Words r.xs) (hb : RowsL w [(g0, 35, #[Value.pointer (some ⟨B, 0, none⟩)])]) :
    Calls Tryz.prog 72 #[.pointer (some ⟨g0, 0, none⟩)] w (Done B p A cp w (.tuple #[]) (r.pAdmit 0 outW)) := by
  generalize hsn : (r.stepR 0 outW).seen = sn
  generalize hdn : (r.stepR 0 outW).done = dn
  obtain ⟨rw1, hw1⟩ : ∃ rw1, r.wait 0 outW = rw1 := ⟨_, rfl⟩
  have HLN := Lib.hid (show rw1.ns.length ≤ 900 from by rw [← hw1]; exact hl)
  obtain ⟨RR, hRR⟩ : ∃ RR, r.pAdmit 0 outW = RR := ⟨_, rfl⟩
  rw [hRR]
  unfold LS.pAdmit at hRR
  rw [hdn, hsn, hw1] at hRR
  have HW1 := Lib.hid hw1
  have HRR := Lib.hid hRR
  have HSN := Lib.hid hsn
  have HDN := Lib.hid hdn
  have HX := Lib.hid hx
  clear hRR hw1 hsn hdn hx
  have HP0 := Lib.hid h
  have HB0 := Lib.hid hb
  have HL := Lib.hid hl
  have HO0 := Lib.hid (Only.refl (TurnB B A) w)
  clear h hb hl
  have b0 := HB0.out.c0
  go_enter Tryz.func72, Tryz.ntmps72
  go_wp2_with fail
  clear b0
  refine (wait_run B p A cp nv r 0 (.func 74) #[] #[] outW _ HP0.out (holds_asks _ enters_l2 asks_leave).at HX.out).mono ?_
  rw [HSN.out, HDN.out, HW1.out]
  clear HSN HDN HW1
  rintro e w2 ⟨rfl, hO, nv2, hP⟩
  have HO2 := Lib.hid (HO0.out.trans hO)
  have HB2 := Lib.hid (HB0.out.turn HP0.out hO aside_1)
  have HP2 := Lib.hid hP
  clear hO hP HP0 HO0 HB0
  cases sn
  all_goals cases dn
  · have eR : rw1 = RR := HRR.out
    subst eR
    go_wp2
    go_returns
    exact ⟨rfl, HO2.out, nv2, HP2.out⟩
  · have eR : rw1.fin true = RR := HRR.out
    subst eR
    have b0 := HB2.out.c0
    go_wp2_with fail
    clear b0
    refine (end_run B p A cp nv2 _ _ true HP2.out).mono ?_
    rintro e w4 ⟨rfl, hO, nv4, hP⟩
    have HO4 := Lib.hid (HO2.out.trans hO)
    have HP4 := Lib.hid hP
    clear hO hP
    go_wp2
    go_returns
    exact ⟨rfl, HO4.out, nv4, HP4.out⟩
  · have eR : rw1.note 4 0 = RR := HRR.out
    subst eR
    have b0 := HB2.out.c0
    go_wp2_with fail
    clear b0
    refine (note_run B p A cp nv2 _ 4 0 _ HP2.out (Nat.le_trans HLN.out (by decide))).mono ?_
    rintro e w4 ⟨rfl, hO, nv4, hP⟩
    have HO4 := Lib.hid (HO2.out.trans hO)
    have HP4 := Lib.hid hP
    clear hO hP
    go_wp2
    go_returns
    exact ⟨rfl, HO4.out, nv4, HP4.out⟩
  · have eR : (rw1.note 4 0).fin true = RR := HRR.out
    subst eR
    have b0 := HB2.out.c0
    go_wp2_with fail
    clear b0
    refine (note_run B p A cp nv2 _ 4 0 _ HP2.out (Nat.le_trans HLN.out (by decide))).mono ?_
    rintro e w3 ⟨rfl, hO, nv3, hP⟩
    have HO3 := Lib.hid (HO2.out.trans hO)
    have HB3 := Lib.hid (HB2.out.turn HP2.out hO aside_1)
    have HP3 := Lib.hid hP
    clear hO hP HP2 HO2 HB2
    have b0 := HB3.out.c0
    go_wp2_with fail
    clear b0
    refine (end_run B p A cp nv3 _ _ true HP3.out).mono ?_
    rintro e w4 ⟨rfl, hO, nv4, hP⟩
    have HO4 := Lib.hid (HO3.out.trans hO)
    have HP4 := Lib.hid hP
    clear hO hP
    go_wp2
    go_returns
    exact ⟨rfl, HO4.out, nv4, HP4.out⟩
theorem rfree_clo (B : Nat) (p A : Option Addr) (cp : Nat) (nv : Value) (r : LS) (g0 : Nat) (w : World) (h : RunP w B p A cp nv r) (hl : r.ns.length ≤ 900) (hx : Words r.xs) (hb : RowsL w [(g0, 35, #[Value.pointer (some ⟨B, 0, none⟩)])]) :
    Calls Tryz.prog 82 #[.pointer (some ⟨g0, 0, none⟩)] w (Done B p A cp w (.tuple #[]) (r.fWait)) := by
  generalize hsn : (r.stepR 0 isZ).seen = sn
  generalize hdn : (r.stepR 0 isZ).done = dn
  obtain ⟨rw1, hw1⟩ : ∃ rw1, r.wait 0 isZ = rw1 := ⟨_, rfl⟩
  have HLN := Lib.hid (show rw1.ns.length ≤ 900 from by rw [← hw1]; exact hl)
  obtain ⟨RR, hRR⟩ : ∃ RR, r.fWait = RR := ⟨_, rfl⟩
  rw [hRR]
  unfold LS.fWait at hRR
  rw [hdn, hw1] at hRR
  have HW1 := Lib.hid hw1
  have HRR := Lib.hid hRR
  have HSN := Lib.hid hsn
  have HDN := Lib.hid hdn
  have HX := Lib.hid hx
  clear hRR hw1 hsn hdn hx
  have HP0 := Lib.hid h
  have HB0 := Lib.hid hb
  have HL := Lib.hid hl
  have HO0 := Lib.hid (Only.refl (TurnB B A) w)
  clear h hb hl
  have b0 := HB0.out.c0
  go_enter Tryz.func82, Tryz.ntmps82
  go_wp2_with fail
  clear b0
  refine (wait_run B p A cp nv r 0 (.func 83) #[] #[] isZ _ HP0.out (holds_asks _ enters_f2 asks_free).at HX.out).mono ?_
  rw [HSN.out, HDN.out, HW1.out]
  clear HSN HDN HW1
  rintro e w2 ⟨rfl, hO, nv2, hP⟩
  have HO2 := Lib.hid (HO0.out.trans hO)
  have HB2 := Lib.hid (HB0.out.turn HP0.out hO aside_1)
  have HP2 := Lib.hid hP
  clear hO hP HP0 HO0 HB0
  cases dn
  · have eR : rw1 = RR := HRR.out
    subst eR
    go_wp2
    go_returns
    exact ⟨rfl, HO2.out, nv2, HP2.out⟩
  · have eR : rw1.go 1 = RR := HRR.out
    subst eR
    have b0 := HB2.out.c0
    go_wp2_with fail
    clear b0
    refine (go_run B p A cp nv2 _ 1 _ HP2.out).mono ?_
    rintro e w4 ⟨rfl, hO, nv4, hP⟩
    have HO4 := Lib.hid (HO2.out.trans hO)
    have HP4 := Lib.hid hP
    clear hO hP
    go_wp2
    go_returns
    exact ⟨rfl, HO4.out, nv4, HP4.out⟩
theorem rleave_make (B : Nat) (p A : Option Addr) (cp : Nat) (nv : Value) (r : LS) (w : World) (h : RunP w B p A cp nv r) (hl : r.ns.length ≤ 900) (hx : Words r.xs) :
    Calls Tryz.prog 39 #[Value.pointer (some ⟨B, 0, none⟩)] w (Clo 72 B p A cp (r.pAdmit 0 outW) w) := by
  have e0 := (Only.refl Nil w).alloc (.cells #[Value.pointer (some ⟨B, 0, none⟩)] 35)
  have HC := Lib.hid (rleave_clo B p A cp nv r _ _ (h.keep e0) hl hx (RowsL.cons (L := []) (fun _ h => by simp at h) (Row.new w 35 #[Value.pointer (some ⟨B, 0, none⟩)])))
  have HE := Lib.hid e0
  clear h hl hx e0
  go_enter Tryz.func39, Tryz.ntmps39
  go_wp2
  go_ret
  exact ⟨_, rfl, HE.out, HC.out⟩
theorem rfree_make (B : Nat) (p A : Option Addr) (cp : Nat) (nv : Value) (r : LS) (w : World) (h : RunP w B p A cp nv r) (hl : r.ns.length ≤ 900) (hx : Words r.xs) :
    Calls Tryz.prog 45 #[Value.pointer (some ⟨B, 0, none⟩)] w (Clo 82 B p A cp (r.fWait) w) := by
  have e0 := (Only.refl Nil w).alloc (.cells #[Value.pointer (some ⟨B, 0, none⟩)] 35)
  have HC := Lib.hid (rfree_clo B p A cp nv r _ _ (h.keep e0) hl hx (RowsL.cons (L := []) (fun _ h => by simp at h) (Row.new w 35 #[Value.pointer (some ⟨B, 0, none⟩)])))
  have HE := Lib.hid e0
  clear h hl hx e0
  go_enter Tryz.func45, Tryz.ntmps45
  go_wp2
  go_ret
  exact ⟨_, rfl, HE.out, HC.out⟩
-- weighing
theorem rf_aside_wg {g0 B g1 : Nat} {v : Value} : ∀ y ∈ [(g0, 35, #[Value.pointer (some ⟨B, 0, none⟩)]), (g1, 93, #[v])], Aside y.2.1 := by
  intro x hx
  simp only [List.mem_cons, List.not_mem_nil, or_false] at hx
  rcases hx with rfl | rfl
  · exact aside_p
  · exact rf_aside_w
set_option maxHeartbeats 1000000 in
theorem rweigh_clo (FF : FuncId) (hcf : Enters1 FF) (q : Int → Bool) (hq : Asks FF q) (B : Nat) (p A : Option Addr) (cp : Nat) (nv : Value) (r : LS) (g0 g1 : Nat) (w : World) (h : RunP w B p A cp nv r) (hl : r.ns.length ≤ 900) (hx : Words r.xs) (hb : RowsL w [(g0, 35, #[Value.pointer (some ⟨B, 0, none⟩)]), (g1, 93, #[.func (.func FF) #[] #[]])]) :
    Calls Tryz.prog 84 #[.pointer (some ⟨g0, 0, none⟩), .pointer (some ⟨g1, 0, none⟩)] w (Done B p A cp w (.tuple #[]) (r.fLook (q (wordAt r.xs 0)))) := by
  have HT := Lib.hid (fun w => hq (wordAt r.xs 0) w (word_wf hx 0).1 (word_wf hx 0).2)
  clear hq hx
  generalize q (wordAt r.xs 0) = ok at *
  obtain ⟨r1, hr1⟩ : ∃ r1, (r.doA 1 0 0 0).keepA (wordAt r.xs 0) = r1 := ⟨_, rfl⟩
  have HR1 := Lib.hid hr1
  have HL1 := Lib.hid (show r1.ns.length ≤ 900 by rw [← hr1]; exact hl)
  have HA1 := Lib.hid (show r1.a = wordAt r.xs 0 by rw [← hr1]; rfl)
  obtain ⟨RR, hRR⟩ : ∃ RR, r.fLook ok = RR := ⟨_, rfl⟩
  rw [hRR]
  unfold LS.fLook at hRR
  rw [hr1] at hRR
  have HRR := Lib.hid hRR
  have HCF := Lib.hid hcf
  clear hRR hr1 hcf
  have HP0 := Lib.hid h
  have HB0 := Lib.hid hb
  have HL := Lib.hid hl
  have HO0 := Lib.hid (Only.refl (TurnB B A) w)
  clear h hb hl
  have b0 := HB0.out.c0
  go_enter Tryz.func84, Tryz.ntmps84
  go_upto_region 0 with (fail)
  refine wp_region_phase (n := 7) 6 (fun w => w.cell? ⟨g0, 0, none⟩ = some (Value.pointer (some ⟨B, 0, none⟩))) rfl (by kernel_rfl) b0 (fun hHeld => ?_)
  clear b0
  have HP0b := Lib.hid (HP0.out.keep (Only.refl Nil w).drew)
  have HB0b := Lib.hid (HB0.out.keep (Only.refl Nil w).drew)
  have HO0b := Lib.hid HO0.out.drew
  clear HP0 HB0 HO0
  generalize w.drew = w0 at *
  refine zt 0 rfl ?_
  refine zt 1 rfl ?_
  refine mpc 2 rfl (by kernel_rfl) (by rfl) (fun K hK => ?_)
  go_simp
  refine (load_run B p A cp nv r 0 _ HP0b.out).mono ?_
  rintro e w1 ⟨rfl, hO, nv1, hP⟩
  have HO1 := Lib.hid (HO0b.out.trans hO)
  have HB1 := Lib.hid (HB0b.out.turn HP0b.out hO rf_aside_wg)
  have HP1 := Lib.hid hP
  clear hO hP HP0b HO0b HB0b
  have hHeld2 := HB1.out.c0
  refine hK.out _ _ (.inr hHeld2) ?_
  clear hK K hHeld
  refine za 3 rfl ?_
  refine za 4 rfl ?_
  refine za 5 rfl ?_
  have c6 : w1.cell? ⟨B, 6, none⟩ = some (.int .u32 (r.doA 1 0 0 0).a) := HP1.out.row.cell_ (i := 6) rfl
  have f6 : w1.frozen? ⟨B, 6, none⟩ = false := HP1.out.row.frozen 6
  refine mpc 6 rfl (by kernel_rfl) (by rfl) (fun K hK => ?_)
  go_simp
  have HP2 := Lib.hid (HP1.out.setA (wordAt r.xs 0))
  have HO2 := Lib.hid (HO1.out.setCell (p := ⟨B, 6, none⟩) (.inr (.inl rfl)) (.int .u32 (wordAt r.xs 0)))
  have HB2 := Lib.hid (HB1.out.turn HP1.out ((Only.refl (TurnB B A) w1).setCell (p := ⟨B, 6, none⟩) (.inr (.inl rfl)) (.int .u32 (wordAt r.xs 0))) rf_aside_wg)
  refine hK.out _ _ (.inl (by kernel_rfl)) ?_
  clear hK K hHeld2 c6 f6 HP1 HO1 HB1
  generalize w1.setCell ⟨B, 6, none⟩ (.int .u32 (wordAt r.xs 0)) = w2 at *
  refine wpAnyP_done (by kernel_rfl) ?_ _
  rw [HR1.out] at HP2
  have c6 : w2.cell? ⟨B, 6, none⟩ = some (.int .u32 (wordAt r.xs 0)) := by rw [← HA1.out]; exact HP2.out.row.cell_ (i := 6) rfl
  generalize wordAt r.xs 0 = v at *
  go_upto_region 1 with (fail)
  refine wp_region_phase (n := 7) 6 (fun w => w.cell? ⟨g0, 0, none⟩ = some (Value.pointer (some ⟨B, 0, none⟩)) ∧ w.cell? ⟨g1, 0, none⟩ = some (.func (.func FF) #[] #[]) ∧ w.cell? ⟨B, 6, none⟩ = some (.int .u32 v)) rfl (by kernel_rfl) ⟨HB2.out.c0, HB2.out.c1, c6⟩ (fun hHeld => ?_)
  have HP3 := Lib.hid (HP2.out.keep (Only.refl Nil w2).drew)
  have HB3 := Lib.hid (HB2.out.keep (Only.refl Nil w2).drew)
  have HO3 := Lib.hid HO2.out.drew
  clear HP2 HB2 HO2 c6
  generalize w2.drew = w3 at *
  refine zt 0 rfl ?_
  refine zt 1 rfl ?_
  refine za 2 rfl ?_
  refine za 3 rfl ?_
  refine za 4 rfl ?_
  refine zt 5 rfl ?_
  refine mpc 6 rfl (by kernel_rfl) (by rfl) (fun K hK => ?_)
  have hcf : ∀ (args : Array Value) (w : World), (callFunc FF args).run Tryz.prog w = .ok (.enter FF args) w := HCF.out
  go_simp
  refine (HT.out _).mono ?_
  rintro e w9 ⟨rfl, rfl⟩
  refine hK.out _ _ (.inl (by kernel_rfl)) ?_
  clear hK K hHeld hcf
  refine wpAnyP_done (by kernel_rfl) ?_ _
  have b0 := HB3.out.c0
  cases ok
  · have eR := HRR.out
    rw [if_neg Bool.false_ne_true] at eR
    subst eR
    go_wp2_with fail
    clear b0
    refine (note_run B p A cp nv1 _ 5 0 _ HP3.out (Nat.le_trans HL1.out (by decide))).mono ?_
    rintro e w5 ⟨rfl, hO, nv5, hP⟩
    have HO5 := Lib.hid (HO3.out.trans hO)
    have HB5 := Lib.hid (HB3.out.turn HP3.out hO rf_aside_wg)
    have HP5 := Lib.hid hP
    clear hO hP HP3 HO3 HB3
    have b0 := HB5.out.c0
    go_wp2_with fail
    clear b0
    refine (end_run B p A cp nv5 _ _ false HP5.out).mono ?_
    rintro e w4 ⟨rfl, hO, nv4, hP⟩
    have HO4 := Lib.hid (HO5.out.trans hO)
    have HP4 := Lib.hid hP
    clear hO hP
    go_wp2
    go_returns
    exact ⟨rfl, HO4.out, nv4, HP4.out⟩
  · have eR := HRR.out
    rw [if_pos rfl] at eR
    subst eR
    go_wp2_with fail
    clear b0
    refine (go_run B p A cp nv1 _ 1 _ HP3.out).mono ?_
    rintro e w4 ⟨rfl, hO, nv4, hP⟩
    have HO4 := Lib.hid (HO3.out.trans hO)
    have HP4 := Lib.hid hP
    clear hO hP
    go_wp2
    go_returns
    exact ⟨rfl, HO4.out, nv4, HP4.out⟩
theorem rweigh_make (FF : FuncId) (hcf : Enters1 FF) (q : Int → Bool) (hq : Asks FF q) (B : Nat) (p A : Option Addr) (cp : Nat) (nv : Value) (r : LS) (w : World) (h : RunP w B p A cp nv r) (hl : r.ns.length ≤ 900) (hx : Words r.xs) :
    Calls Tryz.prog 46 #[Value.pointer (some ⟨B, 0, none⟩), .func (.func FF) #[] #[]] w (Clo 84 B p A cp (r.fLook (q (wordAt r.xs 0))) w) := by
  have e0 := ((Only.refl Nil w).alloc (.cells #[Value.pointer (some ⟨B, 0, none⟩)] 35)).alloc (.cells #[.func (.func FF) #[] #[]] 93)
  have HC := Lib.hid (rweigh_clo FF hcf q hq B p A cp nv r w.heap.size (w.heap.size + 1) _ (h.keep e0) hl hx (RowsL.cons (L := [_]) (RowsL.cons (L := []) (fun _ h => by simp at h) (Row.at (by simp))) ((Row.new w 35 #[Value.pointer (some ⟨B, 0, none⟩)]).alloc _)))
  have HE := Lib.hid e0
  clear h hl hx e0 hcf hq
  go_enter Tryz.func46, Tryz.ntmps46
  go_wp2
  go_ret
  exact ⟨_, rfl, HE.out, HC.out⟩
-- claiming
def LS.fClaim (r : LS) (fr to n : Int) (T : LS → LS) : LS := if r.at0 fr then (T (r.doA 5 0 fr to)).fin true else (r.doA 5 0 fr to).go n
theorem rf_aside_cl {g0 B g3 g4 g5 : Nat} {v v' : Value} : ∀ y ∈ [(g0, 35, #[Value.pointer (some ⟨B, 0, none⟩)]), (g3, 3, #[v]), (g4, 1, #[v']), (g5, 35, #[Value.pointer (some ⟨B, 0, none⟩)])], Aside y.2.1 := by
  intro x hx
  simp only [List.mem_cons, List.not_mem_nil, or_false] at hx
  rcases hx with rfl | rfl | rfl | rfl
  · exact aside_p
  · exact aside_i
  · exact rf_aside_f
  · exact aside_p
def Notes1 (FF : FuncId) (T : LS → LS) : Prop := ∀ (B : Nat) (p A : Option Addr) (cp : Nat) (nv : Value) (r : LS) (g0 : Nat) (w : World) (h : RunP w B p A cp nv r) (hl : r.ns.length ≤ 900) (hb : Row w g0 35 #[Value.pointer (some ⟨B, 0, none⟩)]), Calls Tryz.prog FF #[.pointer (some ⟨g0, 0, none⟩)] w (Done B p A cp w (.tuple #[]) (T r))
set_option maxHeartbeats 1000000 in
theorem rclaim_clo (FF : FuncId) (hcf : Enters1 FF) (T : LS → LS) (ht : Notes1 FF T) (B : Nat) (p A : Option Addr) (cp : Nat) (nv : Value) (r : LS) (fr to n : Int) (g0 g1 g2 g3 g4 g5 : Nat) (w : World) (h : RunP w B p A cp nv r) (hl : r.ns.length ≤ 900) (h1 : Row w g1 23 #[.int .u32 fr]) (h2 : Row w g2 23 #[.int .u32 to])
    (hb : RowsL w [(g0, 35, #[Value.pointer (some ⟨B, 0, none⟩)]), (g3, 3, #[.int .i64 n]), (g4, 1, #[.func (.func FF) #[] #[.pointer (some ⟨g5, 0, none⟩)]]), (g5, 35, #[Value.pointer (some ⟨B, 0, none⟩)])]) :
    Calls Tryz.prog 79 #[.pointer (some ⟨g0, 0, none⟩), .pointer (some ⟨g1, 0, none⟩), .pointer (some ⟨g2, 0, none⟩), .pointer (some ⟨g3, 0, none⟩), .pointer (some ⟨g4, 0, none⟩)] w (Done B p A cp w (.tuple #[]) (r.fClaim fr to n T)) := by
  have b1 := h1.one
  have b2 := h2.one
  obtain ⟨r1, hr1⟩ : ∃ r1, r.doA 5 0 fr to = r1 := ⟨_, rfl⟩
  have HL1 := Lib.hid (show r1.ns.length ≤ 900 by rw [← hr1]; exact hl)
  have HR1 := Lib.hid hr1
  obtain ⟨RR, hRR⟩ : ∃ RR, r.fClaim fr to n T = RR := ⟨_, rfl⟩
  rw [hRR]
  unfold LS.fClaim at hRR
  rw [hr1] at hRR
  generalize hcl : r.at0 fr = cl at hRR
  have HRR := Lib.hid hRR
  have HCL := Lib.hid (show (there r.xs 0 && (wordAt r.xs 0 == fr)) = cl from hcl)
  have HT := Lib.hid ht
  have HCF := Lib.hid hcf
  clear hcl hRR hr1 h1 h2 ht hcf
  have HP0 := Lib.hid h
  have HB0 := Lib.hid hb
  have HL := Lib.hid hl
  have HO0 := Lib.hid (Only.refl (TurnB B A) w)
  clear h hb hl
  have b0 := HB0.out.c0
  go_enter Tryz.func79, Tryz.ntmps79
  go_wp2_with fail
  clear b0 b1 b2
  refine (cas_run B p A cp nv r 0 fr to _ HP0.out).mono ?_
  rw [HCL.out, HR1.out]
  rintro e w1 ⟨rfl, hO, nv1, hP⟩
  have HO1 := Lib.hid (HO0.out.trans hO)
  have HB1 := Lib.hid (HB0.out.turn HP0.out hO rf_aside_cl)
  have HP1 := Lib.hid hP
  clear hO hP HP0 HO0 HB0
  cases cl
  · have eR : r1.go n = RR := HRR.out
    subst eR
    have b0 := HB1.out.c0
    have b3 := HB1.out.c1
    go_wp2_with fail
    clear b0 b3
    refine (go_run B p A cp nv1 _ n _ HP1.out).mono ?_
    rintro e w4 ⟨rfl, hO, nv4, hP⟩
    have HO4 := Lib.hid (HO1.out.trans hO)
    have HP4 := Lib.hid hP
    clear hO hP
    go_wp2
    go_returns
    exact ⟨rfl, HO4.out, nv4, HP4.out⟩
  · have eR : (T r1).fin true = RR := HRR.out
    subst eR
    have b4 := HB1.out.c2
    have hcf : ∀ (args : Array Value) (w : World), (callFunc FF args).run Tryz.prog w = .ok (.enter FF args) w := HCF.out
    go_wp2_with fail
    clear b4 hcf
    refine (HT.out B p A cp nv1 r1 g5 _ HP1.out HL1.out (HB1.out _ (.tail _ (.tail _ (.tail _ (.head _)))))).mono ?_
    rintro e w2 ⟨rfl, hO, nv2, hP⟩
    have HO2 := Lib.hid (HO1.out.trans hO)
    have HB2 := Lib.hid (HB1.out.turn HP1.out hO rf_aside_cl)
    have HP2 := Lib.hid hP
    clear hO hP HP1 HO1 HB1
    have b0 := HB2.out.c0
    go_wp2_with fail
    clear b0
    refine (end_run B p A cp nv2 _ _ true HP2.out).mono ?_
    rintro e w4 ⟨rfl, hO, nv4, hP⟩
    have HO4 := Lib.hid (HO2.out.trans hO)
    have HP4 := Lib.hid hP
    clear hO hP
    go_wp2
    go_returns
    exact ⟨rfl, HO4.out, nv4, HP4.out⟩
theorem rclaim_make (FF : FuncId) (hcf : Enters1 FF) (T : LS → LS) (ht : Notes1 FF T) (B : Nat) (p A : Option Addr) (cp : Nat) (nv : Value) (r : LS) (fr to n : Int) (g5 : Nat) (w : World) (h : RunP w B p A cp nv r) (hl : r.ns.length ≤ 900) (hb : Row w g5 35 #[Value.pointer (some ⟨B, 0, none⟩)]) :
    Calls Tryz.prog 42 #[Value.pointer (some ⟨B, 0, none⟩), .int .u32 fr, .int .u32 to, .int .i64 n, .func (.func FF) #[] #[.pointer (some ⟨g5, 0, none⟩)]] w (Clo 79 B p A cp (r.fClaim fr to n T) w) := by
  have e0 := (((((Only.refl Nil w).alloc (.cells #[Value.pointer (some ⟨B, 0, none⟩)] 35)).alloc (.cells #[.int .u32 fr] 23)).alloc (.cells #[.int .u32 to] 23)).alloc (.cells #[.int .i64 n] 3)).alloc (.cells #[.func (.func FF) #[] #[.pointer (some ⟨g5, 0, none⟩)]] 1)
  have r0 := (((((Row.new w 35 #[Value.pointer (some ⟨B, 0, none⟩)]).alloc (.cells #[.int .u32 fr] 23)).alloc (.cells #[.int .u32 to] 23)).alloc (.cells #[.int .i64 n] 3)).alloc (.cells #[.func (.func FF) #[] #[.pointer (some ⟨g5, 0, none⟩)]] 1))
  have HC := Lib.hid (rclaim_clo FF hcf T ht B p A cp nv r fr to n w.heap.size (w.heap.size + 1) (w.heap.size + 1 + 1) (w.heap.size + 1 + 1 + 1) (w.heap.size + 1 + 1 + 1 + 1) g5 _ (h.keep e0) hl
    ((((Row.at (by simp)).alloc _).alloc _).alloc _) (((Row.at (by simp)).alloc _).alloc _)
    (RowsL.cons (L := [_, _, _]) (RowsL.cons (L := [_, _]) (RowsL.cons (L := [_]) (RowsL.cons (L := []) (fun _ h => by simp at h) (hb.only e0 id)) (Row.at (by simp))) ((Row.at (by simp)).alloc _)) r0))
  have HE := Lib.hid e0
  clear h hl hb e0 r0 hcf ht
  generalize r.fClaim fr to n T = rr at *
  go_enter Tryz.func42, Tryz.ntmps42
  go_wp2
  go_ret
  exact ⟨_, rfl, HE.out, HC.out⟩
end Go.Proofs.YtkmkeleifkkbnaaGreat
set_option linter.unusedVariables false
set_option linter.unusedSimpArgs false
namespace Go.Proofs.YtkmkeleifkkbnaaGreat
open Go.RowKit
theorem rf_no1 {r : LS} (h1 : r.op = 1) (n0 : ¬ r.line = 0) (n1 : ¬ r.line = 1) : r.rf = r := by
  have hc : rfCase r.op r.line = 0 := by
    rw [h1]
    unfold rfCase
    repeat (first | rw [if_neg (by omega)] | rw [if_pos (by omega)])
  unfold LS.rf
  rw [hc]
  exact rfl
theorem rf_no2 {r : LS} (h1 : r.op = 2) (n0 : ¬ r.line = 0) : r.rf = r := by
  have hc : rfCase r.op r.line = 0 := by
    rw [h1]
    unfold rfCase
    repeat (first | rw [if_neg (by omega)] | rw [if_pos (by omega)])
  unfold LS.rf
  rw [hc]
  exact rfl
theorem rf_no3 {r : LS} (h1 : r.op = 3) (n0 : ¬ r.line = 0) (n1 : ¬ r.line = 1) (n2 : ¬ r.line = 2) : r.rf = r := by
  have hc : rfCase r.op r.line = 0 := by
    rw [h1]
    unfold rfCase
    repeat (first | rw [if_neg (by omega)] | rw [if_pos (by omega)])
  unfold LS.rf
  rw [hc]
  exact rfl
theorem rf_no4 {r : LS} (h1 : r.op = 4) (n0 : ¬ r.line = 0) : r.rf = r := by
  have hc : rfCase r.op r.line = 0 := by
    rw [h1]
    unfold rfCase
    repeat (first | rw [if_neg (by omega)] | rw [if_pos (by omega)])
  unfold LS.rf
  rw [hc]
  exact rfl
theorem rf_no5 {r : LS} (h1 : r.op = 5) (n0 : ¬ r.line = 0) (n1 : ¬ r.line = 1) : r.rf = r := by
  have hc : rfCase r.op r.line = 0 := by
    rw [h1]
    unfold rfCase
    repeat (first | rw [if_neg (by omega)] | rw [if_pos (by omega)])
  unfold LS.rf
  rw [hc]
  exact rfl
theorem rf_no6 {r : LS} (h1 : r.op = 6) (n0 : ¬ r.line = 0) (n1 : ¬ r.line = 1) : r.rf = r := by
  have hc : rfCase r.op r.line = 0 := by
    rw [h1]
    unfold rfCase
    repeat (first | rw [if_neg (by omega)] | rw [if_pos (by omega)])
  unfold LS.rf
  rw [hc]
  exact rfl
theorem rf_no7 {r : LS} (h1 : r.op = 7) (n0 : ¬ r.line = 0) (n1 : ¬ r.line = 1) : r.rf = r := by
  have hc : rfCase r.op r.line = 0 := by
    rw [h1]
    unfold rfCase
    repeat (first | rw [if_neg (by omega)] | rw [if_pos (by omega)])
  unfold LS.rf
  rw [hc]
  exact rfl
theorem rf_no8 {r : LS} (h1 : r.op = 8) (n0 : ¬ r.line = 0) : r.rf = r := by
  have hc : rfCase r.op r.line = 0 := by
    rw [h1]
    unfold rfCase
    repeat (first | rw [if_neg (by omega)] | rw [if_pos (by omega)])
  unfold LS.rf
  rw [hc]
  exact rfl
theorem rf_no9 {r : LS} (o1 : ¬ r.op = 1) (o2 : ¬ r.op = 2) (o3 : ¬ r.op = 3) (o4 : ¬ r.op = 4) (o5 : ¬ r.op = 5) (o6 : ¬ r.op = 6) (o7 : ¬ r.op = 7) (o8 : ¬ r.op = 8) : r.rf = r := by
  have hc : rfCase r.op r.line = 0 := by
    unfold rfCase
    repeat (first | rw [if_neg (by omega)] | rw [if_pos (by omega)])
  unfold LS.rf
  rw [hc]
  rfl
end Go.Proofs.YtkmkeleifkkbnaaGreat
set_option linter.unusedVariables false
set_option linter.unusedSimpArgs false
namespace Go.Proofs.YtkmkeleifkkbnaaGreat
open Go.RowKit
set_option maxRecDepth 100000 in
set_option maxHeartbeats 4000000 in
theorem rf_so3 (B : Nat) (p A : Option Addr) (cp : Nat) (nv : Value) (r : LS) (w : World) (h : RunP w B p A cp nv r) (hl : r.ns.length ≤ 900) (hx : Words r.xs) (h1 : r.op = 3) : Calls Tryz.prog 22 #[Value.pointer (some ⟨B, 0, none⟩)] w (ClS [68, 72, 75, 77, 79, 82, 84] B p A cp r r.rf w) := by
  have H1 := Lib.hid h1
  clear h1
  obtain ⟨ln, H2⟩ : ∃ ln, Hid (r.line = ln) := ⟨_, Lib.hid rfl⟩
  have HX := Lib.hid hx
  have HL := Lib.hid hl
  have e0 := (Only.refl Nil w).alloc (.cells #[Value.pointer (some ⟨B, 0, none⟩)] 35)
  have HP := Lib.hid (h.keep e0)
  have HO := Lib.hid e0
  have HR := Lib.hid (Row.new w 35 #[Value.pointer (some ⟨B, 0, none⟩)])
  clear h hl hx e0
  go_enter Tryz.func22, Tryz.ntmps22
  go_upto_region 1 with (fail)
  generalize w.alloc (.cells #[Value.pointer (some ⟨B, 0, none⟩)] 35) = w1 at *
  generalize w.heap.size = gs at *
  refine wp_region_phase (n := 11) 10 (fun w => w.cell? ⟨gs, 0, none⟩ = some (Value.pointer (some ⟨B, 0, none⟩)) ∧ w.cell? ⟨B, 4, none⟩ = some (.int .i64 (3)) ∧ w.cell? ⟨B, 5, none⟩ = some (.int .i64 ln)) rfl (by kernel_rfl) ⟨HR.out.cell_ (i := 0) rfl, by rw [← H1.out]; exact HP.out.row.cell_ (i := 4) rfl, by rw [← H2.out]; exact HP.out.row.cell_ (i := 5) rfl⟩ (fun hHeld => ?_)
  have HP1 := Lib.hid (HP.out.keep (Only.refl Nil w1).drew)
  have HR1 := Lib.hid HR.out.drew
  have HO1 := Lib.hid HO.out.drew
  clear HP HR HO
  generalize w1.drew = w2 at *
  refine zt 0 rfl ?_
  refine za 1 rfl ?_
  refine za 2 rfl ?_
  refine za 3 rfl ?_
  refine zt 4 rfl ?_
  refine zt 5 rfl ?_
  refine za 6 rfl ?_
  refine za 7 rfl ?_
  refine za 8 rfl ?_
  refine zt 9 rfl ?_
  refine mpc 10 rfl (by kernel_rfl) (by rfl) (fun K hK => ?_)
  go_simp
  refine hK.out _ _ (.inl (by kernel_rfl)) ?_
  clear hK K
  refine wpAnyP_done (by kernel_rfl) ?_ _
  clear hHeld
  have b0 : w2.cell? ⟨gs, 0, none⟩ = some (Value.pointer (some ⟨B, 0, none⟩)) := HR1.out.cell_ (i := 0) rfl
  by_cases g0 : ln = 0
  · rcases g0 with rfl
    go_wp2_with fail
    refine (rask_make B p A cp nv r _ HP1.out HL.out HX.out).mono ?_
    rintro e w3 ⟨caps, rfl, hO, hC⟩
    have H := Lib.hid (And.intro hO hC)
    clear hO hC
    go_wp2
    go_ret
    exact .inl ⟨_, by decide, caps, rfl, HO1.out.trans H.out.1, by rw [show r.rf = r.fReg from by unfold LS.rf; rw [H1.out, H2.out]; rfl]; exact H.out.2⟩
  by_cases g1 : ln = 1
  · rcases g1 with rfl
    go_wp2_with fail
    refine (rclaim_make 43 enters_s1 (fun r => r.note 4 0) (fun B p A cp nv r g0 w h hl hb => rthen_1 B p A cp nv r g0 w h hl hb) B p A cp nv r (0) (65536) 2 gs _ HP1.out HL.out HR1.out).mono ?_
    rintro e w3 ⟨caps, rfl, hO, hC⟩
    have H := Lib.hid (And.intro hO hC)
    clear hO hC
    go_wp2
    go_ret
    exact .inl ⟨_, by decide, caps, rfl, HO1.out.trans H.out.1, by rw [show r.rf = r.fClaim 0 65536 2 (fun r => r.note 4 0) from by unfold LS.rf; rw [H1.out, H2.out]; rfl]; exact H.out.2⟩
  by_cases g2 : ln = 2
  · rcases g2 with rfl
    go_wp2_with fail
    refine (rfree_make B p A cp nv r _ HP1.out HL.out HX.out).mono ?_
    rintro e w3 ⟨caps, rfl, hO, hC⟩
    have H := Lib.hid (And.intro hO hC)
    clear hO hC
    go_wp2
    go_ret
    exact .inl ⟨_, by decide, caps, rfl, HO1.out.trans H.out.1, by rw [show r.rf = r.fWait from by unfold LS.rf; rw [H1.out, H2.out]; rfl]; exact H.out.2⟩
  have n0 : ¬ ln = 0 := by omega
  have n1 : ¬ ln = 1 := by omega
  have n2 : ¬ ln = 2 := by omega
  clear g0 g1 g2
  go_wp2
  go_ret
  exact .inr ⟨rfl, HO1.out, by exact rf_no3 H1.out (by rw [H2.out]; exact n0) (by rw [H2.out]; exact n1) (by rw [H2.out]; exact n2)⟩
set_option maxRecDepth 100000 in
set_option maxHeartbeats 4000000 in
theorem rf_so2 (B : Nat) (p A : Option Addr) (cp : Nat) (nv : Value) (r : LS) (w : World) (h : RunP w B p A cp nv r) (hl : r.ns.length ≤ 900) (hx : Words r.xs) (h1 : r.op = 2) : Calls Tryz.prog 22 #[Value.pointer (some ⟨B, 0, none⟩)] w (ClS [68, 72, 75, 77, 79, 82, 84] B p A cp r r.rf w) := by
  have H1 := Lib.hid h1
  clear h1
  obtain ⟨ln, H2⟩ : ∃ ln, Hid (r.line = ln) := ⟨_, Lib.hid rfl⟩
  have HX := Lib.hid hx
  have HL := Lib.hid hl
  have e0 := (Only.refl Nil w).alloc (.cells #[Value.pointer (some ⟨B, 0, none⟩)] 35)
  have HP := Lib.hid (h.keep e0)
  have HO := Lib.hid e0
  have HR := Lib.hid (Row.new w 35 #[Value.pointer (some ⟨B, 0, none⟩)])
  clear h hl hx e0
  go_enter Tryz.func22, Tryz.ntmps22
  go_upto_region 1 with (fail)
  generalize w.alloc (.cells #[Value.pointer (some ⟨B, 0, none⟩)] 35) = w1 at *
  generalize w.heap.size = gs at *
  refine wp_region_phase (n := 11) 10 (fun w => w.cell? ⟨gs, 0, none⟩ = some (Value.pointer (some ⟨B, 0, none⟩)) ∧ w.cell? ⟨B, 4, none⟩ = some (.int .i64 (2)) ∧ w.cell? ⟨B, 5, none⟩ = some (.int .i64 ln)) rfl (by kernel_rfl) ⟨HR.out.cell_ (i := 0) rfl, by rw [← H1.out]; exact HP.out.row.cell_ (i := 4) rfl, by rw [← H2.out]; exact HP.out.row.cell_ (i := 5) rfl⟩ (fun hHeld => ?_)
  have HP1 := Lib.hid (HP.out.keep (Only.refl Nil w1).drew)
  have HR1 := Lib.hid HR.out.drew
  have HO1 := Lib.hid HO.out.drew
  clear HP HR HO
  generalize w1.drew = w2 at *
  refine zt 0 rfl ?_
  refine za 1 rfl ?_
  refine za 2 rfl ?_
  refine za 3 rfl ?_
  refine zt 4 rfl ?_
  refine zt 5 rfl ?_
  refine za 6 rfl ?_
  refine za 7 rfl ?_
  refine za 8 rfl ?_
  refine zt 9 rfl ?_
  refine mpc 10 rfl (by kernel_rfl) (by rfl) (fun K hK => ?_)
  go_simp
  refine hK.out _ _ (.inl (by kernel_rfl)) ?_
  clear hK K
  refine wpAnyP_done (by kernel_rfl) ?_ _
  clear hHeld
  have b0 : w2.cell? ⟨gs, 0, none⟩ = some (Value.pointer (some ⟨B, 0, none⟩)) := HR1.out.cell_ (i := 0) rfl
  by_cases g0 : ln = 0
  · rcases g0 with rfl
    go_wp2_with fail
    have e0 := (Only.refl Nil w2).alloc (.cells #[.int .i64 6] 3)
    refine (rchange_make B p A cp nv r 4294967295 _ [6] _ (HP1.out.keep e0) HL.out (whats_1 HP1.out 6) (by decide)).mono ?_
    rintro e w3 ⟨caps, rfl, hO, hC⟩
    have H := Lib.hid (And.intro (e0.trans hO) hC)
    clear hO hC e0
    go_wp2
    go_ret
    exact .inl ⟨_, by decide, caps, rfl, HO1.out.trans H.out.1, by rw [show r.rf = r.fChange 4294967295 [6] from by unfold LS.rf; rw [H1.out, H2.out]; rfl]; exact H.out.2⟩
  have n0 : ¬ ln = 0 := by omega
  clear g0
  go_wp2
  go_ret
  exact .inr ⟨rfl, HO1.out, by exact rf_no2 H1.out (by rw [H2.out]; exact n0)⟩
set_option maxRecDepth 100000 in
set_option maxHeartbeats 4000000 in
theorem rf_so8 (B : Nat) (p A : Option Addr) (cp : Nat) (nv : Value) (r : LS) (w : World) (h : RunP w B p A cp nv r) (hl : r.ns.length ≤ 900) (hx : Words r.xs) (h1 : r.op = 8) : Calls Tryz.prog 22 #[Value.pointer (some ⟨B, 0, none⟩)] w (ClS [68, 72, 75, 77, 79, 82, 84] B p A cp r r.rf w) := by
  have H1 := Lib.hid h1
  clear h1
  obtain ⟨ln, H2⟩ : ∃ ln, Hid (r.line = ln) := ⟨_, Lib.hid rfl⟩
  have HX := Lib.hid hx
  have HL := Lib.hid hl
  have e0 := (Only.refl Nil w).alloc (.cells #[Value.pointer (some ⟨B, 0, none⟩)] 35)
  have HP := Lib.hid (h.keep e0)
  have HO := Lib.hid e0
  have HR := Lib.hid (Row.new w 35 #[Value.pointer (some ⟨B, 0, none⟩)])
  clear h hl hx e0
  go_enter Tryz.func22, Tryz.ntmps22
  go_upto_region 1 with (fail)
  generalize w.alloc (.cells #[Value.pointer (some ⟨B, 0, none⟩)] 35) = w1 at *
  generalize w.heap.size = gs at *
  refine wp_region_phase (n := 11) 10 (fun w => w.cell? ⟨gs, 0, none⟩ = some (Value.pointer (some ⟨B, 0, none⟩)) ∧ w.cell? ⟨B, 4, none⟩ = some (.int .i64 (8)) ∧ w.cell? ⟨B, 5, none⟩ = some (.int .i64 ln)) rfl (by kernel_rfl) ⟨HR.out.cell_ (i := 0) rfl, by rw [← H1.out]; exact HP.out.row.cell_ (i := 4) rfl, by rw [← H2.out]; exact HP.out.row.cell_ (i := 5) rfl⟩ (fun hHeld => ?_)
  have HP1 := Lib.hid (HP.out.keep (Only.refl Nil w1).drew)
  have HR1 := Lib.hid HR.out.drew
  have HO1 := Lib.hid HO.out.drew
  clear HP HR HO
  generalize w1.drew = w2 at *
  refine zt 0 rfl ?_
  refine za 1 rfl ?_
  refine za 2 rfl ?_
  refine za 3 rfl ?_
  refine zt 4 rfl ?_
  refine zt 5 rfl ?_
  refine za 6 rfl ?_
  refine za 7 rfl ?_
  refine za 8 rfl ?_
  refine zt 9 rfl ?_
  refine mpc 10 rfl (by kernel_rfl) (by rfl) (fun K hK => ?_)
  go_simp
  refine hK.out _ _ (.inl (by kernel_rfl)) ?_
  clear hK K
  refine wpAnyP_done (by kernel_rfl) ?_ _
  clear hHeld
  have b0 : w2.cell? ⟨gs, 0, none⟩ = some (Value.pointer (some ⟨B, 0, none⟩)) := HR1.out.cell_ (i := 0) rfl
  by_cases g0 : ln = 0
  · rcases g0 with rfl
    go_wp2_with fail
    have e0 := (Only.refl Nil w2).alloc (.cells #[.int .i64 10] 3)
    refine (rchange_make B p A cp nv r 4294901761 _ [10] _ (HP1.out.keep e0) HL.out (whats_1 HP1.out 10) (by decide)).mono ?_
    rintro e w3 ⟨caps, rfl, hO, hC⟩
    have H := Lib.hid (And.intro (e0.trans hO) hC)
    clear hO hC e0
    go_wp2
    go_ret
    exact .inl ⟨_, by decide, caps, rfl, HO1.out.trans H.out.1, by rw [show r.rf = r.fChange 4294901761 [10] from by unfold LS.rf; rw [H1.out, H2.out]; rfl]; exact H.out.2⟩
  have n0 : ¬ ln = 0 := by omega
  clear g0
  go_wp2
  go_ret
  exact .inr ⟨rfl, HO1.out, by exact rf_no8 H1.out (by rw [H2.out]; exact n0)⟩
end Go.Proofs.YtkmkeleifkkbnaaGreat
