import Derived.Test.YtocdbeonogfopaaGreatG16
set_option linter.unusedVariables false
set_option linter.unusedSimpArgs false
namespace Go.Proofs.YtocdbeonogfopaaGreat
open Go.RowKit
theorem wmine_is (B g0 : Nat) (a v : Int) (w : World) (hb : Row w g0 62 #[Value.pointer (some ⟨B, 0, none⟩)]) (c6 : w.cell? ⟨B, 6, none⟩ = some (.int .u32 a)) :
    Calls Tryz.prog 64 #[.int .u32 v, .pointer (some ⟨g0, 0, none⟩)] w fun e w' => e = .returned (.bool (v == a)) ∧ Only Nil w w' := by
  have b0 : w.cell? ⟨g0, 0, none⟩ = some (Value.pointer (some ⟨B, 0, none⟩)) := hb.cell_ (i := 0) rfl
  have hw : IntKind.u32.wrap (a - 256) = (a - 256) % 4294967296 := rfl
  clear hb
  go_enter Tryz.func64, Tryz.ntmps64
  go_wp2
  go_ret
  exact ⟨rfl, Only.refl _ _⟩
theorem wbut_is (B g0 : Nat) (a v : Int) (w : World) (hb : Row w g0 62 #[Value.pointer (some ⟨B, 0, none⟩)]) (c6 : w.cell? ⟨B, 6, none⟩ = some (.int .u32 a)) :
    Calls Tryz.prog 120 #[.int .u32 v, .pointer (some ⟨g0, 0, none⟩)] w fun e w' => e = .returned (.bool (v == (a - 256) % 4294967296)) ∧ Only Nil w w' := by
  have b0 : w.cell? ⟨g0, 0, none⟩ = some (Value.pointer (some ⟨B, 0, none⟩)) := hb.cell_ (i := 0) rfl
  have hw : IntKind.u32.wrap (a - 256) = (a - 256) % 4294967296 := rfl
  clear hb
  go_enter Tryz.func120, Tryz.ntmps120
  go_wp2
  go_ret
  exact ⟨rfl, Only.refl _ _⟩
theorem holds_wmine (B g0 : Nat) (p A : Option Addr) (cp : Nat) (nv : Value) (r : LS) (w : World) (h : RunP w B p A cp nv r) (hb : Row w g0 62 #[Value.pointer (some ⟨B, 0, none⟩)]) : Holds A w (.func (.func 64) #[] #[.pointer (some ⟨g0, 0, none⟩)]) r.mine := by
  intro v w1 hO h0 h1
  have hb1 : Row w1 g0 62 #[Value.pointer (some ⟨B, 0, none⟩)] := h.aside hb hO.turned2 aside_p
  have hr1 : Row w1 B 61 (r.cells (.pointer p) nv) := h.row.only hO (fun e => h.far (.inr e) rfl)
  have c6 : w1.cell? ⟨B, 6, none⟩ = some (.int .u32 r.a) := hr1.cell_ (i := 6) rfl
  have HT := Lib.hid (wmine_is B g0 r.a v w1 hb1 c6)
  clear h hb hO hb1 hr1 c6
  have hn := neq_fn
  go_enter_defers Tryz.func145, Tryz.ntmps145
  go_wp2_with fail
  refine HT.out.mono ?_
  rintro e w2 ⟨rfl, hO⟩
  have HO := Lib.hid hO
  clear hO HT
  have HQ := Lib.hid (show r.mine v = (v == r.a) from rfl)
  generalize hq : (v == r.a) = q at *
  clear hq
  go_wp2
  refine leaves_cons (f := 147) (args := #[]) (by simp) (by simp [go_sem]) ?_
  refine (rec_idle _).mono ?_
  rintro e u' w'' ⟨rfl, rfl, rfl⟩
  exact ⟨_, results_tmp rfl _ _ _, by rw [HQ.out]; rfl, HO.out⟩
theorem holds_wbut (B g0 : Nat) (p A : Option Addr) (cp : Nat) (nv : Value) (r : LS) (w : World) (h : RunP w B p A cp nv r) (hb : Row w g0 62 #[Value.pointer (some ⟨B, 0, none⟩)]) : Holds A w (.func (.func 120) #[] #[.pointer (some ⟨g0, 0, none⟩)]) r.butMe := by
  intro v w1 hO h0 h1
  have hb1 : Row w1 g0 62 #[Value.pointer (some ⟨B, 0, none⟩)] := h.aside hb hO.turned2 aside_p
  have hr1 : Row w1 B 61 (r.cells (.pointer p) nv) := h.row.only hO (fun e => h.far (.inr e) rfl)
  have c6 : w1.cell? ⟨B, 6, none⟩ = some (.int .u32 r.a) := hr1.cell_ (i := 6) rfl
  have HT := Lib.hid (wbut_is B g0 r.a v w1 hb1 c6)
  clear h hb hO hb1 hr1 c6
  have hn := neq_fn
  go_enter_defers Tryz.func145, Tryz.ntmps145
  go_wp2_with fail
  refine HT.out.mono ?_
  rintro e w2 ⟨rfl, hO⟩
  have HO := Lib.hid hO
  clear hO HT
  have HQ := Lib.hid (show r.butMe v = (v == (r.a - 256) % 4294967296) from rfl)
  generalize hq : (v == (r.a - 256) % 4294967296) = q at *
  clear hq
  go_wp2
  refine leaves_cons (f := 147) (args := #[]) (by simp) (by simp [go_sem]) ?_
  refine (rec_idle _).mono ?_
  rintro e u' w'' ⟨rfl, rfl, rfl⟩
  exact ⟨_, results_tmp rfl _ _ _, by rw [HQ.out]; rfl, HO.out⟩
set_option maxHeartbeats 1000000 in
theorem wread_clo (B : Nat) (p A : Option Addr) (cp : Nat) (nv : Value) (r : LS) (g0 : Nat) (w : World) (h : RunP w B p A cp nv r) (hl : r.ns.length ≤ 900) (hx : Words r.xs) (hb : RowsL w [(g0, 62, #[Value.pointer (some ⟨B, 0, none⟩)])]) :
    Calls Tryz.prog 62 #[.pointer (some ⟨g0, 0, none⟩)] w (Done B p A cp w (.tuple #[]) (r.pAdmit 1 r.mine)) := by
  generalize hsn : (r.stepR 1 r.mine).seen = sn
  generalize hdn : (r.stepR 1 r.mine).done = dn
  rw [show (r.pAdmit 1 r.mine) = if dn then ((r.wait 1 r.mine).noteIf sn 4).fin true else (r.wait 1 r.mine).noteIf sn 4 by unfold LS.pAdmit; rw [hdn, hsn]]
  obtain ⟨rw1, hw1⟩ : ∃ rw1, r.wait 1 r.mine = rw1 := ⟨_, rfl⟩
  have HLN := Lib.hid (show rw1.ns.length ≤ 1000 from by rw [← hw1]; exact Nat.le_trans hl (by decide))
  rw [hw1]
  have HW1 := Lib.hid hw1
  obtain ⟨RR, hRR⟩ : ∃ RR, (if dn then (rw1.noteIf sn 4).fin true else rw1.noteIf sn 4) = RR := ⟨_, rfl⟩
  rw [hRR]
  have HRR := Lib.hid hRR
  clear hRR hw1
  have HSN := Lib.hid hsn
  have HDN := Lib.hid hdn
  have HX := Lib.hid hx
  clear hsn hdn hx
  have HP0 := Lib.hid h
  have HB0 := Lib.hid hb
  have HL := Lib.hid hl
  have HO0 := Lib.hid (Only.refl (TurnB B A) w)
  clear h hb hl
  have b0 : w.cell? ⟨g0, 0, none⟩ = some (Value.pointer (some ⟨B, 0, none⟩)) := (show Row w g0 62 #[Value.pointer (some ⟨B, 0, none⟩)] from HB0.out _ (.head _)).cell_ (i := 0) rfl
  go_enter Tryz.func62, Tryz.ntmps62
  go_wp2_with fail
  clear b0
  refine (wait_run B p A cp nv r 1 (.func 64) #[] #[.pointer (some ⟨g0, 0, none⟩)] r.mine _ HP0.out (holds_wmine B g0 p A cp nv r _ HP0.out (HB0.out _ (.head _))) HX.out).mono ?_
  rw [HSN.out, HDN.out, HW1.out]
  clear HSN HDN HW1
  rintro e w2 ⟨rfl, hO, nv2, hP⟩
  have HO2 := Lib.hid (HO0.out.trans hO)
  have HB2 := Lib.hid (HB0.out.turn HP0.out hO aside_1)
  have HP2 := Lib.hid hP
  clear hO hP HP0 HO0 HB0
  cases sn
  all_goals cases dn
  · have eR : rw1 = RR := HRR.out
    subst eR
    go_wp2
    go_returns
    exact ⟨rfl, HO2.out, nv2, HP2.out⟩
  · have eR : rw1.fin true = RR := HRR.out
    subst eR
    have b0 : w2.cell? ⟨g0, 0, none⟩ = some (Value.pointer (some ⟨B, 0, none⟩)) := (show Row w2 g0 62 #[Value.pointer (some ⟨B, 0, none⟩)] from HB2.out _ (.head _)).cell_ (i := 0) rfl
    go_wp2_with fail
    clear b0
    refine (end_run B p A cp nv2 _ _ true HP2.out).mono ?_
    rintro e w4 ⟨rfl, hO, nv4, hP⟩
    have HO4 := Lib.hid (HO2.out.trans hO)
    have HP4 := Lib.hid hP
    clear hO hP
    go_wp2
    go_returns
    exact ⟨rfl, HO4.out, nv4, HP4.out⟩
  · have eR : rw1.note 4 0 = RR := HRR.out
    subst eR
    have b0 : w2.cell? ⟨g0, 0, none⟩ = some (Value.pointer (some ⟨B, 0, none⟩)) := (show Row w2 g0 62 #[Value.pointer (some ⟨B, 0, none⟩)] from HB2.out _ (.head _)).cell_ (i := 0) rfl
    go_wp2_with fail
    clear b0
    refine (note_run B p A cp nv2 _ 4 0 _ HP2.out HLN.out).mono ?_
    rintro e w4 ⟨rfl, hO, nv4, hP⟩
    have HO4 := Lib.hid (HO2.out.trans hO)
    have HP4 := Lib.hid hP
    clear hO hP
    go_wp2
    go_returns
    exact ⟨rfl, HO4.out, nv4, HP4.out⟩
  · have eR : (rw1.note 4 0).fin true = RR := HRR.out
    subst eR
    have b0 : w2.cell? ⟨g0, 0, none⟩ = some (Value.pointer (some ⟨B, 0, none⟩)) := (show Row w2 g0 62 #[Value.pointer (some ⟨B, 0, none⟩)] from HB2.out _ (.head _)).cell_ (i := 0) rfl
    go_wp2_with fail
    clear b0
    refine (note_run B p A cp nv2 _ 4 0 _ HP2.out HLN.out).mono ?_
    rintro e w3 ⟨rfl, hO, nv3, hP⟩
    have HO3 := Lib.hid (HO2.out.trans hO)
    have HB3 := Lib.hid (HB2.out.turn HP2.out hO aside_1)
    have HP3 := Lib.hid hP
    clear hO hP HP2 HO2 HB2
    have b0 : w3.cell? ⟨g0, 0, none⟩ = some (Value.pointer (some ⟨B, 0, none⟩)) := (show Row w3 g0 62 #[Value.pointer (some ⟨B, 0, none⟩)] from HB3.out _ (.head _)).cell_ (i := 0) rfl
    go_wp2_with fail
    clear b0
    refine (end_run B p A cp nv3 _ _ true HP3.out).mono ?_
    rintro e w4 ⟨rfl, hO, nv4, hP⟩
    have HO4 := Lib.hid (HO3.out.trans hO)
    have HP4 := Lib.hid hP
    clear hO hP
    go_wp2
    go_returns
    exact ⟨rfl, HO4.out, nv4, HP4.out⟩
theorem wread_make (B : Nat) (p A : Option Addr) (cp : Nat) (nv : Value) (r : LS) (w : World) (h : RunP w B p A cp nv r) (hl : r.ns.length ≤ 900) (hx : Words r.xs) :
    Calls Tryz.prog 42 #[Value.pointer (some ⟨B, 0, none⟩)] w (Clo 62 B p A cp (r.pAdmit 1 r.mine) w) := by
  have e0 := (Only.refl Nil w).alloc (.cells #[Value.pointer (some ⟨B, 0, none⟩)] 62)
  have HC := Lib.hid (wread_clo B p A cp nv r w.heap.size _ (h.keep e0) hl hx (RowsL.cons (L := []) (fun _ h => by simp at h) (Row.new w 62 #[Value.pointer (some ⟨B, 0, none⟩)])))
  have HE := Lib.hid e0
  clear h hl hx e0
  go_enter Tryz.func42, Tryz.ntmps42
  go_wp2
  go_ret
  exact ⟨_, rfl, HE.out, HC.out⟩
set_option maxHeartbeats 1000000 in
theorem wothers_clo (B : Nat) (p A : Option Addr) (cp : Nat) (nv : Value) (r : LS) (g0 : Nat) (w : World) (h : RunP w B p A cp nv r) (hl : r.ns.length ≤ 900) (hx : Words r.xs) (hb : RowsL w [(g0, 62, #[Value.pointer (some ⟨B, 0, none⟩)])]) :
    Calls Tryz.prog 119 #[.pointer (some ⟨g0, 0, none⟩)] w (Done B p A cp w (.tuple #[]) r.wOthers) := by
  generalize hsn : (r.stepR 1 r.butMe).seen = sn
  generalize hdn : (r.stepR 1 r.butMe).done = dn
  rw [show r.wOthers = if dn then ((r.wait 1 r.butMe).noteIf sn 9).go 7 else (r.wait 1 r.butMe).noteIf sn 9 by unfold LS.wOthers; rw [hdn, hsn]]
  obtain ⟨rw1, hw1⟩ : ∃ rw1, r.wait 1 r.butMe = rw1 := ⟨_, rfl⟩
  have HLN := Lib.hid (show rw1.ns.length ≤ 1000 from by rw [← hw1]; exact Nat.le_trans hl (by decide))
  rw [hw1]
  have HW1 := Lib.hid hw1
  obtain ⟨RR, hRR⟩ : ∃ RR, (if dn then (rw1.noteIf sn 9).go 7 else rw1.noteIf sn 9) = RR := ⟨_, rfl⟩
  rw [hRR]
  have HRR := Lib.hid hRR
  clear hRR hw1
  have HSN := Lib.hid hsn
  have HDN := Lib.hid hdn
  have HX := Lib.hid hx
  clear hsn hdn hx
  have HP0 := Lib.hid h
  have HB0 := Lib.hid hb
  have HL := Lib.hid hl
  have HO0 := Lib.hid (Only.refl (TurnB B A) w)
  clear h hb hl
  have b0 : w.cell? ⟨g0, 0, none⟩ = some (Value.pointer (some ⟨B, 0, none⟩)) := (show Row w g0 62 #[Value.pointer (some ⟨B, 0, none⟩)] from HB0.out _ (.head _)).cell_ (i := 0) rfl
  go_enter Tryz.func119, Tryz.ntmps119
  go_wp2_with fail
  clear b0
  refine (wait_run B p A cp nv r 1 (.func 120) #[] #[.pointer (some ⟨g0, 0, none⟩)] r.butMe _ HP0.out (holds_wbut B g0 p A cp nv r _ HP0.out (HB0.out _ (.head _))) HX.out).mono ?_
  rw [HSN.out, HDN.out, HW1.out]
  clear HSN HDN HW1
  rintro e w2 ⟨rfl, hO, nv2, hP⟩
  have HO2 := Lib.hid (HO0.out.trans hO)
  have HB2 := Lib.hid (HB0.out.turn HP0.out hO aside_1)
  have HP2 := Lib.hid hP
  clear hO hP HP0 HO0 HB0
  cases sn
  all_goals cases dn
  · have eR : rw1 = RR := HRR.out
    subst eR
    go_wp2
    go_returns
    exact ⟨rfl, HO2.out, nv2, HP2.out⟩
  · have eR : rw1.go 7 = RR := HRR.out
    subst eR
    have b0 : w2.cell? ⟨g0, 0, none⟩ = some (Value.pointer (some ⟨B, 0, none⟩)) := (show Row w2 g0 62 #[Value.pointer (some ⟨B, 0, none⟩)] from HB2.out _ (.head _)).cell_ (i := 0) rfl
    go_wp2_with fail
    clear b0
    refine (go_run B p A cp nv2 _ 7 _ HP2.out).mono ?_
    rintro e w4 ⟨rfl, hO, nv4, hP⟩
    have HO4 := Lib.hid (HO2.out.trans hO)
    have HP4 := Lib.hid hP
    clear hO hP
    go_wp2
    go_returns
    exact ⟨rfl, HO4.out, nv4, HP4.out⟩
  · have eR : rw1.note 9 0 = RR := HRR.out
    subst eR
    have b0 : w2.cell? ⟨g0, 0, none⟩ = some (Value.pointer (some ⟨B, 0, none⟩)) := (show Row w2 g0 62 #[Value.pointer (some ⟨B, 0, none⟩)] from HB2.out _ (.head _)).cell_ (i := 0) rfl
    go_wp2_with fail
    clear b0
    refine (note_run B p A cp nv2 _ 9 0 _ HP2.out HLN.out).mono ?_
    rintro e w4 ⟨rfl, hO, nv4, hP⟩
    have HO4 := Lib.hid (HO2.out.trans hO)
    have HP4 := Lib.hid hP
    clear hO hP
    go_wp2
    go_returns
    exact ⟨rfl, HO4.out, nv4, HP4.out⟩
  · have eR : (rw1.note 9 0).go 7 = RR := HRR.out
    subst eR
    have b0 : w2.cell? ⟨g0, 0, none⟩ = some (Value.pointer (some ⟨B, 0, none⟩)) := (show Row w2 g0 62 #[Value.pointer (some ⟨B, 0, none⟩)] from HB2.out _ (.head _)).cell_ (i := 0) rfl
    go_wp2_with fail
    clear b0
    refine (note_run B p A cp nv2 _ 9 0 _ HP2.out HLN.out).mono ?_
    rintro e w3 ⟨rfl, hO, nv3, hP⟩
    have HO3 := Lib.hid (HO2.out.trans hO)
    have HB3 := Lib.hid (HB2.out.turn HP2.out hO aside_1)
    have HP3 := Lib.hid hP
    clear hO hP HP2 HO2 HB2
    have b0 : w3.cell? ⟨g0, 0, none⟩ = some (Value.pointer (some ⟨B, 0, none⟩)) := (show Row w3 g0 62 #[Value.pointer (some ⟨B, 0, none⟩)] from HB3.out _ (.head _)).cell_ (i := 0) rfl
    go_wp2_with fail
    clear b0
    refine (go_run B p A cp nv3 _ 7 _ HP3.out).mono ?_
    rintro e w4 ⟨rfl, hO, nv4, hP⟩
    have HO4 := Lib.hid (HO3.out.trans hO)
    have HP4 := Lib.hid hP
    clear hO hP
    go_wp2
    go_returns
    exact ⟨rfl, HO4.out, nv4, HP4.out⟩
theorem wothers_make (B : Nat) (p A : Option Addr) (cp : Nat) (nv : Value) (r : LS) (w : World) (h : RunP w B p A cp nv r) (hl : r.ns.length ≤ 900) (hx : Words r.xs) :
    Calls Tryz.prog 75 #[Value.pointer (some ⟨B, 0, none⟩)] w (Clo 119 B p A cp r.wOthers w) := by
  have e0 := (Only.refl Nil w).alloc (.cells #[Value.pointer (some ⟨B, 0, none⟩)] 62)
  have HC := Lib.hid (wothers_clo B p A cp nv r w.heap.size _ (h.keep e0) hl hx (RowsL.cons (L := []) (fun _ h => by simp at h) (Row.new w 62 #[Value.pointer (some ⟨B, 0, none⟩)])))
  have HE := Lib.hid e0
  clear h hl hx e0
  go_enter Tryz.func75, Tryz.ntmps75
  go_wp2
  go_ret
  exact ⟨_, rfl, HE.out, HC.out⟩
-- weighing
set_option maxHeartbeats 1000000 in
theorem wweigh_clo (B : Nat) (p A : Option Addr) (cp : Nat) (nv : Value) (r : LS) (n : Int) (g0 g1 : Nat) (w : World) (h : RunP w B p A cp nv r) (hl : r.ns.length ≤ 900) (hb : RowsL w [(g0, 62, #[Value.pointer (some ⟨B, 0, none⟩)]), (g1, 3, #[.int .i64 n])]) :
    Calls Tryz.prog 117 #[.pointer (some ⟨g0, 0, none⟩), .pointer (some ⟨g1, 0, none⟩)] w (Done B p A cp w (.tuple #[]) (r.wWeigh n)) := by
  have HLN := Lib.hid (show ((r.doA 1 1 0 0).keepB (wordAt r.xs 1)).ns.length ≤ 1000 from Nat.le_trans hl (by decide))
  generalize hah : aheadI r.a (wordAt r.xs 1) = ah
  by_cases h1 : ah ≤ n
  · rw [show r.wWeigh n = ((r.doA 1 1 0 0).keepB (wordAt r.xs 1)).go 4 by unfold LS.wWeigh; rw [hah, if_pos h1]]
    have HAH := Lib.hid hah
    clear hah
    have HP0 := Lib.hid h
    have HB0 := Lib.hid hb
    have HL := Lib.hid hl
    have HO0 := Lib.hid (Only.refl (TurnB B A) w)
    clear h hb hl
    have b0 : w.cell? ⟨g0, 0, none⟩ = some (Value.pointer (some ⟨B, 0, none⟩)) := (show Row w g0 62 #[Value.pointer (some ⟨B, 0, none⟩)] from HB0.out _ (.head _)).cell_ (i := 0) rfl
    go_enter Tryz.func117, Tryz.ntmps117
    go_upto_region 0 with (fail)
    refine wp_region_phase (n := 7) 6 (fun w => w.cell? ⟨g0, 0, none⟩ = some (Value.pointer (some ⟨B, 0, none⟩))) rfl (by kernel_rfl) b0 (fun hHeld => ?_)
    clear b0
    have HP0b := Lib.hid (HP0.out.keep (Only.refl Nil w).drew)
    have HB0b := Lib.hid (HB0.out.keep (Only.refl Nil w).drew)
    have HO0b := Lib.hid HO0.out.drew
    clear HP0 HB0 HO0
    generalize w.drew = w0 at *
    refine mpt 0 rfl (Value.pointer (some ⟨B, 0, none⟩)) (fun w hSw => ?_) ?_
    · (try dsimp only at hSw)
      go_split_ands
      go_simp
    (try simp only [Act.put, k1, k2, k3])
    refine mpt 1 rfl (Value.pointer (some ⟨B, 0, none⟩)) (fun w hSw => ?_) ?_
    · (try dsimp only at hSw)
      go_split_ands
      go_simp
    (try simp only [Act.put, k1, k2, k3])
    refine mpc 2 rfl (by kernel_rfl) (by rfl) (fun K hK => ?_)
    go_simp
    refine (load_run B p A cp nv r 1 _ HP0b.out).mono ?_
    rintro e w1 ⟨rfl, hO, nv1, hP⟩
    have HO1 := Lib.hid (HO0b.out.trans hO)
    have HB1 := Lib.hid (HB0b.out.turn HP0b.out hO aside_2)
    have HP1 := Lib.hid hP
    clear hO hP HP0b HO0b HB0b
    have hHeld2 : w1.cell? ⟨g0, 0, none⟩ = some (Value.pointer (some ⟨B, 0, none⟩)) := (show Row w1 g0 62 #[Value.pointer (some ⟨B, 0, none⟩)] from HB1.out _ (.head _)).cell_ (i := 0) rfl
    refine hK.out _ _ (.inr hHeld2) ?_
    clear hK K hHeld
    (try simp only [Act.put, k1, k2, k3])
    refine mpa 3 rfl (Value.pointer (some ⟨B, 0, none⟩)) (fun w => ?_) ?_
    · go_simp
    (try simp only [Act.put, k1, k2, k3])
    refine mpa 4 rfl (.pointer (some ⟨B, 4, none⟩)) (fun w => ?_) ?_
    · go_simp
    (try simp only [Act.put, k1, k2, k3])
    refine mpa 5 rfl (.pointer (some ⟨B, 7, none⟩)) (fun w => ?_) ?_
    · go_simp
    (try simp only [Act.put, k1, k2, k3])
    have c7 : w1.cell? ⟨B, 7, none⟩ = some (.int .u32 r.b) := HP1.out.row.cell_ (i := 7) rfl
    have f7 : w1.frozen? ⟨B, 7, none⟩ = false := HP1.out.row.frozen 7
    refine mpc 6 rfl (by kernel_rfl) (by rfl) (fun K hK => ?_)
    go_simp
    have ho := (Only.refl (TurnB B A) w1).setCell (p := ⟨B, 7, none⟩) (.inr (.inl rfl)) (.int .u32 (wordAt r.xs 1))
    have HP2 := Lib.hid (HP1.out.setB (wordAt r.xs 1))
    have HO2 := Lib.hid (HO1.out.trans ho)
    have HB2 := Lib.hid (HB1.out.turn HP1.out ho aside_2)
    refine hK.out _ _ (.inl (by kernel_rfl)) ?_
    clear hK K hHeld2 c7 f7 HP1 HO1 HB1 ho
    generalize w1.setCell ⟨B, 7, none⟩ (.int .u32 (wordAt r.xs 1)) = w2 at *
    (try simp only [Act.put, k1, k2, k3])
    refine wpAnyP_done (by kernel_rfl) ?_ _
    go_upto_region 1 with (fail)
    refine wp_region_phase (n := 13) 12 (fun w => w.cell? ⟨g0, 0, none⟩ = some (Value.pointer (some ⟨B, 0, none⟩)) ∧ w.cell? ⟨B, 6, none⟩ = some (.int .u32 r.a) ∧ w.cell? ⟨B, 7, none⟩ = some (.int .u32 (wordAt r.xs 1)) ∧ w.cell? ⟨g1, 0, none⟩ = some (.int .i64 n)) rfl (by kernel_rfl) ⟨(show Row w2 g0 62 #[Value.pointer (some ⟨B, 0, none⟩)] from HB2.out _ (.head _)).cell_ (i := 0) rfl, HP2.out.row.cell_ (i := 6) rfl, HP2.out.row.cell_ (i := 7) rfl, (show Row w2 g1 3 #[.int .i64 n] from HB2.out _ (.tail _ (.head _))).cell_ (i := 0) rfl⟩ (fun hHeld => ?_)
    have HP3 := Lib.hid (HP2.out.keep (Only.refl Nil w2).drew)
    have HB3 := Lib.hid (HB2.out.keep (Only.refl Nil w2).drew)
    have HO3 := Lib.hid HO2.out.drew
    clear HP2 HB2 HO2
    generalize w2.drew = w3 at *
    refine mpt 0 rfl (Value.pointer (some ⟨B, 0, none⟩)) (fun w hSw => ?_) ?_
    · (try dsimp only at hSw)
      go_split_ands
      go_simp
    (try simp only [Act.put, k1, k2, k3])
    refine mpa 1 rfl (Value.pointer (some ⟨B, 0, none⟩)) (fun w => ?_) ?_
    · go_simp
    (try simp only [Act.put, k1, k2, k3])
    refine mpa 2 rfl (.pointer (some ⟨B, 4, none⟩)) (fun w => ?_) ?_
    · go_simp
    (try simp only [Act.put, k1, k2, k3])
    refine mpa 3 rfl (.pointer (some ⟨B, 6, none⟩)) (fun w => ?_) ?_
    · go_simp
    (try simp only [Act.put, k1, k2, k3])
    refine mpt 4 rfl (.int .u32 r.a) (fun w hSw => ?_) ?_
    · (try dsimp only at hSw)
      go_split_ands
      go_simp
    (try simp only [Act.put, k1, k2, k3])
    refine mpt 5 rfl (Value.pointer (some ⟨B, 0, none⟩)) (fun w hSw => ?_) ?_
    · (try dsimp only at hSw)
      go_split_ands
      go_simp
    (try simp only [Act.put, k1, k2, k3])
    refine mpa 6 rfl (Value.pointer (some ⟨B, 0, none⟩)) (fun w => ?_) ?_
    · go_simp
    (try simp only [Act.put, k1, k2, k3])
    refine mpa 7 rfl (.pointer (some ⟨B, 4, none⟩)) (fun w => ?_) ?_
    · go_simp
    (try simp only [Act.put, k1, k2, k3])
    refine mpa 8 rfl (.pointer (some ⟨B, 7, none⟩)) (fun w => ?_) ?_
    · go_simp
    (try simp only [Act.put, k1, k2, k3])
    refine mpt 9 rfl (.int .u32 (wordAt r.xs 1)) (fun w hSw => ?_) ?_
    · (try dsimp only at hSw)
      go_split_ands
      go_simp
    (try simp only [Act.put, k1, k2, k3])
    refine mpt 11 rfl (.int .i64 n) (fun w hSw => ?_) ?_
    · (try dsimp only at hSw)
      go_split_ands
      go_simp
    (try simp only [Act.put, k1, k2, k3])
    refine mpc 10 rfl (by kernel_rfl) (by rfl) (fun K hK => ?_)
    go_simp
    refine (ahead_any r.a (wordAt r.xs 1) _).mono ?_
    rw [HAH.out]
    rintro e w9 ⟨rfl, rfl⟩
    refine hK.out _ _ (.inr hHeld) ?_
    clear hK K
    (try simp only [Act.put, k1, k2, k3])
    refine mpc 12 rfl (by kernel_rfl) (by rfl) (fun K hK => ?_)
    go_simp
    refine hK.out _ _ (.inl (by kernel_rfl)) ?_
    clear hK K hHeld
    (try simp only [Act.put, k1, k2, k3])
    refine wpAnyP_done (by kernel_rfl) ?_ _
    have b0 : w3.cell? ⟨g0, 0, none⟩ = some (Value.pointer (some ⟨B, 0, none⟩)) := (show Row w3 g0 62 #[Value.pointer (some ⟨B, 0, none⟩)] from HB3.out _ (.head _)).cell_ (i := 0) rfl
    go_wp2_with fail
    clear b0
    refine (go_run B p A cp nv1 _ 4 _ HP3.out).mono ?_
    rintro e w4 ⟨rfl, hO, nv4, hP⟩
    have HO4 := Lib.hid (HO3.out.trans hO)
    have HP4 := Lib.hid hP
    clear hO hP
    go_wp2
    go_returns
    exact ⟨rfl, HO4.out, nv4, HP4.out⟩
  · rw [show r.wWeigh n = (((r.doA 1 1 0 0).keepB (wordAt r.xs 1)).note 5 0).go 8 by unfold LS.wWeigh; rw [hah, if_neg h1]]
    have HAH := Lib.hid hah
    clear hah
    have HP0 := Lib.hid h
    have HB0 := Lib.hid hb
    have HL := Lib.hid hl
    have HO0 := Lib.hid (Only.refl (TurnB B A) w)
    clear h hb hl
    have b0 : w.cell? ⟨g0, 0, none⟩ = some (Value.pointer (some ⟨B, 0, none⟩)) := (show Row w g0 62 #[Value.pointer (some ⟨B, 0, none⟩)] from HB0.out _ (.head _)).cell_ (i := 0) rfl
    go_enter Tryz.func117, Tryz.ntmps117
    go_upto_region 0 with (fail)
    refine wp_region_phase (n := 7) 6 (fun w => w.cell? ⟨g0, 0, none⟩ = some (Value.pointer (some ⟨B, 0, none⟩))) rfl (by kernel_rfl) b0 (fun hHeld => ?_)
    clear b0
    have HP0b := Lib.hid (HP0.out.keep (Only.refl Nil w).drew)
    have HB0b := Lib.hid (HB0.out.keep (Only.refl Nil w).drew)
    have HO0b := Lib.hid HO0.out.drew
    clear HP0 HB0 HO0
    generalize w.drew = w0 at *
    refine mpt 0 rfl (Value.pointer (some ⟨B, 0, none⟩)) (fun w hSw => ?_) ?_
    · (try dsimp only at hSw)
      go_split_ands
      go_simp
    (try simp only [Act.put, k1, k2, k3])
    refine mpt 1 rfl (Value.pointer (some ⟨B, 0, none⟩)) (fun w hSw => ?_) ?_
    · (try dsimp only at hSw)
      go_split_ands
      go_simp
    (try simp only [Act.put, k1, k2, k3])
    refine mpc 2 rfl (by kernel_rfl) (by rfl) (fun K hK => ?_)
    go_simp
    refine (load_run B p A cp nv r 1 _ HP0b.out).mono ?_
    rintro e w1 ⟨rfl, hO, nv1, hP⟩
    have HO1 := Lib.hid (HO0b.out.trans hO)
    have HB1 := Lib.hid (HB0b.out.turn HP0b.out hO aside_2)
    have HP1 := Lib.hid hP
    clear hO hP HP0b HO0b HB0b
    have hHeld2 : w1.cell? ⟨g0, 0, none⟩ = some (Value.pointer (some ⟨B, 0, none⟩)) := (show Row w1 g0 62 #[Value.pointer (some ⟨B, 0, none⟩)] from HB1.out _ (.head _)).cell_ (i := 0) rfl
    refine hK.out _ _ (.inr hHeld2) ?_
    clear hK K hHeld
    (try simp only [Act.put, k1, k2, k3])
    refine mpa 3 rfl (Value.pointer (some ⟨B, 0, none⟩)) (fun w => ?_) ?_
    · go_simp
    (try simp only [Act.put, k1, k2, k3])
    refine mpa 4 rfl (.pointer (some ⟨B, 4, none⟩)) (fun w => ?_) ?_
    · go_simp
    (try simp only [Act.put, k1, k2, k3])
    refine mpa 5 rfl (.pointer (some ⟨B, 7, none⟩)) (fun w => ?_) ?_
    · go_simp
    (try simp only [Act.put, k1, k2, k3])
    have c7 : w1.cell? ⟨B, 7, none⟩ = some (.int .u32 r.b) := HP1.out.row.cell_ (i := 7) rfl
    have f7 : w1.frozen? ⟨B, 7, none⟩ = false := HP1.out.row.frozen 7
    refine mpc 6 rfl (by kernel_rfl) (by rfl) (fun K hK => ?_)
    go_simp
    have ho := (Only.refl (TurnB B A) w1).setCell (p := ⟨B, 7, none⟩) (.inr (.inl rfl)) (.int .u32 (wordAt r.xs 1))
    have HP2 := Lib.hid (HP1.out.setB (wordAt r.xs 1))
    have HO2 := Lib.hid (HO1.out.trans ho)
    have HB2 := Lib.hid (HB1.out.turn HP1.out ho aside_2)
    refine hK.out _ _ (.inl (by kernel_rfl)) ?_
    clear hK K hHeld2 c7 f7 HP1 HO1 HB1 ho
    generalize w1.setCell ⟨B, 7, none⟩ (.int .u32 (wordAt r.xs 1)) = w2 at *
    (try simp only [Act.put, k1, k2, k3])
    refine wpAnyP_done (by kernel_rfl) ?_ _
    go_upto_region 1 with (fail)
    refine wp_region_phase (n := 13) 12 (fun w => w.cell? ⟨g0, 0, none⟩ = some (Value.pointer (some ⟨B, 0, none⟩)) ∧ w.cell? ⟨B, 6, none⟩ = some (.int .u32 r.a) ∧ w.cell? ⟨B, 7, none⟩ = some (.int .u32 (wordAt r.xs 1)) ∧ w.cell? ⟨g1, 0, none⟩ = some (.int .i64 n)) rfl (by kernel_rfl) ⟨(show Row w2 g0 62 #[Value.pointer (some ⟨B, 0, none⟩)] from HB2.out _ (.head _)).cell_ (i := 0) rfl, HP2.out.row.cell_ (i := 6) rfl, HP2.out.row.cell_ (i := 7) rfl, (show Row w2 g1 3 #[.int .i64 n] from HB2.out _ (.tail _ (.head _))).cell_ (i := 0) rfl⟩ (fun hHeld => ?_)
    have HP3 := Lib.hid (HP2.out.keep (Only.refl Nil w2).drew)
    have HB3 := Lib.hid (HB2.out.keep (Only.refl Nil w2).drew)
    have HO3 := Lib.hid HO2.out.drew
    clear HP2 HB2 HO2
    generalize w2.drew = w3 at *
    refine mpt 0 rfl (Value.pointer (some ⟨B, 0, none⟩)) (fun w hSw => ?_) ?_
    · (try dsimp only at hSw)
      go_split_ands
      go_simp
    (try simp only [Act.put, k1, k2, k3])
    refine mpa 1 rfl (Value.pointer (some ⟨B, 0, none⟩)) (fun w => ?_) ?_
    · go_simp
    (try simp only [Act.put, k1, k2, k3])
    refine mpa 2 rfl (.pointer (some ⟨B, 4, none⟩)) (fun w => ?_) ?_
    · go_simp
    (try simp only [Act.put, k1, k2, k3])
    refine mpa 3 rfl (.pointer (some ⟨B, 6, none⟩)) (fun w => ?_) ?_
    · go_simp
    (try simp only [Act.put, k1, k2, k3])
    refine mpt 4 rfl (.int .u32 r.a) (fun w hSw => ?_) ?_
    · (try dsimp only at hSw)
      go_split_ands
      go_simp
    (try simp only [Act.put, k1, k2, k3])
    refine mpt 5 rfl (Value.pointer (some ⟨B, 0, none⟩)) (fun w hSw => ?_) ?_
    · (try dsimp only at hSw)
      go_split_ands
      go_simp
    (try simp only [Act.put, k1, k2, k3])
    refine mpa 6 rfl (Value.pointer (some ⟨B, 0, none⟩)) (fun w => ?_) ?_
    · go_simp
    (try simp only [Act.put, k1, k2, k3])
    refine mpa 7 rfl (.pointer (some ⟨B, 4, none⟩)) (fun w => ?_) ?_
    · go_simp
    (try simp only [Act.put, k1, k2, k3])
    refine mpa 8 rfl (.pointer (some ⟨B, 7, none⟩)) (fun w => ?_) ?_
    · go_simp
    (try simp only [Act.put, k1, k2, k3])
    refine mpt 9 rfl (.int .u32 (wordAt r.xs 1)) (fun w hSw => ?_) ?_
    · (try dsimp only at hSw)
      go_split_ands
      go_simp
    (try simp only [Act.put, k1, k2, k3])
    refine mpt 11 rfl (.int .i64 n) (fun w hSw => ?_) ?_
    · (try dsimp only at hSw)
      go_split_ands
      go_simp
    (try simp only [Act.put, k1, k2, k3])
    refine mpc 10 rfl (by kernel_rfl) (by rfl) (fun K hK => ?_)
    go_simp
    refine (ahead_any r.a (wordAt r.xs 1) _).mono ?_
    rw [HAH.out]
    rintro e w9 ⟨rfl, rfl⟩
    refine hK.out _ _ (.inr hHeld) ?_
    clear hK K
    (try simp only [Act.put, k1, k2, k3])
    refine mpc 12 rfl (by kernel_rfl) (by rfl) (fun K hK => ?_)
    go_simp
    refine hK.out _ _ (.inl (by kernel_rfl)) ?_
    clear hK K hHeld
    (try simp only [Act.put, k1, k2, k3])
    refine wpAnyP_done (by kernel_rfl) ?_ _
    have b0 : w3.cell? ⟨g0, 0, none⟩ = some (Value.pointer (some ⟨B, 0, none⟩)) := (show Row w3 g0 62 #[Value.pointer (some ⟨B, 0, none⟩)] from HB3.out _ (.head _)).cell_ (i := 0) rfl
    go_wp2_with fail
    clear b0
    refine (note_run B p A cp nv1 _ 5 0 _ HP3.out HLN.out).mono ?_
    rintro e w5 ⟨rfl, hO, nv5, hP⟩
    have HO5 := Lib.hid (HO3.out.trans hO)
    have HB5 := Lib.hid (HB3.out.turn HP3.out hO aside_2)
    have HP5 := Lib.hid hP
    clear hO hP HP3 HO3 HB3
    have b0 : w5.cell? ⟨g0, 0, none⟩ = some (Value.pointer (some ⟨B, 0, none⟩)) := (show Row w5 g0 62 #[Value.pointer (some ⟨B, 0, none⟩)] from HB5.out _ (.head _)).cell_ (i := 0) rfl
    go_wp2_with fail
    clear b0
    refine (go_run B p A cp nv5 _ 8 _ HP5.out).mono ?_
    rintro e w4 ⟨rfl, hO, nv4, hP⟩
    have HO4 := Lib.hid (HO5.out.trans hO)
    have HP4 := Lib.hid hP
    clear hO hP
    go_wp2
    go_returns
    exact ⟨rfl, HO4.out, nv4, HP4.out⟩
theorem wweigh_make (B : Nat) (p A : Option Addr) (cp : Nat) (nv : Value) (r : LS) (n : Int) (w : World) (h : RunP w B p A cp nv r) (hl : r.ns.length ≤ 900) :
    Calls Tryz.prog 74 #[Value.pointer (some ⟨B, 0, none⟩), .int .i64 n] w (Clo 117 B p A cp (r.wWeigh n) w) := by
  have e0 := ((Only.refl Nil w).alloc (.cells #[Value.pointer (some ⟨B, 0, none⟩)] 62)).alloc (.cells #[.int .i64 n] 3)
  have HC := Lib.hid (wweigh_clo B p A cp nv r n w.heap.size (w.heap.size + 1) _ (h.keep e0) hl (RowsL.cons (L := [_]) (RowsL.cons (L := []) (fun _ h => by simp at h) (Row.at (by simp))) ((Row.new w 62 #[Value.pointer (some ⟨B, 0, none⟩)]).alloc _)))
  have HE := Lib.hid e0
  clear h hl e0
  go_enter Tryz.func74, Tryz.ntmps74
  go_wp2
  go_ret
  exact ⟨_, rfl, HE.out, HC.out⟩
end Go.Proofs.YtocdbeonogfopaaGreat
set_option linter.unusedVariables false
set_option linter.unusedSimpArgs false
namespace Go.Proofs.YtocdbeonogfopaaGreat
open Go.RowKit
set_option maxRecDepth 100000 in
set_option maxHeartbeats 4000000 in
theorem stepOf_3_0 (B : Nat) (p A : Option Addr) (cp : Nat) (nv : Value) (r : LS) (w : World) (h : RunP w B p A cp nv r) (hl : r.ns.length ≤ 900) (hx : Words r.xs) (ha : 0 ≤ r.a ∧ r.a < 4294967296) (hb : 0 ≤ r.b ∧ r.b < 4294967296) (h1 : r.op = 3) (h2 : r.line = 0 ∨ r.line = 1 ∨ r.line = 2 ∨ r.line = 3 ∨ r.line = 4) :
    Calls Tryz.prog 32 #[Value.pointer (some ⟨B, 0, none⟩)] w (Clo 53 B p A cp r.pq w) := by
  have HT := Lib.hid (show r.pq = r.wEnter by (rcases h2 with h2 | h2 | h2 | h2 | h2 <;> (unfold LS.pq; rw [h1, h2]; rfl)))
  have H1 := Lib.hid h1
  have HH := Lib.hid h2
  clear h1 h2
  obtain ⟨ln, H2⟩ : ∃ ln, Hid (r.line = ln) := ⟨_, Lib.hid rfl⟩
  have HX := Lib.hid hx
  have HL := Lib.hid hl
  have HA := Lib.hid ha
  have HB := Lib.hid hb
  have HP := Lib.hid h
  have c4 : w.cell? ⟨B, 4, none⟩ = some (.int .i64 (3)) := by rw [← H1.out]; exact HP.out.row.cell_ (i := 4) rfl
  have c5 : w.cell? ⟨B, 5, none⟩ = some (.int .i64 (ln)) := by rw [← H2.out]; exact HP.out.row.cell_ (i := 5) rfl
  clear h hl hx ha hb
  go_enter Tryz.func32, Tryz.ntmps32
  go_upto_region 1 with (fail)
  refine wp_region_phase (n := 11) 10 (fun w => w.cell? ⟨B, 4, none⟩ = some (.int .i64 (3)) ∧ w.cell? ⟨B, 5, none⟩ = some (.int .i64 (ln))) rfl (by kernel_rfl) ⟨c4, c5⟩ (fun hHeld => ?_)
  clear c4 c5
  have HP1 := Lib.hid (HP.out.keep (Only.refl Nil w).drew)
  have HO1 := Lib.hid (Only.refl Nil w).drew
  clear HP
  generalize w.drew = w2 at *
  refine mpa 0 rfl (Value.pointer (some ⟨B, 0, none⟩)) (fun w => ?_) ?_
  · go_simp
  (try simp only [Act.put, k1, k2, k3])
  refine mpa 1 rfl (Value.pointer (some ⟨B, 0, none⟩)) (fun w => ?_) ?_
  · go_simp
  (try simp only [Act.put, k1, k2, k3])
  refine mpa 2 rfl (.pointer (some ⟨B, 4, none⟩)) (fun w => ?_) ?_
  · go_simp
  (try simp only [Act.put, k1, k2, k3])
  refine mpa 3 rfl (.pointer (some ⟨B, 4, none⟩)) (fun w => ?_) ?_
  · go_simp
  (try simp only [Act.put, k1, k2, k3])
  refine mpt 4 rfl (.int .i64 (3)) (fun w hSw => ?_) ?_
  · (try dsimp only at hSw)
    go_split_ands
    go_simp
  (try simp only [Act.put, k1, k2, k3])
  refine mpa 5 rfl (Value.pointer (some ⟨B, 0, none⟩)) (fun w => ?_) ?_
  · go_simp
  (try simp only [Act.put, k1, k2, k3])
  refine mpa 6 rfl (Value.pointer (some ⟨B, 0, none⟩)) (fun w => ?_) ?_
  · go_simp
  (try simp only [Act.put, k1, k2, k3])
  refine mpa 7 rfl (.pointer (some ⟨B, 4, none⟩)) (fun w => ?_) ?_
  · go_simp
  (try simp only [Act.put, k1, k2, k3])
  refine mpa 8 rfl (.pointer (some ⟨B, 5, none⟩)) (fun w => ?_) ?_
  · go_simp
  (try simp only [Act.put, k1, k2, k3])
  refine mpt 9 rfl (.int .i64 (ln)) (fun w hSw => ?_) ?_
  · (try dsimp only at hSw)
    go_split_ands
    go_simp
  (try simp only [Act.put, k1, k2, k3])
  refine mpc 10 rfl (by kernel_rfl) (by rfl) (fun K hK => ?_)
  go_simp
  refine hK.out _ _ (.inl (by kernel_rfl)) ?_
  clear hK K
  (try simp only [Act.put, k1, k2, k3])
  refine wpAnyP_done (by kernel_rfl) ?_ _
  clear hHeld
  have hln := HH.out
  clear HH
  rw [H2.out] at hln
  rcases hln with rfl | rfl | rfl | rfl | rfl
  all_goals
    go_wp2_with fail
    have hc := wenter_make B p A cp nv r _ HP1.out HL.out HX.out HA.out
    rw [← HT.out] at hc
    refine hc.mono ?_
    rintro e w3 ⟨caps, rfl, hO, hC⟩
    have HO3 := Lib.hid (HO1.out.trans hO)
    have HC3 := Lib.hid hC
    clear hO hC hc
    go_wp2
    go_ret
    exact ⟨caps, rfl, HO3.out, HC3.out⟩
set_option maxRecDepth 100000 in
set_option maxHeartbeats 4000000 in
theorem tryOf_6_3 (B : Nat) (p A : Option Addr) (cp : Nat) (nv : Value) (r : LS) (w : World) (h : RunP w B p A cp nv r) (hl : r.ns.length ≤ 900) (hx : Words r.xs) (ha : 0 ≤ r.a ∧ r.a < 4294967296) (hb : 0 ≤ r.b ∧ r.b < 4294967296) (h1 : r.op = 6) (h2 : r.line = 3) :
    Calls Tryz.prog 46 #[Value.pointer (some ⟨B, 0, none⟩)] w (Clo 117 B p A cp r.pq w) := by
  have HT := Lib.hid (show r.pq = r.wWeigh 0 by unfold LS.pq; rw [h1, h2]; rfl)
  have H1 := Lib.hid h1
  have HH := Lib.hid h2
  clear h1 h2
  obtain ⟨ln, H2⟩ : ∃ ln, Hid (r.line = ln) := ⟨_, Lib.hid rfl⟩
  have HX := Lib.hid hx
  have HL := Lib.hid hl
  have HA := Lib.hid ha
  have HB := Lib.hid hb
  have HP := Lib.hid h
  have c4 : w.cell? ⟨B, 4, none⟩ = some (.int .i64 (6)) := by rw [← H1.out]; exact HP.out.row.cell_ (i := 4) rfl
  have c5 : w.cell? ⟨B, 5, none⟩ = some (.int .i64 (ln)) := by rw [← H2.out]; exact HP.out.row.cell_ (i := 5) rfl
  clear h hl hx ha hb
  go_enter Tryz.func46, Tryz.ntmps46
  go_upto_region 1 with (fail)
  refine wp_region_phase (n := 11) 10 (fun w => w.cell? ⟨B, 4, none⟩ = some (.int .i64 (6)) ∧ w.cell? ⟨B, 5, none⟩ = some (.int .i64 (ln))) rfl (by kernel_rfl) ⟨c4, c5⟩ (fun hHeld => ?_)
  clear c4 c5
  have HP1 := Lib.hid (HP.out.keep (Only.refl Nil w).drew)
  have HO1 := Lib.hid (Only.refl Nil w).drew
  clear HP
  generalize w.drew = w2 at *
  refine mpa 0 rfl (Value.pointer (some ⟨B, 0, none⟩)) (fun w => ?_) ?_
  · go_simp
  (try simp only [Act.put, k1, k2, k3])
  refine mpa 1 rfl (Value.pointer (some ⟨B, 0, none⟩)) (fun w => ?_) ?_
  · go_simp
  (try simp only [Act.put, k1, k2, k3])
  refine mpa 2 rfl (.pointer (some ⟨B, 4, none⟩)) (fun w => ?_) ?_
  · go_simp
  (try simp only [Act.put, k1, k2, k3])
  refine mpa 3 rfl (.pointer (some ⟨B, 4, none⟩)) (fun w => ?_) ?_
  · go_simp
  (try simp only [Act.put, k1, k2, k3])
  refine mpt 4 rfl (.int .i64 (6)) (fun w hSw => ?_) ?_
  · (try dsimp only at hSw)
    go_split_ands
    go_simp
  (try simp only [Act.put, k1, k2, k3])
  refine mpa 5 rfl (Value.pointer (some ⟨B, 0, none⟩)) (fun w => ?_) ?_
  · go_simp
  (try simp only [Act.put, k1, k2, k3])
  refine mpa 6 rfl (Value.pointer (some ⟨B, 0, none⟩)) (fun w => ?_) ?_
  · go_simp
  (try simp only [Act.put, k1, k2, k3])
  refine mpa 7 rfl (.pointer (some ⟨B, 4, none⟩)) (fun w => ?_) ?_
  · go_simp
  (try simp only [Act.put, k1, k2, k3])
  refine mpa 8 rfl (.pointer (some ⟨B, 5, none⟩)) (fun w => ?_) ?_
  · go_simp
  (try simp only [Act.put, k1, k2, k3])
  refine mpt 9 rfl (.int .i64 (ln)) (fun w hSw => ?_) ?_
  · (try dsimp only at hSw)
    go_split_ands
    go_simp
  (try simp only [Act.put, k1, k2, k3])
  refine mpc 10 rfl (by kernel_rfl) (by rfl) (fun K hK => ?_)
  go_simp
  refine hK.out _ _ (.inl (by kernel_rfl)) ?_
  clear hK K
  (try simp only [Act.put, k1, k2, k3])
  refine wpAnyP_done (by kernel_rfl) ?_ _
  clear hHeld
  have hln := HH.out
  clear HH
  rw [H2.out] at hln
  rcases hln with rfl
  all_goals
    go_wp2_with fail
    have hc := wweigh_make B p A cp nv r 0 _ HP1.out HL.out
    rw [← HT.out] at hc
    refine hc.mono ?_
    rintro e w3 ⟨caps, rfl, hO, hC⟩
    have HO3 := Lib.hid (HO1.out.trans hO)
    have HC3 := Lib.hid hC
    clear hO hC hc
    go_wp2
    go_ret
    exact ⟨caps, rfl, HO3.out, HC3.out⟩
set_option maxRecDepth 100000 in
set_option maxHeartbeats 4000000 in
theorem tryOf_7_5 (B : Nat) (p A : Option Addr) (cp : Nat) (nv : Value) (r : LS) (w : World) (h : RunP w B p A cp nv r) (hl : r.ns.length ≤ 900) (hx : Words r.xs) (ha : 0 ≤ r.a ∧ r.a < 4294967296) (hb : 0 ≤ r.b ∧ r.b < 4294967296) (h1 : r.op = 7) (h2 : r.line = 5) :
    Calls Tryz.prog 46 #[Value.pointer (some ⟨B, 0, none⟩)] w (Clo 58 B p A cp r.pq w) := by
  have HT := Lib.hid (show r.pq = r.pAppear 6 by unfold LS.pq; rw [h1, h2]; rfl)
  have H1 := Lib.hid h1
  have HH := Lib.hid h2
  clear h1 h2
  obtain ⟨ln, H2⟩ : ∃ ln, Hid (r.line = ln) := ⟨_, Lib.hid rfl⟩
  have HX := Lib.hid hx
  have HL := Lib.hid hl
  have HA := Lib.hid ha
  have HB := Lib.hid hb
  have HP := Lib.hid h
  have c4 : w.cell? ⟨B, 4, none⟩ = some (.int .i64 (7)) := by rw [← H1.out]; exact HP.out.row.cell_ (i := 4) rfl
  have c5 : w.cell? ⟨B, 5, none⟩ = some (.int .i64 (ln)) := by rw [← H2.out]; exact HP.out.row.cell_ (i := 5) rfl
  clear h hl hx ha hb
  go_enter Tryz.func46, Tryz.ntmps46
  go_upto_region 1 with (fail)
  refine wp_region_phase (n := 11) 10 (fun w => w.cell? ⟨B, 4, none⟩ = some (.int .i64 (7)) ∧ w.cell? ⟨B, 5, none⟩ = some (.int .i64 (ln))) rfl (by kernel_rfl) ⟨c4, c5⟩ (fun hHeld => ?_)
  clear c4 c5
  have HP1 := Lib.hid (HP.out.keep (Only.refl Nil w).drew)
  have HO1 := Lib.hid (Only.refl Nil w).drew
  clear HP
  generalize w.drew = w2 at *
  refine mpa 0 rfl (Value.pointer (some ⟨B, 0, none⟩)) (fun w => ?_) ?_
  · go_simp
  (try simp only [Act.put, k1, k2, k3])
  refine mpa 1 rfl (Value.pointer (some ⟨B, 0, none⟩)) (fun w => ?_) ?_
  · go_simp
  (try simp only [Act.put, k1, k2, k3])
  refine mpa 2 rfl (.pointer (some ⟨B, 4, none⟩)) (fun w => ?_) ?_
  · go_simp
  (try simp only [Act.put, k1, k2, k3])
  refine mpa 3 rfl (.pointer (some ⟨B, 4, none⟩)) (fun w => ?_) ?_
  · go_simp
  (try simp only [Act.put, k1, k2, k3])
  refine mpt 4 rfl (.int .i64 (7)) (fun w hSw => ?_) ?_
  · (try dsimp only at hSw)
    go_split_ands
    go_simp
  (try simp only [Act.put, k1, k2, k3])
  refine mpa 5 rfl (Value.pointer (some ⟨B, 0, none⟩)) (fun w => ?_) ?_
  · go_simp
  (try simp only [Act.put, k1, k2, k3])
  refine mpa 6 rfl (Value.pointer (some ⟨B, 0, none⟩)) (fun w => ?_) ?_
  · go_simp
  (try simp only [Act.put, k1, k2, k3])
  refine mpa 7 rfl (.pointer (some ⟨B, 4, none⟩)) (fun w => ?_) ?_
  · go_simp
  (try simp only [Act.put, k1, k2, k3])
  refine mpa 8 rfl (.pointer (some ⟨B, 5, none⟩)) (fun w => ?_) ?_
  · go_simp
  (try simp only [Act.put, k1, k2, k3])
  refine mpt 9 rfl (.int .i64 (ln)) (fun w hSw => ?_) ?_
  · (try dsimp only at hSw)
    go_split_ands
    go_simp
  (try simp only [Act.put, k1, k2, k3])
  refine mpc 10 rfl (by kernel_rfl) (by rfl) (fun K hK => ?_)
  go_simp
  refine hK.out _ _ (.inl (by kernel_rfl)) ?_
  clear hK K
  (try simp only [Act.put, k1, k2, k3])
  refine wpAnyP_done (by kernel_rfl) ?_ _
  clear hHeld
  have hln := HH.out
  clear HH
  rw [H2.out] at hln
  rcases hln with rfl
  all_goals
    go_wp2_with fail
    have hc := wapp_make B p A cp nv r 6 _ HP1.out HL.out HB.out
    rw [← HT.out] at hc
    refine hc.mono ?_
    rintro e w3 ⟨caps, rfl, hO, hC⟩
    have HO3 := Lib.hid (HO1.out.trans hO)
    have HC3 := Lib.hid hC
    clear hO hC hc
    go_wp2
    go_ret
    exact ⟨caps, rfl, HO3.out, HC3.out⟩
end Go.Proofs.YtocdbeonogfopaaGreat
set_option linter.unusedVariables false
set_option linter.unusedSimpArgs false
namespace Go.Proofs.YtocdbeonogfopaaGreat
open Go.RowKit
set_option maxRecDepth 100000 in
set_option maxHeartbeats 4000000 in
theorem stepOf_4_3 (B : Nat) (p A : Option Addr) (cp : Nat) (nv : Value) (r : LS) (w : World) (h : RunP w B p A cp nv r) (hl : r.ns.length ≤ 900) (hx : Words r.xs) (ha : 0 ≤ r.a ∧ r.a < 4294967296) (hb : 0 ≤ r.b ∧ r.b < 4294967296) (h1 : r.op = 4) (h2 : r.line = 3 ∨ r.line = 4 ∨ r.line = 5 ∨ r.line = 6) :
    Calls Tryz.prog 32 #[Value.pointer (some ⟨B, 0, none⟩)] w (Clo 70 B p A cp r.pq w) := by
  have HT := Lib.hid (show r.pq = r.wGive 3 true by (rcases h2 with h2 | h2 | h2 | h2 <;> (unfold LS.pq; rw [h1, h2]; rfl)))
  have H1 := Lib.hid h1
  have HH := Lib.hid h2
  clear h1 h2
  obtain ⟨ln, H2⟩ : ∃ ln, Hid (r.line = ln) := ⟨_, Lib.hid rfl⟩
  have HX := Lib.hid hx
  have HL := Lib.hid hl
  have HA := Lib.hid ha
  have HB := Lib.hid hb
  have HP := Lib.hid h
  have c4 : w.cell? ⟨B, 4, none⟩ = some (.int .i64 (4)) := by rw [← H1.out]; exact HP.out.row.cell_ (i := 4) rfl
  have c5 : w.cell? ⟨B, 5, none⟩ = some (.int .i64 (ln)) := by rw [← H2.out]; exact HP.out.row.cell_ (i := 5) rfl
  clear h hl hx ha hb
  go_enter Tryz.func32, Tryz.ntmps32
  go_upto_region 1 with (fail)
  refine wp_region_phase (n := 11) 10 (fun w => w.cell? ⟨B, 4, none⟩ = some (.int .i64 (4)) ∧ w.cell? ⟨B, 5, none⟩ = some (.int .i64 (ln))) rfl (by kernel_rfl) ⟨c4, c5⟩ (fun hHeld => ?_)
  clear c4 c5
  have HP1 := Lib.hid (HP.out.keep (Only.refl Nil w).drew)
  have HO1 := Lib.hid (Only.refl Nil w).drew
  clear HP
  generalize w.drew = w2 at *
  refine mpa 0 rfl (Value.pointer (some ⟨B, 0, none⟩)) (fun w => ?_) ?_
  · go_simp
  (try simp only [Act.put, k1, k2, k3])
  refine mpa 1 rfl (Value.pointer (some ⟨B, 0, none⟩)) (fun w => ?_) ?_
  · go_simp
  (try simp only [Act.put, k1, k2, k3])
  refine mpa 2 rfl (.pointer (some ⟨B, 4, none⟩)) (fun w => ?_) ?_
  · go_simp
  (try simp only [Act.put, k1, k2, k3])
  refine mpa 3 rfl (.pointer (some ⟨B, 4, none⟩)) (fun w => ?_) ?_
  · go_simp
  (try simp only [Act.put, k1, k2, k3])
  refine mpt 4 rfl (.int .i64 (4)) (fun w hSw => ?_) ?_
  · (try dsimp only at hSw)
    go_split_ands
    go_simp
  (try simp only [Act.put, k1, k2, k3])
  refine mpa 5 rfl (Value.pointer (some ⟨B, 0, none⟩)) (fun w => ?_) ?_
  · go_simp
  (try simp only [Act.put, k1, k2, k3])
  refine mpa 6 rfl (Value.pointer (some ⟨B, 0, none⟩)) (fun w => ?_) ?_
  · go_simp
  (try simp only [Act.put, k1, k2, k3])
  refine mpa 7 rfl (.pointer (some ⟨B, 4, none⟩)) (fun w => ?_) ?_
  · go_simp
  (try simp only [Act.put, k1, k2, k3])
  refine mpa 8 rfl (.pointer (some ⟨B, 5, none⟩)) (fun w => ?_) ?_
  · go_simp
  (try simp only [Act.put, k1, k2, k3])
  refine mpt 9 rfl (.int .i64 (ln)) (fun w hSw => ?_) ?_
  · (try dsimp only at hSw)
    go_split_ands
    go_simp
  (try simp only [Act.put, k1, k2, k3])
  refine mpc 10 rfl (by kernel_rfl) (by rfl) (fun K hK => ?_)
  go_simp
  refine hK.out _ _ (.inl (by kernel_rfl)) ?_
  clear hK K
  (try simp only [Act.put, k1, k2, k3])
  refine wpAnyP_done (by kernel_rfl) ?_ _
  clear hHeld
  have hln := HH.out
  clear HH
  rw [H2.out] at hln
  rcases hln with rfl | rfl | rfl | rfl
  all_goals
    go_wp2_with fail
    have hc := wgive_make B p A cp nv r 3 true _ HP1.out HL.out HX.out HA.out (by decide) (by decide)
    rw [← HT.out] at hc
    refine hc.mono ?_
    rintro e w3 ⟨caps, rfl, hO, hC⟩
    have HO3 := Lib.hid (HO1.out.trans hO)
    have HC3 := Lib.hid hC
    clear hO hC hc
    go_wp2
    go_ret
    exact ⟨caps, rfl, HO3.out, HC3.out⟩
set_option maxRecDepth 100000 in
set_option maxHeartbeats 4000000 in
theorem stepOf_8_0 (B : Nat) (p A : Option Addr) (cp : Nat) (nv : Value) (r : LS) (w : World) (h : RunP w B p A cp nv r) (hl : r.ns.length ≤ 900) (hx : Words r.xs) (ha : 0 ≤ r.a ∧ r.a < 4294967296) (hb : 0 ≤ r.b ∧ r.b < 4294967296) (h1 : r.op = 8) (h2 : r.line = 0) :
    Calls Tryz.prog 32 #[Value.pointer (some ⟨B, 0, none⟩)] w (Clo 56 B p A cp r.pq w) := by
  have HT := Lib.hid (show r.pq = r.wKeep 1 by unfold LS.pq; rw [h1, h2]; rfl)
  have H1 := Lib.hid h1
  have HH := Lib.hid h2
  clear h1 h2
  obtain ⟨ln, H2⟩ : ∃ ln, Hid (r.line = ln) := ⟨_, Lib.hid rfl⟩
  have HX := Lib.hid hx
  have HL := Lib.hid hl
  have HA := Lib.hid ha
  have HB := Lib.hid hb
  have HP := Lib.hid h
  have c4 : w.cell? ⟨B, 4, none⟩ = some (.int .i64 (8)) := by rw [← H1.out]; exact HP.out.row.cell_ (i := 4) rfl
  have c5 : w.cell? ⟨B, 5, none⟩ = some (.int .i64 (ln)) := by rw [← H2.out]; exact HP.out.row.cell_ (i := 5) rfl
  clear h hl hx ha hb
  go_enter Tryz.func32, Tryz.ntmps32
  go_upto_region 1 with (fail)
  refine wp_region_phase (n := 11) 10 (fun w => w.cell? ⟨B, 4, none⟩ = some (.int .i64 (8)) ∧ w.cell? ⟨B, 5, none⟩ = some (.int .i64 (ln))) rfl (by kernel_rfl) ⟨c4, c5⟩ (fun hHeld => ?_)
  clear c4 c5
  have HP1 := Lib.hid (HP.out.keep (Only.refl Nil w).drew)
  have HO1 := Lib.hid (Only.refl Nil w).drew
  clear HP
  generalize w.drew = w2 at *
  refine mpa 0 rfl (Value.pointer (some ⟨B, 0, none⟩)) (fun w => ?_) ?_
  · go_simp
  (try simp only [Act.put, k1, k2, k3])
  refine mpa 1 rfl (Value.pointer (some ⟨B, 0, none⟩)) (fun w => ?_) ?_
  · go_simp
  (try simp only [Act.put, k1, k2, k3])
  refine mpa 2 rfl (.pointer (some ⟨B, 4, none⟩)) (fun w => ?_) ?_
  · go_simp
  (try simp only [Act.put, k1, k2, k3])
  refine mpa 3 rfl (.pointer (some ⟨B, 4, none⟩)) (fun w => ?_) ?_
  · go_simp
  (try simp only [Act.put, k1, k2, k3])
  refine mpt 4 rfl (.int .i64 (8)) (fun w hSw => ?_) ?_
  · (try dsimp only at hSw)
    go_split_ands
    go_simp
  (try simp only [Act.put, k1, k2, k3])
  refine mpa 5 rfl (Value.pointer (some ⟨B, 0, none⟩)) (fun w => ?_) ?_
  · go_simp
  (try simp only [Act.put, k1, k2, k3])
  refine mpa 6 rfl (Value.pointer (some ⟨B, 0, none⟩)) (fun w => ?_) ?_
  · go_simp
  (try simp only [Act.put, k1, k2, k3])
  refine mpa 7 rfl (.pointer (some ⟨B, 4, none⟩)) (fun w => ?_) ?_
  · go_simp
  (try simp only [Act.put, k1, k2, k3])
  refine mpa 8 rfl (.pointer (some ⟨B, 5, none⟩)) (fun w => ?_) ?_
  · go_simp
  (try simp only [Act.put, k1, k2, k3])
  refine mpt 9 rfl (.int .i64 (ln)) (fun w hSw => ?_) ?_
  · (try dsimp only at hSw)
    go_split_ands
    go_simp
  (try simp only [Act.put, k1, k2, k3])
  refine mpc 10 rfl (by kernel_rfl) (by rfl) (fun K hK => ?_)
  go_simp
  refine hK.out _ _ (.inl (by kernel_rfl)) ?_
  clear hK K
  (try simp only [Act.put, k1, k2, k3])
  refine wpAnyP_done (by kernel_rfl) ?_ _
  clear hHeld
  have hln := HH.out
  clear HH
  rw [H2.out] at hln
  rcases hln with rfl
  all_goals
    go_wp2_with fail
    have hc := wkeep_make B p A cp nv r 1 _ HP1.out HL.out
    rw [← HT.out] at hc
    refine hc.mono ?_
    rintro e w3 ⟨caps, rfl, hO, hC⟩
    have HO3 := Lib.hid (HO1.out.trans hO)
    have HC3 := Lib.hid hC
    clear hO hC hc
    go_wp2
    go_ret
    exact ⟨caps, rfl, HO3.out, HC3.out⟩
set_option maxRecDepth 100000 in
set_option maxHeartbeats 4000000 in
theorem tryOf_6_4 (B : Nat) (p A : Option Addr) (cp : Nat) (nv : Value) (r : LS) (w : World) (h : RunP w B p A cp nv r) (hl : r.ns.length ≤ 900) (hx : Words r.xs) (ha : 0 ≤ r.a ∧ r.a < 4294967296) (hb : 0 ≤ r.b ∧ r.b < 4294967296) (h1 : r.op = 6) (h2 : r.line = 4) :
    Calls Tryz.prog 46 #[Value.pointer (some ⟨B, 0, none⟩)] w (Clo 56 B p A cp r.pq w) := by
  have HT := Lib.hid (show r.pq = r.wKeep 5 by unfold LS.pq; rw [h1, h2]; rfl)
  have H1 := Lib.hid h1
  have HH := Lib.hid h2
  clear h1 h2
  obtain ⟨ln, H2⟩ : ∃ ln, Hid (r.line = ln) := ⟨_, Lib.hid rfl⟩
  have HX := Lib.hid hx
  have HL := Lib.hid hl
  have HA := Lib.hid ha
  have HB := Lib.hid hb
  have HP := Lib.hid h
  have c4 : w.cell? ⟨B, 4, none⟩ = some (.int .i64 (6)) := by rw [← H1.out]; exact HP.out.row.cell_ (i := 4) rfl
  have c5 : w.cell? ⟨B, 5, none⟩ = some (.int .i64 (ln)) := by rw [← H2.out]; exact HP.out.row.cell_ (i := 5) rfl
  clear h hl hx ha hb
  go_enter Tryz.func46, Tryz.ntmps46
  go_upto_region 1 with (fail)
  refine wp_region_phase (n := 11) 10 (fun w => w.cell? ⟨B, 4, none⟩ = some (.int .i64 (6)) ∧ w.cell? ⟨B, 5, none⟩ = some (.int .i64 (ln))) rfl (by kernel_rfl) ⟨c4, c5⟩ (fun hHeld => ?_)
  clear c4 c5
  have HP1 := Lib.hid (HP.out.keep (Only.refl Nil w).drew)
  have HO1 := Lib.hid (Only.refl Nil w).drew
  clear HP
  generalize w.drew = w2 at *
  refine mpa 0 rfl (Value.pointer (some ⟨B, 0, none⟩)) (fun w => ?_) ?_
  · go_simp
  (try simp only [Act.put, k1, k2, k3])
  refine mpa 1 rfl (Value.pointer (some ⟨B, 0, none⟩)) (fun w => ?_) ?_
  · go_simp
  (try simp only [Act.put, k1, k2, k3])
  refine mpa 2 rfl (.pointer (some ⟨B, 4, none⟩)) (fun w => ?_) ?_
  · go_simp
  (try simp only [Act.put, k1, k2, k3])
  refine mpa 3 rfl (.pointer (some ⟨B, 4, none⟩)) (fun w => ?_) ?_
  · go_simp
  (try simp only [Act.put, k1, k2, k3])
  refine mpt 4 rfl (.int .i64 (6)) (fun w hSw => ?_) ?_
  · (try dsimp only at hSw)
    go_split_ands
    go_simp
  (try simp only [Act.put, k1, k2, k3])
  refine mpa 5 rfl (Value.pointer (some ⟨B, 0, none⟩)) (fun w => ?_) ?_
  · go_simp
  (try simp only [Act.put, k1, k2, k3])
  refine mpa 6 rfl (Value.pointer (some ⟨B, 0, none⟩)) (fun w => ?_) ?_
  · go_simp
  (try simp only [Act.put, k1, k2, k3])
  refine mpa 7 rfl (.pointer (some ⟨B, 4, none⟩)) (fun w => ?_) ?_
  · go_simp
  (try simp only [Act.put, k1, k2, k3])
  refine mpa 8 rfl (.pointer (some ⟨B, 5, none⟩)) (fun w => ?_) ?_
  · go_simp
  (try simp only [Act.put, k1, k2, k3])
  refine mpt 9 rfl (.int .i64 (ln)) (fun w hSw => ?_) ?_
  · (try dsimp only at hSw)
    go_split_ands
    go_simp
  (try simp only [Act.put, k1, k2, k3])
  refine mpc 10 rfl (by kernel_rfl) (by rfl) (fun K hK => ?_)
  go_simp
  refine hK.out _ _ (.inl (by kernel_rfl)) ?_
  clear hK K
  (try simp only [Act.put, k1, k2, k3])
  refine wpAnyP_done (by kernel_rfl) ?_ _
  clear hHeld
  have hln := HH.out
  clear HH
  rw [H2.out] at hln
  rcases hln with rfl
  all_goals
    go_wp2_with fail
    have hc := wkeep_make B p A cp nv r 5 _ HP1.out HL.out
    rw [← HT.out] at hc
    refine hc.mono ?_
    rintro e w3 ⟨caps, rfl, hO, hC⟩
    have HO3 := Lib.hid (HO1.out.trans hO)
    have HC3 := Lib.hid hC
    clear hO hC hc
    go_wp2
    go_ret
    exact ⟨caps, rfl, HO3.out, HC3.out⟩
set_option maxRecDepth 100000 in
set_option maxHeartbeats 4000000 in
theorem tryOf_7_6 (B : Nat) (p A : Option Addr) (cp : Nat) (nv : Value) (r : LS) (w : World) (h : RunP w B p A cp nv r) (hl : r.ns.length ≤ 900) (hx : Words r.xs) (ha : 0 ≤ r.a ∧ r.a < 4294967296) (hb : 0 ≤ r.b ∧ r.b < 4294967296) (h1 : r.op = 7) (h2 : r.line = 6) :
    Calls Tryz.prog 46 #[Value.pointer (some ⟨B, 0, none⟩)] w (Clo 119 B p A cp r.pq w) := by
  have HT := Lib.hid (show r.pq = r.wOthers by unfold LS.pq; rw [h1, h2]; rfl)
  have H1 := Lib.hid h1
  have HH := Lib.hid h2
  clear h1 h2
  obtain ⟨ln, H2⟩ : ∃ ln, Hid (r.line = ln) := ⟨_, Lib.hid rfl⟩
  have HX := Lib.hid hx
  have HL := Lib.hid hl
  have HA := Lib.hid ha
  have HB := Lib.hid hb
  have HP := Lib.hid h
  have c4 : w.cell? ⟨B, 4, none⟩ = some (.int .i64 (7)) := by rw [← H1.out]; exact HP.out.row.cell_ (i := 4) rfl
  have c5 : w.cell? ⟨B, 5, none⟩ = some (.int .i64 (ln)) := by rw [← H2.out]; exact HP.out.row.cell_ (i := 5) rfl
  clear h hl hx ha hb
  go_enter Tryz.func46, Tryz.ntmps46
  go_upto_region 1 with (fail)
  refine wp_region_phase (n := 11) 10 (fun w => w.cell? ⟨B, 4, none⟩ = some (.int .i64 (7)) ∧ w.cell? ⟨B, 5, none⟩ = some (.int .i64 (ln))) rfl (by kernel_rfl) ⟨c4, c5⟩ (fun hHeld => ?_)
  clear c4 c5
  have HP1 := Lib.hid (HP.out.keep (Only.refl Nil w).drew)
  have HO1 := Lib.hid (Only.refl Nil w).drew
  clear HP
  generalize w.drew = w2 at *
  refine mpa 0 rfl (Value.pointer (some ⟨B, 0, none⟩)) (fun w => ?_) ?_
  · go_simp
  (try simp only [Act.put, k1, k2, k3])
  refine mpa 1 rfl (Value.pointer (some ⟨B, 0, none⟩)) (fun w => ?_) ?_
  · go_simp
  (try simp only [Act.put, k1, k2, k3])
  refine mpa 2 rfl (.pointer (some ⟨B, 4, none⟩)) (fun w => ?_) ?_
  · go_simp
  (try simp only [Act.put, k1, k2, k3])
  refine mpa 3 rfl (.pointer (some ⟨B, 4, none⟩)) (fun w => ?_) ?_
  · go_simp
  (try simp only [Act.put, k1, k2, k3])
  refine mpt 4 rfl (.int .i64 (7)) (fun w hSw => ?_) ?_
  · (try dsimp only at hSw)
    go_split_ands
    go_simp
  (try simp only [Act.put, k1, k2, k3])
  refine mpa 5 rfl (Value.pointer (some ⟨B, 0, none⟩)) (fun w => ?_) ?_
  · go_simp
  (try simp only [Act.put, k1, k2, k3])
  refine mpa 6 rfl (Value.pointer (some ⟨B, 0, none⟩)) (fun w => ?_) ?_
  · go_simp
  (try simp only [Act.put, k1, k2, k3])
  refine mpa 7 rfl (.pointer (some ⟨B, 4, none⟩)) (fun w => ?_) ?_
  · go_simp
  (try simp only [Act.put, k1, k2, k3])
  refine mpa 8 rfl (.pointer (some ⟨B, 5, none⟩)) (fun w => ?_) ?_
  · go_simp
  (try simp only [Act.put, k1, k2, k3])
  refine mpt 9 rfl (.int .i64 (ln)) (fun w hSw => ?_) ?_
  · (try dsimp only at hSw)
    go_split_ands
    go_simp
  (try simp only [Act.put, k1, k2, k3])
  refine mpc 10 rfl (by kernel_rfl) (by rfl) (fun K hK => ?_)
  go_simp
  refine hK.out _ _ (.inl (by kernel_rfl)) ?_
  clear hK K
  (try simp only [Act.put, k1, k2, k3])
  refine wpAnyP_done (by kernel_rfl) ?_ _
  clear hHeld
  have hln := HH.out
  clear HH
  rw [H2.out] at hln
  rcases hln with rfl
  all_goals
    go_wp2_with fail
    have hc := wothers_make B p A cp nv r _ HP1.out HL.out HX.out
    rw [← HT.out] at hc
    refine hc.mono ?_
    rintro e w3 ⟨caps, rfl, hO, hC⟩
    have HO3 := Lib.hid (HO1.out.trans hO)
    have HC3 := Lib.hid hC
    clear hO hC hc
    go_wp2
    go_ret
    exact ⟨caps, rfl, HO3.out, HC3.out⟩
end Go.Proofs.YtocdbeonogfopaaGreat
