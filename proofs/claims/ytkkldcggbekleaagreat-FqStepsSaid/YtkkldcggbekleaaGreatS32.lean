import Derived.Test.YtkkldcggbekleaaGreatS31
set_option linter.unusedVariables false
set_option linter.unusedSimpArgs false
namespace Go.Proofs.YtkkldcggbekleaaGreat
open Go.RowKit
theorem fzero_is (v : Int) (w : World) : Calls Tryz.prog 82 #[.int .u32 v] w fun e w' => e = .returned (.bool (v == 0)) ∧ w = w' := by
  go_enter Tryz.func82, Tryz.ntmps82
  go_wp2
  go_ret
  exact ⟨rfl, rfl⟩
theorem holds_fzero : HoldsAny (.func (.func 82) #[] #[]) isZ := by
  intro v w h0 h1
  have hn := neq_fn
  go_enter_defers Tryz.func127, Tryz.ntmps127
  go_wp2_with fail
  refine (fzero_is v _).mono ?_
  rintro e w1 ⟨rfl, rfl⟩
  have HQ := Lib.hid (show isZ v = (v == 0) from rfl)
  generalize hq : (v == 0) = q at *
  clear hq
  go_wp2
  refine leaves_cons (f := 129) (args := #[]) (by simp) (by simp [go_sem]) ?_
  refine (rec_idle _).mono ?_
  rintro e u' w'' ⟨rfl, rfl, rfl⟩
  exact ⟨_, results_tmp rfl _ _ _, by rw [HQ.out]; rfl, Only.refl _ _⟩
def LS.awaitQ (r : LS) : LS := if (r.stepR 1 isZ).done then ((r.wait 1 isZ).noteIf (r.stepR 1 isZ).seen 4).fin true else (r.wait 1 isZ).noteIf (r.stepR 1 isZ).seen 4
theorem await_clo (B : Nat) (p A : Option Addr) (cp : Nat) (nv : Value) (r : LS) (g0 : Nat) (w : World) (h : RunP w B p A cp nv r) (hl : r.ns.length ≤ 900) (hx : Words r.xs) (hb : RowsL w [(g0, 35, #[Value.pointer (some ⟨B, 0, none⟩)])]) :
    Calls Tryz.prog 80 #[.pointer (some ⟨g0, 0, none⟩)] w (Done B p A cp w (.tuple #[]) r.awaitQ) := by
  generalize hsn : (r.stepR 1 isZ).seen = sn
  generalize hdn : (r.stepR 1 isZ).done = dn
  rw [show r.awaitQ = if dn then ((r.wait 1 isZ).noteIf sn 4).fin true else (r.wait 1 isZ).noteIf sn 4 by unfold LS.awaitQ; rw [hdn, hsn]]
  obtain ⟨rw1, hw1⟩ : ∃ rw1, r.wait 1 isZ = rw1 := ⟨_, rfl⟩
  have HLN := Lib.hid (show rw1.ns.length ≤ 1000 from by rw [← hw1]; exact Nat.le_trans hl (by decide))
  rw [hw1]
  have HW1 := Lib.hid hw1
  obtain ⟨RR, hRR⟩ : ∃ RR, (if dn then (rw1.noteIf sn 4).fin true else rw1.noteIf sn 4) = RR := ⟨_, rfl⟩
  rw [hRR]
  have HRR := Lib.hid hRR
  clear hRR hw1
  have HSN := Lib.hid hsn
  have HDN := Lib.hid hdn
  have HX := Lib.hid hx
  clear hsn hdn hx
  have HP0 := Lib.hid h
  have HB0 := Lib.hid hb
  have HL := Lib.hid hl
  have HO0 := Lib.hid (Only.refl (TurnB B A) w)
  clear h hb hl
  have b0 : w.cell? ⟨g0, 0, none⟩ = some (Value.pointer (some ⟨B, 0, none⟩)) := (show Row w g0 35 #[Value.pointer (some ⟨B, 0, none⟩)] from HB0.out _ (.head _)).cell_ (i := 0) rfl
  go_enter Tryz.func80, Tryz.ntmps80
  go_wp2_with fail
  clear b0
  refine (wait_run B p A cp nv r 1 (.func 82) #[] #[] isZ _ HP0.out holds_fzero.at HX.out).mono ?_
  rw [HSN.out, HDN.out, HW1.out]
  clear HSN HDN HW1
  rintro e w2 ⟨rfl, hO, nv2, hP⟩
  have HO2 := Lib.hid (HO0.out.trans hO)
  have HB2 := Lib.hid (HB0.out.turn HP0.out hO aside_1)
  have HP2 := Lib.hid hP
  clear hO hP HP0 HO0 HB0
  cases sn
  all_goals cases dn
  · have eR : rw1 = RR := HRR.out
    subst eR
    go_wp2
    go_returns
    exact ⟨rfl, HO2.out, nv2, HP2.out⟩
  · have eR : rw1.fin true = RR := HRR.out
    subst eR
    have b0 : w2.cell? ⟨g0, 0, none⟩ = some (Value.pointer (some ⟨B, 0, none⟩)) := (show Row w2 g0 35 #[Value.pointer (some ⟨B, 0, none⟩)] from HB2.out _ (.head _)).cell_ (i := 0) rfl
    go_wp2_with fail
    clear b0
    refine (end_run B p A cp nv2 _ _ true HP2.out).mono ?_
    rintro e w4 ⟨rfl, hO, nv4, hP⟩
    have HO4 := Lib.hid (HO2.out.trans hO)
    have HP4 := Lib.hid hP
    clear hO hP
    go_wp2
    go_returns
    exact ⟨rfl, HO4.out, nv4, HP4.out⟩
  · have eR : rw1.note 4 0 = RR := HRR.out
    subst eR
    have b0 : w2.cell? ⟨g0, 0, none⟩ = some (Value.pointer (some ⟨B, 0, none⟩)) := (show Row w2 g0 35 #[Value.pointer (some ⟨B, 0, none⟩)] from HB2.out _ (.head _)).cell_ (i := 0) rfl
    go_wp2_with fail
    clear b0
    refine (note_run B p A cp nv2 _ 4 0 _ HP2.out HLN.out).mono ?_
    rintro e w4 ⟨rfl, hO, nv4, hP⟩
    have HO4 := Lib.hid (HO2.out.trans hO)
    have HP4 := Lib.hid hP
    clear hO hP
    go_wp2
    go_returns
    exact ⟨rfl, HO4.out, nv4, HP4.out⟩
  · have eR : (rw1.note 4 0).fin true = RR := HRR.out
    subst eR
    have b0 : w2.cell? ⟨g0, 0, none⟩ = some (Value.pointer (some ⟨B, 0, none⟩)) := (show Row w2 g0 35 #[Value.pointer (some ⟨B, 0, none⟩)] from HB2.out _ (.head _)).cell_ (i := 0) rfl
    go_wp2_with fail
    clear b0
    refine (note_run B p A cp nv2 _ 4 0 _ HP2.out HLN.out).mono ?_
    rintro e w3 ⟨rfl, hO, nv3, hP⟩
    have HO3 := Lib.hid (HO2.out.trans hO)
    have HB3 := Lib.hid (HB2.out.turn HP2.out hO aside_1)
    have HP3 := Lib.hid hP
    clear hO hP HP2 HO2 HB2
    have b0 : w3.cell? ⟨g0, 0, none⟩ = some (Value.pointer (some ⟨B, 0, none⟩)) := (show Row w3 g0 35 #[Value.pointer (some ⟨B, 0, none⟩)] from HB3.out _ (.head _)).cell_ (i := 0) rfl
    go_wp2_with fail
    clear b0
    refine (end_run B p A cp nv3 _ _ true HP3.out).mono ?_
    rintro e w4 ⟨rfl, hO, nv4, hP⟩
    have HO4 := Lib.hid (HO3.out.trans hO)
    have HP4 := Lib.hid hP
    clear hO hP
    go_wp2
    go_returns
    exact ⟨rfl, HO4.out, nv4, HP4.out⟩
theorem await_make (B : Nat) (p A : Option Addr) (cp : Nat) (nv : Value) (r : LS) (w : World) (h : RunP w B p A cp nv r) (hl : r.ns.length ≤ 900) (hx : Words r.xs) :
    Calls Tryz.prog 44 #[Value.pointer (some ⟨B, 0, none⟩)] w (Clo 80 B p A cp r.awaitQ w) := by
  have e0 := (Only.refl Nil w).alloc (.cells #[Value.pointer (some ⟨B, 0, none⟩)] 35)
  have HC := Lib.hid (await_clo B p A cp nv r w.heap.size _ (h.keep e0) hl hx (RowsL.cons (L := []) (fun _ h => by simp at h) (Row.new w 35 #[Value.pointer (some ⟨B, 0, none⟩)])))
  have HE := Lib.hid e0
  clear h hl hx e0
  go_enter Tryz.func44, Tryz.ntmps44
  go_wp2
  go_ret
  exact ⟨_, rfl, HE.out, HC.out⟩
-- weighing
theorem aside_f : Aside 1 := ⟨by decide, by decide, by decide⟩
theorem aside_c {g0 B g2 g3 : Nat} {v : Value} : ∀ x ∈ [(g0, 35, #[Value.pointer (some ⟨B, 0, none⟩)]), (g2, 1, #[v]), (g3, 35, #[Value.pointer (some ⟨B, 0, none⟩)])], Aside x.2.1 := by
  intro x hx
  simp only [List.mem_cons, List.not_mem_nil, or_false] at hx
  rcases hx with rfl | rfl | rfl
  · exact aside_p
  · exact aside_f
  · exact aside_p
set_option maxHeartbeats 1000000 in
theorem weigh_clo1 (B : Nat) (p A : Option Addr) (cp : Nat) (nv : Value) (r : LS) (own : Int) (g0 g1 g2 g3 : Nat) (w : World) (h : RunP w B p A cp nv r) (hl : r.ns.length ≤ 900) (h1 : Row w g1 23 #[.int .u32 own]) (h2 : ¬ At A g1)
    (hb : RowsL w [(g0, 35, #[Value.pointer (some ⟨B, 0, none⟩)]), (g2, 1, #[.func (.func 47) #[] #[.pointer (some ⟨g3, 0, none⟩)]]), (g3, 35, #[Value.pointer (some ⟨B, 0, none⟩)])]) :
    Calls Tryz.prog 85 #[.pointer (some ⟨g0, 0, none⟩), .pointer (some ⟨g1, 0, none⟩), .pointer (some ⟨g2, 0, none⟩)] w (Done B p A cp w (.tuple #[]) (if wordAt r.xs 1 = own then (r.qCount.note 4 0).fin true else (r.qCount.note 5 0).go 6)) := by
  have HLN := Lib.hid (show r.qCount.ns.length ≤ 900 from hl)
  obtain ⟨RR, hRR⟩ : ∃ RR, (if wordAt r.xs 1 = own then (r.qCount.note 4 0).fin true else (r.qCount.note 5 0).go 6) = RR := ⟨_, rfl⟩
  rw [hRR]
  have HRR := Lib.hid hRR
  clear hRR
  obtain ⟨z, hz⟩ : ∃ z, (wordAt r.xs 1 == own) = z := ⟨_, rfl⟩
  have HG := Lib.hid h2
  have HZ := Lib.hid hz
  have HW0 := Lib.hid h1
  clear h1 h2 hz
  have HP0 := Lib.hid h
  have HB0 := Lib.hid hb
  have HL := Lib.hid hl
  have HO0 := Lib.hid (Only.refl (TurnB B A) w)
  clear h hb hl
  have b0 : w.cell? ⟨g0, 0, none⟩ = some (Value.pointer (some ⟨B, 0, none⟩)) := (show Row w g0 35 #[Value.pointer (some ⟨B, 0, none⟩)] from HB0.out _ (.head _)).cell_ (i := 0) rfl
  go_enter Tryz.func85, Tryz.ntmps85
  go_upto_region 0 with (fail)
  refine wp_region_phase (n := 7) 6 (fun w => w.cell? ⟨g0, 0, none⟩ = some (Value.pointer (some ⟨B, 0, none⟩))) rfl (by kernel_rfl) b0 (fun hHeld => ?_)
  clear b0
  have HP0b := Lib.hid (HP0.out.keep (Only.refl Nil w).drew)
  have HB0b := Lib.hid (HB0.out.keep (Only.refl Nil w).drew)
  have HW0b := Lib.hid HW0.out.drew
  have HO0b := Lib.hid HO0.out.drew
  clear HP0 HB0 HO0 HW0
  generalize w.drew = w0 at *
  refine mpt 0 rfl (Value.pointer (some ⟨B, 0, none⟩)) (fun w hSw => ?_) ?_
  · (try dsimp only at hSw)
    go_split_ands
    go_simp
  (try simp only [Act.put, k1, k2, k3])
  refine mpt 1 rfl (Value.pointer (some ⟨B, 0, none⟩)) (fun w hSw => ?_) ?_
  · (try dsimp only at hSw)
    go_split_ands
    go_simp
  (try simp only [Act.put, k1, k2, k3])
  refine mpc 2 rfl (by kernel_rfl) (by rfl) (fun K hK => ?_)
  go_simp
  refine (load_run B p A cp nv r 1 _ HP0b.out).mono ?_
  rintro e w1 ⟨rfl, hO, nv1, hP⟩
  have HO1 := Lib.hid (HO0b.out.trans hO)
  have HB1 := Lib.hid (HB0b.out.turn HP0b.out hO aside_c)
  have HW1 := Lib.hid (HW0b.out.only hO (fun e => by
    rcases e with e | e
    · exact row_ne HW0b.out HP0b.out.row (by decide) e
    · exact HG.out e))
  have HP1 := Lib.hid hP
  clear hO hP HP0b HO0b HB0b HW0b
  have hHeld2 : w1.cell? ⟨g0, 0, none⟩ = some (Value.pointer (some ⟨B, 0, none⟩)) := (show Row w1 g0 35 #[Value.pointer (some ⟨B, 0, none⟩)] from HB1.out _ (.head _)).cell_ (i := 0) rfl
  refine hK.out _ _ (.inr hHeld2) ?_
  clear hK K hHeld
  (try simp only [Act.put, k1, k2, k3])
  refine mpa 3 rfl (Value.pointer (some ⟨B, 0, none⟩)) (fun w => ?_) ?_
  · go_simp
  (try simp only [Act.put, k1, k2, k3])
  refine mpa 4 rfl (.pointer (some ⟨B, 4, none⟩)) (fun w => ?_) ?_
  · go_simp
  (try simp only [Act.put, k1, k2, k3])
  refine mpa 5 rfl (.pointer (some ⟨B, 6, none⟩)) (fun w => ?_) ?_
  · go_simp
  (try simp only [Act.put, k1, k2, k3])
  have c6 : w1.cell? ⟨B, 6, none⟩ = some (.int .u32 r.a) := HP1.out.row.cell_ (i := 6) rfl
  have f6 : w1.frozen? ⟨B, 6, none⟩ = false := HP1.out.row.frozen 6
  refine mpc 6 rfl (by kernel_rfl) (by rfl) (fun K hK => ?_)
  go_simp
  have ho := (Only.refl (TurnB B A) w1).setCell (p := ⟨B, 6, none⟩) (.inr (.inl rfl)) (.int .u32 (wordAt r.xs 1))
  have HP2 : Hid (RunP (w1.setCell ⟨B, 6, none⟩ (.int .u32 (wordAt r.xs 1))) B p A cp nv1 r.qCount) := Lib.hid (HP1.out.setA (wordAt r.xs 1))
  have HO2 := Lib.hid (HO1.out.trans ho)
  have HB2 := Lib.hid (HB1.out.turn HP1.out ho aside_c)
  have HW2 := Lib.hid (HW1.out.only ho (fun e => by
    rcases e with e | e
    · exact row_ne HW1.out HP1.out.row (by decide) e
    · exact HG.out e))
  refine hK.out _ _ (.inl (by kernel_rfl)) ?_
  clear hK K hHeld2 c6 f6 HP1 HO1 HB1 HW1 ho
  generalize w1.setCell ⟨B, 6, none⟩ (.int .u32 (wordAt r.xs 1)) = w2 at *
  (try simp only [Act.put, k1, k2, k3])
  refine wpAnyP_done (by kernel_rfl) ?_ _
  go_upto_region 1 with (fail)
  refine wp_region_phase (n := 7) 6 (fun w => w.cell? ⟨g0, 0, none⟩ = some (Value.pointer (some ⟨B, 0, none⟩)) ∧ w.cell? ⟨B, 6, none⟩ = some (.int .u32 (wordAt r.xs 1)) ∧ w.cell? ⟨g1, 0, none⟩ = some (.int .u32 own)) rfl (by kernel_rfl) ⟨(show Row w2 g0 35 #[Value.pointer (some ⟨B, 0, none⟩)] from HB2.out _ (.head _)).cell_ (i := 0) rfl, HP2.out.row.cell_ (i := 6) rfl, HW2.out.cell_ (i := 0) rfl⟩ (fun hHeld => ?_)
  have HP3 := Lib.hid (HP2.out.keep (Only.refl Nil w2).drew)
  have HB3 := Lib.hid (HB2.out.keep (Only.refl Nil w2).drew)
  have HO3 := Lib.hid HO2.out.drew
  clear HP2 HB2 HO2 HW2
  generalize w2.drew = w3 at *
  refine mpt 0 rfl (Value.pointer (some ⟨B, 0, none⟩)) (fun w hSw => ?_) ?_
  · (try dsimp only at hSw)
    go_split_ands
    go_simp
  (try simp only [Act.put, k1, k2, k3])
  refine mpa 1 rfl (Value.pointer (some ⟨B, 0, none⟩)) (fun w => ?_) ?_
  · go_simp
  (try simp only [Act.put, k1, k2, k3])
  refine mpa 2 rfl (.pointer (some ⟨B, 4, none⟩)) (fun w => ?_) ?_
  · go_simp
  (try simp only [Act.put, k1, k2, k3])
  refine mpa 3 rfl (.pointer (some ⟨B, 6, none⟩)) (fun w => ?_) ?_
  · go_simp
  (try simp only [Act.put, k1, k2, k3])
  refine mpt 4 rfl (.int .u32 (wordAt r.xs 1)) (fun w hSw => ?_) ?_
  · (try dsimp only at hSw)
    go_split_ands
    go_simp
  (try simp only [Act.put, k1, k2, k3])
  refine mpt 5 rfl (.int .u32 own) (fun w hSw => ?_) ?_
  · (try dsimp only at hSw)
    go_split_ands
    go_simp
  (try simp only [Act.put, k1, k2, k3])
  refine mpc 6 rfl (by kernel_rfl) (by rfl) (fun K hK => ?_)
  go_simp
  rw [HZ.out]
  refine hK.out _ _ (.inl (by kernel_rfl)) ?_
  clear hK K hHeld
  (try simp only [Act.put, k1, k2, k3])
  refine wpAnyP_done (by kernel_rfl) ?_ _
  cases z
  · have eR := HRR.out
    rw [if_neg (beq_eq_false_iff_ne.1 HZ.out)] at eR
    subst eR
    have b0 : w3.cell? ⟨g0, 0, none⟩ = some (Value.pointer (some ⟨B, 0, none⟩)) := (show Row w3 g0 35 #[Value.pointer (some ⟨B, 0, none⟩)] from HB3.out _ (.head _)).cell_ (i := 0) rfl
    go_wp2_with fail
    clear b0
    refine (note_run B p A cp nv1 _ 5 0 _ HP3.out (Nat.le_trans HLN.out (by decide))).mono ?_
    rintro e w5 ⟨rfl, hO, nv5, hP⟩
    have HO5 := Lib.hid (HO3.out.trans hO)
    have HB5 := Lib.hid (HB3.out.turn HP3.out hO aside_c)
    have HP5 := Lib.hid hP
    clear hO hP HP3 HO3 HB3
    have b0 : w5.cell? ⟨g0, 0, none⟩ = some (Value.pointer (some ⟨B, 0, none⟩)) := (show Row w5 g0 35 #[Value.pointer (some ⟨B, 0, none⟩)] from HB5.out _ (.head _)).cell_ (i := 0) rfl
    go_wp2_with fail
    clear b0
    refine (go_run B p A cp nv5 _ 6 _ HP5.out).mono ?_
    rintro e w4 ⟨rfl, hO, nv4, hP⟩
    have HO4 := Lib.hid (HO5.out.trans hO)
    have HP4 := Lib.hid hP
    clear hO hP
    go_wp2
    go_returns
    exact ⟨rfl, HO4.out, nv4, HP4.out⟩
  · have eR := HRR.out
    rw [if_pos (beq_iff_eq.1 HZ.out)] at eR
    subst eR
    have b2 : w3.cell? ⟨g2, 0, none⟩ = some (.func (.func 47) #[] #[.pointer (some ⟨g3, 0, none⟩)]) := (show Row w3 g2 1 #[.func (.func 47) #[] #[.pointer (some ⟨g3, 0, none⟩)]] from HB3.out _ (.tail _ (.head _))).cell_ (i := 0) rfl
    go_wp2_with fail
    clear b2
    refine (then_1 B p A cp nv1 r.qCount g3 _ HP3.out HLN.out (RowsL.cons (L := []) (fun _ h => by simp at h) (show Row w3 g3 35 #[Value.pointer (some ⟨B, 0, none⟩)] from HB3.out _ (.tail _ (.tail _ (.head _)))))).mono ?_
    rintro e w4 ⟨rfl, hO, nv4, hP⟩
    have HO4 := Lib.hid (HO3.out.trans hO)
    have HP4 := Lib.hid hP
    clear hO hP
    go_wp2
    go_returns
    exact ⟨rfl, HO4.out, nv4, HP4.out⟩
set_option maxHeartbeats 1000000 in
theorem weigh_clo2 (B : Nat) (p A : Option Addr) (cp : Nat) (nv : Value) (r : LS) (own : Int) (g0 g1 g2 g3 : Nat) (w : World) (h : RunP w B p A cp nv r) (hl : r.ns.length ≤ 900) (h1 : Row w g1 23 #[.int .u32 own]) (h2 : ¬ At A g1)
    (hb : RowsL w [(g0, 35, #[Value.pointer (some ⟨B, 0, none⟩)]), (g2, 1, #[.func (.func 50) #[] #[.pointer (some ⟨g3, 0, none⟩)]]), (g3, 35, #[Value.pointer (some ⟨B, 0, none⟩)])]) :
    Calls Tryz.prog 85 #[.pointer (some ⟨g0, 0, none⟩), .pointer (some ⟨g1, 0, none⟩), .pointer (some ⟨g2, 0, none⟩)] w (Done B p A cp w (.tuple #[]) (if wordAt r.xs 1 = own then r.qCount.go 3 else (r.qCount.note 5 0).go 6)) := by
  have HLN := Lib.hid (show r.qCount.ns.length ≤ 900 from hl)
  obtain ⟨RR, hRR⟩ : ∃ RR, (if wordAt r.xs 1 = own then r.qCount.go 3 else (r.qCount.note 5 0).go 6) = RR := ⟨_, rfl⟩
  rw [hRR]
  have HRR := Lib.hid hRR
  clear hRR
  obtain ⟨z, hz⟩ : ∃ z, (wordAt r.xs 1 == own) = z := ⟨_, rfl⟩
  have HG := Lib.hid h2
  have HZ := Lib.hid hz
  have HW0 := Lib.hid h1
  clear h1 h2 hz
  have HP0 := Lib.hid h
  have HB0 := Lib.hid hb
  have HL := Lib.hid hl
  have HO0 := Lib.hid (Only.refl (TurnB B A) w)
  clear h hb hl
  have b0 : w.cell? ⟨g0, 0, none⟩ = some (Value.pointer (some ⟨B, 0, none⟩)) := (show Row w g0 35 #[Value.pointer (some ⟨B, 0, none⟩)] from HB0.out _ (.head _)).cell_ (i := 0) rfl
  go_enter Tryz.func85, Tryz.ntmps85
  go_upto_region 0 with (fail)
  refine wp_region_phase (n := 7) 6 (fun w => w.cell? ⟨g0, 0, none⟩ = some (Value.pointer (some ⟨B, 0, none⟩))) rfl (by kernel_rfl) b0 (fun hHeld => ?_)
  clear b0
  have HP0b := Lib.hid (HP0.out.keep (Only.refl Nil w).drew)
  have HB0b := Lib.hid (HB0.out.keep (Only.refl Nil w).drew)
  have HW0b := Lib.hid HW0.out.drew
  have HO0b := Lib.hid HO0.out.drew
  clear HP0 HB0 HO0 HW0
  generalize w.drew = w0 at *
  refine mpt 0 rfl (Value.pointer (some ⟨B, 0, none⟩)) (fun w hSw => ?_) ?_
  · (try dsimp only at hSw)
    go_split_ands
    go_simp
  (try simp only [Act.put, k1, k2, k3])
  refine mpt 1 rfl (Value.pointer (some ⟨B, 0, none⟩)) (fun w hSw => ?_) ?_
  · (try dsimp only at hSw)
    go_split_ands
    go_simp
  (try simp only [Act.put, k1, k2, k3])
  refine mpc 2 rfl (by kernel_rfl) (by rfl) (fun K hK => ?_)
  go_simp
  refine (load_run B p A cp nv r 1 _ HP0b.out).mono ?_
  rintro e w1 ⟨rfl, hO, nv1, hP⟩
  have HO1 := Lib.hid (HO0b.out.trans hO)
  have HB1 := Lib.hid (HB0b.out.turn HP0b.out hO aside_c)
  have HW1 := Lib.hid (HW0b.out.only hO (fun e => by
    rcases e with e | e
    · exact row_ne HW0b.out HP0b.out.row (by decide) e
    · exact HG.out e))
  have HP1 := Lib.hid hP
  clear hO hP HP0b HO0b HB0b HW0b
  have hHeld2 : w1.cell? ⟨g0, 0, none⟩ = some (Value.pointer (some ⟨B, 0, none⟩)) := (show Row w1 g0 35 #[Value.pointer (some ⟨B, 0, none⟩)] from HB1.out _ (.head _)).cell_ (i := 0) rfl
  refine hK.out _ _ (.inr hHeld2) ?_
  clear hK K hHeld
  (try simp only [Act.put, k1, k2, k3])
  refine mpa 3 rfl (Value.pointer (some ⟨B, 0, none⟩)) (fun w => ?_) ?_
  · go_simp
  (try simp only [Act.put, k1, k2, k3])
  refine mpa 4 rfl (.pointer (some ⟨B, 4, none⟩)) (fun w => ?_) ?_
  · go_simp
  (try simp only [Act.put, k1, k2, k3])
  refine mpa 5 rfl (.pointer (some ⟨B, 6, none⟩)) (fun w => ?_) ?_
  · go_simp
  (try simp only [Act.put, k1, k2, k3])
  have c6 : w1.cell? ⟨B, 6, none⟩ = some (.int .u32 r.a) := HP1.out.row.cell_ (i := 6) rfl
  have f6 : w1.frozen? ⟨B, 6, none⟩ = false := HP1.out.row.frozen 6
  refine mpc 6 rfl (by kernel_rfl) (by rfl) (fun K hK => ?_)
  go_simp
  have ho := (Only.refl (TurnB B A) w1).setCell (p := ⟨B, 6, none⟩) (.inr (.inl rfl)) (.int .u32 (wordAt r.xs 1))
  have HP2 : Hid (RunP (w1.setCell ⟨B, 6, none⟩ (.int .u32 (wordAt r.xs 1))) B p A cp nv1 r.qCount) := Lib.hid (HP1.out.setA (wordAt r.xs 1))
  have HO2 := Lib.hid (HO1.out.trans ho)
  have HB2 := Lib.hid (HB1.out.turn HP1.out ho aside_c)
  have HW2 := Lib.hid (HW1.out.only ho (fun e => by
    rcases e with e | e
    · exact row_ne HW1.out HP1.out.row (by decide) e
    · exact HG.out e))
  refine hK.out _ _ (.inl (by kernel_rfl)) ?_
  clear hK K hHeld2 c6 f6 HP1 HO1 HB1 HW1 ho
  generalize w1.setCell ⟨B, 6, none⟩ (.int .u32 (wordAt r.xs 1)) = w2 at *
  (try simp only [Act.put, k1, k2, k3])
  refine wpAnyP_done (by kernel_rfl) ?_ _
  go_upto_region 1 with (fail)
  refine wp_region_phase (n := 7) 6 (fun w => w.cell? ⟨g0, 0, none⟩ = some (Value.pointer (some ⟨B, 0, none⟩)) ∧ w.cell? ⟨B, 6, none⟩ = some (.int .u32 (wordAt r.xs 1)) ∧ w.cell? ⟨g1, 0, none⟩ = some (.int .u32 own)) rfl (by kernel_rfl) ⟨(show Row w2 g0 35 #[Value.pointer (some ⟨B, 0, none⟩)] from HB2.out _ (.head _)).cell_ (i := 0) rfl, HP2.out.row.cell_ (i := 6) rfl, HW2.out.cell_ (i := 0) rfl⟩ (fun hHeld => ?_)
  have HP3 := Lib.hid (HP2.out.keep (Only.refl Nil w2).drew)
  have HB3 := Lib.hid (HB2.out.keep (Only.refl Nil w2).drew)
  have HO3 := Lib.hid HO2.out.drew
  clear HP2 HB2 HO2 HW2
  generalize w2.drew = w3 at *
  refine mpt 0 rfl (Value.pointer (some ⟨B, 0, none⟩)) (fun w hSw => ?_) ?_
  · (try dsimp only at hSw)
    go_split_ands
    go_simp
  (try simp only [Act.put, k1, k2, k3])
  refine mpa 1 rfl (Value.pointer (some ⟨B, 0, none⟩)) (fun w => ?_) ?_
  · go_simp
  (try simp only [Act.put, k1, k2, k3])
  refine mpa 2 rfl (.pointer (some ⟨B, 4, none⟩)) (fun w => ?_) ?_
  · go_simp
  (try simp only [Act.put, k1, k2, k3])
  refine mpa 3 rfl (.pointer (some ⟨B, 6, none⟩)) (fun w => ?_) ?_
  · go_simp
  (try simp only [Act.put, k1, k2, k3])
  refine mpt 4 rfl (.int .u32 (wordAt r.xs 1)) (fun w hSw => ?_) ?_
  · (try dsimp only at hSw)
    go_split_ands
    go_simp
  (try simp only [Act.put, k1, k2, k3])
  refine mpt 5 rfl (.int .u32 own) (fun w hSw => ?_) ?_
  · (try dsimp only at hSw)
    go_split_ands
    go_simp
  (try simp only [Act.put, k1, k2, k3])
  refine mpc 6 rfl (by kernel_rfl) (by rfl) (fun K hK => ?_)
  go_simp
  rw [HZ.out]
  refine hK.out _ _ (.inl (by kernel_rfl)) ?_
  clear hK K hHeld
  (try simp only [Act.put, k1, k2, k3])
  refine wpAnyP_done (by kernel_rfl) ?_ _
  cases z
  · have eR := HRR.out
    rw [if_neg (beq_eq_false_iff_ne.1 HZ.out)] at eR
    subst eR
    have b0 : w3.cell? ⟨g0, 0, none⟩ = some (Value.pointer (some ⟨B, 0, none⟩)) := (show Row w3 g0 35 #[Value.pointer (some ⟨B, 0, none⟩)] from HB3.out _ (.head _)).cell_ (i := 0) rfl
    go_wp2_with fail
    clear b0
    refine (note_run B p A cp nv1 _ 5 0 _ HP3.out (Nat.le_trans HLN.out (by decide))).mono ?_
    rintro e w5 ⟨rfl, hO, nv5, hP⟩
    have HO5 := Lib.hid (HO3.out.trans hO)
    have HB5 := Lib.hid (HB3.out.turn HP3.out hO aside_c)
    have HP5 := Lib.hid hP
    clear hO hP HP3 HO3 HB3
    have b0 : w5.cell? ⟨g0, 0, none⟩ = some (Value.pointer (some ⟨B, 0, none⟩)) := (show Row w5 g0 35 #[Value.pointer (some ⟨B, 0, none⟩)] from HB5.out _ (.head _)).cell_ (i := 0) rfl
    go_wp2_with fail
    clear b0
    refine (go_run B p A cp nv5 _ 6 _ HP5.out).mono ?_
    rintro e w4 ⟨rfl, hO, nv4, hP⟩
    have HO4 := Lib.hid (HO5.out.trans hO)
    have HP4 := Lib.hid hP
    clear hO hP
    go_wp2
    go_returns
    exact ⟨rfl, HO4.out, nv4, HP4.out⟩
  · have eR := HRR.out
    rw [if_pos (beq_iff_eq.1 HZ.out)] at eR
    subst eR
    have b2 : w3.cell? ⟨g2, 0, none⟩ = some (.func (.func 50) #[] #[.pointer (some ⟨g3, 0, none⟩)]) := (show Row w3 g2 1 #[.func (.func 50) #[] #[.pointer (some ⟨g3, 0, none⟩)]] from HB3.out _ (.tail _ (.head _))).cell_ (i := 0) rfl
    go_wp2_with fail
    clear b2
    refine (then_2 B p A cp nv1 r.qCount g3 _ HP3.out HLN.out (RowsL.cons (L := []) (fun _ h => by simp at h) (show Row w3 g3 35 #[Value.pointer (some ⟨B, 0, none⟩)] from HB3.out _ (.tail _ (.tail _ (.head _)))))).mono ?_
    rintro e w4 ⟨rfl, hO, nv4, hP⟩
    have HO4 := Lib.hid (HO3.out.trans hO)
    have HP4 := Lib.hid hP
    clear hO hP
    go_wp2
    go_returns
    exact ⟨rfl, HO4.out, nv4, HP4.out⟩
theorem weigh_make1 (B : Nat) (p A : Option Addr) (cp : Nat) (nv : Value) (r : LS) (own : Int) (g3 : Nat) (w : World) (h : RunP w B p A cp nv r) (hl : r.ns.length ≤ 900) (hb : Row w g3 35 #[Value.pointer (some ⟨B, 0, none⟩)]) :
    Calls Tryz.prog 46 #[Value.pointer (some ⟨B, 0, none⟩), .int .u32 own, .func (.func 47) #[] #[.pointer (some ⟨g3, 0, none⟩)]] w (Clo 85 B p A cp (if wordAt r.xs 1 = own then (r.qCount.note 4 0).fin true else (r.qCount.note 5 0).go 6) w) := by
  have e0 := (((Only.refl Nil w).alloc (.cells #[Value.pointer (some ⟨B, 0, none⟩)] 35)).alloc (.cells #[.int .u32 own] 23)).alloc (.cells #[.func (.func 47) #[] #[.pointer (some ⟨g3, 0, none⟩)]] 1)
  have HC := Lib.hid (weigh_clo1 B p A cp nv r own w.heap.size (w.heap.size + 1) (w.heap.size + 1 + 1) g3 _ (h.keep e0) hl ((Row.at (by simp)).alloc _) (fun e => by have := h.memo.lt _ (.inr e); omega)
    (RowsL.cons (L := [_, _]) (RowsL.cons (L := [_]) (RowsL.cons (L := []) (fun _ h => by simp at h) (hb.only e0 id)) (Row.at (by simp))) (((Row.new w 35 #[Value.pointer (some ⟨B, 0, none⟩)]).alloc _).alloc _)))
  have HE := Lib.hid e0
  clear h hl hb e0
  generalize (if wordAt r.xs 1 = own then (r.qCount.note 4 0).fin true else (r.qCount.note 5 0).go 6) = rr at *
  go_enter Tryz.func46, Tryz.ntmps46
  go_wp2
  go_ret
  exact ⟨_, rfl, HE.out, HC.out⟩
theorem weigh_make2 (B : Nat) (p A : Option Addr) (cp : Nat) (nv : Value) (r : LS) (own : Int) (g3 : Nat) (w : World) (h : RunP w B p A cp nv r) (hl : r.ns.length ≤ 900) (hb : Row w g3 35 #[Value.pointer (some ⟨B, 0, none⟩)]) :
    Calls Tryz.prog 46 #[Value.pointer (some ⟨B, 0, none⟩), .int .u32 own, .func (.func 50) #[] #[.pointer (some ⟨g3, 0, none⟩)]] w (Clo 85 B p A cp (if wordAt r.xs 1 = own then r.qCount.go 3 else (r.qCount.note 5 0).go 6) w) := by
  have e0 := (((Only.refl Nil w).alloc (.cells #[Value.pointer (some ⟨B, 0, none⟩)] 35)).alloc (.cells #[.int .u32 own] 23)).alloc (.cells #[.func (.func 50) #[] #[.pointer (some ⟨g3, 0, none⟩)]] 1)
  have HC := Lib.hid (weigh_clo2 B p A cp nv r own w.heap.size (w.heap.size + 1) (w.heap.size + 1 + 1) g3 _ (h.keep e0) hl ((Row.at (by simp)).alloc _) (fun e => by have := h.memo.lt _ (.inr e); omega)
    (RowsL.cons (L := [_, _]) (RowsL.cons (L := [_]) (RowsL.cons (L := []) (fun _ h => by simp at h) (hb.only e0 id)) (Row.at (by simp))) (((Row.new w 35 #[Value.pointer (some ⟨B, 0, none⟩)]).alloc _).alloc _)))
  have HE := Lib.hid e0
  clear h hl hb e0
  generalize (if wordAt r.xs 1 = own then r.qCount.go 3 else (r.qCount.note 5 0).go 6) = rr at *
  go_enter Tryz.func46, Tryz.ntmps46
  go_wp2
  go_ret
  exact ⟨_, rfl, HE.out, HC.out⟩
end Go.Proofs.YtkkldcggbekleaaGreat
