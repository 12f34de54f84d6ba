import Derived.Test.YtgfippbcgneegaaK12
set_option linter.unusedVariables false
set_option linter.unusedSimpArgs false
namespace Go.Proofs.Ytgfippbcgneegaa
open Go.RowKit
theorem ticket_is (B gt : Nat) (a v : Int) (w : World) (hb : Row w gt 62 #[Value.pointer (some ⟨B, 0, none⟩)]) (c6 : w.cell? ⟨B, 6, none⟩ = some (.int .u32 a)) :
    Calls Try.prog 128 #[.int .u32 v, .pointer (some ⟨gt, 0, none⟩)] w fun e w' => e = .returned (.bool (v == a)) ∧ Only Nil w w' := by
  have b0 : w.cell? ⟨gt, 0, none⟩ = some (Value.pointer (some ⟨B, 0, none⟩)) := hb.cell_ (i := 0) rfl
  clear hb
  go_enter Try.func128, Try.ntmps128
  go_wp2
  go_ret
  exact ⟨rfl, Only.refl _ _⟩
theorem ticket_make (B : Nat) (w : World) : Calls Try.prog 109 #[Value.pointer (some ⟨B, 0, none⟩)] w fun e w' =>
    e = .returned (.func (.func 128) #[] #[.pointer (some ⟨w.heap.size, 0, none⟩)]) ∧ Row w' w.heap.size 62 #[Value.pointer (some ⟨B, 0, none⟩)] ∧ Only Nil w w' := by
  have HR := Lib.hid (Row.new w 62 #[Value.pointer (some ⟨B, 0, none⟩)])
  have HO := Lib.hid ((Only.refl Nil w).alloc (.cells #[Value.pointer (some ⟨B, 0, none⟩)] 62))
  go_enter Try.func109, Try.ntmps109
  go_wp2
  go_ret
  exact ⟨rfl, HR.out, HO.out⟩
theorem holds_ticket (B gt : Nat) (p A : Option Addr) (cp : Nat) (nv : Value) (r : LS) (w : World) (h : RunP w B p A cp nv r) (hb : Row w gt 62 #[Value.pointer (some ⟨B, 0, none⟩)]) : Holds A w (.func (.func 128) #[] #[.pointer (some ⟨gt, 0, none⟩)]) r.mine := by
  intro v w1 hO h0 h1
  have hb1 : Row w1 gt 62 #[Value.pointer (some ⟨B, 0, none⟩)] := h.aside hb hO.turned2 aside_p
  have hr1 : Row w1 B 61 (r.cells (.pointer p) nv) := h.row.only hO (fun e => h.far (.inr e) rfl)
  have c6 : w1.cell? ⟨B, 6, none⟩ = some (.int .u32 r.a) := hr1.cell_ (i := 6) rfl
  have HT := Lib.hid (ticket_is B gt r.a v w1 hb1 c6)
  clear h hb hO hb1 hr1 c6
  have hn := neq_fn
  go_enter_defers Try.func130, Try.ntmps130
  go_wp2_with fail
  refine HT.out.mono ?_
  rintro e w2 ⟨rfl, hO⟩
  have HO := Lib.hid hO
  clear hO HT
  have HQ := Lib.hid (show r.mine v = (v == r.a) from rfl)
  generalize hq : (v == r.a) = q at *
  clear hq
  go_wp2
  refine leaves_cons (f := 131) (args := #[]) (by simp) (by simp [go_sem]) ?_
  refine (rec_idle _).mono ?_
  rintro e u' w'' ⟨rfl, rfl, rfl⟩
  exact ⟨_, results_tmp rfl _ _ _, by rw [HQ.out]; rfl, HO.out⟩
set_option maxHeartbeats 1000000 in
theorem awaitR_clo (B : Nat) (p A : Option Addr) (cp : Nat) (nv : Value) (r : LS) (g0 : Nat) (w : World) (h : RunP w B p A cp nv r) (hl : r.ns.length ≤ 900) (hx : Words r.xs) (hb : RowsL w [(g0, 62, #[Value.pointer (some ⟨B, 0, none⟩)])]) :
    Calls Try.prog 108 #[.pointer (some ⟨g0, 0, none⟩)] w (Done B p A cp w (.tuple #[]) r.awaitR) := by
  generalize hsn : (r.stepR 1 r.mine).seen = sn
  cases hdn : (r.stepR 1 r.mine).done
  · rw [show r.awaitR = r.wait 1 r.mine by unfold LS.awaitR; rw [hdn]; rfl]
    have HSN := Lib.hid hsn
    have HDN := Lib.hid hdn
    have HX := Lib.hid hx
    clear hsn hdn hx
    have HP0 := Lib.hid h
    have HB0 := Lib.hid hb
    have HL := Lib.hid hl
    have HO0 := Lib.hid (Only.refl (TurnB B A) w)
    clear h hb hl
    have b0 : w.cell? ⟨g0, 0, none⟩ = some (Value.pointer (some ⟨B, 0, none⟩)) := (show Row w g0 62 #[Value.pointer (some ⟨B, 0, none⟩)] from HB0.out _ (.head _)).cell_ (i := 0) rfl
    go_enter Try.func108, Try.ntmps108
    go_upto_region 0 with (fail)
    refine wp_region_phase (n := 9) 3 (fun w => w.cell? ⟨g0, 0, none⟩ = some (Value.pointer (some ⟨B, 0, none⟩))) rfl (by kernel_rfl) b0 (fun hHeld => ?_)
    clear b0
    have HP0b := Lib.hid (HP0.out.keep (Only.refl Nil w).drew)
    have HB0b := Lib.hid (HB0.out.keep (Only.refl Nil w).drew)
    have HO0b := Lib.hid HO0.out.drew
    clear HP0 HB0 HO0
    generalize w.drew = w0 at *
    refine mpt 0 rfl (Value.pointer (some ⟨B, 0, none⟩)) (fun w hSw => ?_) ?_
    · (try dsimp only at hSw)
      go_split_ands
      go_simp
    (try simp only [Act.put, k1, k2, k3])
    refine mpt 1 rfl (Value.pointer (some ⟨B, 0, none⟩)) (fun w hSw => ?_) ?_
    · (try dsimp only at hSw)
      go_split_ands
      go_simp
    (try simp only [Act.put, k1, k2, k3])
    refine mpc 2 rfl (by kernel_rfl) (by rfl) (fun K hK => ?_)
    go_simp
    refine (ticket_make B _).mono ?_
    rintro e w1 ⟨rfl, hT, hO⟩
    generalize hgt : w0.heap.size = gt at *
    clear hgt
    have HT1 := Lib.hid hT
    have HO1 := Lib.hid (HO0b.out.trans (hO.mono (fun _ _ h => h.elim)))
    have HB1 := Lib.hid (HB0b.out.keep hO)
    have HP1 := Lib.hid (HP0b.out.keep hO)
    clear hT hO HP0b HO0b HB0b
    have hHeld2 : w1.cell? ⟨g0, 0, none⟩ = some (Value.pointer (some ⟨B, 0, none⟩)) := (show Row w1 g0 62 #[Value.pointer (some ⟨B, 0, none⟩)] from HB1.out _ (.head _)).cell_ (i := 0) rfl
    refine hK.out _ _ (.inr hHeld2) ?_
    clear hK K hHeld
    (try simp only [Act.put, k1, k2, k3])
    refine mpc 3 rfl (by kernel_rfl) (by rfl) (fun K hK => ?_)
    go_simp
    refine (wait_run B p A cp nv r 1 (.func 128) #[] #[.pointer (some ⟨gt, 0, none⟩)] r.mine _ HP1.out (holds_ticket B gt p A cp nv r _ HP1.out HT1.out) HX.out).mono ?_
    rw [HSN.out, HDN.out]
    rintro e w2 ⟨rfl, hO, nv2, hP⟩
    have HO2 := Lib.hid (HO1.out.trans hO)
    have HB2 := Lib.hid (HB1.out.turn HP1.out hO aside_1)
    have HP2 := Lib.hid hP
    clear hO hP HP1 HO1 HB1 HT1
    refine hK.out _ _ (.inl (by kernel_rfl)) ?_
    clear hK K hHeld2
    (try simp only [Act.put, k1, k2, k3])
    refine mpa 4 rfl (.tuple #[.bool sn, .bool false]) (fun w => ?_) ?_
    · go_simp
    (try simp only [Act.put, k1, k2, k3])
    refine mpa 5 rfl (.bool sn) (fun w => ?_) ?_
    · go_simp
    (try simp only [Act.put, k1, k2, k3])
    refine mpa 6 rfl (.bool false) (fun w => ?_) ?_
    · go_simp
    (try simp only [Act.put, k1, k2, k3])
    refine mpa 7 rfl (.bool sn) (fun w => ?_) ?_
    · go_simp
    (try simp only [Act.put, k1, k2, k3])
    refine mpa 8 rfl (.bool false) (fun w => ?_) ?_
    · go_simp
    (try simp only [Act.put, k1, k2, k3])
    refine wpAnyP_done (by kernel_rfl) ?_ _
    have b0 : w2.cell? ⟨g0, 0, none⟩ = some (Value.pointer (some ⟨B, 0, none⟩)) := (show Row w2 g0 62 #[Value.pointer (some ⟨B, 0, none⟩)] from HB2.out _ (.head _)).cell_ (i := 0) rfl
    clear b0
    go_wp2
    go_returns
    exact ⟨rfl, HO2.out, nv2, HP2.out⟩
  · rw [show r.awaitR = (r.wait 1 r.mine).go 2 by unfold LS.awaitR; rw [hdn]; rfl]
    have HSN := Lib.hid hsn
    have HDN := Lib.hid hdn
    have HX := Lib.hid hx
    clear hsn hdn hx
    have HP0 := Lib.hid h
    have HB0 := Lib.hid hb
    have HL := Lib.hid hl
    have HO0 := Lib.hid (Only.refl (TurnB B A) w)
    clear h hb hl
    have b0 : w.cell? ⟨g0, 0, none⟩ = some (Value.pointer (some ⟨B, 0, none⟩)) := (show Row w g0 62 #[Value.pointer (some ⟨B, 0, none⟩)] from HB0.out _ (.head _)).cell_ (i := 0) rfl
    go_enter Try.func108, Try.ntmps108
    go_upto_region 0 with (fail)
    refine wp_region_phase (n := 9) 3 (fun w => w.cell? ⟨g0, 0, none⟩ = some (Value.pointer (some ⟨B, 0, none⟩))) rfl (by kernel_rfl) b0 (fun hHeld => ?_)
    clear b0
    have HP0b := Lib.hid (HP0.out.keep (Only.refl Nil w).drew)
    have HB0b := Lib.hid (HB0.out.keep (Only.refl Nil w).drew)
    have HO0b := Lib.hid HO0.out.drew
    clear HP0 HB0 HO0
    generalize w.drew = w0 at *
    refine mpt 0 rfl (Value.pointer (some ⟨B, 0, none⟩)) (fun w hSw => ?_) ?_
    · (try dsimp only at hSw)
      go_split_ands
      go_simp
    (try simp only [Act.put, k1, k2, k3])
    refine mpt 1 rfl (Value.pointer (some ⟨B, 0, none⟩)) (fun w hSw => ?_) ?_
    · (try dsimp only at hSw)
      go_split_ands
      go_simp
    (try simp only [Act.put, k1, k2, k3])
    refine mpc 2 rfl (by kernel_rfl) (by rfl) (fun K hK => ?_)
    go_simp
    refine (ticket_make B _).mono ?_
    rintro e w1 ⟨rfl, hT, hO⟩
    generalize hgt : w0.heap.size = gt at *
    clear hgt
    have HT1 := Lib.hid hT
    have HO1 := Lib.hid (HO0b.out.trans (hO.mono (fun _ _ h => h.elim)))
    have HB1 := Lib.hid (HB0b.out.keep hO)
    have HP1 := Lib.hid (HP0b.out.keep hO)
    clear hT hO HP0b HO0b HB0b
    have hHeld2 : w1.cell? ⟨g0, 0, none⟩ = some (Value.pointer (some ⟨B, 0, none⟩)) := (show Row w1 g0 62 #[Value.pointer (some ⟨B, 0, none⟩)] from HB1.out _ (.head _)).cell_ (i := 0) rfl
    refine hK.out _ _ (.inr hHeld2) ?_
    clear hK K hHeld
    (try simp only [Act.put, k1, k2, k3])
    refine mpc 3 rfl (by kernel_rfl) (by rfl) (fun K hK => ?_)
    go_simp
    refine (wait_run B p A cp nv r 1 (.func 128) #[] #[.pointer (some ⟨gt, 0, none⟩)] r.mine _ HP1.out (holds_ticket B gt p A cp nv r _ HP1.out HT1.out) HX.out).mono ?_
    rw [HSN.out, HDN.out]
    rintro e w2 ⟨rfl, hO, nv2, hP⟩
    have HO2 := Lib.hid (HO1.out.trans hO)
    have HB2 := Lib.hid (HB1.out.turn HP1.out hO aside_1)
    have HP2 := Lib.hid hP
    clear hO hP HP1 HO1 HB1 HT1
    refine hK.out _ _ (.inl (by kernel_rfl)) ?_
    clear hK K hHeld2
    (try simp only [Act.put, k1, k2, k3])
    refine mpa 4 rfl (.tuple #[.bool sn, .bool true]) (fun w => ?_) ?_
    · go_simp
    (try simp only [Act.put, k1, k2, k3])
    refine mpa 5 rfl (.bool sn) (fun w => ?_) ?_
    · go_simp
    (try simp only [Act.put, k1, k2, k3])
    refine mpa 6 rfl (.bool true) (fun w => ?_) ?_
    · go_simp
    (try simp only [Act.put, k1, k2, k3])
    refine mpa 7 rfl (.bool sn) (fun w => ?_) ?_
    · go_simp
    (try simp only [Act.put, k1, k2, k3])
    refine mpa 8 rfl (.bool true) (fun w => ?_) ?_
    · go_simp
    (try simp only [Act.put, k1, k2, k3])
    refine wpAnyP_done (by kernel_rfl) ?_ _
    have b0 : w2.cell? ⟨g0, 0, none⟩ = some (Value.pointer (some ⟨B, 0, none⟩)) := (show Row w2 g0 62 #[Value.pointer (some ⟨B, 0, none⟩)] from HB2.out _ (.head _)).cell_ (i := 0) rfl
    go_wp2_with fail
    clear b0
    refine (go_run B p A cp nv2 _ 2 _ HP2.out).mono ?_
    rintro e w4 ⟨rfl, hO, nv4, hP⟩
    have HO4 := Lib.hid (HO2.out.trans hO)
    have HP4 := Lib.hid hP
    clear hO hP
    go_wp2
    go_returns
    exact ⟨rfl, HO4.out, nv4, HP4.out⟩
set_option maxHeartbeats 1000000 in
theorem awaitW_clo (B : Nat) (p A : Option Addr) (cp : Nat) (nv : Value) (r : LS) (g0 : Nat) (w : World) (h : RunP w B p A cp nv r) (hl : r.ns.length ≤ 900) (hx : Words r.xs) (hb : RowsL w [(g0, 62, #[Value.pointer (some ⟨B, 0, none⟩)])]) :
    Calls Try.prog 111 #[.pointer (some ⟨g0, 0, none⟩)] w (Done B p A cp w (.tuple #[]) r.awaitW) := by
  have hlen : (r.wait 2 r.mine).ns.length ≤ 1000 := Nat.le_trans hl (by decide)
  have HLN := Lib.hid hlen
  clear hlen
  cases hsn : (r.stepR 2 r.mine).seen
  all_goals cases hdn : (r.stepR 2 r.mine).done
  · rw [show r.awaitW = r.wait 2 r.mine by unfold LS.awaitW; rw [hdn, hsn]; rfl]
    have HSN := Lib.hid hsn
    have HDN := Lib.hid hdn
    have HX := Lib.hid hx
    clear hsn hdn hx
    have HP0 := Lib.hid h
    have HB0 := Lib.hid hb
    have HL := Lib.hid hl
    have HO0 := Lib.hid (Only.refl (TurnB B A) w)
    clear h hb hl
    have b0 : w.cell? ⟨g0, 0, none⟩ = some (Value.pointer (some ⟨B, 0, none⟩)) := (show Row w g0 62 #[Value.pointer (some ⟨B, 0, none⟩)] from HB0.out _ (.head _)).cell_ (i := 0) rfl
    go_enter Try.func111, Try.ntmps111
    go_upto_region 0 with (fail)
    refine wp_region_phase (n := 9) 3 (fun w => w.cell? ⟨g0, 0, none⟩ = some (Value.pointer (some ⟨B, 0, none⟩))) rfl (by kernel_rfl) b0 (fun hHeld => ?_)
    clear b0
    have HP0b := Lib.hid (HP0.out.keep (Only.refl Nil w).drew)
    have HB0b := Lib.hid (HB0.out.keep (Only.refl Nil w).drew)
    have HO0b := Lib.hid HO0.out.drew
    clear HP0 HB0 HO0
    generalize w.drew = w0 at *
    refine mpt 0 rfl (Value.pointer (some ⟨B, 0, none⟩)) (fun w hSw => ?_) ?_
    · (try dsimp only at hSw)
      go_split_ands
      go_simp
    (try simp only [Act.put, k1, k2, k3])
    refine mpt 1 rfl (Value.pointer (some ⟨B, 0, none⟩)) (fun w hSw => ?_) ?_
    · (try dsimp only at hSw)
      go_split_ands
      go_simp
    (try simp only [Act.put, k1, k2, k3])
    refine mpc 2 rfl (by kernel_rfl) (by rfl) (fun K hK => ?_)
    go_simp
    refine (ticket_make B _).mono ?_
    rintro e w1 ⟨rfl, hT, hO⟩
    generalize hgt : w0.heap.size = gt at *
    clear hgt
    have HT1 := Lib.hid hT
    have HO1 := Lib.hid (HO0b.out.trans (hO.mono (fun _ _ h => h.elim)))
    have HB1 := Lib.hid (HB0b.out.keep hO)
    have HP1 := Lib.hid (HP0b.out.keep hO)
    clear hT hO HP0b HO0b HB0b
    have hHeld2 : w1.cell? ⟨g0, 0, none⟩ = some (Value.pointer (some ⟨B, 0, none⟩)) := (show Row w1 g0 62 #[Value.pointer (some ⟨B, 0, none⟩)] from HB1.out _ (.head _)).cell_ (i := 0) rfl
    refine hK.out _ _ (.inr hHeld2) ?_
    clear hK K hHeld
    (try simp only [Act.put, k1, k2, k3])
    refine mpc 3 rfl (by kernel_rfl) (by rfl) (fun K hK => ?_)
    go_simp
    refine (wait_run B p A cp nv r 2 (.func 128) #[] #[.pointer (some ⟨gt, 0, none⟩)] r.mine _ HP1.out (holds_ticket B gt p A cp nv r _ HP1.out HT1.out) HX.out).mono ?_
    rw [HSN.out, HDN.out]
    rintro e w2 ⟨rfl, hO, nv2, hP⟩
    have HO2 := Lib.hid (HO1.out.trans hO)
    have HB2 := Lib.hid (HB1.out.turn HP1.out hO aside_1)
    have HP2 := Lib.hid hP
    clear hO hP HP1 HO1 HB1 HT1
    refine hK.out _ _ (.inl (by kernel_rfl)) ?_
    clear hK K hHeld2
    (try simp only [Act.put, k1, k2, k3])
    refine mpa 4 rfl (.tuple #[.bool false, .bool false]) (fun w => ?_) ?_
    · go_simp
    (try simp only [Act.put, k1, k2, k3])
    refine mpa 5 rfl (.bool false) (fun w => ?_) ?_
    · go_simp
    (try simp only [Act.put, k1, k2, k3])
    refine mpa 6 rfl (.bool false) (fun w => ?_) ?_
    · go_simp
    (try simp only [Act.put, k1, k2, k3])
    refine mpa 7 rfl (.bool false) (fun w => ?_) ?_
    · go_simp
    (try simp only [Act.put, k1, k2, k3])
    refine mpa 8 rfl (.bool false) (fun w => ?_) ?_
    · go_simp
    (try simp only [Act.put, k1, k2, k3])
    refine wpAnyP_done (by kernel_rfl) ?_ _
    have b0 : w2.cell? ⟨g0, 0, none⟩ = some (Value.pointer (some ⟨B, 0, none⟩)) := (show Row w2 g0 62 #[Value.pointer (some ⟨B, 0, none⟩)] from HB2.out _ (.head _)).cell_ (i := 0) rfl
    clear b0
    go_wp2
    go_returns
    exact ⟨rfl, HO2.out, nv2, HP2.out⟩
  · rw [show r.awaitW = (r.wait 2 r.mine).fin true by unfold LS.awaitW; rw [hdn, hsn]; rfl]
    have HSN := Lib.hid hsn
    have HDN := Lib.hid hdn
    have HX := Lib.hid hx
    clear hsn hdn hx
    have HP0 := Lib.hid h
    have HB0 := Lib.hid hb
    have HL := Lib.hid hl
    have HO0 := Lib.hid (Only.refl (TurnB B A) w)
    clear h hb hl
    have b0 : w.cell? ⟨g0, 0, none⟩ = some (Value.pointer (some ⟨B, 0, none⟩)) := (show Row w g0 62 #[Value.pointer (some ⟨B, 0, none⟩)] from HB0.out _ (.head _)).cell_ (i := 0) rfl
    go_enter Try.func111, Try.ntmps111
    go_upto_region 0 with (fail)
    refine wp_region_phase (n := 9) 3 (fun w => w.cell? ⟨g0, 0, none⟩ = some (Value.pointer (some ⟨B, 0, none⟩))) rfl (by kernel_rfl) b0 (fun hHeld => ?_)
    clear b0
    have HP0b := Lib.hid (HP0.out.keep (Only.refl Nil w).drew)
    have HB0b := Lib.hid (HB0.out.keep (Only.refl Nil w).drew)
    have HO0b := Lib.hid HO0.out.drew
    clear HP0 HB0 HO0
    generalize w.drew = w0 at *
    refine mpt 0 rfl (Value.pointer (some ⟨B, 0, none⟩)) (fun w hSw => ?_) ?_
    · (try dsimp only at hSw)
      go_split_ands
      go_simp
    (try simp only [Act.put, k1, k2, k3])
    refine mpt 1 rfl (Value.pointer (some ⟨B, 0, none⟩)) (fun w hSw => ?_) ?_
    · (try dsimp only at hSw)
      go_split_ands
      go_simp
    (try simp only [Act.put, k1, k2, k3])
    refine mpc 2 rfl (by kernel_rfl) (by rfl) (fun K hK => ?_)
    go_simp
    refine (ticket_make B _).mono ?_
    rintro e w1 ⟨rfl, hT, hO⟩
    generalize hgt : w0.heap.size = gt at *
    clear hgt
    have HT1 := Lib.hid hT
    have HO1 := Lib.hid (HO0b.out.trans (hO.mono (fun _ _ h => h.elim)))
    have HB1 := Lib.hid (HB0b.out.keep hO)
    have HP1 := Lib.hid (HP0b.out.keep hO)
    clear hT hO HP0b HO0b HB0b
    have hHeld2 : w1.cell? ⟨g0, 0, none⟩ = some (Value.pointer (some ⟨B, 0, none⟩)) := (show Row w1 g0 62 #[Value.pointer (some ⟨B, 0, none⟩)] from HB1.out _ (.head _)).cell_ (i := 0) rfl
    refine hK.out _ _ (.inr hHeld2) ?_
    clear hK K hHeld
    (try simp only [Act.put, k1, k2, k3])
    refine mpc 3 rfl (by kernel_rfl) (by rfl) (fun K hK => ?_)
    go_simp
    refine (wait_run B p A cp nv r 2 (.func 128) #[] #[.pointer (some ⟨gt, 0, none⟩)] r.mine _ HP1.out (holds_ticket B gt p A cp nv r _ HP1.out HT1.out) HX.out).mono ?_
    rw [HSN.out, HDN.out]
    rintro e w2 ⟨rfl, hO, nv2, hP⟩
    have HO2 := Lib.hid (HO1.out.trans hO)
    have HB2 := Lib.hid (HB1.out.turn HP1.out hO aside_1)
    have HP2 := Lib.hid hP
    clear hO hP HP1 HO1 HB1 HT1
    refine hK.out _ _ (.inl (by kernel_rfl)) ?_
    clear hK K hHeld2
    (try simp only [Act.put, k1, k2, k3])
    refine mpa 4 rfl (.tuple #[.bool false, .bool true]) (fun w => ?_) ?_
    · go_simp
    (try simp only [Act.put, k1, k2, k3])
    refine mpa 5 rfl (.bool false) (fun w => ?_) ?_
    · go_simp
    (try simp only [Act.put, k1, k2, k3])
    refine mpa 6 rfl (.bool true) (fun w => ?_) ?_
    · go_simp
    (try simp only [Act.put, k1, k2, k3])
    refine mpa 7 rfl (.bool false) (fun w => ?_) ?_
    · go_simp
    (try simp only [Act.put, k1, k2, k3])
    refine mpa 8 rfl (.bool true) (fun w => ?_) ?_
    · go_simp
    (try simp only [Act.put, k1, k2, k3])
    refine wpAnyP_done (by kernel_rfl) ?_ _
    have b0 : w2.cell? ⟨g0, 0, none⟩ = some (Value.pointer (some ⟨B, 0, none⟩)) := (show Row w2 g0 62 #[Value.pointer (some ⟨B, 0, none⟩)] from HB2.out _ (.head _)).cell_ (i := 0) rfl
    go_wp2_with fail
    clear b0
    refine (end_run B p A cp nv2 _ _ true HP2.out).mono ?_
    rintro e w4 ⟨rfl, hO, nv4, hP⟩
    have HO4 := Lib.hid (HO2.out.trans hO)
    have HP4 := Lib.hid hP
    clear hO hP
    go_wp2
    go_returns
    exact ⟨rfl, HO4.out, nv4, HP4.out⟩
  · rw [show r.awaitW = (r.wait 2 r.mine).note 4 0 by unfold LS.awaitW; rw [hdn, hsn]; rfl]
    have HSN := Lib.hid hsn
    have HDN := Lib.hid hdn
    have HX := Lib.hid hx
    clear hsn hdn hx
    have HP0 := Lib.hid h
    have HB0 := Lib.hid hb
    have HL := Lib.hid hl
    have HO0 := Lib.hid (Only.refl (TurnB B A) w)
    clear h hb hl
    have b0 : w.cell? ⟨g0, 0, none⟩ = some (Value.pointer (some ⟨B, 0, none⟩)) := (show Row w g0 62 #[Value.pointer (some ⟨B, 0, none⟩)] from HB0.out _ (.head _)).cell_ (i := 0) rfl
    go_enter Try.func111, Try.ntmps111
    go_upto_region 0 with (fail)
    refine wp_region_phase (n := 9) 3 (fun w => w.cell? ⟨g0, 0, none⟩ = some (Value.pointer (some ⟨B, 0, none⟩))) rfl (by kernel_rfl) b0 (fun hHeld => ?_)
    clear b0
    have HP0b := Lib.hid (HP0.out.keep (Only.refl Nil w).drew)
    have HB0b := Lib.hid (HB0.out.keep (Only.refl Nil w).drew)
    have HO0b := Lib.hid HO0.out.drew
    clear HP0 HB0 HO0
    generalize w.drew = w0 at *
    refine mpt 0 rfl (Value.pointer (some ⟨B, 0, none⟩)) (fun w hSw => ?_) ?_
    · (try dsimp only at hSw)
      go_split_ands
      go_simp
    (try simp only [Act.put, k1, k2, k3])
    refine mpt 1 rfl (Value.pointer (some ⟨B, 0, none⟩)) (fun w hSw => ?_) ?_
    · (try dsimp only at hSw)
      go_split_ands
      go_simp
    (try simp only [Act.put, k1, k2, k3])
    refine mpc 2 rfl (by kernel_rfl) (by rfl) (fun K hK => ?_)
    go_simp
    refine (ticket_make B _).mono ?_
    rintro e w1 ⟨rfl, hT, hO⟩
    generalize hgt : w0.heap.size = gt at *
    clear hgt
    have HT1 := Lib.hid hT
    have HO1 := Lib.hid (HO0b.out.trans (hO.mono (fun _ _ h => h.elim)))
    have HB1 := Lib.hid (HB0b.out.keep hO)
    have HP1 := Lib.hid (HP0b.out.keep hO)
    clear hT hO HP0b HO0b HB0b
    have hHeld2 : w1.cell? ⟨g0, 0, none⟩ = some (Value.pointer (some ⟨B, 0, none⟩)) := (show Row w1 g0 62 #[Value.pointer (some ⟨B, 0, none⟩)] from HB1.out _ (.head _)).cell_ (i := 0) rfl
    refine hK.out _ _ (.inr hHeld2) ?_
    clear hK K hHeld
    (try simp only [Act.put, k1, k2, k3])
    refine mpc 3 rfl (by kernel_rfl) (by rfl) (fun K hK => ?_)
    go_simp
    refine (wait_run B p A cp nv r 2 (.func 128) #[] #[.pointer (some ⟨gt, 0, none⟩)] r.mine _ HP1.out (holds_ticket B gt p A cp nv r _ HP1.out HT1.out) HX.out).mono ?_
    rw [HSN.out, HDN.out]
    rintro e w2 ⟨rfl, hO, nv2, hP⟩
    have HO2 := Lib.hid (HO1.out.trans hO)
    have HB2 := Lib.hid (HB1.out.turn HP1.out hO aside_1)
    have HP2 := Lib.hid hP
    clear hO hP HP1 HO1 HB1 HT1
    refine hK.out _ _ (.inl (by kernel_rfl)) ?_
    clear hK K hHeld2
    (try simp only [Act.put, k1, k2, k3])
    refine mpa 4 rfl (.tuple #[.bool true, .bool false]) (fun w => ?_) ?_
    · go_simp
    (try simp only [Act.put, k1, k2, k3])
    refine mpa 5 rfl (.bool true) (fun w => ?_) ?_
    · go_simp
    (try simp only [Act.put, k1, k2, k3])
    refine mpa 6 rfl (.bool false) (fun w => ?_) ?_
    · go_simp
    (try simp only [Act.put, k1, k2, k3])
    refine mpa 7 rfl (.bool true) (fun w => ?_) ?_
    · go_simp
    (try simp only [Act.put, k1, k2, k3])
    refine mpa 8 rfl (.bool false) (fun w => ?_) ?_
    · go_simp
    (try simp only [Act.put, k1, k2, k3])
    refine wpAnyP_done (by kernel_rfl) ?_ _
    have b0 : w2.cell? ⟨g0, 0, none⟩ = some (Value.pointer (some ⟨B, 0, none⟩)) := (show Row w2 g0 62 #[Value.pointer (some ⟨B, 0, none⟩)] from HB2.out _ (.head _)).cell_ (i := 0) rfl
    go_wp2_with fail
    clear b0
    refine (note_run B p A cp nv2 _ 4 0 _ HP2.out HLN.out).mono ?_
    rintro e w4 ⟨rfl, hO, nv4, hP⟩
    have HO4 := Lib.hid (HO2.out.trans hO)
    have HP4 := Lib.hid hP
    clear hO hP
    go_wp2
    go_returns
    exact ⟨rfl, HO4.out, nv4, HP4.out⟩
  · rw [show r.awaitW = ((r.wait 2 r.mine).note 4 0).fin true by unfold LS.awaitW; rw [hdn, hsn]; rfl]
    have HSN := Lib.hid hsn
    have HDN := Lib.hid hdn
    have HX := Lib.hid hx
    clear hsn hdn hx
    have HP0 := Lib.hid h
    have HB0 := Lib.hid hb
    have HL := Lib.hid hl
    have HO0 := Lib.hid (Only.refl (TurnB B A) w)
    clear h hb hl
    have b0 : w.cell? ⟨g0, 0, none⟩ = some (Value.pointer (some ⟨B, 0, none⟩)) := (show Row w g0 62 #[Value.pointer (some ⟨B, 0, none⟩)] from HB0.out _ (.head _)).cell_ (i := 0) rfl
    go_enter Try.func111, Try.ntmps111
    go_upto_region 0 with (fail)
    refine wp_region_phase (n := 9) 3 (fun w => w.cell? ⟨g0, 0, none⟩ = some (Value.pointer (some ⟨B, 0, none⟩))) rfl (by kernel_rfl) b0 (fun hHeld => ?_)
    clear b0
    have HP0b := Lib.hid (HP0.out.keep (Only.refl Nil w).drew)
    have HB0b := Lib.hid (HB0.out.keep (Only.refl Nil w).drew)
    have HO0b := Lib.hid HO0.out.drew
    clear HP0 HB0 HO0
    generalize w.drew = w0 at *
    refine mpt 0 rfl (Value.pointer (some ⟨B, 0, none⟩)) (fun w hSw => ?_) ?_
    · (try dsimp only at hSw)
      go_split_ands
      go_simp
    (try simp only [Act.put, k1, k2, k3])
    refine mpt 1 rfl (Value.pointer (some ⟨B, 0, none⟩)) (fun w hSw => ?_) ?_
    · (try dsimp only at hSw)
      go_split_ands
      go_simp
    (try simp only [Act.put, k1, k2, k3])
    refine mpc 2 rfl (by kernel_rfl) (by rfl) (fun K hK => ?_)
    go_simp
    refine (ticket_make B _).mono ?_
    rintro e w1 ⟨rfl, hT, hO⟩
    generalize hgt : w0.heap.size = gt at *
    clear hgt
    have HT1 := Lib.hid hT
    have HO1 := Lib.hid (HO0b.out.trans (hO.mono (fun _ _ h => h.elim)))
    have HB1 := Lib.hid (HB0b.out.keep hO)
    have HP1 := Lib.hid (HP0b.out.keep hO)
    clear hT hO HP0b HO0b HB0b
    have hHeld2 : w1.cell? ⟨g0, 0, none⟩ = some (Value.pointer (some ⟨B, 0, none⟩)) := (show Row w1 g0 62 #[Value.pointer (some ⟨B, 0, none⟩)] from HB1.out _ (.head _)).cell_ (i := 0) rfl
    refine hK.out _ _ (.inr hHeld2) ?_
    clear hK K hHeld
    (try simp only [Act.put, k1, k2, k3])
    refine mpc 3 rfl (by kernel_rfl) (by rfl) (fun K hK => ?_)
    go_simp
    refine (wait_run B p A cp nv r 2 (.func 128) #[] #[.pointer (some ⟨gt, 0, none⟩)] r.mine _ HP1.out (holds_ticket B gt p A cp nv r _ HP1.out HT1.out) HX.out).mono ?_
    rw [HSN.out, HDN.out]
    rintro e w2 ⟨rfl, hO, nv2, hP⟩
    have HO2 := Lib.hid (HO1.out.trans hO)
    have HB2 := Lib.hid (HB1.out.turn HP1.out hO aside_1)
    have HP2 := Lib.hid hP
    clear hO hP HP1 HO1 HB1 HT1
    refine hK.out _ _ (.inl (by kernel_rfl)) ?_
    clear hK K hHeld2
    (try simp only [Act.put, k1, k2, k3])
    refine mpa 4 rfl (.tuple #[.bool true, .bool true]) (fun w => ?_) ?_
    · go_simp
    (try simp only [Act.put, k1, k2, k3])
    refine mpa 5 rfl (.bool true) (fun w => ?_) ?_
    · go_simp
    (try simp only [Act.put, k1, k2, k3])
    refine mpa 6 rfl (.bool true) (fun w => ?_) ?_
    · go_simp
    (try simp only [Act.put, k1, k2, k3])
    refine mpa 7 rfl (.bool true) (fun w => ?_) ?_
    · go_simp
    (try simp only [Act.put, k1, k2, k3])
    refine mpa 8 rfl (.bool true) (fun w => ?_) ?_
    · go_simp
    (try simp only [Act.put, k1, k2, k3])
    refine wpAnyP_done (by kernel_rfl) ?_ _
    have b0 : w2.cell? ⟨g0, 0, none⟩ = some (Value.pointer (some ⟨B, 0, none⟩)) := (show Row w2 g0 62 #[Value.pointer (some ⟨B, 0, none⟩)] from HB2.out _ (.head _)).cell_ (i := 0) rfl
    go_wp2_with fail
    clear b0
    refine (note_run B p A cp nv2 _ 4 0 _ HP2.out HLN.out).mono ?_
    rintro e w3 ⟨rfl, hO, nv3, hP⟩
    have HO3 := Lib.hid (HO2.out.trans hO)
    have HB3 := Lib.hid (HB2.out.turn HP2.out hO aside_1)
    have HP3 := Lib.hid hP
    clear hO hP HP2 HO2 HB2
    have b0 : w3.cell? ⟨g0, 0, none⟩ = some (Value.pointer (some ⟨B, 0, none⟩)) := (show Row w3 g0 62 #[Value.pointer (some ⟨B, 0, none⟩)] from HB3.out _ (.head _)).cell_ (i := 0) rfl
    go_wp2_with fail
    clear b0
    refine (end_run B p A cp nv3 _ _ true HP3.out).mono ?_
    rintro e w4 ⟨rfl, hO, nv4, hP⟩
    have HO4 := Lib.hid (HO3.out.trans hO)
    have HP4 := Lib.hid hP
    clear hO hP
    go_wp2
    go_returns
    exact ⟨rfl, HO4.out, nv4, HP4.out⟩
theorem awaitR_make (B : Nat) (p A : Option Addr) (cp : Nat) (nv : Value) (r : LS) (w : World) (h : RunP w B p A cp nv r) (hl : r.ns.length ≤ 900) (hx : Words r.xs) :
    Calls Try.prog 84 #[Value.pointer (some ⟨B, 0, none⟩)] w (Clo 108 B p A cp r.awaitR w) := by
  have e0 := (Only.refl Nil w).alloc (.cells #[Value.pointer (some ⟨B, 0, none⟩)] 62)
  have HC := Lib.hid (awaitR_clo B p A cp nv r w.heap.size _ (h.keep e0) hl hx (RowsL.cons (L := []) (fun _ h => by simp at h) (Row.new w 62 #[Value.pointer (some ⟨B, 0, none⟩)])))
  have HE := Lib.hid e0
  clear h hl hx e0
  go_enter Try.func84, Try.ntmps84
  go_wp2
  go_ret
  exact ⟨_, rfl, HE.out, HC.out⟩
theorem awaitW_make (B : Nat) (p A : Option Addr) (cp : Nat) (nv : Value) (r : LS) (w : World) (h : RunP w B p A cp nv r) (hl : r.ns.length ≤ 900) (hx : Words r.xs) :
    Calls Try.prog 86 #[Value.pointer (some ⟨B, 0, none⟩)] w (Clo 111 B p A cp r.awaitW w) := by
  have e0 := (Only.refl Nil w).alloc (.cells #[Value.pointer (some ⟨B, 0, none⟩)] 62)
  have HC := Lib.hid (awaitW_clo B p A cp nv r w.heap.size _ (h.keep e0) hl hx (RowsL.cons (L := []) (fun _ h => by simp at h) (Row.new w 62 #[Value.pointer (some ⟨B, 0, none⟩)])))
  have HE := Lib.hid e0
  clear h hl hx e0
  go_enter Try.func86, Try.ntmps86
  go_wp2
  go_ret
  exact ⟨_, rfl, HE.out, HC.out⟩
set_option maxHeartbeats 1000000 in
theorem weigh_clo (B : Nat) (p A : Option Addr) (cp : Nat) (nv : Value) (r : LS) (c own : Int) (g0 g1 g2 : Nat) (w : World) (h : RunP w B p A cp nv r) (hl : r.ns.length ≤ 900)
    (hb : RowsL w [(g0, 62, #[Value.pointer (some ⟨B, 0, none⟩)]), (g1, 3, #[.int .i64 c]), (g2, 3, #[.int .i64 own])]) :
    Calls Try.prog 114 #[.pointer (some ⟨g0, 0, none⟩), .pointer (some ⟨g1, 0, none⟩), .pointer (some ⟨g2, 0, none⟩)] w (Done B p A cp w (.tuple #[]) (r.weigh c own)) := by
  have hlen : ((r.doA 1 c 0 0).keepB (wordAt r.xs c)).ns.length ≤ 1000 := Nat.le_trans hl (by decide)
  have HLN := Lib.hid hlen
  clear hlen
  generalize hah : aheadI r.a (wordAt r.xs c) = ah
  by_cases h1 : own < ah
  · rw [show r.weigh c own = (((r.doA 1 c 0 0).keepB (wordAt r.xs c)).note 5 0).fin false by unfold LS.weigh; rw [hah, if_pos h1]]
    have HAH := Lib.hid hah
    clear hah
    have HP0 := Lib.hid h
    have HB0 := Lib.hid hb
    have HL := Lib.hid hl
    have HO0 := Lib.hid (Only.refl (TurnB B A) w)
    clear h hb hl
    have b0 : w.cell? ⟨g0, 0, none⟩ = some (Value.pointer (some ⟨B, 0, none⟩)) := (show Row w g0 62 #[Value.pointer (some ⟨B, 0, none⟩)] from HB0.out _ (.head _)).cell_ (i := 0) rfl
    have b1 : w.cell? ⟨g1, 0, none⟩ = some (.int .i64 c) := (show Row w g1 3 #[.int .i64 c] from HB0.out _ (.tail _ (.head _))).cell_ (i := 0) rfl
    go_enter Try.func114, Try.ntmps114
    go_upto_region 0 with (fail)
    refine wp_region_phase (n := 8) 7 (fun w => w.cell? ⟨g0, 0, none⟩ = some (Value.pointer (some ⟨B, 0, none⟩)) ∧ w.cell? ⟨g1, 0, none⟩ = some (.int .i64 c)) rfl (by kernel_rfl) ⟨b0, b1⟩ (fun hHeld => ?_)
    clear b0 b1
    have HP0b := Lib.hid (HP0.out.keep (Only.refl Nil w).drew)
    have HB0b := Lib.hid (HB0.out.keep (Only.refl Nil w).drew)
    have HO0b := Lib.hid HO0.out.drew
    clear HP0 HB0 HO0
    generalize w.drew = w0 at *
    refine mpt 0 rfl (Value.pointer (some ⟨B, 0, none⟩)) (fun w hSw => ?_) ?_
    · (try dsimp only at hSw)
      go_split_ands
      go_simp
    (try simp only [Act.put, k1, k2, k3])
    refine mpt 1 rfl (Value.pointer (some ⟨B, 0, none⟩)) (fun w hSw => ?_) ?_
    · (try dsimp only at hSw)
      go_split_ands
      go_simp
    (try simp only [Act.put, k1, k2, k3])
    refine mpt 2 rfl (.int .i64 c) (fun w hSw => ?_) ?_
    · (try dsimp only at hSw)
      go_split_ands
      go_simp
    (try simp only [Act.put, k1, k2, k3])
    refine mpc 3 rfl (by kernel_rfl) (by rfl) (fun K hK => ?_)
    go_simp
    refine (load_run B p A cp nv r c _ HP0b.out).mono ?_
    rintro e w1 ⟨rfl, hO, nv1, hP⟩
    have HO1 := Lib.hid (HO0b.out.trans hO)
    have HB1 := Lib.hid (HB0b.out.turn HP0b.out hO aside_3)
    have HP1 := Lib.hid hP
    clear hO hP HP0b HO0b HB0b
    have hHeld2 : w1.cell? ⟨g0, 0, none⟩ = some (Value.pointer (some ⟨B, 0, none⟩)) ∧ w1.cell? ⟨g1, 0, none⟩ = some (.int .i64 c) := ⟨(show Row w1 g0 62 #[Value.pointer (some ⟨B, 0, none⟩)] from HB1.out _ (.head _)).cell_ (i := 0) rfl, (show Row w1 g1 3 #[.int .i64 c] from HB1.out _ (.tail _ (.head _))).cell_ (i := 0) rfl⟩
    refine hK.out _ _ (.inr hHeld2) ?_
    clear hK K hHeld
    (try simp only [Act.put, k1, k2, k3])
    refine mpa 4 rfl (Value.pointer (some ⟨B, 0, none⟩)) (fun w => ?_) ?_
    · go_simp
    (try simp only [Act.put, k1, k2, k3])
    refine mpa 5 rfl (.pointer (some ⟨B, 4, none⟩)) (fun w => ?_) ?_
    · go_simp
    (try simp only [Act.put, k1, k2, k3])
    refine mpa 6 rfl (.pointer (some ⟨B, 7, none⟩)) (fun w => ?_) ?_
    · go_simp
    (try simp only [Act.put, k1, k2, k3])
    have c7 : w1.cell? ⟨B, 7, none⟩ = some (.int .u32 r.b) := HP1.out.row.cell_ (i := 7) rfl
    have f7 : w1.frozen? ⟨B, 7, none⟩ = false := HP1.out.row.frozen 7
    refine mpc 7 rfl (by kernel_rfl) (by rfl) (fun K hK => ?_)
    go_simp
    have HP2 := Lib.hid (HP1.out.setB (wordAt r.xs c))
    have HO2 := Lib.hid (HO1.out.setCell (p := ⟨B, 7, none⟩) (.inr (.inl rfl)) (.int .u32 (wordAt r.xs c)))
    have HB2 := Lib.hid (HB1.out.turn HP1.out ((Only.refl (TurnB B A) w1).setCell (p := ⟨B, 7, none⟩) (.inr (.inl rfl)) (.int .u32 (wordAt r.xs c))) aside_3)
    refine hK.out _ _ (.inl (by kernel_rfl)) ?_
    clear hK K c7 f7 hHeld2 HP1 HO1 HB1
    generalize w1.setCell ⟨B, 7, none⟩ (.int .u32 (wordAt r.xs c)) = w2 at *
    (try simp only [Act.put, k1, k2, k3])
    refine wpAnyP_done (by kernel_rfl) ?_ _
    go_upto_region 1 with (fail)
    refine wp_region_phase (n := 12) 10 (fun w => w.cell? ⟨g0, 0, none⟩ = some (Value.pointer (some ⟨B, 0, none⟩)) ∧ w.cell? ⟨B, 6, none⟩ = some (.int .u32 r.a) ∧ w.cell? ⟨B, 7, none⟩ = some (.int .u32 (wordAt r.xs c))) rfl (by kernel_rfl) ⟨(show Row w2 g0 62 #[Value.pointer (some ⟨B, 0, none⟩)] from HB2.out _ (.head _)).cell_ (i := 0) rfl, HP2.out.row.cell_ (i := 6) rfl, HP2.out.row.cell_ (i := 7) rfl⟩ (fun hHeld => ?_)
    have HP3 := Lib.hid (HP2.out.keep (Only.refl Nil w2).drew)
    have HB3 := Lib.hid (HB2.out.keep (Only.refl Nil w2).drew)
    have HO3 := Lib.hid HO2.out.drew
    clear HP2 HB2 HO2
    generalize w2.drew = w3 at *
    refine mpt 0 rfl (Value.pointer (some ⟨B, 0, none⟩)) (fun w hSw => ?_) ?_
    · (try dsimp only at hSw)
      go_split_ands
      go_simp
    (try simp only [Act.put, k1, k2, k3])
    refine mpa 1 rfl (Value.pointer (some ⟨B, 0, none⟩)) (fun w => ?_) ?_
    · go_simp
    (try simp only [Act.put, k1, k2, k3])
    refine mpa 2 rfl (.pointer (some ⟨B, 4, none⟩)) (fun w => ?_) ?_
    · go_simp
    (try simp only [Act.put, k1, k2, k3])
    refine mpa 3 rfl (.pointer (some ⟨B, 6, none⟩)) (fun w => ?_) ?_
    · go_simp
    (try simp only [Act.put, k1, k2, k3])
    refine mpt 4 rfl (.int .u32 r.a) (fun w hSw => ?_) ?_
    · (try dsimp only at hSw)
      go_split_ands
      go_simp
    (try simp only [Act.put, k1, k2, k3])
    refine mpt 5 rfl (Value.pointer (some ⟨B, 0, none⟩)) (fun w hSw => ?_) ?_
    · (try dsimp only at hSw)
      go_split_ands
      go_simp
    (try simp only [Act.put, k1, k2, k3])
    refine mpa 6 rfl (Value.pointer (some ⟨B, 0, none⟩)) (fun w => ?_) ?_
    · go_simp
    (try simp only [Act.put, k1, k2, k3])
    refine mpa 7 rfl (.pointer (some ⟨B, 4, none⟩)) (fun w => ?_) ?_
    · go_simp
    (try simp only [Act.put, k1, k2, k3])
    refine mpa 8 rfl (.pointer (some ⟨B, 7, none⟩)) (fun w => ?_) ?_
    · go_simp
    (try simp only [Act.put, k1, k2, k3])
    refine mpt 9 rfl (.int .u32 (wordAt r.xs c)) (fun w hSw => ?_) ?_
    · (try dsimp only at hSw)
      go_split_ands
      go_simp
    (try simp only [Act.put, k1, k2, k3])
    refine mpc 10 rfl (by kernel_rfl) (by rfl) (fun K hK => ?_)
    go_simp
    refine (ahead_any r.a (wordAt r.xs c) _).mono ?_
    rw [HAH.out]
    rintro e w9 ⟨rfl, rfl⟩
    refine hK.out _ _ (.inl (by kernel_rfl)) ?_
    clear hK K
    (try simp only [Act.put, k1, k2, k3])
    refine mpa 11 rfl (.int .i64 ah) (fun w => ?_) ?_
    · go_simp
    (try simp only [Act.put, k1, k2, k3])
    refine wpAnyP_done (by kernel_rfl) ?_ _
    clear hHeld
    have b0 : w3.cell? ⟨g0, 0, none⟩ = some (Value.pointer (some ⟨B, 0, none⟩)) := (show Row w3 g0 62 #[Value.pointer (some ⟨B, 0, none⟩)] from HB3.out _ (.head _)).cell_ (i := 0) rfl
    have b2 : w3.cell? ⟨g2, 0, none⟩ = some (.int .i64 own) := (show Row w3 g2 3 #[.int .i64 own] from HB3.out _ (.tail _ (.tail _ (.head _)))).cell_ (i := 0) rfl
    go_wp2_with fail
    clear b0 b2
    refine (note_run B p A cp nv1 _ 5 0 _ HP3.out HLN.out).mono ?_
    rintro e w5 ⟨rfl, hO, nv5, hP⟩
    have HO5 := Lib.hid (HO3.out.trans hO)
    have HB5 := Lib.hid (HB3.out.turn HP3.out hO aside_3)
    have HP5 := Lib.hid hP
    clear hO hP HP3 HO3 HB3
    have b0 : w5.cell? ⟨g0, 0, none⟩ = some (Value.pointer (some ⟨B, 0, none⟩)) := (show Row w5 g0 62 #[Value.pointer (some ⟨B, 0, none⟩)] from HB5.out _ (.head _)).cell_ (i := 0) rfl
    go_wp2_with fail
    clear b0
    refine (end_run B p A cp nv5 _ _ false HP5.out).mono ?_
    rintro e w4 ⟨rfl, hO, nv4, hP⟩
    have HO4 := Lib.hid (HO5.out.trans hO)
    have HP4 := Lib.hid hP
    clear hO hP
    go_wp2
    go_returns
    exact ⟨rfl, HO4.out, nv4, HP4.out⟩
  · by_cases h2 : ah < own
    · rw [show r.weigh c own = ((r.doA 1 c 0 0).keepB (wordAt r.xs c)).go 0 by unfold LS.weigh; rw [hah, if_neg h1, if_pos h2]]
      have HAH := Lib.hid hah
      clear hah
      have HP0 := Lib.hid h
      have HB0 := Lib.hid hb
      have HL := Lib.hid hl
      have HO0 := Lib.hid (Only.refl (TurnB B A) w)
      clear h hb hl
      have b0 : w.cell? ⟨g0, 0, none⟩ = some (Value.pointer (some ⟨B, 0, none⟩)) := (show Row w g0 62 #[Value.pointer (some ⟨B, 0, none⟩)] from HB0.out _ (.head _)).cell_ (i := 0) rfl
      have b1 : w.cell? ⟨g1, 0, none⟩ = some (.int .i64 c) := (show Row w g1 3 #[.int .i64 c] from HB0.out _ (.tail _ (.head _))).cell_ (i := 0) rfl
      go_enter Try.func114, Try.ntmps114
      go_upto_region 0 with (fail)
      refine wp_region_phase (n := 8) 7 (fun w => w.cell? ⟨g0, 0, none⟩ = some (Value.pointer (some ⟨B, 0, none⟩)) ∧ w.cell? ⟨g1, 0, none⟩ = some (.int .i64 c)) rfl (by kernel_rfl) ⟨b0, b1⟩ (fun hHeld => ?_)
      clear b0 b1
      have HP0b := Lib.hid (HP0.out.keep (Only.refl Nil w).drew)
      have HB0b := Lib.hid (HB0.out.keep (Only.refl Nil w).drew)
      have HO0b := Lib.hid HO0.out.drew
      clear HP0 HB0 HO0
      generalize w.drew = w0 at *
      refine mpt 0 rfl (Value.pointer (some ⟨B, 0, none⟩)) (fun w hSw => ?_) ?_
      · (try dsimp only at hSw)
        go_split_ands
        go_simp
      (try simp only [Act.put, k1, k2, k3])
      refine mpt 1 rfl (Value.pointer (some ⟨B, 0, none⟩)) (fun w hSw => ?_) ?_
      · (try dsimp only at hSw)
        go_split_ands
        go_simp
      (try simp only [Act.put, k1, k2, k3])
      refine mpt 2 rfl (.int .i64 c) (fun w hSw => ?_) ?_
      · (try dsimp only at hSw)
        go_split_ands
        go_simp
      (try simp only [Act.put, k1, k2, k3])
      refine mpc 3 rfl (by kernel_rfl) (by rfl) (fun K hK => ?_)
      go_simp
      refine (load_run B p A cp nv r c _ HP0b.out).mono ?_
      rintro e w1 ⟨rfl, hO, nv1, hP⟩
      have HO1 := Lib.hid (HO0b.out.trans hO)
      have HB1 := Lib.hid (HB0b.out.turn HP0b.out hO aside_3)
      have HP1 := Lib.hid hP
      clear hO hP HP0b HO0b HB0b
      have hHeld2 : w1.cell? ⟨g0, 0, none⟩ = some (Value.pointer (some ⟨B, 0, none⟩)) ∧ w1.cell? ⟨g1, 0, none⟩ = some (.int .i64 c) := ⟨(show Row w1 g0 62 #[Value.pointer (some ⟨B, 0, none⟩)] from HB1.out _ (.head _)).cell_ (i := 0) rfl, (show Row w1 g1 3 #[.int .i64 c] from HB1.out _ (.tail _ (.head _))).cell_ (i := 0) rfl⟩
      refine hK.out _ _ (.inr hHeld2) ?_
      clear hK K hHeld
      (try simp only [Act.put, k1, k2, k3])
      refine mpa 4 rfl (Value.pointer (some ⟨B, 0, none⟩)) (fun w => ?_) ?_
      · go_simp
      (try simp only [Act.put, k1, k2, k3])
      refine mpa 5 rfl (.pointer (some ⟨B, 4, none⟩)) (fun w => ?_) ?_
      · go_simp
      (try simp only [Act.put, k1, k2, k3])
      refine mpa 6 rfl (.pointer (some ⟨B, 7, none⟩)) (fun w => ?_) ?_
      · go_simp
      (try simp only [Act.put, k1, k2, k3])
      have c7 : w1.cell? ⟨B, 7, none⟩ = some (.int .u32 r.b) := HP1.out.row.cell_ (i := 7) rfl
      have f7 : w1.frozen? ⟨B, 7, none⟩ = false := HP1.out.row.frozen 7
      refine mpc 7 rfl (by kernel_rfl) (by rfl) (fun K hK => ?_)
      go_simp
      have HP2 := Lib.hid (HP1.out.setB (wordAt r.xs c))
      have HO2 := Lib.hid (HO1.out.setCell (p := ⟨B, 7, none⟩) (.inr (.inl rfl)) (.int .u32 (wordAt r.xs c)))
      have HB2 := Lib.hid (HB1.out.turn HP1.out ((Only.refl (TurnB B A) w1).setCell (p := ⟨B, 7, none⟩) (.inr (.inl rfl)) (.int .u32 (wordAt r.xs c))) aside_3)
      refine hK.out _ _ (.inl (by kernel_rfl)) ?_
      clear hK K c7 f7 hHeld2 HP1 HO1 HB1
      generalize w1.setCell ⟨B, 7, none⟩ (.int .u32 (wordAt r.xs c)) = w2 at *
      (try simp only [Act.put, k1, k2, k3])
      refine wpAnyP_done (by kernel_rfl) ?_ _
      go_upto_region 1 with (fail)
      refine wp_region_phase (n := 12) 10 (fun w => w.cell? ⟨g0, 0, none⟩ = some (Value.pointer (some ⟨B, 0, none⟩)) ∧ w.cell? ⟨B, 6, none⟩ = some (.int .u32 r.a) ∧ w.cell? ⟨B, 7, none⟩ = some (.int .u32 (wordAt r.xs c))) rfl (by kernel_rfl) ⟨(show Row w2 g0 62 #[Value.pointer (some ⟨B, 0, none⟩)] from HB2.out _ (.head _)).cell_ (i := 0) rfl, HP2.out.row.cell_ (i := 6) rfl, HP2.out.row.cell_ (i := 7) rfl⟩ (fun hHeld => ?_)
      have HP3 := Lib.hid (HP2.out.keep (Only.refl Nil w2).drew)
      have HB3 := Lib.hid (HB2.out.keep (Only.refl Nil w2).drew)
      have HO3 := Lib.hid HO2.out.drew
      clear HP2 HB2 HO2
      generalize w2.drew = w3 at *
      refine mpt 0 rfl (Value.pointer (some ⟨B, 0, none⟩)) (fun w hSw => ?_) ?_
      · (try dsimp only at hSw)
        go_split_ands
        go_simp
      (try simp only [Act.put, k1, k2, k3])
      refine mpa 1 rfl (Value.pointer (some ⟨B, 0, none⟩)) (fun w => ?_) ?_
      · go_simp
      (try simp only [Act.put, k1, k2, k3])
      refine mpa 2 rfl (.pointer (some ⟨B, 4, none⟩)) (fun w => ?_) ?_
      · go_simp
      (try simp only [Act.put, k1, k2, k3])
      refine mpa 3 rfl (.pointer (some ⟨B, 6, none⟩)) (fun w => ?_) ?_
      · go_simp
      (try simp only [Act.put, k1, k2, k3])
      refine mpt 4 rfl (.int .u32 r.a) (fun w hSw => ?_) ?_
      · (try dsimp only at hSw)
        go_split_ands
        go_simp
      (try simp only [Act.put, k1, k2, k3])
      refine mpt 5 rfl (Value.pointer (some ⟨B, 0, none⟩)) (fun w hSw => ?_) ?_
      · (try dsimp only at hSw)
        go_split_ands
        go_simp
      (try simp only [Act.put, k1, k2, k3])
      refine mpa 6 rfl (Value.pointer (some ⟨B, 0, none⟩)) (fun w => ?_) ?_
      · go_simp
      (try simp only [Act.put, k1, k2, k3])
      refine mpa 7 rfl (.pointer (some ⟨B, 4, none⟩)) (fun w => ?_) ?_
      · go_simp
      (try simp only [Act.put, k1, k2, k3])
      refine mpa 8 rfl (.pointer (some ⟨B, 7, none⟩)) (fun w => ?_) ?_
      · go_simp
      (try simp only [Act.put, k1, k2, k3])
      refine mpt 9 rfl (.int .u32 (wordAt r.xs c)) (fun w hSw => ?_) ?_
      · (try dsimp only at hSw)
        go_split_ands
        go_simp
      (try simp only [Act.put, k1, k2, k3])
      refine mpc 10 rfl (by kernel_rfl) (by rfl) (fun K hK => ?_)
      go_simp
      refine (ahead_any r.a (wordAt r.xs c) _).mono ?_
      rw [HAH.out]
      rintro e w9 ⟨rfl, rfl⟩
      refine hK.out _ _ (.inl (by kernel_rfl)) ?_
      clear hK K
      (try simp only [Act.put, k1, k2, k3])
      refine mpa 11 rfl (.int .i64 ah) (fun w => ?_) ?_
      · go_simp
      (try simp only [Act.put, k1, k2, k3])
      refine wpAnyP_done (by kernel_rfl) ?_ _
      clear hHeld
      have b0 : w3.cell? ⟨g0, 0, none⟩ = some (Value.pointer (some ⟨B, 0, none⟩)) := (show Row w3 g0 62 #[Value.pointer (some ⟨B, 0, none⟩)] from HB3.out _ (.head _)).cell_ (i := 0) rfl
      have b2 : w3.cell? ⟨g2, 0, none⟩ = some (.int .i64 own) := (show Row w3 g2 3 #[.int .i64 own] from HB3.out _ (.tail _ (.tail _ (.head _)))).cell_ (i := 0) rfl
      go_wp2_with fail
      clear b0 b2
      refine (go_run B p A cp nv1 _ 0 _ HP3.out).mono ?_
      rintro e w4 ⟨rfl, hO, nv4, hP⟩
      have HO4 := Lib.hid (HO3.out.trans hO)
      have HP4 := Lib.hid hP
      clear hO hP
      go_wp2
      go_returns
      exact ⟨rfl, HO4.out, nv4, HP4.out⟩
    · rw [show r.weigh c own = ((r.doA 1 c 0 0).keepB (wordAt r.xs c)).go 2 by unfold LS.weigh; rw [hah, if_neg h1, if_neg h2]]
      have HAH := Lib.hid hah
      clear hah
      have HP0 := Lib.hid h
      have HB0 := Lib.hid hb
      have HL := Lib.hid hl
      have HO0 := Lib.hid (Only.refl (TurnB B A) w)
      clear h hb hl
      have b0 : w.cell? ⟨g0, 0, none⟩ = some (Value.pointer (some ⟨B, 0, none⟩)) := (show Row w g0 62 #[Value.pointer (some ⟨B, 0, none⟩)] from HB0.out _ (.head _)).cell_ (i := 0) rfl
      have b1 : w.cell? ⟨g1, 0, none⟩ = some (.int .i64 c) := (show Row w g1 3 #[.int .i64 c] from HB0.out _ (.tail _ (.head _))).cell_ (i := 0) rfl
      go_enter Try.func114, Try.ntmps114
      go_upto_region 0 with (fail)
      refine wp_region_phase (n := 8) 7 (fun w => w.cell? ⟨g0, 0, none⟩ = some (Value.pointer (some ⟨B, 0, none⟩)) ∧ w.cell? ⟨g1, 0, none⟩ = some (.int .i64 c)) rfl (by kernel_rfl) ⟨b0, b1⟩ (fun hHeld => ?_)
      clear b0 b1
      have HP0b := Lib.hid (HP0.out.keep (Only.refl Nil w).drew)
      have HB0b := Lib.hid (HB0.out.keep (Only.refl Nil w).drew)
      have HO0b := Lib.hid HO0.out.drew
      clear HP0 HB0 HO0
      generalize w.drew = w0 at *
      refine mpt 0 rfl (Value.pointer (some ⟨B, 0, none⟩)) (fun w hSw => ?_) ?_
      · (try dsimp only at hSw)
        go_split_ands
        go_simp
      (try simp only [Act.put, k1, k2, k3])
      refine mpt 1 rfl (Value.pointer (some ⟨B, 0, none⟩)) (fun w hSw => ?_) ?_
      · (try dsimp only at hSw)
        go_split_ands
        go_simp
      (try simp only [Act.put, k1, k2, k3])
      refine mpt 2 rfl (.int .i64 c) (fun w hSw => ?_) ?_
      · (try dsimp only at hSw)
        go_split_ands
        go_simp
      (try simp only [Act.put, k1, k2, k3])
      refine mpc 3 rfl (by kernel_rfl) (by rfl) (fun K hK => ?_)
      go_simp
      refine (load_run B p A cp nv r c _ HP0b.out).mono ?_
      rintro e w1 ⟨rfl, hO, nv1, hP⟩
      have HO1 := Lib.hid (HO0b.out.trans hO)
      have HB1 := Lib.hid (HB0b.out.turn HP0b.out hO aside_3)
      have HP1 := Lib.hid hP
      clear hO hP HP0b HO0b HB0b
      have hHeld2 : w1.cell? ⟨g0, 0, none⟩ = some (Value.pointer (some ⟨B, 0, none⟩)) ∧ w1.cell? ⟨g1, 0, none⟩ = some (.int .i64 c) := ⟨(show Row w1 g0 62 #[Value.pointer (some ⟨B, 0, none⟩)] from HB1.out _ (.head _)).cell_ (i := 0) rfl, (show Row w1 g1 3 #[.int .i64 c] from HB1.out _ (.tail _ (.head _))).cell_ (i := 0) rfl⟩
      refine hK.out _ _ (.inr hHeld2) ?_
      clear hK K hHeld
      (try simp only [Act.put, k1, k2, k3])
      refine mpa 4 rfl (Value.pointer (some ⟨B, 0, none⟩)) (fun w => ?_) ?_
      · go_simp
      (try simp only [Act.put, k1, k2, k3])
      refine mpa 5 rfl (.pointer (some ⟨B, 4, none⟩)) (fun w => ?_) ?_
      · go_simp
      (try simp only [Act.put, k1, k2, k3])
      refine mpa 6 rfl (.pointer (some ⟨B, 7, none⟩)) (fun w => ?_) ?_
      · go_simp
      (try simp only [Act.put, k1, k2, k3])
      have c7 : w1.cell? ⟨B, 7, none⟩ = some (.int .u32 r.b) := HP1.out.row.cell_ (i := 7) rfl
      have f7 : w1.frozen? ⟨B, 7, none⟩ = false := HP1.out.row.frozen 7
      refine mpc 7 rfl (by kernel_rfl) (by rfl) (fun K hK => ?_)
      go_simp
      have HP2 := Lib.hid (HP1.out.setB (wordAt r.xs c))
      have HO2 := Lib.hid (HO1.out.setCell (p := ⟨B, 7, none⟩) (.inr (.inl rfl)) (.int .u32 (wordAt r.xs c)))
      have HB2 := Lib.hid (HB1.out.turn HP1.out ((Only.refl (TurnB B A) w1).setCell (p := ⟨B, 7, none⟩) (.inr (.inl rfl)) (.int .u32 (wordAt r.xs c))) aside_3)
      refine hK.out _ _ (.inl (by kernel_rfl)) ?_
      clear hK K c7 f7 hHeld2 HP1 HO1 HB1
      generalize w1.setCell ⟨B, 7, none⟩ (.int .u32 (wordAt r.xs c)) = w2 at *
      (try simp only [Act.put, k1, k2, k3])
      refine wpAnyP_done (by kernel_rfl) ?_ _
      go_upto_region 1 with (fail)
      refine wp_region_phase (n := 12) 10 (fun w => w.cell? ⟨g0, 0, none⟩ = some (Value.pointer (some ⟨B, 0, none⟩)) ∧ w.cell? ⟨B, 6, none⟩ = some (.int .u32 r.a) ∧ w.cell? ⟨B, 7, none⟩ = some (.int .u32 (wordAt r.xs c))) rfl (by kernel_rfl) ⟨(show Row w2 g0 62 #[Value.pointer (some ⟨B, 0, none⟩)] from HB2.out _ (.head _)).cell_ (i := 0) rfl, HP2.out.row.cell_ (i := 6) rfl, HP2.out.row.cell_ (i := 7) rfl⟩ (fun hHeld => ?_)
      have HP3 := Lib.hid (HP2.out.keep (Only.refl Nil w2).drew)
      have HB3 := Lib.hid (HB2.out.keep (Only.refl Nil w2).drew)
      have HO3 := Lib.hid HO2.out.drew
      clear HP2 HB2 HO2
      generalize w2.drew = w3 at *
      refine mpt 0 rfl (Value.pointer (some ⟨B, 0, none⟩)) (fun w hSw => ?_) ?_
      · (try dsimp only at hSw)
        go_split_ands
        go_simp
      (try simp only [Act.put, k1, k2, k3])
      refine mpa 1 rfl (Value.pointer (some ⟨B, 0, none⟩)) (fun w => ?_) ?_
      · go_simp
      (try simp only [Act.put, k1, k2, k3])
      refine mpa 2 rfl (.pointer (some ⟨B, 4, none⟩)) (fun w => ?_) ?_
      · go_simp
      (try simp only [Act.put, k1, k2, k3])
      refine mpa 3 rfl (.pointer (some ⟨B, 6, none⟩)) (fun w => ?_) ?_
      · go_simp
      (try simp only [Act.put, k1, k2, k3])
      refine mpt 4 rfl (.int .u32 r.a) (fun w hSw => ?_) ?_
      · (try dsimp only at hSw)
        go_split_ands
        go_simp
      (try simp only [Act.put, k1, k2, k3])
      refine mpt 5 rfl (Value.pointer (some ⟨B, 0, none⟩)) (fun w hSw => ?_) ?_
      · (try dsimp only at hSw)
        go_split_ands
        go_simp
      (try simp only [Act.put, k1, k2, k3])
      refine mpa 6 rfl (Value.pointer (some ⟨B, 0, none⟩)) (fun w => ?_) ?_
      · go_simp
      (try simp only [Act.put, k1, k2, k3])
      refine mpa 7 rfl (.pointer (some ⟨B, 4, none⟩)) (fun w => ?_) ?_
      · go_simp
      (try simp only [Act.put, k1, k2, k3])
      refine mpa 8 rfl (.pointer (some ⟨B, 7, none⟩)) (fun w => ?_) ?_
      · go_simp
      (try simp only [Act.put, k1, k2, k3])
      refine mpt 9 rfl (.int .u32 (wordAt r.xs c)) (fun w hSw => ?_) ?_
      · (try dsimp only at hSw)
        go_split_ands
        go_simp
      (try simp only [Act.put, k1, k2, k3])
      refine mpc 10 rfl (by kernel_rfl) (by rfl) (fun K hK => ?_)
      go_simp
      refine (ahead_any r.a (wordAt r.xs c) _).mono ?_
      rw [HAH.out]
      rintro e w9 ⟨rfl, rfl⟩
      refine hK.out _ _ (.inl (by kernel_rfl)) ?_
      clear hK K
      (try simp only [Act.put, k1, k2, k3])
      refine mpa 11 rfl (.int .i64 ah) (fun w => ?_) ?_
      · go_simp
      (try simp only [Act.put, k1, k2, k3])
      refine wpAnyP_done (by kernel_rfl) ?_ _
      clear hHeld
      have b0 : w3.cell? ⟨g0, 0, none⟩ = some (Value.pointer (some ⟨B, 0, none⟩)) := (show Row w3 g0 62 #[Value.pointer (some ⟨B, 0, none⟩)] from HB3.out _ (.head _)).cell_ (i := 0) rfl
      have b2 : w3.cell? ⟨g2, 0, none⟩ = some (.int .i64 own) := (show Row w3 g2 3 #[.int .i64 own] from HB3.out _ (.tail _ (.tail _ (.head _)))).cell_ (i := 0) rfl
      go_wp2_with fail
      clear b0 b2
      refine (go_run B p A cp nv1 _ 2 _ HP3.out).mono ?_
      rintro e w4 ⟨rfl, hO, nv4, hP⟩
      have HO4 := Lib.hid (HO3.out.trans hO)
      have HP4 := Lib.hid hP
      clear hO hP
      go_wp2
      go_returns
      exact ⟨rfl, HO4.out, nv4, HP4.out⟩
theorem weigh_make (B : Nat) (p A : Option Addr) (cp : Nat) (nv : Value) (r : LS) (c own : Int) (w : World) (h : RunP w B p A cp nv r) (hl : r.ns.length ≤ 900) :
    Calls Try.prog 89 #[Value.pointer (some ⟨B, 0, none⟩), .int .i64 c, .int .i64 own] w (Clo 114 B p A cp (r.weigh c own) w) := by
  have e0 := (((Only.refl Nil w).alloc (.cells #[Value.pointer (some ⟨B, 0, none⟩)] 62)).alloc (.cells #[.int .i64 c] 3)).alloc (.cells #[.int .i64 own] 3)
  have HC := Lib.hid (weigh_clo B p A cp nv r c own w.heap.size (w.heap.size + 1) (w.heap.size + 1 + 1) _ (h.keep e0) hl (RowsL.cons (L := [_, _]) (RowsL.cons (L := [_]) (RowsL.cons (L := []) (fun _ h => by simp at h) (Row.at (by simp))) ((Row.at (by simp)).alloc _)) (((Row.new w 62 #[Value.pointer (some ⟨B, 0, none⟩)]).alloc _).alloc _)))
  have HE := Lib.hid e0
  clear h hl e0
  go_enter Try.func89, Try.ntmps89
  go_wp2
  go_ret
  exact ⟨_, rfl, HE.out, HC.out⟩
theorem aside_f : Aside 1 := ⟨by decide, by decide, by decide⟩
theorem aside_c {g0 B g1 g2 : Nat} {v : Value} : ∀ x ∈ [(g0, 62, #[Value.pointer (some ⟨B, 0, none⟩)]), (g1, 1, #[v]), (g2, 62, #[Value.pointer (some ⟨B, 0, none⟩)])], Aside x.2.1 := by
  intro x hx
  simp only [List.mem_cons, List.not_mem_nil, or_false] at hx
  rcases hx with rfl | rfl | rfl
  · exact aside_p
  · exact aside_f
  · exact aside_p
set_option maxHeartbeats 1000000 in
theorem claim_clo1 (B : Nat) (p A : Option Addr) (cp : Nat) (nv : Value) (r : LS) (g0 g1 g2 : Nat) (w : World) (h : RunP w B p A cp nv r) (hl : r.ns.length ≤ 900)
    (hb : RowsL w [(g0, 62, #[Value.pointer (some ⟨B, 0, none⟩)]), (g1, 1, #[.func (.func 91) #[] #[.pointer (some ⟨g2, 0, none⟩)]]), (g2, 62, #[Value.pointer (some ⟨B, 0, none⟩)])]) :
    Calls Try.prog 115 #[.pointer (some ⟨g0, 0, none⟩), .pointer (some ⟨g1, 0, none⟩)] w (Done B p A cp w (.tuple #[]) (if r.claimed then (r.claim.note 2 1).go 3 else r.claim.go 0)) := by
  have HLN := Lib.hid (show r.claim.ns.length ≤ 900 from hl)
  cases hcl : r.claimed
  · have HCL := Lib.hid (show (there r.xs 0 && (wordAt r.xs 0 == r.a)) = false from hcl)
    clear hcl
    rw [if_neg Bool.false_ne_true]
    have HP0 := Lib.hid h
    have HB0 := Lib.hid hb
    have HL := Lib.hid hl
    have HO0 := Lib.hid (Only.refl (TurnB B A) w)
    clear h hb hl
    have b0 : w.cell? ⟨g0, 0, none⟩ = some (Value.pointer (some ⟨B, 0, none⟩)) := (show Row w g0 62 #[Value.pointer (some ⟨B, 0, none⟩)] from HB0.out _ (.head _)).cell_ (i := 0) rfl
    have hx : IntKind.u32.wrap (r.a + 1) = (r.a + 1) % 4294967296 := rfl
    go_enter Try.func115, Try.ntmps115
    go_upto_region 0 with (fail)
    refine wp_region_phase (n := 13) 12 (fun w => w.cell? ⟨g0, 0, none⟩ = some (Value.pointer (some ⟨B, 0, none⟩)) ∧ w.cell? ⟨B, 6, none⟩ = some (.int .u32 r.a)) rfl (by kernel_rfl) ⟨b0, HP0.out.row.cell_ (i := 6) rfl⟩ (fun hHeld => ?_)
    clear b0
    have HP0b := Lib.hid (HP0.out.keep (Only.refl Nil w).drew)
    have HB0b := Lib.hid (HB0.out.keep (Only.refl Nil w).drew)
    have HO0b := Lib.hid HO0.out.drew
    clear HP0 HB0 HO0
    generalize w.drew = w0 at *
    refine mpt 0 rfl (Value.pointer (some ⟨B, 0, none⟩)) (fun w hSw => ?_) ?_
    · (try dsimp only at hSw)
      go_split_ands
      go_simp
    (try simp only [Act.put, k1, k2, k3])
    refine mpt 1 rfl (Value.pointer (some ⟨B, 0, none⟩)) (fun w hSw => ?_) ?_
    · (try dsimp only at hSw)
      go_split_ands
      go_simp
    (try simp only [Act.put, k1, k2, k3])
    refine mpa 2 rfl (Value.pointer (some ⟨B, 0, none⟩)) (fun w => ?_) ?_
    · go_simp
    (try simp only [Act.put, k1, k2, k3])
    refine mpa 3 rfl (.pointer (some ⟨B, 4, none⟩)) (fun w => ?_) ?_
    · go_simp
    (try simp only [Act.put, k1, k2, k3])
    refine mpa 4 rfl (.pointer (some ⟨B, 6, none⟩)) (fun w => ?_) ?_
    · go_simp
    (try simp only [Act.put, k1, k2, k3])
    refine mpt 5 rfl (.int .u32 r.a) (fun w hSw => ?_) ?_
    · (try dsimp only at hSw)
      go_split_ands
      go_simp
    (try simp only [Act.put, k1, k2, k3])
    refine mpt 6 rfl (Value.pointer (some ⟨B, 0, none⟩)) (fun w hSw => ?_) ?_
    · (try dsimp only at hSw)
      go_split_ands
      go_simp
    (try simp only [Act.put, k1, k2, k3])
    refine mpa 7 rfl (Value.pointer (some ⟨B, 0, none⟩)) (fun w => ?_) ?_
    · go_simp
    (try simp only [Act.put, k1, k2, k3])
    refine mpa 8 rfl (.pointer (some ⟨B, 4, none⟩)) (fun w => ?_) ?_
    · go_simp
    (try simp only [Act.put, k1, k2, k3])
    refine mpa 9 rfl (.pointer (some ⟨B, 6, none⟩)) (fun w => ?_) ?_
    · go_simp
    (try simp only [Act.put, k1, k2, k3])
    refine mpt 10 rfl (.int .u32 r.a) (fun w hSw => ?_) ?_
    · (try dsimp only at hSw)
      go_split_ands
      go_simp
    (try simp only [Act.put, k1, k2, k3])
    refine mpa 11 rfl (.int .u32 ((r.a + 1) % 4294967296)) (fun w => ?_) ?_
    · go_simp
    (try simp only [Act.put, k1, k2, k3])
    refine mpc 12 rfl (by kernel_rfl) (by rfl) (fun K hK => ?_)
    go_simp
    refine (cas_run B p A cp nv r 0 r.a ((r.a + 1) % 4294967296) _ HP0b.out).mono ?_
    rw [HCL.out]
    rintro e w1 ⟨rfl, hO, nv1, hP⟩
    have HO1 := Lib.hid (HO0b.out.trans hO)
    have HB1 := Lib.hid (HB0b.out.turn HP0b.out hO aside_c)
    have HP1 := Lib.hid (show RunP w1 B p A cp nv1 r.claim from hP)
    refine hK.out _ _ (.inl (by kernel_rfl)) ?_
    clear hK K hHeld hO hP HP0b HO0b HB0b hx
    (try simp only [Act.put, k1, k2, k3])
    refine wpAnyP_done (by kernel_rfl) ?_ _
    have b0 : w1.cell? ⟨g0, 0, none⟩ = some (Value.pointer (some ⟨B, 0, none⟩)) := (show Row w1 g0 62 #[Value.pointer (some ⟨B, 0, none⟩)] from HB1.out _ (.head _)).cell_ (i := 0) rfl
    go_wp2_with fail
    clear b0
    refine (go_run B p A cp nv1 _ 0 _ HP1.out).mono ?_
    rintro e w4 ⟨rfl, hO, nv4, hP⟩
    have HO4 := Lib.hid (HO1.out.trans hO)
    have HP4 := Lib.hid hP
    clear hO hP
    go_wp2
    go_returns
    exact ⟨rfl, HO4.out, nv4, HP4.out⟩
  · have HCL := Lib.hid (show (there r.xs 0 && (wordAt r.xs 0 == r.a)) = true from hcl)
    clear hcl
    rw [if_pos rfl]
    have HP0 := Lib.hid h
    have HB0 := Lib.hid hb
    have HL := Lib.hid hl
    have HO0 := Lib.hid (Only.refl (TurnB B A) w)
    clear h hb hl
    have b0 : w.cell? ⟨g0, 0, none⟩ = some (Value.pointer (some ⟨B, 0, none⟩)) := (show Row w g0 62 #[Value.pointer (some ⟨B, 0, none⟩)] from HB0.out _ (.head _)).cell_ (i := 0) rfl
    have hx : IntKind.u32.wrap (r.a + 1) = (r.a + 1) % 4294967296 := rfl
    go_enter Try.func115, Try.ntmps115
    go_upto_region 0 with (fail)
    refine wp_region_phase (n := 13) 12 (fun w => w.cell? ⟨g0, 0, none⟩ = some (Value.pointer (some ⟨B, 0, none⟩)) ∧ w.cell? ⟨B, 6, none⟩ = some (.int .u32 r.a)) rfl (by kernel_rfl) ⟨b0, HP0.out.row.cell_ (i := 6) rfl⟩ (fun hHeld => ?_)
    clear b0
    have HP0b := Lib.hid (HP0.out.keep (Only.refl Nil w).drew)
    have HB0b := Lib.hid (HB0.out.keep (Only.refl Nil w).drew)
    have HO0b := Lib.hid HO0.out.drew
    clear HP0 HB0 HO0
    generalize w.drew = w0 at *
    refine mpt 0 rfl (Value.pointer (some ⟨B, 0, none⟩)) (fun w hSw => ?_) ?_
    · (try dsimp only at hSw)
      go_split_ands
      go_simp
    (try simp only [Act.put, k1, k2, k3])
    refine mpt 1 rfl (Value.pointer (some ⟨B, 0, none⟩)) (fun w hSw => ?_) ?_
    · (try dsimp only at hSw)
      go_split_ands
      go_simp
    (try simp only [Act.put, k1, k2, k3])
    refine mpa 2 rfl (Value.pointer (some ⟨B, 0, none⟩)) (fun w => ?_) ?_
    · go_simp
    (try simp only [Act.put, k1, k2, k3])
    refine mpa 3 rfl (.pointer (some ⟨B, 4, none⟩)) (fun w => ?_) ?_
    · go_simp
    (try simp only [Act.put, k1, k2, k3])
    refine mpa 4 rfl (.pointer (some ⟨B, 6, none⟩)) (fun w => ?_) ?_
    · go_simp
    (try simp only [Act.put, k1, k2, k3])
    refine mpt 5 rfl (.int .u32 r.a) (fun w hSw => ?_) ?_
    · (try dsimp only at hSw)
      go_split_ands
      go_simp
    (try simp only [Act.put, k1, k2, k3])
    refine mpt 6 rfl (Value.pointer (some ⟨B, 0, none⟩)) (fun w hSw => ?_) ?_
    · (try dsimp only at hSw)
      go_split_ands
      go_simp
    (try simp only [Act.put, k1, k2, k3])
    refine mpa 7 rfl (Value.pointer (some ⟨B, 0, none⟩)) (fun w => ?_) ?_
    · go_simp
    (try simp only [Act.put, k1, k2, k3])
    refine mpa 8 rfl (.pointer (some ⟨B, 4, none⟩)) (fun w => ?_) ?_
    · go_simp
    (try simp only [Act.put, k1, k2, k3])
    refine mpa 9 rfl (.pointer (some ⟨B, 6, none⟩)) (fun w => ?_) ?_
    · go_simp
    (try simp only [Act.put, k1, k2, k3])
    refine mpt 10 rfl (.int .u32 r.a) (fun w hSw => ?_) ?_
    · (try dsimp only at hSw)
      go_split_ands
      go_simp
    (try simp only [Act.put, k1, k2, k3])
    refine mpa 11 rfl (.int .u32 ((r.a + 1) % 4294967296)) (fun w => ?_) ?_
    · go_simp
    (try simp only [Act.put, k1, k2, k3])
    refine mpc 12 rfl (by kernel_rfl) (by rfl) (fun K hK => ?_)
    go_simp
    refine (cas_run B p A cp nv r 0 r.a ((r.a + 1) % 4294967296) _ HP0b.out).mono ?_
    rw [HCL.out]
    rintro e w1 ⟨rfl, hO, nv1, hP⟩
    have HO1 := Lib.hid (HO0b.out.trans hO)
    have HB1 := Lib.hid (HB0b.out.turn HP0b.out hO aside_c)
    have HP1 := Lib.hid (show RunP w1 B p A cp nv1 r.claim from hP)
    refine hK.out _ _ (.inl (by kernel_rfl)) ?_
    clear hK K hHeld hO hP HP0b HO0b HB0b hx
    (try simp only [Act.put, k1, k2, k3])
    refine wpAnyP_done (by kernel_rfl) ?_ _
    have b1 : w1.cell? ⟨g1, 0, none⟩ = some (.func (.func 91) #[] #[.pointer (some ⟨g2, 0, none⟩)]) := (show Row w1 g1 1 #[.func (.func 91) #[] #[.pointer (some ⟨g2, 0, none⟩)]] from HB1.out _ (.tail _ (.head _))).cell_ (i := 0) rfl
    go_wp2_with fail
    clear b1
    refine (then_1 B p A cp nv1 r.claim g2 _ HP1.out HLN.out (RowsL.cons (L := []) (fun _ h => by simp at h) (show Row w1 g2 62 #[Value.pointer (some ⟨B, 0, none⟩)] from HB1.out _ (.tail _ (.tail _ (.head _)))))).mono ?_
    rintro e w4 ⟨rfl, hO, nv4, hP⟩
    have HO4 := Lib.hid (HO1.out.trans hO)
    have HP4 := Lib.hid hP
    clear hO hP
    go_wp2
    go_returns
    exact ⟨rfl, HO4.out, nv4, HP4.out⟩
set_option maxHeartbeats 1000000 in
theorem claim_clo2 (B : Nat) (p A : Option Addr) (cp : Nat) (nv : Value) (r : LS) (g0 g1 g2 : Nat) (w : World) (h : RunP w B p A cp nv r) (hl : r.ns.length ≤ 900)
    (hb : RowsL w [(g0, 62, #[Value.pointer (some ⟨B, 0, none⟩)]), (g1, 1, #[.func (.func 92) #[] #[.pointer (some ⟨g2, 0, none⟩)]]), (g2, 62, #[Value.pointer (some ⟨B, 0, none⟩)])]) :
    Calls Try.prog 115 #[.pointer (some ⟨g0, 0, none⟩), .pointer (some ⟨g1, 0, none⟩)] w (Done B p A cp w (.tuple #[]) (if r.claimed then ((r.claim.note 2 2).note 4 0).fin true else r.claim.go 0)) := by
  have HLN := Lib.hid (show r.claim.ns.length ≤ 900 from hl)
  cases hcl : r.claimed
  · have HCL := Lib.hid (show (there r.xs 0 && (wordAt r.xs 0 == r.a)) = false from hcl)
    clear hcl
    rw [if_neg Bool.false_ne_true]
    have HP0 := Lib.hid h
    have HB0 := Lib.hid hb
    have HL := Lib.hid hl
    have HO0 := Lib.hid (Only.refl (TurnB B A) w)
    clear h hb hl
    have b0 : w.cell? ⟨g0, 0, none⟩ = some (Value.pointer (some ⟨B, 0, none⟩)) := (show Row w g0 62 #[Value.pointer (some ⟨B, 0, none⟩)] from HB0.out _ (.head _)).cell_ (i := 0) rfl
    have hx : IntKind.u32.wrap (r.a + 1) = (r.a + 1) % 4294967296 := rfl
    go_enter Try.func115, Try.ntmps115
    go_upto_region 0 with (fail)
    refine wp_region_phase (n := 13) 12 (fun w => w.cell? ⟨g0, 0, none⟩ = some (Value.pointer (some ⟨B, 0, none⟩)) ∧ w.cell? ⟨B, 6, none⟩ = some (.int .u32 r.a)) rfl (by kernel_rfl) ⟨b0, HP0.out.row.cell_ (i := 6) rfl⟩ (fun hHeld => ?_)
    clear b0
    have HP0b := Lib.hid (HP0.out.keep (Only.refl Nil w).drew)
    have HB0b := Lib.hid (HB0.out.keep (Only.refl Nil w).drew)
    have HO0b := Lib.hid HO0.out.drew
    clear HP0 HB0 HO0
    generalize w.drew = w0 at *
    refine mpt 0 rfl (Value.pointer (some ⟨B, 0, none⟩)) (fun w hSw => ?_) ?_
    · (try dsimp only at hSw)
      go_split_ands
      go_simp
    (try simp only [Act.put, k1, k2, k3])
    refine mpt 1 rfl (Value.pointer (some ⟨B, 0, none⟩)) (fun w hSw => ?_) ?_
    · (try dsimp only at hSw)
      go_split_ands
      go_simp
    (try simp only [Act.put, k1, k2, k3])
    refine mpa 2 rfl (Value.pointer (some ⟨B, 0, none⟩)) (fun w => ?_) ?_
    · go_simp
    (try simp only [Act.put, k1, k2, k3])
    refine mpa 3 rfl (.pointer (some ⟨B, 4, none⟩)) (fun w => ?_) ?_
    · go_simp
    (try simp only [Act.put, k1, k2, k3])
    refine mpa 4 rfl (.pointer (some ⟨B, 6, none⟩)) (fun w => ?_) ?_
    · go_simp
    (try simp only [Act.put, k1, k2, k3])
    refine mpt 5 rfl (.int .u32 r.a) (fun w hSw => ?_) ?_
    · (try dsimp only at hSw)
      go_split_ands
      go_simp
    (try simp only [Act.put, k1, k2, k3])
    refine mpt 6 rfl (Value.pointer (some ⟨B, 0, none⟩)) (fun w hSw => ?_) ?_
    · (try dsimp only at hSw)
      go_split_ands
      go_simp
    (try simp only [Act.put, k1, k2, k3])
    refine mpa 7 rfl (Value.pointer (some ⟨B, 0, none⟩)) (fun w => ?_) ?_
    · go_simp
    (try simp only [Act.put, k1, k2, k3])
    refine mpa 8 rfl (.pointer (some ⟨B, 4, none⟩)) (fun w => ?_) ?_
    · go_simp
    (try simp only [Act.put, k1, k2, k3])
    refine mpa 9 rfl (.pointer (some ⟨B, 6, none⟩)) (fun w => ?_) ?_
    · go_simp
    (try simp only [Act.put, k1, k2, k3])
    refine mpt 10 rfl (.int .u32 r.a) (fun w hSw => ?_) ?_
    · (try dsimp only at hSw)
      go_split_ands
      go_simp
    (try simp only [Act.put, k1, k2, k3])
    refine mpa 11 rfl (.int .u32 ((r.a + 1) % 4294967296)) (fun w => ?_) ?_
    · go_simp
    (try simp only [Act.put, k1, k2, k3])
    refine mpc 12 rfl (by kernel_rfl) (by rfl) (fun K hK => ?_)
    go_simp
    refine (cas_run B p A cp nv r 0 r.a ((r.a + 1) % 4294967296) _ HP0b.out).mono ?_
    rw [HCL.out]
    rintro e w1 ⟨rfl, hO, nv1, hP⟩
    have HO1 := Lib.hid (HO0b.out.trans hO)
    have HB1 := Lib.hid (HB0b.out.turn HP0b.out hO aside_c)
    have HP1 := Lib.hid (show RunP w1 B p A cp nv1 r.claim from hP)
    refine hK.out _ _ (.inl (by kernel_rfl)) ?_
    clear hK K hHeld hO hP HP0b HO0b HB0b hx
    (try simp only [Act.put, k1, k2, k3])
    refine wpAnyP_done (by kernel_rfl) ?_ _
    have b0 : w1.cell? ⟨g0, 0, none⟩ = some (Value.pointer (some ⟨B, 0, none⟩)) := (show Row w1 g0 62 #[Value.pointer (some ⟨B, 0, none⟩)] from HB1.out _ (.head _)).cell_ (i := 0) rfl
    go_wp2_with fail
    clear b0
    refine (go_run B p A cp nv1 _ 0 _ HP1.out).mono ?_
    rintro e w4 ⟨rfl, hO, nv4, hP⟩
    have HO4 := Lib.hid (HO1.out.trans hO)
    have HP4 := Lib.hid hP
    clear hO hP
    go_wp2
    go_returns
    exact ⟨rfl, HO4.out, nv4, HP4.out⟩
  · have HCL := Lib.hid (show (there r.xs 0 && (wordAt r.xs 0 == r.a)) = true from hcl)
    clear hcl
    rw [if_pos rfl]
    have HP0 := Lib.hid h
    have HB0 := Lib.hid hb
    have HL := Lib.hid hl
    have HO0 := Lib.hid (Only.refl (TurnB B A) w)
    clear h hb hl
    have b0 : w.cell? ⟨g0, 0, none⟩ = some (Value.pointer (some ⟨B, 0, none⟩)) := (show Row w g0 62 #[Value.pointer (some ⟨B, 0, none⟩)] from HB0.out _ (.head _)).cell_ (i := 0) rfl
    have hx : IntKind.u32.wrap (r.a + 1) = (r.a + 1) % 4294967296 := rfl
    go_enter Try.func115, Try.ntmps115
    go_upto_region 0 with (fail)
    refine wp_region_phase (n := 13) 12 (fun w => w.cell? ⟨g0, 0, none⟩ = some (Value.pointer (some ⟨B, 0, none⟩)) ∧ w.cell? ⟨B, 6, none⟩ = some (.int .u32 r.a)) rfl (by kernel_rfl) ⟨b0, HP0.out.row.cell_ (i := 6) rfl⟩ (fun hHeld => ?_)
    clear b0
    have HP0b := Lib.hid (HP0.out.keep (Only.refl Nil w).drew)
    have HB0b := Lib.hid (HB0.out.keep (Only.refl Nil w).drew)
    have HO0b := Lib.hid HO0.out.drew
    clear HP0 HB0 HO0
    generalize w.drew = w0 at *
    refine mpt 0 rfl (Value.pointer (some ⟨B, 0, none⟩)) (fun w hSw => ?_) ?_
    · (try dsimp only at hSw)
      go_split_ands
      go_simp
    (try simp only [Act.put, k1, k2, k3])
    refine mpt 1 rfl (Value.pointer (some ⟨B, 0, none⟩)) (fun w hSw => ?_) ?_
    · (try dsimp only at hSw)
      go_split_ands
      go_simp
    (try simp only [Act.put, k1, k2, k3])
    refine mpa 2 rfl (Value.pointer (some ⟨B, 0, none⟩)) (fun w => ?_) ?_
    · go_simp
    (try simp only [Act.put, k1, k2, k3])
    refine mpa 3 rfl (.pointer (some ⟨B, 4, none⟩)) (fun w => ?_) ?_
    · go_simp
    (try simp only [Act.put, k1, k2, k3])
    refine mpa 4 rfl (.pointer (some ⟨B, 6, none⟩)) (fun w => ?_) ?_
    · go_simp
    (try simp only [Act.put, k1, k2, k3])
    refine mpt 5 rfl (.int .u32 r.a) (fun w hSw => ?_) ?_
    · (try dsimp only at hSw)
      go_split_ands
      go_simp
    (try simp only [Act.put, k1, k2, k3])
    refine mpt 6 rfl (Value.pointer (some ⟨B, 0, none⟩)) (fun w hSw => ?_) ?_
    · (try dsimp only at hSw)
      go_split_ands
      go_simp
    (try simp only [Act.put, k1, k2, k3])
    refine mpa 7 rfl (Value.pointer (some ⟨B, 0, none⟩)) (fun w => ?_) ?_
    · go_simp
    (try simp only [Act.put, k1, k2, k3])
    refine mpa 8 rfl (.pointer (some ⟨B, 4, none⟩)) (fun w => ?_) ?_
    · go_simp
    (try simp only [Act.put, k1, k2, k3])
    refine mpa 9 rfl (.pointer (some ⟨B, 6, none⟩)) (fun w => ?_) ?_
    · go_simp
    (try simp only [Act.put, k1, k2, k3])
    refine mpt 10 rfl (.int .u32 r.a) (fun w hSw => ?_) ?_
    · (try dsimp only at hSw)
      go_split_ands
      go_simp
    (try simp only [Act.put, k1, k2, k3])
    refine mpa 11 rfl (.int .u32 ((r.a + 1) % 4294967296)) (fun w => ?_) ?_
    · go_simp
    (try simp only [Act.put, k1, k2, k3])
    refine mpc 12 rfl (by kernel_rfl) (by rfl) (fun K hK => ?_)
    go_simp
    refine (cas_run B p A cp nv r 0 r.a ((r.a + 1) % 4294967296) _ HP0b.out).mono ?_
    rw [HCL.out]
    rintro e w1 ⟨rfl, hO, nv1, hP⟩
    have HO1 := Lib.hid (HO0b.out.trans hO)
    have HB1 := Lib.hid (HB0b.out.turn HP0b.out hO aside_c)
    have HP1 := Lib.hid (show RunP w1 B p A cp nv1 r.claim from hP)
    refine hK.out _ _ (.inl (by kernel_rfl)) ?_
    clear hK K hHeld hO hP HP0b HO0b HB0b hx
    (try simp only [Act.put, k1, k2, k3])
    refine wpAnyP_done (by kernel_rfl) ?_ _
    have b1 : w1.cell? ⟨g1, 0, none⟩ = some (.func (.func 92) #[] #[.pointer (some ⟨g2, 0, none⟩)]) := (show Row w1 g1 1 #[.func (.func 92) #[] #[.pointer (some ⟨g2, 0, none⟩)]] from HB1.out _ (.tail _ (.head _))).cell_ (i := 0) rfl
    go_wp2_with fail
    clear b1
    refine (then_2 B p A cp nv1 r.claim g2 _ HP1.out HLN.out (RowsL.cons (L := []) (fun _ h => by simp at h) (show Row w1 g2 62 #[Value.pointer (some ⟨B, 0, none⟩)] from HB1.out _ (.tail _ (.tail _ (.head _)))))).mono ?_
    rintro e w4 ⟨rfl, hO, nv4, hP⟩
    have HO4 := Lib.hid (HO1.out.trans hO)
    have HP4 := Lib.hid hP
    clear hO hP
    go_wp2
    go_returns
    exact ⟨rfl, HO4.out, nv4, HP4.out⟩
set_option maxHeartbeats 1000000 in
theorem claim_clo3 (B : Nat) (p A : Option Addr) (cp : Nat) (nv : Value) (r : LS) (g0 g1 g2 : Nat) (w : World) (h : RunP w B p A cp nv r) (hl : r.ns.length ≤ 900)
    (hb : RowsL w [(g0, 62, #[Value.pointer (some ⟨B, 0, none⟩)]), (g1, 1, #[.func (.func 93) #[] #[.pointer (some ⟨g2, 0, none⟩)]]), (g2, 62, #[Value.pointer (some ⟨B, 0, none⟩)])]) :
    Calls Try.prog 115 #[.pointer (some ⟨g0, 0, none⟩), .pointer (some ⟨g1, 0, none⟩)] w (Done B p A cp w (.tuple #[]) (if r.claimed then (r.claim.note 9 0).go 3 else r.claim.go 0)) := by
  have HLN := Lib.hid (show r.claim.ns.length ≤ 900 from hl)
  cases hcl : r.claimed
  · have HCL := Lib.hid (show (there r.xs 0 && (wordAt r.xs 0 == r.a)) = false from hcl)
    clear hcl
    rw [if_neg Bool.false_ne_true]
    have HP0 := Lib.hid h
    have HB0 := Lib.hid hb
    have HL := Lib.hid hl
    have HO0 := Lib.hid (Only.refl (TurnB B A) w)
    clear h hb hl
    have b0 : w.cell? ⟨g0, 0, none⟩ = some (Value.pointer (some ⟨B, 0, none⟩)) := (show Row w g0 62 #[Value.pointer (some ⟨B, 0, none⟩)] from HB0.out _ (.head _)).cell_ (i := 0) rfl
    have hx : IntKind.u32.wrap (r.a + 1) = (r.a + 1) % 4294967296 := rfl
    go_enter Try.func115, Try.ntmps115
    go_upto_region 0 with (fail)
    refine wp_region_phase (n := 13) 12 (fun w => w.cell? ⟨g0, 0, none⟩ = some (Value.pointer (some ⟨B, 0, none⟩)) ∧ w.cell? ⟨B, 6, none⟩ = some (.int .u32 r.a)) rfl (by kernel_rfl) ⟨b0, HP0.out.row.cell_ (i := 6) rfl⟩ (fun hHeld => ?_)
    clear b0
    have HP0b := Lib.hid (HP0.out.keep (Only.refl Nil w).drew)
    have HB0b := Lib.hid (HB0.out.keep (Only.refl Nil w).drew)
    have HO0b := Lib.hid HO0.out.drew
    clear HP0 HB0 HO0
    generalize w.drew = w0 at *
    refine mpt 0 rfl (Value.pointer (some ⟨B, 0, none⟩)) (fun w hSw => ?_) ?_
    · (try dsimp only at hSw)
      go_split_ands
      go_simp
    (try simp only [Act.put, k1, k2, k3])
    refine mpt 1 rfl (Value.pointer (some ⟨B, 0, none⟩)) (fun w hSw => ?_) ?_
    · (try dsimp only at hSw)
      go_split_ands
      go_simp
    (try simp only [Act.put, k1, k2, k3])
    refine mpa 2 rfl (Value.pointer (some ⟨B, 0, none⟩)) (fun w => ?_) ?_
    · go_simp
    (try simp only [Act.put, k1, k2, k3])
    refine mpa 3 rfl (.pointer (some ⟨B, 4, none⟩)) (fun w => ?_) ?_
    · go_simp
    (try simp only [Act.put, k1, k2, k3])
    refine mpa 4 rfl (.pointer (some ⟨B, 6, none⟩)) (fun w => ?_) ?_
    · go_simp
    (try simp only [Act.put, k1, k2, k3])
    refine mpt 5 rfl (.int .u32 r.a) (fun w hSw => ?_) ?_
    · (try dsimp only at hSw)
      go_split_ands
      go_simp
    (try simp only [Act.put, k1, k2, k3])
    refine mpt 6 rfl (Value.pointer (some ⟨B, 0, none⟩)) (fun w hSw => ?_) ?_
    · (try dsimp only at hSw)
      go_split_ands
      go_simp
    (try simp only [Act.put, k1, k2, k3])
    refine mpa 7 rfl (Value.pointer (some ⟨B, 0, none⟩)) (fun w => ?_) ?_
    · go_simp
    (try simp only [Act.put, k1, k2, k3])
    refine mpa 8 rfl (.pointer (some ⟨B, 4, none⟩)) (fun w => ?_) ?_
    · go_simp
    (try simp only [Act.put, k1, k2, k3])
    refine mpa 9 rfl (.pointer (some ⟨B, 6, none⟩)) (fun w => ?_) ?_
    · go_simp
    (try simp only [Act.put, k1, k2, k3])
    refine mpt 10 rfl (.int .u32 r.a) (fun w hSw => ?_) ?_
    · (try dsimp only at hSw)
      go_split_ands
      go_simp
    (try simp only [Act.put, k1, k2, k3])
    refine mpa 11 rfl (.int .u32 ((r.a + 1) % 4294967296)) (fun w => ?_) ?_
    · go_simp
    (try simp only [Act.put, k1, k2, k3])
    refine mpc 12 rfl (by kernel_rfl) (by rfl) (fun K hK => ?_)
    go_simp
    refine (cas_run B p A cp nv r 0 r.a ((r.a + 1) % 4294967296) _ HP0b.out).mono ?_
    rw [HCL.out]
    rintro e w1 ⟨rfl, hO, nv1, hP⟩
    have HO1 := Lib.hid (HO0b.out.trans hO)
    have HB1 := Lib.hid (HB0b.out.turn HP0b.out hO aside_c)
    have HP1 := Lib.hid (show RunP w1 B p A cp nv1 r.claim from hP)
    refine hK.out _ _ (.inl (by kernel_rfl)) ?_
    clear hK K hHeld hO hP HP0b HO0b HB0b hx
    (try simp only [Act.put, k1, k2, k3])
    refine wpAnyP_done (by kernel_rfl) ?_ _
    have b0 : w1.cell? ⟨g0, 0, none⟩ = some (Value.pointer (some ⟨B, 0, none⟩)) := (show Row w1 g0 62 #[Value.pointer (some ⟨B, 0, none⟩)] from HB1.out _ (.head _)).cell_ (i := 0) rfl
    go_wp2_with fail
    clear b0
    refine (go_run B p A cp nv1 _ 0 _ HP1.out).mono ?_
    rintro e w4 ⟨rfl, hO, nv4, hP⟩
    have HO4 := Lib.hid (HO1.out.trans hO)
    have HP4 := Lib.hid hP
    clear hO hP
    go_wp2
    go_returns
    exact ⟨rfl, HO4.out, nv4, HP4.out⟩
  · have HCL := Lib.hid (show (there r.xs 0 && (wordAt r.xs 0 == r.a)) = true from hcl)
    clear hcl
    rw [if_pos rfl]
    have HP0 := Lib.hid h
    have HB0 := Lib.hid hb
    have HL := Lib.hid hl
    have HO0 := Lib.hid (Only.refl (TurnB B A) w)
    clear h hb hl
    have b0 : w.cell? ⟨g0, 0, none⟩ = some (Value.pointer (some ⟨B, 0, none⟩)) := (show Row w g0 62 #[Value.pointer (some ⟨B, 0, none⟩)] from HB0.out _ (.head _)).cell_ (i := 0) rfl
    have hx : IntKind.u32.wrap (r.a + 1) = (r.a + 1) % 4294967296 := rfl
    go_enter Try.func115, Try.ntmps115
    go_upto_region 0 with (fail)
    refine wp_region_phase (n := 13) 12 (fun w => w.cell? ⟨g0, 0, none⟩ = some (Value.pointer (some ⟨B, 0, none⟩)) ∧ w.cell? ⟨B, 6, none⟩ = some (.int .u32 r.a)) rfl (by kernel_rfl) ⟨b0, HP0.out.row.cell_ (i := 6) rfl⟩ (fun hHeld => ?_)
    clear b0
    have HP0b := Lib.hid (HP0.out.keep (Only.refl Nil w).drew)
    have HB0b := Lib.hid (HB0.out.keep (Only.refl Nil w).drew)
    have HO0b := Lib.hid HO0.out.drew
    clear HP0 HB0 HO0
    generalize w.drew = w0 at *
    refine mpt 0 rfl (Value.pointer (some ⟨B, 0, none⟩)) (fun w hSw => ?_) ?_
    · (try dsimp only at hSw)
      go_split_ands
      go_simp
    (try simp only [Act.put, k1, k2, k3])
    refine mpt 1 rfl (Value.pointer (some ⟨B, 0, none⟩)) (fun w hSw => ?_) ?_
    · (try dsimp only at hSw)
      go_split_ands
      go_simp
    (try simp only [Act.put, k1, k2, k3])
    refine mpa 2 rfl (Value.pointer (some ⟨B, 0, none⟩)) (fun w => ?_) ?_
    · go_simp
    (try simp only [Act.put, k1, k2, k3])
    refine mpa 3 rfl (.pointer (some ⟨B, 4, none⟩)) (fun w => ?_) ?_
    · go_simp
    (try simp only [Act.put, k1, k2, k3])
    refine mpa 4 rfl (.pointer (some ⟨B, 6, none⟩)) (fun w => ?_) ?_
    · go_simp
    (try simp only [Act.put, k1, k2, k3])
    refine mpt 5 rfl (.int .u32 r.a) (fun w hSw => ?_) ?_
    · (try dsimp only at hSw)
      go_split_ands
      go_simp
    (try simp only [Act.put, k1, k2, k3])
    refine mpt 6 rfl (Value.pointer (some ⟨B, 0, none⟩)) (fun w hSw => ?_) ?_
    · (try dsimp only at hSw)
      go_split_ands
      go_simp
    (try simp only [Act.put, k1, k2, k3])
    refine mpa 7 rfl (Value.pointer (some ⟨B, 0, none⟩)) (fun w => ?_) ?_
    · go_simp
    (try simp only [Act.put, k1, k2, k3])
    refine mpa 8 rfl (.pointer (some ⟨B, 4, none⟩)) (fun w => ?_) ?_
    · go_simp
    (try simp only [Act.put, k1, k2, k3])
    refine mpa 9 rfl (.pointer (some ⟨B, 6, none⟩)) (fun w => ?_) ?_
    · go_simp
    (try simp only [Act.put, k1, k2, k3])
    refine mpt 10 rfl (.int .u32 r.a) (fun w hSw => ?_) ?_
    · (try dsimp only at hSw)
      go_split_ands
      go_simp
    (try simp only [Act.put, k1, k2, k3])
    refine mpa 11 rfl (.int .u32 ((r.a + 1) % 4294967296)) (fun w => ?_) ?_
    · go_simp
    (try simp only [Act.put, k1, k2, k3])
    refine mpc 12 rfl (by kernel_rfl) (by rfl) (fun K hK => ?_)
    go_simp
    refine (cas_run B p A cp nv r 0 r.a ((r.a + 1) % 4294967296) _ HP0b.out).mono ?_
    rw [HCL.out]
    rintro e w1 ⟨rfl, hO, nv1, hP⟩
    have HO1 := Lib.hid (HO0b.out.trans hO)
    have HB1 := Lib.hid (HB0b.out.turn HP0b.out hO aside_c)
    have HP1 := Lib.hid (show RunP w1 B p A cp nv1 r.claim from hP)
    refine hK.out _ _ (.inl (by kernel_rfl)) ?_
    clear hK K hHeld hO hP HP0b HO0b HB0b hx
    (try simp only [Act.put, k1, k2, k3])
    refine wpAnyP_done (by kernel_rfl) ?_ _
    have b1 : w1.cell? ⟨g1, 0, none⟩ = some (.func (.func 93) #[] #[.pointer (some ⟨g2, 0, none⟩)]) := (show Row w1 g1 1 #[.func (.func 93) #[] #[.pointer (some ⟨g2, 0, none⟩)]] from HB1.out _ (.tail _ (.head _))).cell_ (i := 0) rfl
    go_wp2_with fail
    clear b1
    refine (then_3 B p A cp nv1 r.claim g2 _ HP1.out HLN.out (RowsL.cons (L := []) (fun _ h => by simp at h) (show Row w1 g2 62 #[Value.pointer (some ⟨B, 0, none⟩)] from HB1.out _ (.tail _ (.tail _ (.head _)))))).mono ?_
    rintro e w4 ⟨rfl, hO, nv4, hP⟩
    have HO4 := Lib.hid (HO1.out.trans hO)
    have HP4 := Lib.hid hP
    clear hO hP
    go_wp2
    go_returns
    exact ⟨rfl, HO4.out, nv4, HP4.out⟩
theorem claim_make1 (B : Nat) (p A : Option Addr) (cp : Nat) (nv : Value) (r : LS) (g2 : Nat) (w : World) (h : RunP w B p A cp nv r) (hl : r.ns.length ≤ 900) (hb : Row w g2 62 #[Value.pointer (some ⟨B, 0, none⟩)]) :
    Calls Try.prog 90 #[Value.pointer (some ⟨B, 0, none⟩), .func (.func 91) #[] #[.pointer (some ⟨g2, 0, none⟩)]] w (Clo 115 B p A cp (if r.claimed then (r.claim.note 2 1).go 3 else r.claim.go 0) w) := by
  have e0 := ((Only.refl Nil w).alloc (.cells #[Value.pointer (some ⟨B, 0, none⟩)] 62)).alloc (.cells #[.func (.func 91) #[] #[.pointer (some ⟨g2, 0, none⟩)]] 1)
  have HC := Lib.hid (claim_clo1 B p A cp nv r w.heap.size (w.heap.size + 1) g2 _ (h.keep e0) hl (RowsL.cons (L := [_, _]) (RowsL.cons (L := [_]) (RowsL.cons (L := []) (fun _ h => by simp at h) (hb.only e0 id)) (Row.at (by simp))) ((Row.new w 62 #[Value.pointer (some ⟨B, 0, none⟩)]).alloc _)))
  have HE := Lib.hid e0
  clear h hl hb e0
  generalize (if r.claimed = true then (r.claim.note 2 1).go 3 else r.claim.go 0) = rr at *
  go_enter Try.func90, Try.ntmps90
  go_wp2
  go_ret
  exact ⟨_, rfl, HE.out, HC.out⟩
theorem claim_make2 (B : Nat) (p A : Option Addr) (cp : Nat) (nv : Value) (r : LS) (g2 : Nat) (w : World) (h : RunP w B p A cp nv r) (hl : r.ns.length ≤ 900) (hb : Row w g2 62 #[Value.pointer (some ⟨B, 0, none⟩)]) :
    Calls Try.prog 90 #[Value.pointer (some ⟨B, 0, none⟩), .func (.func 92) #[] #[.pointer (some ⟨g2, 0, none⟩)]] w (Clo 115 B p A cp (if r.claimed then ((r.claim.note 2 2).note 4 0).fin true else r.claim.go 0) w) := by
  have e0 := ((Only.refl Nil w).alloc (.cells #[Value.pointer (some ⟨B, 0, none⟩)] 62)).alloc (.cells #[.func (.func 92) #[] #[.pointer (some ⟨g2, 0, none⟩)]] 1)
  have HC := Lib.hid (claim_clo2 B p A cp nv r w.heap.size (w.heap.size + 1) g2 _ (h.keep e0) hl (RowsL.cons (L := [_, _]) (RowsL.cons (L := [_]) (RowsL.cons (L := []) (fun _ h => by simp at h) (hb.only e0 id)) (Row.at (by simp))) ((Row.new w 62 #[Value.pointer (some ⟨B, 0, none⟩)]).alloc _)))
  have HE := Lib.hid e0
  clear h hl hb e0
  generalize (if r.claimed = true then ((r.claim.note 2 2).note 4 0).fin true else r.claim.go 0) = rr at *
  go_enter Try.func90, Try.ntmps90
  go_wp2
  go_ret
  exact ⟨_, rfl, HE.out, HC.out⟩
theorem claim_make3 (B : Nat) (p A : Option Addr) (cp : Nat) (nv : Value) (r : LS) (g2 : Nat) (w : World) (h : RunP w B p A cp nv r) (hl : r.ns.length ≤ 900) (hb : Row w g2 62 #[Value.pointer (some ⟨B, 0, none⟩)]) :
    Calls Try.prog 90 #[Value.pointer (some ⟨B, 0, none⟩), .func (.func 93) #[] #[.pointer (some ⟨g2, 0, none⟩)]] w (Clo 115 B p A cp (if r.claimed then (r.claim.note 9 0).go 3 else r.claim.go 0) w) := by
  have e0 := ((Only.refl Nil w).alloc (.cells #[Value.pointer (some ⟨B, 0, none⟩)] 62)).alloc (.cells #[.func (.func 93) #[] #[.pointer (some ⟨g2, 0, none⟩)]] 1)
  have HC := Lib.hid (claim_clo3 B p A cp nv r w.heap.size (w.heap.size + 1) g2 _ (h.keep e0) hl (RowsL.cons (L := [_, _]) (RowsL.cons (L := [_]) (RowsL.cons (L := []) (fun _ h => by simp at h) (hb.only e0 id)) (Row.at (by simp))) ((Row.new w 62 #[Value.pointer (some ⟨B, 0, none⟩)]).alloc _)))
  have HE := Lib.hid e0
  clear h hl hb e0
  generalize (if r.claimed = true then (r.claim.note 9 0).go 3 else r.claim.go 0) = rr at *
  go_enter Try.func90, Try.ntmps90
  go_wp2
  go_ret
  exact ⟨_, rfl, HE.out, HC.out⟩
end Go.Proofs.Ytgfippbcgneegaa
