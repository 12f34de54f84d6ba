import Derived.Test.YtaeninikaalkjaaG11
import Derived.Test.YtaeninikaalkjaaG10
import Derived.Test.YtaeninikaalkjaaG7
set_option linter.unusedVariables false
set_option linter.unusedSimpArgs false
namespace Go.Proofs.Ytaeninikaalkjaa
open Go.RowKit
-- waiting for no writer, by a function that keeps what it sees
theorem nw_yes (B gt : Nat) (r : LS) (hv nv : Value) (v : Int) (w : World) (hb : Row w gt 62 #[Value.pointer (some ⟨B, 0, none⟩)]) (hr : Row w B 61 (r.cells hv nv)) (h0 : 0 ≤ v) (h1 : v < 4294967296) (hq : freeW v = true) :
    Calls Try.prog 54 #[.int .u32 v, .pointer (some ⟨gt, 0, none⟩)] w fun e w' => e = .returned (.bool true) ∧ Only (· = B) w w' ∧ Row w' B 61 ((r.keepA v).cells hv nv) := by
  have HT := Lib.hid (fun w => hq ▸ free_any v w ⟨h0, h1⟩)
  have HB := Lib.hid hb
  have HR := Lib.hid hr
  clear hb hr hq h0 h1
  go_enter Try.func54, Try.ntmps54
  go_wp2_with fail
  refine (HT.out _).mono ?_
  rintro e w1 ⟨rfl, hd⟩
  have b0 : w1.cell? ⟨gt, 0, none⟩ = some (Value.pointer (some ⟨B, 0, none⟩)) := (HB.out.only (S := Nil) hd.only id).cell_ (i := 0) rfl
  have HR1 := Lib.hid (HR.out.only (S := Nil) hd.only id)
  have HO1 := Lib.hid ((hd.only (S := Nil)).mono (T := (· = B)) (fun _ _ h => h.elim))
  have c6 : w1.cell? ⟨B, 6, none⟩ = some (.int .u32 r.a) := HR1.out.cell_ (i := 6) rfl
  have f6 : w1.frozen? ⟨B, 6, none⟩ = false := HR1.out.frozen 6
  clear hd HR HB
  have HR2 := Lib.hid (show Row (w1.setCell ⟨B, 6, none⟩ (.int .u32 v)) B 61 ((r.keepA v).cells hv nv) from HR1.out.set 6 (.int .u32 v))
  have HO2 := Lib.hid (HO1.out.setCell (p := ⟨B, 6, none⟩) (.inr rfl) (.int .u32 v))
  go_upto_region 3 with (fail)
  clear b0 c6 f6 HR1 HO1
  generalize w1.setCell ⟨B, 6, none⟩ (.int .u32 v) = w2 at *
  go_wp2_with fail
  refine (HT.out _).mono ?_
  rintro e w3 ⟨rfl, hd⟩
  have HR3 := Lib.hid (HR2.out.only (S := Nil) hd.only id)
  have HO3 := Lib.hid (HO2.out.trans ((hd.only (S := Nil)).mono (T := (· = B)) (fun _ _ h => h.elim)))
  clear hd HT
  go_wp2
  go_ret
  exact ⟨rfl, HO3.out, HR3.out⟩
theorem nw_no (B gt : Nat) (r : LS) (hv nv : Value) (v : Int) (w : World) (hr : Row w B 61 (r.cells hv nv)) (h0 : 0 ≤ v) (h1 : v < 4294967296) (hq : freeW v = false) :
    Calls Try.prog 54 #[.int .u32 v, .pointer (some ⟨gt, 0, none⟩)] w fun e w' => e = .returned (.bool false) ∧ Only (· = B) w w' ∧ Row w' B 61 (r.cells hv nv) := by
  have HT := Lib.hid (fun w => hq ▸ free_any v w ⟨h0, h1⟩)
  have HR := Lib.hid hr
  clear hr hq h0 h1
  go_enter Try.func54, Try.ntmps54
  go_wp2_with fail
  refine (HT.out _).mono ?_
  rintro e w1 ⟨rfl, hd⟩
  have HR1 := Lib.hid (HR.out.only (S := Nil) hd.only id)
  have HO1 := Lib.hid ((hd.only (S := Nil)).mono (T := (· = B)) (fun _ _ h => h.elim))
  clear hd HR
  go_wp2_with fail
  refine (HT.out _).mono ?_
  rintro e w3 ⟨rfl, hd⟩
  have HR3 := Lib.hid (HR1.out.only (S := Nil) hd.only id)
  have HO3 := Lib.hid (HO1.out.trans ((hd.only (S := Nil)).mono (T := (· = B)) (fun _ _ h => h.elim)))
  clear hd HT
  go_wp2
  go_ret
  exact ⟨rfl, HO3.out, HR3.out⟩
theorem holds_nw (B gt : Nat) (p A : Option Addr) (cp : Nat) (nv : Value) (r : LS) (w : World) (h : RunP w B p A cp nv r) (hb : Row w gt 62 #[Value.pointer (some ⟨B, 0, none⟩)]) :
    HoldsK A B w (.func (.func 54) #[] #[.pointer (some ⟨gt, 0, none⟩)]) freeW (r.cells (.pointer p) nv) (fun v => (r.keepA v).cells (.pointer p) nv) := by
  intro v w1 hO hr h0 h1
  have hb1 : Row w1 gt 62 #[Value.pointer (some ⟨B, 0, none⟩)] := h.aside hb hO.turned2 aside_p
  have hn := neq_fn
  cases hq : freeW v
  · skip
    show Calls Try.prog 87 _ w1 (fun e w' => e = .returned (.bool false) ∧ Only (· = B) w1 w' ∧ Row w' B 61 (r.cells (.pointer p) nv))
    have HT := Lib.hid (nw_no B gt r (.pointer p) nv v w1 hr h0 h1 hq)
    clear h hb hO hb1 hr hq
    go_enter_defers Try.func87, Try.ntmps87
    go_wp2_with fail
    refine HT.out.mono ?_
    rintro e w2 ⟨rfl, hO, hr⟩
    have HO := Lib.hid hO
    have HR := Lib.hid hr
    clear hO hr HT
    go_wp2
    refine leaves_cons (f := 88) (args := #[]) (by simp) (by simp [go_sem]) ?_
    refine (rec_idle _).mono ?_
    rintro e u' w'' ⟨rfl, rfl, rfl⟩
    exact ⟨_, results_tmp rfl _ _ _, rfl, HO.out, HR.out⟩
  · skip
    show Calls Try.prog 87 _ w1 (fun e w' => e = .returned (.bool true) ∧ Only (· = B) w1 w' ∧ Row w' B 61 ((r.keepA v).cells (.pointer p) nv))
    have HT := Lib.hid (nw_yes B gt r (.pointer p) nv v w1 hb1 hr h0 h1 hq)
    clear h hb hO hb1 hr hq
    go_enter_defers Try.func87, Try.ntmps87
    go_wp2_with fail
    refine HT.out.mono ?_
    rintro e w2 ⟨rfl, hO, hr⟩
    have HO := Lib.hid hO
    have HR := Lib.hid hr
    clear hO hr HT
    go_wp2
    refine leaves_cons (f := 88) (args := #[]) (by simp) (by simp [go_sem]) ?_
    refine (rec_idle _).mono ?_
    rintro e u' w'' ⟨rfl, rfl, rfl⟩
    exact ⟨_, results_tmp rfl _ _ _, rfl, HO.out, HR.out⟩
theorem seeW_eq (r : LS) : r.waitK 0 freeW = r.seeW := by
  unfold LS.waitK LS.waitM LS.seeW LS.kept LS.kw
  cases (r.stepR 0 freeW).seen <;> rfl
section
variable {B : Nat} {p A : Option Addr} {cp : Nat} {r : LS} {w0 w : World}
theorem boxed (S : St w0 B p A cp [] 900 r w) : St w0 B p A cp [(w.heap.size, 62, #[Value.pointer (some ⟨B, 0, none⟩)])] 900 r (w.alloc (.cells #[Value.pointer (some ⟨B, 0, none⟩)] 62)) := by
  have e := (Only.refl Nil w).alloc (.cells #[Value.pointer (some ⟨B, 0, none⟩)] 62)
  exact ⟨S.only.trans (e.mono (fun _ _ h => h.elim)), (rows_nil _).cons (Row.new w _ _), asides_cons aside_p asides_nil, S.run.imp fun _ h => h.keep e, S.len⟩
set_option maxHeartbeats 1000000 in
theorem nowriter_run (S : St w0 B p A cp [] 900 r w) (hx : Words r.xs) : Calls Try.prog 35 #[Value.pointer (some ⟨B, 0, none⟩)] w (Done B p A cp w0 (.tuple #[]) r.gWait) := by
  generalize hsn : (r.stepR 0 freeW).seen = sn
  generalize hdn : (r.stepR 0 freeW).done = dn
  have H := Lib.hid (And.intro hsn (And.intro hdn hx))
  clear hsn hdn hx
  replace S := boxed S
  go_enter Try.func35, Try.ntmps35
  go_upto_region 1 with (fail)
  generalize w.alloc (.cells #[Value.pointer (some ⟨B, 0, none⟩)] 62) = w1 at *
  generalize w.heap.size = g0 at *
  have b0 := S.c0
  go_wp2_with fail
  clear b0
  refine S.call0 (r' := r.seeW) (v := .tuple #[.bool sn, .bool dn]) (fun nv h => ?_) (m' := 900) (by unfold LS.seeW; split <;> exact S.len) fun w S b0 => ?_
  · have hw := waitK_run B p A cp nv r 0 (.func 54) #[] #[.pointer (some ⟨g0, 0, none⟩)] freeW _ h (holds_nw B g0 p A cp nv r _ h (S.rows _ (.head _))) H.out.2.2
    rw [seeW_eq, H.out.1, H.out.2.1] at hw
    exact hw
  · cases dn
    · skip
      go_wp2
      go_returns
      exact S.fit (by unfold LS.gWait; exact ite_f H.out.2.1)
    · skip
      go_wp2_with fail
      refine sGo S fun w S b0 => ?_
      go_wp2
      go_returns
      exact S.fit (by unfold LS.gWait; exact ite_t H.out.2.1)
-- waiting for one's turn
set_option maxRecDepth 100000 in
theorem turn_any (g : Nat) (a v : Int) (B : Nat) (w : World) (hb : Row w g 62 #[Value.pointer (some ⟨B, 0, none⟩)]) (c6 : w.cell? ⟨B, 6, none⟩ = some (.int .u32 a)) (ha : 0 ≤ a ∧ a < 4294967296) (h0 : 0 ≤ v) (h1 : v < 4294967296) :
    Calls Try.prog 57 #[.int .u32 v, .pointer (some ⟨g, 0, none⟩)] w fun e w' => e = .returned (.bool (turnW (iF a) v)) ∧ Only Nil w w' := by
  have b0 : w.cell? ⟨g, 0, none⟩ = some (Value.pointer (some ⟨B, 0, none⟩)) := hb.cell_ (i := 0) rfl
  obtain ⟨o, ho⟩ : ∃ o, oF v = o := ⟨_, rfl⟩
  obtain ⟨i, hi⟩ : ∃ i, iF a = i := ⟨_, rfl⟩
  obtain ⟨z, hz⟩ : ∃ z, rF v = z := ⟨_, rfl⟩
  have HO := Lib.hid (fun w => ho ▸ get_o v ▸ field_any v 8 w ⟨h0, h1⟩)
  have HI := Lib.hid (fun w => hi ▸ get_i a ▸ field_any a 16 w ha)
  have HZ := Lib.hid (fun w => hz ▸ get_r v ▸ field_any v 0 w ⟨h0, h1⟩)
  rw [show turnW (iF a) v = (o == i && z == 0) by unfold turnW; rw [ho, hi, hz]]
  clear hb ho hi hz ha h0 h1
  go_enter Try.func57, Try.ntmps57
  go_upto_region 1 with (fail)
  refine wp_region_phase (n := 15) 7 (fun w => w.cell? ⟨g, 0, none⟩ = some (Value.pointer (some ⟨B, 0, none⟩)) ∧ w.cell? ⟨B, 6, none⟩ = some (.int .u32 a)) rfl (by kernel_rfl) ⟨b0, c6⟩ (fun hHeld => ?_)
  have HD := Lib.hid (show Drew w w.drew from ⟨1, rfl⟩)
  generalize w.drew = w1 at *
  refine zt 2 rfl ?_
  refine za 3 rfl ?_
  refine za 4 rfl ?_
  refine za 5 rfl ?_
  refine zt 6 rfl ?_
  refine za 0 rfl ?_
  refine mpc 1 rfl (by kernel_rfl) (by rfl) (fun K hK => ?_)
  go_simp
  refine (HO.out _).mono ?_
  rintro e w2 ⟨rfl, hd⟩
  refine hK.out _ _ (.inr ⟨(hd.cell _).trans hHeld.1, (hd.cell _).trans hHeld.2⟩) ?_
  have HD2 := Lib.hid (HD.out.trans hd)
  clear hK K hHeld hd HD HO
  refine mpc 7 rfl (by kernel_rfl) (by rfl) (fun K hK => ?_)
  go_simp
  refine (HI.out _).mono ?_
  rintro e w3 ⟨rfl, hd⟩
  refine hK.out _ _ (.inl (by kernel_rfl)) ?_
  have HD3 := Lib.hid (HD2.out.trans hd)
  clear hK K hd HD2 HI
  by_cases h : o = i
  · subst h
    have HQ := Lib.hid (show (o == o && z == 0) = (z == 0) by rw [beq_self_eq_true, Bool.true_and])
    refine mpa 8 rfl (.bool true) (fun w => ?_) ?_
    · go_simp
    refine za 9 rfl ?_
    refine za 10 rfl ?_
    refine mpc 11 rfl (by kernel_rfl) (by rfl) (fun K hK => ?_)
    go_simp
    refine (HZ.out _).mono ?_
    rintro e w4 ⟨rfl, hd⟩
    refine hK.out _ _ (.inl (by kernel_rfl)) ?_
    have HD4 := Lib.hid (HD3.out.trans hd)
    clear hK K hd HD3 HZ
    refine za 12 rfl ?_
    refine za 13 rfl ?_
    refine za 14 rfl ?_
    refine wpAnyP_done (by kernel_rfl) ?_ _
    go_wp2
    go_ret
    exact ⟨by rw [HQ.out]; rfl, HD4.out.only⟩
  · have hq : (o == i) = false := by simpa using h
    have HQ := Lib.hid (show (o == i && z == 0) = false by rw [hq]; rfl)
    refine mpa 8 rfl (.bool false) (fun w => ?_) ?_
    · go_simp
    refine za 9 rfl ?_
    refine mpp 10 rfl ?_
    try simp only [Act.put, k1, k2, k3]
    refine mpp 11 rfl ?_
    try simp only [Act.put, k1, k2, k3]
    refine mpp 12 rfl ?_
    try simp only [Act.put, k1, k2, k3]
    refine za 13 rfl ?_
    refine za 14 rfl ?_
    refine wpAnyP_done (by kernel_rfl) ?_ _
    go_wp2
    go_ret
    exact ⟨by rw [HQ.out]; rfl, HD3.out.only⟩
theorem holds_turn (g : Nat) (nv : Value) (h : RunP w B p A cp nv r) (hb : Row w g 62 #[Value.pointer (some ⟨B, 0, none⟩)]) (ha : 0 ≤ r.a ∧ r.a < 4294967296) : Holds A w (.func (.func 57) #[] #[.pointer (some ⟨g, 0, none⟩)]) (turnW (iF r.a)) := by
  intro v w1 hO h0 h1
  have hb1 : Row w1 g 62 #[Value.pointer (some ⟨B, 0, none⟩)] := h.aside hb hO.turned2 aside_p
  have hr1 : Row w1 B 61 (r.cells (.pointer p) nv) := h.row.only hO (fun e => h.far (.inr e) rfl)
  have HT := Lib.hid (turn_any g r.a v B w1 hb1 (hr1.cell_ (i := 6) rfl) ha h0 h1)
  generalize turnW (iF r.a) v = q at *
  clear h hO hb1 hr1 ha h0 h1 hb
  have hn := neq_fn
  go_enter_defers Try.func87, Try.ntmps87
  go_wp2_with fail
  refine HT.out.mono ?_
  rintro e w2 ⟨rfl, hO⟩
  have HO := Lib.hid hO
  clear hO HT
  go_wp2
  refine leaves_cons (f := 88) (args := #[]) (by simp) (by simp [go_sem]) ?_
  refine (rec_idle _).mono ?_
  rintro e u' w'' ⟨rfl, rfl, rfl⟩
  exact ⟨_, results_tmp rfl _ _ _, rfl, HO.out⟩
set_option maxHeartbeats 1000000 in
theorem myturn_run (S : St w0 B p A cp [] 900 r w) (hx : Words r.xs) (ha : 0 ≤ r.a ∧ r.a < 4294967296) : Calls Try.prog 38 #[Value.pointer (some ⟨B, 0, none⟩)] w (Done B p A cp w0 (.tuple #[]) (r.pAdmit 0 (turnW (iF r.a)))) := by
  obtain ⟨q, hq⟩ : ∃ q, turnW (iF r.a) = q := ⟨_, rfl⟩
  generalize hsn : (r.stepR 0 q).seen = sn
  generalize hdn : (r.stepR 0 q).done = dn
  obtain ⟨r1, hr1⟩ : ∃ r1, r.wait 0 q = r1 := ⟨_, rfl⟩
  have H := Lib.hid (And.intro hsn (And.intro hdn (And.intro hr1 hx)))
  rw [hq]
  replace S := boxed S
  have HH := Lib.hid (show Holds A (w.alloc (.cells #[Value.pointer (some ⟨B, 0, none⟩)] 62)) (.func (.func 57) #[] #[.pointer (some ⟨w.heap.size, 0, none⟩)]) q by
    obtain ⟨nv, h⟩ := S.run
    exact hq ▸ holds_turn w.heap.size nv h (S.rows _ (.head _)) ha)
  clear hsn hdn hr1 hx hq ha
  go_enter Try.func38, Try.ntmps38
  go_upto_region 1 with (fail)
  generalize w.alloc (.cells #[Value.pointer (some ⟨B, 0, none⟩)] 62) = w1 at *
  generalize w.heap.size = g0 at *
  have b0 := S.c0
  go_wp2_with fail
  clear b0
  refine sWait S HH.out H.out.2.2.2 H.out.1 H.out.2.1 H.out.2.2.1 fun w S b0 => ?_
  clear HH
  cases sn
  all_goals cases dn
  · skip
    go_wp2
    go_returns
    exact S.fit (by unfold LS.pAdmit; rw [H.out.1, H.out.2.1, H.out.2.2.1]; rfl)
  · skip
    go_wp2_with fail
    refine sEnd S fun w S b0 => ?_
    go_wp2
    go_returns
    exact S.fit (by unfold LS.pAdmit; rw [H.out.1, H.out.2.1, H.out.2.2.1]; rfl)
  · skip
    go_wp2_with fail
    refine sNote S fun w S b0 => ?_
    go_wp2
    go_returns
    exact S.fit (by unfold LS.pAdmit; rw [H.out.1, H.out.2.1, H.out.2.2.1]; rfl)
  · skip
    go_wp2_with fail
    refine sNote S fun w S b0 => ?_
    go_wp2_with fail
    refine sEnd S fun w S b0 => ?_
    go_wp2
    go_returns
    exact S.fit (by unfold LS.pAdmit; rw [H.out.1, H.out.2.1, H.out.2.2.1]; rfl)
end
end Go.Proofs.Ytaeninikaalkjaa
set_option linter.unusedVariables false
set_option linter.unusedSimpArgs false
namespace Go.Proofs.Ytaeninikaalkjaa
open Go.RowKit
section
variable {B : Nat} {p A : Option Addr} {cp : Nat} {r : LS} {w0 w : World}
theorem wf_is0 {r : LS} (h : wfCase r.op r.line = 0) : r.wf = r := by unfold LS.wf; rw [h]; rfl
set_option maxRecDepth 100000 in
set_option maxHeartbeats 40000000 in
theorem wf_to (S : St w0 B p A cp [] 900 r w) (hx : Words r.xs) (ha : 0 ≤ r.a ∧ r.a < 4294967296) (hno : r.op ≠ 5 ∧ r.op ≠ 6 ∧ r.op ≠ 7 → r.wf = r) : Calls Try.prog 41 #[Value.pointer (some ⟨B, 0, none⟩)] w (Done B p A cp w0 (.tuple #[]) r.wf) := by
  obtain ⟨ol, H1⟩ : ∃ ol, Hid (r.op = ol) := ⟨_, Lib.hid rfl⟩
  obtain ⟨ln, H2⟩ : ∃ ln, Hid (r.line = ln) := ⟨_, Lib.hid rfl⟩
  have HX := Lib.hid hx
  have HA := Lib.hid ha
  clear hx ha
  go_enter Try.func41, Try.ntmps41
  go_upto_region 0 with (fail)
  refine wp_region_phase (n := 11) 10 (fun w => w.cell? ⟨B, 4, none⟩ = some (.int .i64 ol) ∧ w.cell? ⟨B, 5, none⟩ = some (.int .i64 ln)) rfl (by kernel_rfl) ⟨by rw [← H1.out]; exact S.at 4 fun _ => rfl, by rw [← H2.out]; exact S.at 5 fun _ => rfl⟩ (fun hHeld => ?_)
  replace S := S.drew
  generalize w.drew = w2 at *
  refine za 0 rfl ?_
  refine za 1 rfl ?_
  refine za 2 rfl ?_
  refine za 3 rfl ?_
  refine zt 4 rfl ?_
  refine za 5 rfl ?_
  refine za 6 rfl ?_
  refine za 7 rfl ?_
  refine za 8 rfl ?_
  refine zt 9 rfl ?_
  refine mpc 10 rfl (by kernel_rfl) (by rfl) (fun K hK => ?_)
  go_simp
  refine hK.out _ _ (.inl (by kernel_rfl)) ?_
  clear hK K hHeld
  refine wpAnyP_done (by kernel_rfl) ?_ _
  by_cases o5 : ol = 5
  · rcases o5 with rfl
    by_cases g : ln = 0
    · rcases g with rfl
      go_wp2_with fail
      refine run1 (r' := r.wf) (weigh_run 48 enters_nw freeW asks_free S HX.out) (by unfold LS.wf; rw [H1.out, H2.out]; rfl) fun w3 H => ?_
      go_wp2
      go_returns
      exact H.out
    by_cases g : ln = 1
    · rcases g with rfl
      go_wp2_with fail
      obtain ⟨q, hq⟩ : ∃ q, r.at0 r.a = q := ⟨_, rfl⟩
      have HQ := Lib.hid hq
      refine S.call (fun nv h => claim_run 1 0 q (st_new h S.len (rows_nil _) asides_nil) hq) (m' := 900) (by unfold LS.gClaim; split <;> exact S.len) fun w S => ?_
      clear hq
      cases q
      · skip
        go_wp2
        go_returns
        exact S.fit (by unfold LS.wf; rw [H1.out, H2.out]; show r.gSlip = _; unfold LS.gSlip LS.gClaim; rw [if_neg (by rw [HQ.out]; decide), if_neg (by rw [HQ.out]; decide)])
      · rw [show r.gClaim 1 0 = (r.gCas 1).fin true by unfold LS.gClaim; exact ite_t HQ.out] at S
        go_wp2_with fail
        refine run1 (r' := r.wf) (enter_st 1 ⟨S.only, S.rows, S.aside, S.run, Nat.le_succ_of_le S.len⟩) (by unfold LS.wf; rw [H1.out, H2.out]; show r.gSlip = _; unfold LS.gSlip; rw [if_pos HQ.out]; rfl) fun w3 H => ?_
        go_wp2
        go_returns
        exact H.out
    go_wp2
    go_returns
    exact S.fit (wf_is0 (by rw [H1.out, H2.out]; exact (by unfold wfCase; repeat (first | rw [if_neg (by omega)]))))
  by_cases o6 : ol = 6
  · rcases o6 with rfl
    by_cases g : ln = 0
    · rcases g with rfl
      go_wp2_with fail
      refine run1 (r' := r.wf) (weigh_run 62 enters_t1 (fun v => freeW v && rF v == 0) asks_none S HX.out) (by unfold LS.wf; rw [H1.out, H2.out]; rfl) fun w3 H => ?_
      go_wp2
      go_returns
      exact H.out
    by_cases g : ln = 1
    · rcases g with rfl
      go_wp2_with fail
      obtain ⟨q, hq⟩ : ∃ q, r.at0 r.a = q := ⟨_, rfl⟩
      have HQ := Lib.hid hq
      refine S.call (fun nv h => claim_run 65536 0 q (st_new h S.len (rows_nil _) asides_nil) hq) (m' := 900) (by unfold LS.gClaim; split <;> exact S.len) fun w S => ?_
      clear hq
      cases q
      · skip
        go_wp2
        go_returns
        exact S.fit (by unfold LS.wf; rw [H1.out, H2.out]; show r.gTry = _; unfold LS.gTry LS.gClaim; rw [if_neg (by rw [HQ.out]; decide), if_neg (by rw [HQ.out]; decide)])
      · rw [show r.gClaim 65536 0 = (r.gCas 65536).fin true by unfold LS.gClaim; exact ite_t HQ.out] at S
        go_wp2_with fail
        refine run1 (r' := r.wf) (enter_st 2 ⟨S.only, S.rows, S.aside, S.run, Nat.le_succ_of_le S.len⟩) (by unfold LS.wf; rw [H1.out, H2.out]; show r.gTry = _; unfold LS.gTry; rw [if_pos HQ.out]; rfl) fun w3 H => ?_
        go_wp2
        go_returns
        exact H.out
    go_wp2
    go_returns
    exact S.fit (wf_is0 (by rw [H1.out, H2.out]; exact (by unfold wfCase; repeat (first | rw [if_neg (by omega)]))))
  by_cases o7 : ol = 7
  · rcases o7 with rfl
    by_cases g : ln = 0
    · rcases g with rfl
      go_wp2_with fail
      refine run1 (r' := r.wf) (weigh_run 63 enters_t2 (fun v => freeW v && rF v == 1) asks_sole S HX.out) (by unfold LS.wf; rw [H1.out, H2.out]; rfl) fun w3 H => ?_
      go_wp2
      go_returns
      exact H.out
    by_cases g : ln = 1
    · rcases g with rfl
      go_wp2_with fail
      obtain ⟨q, hq⟩ : ∃ q, r.at0 r.a = q := ⟨_, rfl⟩
      have HQ := Lib.hid hq
      refine S.call (fun nv h => claim_run 65535 0 q (st_new h S.len (rows_nil _) asides_nil) hq) (m' := 900) (by unfold LS.gClaim; split <;> exact S.len) fun w S => ?_
      clear hq
      cases q
      · skip
        go_wp2
        go_returns
        exact S.fit (by unfold LS.wf; rw [H1.out, H2.out]; show r.gUp = _; unfold LS.gUp LS.gClaim; rw [if_neg (by rw [HQ.out]; decide), if_neg (by rw [HQ.out]; decide)])
      · rw [show r.gClaim 65535 0 = (r.gCas 65535).fin true by unfold LS.gClaim; exact ite_t HQ.out] at S
        go_wp2_with fail
        refine xNote S fun w S => ?_
        go_wp2
        go_returns
        exact S.fit (by unfold LS.wf; rw [H1.out, H2.out]; show r.gUp = _; unfold LS.gUp; rw [if_pos HQ.out]; rfl)
    go_wp2
    go_returns
    exact S.fit (wf_is0 (by rw [H1.out, H2.out]; exact (by unfold wfCase; repeat (first | rw [if_neg (by omega)]))))
  go_wp2
  go_returns
  exact S.fit (hno ⟨by rw [H1.out]; exact o5, by rw [H1.out]; exact o6, by rw [H1.out]; exact o7⟩)
end
end Go.Proofs.Ytaeninikaalkjaa
set_option linter.unusedVariables false
set_option linter.unusedSimpArgs false
namespace Go.Proofs.Ytaeninikaalkjaa
open Go.RowKit
section
variable {B : Nat} {p A : Option Addr} {cp : Nat} {r : LS} {w0 w : World}
set_option maxRecDepth 100000 in
set_option maxHeartbeats 40000000 in
theorem wf_lo (S : St w0 B p A cp [] 900 r w) (hx : Words r.xs) (ha : 0 ≤ r.a ∧ r.a < 4294967296) : Calls Try.prog 22 #[Value.pointer (some ⟨B, 0, none⟩)] w (Done B p A cp w0 (.tuple #[]) r.wf) := by
  obtain ⟨ol, H1⟩ : ∃ ol, Hid (r.op = ol) := ⟨_, Lib.hid rfl⟩
  obtain ⟨ln, H2⟩ : ∃ ln, Hid (r.line = ln) := ⟨_, Lib.hid rfl⟩
  have HX := Lib.hid hx
  have HA := Lib.hid ha
  clear hx ha
  go_enter Try.func22, Try.ntmps22
  go_upto_region 1 with (fail)
  refine wp_region_phase (n := 11) 10 (fun w => w.cell? ⟨B, 4, none⟩ = some (.int .i64 ol) ∧ w.cell? ⟨B, 5, none⟩ = some (.int .i64 ln)) rfl (by kernel_rfl) ⟨by rw [← H1.out]; exact S.at 4 fun _ => rfl, by rw [← H2.out]; exact S.at 5 fun _ => rfl⟩ (fun hHeld => ?_)
  replace S := S.drew
  generalize w.drew = w2 at *
  refine za 0 rfl ?_
  refine za 1 rfl ?_
  refine za 2 rfl ?_
  refine za 3 rfl ?_
  refine zt 4 rfl ?_
  refine za 5 rfl ?_
  refine za 6 rfl ?_
  refine za 7 rfl ?_
  refine za 8 rfl ?_
  refine zt 9 rfl ?_
  refine mpc 10 rfl (by kernel_rfl) (by rfl) (fun K hK => ?_)
  go_simp
  refine hK.out _ _ (.inl (by kernel_rfl)) ?_
  clear hK K hHeld
  refine wpAnyP_done (by kernel_rfl) ?_ _
  by_cases o1 : ol = 1
  · rcases o1 with rfl
    by_cases g : ln = 0
    · rcases g with rfl
      go_wp2_with fail
      refine S.call (fun nv h => look_run (st_new h S.len (rows_nil _) asides_nil) HX.out) (m' := 900) (by unfold LS.gSee; split <;> exact S.len) fun w S => ?_
      go_wp2_with fail
      refine xNote S fun w S => ?_
      go_wp2
      go_returns
      exact S.fit (by unfold LS.wf; rw [H1.out, H2.out]; show r.gSee true = _; unfold LS.gSee; cases freeW (wordAt r.xs 0) <;> rfl)
    by_cases g : ln = 1
    · rcases g with rfl
      go_wp2_with fail
      obtain ⟨q, hq⟩ : ∃ q, r.at0 r.a = q := ⟨_, rfl⟩
      have HQ := Lib.hid hq
      refine S.call (fun nv h => claim_run 1 3 q (st_new h S.len (rows_nil _) asides_nil) hq) (m' := 900) (by unfold LS.gClaim; split <;> exact S.len) fun w S => ?_
      clear hq
      cases q
      · skip
        go_wp2
        go_returns
        exact S.fit (by unfold LS.wf; rw [H1.out, H2.out]; show r.gTake = _; unfold LS.gTake LS.gClaim; rw [if_neg (by rw [HQ.out]; decide), if_neg (by rw [HQ.out]; decide)])
      · rw [show r.gClaim 1 3 = (r.gCas 1).fin true by unfold LS.gClaim; exact ite_t HQ.out] at S
        go_wp2_with fail
        refine xNote S fun w S => ?_
        go_wp2
        go_returns
        exact S.fit (by unfold LS.wf; rw [H1.out, H2.out]; show r.gTake = _; unfold LS.gTake; rw [if_pos HQ.out]; rfl)
    by_cases g : ln = 2
    · rcases g with rfl
      go_wp2_with fail
      refine run1 (r' := r.wf) (nowriter_run S HX.out) (by unfold LS.wf; rw [H1.out, H2.out]; rfl) fun w3 H => ?_
      go_wp2
      go_returns
      exact H.out
    by_cases g : ln = 3
    · rcases g with rfl
      go_wp2_with fail
      refine run1 (r' := r.wf) (look_run S HX.out) (by unfold LS.wf; rw [H1.out, H2.out]; rfl) fun w3 H => ?_
      go_wp2
      go_returns
      exact H.out
    go_wp2_with fail
    refine run1 (r' := r.wf) (wf_to S HX.out HA.out (fun _ => wf_is0 (by rw [H1.out, H2.out]; exact (by unfold wfCase; repeat (first | rw [if_neg (by omega)]))))) (rfl) fun w3 H => ?_
    go_wp2
    go_returns
    exact H.out
  by_cases o2 : ol = 2
  · rcases o2 with rfl
    by_cases g : ln = 0
    · rcases g with rfl
      go_wp2_with fail
      obtain ⟨nv, hp⟩ := S.run
      refine run1 (r' := r.wf) (change_run (4294967295) _ ([6]) (S.keep ((Only.refl Nil w2).alloc _)) (whats_1 hp 6) (by decide)) (by unfold LS.wf; rw [H1.out, H2.out]; rfl) fun w3 H => ?_
      go_wp2
      go_returns
      exact H.out
    go_wp2_with fail
    refine run1 (r' := r.wf) (wf_to S HX.out HA.out (fun _ => wf_is0 (by rw [H1.out, H2.out]; exact (by unfold wfCase; repeat (first | rw [if_neg (by omega)]))))) (rfl) fun w3 H => ?_
    go_wp2
    go_returns
    exact H.out
  by_cases o3 : ol = 3
  · rcases o3 with rfl
    by_cases g : ln = 0
    · rcases g with rfl
      go_wp2_with fail
      refine run1 (r' := r.wf) (draw_run S) (by unfold LS.wf; rw [H1.out, H2.out]; rfl) fun w3 H => ?_
      go_wp2
      go_returns
      exact H.out
    by_cases g : ln = 1
    · rcases g with rfl
      go_wp2_with fail
      refine run1 (r' := r.wf) (myturn_run S HX.out HA.out) (by unfold LS.wf; rw [H1.out, H2.out]; rfl) fun w3 H => ?_
      go_wp2
      go_returns
      exact H.out
    go_wp2_with fail
    refine run1 (r' := r.wf) (wf_to S HX.out HA.out (fun _ => wf_is0 (by rw [H1.out, H2.out]; exact (by unfold wfCase; repeat (first | rw [if_neg (by omega)]))))) (rfl) fun w3 H => ?_
    go_wp2
    go_returns
    exact H.out
  by_cases o4 : ol = 4
  · rcases o4 with rfl
    by_cases g : ln = 0
    · rcases g with rfl
      go_wp2_with fail
      refine run1 (r' := r.wf) (keep_run S) (by unfold LS.wf; rw [H1.out, H2.out]; rfl) fun w3 H => ?_
      go_wp2
      go_returns
      exact H.out
    by_cases g : ln = 1
    · rcases g with rfl
      go_wp2_with fail
      refine (turnOn_run S HA.out).mono ?_
      rintro e w2 ⟨rfl, S⟩
      go_wp2_with fail
      obtain ⟨nv, hp⟩ := S.run
      refine run1 (r' := r.wf) (change_run (nextO r.a) _ ([7, 8]) (S.keep ((Only.refl Nil w2).alloc _)) (whats_2 hp 7 8) (by decide)) (by unfold LS.wf; rw [H1.out, H2.out]; rfl) fun w3 H => ?_
      go_wp2
      go_returns
      exact H.out
    go_wp2_with fail
    refine run1 (r' := r.wf) (wf_to S HX.out HA.out (fun _ => wf_is0 (by rw [H1.out, H2.out]; exact (by unfold wfCase; repeat (first | rw [if_neg (by omega)]))))) (rfl) fun w3 H => ?_
    go_wp2
    go_returns
    exact H.out
  by_cases o8 : ol = 8
  · rcases o8 with rfl
    by_cases g : ln = 0
    · rcases g with rfl
      go_wp2_with fail
      refine run1 (r' := r.wf) (keep_run S) (by unfold LS.wf; rw [H1.out, H2.out]; rfl) fun w3 H => ?_
      go_wp2
      go_returns
      exact H.out
    by_cases g : ln = 1
    · rcases g with rfl
      go_wp2_with fail
      refine (turnOn_run S HA.out).mono ?_
      rintro e w2 ⟨rfl, S⟩
      have hx1 : IntKind.u32.wrap (nextO r.a + 1) = (nextO r.a + 1) % 4294967296 := rfl
      go_wp2_with fail
      obtain ⟨nv, hp⟩ := S.run
      refine run1 (r' := r.wf) (change_run ((nextO r.a + 1) % 4294967296) _ ([10]) (S.keep ((Only.refl Nil w2).alloc _)) (whats_1 hp 10) (by decide)) (by unfold LS.wf; rw [H1.out, H2.out]; rfl) fun w3 H => ?_
      go_wp2
      go_returns
      exact H.out
    go_wp2_with fail
    refine run1 (r' := r.wf) (wf_to S HX.out HA.out (fun _ => wf_is0 (by rw [H1.out, H2.out]; exact (by unfold wfCase; repeat (first | rw [if_neg (by omega)]))))) (rfl) fun w3 H => ?_
    go_wp2
    go_returns
    exact H.out
  go_wp2_with fail
  refine run1 (r' := r.wf) (wf_to S HX.out HA.out (fun ho => wf_is0 (by rw [H1.out] at ho; rw [H1.out, H2.out]; exact (by unfold wfCase; repeat (first | rw [if_neg (by omega)]))))) (rfl) fun w3 H => ?_
  go_wp2
  go_returns
  exact H.out
end
end Go.Proofs.Ytaeninikaalkjaa
set_option linter.unusedVariables false
set_option linter.unusedSimpArgs false
namespace Go.Proofs.Ytaeninikaalkjaa
open Go.RowKit
theorem step_of {F : FuncId} (hcf : Enters1 F) (f : LS → LS) {B : Nat} {p A : Option Addr} {cp : Nat} {nv : Value} {r : LS} {w : World} (h : RunQ w B p A cp nv r)
    (hc : ∀ w nv, RunP w B p A cp nv r.fresh → Calls Try.prog F #[Value.pointer (some ⟨B, 0, none⟩)] w (Done B p A cp w (.tuple #[]) (f r.fresh))) :
    Calls Try.prog 21 #[Value.pointer (some ⟨B, 0, none⟩), .func (.func F) #[] #[]] w (Stepd B p A cp (r.next f) (TurnB B A) (fun _ => True) w) := by
  have hl : Lined B p A cp (.func (.func F) #[] #[]) r.fresh (f r.fresh) (TurnB B A) (fun _ => True) (fun _ => True) := by
    intro w nv _ h
    have HT := Lib.hid (hc w nv h)
    have hn := neq_fnL
    unfold Enters1 at hcf
    clear h hc
    generalize f r.fresh = r' at *
    go_enter_defers Try.func31, Try.ntmps31
    go_wp2_with fail
    refine HT.out.mono ?_
    rintro e w1 ⟨rfl, hO, hP⟩
    have H := Lib.hid (And.intro hO hP)
    clear hO hP HT
    go_wp2
    refine leaves_cons (f := 46) (args := #[]) (by simp) (by simp [go_sem]) ?_
    refine (rec_run _).mono ?_
    rintro e u' w'' ⟨rfl, rfl, rfl⟩
    exact ⟨_, by simp [results, Try.results31, go_sem], rfl, H.out.1, trivial, H.out.2⟩
  unfold LS.next
  cases hon : r.k.on
  · rw [if_neg Bool.false_ne_true]
    exact step_lines B p A cp nv _ r _ _ _ _ w h hon hl (.inl rfl) (fun _ _ => trivial)
  · rw [if_pos rfl]
    exact step_wake B p A cp nv _ r w h hon
end Go.Proofs.Ytaeninikaalkjaa
set_option linter.unusedVariables false
set_option linter.unusedSimpArgs false
namespace Go.Proofs.Ytaeninikaalkjaa
open Go.RowKit
theorem wf_lines (B : Nat) (p A : Option Addr) (cp : Nat) (nv : Value) (r : LS) (w : World) (h : RunP w B p A cp nv r) (hl : r.ns.length ≤ 900) (hx : Words r.xs) (ha : 0 ≤ r.a ∧ r.a < 4294967296) : Calls Try.prog 22 #[Value.pointer (some ⟨B, 0, none⟩)] w (Done B p A cp w (.tuple #[]) r.wf) := wf_lo (st_new h hl (rows_nil _) asides_nil) hx ha
theorem wf_enters : Enters1 22 := fun args w => by simp [callFunc, go_sem, Try.func22, Try.f22]
theorem wf_step (B : Nat) (p A : Option Addr) (cp : Nat) (nv : Value) (r : LS) (w : World) (h : RunQ w B p A cp nv r) (hx : Words r.xs) (ha : 0 ≤ r.a ∧ r.a < 4294967296) :
    Calls Try.prog 21 #[Value.pointer (some ⟨B, 0, none⟩), .func (.func 22) #[] #[]] w (Stepd B p A cp (r.next LS.wf) (TurnB B A) (fun _ => True) w) :=
  step_of wf_enters LS.wf h fun w nv h => wf_lines B p A cp nv _ w h (Nat.zero_le _) hx ha
end Go.Proofs.Ytaeninikaalkjaa
