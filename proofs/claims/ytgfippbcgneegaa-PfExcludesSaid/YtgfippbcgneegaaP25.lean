import Derived.Test.YtgfippbcgneegaaP24
set_option linter.unusedVariables false
set_option linter.unusedSimpArgs false
namespace Go.Proofs.Ytgfippbcgneegaa
section
variable {b : Int} {k : Nat} {s : PS} {t : Nat} {r : LS} {h : Int}
theorem p_refuse (A : AheadP b k s t h r) {R : LS} (p1 : R.op = r.op) (p3 : R.k = r.k) (p4 : R.ret = 1) (hx : ∀ d, wordAt R.xs d = wordAt r.xs d) (hh : h = 0 ∨ h = 1) (e1 : rdOf h (zeroF r 0) = rdOf h r) (e2 : wrOf h r = .no) : MovedP b k s t (wordAt r.xs 4) (R.finH h) R.finR R.xs := by
  obtain ⟨f1, f2⟩ := fin_yes (R := R) h (by rw [p4]; decide) (by rw [p3]; exact A.on)
  have hb : behindI R.op R.ret h = h := by rw [p4]; unfold behindI; rw [if_pos (by decide)]
  rw [f1, f2, hb]
  refine mp_stay A e1 ?_ (fun d _ _ => hx d) (taskp_idle _ (by omega))
  rw [e2]
  rcases hh with e | e <;> rw [e] <;> rfl
theorem p_on (A : AheadP b k s t h r) {R : LS} {l : Int} (p1 : R.op = r.op) (p2 : R.line = l) (p3 : R.k = r.k) (p4 : R.ret = r.ret) (hx : ∀ d, wordAt R.xs d = wordAt r.xs d) (hl : lineP h R) (e1 : rdOf h R = rdOf h r) (e2 : wrOf h R = wrOf h r)
    (h1 : ¬ (r.op = 3 ∧ l = 1)) (h2 : (r.op = 3 ∧ l = 3) ∨ ((r.op = 4 ∨ r.op = 8) ∧ (l = 1 ∨ l = 2)) ∨ ((r.op = 6 ∨ r.op = 7) ∧ l = 6) → R.b = wordAt r.xs 4) (h3 : ¬ ((r.op = 3 ∧ l = 4) ∨ ((r.op = 6 ∨ r.op = 7) ∧ l = 7))) (h4 : r.op = 5 ∧ l = 1 → bitsI R.a = 0)
    (h5 : (r.op = 6 ∨ r.op = 7) ∧ (l = 1 ∨ l = 2) → ∃ A : Nat, A ≤ s.N ∧ R.a = wd b A ∧ (l = 2 → A ≤ s.T)) : MovedP b k s t (wordAt r.xs 4) (R.finH h) R.finR R.xs := by
  obtain ⟨f1, f2⟩ := fin_no (R := R) h (p4.trans A.ret)
  rw [f1, f2]
  exact mp_stay A e1 e2 (fun d _ _ => hx d) (taskp_at (o := r.op) (l := l) p1 p2 hl (wakep_off (by rw [p3]; exact A.on)) (fun e => absurd e h1) h2 (fun e => absurd e h3) h4 h5)
theorem p_5_0 (A : AheadP b k s t h r) (ho : r.op = 5) (hl : r.line = 0) (hh : h = 0) : MovedP b k s t (wordAt r.xs 4) (r.pLookIn.finH h) r.pLookIn.finR r.pLookIn.xs := by
  subst hh
  have er : ∀ R : LS, R.op = r.op → rdOf 0 R = .no := fun R e => by unfold rdOf; simp [e, ho]
  have ew : ∀ R : LS, R.op = r.op → wrOf 0 R = .no := fun R e => by unfold wrOf; simp [e, ho]
  unfold LS.pLookIn
  by_cases e : bitsI (wordAt r.xs 0) = 0
  · rw [if_pos e]
    exact p_on A (R := ((r.doA 1 0 0 0).keepA (wordAt r.xs 0)).go 1) (l := 1) rfl rfl rfl rfl (fun d => loadf 0 d) (by unfold lineP; simp [LS.go, LS.keepA, LS.doA, ho]) ((er (((r.doA 1 0 0 0).keepA (wordAt r.xs 0)).go 1) rfl).trans (er r rfl).symm) ((ew (((r.doA 1 0 0 0).keepA (wordAt r.xs 0)).go 1) rfl).trans (ew r rfl).symm) (by omega) (by omega) (by omega) (fun _ => e) (by omega)
  · rw [if_neg e]
    exact p_refuse A (R := (((r.doA 1 0 0 0).keepA (wordAt r.xs 0)).note 5 0).fin false) rfl rfl rfl (fun d => loadf 0 d) (.inl rfl) ((er r rfl).symm ▸ rfl) (ew r rfl)
theorem cas_words (A : AheadP b k s t h r) (c x y : Int) (h0 : 0 ≤ c) (h8 : c < 8) (hx : r.was c = decide (wordAt r.xs c = x)) : (r.was c = true ∧ wordAt r.xs c = x ∧ wordAt (doNew r.xs 5 c x y) c = y ∧ (∀ d, d ≠ c → wordAt (doNew r.xs 5 c x y) d = wordAt r.xs d)) ∨ (r.was c = false ∧ wordAt r.xs c ≠ x ∧ ∀ d, wordAt (doNew r.xs 5 c x y) d = wordAt r.xs d) := by
  have ht := A.th c h0 h8
  have far : ∀ d, d ≠ c → wordAt (doNew r.xs 5 c x y) d = wordAt r.xs d := fun d hd => own_cas_far (fun e => hd e.symm)
  have at0 : wordAt (doNew r.xs 5 c x y) c = if wordAt r.xs c = x then y else wordAt r.xs c := own_cas ht
  by_cases e : wordAt r.xs c = x
  · exact .inl ⟨by rw [hx, decide_eq_true e], e, by rw [at0, if_pos e], far⟩
  · refine .inr ⟨by rw [hx, decide_eq_false e], e, fun d => ?_⟩
    by_cases hd : d = c
    · subst hd; rw [at0, if_neg e]
    · exact far d hd
theorem was_eq (A : AheadP b k s t h r) (c : Int) (h0 : 0 ≤ c) (h8 : c < 8) : r.was c = decide (wordAt r.xs c = r.a) := by
  unfold LS.was; rw [A.th c h0 h8, Bool.true_and]; rfl
theorem p_5_1 (A : AheadP b k s t h r) (ho : r.op = 5) (hl : r.line = 1) (hh : h = 0) : MovedP b k s t (wordAt r.xs 4) (r.pSlip.finH h) r.pSlip.finR r.pSlip.xs := by
  subst hh
  have er : ∀ R : LS, R.op = r.op → rdOf 0 R = .no := fun R e => by unfold rdOf; simp [e, ho]
  have ew : ∀ R : LS, R.op = r.op → wrOf 0 R = .no := fun R e => by unfold wrOf; simp [e, ho]
  have ha := A.task.try5 ho hl
  rcases cas_words A 0 r.a ((r.a + 256) % 4294967296) (by decide) (by decide) (was_eq A 0 (by decide) (by decide)) with ⟨hc, e, w0, wf⟩ | ⟨hc, e, wf⟩
  · have hs : r.pSlip = (((r.doA 5 0 r.a ((r.a + 256) % 4294967296)).note 2 1).note 4 0).fin true := by unfold LS.pSlip; rw [hc]; rfl
    have hx : r.pSlip.xs = doNew r.xs 5 0 r.a ((r.a + 256) % 4294967296) := by rw [hs]; rfl
    have hk : r.pSlip.k = r.k ∧ r.pSlip.ret = 2 ∧ r.pSlip.op = r.op := by rw [hs]; exact ⟨rfl, rfl, rfl⟩
    obtain ⟨f1, f2⟩ := fin_yes (R := r.pSlip) 0 (by rw [hk.2.1]; decide) (by rw [hk.1]; exact A.on)
    rw [f1, f2, hk.2.1, hk.2.2, ho, show behindI 5 2 0 = 1 from rfl]
    have hβ : s.β = 0 := by
      by_cases e0 : s.β = 0
      · exact e0
      · obtain ⟨i, hi, hp⟩ := A.inv.present e0
        have := (A.inv.bits i hi hp).1
        have := A.inv.ph
        rw [← e, A.ws.w0, wi_bits _ _ (by omega)] at ha
        exact absurd ha e0
    have hrd : s.rd t = .no := A.rd.trans (er r rfl)
    have hwr : s.wr t = .no := A.wr.trans (ew r rfl)
    have hI := A.inv.come A.lt hrd (.inr hβ)
    refine mp_rd A hI (by rw [if_pos hβ]; rfl) (by rw [← A.wr, hwr]; rfl) (Nat.le_refl _) ?_ ?_ (fun d hd => by rw [hx]; exact wf d (by omega)) (taskp_idle _ (.inr (.inl rfl)))
    · rw [hx, w0, ← e, A.ws.w0, wi_up']
    · rw [hx, wf 1 (by decide)]; exact A.ws.w1
  · have hs : r.pSlip = (r.doA 5 0 r.a ((r.a + 256) % 4294967296)).go 0 := by unfold LS.pSlip; rw [hc]; rfl
    rw [hs]
    exact p_on A (l := 0) rfl rfl rfl rfl (fun d => wf d) (by unfold lineP; simp [LS.go, LS.doA, ho]) ((er ((r.doA 5 0 r.a ((r.a + 256) % 4294967296)).go 0) rfl).trans (er r rfl).symm) ((ew ((r.doA 5 0 r.a ((r.a + 256) % 4294967296)).go 0) rfl).trans (ew r rfl).symm) (by omega) (by omega) (by omega) (by omega) (by omega)
theorem rd_try {r : LS} (ho : r.op = 6 ∨ r.op = 7) : rdOf h r = if r.op = 7 then .reads else .no := by unfold rdOf; rcases ho with e | e <;> simp [e]
theorem wr_try0 {r : LS} (ho : r.op = 6 ∨ r.op = 7) (hl : r.line = 0 ∨ r.line = 1 ∨ r.line = 2) : wrOf h r = .no := by unfold wrOf; rcases ho with e | e <;> rcases hl with e2 | e2 | e2 <;> simp [e, e2]
theorem wr_try3 {r : LS} (ho : r.op = 6 ∨ r.op = 7) (hl : r.line = 3 ∨ r.line = 4 ∨ r.line = 5 ∨ r.line = 6) : wrOf h r = .turn := by unfold wrOf; rcases ho with e | e <;> rcases hl with e2 | e2 | e2 | e2 <;> simp [e, e2]
theorem wr_try9 {r : LS} (ho : r.op = 6 ∨ r.op = 7) (hl : r.line = 9) : wrOf h r = if r.ret = 0 then .last else .no := by unfold wrOf; rcases ho with e | e <;> simp [e, hl]
theorem linep_try {R : LS} {o l : Int} (p1 : R.op = o) (p2 : R.line = l) (ho : (o = 6 ∧ h = 0) ∨ (o = 7 ∧ h = 1)) (hl : l = 0 ∨ l = 1 ∨ l = 2 ∨ l = 3 ∨ l = 4 ∨ l = 5 ∨ l = 6 ∨ l = 7 ∨ l = 9) : lineP h R := by
  unfold lineP; rw [p1, p2]
  rcases ho with ⟨e1, e2⟩ | ⟨e1, e2⟩
  · exact .inr (.inr (.inr (.inr (.inr (.inr (.inl ⟨e1, e2, hl⟩))))))
  · refine .inr (.inr (.inr (.inr (.inr (.inr (.inr (.inl ⟨e1, e2, ?_⟩)))))))
    omega
theorem ho67 (hh : (r.op = 6 ∧ h = 0) ∨ (r.op = 7 ∧ h = 1)) : (r.op = 6 ∨ r.op = 7) ∧ (h = 0 ∨ h = 1) := by omega
theorem idle_rd (hh : (r.op = 6 ∧ h = 0) ∨ (r.op = 7 ∧ h = 1)) : rdOf h (zeroF r 0) = rdOf h r := by
  rw [rd_try (ho67 hh).1]
  rcases hh with ⟨e1, e2⟩ | ⟨e1, e2⟩ <;> rw [e1, e2] <;> rfl
theorem p_look0 (A : AheadP b k s t h r) (hh : (r.op = 6 ∧ h = 0) ∨ (r.op = 7 ∧ h = 1)) (hl : r.line = 0) : MovedP b k s t (wordAt r.xs 4) ((r.pLook 2 1).finH h) (r.pLook 2 1).finR (r.pLook 2 1).xs := by
  obtain ⟨ho, _⟩ := ho67 hh
  exact p_on A (R := r.pLook 2 1) (l := 1) rfl rfl rfl rfl (fun d => loadf 2 d) (linep_try (l := 1) rfl rfl hh (by omega)) ((rd_try (r := r.pLook 2 1) ho).trans (rd_try ho).symm) ((wr_try0 (r := r.pLook 2 1) ho (.inr (.inl rfl))).trans (wr_try0 ho (.inl hl)).symm) (by omega) (by omega) (by omega) (by omega) (fun _ => ⟨s.N, Nat.le_refl _, A.ws.w2, by omega⟩)
theorem p_look3 (A : AheadP b k s t h r) (hh : (r.op = 6 ∧ h = 0) ∨ (r.op = 7 ∧ h = 1)) (hl : r.line = 3) : MovedP b k s t (wordAt r.xs 4) ((r.pLook 0 4).finH h) (r.pLook 0 4).finR (r.pLook 0 4).xs := by
  obtain ⟨ho, _⟩ := ho67 hh
  exact p_on A (R := r.pLook 0 4) (l := 4) rfl rfl rfl rfl (fun d => loadf 0 d) (linep_try (l := 4) rfl rfl hh (by omega)) ((rd_try (r := r.pLook 0 4) ho).trans (rd_try ho).symm) ((wr_try3 (r := r.pLook 0 4) ho (.inr (.inl rfl))).trans (wr_try3 ho (.inl hl)).symm) (by omega) (by omega) (by omega) (by omega) (by omega)
theorem p_weighT (A : AheadP b k s t h r) (hh : (r.op = 6 ∧ h = 0) ∨ (r.op = 7 ∧ h = 1)) (hl : r.line = 1) : MovedP b k s t (wordAt r.xs 4) (r.pWeighT.finH h) r.pWeighT.finR r.pWeighT.xs := by
  obtain ⟨ho, hh2⟩ := ho67 hh
  have hor := A.inv.order
  have hN := A.N
  obtain ⟨A0, a1, a2, a3⟩ := A.task.tryw ho (.inl hl)
  have w0 := wr_try0 (h := h) ho (.inr (.inl hl))
  unfold LS.pWeighT
  by_cases n1 : 0 < aheadI r.a (wordAt r.xs 3)
  · rw [if_pos n1]
    exact p_refuse A (R := (((r.doA 1 3 0 0).keepB (wordAt r.xs 3)).note 5 0).fin false) rfl rfl rfl (fun d => loadf 3 d) hh2 (idle_rd hh) w0
  rw [if_neg n1]
  by_cases n2 : aheadI r.a (wordAt r.xs 3) < 0
  · rw [if_pos n2]
    exact p_on A (R := ((r.doA 1 3 0 0).keepB (wordAt r.xs 3)).go 0) (l := 0) rfl rfl rfl rfl (fun d => loadf 3 d) (linep_try (l := 0) rfl rfl hh (by omega)) ((rd_try (r := ((r.doA 1 3 0 0).keepB (wordAt r.xs 3)).go 0) ho).trans (rd_try ho).symm) ((wr_try0 (r := ((r.doA 1 3 0 0).keepB (wordAt r.xs 3)).go 0) ho (.inl rfl)).trans w0.symm) (by omega) (by omega) (by omega) (by omega) (by omega)
  · rw [if_neg n2]
    refine p_on A (R := ((r.doA 1 3 0 0).keepB (wordAt r.xs 3)).go 2) (l := 2) rfl rfl rfl rfl (fun d => loadf 3 d) (linep_try (l := 2) rfl rfl hh (by omega)) ((rd_try (r := ((r.doA 1 3 0 0).keepB (wordAt r.xs 3)).go 2) ho).trans (rd_try ho).symm) ((wr_try0 (r := ((r.doA 1 3 0 0).keepB (wordAt r.xs 3)).go 2) ho (.inr (.inr rfl))).trans w0.symm) (by omega) (by omega) (by omega) (by omega) (fun _ => ⟨A0, a1, a2, fun _ => ?_⟩)
    rw [a2, A.ws.w3, wd_ahead (by omega) (by omega)] at n1
    omega
theorem p_claim (A : AheadP b k s t h r) (hh : (r.op = 6 ∧ h = 0) ∨ (r.op = 7 ∧ h = 1)) (hl : r.line = 2) : MovedP b k s t (wordAt r.xs 4) (r.pClaim.finH h) r.pClaim.finR r.pClaim.xs := by
  obtain ⟨ho, hh2⟩ := ho67 hh
  have hor := A.inv.order
  have hN := A.N
  obtain ⟨A0, a1, a2, a3⟩ := A.task.tryw ho (.inr hl)
  have a4 := a3 hl
  have w0 := wr_try0 (h := h) ho (.inr (.inr hl))
  rcases cas_words A 2 r.a ((r.a + 1) % 4294967296) (by decide) (by decide) (was_eq A 2 (by decide) (by decide)) with ⟨hc, e, x2, wf⟩ | ⟨hc, e, wf⟩
  · have hs : r.pClaim = ((r.doA 5 2 r.a ((r.a + 1) % 4294967296)).note 2 2).go 3 := by unfold LS.pClaim; rw [hc]; rfl
    have hx : r.pClaim.xs = doNew r.xs 5 2 r.a ((r.a + 1) % 4294967296) := by rw [hs]; rfl
    have hp : r.pClaim.op = r.op ∧ r.pClaim.line = 3 ∧ r.pClaim.k = r.k ∧ r.pClaim.ret = r.ret := by rw [hs]; exact ⟨rfl, rfl, rfl, rfl⟩
    obtain ⟨p1, p2, p3, p4⟩ := hp
    obtain ⟨f1, f2⟩ := fin_no (R := r.pClaim) h (p4.trans A.ret)
    rw [f1, f2]
    have hNA : A0 = s.N := by
      rw [A.ws.w2, a2] at e
      exact (wd_inj e (by omega) (by omega)).symm
    have hrd : ∀ v, s.rd t ≠ .waits v := fun v e2 => by
      rw [A.rd, rd_try ho] at e2
      by_cases e7 : r.op = 7
      · rw [if_pos e7] at e2; cases e2
      · rw [if_neg e7] at e2; cases e2
    have hI := A.inv.draw A.lt (A.wr.trans w0) (y := .turn) (.inr ⟨rfl, by omega, hrd⟩)
    refine mp_wr A hI ((rd_try (r := r.pClaim) (by rw [p1]; exact ho)).trans (by rw [p1]; exact (rd_try ho).symm)) (wr_try3 (r := r.pClaim) (by rw [p1]; exact ho) (.inl p2)).symm ⟨Nat.le_succ _, Nat.le_refl _⟩ (Nat.le_refl _) ?_ ?_ ?_ ?_ ?_ (.inl ⟨by rw [hx]; exact wf 4 (by decide), rfl⟩) (taskp_at (o := r.op) (l := 3) p1 p2 (linep_try p1 p2 hh (by omega)) (wakep_off (by rw [p3]; exact A.on)) (by omega) (by omega) (by omega) (by omega) (by omega))
    · rw [hx, wf 0 (by decide)]; exact A.ws.w0
    · rw [hx]; exact wf 1 (by decide)
    · rw [hx, x2, a2, hNA, wd_up']
    · rw [hx, wf 3 (by decide)]; exact A.ws.w3
    · rw [hx, wf 4 (by decide)]; exact A.ws.w4
  · have hs : r.pClaim = (r.doA 5 2 r.a ((r.a + 1) % 4294967296)).go 0 := by unfold LS.pClaim; rw [hc]; rfl
    rw [hs]
    exact p_on A (R := (r.doA 5 2 r.a ((r.a + 1) % 4294967296)).go 0) (l := 0) rfl rfl rfl rfl (fun d => wf d) (linep_try (l := 0) rfl rfl hh (by omega)) ((rd_try (r := (r.doA 5 2 r.a ((r.a + 1) % 4294967296)).go 0) ho).trans (rd_try ho).symm) ((wr_try0 (r := (r.doA 5 2 r.a ((r.a + 1) % 4294967296)).go 0) ho (.inl rfl)).trans w0.symm) (by omega) (by omega) (by omega) (by omega) (by omega)
theorem p_weighR (A : AheadP b k s t h r) (own : Int) (hh : (r.op = 6 ∧ h = 0) ∨ (r.op = 7 ∧ h = 1)) (hl : r.line = 4) : MovedP b k s t (wordAt r.xs 4) ((r.pWeighR own).finH h) (r.pWeighR own).finR (r.pWeighR own).xs := by
  obtain ⟨ho, hh2⟩ := ho67 hh
  have w0 := wr_try3 (h := h) ho (.inr (.inl hl))
  unfold LS.pWeighR
  by_cases n1 : aheadI r.a (wordAt r.xs 1) ≤ own
  · rw [if_pos n1]
    exact p_on A (R := ((r.doA 1 1 0 0).keepB (wordAt r.xs 1)).go 5) (l := 5) rfl rfl rfl rfl (fun d => loadf 1 d) (linep_try (l := 5) rfl rfl hh (by omega)) ((rd_try (r := ((r.doA 1 1 0 0).keepB (wordAt r.xs 1)).go 5) ho).trans (rd_try ho).symm) ((wr_try3 (r := ((r.doA 1 1 0 0).keepB (wordAt r.xs 1)).go 5) ho (.inr (.inr (.inl rfl)))).trans w0.symm) (by omega) (by omega) (by omega) (by omega) (by omega)
  · rw [if_neg n1]
    obtain ⟨f1, f2⟩ := fin_no (R := (((r.doA 1 1 0 0).keepB (wordAt r.xs 1)).note 5 0).go 9) h A.ret
    rw [f1, f2]
    have hwt : s.wr t = .turn := A.wr.trans w0
    have ld : ∀ d, wordAt (((r.doA 1 1 0 0).keepB (wordAt r.xs 1)).note 5 0).xs d = wordAt r.xs d := fun d => loadf 1 d
    refine mp_wr A (A.inv.count A.lt (φ := s.φ) (.inr ⟨hwt, rfl⟩)) ((rd_try (r := (((r.doA 1 1 0 0).keepB (wordAt r.xs 1)).note 5 0).go 9) ho).trans (rd_try ho).symm) ?_ ⟨Nat.le_refl _, Nat.le_succ _⟩ (Nat.le_refl _) ((ld 0).trans A.ws.w0) (ld 1) ((ld 2).trans A.ws.w2) ((ld 3).trans A.ws.w3) (by rw [show wordAt ((((r.doA 1 1 0 0).keepB (wordAt r.xs 1)).note 5 0).go 9).xs 4 = wordAt r.xs 4 from ld 4]; exact A.ws.w4) (.inl ⟨ld 4, rfl⟩) (taskp_at (o := r.op) (l := 9) rfl rfl (linep_try (l := 9) rfl rfl hh (by omega)) (wakep_off A.on) (by omega) (by omega) (by omega) (by omega) (by omega))
    rw [wr_try9 (r := (((r.doA 1 1 0 0).keepB (wordAt r.xs 1)).note 5 0).go 9) ho rfl, if_pos (show ((((r.doA 1 1 0 0).keepB (wordAt r.xs 1)).note 5 0).go 9).ret = 0 from A.ret)]
theorem p_7_8 (A : AheadP b k s t h r) (ho : r.op = 7) (hl : r.line = 8) (hh : h = 1) : MovedP b k s t (wordAt r.xs 4) (r.pStop.finH h) r.pStop.finR r.pStop.xs := by
  subst hh
  obtain ⟨f1, f2⟩ := fin_yes (R := r.pStop) 1 (by show (2 : Int) ≠ 0; decide) A.on
  rw [f1, f2]
  have hb : behindI r.pStop.op r.pStop.ret 1 = 2 := by show behindI r.op 2 1 = 2; rw [ho]; rfl
  rw [hb]
  have hrd : s.rd t = .reads := A.rd.trans (by rw [rd_try (.inr ho), if_pos ho])
  have hwr : wrOf 1 r = .writes := by unfold wrOf; simp [ho, hl]
  have hI := A.inv.depart A.lt hrd
  refine mp_rd A hI rfl (by rw [hwr]; rfl) (Nat.le_succ _) ((addf (c := 1) (by decide)).trans A.ws.w0) ?_ (fun d hd => addf (c := 1) (by omega)) (taskp_idle _ (.inr (.inr rfl)))
  show wordAt (doNew r.xs 3 1 256 0) 1 = _
  rw [addat A (by decide) (by decide), A.ws.w1, wi_up]
theorem movedP_plain (A : AheadP b k s t h r) (hs : r.s = 0) (hop : r.op ≠ 0) (hw : wtP r.op r.line r.a = none) : MovedP b k s t (wordAt r.xs 4) (r.pf.finH h) r.pf.finR r.pf.xs := by
  have hline := A.task.line
  have nw : ¬ (r.op = 1 ∧ r.line = 1) ∧ ¬ (r.op = 3 ∧ r.line = 1) ∧ ¬ ((r.op = 3 ∧ r.line = 4) ∨ (r.op = 6 ∧ r.line = 7)) ∧ ¬ (r.op = 7 ∧ r.line = 7) := by
    unfold wtP at hw
    by_cases e1 : r.op = 1 ∧ r.line = 1
    · rw [if_pos e1] at hw; cases hw
    rw [if_neg e1] at hw
    by_cases e2 : r.op = 3 ∧ r.line = 1
    · rw [if_pos e2] at hw; cases hw
    rw [if_neg e2] at hw
    by_cases e3 : (r.op = 3 ∧ r.line = 4) ∨ (r.op = 6 ∧ r.line = 7)
    · rw [if_pos e3] at hw; cases hw
    rw [if_neg e3] at hw
    by_cases e4 : r.op = 7 ∧ r.line = 7
    · rw [if_pos e4] at hw; cases hw
    exact ⟨e1, e2, e3, e4⟩
  obtain ⟨n1, n2, n3, n4⟩ := nw
  unfold lineP at hline
  rcases hline with ⟨ho, _⟩ | ⟨ho, hh, hl⟩ | ⟨ho, hh, hl⟩ | ⟨ho, hh, hl⟩ | ⟨ho, hh, hl⟩ | ⟨ho, hh, hl⟩ | ⟨ho, hh, hl⟩ | ⟨ho, hh, hl⟩ | ⟨ho, hh, hl⟩
  · exact absurd ho hop
  · rcases hl with hl | hl
    · rw [pf_1_0 ho hl]; exact p_1_0 A ho hl hh hs
    · exact absurd ⟨ho, hl⟩ n1
  · rw [pf_2_0 ho hl]; exact p_2_0 A ho hl hh
  · rcases hl with hl | hl | hl | hl | hl
    · rw [pf_3_0 ho hl]; exact p_3_0 A ho hl hh hs
    · exact absurd ⟨ho, hl⟩ n2
    · rw [pf_3_2 ho hl]
      refine p_keep A 3 ?_ ?_ ?_ (by omega) (by omega) (by omega) (by omega)
      · unfold rdOf; simp [LS.pKeep, LS.go, LS.keepB, LS.doA, ho]
      · unfold wrOf; simp [LS.pKeep, LS.go, LS.keepB, LS.doA, ho, hl]
      · unfold lineP; simp [LS.pKeep, LS.go, LS.keepB, LS.doA, ho, hh]
    · rw [pf_3_3 ho hl]
      obtain ⟨q1, q2, q3, q4, q5, q6, q7, q8⟩ := app_p (r := r) 4
      refine p_appear A 4 (.inl ⟨ho, hl⟩) (by unfold wrOf; simp [ho, hl]) hs (.inl ⟨ho, rfl⟩) ?_ ?_ ?_
      · unfold rdOf; simp [q1, ho]
      · unfold wrOf; simp [q1, q2, q5, ho, hs]
      · unfold lineP; rw [q1, q2, ho, hh]; simp
    · exact absurd (.inl ⟨ho, hl⟩) n3
  · rcases hl with hl | hl | hl | hl
    · rw [pf_4_0 ho hl]
      refine p_keep A 1 ?_ ?_ ?_ (by omega) (by omega) (by omega) (by omega)
      · unfold rdOf; simp [LS.pKeep, LS.go, LS.keepB, LS.doA, ho]
      · unfold wrOf; simp [LS.pKeep, LS.go, LS.keepB, LS.doA, ho, hl]
      · unfold lineP; simp [LS.pKeep, LS.go, LS.keepB, LS.doA, ho, hh]
    · rw [pf_4_1 ho hl]; exact p_4_1 A ho hl hh
    · rw [pf_4_2 ho hl]; exact p_count A (.inl ho) hl (.inl ⟨ho, hh⟩)
    · rw [pf_4_3 ho hl]
      obtain ⟨q1, q2, q3, q4, q5, q6⟩ := pass_p (r := r) true
      refine p_pass A true (by unfold wrOf; simp [ho, hl, A.ret]) (fun _ _ => .inr (.inr (.inl ⟨.inl (q1.trans ho), q2.trans hl, q4⟩))) ?_ ?_ (by omega) (h' := 0) (by rw [ho, hh]; rfl) (.inl rfl) ?_
      · unfold rdOf; simp [q1, ho]
      · unfold wrOf; simp [q1, q2, q4, ho, hl]
      · unfold rdOf; simp [ho, zeroF]
  · rcases hl with hl | hl
    · rw [pf_5_0 ho hl]; exact p_5_0 A ho hl hh
    · rw [pf_5_1 ho hl]; exact p_5_1 A ho hl hh
  · have h6 : (r.op = 6 ∧ h = 0) ∨ (r.op = 7 ∧ h = 1) := .inl ⟨ho, hh⟩
    rcases hl with hl | hl | hl | hl | hl | hl | hl | hl | hl
    · rw [pf_6_0 ho hl]; exact p_look0 A h6 hl
    · rw [pf_6_1 ho hl]; exact p_weighT A h6 hl
    · rw [pf_6_2 ho hl]; exact p_claim A h6 hl
    · rw [pf_6_3 ho hl]; exact p_look3 A h6 hl
    · rw [pf_6_4 ho hl]; exact p_weighR A 0 h6 hl
    · rw [pf_6_5 ho hl]
      exact p_keep A 6 ((rd_try (r := r.pKeep 6) (.inl ho)).trans (rd_try (.inl ho)).symm) ((wr_try3 (r := r.pKeep 6) (.inl ho) (.inr (.inr (.inr rfl)))).trans (wr_try3 (.inl ho) (.inr (.inr (.inl hl)))).symm) (linep_try (l := 6) rfl rfl h6 (by omega)) (by omega) (by omega) (by omega) (by omega)
    · rw [pf_6_6 ho hl]
      obtain ⟨q1, q2, q3, q4, q5, q6, q7, q8⟩ := app_p (r := r) 7
      refine p_appear A 7 (.inr (.inr ⟨.inl ho, hl⟩)) (wr_try3 (.inl ho) (.inr (.inr (.inr hl)))) hs (.inr ⟨.inl ho, rfl⟩) (by rw [rd_try (r := r.pAppear 7) (.inl (q1.trans ho)), rd_try (.inl ho), q1]) ?_ (linep_try q1 q2 h6 (by omega))
      unfold wrOf; simp [q1, q2, q5, ho, hs]
    · exact absurd (.inr ⟨ho, hl⟩) n3
    · rw [pf_6_9 ho hl]
      obtain ⟨q1, q2, q3, q4, q5, q6⟩ := pass_p (r := r) false
      refine p_pass A false (by rw [wr_try9 (.inl ho) hl, if_pos A.ret]) (fun _ _ => .inr (.inr (.inr ⟨.inl (q1.trans ho), q2.trans hl, q4⟩))) (by rw [rd_try (r := r.pPass false) (.inl (q1.trans ho)), rd_try (.inl ho), q1]) ?_ (by omega) (h' := 0) (by rw [ho, hh]; rfl) (.inl rfl) ?_
      · rw [wr_try9 (r := r.pPass false) (.inl (q1.trans ho)) (q2.trans hl), if_neg (by rw [q4]; decide)]
      · have e := idle_rd h6
        rw [hh] at e ⊢; exact e
  · have h7 : (r.op = 6 ∧ h = 0) ∨ (r.op = 7 ∧ h = 1) := .inr ⟨ho, hh⟩
    rcases hl with hl | hl | hl | hl | hl | hl | hl | hl | hl | hl
    · rw [pf_7_0 ho hl]; exact p_look0 A h7 hl
    · rw [pf_7_1 ho hl]; exact p_weighT A h7 hl
    · rw [pf_7_2 ho hl]; exact p_claim A h7 hl
    · rw [pf_7_3 ho hl]; exact p_look3 A h7 hl
    · rw [pf_7_4 ho hl]; exact p_weighR A 256 h7 hl
    · rw [pf_7_5 ho hl]
      exact p_keep A 6 ((rd_try (r := r.pKeep 6) (.inr ho)).trans (rd_try (.inr ho)).symm) ((wr_try3 (r := r.pKeep 6) (.inr ho) (.inr (.inr (.inr rfl)))).trans (wr_try3 (.inr ho) (.inr (.inr (.inl hl)))).symm) (linep_try (l := 6) rfl rfl h7 (by omega)) (by omega) (by omega) (by omega) (by omega)
    · rw [pf_7_6 ho hl]
      obtain ⟨q1, q2, q3, q4, q5, q6, q7, q8⟩ := app_p (r := r) 7
      refine p_appear A 7 (.inr (.inr ⟨.inr ho, hl⟩)) (wr_try3 (.inr ho) (.inr (.inr (.inr hl)))) hs (.inr ⟨.inr ho, rfl⟩) (by rw [rd_try (r := r.pAppear 7) (.inr (q1.trans ho)), rd_try (.inr ho), q1]) ?_ (linep_try q1 q2 h7 (by omega))
      unfold wrOf; simp [q1, q2, q5, ho, hs]
    · exact absurd ⟨ho, hl⟩ n4
    · rw [pf_7_8 ho hl]; exact p_7_8 A ho hl hh
    · rw [pf_7_9 ho hl]
      obtain ⟨q1, q2, q3, q4, q5, q6⟩ := pass_p (r := r) false
      refine p_pass A false (by rw [wr_try9 (.inr ho) hl, if_pos A.ret]) (fun _ _ => .inr (.inr (.inr ⟨.inr (q1.trans ho), q2.trans hl, q4⟩))) (by rw [rd_try (r := r.pPass false) (.inr (q1.trans ho)), rd_try (.inr ho), q1]) ?_ (by omega) (h' := 1) (by rw [ho, hh]; rfl) (.inr rfl) ?_
      · rw [wr_try9 (r := r.pPass false) (.inr (q1.trans ho)) (q2.trans hl), if_neg (by rw [q4]; decide)]
      · have e := idle_rd h7
        rw [hh] at e ⊢; exact e
  · rcases hl with hl | hl | hl | hl
    · rw [pf_8_0 ho hl]
      refine p_keep A 1 ?_ ?_ ?_ (by omega) (by omega) (by omega) (by omega)
      · unfold rdOf; simp [LS.pKeep, LS.go, LS.keepB, LS.doA, ho, hl]
      · unfold wrOf; simp [LS.pKeep, LS.go, LS.keepB, LS.doA, ho, hl]
      · unfold lineP; simp [LS.pKeep, LS.go, LS.keepB, LS.doA, ho, hh]
    · rw [pf_8_1 ho hl]; exact p_8_1 A ho hl hh
    · rw [pf_8_2 ho hl]; exact p_count A (.inr ho) hl (.inr ⟨ho, hh⟩)
    · rw [pf_8_3 ho hl]
      obtain ⟨q1, q2, q3, q4, q5, q6⟩ := pass_p (r := r) true
      refine p_pass A true (by unfold wrOf; simp [ho, hl, A.ret]) (fun _ _ => .inr (.inr (.inl ⟨.inr (q1.trans ho), q2.trans hl, q4⟩))) ?_ ?_ (by omega) (h' := 1) (by rw [ho, hh]; rfl) (.inr rfl) ?_
      · unfold rdOf; simp [q1, q2, ho, hl]
      · unfold wrOf; simp [q1, q2, q4, ho, hl]
      · unfold rdOf; simp [ho, hl, zeroF]
end
end Go.Proofs.Ytgfippbcgneegaa
set_option linter.unusedVariables false
set_option linter.unusedSimpArgs false
namespace Go.Proofs.Ytgfippbcgneegaa
section
variable {k : Nat} {w : Int → Int} {h : Int}
theorem wp_idle (r : LS) : worthP k w h (zeroF r 0) = idleP k h := rfl
theorem wp_ret {R : LS} {o : Int} (e1 : R.op = o) (h0 : o ≠ 0) (e2 : R.ret ≠ 0) : worthP k w h R = idleP k (behindI o R.ret h) := by unfold worthP; rw [e1, if_neg h0, if_pos e2]
theorem wp_line {R : LS} {o l : Int} (e1 : R.op = o) (e2 : R.line = l) (e3 : R.ret = 0) (h0 : o ≠ 0) (hn : ¬ (o = 5 ∨ ((o = 6 ∨ o = 7) ∧ (l = 0 ∨ l = 1 ∨ l = 2)))) : worthP k w h R = lineW o l k := by
  unfold worthP; rw [e1, e2, e3, if_neg h0, if_neg (by decide), if_neg hn]
theorem wp_try {R : LS} {o l : Int} (e1 : R.op = o) (e2 : R.line = l) (e3 : R.ret = 0) (hn : o = 5 ∨ ((o = 6 ∨ o = 7) ∧ (l = 0 ∨ l = 1 ∨ l = 2))) : worthP k w h R = if l = 0 then 19 * k + 18 else if l = 2 then (if R.a = w 2 then 19 * k + 16 else 19 * k + 19) else if R.a = w (if o = 5 then 0 else 2) then 19 * k + 17 else 19 * k + 20 := by
  unfold worthP; rw [e1, e2, e3, if_neg (by omega), if_neg (by decide), if_pos hn]
theorem wps_stay {R : LS} (hk : R.k.on = false) (hr : R.ret = 0) : swp k R.finR.k + worthP k w (R.finH h) R.finR = worthP k w h R := by
  obtain ⟨f1, f2⟩ := fin_no (R := R) h hr
  rw [f1, f2, swp_off k hk]; omega
theorem wps_end {R : LS} (hk : R.k.on = false) (hr : R.ret ≠ 0) : swp k R.finR.k + worthP k w (R.finH h) R.finR = idleP k (behindI R.op R.ret h) := by
  obtain ⟨f1, f2⟩ := fin_yes (R := R) h hr hk
  rw [f1, f2, wp_idle, show swp k (zeroF R 0).k = 0 from swp_off k rfl]; omega
theorem wps_turn {R : LS} {mode c : Int} (hk : R.k = beginI mode c) (hr : R.ret ≠ 0) (h0 : R.op ≠ 0) : swp k R.finR.k + worthP k w (R.finH h) R.finR ≤ 5 * k + idleP k (behindI R.op R.ret h) := by
  rcases fin_turn (R := R) h mode c hk hr with ⟨e, f1, f2, f3⟩ | ⟨e, f1, f2⟩
  · rw [f1, f2, hk, wp_ret rfl h0 hr]
    have := swp_begin k mode c
    omega
  · rw [f1, f2, wp_idle, show swp k (zeroF R 0).k = 0 from swp_off k rfl]
    omega
theorem wps_begin {R : LS} {mode c : Int} (hk : R.k = beginI mode c) (hr : R.ret = 0) : swp k R.finR.k + worthP k w (R.finH h) R.finR ≤ 5 * k + worthP k w h R := by
  obtain ⟨f1, f2⟩ := fin_no (R := R) h hr
  rw [f1, f2, hk]
  have := swp_begin k mode c
  omega
end
set_option maxHeartbeats 4000000 in
theorem worth_plainP {b : Int} {k : Nat} {s : PS} {t : Nat} {r : LS} {h : Int} (A : AheadP b k s t h r) (hop : r.op ≠ 0) (hw : wtP r.op r.line r.a = none) :
    ∃ e, (∀ (h' : Int) (r' : LS), worthP k (ownW r.pf.xs) h' r' ≤ worthP k (ownW r.xs) h' r' + e) ∧ swp k r.pf.finR.k + worthP k (ownW r.pf.xs) (r.pf.finH h) r.pf.finR + k * e < worthP k (ownW r.xs) h r := by
  have hN := A.N
  have hor := A.inv.order
  have o0 : ∀ xs : List Int, ownW xs 0 = wordAt xs 0 := fun xs => ownW_at (by decide) (by decide)
  have o2 : ∀ xs : List Int, ownW xs 2 = wordAt xs 2 := fun xs => ownW_at (by decide) (by decide)
  have same : ∀ {R : LS}, (wordAt R.xs 0 = wordAt r.xs 0 ∧ wordAt R.xs 2 = wordAt r.xs 2) → ∀ (h' : Int) (r' : LS), worthP k (ownW R.xs) h' r' ≤ worthP k (ownW r.xs) h' r' + 0 := fun {R} e h' r' => by
    rw [worth_sameP k (w := ownW r.xs) ((o0 _).trans (e.1.trans (o0 _).symm)) ((o2 _).trans (e.2.trans (o2 _).symm))]; omega
  have rise : ∀ (R : LS) (h' : Int) (r' : LS), worthP k (ownW R.xs) h' r' ≤ worthP k (ownW r.xs) h' r' + 3 := fun R h' r' => worth_riseP k _ _ h' r'
  have keep : ∀ {R : LS} {v : Nat}, (wordAt R.xs 0 = wordAt r.xs 0 ∧ wordAt R.xs 2 = wordAt r.xs 2) → swp k R.finR.k + worthP k (ownW R.xs) (R.finH h) R.finR ≤ v → v < worthP k (ownW r.xs) h r → ∃ e, (∀ (h' : Int) (r' : LS), worthP k (ownW R.xs) h' r' ≤ worthP k (ownW r.xs) h' r' + e) ∧ swp k R.finR.k + worthP k (ownW R.xs) (R.finH h) R.finR + k * e < worthP k (ownW r.xs) h r := fun {R v} e1 e2 e3 => ⟨0, same e1, by omega⟩
  have turn3 : ∀ {R : LS} {v : Nat}, swp k R.finR.k + worthP k (ownW R.xs) (R.finH h) R.finR ≤ v → v + 3 * k < worthP k (ownW r.xs) h r → ∃ e, (∀ (h' : Int) (r' : LS), worthP k (ownW R.xs) h' r' ≤ worthP k (ownW r.xs) h' r' + e) ∧ swp k R.finR.k + worthP k (ownW R.xs) (R.finH h) R.finR + k * e < worthP k (ownW r.xs) h r := fun {R v} e2 e3 => ⟨3, rise R, by omega⟩
  have i0 : idleP k 0 = 0 := rfl
  have i1 : idleP k 1 = 5 * k + 1 := rfl
  have i2 : idleP k 2 = 13 * k + 4 := rfl
  have ld : ∀ c d : Int, wordAt (doNew r.xs 1 c 0 0) d = wordAt r.xs d := fun c d => loadf c d
  have line : ∀ {o l : Int}, r.op = o → r.line = l → o ≠ 0 → ¬ (o = 5 ∨ ((o = 6 ∨ o = 7) ∧ (l = 0 ∨ l = 1 ∨ l = 2))) → worthP k (ownW r.xs) h r = lineW o l k := fun e1 e2 h0 hn => wp_line e1 e2 A.ret h0 hn
  -- a line that keeps a word
  have keepl : ∀ {o l : Int} (n : Int), r.op = o → r.line = l → o ≠ 0 → ¬ (o = 5 ∨ ((o = 6 ∨ o = 7) ∧ (l = 0 ∨ l = 1 ∨ l = 2))) → ¬ (o = 5 ∨ ((o = 6 ∨ o = 7) ∧ (n = 0 ∨ n = 1 ∨ n = 2))) → lineW o n k < lineW o l k → ∃ e, (∀ (h' : Int) (r' : LS), worthP k (ownW (r.pKeep n).xs) h' r' ≤ worthP k (ownW r.xs) h' r' + e) ∧ swp k (r.pKeep n).finR.k + worthP k (ownW (r.pKeep n).xs) ((r.pKeep n).finH h) (r.pKeep n).finR + k * e < worthP k (ownW r.xs) h r := fun n e1 e2 h0 hn hn' hlt =>
    keep ⟨ld 4 0, ld 4 2⟩ (Nat.le_of_eq ((wps_stay (R := r.pKeep n) A.on A.ret).trans (wp_line (R := r.pKeep n) e1 rfl A.ret h0 hn'))) (by rw [line e1 e2 h0 hn]; exact hlt)
  have appl : ∀ {o l : Int} (n : Int), r.op = o → r.line = l → o ≠ 0 → ¬ (o = 5 ∨ ((o = 6 ∨ o = 7) ∧ (l = 0 ∨ l = 1 ∨ l = 2))) → ¬ (o = 5 ∨ ((o = 6 ∨ o = 7) ∧ (n = 0 ∨ n = 1 ∨ n = 2))) → lineW o n k + 3 * k < lineW o l k → ∃ e, (∀ (h' : Int) (r' : LS), worthP k (ownW (r.pAppear n).xs) h' r' ≤ worthP k (ownW r.xs) h' r' + e) ∧ swp k (r.pAppear n).finR.k + worthP k (ownW (r.pAppear n).xs) ((r.pAppear n).finH h) (r.pAppear n).finR + k * e < worthP k (ownW r.xs) h r := fun n e1 e2 h0 hn hn' hlt => by
    obtain ⟨q1, q2, q3, q4, q5, q6, q7, q8⟩ := app_p (r := r) n
    exact turn3 (Nat.le_of_eq ((wps_stay (by rw [q3]; exact A.on) (q4.trans A.ret)).trans (wp_line (R := r.pAppear n) (q1.trans e1) q2 (q4.trans A.ret) h0 hn'))) (by rw [line e1 e2 h0 hn]; exact hlt)
  have passl : ∀ {o l : Int} (ok : Bool), r.op = o → r.line = l → o ≠ 0 → ¬ (o = 5 ∨ ((o = 6 ∨ o = 7) ∧ (l = 0 ∨ l = 1 ∨ l = 2))) → 5 * k + idleP k (behindI o (if ok then 2 else 1) h) < lineW o l k → ∃ e, (∀ (h' : Int) (r' : LS), worthP k (ownW (r.pPass ok).xs) h' r' ≤ worthP k (ownW r.xs) h' r' + e) ∧ swp k (r.pPass ok).finR.k + worthP k (ownW (r.pPass ok).xs) ((r.pPass ok).finH h) (r.pPass ok).finR + k * e < worthP k (ownW r.xs) h r := fun {o l} ok e1 e2 h0 hn hlt => by
    obtain ⟨q1, q2, q3, q4, q5, q6⟩ := pass_p (r := r) ok
    refine keep (v := 5 * k + idleP k (behindI o (if ok then 2 else 1) h)) ⟨by rw [q6]; exact addf (by decide), by rw [q6]; exact addf (by decide)⟩ ?_ (by rw [line e1 e2 h0 hn]; exact hlt)
    have := wps_turn (k := k) (w := ownW (r.pPass ok).xs) (h := h) (R := r.pPass ok) q3 (by rw [q4]; cases ok <;> decide) (by rw [q1]; exact hop)
    rw [q1, q4, e1] at this
    exact this
  have vanl : ∀ {o l : Int} (i n : Int), r.op = o → r.line = l → o ≠ 0 → ¬ (o = 5 ∨ ((o = 6 ∨ o = 7) ∧ (l = 0 ∨ l = 1 ∨ l = 2))) → (o ≠ 5 ∧ o ≠ 6 ∧ o ≠ 7) → 5 * k + lineW o 2 k + 3 * k < lineW o l k → ∃ e, (∀ (h' : Int) (r' : LS), worthP k (ownW (r.pVanish i n).xs) h' r' ≤ worthP k (ownW r.xs) h' r' + e) ∧ swp k (r.pVanish i n).finR.k + worthP k (ownW (r.pVanish i n).xs) ((r.pVanish i n).finH h) (r.pVanish i n).finR + k * e < worthP k (ownW r.xs) h r := fun {o l} i n e1 e2 h0 hn hn' hlt => by
    obtain ⟨q1, q2, q3, q4, q5, q6, q7⟩ := van_p (r := r) i n
    have e3 := wps_begin (k := k) (w := ownW (r.pVanish i n).xs) (h := h) (R := r.pVanish i n) q3 (q4.trans A.ret)
    rw [wp_line (R := r.pVanish i n) (q1.trans e1) q2 (q4.trans A.ret) h0 (by omega)] at e3
    exact turn3 e3 (by rw [line e1 e2 h0 hn]; exact hlt)
  have cntl : ∀ {o l : Int}, r.op = o → r.line = l → o ≠ 0 → ¬ (o = 5 ∨ ((o = 6 ∨ o = 7) ∧ (l = 0 ∨ l = 1 ∨ l = 2))) → (o ≠ 5 ∧ o ≠ 6 ∧ o ≠ 7) → lineW o 3 k < lineW o l k → ∃ e, (∀ (h' : Int) (r' : LS), worthP k (ownW r.pCount.xs) h' r' ≤ worthP k (ownW r.xs) h' r' + e) ∧ swp k r.pCount.finR.k + worthP k (ownW r.pCount.xs) (r.pCount.finH h) r.pCount.finR + k * e < worthP k (ownW r.xs) h r := fun {o l} e1 e2 h0 hn hn' hlt => by
    obtain ⟨q1, q2, q3, q4, q5, q6⟩ := cnt_p (r := r)
    exact keep ⟨by rw [q6]; exact stop4 (by decide), by rw [q6]; exact stop4 (by decide)⟩ (Nat.le_of_eq ((wps_stay (by rw [q3]; exact A.on) (q4.trans A.ret)).trans (wp_line (R := r.pCount) (q1.trans e1) q2 (q4.trans A.ret) h0 (by omega)))) (by rw [line e1 e2 h0 hn]; exact hlt)
  -- tries
  have ge : ∀ {a c : Int}, 19 * k + 17 ≤ (if a = c then 19 * k + 17 else 19 * k + 20) := fun {a c} => by
    by_cases e : a = c
    · rw [if_pos e]; omega
    · rw [if_neg e]; omega
  have tlook : (r.op = 6 ∨ r.op = 7) → r.line = 0 → ∃ e, (∀ (h' : Int) (r' : LS), worthP k (ownW (r.pLook 2 1).xs) h' r' ≤ worthP k (ownW r.xs) h' r' + e) ∧ swp k (r.pLook 2 1).finR.k + worthP k (ownW (r.pLook 2 1).xs) ((r.pLook 2 1).finH h) (r.pLook 2 1).finR + k * e < worthP k (ownW r.xs) h r := fun ho hl => by
    refine keep (v := 19 * k + 17) ⟨ld 2 0, ld 2 2⟩ ?_ ?_
    · rw [wps_stay (R := r.pLook 2 1) A.on A.ret, wp_try (R := r.pLook 2 1) (o := r.op) (l := 1) rfl rfl A.ret (.inr ⟨ho, .inr (.inl rfl)⟩), if_neg (by decide), if_neg (by decide), if_neg (show ¬ r.op = 5 by omega), if_pos (show (r.pLook 2 1).a = ownW (r.pLook 2 1).xs 2 from by rw [o2]; exact (ld 2 2).symm)]
      omega
    · rw [wp_try (R := r) (o := r.op) (l := 0) rfl hl A.ret (.inr ⟨ho, .inl rfl⟩), if_pos rfl]; omega
  have tweigh : (r.op = 6 ∨ r.op = 7) → r.line = 1 → ∃ e, (∀ (h' : Int) (r' : LS), worthP k (ownW r.pWeighT.xs) h' r' ≤ worthP k (ownW r.xs) h' r' + e) ∧ swp k r.pWeighT.finR.k + worthP k (ownW r.pWeighT.xs) (r.pWeighT.finH h) r.pWeighT.finR + k * e < worthP k (ownW r.xs) h r := fun ho hl => by
    obtain ⟨A0, a1, a2, _⟩ := A.task.tryw ho (.inl hl)
    have hv : worthP k (ownW r.xs) h r = if r.a = wordAt r.xs 2 then 19 * k + 17 else 19 * k + 20 := by
      rw [wp_try (R := r) (o := r.op) (l := 1) rfl hl A.ret (.inr ⟨ho, .inr (.inl rfl)⟩), if_neg (by decide), if_neg (by decide), if_neg (show ¬ r.op = 5 by omega), o2]
    unfold LS.pWeighT
    by_cases n1 : 0 < aheadI r.a (wordAt r.xs 3)
    · rw [if_pos n1]
      refine keep (R := (((r.doA 1 3 0 0).keepB (wordAt r.xs 3)).note 5 0).fin false) (v := 13 * k + 4) ⟨ld 3 0, ld 3 2⟩ ?_ ?_
      · rw [wps_end (R := (((r.doA 1 3 0 0).keepB (wordAt r.xs 3)).note 5 0).fin false) A.on (by show (1 : Int) ≠ 0; decide)]
        exact idleP_le _ _
      · rw [hv]
        have := ge (a := r.a) (c := wordAt r.xs 2)
        omega
    rw [if_neg n1]
    by_cases n2 : aheadI r.a (wordAt r.xs 3) < 0
    · rw [if_pos n2]
      refine keep (R := ((r.doA 1 3 0 0).keepB (wordAt r.xs 3)).go 0) (v := 19 * k + 18) ⟨ld 3 0, ld 3 2⟩ ?_ ?_
      · rw [wps_stay (R := ((r.doA 1 3 0 0).keepB (wordAt r.xs 3)).go 0) A.on A.ret, wp_try (R := ((r.doA 1 3 0 0).keepB (wordAt r.xs 3)).go 0) (o := r.op) (l := 0) rfl rfl A.ret (.inr ⟨ho, .inl rfl⟩), if_pos rfl]
        omega
      · rw [hv, if_neg (fun e => ?_)]
        · omega
        · rw [A.ws.w2, a2] at e
          have e' := wd_inj e (by omega) (by omega)
          rw [a2, A.ws.w3, wd_ahead (by omega) (by omega)] at n2
          omega
    · rw [if_neg n2]
      refine ⟨0, same (R := ((r.doA 1 3 0 0).keepB (wordAt r.xs 3)).go 2) ⟨ld 3 0, ld 3 2⟩, ?_⟩
      rw [wps_stay (R := ((r.doA 1 3 0 0).keepB (wordAt r.xs 3)).go 2) A.on A.ret, wp_try (R := ((r.doA 1 3 0 0).keepB (wordAt r.xs 3)).go 2) (o := r.op) (l := 2) rfl rfl A.ret (.inr ⟨ho, .inr (.inr rfl)⟩), if_neg (by decide), if_pos rfl, o2, show wordAt (((r.doA 1 3 0 0).keepB (wordAt r.xs 3)).go 2).xs 2 = wordAt r.xs 2 from ld 3 2, show (((r.doA 1 3 0 0).keepB (wordAt r.xs 3)).go 2).a = r.a from rfl, hv]
      by_cases e : r.a = wordAt r.xs 2
      · rw [if_pos e, if_pos e]; omega
      · rw [if_neg e, if_neg e]; omega
  have tclaim : (r.op = 6 ∨ r.op = 7) → r.line = 2 → ∃ e, (∀ (h' : Int) (r' : LS), worthP k (ownW r.pClaim.xs) h' r' ≤ worthP k (ownW r.xs) h' r' + e) ∧ swp k r.pClaim.finR.k + worthP k (ownW r.pClaim.xs) (r.pClaim.finH h) r.pClaim.finR + k * e < worthP k (ownW r.xs) h r := fun ho hl => by
    have hv : worthP k (ownW r.xs) h r = if r.a = wordAt r.xs 2 then 19 * k + 16 else 19 * k + 19 := by
      rw [wp_try (R := r) (o := r.op) (l := 2) rfl hl A.ret (.inr ⟨ho, .inr (.inr rfl)⟩), if_neg (by decide), if_pos rfl, o2]
    rcases cas_words A 2 r.a ((r.a + 1) % 4294967296) (by decide) (by decide) (was_eq A 2 (by decide) (by decide)) with ⟨hc, e, x2, wf⟩ | ⟨hc, e, wf⟩
    · have hs : r.pClaim = ((r.doA 5 2 r.a ((r.a + 1) % 4294967296)).note 2 2).go 3 := by unfold LS.pClaim; rw [hc]; rfl
      have hp : r.pClaim.op = r.op ∧ r.pClaim.line = 3 ∧ r.pClaim.k = r.k ∧ r.pClaim.ret = r.ret := by rw [hs]; exact ⟨rfl, rfl, rfl, rfl⟩
      obtain ⟨p1, p2, p3, p4⟩ := hp
      refine turn3 (v := 16 * k + 14) ?_ ?_
      · rw [wps_stay (by rw [p3]; exact A.on) (p4.trans A.ret)]
        rcases ho with o | o
        · rw [wp_line (R := r.pClaim) (p1.trans o) p2 (p4.trans A.ret) (by decide) (by decide)]; exact Nat.le_refl _
        · rw [wp_line (R := r.pClaim) (p1.trans o) p2 (p4.trans A.ret) (by decide) (by decide)]; exact Nat.le_refl _
      · rw [hv, if_pos e.symm]; omega
    · have hs : r.pClaim = (r.doA 5 2 r.a ((r.a + 1) % 4294967296)).go 0 := by unfold LS.pClaim; rw [hc]; rfl
      rw [hs]
      refine keep (R := (r.doA 5 2 r.a ((r.a + 1) % 4294967296)).go 0) (v := 19 * k + 18) ⟨wf 0, wf 2⟩ ?_ ?_
      · rw [wps_stay (R := (r.doA 5 2 r.a ((r.a + 1) % 4294967296)).go 0) A.on A.ret, wp_try (R := (r.doA 5 2 r.a ((r.a + 1) % 4294967296)).go 0) (o := r.op) (l := 0) rfl rfl A.ret (.inr ⟨ho, .inl rfl⟩), if_pos rfl]
        omega
      · rw [hv, if_neg (fun e2 => e e2.symm)]; omega
  have tlook3 : ∀ {o : Int}, (o = 6 ∨ o = 7) → r.op = o → r.line = 3 → lineW o 4 k < lineW o 3 k → ∃ e, (∀ (h' : Int) (r' : LS), worthP k (ownW (r.pLook 0 4).xs) h' r' ≤ worthP k (ownW r.xs) h' r' + e) ∧ swp k (r.pLook 0 4).finR.k + worthP k (ownW (r.pLook 0 4).xs) ((r.pLook 0 4).finH h) (r.pLook 0 4).finR + k * e < worthP k (ownW r.xs) h r := fun {o} ho e1 e2 hlt =>
    keep ⟨ld 0 0, ld 0 2⟩ (Nat.le_of_eq ((wps_stay (R := r.pLook 0 4) A.on A.ret).trans (wp_line (R := r.pLook 0 4) (o := o) (l := 4) e1 rfl A.ret (by omega) (by omega)))) (by rw [line e1 e2 (by omega) (by omega)]; exact hlt)
  have tweighR : ∀ {o : Int} (own : Int), (o = 6 ∨ o = 7) → r.op = o → r.line = 4 → lineW o 5 k < lineW o 4 k → lineW o 9 k < lineW o 4 k → ∃ e, (∀ (h' : Int) (r' : LS), worthP k (ownW (r.pWeighR own).xs) h' r' ≤ worthP k (ownW r.xs) h' r' + e) ∧ swp k (r.pWeighR own).finR.k + worthP k (ownW (r.pWeighR own).xs) ((r.pWeighR own).finH h) (r.pWeighR own).finR + k * e < worthP k (ownW r.xs) h r := fun {o} own ho e1 e2 h5 h9 => by
    unfold LS.pWeighR
    by_cases n1 : aheadI r.a (wordAt r.xs 1) ≤ own
    · rw [if_pos n1]
      exact keep (R := ((r.doA 1 1 0 0).keepB (wordAt r.xs 1)).go 5) ⟨ld 1 0, ld 1 2⟩ (Nat.le_of_eq ((wps_stay (R := ((r.doA 1 1 0 0).keepB (wordAt r.xs 1)).go 5) A.on A.ret).trans (wp_line (R := ((r.doA 1 1 0 0).keepB (wordAt r.xs 1)).go 5) (o := o) (l := 5) e1 rfl A.ret (by omega) (by omega)))) (by rw [line e1 e2 (by omega) (by omega)]; exact h5)
    · rw [if_neg n1]
      exact keep (R := (((r.doA 1 1 0 0).keepB (wordAt r.xs 1)).note 5 0).go 9) ⟨ld 1 0, ld 1 2⟩ (Nat.le_of_eq ((wps_stay (R := (((r.doA 1 1 0 0).keepB (wordAt r.xs 1)).note 5 0).go 9) A.on A.ret).trans (wp_line (R := (((r.doA 1 1 0 0).keepB (wordAt r.xs 1)).note 5 0).go 9) (o := o) (l := 9) e1 rfl A.ret (by omega) (by omega)))) (by rw [line e1 e2 (by omega) (by omega)]; exact h9)
  have hline := A.task.line
  have nw : ¬ (r.op = 1 ∧ r.line = 1) ∧ ¬ (r.op = 3 ∧ r.line = 1) ∧ ¬ ((r.op = 3 ∧ r.line = 4) ∨ (r.op = 6 ∧ r.line = 7)) ∧ ¬ (r.op = 7 ∧ r.line = 7) := by
    unfold wtP at hw
    by_cases e1 : r.op = 1 ∧ r.line = 1
    · rw [if_pos e1] at hw; cases hw
    rw [if_neg e1] at hw
    by_cases e2 : r.op = 3 ∧ r.line = 1
    · rw [if_pos e2] at hw; cases hw
    rw [if_neg e2] at hw
    by_cases e3 : (r.op = 3 ∧ r.line = 4) ∨ (r.op = 6 ∧ r.line = 7)
    · rw [if_pos e3] at hw; cases hw
    rw [if_neg e3] at hw
    by_cases e4 : r.op = 7 ∧ r.line = 7
    · rw [if_pos e4] at hw; cases hw
    exact ⟨e1, e2, e3, e4⟩
  obtain ⟨n1, n2, n3, n4⟩ := nw
  unfold lineP at hline
  rcases hline with ⟨ho, _⟩ | ⟨ho, hh, hl⟩ | ⟨ho, hh, hl⟩ | ⟨ho, hh, hl⟩ | ⟨ho, hh, hl⟩ | ⟨ho, hh, hl⟩ | ⟨ho, hh, hl⟩ | ⟨ho, hh, hl⟩ | ⟨ho, hh, hl⟩
  · exact absurd ho hop
  · rcases hl with hl | hl
    · rw [pf_1_0 ho hl]
      have hv : worthP k (ownW r.xs) h r = 8 * k + 7 := line ho hl (by decide) (by decide)
      unfold LS.pCome
      by_cases e : bitsI (wordAt r.xs 0) = 0
      · rw [if_pos e]
        refine turn3 (R := ((((r.doA 3 0 256 0).keepA (wordAt r.xs 0)).note 2 1).note 4 0).fin true) (v := 5 * k + 1) ?_ (by omega)
        rw [wps_end (R := ((((r.doA 3 0 256 0).keepA (wordAt r.xs 0)).note 2 1).note 4 0).fin true) A.on (by show (2 : Int) ≠ 0; decide)]
        show idleP k (behindI r.op 2 h) ≤ _
        rw [ho]; exact Nat.le_refl _
      · rw [if_neg e]
        refine turn3 (R := (((r.doA 3 0 256 0).keepA (wordAt r.xs 0)).note 2 1).go 1) (v := 5 * k + 6) ?_ (by omega)
        rw [wps_stay (R := (((r.doA 3 0 256 0).keepA (wordAt r.xs 0)).note 2 1).go 1) A.on A.ret, wp_line (R := (((r.doA 3 0 256 0).keepA (wordAt r.xs 0)).note 2 1).go 1) (o := 1) (l := 1) ho rfl A.ret (by decide) (by decide)]
        exact Nat.le_refl _
    · exact absurd ⟨ho, hl⟩ n1
  · rw [pf_2_0 ho hl]
    obtain ⟨p1, p2, p3, p4, p5, p6⟩ := dep_p (r := r)
    have hv : worthP k (ownW r.xs) h r = 5 * k + 1 := line ho hl (by decide) (by decide)
    refine keep (v := 5 * k) ⟨by rw [p6]; exact addf (by decide), by rw [p6]; exact addf (by decide)⟩ ?_ (by omega)
    have := wps_turn (k := k) (w := ownW r.pDepart.xs) (h := h) (R := r.pDepart) p3 (by rw [p4]; decide) (by rw [p1]; exact hop)
    rw [p1, p4, ho, hh, show behindI 2 2 0 = 0 from rfl, i0] at this
    rw [hh]; exact this
  · rcases hl with hl | hl | hl | hl | hl
    · rw [pf_3_0 ho hl]
      have hv : worthP k (ownW r.xs) h r = 19 * k + 16 := line ho hl (by decide) (by decide)
      refine turn3 (R := r.pDraw) (v := 16 * k + 15) ?_ (by omega)
      rw [wps_stay (R := r.pDraw) A.on A.ret, wp_line (R := r.pDraw) (o := 3) (l := 1) ho rfl A.ret (by decide) (by decide)]
      exact Nat.le_refl _
    · exact absurd ⟨ho, hl⟩ n2
    · rw [pf_3_2 ho hl]; exact keepl 3 ho hl (by decide) (by decide) (by decide) (by show 16 * k + 10 < 16 * k + 11; omega)
    · rw [pf_3_3 ho hl]; exact appl 4 ho hl (by decide) (by decide) (by decide) (by show 13 * k + 9 + 3 * k < 16 * k + 10; omega)
    · exact absurd (.inl ⟨ho, hl⟩) n3
  · rcases hl with hl | hl | hl | hl
    · rw [pf_4_0 ho hl]; exact keepl 1 ho hl (by decide) (by decide) (by decide) (by show 13 * k + 3 < 13 * k + 4; omega)
    · rw [pf_4_1 ho hl]; exact vanl 0 7 ho hl (by decide) (by decide) (by decide) (by show 5 * k + (5 * k + 2) + 3 * k < 13 * k + 3; omega)
    · rw [pf_4_2 ho hl]; exact cntl ho hl (by decide) (by decide) (by decide) (by show 5 * k + 1 < 5 * k + 2; omega)
    · rw [pf_4_3 ho hl]; exact passl true ho hl (by decide) (by decide) (by rw [hh]; show 5 * k + 0 < 5 * k + 1; omega)
  · rcases hl with hl | hl
    · rw [pf_5_0 ho hl]
      have hv : worthP k (ownW r.xs) h r = 19 * k + 18 := by rw [wp_try (R := r) ho hl A.ret (.inl rfl), if_pos rfl]
      unfold LS.pLookIn
      by_cases e : bitsI (wordAt r.xs 0) = 0
      · rw [if_pos e]
        refine keep (R := ((r.doA 1 0 0 0).keepA (wordAt r.xs 0)).go 1) (v := 19 * k + 17) ⟨ld 0 0, ld 0 2⟩ ?_ (by omega)
        rw [wps_stay (R := ((r.doA 1 0 0 0).keepA (wordAt r.xs 0)).go 1) A.on A.ret, wp_try (R := ((r.doA 1 0 0 0).keepA (wordAt r.xs 0)).go 1) (o := 5) (l := 1) ho rfl A.ret (.inl rfl), if_neg (by decide), if_neg (by decide), if_pos rfl, if_pos (show (((r.doA 1 0 0 0).keepA (wordAt r.xs 0)).go 1).a = ownW (((r.doA 1 0 0 0).keepA (wordAt r.xs 0)).go 1).xs 0 from by rw [o0]; exact (ld 0 0).symm)]
        omega
      · rw [if_neg e]
        refine keep (R := (((r.doA 1 0 0 0).keepA (wordAt r.xs 0)).note 5 0).fin false) (v := 13 * k + 4) ⟨ld 0 0, ld 0 2⟩ ?_ (by omega)
        rw [wps_end (R := (((r.doA 1 0 0 0).keepA (wordAt r.xs 0)).note 5 0).fin false) A.on (by show (1 : Int) ≠ 0; decide)]
        exact idleP_le _ _
    · rw [pf_5_1 ho hl]
      have hv : worthP k (ownW r.xs) h r = if r.a = wordAt r.xs 0 then 19 * k + 17 else 19 * k + 20 := by
        rw [wp_try (R := r) ho hl A.ret (.inl rfl), if_neg (by decide), if_neg (by decide), if_pos rfl, o0]
      rcases cas_words A 0 r.a ((r.a + 256) % 4294967296) (by decide) (by decide) (was_eq A 0 (by decide) (by decide)) with ⟨hc, e, x2, wf⟩ | ⟨hc, e, wf⟩
      · have hs : r.pSlip = (((r.doA 5 0 r.a ((r.a + 256) % 4294967296)).note 2 1).note 4 0).fin true := by unfold LS.pSlip; rw [hc]; rfl
        have hp : r.pSlip.k = r.k ∧ r.pSlip.ret = 2 ∧ r.pSlip.op = r.op := by rw [hs]; exact ⟨rfl, rfl, rfl⟩
        refine turn3 (R := r.pSlip) (v := 5 * k + 1) ?_ (by rw [hv, if_pos e.symm]; omega)
        rw [wps_end (R := r.pSlip) (by rw [hp.1]; exact A.on) (by rw [hp.2.1]; decide), hp.2.1, hp.2.2, ho]
        exact Nat.le_refl _
      · have hs : r.pSlip = (r.doA 5 0 r.a ((r.a + 256) % 4294967296)).go 0 := by unfold LS.pSlip; rw [hc]; rfl
        rw [hs]
        refine keep (R := (r.doA 5 0 r.a ((r.a + 256) % 4294967296)).go 0) (v := 19 * k + 18) ⟨wf 0, wf 2⟩ ?_ (by rw [hv, if_neg (fun e2 => e e2.symm)]; omega)
        rw [wps_stay (R := (r.doA 5 0 r.a ((r.a + 256) % 4294967296)).go 0) A.on A.ret, wp_try (R := (r.doA 5 0 r.a ((r.a + 256) % 4294967296)).go 0) (o := 5) (l := 0) ho rfl A.ret (.inl rfl), if_pos rfl]
        omega
  · rcases hl with hl | hl | hl | hl | hl | hl | hl | hl | hl
    · rw [pf_6_0 ho hl]; exact tlook (.inl ho) hl
    · rw [pf_6_1 ho hl]; exact tweigh (.inl ho) hl
    · rw [pf_6_2 ho hl]; exact tclaim (.inl ho) hl
    · rw [pf_6_3 ho hl]; exact tlook3 (.inl rfl) ho hl (by show 16 * k + 13 < 16 * k + 14; omega)
    · rw [pf_6_4 ho hl]; exact tweighR 0 (.inl rfl) ho hl (by show 16 * k + 12 < 16 * k + 13; omega) (by show 10 * k + 3 < 16 * k + 13; omega)
    · rw [pf_6_5 ho hl]; exact keepl 6 ho hl (by decide) (by decide) (by decide) (by show 16 * k + 11 < 16 * k + 12; omega)
    · rw [pf_6_6 ho hl]; exact appl 7 ho hl (by decide) (by decide) (by decide) (by show 13 * k + 10 + 3 * k < 16 * k + 11; omega)
    · exact absurd (.inr ⟨ho, hl⟩) n3
    · rw [pf_6_9 ho hl]; exact passl false ho hl (by decide) (by decide) (by rw [hh]; show 5 * k + 0 < 10 * k + 3; omega)
  · rcases hl with hl | hl | hl | hl | hl | hl | hl | hl | hl | hl
    · rw [pf_7_0 ho hl]; exact tlook (.inr ho) hl
    · rw [pf_7_1 ho hl]; exact tweigh (.inr ho) hl
    · rw [pf_7_2 ho hl]; exact tclaim (.inr ho) hl
    · rw [pf_7_3 ho hl]; exact tlook3 (.inr rfl) ho hl (by show 16 * k + 13 < 16 * k + 14; omega)
    · rw [pf_7_4 ho hl]; exact tweighR 256 (.inr rfl) ho hl (by show 16 * k + 12 < 16 * k + 13; omega) (by show 10 * k + 3 < 16 * k + 13; omega)
    · rw [pf_7_5 ho hl]; exact keepl 6 ho hl (by decide) (by decide) (by decide) (by show 16 * k + 11 < 16 * k + 12; omega)
    · rw [pf_7_6 ho hl]; exact appl 7 ho hl (by decide) (by decide) (by decide) (by show 13 * k + 10 + 3 * k < 16 * k + 11; omega)
    · exact absurd ⟨ho, hl⟩ n4
    · rw [pf_7_8 ho hl]
      have hv : worthP k (ownW r.xs) h r = 13 * k + 5 := line ho hl (by decide) (by decide)
      refine keep (R := r.pStop) (v := 13 * k + 4) ⟨addf (c := 1) (by decide), addf (c := 1) (by decide)⟩ ?_ (by omega)
      rw [wps_end (R := r.pStop) A.on (by show (2 : Int) ≠ 0; decide)]
      exact idleP_le _ _
    · rw [pf_7_9 ho hl]; exact passl false ho hl (by decide) (by decide) (by rw [hh]; show 5 * k + (5 * k + 1) < 10 * k + 3; omega)
  · rcases hl with hl | hl | hl | hl
    · rw [pf_8_0 ho hl]; exact keepl 1 ho hl (by decide) (by decide) (by decide) (by show 18 * k + 5 < 18 * k + 6; omega)
    · rw [pf_8_1 ho hl]; exact vanl 256 10 ho hl (by decide) (by decide) (by decide) (by show 5 * k + (10 * k + 3) + 3 * k < 18 * k + 5; omega)
    · rw [pf_8_2 ho hl]; exact cntl ho hl (by decide) (by decide) (by decide) (by show 10 * k + 2 < 10 * k + 3; omega)
    · rw [pf_8_3 ho hl]; exact passl true ho hl (by decide) (by decide) (by rw [hh]; show 5 * k + (5 * k + 1) < 10 * k + 2; omega)
end Go.Proofs.Ytgfippbcgneegaa
