import Derived.Test.YtgfippbcgneegaaP22
set_option linter.unusedVariables false
set_option linter.unusedSimpArgs false
namespace Go.Proofs.Ytgfippbcgneegaa
structure StepT (wt : WtF) (k : Nat) (mode : Int) (m : MV) (t : Nat) (R : LS) : Prop where
  len : R.xs.length = 8 + 4 * k
  cst : R.n = k ∧ R.mode = mode ∧ R.task = t
  sr : R.s = 0 ∨ R.s = 1 ∨ R.s = 2 ∨ R.s = 3 ∨ R.s = 4
  sp : mode ≠ 2 → R.s = 0
  sw : R.s ≠ 0 → (∃ c q, wt R.op R.line R.a = some (c, q)) ∧ R.k.on = false ∧ R.ret = 0
  wat : (R.s = 0 ∨ R.s = 1 → wordAt R.xs (wc k t) = 0) ∧ (R.s = 2 ∨ R.s = 3 ∨ R.s = 4 → ∀ c q, wt R.op R.line R.a = some (c, q) → wordAt R.xs (wc k t) = c + 1)
  kon : R.k.on = true → 0 ≤ R.k.i ∧ R.k.i < k
  op : R.op ≠ 0
  far : ∀ i, i < k → i ≠ t → wordAt R.xs (wc k i) = wordAt m.xs (wc k i)
  nlt : R.s = 3 → ∀ c q, wt R.op R.line R.a = some (c, q) → q (wordAt R.xs c) = false
  nl : ∀ i, i < k → i ≠ t → ∀ c q, wt (m.rs i).op (m.rs i).line (m.rs i).a = some (c, q) → (m.rs i).s = 3 → hasP R.xs k i = false → q (wordAt R.xs c) = true → ∃ j, j < k ∧ (upd (fun j => (m.rs j).k) t R.k j).on = true ∧ (upd (fun j => (m.rs j).k) t R.k j).c = c ∧ (upd (fun j => (m.rs j).k) t R.k j).i ≤ i
section
variable {L : LS → LS} {wt : WtF} {k : Nat} {mode : Int} {m : MV} {t : Nat}
theorem StepT.gen (hL : LinesOK L wt) (h : GenI wt k mode m) (ht : t < k) {R : LS} {hv : Int} (hT : StepT wt k mode m t R) : GenI wt k mode ⟨upd m.rs t R.finR, upd m.hold t hv, R.xs⟩ := by
  have hov : R.over = true → R.s = 0 ∧ R.k.on = false := fun e => by
    have e1 : R.ret ≠ 0 ∧ R.k.on = false := by
      unfold LS.over at e
      simpa using e
    refine ⟨?_, e1.2⟩
    by_cases e2 : R.s = 0
    · exact e2
    · exact absurd (hT.sw e2).2.2 e1.1
  have hno : R.over = false → R.finR = R := fun e => by unfold LS.finR; rw [e]; rfl
  have hye : R.over = true → R.finR = zeroF R 0 := fun e => by unfold LS.finR; rw [e]; rfl
  have hkon : ∀ j, j < k → (upd (fun j => (m.rs j).k) t R.k j).on = true → (upd m.rs t R.finR j).k = upd (fun j => (m.rs j).k) t R.k j := fun j hj ho => by
    by_cases e : j = t
    · subst e
      rw [upd_same] at ho ⊢
      rw [upd_same]
      cases ho2 : R.over
      · rw [hno ho2]
      · rw [(hov ho2).2] at ho; cases ho
    · rw [upd_other _ _ e, upd_other _ _ e]
  cases ho : R.over
  · have hf := hno ho
    refine ⟨hT.len, fun i hi => ?_, fun i hi => ?_, fun i hi hm => ?_, fun i hi hne => ?_, fun i hi => ?_, fun i hi ho => ?_, fun i hi ho => ?_, fun i hi ho => ?_, fun i hi c q hw hs hp hq => ?_⟩
    all_goals dsimp only at *
    · by_cases e : i = t
      · subst e; rw [upd_same, hf]; exact hT.cst
      · rw [upd_other _ _ e]; exact h.cst i hi
    · by_cases e : i = t
      · subst e; rw [upd_same, hf]; exact hT.sr
      · rw [upd_other _ _ e]; exact h.sr i hi
    · by_cases e : i = t
      · subst e; rw [upd_same, hf]; exact hT.sp hm
      · rw [upd_other _ _ e]; exact h.sp i hi hm
    · by_cases e : i = t
      · subst e; rw [upd_same, hf] at hne ⊢; exact ⟨(hT.sw hne).1, (hT.sw hne).2.1⟩
      · rw [upd_other _ _ e] at hne ⊢; exact h.sw i hi hne
    · by_cases e : i = t
      · subst e; rw [upd_same, hf]; exact hT.wat
      · rw [upd_other _ _ e, hT.far i hi e]; exact h.wat i hi
    · by_cases e : i = t
      · subst e; rw [upd_same, hf] at ho ⊢; exact hT.kon ho
      · rw [upd_other _ _ e] at ho ⊢; exact h.kon i hi ho
    · rename_i hov0
      by_cases e : i = t
      · subst e; rw [upd_same, hf] at ho ⊢
        by_cases e2 : R.ret = 0
        · exact e2
        · exfalso
          have : R.over = true := by unfold LS.over; rw [ho]; simpa using e2
          rw [hov0] at this; cases this
      · rw [upd_other _ _ e] at ho ⊢; exact h.rt i hi ho
    · by_cases e : i = t
      · subst e; rw [upd_same, hf] at ho; exact absurd ho hT.op
      · rw [upd_other _ _ e] at ho ⊢; exact h.idle i hi ho
    · by_cases e : i = t
      · subst e; rw [upd_same, hf] at hw hs
        rw [hT.nlt hs c q hw] at hq; cases hq
      · rw [upd_other _ _ e] at hw hs
        obtain ⟨j, hj, h1, h2, h3⟩ := hT.nl i hi e c q hw hs hp hq
        exact ⟨j, hj, by rw [hkon j hj h1]; exact ⟨h1, h2, h3⟩⟩
  · have hf := hye ho
    obtain ⟨hs0, hon⟩ := hov ho
    refine ⟨hT.len, fun i hi => ?_, fun i hi => ?_, fun i hi hm => ?_, fun i hi hne => ?_, fun i hi => ?_, fun i hi ho => ?_, fun i hi ho => ?_, fun i hi ho => ?_, fun i hi c q hw hs hp hq => ?_⟩
    all_goals dsimp only at *
    · by_cases e : i = t
      · subst e; rw [upd_same, hf]; exact hT.cst
      · rw [upd_other _ _ e]; exact h.cst i hi
    · by_cases e : i = t
      · subst e; rw [upd_same, hf]; exact .inl rfl
      · rw [upd_other _ _ e]; exact h.sr i hi
    · by_cases e : i = t
      · subst e; rw [upd_same, hf]; rfl
      · rw [upd_other _ _ e]; exact h.sp i hi hm
    · by_cases e : i = t
      · subst e; rw [upd_same, hf] at hne; exact absurd rfl hne
      · rw [upd_other _ _ e] at hne ⊢; exact h.sw i hi hne
    · by_cases e : i = t
      · subst e; rw [upd_same, hf]
        exact ⟨fun _ => hT.wat.1 (.inl hs0), fun hh => by rcases hh with hh | hh | hh <;> cases hh⟩
      · rw [upd_other _ _ e, hT.far i hi e]; exact h.wat i hi
    · by_cases e : i = t
      · subst e; rw [upd_same, hf] at ho; cases ho
      · rw [upd_other _ _ e] at ho ⊢; exact h.kon i hi ho
    · by_cases e : i = t
      · subst e; rw [upd_same, hf]; rfl
      · rw [upd_other _ _ e] at ho ⊢; exact h.rt i hi ho
    · by_cases e : i = t
      · subst e; rw [upd_same, hf]; rfl
      · rw [upd_other _ _ e] at ho ⊢; exact h.idle i hi ho
    · by_cases e : i = t
      · subst e; rw [upd_same, hf] at hs; cases hs
      · rw [upd_other _ _ e] at hw hs
        obtain ⟨j, hj, h1, h2, h3⟩ := hT.nl i hi e c q hw hs hp hq
        exact ⟨j, hj, by rw [hkon j hj h1]; exact ⟨h1, h2, h3⟩⟩
theorem step_waking (hL : LinesOK L wt) (hk : k ≤ 64) (h : GenI wt k mode m) (ht : t < k) (hop : (m.rs t).op ≠ 0) (hon : (m.rs t).k.on = true) : StepT wt k mode m t (m.at t).waking := by
  obtain ⟨c1, c2, c3⟩ := h.cst t ht
  obtain ⟨k0, k1⟩ := h.kon t ht hon
  have hs0 : (m.rs t).s = 0 := by
    by_cases e : (m.rs t).s = 0
    · exact e
    · rw [(h.sw t ht e).2] at hon; cases hon
  obtain ⟨i0, hi0⟩ := Int.eq_ofNat_of_zero_le k0
  have hi1 : i0 < k := by omega
  obtain ⟨on, kc, ki, hit, hkk⟩ : ∃ on kc ki hit, (m.rs t).k = ⟨on, kc, ki, hit⟩ := ⟨_, _, _, _, rfl⟩
  rw [hkk] at hon hi0
  dsimp only at hon hi0
  subst hon hi0
  obtain ⟨wh, wl⟩ := wake_cases (xs := m.xs) (c := kc) (hit := hit) hk h.len hi1
  have hxs : (m.at t).waking.xs = (wakeI m.xs k true kc i0 hit).xs := by show (wakeI m.xs (m.rs t).n _ _ _ _).xs = _; rw [c1, show (m.at t).k = ⟨true, kc, (i0 : Int), hit⟩ from hkk]
  have hk' : (m.at t).waking.k = (wakeI m.xs k true kc i0 hit).next := by show (wakeI m.xs (m.rs t).n _ _ _ _).next = _; rw [c1, show (m.at t).k = ⟨true, kc, (i0 : Int), hit⟩ from hkk]
  have hs' : (m.at t).waking.s = 0 := hs0
  have hwat : ∀ i, i < k → wordAt (m.at t).waking.xs (wc k i) = wordAt m.xs (wc k i) := fun i hi => by rw [hxs]; exact wake_wat hk (by omega) (by omega) hi
  have hown : ∀ d, 0 ≤ d → d < 8 → wordAt (m.at t).waking.xs d = wordAt m.xs d := fun d h0 h1 => by
    rw [hxs]
    exact own_wake (by rw [pc_at hk hi1]; omega)
  have hnx : (nextI k kc i0).on = true → (nextI k kc i0).i = i0 + 1 ∧ (nextI k kc i0).c = kc ∧ (i0 : Int) + 1 < k := fun e => by
    unfold nextI at *
    split
    · rename_i e2; rw [if_pos e2] at e; cases e
    · exact ⟨rfl, rfl, by omega⟩
  have hnxt : (i0 : Int) + 1 < k → (nextI k kc i0).on = true ∧ (nextI k kc i0).i = i0 + 1 ∧ (nextI k kc i0).c = kc := fun e => by
    unfold nextI
    rw [if_neg (by omega)]
    exact ⟨rfl, rfl, rfl⟩
  refine ⟨by rw [hxs]; exact (wake_len0 m.xs k kc i0 hit).trans h.len, ⟨c1, c2, c3⟩, .inl hs', fun _ => hs', fun e => absurd hs' e, ⟨fun _ => by rw [hwat t ht]; exact (h.wat t ht).1 (.inl hs0), fun e => (by rw [hs'] at e; rcases e with e | e | e <;> cases e)⟩, fun ho => ?_, hop, fun i hi _ => hwat i hi, fun e => (by rw [hs'] at e; cases e), fun i hi hne c q hw hs hp hq => ?_⟩
  · rw [hk'] at ho ⊢
    cases hh : hit
    · subst hh
      rcases (wl rfl).2 with ⟨_, e⟩ | ⟨_, e⟩
      · rw [e]; exact ⟨by show (0 : Int) ≤ i0; omega, by show (i0 : Int) < k; omega⟩
      · rw [e] at ho ⊢
        obtain ⟨a1, a2, a3⟩ := hnx ho
        rw [a1]; omega
    · subst hh
      rw [(wh rfl).1] at ho ⊢
      obtain ⟨a1, a2, a3⟩ := hnx ho
      rw [a1]; omega
  · obtain ⟨hc0, hc8⟩ := hL.c8 _ _ _ _ _ hw
    rw [hown c hc0 hc8] at hq
    have hp0 : hasP m.xs k i = false := by
      cases hh : hit
      · subst hh; rwa [hxs, (wl rfl).1] at hp
      · subst hh
        rw [hxs, (wh rfl).2 i hi] at hp
        by_cases e : i = i0
        · rw [if_pos e] at hp; cases hp
        · rwa [if_neg e] at hp
    obtain ⟨j, hj, h1, h2, h3⟩ := h.nl i hi c q hw hs hp0 hq
    by_cases e : j = t
    · subst e
      rw [hkk] at h1 h2 h3
      dsimp only at h1 h2 h3
      subst h2
      refine ⟨j, hj, ?_⟩
      rw [upd_same, hk']
      have hwi : wordAt m.xs (wc k i) = kc + 1 := (h.wat i hi).2 (.inr (.inl hs)) kc q hw
      cases hh : hit
      · subst hh
        rcases (wl rfl).2 with ⟨_, e⟩ | ⟨e0, e⟩
        · rw [e]; exact ⟨rfl, rfl, h3⟩
        · have hne2 : i ≠ i0 := fun e3 => by
            subst e3
            rw [hwi] at e0
            exact e0 (by omega)
          rw [e]
          obtain ⟨a1, a2, a3⟩ := hnxt (by omega)
          exact ⟨a1, a3, by rw [a2]; omega⟩
      · subst hh
        have hne2 : i ≠ i0 := fun e3 => by
          rw [hxs, (wh rfl).2 i hi, if_pos e3] at hp; cases hp
        rw [(wh rfl).1]
        obtain ⟨a1, a2, a3⟩ := hnxt (by omega)
        exact ⟨a1, a3, by rw [a2]; omega⟩
    · exact ⟨j, hj, by rw [upd_other _ _ e]; exact ⟨h1, h2, h3⟩⟩
theorem step_wait (hL : LinesOK L wt) (hk : k ≤ 64) (h : GenI wt k mode m) (ht : t < k) (hop : (m.rs t).op ≠ 0) (hon : (m.rs t).k.on = false) (hst : (m.at t).stuck = false) {c : Int} {q : Int → Bool} (hw : wt (m.rs t).op (m.rs t).line (m.rs t).a = some (c, q)) : StepT wt k mode m t (L (m.at t).fresh) := by
  obtain ⟨c1, c2, c3⟩ := h.cst t ht
  obtain ⟨s1, s2, s3, s4, s5⟩ := hL.same (m.at t).fresh
  have W := hL.wait (m.at t).fresh c q hon hw
  obtain ⟨hc0, hc8⟩ := hL.c8 _ _ _ _ _ hw
  have hr0 := h.rt t ht hon
  have hR : (m.at t).fresh.stepR c q = stepI m.xs k mode t (m.rs t).s c q := by
    show stepI m.xs (m.rs t).n (m.rs t).mode (m.rs t).task (m.rs t).s c q = _
    rw [c1, c2, c3]
  have hxs := W.xs
  have hs' := W.s
  have hstay := W.stay
  rw [hR] at hxs hs' hstay
  have hns : ¬ (mode = 2 ∧ (m.rs t).s = 3 ∧ hasP m.xs k t = false) := fun ⟨e1, e2, e3⟩ => by
    have : (m.at t).stuck = true := by
      unfold LS.stuck stuckB
      show (!(m.rs t).k.on && ((m.rs t).mode == 2 && (m.rs t).s == 3 && !hasP m.xs (m.rs t).n (m.rs t).task)) = true
      rw [hon, c1, c2, c3, e1, e2, e3]; rfl
    rw [hst] at this; cases this
  have hkt : (L (m.at t).fresh).k.on = false := by rw [W.k]; exact hon
  have hnext := step_next (xs := m.xs) (k := k) (mode := mode) (t := t) (s := (m.rs t).s) (c := c) (q := q)
  have hdn := step_done0 (xs := m.xs) (k := k) (mode := mode) (t := t) (s := (m.rs t).s) (c := c) (q := q)
  have hown : ∀ d, 0 ≤ d → d < 8 → wordAt (L (m.at t).fresh).xs d = wordAt m.xs d := fun d h0 h1 => by
    rw [hxs]
    exact own_wait (by rw [wc_at hk ht]; omega) (by rw [pc_at hk ht]; omega)
  have hwat : ∀ i, i < k → _ := fun i hi => step_wat (xs := m.xs) (mode := mode) (s := (m.rs t).s) (c := c) (q := q) hk h.len ht hi
  have hper : ∀ i, i < k → _ := fun i hi => step_per (xs := m.xs) (mode := mode) (s := (m.rs t).s) (c := c) (q := q) hk h.len ht hi
  have hsr := h.sr t ht
  have hline : (L (m.at t).fresh).s ≠ 0 → wt (L (m.at t).fresh).op (L (m.at t).fresh).line (L (m.at t).fresh).a = some (c, q) ∧ (L (m.at t).fresh).ret = 0 := fun e => by
    rw [hs'] at e
    cases hd : (stepI m.xs k mode t (m.rs t).s c q).done
    · obtain ⟨l1, l2⟩ := hstay hd
      rw [s4, l1, W.a]
      exact ⟨hw, l2.trans hr0⟩
    · exact absurd (hdn hd) e
  have hnx4 : (L (m.at t).fresh).s = 0 ∨ (L (m.at t).fresh).s = 1 ∨ (L (m.at t).fresh).s = 2 ∨ (L (m.at t).fresh).s = 3 ∨ (L (m.at t).fresh).s = 4 := by
    rw [hs']; rcases hnext with ⟨e, _⟩ | ⟨_, _, e⟩
    · exact .inl e
    · rcases e with ⟨e, _⟩ | ⟨e, _⟩ | ⟨e, _⟩ | ⟨e, _⟩
      · exact .inr (.inl e)
      · exact .inr (.inr (.inl e))
      · exact .inr (.inr (.inr (.inl e)))
      · exact .inr (.inr (.inr (.inr e)))
  refine ⟨s5.trans h.len, ⟨s1.trans c1, s2.trans c2, s3.trans c3⟩, hnx4, fun hm => ?_, fun e => ⟨⟨c, q, (hline e).1⟩, hkt, (hline e).2⟩, ⟨fun e => ?_, fun e c' q' hw' => ?_⟩, fun e => (by rw [hkt] at e; cases e), by rw [s4]; exact hop, fun i hi hne => ?_, fun e c' q' hw' => ?_, fun i hi hne c' q' hw' hs hp hq => ?_⟩
  · rw [hs']
    rw [stepI_spin hm]
  · rw [hxs, hwat t ht]
    rw [hs'] at e
    have w0 := (h.wat t ht).1
    rcases hnext with ⟨e1, e2⟩ | ⟨em, _, ⟨_, e1, e2, e3, e4⟩ | ⟨e1, _⟩ | ⟨e1, _⟩ | ⟨e1, _⟩⟩
    · rcases hsr with e3 | e3 | e3 | e3 | e3
      · rw [if_neg (by omega), if_neg (by omega)]; exact w0 (.inl e3)
      · exfalso
        by_cases em : mode = 2
        · rw [em, e3] at e1; cases e1
        · have := h.sp t ht em; omega
      · exfalso
        by_cases em : mode = 2
        · rw [em, e3, stepI_2] at e1; simp only at e1; split at e1 <;> cases e1
        · have := h.sp t ht em; omega
      · exfalso
        by_cases em : mode = 2
        · rw [em, e3, stepI_3] at e1; simp only at e1; split at e1 <;> cases e1
        · have := h.sp t ht em; omega
      · rw [if_neg (by omega)]
        by_cases em : mode = 2
        · rw [if_pos ⟨rfl, em, e3⟩]
        · have := h.sp t ht em; omega
    · rw [if_neg (by omega), if_neg (by omega)]; exact w0 (by omega)
    · omega
    · omega
    · omega
  · have hne0 : (L (m.at t).fresh).s ≠ 0 := by omega
    rw [(hline hne0).1] at hw'
    obtain ⟨rfl, rfl⟩ := Prod.mk.inj (Option.some.inj hw')
    rw [hxs, hwat t ht]
    rw [hs'] at e
    have w2 := fun e => (h.wat t ht).2 e c q hw
    rcases hnext with ⟨e1, e2⟩ | ⟨em, _, ⟨e1, _⟩ | ⟨e1, e2⟩ | ⟨e1, e2⟩ | ⟨e1, e2, _⟩⟩
    · omega
    · omega
    · rcases e2 with e2 | ⟨e2, _⟩
      · rw [if_pos ⟨rfl, em, e2⟩]; omega
      · rw [if_neg (by omega), if_neg (by omega)]; exact w2 (.inr (.inl e2))
    · rw [if_neg (by omega), if_neg (by omega)]
      rcases e2 with ⟨e2, _⟩ | ⟨e2, _⟩
      · exact w2 (.inl e2)
      · exact w2 (.inr (.inl e2))
    · rw [if_neg (by omega), if_neg (by omega)]; exact w2 (.inl e2)
  · rw [hxs, hwat i hi, if_neg (fun e => hne e.1), if_neg (fun e => hne e.1)]
  · have hne0 : (L (m.at t).fresh).s ≠ 0 := by omega
    rw [(hline hne0).1] at hw'
    obtain ⟨rfl, rfl⟩ := Prod.mk.inj (Option.some.inj hw')
    rw [hown c hc0 hc8]
    rw [hs'] at e
    rcases hnext with ⟨e1, _⟩ | ⟨em, _, ⟨e1, _⟩ | ⟨e1, _⟩ | ⟨_, e2⟩ | ⟨e1, _⟩⟩
    · omega
    · omega
    · omega
    · rcases e2 with ⟨_, e2⟩ | ⟨e2, e3⟩
      · exact e2
      · exact absurd ⟨em, e2, e3⟩ hns
    · omega
  · obtain ⟨hc0', hc8'⟩ := hL.c8 _ _ _ _ _ hw'
    rw [hown c' hc0' hc8'] at hq
    rw [hxs, hper i hi, if_neg (fun e => hne e.1)] at hp
    obtain ⟨j, hj, h1, h2, h3⟩ := h.nl i hi c' q' hw' hs hp hq
    have : j ≠ t := fun e => by subst e; rw [hon] at h1; cases h1
    exact ⟨j, hj, by rw [upd_other _ _ this]; exact ⟨h1, h2, h3⟩⟩
theorem step_plain (hL : LinesOK L wt) (hk : k ≤ 64) (hk1 : 1 ≤ k) (h : GenI wt k mode m) (ht : t < k) (hop : (m.rs t).op ≠ 0) (hon : (m.rs t).k.on = false) (hw : wt (m.rs t).op (m.rs t).line (m.rs t).a = none)
    (hwk : ∀ i, i < k → i ≠ t → ∀ c q, wt (m.rs i).op (m.rs i).line (m.rs i).a = some (c, q) → (m.rs i).s = 3 → q (wordAt (L (m.at t).fresh).xs c) = true → q (wordAt m.xs c) = true ∨ (L (m.at t).fresh).k = beginI 2 c) : StepT wt k mode m t (L (m.at t).fresh) := by
  obtain ⟨c1, c2, c3⟩ := h.cst t ht
  obtain ⟨s1, s2, s3, s4, s5⟩ := hL.same (m.at t).fresh
  have P := hL.plain (m.at t).fresh hon hw
  have hs0 : (m.rs t).s = 0 := by
    by_cases e : (m.rs t).s = 0
    · exact e
    · obtain ⟨⟨c, q, e2⟩, _⟩ := h.sw t ht e
      rw [hw] at e2; cases e2
  have hs' : (L (m.at t).fresh).s = 0 := P.s.trans hs0
  have hwat : ∀ i, i < k → wordAt (L (m.at t).fresh).xs (wc k i) = wordAt m.xs (wc k i) := fun i hi => P.far _ (by rw [wc_at hk hi]; omega)
  have hper : ∀ i, i < k → hasP (L (m.at t).fresh).xs k i = hasP m.xs k i := fun i hi => by unfold hasP; rw [P.far _ (by rw [pc_at hk hi]; omega)]; rfl
  refine ⟨s5.trans h.len, ⟨s1.trans c1, s2.trans c2, s3.trans c3⟩, .inl hs', fun _ => hs', fun e => absurd hs' e, ⟨fun _ => by rw [hwat t ht]; exact (h.wat t ht).1 (.inl hs0), fun e => by omega⟩, fun e => ?_, by rw [s4]; exact hop, fun i hi _ => hwat i hi, fun e => by omega, fun i hi hne c q hw' hs hp hq => ?_⟩
  · rcases P.k with e2 | ⟨c, _, _, e2⟩
    · rw [e2] at e; rw [show (m.at t).fresh.k = (m.rs t).k from rfl, hon] at e; cases e
    · rw [e2] at e ⊢
      unfold beginI at *
      split
      · exact ⟨Int.le_refl _, by show (0 : Int) < k; omega⟩
      · rename_i e3; rw [if_neg e3] at e; cases e
  · rcases hwk i hi hne c q hw' hs hq with hq0 | hb
    · rw [hper i hi] at hp
      obtain ⟨j, hj, h1, h2, h3⟩ := h.nl i hi c q hw' hs hp hq0
      have : j ≠ t := fun e => by subst e; rw [hon] at h1; cases h1
      exact ⟨j, hj, by rw [upd_other _ _ this]; exact ⟨h1, h2, h3⟩⟩
    · exact ⟨t, ht, by rw [upd_same, hb]; exact ⟨rfl, rfl, by show (0 : Int) ≤ i; omega⟩⟩
end
end Go.Proofs.Ytgfippbcgneegaa
set_option linter.unusedVariables false
set_option linter.unusedSimpArgs false
namespace Go.Proofs.Ytgfippbcgneegaa
def ownW (xs : List Int) : Int → Int := fun d => if 0 ≤ d ∧ d < 8 then wordAt xs d else 0
theorem ownW_same {xs ys : List Int} (h : ∀ d, 0 ≤ d → d < 8 → wordAt ys d = wordAt xs d) : ownW ys = ownW xs := by
  funext d; unfold ownW; split
  · rename_i e; exact h d e.1 e.2
  · rfl
theorem ownW_at {xs : List Int} {d : Int} (h0 : 0 ≤ d) (h1 : d < 8) : ownW xs d = wordAt xs d := if_pos ⟨h0, h1⟩
abbrev VF := (Int → Int) → Int → LS → Nat
structure WorthOK (V : VF) : Prop where
  like : ∀ w h (r r' : LS), r'.op = r.op → r'.line = r.line → r'.ret = r.ret → r'.a = r.a → V w h r' = V w h r
  over : ∀ w h (r : LS), r.ret ≠ 0 → V w (behindI r.op r.ret h) (zeroF r 0) ≤ V w h r
def share (V : VF) (k : Nat) (m : MV) (i : Nat) : Nat := swp k (m.rs i).k + stp (m.rs i).s + V (ownW m.xs) (m.hold i) (m.rs i)
def perms (k : Nat) (m : MV) : Nat := sumN (fun i => if hasP m.xs k i then 1 else 0) k
def FI (V : VF) (k : Nat) (m : MV) : Nat := sumN (share V k m) k + 3 * perms k m
theorem sum_move {f g : Nat → Nat} {k t e : Nat} (ht : t < k) (h : ∀ i, i < k → i ≠ t → g i ≤ f i + e) : sumN g k + f t + e ≤ sumN f k + k * e + g t := by
  have h1 : sumN g k ≤ sumN (upd (fun i => f i + e) t (g t)) k := sumN_le fun i hi => by
    by_cases e1 : i = t
    · subst e1; rw [upd_same]; exact Nat.le_refl _
    · rw [upd_other _ _ e1]; exact h i hi e1
  have h2 := sumN_upd (f := fun i => f i + e) (g := upd (fun i => f i + e) t (g t)) (t := t) (k := k) ht (fun i _ hi => upd_other _ _ hi)
  rw [upd_same] at h2
  have h3 : sumN (fun i => f i + e) k = sumN f k + k * e := by
    rw [sumN_add (f := f) (g := fun _ => e), sumN_const]
  rw [h3] at h2
  try dsimp only at h2
  omega
def Blk (wt : WtF) (k : Nat) (mode : Int) (m : MV) (t : Nat) : Prop :=
  ((m.rs t).op = 0 ∧ m.hold t = 0) ∨ ((m.rs t).op ≠ 0 ∧ (m.rs t).k.on = false ∧ ∃ c q, wt (m.rs t).op (m.rs t).line (m.rs t).a = some (c, q) ∧ ((mode ≠ 2 ∧ q (wordAt m.xs c) = false) ∨ (mode = 2 ∧ (m.rs t).s = 3 ∧ hasP m.xs k t = false)))
section
variable {L : LS → LS} {wt : WtF} {V : VF} {k : Nat} {mode : Int} {m : MV} {t : Nat}
theorem swp_next (k : Nat) (c : Int) {i0 : Nat} (h : i0 < k) : swp k (nextI k c i0) ≤ 5 * (k - i0 - 1) := by
  unfold nextI
  split
  · simp [swp, wk0]
  · unfold swp
    simp only [Bool.false_eq_true, if_false, if_true, Nat.sub_zero]
    have : ((i0 : Int) + 1).toNat = i0 + 1 := by omega
    rw [this]; omega
theorem perms_one {m m' : MV} {i : Nat} (hi : i < k) (h : ∀ j, j < k → j ≠ i → hasP m'.xs k j = hasP m.xs k j) : perms k m' + (if hasP m.xs k i then 1 else 0) = perms k m + (if hasP m'.xs k i then 1 else 0) := by
  have := sumN_upd (f := fun i : Nat => if hasP m.xs (k : Int) (i : Int) then 1 else 0) (g := fun i : Nat => if hasP m'.xs (k : Int) (i : Int) then 1 else 0) (t := i) (k := k) hi (fun j hj hne => by simp only [h j hj hne])
  exact this
theorem perms_same {m m' : MV} (h : ∀ j, j < k → hasP m'.xs k j = hasP m.xs k j) : perms k m' = perms k m := sumN_congr fun i hi => by simp only [h i hi]
theorem pot_go (hL : LinesOK L wt) (hV : WorthOK V) (hk : k ≤ 64) (h : GenI wt k mode m) (ht : t < k) (hop : (m.rs t).op ≠ 0) (hb : ¬ Blk wt k mode m t)
    (hD : ∀ c q, (m.rs t).k.on = false → wt (m.rs t).op (m.rs t).line (m.rs t).a = some (c, q) → (stepI m.xs k mode t (m.rs t).s c q).done = true → V (ownW m.xs) ((L (m.at t).fresh).finH (m.hold t)) (L (m.at t).fresh).finR + 4 ≤ V (ownW m.xs) (m.hold t) (m.rs t))
    (hP : (m.rs t).k.on = false → wt (m.rs t).op (m.rs t).line (m.rs t).a = none → ∃ e, (∀ i, i < k → i ≠ t → V (ownW (L (m.at t).fresh).xs) (m.hold i) (m.rs i) ≤ V (ownW m.xs) (m.hold i) (m.rs i) + e) ∧ swp k (L (m.at t).fresh).finR.k + V (ownW (L (m.at t).fresh).xs) ((L (m.at t).fresh).finH (m.hold t)) (L (m.at t).fresh).finR + k * e < V (ownW m.xs) (m.hold t) (m.rs t)) :
    (m.at t).stuck = false ∧ FI V k (m.go L t) < FI V k m := by
  obtain ⟨c1, c2, c3⟩ := h.cst t ht
  have hns : (m.at t).stuck = false := by
    cases e : (m.at t).stuck
    · rfl
    · exfalso
      have hon : (m.at t).k.on = false := by
        cases e2 : (m.at t).k.on
        · rfl
        · unfold LS.stuck at e; rw [e2] at e; cases e
      obtain ⟨e1, e2, e3⟩ := stuck_iff hon e
      rw [c1, c3] at e3
      obtain ⟨⟨c, q, hw⟩, _⟩ := h.sw t ht (by omega)
      exact hb (.inr ⟨hop, hon, c, q, hw, .inr ⟨c2.symm.trans e1, e2, e3⟩⟩)
  refine ⟨hns, ?_⟩
  rw [go_eq hns]
  generalize hR : (m.at t).next L = R
  have hmain : ∀ (e a b : Nat), (∀ i, i < k → i ≠ t → V (ownW R.xs) (m.hold i) (m.rs i) ≤ V (ownW m.xs) (m.hold i) (m.rs i) + e) → perms k ⟨upd m.rs t R.finR, upd m.hold t (R.finH (m.hold t)), R.xs⟩ + b ≤ perms k m + a → swp k R.finR.k + stp R.finR.s + V (ownW R.xs) (R.finH (m.hold t)) R.finR + k * e + 3 * a < swp k (m.rs t).k + stp (m.rs t).s + V (ownW m.xs) (m.hold t) (m.rs t) + 3 * b → FI V k ⟨upd m.rs t R.finR, upd m.hold t (R.finH (m.hold t)), R.xs⟩ < FI V k m := by
    intro e a b h1 h2 h3
    have hs := sum_move (f := share V k m) (g := share V k ⟨upd m.rs t R.finR, upd m.hold t (R.finH (m.hold t)), R.xs⟩) (k := k) (t := t) (e := e) ht (fun i hi hne => by
      unfold share
      dsimp only
      rw [upd_other _ _ hne, upd_other _ _ hne]
      have := h1 i hi hne
      omega)
    have ht1 : share V k ⟨upd m.rs t R.finR, upd m.hold t (R.finH (m.hold t)), R.xs⟩ t = swp k R.finR.k + stp R.finR.s + V (ownW R.xs) (R.finH (m.hold t)) R.finR := by
      unfold share; dsimp only; rw [upd_same, upd_same]
    have ht2 : share V k m t = swp k (m.rs t).k + stp (m.rs t).s + V (ownW m.xs) (m.hold t) (m.rs t) := rfl
    unfold FI
    omega
  cases hon : (m.rs t).k.on
  · have hR' : R = L (m.at t).fresh := by
      rw [← hR]; unfold LS.next
      rw [if_neg (by show ¬ (m.rs t).k.on = true; rw [hon]; exact Bool.false_ne_true)]
    have hsw0 : swp k (m.rs t).k = 0 := swp_off k hon
    cases hw : wt (m.rs t).op (m.rs t).line (m.rs t).a with
    | none =>
      obtain ⟨e, h1, h2⟩ := hP hon hw
      rw [← hR'] at h1 h2
      have P := hL.plain (m.at t).fresh hon hw
      have hs0 : (m.rs t).s = 0 := by
        by_cases e2 : (m.rs t).s = 0
        · exact e2
        · obtain ⟨⟨c, q, e3⟩, _⟩ := h.sw t ht e2
          rw [hw] at e3; cases e3
      have hRs : R.finR.s = 0 := by
        have : R.s = 0 := by rw [hR']; exact P.s.trans hs0
        unfold LS.finR; split
        · rfl
        · exact this
      refine hmain e 0 0 h1 ?_ (by rw [hRs, hs0, hsw0]; omega)
      rw [perms_same (m := m) fun j hj => by
        show hasP R.xs k j = _
        rw [hR']; unfold hasP; rw [P.far _ (by rw [pc_at hk hj]; omega)]; rfl]
      exact Nat.le_refl _
    | some cq =>
      obtain ⟨c, q⟩ := cq
      have W := hL.wait (m.at t).fresh c q hon hw
      have hSR : (m.at t).fresh.stepR c q = stepI m.xs k mode t (m.rs t).s c q := by
        show stepI m.xs (m.rs t).n (m.rs t).mode (m.rs t).task (m.rs t).s c q = _
        rw [c1, c2, c3]
      have hxs := W.xs
      have hs' := W.s
      have hstay := W.stay
      rw [hSR] at hxs hs' hstay
      rw [← hR'] at hxs hs' hstay
      have hkR : R.k = (m.rs t).k := by rw [hR']; exact W.k
      have hown : ownW R.xs = ownW m.xs := ownW_same fun d h0 h1 => by
        rw [hxs]; exact own_wait (by rw [wc_at hk ht]; omega) (by rw [pc_at hk ht]; omega)
      have hper : ∀ i, i < k → _ := fun i hi => step_per (xs := m.xs) (mode := mode) (s := (m.rs t).s) (c := c) (q := q) hk h.len ht hi
      have hkf : swp k R.finR.k = 0 := by
        unfold LS.finR; split
        · exact swp_off k rfl
        · rw [hkR]; exact hsw0
      have hoth : ∀ i, i < k → i ≠ t → V (ownW R.xs) (m.hold i) (m.rs i) ≤ V (ownW m.xs) (m.hold i) (m.rs i) + 0 := fun i _ _ => by rw [hown]; omega
      have hsame : ¬ (mode = 2 ∧ (m.rs t).s = 3) → perms k ⟨upd m.rs t R.finR, upd m.hold t (R.finH (m.hold t)), R.xs⟩ + 0 ≤ perms k m + 0 := fun e => by
        rw [perms_same (m := m) fun j hj => by
          show hasP R.xs k j = _
          rw [hxs, hper j hj, if_neg (fun e2 => e e2.2)]]
        omega
      have hnext := step_next (xs := m.xs) (k := k) (mode := mode) (t := t) (s := (m.rs t).s) (c := c) (q := q)
      have hd0 := step_done0 (xs := m.xs) (k := k) (mode := mode) (t := t) (s := (m.rs t).s) (c := c) (q := q)
      cases hd : (stepI m.xs k mode t (m.rs t).s c q).done
      · obtain ⟨l1, l2⟩ := hstay hd
        have hr0 : R.ret = 0 := l2.trans (h.rt t ht hon)
        have hno : R.over = false := by unfold LS.over; rw [hr0]; rfl
        have hf : R.finR = R := by unfold LS.finR; rw [hno]; rfl
        have hh : R.finH (m.hold t) = m.hold t := by unfold LS.finH; rw [hno]; rfl
        have hVs : V (ownW R.xs) (R.finH (m.hold t)) R.finR = V (ownW m.xs) (m.hold t) (m.rs t) := by
          rw [hf, hh, hown]
          have hop' : R.op = (m.rs t).op := by rw [hR']; exact (hL.same (m.at t).fresh).2.2.2.1
          have ha' : R.a = (m.rs t).a := by rw [hR']; exact W.a
          exact hV.like _ _ _ _ hop' l1 l2 ha'
        have hsr := h.sr t ht
        rcases hnext with ⟨e1, e2⟩ | ⟨em, _, ⟨e1, e2, e3, e4, e5⟩ | ⟨e1, e2⟩ | ⟨e1, e2⟩ | ⟨e1, e2, e3⟩⟩
        · rcases e2 with e2 | e2
          · rw [hd] at e2; cases e2
          · exfalso
            rw [stepI_spin e2] at hd
            exact hb (.inr ⟨hop, hon, c, q, hw, .inl ⟨e2, hd⟩⟩)
        · refine hmain 0 0 0 hoth (hsame (by omega)) ?_
          rw [hVs, hkf, hf, hs', e1, show (m.rs t).s = 0 by omega]
          simp [stp, hsw0]
        · rcases e2 with e2 | ⟨e2, e3⟩
          · refine hmain 0 0 0 hoth (hsame (by omega)) ?_
            rw [hVs, hkf, hf, hs', e1, e2]
            simp [stp, hsw0]
          · refine hmain 0 0 1 hoth ?_ ?_
            · have := perms_one (k := k) (m := m) (m' := ⟨upd m.rs t R.finR, upd m.hold t (R.finH (m.hold t)), R.xs⟩) ht (fun j hj hne => by
                show hasP R.xs k j = _
                rw [hxs, hper j hj, if_neg (fun e4 => hne e4.1)])
              have hpt : hasP R.xs k t = false := by rw [hxs, hper t ht, if_pos ⟨rfl, em, e2⟩]
              simp only [hpt, e3] at this
              simp at this
              omega
            · rw [hVs, hkf, hf, hs', e1, e2]
              simp [stp, hsw0]; omega
        · rcases e2 with ⟨e2, _⟩ | ⟨e2, e3⟩
          · refine hmain 0 0 0 hoth (hsame (by omega)) ?_
            rw [hVs, hkf, hf, hs', e1, e2]
            simp [stp, hsw0]
          · exact absurd (.inr ⟨hop, hon, c, q, hw, .inr ⟨em, e2, e3⟩⟩) hb
        · refine hmain 0 0 0 hoth (hsame (by omega)) ?_
          rw [hVs, hkf, hf, hs', e1, e2]
          simp [stp, hsw0]
      · have hDD := hD c q hon hw hd
        rw [← hR'] at hDD
        have h0 := hd0 hd
        have hRs : R.finR.s = 0 := by
          unfold LS.finR; split
          · rfl
          · rw [hs', h0]
        have hn3 : ¬ (mode = 2 ∧ (m.rs t).s = 3) := fun ⟨e1, e2⟩ => by
          rw [e1, e2, stepI_3] at hd; cases hd
        have hst : 1 ≤ stp (m.rs t).s := by
          have hsr := h.sr t ht
          by_cases em : mode = 2
          · rcases hsr with e | e | e | e | e <;> rw [e] <;> first | decide | (exact absurd ⟨em, e⟩ hn3)
          · rw [h.sp t ht em]; decide
        refine hmain 0 0 0 hoth (hsame hn3) ?_
        rw [hkf, hRs, hown, hsw0]
        show 0 + 4 + _ + _ + _ < _
        omega
  · have hR' : R = (m.at t).waking := by
      rw [← hR]; unfold LS.next
      rw [if_pos (by show (m.rs t).k.on = true; exact hon)]
    obtain ⟨k0, k1⟩ := h.kon t ht hon
    have hs0 : (m.rs t).s = 0 := by
      by_cases e : (m.rs t).s = 0
      · exact e
      · rw [(h.sw t ht e).2] at hon; cases hon
    obtain ⟨i0, hi0⟩ := Int.eq_ofNat_of_zero_le k0
    have hi1 : i0 < k := by omega
    obtain ⟨on, kc, ki, hit, hkk⟩ : ∃ on kc ki hit, (m.rs t).k = ⟨on, kc, ki, hit⟩ := ⟨_, _, _, _, rfl⟩
    rw [hkk] at hon hi0
    dsimp only at hon hi0
    subst hon hi0
    obtain ⟨wh, wl⟩ := wake_cases (xs := m.xs) (c := kc) (hit := hit) hk h.len hi1
    have hxs : R.xs = (wakeI m.xs k true kc i0 hit).xs := by rw [hR']; show (wakeI m.xs (m.rs t).n _ _ _ _).xs = _; rw [c1, show (m.at t).k = ⟨true, kc, (i0 : Int), hit⟩ from hkk]
    have hk' : R.k = (wakeI m.xs k true kc i0 hit).next := by rw [hR']; show (wakeI m.xs (m.rs t).n _ _ _ _).next = _; rw [c1, show (m.at t).k = ⟨true, kc, (i0 : Int), hit⟩ from hkk]
    have hRs : R.s = 0 := by rw [hR']; exact hs0
    have hown : ownW R.xs = ownW m.xs := ownW_same fun d h0 h1 => by
      rw [hxs]; exact own_wake (by rw [pc_at hk hi1]; omega)
    have hoth : ∀ i, i < k → i ≠ t → V (ownW R.xs) (m.hold i) (m.rs i) ≤ V (ownW m.xs) (m.hold i) (m.rs i) + 0 := fun i _ _ => by rw [hown]; omega
    have hop' : R.op = (m.rs t).op := by rw [hR']; rfl
    have hl' : R.line = (m.rs t).line := by rw [hR']; rfl
    have hr' : R.ret = (m.rs t).ret := by rw [hR']; rfl
    have ha' : R.a = (m.rs t).a := by rw [hR']; rfl
    have hVR : V (ownW m.xs) (m.hold t) R = V (ownW m.xs) (m.hold t) (m.rs t) := hV.like _ _ _ _ hop' hl' hr' ha'
    have hfin : swp k R.finR.k + stp R.finR.s + V (ownW R.xs) (R.finH (m.hold t)) R.finR ≤ swp k R.k + 4 + V (ownW m.xs) (m.hold t) (m.rs t) := by
      rw [hown]
      cases ho : R.over
      · rw [show R.finR = R by unfold LS.finR; rw [ho]; rfl, show R.finH (m.hold t) = m.hold t by unfold LS.finH; rw [ho]; rfl, hRs, hVR]
        exact Nat.le_refl _
      · have hret : R.ret ≠ 0 := by
          unfold LS.over at ho
          have : R.ret ≠ 0 ∧ R.k.on = false := by simpa using ho
          exact this.1
        rw [show R.finR = zeroF R 0 by unfold LS.finR; rw [ho]; rfl, show R.finH (m.hold t) = behindI R.op R.ret (m.hold t) by unfold LS.finH; rw [ho]; rfl]
        have h1 := hV.over (ownW m.xs) (m.hold t) R hret
        rw [hVR] at h1
        have h2 : swp k (zeroF R 0).k = 0 := swp_off k rfl
        have h3 : stp (zeroF R 0).s = 4 := rfl
        omega
    have hst : stp (m.rs t).s = 4 := by rw [hs0]; rfl
    cases hh : hit
    · subst hh
      obtain ⟨w1, w2⟩ := wl rfl
      have hold : swp k (m.rs t).k = 5 * (k - i0) := by rw [hkk]; simp [swp]
      refine hmain 0 0 0 hoth ?_ ?_
      · rw [perms_same (m := m) fun j hj => by show hasP R.xs k j = _; rw [hxs, w1]]
        exact Nat.le_refl _
      · have : swp k R.k < 5 * (k - i0) := by
          rw [hk']
          rcases w2 with ⟨_, e⟩ | ⟨_, e⟩
          · rw [e]; simp [swp]; omega
          · rw [e]; have := swp_next k kc hi1; omega
        omega
    · subst hh
      obtain ⟨w1, w2⟩ := wh rfl
      have hold : swp k (m.rs t).k = 5 * (k - i0) - 1 := by rw [hkk]; simp [swp]
      refine hmain 0 1 0 hoth ?_ ?_
      · have := perms_one (k := k) (m := m) (m' := ⟨upd m.rs t R.finR, upd m.hold t (R.finH (m.hold t)), R.xs⟩) hi1 (fun j hj hne => by
          show hasP R.xs k j = _
          rw [hxs, w2 j hj, if_neg hne])
        have : (if hasP R.xs (k : Int) (i0 : Int) then 1 else 0) ≤ 1 := by split <;> omega
        dsimp only at *
        omega
      · have : swp k R.k ≤ 5 * (k - i0 - 1) := by rw [hk', w1]; exact swp_next k kc hi1
        omega
end
end Go.Proofs.Ytgfippbcgneegaa
set_option linter.unusedVariables false
set_option linter.unusedSimpArgs false
namespace Go.Proofs.Ytgfippbcgneegaa
structure LockOK (L : LS → LS) (wt : WtF) (V : VF) (k : Nat) (mode : Int) (B : Nat) (Inv : Nat → MV → Prop) : Prop where
  k64 : 1 ≤ k ∧ k ≤ 64
  lines : LinesOK L wt
  worth : WorthOK V
  gen : ∀ p m, Inv p m → GenI wt k mode m
  holds : ∀ p m, Inv p m → ∀ i, i < k → m.hold i = 0 ∨ m.hold i = 1 ∨ m.hold i = 2
  start : ∀ p m t op, Inv p m → t < k → (m.rs t).op = 0 → mayI op (m.hold t) = true → Inv p (m.start t op)
  go : ∀ p m t, Inv p m → p < B → t < k → (m.rs t).op ≠ 0 → (m.at t).stuck = false → Inv (p + 1) (m.go L t)
  up : ∀ p m, Inv p m → Inv (p + 1) m
  worthS : ∀ p m t, Inv p m → t < k → (m.rs t).op = 0 → (m.hold t = 1 ∨ m.hold t = 2) → V (ownW m.xs) (fromI (2 * m.hold t) (m.hold t)) (zeroF (m.at t) (2 * m.hold t)) ≤ V (ownW m.xs) (m.hold t) (m.rs t)
  worthD : ∀ p m t, Inv p m → t < k → (m.rs t).op ≠ 0 → ∀ c q, (m.rs t).k.on = false → wt (m.rs t).op (m.rs t).line (m.rs t).a = some (c, q) → (stepI m.xs k mode t (m.rs t).s c q).done = true → V (ownW m.xs) ((L (m.at t).fresh).finH (m.hold t)) (L (m.at t).fresh).finR + 4 ≤ V (ownW m.xs) (m.hold t) (m.rs t)
  worthP : ∀ p m t, Inv p m → p < B → t < k → (m.rs t).op ≠ 0 → (m.rs t).k.on = false → wt (m.rs t).op (m.rs t).line (m.rs t).a = none → ∃ e, (∀ i, i < k → i ≠ t → V (ownW (L (m.at t).fresh).xs) (m.hold i) (m.rs i) ≤ V (ownW m.xs) (m.hold i) (m.rs i) + e) ∧ swp k (L (m.at t).fresh).finR.k + V (ownW (L (m.at t).fresh).xs) ((L (m.at t).fresh).finH (m.hold t)) (L (m.at t).fresh).finR + k * e < V (ownW m.xs) (m.hold t) (m.rs t)
  rest : ∀ p m, Inv p m → (∀ t, t < k → Blk wt k mode m t) → ∀ t, t < k → (m.rs t).op = 0 ∧ m.hold t = 0
def pickI (L : LS → LS) (m : MV) (t : Nat) : MV := playI L m t (2 * m.hold t)
def roundN (L : LS → LS) (m : MV) : Nat → MV
  | 0 => m
  | j + 1 => pickI L (roundN L m j) j
def AtRest (k : Nat) (m : MV) : Prop := ∀ t, t < k → (m.rs t).op = 0 ∧ m.hold t = 0
structure Sim (m m' : MV) : Prop where
  xs : m'.xs = m.xs
  hold : m'.hold = m.hold
  rs : ∀ i, (m'.rs i).op = (m.rs i).op ∧ (m'.rs i).line = (m.rs i).line ∧ (m'.rs i).ret = (m.rs i).ret ∧ (m'.rs i).a = (m.rs i).a ∧ (m'.rs i).s = (m.rs i).s ∧ (m'.rs i).k = (m.rs i).k
theorem sim_refl (m : MV) : Sim m m := ⟨rfl, rfl, fun _ => ⟨rfl, rfl, rfl, rfl, rfl, rfl⟩⟩
theorem Sim.trans {m m' m'' : MV} (h : Sim m m') (g : Sim m' m'') : Sim m m'' :=
  ⟨g.xs.trans h.xs, g.hold.trans h.hold, fun i => by
    obtain ⟨a1, a2, a3, a4, a5, a6⟩ := h.rs i
    obtain ⟨b1, b2, b3, b4, b5, b6⟩ := g.rs i
    exact ⟨b1.trans a1, b2.trans a2, b3.trans a3, b4.trans a4, b5.trans a5, b6.trans a6⟩⟩
section
variable {L : LS → LS} {wt : WtF} {V : VF} {k : Nat} {mode : Int} {B : Nat} {Inv : Nat → MV → Prop} {m m' : MV} {p t : Nat}
theorem Sim.pot (hV : WorthOK V) (h : Sim m m') : FI V k m' = FI V k m := by
  unfold FI perms
  rw [h.xs]
  congr 1
  refine sumN_congr fun i _ => ?_
  obtain ⟨a1, a2, a3, a4, a5, a6⟩ := h.rs i
  unfold share
  rw [a5, a6, h.hold, h.xs, hV.like _ _ _ _ a1 a2 a3 a4]
theorem Sim.blk (h : Sim m m') (hb : Blk wt k mode m' t) : Blk wt k mode m t := by
  obtain ⟨a1, a2, a3, a4, a5, a6⟩ := h.rs t
  unfold Blk at *
  rw [a1, a2, a4, a5, a6, h.hold, h.xs] at hb
  exact hb
theorem LockOK.play (H : LockOK L wt V k mode B Inv) (h : Inv p m) (hp : p < B) (ht : t < k) (op : Int) : Inv (p + 1) (playI L m t op) := by
  have go : ∀ m', Inv p m' → (m'.rs t).op ≠ 0 → Inv (p + 1) (m'.go L t) := fun m' h' h0 => by
    cases hs : (m'.at t).stuck
    · exact H.go p m' t h' hp ht h0 hs
    · rw [show m'.go L t = m' by unfold MV.go; rw [if_pos hs]]
      exact H.up p m' h'
  unfold playI
  split
  · rename_i h0
    split
    · rename_i hmay
      refine go _ (H.start p m t op h ht h0 hmay) ?_
      show (upd m.rs t (zeroF (m.at t) op) t).op ≠ 0
      rw [upd_same]
      show op ≠ 0
      rintro rfl
      unfold mayI at hmay
      split at hmay
      · revert hmay; decide
      · split at hmay <;> (revert hmay; decide)
    · exact H.up p m h
  · rename_i h0
    exact go m h h0
theorem LockOK.pick_less (H : LockOK L wt V k mode B Inv) (h : Inv p m) (hp : p < B) (ht : t < k) (hb : ¬ Blk wt k mode m t) : FI V k (pickI L m t) < FI V k m := by
  unfold pickI playI
  by_cases h0 : (m.at t).op = 0
  · rw [if_pos h0]
    have h00 : (m.rs t).op = 0 := h0
    have hh : m.hold t = 1 ∨ m.hold t = 2 := by
      rcases H.holds p m h t ht with e | e
      · exact absurd (.inl ⟨h0, e⟩) hb
      · exact e
    have hmay : mayI (2 * m.hold t) (m.hold t) = true := by rcases hh with e | e <;> rw [e] <;> decide
    rw [if_pos hmay]
    have hI := H.start p m t _ h ht h0 hmay
    have hw := H.worthS p m t h ht h0 hh
    have hg := H.gen p m h
    have hrs : (m.start t (2 * m.hold t)).rs t = zeroF (m.at t) (2 * m.hold t) := by show upd m.rs t _ t = _; rw [upd_same]
    have hne : ((m.start t (2 * m.hold t)).rs t).op ≠ 0 := by
      rw [hrs]; show 2 * m.hold t ≠ 0; omega
    have hF : FI V k (m.start t (2 * m.hold t)) ≤ FI V k m := by
      have hs := sum_move (f := share V k m) (g := share V k (m.start t (2 * m.hold t))) (k := k) (t := t) (e := 0) ht (fun i hi hn => by
        unfold share MV.start MV.setR MV.setH
        dsimp only
        rw [upd_other _ _ hn, upd_other _ _ hn]
        exact Nat.le_refl _)
      have h1 : share V k (m.start t (2 * m.hold t)) t ≤ share V k m t := by
        unfold share
        rw [hrs, show (m.start t (2 * m.hold t)).hold t = fromI (2 * m.hold t) (m.hold t) by show upd m.hold t _ t = _; rw [upd_same], show (m.start t (2 * m.hold t)).xs = m.xs from rfl]
        have e1 : swp k (zeroF (m.at t) (2 * m.hold t)).k = 0 := swp_off k rfl
        have e2 : stp (zeroF (m.at t) (2 * m.hold t)).s = 4 := rfl
        have e3 : stp (m.rs t).s = 4 := by
          have : (m.rs t).s = 0 := by
            by_cases e : (m.rs t).s = 0
            · exact e
            · obtain ⟨⟨c, q, e2⟩, _⟩ := hg.sw t ht e
              rw [show (m.rs t).op = 0 from h0, H.lines.op0] at e2; cases e2
          rw [this]; rfl
        omega
      unfold FI
      rw [show perms k (m.start t (2 * m.hold t)) = perms k m from rfl]
      omega
    refine Nat.lt_of_lt_of_le (pot_go H.lines H.worth H.k64.2 (H.gen p _ hI) ht hne ?_ (H.worthD p _ t hI ht hne) (H.worthP p _ t hI hp ht hne)).2 hF
    rintro (⟨e, _⟩ | ⟨_, _, c, q, e, _⟩)
    · exact hne e
    · rw [hrs] at e
      have e' : wt (2 * m.hold t) 0 0 = some (c, q) := e
      rw [H.lines.line0] at e'; cases e'
  · rw [if_neg h0]
    have h00 : (m.rs t).op ≠ 0 := h0
    exact (pot_go H.lines H.worth H.k64.2 (H.gen p m h) ht h00 hb (H.worthD p m t h ht h00) (H.worthP p m t h hp ht h00)).2
theorem LockOK.pick_blk (H : LockOK L wt V k mode B Inv) (h : Inv p m) (ht : t < k) (hb : Blk wt k mode m t) : Sim m (pickI L m t) := by
  have hg := H.gen p m h
  obtain ⟨c1, c2, c3⟩ := hg.cst t ht
  unfold pickI playI
  rcases hb with ⟨h0, hh⟩ | ⟨h0, hon, c, q, hw, hb⟩
  · rw [if_pos (show (m.at t).op = 0 from h0), hh]
    exact sim_refl m
  · rw [if_neg (show ¬ (m.at t).op = 0 from h0)]
    rcases hb with ⟨hm, hq⟩ | ⟨hm, hs, hp⟩
    · have hst : (m.at t).stuck = false := by
        unfold LS.stuck stuckB
        show (!(m.rs t).k.on && ((m.rs t).mode == 2 && (m.rs t).s == 3 && _)) = false
        rw [c2, show (mode == 2) = false from beq_eq_false_iff_ne.2 hm]
        simp
      rw [go_eq hst]
      have W := H.lines.wait (m.at t).fresh c q hon hw
      obtain ⟨s1, s2, s3, s4, s5⟩ := H.lines.same (m.at t).fresh
      have hSR : (m.at t).fresh.stepR c q = stepI m.xs k mode t (m.rs t).s c q := by
        show stepI m.xs (m.rs t).n (m.rs t).mode (m.rs t).task (m.rs t).s c q = _
        rw [c1, c2, c3]
      have hR' : (m.at t).next L = L (m.at t).fresh := by
        unfold LS.next
        rw [if_neg (by show ¬ (m.rs t).k.on = true; rw [hon]; exact Bool.false_ne_true)]
      rw [hR']
      generalize L (m.at t).fresh = R at *
      have hxs := W.xs
      have hs' := W.s
      have hstay := W.stay
      rw [hSR, stepI_spin hm] at hxs hs' hstay
      obtain ⟨l1, l2⟩ := hstay hq
      have hno : R.over = false := by
        have : R.ret = 0 := l2.trans (hg.rt t ht hon)
        unfold LS.over; rw [this]; rfl
      rw [show R.finR = R by unfold LS.finR; rw [hno]; rfl, show R.finH (m.hold t) = m.hold t by unfold LS.finH; rw [hno]; rfl]
      refine ⟨hxs, ?_, fun i => ?_⟩
      · funext i
        show upd m.hold t (m.hold t) i = m.hold i
        unfold upd; split
        · rename_i e; rw [e]
        · rfl
      · by_cases e : i = t
        · subst e
          dsimp only
          rw [upd_same]
          exact ⟨s4, l1, l2, W.a, by rw [hs', hg.sp i ht hm], W.k⟩
        · dsimp only
          rw [upd_other _ _ e]
          exact ⟨rfl, rfl, rfl, rfl, rfl, rfl⟩
    · have hst : (m.at t).stuck = true := by
        unfold LS.stuck stuckB
        show (!(m.rs t).k.on && ((m.rs t).mode == 2 && (m.rs t).s == 3 && !hasP m.xs (m.rs t).n (m.rs t).task)) = true
        rw [hon, c1, c2, c3, hm, hs, hp]; rfl
      rw [show m.go L t = m by unfold MV.go; rw [if_pos hst]]
      exact sim_refl m
theorem LockOK.round (H : LockOK L wt V k mode B Inv) (h : Inv p m) (hp : p + k ≤ B) : ∀ j, j ≤ k → Inv (p + j) (roundN L m j) ∧ (FI V k (roundN L m j) < FI V k m ∨ (Sim m (roundN L m j) ∧ ∀ t, t < j → Blk wt k mode m t)) := by
  intro j
  induction j with
  | zero => exact fun _ => ⟨h, .inr ⟨sim_refl m, fun t ht => absurd ht (Nat.not_lt_zero _)⟩⟩
  | succ j ih =>
    intro hj
    obtain ⟨hI, hF⟩ := ih (by omega)
    refine ⟨H.play hI (by omega) (by omega) _, ?_⟩
    show FI V k (pickI L (roundN L m j) j) < FI V k m ∨ (Sim m (pickI L (roundN L m j) j) ∧ _)
    by_cases hb : Blk wt k mode (roundN L m j) j
    · have hs := H.pick_blk hI (by omega) hb
      rcases hF with hF | ⟨hS, hB⟩
      · exact .inl (by rw [hs.pot H.worth]; exact hF)
      · refine .inr ⟨hS.trans hs, fun t ht => ?_⟩
        by_cases e : t = j
        · subst e; exact hS.blk hb
        · exact hB t (by omega)
    · have hl := H.pick_less hI (by omega) (by omega) hb
      rcases hF with hF | ⟨hS, _⟩
      · exact .inl (by omega)
      · exact .inl (by rw [hS.pot H.worth] at hl; exact hl)
theorem done_pick (hd : AtRest k m) (ht : t < k) : pickI L m t = m := by
  obtain ⟨h1, h2⟩ := hd t ht
  unfold pickI playI
  rw [if_pos (show (m.at t).op = 0 from h1), h2]
  rfl
theorem done_round (hd : AtRest k m) : ∀ j, j ≤ k → roundN L m j = m
  | 0, _ => rfl
  | j + 1, h => by
    show pickI L (roundN L m j) j = m
    rw [done_round hd j (by omega)]
    exact done_pick hd (by omega)
theorem LockOK.whole (H : LockOK L wt V k mode B Inv) (h : Inv p m) (hp : p + k ≤ B) {F j : Nat} (hF : AtRest k m ∨ FI V k m + j ≤ F) : Inv (p + k) (roundN L m k) ∧ (AtRest k (roundN L m k) ∨ FI V k (roundN L m k) + (j + 1) ≤ F) := by
  obtain ⟨hI, hR⟩ := H.round h hp k (Nat.le_refl _)
  refine ⟨hI, ?_⟩
  rcases hF with hF | hF
  · rw [done_round hF k (Nat.le_refl _)]; exact .inl hF
  · rcases hR with hR | ⟨_, hB⟩
    · exact .inr (by omega)
    · have hd : AtRest k m := H.rest p m h hB
      rw [done_round hd k (Nat.le_refl _)]; exact .inl hd
end
end Go.Proofs.Ytgfippbcgneegaa
