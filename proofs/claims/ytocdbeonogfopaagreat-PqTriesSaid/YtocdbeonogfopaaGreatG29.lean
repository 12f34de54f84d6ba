import Derived.Test.YtocdbeonogfopaaGreatG28
import Derived.Test.YtocdbeonogfopaaGreatG26
set_option linter.unusedVariables false
set_option linter.unusedSimpArgs false
namespace Go.Proofs.YtocdbeonogfopaaGreat
structure StepQ (wt : WtG) (k : Nat) (mode : Int) (m : MV) (t : Nat) (R : LS) : Prop where
  len : R.xs.length = 8 + 4 * k
  cst : R.n = k ∧ R.mode = mode ∧ R.task = t
  sr : R.s = 0 ∨ R.s = 1 ∨ R.s = 2 ∨ R.s = 3 ∨ R.s = 4
  sp : mode ≠ 2 → R.s = 0
  sw : R.s ≠ 0 → (∃ c q, wtR wt R = some (c, q)) ∧ R.k.on = false ∧ R.ret = 0
  wat : (R.s = 0 ∨ R.s = 1 → wordAt R.xs (wc k t) = 0) ∧ (R.s = 2 ∨ R.s = 3 ∨ R.s = 4 → ∀ c q, wtR wt R = some (c, q) → wordAt R.xs (wc k t) = c + 1)
  kon : R.k.on = true → 0 ≤ R.k.i ∧ R.k.i < k
  op : R.op ≠ 0
  far : ∀ i, i < k → i ≠ t → wordAt R.xs (wc k i) = wordAt m.xs (wc k i)
  nlt : R.s = 3 → ∀ c q, wtR wt R = some (c, q) → q (wordAt R.xs c) = false
  nl : ∀ i, i < k → i ≠ t → ∀ c q, wtR wt (m.rs i) = some (c, q) → (m.rs i).s = 3 → hasP R.xs k i = false → q (wordAt R.xs c) = true → ∃ j, j < k ∧ (upd (fun j => (m.rs j).k) t R.k j).on = true ∧ (upd (fun j => (m.rs j).k) t R.k j).c = c ∧ (upd (fun j => (m.rs j).k) t R.k j).i ≤ i
section
variable {L : LS → LS} {wt : WtG} {k : Nat} {mode : Int} {m : MV} {t : Nat}
theorem StepQ.gen (hL : LinesQ L wt) (h : GenQ wt k mode m) (ht : t < k) {R : LS} {hv : Int} (hT : StepQ wt k mode m t R) : GenQ wt k mode ⟨upd m.rs t R.finR, upd m.hold t hv, R.xs⟩ := by
  have hov : R.over = true → R.s = 0 ∧ R.k.on = false := fun e => by
    have e1 : R.ret ≠ 0 ∧ R.k.on = false := by
      unfold LS.over at e
      simpa using e
    refine ⟨?_, e1.2⟩
    by_cases e2 : R.s = 0
    · exact e2
    · exact absurd (hT.sw e2).2.2 e1.1
  have hno : R.over = false → R.finR = R := fun e => by unfold LS.finR; rw [e]; rfl
  have hye : R.over = true → R.finR = zeroF R 0 := fun e => by unfold LS.finR; rw [e]; rfl
  have hkon : ∀ j, j < k → (upd (fun j => (m.rs j).k) t R.k j).on = true → (upd m.rs t R.finR j).k = upd (fun j => (m.rs j).k) t R.k j := fun j hj ho => by
    by_cases e : j = t
    · subst e
      rw [upd_same] at ho ⊢
      rw [upd_same]
      cases ho2 : R.over
      · rw [hno ho2]
      · rw [(hov ho2).2] at ho; cases ho
    · rw [upd_other _ _ e, upd_other _ _ e]
  cases ho : R.over
  · have hf := hno ho
    refine ⟨hT.len, fun i hi => ?_, fun i hi => ?_, fun i hi hm => ?_, fun i hi hne => ?_, fun i hi => ?_, fun i hi ho => ?_, fun i hi ho => ?_, fun i hi ho => ?_, fun i hi c q hw hs hp hq => ?_⟩
    all_goals dsimp only at *
    · by_cases e : i = t
      · subst e; rw [upd_same, hf]; exact hT.cst
      · rw [upd_other _ _ e]; exact h.cst i hi
    · by_cases e : i = t
      · subst e; rw [upd_same, hf]; exact hT.sr
      · rw [upd_other _ _ e]; exact h.sr i hi
    · by_cases e : i = t
      · subst e; rw [upd_same, hf]; exact hT.sp hm
      · rw [upd_other _ _ e]; exact h.sp i hi hm
    · by_cases e : i = t
      · subst e; rw [upd_same, hf] at hne ⊢; exact ⟨(hT.sw hne).1, (hT.sw hne).2.1⟩
      · rw [upd_other _ _ e] at hne ⊢; exact h.sw i hi hne
    · by_cases e : i = t
      · subst e; rw [upd_same, hf]; exact hT.wat
      · rw [upd_other _ _ e, hT.far i hi e]; exact h.wat i hi
    · by_cases e : i = t
      · subst e; rw [upd_same, hf] at ho ⊢; exact hT.kon ho
      · rw [upd_other _ _ e] at ho ⊢; exact h.kon i hi ho
    · rename_i hov0
      by_cases e : i = t
      · subst e; rw [upd_same, hf] at ho ⊢
        by_cases e2 : R.ret = 0
        · exact e2
        · exfalso
          have : R.over = true := by unfold LS.over; rw [ho]; simpa using e2
          rw [hov0] at this; cases this
      · rw [upd_other _ _ e] at ho ⊢; exact h.rt i hi ho
    · by_cases e : i = t
      · subst e; rw [upd_same, hf] at ho; exact absurd ho hT.op
      · rw [upd_other _ _ e] at ho ⊢; exact h.idle i hi ho
    · by_cases e : i = t
      · subst e; rw [upd_same, hf] at hw hs
        rw [hT.nlt hs c q hw] at hq; cases hq
      · rw [upd_other _ _ e] at hw hs
        obtain ⟨j, hj, h1, h2, h3⟩ := hT.nl i hi e c q hw hs hp hq
        exact ⟨j, hj, by rw [hkon j hj h1]; exact ⟨h1, h2, h3⟩⟩
  · have hf := hye ho
    obtain ⟨hs0, hon⟩ := hov ho
    refine ⟨hT.len, fun i hi => ?_, fun i hi => ?_, fun i hi hm => ?_, fun i hi hne => ?_, fun i hi => ?_, fun i hi ho => ?_, fun i hi ho => ?_, fun i hi ho => ?_, fun i hi c q hw hs hp hq => ?_⟩
    all_goals dsimp only at *
    · by_cases e : i = t
      · subst e; rw [upd_same, hf]; exact hT.cst
      · rw [upd_other _ _ e]; exact h.cst i hi
    · by_cases e : i = t
      · subst e; rw [upd_same, hf]; exact .inl rfl
      · rw [upd_other _ _ e]; exact h.sr i hi
    · by_cases e : i = t
      · subst e; rw [upd_same, hf]; rfl
      · rw [upd_other _ _ e]; exact h.sp i hi hm
    · by_cases e : i = t
      · subst e; rw [upd_same, hf] at hne; exact absurd rfl hne
      · rw [upd_other _ _ e] at hne ⊢; exact h.sw i hi hne
    · by_cases e : i = t
      · subst e; rw [upd_same, hf]
        exact ⟨fun _ => hT.wat.1 (.inl hs0), fun hh => by rcases hh with hh | hh | hh <;> cases hh⟩
      · rw [upd_other _ _ e, hT.far i hi e]; exact h.wat i hi
    · by_cases e : i = t
      · subst e; rw [upd_same, hf] at ho; cases ho
      · rw [upd_other _ _ e] at ho ⊢; exact h.kon i hi ho
    · by_cases e : i = t
      · subst e; rw [upd_same, hf]; rfl
      · rw [upd_other _ _ e] at ho ⊢; exact h.rt i hi ho
    · by_cases e : i = t
      · subst e; rw [upd_same, hf]; rfl
      · rw [upd_other _ _ e] at ho ⊢; exact h.idle i hi ho
    · by_cases e : i = t
      · subst e; rw [upd_same, hf] at hs; cases hs
      · rw [upd_other _ _ e] at hw hs
        obtain ⟨j, hj, h1, h2, h3⟩ := hT.nl i hi e c q hw hs hp hq
        exact ⟨j, hj, by rw [hkon j hj h1]; exact ⟨h1, h2, h3⟩⟩
theorem stepq_waking (hL : LinesQ L wt) (hk : k ≤ 64) (h : GenQ wt k mode m) (ht : t < k) (hop : (m.rs t).op ≠ 0) (hon : (m.rs t).k.on = true) : StepQ wt k mode m t (m.at t).waking := by
  obtain ⟨c1, c2, c3⟩ := h.cst t ht
  obtain ⟨k0, k1⟩ := h.kon t ht hon
  have hs0 : (m.rs t).s = 0 := by
    by_cases e : (m.rs t).s = 0
    · exact e
    · rw [(h.sw t ht e).2] at hon; cases hon
  obtain ⟨i0, hi0⟩ := Int.eq_ofNat_of_zero_le k0
  have hi1 : i0 < k := by omega
  obtain ⟨on, kc, ki, hit, hkk⟩ : ∃ on kc ki hit, (m.rs t).k = ⟨on, kc, ki, hit⟩ := ⟨_, _, _, _, rfl⟩
  rw [hkk] at hon hi0
  dsimp only at hon hi0
  subst hon hi0
  obtain ⟨wh, wl⟩ := wake_cases (xs := m.xs) (c := kc) (hit := hit) hk h.len hi1
  have hxs : (m.at t).waking.xs = (wakeI m.xs k true kc i0 hit).xs := by show (wakeI m.xs (m.rs t).n _ _ _ _).xs = _; rw [c1, show (m.at t).k = ⟨true, kc, (i0 : Int), hit⟩ from hkk]
  have hk' : (m.at t).waking.k = (wakeI m.xs k true kc i0 hit).next := by show (wakeI m.xs (m.rs t).n _ _ _ _).next = _; rw [c1, show (m.at t).k = ⟨true, kc, (i0 : Int), hit⟩ from hkk]
  have hs' : (m.at t).waking.s = 0 := hs0
  have hwat : ∀ i, i < k → wordAt (m.at t).waking.xs (wc k i) = wordAt m.xs (wc k i) := fun i hi => by rw [hxs]; exact wake_wat hk (by omega) (by omega) hi
  have hown : ∀ d : Int, 0 ≤ d → d < 8 + 2 * k → wordAt (m.at t).waking.xs d = wordAt m.xs d := fun d h0 h1 => by
    rw [hxs]
    exact own_wake (by rw [pc_at hk hi1]; omega)
  have hnx : (nextI k kc i0).on = true → (nextI k kc i0).i = i0 + 1 ∧ (nextI k kc i0).c = kc ∧ (i0 : Int) + 1 < k := fun e => by
    unfold nextI at *
    split
    · rename_i e2; rw [if_pos e2] at e; cases e
    · exact ⟨rfl, rfl, by omega⟩
  have hnxt : (i0 : Int) + 1 < k → (nextI k kc i0).on = true ∧ (nextI k kc i0).i = i0 + 1 ∧ (nextI k kc i0).c = kc := fun e => by
    unfold nextI
    rw [if_neg (by omega)]
    exact ⟨rfl, rfl, rfl⟩
  refine ⟨by rw [hxs]; exact (wake_len0 m.xs k kc i0 hit).trans h.len, ⟨c1, c2, c3⟩, .inl hs', fun _ => hs', fun e => absurd hs' e, ⟨fun _ => by rw [hwat t ht]; exact (h.wat t ht).1 (.inl hs0), fun e => (by rw [hs'] at e; rcases e with e | e | e <;> cases e)⟩, fun ho => ?_, hop, fun i hi _ => hwat i hi, fun e => (by rw [hs'] at e; cases e), fun i hi hne c q hw hs hp hq => ?_⟩
  · rw [hk'] at ho ⊢
    cases hh : hit
    · subst hh
      rcases (wl rfl).2 with ⟨_, e⟩ | ⟨_, e⟩
      · rw [e]; exact ⟨by show (0 : Int) ≤ i0; omega, by show (i0 : Int) < k; omega⟩
      · rw [e] at ho ⊢
        obtain ⟨a1, a2, a3⟩ := hnx ho
        rw [a1]; omega
    · subst hh
      rw [(wh rfl).1] at ho ⊢
      obtain ⟨a1, a2, a3⟩ := hnx ho
      rw [a1]; omega
  · obtain ⟨hc0, hc8⟩ := h.cell hL hk hi hw
    rw [hown c hc0 hc8] at hq
    have hp0 : hasP m.xs k i = false := by
      cases hh : hit
      · subst hh; rwa [hxs, (wl rfl).1] at hp
      · subst hh
        rw [hxs, (wh rfl).2 i hi] at hp
        by_cases e : i = i0
        · rw [if_pos e] at hp; cases hp
        · rwa [if_neg e] at hp
    obtain ⟨j, hj, h1, h2, h3⟩ := h.nl i hi c q hw hs hp0 hq
    by_cases e : j = t
    · subst e
      rw [hkk] at h1 h2 h3
      dsimp only at h1 h2 h3
      subst h2
      refine ⟨j, hj, ?_⟩
      rw [upd_same, hk']
      have hwi : wordAt m.xs (wc k i) = kc + 1 := (h.wat i hi).2 (.inr (.inl hs)) kc q hw
      cases hh : hit
      · subst hh
        rcases (wl rfl).2 with ⟨_, e⟩ | ⟨e0, e⟩
        · rw [e]; exact ⟨rfl, rfl, h3⟩
        · have hne2 : i ≠ i0 := fun e3 => by
            subst e3
            rw [hwi] at e0
            exact e0 (by omega)
          rw [e]
          obtain ⟨a1, a2, a3⟩ := hnxt (by omega)
          exact ⟨a1, a3, by rw [a2]; omega⟩
      · subst hh
        have hne2 : i ≠ i0 := fun e3 => by
          rw [hxs, (wh rfl).2 i hi, if_pos e3] at hp; cases hp
        rw [(wh rfl).1]
        obtain ⟨a1, a2, a3⟩ := hnxt (by omega)
        exact ⟨a1, a3, by rw [a2]; omega⟩
    · exact ⟨j, hj, by rw [upd_other _ _ e]; exact ⟨h1, h2, h3⟩⟩
theorem stepq_wait (hL : LinesQ L wt) (hk : k ≤ 64) (h : GenQ wt k mode m) (ht : t < k) (hop : (m.rs t).op ≠ 0) (hon : (m.rs t).k.on = false) (hst : (m.at t).stuck = false) {c : Int} {q : Int → Bool} (hw : wtR wt (m.rs t) = some (c, q)) : StepQ wt k mode m t (L (m.at t).fresh) := by
  obtain ⟨c1, c2, c3⟩ := h.cst t ht
  obtain ⟨s1, s2, s3, s4, s5⟩ := hL.same (m.at t).fresh
  have W := hL.wait (m.at t).fresh c q hon hw
  obtain ⟨hc0, hc8⟩ := h.cell hL hk ht hw
  have hr0 := h.rt t ht hon
  have hR : (m.at t).fresh.stepR c q = stepI m.xs k mode t (m.rs t).s c q := by
    show stepI m.xs (m.rs t).n (m.rs t).mode (m.rs t).task (m.rs t).s c q = _
    rw [c1, c2, c3]
  have hxs := W.xs
  have hs' := W.s
  have hstay := W.stay
  rw [hR] at hxs hs' hstay
  have hns : ¬ (mode = 2 ∧ (m.rs t).s = 3 ∧ hasP m.xs k t = false) := fun ⟨e1, e2, e3⟩ => by
    have : (m.at t).stuck = true := by
      unfold LS.stuck stuckB
      show (!(m.rs t).k.on && ((m.rs t).mode == 2 && (m.rs t).s == 3 && !hasP m.xs (m.rs t).n (m.rs t).task)) = true
      rw [hon, c1, c2, c3, e1, e2, e3]; rfl
    rw [hst] at this; cases this
  have hkt : (L (m.at t).fresh).k.on = false := by rw [W.k]; exact hon
  have hnext := step_next (xs := m.xs) (k := k) (mode := mode) (t := t) (s := (m.rs t).s) (c := c) (q := q)
  have hdn := step_done0 (xs := m.xs) (k := k) (mode := mode) (t := t) (s := (m.rs t).s) (c := c) (q := q)
  have hown : ∀ d : Int, 0 ≤ d → d < 8 + 2 * k → wordAt (L (m.at t).fresh).xs d = wordAt m.xs d := fun d h0 h1 => by
    rw [hxs]
    exact own_wait (by rw [wc_at hk ht]; omega) (by rw [pc_at hk ht]; omega)
  have hwat : ∀ i, i < k → _ := fun i hi => step_wat (xs := m.xs) (mode := mode) (s := (m.rs t).s) (c := c) (q := q) hk h.len ht hi
  have hper : ∀ i, i < k → _ := fun i hi => step_per (xs := m.xs) (mode := mode) (s := (m.rs t).s) (c := c) (q := q) hk h.len ht hi
  have hsr := h.sr t ht
  have hline : (L (m.at t).fresh).s ≠ 0 → wtR wt (L (m.at t).fresh) = some (c, q) ∧ (L (m.at t).fresh).ret = 0 := fun e => by
    rw [hs'] at e
    cases hd : (stepI m.xs k mode t (m.rs t).s c q).done
    · obtain ⟨l1, l2, l3⟩ := hstay hd
      exact ⟨l3.trans hw, l2.trans hr0⟩
    · exact absurd (hdn hd) e
  have hnx4 : (L (m.at t).fresh).s = 0 ∨ (L (m.at t).fresh).s = 1 ∨ (L (m.at t).fresh).s = 2 ∨ (L (m.at t).fresh).s = 3 ∨ (L (m.at t).fresh).s = 4 := by
    rw [hs']; rcases hnext with ⟨e, _⟩ | ⟨_, _, e⟩
    · exact .inl e
    · rcases e with ⟨e, _⟩ | ⟨e, _⟩ | ⟨e, _⟩ | ⟨e, _⟩
      · exact .inr (.inl e)
      · exact .inr (.inr (.inl e))
      · exact .inr (.inr (.inr (.inl e)))
      · exact .inr (.inr (.inr (.inr e)))
  refine ⟨s5.trans h.len, ⟨s1.trans c1, s2.trans c2, s3.trans c3⟩, hnx4, fun hm => ?_, fun e => ⟨⟨c, q, (hline e).1⟩, hkt, (hline e).2⟩, ⟨fun e => ?_, fun e c' q' hw' => ?_⟩, fun e => (by rw [hkt] at e; cases e), by rw [s4]; exact hop, fun i hi hne => ?_, fun e c' q' hw' => ?_, fun i hi hne c' q' hw' hs hp hq => ?_⟩
  · rw [hs']
    rw [stepI_spin hm]
  · rw [hxs, hwat t ht]
    rw [hs'] at e
    have w0 := (h.wat t ht).1
    rcases hnext with ⟨e1, e2⟩ | ⟨em, _, ⟨_, e1, e2, e3, e4⟩ | ⟨e1, _⟩ | ⟨e1, _⟩ | ⟨e1, _⟩⟩
    · rcases hsr with e3 | e3 | e3 | e3 | e3
      · rw [if_neg (by omega), if_neg (by omega)]; exact w0 (.inl e3)
      · exfalso
        by_cases em : mode = 2
        · rw [em, e3] at e1; cases e1
        · have := h.sp t ht em; omega
      · exfalso
        by_cases em : mode = 2
        · rw [em, e3, stepI_2] at e1; simp only at e1; split at e1 <;> cases e1
        · have := h.sp t ht em; omega
      · exfalso
        by_cases em : mode = 2
        · rw [em, e3, stepI_3] at e1; simp only at e1; split at e1 <;> cases e1
        · have := h.sp t ht em; omega
      · rw [if_neg (by omega)]
        by_cases em : mode = 2
        · rw [if_pos ⟨rfl, em, e3⟩]
        · have := h.sp t ht em; omega
    · rw [if_neg (by omega), if_neg (by omega)]; exact w0 (by omega)
    · omega
    · omega
    · omega
  · have hne0 : (L (m.at t).fresh).s ≠ 0 := by omega
    rw [(hline hne0).1] at hw'
    obtain ⟨rfl, rfl⟩ := Prod.mk.inj (Option.some.inj hw')
    rw [hxs, hwat t ht]
    rw [hs'] at e
    have w2 := fun e => (h.wat t ht).2 e c q hw
    rcases hnext with ⟨e1, e2⟩ | ⟨em, _, ⟨e1, _⟩ | ⟨e1, e2⟩ | ⟨e1, e2⟩ | ⟨e1, e2, _⟩⟩
    · omega
    · omega
    · rcases e2 with e2 | ⟨e2, _⟩
      · rw [if_pos ⟨rfl, em, e2⟩]; omega
      · rw [if_neg (by omega), if_neg (by omega)]; exact w2 (.inr (.inl e2))
    · rw [if_neg (by omega), if_neg (by omega)]
      rcases e2 with ⟨e2, _⟩ | ⟨e2, _⟩
      · exact w2 (.inl e2)
      · exact w2 (.inr (.inl e2))
    · rw [if_neg (by omega), if_neg (by omega)]; exact w2 (.inl e2)
  · rw [hxs, hwat i hi, if_neg (fun e => hne e.1), if_neg (fun e => hne e.1)]
  · have hne0 : (L (m.at t).fresh).s ≠ 0 := by omega
    rw [(hline hne0).1] at hw'
    obtain ⟨rfl, rfl⟩ := Prod.mk.inj (Option.some.inj hw')
    rw [hown c hc0 hc8]
    rw [hs'] at e
    rcases hnext with ⟨e1, _⟩ | ⟨em, _, ⟨e1, _⟩ | ⟨e1, _⟩ | ⟨_, e2⟩ | ⟨e1, _⟩⟩
    · omega
    · omega
    · omega
    · rcases e2 with ⟨_, e2⟩ | ⟨e2, e3⟩
      · exact e2
      · exact absurd ⟨em, e2, e3⟩ hns
    · omega
  · obtain ⟨hc0', hc8'⟩ := h.cell hL hk hi hw'
    rw [hown c' hc0' hc8'] at hq
    rw [hxs, hper i hi, if_neg (fun e => hne e.1)] at hp
    obtain ⟨j, hj, h1, h2, h3⟩ := h.nl i hi c' q' hw' hs hp hq
    have : j ≠ t := fun e => by subst e; rw [hon] at h1; cases h1
    exact ⟨j, hj, by rw [upd_other _ _ this]; exact ⟨h1, h2, h3⟩⟩
theorem stepq_plain (hL : LinesQ L wt) (hk : k ≤ 64) (hk1 : 1 ≤ k) (h : GenQ wt k mode m) (ht : t < k) (hop : (m.rs t).op ≠ 0) (hon : (m.rs t).k.on = false) (hw : wtR wt (m.rs t) = none) (P : PlainLn (m.at t).fresh (L (m.at t).fresh))
    (hwk : ∀ i, i < k → i ≠ t → ∀ c q, wtR wt (m.rs i) = some (c, q) → (m.rs i).s = 3 → q (wordAt (L (m.at t).fresh).xs c) = true → q (wordAt m.xs c) = true ∨ (L (m.at t).fresh).k = beginI 2 c) : StepQ wt k mode m t (L (m.at t).fresh) := by
  obtain ⟨c1, c2, c3⟩ := h.cst t ht
  obtain ⟨s1, s2, s3, s4, s5⟩ := hL.same (m.at t).fresh
  have cn : (m.at t).fresh.n = k := c1
  have hs0 : (m.rs t).s = 0 := by
    by_cases e : (m.rs t).s = 0
    · exact e
    · obtain ⟨⟨c, q, e2⟩, _⟩ := h.sw t ht e
      rw [hw] at e2; cases e2
  have hs' : (L (m.at t).fresh).s = 0 := P.s.trans hs0
  have hwat : ∀ i, i < k → wordAt (L (m.at t).fresh).xs (wc k i) = wordAt m.xs (wc k i) := fun i hi => P.far _ (by rw [cn, wc_at hk hi]; omega)
  have hper : ∀ i, i < k → hasP (L (m.at t).fresh).xs k i = hasP m.xs k i := fun i hi => by unfold hasP; rw [P.far _ (by rw [cn, pc_at hk hi]; omega)]; rfl
  refine ⟨s5.trans h.len, ⟨s1.trans c1, s2.trans c2, s3.trans c3⟩, .inl hs', fun _ => hs', fun e => absurd hs' e, ⟨fun _ => by rw [hwat t ht]; exact (h.wat t ht).1 (.inl hs0), fun e => by omega⟩, fun e => ?_, by rw [s4]; exact hop, fun i hi _ => hwat i hi, fun e => by omega, fun i hi hne c q hw' hs hp hq => ?_⟩
  · rcases P.k with e2 | ⟨c, e2⟩
    · rw [e2] at e; rw [show (m.at t).fresh.k = (m.rs t).k from rfl, hon] at e; cases e
    · rw [e2] at e ⊢
      unfold beginI at *
      split
      · exact ⟨Int.le_refl _, by show (0 : Int) < k; omega⟩
      · rename_i e3; rw [if_neg e3] at e; cases e
  · rcases hwk i hi hne c q hw' hs hq with hq0 | hb
    · rw [hper i hi] at hp
      obtain ⟨j, hj, h1, h2, h3⟩ := h.nl i hi c q hw' hs hp hq0
      have : j ≠ t := fun e => by subst e; rw [hon] at h1; cases h1
      exact ⟨j, hj, by rw [upd_other _ _ this]; exact ⟨h1, h2, h3⟩⟩
    · exact ⟨t, ht, by rw [upd_same, hb]; exact ⟨rfl, rfl, by show (0 : Int) ≤ i; omega⟩⟩
end
end Go.Proofs.YtocdbeonogfopaaGreat
set_option linter.unusedVariables false
set_option linter.unusedSimpArgs false
namespace Go.Proofs.YtocdbeonogfopaaGreat
inductive UpN : Int → Int → Rd → Prop
  | u6 : UpN 6 0 .no
  | u7 : UpN 7 1 .reads
inductive UnlN : Int → Int → Rd → Prop
  | u4 : UnlN 4 0 .no
  | u8 : UnlN 8 1 .reads
inductive GiveN : Int → Int → Rd → Int → Bool → Prop
  | un {op h : Int} {x : Rd} (g : UnlN op h x) : GiveN op h x 3 true
  | up {op h : Int} {x : Rd} (g : UpN op h x) : GiveN op h x 8 false
theorem UpN.ops {op h : Int} {x : Rd} (g : UpN op h x) : (op = 6 ∧ h = 0 ∧ x = .no) ∨ (op = 7 ∧ h = 1 ∧ x = .reads) := by cases g; exact .inl ⟨rfl, rfl, rfl⟩; exact .inr ⟨rfl, rfl, rfl⟩
theorem UnlN.ops {op h : Int} {x : Rd} (g : UnlN op h x) : (op = 4 ∧ h = 0 ∧ x = .no) ∨ (op = 8 ∧ h = 1 ∧ x = .reads) := by cases g; exact .inl ⟨rfl, rfl, rfl⟩; exact .inr ⟨rfl, rfl, rfl⟩
theorem GiveN.ops {op h a : Int} {x : Rd} {ok : Bool} (g : GiveN op h x a ok) : ((h = 0 ∧ x = .no) ∨ (h = 1 ∧ x = .reads)) ∧ (((op = 4 ∨ op = 8) ∧ a = 3 ∧ ok = true) ∨ ((op = 6 ∨ op = 7) ∧ a = 8 ∧ ok = false)) := by
  cases g with
  | un g => rcases g.ops with ⟨e1, e2, e3⟩ | ⟨e1, e2, e3⟩; exact ⟨.inl ⟨e2, e3⟩, .inl ⟨.inl e1, rfl, rfl⟩⟩; exact ⟨.inr ⟨e2, e3⟩, .inl ⟨.inr e1, rfl, rfl⟩⟩
  | up g => rcases g.ops with ⟨e1, e2, e3⟩ | ⟨e1, e2, e3⟩; exact ⟨.inl ⟨e2, e3⟩, .inr ⟨.inl e1, rfl, rfl⟩⟩; exact ⟨.inr ⟨e2, e3⟩, .inr ⟨.inr e1, rfl, rfl⟩⟩
inductive NT (h op line ret s a : Int) (on : Bool) (qp : Nat) (x : Rd) (y : Wr) : Prop
  | idle0 (ho : op = 0) (hr : ret = 0) (hh : h = 0) (hq : qp = 0) (hx : x = .no) (hy : y = .no)
  | idle1 (ho : op = 0) (hr : ret = 0) (hh : h = 1) (hq : qp = 0) (hx : x = .reads) (hy : y = .no)
  | idle2 (ho : op = 0) (hr : ret = 0) (hh : h = 2) (hq : qp = 6) (hx : x = .no) (hy : y = .writes)
  | come (ho : op = 1 ∨ op = 5) (hl : line = 0) (hr : ret = 0) (hh : h = 0) (hq : qp = 0) (hx : x = .no) (hy : y = .no)
  | adm (ho : op = 1) (hl : line = 1) (hr : ret = 0) (hh : h = 0) (hq : qp = 0) (hx : x = if s = 4 then .reads else .waits (bitsI a)) (hy : y = .no)
  | slip (ho : op = 5) (hl : line = 1) (hr : ret = 0) (hh : h = 0) (hq : qp = 0) (hx : x = .no) (hy : y = .no) (hb : bitsI a = 0)
  | dep (ho : op = 2) (hl : line = 0) (hr : ret = 0) (hh : h = 0) (hq : qp = 0) (hx : x = .reads) (hy : y = .no)
  | depd (ho : op = 2) (hr : ret = 2) (hh : h = 0) (hon : on = true) (hq : qp = 0) (hx : x = .no) (hy : y = .no)
  | ent (j : Nat) (ho : op = 3) (hj : j < 5) (hl : line = j) (hr : ret = 0) (hh : h = 0) (hq : qp = j + 1) (hx : x = .no) (hy : y = .no)
  | tr (j : Nat) (hu : UpN op h x) (hj : j < 2) (hl : line = j) (hr : ret = 0) (hq : qp = j + 11) (hy : y = .no)
  | turn (hu : (op = 3 ∧ h = 0 ∧ x = .no ∧ (line = 5 ∨ line = 6)) ∨ (UpN op h x ∧ (line = 2 ∨ line = 3 ∨ line = 4 ∨ line = 5))) (hr : ret = 0) (hq : qp = 6) (hy : y = .turn)
  | pres (hu : (op = 3 ∧ h = 0 ∧ x = .no ∧ line = 7) ∨ (UpN op h x ∧ line = 6)) (hr : ret = 0) (hq : qp = 6) (hy : y = if s = 4 then .writes else .comes)
  | stop (ho : op = 7) (hl : line = 7) (hr : ret = 0) (hh : h = 1) (hq : qp = 6) (hx : x = .reads) (hy : y = .writes)
  | unl (x' : Rd) (hu : UnlN op h x') (hl : line = 0 ∨ line = 1) (hr : ret = 0) (hq : qp = 6) (hx : x = .no) (hy : y = .writes)
  | left (hu : UnlN op h x) (hl : line = 2) (hr : ret = 0) (hq : qp = 6) (hy : y = .left)
  | give (j : Nat) (a0 : Int) (ok : Bool) (hg : GiveN op h x a0 ok) (hj : j < 4) (hl : line = a0 + j) (hr : ret = 0) (hq : qp = j + 7) (hy : y = .last)
  | gave (a0 : Int) (ok : Bool) (hg : GiveN op h x a0 ok) (hl : a0 ≤ line) (hr : ret = if ok then 2 else 1) (hon : on = true) (hq : qp = 0) (hy : y = .no)
def phW (op line : Int) : Prop := (op = 3 ∧ line = 6) ∨ ((op = 4 ∨ op = 8) ∧ (line = 1 ∨ line = 2)) ∨ ((op = 6 ∨ op = 7) ∧ line = 5)
def ahW (op line : Int) : Prop := (op = 3 ∧ line = 7) ∨ ((op = 6 ∨ op = 7) ∧ line = 6)
section
variable {h op line ret s a : Int} {on : Bool} {qp : Nat} {x : Rd} {y : Wr}
theorem act_pres (s : Int) : (if s = 4 then Wr.writes else .comes).act = true := by split <;> rfl
theorem NT.act (f : NT h op line ret s a on qp x y) : (y.act = true ∧ 6 ≤ qp ∧ qp ≤ 10) ∨ (y = .no ∧ (qp < 6 ∨ 10 < qp)) := by
  cases f with
  | idle0 _ _ _ hq _ hy => exact .inr ⟨hy, by omega⟩
  | idle1 _ _ _ hq _ hy => exact .inr ⟨hy, by omega⟩
  | idle2 _ _ _ hq _ hy => exact .inl ⟨by rw [hy]; rfl, by omega⟩
  | come _ _ _ _ hq _ hy => exact .inr ⟨hy, by omega⟩
  | adm _ _ _ _ hq _ hy => exact .inr ⟨hy, by omega⟩
  | slip _ _ _ _ hq _ hy => exact .inr ⟨hy, by omega⟩
  | dep _ _ _ _ hq _ hy => exact .inr ⟨hy, by omega⟩
  | depd _ _ _ _ hq _ hy => exact .inr ⟨hy, by omega⟩
  | ent j _ hj _ _ _ hq _ hy => exact .inr ⟨hy, by omega⟩
  | tr j _ hj _ _ hq hy => exact .inr ⟨hy, by omega⟩
  | turn _ _ hq hy => exact .inl ⟨by rw [hy]; rfl, by omega⟩
  | pres _ _ hq hy => exact .inl ⟨by rw [hy]; exact act_pres _, by omega⟩
  | stop _ _ _ _ hq _ hy => exact .inl ⟨by rw [hy]; rfl, by omega⟩
  | unl _ _ _ _ hq _ hy => exact .inl ⟨by rw [hy]; rfl, by omega⟩
  | left _ _ _ hq hy => exact .inl ⟨by rw [hy]; rfl, by omega⟩
  | give j _ _ _ hj _ _ hq hy => exact .inl ⟨by rw [hy]; rfl, by omega⟩
  | gave _ _ _ _ _ _ hq hy => exact .inr ⟨hy, by omega⟩
theorem NT.holds (f : NT h op line ret s a on qp x y) : h = 0 ∨ (h = 1 ∧ (x = .reads ∨ y.act = true)) ∨ (h = 2 ∧ op = 0 ∧ qp = 6 ∧ y = .writes) := by
  cases f with
  | idle0 _ _ hh => exact .inl hh
  | idle1 _ _ hh _ hx => exact .inr (.inl ⟨hh, .inl hx⟩)
  | idle2 ho _ hh hq _ hy => exact .inr (.inr ⟨hh, ho, hq, hy⟩)
  | come _ _ _ hh => exact .inl hh
  | adm _ _ _ hh => exact .inl hh
  | slip _ _ _ hh => exact .inl hh
  | dep _ _ _ hh => exact .inl hh
  | depd _ _ hh => exact .inl hh
  | ent j _ _ _ _ hh => exact .inl hh
  | tr j hu => rcases hu.ops with ⟨_, e, _⟩ | ⟨_, e, e2⟩; exact .inl e; exact .inr (.inl ⟨e, .inl e2⟩)
  | turn hu =>
    rcases hu with ⟨_, e, _⟩ | ⟨hu, _⟩
    · exact .inl e
    · rcases hu.ops with ⟨_, e, _⟩ | ⟨_, e, e2⟩; exact .inl e; exact .inr (.inl ⟨e, .inl e2⟩)
  | pres hu =>
    rcases hu with ⟨_, e, _⟩ | ⟨hu, _⟩
    · exact .inl e
    · rcases hu.ops with ⟨_, e, _⟩ | ⟨_, e, e2⟩; exact .inl e; exact .inr (.inl ⟨e, .inl e2⟩)
  | stop _ _ _ hh _ hx => exact .inr (.inl ⟨hh, .inl hx⟩)
  | unl x' hu _ _ _ _ hy => rcases hu.ops with ⟨_, e, _⟩ | ⟨_, e, _⟩; exact .inl e; exact .inr (.inl ⟨e, .inr (by rw [hy]; rfl)⟩)
  | left hu => rcases hu.ops with ⟨_, e, _⟩ | ⟨_, e, e2⟩; exact .inl e; exact .inr (.inl ⟨e, .inl e2⟩)
  | give j a0 ok hg => rcases hg.ops.1 with ⟨e, _⟩ | ⟨e, e2⟩; exact .inl e; exact .inr (.inl ⟨e, .inl e2⟩)
  | gave a0 ok hg => rcases hg.ops.1 with ⟨e, _⟩ | ⟨e, e2⟩; exact .inl e; exact .inr (.inl ⟨e, .inl e2⟩)
theorem NT.kept (f : NT h op line ret s a on qp x y) (e : phW op line ∨ ahW op line) : y.act = true := by
  unfold phW ahW at e
  cases f with
  | idle0 ho => omega
  | idle1 ho => omega
  | idle2 ho => omega
  | come ho => omega
  | adm ho => omega
  | slip ho => omega
  | dep ho => omega
  | depd ho => omega
  | ent j ho hj hl => omega
  | tr j hu hj hl => rcases hu.ops with ⟨_, _, _⟩ | ⟨_, _, _⟩ <;> omega
  | turn _ _ _ hy => rw [hy]; rfl
  | pres _ _ _ hy => rw [hy]; exact act_pres _
  | stop _ _ _ _ _ _ hy => rw [hy]; rfl
  | unl _ _ _ _ _ _ hy => rw [hy]; rfl
  | left _ _ _ _ hy => rw [hy]; rfl
  | give _ _ _ _ _ _ _ _ hy => rw [hy]; rfl
  | gave a0 ok hg hl => have := hg.ops.2; omega
end
structure NqI (b : Int) (k : Nat) (s : QS) (n : NS) (qp : Nat → Nat) (m : MV) : Prop where
  q : QOK k s
  w : WordsT 2 k m.xs s
  i : NInv k n
  w0 : wordAt m.xs 0 = wi b n.I n.β
  w1 : wordAt m.xs 1 = wi b n.O 0
  w3 : wordAt m.xs 3 % 2 = n.φ
  f : ∀ i, i < k → NT (m.hold i) (m.rs i).op (m.rs i).line (m.rs i).ret (m.rs i).s (m.rs i).a (m.rs i).k.on (qp i) (n.rd i) (n.wr i)
  t : ∀ i, i < k → TQ s i (qp i) (m.rs i).a (m.rs i).s
  ph : ∀ i, i < k → phW (m.rs i).op (m.rs i).line → (m.rs i).b = wordAt m.xs 3
  ah : ∀ i, i < k → ahW (m.rs i).op (m.rs i).line → (m.rs i).a = wi b n.a 0
theorem TQ.in5 {s : QS} {i p : Nat} {a st : Int} (h : TQ s i p a st) (hb : 6 ≤ p ∧ p ≤ 10) : s.ph i = 5 := by
  cases h with
  | own hp => exact hp
  | g0 hp => exact hp
  | g1 hp => exact hp
  | g2 hp => exact hp
  | g3 hp => exact hp
  | _ => omega
theorem TQ.anyN {s : QS} {i p : Nat} {a st a' st' : Int} (h : TQ s i p a st) (hp : p = 0 ∨ p = 6) : TQ s i p a' st' := by
  rcases hp with rfl | rfl
  · cases h with
    | out hp => exact .out hp
  · cases h with
    | own hp => exact .own hp
section
variable {b : Int} {k t : Nat} {mode : Int} {s : QS} {n : NS} {qp : Nat → Nat} {m : MV}
theorem NInv.a_le (hI : NInv k n) {i : Nat} (hi : i < k) (hp : (n.wr i).pres = true) : n.a ≤ n.I := by
  have h1 := (hI.bits i hi hp).2
  have h2 := hI.si
  have h3 : sumN (fun j => old n.β (n.rd j)) k ≤ sumN (fun i => (n.rd i).n) k := sumN_le fun i _ => old_le _ _
  omega
theorem NInv.bd (hI : NInv k n) : 0 ≤ n.β ∧ n.β < 4 := by
  by_cases e : n.β = 0
  · omega
  · obtain ⟨i, hi, hp⟩ := hI.present e
    have := (hI.bits i hi hp).1
    have := hI.ph
    omega
theorem NqI.alone (h : NqI b k s n qp m) (ht : t < k) (h2 : m.hold t = 2) (i : Nat) (hi : i < k) (hne : i ≠ t) : m.hold i = 0 := by
  have ft := (h.f t ht).holds
  have fi := (h.f i hi).holds
  have hw : n.wr t = .writes := by
    rcases ft with e | ⟨e, _⟩ | ⟨_, _, _, e⟩
    · omega
    · omega
    · exact e
  have hact : (n.wr i).act ≠ true := fun e => hne (h.i.one i t hi ht e (by rw [hw]; rfl))
  rcases fi with e | ⟨_, e | e⟩ | ⟨_, _, _, e⟩
  · exact e
  · have := h.i.alone t ht hw i hi hne
    rw [e, old_r] at this; cases this
  · exact absurd e hact
  · exact absurd (by rw [e]; rfl) hact
theorem NqI.set1 (h : NqI b k s n qp m) (ht : t < k) {s' : QS} {n' : NS} {R : LS} {hv : Int} {qp' : Nat} {xs' : List Int} {K : WkV} (hq : QOK k s') (hw : WordsT 2 k xs' s') (hoth : OthQ mode k t s s' K) (hi : NInv k n') (ho : ∀ i, i ≠ t → n'.rd i = n.rd i ∧ n'.wr i = n.wr i)
    (h0 : wordAt xs' 0 = wi b n'.I n'.β) (h1 : wordAt xs' 1 = wi b n'.O 0) (h3 : wordAt xs' 3 % 2 = n'.φ) (hf : NT hv R.op R.line R.ret R.s R.a R.k.on qp' (n'.rd t) (n'.wr t)) (htq : TQ s' t qp' R.a R.s) (hph : phW R.op R.line → R.b = wordAt xs' 3) (hah : ahW R.op R.line → R.a = wi b n'.a 0)
    (hmv : (wordAt xs' 3 = wordAt m.xs 3 ∧ n'.a = n.a) ∨ (n.wr t).act = true) : NqI b k s' n' (upd qp t qp') ⟨upd m.rs t R, upd m.hold t hv, xs'⟩ := by
  refine ⟨hq, hw, hi, h0, h1, h3, fun i hi' => ?_, fun i hi' => ?_, fun i hi' e => ?_, fun i hi' e => ?_⟩
  · dsimp only
    by_cases e : i = t
    · subst e; simp only [upd_same]; exact hf
    · simp only [upd_other _ _ e]; rw [(ho i e).1, (ho i e).2]; exact h.f i hi'
  · dsimp only
    by_cases e : i = t
    · subst e; simp only [upd_same]; exact htq
    · simp only [upd_other _ _ e]; exact (h.t i hi').other hoth hi' e
  · dsimp only at e ⊢
    by_cases e2 : i = t
    · subst e2; simp only [upd_same] at e ⊢; exact hph e
    · simp only [upd_other _ _ e2] at e ⊢
      rw [h.ph i hi' e]
      rcases hmv with e3 | e3
      · exact e3.1.symm
      · exact absurd (h.i.one i t hi' ht ((h.f i hi').kept (.inl e)) e3) e2
  · dsimp only at e ⊢
    by_cases e2 : i = t
    · subst e2; simp only [upd_same] at e ⊢; exact hah e
    · simp only [upd_other _ _ e2] at e ⊢
      rw [h.ah i hi' e]
      rcases hmv with e3 | e3
      · rw [e3.2]
      · exact absurd (h.i.one i t hi' ht ((h.f i hi').kept (.inr e)) e3) e2
theorem NqI.free (h : NqI b k s n qp m) (ht : t < k) {s' : QS} {K : WkV} (hq : QOK k s') (hoth : OthQ mode k t s s' K) (h5 : s'.ph t = 5) (i : Nat) (hi : i < k) (hne : i ≠ t) : (n.wr i).act = false := by
  rcases (h.f i hi).act with ⟨e, e2⟩ | ⟨e, _⟩
  · exact absurd (hq.one hi ht ((hoth.p i hi hne).trans ((h.t i hi).in5 e2)) h5) hne
  · rw [e]; rfl
end
end Go.Proofs.YtocdbeonogfopaaGreat
set_option linter.unusedVariables false
set_option linter.unusedSimpArgs false
namespace Go.Proofs.YtocdbeonogfopaaGreat
def wtN : WtG := fun n task op line a _ =>
  if op = 3 ∧ line = 4 then some (bc n task, isZ)
  else if ((op = 4 ∨ op = 8) ∧ line = 5) ∨ ((op = 6 ∨ op = 7) ∧ line = 10) then some (nc n task, isN)
  else if op = 1 ∧ line = 1 then some (0, fun v => bitsI v != bitsI a)
  else if (op = 3 ∧ line = 7) ∨ (op = 6 ∧ line = 6) then some (1, fun v => v == a)
  else if op = 7 ∧ line = 6 then some (1, fun v => v == (a - 256) % 4294967296)
  else none
theorem wtN_no {r : LS} (h1 : ¬ (r.op = 3 ∧ r.line = 4)) (h2 : ¬ (((r.op = 4 ∨ r.op = 8) ∧ r.line = 5) ∨ ((r.op = 6 ∨ r.op = 7) ∧ r.line = 10))) (h3 : ¬ (r.op = 1 ∧ r.line = 1)) (h4 : ¬ ((r.op = 3 ∧ r.line = 7) ∨ (r.op = 6 ∧ r.line = 6))) (h5 : ¬ (r.op = 7 ∧ r.line = 6)) : wtR wtN r = none := by
  show wtN _ _ _ _ _ _ = none
  unfold wtN
  rw [if_neg h1, if_neg h2, if_neg h3, if_neg h4, if_neg h5]
structure NqW (b : Int) (k : Nat) (mode : Int) (t : Nat) (s : QS) (n : NS) (m : MV) (R : LS) (s' : QS) (n' : NS) : Prop where
  q : QOK k s'
  w : WordsT 2 k R.xs s'
  oth : OthQ mode k t s s' R.k
  i : NInv k n'
  o : ∀ i, i ≠ t → n'.rd i = n.rd i ∧ n'.wr i = n.wr i
  I : n'.I ≤ n.I + 1
  w0 : wordAt R.xs 0 = wi b n'.I n'.β
  w1 : wordAt R.xs 1 = wi b n'.O 0
  w3 : wordAt R.xs 3 % 2 = n'.φ
  mv : (wordAt R.xs 3 = wordAt m.xs 3 ∧ n'.a = n.a) ∨ (n.wr t).act = true
  far : (m.rs t).k.on = false → wtR wtN (m.rs t) = none → ∀ d : Int, 8 + 2 * (k : Int) ≤ d → wordAt R.xs d = wordAt m.xs d
  wk0 : n'.β = n.β ∨ n.β = 0 ∨ R.k = beginI mode 0
  wk1 : n'.O = n.O ∨ (n.wr t).act = true ∨ R.k = beginI mode 1
structure NqMv (b : Int) (k : Nat) (mode : Int) (t : Nat) (s : QS) (n : NS) (m : MV) (R : LS) (s' : QS) (n' : NS) (qp' : Nat) : Prop where
  W : NqW b k mode t s n m R s' n'
  f : NT (R.finH (m.hold t)) R.finR.op R.finR.line R.finR.ret R.finR.s R.finR.a R.finR.k.on qp' (n'.rd t) (n'.wr t)
  tq : TQ s' t qp' R.finR.a R.finR.s
  ph : phW R.finR.op R.finR.line → R.finR.b = wordAt R.xs 3
  ah : ahW R.finR.op R.finR.line → R.finR.a = wi b n'.a 0
def NqGo (b : Int) (k : Nat) (mode : Int) (t : Nat) (s : QS) (n : NS) (m : MV) (R : LS) : Prop := ∃ s' n' qp', NqMv b k mode t s n m R s' n' qp'
structure NqC (b : Int) (k : Nat) (mode : Int) (t : Nat) (s : QS) (n : NS) (qp : Nat → Nat) (m : MV) : Prop where
  hk : k ≤ 64
  A : AtQ 2 mode k t s (m.at t).fresh
  h : NqI b k s n qp m
  ht : t < k
  on : (m.rs t).k.on = false
  s0 : wtR wtN (m.rs t) = none → (m.rs t).s = 0
  sp : mode ≠ 2 → (m.rs t).s = 0
  ret : (m.rs t).ret = 0
  I : n.I < 50000
section
variable {b : Int} {k t : Nat} {mode : Int} {s s' : QS} {n n' : NS} {qp : Nat → Nat} {m : MV} {r R : LS} {qp' : Nat} {pl : Bool}
theorem NqMv.keep (g : NqMv b k mode t s n m R s' n' qp') (h : NqI b k s n qp m) (ht : t < k) : NqI b k s' n' (upd qp t qp') ⟨upd m.rs t R.finR, upd m.hold t (R.finH (m.hold t)), R.xs⟩ :=
  h.set1 ht g.W.q g.W.w g.W.oth g.W.i g.W.o g.W.w0 g.W.w1 g.W.w3 g.f g.tq g.ph g.ah g.W.mv
theorem go_stay (W : NqW b k mode t s n m R s' n') {o l : Int} (eo : R.op = o) (el : R.line = l) (er : R.ret = 0) (f : NT (m.hold t) o l 0 R.s R.a R.k.on qp' (n'.rd t) (n'.wr t)) (tq : TQ s' t qp' R.a R.s) (ph : phW o l → R.b = wordAt R.xs 3) (ah : ahW o l → R.a = wi b n'.a 0) : NqGo b k mode t s n m R := by
  obtain ⟨f1, f2⟩ := fin_no (R := R) (m.hold t) er
  refine ⟨s', n', qp', W, ?_, ?_, ?_, ?_⟩
  · rw [f1, f2, eo, el, er]; exact f
  · rw [f1]; exact tq
  · rw [f1, eo, el]; exact ph
  · rw [f1, eo, el]; exact ah
theorem go_end (W : NqW b k mode t s n m R s' n') {o l ret hv : Int} (eo : R.op = o) (el : R.line = l) (er : R.ret = ret) (hr : ret ≠ 0) (hb : behindI o ret (m.hold t) = hv) (f1 : R.k.on = true → NT (m.hold t) o l ret R.s R.a true qp' (n'.rd t) (n'.wr t) ∧ ¬ (phW o l ∨ ahW o l)) (f0 : ∀ s a on, NT hv 0 0 0 s a on qp' (n'.rd t) (n'.wr t)) (tq : ∀ a st, TQ s' t qp' a st) : NqGo b k mode t s n m R := by
  cases hon : R.k.on
  · obtain ⟨e1, e2⟩ := fin_yes (R := R) (m.hold t) (by rw [er]; exact hr) hon
    refine ⟨s', n', qp', W, ?_, ?_, ?_, ?_⟩
    · rw [e1, e2, eo, er, hb]; exact f0 _ _ _
    · exact tq _ _
    · rw [e1]; intro e; unfold phW at e; have : (zeroF R 0).op = 0 := rfl; omega
    · rw [e1]; intro e; unfold ahW at e; have : (zeroF R 0).op = 0 := rfl; omega
  · obtain ⟨e1, e2⟩ := fin_on (R := R) (m.hold t) hon
    obtain ⟨g1, g2⟩ := f1 hon
    refine ⟨s', n', qp', W, ?_, ?_, ?_, ?_⟩
    · rw [e1, e2, eo, el, er, hon]; exact g1
    · exact tq _ _
    · rw [e1, eo, el]; exact fun e => absurd (.inl e) g2
    · rw [e1, eo, el]; exact fun e => absurd (.inr e) g2
theorem world_q (h : NqI b k s n qp m) (hQ : QStep 2 mode k t s pl r R qp') (hx : r.xs = m.xs) (hpl : (m.rs t).k.on = false → wtR wtN (m.rs t) = none → pl = true) : ∃ s', TQ s' t qp' R.a R.s ∧ QOK k s' ∧ OthQ mode k t s s' R.k ∧ ∀ n', NInv k n' → (∀ i, i ≠ t → n'.rd i = n.rd i ∧ n'.wr i = n.wr i) → (n'.I = n.I ∧ n'.O = n.O ∧ n'.β = n.β ∧ n'.φ = n.φ ∧ n'.a = n.a) → NqW b k mode t s n m R s' n' := by
  obtain ⟨s', q1, w1, t1, o1, f1⟩ := hQ
  rw [hx] at f1
  refine ⟨s', t1, q1, o1, fun n' hi ho ⟨e1, e2, e3, e4, e5⟩ => ⟨q1, w1, o1, hi, ho, by omega, ?_, ?_, ?_, .inl ⟨?_, e5⟩, fun e0 e d hd => f1 d (by omega) (by omega) (.inr ⟨hpl e0 e, hd⟩), .inl e3, .inl e2⟩⟩
  · rw [f1 0 (by decide) (by decide) (.inl (by decide)), e1, e3]; exact h.w0
  · rw [f1 1 (by decide) (by decide) (.inl (by decide)), e2]; exact h.w1
  · rw [f1 3 (by decide) (by decide) (.inl (by decide)), e4]; exact h.w3
  · exact f1 3 (by decide) (by decide) (.inl (by decide))
theorem world_n (hk : k ≤ 64) (h : NqI b k s n qp m) (hlen : R.xs.length = m.xs.length) (hown : ∀ d : Int, 2 ≤ d → d ≠ 3 → d < 8 + 2 * (k : Int) → wordAt R.xs d = wordAt m.xs d) (hi : NInv k n') (ho : ∀ i, i ≠ t → n'.rd i = n.rd i ∧ n'.wr i = n.wr i) (hI : n'.I ≤ n.I + 1) (w0 : wordAt R.xs 0 = wi b n'.I n'.β) (w1 : wordAt R.xs 1 = wi b n'.O 0) (w3 : wordAt R.xs 3 % 2 = n'.φ)
    (mv : (wordAt R.xs 3 = wordAt m.xs 3 ∧ n'.a = n.a) ∨ (n.wr t).act = true) (far : (m.rs t).k.on = false → wtR wtN (m.rs t) = none → ∀ d : Int, 8 + 2 * (k : Int) ≤ d → wordAt R.xs d = wordAt m.xs d) (wk0 : n'.β = n.β ∨ n.β = 0 ∨ R.k = beginI mode 0) (wk1 : n'.O = n.O ∨ (n.wr t).act = true ∨ R.k = beginI mode 1) : NqW b k mode t s n m R s n' :=
  ⟨h.q, h.w.far ⟨by decide, by decide⟩ hk hlen (hown 2 (by decide) (by decide) (by omega)) fun d h0 h1 => hown d (by omega) (by omega) h1, OthQ.refl, hi, ho, hI, w0, w1, w3, mv, far, wk0, wk1⟩
theorem world_0 (hk : k ≤ 64) (h : NqI b k s n qp m) (hlen : R.xs.length = m.xs.length) (hx : ∀ d : Int, 0 ≤ d → d < 8 + 2 * (k : Int) → wordAt R.xs d = wordAt m.xs d) (hi : NInv k n') (ho : ∀ i, i ≠ t → n'.rd i = n.rd i ∧ n'.wr i = n.wr i) (he : n'.I = n.I ∧ n'.O = n.O ∧ n'.β = n.β ∧ n'.φ = n.φ ∧ n'.a = n.a) (far : (m.rs t).k.on = false → wtR wtN (m.rs t) = none → ∀ d : Int, 8 + 2 * (k : Int) ≤ d → wordAt R.xs d = wordAt m.xs d) : NqW b k mode t s n m R s n' := by
  obtain ⟨e1, e2, e3, e4, e5⟩ := he
  have x3 := hx 3 (by decide) (by omega)
  exact world_n hk h hlen (fun d h0 _ h1 => hx d (by omega) h1) hi ho (by omega) (by rw [hx 0 (by decide) (by omega), e1, e3]; exact h.w0) (by rw [hx 1 (by decide) (by omega), e2]; exact h.w1) (by rw [x3, e4]; exact h.w3) (.inl ⟨x3, e5⟩) far (.inl e3) (.inl e2)
theorem same_n (n : NS) (t : Nat) : ∀ i, i ≠ t → n.rd i = n.rd i ∧ n.wr i = n.wr i := fun _ _ => ⟨rfl, rfl⟩
theorem set_w (n : NS) (t : Nat) (y : Wr) (β φ : Int) (a : Nat) : ∀ i, i ≠ t → (n.setW t y β φ a).rd i = n.rd i ∧ (n.setW t y β φ a).wr i = n.wr i := fun i e => ⟨rfl, upd_other _ _ e⟩
theorem set_r (n : NS) (t : Nat) (x : Rd) (I O : Nat) : ∀ i, i ≠ t → (n.setR t x I O).rd i = n.rd i ∧ (n.setR t x I O).wr i = n.wr i := fun i e => ⟨upd_other _ _ e, rfl⟩
theorem at_w (n : NS) (t : Nat) (y : Wr) (β φ : Int) (a : Nat) : (n.setW t y β φ a).wr t = y := upd_same _ _ _
theorem at_r (n : NS) (t : Nat) (x : Rd) (I O : Nat) : (n.setR t x I O).rd t = x := upd_same _ _ _
theorem idle_of {op h a0 : Int} {x : Rd} {ok : Bool} (hg : GiveN op h x a0 ok) : ∃ hv, behindI op (if ok then 2 else 1) h = hv ∧ ∀ s a on, NT hv 0 0 0 s a on 0 x .no := by
  cases hg with
  | un g =>
    cases g with
    | u4 => exact ⟨0, rfl, fun s a on => .idle0 rfl rfl rfl rfl rfl rfl⟩
    | u8 => exact ⟨1, rfl, fun s a on => .idle1 rfl rfl rfl rfl rfl rfl⟩
  | up g =>
    cases g with
    | u6 => exact ⟨0, rfl, fun s a on => .idle0 rfl rfl rfl rfl rfl rfl⟩
    | u7 => exact ⟨1, rfl, fun s a on => .idle1 rfl rfl rfl rfl rfl rfl⟩
theorem UpN.idle {op h : Int} {x : Rd} (g : UpN op h x) (s a : Int) (on : Bool) : behindI op 1 h = h ∧ NT h 0 0 0 s a on 0 x .no := by
  cases g with
  | u6 => exact ⟨rfl, .idle0 rfl rfl rfl rfl rfl rfl⟩
  | u7 => exact ⟨rfl, .idle1 rfl rfl rfl rfl rfl rfl⟩
theorem UpN.nw {op h : Int} {x : Rd} (g : UpN op h x) (v : Int) : x ≠ .waits v := by cases g <;> (intro e; cases e)
theorem NqC.start (C : NqC b k mode t s n qp m) {K : WkV} (hq : QOK k s') (ho : OthQ mode k t s s' K) (h5 : TQ s' t 6 0 0) (hy : n.wr t = .no) (hx : ∀ v, n.rd t ≠ .waits v) : NInv k (n.setW t .turn n.β n.φ n.a) :=
  C.h.i.start C.ht hy (fun i hi hne => C.h.free C.ht hq ho (h5.in5 (by decide)) i hi hne) hx
theorem n_ent (C : NqC b k mode t s n qp m) {j : Nat} (ho : (m.rs t).op = 3) (hj : j < 5) (hl : (m.rs t).line = j) (hh : m.hold t = 0) (hq : qp t = j + 1) (hx : n.rd t = .no) (hy : n.wr t = .no) : NqGo b k mode t s n m (m.at t).fresh.pq := by
  have T := C.h.t t C.ht
  rw [hq] at T
  rw [pq_enter (r := (m.at t).fresh) ho hl hj]
  have none : j ≠ 4 → wtR wtN (m.rs t) = none := fun e => wtN_no (by omega) (by omega) (by omega) (by omega) (by omega)
  have keep := fun (s' : QS) (R : LS) (W : ∀ n', NInv k n' → (∀ i, i ≠ t → n'.rd i = n.rd i ∧ n'.wr i = n.wr i) → (n'.I = n.I ∧ n'.O = n.O ∧ n'.β = n.β ∧ n'.φ = n.φ ∧ n'.a = n.a) → NqW b k mode t s n m R s' n') => W n C.h.i (same_n n t) ⟨rfl, rfl, rfl, rfl, rfl⟩
  have turn : ∀ {R : LS} {s' : QS}, TQ s' t 6 R.a R.s → QOK k s' → OthQ mode k t s s' R.k → (∀ n', NInv k n' → (∀ i, i ≠ t → n'.rd i = n.rd i ∧ n'.wr i = n.wr i) → (n'.I = n.I ∧ n'.O = n.O ∧ n'.β = n.β ∧ n'.φ = n.φ ∧ n'.a = n.a) → NqW b k mode t s n m R s' n') → R.op = 3 → R.line = 5 → R.ret = 0 → NqGo b k mode t s n m R := fun {R s'} tq q1 oth W e1 e2 e3 =>
    go_stay (qp' := 6) (W _ (C.start q1 oth (tq.anyN (.inr rfl)) hy (fun v => by rw [hx]; intro e; cases e)) (set_w _ _ _ _ _ _) ⟨rfl, rfl, rfl, rfl, rfl⟩) (o := 3) (l := 5) e1 e2 e3 (.turn (.inl ⟨rfl, hh, hx, .inl rfl⟩) rfl rfl (at_w _ _ _ _ _ _)) tq (fun e => by unfold phW at e; omega) (fun e => by unfold ahW at e; omega)
  have h5 : j = 0 ∨ j = 1 ∨ j = 2 ∨ j = 3 ∨ j = 4 := by omega
  rcases h5 with rfl | rfl | rfl | rfl | rfl
  · rw [wEnter_0 (r := (m.at t).fresh) hl]
    obtain ⟨s', tq, q1, oth, W⟩ := world_q C.h (q_e0 (x := 1) C.A T) rfl (fun _ _ => rfl)
    exact go_stay (keep _ _ W) (o := 3) (l := 1) ho rfl C.ret (.ent 1 rfl (by decide) rfl rfl hh rfl hx hy) tq (fun e => by unfold phW at e; omega) (fun e => by unfold ahW at e; omega)
  · rw [wEnter_1 (r := (m.at t).fresh) hl]
    obtain ⟨s', tq, q1, oth, W⟩ := world_q C.h (q_e1 (x := 2) C.A T) rfl (fun _ _ => rfl)
    exact go_stay (keep _ _ W) (o := 3) (l := 2) ho rfl C.ret (.ent 2 rfl (by decide) rfl rfl hh rfl hx hy) tq (fun e => by unfold phW at e; omega) (fun e => by unfold ahW at e; omega)
  · rw [wEnter_2 (r := (m.at t).fresh) hl, C.A.wt]
    obtain ⟨g1, g2⟩ := q_e2 (cl := 2) (x := 3) C.A T
    obtain ⟨⟨f1, f2, f3, f4, f5⟩, f6, f7, f8, _⟩ := swapIn_fw (r := (m.at t).fresh) 2 2
    have f4' : ((m.at t).fresh.swapIn 2 2).op = (m.rs t).op := f4.trans rfl
    have f7' : ((m.at t).fresh.swapIn 2 2).ret = (m.rs t).ret := f7.trans rfl
    generalize (m.at t).fresh.swapIn 2 2 = R0 at g1 g2 f4' f7' ⊢
    by_cases hz : s.tail = 0
    · rw [if_pos hz]
      obtain ⟨s', tq, q1, oth, W⟩ := world_q C.h ((g1 hz).same (R' := R0.go 5) rfl rfl rfl rfl) rfl (fun _ _ => rfl)
      exact turn tq q1 oth W (f4'.trans ho) rfl (f7'.trans C.ret)
    · rw [if_neg hz]
      obtain ⟨s', tq, q1, oth, W⟩ := world_q C.h (g2 hz) rfl (fun _ _ => rfl)
      exact go_stay (keep _ _ W) (o := 3) (l := 3) (f4'.trans ho) rfl (f7'.trans C.ret) (.ent 3 rfl (by decide) rfl rfl hh rfl hx hy) tq (fun e => by unfold phW at e; omega) (fun e => by unfold ahW at e; omega)
  · rw [wEnter_3 (r := (m.at t).fresh) hl]
    obtain ⟨s', tq, q1, oth, W⟩ := world_q C.h (q_e3 C.A T (C.s0 (none (by decide)))) rfl (fun _ _ => rfl)
    have f1 : (m.at t).fresh.link.op = (m.rs t).op ∧ (m.at t).fresh.link.line = 4 ∧ (m.at t).fresh.link.ret = (m.rs t).ret := by
      unfold LS.link
      generalize (m.at t).fresh.me = x
      generalize nc (m.at t).fresh.n ((m.at t).fresh.a - 1) = y
      exact ⟨rfl, rfl, rfl⟩
    generalize (m.at t).fresh.link = R0 at *
    exact go_stay (keep _ _ W) (o := 3) (l := 4) (f1.1.trans ho) f1.2.1 (f1.2.2.trans C.ret) (.ent 4 rfl (by decide) rfl rfl hh rfl hx hy) tq (fun e => by unfold phW at e; omega) (fun e => by unfold ahW at e; omega)
  · rw [wEnter_4 (r := (m.at t).fresh) hl]
    have hw : wtR wtN (m.rs t) = some (bc (m.rs t).n (m.rs t).task, isZ) := if_pos ⟨ho, hl⟩
    obtain ⟨g1, g2⟩ := q_e4 C.A T
    obtain ⟨_, _, _, f4, f5, f6, f7, _⟩ := wait_fw (r := (m.at t).fresh) (bc (m.at t).fresh.n (m.at t).fresh.task) isZ
    have f4' : ((m.at t).fresh.wait (bc (m.at t).fresh.n (m.at t).fresh.task) isZ).op = (m.rs t).op := f4.trans rfl
    have f5' : ((m.at t).fresh.wait (bc (m.at t).fresh.n (m.at t).fresh.task) isZ).line = 4 := f5.trans hl
    have f6' : ((m.at t).fresh.wait (bc (m.at t).fresh.n (m.at t).fresh.task) isZ).ret = (m.rs t).ret := f6.trans rfl
    generalize (m.at t).fresh.wait (bc (m.at t).fresh.n (m.at t).fresh.task) isZ = R0 at g1 g2 f4' f5' f6' ⊢
    cases hd : ((m.at t).fresh.stepR (bc (m.at t).fresh.n (m.at t).fresh.task) isZ).done
    · rw [if_neg Bool.false_ne_true]
      obtain ⟨s', tq, q1, oth, W⟩ := world_q C.h (g1 hd) rfl (fun _ e => by rw [hw] at e; cases e)
      exact go_stay (keep _ _ W) (o := 3) (l := 4) (f4'.trans ho) f5' (f6'.trans C.ret) (.ent 4 rfl (by decide) rfl rfl hh rfl hx hy) tq (fun e => by unfold phW at e; omega) (fun e => by unfold ahW at e; omega)
    · rw [if_pos rfl]
      obtain ⟨s', tq, q1, oth, W⟩ := world_q C.h ((g2 hd).same (R' := R0.go 5) rfl rfl rfl rfl) rfl (fun _ e => by rw [hw] at e; cases e)
      exact turn tq q1 oth W (f4'.trans ho) rfl (f6'.trans C.ret)
end
end Go.Proofs.YtocdbeonogfopaaGreat
set_option linter.unusedVariables false
set_option linter.unusedSimpArgs false
namespace Go.Proofs.YtocdbeonogfopaaGreat
section
variable {b : Int} {k t : Nat} {mode : Int} {s s' : QS} {n n' : NS} {qp : Nat → Nat} {m : MV} {r R : LS} {qp' : Nat} {pl : Bool}
theorem seeN_fw (r : LS) : r.seeN.op = r.op ∧ r.seeN.line = r.line ∧ r.seeN.ret = r.ret ∧ r.seeN.k = r.k ∧ r.seeN.b = r.b ∧ r.seeN.n = r.n ∧ r.seeN.mode = r.mode ∧ r.seeN.task = r.task ∧ r.seeN.xs = (r.stepR (nc r.n r.task) isN).xs ∧ r.seeN.s = (r.stepR (nc r.n r.task) isN).next ∧ ((r.stepR (nc r.n r.task) isN).seen = false → r.seeN.a = r.a) := by
  unfold LS.seeN
  generalize nc r.n r.task = x
  split
  · rename_i h; exact ⟨rfl, rfl, rfl, rfl, rfl, rfl, rfl, rfl, rfl, rfl, fun e => by rw [h] at e; cases e⟩
  · exact ⟨rfl, rfl, rfl, rfl, rfl, rfl, rfl, rfl, rfl, rfl, fun _ => rfl⟩
theorem UpN.op67 {op h : Int} {x : Rd} (g : UpN op h x) : op = 6 ∨ op = 7 := by cases g <;> decide
theorem UnlN.op48 {op h : Int} {x : Rd} (g : UnlN op h x) : op = 4 ∨ op = 8 := by cases g <;> decide
theorem n_try (C : NqC b k mode t s n qp m) {j : Nat} (hu : UpN (m.rs t).op (m.hold t) (n.rd t)) (hj : j < 2) (hl : (m.rs t).line = j) (hq : qp t = j + 11) (hy : n.wr t = .no) : NqGo b k mode t s n m (m.at t).fresh.pq := by
  have T := C.h.t t C.ht
  rw [hq] at T
  have ho := hu.op67
  rw [pq_try (r := (m.at t).fresh) ho hl hj]
  have h2 : j = 0 ∨ j = 1 := by omega
  rcases h2 with rfl | rfl
  · rw [wTry_0 (r := (m.at t).fresh) hl]
    obtain ⟨s', tq, q1, oth, W⟩ := world_q C.h (q_t0 (x := 1) C.A T) rfl (fun _ _ => rfl)
    exact go_stay (W n C.h.i (same_n n t) ⟨rfl, rfl, rfl, rfl, rfl⟩) (o := (m.rs t).op) (l := 1) rfl rfl C.ret (.tr 1 hu (by decide) rfl rfl rfl hy) tq (fun e => by unfold phW at e; omega) (fun e => by unfold ahW at e; omega)
  · rw [wTry_1 (r := (m.at t).fresh) hl, C.A.th, C.A.wt, Bool.true_and]
    obtain ⟨g1, g2⟩ := q_t1 C.A T
    obtain ⟨⟨f1, f2, f3, f4, f5⟩, f6, f7, f8, _⟩ := doA_fw (m.at t).fresh 5 2 0 (m.at t).fresh.me
    have f4' : ((m.at t).fresh.doA 5 2 0 (m.at t).fresh.me).op = (m.rs t).op := f4.trans rfl
    have f6' : ((m.at t).fresh.doA 5 2 0 (m.at t).fresh.me).line = (m.rs t).line := f6.trans rfl
    have f7' : ((m.at t).fresh.doA 5 2 0 (m.at t).fresh.me).ret = (m.rs t).ret := f7.trans rfl
    have f8' : ((m.at t).fresh.doA 5 2 0 (m.at t).fresh.me).k = (m.rs t).k := f8.trans rfl
    generalize (m.at t).fresh.doA 5 2 0 (m.at t).fresh.me = R0 at g1 g2 f4' f6' f7' f8' ⊢
    by_cases hz : s.tail = 0
    · rw [if_pos (by rw [hz]; rfl)]
      obtain ⟨s', tq, q1, oth, W⟩ := world_q C.h ((g1 hz).same (R' := (R0.note 2 2).go 2) rfl rfl rfl rfl) rfl (fun _ _ => rfl)
      exact go_stay (qp' := 6) (W _ (C.start q1 oth (tq.anyN (.inr rfl)) hy hu.nw) (set_w _ _ _ _ _ _) ⟨rfl, rfl, rfl, rfl, rfl⟩) (o := (m.rs t).op) (l := 2) f4' rfl (f7'.trans C.ret) (.turn (.inr ⟨hu, .inl rfl⟩) rfl rfl (at_w _ _ _ _ _ _)) tq (fun e => by unfold phW at e; omega) (fun e => by unfold ahW at e; omega)
    · rw [if_neg (by simpa using hz)]
      obtain ⟨s', tq, q1, oth, W⟩ := world_q C.h ((g2 hz).same (R' := (R0.note 5 0).fin false) rfl rfl rfl rfl) rfl (fun _ _ => rfl)
      refine go_end (W n C.h.i (same_n n t) ⟨rfl, rfl, rfl, rfl, rfl⟩) (o := (m.rs t).op) (l := (m.rs t).line) (ret := 1) (hv := m.hold t) f4' f6' rfl (by decide) (hu.idle 0 0 false).1 (fun e => ?_) (fun s a on => ?_) (fun a st => tq.anyN (.inl rfl))
      · have e' : R0.k.on = true := e
        rw [f8', C.on] at e'; cases e'
      · rw [hy]; exact (hu.idle s a on).2
theorem n_give (C : NqC b k mode t s n qp m) {j : Nat} {a : Int} {ok : Bool} (hg : GiveN (m.rs t).op (m.hold t) (n.rd t) a ok) (hj : j < 4) (hl : (m.rs t).line = a + j) (hq : qp t = j + 7) (hy : n.wr t = .last) (hp : (m.at t).fresh.pq = (m.at t).fresh.wGive a ok) : NqGo b k mode t s n m (m.at t).fresh.pq := by
  have T := C.h.t t C.ht
  rw [hq] at T
  rw [hp]
  have hop := hg.ops.2
  obtain ⟨hv, hb, hid⟩ := idle_of hg
  have hok : (if ok then (2 : Int) else 1) ≠ 0 := by cases ok <;> decide
  have none : j ≠ 2 → wtR wtN (m.rs t) = none := fun e => wtN_no (by omega) (by omega) (by omega) (by omega) (by omega)
  have stay : ∀ (l s' a' : Int) (e : Nat) (on : Bool), l = a + e → e < 4 → NT (m.hold t) (m.rs t).op l 0 s' a' on (e + 7) (n.rd t) (n.wr t) := fun l s' a' e on hl he => .give e a ok hg he hl rfl rfl hy
  have pass := C.h.i.pass C.ht hy
  have h4 : j = 0 ∨ j = 1 ∨ j = 2 ∨ j = 3 := by omega
  rcases h4 with rfl | rfl | rfl | rfl
  · rw [wGive_0 (r := (m.at t).fresh) (by show (m.rs t).line = a; omega), C.A.wn]
    obtain ⟨g1, g2⟩ := q_g0 (x := a + 1) C.A T
    obtain ⟨_, g3⟩ := q_g0 (x := a + 3) C.A T
    obtain ⟨⟨f1, f2, f3, f4, f5⟩, f6, f7, f8, _⟩ := peek_fw (r := (m.at t).fresh)
    have f4' : (m.at t).fresh.peek.op = (m.rs t).op := f4.trans rfl
    have f7' : (m.at t).fresh.peek.ret = (m.rs t).ret := f7.trans rfl
    generalize (m.at t).fresh.peek = R0 at g1 g2 g3 f4' f7' ⊢
    by_cases hz : s.nx t = 0
    · rw [if_pos hz]
      obtain ⟨s', tq, q1, oth, W⟩ := world_q C.h (g1 hz) rfl (fun _ _ => rfl)
      exact go_stay (W n C.h.i (same_n n t) ⟨rfl, rfl, rfl, rfl, rfl⟩) (o := (m.rs t).op) (l := a + 1) f4' rfl (f7'.trans C.ret) (stay _ _ _ 1 _ rfl (by decide)) tq (fun e => by unfold phW at e; omega) (fun e => by unfold ahW at e; omega)
    · rw [if_neg hz]
      obtain ⟨s', tq, q1, oth, W⟩ := world_q C.h (g3 hz) rfl (fun _ _ => rfl)
      exact go_stay (W n C.h.i (same_n n t) ⟨rfl, rfl, rfl, rfl, rfl⟩) (o := (m.rs t).op) (l := a + 3) f4' rfl (f7'.trans C.ret) (stay _ _ _ 3 _ rfl (by decide)) tq (fun e => by unfold phW at e; omega) (fun e => by unfold ahW at e; omega)
  · rw [wGive_1 (r := (m.at t).fresh) (by show (m.rs t).line = a + 1; omega), C.A.casX]
    obtain ⟨g1, g2⟩ := q_g1 (x := a + 2) (whats := [8]) C.A T (C.s0 (none (by decide)))
    obtain ⟨⟨f1, f2, f3, f4, f5⟩, f6, f7, f8, _⟩ := doA_fw (m.at t).fresh 5 2 (m.at t).fresh.me 0
    have f4' : ((m.at t).fresh.doA 5 2 (m.at t).fresh.me 0).op = (m.rs t).op := f4.trans rfl
    have f6' : ((m.at t).fresh.doA 5 2 (m.at t).fresh.me 0).line = (m.rs t).line := f6.trans rfl
    have f7' : ((m.at t).fresh.doA 5 2 (m.at t).fresh.me 0).ret = (m.rs t).ret := f7.trans rfl
    have f8' : ((m.at t).fresh.doA 5 2 (m.at t).fresh.me 0).k = (m.rs t).k := f8.trans rfl
    generalize (m.at t).fresh.doA 5 2 (m.at t).fresh.me 0 = R0 at g1 g2 f4' f6' f7' f8' ⊢
    by_cases hz : s.tail = (t : Int) + 1
    · rw [if_pos (by rw [hz]; exact beq_self_eq_true _)]
      obtain ⟨n1, n2, n3, n4, n5, n6, n7, n8, n9, n10, n11⟩ := notes_same R0 [8]
      obtain ⟨s', tq, q1, oth, W⟩ := world_q C.h ((g1 hz).same (R' := (R0.notes [8]).fin ok) rfl rfl rfl rfl) rfl (fun _ _ => rfl)
      refine go_end (qp' := 0) (W _ pass (set_w _ _ _ _ _ _) ⟨rfl, rfl, rfl, rfl, rfl⟩) (o := (m.rs t).op) (l := (m.rs t).line) (n8.trans f4') (n9.trans f6') rfl hok hb (fun e => ?_) (fun s a on => ?_) (fun a st => tq.anyN (.inl rfl))
      · have e' : (R0.notes [8]).k.on = true := e
        rw [n4, f8', C.on] at e'; cases e'
      · rw [at_w]; exact hid s a on
    · rw [if_neg (by simpa using hz)]
      obtain ⟨s', tq, q1, oth, W⟩ := world_q C.h (g2 hz) rfl (fun _ _ => rfl)
      exact go_stay (W n C.h.i (same_n n t) ⟨rfl, rfl, rfl, rfl, rfl⟩) (o := (m.rs t).op) (l := a + 2) f4' rfl (f7'.trans C.ret) (stay _ _ _ 2 _ rfl (by decide)) tq (fun e => by unfold phW at e; omega) (fun e => by unfold ahW at e; omega)
  · have hl2 : (m.rs t).line = a + 2 := by omega
    rw [wGive_2 (r := (m.at t).fresh) hl2]
    have hw : wtR wtN (m.rs t) = some (nc (m.rs t).n (m.rs t).task, isN) := by
      show wtN _ _ _ _ _ _ = _
      unfold wtN
      rw [if_neg (by omega), if_pos (by omega)]
    obtain ⟨g1, g2⟩ := q_g2 (x := a + 3) C.A T
    obtain ⟨n1, n2, n3, n4, _⟩ := seeN_fw (m.at t).fresh
    have n1' : (m.at t).fresh.seeN.op = (m.rs t).op := n1.trans rfl
    have n2' : (m.at t).fresh.seeN.line = a + 2 := n2.trans hl2
    have n3' : (m.at t).fresh.seeN.ret = (m.rs t).ret := n3.trans rfl
    generalize (m.at t).fresh.seeN = R0 at g1 g2 n1' n2' n3' ⊢
    cases hd : ((m.at t).fresh.stepR (nc (m.at t).fresh.n (m.at t).fresh.task) isN).done
    · rw [if_neg Bool.false_ne_true]
      obtain ⟨s', tq, q1, oth, W⟩ := world_q C.h (g1 hd) rfl (fun _ e => by rw [hw] at e; cases e)
      exact go_stay (W n C.h.i (same_n n t) ⟨rfl, rfl, rfl, rfl, rfl⟩) (o := (m.rs t).op) (l := a + 2) n1' n2' (n3'.trans C.ret) (stay _ _ _ 2 _ rfl (by decide)) tq (fun e => by unfold phW at e; omega) (fun e => by unfold ahW at e; omega)
    · rw [if_pos rfl]
      obtain ⟨s', tq, q1, oth, W⟩ := world_q C.h (g2 hd) rfl (fun _ e => by rw [hw] at e; cases e)
      exact go_stay (W n C.h.i (same_n n t) ⟨rfl, rfl, rfl, rfl, rfl⟩) (o := (m.rs t).op) (l := a + 3) n1' rfl (n3'.trans C.ret) (stay _ _ _ 3 _ rfl (by decide)) tq (fun e => by unfold phW at e; omega) (fun e => by unfold ahW at e; omega)
  · rw [wGive_3 (r := (m.at t).fresh) (by show (m.rs t).line = a + 3; omega)]
    obtain ⟨n1, n2, n3, n4, n5, n6, n7, n8, n9, n10, n11⟩ := notes_same ((m.at t).fresh.doA 2 (bc (m.at t).fresh.n ((m.at t).fresh.a - 1)) 0 0) [8]
    have n8' : (((m.at t).fresh.handOn [8]).fin ok).op = (m.rs t).op := n8
    have n9' : (((m.at t).fresh.handOn [8]).fin ok).line = (m.rs t).line := n9
    have hQ := (q_g3 (whats := [8]) C.A T).same (R' := ((m.at t).fresh.handOn [8]).fin ok) rfl rfl rfl rfl
    have er : (((m.at t).fresh.handOn [8]).fin ok).ret = if ok then 2 else 1 := rfl
    generalize ((m.at t).fresh.handOn [8]).fin ok = R0 at hQ n8' n9' er ⊢
    obtain ⟨s', tq, q1, oth, W⟩ := world_q C.h hQ rfl (fun _ _ => rfl)
    refine go_end (qp' := 0) (W _ pass (set_w _ _ _ _ _ _) ⟨rfl, rfl, rfl, rfl, rfl⟩) (o := (m.rs t).op) (l := (m.rs t).line) n8' n9' er hok hb (fun e => ⟨?_, ?_⟩) (fun s a on => ?_) (fun a st => tq.anyN (.inl rfl))
    · exact .gave a ok hg (by omega) rfl rfl rfl (at_w _ _ _ _ _ _)
    · unfold phW ahW; omega
    · rw [at_w]; exact hid s a on
end
end Go.Proofs.YtocdbeonogfopaaGreat
