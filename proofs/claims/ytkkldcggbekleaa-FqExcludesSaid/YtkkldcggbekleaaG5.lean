import Derived.Test.YtkkldcggbekleaaG4
import Derived.Test.YtkkldcggbekleaaG3
set_option linter.unusedVariables false
set_option linter.unusedSimpArgs false
namespace Go.Proofs.Ytkkldcggbekleaa
structure StepQ (wt : WtG) (k : Nat) (mode : Int) (m : MV) (t : Nat) (R : LS) : Prop where
  len : R.xs.length = 8 + 4 * k
  cst : R.n = k ∧ R.mode = mode ∧ R.task = t
  sr : R.s = 0 ∨ R.s = 1 ∨ R.s = 2 ∨ R.s = 3 ∨ R.s = 4
  sp : mode ≠ 2 → R.s = 0
  sw : R.s ≠ 0 → (∃ c q, wtR wt R = some (c, q)) ∧ R.k.on = false ∧ R.ret = 0
  wat : (R.s = 0 ∨ R.s = 1 → wordAt R.xs (wc k t) = 0) ∧ (R.s = 2 ∨ R.s = 3 ∨ R.s = 4 → ∀ c q, wtR wt R = some (c, q) → wordAt R.xs (wc k t) = c + 1)
  kon : R.k.on = true → 0 ≤ R.k.i ∧ R.k.i < k
  op : R.op ≠ 0
  far : ∀ i, i < k → i ≠ t → wordAt R.xs (wc k i) = wordAt m.xs (wc k i)
  nlt : R.s = 3 → ∀ c q, wtR wt R = some (c, q) → q (wordAt R.xs c) = false
  nl : ∀ i, i < k → i ≠ t → ∀ c q, wtR wt (m.rs i) = some (c, q) → (m.rs i).s = 3 → hasP R.xs k i = false → q (wordAt R.xs c) = true → ∃ j, j < k ∧ (upd (fun j => (m.rs j).k) t R.k j).on = true ∧ (upd (fun j => (m.rs j).k) t R.k j).c = c ∧ (upd (fun j => (m.rs j).k) t R.k j).i ≤ i
section
variable {L : LS → LS} {wt : WtG} {k : Nat} {mode : Int} {m : MV} {t : Nat}
theorem StepQ.gen (hL : LinesQ L wt) (h : GenQ wt k mode m) (ht : t < k) {R : LS} {hv : Int} (hT : StepQ wt k mode m t R) : GenQ wt k mode ⟨upd m.rs t R.finR, upd m.hold t hv, R.xs⟩ := by
  have hov : R.over = true → R.s = 0 ∧ R.k.on = false := fun e => by
    have e1 : R.ret ≠ 0 ∧ R.k.on = false := by
      unfold LS.over at e
      simpa using e
    refine ⟨?_, e1.2⟩
    by_cases e2 : R.s = 0
    · exact e2
    · exact absurd (hT.sw e2).2.2 e1.1
  have hno : R.over = false → R.finR = R := fun e => by unfold LS.finR; rw [e]; rfl
  have hye : R.over = true → R.finR = zeroF R 0 := fun e => by unfold LS.finR; rw [e]; rfl
  have hkon : ∀ j, j < k → (upd (fun j => (m.rs j).k) t R.k j).on = true → (upd m.rs t R.finR j).k = upd (fun j => (m.rs j).k) t R.k j := fun j hj ho => by
    by_cases e : j = t
    · subst e
      rw [upd_same] at ho ⊢
      rw [upd_same]
      cases ho2 : R.over
      · rw [hno ho2]
      · rw [(hov ho2).2] at ho; cases ho
    · rw [upd_other _ _ e, upd_other _ _ e]
  cases ho : R.over
  · have hf := hno ho
    refine ⟨hT.len, fun i hi => ?_, fun i hi => ?_, fun i hi hm => ?_, fun i hi hne => ?_, fun i hi => ?_, fun i hi ho => ?_, fun i hi ho => ?_, fun i hi ho => ?_, fun i hi c q hw hs hp hq => ?_⟩
    all_goals dsimp only at *
    · by_cases e : i = t
      · subst e; rw [upd_same, hf]; exact hT.cst
      · rw [upd_other _ _ e]; exact h.cst i hi
    · by_cases e : i = t
      · subst e; rw [upd_same, hf]; exact hT.sr
      · rw [upd_other _ _ e]; exact h.sr i hi
    · by_cases e : i = t
      · subst e; rw [upd_same, hf]; exact hT.sp hm
      · rw [upd_other _ _ e]; exact h.sp i hi hm
    · by_cases e : i = t
      · subst e; rw [upd_same, hf] at hne ⊢; exact ⟨(hT.sw hne).1, (hT.sw hne).2.1⟩
      · rw [upd_other _ _ e] at hne ⊢; exact h.sw i hi hne
    · by_cases e : i = t
      · subst e; rw [upd_same, hf]; exact hT.wat
      · rw [upd_other _ _ e, hT.far i hi e]; exact h.wat i hi
    · by_cases e : i = t
      · subst e; rw [upd_same, hf] at ho ⊢; exact hT.kon ho
      · rw [upd_other _ _ e] at ho ⊢; exact h.kon i hi ho
    · rename_i hov0
      by_cases e : i = t
      · subst e; rw [upd_same, hf] at ho ⊢
        by_cases e2 : R.ret = 0
        · exact e2
        · exfalso
          have : R.over = true := by unfold LS.over; rw [ho]; simpa using e2
          rw [hov0] at this; cases this
      · rw [upd_other _ _ e] at ho ⊢; exact h.rt i hi ho
    · by_cases e : i = t
      · subst e; rw [upd_same, hf] at ho; exact absurd ho hT.op
      · rw [upd_other _ _ e] at ho ⊢; exact h.idle i hi ho
    · by_cases e : i = t
      · subst e; rw [upd_same, hf] at hw hs
        rw [hT.nlt hs c q hw] at hq; cases hq
      · rw [upd_other _ _ e] at hw hs
        obtain ⟨j, hj, h1, h2, h3⟩ := hT.nl i hi e c q hw hs hp hq
        exact ⟨j, hj, by rw [hkon j hj h1]; exact ⟨h1, h2, h3⟩⟩
  · have hf := hye ho
    obtain ⟨hs0, hon⟩ := hov ho
    refine ⟨hT.len, fun i hi => ?_, fun i hi => ?_, fun i hi hm => ?_, fun i hi hne => ?_, fun i hi => ?_, fun i hi ho => ?_, fun i hi ho => ?_, fun i hi ho => ?_, fun i hi c q hw hs hp hq => ?_⟩
    all_goals dsimp only at *
    · by_cases e : i = t
      · subst e; rw [upd_same, hf]; exact hT.cst
      · rw [upd_other _ _ e]; exact h.cst i hi
    · by_cases e : i = t
      · subst e; rw [upd_same, hf]; exact .inl rfl
      · rw [upd_other _ _ e]; exact h.sr i hi
    · by_cases e : i = t
      · subst e; rw [upd_same, hf]; rfl
      · rw [upd_other _ _ e]; exact h.sp i hi hm
    · by_cases e : i = t
      · subst e; rw [upd_same, hf] at hne; exact absurd rfl hne
      · rw [upd_other _ _ e] at hne ⊢; exact h.sw i hi hne
    · by_cases e : i = t
      · subst e; rw [upd_same, hf]
        exact ⟨fun _ => hT.wat.1 (.inl hs0), fun hh => by rcases hh with hh | hh | hh <;> cases hh⟩
      · rw [upd_other _ _ e, hT.far i hi e]; exact h.wat i hi
    · by_cases e : i = t
      · subst e; rw [upd_same, hf] at ho; cases ho
      · rw [upd_other _ _ e] at ho ⊢; exact h.kon i hi ho
    · by_cases e : i = t
      · subst e; rw [upd_same, hf]; rfl
      · rw [upd_other _ _ e] at ho ⊢; exact h.rt i hi ho
    · by_cases e : i = t
      · subst e; rw [upd_same, hf]; rfl
      · rw [upd_other _ _ e] at ho ⊢; exact h.idle i hi ho
    · by_cases e : i = t
      · subst e; rw [upd_same, hf] at hs; cases hs
      · rw [upd_other _ _ e] at hw hs
        obtain ⟨j, hj, h1, h2, h3⟩ := hT.nl i hi e c q hw hs hp hq
        exact ⟨j, hj, by rw [hkon j hj h1]; exact ⟨h1, h2, h3⟩⟩
theorem stepq_waking (hL : LinesQ L wt) (hk : k ≤ 64) (h : GenQ wt k mode m) (ht : t < k) (hop : (m.rs t).op ≠ 0) (hon : (m.rs t).k.on = true) : StepQ wt k mode m t (m.at t).waking := by
  obtain ⟨c1, c2, c3⟩ := h.cst t ht
  obtain ⟨k0, k1⟩ := h.kon t ht hon
  have hs0 : (m.rs t).s = 0 := by
    by_cases e : (m.rs t).s = 0
    · exact e
    · rw [(h.sw t ht e).2] at hon; cases hon
  obtain ⟨i0, hi0⟩ := Int.eq_ofNat_of_zero_le k0
  have hi1 : i0 < k := by omega
  obtain ⟨on, kc, ki, hit, hkk⟩ : ∃ on kc ki hit, (m.rs t).k = ⟨on, kc, ki, hit⟩ := ⟨_, _, _, _, rfl⟩
  rw [hkk] at hon hi0
  dsimp only at hon hi0
  subst hon hi0
  obtain ⟨wh, wl⟩ := wake_cases (xs := m.xs) (c := kc) (hit := hit) hk h.len hi1
  have hxs : (m.at t).waking.xs = (wakeI m.xs k true kc i0 hit).xs := by show (wakeI m.xs (m.rs t).n _ _ _ _).xs = _; rw [c1, show (m.at t).k = ⟨true, kc, (i0 : Int), hit⟩ from hkk]
  have hk' : (m.at t).waking.k = (wakeI m.xs k true kc i0 hit).next := by show (wakeI m.xs (m.rs t).n _ _ _ _).next = _; rw [c1, show (m.at t).k = ⟨true, kc, (i0 : Int), hit⟩ from hkk]
  have hs' : (m.at t).waking.s = 0 := hs0
  have hwat : ∀ i, i < k → wordAt (m.at t).waking.xs (wc k i) = wordAt m.xs (wc k i) := fun i hi => by rw [hxs]; exact wake_wat hk (by omega) (by omega) hi
  have hown : ∀ d : Int, 0 ≤ d → d < 8 + 2 * k → wordAt (m.at t).waking.xs d = wordAt m.xs d := fun d h0 h1 => by
    rw [hxs]
    exact own_wake (by rw [pc_at hk hi1]; omega)
  have hnx : (nextI k kc i0).on = true → (nextI k kc i0).i = i0 + 1 ∧ (nextI k kc i0).c = kc ∧ (i0 : Int) + 1 < k := fun e => by
    unfold nextI at *
    split
    · rename_i e2; rw [if_pos e2] at e; cases e
    · exact ⟨rfl, rfl, by omega⟩
  have hnxt : (i0 : Int) + 1 < k → (nextI k kc i0).on = true ∧ (nextI k kc i0).i = i0 + 1 ∧ (nextI k kc i0).c = kc := fun e => by
    unfold nextI
    rw [if_neg (by omega)]
    exact ⟨rfl, rfl, rfl⟩
  refine ⟨by rw [hxs]; exact (wake_len0 m.xs k kc i0 hit).trans h.len, ⟨c1, c2, c3⟩, .inl hs', fun _ => hs', fun e => absurd hs' e, ⟨fun _ => by rw [hwat t ht]; exact (h.wat t ht).1 (.inl hs0), fun e => (by rw [hs'] at e; rcases e with e | e | e <;> cases e)⟩, fun ho => ?_, hop, fun i hi _ => hwat i hi, fun e => (by rw [hs'] at e; cases e), fun i hi hne c q hw hs hp hq => ?_⟩
  · rw [hk'] at ho ⊢
    cases hh : hit
    · subst hh
      rcases (wl rfl).2 with ⟨_, e⟩ | ⟨_, e⟩
      · rw [e]; exact ⟨by show (0 : Int) ≤ i0; omega, by show (i0 : Int) < k; omega⟩
      · rw [e] at ho ⊢
        obtain ⟨a1, a2, a3⟩ := hnx ho
        rw [a1]; omega
    · subst hh
      rw [(wh rfl).1] at ho ⊢
      obtain ⟨a1, a2, a3⟩ := hnx ho
      rw [a1]; omega
  · obtain ⟨hc0, hc8⟩ := h.cell hL hk hi hw
    rw [hown c hc0 hc8] at hq
    have hp0 : hasP m.xs k i = false := by
      cases hh : hit
      · subst hh; rwa [hxs, (wl rfl).1] at hp
      · subst hh
        rw [hxs, (wh rfl).2 i hi] at hp
        by_cases e : i = i0
        · rw [if_pos e] at hp; cases hp
        · rwa [if_neg e] at hp
    obtain ⟨j, hj, h1, h2, h3⟩ := h.nl i hi c q hw hs hp0 hq
    by_cases e : j = t
    · subst e
      rw [hkk] at h1 h2 h3
      dsimp only at h1 h2 h3
      subst h2
      refine ⟨j, hj, ?_⟩
      rw [upd_same, hk']
      have hwi : wordAt m.xs (wc k i) = kc + 1 := (h.wat i hi).2 (.inr (.inl hs)) kc q hw
      cases hh : hit
      · subst hh
        rcases (wl rfl).2 with ⟨_, e⟩ | ⟨e0, e⟩
        · rw [e]; exact ⟨rfl, rfl, h3⟩
        · have hne2 : i ≠ i0 := fun e3 => by
            subst e3
            rw [hwi] at e0
            exact e0 (by omega)
          rw [e]
          obtain ⟨a1, a2, a3⟩ := hnxt (by omega)
          exact ⟨a1, a3, by rw [a2]; omega⟩
      · subst hh
        have hne2 : i ≠ i0 := fun e3 => by
          rw [hxs, (wh rfl).2 i hi, if_pos e3] at hp; cases hp
        rw [(wh rfl).1]
        obtain ⟨a1, a2, a3⟩ := hnxt (by omega)
        exact ⟨a1, a3, by rw [a2]; omega⟩
    · exact ⟨j, hj, by rw [upd_other _ _ e]; exact ⟨h1, h2, h3⟩⟩
theorem stepq_wait (hL : LinesQ L wt) (hk : k ≤ 64) (h : GenQ wt k mode m) (ht : t < k) (hop : (m.rs t).op ≠ 0) (hon : (m.rs t).k.on = false) (hst : (m.at t).stuck = false) {c : Int} {q : Int → Bool} (hw : wtR wt (m.rs t) = some (c, q)) : StepQ wt k mode m t (L (m.at t).fresh) := by
  obtain ⟨c1, c2, c3⟩ := h.cst t ht
  obtain ⟨s1, s2, s3, s4, s5⟩ := hL.same (m.at t).fresh
  have W := hL.wait (m.at t).fresh c q hon hw
  obtain ⟨hc0, hc8⟩ := h.cell hL hk ht hw
  have hr0 := h.rt t ht hon
  have hR : (m.at t).fresh.stepR c q = stepI m.xs k mode t (m.rs t).s c q := by
    show stepI m.xs (m.rs t).n (m.rs t).mode (m.rs t).task (m.rs t).s c q = _
    rw [c1, c2, c3]
  have hxs := W.xs
  have hs' := W.s
  have hstay := W.stay
  rw [hR] at hxs hs' hstay
  have hns : ¬ (mode = 2 ∧ (m.rs t).s = 3 ∧ hasP m.xs k t = false) := fun ⟨e1, e2, e3⟩ => by
    have : (m.at t).stuck = true := by
      unfold LS.stuck stuckB
      show (!(m.rs t).k.on && ((m.rs t).mode == 2 && (m.rs t).s == 3 && !hasP m.xs (m.rs t).n (m.rs t).task)) = true
      rw [hon, c1, c2, c3, e1, e2, e3]; rfl
    rw [hst] at this; cases this
  have hkt : (L (m.at t).fresh).k.on = false := by rw [W.k]; exact hon
  have hnext := step_next (xs := m.xs) (k := k) (mode := mode) (t := t) (s := (m.rs t).s) (c := c) (q := q)
  have hdn := step_done0 (xs := m.xs) (k := k) (mode := mode) (t := t) (s := (m.rs t).s) (c := c) (q := q)
  have hown : ∀ d : Int, 0 ≤ d → d < 8 + 2 * k → wordAt (L (m.at t).fresh).xs d = wordAt m.xs d := fun d h0 h1 => by
    rw [hxs]
    exact own_wait (by rw [wc_at hk ht]; omega) (by rw [pc_at hk ht]; omega)
  have hwat : ∀ i, i < k → _ := fun i hi => step_wat (xs := m.xs) (mode := mode) (s := (m.rs t).s) (c := c) (q := q) hk h.len ht hi
  have hper : ∀ i, i < k → _ := fun i hi => step_per (xs := m.xs) (mode := mode) (s := (m.rs t).s) (c := c) (q := q) hk h.len ht hi
  have hsr := h.sr t ht
  have hline : (L (m.at t).fresh).s ≠ 0 → wtR wt (L (m.at t).fresh) = some (c, q) ∧ (L (m.at t).fresh).ret = 0 := fun e => by
    rw [hs'] at e
    cases hd : (stepI m.xs k mode t (m.rs t).s c q).done
    · obtain ⟨l1, l2, l3⟩ := hstay hd
      exact ⟨l3.trans hw, l2.trans hr0⟩
    · exact absurd (hdn hd) e
  have hnx4 : (L (m.at t).fresh).s = 0 ∨ (L (m.at t).fresh).s = 1 ∨ (L (m.at t).fresh).s = 2 ∨ (L (m.at t).fresh).s = 3 ∨ (L (m.at t).fresh).s = 4 := by
    rw [hs']; rcases hnext with ⟨e, _⟩ | ⟨_, _, e⟩
    · exact .inl e
    · rcases e with ⟨e, _⟩ | ⟨e, _⟩ | ⟨e, _⟩ | ⟨e, _⟩
      · exact .inr (.inl e)
      · exact .inr (.inr (.inl e))
      · exact .inr (.inr (.inr (.inl e)))
      · exact .inr (.inr (.inr (.inr e)))
  refine ⟨s5.trans h.len, ⟨s1.trans c1, s2.trans c2, s3.trans c3⟩, hnx4, fun hm => ?_, fun e => ⟨⟨c, q, (hline e).1⟩, hkt, (hline e).2⟩, ⟨fun e => ?_, fun e c' q' hw' => ?_⟩, fun e => (by rw [hkt] at e; cases e), by rw [s4]; exact hop, fun i hi hne => ?_, fun e c' q' hw' => ?_, fun i hi hne c' q' hw' hs hp hq => ?_⟩
  · rw [hs']
    rw [stepI_spin hm]
  · rw [hxs, hwat t ht]
    rw [hs'] at e
    have w0 := (h.wat t ht).1
    rcases hnext with ⟨e1, e2⟩ | ⟨em, _, ⟨_, e1, e2, e3, e4⟩ | ⟨e1, _⟩ | ⟨e1, _⟩ | ⟨e1, _⟩⟩
    · rcases hsr with e3 | e3 | e3 | e3 | e3
      · rw [if_neg (by omega), if_neg (by omega)]; exact w0 (.inl e3)
      · exfalso
        by_cases em : mode = 2
        · rw [em, e3] at e1; cases e1
        · have := h.sp t ht em; omega
      · exfalso
        by_cases em : mode = 2
        · rw [em, e3, stepI_2] at e1; simp only at e1; split at e1 <;> cases e1
        · have := h.sp t ht em; omega
      · exfalso
        by_cases em : mode = 2
        · rw [em, e3, stepI_3] at e1; simp only at e1; split at e1 <;> cases e1
        · have := h.sp t ht em; omega
      · rw [if_neg (by omega)]
        by_cases em : mode = 2
        · rw [if_pos ⟨rfl, em, e3⟩]
        · have := h.sp t ht em; omega
    · rw [if_neg (by omega), if_neg (by omega)]; exact w0 (by omega)
    · omega
    · omega
    · omega
  · have hne0 : (L (m.at t).fresh).s ≠ 0 := by omega
    rw [(hline hne0).1] at hw'
    obtain ⟨rfl, rfl⟩ := Prod.mk.inj (Option.some.inj hw')
    rw [hxs, hwat t ht]
    rw [hs'] at e
    have w2 := fun e => (h.wat t ht).2 e c q hw
    rcases hnext with ⟨e1, e2⟩ | ⟨em, _, ⟨e1, _⟩ | ⟨e1, e2⟩ | ⟨e1, e2⟩ | ⟨e1, e2, _⟩⟩
    · omega
    · omega
    · rcases e2 with e2 | ⟨e2, _⟩
      · rw [if_pos ⟨rfl, em, e2⟩]; omega
      · rw [if_neg (by omega), if_neg (by omega)]; exact w2 (.inr (.inl e2))
    · rw [if_neg (by omega), if_neg (by omega)]
      rcases e2 with ⟨e2, _⟩ | ⟨e2, _⟩
      · exact w2 (.inl e2)
      · exact w2 (.inr (.inl e2))
    · rw [if_neg (by omega), if_neg (by omega)]; exact w2 (.inl e2)
  · rw [hxs, hwat i hi, if_neg (fun e => hne e.1), if_neg (fun e => hne e.1)]
  · have hne0 : (L (m.at t).fresh).s ≠ 0 := by omega
    rw [(hline hne0).1] at hw'
    obtain ⟨rfl, rfl⟩ := Prod.mk.inj (Option.some.inj hw')
    rw [hown c hc0 hc8]
    rw [hs'] at e
    rcases hnext with ⟨e1, _⟩ | ⟨em, _, ⟨e1, _⟩ | ⟨e1, _⟩ | ⟨_, e2⟩ | ⟨e1, _⟩⟩
    · omega
    · omega
    · omega
    · rcases e2 with ⟨_, e2⟩ | ⟨e2, e3⟩
      · exact e2
      · exact absurd ⟨em, e2, e3⟩ hns
    · omega
  · obtain ⟨hc0', hc8'⟩ := h.cell hL hk hi hw'
    rw [hown c' hc0' hc8'] at hq
    rw [hxs, hper i hi, if_neg (fun e => hne e.1)] at hp
    obtain ⟨j, hj, h1, h2, h3⟩ := h.nl i hi c' q' hw' hs hp hq
    have : j ≠ t := fun e => by subst e; rw [hon] at h1; cases h1
    exact ⟨j, hj, by rw [upd_other _ _ this]; exact ⟨h1, h2, h3⟩⟩
theorem stepq_plain (hL : LinesQ L wt) (hk : k ≤ 64) (hk1 : 1 ≤ k) (h : GenQ wt k mode m) (ht : t < k) (hop : (m.rs t).op ≠ 0) (hon : (m.rs t).k.on = false) (hw : wtR wt (m.rs t) = none) (P : PlainLn (m.at t).fresh (L (m.at t).fresh))
    (hwk : ∀ i, i < k → i ≠ t → ∀ c q, wtR wt (m.rs i) = some (c, q) → (m.rs i).s = 3 → q (wordAt (L (m.at t).fresh).xs c) = true → q (wordAt m.xs c) = true ∨ (L (m.at t).fresh).k = beginI 2 c) : StepQ wt k mode m t (L (m.at t).fresh) := by
  obtain ⟨c1, c2, c3⟩ := h.cst t ht
  obtain ⟨s1, s2, s3, s4, s5⟩ := hL.same (m.at t).fresh
  have cn : (m.at t).fresh.n = k := c1
  have hs0 : (m.rs t).s = 0 := by
    by_cases e : (m.rs t).s = 0
    · exact e
    · obtain ⟨⟨c, q, e2⟩, _⟩ := h.sw t ht e
      rw [hw] at e2; cases e2
  have hs' : (L (m.at t).fresh).s = 0 := P.s.trans hs0
  have hwat : ∀ i, i < k → wordAt (L (m.at t).fresh).xs (wc k i) = wordAt m.xs (wc k i) := fun i hi => P.far _ (by rw [cn, wc_at hk hi]; omega)
  have hper : ∀ i, i < k → hasP (L (m.at t).fresh).xs k i = hasP m.xs k i := fun i hi => by unfold hasP; rw [P.far _ (by rw [cn, pc_at hk hi]; omega)]; rfl
  refine ⟨s5.trans h.len, ⟨s1.trans c1, s2.trans c2, s3.trans c3⟩, .inl hs', fun _ => hs', fun e => absurd hs' e, ⟨fun _ => by rw [hwat t ht]; exact (h.wat t ht).1 (.inl hs0), fun e => by omega⟩, fun e => ?_, by rw [s4]; exact hop, fun i hi _ => hwat i hi, fun e => by omega, fun i hi hne c q hw' hs hp hq => ?_⟩
  · rcases P.k with e2 | ⟨c, e2⟩
    · rw [e2] at e; rw [show (m.at t).fresh.k = (m.rs t).k from rfl, hon] at e; cases e
    · rw [e2] at e ⊢
      unfold beginI at *
      split
      · exact ⟨Int.le_refl _, by show (0 : Int) < k; omega⟩
      · rename_i e3; rw [if_neg e3] at e; cases e
  · rcases hwk i hi hne c q hw' hs hq with hq0 | hb
    · rw [hper i hi] at hp
      obtain ⟨j, hj, h1, h2, h3⟩ := h.nl i hi c q hw' hs hp hq0
      have : j ≠ t := fun e => by subst e; rw [hon] at h1; cases h1
      exact ⟨j, hj, by rw [upd_other _ _ this]; exact ⟨h1, h2, h3⟩⟩
    · exact ⟨t, ht, by rw [upd_same, hb]; exact ⟨rfl, rfl, by show (0 : Int) ≤ i; omega⟩⟩
end
end Go.Proofs.Ytkkldcggbekleaa
set_option linter.unusedVariables false
set_option linter.unusedSimpArgs false
namespace Go.Proofs.Ytkkldcggbekleaa
inductive GiveK : Int → Int → Int → Bool → List Int → Nat → Prop
  | r1 : GiveK 0 1 6 true [4] 1
  | r5 : GiveK 0 5 6 true [4] 1
  | u4 : GiveK 0 4 0 true [7, 8] 0
  | l6 : GiveK 0 6 6 false [8] 0
  | t7 : GiveK 1 7 6 false [8] 1
  | d8 : GiveK 1 8 1 true [10] 1
inductive FT (h op line ret : Int) (on : Bool) (qp c : Nat) : Prop
  | idle0 (ho : op = 0) (hr : ret = 0) (hh : h = 0) (hq : qp = 0) (hc : c = 0)
  | idle1 (ho : op = 0) (hr : ret = 0) (hh : h = 1) (hq : qp = 0) (hc : c = 1)
  | idle2 (ho : op = 0) (hr : ret = 0) (hh : h = 2) (hq : qp = 6) (hc : c = 0)
  | ent (j : Nat) (ho : op = 1 ∨ op = 3) (hj : j < 5) (hl : line = j) (hr : ret = 0) (hh : h = 0) (hq : qp = j + 1) (hc : c = 0)
  | tr (j : Nat) (ho : op = 5 ∨ op = 6) (hj : j < 2) (hl : line = j) (hr : ret = 0) (hh : h = 0) (hq : qp = j + 11) (hc : c = 0)
  | tr7 (j : Nat) (ho : op = 7) (hj : j < 2) (hl : line = j) (hr : ret = 0) (hh : h = 1) (hq : qp = j + 11) (hc : c = 1)
  | cnt (ho : op = 1 ∨ op = 5) (hl : line = 5) (hr : ret = 0) (hh : h = 0) (hq : qp = 6) (hc : c = 0)
  | wait (ho : op = 3) (hl : line = 5) (hr : ret = 0) (hh : h = 0) (hq : qp = 6) (hc : c = 0)
  | rel (ho : op = 2) (hl : line = 0) (hr : ret = 0) (hh : h = 0) (hq : qp = 0) (hc : c = 1)
  | we6 (ho : op = 6) (hl : line = 2) (hr : ret = 0) (hh : h = 0) (hq : qp = 6) (hc : c = 0)
  | we7 (ho : op = 7) (hl : line = 2) (hr : ret = 0) (hh : h = 1) (hq : qp = 6) (hc : c = 1)
  | up (ho : op = 7) (hl : line = 3) (hr : ret = 0) (hh : h = 1) (hq : qp = 6) (hc : c = 1)
  | down (ho : op = 8) (hl : line = 0) (hr : ret = 0) (hh : h = 1) (hq : qp = 6) (hc : c = 0)
  | give (j : Nat) (a : Int) (ok : Bool) (w : List Int) (hg : GiveK h op a ok w c) (hj : j < 4) (hl : line = a + j) (hr : ret = 0) (hq : qp = j + 7)
  | gave (a : Int) (ok : Bool) (w : List Int) (hg : GiveK h op a ok w c) (hr : ret = if ok then 2 else 1) (hon : on = true) (hq : qp = 0)
  | reld (ho : op = 2) (hr : ret = 2) (hh : h = 0) (hon : on = true) (hq : qp = 0) (hc : c = 0)
theorem GiveK.c1 {h op a : Int} {ok : Bool} {w : List Int} {c : Nat} (g : GiveK h op a ok w c) : c ≤ 1 := by cases g <;> omega
theorem GiveK.h1 {h op a : Int} {ok : Bool} {w : List Int} {c : Nat} (g : GiveK h op a ok w c) : h = 0 ∨ (h = 1 ∧ c = 1) := by cases g <;> omega
theorem FT.c1 {h op line ret : Int} {on : Bool} {qp c : Nat} (f : FT h op line ret on qp c) : c ≤ 1 := by
  cases f with
  | give j a ok w hg => exact hg.c1
  | gave a ok w hg => exact hg.c1
  | _ => omega
theorem FT.holds {h op line ret : Int} {on : Bool} {qp c : Nat} (f : FT h op line ret on qp c) : h = 0 ∨ (h = 1 ∧ (c = 1 ∨ qp = 6)) ∨ (h = 2 ∧ qp = 6 ∧ op = 0) := by
  cases f with
  | give j a ok w hg => have := hg.h1; omega
  | gave a ok w hg => have := hg.h1; omega
  | _ => omega
theorem FT.wait6 {h op line ret : Int} {on : Bool} {qp c : Nat} (f : FT h op line ret on qp c) (h3 : op = 3) (hl : line = 5) : qp = 6 := by
  cases f with
  | give j a ok w hg => cases hg <;> omega
  | gave a ok w hg => cases hg <;> omega
  | _ => omega
theorem FT.up6 {h op line ret : Int} {on : Bool} {qp c : Nat} (f : FT h op line ret on qp c) (h7 : op = 7) (hl : line = 3) (hr : ret = 0) : qp = 6 ∧ c = 1 := by
  cases f with
  | give j a ok w hg => cases hg <;> omega
  | gave a ok w hg => cases hg <;> (revert hr; simp_all)
  | _ => omega
structure FqI (k : Nat) (s : QS) (qp c : Nat → Nat) (m : MV) : Prop where
  q : QOK k s
  w : WordsT 0 k m.xs s
  f : ∀ i, i < k → FT (m.hold i) (m.rs i).op (m.rs i).line (m.rs i).ret (m.rs i).k.on (qp i) (c i)
  t : ∀ i, i < k → TQ s i (qp i) (m.rs i).a (m.rs i).s
  n : wordAt m.xs 1 = (sumN c k : Nat)
  z : ∀ i, i < k → (m.hold i = 2 ∨ ((m.rs i).op = 3 ∧ (m.rs i).line = 5 ∧ (m.rs i).s = 4)) → sumN c k = 0
  o : ∀ i, i < k → (m.rs i).op = 7 → (m.rs i).line = 3 → (m.rs i).ret = 0 → sumN c k = 1
section
variable {k t : Nat} {mode : Int} {s : QS} {qp c : Nat → Nat} {m : MV}
theorem TQ.six {s : QS} {i : Nat} {a st : Int} {p : Nat} (h : TQ s i p a st) (hp : p = 6) : s.ph i = 5 := by
  subst hp
  cases h with
  | own hp => exact hp
theorem FqI.one (h : FqI k s qp c m) {i j : Nat} (hi : i < k) (hj : j < k) (h1 : qp i = 6) (h2 : qp j = 6) : i = j := h.q.one hi hj ((h.t i hi).six h1) ((h.t j hj).six h2)
theorem sumN_two {f : Nat → Nat} {i j : Nat} : ∀ {k : Nat}, i < k → j < k → i ≠ j → f i + f j ≤ sumN f k := by
  intro k
  induction k with
  | zero => intro h; omega
  | succ k ih =>
    intro hi hj hn
    show _ ≤ sumN f k + f k
    by_cases e1 : i = k
    · have := sumN_at (f := f) (i := j) (k := k) (by omega)
      rw [e1]; omega
    · by_cases e2 : j = k
      · have := sumN_at (f := f) (i := i) (k := k) (by omega)
        rw [e2]; omega
      · have := ih (by omega) (by omega) hn
        omega
theorem FqI.alone (h : FqI k s qp c m) (ht : t < k) (h2 : m.hold t = 2) (i : Nat) (hi : i < k) (hne : i ≠ t) : m.hold i = 0 := by
  have ft := (h.f t ht).holds
  have fi := (h.f i hi).holds
  have hz := h.z t ht (.inl h2)
  have hc := sumN_at (f := c) hi
  have hq : qp t = 6 := by omega
  have : qp i ≠ 6 := fun e => hne (h.one hi ht e hq)
  omega
theorem FqI.set1 (h : FqI k s qp c m) (ht : t < k) {s' : QS} {R : LS} {hv : Int} {qp' c' : Nat} {xs' : List Int} {K : WkV} (hq : QOK k s') (hw : WordsT 0 k xs' s') (hoth : OthQ mode k t s s' K)
    (hf : FT hv R.op R.line R.ret R.k.on qp' c') (htq : TQ s' t qp' R.a R.s) (hn : wordAt xs' 1 = (sumN (upd c t c') k : Nat))
    (hz : (hv = 2 ∨ (R.op = 3 ∧ R.line = 5 ∧ R.s = 4)) → sumN (upd c t c') k = 0) (ho : R.op = 7 → R.line = 3 → R.ret = 0 → sumN (upd c t c') k = 1)
    (hmv : c' = c t ∨ qp t = 6 ∨ (c t = 1 ∧ c' = 0)) : FqI k s' (upd qp t qp') (upd c t c') ⟨upd m.rs t R, upd m.hold t hv, xs'⟩ := by
  have hsame : c' = c t → upd c t c' = c := fun e => by rw [e, updq_self]
  refine ⟨hq, hw, fun i hi => ?_, fun i hi => ?_, hn, fun i hi hh => ?_, fun i hi h7 hl hr => ?_⟩
  · dsimp only
    by_cases e : i = t
    · subst e; simp only [upd_same]; exact hf
    · simp only [upd_other _ _ e]; exact h.f i hi
  · dsimp only
    by_cases e : i = t
    · subst e; simp only [upd_same]; exact htq
    · simp only [upd_other _ _ e]; exact (h.t i hi).other hoth hi e
  · dsimp only at hh
    by_cases e : i = t
    · subst e; simp only [upd_same] at hh; exact hz hh
    · simp only [upd_other _ _ e] at hh
      have h0 := h.z i hi hh
      have q6 : qp i = 6 := by
        rcases hh with hh | hh
        · have := (h.f i hi).holds; omega
        · exact (h.f i hi).wait6 hh.1 hh.2.1
      rcases hmv with e1 | e1 | ⟨e1, _⟩
      · rw [hsame e1]; exact h0
      · exact absurd (h.one hi ht q6 e1) e
      · have := sumN_at (f := c) ht; omega
  · dsimp only at h7 hl hr
    by_cases e : i = t
    · subst e; simp only [upd_same] at h7 hl hr; exact ho h7 hl hr
    · simp only [upd_other _ _ e] at h7 hl hr
      have h0 := h.o i hi h7 hl hr
      obtain ⟨q6, c6⟩ := (h.f i hi).up6 h7 hl hr
      rcases hmv with e1 | e1 | ⟨e1, _⟩
      · rw [hsame e1]; exact h0
      · exact absurd (h.one hi ht q6 e1) e
      · have := sumN_two (f := c) hi ht e; omega
end
end Go.Proofs.Ytkkldcggbekleaa
set_option linter.unusedVariables false
set_option linter.unusedSimpArgs false
namespace Go.Proofs.Ytkkldcggbekleaa
def wtQ : WtG := fun n task op line _ _ =>
  if (op = 1 ∨ op = 3) ∧ line = 4 then some (bc n task, isZ) else if op = 3 ∧ line = 5 then some (1, isZ)
  else if ((op = 1 ∨ op = 5 ∨ op = 6 ∨ op = 7) ∧ line = 8) ∨ (op = 4 ∧ line = 2) ∨ (op = 8 ∧ line = 3) then some (nc n task, isN) else none
section
variable {r : LS} {cl a : Int} {ok : Bool} {w : List Int} {j : Nat}
theorem fq_enter (ho : r.op = 1 ∨ r.op = 3) (hl : r.line = (j : Int)) (hj : j < 5) : r.fq = r.qEnter (if r.op = 1 then 1 else 2) := by
  unfold LS.fq; rw [show fqCase r.op r.line = 1 from if_pos ⟨ho, by omega, by omega⟩]; rfl
theorem fq_try (ho : r.op = 5 ∨ r.op = 6 ∨ r.op = 7) (hl : r.line = (j : Int)) (hj : j < 2) : r.fq = r.qTry := by
  unfold LS.fq
  rw [show fqCase r.op r.line = 2 by unfold fqCase; rw [if_neg (by omega), if_pos ⟨ho, by omega, by omega⟩]]
  rfl
theorem fq_cnt (ho : r.op = 1 ∨ r.op = 5) (hl : r.line = 5) : r.fq = (r.doA 3 1 1 0).go 6 := by
  unfold LS.fq
  rw [show fqCase r.op r.line = 3 by unfold fqCase; rw [if_neg (by omega), if_neg (by omega), if_pos ⟨ho, hl⟩]]
  rfl
theorem fq_rel (ho : r.op = 2) (hl : r.line = 0) : r.fq = (((r.doA 3 1 4294967295 0).note 6 0).wake 1).fin true := by
  unfold LS.fq; rw [show fqCase r.op r.line = 5 by rw [ho, hl]; rfl]; rfl
theorem fq_wait (ho : r.op = 3) (hl : r.line = 5) : r.fq = if (r.stepR 1 isZ).done then ((r.wait 1 isZ).noteIf (r.stepR 1 isZ).seen 4).fin true else (r.wait 1 isZ).noteIf (r.stepR 1 isZ).seen 4 := by
  unfold LS.fq; rw [show fqCase r.op r.line = 6 by rw [ho, hl]; rfl]; rfl
theorem fq_we6 (ho : r.op = 6) (hl : r.line = 2) : r.fq = if wordAt r.xs 1 = 0 then (r.qCount.note 4 0).fin true else (r.qCount.note 5 0).go 6 := by
  unfold LS.fq; rw [show fqCase r.op r.line = 8 by rw [ho, hl]; rfl]; rfl
theorem fq_we7 (ho : r.op = 7) (hl : r.line = 2) : r.fq = if wordAt r.xs 1 = 1 then r.qCount.go 3 else (r.qCount.note 5 0).go 6 := by
  unfold LS.fq; rw [show fqCase r.op r.line = 9 by rw [ho, hl]; rfl]; rfl
theorem fq_up (ho : r.op = 7) (hl : r.line = 3) : r.fq = ((r.doA 3 1 4294967295 0).note 9 0).fin true := by
  unfold LS.fq; rw [show fqCase r.op r.line = 10 by rw [ho, hl]; rfl]; rfl
theorem fq_down (ho : r.op = 8) (hl : r.line = 0) : r.fq = (r.doA 3 1 1 0).go 1 := by
  unfold LS.fq; rw [show fqCase r.op r.line = 12 by rw [ho, hl]; rfl]; rfl
theorem fq_of4 (e : fqCase r.op r.line = 4) : r.fq = r.qGive 6 true [4] := by unfold LS.fq; rw [e]; rfl
theorem fq_of7 (e : fqCase r.op r.line = 7) : r.fq = r.qGive 0 true [7, 8] := by unfold LS.fq; rw [e]; rfl
theorem fq_of11 (e : fqCase r.op r.line = 11) : r.fq = r.qGive 6 false [8] := by unfold LS.fq; rw [e]; rfl
theorem fq_of13 (e : fqCase r.op r.line = 13) : r.fq = r.qGive 1 true [10] := by unfold LS.fq; rw [e]; rfl
theorem fq_give {h op : Int} {c : Nat} (hg : GiveK h op a ok w c) (ho : r.op = op) (hl : r.line = a + (j : Int)) (hj : j < 4) : r.fq = r.qGive a ok w := by
  have h4 : j = 0 ∨ j = 1 ∨ j = 2 ∨ j = 3 := by omega
  cases hg with
  | r1 | r5 => exact fq_of4 (by rcases h4 with rfl | rfl | rfl | rfl <;> (rw [ho, hl]; rfl))
  | u4 => exact fq_of7 (by rcases h4 with rfl | rfl | rfl | rfl <;> (rw [ho, hl]; rfl))
  | l6 | t7 => exact fq_of11 (by rcases h4 with rfl | rfl | rfl | rfl <;> (rw [ho, hl]; rfl))
  | d8 => exact fq_of13 (by rcases h4 with rfl | rfl | rfl | rfl <;> (rw [ho, hl]; rfl))
theorem wtQ_enter (ho : r.op = 1 ∨ r.op = 3) (hl : r.line = 4) : wtR wtQ r = some (bc r.n r.task, isZ) := if_pos ⟨ho, hl⟩
theorem wtQ_wait (ho : r.op = 3) (hl : r.line = 5) : wtR wtQ r = some (1, isZ) := by
  show wtQ _ _ _ _ _ _ = _
  unfold wtQ
  rw [if_neg (by omega), if_pos ⟨ho, hl⟩]
theorem wtQ_give {h op : Int} {c : Nat} (hg : GiveK h op a ok w c) (ho : r.op = op) (hl : r.line = a + 2) : wtR wtQ r = some (nc r.n r.task, isN) := by
  show wtQ _ _ _ _ _ _ = _
  unfold wtQ
  cases hg <;> rw [if_neg (by omega), if_neg (by omega), if_pos (by omega)]
theorem qEnter_0 (hl : r.line = 0) : r.qEnter cl = (r.doA 2 (nc r.n r.task) 0 0).go 1 := by
  have e : r.mxEnter 0 cl = ((r.doA 2 (nc r.n r.task) 0 0).go 1, false) := by unfold LS.mxEnter; rw [if_pos hl]
  unfold LS.qEnter; rw [e]; rfl
theorem qEnter_1 (hl : r.line = 1) : r.qEnter cl = (r.doA 2 (bc r.n r.task) 1 0).go 2 := by
  have e : r.mxEnter 0 cl = ((r.doA 2 (bc r.n r.task) 1 0).go 2, false) := by unfold LS.mxEnter; rw [if_neg (by omega), if_pos hl]
  unfold LS.qEnter; rw [e]; rfl
theorem qEnter_2 (hl : r.line = 2) : r.qEnter cl = if wordAt r.xs 0 = 0 then (r.swapIn 0 cl).go 5 else (r.swapIn 0 cl).go 3 := by
  have e : r.mxEnter 0 cl = (if wordAt r.xs 0 = 0 then (r.swapIn 0 cl, true) else ((r.swapIn 0 cl).go 3, false)) := by unfold LS.mxEnter; rw [if_neg (by omega), if_neg (by omega), if_pos hl]
  unfold LS.qEnter; rw [e]
  by_cases e : wordAt r.xs 0 = 0
  · simp only [if_pos e, if_true]
  · simp only [if_neg e, Bool.false_eq_true, if_false]
theorem qEnter_3 (hl : r.line = 3) : r.qEnter cl = r.link := by
  have e : r.mxEnter 0 cl = (r.link, false) := by unfold LS.mxEnter; rw [if_neg (by omega), if_neg (by omega), if_neg (by omega), if_pos hl]
  unfold LS.qEnter; rw [e]; rfl
theorem qEnter_4 (hl : r.line = 4) : r.qEnter cl = if (r.stepR (bc r.n r.task) isZ).done then (r.wait (bc r.n r.task) isZ).go 5 else r.wait (bc r.n r.task) isZ := by
  have e : r.mxEnter 0 cl = (r.wait (bc r.n r.task) isZ, (r.stepR (bc r.n r.task) isZ).done) := by unfold LS.mxEnter; rw [if_neg (by omega), if_neg (by omega), if_neg (by omega), if_neg (by omega), if_pos hl]
  unfold LS.qEnter; rw [e]
theorem qGive_0 (hl : r.line = a) : r.qGive a ok w = if wordAt r.xs (nc r.n r.task) = 0 then r.peek.go (a + 1) else r.peek.go (a + 3) := by
  have e : r.mxGive 0 a w = (if wordAt r.xs (nc r.n r.task) = 0 then r.peek.go (a + 1) else r.peek.go (a + 3), false) := by unfold LS.mxGive; rw [if_pos hl]
  unfold LS.qGive; rw [e]; rfl
theorem qGive_1 (hl : r.line = a + 1) : r.qGive a ok w = if r.casOut 0 then ((r.doA 5 0 r.me 0).notes w).fin ok else (r.doA 5 0 r.me 0).go (a + 2) := by
  have e : r.mxGive 0 a w = (if r.casOut 0 then ((r.doA 5 0 r.me 0).notes w, true) else ((r.doA 5 0 r.me 0).go (a + 2), false)) := by unfold LS.mxGive; rw [if_neg (by omega), if_pos hl]
  unfold LS.qGive; rw [e]
  cases r.casOut 0
  · simp only [Bool.false_eq_true, if_false]
  · simp only [if_true]
theorem qGive_2 (hl : r.line = a + 2) : r.qGive a ok w = if (r.stepR (nc r.n r.task) isN).done then r.seeN.go (a + 3) else r.seeN := by
  have e : r.mxGive 0 a w = (if (r.stepR (nc r.n r.task) isN).done then r.seeN.go (a + 3) else r.seeN, false) := by unfold LS.mxGive; rw [if_neg (by omega), if_neg (by omega), if_pos hl]
  unfold LS.qGive; rw [e]; rfl
theorem qGive_3 (hl : r.line = a + 3) : r.qGive a ok w = (r.handOn w).fin ok := by
  have e : r.mxGive 0 a w = (r.handOn w, true) := by unfold LS.mxGive; rw [if_neg (by omega), if_neg (by omega), if_neg (by omega), if_pos hl]
  unfold LS.qGive; rw [e]; rfl
theorem qTry_0 (hl : r.line = 0) : r.qTry = (r.doA 2 (nc r.n r.task) 0 0).go 1 := by
  have e : r.mxTry 0 0 = ((r.doA 2 (nc r.n r.task) 0 0).go 1, false, false) := by unfold LS.mxTry; rw [if_pos hl]; rfl
  unfold LS.qTry; rw [e]; rfl
theorem qTry_1 (hl : r.line = 1) : r.qTry = if there r.xs 0 && (wordAt r.xs 0 == 0) then (if r.op = 5 then ((r.doA 5 0 0 r.me).note 2 1).go 5 else ((r.doA 5 0 0 r.me).note 2 2).go 2) else ((r.doA 5 0 0 r.me).note 5 0).fin false := by
  have e : r.mxTry 0 0 = (r.doA 5 0 0 r.me, true, there r.xs 0 && (wordAt r.xs 0 == 0)) := by unfold LS.mxTry; rw [if_neg (by omega), if_pos (by omega)]
  unfold LS.qTry; rw [e]; rfl
end
structure FqMv (k : Nat) (mode : Int) (t : Nat) (s : QS) (qp c : Nat → Nat) (m : MV) (R : LS) (s' : QS) (qp' c' : Nat) : Prop where
  q : QOK k s'
  w : WordsT 0 k R.xs s'
  oth : OthQ mode k t s s' R.k
  f : FT (R.finH (m.hold t)) R.finR.op R.finR.line R.finR.ret R.finR.k.on qp' c'
  tq : TQ s' t qp' R.finR.a R.finR.s
  n : wordAt R.xs 1 = (sumN (upd c t c') k : Nat)
  z : (R.finH (m.hold t) = 2 ∨ (R.finR.op = 3 ∧ R.finR.line = 5 ∧ R.finR.s = 4)) → sumN (upd c t c') k = 0
  o : R.finR.op = 7 → R.finR.line = 3 → R.finR.ret = 0 → sumN (upd c t c') k = 1
  mv : c' = c t ∨ qp t = 6 ∨ (c t = 1 ∧ c' = 0 ∧ R.k = beginI mode 1)
  far : (m.rs t).k.on = false → wtR wtQ (m.rs t) = none → ∀ d : Int, 8 + 2 * (k : Int) ≤ d → wordAt R.xs d = wordAt m.xs d
section
variable {k t : Nat} {mode : Int} {s s' : QS} {qp c : Nat → Nat} {m : MV} {R : LS} {qp' c' : Nat}
theorem FqMv.keep (g : FqMv k mode t s qp c m R s' qp' c') (h : FqI k s qp c m) (ht : t < k) : FqI k s' (upd qp t qp') (upd c t c') ⟨upd m.rs t R.finR, upd m.hold t (R.finH (m.hold t)), R.xs⟩ :=
  h.set1 ht g.q g.w g.oth g.f g.tq g.n g.z g.o (by rcases g.mv with e | e | ⟨e1, e2, _⟩; exact .inl e; exact .inr (.inl e); exact .inr (.inr ⟨e1, e2⟩))
theorem mv_stay (hr0 : R.ret = 0) (q : QOK k s') (w : WordsT 0 k R.xs s') (oth : OthQ mode k t s s' R.k) (f : FT (m.hold t) R.op R.line 0 R.k.on qp' c') (tq : TQ s' t qp' R.a R.s) (n : wordAt R.xs 1 = (sumN (upd c t c') k : Nat))
    (z : (m.hold t = 2 ∨ (R.op = 3 ∧ R.line = 5 ∧ R.s = 4)) → sumN (upd c t c') k = 0) (o : R.op = 7 → R.line = 3 → sumN (upd c t c') k = 1)
    (mv : c' = c t ∨ qp t = 6 ∨ (c t = 1 ∧ c' = 0 ∧ R.k = beginI mode 1)) (far : (m.rs t).k.on = false → wtR wtQ (m.rs t) = none → ∀ d : Int, 8 + 2 * (k : Int) ≤ d → wordAt R.xs d = wordAt m.xs d) : FqMv k mode t s qp c m R s' qp' c' := by
  have ho : R.over = false := by unfold LS.over; rw [hr0]; rfl
  have e1 : R.finR = R := by unfold LS.finR; rw [ho]; rfl
  have e2 : R.finH (m.hold t) = m.hold t := by unfold LS.finH; rw [ho]; rfl
  exact ⟨q, w, oth, by rw [e1, e2, hr0]; exact f, by rw [e1]; exact tq, n, by rw [e1, e2]; exact z, by rw [e1]; exact fun a b _ => o a b, mv, far⟩
theorem mv_end (hr0 : R.ret ≠ 0) (q : QOK k s') (w : WordsT 0 k R.xs s') (oth : OthQ mode k t s s' R.k) (f1 : R.k.on = true → FT (m.hold t) R.op R.line R.ret true qp' c' ∧ m.hold t ≠ 2 ∧ R.op ≠ 3) (f0 : ∀ on, FT (behindI R.op R.ret (m.hold t)) 0 0 0 on qp' c') (tq : ∀ a st, TQ s' t qp' a st) (n : wordAt R.xs 1 = (sumN (upd c t c') k : Nat))
    (z : behindI R.op R.ret (m.hold t) = 2 → sumN (upd c t c') k = 0)
    (mv : c' = c t ∨ qp t = 6 ∨ (c t = 1 ∧ c' = 0 ∧ R.k = beginI mode 1)) (far : (m.rs t).k.on = false → wtR wtQ (m.rs t) = none → ∀ d : Int, 8 + 2 * (k : Int) ≤ d → wordAt R.xs d = wordAt m.xs d) : FqMv k mode t s qp c m R s' qp' c' := by
  cases hon : R.k.on
  · have ho : R.over = true := by unfold LS.over; rw [hon]; simpa using hr0
    have e1 : R.finR = zeroF R 0 := by unfold LS.finR; rw [ho]; rfl
    have e2 : R.finH (m.hold t) = behindI R.op R.ret (m.hold t) := by unfold LS.finH; rw [ho]; rfl
    exact ⟨q, w, oth, by rw [e1, e2]; exact f0 _, by rw [e1]; exact tq _ _, n, by rw [e1, e2]; exact fun e => e.elim z (fun e => absurd e.1 (by show (0 : Int) ≠ 3; decide)), by rw [e1]; exact fun e => absurd e (by show (0 : Int) ≠ 7; decide), mv, far⟩
  · have ho : R.over = false := by unfold LS.over; rw [hon]; simp
    have e1 : R.finR = R := by unfold LS.finR; rw [ho]; rfl
    have e2 : R.finH (m.hold t) = m.hold t := by unfold LS.finH; rw [ho]; rfl
    obtain ⟨g1, g2, g3⟩ := f1 hon
    exact ⟨q, w, oth, by rw [e1, e2, hon]; exact g1, by rw [e1]; exact tq _ _, n, by rw [e1, e2]; exact fun e => e.elim (fun e => absurd e g2) (fun e => absurd e.1 g3), by rw [e1]; exact fun _ _ e => absurd e hr0, mv, far⟩
end
end Go.Proofs.Ytkkldcggbekleaa
set_option linter.unusedVariables false
set_option linter.unusedSimpArgs false
namespace Go.Proofs.Ytkkldcggbekleaa
theorem TQ.any {s : QS} {i p : Nat} {a st a' st' : Int} (h : TQ s i p a st) (hp : p = 0 ∨ p = 6) : TQ s i p a' st' := by
  rcases hp with rfl | rfl
  · cases h with
    | out hp => exact .out hp
  · cases h with
    | own hp => exact .own hp
theorem GiveK.op7 {h op a : Int} {ok : Bool} {w : List Int} {c : Nat} (g : GiveK h op a ok w c) : op ≠ 3 ∧ op ≠ 0 ∧ (op = 7 → a = 6) ∧ h ≠ 2 := by cases g <;> decide
theorem GiveK.idle {h op a : Int} {ok : Bool} {w : List Int} {c : Nat} (g : GiveK h op a ok w c) (on : Bool) : FT (behindI op (if ok then 2 else 1) h) 0 0 0 on 0 c ∧ behindI op (if ok then 2 else 1) h ≠ 2 := by
  cases g with
  | r1 => exact ⟨.idle1 rfl rfl rfl rfl rfl, by decide⟩
  | r5 => exact ⟨.idle1 rfl rfl rfl rfl rfl, by decide⟩
  | u4 => exact ⟨.idle0 rfl rfl rfl rfl rfl, by decide⟩
  | l6 => exact ⟨.idle0 rfl rfl rfl rfl rfl, by decide⟩
  | t7 => exact ⟨.idle1 rfl rfl rfl rfl rfl, by decide⟩
  | d8 => exact ⟨.idle1 rfl rfl rfl rfl rfl, by decide⟩
theorem seeN_same (r : LS) : r.seeN.op = r.op ∧ r.seeN.line = r.line ∧ r.seeN.ret = r.ret ∧ r.seeN.k = r.k ∧ r.seeN.b = r.b ∧ r.seeN.n = r.n ∧ r.seeN.mode = r.mode ∧ r.seeN.task = r.task := by
  unfold LS.seeN
  split <;> exact ⟨rfl, rfl, rfl, rfl, rfl, rfl, rfl, rfl⟩
theorem doA_fr (r : LS) (k c x y : Int) : (r.doA k c x y).op = r.op ∧ (r.doA k c x y).line = r.line ∧ (r.doA k c x y).ret = r.ret ∧ (r.doA k c x y).k = r.k ∧ (r.doA k c x y).s = r.s := ⟨rfl, rfl, rfl, rfl, rfl⟩
theorem swapIn_fr (r : LS) (tl cl : Int) : (r.swapIn tl cl).op = r.op ∧ (r.swapIn tl cl).line = r.line ∧ (r.swapIn tl cl).ret = r.ret ∧ (r.swapIn tl cl).k = r.k ∧ (r.swapIn tl cl).s = r.s := by
  unfold LS.swapIn
  generalize r.me = x
  exact ⟨rfl, rfl, rfl, rfl, rfl⟩
theorem qCount_fr (r : LS) : r.qCount.op = r.op ∧ r.qCount.line = r.line ∧ r.qCount.ret = r.ret ∧ r.qCount.k = r.k ∧ r.qCount.s = r.s ∧ r.qCount.xs = r.xs := by
  unfold LS.qCount
  generalize wordAt r.xs 1 = y
  exact ⟨rfl, rfl, rfl, rfl, rfl, own_load⟩
theorem peek_fr (r : LS) : r.peek.op = r.op ∧ r.peek.line = r.line ∧ r.peek.ret = r.ret ∧ r.peek.k = r.k ∧ r.peek.s = r.s := by
  unfold LS.peek
  generalize nc r.n r.task = x
  generalize wordAt r.xs x = y
  exact ⟨rfl, rfl, rfl, rfl, rfl⟩
theorem AtQ.step {tc mode : Int} {k t : Nat} {s : QS} {r : LS} (h : AtQ tc mode k t s r) (c : Int) (q : Int → Bool) : r.stepR c q = stepI r.xs k mode t r.s c q := by
  unfold LS.stepR; rw [h.n, h.mode, h.task]
theorem AtQ.done0 {tc mode : Int} {k t : Nat} {s : QS} {r : LS} (h : AtQ tc mode k t s r) {c : Int} {q : Int → Bool} (hd : (r.stepR c q).done = true) : (r.stepR c q).next = 0 := by
  rw [h.step] at hd ⊢; exact step_done0 hd
theorem wait_fr (r : LS) (c : Int) (q : Int → Bool) : (r.wait c q).op = r.op ∧ (r.wait c q).line = r.line ∧ (r.wait c q).ret = r.ret ∧ (r.wait c q).k = r.k ∧ (r.wait c q).s = (r.stepR c q).next := by
  unfold LS.wait
  generalize r.stepR c q = x
  exact ⟨rfl, rfl, rfl, rfl, rfl⟩
theorem link_fr (r : LS) : r.link.op = r.op ∧ r.link.line = 4 ∧ r.link.ret = r.ret ∧ r.link.s = r.s := by
  unfold LS.link
  generalize r.me = x
  generalize nc r.n (r.a - 1) = y
  exact ⟨rfl, rfl, rfl, rfl⟩
section
variable {k t : Nat} {mode : Int} {s : QS} {qp c : Nat → Nat} {m : MV} {R r : LS} {qp' : Nat} {pl : Bool}
theorem mv_q (h : FqI k s qp c m) (hQ : QStep 0 mode k t s pl r R qp') (hx : r.xs = m.xs) (hpl : (m.rs t).k.on = false → wtR wtQ (m.rs t) = none → pl = true) (hr0 : R.ret = 0) (hop : R.op ≠ 0) (hf : FT (m.hold t) R.op R.line 0 R.k.on qp' (c t))
    (hz : R.op = 3 → R.line = 5 → R.s ≠ 4) (ho : R.op = 7 → R.line ≠ 3) : ∃ s' qp' c', FqMv k mode t s qp c m R s' qp' c' := by
  obtain ⟨s', q1, w1, t1, o1, f1⟩ := hQ
  rw [hx] at f1
  have hh := hf.holds
  exact ⟨s', qp', c t, mv_stay hr0 q1 w1 o1 hf t1 (by rw [updq_self, f1 1 (by decide) (by decide) (.inl (by decide))]; exact h.n) (fun e => by
    rcases e with e | ⟨e1, e2, e3⟩
    · omega
    · exact absurd e3 (hz e1 e2)) (fun e1 e2 => absurd e2 (ho e1)) (.inl rfl) fun e0 e d hd => f1 d (by omega) (by omega) (.inr ⟨hpl e0 e, hd⟩)⟩
theorem mv_qe (h : FqI k s qp c m) (hQ : QStep 0 mode k t s pl r R qp') (hx : r.xs = m.xs) (hpl : (m.rs t).k.on = false → wtR wtQ (m.rs t) = none → pl = true) (hr0 : R.ret ≠ 0) (hp : qp' = 0 ∨ qp' = 6)
    (hf1 : R.k.on = true → FT (m.hold t) R.op R.line R.ret true qp' (c t) ∧ m.hold t ≠ 2 ∧ R.op ≠ 3) (hf0 : ∀ on, FT (behindI R.op R.ret (m.hold t)) 0 0 0 on qp' (c t)) (hz : behindI R.op R.ret (m.hold t) = 2 → sumN c k = 0) : ∃ s' qp' c', FqMv k mode t s qp c m R s' qp' c' := by
  obtain ⟨s', q1, w1, t1, o1, f1⟩ := hQ
  rw [hx] at f1
  exact ⟨s', qp', c t, mv_end hr0 q1 w1 o1 hf1 hf0 (fun a st => t1.any hp) (by rw [updq_self, f1 1 (by decide) (by decide) (.inl (by decide))]; exact h.n) (fun e => by rw [updq_self]; exact hz e) (.inl rfl) fun e0 e d hd => f1 d (by omega) (by omega) (.inr ⟨hpl e0 e, hd⟩)⟩
theorem sum_small (h : FqI k s qp c m) : sumN c k ≤ k := by
  have h1 := sumN_le (f := c) (g := fun _ => 1) (k := k) fun i hi => (h.f i hi).c1
  have h2 := sumN_const (c := 1) (k := k)
  omega
theorem sum_upd (ht : t < k) (c' : Nat) : sumN (upd c t c') k + c t = sumN c k + c' := by
  have := sumN_upd (f := c) (g := upd c t c') (t := t) (k := k) ht (fun i _ hn => upd_other _ _ hn)
  rwa [upd_same] at this
theorem add_word (hk : k ≤ 64) (h : FqI k s qp c m) (ht : t < k) (x : Int) (c' : Nat) (hc : (x = 1 ∧ c t = 0 ∧ c' = 1) ∨ (x = 4294967295 ∧ c t = 1 ∧ c' = 0)) : wordAt (doNew m.xs 3 1 x 0) 1 = (sumN (upd c t c') k : Nat) ∧ WordsT 0 k (doNew m.xs 3 1 x 0) s ∧ ∀ d : Int, 8 + 2 * (k : Int) ≤ d → wordAt (doNew m.xs 3 1 x 0) d = wordAt m.xs d := by
  have h1 := sum_small h
  have h2 := sum_upd (c := c) ht c'
  refine ⟨?_, ?_, fun d hd => own_add_far (by omega)⟩
  · rw [own_add (h.w.th (by decide) (by omega)), h.n]
    omega
  · rw [doNew_st _ _ _ _ _ rfl]
    exact h.w.own ⟨by decide, by decide⟩ hk (by decide) (by decide) _
theorem mv_ent (hk : k ≤ 64) (A : AtQ 0 mode k t s (m.at t).fresh) (h : FqI k s qp c m) (ht : t < k) (hs0 : wtR wtQ (m.rs t) = none → (m.rs t).s = 0) (hret : (m.rs t).ret = 0) {j : Nat} (ho : (m.rs t).op = 1 ∨ (m.rs t).op = 3) (hj : j < 5) (hl : (m.rs t).line = j) (hh : m.hold t = 0) (hq : qp t = j + 1) (hc : c t = 0) : ∃ s' qp' c', FqMv k mode t s qp c m (m.at t).fresh.fq s' qp' c' := by
  have T := h.t t ht
  rw [hq] at T
  rw [fq_enter (r := (m.at t).fresh) ho hl hj]
  generalize (if (m.at t).fresh.op = 1 then (1 : Int) else 2) = cl
  have hop : (m.rs t).op ≠ 0 := by omega
  have h7 : (m.rs t).op ≠ 7 := by omega
  have in5 : ∀ on, FT (m.hold t) (m.rs t).op 5 0 on 6 (c t) := fun on => by
    rcases ho with ho | ho
    · exact .cnt (.inl ho) rfl rfl hh rfl hc
    · exact .wait ho rfl rfl hh rfl hc
  have none : j ≠ 4 → wtR wtQ (m.rs t) = none := fun e => by
    show wtQ _ _ _ _ _ _ = none
    unfold wtQ
    rw [if_neg (by omega), if_neg (by omega), if_neg (by omega)]
  have h5 : j = 0 ∨ j = 1 ∨ j = 2 ∨ j = 3 ∨ j = 4 := by omega
  rcases h5 with rfl | rfl | rfl | rfl | rfl
  · rw [qEnter_0 (r := (m.at t).fresh) hl]
    exact mv_q h (q_e0 A T) rfl (fun _ _ => rfl) hret hop (.ent 1 ho (by decide) rfl rfl hh rfl hc) (fun _ e => by cases e) (fun e => absurd e h7)
  · rw [qEnter_1 (r := (m.at t).fresh) hl]
    exact mv_q h (q_e1 A T) rfl (fun _ _ => rfl) hret hop (.ent 2 ho (by decide) rfl rfl hh rfl hc) (fun _ e => by cases e) (fun e => absurd e h7)
  · rw [qEnter_2 (r := (m.at t).fresh) hl, A.wt]
    have h0 := hs0 (none (by decide))
    obtain ⟨g1, g2⟩ := q_e2 (cl := cl) (x := 3) A T
    obtain ⟨f1, f2, f3, f4, f5⟩ := swapIn_fr (m.at t).fresh 0 cl
    have f1' : ((m.at t).fresh.swapIn 0 cl).op = (m.rs t).op := f1.trans rfl
    have f5' : ((m.at t).fresh.swapIn 0 cl).s = (m.rs t).s := f5.trans rfl
    generalize (m.at t).fresh.swapIn 0 cl = R0 at g1 g2 f1 f2 f3 f4 f5 f1' f5' ⊢
    by_cases hz : s.tail = 0
    · rw [if_pos hz]
      exact mv_q h ((g1 hz).same (R' := R0.go 5) rfl rfl rfl rfl) rfl (fun _ _ => rfl) (f3.trans hret) (by show R0.op ≠ 0; rw [f1']; exact hop) (by show FT _ R0.op 5 0 _ _ _; rw [f1']; exact in5 _) (fun _ _ e => by
        have e' : R0.s = 4 := e
        omega) (fun e => absurd (f1'.symm.trans e) h7)
    · rw [if_neg hz]
      exact mv_q h (g2 hz) rfl (fun _ _ => rfl) (f3.trans hret) (by show R0.op ≠ 0; rw [f1']; exact hop) (by show FT _ R0.op 3 0 _ _ _; rw [f1']; exact .ent 3 ho (by decide) rfl rfl hh rfl hc) (fun _ e => by cases e) (fun e => absurd (f1'.symm.trans e) h7)
  · rw [qEnter_3 (r := (m.at t).fresh) hl]
    have hQ := q_e3 A T (hs0 (none (by decide)))
    obtain ⟨f1, f2, f3, f5⟩ := link_fr (m.at t).fresh
    have f1' : (m.at t).fresh.link.op = (m.rs t).op := f1.trans rfl
    generalize (m.at t).fresh.link = R0 at hQ f1 f2 f3 f5 f1' ⊢
    exact mv_q h hQ rfl (fun _ _ => rfl) (f3.trans hret) (by rw [f1']; exact hop) (by rw [f1', f2]; exact .ent 4 ho (by decide) rfl rfl hh rfl hc) (fun _ e => by rw [f2] at e; cases e) (fun e => absurd (f1'.symm.trans e) h7)
  · rw [qEnter_4 (r := (m.at t).fresh) hl]
    have hw := wtQ_enter (r := m.rs t) ho hl
    obtain ⟨g1, g2⟩ := q_e4 A T
    obtain ⟨f1, f2, f3, f4, f5⟩ := wait_fr (m.at t).fresh (bc (m.at t).fresh.n (m.at t).fresh.task) isZ
    have hd0 := A.done0 (c := bc (m.at t).fresh.n (m.at t).fresh.task) (q := isZ)
    have f1' : ((m.at t).fresh.wait (bc (m.at t).fresh.n (m.at t).fresh.task) isZ).op = (m.rs t).op := f1.trans rfl
    have f2' : ((m.at t).fresh.wait (bc (m.at t).fresh.n (m.at t).fresh.task) isZ).line = (4 : Nat) := f2.trans hl
    generalize (m.at t).fresh.wait (bc (m.at t).fresh.n (m.at t).fresh.task) isZ = R0 at g1 g2 f1 f2 f3 f4 f5 f1' f2' ⊢
    generalize (m.at t).fresh.stepR (bc (m.at t).fresh.n (m.at t).fresh.task) isZ = S at g1 g2 f5 hd0 ⊢
    cases hd : S.done
    · rw [if_neg Bool.false_ne_true]
      exact mv_q h (g1 hd) rfl (fun _ e => by rw [hw] at e; cases e) (f3.trans hret) (by rw [f1']; exact hop) (by rw [f1', f2']; exact .ent 4 ho (by decide) rfl rfl hh rfl hc) (fun _ e => by rw [f2'] at e; cases e) (fun e => absurd (f1'.symm.trans e) h7)
    · rw [if_pos rfl]
      refine mv_q h ((g2 hd).same (R' := R0.go 5) rfl rfl rfl rfl) rfl (fun _ e => by rw [hw] at e; cases e) (f3.trans hret) (by show R0.op ≠ 0; rw [f1']; exact hop) (by show FT _ R0.op 5 0 _ _ _; rw [f1']; exact in5 _) (fun _ _ e => ?_) (fun e => absurd (f1'.symm.trans e) h7)
      have e' : R0.s = 4 := e
      have := hd0 hd
      omega
theorem mv_give (hk : k ≤ 64) (A : AtQ 0 mode k t s (m.at t).fresh) (h : FqI k s qp c m) (ht : t < k) (hon : (m.rs t).k.on = false) (hs0 : wtR wtQ (m.rs t) = none → (m.rs t).s = 0) (hret : (m.rs t).ret = 0) {j : Nat} {a : Int} {ok : Bool} {w : List Int} (hg : GiveK (m.hold t) (m.rs t).op a ok w (c t)) (hj : j < 4) (hl : (m.rs t).line = a + j) (hq : qp t = j + 7) : ∃ s' qp' c', FqMv k mode t s qp c m (m.at t).fresh.fq s' qp' c' := by
  have T := h.t t ht
  rw [hq] at T
  rw [fq_give (r := (m.at t).fresh) hg rfl hl hj]
  obtain ⟨o3, o0, o7, o2⟩ := hg.op7
  have stay : ∀ (l : Int) (e : Nat) (on : Bool), l = a + e → e < 4 → FT (m.hold t) (m.rs t).op l 0 on (e + 7) (c t) := fun l e on hl he => .give e a ok w hg he hl rfl rfl
  have no3 : ∀ (l : Int) (e : Nat), l = a + e → (m.rs t).op = 7 → l ≠ 3 := fun l e hl h7 => by
    have := o7 h7; omega
  have hok : (if ok then (2 : Int) else 1) ≠ 0 := by cases ok <;> decide
  have none : j ≠ 2 → wtR wtQ (m.rs t) = none := fun e => by
    show wtQ _ _ _ _ _ _ = none
    unfold wtQ
    have : ¬ ((((m.rs t).op = 1 ∨ (m.rs t).op = 5 ∨ (m.rs t).op = 6 ∨ (m.rs t).op = 7) ∧ (m.rs t).line = 8) ∨ ((m.rs t).op = 4 ∧ (m.rs t).line = 2) ∨ ((m.rs t).op = 8 ∧ (m.rs t).line = 3)) := by
      generalize (m.rs t).op = op at *
      generalize m.hold t = hv at *
      generalize c t = cv at *
      cases hg <;> omega
    have h2 : ¬ (((m.rs t).op = 1 ∨ (m.rs t).op = 3) ∧ (m.rs t).line = 4) := by
      generalize (m.rs t).op = op at *
      generalize m.hold t = hv at *
      generalize c t = cv at *
      cases hg <;> omega
    rw [if_neg h2, if_neg (fun e => o3 e.1), if_neg this]
  have h5 : j = 0 ∨ j = 1 ∨ j = 2 ∨ j = 3 := by omega
  rcases h5 with rfl | rfl | rfl | rfl
  · rw [qGive_0 (r := (m.at t).fresh) (by show (m.rs t).line = a; omega), A.wn]
    obtain ⟨g1, g2⟩ := q_g0 (x := a + 1) A T
    obtain ⟨_, g3⟩ := q_g0 (x := a + 3) A T
    obtain ⟨f1, f2, f3, f4, f5⟩ := peek_fr (m.at t).fresh
    have f1' : (m.at t).fresh.peek.op = (m.rs t).op := f1.trans rfl
    generalize (m.at t).fresh.peek = R0 at g1 g2 g3 f1 f2 f3 f4 f5 f1' ⊢
    by_cases hz : s.nx t = 0
    · rw [if_pos hz]
      exact mv_q h (g1 hz) rfl (fun _ _ => rfl) (f3.trans hret) (by show R0.op ≠ 0; rw [f1']; exact o0) (by show FT _ R0.op (a + 1) 0 _ _ _; rw [f1']; exact stay _ 1 _ rfl (by decide)) (fun e => absurd (f1'.symm.trans e) o3) (fun e => no3 _ 1 rfl (f1'.symm.trans e))
    · rw [if_neg hz]
      exact mv_q h (g3 hz) rfl (fun _ _ => rfl) (f3.trans hret) (by show R0.op ≠ 0; rw [f1']; exact o0) (by show FT _ R0.op (a + 3) 0 _ _ _; rw [f1']; exact stay _ 3 _ rfl (by decide)) (fun e => absurd (f1'.symm.trans e) o3) (fun e => no3 _ 3 rfl (f1'.symm.trans e))
  · rw [qGive_1 (r := (m.at t).fresh) (by show (m.rs t).line = a + 1; omega), A.casX]
    obtain ⟨g1, g2⟩ := q_g1 (x := a + 2) (whats := w) A T (hs0 (none (by decide)))
    by_cases hz : s.tail = (t : Int) + 1
    · rw [if_pos (by rw [hz]; exact beq_self_eq_true _)]
      obtain ⟨n1, n2, n3, n4, n5, n6, n7, n8, n9, n10, n11⟩ := notes_same ((m.at t).fresh.doA 5 0 (m.at t).fresh.me 0) w
      have e8 : ((((m.at t).fresh.doA 5 0 (m.at t).fresh.me 0).notes w).fin ok).op = (m.rs t).op := n8
      have e4 : ((((m.at t).fresh.doA 5 0 (m.at t).fresh.me 0).notes w).fin ok).k = (m.rs t).k := n4
      have er : ((((m.at t).fresh.doA 5 0 (m.at t).fresh.me 0).notes w).fin ok).ret = if ok then 2 else 1 := rfl
      have hQ := (g1 hz).same (R' := (((m.at t).fresh.doA 5 0 (m.at t).fresh.me 0).notes w).fin ok) rfl rfl rfl rfl
      generalize (((m.at t).fresh.doA 5 0 (m.at t).fresh.me 0).notes w).fin ok = R at *
      exact mv_qe h hQ rfl (fun _ _ => rfl) (by rw [er]; exact hok) (.inl rfl) (fun e => by rw [e4, hon] at e; cases e) (fun on => by rw [e8, er]; exact (hg.idle on).1) (fun e => by rw [e8, er] at e; exact absurd e (hg.idle false).2)
    · rw [if_neg (by simpa using hz)]
      have hQ := g2 hz
      obtain ⟨f1, f2, f3, f4, f5⟩ := doA_fr (m.at t).fresh 5 0 (m.at t).fresh.me 0
      have f1' : ((m.at t).fresh.doA 5 0 (m.at t).fresh.me 0).op = (m.rs t).op := f1.trans rfl
      generalize (m.at t).fresh.doA 5 0 (m.at t).fresh.me 0 = R0 at hQ f1 f2 f3 f4 f5 f1' ⊢
      exact mv_q h hQ rfl (fun _ _ => rfl) (f3.trans hret) (by show R0.op ≠ 0; rw [f1']; exact o0) (by show FT _ R0.op (a + 2) 0 _ _ _; rw [f1']; exact stay _ 2 _ rfl (by decide)) (fun e => absurd (f1'.symm.trans e) o3) (fun e => no3 _ 2 rfl (f1'.symm.trans e))
  · have hl2 : (m.rs t).line = a + 2 := by omega
    rw [qGive_2 (r := (m.at t).fresh) hl2]
    have hw := wtQ_give (r := m.rs t) hg rfl hl2
    obtain ⟨g1, g2⟩ := q_g2 (x := a + 3) A T
    obtain ⟨n1, n2, n3, n4, _⟩ := seeN_same (m.at t).fresh
    cases hd : ((m.at t).fresh.stepR (nc (m.at t).fresh.n (m.at t).fresh.task) isN).done
    · rw [if_neg Bool.false_ne_true]
      exact mv_q h (g1 hd) rfl (fun _ e => by rw [hw] at e; cases e) (n3.trans hret) (by rw [n1]; exact o0) (by rw [n1, n2]; exact stay _ 2 _ hl2 (by decide)) (fun e => absurd (n1.symm.trans e) o3) (fun e => by rw [n2]; exact no3 _ 2 hl2 (n1.symm.trans e))
    · rw [if_pos rfl]
      exact mv_q h (g2 hd) rfl (fun _ e => by rw [hw] at e; cases e) (n3.trans hret) (by show (m.at t).fresh.seeN.op ≠ 0; rw [n1]; exact o0) (by show FT _ (m.at t).fresh.seeN.op (a + 3) 0 _ _ _; rw [n1]; exact stay _ 3 _ rfl (by decide)) (fun e => absurd (n1.symm.trans e) o3) (fun e => no3 _ 3 rfl (n1.symm.trans e))
  · rw [qGive_3 (r := (m.at t).fresh) (by show (m.rs t).line = a + 3; omega)]
    obtain ⟨n1, n2, n3, n4, n5, n6, n7, n8, n9, n10, n11⟩ := notes_same ((m.at t).fresh.doA 2 (bc (m.at t).fresh.n ((m.at t).fresh.a - 1)) 0 0) w
    have e8 : (((m.at t).fresh.handOn w).fin ok).op = (m.rs t).op := n8
    have er : (((m.at t).fresh.handOn w).fin ok).ret = if ok then 2 else 1 := rfl
    have hQ := (q_g3 (whats := w) A T).same (R' := ((m.at t).fresh.handOn w).fin ok) rfl rfl rfl rfl
    generalize ((m.at t).fresh.handOn w).fin ok = R at *
    exact mv_qe h hQ rfl (fun _ _ => rfl) (by rw [er]; exact hok) (.inl rfl) (fun e => ⟨.gave a ok w (by rw [e8]; exact hg) er rfl rfl, o2, by rw [e8]; exact o3⟩) (fun on => by rw [e8, er]; exact (hg.idle on).1) (fun e => by rw [e8, er] at e; exact absurd e (hg.idle false).2)
end
end Go.Proofs.Ytkkldcggbekleaa
