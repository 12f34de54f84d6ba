import Derived.Test.YtaeninikaalkjaaG14
import Derived.Test.YtaeninikaalkjaaG16
import Derived.Test.YtaeninikaalkjaaG15
set_option linter.unusedVariables false
set_option linter.unusedSimpArgs false
namespace Go.Proofs.Ytaeninikaalkjaa
abbrev WtG := Int → Int → Int → Int → Int → Int → Option (Int × (Int → Bool))
abbrev wtR (wt : WtG) (r : LS) : Option (Int × (Int → Bool)) := wt r.n r.task r.op r.line r.a r.b
structure WaitLn (wt : WtG) (r r' : LS) (c : Int) (q : Int → Bool) : Prop where
  xs : r'.xs = (r.stepR c q).xs
  s : r'.s = (r.stepR c q).next
  k : r'.k = r.k
  b : r'.b = r.b
  a : (r.stepR c q).seen = false → r'.a = r.a
  stay : (r.stepR c q).done = false → r'.line = r.line ∧ r'.ret = r.ret ∧ wtR wt r' = wtR wt r
structure PlainLn (r r' : LS) : Prop where
  far : ∀ d, 8 + 2 * r.n ≤ d → wordAt r'.xs d = wordAt r.xs d
  s : r'.s = r.s
  k : r'.k = r.k ∨ ∃ c, r'.k = beginI r.mode c
structure LinesQ (L : LS → LS) (wt : WtG) : Prop where
  cB : ∀ (r : LS) c q, wtR wt r = some (c, q) → r.n ≤ 64 → 0 ≤ r.task → r.task < r.n → 0 ≤ c ∧ c < 8 + 2 * r.n
  op0 : ∀ r : LS, r.op = 0 → wtR wt r = none
  line0 : ∀ r : LS, r.line = 0 → wtR wt r = none
  same : ∀ r : LS, (L r).n = r.n ∧ (L r).mode = r.mode ∧ (L r).task = r.task ∧ (L r).op = r.op ∧ (L r).xs.length = r.xs.length
  wait : ∀ (r : LS) c q, r.k.on = false → wtR wt r = some (c, q) → WaitLn wt r (L r) c q
structure GenQ (wt : WtG) (k : Nat) (mode : Int) (m : MV) : Prop where
  len : m.xs.length = 8 + 4 * k
  cst : ∀ i, i < k → (m.rs i).n = k ∧ (m.rs i).mode = mode ∧ (m.rs i).task = i
  sr : ∀ i, i < k → (m.rs i).s = 0 ∨ (m.rs i).s = 1 ∨ (m.rs i).s = 2 ∨ (m.rs i).s = 3 ∨ (m.rs i).s = 4
  sp : ∀ i, i < k → mode ≠ 2 → (m.rs i).s = 0
  sw : ∀ i, i < k → (m.rs i).s ≠ 0 → (∃ c q, wtR wt (m.rs i) = some (c, q)) ∧ (m.rs i).k.on = false
  wat : ∀ i, i < k → ((m.rs i).s = 0 ∨ (m.rs i).s = 1 → wordAt m.xs (wc k i) = 0) ∧ ((m.rs i).s = 2 ∨ (m.rs i).s = 3 ∨ (m.rs i).s = 4 → ∀ c q, wtR wt (m.rs i) = some (c, q) → wordAt m.xs (wc k i) = c + 1)
  kon : ∀ i, i < k → (m.rs i).k.on = true → 0 ≤ (m.rs i).k.i ∧ (m.rs i).k.i < k
  rt : ∀ i, i < k → (m.rs i).k.on = false → (m.rs i).ret = 0
  idle : ∀ i, i < k → (m.rs i).op = 0 → (m.rs i).k.on = false
  nl : ∀ i, i < k → ∀ c q, wtR wt (m.rs i) = some (c, q) → (m.rs i).s = 3 → hasP m.xs k i = false → q (wordAt m.xs c) = true → ∃ j, j < k ∧ (m.rs j).k.on = true ∧ (m.rs j).k.c = c ∧ (m.rs j).k.i ≤ i
section
variable {L : LS → LS} {wt : WtG} {k : Nat} {mode : Int} {m : MV} {t : Nat}
theorem GenQ.cell (h : GenQ wt k mode m) (hL : LinesQ L wt) (hk : k ≤ 64) {i : Nat} (hi : i < k) {c : Int} {q : Int → Bool} (hw : wtR wt (m.rs i) = some (c, q)) : 0 ≤ c ∧ c < 8 + 2 * k := by
  obtain ⟨c1, c2, c3⟩ := h.cst i hi
  have := hL.cB (m.rs i) c q hw (by omega) (by omega) (by omega)
  rwa [c1] at this
theorem GenQ.start (hL : LinesQ L wt) (h : GenQ wt k mode m) (ht : t < k) (h0 : (m.rs t).op = 0) (op : Int) : GenQ wt k mode (m.start t op) := by
  have hon := h.idle t ht h0
  have hs0 : (m.rs t).s = 0 := by
    by_cases e : (m.rs t).s = 0
    · exact e
    · obtain ⟨⟨c, q, hw⟩, _⟩ := h.sw t ht e
      rw [hL.op0 _ h0] at hw; cases hw
  have hxs : (m.start t op).xs = m.xs := rfl
  have hrs : (m.start t op).rs = upd m.rs t (zeroF (m.at t) op) := rfl
  refine ⟨h.len, fun i hi => ?_, fun i hi => ?_, fun i hi hm => ?_, fun i hi hne => ?_, fun i hi => ?_, fun i hi ho => ?_, fun i hi ho => ?_, fun i hi ho => ?_, fun i hi c q hw hs hp hq => ?_⟩
  all_goals rw [hrs] at *
  all_goals try rw [hxs] at *
  · by_cases e : i = t
    · subst e; rw [upd_same]; exact h.cst i hi
    · rw [upd_other _ _ e]; exact h.cst i hi
  · by_cases e : i = t
    · subst e; rw [upd_same]; exact .inl rfl
    · rw [upd_other _ _ e]; exact h.sr i hi
  · by_cases e : i = t
    · subst e; rw [upd_same]; rfl
    · rw [upd_other _ _ e]; exact h.sp i hi hm
  · by_cases e : i = t
    · subst e; rw [upd_same] at hne; exact absurd rfl hne
    · rw [upd_other _ _ e] at hne ⊢; exact h.sw i hi hne
  · by_cases e : i = t
    · subst e; rw [upd_same]
      exact ⟨fun _ => (h.wat i hi).1 (.inl hs0), fun hh => by rcases hh with hh | hh | hh <;> cases hh⟩
    · rw [upd_other _ _ e]; exact h.wat i hi
  · by_cases e : i = t
    · subst e; rw [upd_same] at ho; cases ho
    · rw [upd_other _ _ e] at ho ⊢; exact h.kon i hi ho
  · by_cases e : i = t
    · subst e; rw [upd_same]; rfl
    · rw [upd_other _ _ e] at ho ⊢; exact h.rt i hi ho
  · by_cases e : i = t
    · subst e; rw [upd_same]; rfl
    · rw [upd_other _ _ e] at ho ⊢; exact h.idle i hi ho
  · have far : ∀ j, j < k → (m.rs j).k.on = true → j ≠ t := fun j _ ho e => by subst e; rw [hon] at ho; cases ho
    by_cases e : i = t
    · subst e; rw [upd_same] at hs; cases hs
    · rw [upd_other _ _ e] at hw hs
      obtain ⟨j, hj, h1, h2, h3⟩ := h.nl i hi c q hw hs hp hq
      exact ⟨j, hj, by rw [upd_other _ _ (far j hj h1)]; exact ⟨h1, h2, h3⟩⟩
end
end Go.Proofs.Ytaeninikaalkjaa
set_option linter.unusedVariables false
set_option linter.unusedSimpArgs false
namespace Go.Proofs.Ytaeninikaalkjaa
structure StepQ (wt : WtG) (k : Nat) (mode : Int) (m : MV) (t : Nat) (R : LS) : Prop where
  len : R.xs.length = 8 + 4 * k
  cst : R.n = k ∧ R.mode = mode ∧ R.task = t
  sr : R.s = 0 ∨ R.s = 1 ∨ R.s = 2 ∨ R.s = 3 ∨ R.s = 4
  sp : mode ≠ 2 → R.s = 0
  sw : R.s ≠ 0 → (∃ c q, wtR wt R = some (c, q)) ∧ R.k.on = false ∧ R.ret = 0
  wat : (R.s = 0 ∨ R.s = 1 → wordAt R.xs (wc k t) = 0) ∧ (R.s = 2 ∨ R.s = 3 ∨ R.s = 4 → ∀ c q, wtR wt R = some (c, q) → wordAt R.xs (wc k t) = c + 1)
  kon : R.k.on = true → 0 ≤ R.k.i ∧ R.k.i < k
  op : R.op ≠ 0
  far : ∀ i, i < k → i ≠ t → wordAt R.xs (wc k i) = wordAt m.xs (wc k i)
  nlt : R.s = 3 → ∀ c q, wtR wt R = some (c, q) → q (wordAt R.xs c) = false
  nl : ∀ i, i < k → i ≠ t → ∀ c q, wtR wt (m.rs i) = some (c, q) → (m.rs i).s = 3 → hasP R.xs k i = false → q (wordAt R.xs c) = true → ∃ j, j < k ∧ (upd (fun j => (m.rs j).k) t R.k j).on = true ∧ (upd (fun j => (m.rs j).k) t R.k j).c = c ∧ (upd (fun j => (m.rs j).k) t R.k j).i ≤ i
section
variable {L : LS → LS} {wt : WtG} {k : Nat} {mode : Int} {m : MV} {t : Nat}
theorem StepQ.gen (hL : LinesQ L wt) (h : GenQ wt k mode m) (ht : t < k) {R : LS} {hv : Int} (hT : StepQ wt k mode m t R) : GenQ wt k mode ⟨upd m.rs t R.finR, upd m.hold t hv, R.xs⟩ := by
  have hov : R.over = true → R.s = 0 ∧ R.k.on = false := fun e => by
    have e1 : R.ret ≠ 0 ∧ R.k.on = false := by
      unfold LS.over at e
      simpa using e
    refine ⟨?_, e1.2⟩
    by_cases e2 : R.s = 0
    · exact e2
    · exact absurd (hT.sw e2).2.2 e1.1
  have hno : R.over = false → R.finR = R := fun e => by unfold LS.finR; rw [e]; rfl
  have hye : R.over = true → R.finR = zeroF R 0 := fun e => by unfold LS.finR; rw [e]; rfl
  have hkon : ∀ j, j < k → (upd (fun j => (m.rs j).k) t R.k j).on = true → (upd m.rs t R.finR j).k = upd (fun j => (m.rs j).k) t R.k j := fun j hj ho => by
    by_cases e : j = t
    · subst e
      rw [upd_same] at ho ⊢
      rw [upd_same]
      cases ho2 : R.over
      · rw [hno ho2]
      · rw [(hov ho2).2] at ho; cases ho
    · rw [upd_other _ _ e, upd_other _ _ e]
  cases ho : R.over
  · have hf := hno ho
    refine ⟨hT.len, fun i hi => ?_, fun i hi => ?_, fun i hi hm => ?_, fun i hi hne => ?_, fun i hi => ?_, fun i hi ho => ?_, fun i hi ho => ?_, fun i hi ho => ?_, fun i hi c q hw hs hp hq => ?_⟩
    all_goals dsimp only at *
    · by_cases e : i = t
      · subst e; rw [upd_same, hf]; exact hT.cst
      · rw [upd_other _ _ e]; exact h.cst i hi
    · by_cases e : i = t
      · subst e; rw [upd_same, hf]; exact hT.sr
      · rw [upd_other _ _ e]; exact h.sr i hi
    · by_cases e : i = t
      · subst e; rw [upd_same, hf]; exact hT.sp hm
      · rw [upd_other _ _ e]; exact h.sp i hi hm
    · by_cases e : i = t
      · subst e; rw [upd_same, hf] at hne ⊢; exact ⟨(hT.sw hne).1, (hT.sw hne).2.1⟩
      · rw [upd_other _ _ e] at hne ⊢; exact h.sw i hi hne
    · by_cases e : i = t
      · subst e; rw [upd_same, hf]; exact hT.wat
      · rw [upd_other _ _ e, hT.far i hi e]; exact h.wat i hi
    · by_cases e : i = t
      · subst e; rw [upd_same, hf] at ho ⊢; exact hT.kon ho
      · rw [upd_other _ _ e] at ho ⊢; exact h.kon i hi ho
    · rename_i hov0
      by_cases e : i = t
      · subst e; rw [upd_same, hf] at ho ⊢
        by_cases e2 : R.ret = 0
        · exact e2
        · exfalso
          have : R.over = true := by unfold LS.over; rw [ho]; simpa using e2
          rw [hov0] at this; cases this
      · rw [upd_other _ _ e] at ho ⊢; exact h.rt i hi ho
    · by_cases e : i = t
      · subst e; rw [upd_same, hf] at ho; exact absurd ho hT.op
      · rw [upd_other _ _ e] at ho ⊢; exact h.idle i hi ho
    · by_cases e : i = t
      · subst e; rw [upd_same, hf] at hw hs
        rw [hT.nlt hs c q hw] at hq; cases hq
      · rw [upd_other _ _ e] at hw hs
        obtain ⟨j, hj, h1, h2, h3⟩ := hT.nl i hi e c q hw hs hp hq
        exact ⟨j, hj, by rw [hkon j hj h1]; exact ⟨h1, h2, h3⟩⟩
  · have hf := hye ho
    obtain ⟨hs0, hon⟩ := hov ho
    refine ⟨hT.len, fun i hi => ?_, fun i hi => ?_, fun i hi hm => ?_, fun i hi hne => ?_, fun i hi => ?_, fun i hi ho => ?_, fun i hi ho => ?_, fun i hi ho => ?_, fun i hi c q hw hs hp hq => ?_⟩
    all_goals dsimp only at *
    · by_cases e : i = t
      · subst e; rw [upd_same, hf]; exact hT.cst
      · rw [upd_other _ _ e]; exact h.cst i hi
    · by_cases e : i = t
      · subst e; rw [upd_same, hf]; exact .inl rfl
      · rw [upd_other _ _ e]; exact h.sr i hi
    · by_cases e : i = t
      · subst e; rw [upd_same, hf]; rfl
      · rw [upd_other _ _ e]; exact h.sp i hi hm
    · by_cases e : i = t
      · subst e; rw [upd_same, hf] at hne; exact absurd rfl hne
      · rw [upd_other _ _ e] at hne ⊢; exact h.sw i hi hne
    · by_cases e : i = t
      · subst e; rw [upd_same, hf]
        exact ⟨fun _ => hT.wat.1 (.inl hs0), fun hh => by rcases hh with hh | hh | hh <;> cases hh⟩
      · rw [upd_other _ _ e, hT.far i hi e]; exact h.wat i hi
    · by_cases e : i = t
      · subst e; rw [upd_same, hf] at ho; cases ho
      · rw [upd_other _ _ e] at ho ⊢; exact h.kon i hi ho
    · by_cases e : i = t
      · subst e; rw [upd_same, hf]; rfl
      · rw [upd_other _ _ e] at ho ⊢; exact h.rt i hi ho
    · by_cases e : i = t
      · subst e; rw [upd_same, hf]; rfl
      · rw [upd_other _ _ e] at ho ⊢; exact h.idle i hi ho
    · by_cases e : i = t
      · subst e; rw [upd_same, hf] at hs; cases hs
      · rw [upd_other _ _ e] at hw hs
        obtain ⟨j, hj, h1, h2, h3⟩ := hT.nl i hi e c q hw hs hp hq
        exact ⟨j, hj, by rw [hkon j hj h1]; exact ⟨h1, h2, h3⟩⟩
theorem stepq_waking (hL : LinesQ L wt) (hk : k ≤ 64) (h : GenQ wt k mode m) (ht : t < k) (hop : (m.rs t).op ≠ 0) (hon : (m.rs t).k.on = true) : StepQ wt k mode m t (m.at t).waking := by
  obtain ⟨c1, c2, c3⟩ := h.cst t ht
  obtain ⟨k0, k1⟩ := h.kon t ht hon
  have hs0 : (m.rs t).s = 0 := by
    by_cases e : (m.rs t).s = 0
    · exact e
    · rw [(h.sw t ht e).2] at hon; cases hon
  obtain ⟨i0, hi0⟩ := Int.eq_ofNat_of_zero_le k0
  have hi1 : i0 < k := by omega
  obtain ⟨on, kc, ki, hit, hkk⟩ : ∃ on kc ki hit, (m.rs t).k = ⟨on, kc, ki, hit⟩ := ⟨_, _, _, _, rfl⟩
  rw [hkk] at hon hi0
  dsimp only at hon hi0
  subst hon hi0
  obtain ⟨wh, wl⟩ := wake_cases (xs := m.xs) (c := kc) (hit := hit) hk h.len hi1
  have hxs : (m.at t).waking.xs = (wakeI m.xs k true kc i0 hit).xs := by show (wakeI m.xs (m.rs t).n _ _ _ _).xs = _; rw [c1, show (m.at t).k = ⟨true, kc, (i0 : Int), hit⟩ from hkk]
  have hk' : (m.at t).waking.k = (wakeI m.xs k true kc i0 hit).next := by show (wakeI m.xs (m.rs t).n _ _ _ _).next = _; rw [c1, show (m.at t).k = ⟨true, kc, (i0 : Int), hit⟩ from hkk]
  have hs' : (m.at t).waking.s = 0 := hs0
  have hwat : ∀ i, i < k → wordAt (m.at t).waking.xs (wc k i) = wordAt m.xs (wc k i) := fun i hi => by rw [hxs]; exact wake_wat hk (by omega) (by omega) hi
  have hown : ∀ d : Int, 0 ≤ d → d < 8 + 2 * k → wordAt (m.at t).waking.xs d = wordAt m.xs d := fun d h0 h1 => by
    rw [hxs]
    exact own_wake (by rw [pc_at hk hi1]; omega)
  have hnx : (nextI k kc i0).on = true → (nextI k kc i0).i = i0 + 1 ∧ (nextI k kc i0).c = kc ∧ (i0 : Int) + 1 < k := fun e => by
    unfold nextI at *
    split
    · rename_i e2; rw [if_pos e2] at e; cases e
    · exact ⟨rfl, rfl, by omega⟩
  have hnxt : (i0 : Int) + 1 < k → (nextI k kc i0).on = true ∧ (nextI k kc i0).i = i0 + 1 ∧ (nextI k kc i0).c = kc := fun e => by
    unfold nextI
    rw [if_neg (by omega)]
    exact ⟨rfl, rfl, rfl⟩
  refine ⟨by rw [hxs]; exact (wake_len0 m.xs k kc i0 hit).trans h.len, ⟨c1, c2, c3⟩, .inl hs', fun _ => hs', fun e => absurd hs' e, ⟨fun _ => by rw [hwat t ht]; exact (h.wat t ht).1 (.inl hs0), fun e => (by rw [hs'] at e; rcases e with e | e | e <;> cases e)⟩, fun ho => ?_, hop, fun i hi _ => hwat i hi, fun e => (by rw [hs'] at e; cases e), fun i hi hne c q hw hs hp hq => ?_⟩
  · rw [hk'] at ho ⊢
    cases hh : hit
    · subst hh
      rcases (wl rfl).2 with ⟨_, e⟩ | ⟨_, e⟩
      · rw [e]; exact ⟨by show (0 : Int) ≤ i0; omega, by show (i0 : Int) < k; omega⟩
      · rw [e] at ho ⊢
        obtain ⟨a1, a2, a3⟩ := hnx ho
        rw [a1]; omega
    · subst hh
      rw [(wh rfl).1] at ho ⊢
      obtain ⟨a1, a2, a3⟩ := hnx ho
      rw [a1]; omega
  · obtain ⟨hc0, hc8⟩ := h.cell hL hk hi hw
    rw [hown c hc0 hc8] at hq
    have hp0 : hasP m.xs k i = false := by
      cases hh : hit
      · subst hh; rwa [hxs, (wl rfl).1] at hp
      · subst hh
        rw [hxs, (wh rfl).2 i hi] at hp
        by_cases e : i = i0
        · rw [if_pos e] at hp; cases hp
        · rwa [if_neg e] at hp
    obtain ⟨j, hj, h1, h2, h3⟩ := h.nl i hi c q hw hs hp0 hq
    by_cases e : j = t
    · subst e
      rw [hkk] at h1 h2 h3
      dsimp only at h1 h2 h3
      subst h2
      refine ⟨j, hj, ?_⟩
      rw [upd_same, hk']
      have hwi : wordAt m.xs (wc k i) = kc + 1 := (h.wat i hi).2 (.inr (.inl hs)) kc q hw
      cases hh : hit
      · subst hh
        rcases (wl rfl).2 with ⟨_, e⟩ | ⟨e0, e⟩
        · rw [e]; exact ⟨rfl, rfl, h3⟩
        · have hne2 : i ≠ i0 := fun e3 => by
            subst e3
            rw [hwi] at e0
            exact e0 (by omega)
          rw [e]
          obtain ⟨a1, a2, a3⟩ := hnxt (by omega)
          exact ⟨a1, a3, by rw [a2]; omega⟩
      · subst hh
        have hne2 : i ≠ i0 := fun e3 => by
          rw [hxs, (wh rfl).2 i hi, if_pos e3] at hp; cases hp
        rw [(wh rfl).1]
        obtain ⟨a1, a2, a3⟩ := hnxt (by omega)
        exact ⟨a1, a3, by rw [a2]; omega⟩
    · exact ⟨j, hj, by rw [upd_other _ _ e]; exact ⟨h1, h2, h3⟩⟩
theorem stepq_wait (hL : LinesQ L wt) (hk : k ≤ 64) (h : GenQ wt k mode m) (ht : t < k) (hop : (m.rs t).op ≠ 0) (hon : (m.rs t).k.on = false) (hst : (m.at t).stuck = false) {c : Int} {q : Int → Bool} (hw : wtR wt (m.rs t) = some (c, q)) : StepQ wt k mode m t (L (m.at t).fresh) := by
  obtain ⟨c1, c2, c3⟩ := h.cst t ht
  obtain ⟨s1, s2, s3, s4, s5⟩ := hL.same (m.at t).fresh
  have W := hL.wait (m.at t).fresh c q hon hw
  obtain ⟨hc0, hc8⟩ := h.cell hL hk ht hw
  have hr0 := h.rt t ht hon
  have hR : (m.at t).fresh.stepR c q = stepI m.xs k mode t (m.rs t).s c q := by
    show stepI m.xs (m.rs t).n (m.rs t).mode (m.rs t).task (m.rs t).s c q = _
    rw [c1, c2, c3]
  have hxs := W.xs
  have hs' := W.s
  have hstay := W.stay
  rw [hR] at hxs hs' hstay
  have hns : ¬ (mode = 2 ∧ (m.rs t).s = 3 ∧ hasP m.xs k t = false) := fun ⟨e1, e2, e3⟩ => by
    have : (m.at t).stuck = true := by
      unfold LS.stuck stuckB
      show (!(m.rs t).k.on && ((m.rs t).mode == 2 && (m.rs t).s == 3 && !hasP m.xs (m.rs t).n (m.rs t).task)) = true
      rw [hon, c1, c2, c3, e1, e2, e3]; rfl
    rw [hst] at this; cases this
  have hkt : (L (m.at t).fresh).k.on = false := by rw [W.k]; exact hon
  have hnext := step_next (xs := m.xs) (k := k) (mode := mode) (t := t) (s := (m.rs t).s) (c := c) (q := q)
  have hdn := step_done0 (xs := m.xs) (k := k) (mode := mode) (t := t) (s := (m.rs t).s) (c := c) (q := q)
  have hown : ∀ d : Int, 0 ≤ d → d < 8 + 2 * k → wordAt (L (m.at t).fresh).xs d = wordAt m.xs d := fun d h0 h1 => by
    rw [hxs]
    exact own_wait (by rw [wc_at hk ht]; omega) (by rw [pc_at hk ht]; omega)
  have hwat : ∀ i, i < k → _ := fun i hi => step_wat (xs := m.xs) (mode := mode) (s := (m.rs t).s) (c := c) (q := q) hk h.len ht hi
  have hper : ∀ i, i < k → _ := fun i hi => step_per (xs := m.xs) (mode := mode) (s := (m.rs t).s) (c := c) (q := q) hk h.len ht hi
  have hsr := h.sr t ht
  have hline : (L (m.at t).fresh).s ≠ 0 → wtR wt (L (m.at t).fresh) = some (c, q) ∧ (L (m.at t).fresh).ret = 0 := fun e => by
    rw [hs'] at e
    cases hd : (stepI m.xs k mode t (m.rs t).s c q).done
    · obtain ⟨l1, l2, l3⟩ := hstay hd
      exact ⟨l3.trans hw, l2.trans hr0⟩
    · exact absurd (hdn hd) e
  have hnx4 : (L (m.at t).fresh).s = 0 ∨ (L (m.at t).fresh).s = 1 ∨ (L (m.at t).fresh).s = 2 ∨ (L (m.at t).fresh).s = 3 ∨ (L (m.at t).fresh).s = 4 := by
    rw [hs']; rcases hnext with ⟨e, _⟩ | ⟨_, _, e⟩
    · exact .inl e
    · rcases e with ⟨e, _⟩ | ⟨e, _⟩ | ⟨e, _⟩ | ⟨e, _⟩
      · exact .inr (.inl e)
      · exact .inr (.inr (.inl e))
      · exact .inr (.inr (.inr (.inl e)))
      · exact .inr (.inr (.inr (.inr e)))
  refine ⟨s5.trans h.len, ⟨s1.trans c1, s2.trans c2, s3.trans c3⟩, hnx4, fun hm => ?_, fun e => ⟨⟨c, q, (hline e).1⟩, hkt, (hline e).2⟩, ⟨fun e => ?_, fun e c' q' hw' => ?_⟩, fun e => (by rw [hkt] at e; cases e), by rw [s4]; exact hop, fun i hi hne => ?_, fun e c' q' hw' => ?_, fun i hi hne c' q' hw' hs hp hq => ?_⟩
  · rw [hs']
    rw [stepI_spin hm]
  · rw [hxs, hwat t ht]
    rw [hs'] at e
    have w0 := (h.wat t ht).1
    rcases hnext with ⟨e1, e2⟩ | ⟨em, _, ⟨_, e1, e2, e3, e4⟩ | ⟨e1, _⟩ | ⟨e1, _⟩ | ⟨e1, _⟩⟩
    · rcases hsr with e3 | e3 | e3 | e3 | e3
      · rw [if_neg (by omega), if_neg (by omega)]; exact w0 (.inl e3)
      · exfalso
        by_cases em : mode = 2
        · rw [em, e3] at e1; cases e1
        · have := h.sp t ht em; omega
      · exfalso
        by_cases em : mode = 2
        · rw [em, e3, stepI_2] at e1; simp only at e1; split at e1 <;> cases e1
        · have := h.sp t ht em; omega
      · exfalso
        by_cases em : mode = 2
        · rw [em, e3, stepI_3] at e1; simp only at e1; split at e1 <;> cases e1
        · have := h.sp t ht em; omega
      · rw [if_neg (by omega)]
        by_cases em : mode = 2
        · rw [if_pos ⟨rfl, em, e3⟩]
        · have := h.sp t ht em; omega
    · rw [if_neg (by omega), if_neg (by omega)]; exact w0 (by omega)
    · omega
    · omega
    · omega
  · have hne0 : (L (m.at t).fresh).s ≠ 0 := by omega
    rw [(hline hne0).1] at hw'
    obtain ⟨rfl, rfl⟩ := Prod.mk.inj (Option.some.inj hw')
    rw [hxs, hwat t ht]
    rw [hs'] at e
    have w2 := fun e => (h.wat t ht).2 e c q hw
    rcases hnext with ⟨e1, e2⟩ | ⟨em, _, ⟨e1, _⟩ | ⟨e1, e2⟩ | ⟨e1, e2⟩ | ⟨e1, e2, _⟩⟩
    · omega
    · omega
    · rcases e2 with e2 | ⟨e2, _⟩
      · rw [if_pos ⟨rfl, em, e2⟩]; omega
      · rw [if_neg (by omega), if_neg (by omega)]; exact w2 (.inr (.inl e2))
    · rw [if_neg (by omega), if_neg (by omega)]
      rcases e2 with ⟨e2, _⟩ | ⟨e2, _⟩
      · exact w2 (.inl e2)
      · exact w2 (.inr (.inl e2))
    · rw [if_neg (by omega), if_neg (by omega)]; exact w2 (.inl e2)
  · rw [hxs, hwat i hi, if_neg (fun e => hne e.1), if_neg (fun e => hne e.1)]
  · have hne0 : (L (m.at t).fresh).s ≠ 0 := by omega
    rw [(hline hne0).1] at hw'
    obtain ⟨rfl, rfl⟩ := Prod.mk.inj (Option.some.inj hw')
    rw [hown c hc0 hc8]
    rw [hs'] at e
    rcases hnext with ⟨e1, _⟩ | ⟨em, _, ⟨e1, _⟩ | ⟨e1, _⟩ | ⟨_, e2⟩ | ⟨e1, _⟩⟩
    · omega
    · omega
    · omega
    · rcases e2 with ⟨_, e2⟩ | ⟨e2, e3⟩
      · exact e2
      · exact absurd ⟨em, e2, e3⟩ hns
    · omega
  · obtain ⟨hc0', hc8'⟩ := h.cell hL hk hi hw'
    rw [hown c' hc0' hc8'] at hq
    rw [hxs, hper i hi, if_neg (fun e => hne e.1)] at hp
    obtain ⟨j, hj, h1, h2, h3⟩ := h.nl i hi c' q' hw' hs hp hq
    have : j ≠ t := fun e => by subst e; rw [hon] at h1; cases h1
    exact ⟨j, hj, by rw [upd_other _ _ this]; exact ⟨h1, h2, h3⟩⟩
theorem stepq_plain (hL : LinesQ L wt) (hk : k ≤ 64) (hk1 : 1 ≤ k) (h : GenQ wt k mode m) (ht : t < k) (hop : (m.rs t).op ≠ 0) (hon : (m.rs t).k.on = false) (hw : wtR wt (m.rs t) = none) (P : PlainLn (m.at t).fresh (L (m.at t).fresh))
    (hwk : ∀ i, i < k → i ≠ t → ∀ c q, wtR wt (m.rs i) = some (c, q) → (m.rs i).s = 3 → q (wordAt (L (m.at t).fresh).xs c) = true → q (wordAt m.xs c) = true ∨ (L (m.at t).fresh).k = beginI 2 c) : StepQ wt k mode m t (L (m.at t).fresh) := by
  obtain ⟨c1, c2, c3⟩ := h.cst t ht
  obtain ⟨s1, s2, s3, s4, s5⟩ := hL.same (m.at t).fresh
  have cn : (m.at t).fresh.n = k := c1
  have hs0 : (m.rs t).s = 0 := by
    by_cases e : (m.rs t).s = 0
    · exact e
    · obtain ⟨⟨c, q, e2⟩, _⟩ := h.sw t ht e
      rw [hw] at e2; cases e2
  have hs' : (L (m.at t).fresh).s = 0 := P.s.trans hs0
  have hwat : ∀ i, i < k → wordAt (L (m.at t).fresh).xs (wc k i) = wordAt m.xs (wc k i) := fun i hi => P.far _ (by rw [cn, wc_at hk hi]; omega)
  have hper : ∀ i, i < k → hasP (L (m.at t).fresh).xs k i = hasP m.xs k i := fun i hi => by unfold hasP; rw [P.far _ (by rw [cn, pc_at hk hi]; omega)]; rfl
  refine ⟨s5.trans h.len, ⟨s1.trans c1, s2.trans c2, s3.trans c3⟩, .inl hs', fun _ => hs', fun e => absurd hs' e, ⟨fun _ => by rw [hwat t ht]; exact (h.wat t ht).1 (.inl hs0), fun e => by omega⟩, fun e => ?_, by rw [s4]; exact hop, fun i hi _ => hwat i hi, fun e => by omega, fun i hi hne c q hw' hs hp hq => ?_⟩
  · rcases P.k with e2 | ⟨c, e2⟩
    · rw [e2] at e; rw [show (m.at t).fresh.k = (m.rs t).k from rfl, hon] at e; cases e
    · rw [e2] at e ⊢
      unfold beginI at *
      split
      · exact ⟨Int.le_refl _, by show (0 : Int) < k; omega⟩
      · rename_i e3; rw [if_neg e3] at e; cases e
  · rcases hwk i hi hne c q hw' hs hq with hq0 | hb
    · rw [hper i hi] at hp
      obtain ⟨j, hj, h1, h2, h3⟩ := h.nl i hi c q hw' hs hp hq0
      have : j ≠ t := fun e => by subst e; rw [hon] at h1; cases h1
      exact ⟨j, hj, by rw [upd_other _ _ this]; exact ⟨h1, h2, h3⟩⟩
    · exact ⟨t, ht, by rw [upd_same, hb]; exact ⟨rfl, rfl, by show (0 : Int) ≤ i; omega⟩⟩
end
end Go.Proofs.Ytaeninikaalkjaa
set_option linter.unusedVariables false
set_option linter.unusedSimpArgs false
namespace Go.Proofs.Ytaeninikaalkjaa
inductive FW (h op line ret s : Int) (on : Bool) (c q y : Nat) : Prop
  | idle0 (ho : op = 0) (hr : ret = 0) (hon : on = false) (hh : h = 0) (hc : c = 0) (hq : q = 0) (hy : y = 0)
  | idle1 (ho : op = 0) (hr : ret = 0) (hon : on = false) (hh : h = 1) (hc : c = 1) (hq : q = 0) (hy : y = 0)
  | idle2 (ho : op = 0) (hr : ret = 0) (hon : on = false) (hh : h = 2) (hc : c = 0) (hq : q = 1) (hy : y = 1)
  | free (ho : (op = 1 ∧ (line = 0 ∨ line = 1 ∨ line = 2 ∨ line = 3)) ∨ (op = 3 ∧ line = 0) ∨ ((op = 5 ∨ op = 6) ∧ (line = 0 ∨ line = 1))) (hr : ret = 0) (hon : on = false) (hh : h = 0) (hc : c = 0) (hq : q = 0) (hy : y = 0)
  | adm (ho : op = 3) (hl : line = 1) (hr : ret = 0) (hon : on = false) (hh : h = 0) (hc : c = 0) (hq : q = 1) (hy : y = if s = 4 then 1 else 0)
  | dep (ho : op = 2) (hl : line = 0) (hr : ret = 0) (hon : on = false) (hh : h = 0) (hc : c = 1) (hq : q = 0) (hy : y = 0)
  | gone (ho : op = 2 ∨ op = 4) (hr : ret = 2) (hon : on = true) (hh : h = 0) (hc : c = 0) (hq : q = 0) (hy : y = 0)
  | leave (ho : op = 4) (hl : line = 0 ∨ line = 1) (hr : ret = 0) (hon : on = false) (hh : h = 0) (hc : c = 0) (hq : q = 1) (hy : y = 1)
  | up (ho : op = 7) (hl : line = 0 ∨ line = 1) (hr : ret = 0) (hon : on = false) (hh : h = 1) (hc : c = 1) (hq : q = 0) (hy : y = 0)
  | down (ho : op = 8) (hl : line = 0 ∨ line = 1) (hr : ret = 0) (hon : on = false) (hh : h = 1) (hc : c = 0) (hq : q = 1) (hy : y = 1)
  | downed (ho : op = 8) (hr : ret = 2) (hon : on = true) (hh : h = 1) (hc : c = 1) (hq : q = 0) (hy : y = 0)
theorem ite_lew {s : Int} {d : Nat} (h : d = if s = 4 then 1 else 0) : d ≤ 1 := by rw [h]; split <;> omega
theorem FW.le {h op line ret s : Int} {on : Bool} {c q y : Nat} (f : FW h op line ret s on c q y) : c ≤ 1 ∧ q ≤ 1 ∧ y ≤ q ∧ (h = 0 ∨ (h = 1 ∧ (c = 1 ∨ y = 1)) ∨ (h = 2 ∧ y = 1)) := by
  cases f with
  | adm ho hl hr hon hh hc hq hy => have := ite_lew hy; omega
  | _ => omega
theorem FW.holdW {h op line ret s : Int} {on : Bool} {c q y : Nat} (f : FW h op line ret s on c q y) (h2 : h = 2) : op = 0 ∧ y = 1 := by cases f <;> omega
theorem FW.onR {h op line ret s : Int} {on : Bool} {c q y : Nat} (f : FW h op line ret s on c q y) (h2 : on = true) : ret = 2 := by
  cases f with
  | gone ho hr => exact hr
  | downed ho hr => exact hr
  | idle0 ho hr hon => rw [h2] at hon; cases hon
  | idle1 ho hr hon => rw [h2] at hon; cases hon
  | idle2 ho hr hon => rw [h2] at hon; cases hon
  | free ho hr hon => rw [h2] at hon; cases hon
  | adm ho hl hr hon => rw [h2] at hon; cases hon
  | dep ho hl hr hon => rw [h2] at hon; cases hon
  | leave ho hl hr hon => rw [h2] at hon; cases hon
  | up ho hl hr hon => rw [h2] at hon; cases hon
  | down ho hl hr hon => rw [h2] at hon; cases hon
theorem FW.tk {h op line ret s : Int} {on : Bool} {c q y : Nat} (f : FW h op line ret s on c q y) (h2 : op = 4 ∨ op = 8) (h3 : ret = 0) : y = 1 := by cases f <;> omega
structure KA (b : Int) (o tk : Nat) (op line ret s a : Int) : Prop where
  r1 : op = 1 → line = 1 → freeW a = true
  r2 : op = 1 → line = 2 → s = 4 → freeW a = true
  r5 : op = 5 → line = 1 → freeW a = true
  r6 : op = 6 → line = 1 → freeW a = true ∧ rF a = 0
  r7 : op = 7 → line = 1 → freeW a = true ∧ rF a = 1
  r3 : op = 3 → line = 1 → iF a = (b + tk) % 256
  r4 : op = 4 ∨ op = 8 → line = 1 → ret = 0 → oF a = (b + o) % 256
structure GI (k : Nat) (b : Int) (o : Nat) (c q tk y : Nat → Nat) (m : MV) : Prop where
  f : ∀ i, i < k → FW (m.hold i) (m.rs i).op (m.rs i).line (m.rs i).ret (m.rs i).s (m.rs i).k.on (c i) (q i) (y i)
  w : wordAt m.xs 0 = wv b o (o + sumN q k) (sumN c k)
  tr : ∀ i, i < k → q i = 1 → o ≤ tk i ∧ tk i < o + sumN q k
  td : ∀ i j, i < k → j < k → q i = 1 → q j = 1 → tk i = tk j → i = j
  y1 : ∀ i, i < k → y i = 1 → tk i = o ∧ sumN c k = 0
  ka : ∀ i, i < k → KA b o (tk i) (m.rs i).op (m.rs i).line (m.rs i).ret (m.rs i).s (m.rs i).a
def wtW : WtG := fun _ _ op line a _ => if op = 1 ∧ line = 2 then some (0, freeW) else if op = 3 ∧ line = 1 then some (0, turnW (iF a)) else none
structure GW (k t : Nat) (b : Int) (o : Nat) (c q tk y : Nat → Nat) (v : Int) (o' c' q' tk' y' : Nat) : Prop where
  w : v = wv b o' (o' + sumN (upd q t q') k) (sumN (upd c t c') k)
  tq : (o' = o ∧ q' = q t ∧ tk' = tk t) ∨ (o' = o ∧ q t = 0 ∧ q' = 1 ∧ tk' = o + sumN q k) ∨ (o' = o + 1 ∧ q t = 1 ∧ y t = 1 ∧ q' = 0)
  yo : ∀ i, i < k → i ≠ t → y i = 1 → sumN (upd c t c') k = 0
  yt : y' = 1 → tk' = o' ∧ sumN (upd c t c') k = 0
def WkW (k t : Nat) (mode : Int) (m : MV) (R : LS) : Prop := R.k = beginI mode 0 ∨ ∀ i, i < k → i ≠ t → ∀ e p, wtR wtW (m.rs i) = some (e, p) → p (wordAt R.xs e) = true → p (wordAt m.xs e) = true
structure GMv (k : Nat) (mode : Int) (t : Nat) (b : Int) (o : Nat) (c q tk y : Nat → Nat) (m : MV) (R : LS) (o' c' q' tk' y' : Nat) : Prop where
  f : FW (R.finH (m.hold t)) R.finR.op R.finR.line R.finR.ret R.finR.s R.finR.k.on c' q' y'
  g : GW k t b o c q tk y (wordAt R.xs 0) o' c' q' tk' y'
  ka : KA b o' tk' R.finR.op R.finR.line R.finR.ret R.finR.s R.finR.a
  far : (m.rs t).k.on = false → wtR wtW (m.rs t) = none → ∀ e : Int, 8 + 2 * (k : Int) ≤ e → wordAt R.xs e = wordAt m.xs e
  wk : WkW k t mode m R
def GGo (k : Nat) (mode : Int) (t : Nat) (b : Int) (o : Nat) (c q tk y : Nat → Nat) (m : MV) (R : LS) : Prop := ∃ o' c' q' tk' y', GMv k mode t b o c q tk y m R o' c' q' tk' y'
structure GC (k : Nat) (mode : Int) (t : Nat) (b : Int) (o : Nat) (c q tk y : Nat → Nat) (m : MV) : Prop where
  hk : k ≤ 64
  h : GI k b o c q tk y m
  ht : t < k
  len : m.xs.length = 8 + 4 * k
  n : (m.rs t).n = k ∧ (m.rs t).mode = mode ∧ (m.rs t).task = t
  on : (m.rs t).k.on = false
  s0 : wtR wtW (m.rs t) = none → (m.rs t).s = 0
  sp : mode ≠ 2 → (m.rs t).s = 0
  ret : (m.rs t).ret = 0
section
variable {k t : Nat} {mode b : Int} {o : Nat} {c q tk y : Nat → Nat} {m : MV} {R : LS} {o' c' q' tk' y' : Nat} {v : Int}
theorem sumw_set {f : Nat → Nat} (ht : t < k) (x : Nat) : sumN (upd f t x) k + f t = sumN f k + x := by
  have := sumN_upd (f := f) (g := upd f t x) (t := t) (k := k) ht (fun i _ hn => upd_other _ _ hn)
  rwa [upd_same] at this
theorem GI.small (h : GI k b o c q tk y m) : sumN c k ≤ k ∧ sumN q k ≤ k := by
  have h1 := sumN_le (f := c) (g := fun _ => 1) (k := k) fun i hi => (h.f i hi).le.1
  have h3 := sumN_le (f := q) (g := fun _ => 1) (k := k) fun i hi => (h.f i hi).le.2.1
  have h2 := sumN_const (c := 1) (k := k)
  omega
theorem GI.yq (h : GI k b o c q tk y m) {i : Nat} (hi : i < k) (hy : y i = 1) : q i = 1 := by have := (h.f i hi).le; omega
theorem GI.one (h : GI k b o c q tk y m) {i j : Nat} (hi : i < k) (hj : j < k) (hyi : y i = 1) (hyj : y j = 1) : i = j :=
  h.td i j hi hj (h.yq hi hyi) (h.yq hj hyj) ((h.y1 i hi hyi).1.trans (h.y1 j hj hyj).1.symm)
theorem GI.alone (h : GI k b o c q tk y m) (ht : t < k) (h2 : m.hold t = 2) (i : Nat) (hi : i < k) (hne : i ≠ t) : m.hold i = 0 := by
  have ft := (h.f t ht).holdW h2
  have fi := (h.f i hi).le
  have hc := (h.y1 t ht ft.2).2
  have h1 := sumN_at (f := c) hi
  rcases fi.2.2.2 with e | ⟨_, e | e⟩ | ⟨_, e⟩
  · exact e
  · omega
  · exact absurd (h.one hi ht e ft.2) hne
  · exact absurd (h.one hi ht e ft.2) hne
theorem GMv.keep (g : GMv k mode t b o c q tk y m R o' c' q' tk' y') (h : GI k b o c q tk y m) (ht : t < k) : GI k b o' (upd c t c') (upd q t q') (upd tk t tk') (upd y t y') ⟨upd m.rs t R.finR, upd m.hold t (R.finH (m.hold t)), R.xs⟩ := by
  have hs := sumw_set (f := q) ht q'
  have oth : ∀ i, i < k → i ≠ t → q i = 1 → o' ≤ tk i ∧ tk i < o' + sumN (upd q t q') k := fun i hi hne hq => by
    have h1 := h.tr i hi hq
    rcases g.g.tq with ⟨e1, e2, _⟩ | ⟨e1, e2, e3, _⟩ | ⟨e1, e2, e3, e4⟩
    · omega
    · omega
    · have h2 := (h.y1 t ht e3).1
      have h3 : tk i ≠ tk t := fun e => hne (h.td i t hi ht hq e2 e)
      omega
  refine ⟨fun i hi => ?_, g.g.w, fun i hi hq => ?_, fun i j hi hj hqi hqj e => ?_, fun i hi hy => ?_, fun i hi => ?_⟩
  · dsimp only
    by_cases e : i = t
    · subst e; simp only [upd_same]; exact g.f
    · simp only [upd_other _ _ e]; exact h.f i hi
  · by_cases e : i = t
    · subst e
      rw [upd_same] at hq ⊢
      rcases g.g.tq with ⟨e1, e2, e3⟩ | ⟨e1, e2, e3, e4⟩ | ⟨e1, e2, e3, e4⟩
      · have h1 := h.tr i hi (by omega)
        omega
      · omega
      · omega
    · rw [upd_other _ _ e] at hq ⊢
      exact oth i hi e hq
  · have key : ∀ x, x < k → x ≠ t → q x = 1 → q' = 1 → tk x ≠ tk' := fun x hx hne hq hq' e => by
      have h1 := h.tr x hx hq
      rcases g.g.tq with ⟨e1, e2, e3⟩ | ⟨e1, e2, e3, e4⟩ | ⟨e1, e2, e3, e4⟩
      · exact hne (h.td x t hx ht hq (by omega) (by omega))
      · omega
      · omega
    by_cases ei : i = t
    · by_cases ej : j = t
      · rw [ei, ej]
      · subst ei
        rw [upd_same] at hqi e
        rw [upd_other _ _ ej] at hqj e
        exact absurd e.symm (key j hj ej hqj hqi)
    · by_cases ej : j = t
      · subst ej
        rw [upd_same] at hqj e
        rw [upd_other _ _ ei] at hqi e
        exact absurd e (key i hi ei hqi hqj)
      · rw [upd_other _ _ ei] at hqi e
        rw [upd_other _ _ ej] at hqj e
        exact h.td i j hi hj hqi hqj e
  · by_cases e : i = t
    · subst e; rw [upd_same] at hy ⊢; exact g.g.yt hy
    · rw [upd_other _ _ e] at hy ⊢
      refine ⟨?_, g.g.yo i hi e hy⟩
      have h1 := (h.y1 i hi hy).1
      rcases g.g.tq with ⟨e1, _⟩ | ⟨e1, _⟩ | ⟨_, _, e3, _⟩
      · omega
      · omega
      · exact absurd (h.one hi ht hy e3) e
  · dsimp only
    by_cases e : i = t
    · subst e; simp only [upd_same]; exact g.ka
    · simp only [upd_other _ _ e]
      have K := h.ka i hi
      refine ⟨K.r1, K.r2, K.r5, K.r6, K.r7, K.r3, fun e1 e2 e3 => ?_⟩
      have hy := (h.f i hi).tk e1 e3
      rcases g.g.tq with ⟨e4, _⟩ | ⟨e4, _⟩ | ⟨_, _, e4, _⟩
      · rw [e4]; exact K.r4 e1 e2 e3
      · rw [e4]; exact K.r4 e1 e2 e3
      · exact absurd (h.one hi ht hy e4) e
theorem GC.th (C : GC k mode t b o c q tk y m) : there m.xs 0 = true := there_lk C.len (by decide) (by omega)
theorem gword_do (C : GC k mode t b o c q tk y m) (K x z : Int) (hK : isKind K = true := by rfl) : wordAt (doNew m.xs K 0 x z) 0 = leftOf K x z (wordAt m.xs 0) ∧ ∀ e : Int, e ≠ 0 → wordAt (doNew m.xs K 0 x z) e = wordAt m.xs e := by
  rw [doNew_st _ _ _ _ _ hK]
  exact ⟨by rw [word_st, if_pos C.th], fun e he => word_far _ (fun e2 => he e2.symm)⟩
theorem GC.at0_eq (C : GC k mode t b o c q tk y m) (x : Int) : (m.at t).fresh.at0 x = decide (wordAt m.xs 0 = x) := by
  show (there m.xs 0 && (wordAt m.xs 0 == x)) = _
  rw [C.th, Bool.true_and]; rfl
theorem GI.read (hk : k ≤ 64) (h : GI k b o c q tk y m) : freeW (wordAt m.xs 0) = decide (sumN q k = 0) ∧ rF (wordAt m.xs 0) = sumN c k ∧ oF (wordAt m.xs 0) = (b + o) % 256 ∧ iF (wordAt m.xs 0) = (b + (o + sumN q k : Nat)) % 256 := by
  have := h.small
  rw [h.w]
  refine ⟨?_, wv_r (by omega), wv_o (by omega), wv_i (by omega)⟩
  rw [wv_free (by omega) (by omega) (by omega)]
  exact decide_eq_decide.2 (by omega)
theorem gw_stay (C : GC k mode t b o c q tk y m) {op l : Int} (eo : R.op = op) (el : R.line = l) (er : R.ret = 0) (f : FW (m.hold t) op l 0 R.s R.k.on c' q' y') (g : GW k t b o c q tk y (wordAt R.xs 0) o' c' q' tk' y') (ka : KA b o' tk' op l 0 R.s R.a)
    (far : (m.rs t).k.on = false → wtR wtW (m.rs t) = none → ∀ e : Int, 8 + 2 * (k : Int) ≤ e → wordAt R.xs e = wordAt m.xs e) (wk : WkW k t mode m R) : GGo k mode t b o c q tk y m R := by
  obtain ⟨f1, f2⟩ := fin_no (R := R) (m.hold t) er
  exact ⟨o', c', q', tk', y', by rw [f1, f2, eo, el, er]; exact f, g, by rw [f1, eo, el, er]; exact ka, far, wk⟩
theorem ka_none {op l ret s a : Int} {o tk : Nat} (h : op = 0 ∨ op = 2 ∨ l = 0 ∨ (ret ≠ 0 ∧ (op = 4 ∨ op = 8))) : KA b o tk op l ret s a :=
  ⟨fun e1 e2 => by omega, fun e1 e2 => by omega, fun e1 e2 => by omega, fun e1 e2 => by omega, fun e1 e2 => by omega, fun e1 e2 => by omega, fun e1 e2 e3 => by omega⟩
theorem gw_end (C : GC k mode t b o c q tk y m) {op l ret hv : Int} (eo : R.op = op) (el : R.line = l) (er : R.ret = ret) (hr : ret ≠ 0) (hb : behindI op ret (m.hold t) = hv) (f1 : R.k.on = true → FW (m.hold t) op l ret R.s true c' q' y' ∧ (op = 2 ∨ op = 4 ∨ op = 8)) (f0 : ∀ s, FW hv 0 0 0 s false c' q' y') (g : GW k t b o c q tk y (wordAt R.xs 0) o' c' q' tk' y')
    (far : (m.rs t).k.on = false → wtR wtW (m.rs t) = none → ∀ e : Int, 8 + 2 * (k : Int) ≤ e → wordAt R.xs e = wordAt m.xs e) (wk : WkW k t mode m R) : GGo k mode t b o c q tk y m R := by
  cases hon : R.k.on
  · obtain ⟨e1, e2⟩ := fin_yes (R := R) (m.hold t) (by rw [er]; exact hr) hon
    exact ⟨o', c', q', tk', y', by rw [e1, e2, eo, er, hb]; exact f0 _, g, by rw [e1]; exact ka_none (.inl rfl), far, wk⟩
  · obtain ⟨e1, e2⟩ := fin_on (R := R) (m.hold t) hon
    obtain ⟨g1, g2⟩ := f1 hon
    exact ⟨o', c', q', tk', y', by rw [e1, e2, eo, el, er, hon]; exact g1, g, by rw [e1, eo, el, er]; exact ka_none (by omega), far, wk⟩
-- the word, changed
theorem gw_same (h : GI k b o c q tk y m) (ht : t < k) (hv : v = wordAt m.xs 0) : GW k t b o c q tk y v o (c t) (q t) (tk t) (y t) := by
  refine ⟨by rw [updq_self, updq_self, hv]; exact h.w, .inl ⟨rfl, rfl, rfl⟩, fun i hi _ hy => ?_, fun hy => ?_⟩
  · rw [updq_self]; exact (h.y1 i hi hy).2
  · rw [updq_self]; exact h.y1 t ht hy
theorem gw_seen (h : GI k b o c q tk y m) (hv : v = wordAt m.xs 0) (h1 : tk t = o) (h2 : sumN c k = 0) : GW k t b o c q tk y v o (c t) (q t) (tk t) 1 := by
  refine ⟨by rw [updq_self, updq_self, hv]; exact h.w, .inl ⟨rfl, rfl, rfl⟩, fun i hi _ hy => ?_, fun _ => ?_⟩
  · rw [updq_self]; exact h2
  · rw [updq_self]; exact ⟨h1, h2⟩
theorem gw_in (h : GI k b o c q tk y m) (ht : t < k) (hc : c t = 0) (hq : sumN q k = 0) (hv : v = (wordAt m.xs 0 + 1) % 4294967296) : GW k t b o c q tk y v o 1 (q t) (tk t) 0 := by
  have hs := sumw_set (f := c) ht 1
  refine ⟨?_, .inl ⟨rfl, rfl, rfl⟩, fun i hi _ hy => ?_, fun hy => by cases hy⟩
  · rw [updq_self, hv, h.w, wv_up, show sumN (upd c t 1) k = sumN c k + 1 by omega]
  · have := sumN_at (f := q) hi
    have := h.yq hi hy
    omega
theorem gw_out (h : GI k b o c q tk y m) (ht : t < k) (hc : c t = 1) (hv : v = (4294967295 + wordAt m.xs 0) % 4294967296) : GW k t b o c q tk y v o 0 (q t) (tk t) 0 := by
  have hs := sumw_set (f := c) ht 0
  refine ⟨?_, .inl ⟨rfl, rfl, rfl⟩, fun i hi _ hy => ?_, fun hy => by cases hy⟩
  · rw [updq_self, hv, h.w, show sumN c k = sumN (upd c t 0) k + 1 by omega, wv_down]
  · have := (h.y1 i hi hy).2
    omega
theorem gw_draw (h : GI k b o c q tk y m) (ht : t < k) (hc : c t = 0) (hq : q t = 0) (hv : v = (65536 + wordAt m.xs 0) % 4294967296) : GW k t b o c q tk y v o 0 1 (o + sumN q k) 0 := by
  have hs := sumw_set (f := c) ht 0
  have hs2 := sumw_set (f := q) ht 1
  refine ⟨?_, .inr (.inl ⟨rfl, hq, rfl, rfl⟩), fun i hi _ hy => ?_, fun hy => by cases hy⟩
  · rw [hv, h.w, wv_draw, show sumN (upd c t 0) k = sumN c k by omega, show o + sumN (upd q t 1) k = o + sumN q k + 1 by omega]
  · have := (h.y1 i hi hy).2
    omega
theorem gw_try (h : GI k b o c q tk y m) (ht : t < k) (hc : sumN c k = 0) (hq : sumN q k = 0) (hv : v = (wordAt m.xs 0 + 65536) % 4294967296) : GW k t b o c q tk y v o 0 1 o 1 := by
  have hs := sumw_set (f := c) ht 0
  have hs2 := sumw_set (f := q) ht 1
  have h1 := sumN_at (f := c) ht
  have h2 := sumN_at (f := q) ht
  refine ⟨?_, .inr (.inl ⟨rfl, by omega, rfl, by omega⟩), fun i hi _ hy => by omega, fun _ => ⟨rfl, by omega⟩⟩
  rw [hv, h.w, wv_draw', show sumN (upd c t 0) k = sumN c k by omega, show o + sumN (upd q t 1) k = o + sumN q k + 1 by omega]
theorem gw_up (h : GI k b o c q tk y m) (ht : t < k) (hct : c t = 1) (hc : sumN c k = 1) (hq : sumN q k = 0) (hv : v = (wordAt m.xs 0 + 65535) % 4294967296) : GW k t b o c q tk y v o 0 1 o 1 := by
  have hs := sumw_set (f := c) ht 0
  have hs2 := sumw_set (f := q) ht 1
  have h2 := sumN_at (f := q) ht
  refine ⟨?_, .inr (.inl ⟨rfl, by omega, rfl, by omega⟩), fun i hi _ hy => by omega, fun _ => ⟨rfl, by omega⟩⟩
  rw [hv, h.w, show sumN c k = sumN (upd c t 0) k + 1 by omega, wv_rise, show o + sumN (upd q t 1) k = o + sumN q k + 1 by omega]
theorem gw_leave (h : GI k b o c q tk y m) (ht : t < k) (hc : c t = 0) (hq : q t = 1) (hy : y t = 1) {a : Int} (ha : oF a = (b + o) % 256) (hv : v = (nextO a + wordAt m.xs 0) % 4294967296) : GW k t b o c q tk y v (o + 1) 0 0 0 0 := by
  have hs := sumw_set (f := c) ht 0
  have hs2 := sumw_set (f := q) ht 0
  refine ⟨?_, .inr (.inr ⟨rfl, hq, hy, rfl⟩), fun i hi hne e => absurd (h.one hi ht e hy) hne, fun e => by cases e⟩
  rw [hv, h.w, wv_next ha, show sumN (upd c t 0) k = sumN c k by omega, show o + 1 + sumN (upd q t 0) k = o + sumN q k by omega]
theorem gw_down (h : GI k b o c q tk y m) (ht : t < k) (hc : c t = 0) (hq : q t = 1) (hy : y t = 1) {a : Int} (ha : oF a = (b + o) % 256) (hv : v = ((nextO a + 1) % 4294967296 + wordAt m.xs 0) % 4294967296) : GW k t b o c q tk y v (o + 1) 1 0 0 0 := by
  have hs := sumw_set (f := c) ht 1
  have hs2 := sumw_set (f := q) ht 0
  refine ⟨?_, .inr (.inr ⟨rfl, hq, hy, rfl⟩), fun i hi hne e => absurd (h.one hi ht e hy) hne, fun e => by cases e⟩
  rw [hv, h.w, wv_next1 ha, show sumN (upd c t 1) k = sumN c k + 1 by omega, show o + 1 + sumN (upd q t 0) k = o + sumN q k by omega]
-- who waits
theorem wtW_cases {r : LS} {e : Int} {p : Int → Bool} (h : wtR wtW r = some (e, p)) : (r.op = 1 ∧ r.line = 2 ∧ e = 0 ∧ p = freeW) ∨ (r.op = 3 ∧ r.line = 1 ∧ e = 0 ∧ p = turnW (iF r.a)) := by
  have h' : wtW r.n r.task r.op r.line r.a r.b = some (e, p) := h
  unfold wtW at h'
  by_cases e1 : r.op = 1 ∧ r.line = 2
  · rw [if_pos e1] at h'; obtain ⟨rfl, rfl⟩ := Prod.mk.inj (Option.some.inj h'); exact .inl ⟨e1.1, e1.2, rfl, rfl⟩
  rw [if_neg e1] at h'
  by_cases e2 : r.op = 3 ∧ r.line = 1
  · rw [if_pos e2] at h'; obtain ⟨rfl, rfl⟩ := Prod.mk.inj (Option.some.inj h'); exact .inr ⟨e2.1, e2.2, rfl, rfl⟩
  · rw [if_neg e2] at h'; cases h'
theorem wk_same (hx : wordAt R.xs 0 = wordAt m.xs 0) : WkW k t mode m R := .inr fun i hi _ e p hw hp => by
  rcases wtW_cases hw with ⟨_, _, rfl, _⟩ | ⟨_, _, rfl, _⟩ <;> rwa [hx] at hp
theorem wk_free (hk : k ≤ 64) (h : GI k b o c q tk y m) (hq : sumN q k = 0) : WkW k t mode m R := .inr fun i hi _ e p hw hp => by
  rcases wtW_cases hw with ⟨_, _, rfl, rfl⟩ | ⟨e1, e2, rfl, _⟩
  · rw [(h.read hk).1]; exact decide_eq_true hq
  · have F := h.f i hi
    have := sumN_at (f := q) hi
    cases F <;> omega
theorem wk_draw (hk : k ≤ 64) (h : GI k b o c q tk y m) (hk2 : sumN q k < 64) (hx : wordAt R.xs 0 = (65536 + wordAt m.xs 0) % 4294967296) : WkW k t mode m R := .inr fun i hi _ e p hw hp => by
  have hs := h.small
  rcases wtW_cases hw with ⟨_, _, rfl, rfl⟩ | ⟨e1, e2, rfl, rfl⟩
  · rw [hx, h.w, wv_draw, wv_free (by omega) (by omega) (by omega)] at hp
    have := of_decide_eq_true hp
    omega
  · rw [hx, h.w, wv_draw] at hp
    rw [h.w]
    unfold turnW at *
    rwa [wv_o (by omega), wv_r (by omega)] at hp ⊢
end
end Go.Proofs.Ytaeninikaalkjaa
