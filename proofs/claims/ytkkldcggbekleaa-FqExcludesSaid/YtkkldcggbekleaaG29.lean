import Derived.Test.YtkkldcggbekleaaG5
import Derived.Test.YtkkldcggbekleaaG25
import Derived.Test.YtkkldcggbekleaaG4
set_option linter.unusedVariables false
set_option linter.unusedSimpArgs false
namespace Go.Proofs.Ytkkldcggbekleaa
section
variable {k t : Nat} {mode : Int} {s : QS} {qp c : Nat → Nat} {m : MV}
theorem wt_none {r : LS} (h1 : ¬ ((r.op = 1 ∨ r.op = 3) ∧ r.line = 4)) (h2 : ¬ (r.op = 3 ∧ r.line = 5)) (h3 : ¬ (((r.op = 1 ∨ r.op = 5 ∨ r.op = 6 ∨ r.op = 7) ∧ r.line = 8) ∨ (r.op = 4 ∧ r.line = 2) ∨ (r.op = 8 ∧ r.line = 3))) : wtR wtQ r = none := by
  show wtQ _ _ _ _ _ _ = none
  unfold wtQ
  rw [if_neg h1, if_neg h2, if_neg h3]
theorem mv_try (hk : k ≤ 64) (A : AtQ 0 mode k t s (m.at t).fresh) (h : FqI k s qp c m) (ht : t < k) (hon : (m.rs t).k.on = false) (hs0 : wtR wtQ (m.rs t) = none → (m.rs t).s = 0) (hret : (m.rs t).ret = 0) {j : Nat} (ho : (m.rs t).op = 5 ∨ (m.rs t).op = 6 ∨ (m.rs t).op = 7) (hj : j < 2) (hl : (m.rs t).line = j) (hh : m.hold t = if (m.rs t).op = 7 then 1 else 0) (hq : qp t = j + 11) (hc : c t = if (m.rs t).op = 7 then 1 else 0) : ∃ s' qp' c', FqMv k mode t s qp c m (m.at t).fresh.fq s' qp' c' := by
  have T := h.t t ht
  rw [hq] at T
  rw [fq_try (r := (m.at t).fresh) ho hl hj]
  have hop : (m.rs t).op ≠ 0 := by omega
  have h3 : (m.rs t).op ≠ 3 := by omega
  have h5 : j = 0 ∨ j = 1 := by omega
  rcases h5 with rfl | rfl
  · rw [qTry_0 (r := (m.at t).fresh) hl]
    refine mv_q h (q_t0 A T) rfl (fun _ _ => rfl) hret hop ?_ (fun e => absurd e h3) (fun _ e => by cases e)
    show FT (m.hold t) (m.rs t).op 1 0 _ 12 (c t)
    by_cases e7 : (m.rs t).op = 7
    · exact .tr7 1 e7 (by decide) rfl rfl (by rw [hh, if_pos e7]) rfl (by rw [hc, if_pos e7])
    · exact .tr 1 (by omega) (by decide) rfl rfl (by rw [hh, if_neg e7]) rfl (by rw [hc, if_neg e7])
  · rw [qTry_1 (r := (m.at t).fresh) hl, A.th, A.wt, Bool.true_and]
    obtain ⟨g1, g2⟩ := q_t1 A T
    obtain ⟨f1, f2, f3, f4, f5⟩ := doA_fr (m.at t).fresh 5 0 0 (m.at t).fresh.me
    have f1' : ((m.at t).fresh.doA 5 0 0 (m.at t).fresh.me).op = (m.rs t).op := f1.trans rfl
    have f4' : ((m.at t).fresh.doA 5 0 0 (m.at t).fresh.me).k = (m.rs t).k := f4.trans rfl
    generalize (m.at t).fresh.doA 5 0 0 (m.at t).fresh.me = R0 at g1 g2 f1 f2 f3 f4 f5 f1' f4' ⊢
    by_cases hz : s.tail = 0
    · rw [if_pos (by rw [hz]; rfl)]
      by_cases e5 : (m.rs t).op = 5
      · rw [if_pos (show (m.at t).fresh.op = 5 from e5)]
        refine mv_q h ((g1 hz).same (R' := (R0.note 2 1).go 5) rfl rfl rfl rfl) rfl (fun _ _ => rfl) (f3.trans hret) (by show R0.op ≠ 0; rw [f1']; exact hop) ?_ (fun e => absurd (f1'.symm.trans e) h3) (fun _ e => by cases e)
        show FT (m.hold t) R0.op 5 0 _ 6 (c t)
        rw [f1']
        exact .cnt (.inr e5) rfl rfl (by rw [hh, if_neg (by omega)]) rfl (by rw [hc, if_neg (by omega)])
      · rw [if_neg (show ¬ (m.at t).fresh.op = 5 from e5)]
        refine mv_q h ((g1 hz).same (R' := (R0.note 2 2).go 2) rfl rfl rfl rfl) rfl (fun _ _ => rfl) (f3.trans hret) (by show R0.op ≠ 0; rw [f1']; exact hop) ?_ (fun e => absurd (f1'.symm.trans e) h3) (fun _ e => by cases e)
        show FT (m.hold t) R0.op 2 0 _ 6 (c t)
        rw [f1']
        by_cases e7 : (m.rs t).op = 7
        · exact .we7 e7 rfl rfl (by rw [hh, if_pos e7]) rfl (by rw [hc, if_pos e7])
        · exact .we6 (by omega) rfl rfl (by rw [hh, if_neg e7]) rfl (by rw [hc, if_neg e7])
    · rw [if_neg (by simpa using hz)]
      have hb : behindI (m.rs t).op 1 (m.hold t) = m.hold t := if_pos (by decide)
      refine mv_qe h ((g2 hz).same (R' := (R0.note 5 0).fin false) rfl rfl rfl rfl) rfl (fun _ _ => rfl) (by show (1 : Int) ≠ 0; decide) (.inl rfl) (fun e => ?_) (fun on => ?_) (fun e => ?_)
      · have e' : R0.k.on = true := e
        rw [f4', hon] at e'; cases e'
      · show FT (behindI R0.op 1 (m.hold t)) 0 0 0 on 0 (c t)
        rw [f1', hb]
        by_cases e7 : (m.rs t).op = 7
        · exact .idle1 rfl rfl (by rw [hh, if_pos e7]) rfl (by rw [hc, if_pos e7])
        · exact .idle0 rfl rfl (by rw [hh, if_neg e7]) rfl (by rw [hc, if_neg e7])
      · have e' : behindI R0.op 1 (m.hold t) = 2 := e
        rw [f1', hb, hh] at e'
        split at e' <;> cases e'
theorem mv_add (hk : k ≤ 64) (h : FqI k s qp c m) (ht : t < k) (hret : (m.rs t).ret = 0) (x : Int) (l' c' : Nat) (hx : x = 1 ∧ c t = 0 ∧ c' = 1) (hq : qp t = 6) (T : ∀ a st, TQ s t 7 a st) (hf : FT (m.hold t) (m.rs t).op l' 0 (m.rs t).k.on 7 c') (hh : m.hold t ≠ 2) (h3 : (m.rs t).op ≠ 3) (h7 : (m.rs t).op ≠ 7) : ∃ s' qp' c', FqMv k mode t s qp c m (((m.at t).fresh.doA 3 1 x 0).go l') s' qp' c' := by
  obtain ⟨a1, a2, a3⟩ := add_word hk h ht x c' (.inl hx)
  exact ⟨s, 7, c', mv_stay (R := ((m.at t).fresh.doA 3 1 x 0).go l') hret h.q a2 OthQ.refl hf (T _ _) a1 (fun e => e.elim (fun e => absurd e hh) fun e => absurd e.1 h3) (fun e => absurd e h7) (.inr (.inl hq)) fun _ _ => a3⟩
theorem mv_rel (hk : k ≤ 64) (A : AtQ 0 mode k t s (m.at t).fresh) (h : FqI k s qp c m) (ht : t < k) (ho : (m.rs t).op = 2) (hl : (m.rs t).line = 0) (hh : m.hold t = 0) (hq : qp t = 0) (hc : c t = 1) : ∃ s' qp' c', FqMv k mode t s qp c m (m.at t).fresh.fq s' qp' c' := by
  have T := h.t t ht
  rw [hq] at T
  rw [fq_rel (r := (m.at t).fresh) ho hl]
  obtain ⟨a1, a2, a3⟩ := add_word hk h ht 4294967295 0 (.inr ⟨rfl, hc, rfl⟩)
  obtain ⟨f1, f2, f3, f4, f5⟩ := doA_fr (m.at t).fresh 3 1 4294967295 0
  have f1' : ((m.at t).fresh.doA 3 1 4294967295 0).op = (m.rs t).op := f1.trans rfl
  have fm : ((m.at t).fresh.doA 3 1 4294967295 0).mode = mode := A.mode
  have fx : ((m.at t).fresh.doA 3 1 4294967295 0).xs = doNew m.xs 3 1 4294967295 0 := rfl
  rw [← fx] at a1 a2 a3
  generalize (m.at t).fresh.doA 3 1 4294967295 0 = R0 at f1' fm a1 a2 a3 ⊢
  refine ⟨s, 0, 0, mv_end (R := ((R0.note 6 0).wake 1).fin true) (by show (2 : Int) ≠ 0; decide) h.q a2 OthQ.refl (fun _ => ⟨.reld (f1'.trans ho) rfl hh rfl rfl rfl, by omega, by show R0.op ≠ 3; omega⟩) (fun on => ?_) (fun a st => T.any (.inl rfl)) a1 (fun e => ?_) (.inr (.inr ⟨hc, rfl, by show beginI R0.mode 1 = _; rw [fm]⟩)) fun _ _ => a3⟩
  · show FT (behindI R0.op 2 (m.hold t)) 0 0 0 on 0 0
    rw [f1', ho, hh]; exact .idle0 rfl rfl rfl rfl rfl
  · have e' : behindI R0.op 2 (m.hold t) = 2 := e
    rw [f1', ho, hh] at e'; cases e'
theorem mv_up (hk : k ≤ 64) (h : FqI k s qp c m) (ht : t < k) (hon : (m.rs t).k.on = false) (hret : (m.rs t).ret = 0) (ho : (m.rs t).op = 7) (hl : (m.rs t).line = 3) (hh : m.hold t = 1) (hq : qp t = 6) (hc : c t = 1) : ∃ s' qp' c', FqMv k mode t s qp c m (m.at t).fresh.fq s' qp' c' := by
  have T := h.t t ht
  rw [hq] at T
  rw [fq_up (r := (m.at t).fresh) ho hl]
  obtain ⟨a1, a2, a3⟩ := add_word hk h ht 4294967295 0 (.inr ⟨rfl, hc, rfl⟩)
  have h1 := h.o t ht ho hl hret
  have h2 := sum_upd (k := k) (c := c) ht 0
  refine ⟨s, 6, 0, mv_end (by show (2 : Int) ≠ 0; decide) h.q a2 OthQ.refl (fun e => ?_) (fun on => ?_) (fun a st => T.any (.inr rfl)) a1 (fun e => by omega) (.inr (.inl hq)) fun _ _ => a3⟩
  · have e' : (m.rs t).k.on = true := e
    rw [hon] at e'; cases e'
  · show FT (behindI (m.rs t).op 2 (m.hold t)) 0 0 0 on 6 0
    rw [ho, hh]; exact .idle2 rfl rfl rfl rfl rfl
theorem mv_we (hk : k ≤ 64) (A : AtQ 0 mode k t s (m.at t).fresh) (h : FqI k s qp c m) (ht : t < k) (hon : (m.rs t).k.on = false) (hret : (m.rs t).ret = 0) (ho : ((m.rs t).op = 6 ∧ m.hold t = 0 ∧ c t = 0) ∨ ((m.rs t).op = 7 ∧ m.hold t = 1 ∧ c t = 1)) (hl : (m.rs t).line = 2) (hq : qp t = 6) : ∃ s' qp' c', FqMv k mode t s qp c m (m.at t).fresh.fq s' qp' c' := by
  have T := h.t t ht
  rw [hq] at T
  have T7 : ∀ a st, TQ s t 7 a st := fun a st => .g0 (T.six rfl)
  obtain ⟨f1, f2, f3, f4, f5, f6⟩ := qCount_fr (m.at t).fresh
  have f1' : (m.at t).fresh.qCount.op = (m.rs t).op := f1.trans rfl
  have f4' : (m.at t).fresh.qCount.k = (m.rs t).k := f4.trans rfl
  have f6' : (m.at t).fresh.qCount.xs = m.xs := f6.trans rfl
  have hword : wordAt (m.at t).fresh.xs 1 = (sumN c k : Nat) := h.n
  have h3 : (m.rs t).op ≠ 3 := by omega
  have hcc : upd c t (c t) = c := updq_self _ _
  -- refused
  have no : (m.at t).fresh.fq = ((m.at t).fresh.qCount.note 5 0).go 6 → ∃ s' qp' c', FqMv k mode t s qp c m (m.at t).fresh.fq s' qp' c' := fun e => by
    rw [e]
    generalize (m.at t).fresh.qCount = R0 at f1 f2 f3 f4 f5 f6 f1' f4' f6' ⊢
    refine ⟨s, 7, c t, mv_stay (R := (R0.note 5 0).go 6) (f3.trans hret) h.q (by show WordsT 0 k R0.xs s; rw [f6']; exact h.w) OthQ.refl ?_ (T7 _ _) (by show wordAt R0.xs 1 = _; rw [f6', hcc]; exact h.n) (fun e => e.elim (fun e => by omega) fun e => absurd (f1'.symm.trans e.1) h3) (fun _ e => by cases e) (.inl rfl) fun _ _ d _ => by show wordAt R0.xs d = _; rw [f6']⟩
    show FT (m.hold t) R0.op 6 0 R0.k.on 7 (c t)
    rw [f1']
    rcases ho with ⟨o1, o2, o3⟩ | ⟨o1, o2, o3⟩
    · exact .give 0 6 false [8] (by rw [o1, o2, o3]; exact .l6) (by decide) rfl rfl rfl
    · exact .give 0 6 false [8] (by rw [o1, o2, o3]; exact .t7) (by decide) rfl rfl rfl
  rcases ho with ⟨o1, o2, o3⟩ | ⟨o1, o2, o3⟩
  · have hE := fq_we6 (r := (m.at t).fresh) o1 hl
    by_cases hz : wordAt (m.at t).fresh.xs 1 = 0
    · rw [if_pos hz] at hE
      rw [hE]
      have hz0 : sumN c k = 0 := by omega
      generalize (m.at t).fresh.qCount = R0 at f1 f2 f3 f4 f5 f6 f1' f4' f6' ⊢
      refine ⟨s, 6, c t, mv_end (R := (R0.note 4 0).fin true) (by show (2 : Int) ≠ 0; decide) h.q (by show WordsT 0 k R0.xs s; rw [f6']; exact h.w) OthQ.refl (fun e => ?_) (fun on => ?_) (fun a st => T.any (.inr rfl)) (by show wordAt R0.xs 1 = _; rw [f6', hcc]; exact h.n) (fun e => by rw [hcc]; exact hz0) (.inl rfl) fun _ _ d _ => by show wordAt R0.xs d = _; rw [f6']⟩
      · have e' : R0.k.on = true := e
        rw [f4', hon] at e'; cases e'
      · show FT (behindI R0.op 2 (m.hold t)) 0 0 0 on 6 (c t)
        rw [f1', o1, o2]; exact .idle2 rfl rfl rfl rfl o3
    · rw [if_neg hz] at hE
      exact no hE
  · have hE := fq_we7 (r := (m.at t).fresh) o1 hl
    by_cases hz : wordAt (m.at t).fresh.xs 1 = 1
    · rw [if_pos hz] at hE
      rw [hE]
      have hz0 : sumN c k = 1 := by omega
      generalize (m.at t).fresh.qCount = R0 at f1 f2 f3 f4 f5 f6 f1' f4' f6' ⊢
      refine ⟨s, 6, c t, mv_stay (R := R0.go 3) (f3.trans hret) h.q (by show WordsT 0 k R0.xs s; rw [f6']; exact h.w) OthQ.refl ?_ (T.any (.inr rfl)) (by show wordAt R0.xs 1 = _; rw [f6', hcc]; exact h.n) (fun e => e.elim (fun e => by omega) fun e => absurd (f1'.symm.trans e.1) h3) (fun _ _ => by rw [hcc]; exact hz0) (.inl rfl) fun _ _ d _ => by show wordAt R0.xs d = _; rw [f6']⟩
      show FT (m.hold t) R0.op 3 0 R0.k.on 6 (c t)
      rw [f1']
      exact .up o1 rfl rfl o2 rfl o3
    · rw [if_neg hz] at hE
      exact no hE
theorem mv_wait (hk : k ≤ 64) (A : AtQ 0 mode k t s (m.at t).fresh) (h : FqI k s qp c m) (ht : t < k) (hon : (m.rs t).k.on = false) (hret : (m.rs t).ret = 0) (ho : (m.rs t).op = 3) (hl : (m.rs t).line = 5) (hh : m.hold t = 0) (hq : qp t = 6) (hc : c t = 0) : ∃ s' qp' c', FqMv k mode t s qp c m (m.at t).fresh.fq s' qp' c' := by
  have T := h.t t ht
  rw [hq] at T
  rw [fq_wait (r := (m.at t).fresh) ho hl]
  have hw := wtQ_wait (r := m.rs t) ho hl
  have hcc : upd c t (c t) = c := updq_self _ _
  obtain ⟨f1, f2, f3, f4, f5⟩ := wait_fr (m.at t).fresh 1 isZ
  have f1' : ((m.at t).fresh.wait 1 isZ).op = (m.rs t).op := f1.trans rfl
  have f4' : ((m.at t).fresh.wait 1 isZ).k = (m.rs t).k := f4.trans rfl
  have fw : WordsT 0 k ((m.at t).fresh.wait 1 isZ).xs s := by
    show WordsT 0 k ((m.at t).fresh.stepR 1 isZ).xs s
    rw [A.step]; exact h.w.wait ⟨by decide, by decide⟩ hk ht _ _ _ _
  have fn : wordAt ((m.at t).fresh.wait 1 isZ).xs 1 = (sumN (upd c t (c t)) k : Nat) := by
    rw [hcc]
    exact (A.waitF 1 isZ 1 (by decide) (by decide) (.inl (by decide))).trans h.n
  obtain ⟨w1, w2⟩ := waitq_facts (xs := m.xs) (n := (m.at t).fresh.n) (mode := (m.at t).fresh.mode) (i := (m.at t).fresh.task) (s := (m.rs t).s) (c := 1) (q := isZ)
  rw [show stepI m.xs (m.at t).fresh.n (m.at t).fresh.mode (m.at t).fresh.task (m.rs t).s 1 isZ = (m.at t).fresh.stepR 1 isZ from rfl] at w1 w2
  have hz : isZ (wordAt m.xs 1) = true → sumN c k = 0 := fun e => by
    rw [h.n] at e
    unfold isZ at e
    have e2 : ((sumN c k : Nat) : Int) = 0 := by simpa using e
    omega
  generalize (m.at t).fresh.wait 1 isZ = R0 at f1 f2 f3 f4 f5 f1' f4' fw fn ⊢
  generalize (m.at t).fresh.stepR 1 isZ = S at f5 w1 w2 ⊢
  have hN : ∀ b : Bool, (R0.noteIf b 4).op = R0.op ∧ (R0.noteIf b 4).line = R0.line ∧ (R0.noteIf b 4).ret = R0.ret ∧ (R0.noteIf b 4).k = R0.k ∧ (R0.noteIf b 4).s = R0.s ∧ (R0.noteIf b 4).a = R0.a ∧ (R0.noteIf b 4).xs = R0.xs := fun b => by cases b <;> exact ⟨rfl, rfl, rfl, rfl, rfl, rfl, rfl⟩
  obtain ⟨n1, n2, n3, n4, n5, n6, n7⟩ := hN S.seen
  generalize R0.noteIf S.seen 4 = R1 at n1 n2 n3 n4 n5 n6 n7 ⊢
  cases hd : S.done
  · rw [if_neg Bool.false_ne_true]
    refine ⟨s, 6, c t, mv_stay (n3.trans (f3.trans hret)) h.q (by rw [n7]; exact fw) OthQ.refl ?_ (T.any (.inr rfl)) (by rw [n7]; exact fn) (fun e => e.elim (fun e => by omega) fun e => ?_) (fun e => by rw [n1, f1'] at e; omega) (.inl rfl) fun _ e => by rw [hw] at e; cases e⟩
    · rw [n1, n2, f1', f2]; exact .wait ho hl rfl hh rfl hc
    · have e4 := e.2.2
      rw [n5, f5] at e4
      rw [hcc]; exact hz (w2 e4).2
  · rw [if_pos rfl]
    refine ⟨s, 6, c t, mv_end (R := R1.fin true) (by show (2 : Int) ≠ 0; decide) h.q (by show WordsT 0 k R1.xs s; rw [n7]; exact fw) OthQ.refl (fun e => ?_) (fun on => ?_) (fun a st => T.any (.inr rfl)) (by show wordAt R1.xs 1 = _; rw [n7]; exact fn) (fun _ => ?_) (.inl rfl) fun _ e => by rw [hw] at e; cases e⟩
    · have e' : R1.k.on = true := e
      rw [n4, f4', hon] at e'; cases e'
    · show FT (behindI R1.op 2 (m.hold t)) 0 0 0 on 6 (c t)
      rw [n1, f1', ho, hh]; exact .idle2 rfl rfl rfl rfl hc
    · rw [hcc]
      rcases w1 hd with ⟨_, e⟩ | ⟨e, _⟩
      · exact hz e
      · exact h.z t ht (.inr ⟨ho, hl, e⟩)
theorem fq_mv (hk : k ≤ 64) (hg : GenQ wtQ k mode m) (h : FqI k s qp c m) (ht : t < k) (hop : (m.rs t).op ≠ 0) (hon : (m.rs t).k.on = false) : ∃ s' qp' c', FqMv k mode t s qp c m (m.at t).fresh.fq s' qp' c' := by
  obtain ⟨c1, c2, c3⟩ := hg.cst t ht
  have A : AtQ 0 mode k t s (m.at t).fresh := ⟨hk, ⟨by decide, by decide⟩, ht, c1, c2, c3, h.q, h.w⟩
  have hret := hg.rt t ht hon
  have hs0 : wtR wtQ (m.rs t) = none → (m.rs t).s = 0 := fun e => by
    by_cases e2 : (m.rs t).s = 0
    · exact e2
    · obtain ⟨⟨c', q', e3⟩, _⟩ := hg.sw t ht e2
      rw [e] at e3; cases e3
  have T := h.t t ht
  have F := h.f t ht
  have T7 : qp t = 6 → ∀ a st, TQ s t 7 a st := fun e a st => .g0 (T.six e)
  cases F with
  | idle0 ho => exact absurd ho hop
  | idle1 ho => exact absurd ho hop
  | idle2 ho => exact absurd ho hop
  | ent j ho hj hl hr hh hq hc => exact mv_ent hk A h ht hs0 hret ho hj hl hh hq hc
  | tr j ho hj hl hr hh hq hc => exact mv_try hk A h ht hon hs0 hret (by omega) hj hl (by rw [if_neg (by omega)]; exact hh) hq (by rw [if_neg (by omega)]; exact hc)
  | tr7 j ho hj hl hr hh hq hc => exact mv_try hk A h ht hon hs0 hret (by omega) hj hl (by rw [if_pos ho]; exact hh) hq (by rw [if_pos ho]; exact hc)
  | cnt ho hl hr hh hq hc =>
    rw [fq_cnt (r := (m.at t).fresh) ho hl]
    refine mv_add hk h ht hret 1 6 1 ⟨rfl, hc, rfl⟩ hq (T7 hq) ?_ (by omega) (by omega) (by omega)
    rcases ho with ho | ho
    · exact .give 0 6 true [4] (by rw [ho, hh]; exact .r1) (by decide) rfl rfl rfl
    · exact .give 0 6 true [4] (by rw [ho, hh]; exact .r5) (by decide) rfl rfl rfl
  | wait ho hl hr hh hq hc => exact mv_wait hk A h ht hon hret ho hl hh hq hc
  | rel ho hl hr hh hq hc => exact mv_rel hk A h ht ho hl hh hq hc
  | we6 ho hl hr hh hq hc => exact mv_we hk A h ht hon hret (.inl ⟨ho, hh, hc⟩) hl hq
  | we7 ho hl hr hh hq hc => exact mv_we hk A h ht hon hret (.inr ⟨ho, hh, hc⟩) hl hq
  | up ho hl hr hh hq hc => exact mv_up hk h ht hon hret ho hl hh hq hc
  | down ho hl hr hh hq hc =>
    rw [fq_down (r := (m.at t).fresh) ho hl]
    exact mv_add hk h ht hret 1 1 1 ⟨rfl, hc, rfl⟩ hq (T7 hq) (.give 0 1 true [10] (by rw [ho, hh]; exact .d8) (by decide) rfl rfl rfl) (by omega) (by omega) (by omega)
  | give j a ok w hgk hj hl hr hq => exact mv_give hk A h ht hon hs0 hret hgk hj hl hq
  | gave a ok w hgk hr hon' => rw [hon] at hon'; cases hon'
  | reld ho hr hh hon' => rw [hon] at hon'; cases hon'
end
end Go.Proofs.Ytkkldcggbekleaa
set_option linter.unusedVariables false
set_option linter.unusedSimpArgs false
namespace Go.Proofs.Ytkkldcggbekleaa
theorem seeN_xs (r : LS) : r.seeN.xs = (r.stepR (nc r.n r.task) isN).xs ∧ r.seeN.s = (r.stepR (nc r.n r.task) isN).next ∧ ((r.stepR (nc r.n r.task) isN).seen = false → r.seeN.a = r.a) := by
  unfold LS.seeN
  generalize nc r.n r.task = x
  split
  · rename_i h; exact ⟨rfl, rfl, fun e => by rw [h] at e; cases e⟩
  · exact ⟨rfl, rfl, fun _ => rfl⟩
theorem wtQ_like {r r' : LS} (h1 : r'.n = r.n) (h2 : r'.task = r.task) (h3 : r'.op = r.op) (h4 : r'.line = r.line) : wtR wtQ r' = wtR wtQ r := by
  show wtQ _ _ _ _ _ _ = wtQ _ _ _ _ _ _
  rw [h1, h2, h3, h4]; rfl
theorem waitln_give {r : LS} {a h op : Int} {ok : Bool} {w : List Int} {c : Nat} (hg : GiveK h op a ok w c) (ho : r.op = op) (hl : r.line = a + 2) : WaitLn wtQ r r.fq (nc r.n r.task) isN := by
  rw [fq_give hg ho (j := 2) hl (by decide), qGive_2 hl]
  obtain ⟨n1, n2, n3, n4, n5, n6, n7, n8⟩ := seeN_same r
  obtain ⟨x1, x2, x3⟩ := seeN_xs r
  have hd0 : ∀ b : Bool, (r.stepR (nc r.n r.task) isN).done = b → b = false → wtR wtQ r.seeN = wtR wtQ r := fun _ _ _ => wtQ_like n6 n8 n1 n2
  generalize r.seeN = R at *
  cases hd : (r.stepR (nc r.n r.task) isN).done
  · rw [if_neg Bool.false_ne_true]
    exact ⟨x1, x2, n4, n5, x3, fun _ => ⟨n2, n3, hd0 _ hd rfl⟩⟩
  · rw [if_pos rfl]
    exact ⟨x1, x2, n4, n5, x3, fun e => by rw [hd] at e; cases e⟩
theorem lines_fq : LinesQ LS.fq wtQ where
  cB r c q h h1 h2 h3 := by
    obtain ⟨k, hk⟩ := Int.eq_ofNat_of_zero_le (show 0 ≤ r.n by omega)
    obtain ⟨t, ht⟩ := Int.eq_ofNat_of_zero_le h2
    have hb : bc r.n r.task = 8 + k + t := by rw [hk, ht]; exact bc_q (by omega) (by omega)
    have hn : nc r.n r.task = 8 + t := by rw [hk, ht]; exact nc_q (k := k) (by omega) (by omega)
    have h' : wtQ r.n r.task r.op r.line r.a r.b = some (c, q) := h
    unfold wtQ at h'
    split at h'
    · obtain ⟨rfl, rfl⟩ := Prod.mk.inj (Option.some.inj h'); omega
    split at h'
    · obtain ⟨rfl, rfl⟩ := Prod.mk.inj (Option.some.inj h'); omega
    split at h'
    · obtain ⟨rfl, rfl⟩ := Prod.mk.inj (Option.some.inj h'); omega
    · cases h'
  op0 r h := wt_none (by omega) (by omega) (by omega)
  line0 r h := wt_none (by omega) (by omega) (by omega)
  same r := by
    have h := (keep_fq (r := r)).1
    exact ⟨h.n, h.mode, h.task, h.op, h.len⟩
  wait r c q hon h := by
    have h' : wtQ r.n r.task r.op r.line r.a r.b = some (c, q) := h
    unfold wtQ at h'
    by_cases e1 : (r.op = 1 ∨ r.op = 3) ∧ r.line = 4
    · rw [if_pos e1] at h'
      obtain ⟨rfl, rfl⟩ := Prod.mk.inj (Option.some.inj h')
      rw [fq_enter (j := 4) e1.1 e1.2 (by decide), qEnter_4 e1.2]
      obtain ⟨f1, f2, f3, f4, f5⟩ := wait_fr r (bc r.n r.task) isZ
      have x1 : (r.wait (bc r.n r.task) isZ).xs = (r.stepR (bc r.n r.task) isZ).xs := rfl
      have x2 : (r.wait (bc r.n r.task) isZ).a = r.a ∧ (r.wait (bc r.n r.task) isZ).b = r.b ∧ (r.wait (bc r.n r.task) isZ).n = r.n ∧ (r.wait (bc r.n r.task) isZ).task = r.task := ⟨rfl, rfl, rfl, rfl⟩
      generalize r.wait (bc r.n r.task) isZ = R at *
      cases hd : (r.stepR (bc r.n r.task) isZ).done
      · rw [if_neg Bool.false_ne_true]
        exact ⟨x1, f5, f4, x2.2.1, fun _ => x2.1, fun _ => ⟨f2, f3, wtQ_like x2.2.2.1 x2.2.2.2 f1 f2⟩⟩
      · rw [if_pos rfl]
        exact ⟨x1, f5, f4, x2.2.1, fun _ => x2.1, fun e => by rw [hd] at e; cases e⟩
    rw [if_neg e1] at h'
    by_cases e2 : r.op = 3 ∧ r.line = 5
    · rw [if_pos e2] at h'
      obtain ⟨rfl, rfl⟩ := Prod.mk.inj (Option.some.inj h')
      rw [fq_wait e2.1 e2.2]
      obtain ⟨f1, f2, f3, f4, f5⟩ := wait_fr r 1 isZ
      have x1 : (r.wait 1 isZ).xs = (r.stepR 1 isZ).xs := rfl
      have x2 : (r.wait 1 isZ).a = r.a ∧ (r.wait 1 isZ).b = r.b ∧ (r.wait 1 isZ).n = r.n ∧ (r.wait 1 isZ).task = r.task := ⟨rfl, rfl, rfl, rfl⟩
      generalize r.wait 1 isZ = R0 at *
      have hN : ∀ b : Bool, (R0.noteIf b 4).op = R0.op ∧ (R0.noteIf b 4).line = R0.line ∧ (R0.noteIf b 4).ret = R0.ret ∧ (R0.noteIf b 4).k = R0.k ∧ (R0.noteIf b 4).s = R0.s ∧ (R0.noteIf b 4).a = R0.a ∧ (R0.noteIf b 4).xs = R0.xs ∧ (R0.noteIf b 4).b = R0.b ∧ (R0.noteIf b 4).n = R0.n ∧ (R0.noteIf b 4).task = R0.task := fun b => by cases b <;> exact ⟨rfl, rfl, rfl, rfl, rfl, rfl, rfl, rfl, rfl, rfl⟩
      obtain ⟨n1, n2, n3, n4, n5, n6, n7, n8, n9, n10⟩ := hN (r.stepR 1 isZ).seen
      generalize R0.noteIf (r.stepR 1 isZ).seen 4 = R at *
      cases hd : (r.stepR 1 isZ).done
      · rw [if_neg Bool.false_ne_true]
        exact ⟨n7.trans x1, n5.trans f5, n4.trans f4, n8.trans x2.2.1, fun _ => n6.trans x2.1, fun _ => ⟨n2.trans f2, n3.trans f3, wtQ_like (n9.trans x2.2.2.1) (n10.trans x2.2.2.2) (n1.trans f1) (n2.trans f2)⟩⟩
      · rw [if_pos rfl]
        exact ⟨n7.trans x1, n5.trans f5, n4.trans f4, n8.trans x2.2.1, fun _ => n6.trans x2.1, fun e => by rw [hd] at e; cases e⟩
    rw [if_neg e2] at h'
    by_cases e3 : ((r.op = 1 ∨ r.op = 5 ∨ r.op = 6 ∨ r.op = 7) ∧ r.line = 8) ∨ (r.op = 4 ∧ r.line = 2) ∨ (r.op = 8 ∧ r.line = 3)
    · rw [if_pos e3] at h'
      obtain ⟨rfl, rfl⟩ := Prod.mk.inj (Option.some.inj h')
      rcases e3 with ⟨o | o | o | o, l⟩ | ⟨o, l⟩ | ⟨o, l⟩
      · exact waitln_give .r1 o l
      · exact waitln_give .r5 o l
      · exact waitln_give .l6 o l
      · exact waitln_give .t7 o l
      · exact waitln_give .u4 o l
      · exact waitln_give .d8 o l
    · rw [if_neg e3] at h'; cases h'
section
variable {k t : Nat} {mode : Int} {s : QS} {qp c : Nat → Nat} {m : MV}
def PlainP (r R : LS) : Prop := R.s = r.s ∧ (R.k = r.k ∨ ∃ c, R.k = beginI r.mode c)
theorem plain_p (h : FqI k s qp c m) (ht : t < k) (hop : (m.rs t).op ≠ 0) (hon : (m.rs t).k.on = false) (hw : wtR wtQ (m.rs t) = none) : PlainP (m.at t).fresh (m.at t).fresh.fq := by
  have F := h.f t ht
  cases F with
  | idle0 ho => exact absurd ho hop
  | idle1 ho => exact absurd ho hop
  | idle2 ho => exact absurd ho hop
  | ent j ho hj hl hr hh hq hc =>
    rw [fq_enter (r := (m.at t).fresh) ho hl hj]
    have h5 : j = 0 ∨ j = 1 ∨ j = 2 ∨ j = 3 ∨ j = 4 := by omega
    rcases h5 with rfl | rfl | rfl | rfl | rfl
    · rw [qEnter_0 (r := (m.at t).fresh) hl]; exact ⟨rfl, .inl rfl⟩
    · rw [qEnter_1 (r := (m.at t).fresh) hl]; exact ⟨rfl, .inl rfl⟩
    · rw [qEnter_2 (r := (m.at t).fresh) hl]
      obtain ⟨f1, f2, f3, f4, f5⟩ := swapIn_fr (m.at t).fresh 0 (if (m.at t).fresh.op = 1 then 1 else 2)
      generalize (m.at t).fresh.swapIn 0 (if (m.at t).fresh.op = 1 then 1 else 2) = R0 at *
      by_cases e : wordAt (m.at t).fresh.xs 0 = 0
      · rw [if_pos e]; exact ⟨f5, .inl f4⟩
      · rw [if_neg e]; exact ⟨f5, .inl f4⟩
    · rw [qEnter_3 (r := (m.at t).fresh) hl]
      exact ⟨(link_fr _).2.2.2, .inr ⟨_, rfl⟩⟩
    · rw [wtQ_enter (r := m.rs t) ho hl] at hw; cases hw
  | tr j ho hj hl hr hh hq hc | tr7 j ho hj hl hr hh hq hc =>
    rw [fq_try (r := (m.at t).fresh) (by show (m.rs t).op = 5 ∨ (m.rs t).op = 6 ∨ (m.rs t).op = 7; omega) hl hj]
    have h5 : j = 0 ∨ j = 1 := by omega
    rcases h5 with rfl | rfl
    · rw [qTry_0 (r := (m.at t).fresh) hl]; exact ⟨rfl, .inl rfl⟩
    · rw [qTry_1 (r := (m.at t).fresh) hl]
      obtain ⟨f1, f2, f3, f4, f5⟩ := doA_fr (m.at t).fresh 5 0 0 (m.at t).fresh.me
      generalize (m.at t).fresh.doA 5 0 0 (m.at t).fresh.me = R0 at *
      cases there (m.at t).fresh.xs 0 && (wordAt (m.at t).fresh.xs 0 == 0)
      · rw [if_neg Bool.false_ne_true]; exact ⟨f5, .inl f4⟩
      · rw [if_pos rfl]
        by_cases e : (m.at t).fresh.op = 5
        · rw [if_pos e]; exact ⟨f5, .inl f4⟩
        · rw [if_neg e]; exact ⟨f5, .inl f4⟩
  | cnt ho hl hr hh hq hc => rw [fq_cnt (r := (m.at t).fresh) ho hl]; exact ⟨rfl, .inl rfl⟩
  | wait ho hl hr hh hq hc => rw [wtQ_wait (r := m.rs t) ho hl] at hw; cases hw
  | rel ho hl hr hh hq hc =>
    rw [fq_rel (r := (m.at t).fresh) ho hl]
    obtain ⟨f1, f2, f3, f4, f5⟩ := doA_fr (m.at t).fresh 3 1 4294967295 0
    have fm : ((m.at t).fresh.doA 3 1 4294967295 0).mode = (m.at t).fresh.mode := rfl
    generalize (m.at t).fresh.doA 3 1 4294967295 0 = R0 at *
    exact ⟨f5, .inr ⟨1, by rw [← fm]; rfl⟩⟩
  | we6 ho hl hr hh hq hc =>
    rw [fq_we6 (r := (m.at t).fresh) ho hl]
    obtain ⟨f1, f2, f3, f4, f5, f6⟩ := qCount_fr (m.at t).fresh
    generalize (m.at t).fresh.qCount = R0 at *
    by_cases e : wordAt (m.at t).fresh.xs 1 = 0
    · rw [if_pos e]; exact ⟨f5, .inl f4⟩
    · rw [if_neg e]; exact ⟨f5, .inl f4⟩
  | we7 ho hl hr hh hq hc =>
    rw [fq_we7 (r := (m.at t).fresh) ho hl]
    obtain ⟨f1, f2, f3, f4, f5, f6⟩ := qCount_fr (m.at t).fresh
    generalize (m.at t).fresh.qCount = R0 at *
    by_cases e : wordAt (m.at t).fresh.xs 1 = 1
    · rw [if_pos e]; exact ⟨f5, .inl f4⟩
    · rw [if_neg e]; exact ⟨f5, .inl f4⟩
  | up ho hl hr hh hq hc =>
    rw [fq_up (r := (m.at t).fresh) ho hl]
    obtain ⟨f1, f2, f3, f4, f5⟩ := doA_fr (m.at t).fresh 3 1 4294967295 0
    generalize (m.at t).fresh.doA 3 1 4294967295 0 = R0 at *
    exact ⟨f5, .inl f4⟩
  | down ho hl hr hh hq hc => rw [fq_down (r := (m.at t).fresh) ho hl]; exact ⟨rfl, .inl rfl⟩
  | give j a ok w hg hj hl hr hq =>
    rw [fq_give (r := (m.at t).fresh) hg rfl hl hj]
    have h5 : j = 0 ∨ j = 1 ∨ j = 2 ∨ j = 3 := by omega
    rcases h5 with rfl | rfl | rfl | rfl
    · rw [qGive_0 (r := (m.at t).fresh) (by show (m.rs t).line = a; omega)]
      obtain ⟨f1, f2, f3, f4, f5⟩ := peek_fr (m.at t).fresh
      generalize (m.at t).fresh.peek = R0 at *
      split
      · exact ⟨f5, .inl f4⟩
      · exact ⟨f5, .inl f4⟩
    · rw [qGive_1 (r := (m.at t).fresh) (by show (m.rs t).line = a + 1; omega)]
      obtain ⟨f1, f2, f3, f4, f5⟩ := doA_fr (m.at t).fresh 5 0 (m.at t).fresh.me 0
      generalize (m.at t).fresh.doA 5 0 (m.at t).fresh.me 0 = R0 at *
      obtain ⟨n1, n2, n3, n4, _⟩ := notes_same R0 w
      split
      · exact ⟨n3.trans f5, .inl (n4.trans f4)⟩
      · exact ⟨f5, .inl f4⟩
    · rw [wtQ_give (r := m.rs t) hg rfl (by omega)] at hw; cases hw
    · rw [qGive_3 (r := (m.at t).fresh) (by show (m.rs t).line = a + 3; omega)]
      unfold LS.handOn
      obtain ⟨f1, f2, f3, f4, f5⟩ := doA_fr (m.at t).fresh 2 (bc (m.at t).fresh.n ((m.at t).fresh.a - 1)) 0 0
      have fm : ((m.at t).fresh.doA 2 (bc (m.at t).fresh.n ((m.at t).fresh.a - 1)) 0 0).mode = (m.at t).fresh.mode := rfl
      generalize (m.at t).fresh.doA 2 (bc (m.at t).fresh.n ((m.at t).fresh.a - 1)) 0 0 = R0 at *
      obtain ⟨n1, n2, n3, n4, n5, n6, _⟩ := notes_same R0 w
      generalize R0.notes w = R1 at *
      exact ⟨n3.trans f5, .inr ⟨bc (m.at t).fresh.n ((m.at t).fresh.a - 1), by rw [← fm, ← n6]; rfl⟩⟩
  | gave a ok w hgk hr hon' => rw [hon] at hon'; cases hon'
  | reld ho hr hh hon' => rw [hon] at hon'; cases hon'
structure FqInv (k : Nat) (mode : Int) (m : MV) : Prop where
  gen : GenQ wtQ k mode m
  ex : ∃ s qp c, FqI k s qp c m
theorem fq_wakes (hk : k ≤ 64) (hg : GenQ wtQ k mode m) (h : FqI k s qp c m) (ht : t < k) {R : LS} {s' : QS} {qp' c' : Nat} (g : FqMv k mode t s qp c m R s' qp' c') : ∀ i, i < k → i ≠ t → ∀ d q, wtR wtQ (m.rs i) = some (d, q) → (m.rs i).s = 3 → q (wordAt R.xs d) = true → q (wordAt m.xs d) = true ∨ R.k = beginI 2 d := by
  intro i hi hne d q hw hs hq
  obtain ⟨c1, c2, c3⟩ := hg.cst i hi
  have hm : mode = 2 := by
    by_cases e : mode = 2
    · exact e
    · have := hg.sp i hi e; omega
  have hw' : wtQ (m.rs i).n (m.rs i).task (m.rs i).op (m.rs i).line (m.rs i).a (m.rs i).b = some (d, q) := hw
  unfold wtQ at hw'
  rw [c1, c3] at hw'
  by_cases e1 : ((m.rs i).op = 1 ∨ (m.rs i).op = 3) ∧ (m.rs i).line = 4
  · rw [if_pos e1] at hw'
    obtain ⟨rfl, rfl⟩ := Prod.mk.inj (Option.some.inj hw')
    rw [g.w.b i hi] at hq
    rw [h.w.b i hi]
    rcases g.oth.b i hi hne with e | ⟨_, _, e⟩
    · rw [e] at hq; exact .inl hq
    · rw [hm] at e; exact .inr e
  rw [if_neg e1] at hw'
  by_cases e2 : (m.rs i).op = 3 ∧ (m.rs i).line = 5
  · rw [if_pos e2] at hw'
    obtain ⟨rfl, rfl⟩ := Prod.mk.inj (Option.some.inj hw')
    rcases g.mv with e | e | ⟨_, _, e⟩
    · rw [g.n, e, updq_self] at hq
      rw [h.n]; exact .inl hq
    · exact absurd (h.one hi ht ((h.f i hi).wait6 e2.1 e2.2) e) hne
    · rw [hm] at e; exact .inr e
  rw [if_neg e2] at hw'
  split at hw'
  · obtain ⟨rfl, rfl⟩ := Prod.mk.inj (Option.some.inj hw')
    rw [g.w.n i hi] at hq
    rw [h.w.n i hi]
    rcases g.oth.n i hi hne with e | ⟨_, _, e⟩
    · rw [e] at hq; exact .inl hq
    · rw [hm] at e; exact .inr e
  · cases hw'
theorem mv_waking (hk : k ≤ 64) (hg : GenQ wtQ k mode m) (h : FqI k s qp c m) (ht : t < k) (hop : (m.rs t).op ≠ 0) (hon : (m.rs t).k.on = true) : ∃ s' qp' c', FqMv k mode t s qp c m (m.at t).waking s' qp' c' := by
  obtain ⟨c1, c2, c3⟩ := hg.cst t ht
  have A : AtQ 0 mode k t s (m.at t) := ⟨hk, ⟨by decide, by decide⟩, ht, c1, c2, c3, h.q, h.w⟩
  have T := h.t t ht
  have F := h.f t ht
  have hQ := q_wake A T
  have hs0 : (m.rs t).s = 0 := by
    by_cases e : (m.rs t).s = 0
    · exact e
    · have := (hg.sw t ht e).2; rw [hon] at this; cases this
  have e1 : (m.at t).waking.op = (m.rs t).op := rfl
  have e2 : (m.at t).waking.line = (m.rs t).line := rfl
  have e3 : (m.at t).waking.ret = (m.rs t).ret := rfl
  have e5 : (m.at t).waking.s = 0 := hs0
  have e6 : (m.at t).waking.a = (m.rs t).a := rfl
  generalize (m.at t).waking = R at hQ e1 e2 e3 e5 e6 ⊢
  by_cases hr0 : (m.rs t).ret = 0
  · by_cases h73 : (m.rs t).op = 7 ∧ (m.rs t).line = 3
    · obtain ⟨s', q1, w1, t1, o1, f1⟩ := hQ
      have hh := F.holds
      have F' : FT (m.hold t) R.op R.line 0 R.k.on (qp t) (c t) := by
        rw [e1, e2]
        cases F with
        | idle0 ho hr hh hq hc => exact .idle0 ho rfl hh hq hc
        | idle1 ho hr hh hq hc => exact .idle1 ho rfl hh hq hc
        | idle2 ho hr hh hq hc => exact .idle2 ho rfl hh hq hc
        | ent j ho hj hl hr hh hq hc => exact .ent j ho hj hl rfl hh hq hc
        | tr j ho hj hl hr hh hq hc => exact .tr j ho hj hl rfl hh hq hc
        | tr7 j ho hj hl hr hh hq hc => exact .tr7 j ho hj hl rfl hh hq hc
        | cnt ho hl hr hh hq hc => exact .cnt ho hl rfl hh hq hc
        | wait ho hl hr hh hq hc => exact .wait ho hl rfl hh hq hc
        | rel ho hl hr hh hq hc => exact .rel ho hl rfl hh hq hc
        | we6 ho hl hr hh hq hc => exact .we6 ho hl rfl hh hq hc
        | we7 ho hl hr hh hq hc => exact .we7 ho hl rfl hh hq hc
        | up ho hl hr hh hq hc => exact .up ho hl rfl hh hq hc
        | down ho hl hr hh hq hc => exact .down ho hl rfl hh hq hc
        | give j a ok w hg hj hl hr hq => exact .give j a ok w hg hj hl rfl hq
        | gave a ok w hgk hr => rw [hr0] at hr; cases ok <;> cases hr
        | reld ho hr => rw [hr0] at hr; cases hr
      exact ⟨s', qp t, c t, mv_stay (e3.trans hr0) q1 w1 o1 F' t1 (by rw [updq_self, f1 1 (by decide) (by decide) (.inl (by decide))]; exact h.n) (fun e => by omega) (fun _ _ => by rw [updq_self]; exact h.o t ht h73.1 h73.2 hr0) (.inl rfl) fun e => by rw [hon] at e; cases e⟩
    · refine mv_q h hQ rfl (fun e => by rw [hon] at e; cases e) (e3.trans hr0) (by rw [e1]; exact hop) ?_ (fun _ _ => by rw [e5]; decide) (fun a b => h73 ⟨e1.symm.trans a, e2.symm.trans b⟩)
      rw [e1, e2]
      cases F with
      | idle0 ho hr hh hq hc => exact .idle0 ho rfl hh hq hc
      | idle1 ho hr hh hq hc => exact .idle1 ho rfl hh hq hc
      | idle2 ho hr hh hq hc => exact .idle2 ho rfl hh hq hc
      | ent j ho hj hl hr hh hq hc => exact .ent j ho hj hl rfl hh hq hc
      | tr j ho hj hl hr hh hq hc => exact .tr j ho hj hl rfl hh hq hc
      | tr7 j ho hj hl hr hh hq hc => exact .tr7 j ho hj hl rfl hh hq hc
      | cnt ho hl hr hh hq hc => exact .cnt ho hl rfl hh hq hc
      | wait ho hl hr hh hq hc => exact .wait ho hl rfl hh hq hc
      | rel ho hl hr hh hq hc => exact .rel ho hl rfl hh hq hc
      | we6 ho hl hr hh hq hc => exact .we6 ho hl rfl hh hq hc
      | we7 ho hl hr hh hq hc => exact .we7 ho hl rfl hh hq hc
      | up ho hl hr hh hq hc => exact .up ho hl rfl hh hq hc
      | down ho hl hr hh hq hc => exact .down ho hl rfl hh hq hc
      | give j a ok w hg hj hl hr hq => exact .give j a ok w hg hj hl rfl hq
      | gave a ok w hgk hr => rw [hr0] at hr; cases ok <;> cases hr
      | reld ho hr => rw [hr0] at hr; cases hr
  · cases F with
    | gave a ok w hgk hr hon' hq =>
      rw [hq] at hQ
      refine mv_qe h hQ rfl (fun e => by rw [hon] at e; cases e) (by rw [e3]; exact hr0) (.inl rfl) (fun e => ⟨.gave a ok w (by rw [e1]; exact hgk) (e3.trans hr) rfl rfl, hgk.op7.2.2.2, by rw [e1]; exact hgk.op7.1⟩) (fun on => by rw [e1, e3, hr]; exact (hgk.idle on).1) (fun e => by rw [e1, e3, hr] at e; exact absurd e (hgk.idle false).2)
    | reld ho hr hh hon' hq hc =>
      rw [hq] at hQ
      refine mv_qe h hQ rfl (fun e => by rw [hon] at e; cases e) (by rw [e3]; exact hr0) (.inl rfl) (fun e => ⟨.reld (e1.trans ho) (e3.trans hr) hh rfl rfl hc, by omega, by rw [e1]; omega⟩) (fun on => ?_) (fun e => ?_)
      · rw [e1, e3, ho, hr, hh]; exact .idle0 rfl rfl rfl rfl hc
      · rw [e1, e3, ho, hr, hh] at e; cases e
    | idle0 ho hr => exact absurd hr hr0
    | idle1 ho hr => exact absurd hr hr0
    | idle2 ho hr => exact absurd hr hr0
    | ent j ho hj hl hr => exact absurd hr hr0
    | tr j ho hj hl hr => exact absurd hr hr0
    | tr7 j ho hj hl hr => exact absurd hr hr0
    | cnt ho hl hr => exact absurd hr hr0
    | wait ho hl hr => exact absurd hr hr0
    | rel ho hl hr => exact absurd hr hr0
    | we6 ho hl hr => exact absurd hr hr0
    | we7 ho hl hr => exact absurd hr hr0
    | up ho hl hr => exact absurd hr hr0
    | down ho hl hr => exact absurd hr hr0
    | give j a ok w hg hj hl hr => exact absurd hr hr0
theorem FqInv.go (hk : k ≤ 64) (hk1 : 1 ≤ k) (h : FqInv k mode m) (ht : t < k) (hop : (m.rs t).op ≠ 0) (hst : (m.at t).stuck = false) : FqInv k mode (m.go LS.fq t) := by
  obtain ⟨hg, s, qp, c, hI⟩ := h
  rw [go_eq hst]
  cases hon : (m.rs t).k.on
  · have hR : (m.at t).next LS.fq = (m.at t).fresh.fq := by
      unfold LS.next
      rw [if_neg (by show ¬ (m.rs t).k.on = true; rw [hon]; exact Bool.false_ne_true)]
    rw [hR]
    obtain ⟨s', qp', c', g⟩ := fq_mv hk hg hI ht hop hon
    refine ⟨?_, s', _, _, g.keep hI ht⟩
    cases hw : wtR wtQ (m.rs t) with
    | none =>
      obtain ⟨p1, p2⟩ := plain_p hI ht hop hon hw
      have P : PlainLn (m.at t).fresh (m.at t).fresh.fq := ⟨fun d hd => g.far hon hw d (by have e : (m.at t).fresh.n = k := (hg.cst t ht).1; omega), p1, p2⟩
      exact (stepq_plain lines_fq hk hk1 hg ht hop hon hw P (fq_wakes hk hg hI ht g)).gen lines_fq hg ht
    | some cq => exact (stepq_wait lines_fq hk hg ht hop hon hst (c := cq.1) (q := cq.2) hw).gen lines_fq hg ht
  · have hR : (m.at t).next LS.fq = (m.at t).waking := by
      unfold LS.next
      rw [if_pos (by show (m.rs t).k.on = true; exact hon)]
    rw [hR]
    obtain ⟨s', qp', c', g⟩ := mv_waking hk hg hI ht hop hon
    exact ⟨(stepq_waking lines_fq hk hg ht hop hon).gen lines_fq hg ht, s', _, _, g.keep hI ht⟩
theorem FqInv.start (h : FqInv k mode m) (ht : t < k) (h0 : (m.rs t).op = 0) {op : Int} (hmay : mayI op (m.hold t) = true) : FqInv k mode (m.start t op) := by
  obtain ⟨hg, s, qp, c, hI⟩ := h
  have F := hI.f t ht
  have T := hI.t t ht
  have key : ∀ (hv : Int) (qp' : Nat), FT hv op 0 0 false qp' (c t) → TQ s t qp' 0 0 → fromI op (m.hold t) = hv → hv ≠ 2 → ∃ s qp c, FqI k s qp c (m.start t op) := fun hv qp' f tq e hne => by
    refine ⟨s, upd qp t qp', upd c t (c t), ?_⟩
    have := hI.set1 (R := zeroF (m.at t) op) (hv := hv) (qp' := qp') (c' := c t) (xs' := m.xs) (K := wk0) (mode := mode) ht hI.q hI.w OthQ.refl f tq (by rw [updq_self]; exact hI.n) (fun e => e.elim (fun e => absurd e hne) fun e => by have := e.2.1; cases this) (fun _ e => by cases e) (.inl rfl)
    rw [← e] at this
    exact this
  refine ⟨hg.start lines_fq ht h0 op, ?_⟩
  cases F with
  | idle0 ho hr hh hq hc =>
    rw [hq] at T
    rw [hh] at hmay
    have hp : s.ph t = 0 := by cases T with | out hp => exact hp
    have h4 : op = 1 ∨ op = 3 ∨ op = 5 ∨ op = 6 := by simp [mayI] at hmay; omega
    have hf : fromI op (m.hold t) = 0 := by rw [hh]; unfold fromI; rw [if_neg (by omega), if_neg (by omega)]
    rcases h4 with e | e | e | e
    · exact key 0 1 (.ent 0 (.inl e) (by decide) rfl rfl rfl rfl hc) (.e0 hp) hf (by decide)
    · exact key 0 1 (.ent 0 (.inr e) (by decide) rfl rfl rfl rfl hc) (.e0 hp) hf (by decide)
    · exact key 0 11 (.tr 0 (.inl e) (by decide) rfl rfl rfl rfl hc) (.t0 hp) hf (by decide)
    · exact key 0 11 (.tr 0 (.inr e) (by decide) rfl rfl rfl rfl hc) (.t0 hp) hf (by decide)
  | idle1 ho hr hh hq hc =>
    rw [hq] at T
    rw [hh] at hmay
    have hp : s.ph t = 0 := by cases T with | out hp => exact hp
    have h4 : op = 2 ∨ op = 7 := by simp [mayI] at hmay; omega
    rcases h4 with e | e
    · exact key 0 0 (.rel e rfl rfl rfl rfl hc) (.out hp) (by rw [e]; rfl) (by decide)
    · exact key 1 11 (.tr7 0 e (by decide) rfl rfl rfl rfl hc) (.t0 hp) (by rw [e, hh]; rfl) (by decide)
  | idle2 ho hr hh hq hc =>
    have hp := T.six hq
    rw [hh] at hmay
    have h4 : op = 4 ∨ op = 8 := by simp [mayI] at hmay; omega
    rcases h4 with e | e
    · exact key 0 7 (.give 0 0 true [7, 8] (by rw [e, hc]; exact .u4) (by decide) rfl rfl rfl) (.g0 hp) (by rw [e]; rfl) (by decide)
    · exact key 1 6 (.down e rfl rfl rfl rfl hc) (.own hp) (by rw [e]; rfl) (by decide)
  | ent j ho => omega
  | tr j ho => omega
  | tr7 j ho => omega
  | cnt ho => omega
  | wait ho => omega
  | rel ho => omega
  | we6 ho => omega
  | we7 ho => omega
  | up ho => omega
  | down ho => omega
  | give j a ok w hgk => exact absurd h0 hgk.op7.2.1
  | gave a ok w hgk => exact absurd h0 hgk.op7.2.1
  | reld ho => omega
end
end Go.Proofs.Ytkkldcggbekleaa
set_option linter.unusedVariables false
set_option linter.unusedSimpArgs false
namespace Go.Proofs.Ytkkldcggbekleaa
def ownW (xs : List Int) : Int → Int := fun d => if 0 ≤ d ∧ d < 8 then wordAt xs d else 0
theorem ownW_same {xs ys : List Int} (h : ∀ d, 0 ≤ d → d < 8 → wordAt ys d = wordAt xs d) : ownW ys = ownW xs := by
  funext d; unfold ownW; split
  · rename_i e; exact h d e.1 e.2
  · rfl
def perms (k : Nat) (m : MV) : Nat := sumN (fun i => if hasP m.xs k i then 1 else 0) k
theorem sum_move {f g : Nat → Nat} {k t e : Nat} (ht : t < k) (h : ∀ i, i < k → i ≠ t → g i ≤ f i + e) : sumN g k + f t + e ≤ sumN f k + k * e + g t := by
  have h1 : sumN g k ≤ sumN (upd (fun i => f i + e) t (g t)) k := sumN_le fun i hi => by
    by_cases e1 : i = t
    · subst e1; rw [upd_same]; exact Nat.le_refl _
    · rw [upd_other _ _ e1]; exact h i hi e1
  have h2 := sumN_upd (f := fun i => f i + e) (g := upd (fun i => f i + e) t (g t)) (t := t) (k := k) ht (fun i _ hi => upd_other _ _ hi)
  rw [upd_same] at h2
  have h3 : sumN (fun i => f i + e) k = sumN f k + k * e := by
    rw [sumN_add (f := f) (g := fun _ => e), sumN_const]
  rw [h3] at h2
  try dsimp only at h2
  omega
section
variable {k : Nat}
theorem swp_next (k : Nat) (c : Int) {i0 : Nat} (h : i0 < k) : swp k (nextI k c i0) ≤ 5 * (k - i0 - 1) := by
  unfold nextI
  split
  · simp [swp, wk0]
  · unfold swp
    simp only [Bool.false_eq_true, if_false, if_true, Nat.sub_zero]
    have : ((i0 : Int) + 1).toNat = i0 + 1 := by omega
    rw [this]; omega
theorem perms_one {m m' : MV} {i : Nat} (hi : i < k) (h : ∀ j, j < k → j ≠ i → hasP m'.xs k j = hasP m.xs k j) : perms k m' + (if hasP m.xs k i then 1 else 0) = perms k m + (if hasP m'.xs k i then 1 else 0) := by
  have := sumN_upd (f := fun i : Nat => if hasP m.xs (k : Int) (i : Int) then 1 else 0) (g := fun i : Nat => if hasP m'.xs (k : Int) (i : Int) then 1 else 0) (t := i) (k := k) hi (fun j hj hne => by simp only [h j hj hne])
  exact this
theorem perms_same {m m' : MV} (h : ∀ j, j < k → hasP m'.xs k j = hasP m.xs k j) : perms k m' = perms k m := sumN_congr fun i hi => by simp only [h i hi]
end
end Go.Proofs.Ytkkldcggbekleaa
set_option linter.unusedVariables false
set_option linter.unusedSimpArgs false
namespace Go.Proofs.Ytkkldcggbekleaa
abbrev VG := (Int → Int) → Int → LS → Nat
structure Alk (r r' : LS) : Prop where
  n : r'.n = r.n
  task : r'.task = r.task
  op : r'.op = r.op
  line : r'.line = r.line
  ret : r'.ret = r.ret
  a : r'.a = r.a
  b : r'.b = r.b
theorem Alk.wt {wt : WtG} {r r' : LS} (h : Alk r r') : wtR wt r' = wtR wt r := by unfold wtR; rw [h.n, h.task, h.op, h.line, h.a, h.b]
structure WorthQ (V : VG) : Prop where
  like : ∀ w h (r r' : LS), Alk r r' → V w h r' = V w h r
  over : ∀ w h (r : LS), r.ret ≠ 0 → V w (behindI r.op r.ret h) (zeroF r 0) ≤ V w h r
def shareQ (V : VG) (k : Nat) (m : MV) (i : Nat) : Nat := swp k (m.rs i).k + stp (m.rs i).s + V (ownW m.xs) (m.hold i) (m.rs i)
def FQ (V : VG) (k : Nat) (m : MV) : Nat := sumN (shareQ V k m) k + 3 * perms k m
def BlkQ (wt : WtG) (k : Nat) (mode : Int) (m : MV) (t : Nat) : Prop :=
  ((m.rs t).op = 0 ∧ m.hold t = 0) ∨ ((m.rs t).op ≠ 0 ∧ (m.rs t).k.on = false ∧ ∃ c q, wtR wt (m.rs t) = some (c, q) ∧ ((mode ≠ 2 ∧ q (wordAt m.xs c) = false) ∨ (mode = 2 ∧ (m.rs t).s = 3 ∧ hasP m.xs k t = false)))
section
variable {L : LS → LS} {wt : WtG} {V : VG} {k : Nat} {mode : Int} {m : MV} {t : Nat}
theorem potq_go (hL : LinesQ L wt) (hV : WorthQ V) (hk : k ≤ 64) (h : GenQ wt k mode m) (ht : t < k) (hop : (m.rs t).op ≠ 0) (hb : ¬ BlkQ wt k mode m t)
    (hD : ∀ c q, (m.rs t).k.on = false → wtR wt (m.rs t) = some (c, q) → (stepI m.xs k mode t (m.rs t).s c q).done = true → V (ownW m.xs) ((L (m.at t).fresh).finH (m.hold t)) (L (m.at t).fresh).finR + 4 ≤ V (ownW m.xs) (m.hold t) (m.rs t))
    (hN : ∀ c q, (m.rs t).k.on = false → wtR wt (m.rs t) = some (c, q) → (stepI m.xs k mode t (m.rs t).s c q).done = false → V (ownW m.xs) (m.hold t) (L (m.at t).fresh) ≤ V (ownW m.xs) (m.hold t) (m.rs t))
    (hPL : (m.rs t).k.on = false → wtR wt (m.rs t) = none → PlainLn (m.at t).fresh (L (m.at t).fresh))
    (hP : (m.rs t).k.on = false → wtR wt (m.rs t) = none → ∃ e, (∀ i, i < k → i ≠ t → V (ownW (L (m.at t).fresh).xs) (m.hold i) (m.rs i) ≤ V (ownW m.xs) (m.hold i) (m.rs i) + e) ∧ swp k (L (m.at t).fresh).finR.k + V (ownW (L (m.at t).fresh).xs) ((L (m.at t).fresh).finH (m.hold t)) (L (m.at t).fresh).finR + k * e < V (ownW m.xs) (m.hold t) (m.rs t)) :
    (m.at t).stuck = false ∧ FQ V k (m.go L t) < FQ V k m := by
  obtain ⟨c1, c2, c3⟩ := h.cst t ht
  have hns : (m.at t).stuck = false := by
    cases e : (m.at t).stuck
    · rfl
    · exfalso
      have hon : (m.at t).k.on = false := by
        cases e2 : (m.at t).k.on
        · rfl
        · unfold LS.stuck at e; rw [e2] at e; cases e
      obtain ⟨e1, e2, e3⟩ := stuck_iff hon e
      rw [c1, c3] at e3
      obtain ⟨⟨c, q, hw⟩, _⟩ := h.sw t ht (by omega)
      exact hb (.inr ⟨hop, hon, c, q, hw, .inr ⟨c2.symm.trans e1, e2, e3⟩⟩)
  refine ⟨hns, ?_⟩
  rw [go_eq hns]
  generalize hR : (m.at t).next L = R
  have hmain : ∀ (e a b : Nat), (∀ i, i < k → i ≠ t → V (ownW R.xs) (m.hold i) (m.rs i) ≤ V (ownW m.xs) (m.hold i) (m.rs i) + e) → perms k ⟨upd m.rs t R.finR, upd m.hold t (R.finH (m.hold t)), R.xs⟩ + b ≤ perms k m + a → swp k R.finR.k + stp R.finR.s + V (ownW R.xs) (R.finH (m.hold t)) R.finR + k * e + 3 * a < swp k (m.rs t).k + stp (m.rs t).s + V (ownW m.xs) (m.hold t) (m.rs t) + 3 * b → FQ V k ⟨upd m.rs t R.finR, upd m.hold t (R.finH (m.hold t)), R.xs⟩ < FQ V k m := by
    intro e a b h1 h2 h3
    have hs := sum_move (f := shareQ V k m) (g := shareQ V k ⟨upd m.rs t R.finR, upd m.hold t (R.finH (m.hold t)), R.xs⟩) (k := k) (t := t) (e := e) ht (fun i hi hne => by
      unfold shareQ
      dsimp only
      rw [upd_other _ _ hne, upd_other _ _ hne]
      have := h1 i hi hne
      omega)
    have ht1 : shareQ V k ⟨upd m.rs t R.finR, upd m.hold t (R.finH (m.hold t)), R.xs⟩ t = swp k R.finR.k + stp R.finR.s + V (ownW R.xs) (R.finH (m.hold t)) R.finR := by
      unfold shareQ; dsimp only; rw [upd_same, upd_same]
    have ht2 : shareQ V k m t = swp k (m.rs t).k + stp (m.rs t).s + V (ownW m.xs) (m.hold t) (m.rs t) := rfl
    unfold FQ
    omega
  cases hon : (m.rs t).k.on
  · have hR' : R = L (m.at t).fresh := by
      rw [← hR]; unfold LS.next
      rw [if_neg (by show ¬ (m.rs t).k.on = true; rw [hon]; exact Bool.false_ne_true)]
    have hsw0 : swp k (m.rs t).k = 0 := swp_off k hon
    cases hw : wtR wt (m.rs t) with
    | none =>
      obtain ⟨e, h1, h2⟩ := hP hon hw
      rw [← hR'] at h1 h2
      have P := hPL hon hw
      have cn : (m.at t).fresh.n = k := c1
      have hs0 : (m.rs t).s = 0 := by
        by_cases e2 : (m.rs t).s = 0
        · exact e2
        · obtain ⟨⟨c, q, e3⟩, _⟩ := h.sw t ht e2
          rw [hw] at e3; cases e3
      have hRs : R.finR.s = 0 := by
        have : R.s = 0 := by rw [hR']; exact P.s.trans hs0
        unfold LS.finR; split
        · rfl
        · exact this
      refine hmain e 0 0 h1 ?_ (by rw [hRs, hs0, hsw0]; omega)
      rw [perms_same (m := m) fun j hj => by
        show hasP R.xs k j = _
        rw [hR']; unfold hasP; rw [P.far _ (by rw [cn, pc_at hk hj]; omega)]; rfl]
      exact Nat.le_refl _
    | some cq =>
      obtain ⟨c, q⟩ := cq
      have W := hL.wait (m.at t).fresh c q hon hw
      have hSR : (m.at t).fresh.stepR c q = stepI m.xs k mode t (m.rs t).s c q := by
        show stepI m.xs (m.rs t).n (m.rs t).mode (m.rs t).task (m.rs t).s c q = _
        rw [c1, c2, c3]
      have hxs := W.xs
      have hs' := W.s
      have hstay := W.stay
      rw [hSR] at hxs hs' hstay
      rw [← hR'] at hxs hs' hstay
      have hkR : R.k = (m.rs t).k := by rw [hR']; exact W.k
      have hown : ownW R.xs = ownW m.xs := ownW_same fun d h0 h1 => by
        rw [hxs]; exact own_wait (by rw [wc_at hk ht]; omega) (by rw [pc_at hk ht]; omega)
      have hper : ∀ i, i < k → _ := fun i hi => step_per (xs := m.xs) (mode := mode) (s := (m.rs t).s) (c := c) (q := q) hk h.len ht hi
      have hkf : swp k R.finR.k = 0 := by
        unfold LS.finR; split
        · exact swp_off k rfl
        · rw [hkR]; exact hsw0
      have hoth : ∀ i, i < k → i ≠ t → V (ownW R.xs) (m.hold i) (m.rs i) ≤ V (ownW m.xs) (m.hold i) (m.rs i) + 0 := fun i _ _ => by rw [hown]; omega
      have hsame : ¬ (mode = 2 ∧ (m.rs t).s = 3) → perms k ⟨upd m.rs t R.finR, upd m.hold t (R.finH (m.hold t)), R.xs⟩ + 0 ≤ perms k m + 0 := fun e => by
        rw [perms_same (m := m) fun j hj => by
          show hasP R.xs k j = _
          rw [hxs, hper j hj, if_neg (fun e2 => e e2.2)]]
        omega
      have hnext := step_next (xs := m.xs) (k := k) (mode := mode) (t := t) (s := (m.rs t).s) (c := c) (q := q)
      have hd0 := step_done0 (xs := m.xs) (k := k) (mode := mode) (t := t) (s := (m.rs t).s) (c := c) (q := q)
      cases hd : (stepI m.xs k mode t (m.rs t).s c q).done
      · obtain ⟨l1, l2, l3⟩ := hstay hd
        have hr0 : R.ret = 0 := l2.trans (h.rt t ht hon)
        have hno : R.over = false := by unfold LS.over; rw [hr0]; rfl
        have hf : R.finR = R := by unfold LS.finR; rw [hno]; rfl
        have hh : R.finH (m.hold t) = m.hold t := by unfold LS.finH; rw [hno]; rfl
        have hVs : V (ownW R.xs) (R.finH (m.hold t)) R.finR ≤ V (ownW m.xs) (m.hold t) (m.rs t) := by
          rw [hf, hh, hown, hR']
          exact hN c q hon hw hd
        have p0 : stp 0 = 4 := rfl
        have p1 : stp 1 = 3 := rfl
        have p2 : stp 2 = 2 := rfl
        have p3 : stp 3 = 0 := rfl
        have p4 : stp 4 = 1 := rfl
        have hsr := h.sr t ht
        rcases hnext with ⟨e1, e2⟩ | ⟨em, _, ⟨e1, e2, e3, e4, e5⟩ | ⟨e1, e2⟩ | ⟨e1, e2⟩ | ⟨e1, e2, e3⟩⟩
        · rcases e2 with e2 | e2
          · rw [hd] at e2; cases e2
          · exfalso
            rw [stepI_spin e2] at hd
            exact hb (.inr ⟨hop, hon, c, q, hw, .inl ⟨e2, hd⟩⟩)
        · refine hmain 0 0 0 hoth (hsame (by omega)) ?_
          rw [hf] at hVs
          rw [hkf, hf, hs', e1, show (m.rs t).s = 0 by omega]
          omega
        · rcases e2 with e2 | ⟨e2, e3⟩
          · refine hmain 0 0 0 hoth (hsame (by omega)) ?_
            rw [hf] at hVs
            rw [hkf, hf, hs', e1, e2]
            omega
          · refine hmain 0 0 1 hoth ?_ ?_
            · have := perms_one (k := k) (m := m) (m' := ⟨upd m.rs t R.finR, upd m.hold t (R.finH (m.hold t)), R.xs⟩) ht (fun j hj hne => by
                show hasP R.xs k j = _
                rw [hxs, hper j hj, if_neg (fun e4 => hne e4.1)])
              have hpt : hasP R.xs k t = false := by rw [hxs, hper t ht, if_pos ⟨rfl, em, e2⟩]
              simp only [hpt, e3] at this
              simp at this
              omega
            · rw [hf] at hVs
              rw [hkf, hf, hs', e1, e2]
              omega
        · rcases e2 with ⟨e2, _⟩ | ⟨e2, e3⟩
          · refine hmain 0 0 0 hoth (hsame (by omega)) ?_
            rw [hf] at hVs
            rw [hkf, hf, hs', e1, e2]
            omega
          · exact absurd (.inr ⟨hop, hon, c, q, hw, .inr ⟨em, e2, e3⟩⟩) hb
        · refine hmain 0 0 0 hoth (hsame (by omega)) ?_
          rw [hf] at hVs
          rw [hkf, hf, hs', e1, e2]
          omega
      · have hDD := hD c q hon hw hd
        rw [← hR'] at hDD
        have h0 := hd0 hd
        have hRs : R.finR.s = 0 := by
          unfold LS.finR; split
          · rfl
          · rw [hs', h0]
        have hn3 : ¬ (mode = 2 ∧ (m.rs t).s = 3) := fun ⟨e1, e2⟩ => by
          rw [e1, e2, stepI_3] at hd; cases hd
        have hst : 1 ≤ stp (m.rs t).s := by
          have hsr := h.sr t ht
          by_cases em : mode = 2
          · rcases hsr with e | e | e | e | e <;> rw [e] <;> first | decide | (exact absurd ⟨em, e⟩ hn3)
          · rw [h.sp t ht em]; decide
        refine hmain 0 0 0 hoth (hsame hn3) ?_
        rw [hkf, hRs, hown, hsw0]
        show 0 + 4 + _ + _ + _ < _
        omega
  · have hR' : R = (m.at t).waking := by
      rw [← hR]; unfold LS.next
      rw [if_pos (by show (m.rs t).k.on = true; exact hon)]
    obtain ⟨k0, k1⟩ := h.kon t ht hon
    have hs0 : (m.rs t).s = 0 := by
      by_cases e : (m.rs t).s = 0
      · exact e
      · rw [(h.sw t ht e).2] at hon; cases hon
    obtain ⟨i0, hi0⟩ := Int.eq_ofNat_of_zero_le k0
    have hi1 : i0 < k := by omega
    obtain ⟨on, kc, ki, hit, hkk⟩ : ∃ on kc ki hit, (m.rs t).k = ⟨on, kc, ki, hit⟩ := ⟨_, _, _, _, rfl⟩
    rw [hkk] at hon hi0
    dsimp only at hon hi0
    subst hon hi0
    obtain ⟨wh, wl⟩ := wake_cases (xs := m.xs) (c := kc) (hit := hit) hk h.len hi1
    have hxs : R.xs = (wakeI m.xs k true kc i0 hit).xs := by rw [hR']; show (wakeI m.xs (m.rs t).n _ _ _ _).xs = _; rw [c1, show (m.at t).k = ⟨true, kc, (i0 : Int), hit⟩ from hkk]
    have hk' : R.k = (wakeI m.xs k true kc i0 hit).next := by rw [hR']; show (wakeI m.xs (m.rs t).n _ _ _ _).next = _; rw [c1, show (m.at t).k = ⟨true, kc, (i0 : Int), hit⟩ from hkk]
    have hRs : R.s = 0 := by rw [hR']; exact hs0
    have hown : ownW R.xs = ownW m.xs := ownW_same fun d h0 h1 => by
      rw [hxs]; exact own_wake (by rw [pc_at hk hi1]; omega)
    have hoth : ∀ i, i < k → i ≠ t → V (ownW R.xs) (m.hold i) (m.rs i) ≤ V (ownW m.xs) (m.hold i) (m.rs i) + 0 := fun i _ _ => by rw [hown]; omega
    have hVR : V (ownW m.xs) (m.hold t) R = V (ownW m.xs) (m.hold t) (m.rs t) := hV.like _ _ _ _ ⟨by rw [hR']; rfl, by rw [hR']; rfl, by rw [hR']; rfl, by rw [hR']; rfl, by rw [hR']; rfl, by rw [hR']; rfl, by rw [hR']; rfl⟩
    have hfin : swp k R.finR.k + stp R.finR.s + V (ownW R.xs) (R.finH (m.hold t)) R.finR ≤ swp k R.k + 4 + V (ownW m.xs) (m.hold t) (m.rs t) := by
      rw [hown]
      cases ho : R.over
      · rw [show R.finR = R by unfold LS.finR; rw [ho]; rfl, show R.finH (m.hold t) = m.hold t by unfold LS.finH; rw [ho]; rfl, hRs, hVR]
        exact Nat.le_refl _
      · have hret : R.ret ≠ 0 := by
          unfold LS.over at ho
          have : R.ret ≠ 0 ∧ R.k.on = false := by simpa using ho
          exact this.1
        rw [show R.finR = zeroF R 0 by unfold LS.finR; rw [ho]; rfl, show R.finH (m.hold t) = behindI R.op R.ret (m.hold t) by unfold LS.finH; rw [ho]; rfl]
        have h1 := hV.over (ownW m.xs) (m.hold t) R hret
        rw [hVR] at h1
        have h2 : swp k (zeroF R 0).k = 0 := swp_off k rfl
        have h3 : stp (zeroF R 0).s = 4 := rfl
        omega
    have hst : stp (m.rs t).s = 4 := by rw [hs0]; rfl
    cases hh : hit
    · subst hh
      obtain ⟨w1, w2⟩ := wl rfl
      have hold : swp k (m.rs t).k = 5 * (k - i0) := by rw [hkk]; simp [swp]
      refine hmain 0 0 0 hoth ?_ ?_
      · rw [perms_same (m := m) fun j hj => by show hasP R.xs k j = _; rw [hxs, w1]]
        exact Nat.le_refl _
      · have : swp k R.k < 5 * (k - i0) := by
          rw [hk']
          rcases w2 with ⟨_, e⟩ | ⟨_, e⟩
          · rw [e]; simp [swp]; omega
          · rw [e]; have := swp_next k kc hi1; omega
        omega
    · subst hh
      obtain ⟨w1, w2⟩ := wh rfl
      have hold : swp k (m.rs t).k = 5 * (k - i0) - 1 := by rw [hkk]; simp [swp]
      refine hmain 0 1 0 hoth ?_ ?_
      · have := perms_one (k := k) (m := m) (m' := ⟨upd m.rs t R.finR, upd m.hold t (R.finH (m.hold t)), R.xs⟩) hi1 (fun j hj hne => by
          show hasP R.xs k j = _
          rw [hxs, w2 j hj, if_neg hne])
        have : (if hasP R.xs (k : Int) (i0 : Int) then 1 else 0) ≤ 1 := by split <;> omega
        dsimp only at *
        omega
      · have : swp k R.k ≤ 5 * (k - i0 - 1) := by rw [hk', w1]; exact swp_next k kc hi1
        omega
end
end Go.Proofs.Ytkkldcggbekleaa
set_option linter.unusedVariables false
set_option linter.unusedSimpArgs false
namespace Go.Proofs.Ytkkldcggbekleaa
def pickI (L : LS → LS) (m : MV) (t : Nat) : MV := playI L m t (2 * m.hold t)
def roundN (L : LS → LS) (m : MV) : Nat → MV
  | 0 => m
  | j + 1 => pickI L (roundN L m j) j
def AtRest (k : Nat) (m : MV) : Prop := ∀ t, t < k → (m.rs t).op = 0 ∧ m.hold t = 0
section
variable {L : LS → LS} {k : Nat} {m : MV} {t : Nat}
theorem done_pick (hd : AtRest k m) (ht : t < k) : pickI L m t = m := by
  obtain ⟨h1, h2⟩ := hd t ht
  unfold pickI playI
  rw [if_pos (show (m.at t).op = 0 from h1), h2]
  rfl
theorem done_round (hd : AtRest k m) : ∀ j, j ≤ k → roundN L m j = m
  | 0, _ => rfl
  | j + 1, h => by
    show pickI L (roundN L m j) j = m
    rw [done_round hd j (by omega)]
    exact done_pick hd (by omega)
end
end Go.Proofs.Ytkkldcggbekleaa
