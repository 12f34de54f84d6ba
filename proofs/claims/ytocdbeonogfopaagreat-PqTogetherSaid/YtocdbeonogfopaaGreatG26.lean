import Derived.Test.YtocdbeonogfopaaGreatG25
import Derived.Test.YtocdbeonogfopaaGreatG12
set_option linter.unusedVariables false
set_option linter.unusedSimpArgs false
namespace Go.Proofs.YtocdbeonogfopaaGreat
def LS.finH (h : Int) (r : LS) : Int := if r.over then behindI r.op r.ret h else h
def LS.finR (r : LS) : LS := if r.over then zeroF r 0 else r
theorem go_eq {L : LS → LS} {m : MV} {t : Nat} (hs : (m.at t).stuck = false) : m.go L t = ⟨upd m.rs t ((m.at t).next L).finR, upd m.hold t (((m.at t).next L).finH (m.hold t)), ((m.at t).next L).xs⟩ := by
  unfold MV.go LS.finR LS.finH
  rw [if_neg (by rw [hs]; exact Bool.false_ne_true)]
  split
  · show (⟨upd (upd m.rs t _) t _, upd m.hold t _, _⟩ : MV) = _
    have e : ∀ (f : Nat → LS) (u v : LS), upd (upd f t u) t v = upd f t v := fun f u v => by
      funext i; unfold upd; split <;> rfl
    rw [e]
    rfl
  · show (⟨upd m.rs t _, m.hold, _⟩ : MV) = _
    have e : upd m.hold t (m.hold t) = m.hold := by
      funext i; unfold upd; split
      · rename_i h; rw [h]
      · rfl
    rw [e]
section
variable {k : Nat} {xs : List Int} {t i : Nat} {mode s c d idx : Int} {q : Int → Bool} {on hit : Bool}
theorem wc_at (hk : k ≤ 64) (hi : i < k) : wc (k : Int) (i : Int) = 8 + 2 * k + i := by unfold wc cellI; rw [if_pos (by omega)]
theorem pc_at (hk : k ≤ 64) (hi : i < k) : pc (k : Int) (i : Int) = 8 + 3 * k + i := by unfold pc cellI; rw [if_pos (by omega)]
theorem there_lk (hl : xs.length = 8 + 4 * k) (h0 : 0 ≤ d) (h1 : d < 8 + 4 * k) : there xs d = true := by unfold there; rw [decide_eq_true_eq, hl]; push_cast; omega
theorem step_wat (hk : k ≤ 64) (hl : xs.length = 8 + 4 * k) (ht : t < k) (hi : i < k) : wordAt (stepI xs k mode t s c q).xs (wc k i) = if i = t ∧ mode = 2 ∧ s = 1 then (c + 1) % 4294967296 else if i = t ∧ mode = 2 ∧ s = 4 then 0 else wordAt xs (wc k i) := by
  have hw : ∀ j : Nat, j < k → there xs (wc k j) = true := fun j hj => there_lk hl (by rw [wc_at hk hj]; omega) (by rw [wc_at hk hj]; omega)
  have hne : ∀ j : Nat, j < k → i ≠ j → wc (k : Int) j ≠ wc k i := fun j hj e => by rw [wc_at hk hj, wc_at hk hi]; omega
  have hpw : ∀ j : Nat, j < k → pc (k : Int) j ≠ wc k i := fun j hj => by rw [pc_at hk hj, wc_at hk hi]; omega
  by_cases hm : mode = 2
  · subst hm
    by_cases h1 : s = 1
    · subst h1
      rw [stepI_1]
      by_cases e : i = t
      · subst e; simp [word_st, hw i hi]
      · show wordAt (st _ _ _) _ = _
        rw [word_far _ (hne t ht e)]; simp [e]
    by_cases h2 : s = 2
    · subst h2; rw [stepI_2]; simp
    by_cases h3 : s = 3
    · subst h3; rw [stepI_3]
      show wordAt (st _ _ _) _ = _
      rw [word_far _ (hpw t ht)]; simp
    by_cases h4 : s = 4
    · subst h4
      rw [stepI_4]
      by_cases e : i = t
      · subst e; simp [word_st, hw i hi]
      · show wordAt (st _ _ _) _ = _
        rw [word_far _ (hne t ht e)]; simp [e]
    · rw [stepI_0 h1 h2 h3 h4]; simp [h1, h4]
  · rw [stepI_spin hm]; simp [hm]
theorem step_per (hk : k ≤ 64) (hl : xs.length = 8 + 4 * k) (ht : t < k) (hi : i < k) : hasP (stepI xs k mode t s c q).xs k i = if i = t ∧ mode = 2 ∧ s = 3 then false else hasP xs k i := by
  have hw : there xs (pc k i) = true := there_lk hl (by rw [pc_at hk hi]; omega) (by rw [pc_at hk hi]; omega)
  have hwp : wc (k : Int) t ≠ pc k i := by rw [pc_at hk hi, wc_at hk ht]; omega
  have far : ∀ u, hasP (st xs (wc k t) u) k i = hasP xs k i := fun u => by unfold hasP; rw [word_far _ hwp]
  by_cases hm : mode = 2
  · subst hm
    by_cases h1 : s = 1
    · subst h1; rw [stepI_1]
      show hasP (st _ _ _) _ _ = _
      rw [far]; simp
    by_cases h2 : s = 2
    · subst h2; rw [stepI_2]; simp
    by_cases h3 : s = 3
    · subst h3
      rw [stepI_3]
      by_cases e : i = t
      · subst e; simp [hasP_st _ hw]
      · show hasP (st _ _ _) _ _ = _
        rw [hasP_far _ (by rw [pc_at hk ht, pc_at hk hi]; omega)]; simp [e]
    by_cases h4 : s = 4
    · subst h4; rw [stepI_4]
      show hasP (st _ _ _) _ _ = _
      rw [far]; simp
    · rw [stepI_0 h1 h2 h3 h4]; simp [h3]
  · rw [stepI_spin hm]; simp [hm]
theorem wake_wat (hk : k ≤ 64) (h0 : 0 ≤ idx) (h1 : idx < k) (hi : i < k) : wordAt (wakeI xs k on c idx hit).xs (wc k i) = wordAt xs (wc k i) := by
  obtain ⟨j, rfl⟩ := Int.eq_ofNat_of_zero_le h0
  have hp : pc (k : Int) (j : Int) ≠ wc k i := by rw [pc_at hk (by omega), wc_at hk hi]; omega
  exact own_wake hp
theorem wake_cases (hk : k ≤ 64) (hl : xs.length = 8 + 4 * k) (h1 : i < k) :
    (hit = true → (wakeI xs k true c i hit).next = nextI k c i ∧ (∀ j, j < k → hasP (wakeI xs k true c i hit).xs k j = if j = i then true else hasP xs k j)) ∧
    (hit = false → (wakeI xs k true c i hit).xs = xs ∧ ((wordAt xs (wc k i) = (c + 1) % 4294967296 ∧ (wakeI xs k true c i hit).next = ⟨true, c, i, true⟩) ∨ (wordAt xs (wc k i) ≠ (c + 1) % 4294967296 ∧ (wakeI xs k true c i hit).next = nextI k c i))) := by
  have hw : there xs (wc k i) = true := there_lk hl (by rw [wc_at hk h1]; omega) (by rw [wc_at hk h1]; omega)
  have hp : there xs (pc k i) = true := there_lk hl (by rw [pc_at hk h1]; omega) (by rw [pc_at hk h1]; omega)
  constructor
  · rintro rfl
    unfold wakeI giveI
    rw [if_pos rfl, if_pos rfl, if_pos hp]
    refine ⟨rfl, fun j hj => ?_⟩
    by_cases e : j = i
    · subst e; rw [if_pos rfl, hasP_st _ hp]; rfl
    · rw [if_neg e]; exact hasP_far _ (by rw [pc_at hk h1, pc_at hk hj]; omega)
  · rintro rfl
    unfold wakeI lookI
    rw [if_pos rfl, if_neg Bool.false_ne_true, if_pos hw]
    by_cases e : wordAt xs (wc k i) = (c + 1) % 4294967296
    · rw [if_pos e]; exact ⟨rfl, .inl ⟨e, rfl⟩⟩
    · rw [if_neg e]; exact ⟨rfl, .inr ⟨e, rfl⟩⟩
theorem wake_len0 (xs : List Int) (k c i : Int) (hit : Bool) : (wakeI xs k true c i hit).xs.length = xs.length := by
  unfold wakeI giveI lookI restI
  (repeat' split) <;> first | rfl | exact st_len _ _ _
theorem step_done0 (h : (stepI xs k mode t s c q).done = true) : (stepI xs k mode t s c q).next = 0 := by
  by_cases hm : mode = 2
  · subst hm
    by_cases h1 : s = 1
    · subst h1; cases h
    by_cases h2 : s = 2
    · subst h2; cases h
    by_cases h3 : s = 3
    · subst h3; cases h
    by_cases h4 : s = 4
    · subst h4; rfl
    · rw [stepI_0 h1 h2 h3 h4] at h ⊢
      exact if_pos h
  · rw [stepI_spin hm]
theorem step_next : ((stepI xs k mode t s c q).next = 0 ∧ ((stepI xs k mode t s c q).done = true ∨ mode ≠ 2)) ∨ (mode = 2 ∧ (stepI xs k mode t s c q).done = false ∧ (((stepI xs k mode t s c q).next = 1 ∧ s ≠ 1 ∧ s ≠ 2 ∧ s ≠ 3 ∧ s ≠ 4) ∨ ((stepI xs k mode t s c q).next = 2 ∧ (s = 1 ∨ (s = 3 ∧ hasP xs k t = true))) ∨ ((stepI xs k mode t s c q).next = 3 ∧ ((s = 2 ∧ q (wordAt xs c) = false) ∨ (s = 3 ∧ hasP xs k t = false))) ∨ ((stepI xs k mode t s c q).next = 4 ∧ s = 2 ∧ q (wordAt xs c) = true))) := by
  by_cases hm : mode = 2
  · subst hm
    by_cases h1 : s = 1
    · subst h1; exact .inr ⟨rfl, rfl, .inr (.inl ⟨rfl, .inl rfl⟩)⟩
    by_cases h2 : s = 2
    · subst h2
      rw [stepI_2]
      cases hq : q (wordAt xs c)
      · exact .inr ⟨rfl, rfl, .inr (.inr (.inl ⟨by simp, .inl ⟨rfl, rfl⟩⟩))⟩
      · exact .inr ⟨rfl, rfl, .inr (.inr (.inr ⟨by simp, rfl, rfl⟩))⟩
    by_cases h3 : s = 3
    · subst h3
      rw [stepI_3]
      cases hq : hasP xs k t
      · exact .inr ⟨rfl, rfl, .inr (.inr (.inl ⟨by simp, .inr ⟨rfl, rfl⟩⟩))⟩
      · exact .inr ⟨rfl, rfl, .inr (.inl ⟨by simp, .inr ⟨rfl, rfl⟩⟩)⟩
    by_cases h4 : s = 4
    · subst h4; exact .inl ⟨rfl, .inl rfl⟩
    · rw [stepI_0 h1 h2 h3 h4]
      cases hq : q (wordAt xs c)
      · exact .inr ⟨rfl, rfl, .inl ⟨by simp, h1, h2, h3, h4⟩⟩
      · exact .inl ⟨by simp, .inl rfl⟩
  · exact .inl ⟨by rw [stepI_spin hm], .inr hm⟩
end
def swp (k : Nat) (x : WkV) : Nat := if x.on then 5 * (k - x.i.toNat) - (if x.hit then 1 else 0) else 0
def stp (s : Int) : Nat := if s = 1 then 3 else if s = 2 then 2 else if s = 3 then 0 else if s = 4 then 1 else 4
theorem swp_off (k : Nat) {x : WkV} (h : x.on = false) : swp k x = 0 := by unfold swp; rw [h, if_neg Bool.false_ne_true]
theorem swp_begin (k : Nat) (mode c : Int) : swp k (beginI mode c) ≤ 5 * k := by
  unfold beginI swp
  split
  · simp
  · simp [wk0]
section
variable {m : MV} {t : Nat}
theorem stuck_iff (hs : (m.at t).k.on = false) (hst : (m.at t).stuck = true) : (m.rs t).mode = 2 ∧ (m.rs t).s = 3 ∧ hasP m.xs (m.rs t).n (m.rs t).task = false := by
  unfold LS.stuck stuckB at hst
  rw [hs] at hst
  simp only [Bool.not_false, Bool.true_and, Bool.and_eq_true, beq_iff_eq, Bool.not_eq_true'] at hst
  exact ⟨hst.1.1, hst.1.2, hst.2⟩
end
end Go.Proofs.YtocdbeonogfopaaGreat
set_option linter.unusedVariables false
set_option linter.unusedSimpArgs false
namespace Go.Proofs.YtocdbeonogfopaaGreat
def QOK (k : Nat) (s : QS) : Prop := ∃ m q, QInv k m q s
theorem QOK.one {k : Nat} {s : QS} (h : QOK k s) {i j : Nat} (hi : i < k) (hj : j < k) (h1 : s.ph i = 5) (h2 : s.ph j = 5) : i = j := by
  obtain ⟨m, q, h⟩ := h
  exact (h.first hi h1).2.symm.trans (h.first hj h2).2
structure WordsT (tc : Int) (k : Nat) (xs : List Int) (s : QS) : Prop where
  len : xs.length = 8 + 4 * k
  t : wordAt xs tc = s.tail
  n : ∀ i, i < k → wordAt xs (nc k i) = s.nx i
  b : ∀ i, i < k → wordAt xs (bc k i) = s.bl i
inductive TQ (s : QS) (i : Nat) : Nat → Int → Int → Prop
  | out {a st : Int} (hp : s.ph i = 0) : TQ s i 0 a st
  | e0 {a st : Int} (hp : s.ph i = 0) : TQ s i 1 a st
  | e1 {a st : Int} (hp : s.ph i = 0) (hn : s.nx i = 0) : TQ s i 2 a st
  | e2 {a st : Int} (hp : s.ph i = 0) (hn : s.nx i = 0) (hb : s.bl i = 1) : TQ s i 3 a st
  | e3 {a st : Int} (hp : s.ph i = 3) (ha : a = s.pr i) : TQ s i 4 a st
  | e4 {a st : Int} (hp : s.ph i = 4) (h4 : st = 4 → s.bl i = 0) : TQ s i 5 a st
  | own {a st : Int} (hp : s.ph i = 5) : TQ s i 6 a st
  | g0 {a st : Int} (hp : s.ph i = 5) : TQ s i 7 a st
  | g1 {a st : Int} (hp : s.ph i = 5) : TQ s i 8 a st
  | g2 {a st : Int} (hp : s.ph i = 5) (ht : s.tail ≠ (i : Int) + 1) (h4 : st = 4 → a = s.nx i ∧ s.nx i ≠ 0) : TQ s i 9 a st
  | g3 {a st : Int} (hp : s.ph i = 5) (ha : a = s.nx i) (hn : s.nx i ≠ 0) : TQ s i 10 a st
  | t0 {a st : Int} (hp : s.ph i = 0) : TQ s i 11 a st
  | t1 {a st : Int} (hp : s.ph i = 0) (hn : s.nx i = 0) : TQ s i 12 a st
structure OthQ (mode : Int) (k t : Nat) (s s' : QS) (K : WkV) : Prop where
  p : ∀ i, i < k → i ≠ t → s'.ph i = s.ph i
  r : ∀ i, i < k → i ≠ t → s'.pr i = s.pr i
  n : ∀ i, i < k → i ≠ t → s'.nx i = s.nx i ∨ (s.nx i = 0 ∧ s.ph i ≠ 0 ∧ K = beginI mode (nc k i))
  b : ∀ i, i < k → i ≠ t → s'.bl i = s.bl i ∨ (s'.bl i = 0 ∧ s.ph i ≠ 0 ∧ K = beginI mode (bc k i))
  t : ∀ i, i < k → i ≠ t → s.tail ≠ (i : Int) + 1 → s'.tail ≠ (i : Int) + 1
section
variable {tc : Int} {mode : Int} {k t i qp qp' : Nat} {s s' : QS} {K : WkV} {xs : List Int} {a st' : Int}
theorem TQ.move {st : Int} (h : TQ s i qp a st) (hp' : s'.ph i = s.ph i) (hr' : s'.pr i = s.pr i) (hn' : s'.nx i = s.nx i ∨ (s.nx i = 0 ∧ s.ph i ≠ 0)) (hb' : s'.bl i = s.bl i ∨ (s'.bl i = 0 ∧ s.ph i ≠ 0)) (ht' : s.tail ≠ (i : Int) + 1 → s'.tail ≠ (i : Int) + 1) : TQ s' i qp a st := by
  cases h with
  | out hp => exact .out (hp'.trans hp)
  | e0 hp => exact .e0 (hp'.trans hp)
  | e1 hp hn => exact .e1 (hp'.trans hp) (by omega)
  | e2 hp hn hb => exact .e2 (hp'.trans hp) (by omega) (by omega)
  | e3 hp ha => exact .e3 (hp'.trans hp) (ha.trans hr'.symm)
  | e4 hp h4 => exact .e4 (hp'.trans hp) fun e => by have := h4 e; omega
  | own hp => exact .own (hp'.trans hp)
  | g0 hp => exact .g0 (hp'.trans hp)
  | g1 hp => exact .g1 (hp'.trans hp)
  | g2 hp h1 h4 => exact .g2 (hp'.trans hp) (ht' h1) fun e => by have := h4 e; omega
  | g3 hp ha hn => exact .g3 (hp'.trans hp) (by omega) (by omega)
  | t0 hp => exact .t0 (hp'.trans hp)
  | t1 hp hn => exact .t1 (hp'.trans hp) (by omega)
theorem TQ.other {st : Int} (h : TQ s i qp a st) (ho : OthQ mode k t s s' K) (hi : i < k) (hne : i ≠ t) : TQ s' i qp a st :=
  h.move (ho.p i hi hne) (ho.r i hi hne) (by rcases ho.n i hi hne with e | e; exact .inl e; exact .inr ⟨e.1, e.2.1⟩) (by rcases ho.b i hi hne with e | e; exact .inl e; exact .inr ⟨e.1, e.2.1⟩) (ho.t i hi hne)
theorem OthQ.refl : OthQ mode k t s s K := ⟨fun _ _ _ => rfl, fun _ _ _ => rfl, fun _ _ _ => .inl rfl, fun _ _ _ => .inl rfl, fun _ _ _ => id⟩
theorem nc_q (hk : k ≤ 64) (hi : i < k) : nc (k : Int) (i : Int) = 8 + i := by unfold nc cellI; rw [if_pos (by omega)]; omega
theorem bc_q (hk : k ≤ 64) (hi : i < k) : bc (k : Int) (i : Int) = 8 + k + i := by unfold bc cellI; rw [if_pos (by omega)]; omega
theorem WordsT.th (h : WordsT tc k xs s) {d : Int} (h0 : 0 ≤ d) (h1 : d < 8 + 4 * k) : there xs d = true := by unfold there; rw [decide_eq_true_eq, h.len]; push_cast; omega
theorem WordsT.setT (h : WordsT tc k xs s) (hc : 0 ≤ tc ∧ tc < 8) (hk : k ≤ 64) (hx : s'.nx = s.nx ∧ s'.bl = s.bl) : WordsT tc k (st xs tc s'.tail) s' :=
  ⟨(st_len _ _ _).trans h.len, by rw [word_st, if_pos (h.th (by omega) (by omega))], fun i hi => by rw [word_far _ (by rw [nc_q hk hi]; omega), hx.1]; exact h.n i hi, fun i hi => by rw [word_far _ (by rw [bc_q hk hi]; omega), hx.2]; exact h.b i hi⟩
theorem WordsT.setN (h : WordsT tc k xs s) (hc : 0 ≤ tc ∧ tc < 8) (hk : k ≤ 64) (ht : t < k) (x : Int) (hx : s'.tail = s.tail ∧ s'.nx = upd s.nx t x ∧ s'.bl = s.bl) : WordsT tc k (st xs (nc k t) x) s' := by
  refine ⟨(st_len _ _ _).trans h.len, by rw [word_far _ (by rw [nc_q hk ht]; omega), hx.1]; exact h.t, fun i hi => ?_, fun i hi => by rw [word_far _ (by rw [bc_q hk hi, nc_q hk ht]; omega), hx.2.2]; exact h.b i hi⟩
  rw [hx.2.1]
  by_cases e : i = t
  · subst e; rw [upd_same, word_st, if_pos (h.th (by rw [nc_q hk hi]; omega) (by rw [nc_q hk hi]; omega))]
  · rw [upd_other _ _ e, word_far _ (by rw [nc_q hk hi, nc_q hk ht]; omega)]; exact h.n i hi
theorem WordsT.setB (h : WordsT tc k xs s) (hc : 0 ≤ tc ∧ tc < 8) (hk : k ≤ 64) (ht : t < k) (x : Int) (hx : s'.tail = s.tail ∧ s'.nx = s.nx ∧ s'.bl = upd s.bl t x) : WordsT tc k (st xs (bc k t) x) s' := by
  refine ⟨(st_len _ _ _).trans h.len, by rw [word_far _ (by rw [bc_q hk ht]; omega), hx.1]; exact h.t, fun i hi => by rw [word_far _ (by rw [nc_q hk hi, bc_q hk ht]; omega), hx.2.1]; exact h.n i hi, fun i hi => ?_⟩
  rw [hx.2.2]
  by_cases e : i = t
  · subst e; rw [upd_same, word_st, if_pos (h.th (by rw [bc_q hk hi]; omega) (by rw [bc_q hk hi]; omega))]
  · rw [upd_other _ _ e, word_far _ (by rw [bc_q hk hi, bc_q hk ht]; omega)]; exact h.b i hi
theorem WordsT.far {xs' : List Int} (h : WordsT tc k xs s) (hc : 0 ≤ tc ∧ tc < 8) (hk : k ≤ 64) (hl : xs'.length = xs.length) (h0 : wordAt xs' tc = wordAt xs tc) (hf : ∀ d : Int, 8 ≤ d → d < 8 + 2 * k → wordAt xs' d = wordAt xs d) : WordsT tc k xs' s :=
  ⟨hl.trans h.len, h0.trans h.t, fun i hi => (hf _ (by rw [nc_q hk hi]; omega) (by rw [nc_q hk hi]; omega)).trans (h.n i hi), fun i hi => (hf _ (by rw [bc_q hk hi]; omega) (by rw [bc_q hk hi]; omega)).trans (h.b i hi)⟩
theorem WordsT.own (h : WordsT tc k xs s) (hc : 0 ≤ tc ∧ tc < 8) (hk : k ≤ 64) {d : Int} (hd : d < 8) (hne : d ≠ tc) (x : Int) : WordsT tc k (st xs d x) s :=
  h.far hc hk (st_len _ _ _) (word_far _ hne) fun e h0 h1 => word_far _ (by omega)
theorem step_len0 (xs : List Int) (n mode i s c : Int) (q : Int → Bool) : (stepI xs n mode i s c q).xs.length = xs.length := by unfold stepI; (repeat' split) <;> first | rfl | exact st_len _ _ _
theorem WordsT.wait (h : WordsT tc k xs s) (hc : 0 ≤ tc ∧ tc < 8) (hk : k ≤ 64) (ht : t < k) (mode u c : Int) (q : Int → Bool) : WordsT tc k (stepI xs k mode t u c q).xs s :=
  h.far hc hk (step_len0 _ _ _ _ _ _ _) (own_wait (by rw [wc_at hk ht]; omega) (by rw [pc_at hk ht]; omega)) fun d h0 h1 => own_wait (by rw [wc_at hk ht]; omega) (by rw [pc_at hk ht]; omega)
theorem pc_big (k i : Int) (h : 0 ≤ k) : 8 + 2 * k ≤ pc k i ∨ pc k i < 0 := by unfold pc cellI; split <;> omega
theorem wake_len1 (xs : List Int) (k c i : Int) (on hit : Bool) : (wakeI xs k on c i hit).xs.length = xs.length := by
  unfold wakeI giveI lookI restI
  (repeat' split) <;> first | rfl | exact st_len _ _ _
theorem WordsT.wake (h : WordsT tc k xs s) (hc : 0 ≤ tc ∧ tc < 8) (hk : k ≤ 64) (on : Bool) (c i : Int) (hit : Bool) : WordsT tc k (wakeI xs k on c i hit).xs s :=
  h.far hc hk (wake_len1 _ _ _ _ _ _) (own_wake (by have := pc_big k i (by omega); omega)) fun d h0 h1 => own_wake (by have := pc_big k i (by omega); omega)
def FarT (tc : Int) (k : Nat) (pl : Bool) (xs xs' : List Int) : Prop := ∀ d : Int, 0 ≤ d → d ≠ tc → d < 8 ∨ (pl = true ∧ 8 + 2 * (k : Int) ≤ d) → wordAt xs' d = wordAt xs d
theorem far_cell {pl : Bool} {d : Int} (x : Int) (h : d = tc ∨ (8 ≤ d ∧ d < 8 + 2 * k)) : FarT tc k pl xs (st xs d x) := fun e h0 hn h1 => word_far _ (by omega)
theorem far_refl {pl : Bool} : FarT tc k pl xs xs := fun _ _ _ _ => rfl
def QStep (tc mode : Int) (k t : Nat) (s : QS) (pl : Bool) (r R : LS) (qp' : Nat) : Prop := ∃ s', QOK k s' ∧ WordsT tc k R.xs s' ∧ TQ s' t qp' R.a R.s ∧ OthQ mode k t s s' R.k ∧ FarT tc k pl r.xs R.xs
end
end Go.Proofs.YtocdbeonogfopaaGreat
set_option linter.unusedVariables false
set_option linter.unusedSimpArgs false
namespace Go.Proofs.YtocdbeonogfopaaGreat
theorem waitq_facts {xs : List Int} {n mode i s c : Int} {q : Int → Bool} : ((stepI xs n mode i s c q).done = true → ((stepI xs n mode i s c q).seen = true ∧ q (wordAt xs c) = true) ∨ (s = 4 ∧ (stepI xs n mode i s c q).seen = false)) ∧ ((stepI xs n mode i s c q).next = 4 → (stepI xs n mode i s c q).seen = true ∧ q (wordAt xs c) = true) := by
  by_cases hm : mode = 2
  · subst hm
    by_cases h1 : s = 1
    · subst h1; rw [stepI_1]; exact ⟨fun h => (by cases h), fun h => (by cases h)⟩
    by_cases h2 : s = 2
    · subst h2; rw [stepI_2]
      refine ⟨fun h => (by cases h), fun h => ?_⟩
      cases hq : q (wordAt xs c)
      · simp [hq] at h
      · exact ⟨rfl, rfl⟩
    by_cases h3 : s = 3
    · subst h3; rw [stepI_3]
      refine ⟨fun h => (by cases h), fun h => ?_⟩
      simp only at h
      split at h <;> cases h
    by_cases h4 : s = 4
    · subst h4; rw [stepI_4]; exact ⟨fun _ => .inr ⟨rfl, rfl⟩, fun h => (by cases h)⟩
    · rw [stepI_0 h1 h2 h3 h4]
      refine ⟨fun h => .inl ⟨h, h⟩, fun h => ?_⟩
      simp only at h
      split at h <;> cases h
  · rw [stepI_spin hm]; exact ⟨fun h => .inl ⟨h, h⟩, fun h => (by cases h)⟩
theorem updq_self {α : Type} (f : Nat → α) (t : Nat) : upd f t (f t) = f := by
  funext i; unfold upd; split
  · rename_i h; rw [h]
  · rfl
structure AtQ (tc mode : Int) (k t : Nat) (s : QS) (r : LS) : Prop where
  hk : k ≤ 64
  hc : 0 ≤ tc ∧ tc < 8
  ht : t < k
  n : r.n = k
  mode : r.mode = mode
  task : r.task = t
  q : QOK k s
  w : WordsT tc k r.xs s
section
variable {tc mode cl : Int} {k t : Nat} {s : QS} {r : LS} {whats : List Int} {x : Int} {a st' : Int}
theorem AtQ.me (h : AtQ tc mode k t s r) : r.me = (t : Int) + 1 := by
  unfold LS.me
  have := h.hk; have := h.ht
  rw [h.task]; omega
theorem AtQ.nc (h : AtQ tc mode k t s r) : nc r.n r.task = nc k t := by rw [h.n, h.task]
theorem AtQ.bc (h : AtQ tc mode k t s r) : bc r.n r.task = bc k t := by rw [h.n, h.task]
theorem AtQ.wn (h : AtQ tc mode k t s r) : wordAt r.xs (Proofs.YtocdbeonogfopaaGreat.nc r.n r.task) = s.nx t := by rw [h.nc]; exact h.w.n t h.ht
theorem AtQ.wt (h : AtQ tc mode k t s r) : wordAt r.xs tc = s.tail := h.w.t
theorem AtQ.th (h : AtQ tc mode k t s r) : there r.xs tc = true := h.w.th h.hc.1 (by have := h.hc; omega)
theorem AtQ.ncB (h : AtQ tc mode k t s r) : Proofs.YtocdbeonogfopaaGreat.nc (k : Int) (t : Int) = tc ∨ (8 ≤ Proofs.YtocdbeonogfopaaGreat.nc (k : Int) (t : Int) ∧ Proofs.YtocdbeonogfopaaGreat.nc (k : Int) (t : Int) < 8 + 2 * k) := by have := h.ht; rw [nc_q h.hk h.ht]; omega
theorem AtQ.bcB (h : AtQ tc mode k t s r) : Proofs.YtocdbeonogfopaaGreat.bc (k : Int) (t : Int) = tc ∨ (8 ≤ Proofs.YtocdbeonogfopaaGreat.bc (k : Int) (t : Int) ∧ Proofs.YtocdbeonogfopaaGreat.bc (k : Int) (t : Int) < 8 + 2 * k) := by have := h.ht; rw [bc_q h.hk h.ht]; omega
theorem AtQ.waitF (h : AtQ tc mode k t s r) (c : Int) (q : Int → Bool) : FarT tc k false r.xs (r.stepR c q).xs := fun d h0 hn h1 => by
  have hd : d < 8 := by rcases h1 with h1 | ⟨h1, _⟩; exact h1; cases h1
  have hk := h.hk; have ht := h.ht
  show wordAt (stepI r.xs r.n r.mode r.task r.s c q).xs d = _
  rw [h.n, h.task]
  exact own_wait (by rw [wc_at hk ht]; omega) (by rw [pc_at hk ht]; omega)
theorem q_e0 (h : AtQ tc mode k t s r) (hp : TQ s t 1 a st') : QStep tc mode k t s true r ((r.doA 2 (nc r.n r.task) 0 0).go x) 2 := by
  cases hp with
  | e0 hp =>
    obtain ⟨m, q, hq⟩ := h.q
    have hq' := hq.own h.ht hp 0 (s.bl t)
    rw [updq_self] at hq'
    refine ⟨_, ⟨m, q, hq'⟩, ?_, .e1 hp (upd_same _ _ _), ⟨fun _ _ _ => rfl, fun _ _ _ => rfl, fun i _ hne => .inl (upd_other _ _ hne), fun _ _ _ => .inl rfl, fun _ _ _ => id⟩, ?_⟩
    · show WordsT tc k (doNew r.xs 2 _ 0 0) _
      rw [h.nc, doNew_st _ _ _ _ _ rfl]
      exact h.w.setN h.hc h.hk h.ht 0 ⟨rfl, rfl, rfl⟩
    · show FarT tc k true r.xs (doNew r.xs 2 _ 0 0)
      rw [h.nc, doNew_st _ _ _ _ _ rfl]
      exact far_cell _ h.ncB
theorem q_e1 (h : AtQ tc mode k t s r) (hp : TQ s t 2 a st') : QStep tc mode k t s true r ((r.doA 2 (bc r.n r.task) 1 0).go x) 3 := by
  cases hp with
  | e1 hp hn =>
    obtain ⟨m, q, hq⟩ := h.q
    have hq' := hq.own h.ht hp (s.nx t) 1
    rw [updq_self] at hq'
    refine ⟨_, ⟨m, q, hq'⟩, ?_, .e2 hp hn (upd_same _ _ _), ⟨fun _ _ _ => rfl, fun _ _ _ => rfl, fun _ _ _ => .inl rfl, fun i _ hne => .inl (upd_other _ _ hne), fun _ _ _ => id⟩, ?_⟩
    · show WordsT tc k (doNew r.xs 2 _ 1 0) _
      rw [h.bc, doNew_st _ _ _ _ _ rfl]
      exact h.w.setB h.hc h.hk h.ht 1 ⟨rfl, rfl, rfl⟩
    · show FarT tc k true r.xs (doNew r.xs 2 _ 1 0)
      rw [h.bc, doNew_st _ _ _ _ _ rfl]
      exact far_cell _ h.bcB
theorem q_e2 (h : AtQ tc mode k t s r) (hp : TQ s t 3 a st') : (s.tail = 0 → QStep tc mode k t s true r (r.swapIn tc cl) 6) ∧ (s.tail ≠ 0 → QStep tc mode k t s true r ((r.swapIn tc cl).go x) 4) := by
  cases hp with
  | e2 hp hn hb =>
    obtain ⟨m, q, hq⟩ := h.q
    have hx : (r.swapIn tc cl).xs = st r.xs tc ((t : Int) + 1) := by
      show doNew r.xs 4 tc r.me 0 = _
      rw [h.me, doNew_st _ _ _ _ _ rfl]; rfl
    have hto : ∀ i : Nat, i ≠ t → (t : Int) + 1 ≠ (i : Int) + 1 := fun i hne => by omega
    refine ⟨fun hz => ?_, fun hz => ?_⟩
    · obtain ⟨hm, hq'⟩ := hq.swap0 h.ht hp hn hz
      refine ⟨_, ⟨1, _, hq'⟩, ?_, .own (upd_same _ _ _), ⟨fun i _ hne => upd_other _ _ hne, fun _ _ _ => rfl, fun _ _ _ => .inl rfl, fun _ _ _ => .inl rfl, fun i _ hne _ => hto i hne⟩, by rw [hx]; exact far_cell _ (.inl rfl)⟩
      rw [hx]; exact h.w.setT h.hc h.hk ⟨rfl, rfl⟩ (s' := { s with tail := (t : Int) + 1, ph := upd s.ph t 5 })
    · obtain ⟨hm, hq'⟩ := hq.swap1 h.ht hp hn hb hz
      refine ⟨_, ⟨m + 1, _, hq'⟩, ?_, .e3 (upd_same _ _ _) ?_, ⟨fun i _ hne => upd_other _ _ hne, fun i _ hne => upd_other _ _ hne, fun _ _ _ => .inl rfl, fun _ _ _ => .inl rfl, fun i _ hne _ => hto i hne⟩, by show FarT tc k true r.xs (r.swapIn tc cl).xs; rw [hx]; exact far_cell _ (.inl rfl)⟩
      · show WordsT tc k (r.swapIn tc cl).xs _
        rw [hx]; exact h.w.setT h.hc h.hk ⟨rfl, rfl⟩ (s' := { s with tail := (t : Int) + 1, ph := upd s.ph t 3, pr := upd s.pr t s.tail })
      · show wordAt r.xs tc = upd s.pr t s.tail t
        rw [upd_same]; exact h.wt
theorem q_e3 (h : AtQ tc mode k t s r) (hp : TQ s t 4 r.a st') (h0 : r.s = 0) : QStep tc mode k t s true r r.link 5 := by
  cases hp with
  | e3 hp ha =>
    obtain ⟨m, q, hq⟩ := h.q
    obtain ⟨p, hpk, hpt, hpn, hpp, hpr, ⟨hm, hq0⟩, hq'⟩ := hq.link h.ht hp
    have hap : nc r.n (r.a - 1) = nc k p := by rw [h.n, ha, hpr, Int.add_sub_cancel]
    refine ⟨_, ⟨m, q, hq'⟩, ?_, .e4 (upd_same _ _ _) fun e => ?_, ⟨fun i _ hne => upd_other _ _ hne, fun _ _ _ => rfl, fun i _ hne => ?_, fun _ _ _ => .inl rfl, fun _ _ _ => id⟩, ?_⟩
    · show WordsT tc k (doNew r.xs 2 _ r.me 0) _
      rw [hap, h.me, doNew_st _ _ _ _ _ rfl]
      exact h.w.setN h.hc h.hk hpk _ ⟨rfl, rfl, rfl⟩
    · have : r.s = 4 := e
      omega
    · by_cases e : i = p
      · subst e
        refine .inr ⟨hpn, hpp, ?_⟩
        show beginI r.mode _ = _
        rw [h.mode, hap]
      · exact .inl (upd_other _ _ e)
    · show FarT tc k true r.xs (doNew r.xs 2 _ r.me 0)
      rw [hap, doNew_st _ _ _ _ _ rfl]
      exact far_cell _ (.inr (by rw [nc_q h.hk hpk]; omega))
theorem q_e4 (h : AtQ tc mode k t s r) (hp : TQ s t 5 r.a r.s) : ((r.stepR (bc r.n r.task) isZ).done = false → QStep tc mode k t s false r (r.wait (bc r.n r.task) isZ) 5) ∧ ((r.stepR (bc r.n r.task) isZ).done = true → QStep tc mode k t s false r (r.wait (bc r.n r.task) isZ) 6) := by
  cases hp with
  | e4 hp h4 =>
    obtain ⟨m, q, hq⟩ := h.q
    obtain ⟨f1, f2⟩ := waitq_facts (xs := r.xs) (n := r.n) (mode := r.mode) (i := r.task) (s := r.s) (c := bc r.n r.task) (q := isZ)
    have hz : isZ (wordAt r.xs (bc r.n r.task)) = true → s.bl t = 0 := fun e => by
      rw [h.bc, h.w.b t h.ht] at e
      simpa [isZ] using e
    have hw : WordsT tc k (r.wait (bc r.n r.task) isZ).xs s := by
      show WordsT tc k (stepI r.xs r.n r.mode r.task r.s _ _).xs s
      rw [h.n, h.task]; exact h.w.wait h.hc h.hk h.ht _ _ _ _
    have hfar : FarT tc k false r.xs (r.wait (bc r.n r.task) isZ).xs := h.waitF _ _
    refine ⟨fun hd => ⟨s, ⟨m, q, hq⟩, hw, .e4 hp fun e => hz (f2 e).2, OthQ.refl, hfar⟩, fun hd => ?_⟩
    have hb0 : s.bl t = 0 := by
      rcases f1 hd with ⟨_, e⟩ | ⟨e, _⟩
      · exact hz e
      · exact h4 e
    obtain ⟨hm, hq0, hq'⟩ := hq.enter h.ht hp hb0
    exact ⟨_, ⟨m, q, hq'⟩, ⟨hw.len, hw.t, hw.n, hw.b⟩, .own (upd_same _ _ _), ⟨fun i _ hne => upd_other _ _ hne, fun _ _ _ => rfl, fun _ _ _ => .inl rfl, fun _ _ _ => .inl rfl, fun _ _ _ => id⟩, hfar⟩
theorem q_g0 (h : AtQ tc mode k t s r) (hp : TQ s t 7 a st') : (s.nx t = 0 → QStep tc mode k t s true r (r.peek.go x) 8) ∧ (s.nx t ≠ 0 → QStep tc mode k t s true r (r.peek.go x) 10) := by
  cases hp with
  | g0 hp =>
    have hx : r.peek.xs = r.xs := by
      show doNew r.xs 1 _ 0 0 = r.xs
      exact own_load
    have hw : WordsT tc k (r.peek.go x).xs s := by
      show WordsT tc k r.peek.xs s
      rw [hx]; exact h.w
    have hf : FarT tc k true r.xs (r.peek.go x).xs := by
      show FarT tc k true r.xs r.peek.xs
      rw [hx]; exact far_refl
    exact ⟨fun _ => ⟨s, h.q, hw, .g1 hp, OthQ.refl, hf⟩, fun hz => ⟨s, h.q, hw, .g3 hp h.wn hz, OthQ.refl, hf⟩⟩
theorem notes_same (r : LS) (whats : List Int) : (r.notes whats).xs = r.xs ∧ (r.notes whats).a = r.a ∧ (r.notes whats).s = r.s ∧ (r.notes whats).k = r.k ∧ (r.notes whats).n = r.n ∧ (r.notes whats).mode = r.mode ∧ (r.notes whats).task = r.task ∧ (r.notes whats).op = r.op ∧ (r.notes whats).line = r.line ∧ (r.notes whats).ret = r.ret ∧ (r.notes whats).b = r.b := by
  unfold LS.notes
  induction whats generalizing r with
  | nil => exact ⟨rfl, rfl, rfl, rfl, rfl, rfl, rfl, rfl, rfl, rfl, rfl⟩
  | cons w l ih => exact ih (r.note w 0)
theorem QStep.same {pl : Bool} {R R' : LS} {qp' : Nat} (h : QStep tc mode k t s pl r R qp') (hx : R'.xs = R.xs) (ha : R'.a = R.a) (hs : R'.s = R.s) (hk : R'.k = R.k) : QStep tc mode k t s pl r R' qp' := by
  unfold QStep at *
  rwa [hx, ha, hs, hk]
theorem AtQ.casX (h : AtQ tc mode k t s r) : r.casOut tc = (s.tail == (t : Int) + 1) := by
  unfold LS.casOut
  rw [h.me, h.th, h.wt, Bool.true_and]
theorem q_g1 (h : AtQ tc mode k t s r) (hp : TQ s t 8 a st') (h0 : r.s = 0) : (s.tail = (t : Int) + 1 → QStep tc mode k t s true r ((r.doA 5 tc r.me 0).notes whats) 0) ∧ (s.tail ≠ (t : Int) + 1 → QStep tc mode k t s true r ((r.doA 5 tc r.me 0).go x) 9) := by
  cases hp with
  | g1 hp =>
    obtain ⟨m, q, hq⟩ := h.q
    have hx : (r.doA 5 tc r.me 0).xs = st r.xs tc (if s.tail = (t : Int) + 1 then 0 else s.tail) := by
      show doNew r.xs 5 tc r.me 0 = _
      rw [h.me, doNew_st _ _ _ _ _ rfl, h.wt]; rfl
    refine ⟨fun hz => ?_, fun hz => ?_⟩
    · obtain ⟨hm, hq'⟩ := hq.empty h.ht hp hz
      obtain ⟨e1, e2, e3, e4, _⟩ := notes_same (r.doA 5 tc r.me 0) whats
      refine QStep.same (R := r.doA 5 tc r.me 0) ⟨_, ⟨0, q, hq'⟩, ?_, .out (upd_same _ _ _), ⟨fun i _ hne => upd_other _ _ hne, fun _ _ _ => rfl, fun _ _ _ => .inl rfl, fun _ _ _ => .inl rfl, fun i _ _ _ => ?_⟩, by rw [hx]; exact far_cell _ (.inl rfl)⟩ e1 e2 e3 e4
      · rw [hx, if_pos hz]; exact h.w.setT h.hc h.hk ⟨rfl, rfl⟩ (s' := { s with tail := 0, ph := upd s.ph t 0 })
      · show (0 : Int) ≠ (i : Int) + 1
        omega
    · refine ⟨s, h.q, ?_, .g2 hp hz fun e => ?_, OthQ.refl, by show FarT tc k true r.xs (r.doA 5 tc r.me 0).xs; rw [hx]; exact far_cell _ (.inl rfl)⟩
      · show WordsT tc k (r.doA 5 tc r.me 0).xs s
        rw [hx, if_neg hz]; exact h.w.setT h.hc h.hk ⟨rfl, rfl⟩
      · have : r.s = 4 := e
        omega
theorem q_g2 (h : AtQ tc mode k t s r) (hp : TQ s t 9 r.a r.s) : ((r.stepR (nc r.n r.task) isN).done = false → QStep tc mode k t s false r r.seeN 9) ∧ ((r.stepR (nc r.n r.task) isN).done = true → QStep tc mode k t s false r (r.seeN.go x) 10) := by
  cases hp with
  | g2 hp hta h4 =>
    obtain ⟨f1, f2⟩ := waitq_facts (xs := r.xs) (n := r.n) (mode := r.mode) (i := r.task) (s := r.s) (c := nc r.n r.task) (q := isN)
    rw [show stepI r.xs r.n r.mode r.task r.s (nc r.n r.task) isN = r.stepR (nc r.n r.task) isN from rfl] at f1 f2
    have hnz : isN (wordAt r.xs (nc r.n r.task)) = true → s.nx t ≠ 0 := fun e => by
      rw [h.wn] at e
      simpa [isN] using e
    have hw : WordsT tc k (r.stepR (nc r.n r.task) isN).xs s := by
      show WordsT tc k (stepI r.xs r.n r.mode r.task r.s _ _).xs s
      rw [h.n, h.task]; exact h.w.wait h.hc h.hk h.ht _ _ _ _
    have hR : r.seeN.xs = (r.stepR (nc r.n r.task) isN).xs ∧ r.seeN.s = (r.stepR (nc r.n r.task) isN).next ∧ r.seeN.a = (if (r.stepR (nc r.n r.task) isN).seen then s.nx t else r.a) := by
      unfold LS.seeN
      split
      · exact ⟨rfl, rfl, h.wn⟩
      · exact ⟨rfl, rfl, rfl⟩
    obtain ⟨R1, R2, R3⟩ := hR
    have hf : FarT tc k false r.xs r.seeN.xs := by rw [R1]; exact h.waitF _ _
    refine ⟨fun hd => ⟨s, h.q, by rw [R1]; exact hw, .g2 hp hta fun e => ?_, OthQ.refl, hf⟩, fun hd => ⟨s, h.q, ?_, .g3 hp ?_ ?_, OthQ.refl, hf⟩⟩
    · rw [R2] at e
      obtain ⟨f3, f4⟩ := f2 e
      rw [R3, f3]
      exact ⟨rfl, hnz f4⟩
    · show WordsT tc k r.seeN.xs s
      rw [R1]; exact hw
    · show r.seeN.a = _
      rcases f1 hd with ⟨e1, e2⟩ | ⟨e1, e2⟩
      · rw [R3, e1]; rfl
      · rw [R3, e2]; exact (h4 e1).1
    · rcases f1 hd with ⟨e1, e2⟩ | ⟨e1, e2⟩
      · exact hnz e2
      · exact (h4 e1).2
theorem q_g3 (h : AtQ tc mode k t s r) (hp : TQ s t 10 r.a st') : QStep tc mode k t s true r (r.handOn whats) 0 := by
  cases hp with
  | g3 hp ha hn =>
    obtain ⟨m, q, hq⟩ := h.q
    obtain ⟨p, hpk, hpt, hpn, hm1, hq1, hp4, hq'⟩ := hq.hand h.ht hp hn
    have hap : bc r.n (r.a - 1) = bc k p := by rw [h.n, ha, hpn, Int.add_sub_cancel]
    obtain ⟨e1, e2, e3, e4, e5, e6, _⟩ := notes_same (r.doA 2 (bc r.n (r.a - 1)) 0 0) whats
    refine ⟨_, ⟨m - 1, _, hq'⟩, ?_, .out (upd_same _ _ _), ⟨fun i _ hne => upd_other _ _ hne, fun _ _ _ => rfl, fun _ _ _ => .inl rfl, fun i _ hne => ?_, fun _ _ _ => id⟩, ?_⟩
    · show WordsT tc k ((r.doA 2 (bc r.n (r.a - 1)) 0 0).notes whats).xs _
      rw [e1]
      show WordsT tc k (doNew r.xs 2 _ 0 0) _
      rw [hap, doNew_st _ _ _ _ _ rfl]
      exact h.w.setB h.hc h.hk hpk 0 ⟨rfl, rfl, rfl⟩
    · by_cases e : i = p
      · subst e
        refine .inr ⟨upd_same _ _ _, by rw [hp4]; decide, ?_⟩
        show beginI ((r.doA 2 (bc r.n (r.a - 1)) 0 0).notes whats).mode _ = _
        rw [e6, hap]
        show beginI r.mode _ = _
        rw [h.mode]
      · exact .inl (upd_other _ _ e)
    · show FarT tc k true r.xs ((r.doA 2 (bc r.n (r.a - 1)) 0 0).notes whats).xs
      rw [e1]
      show FarT tc k true r.xs (doNew r.xs 2 _ 0 0)
      rw [hap, doNew_st _ _ _ _ _ rfl]
      exact far_cell _ (.inr (by rw [bc_q h.hk hpk]; omega))
theorem q_t0 (h : AtQ tc mode k t s r) (hp : TQ s t 11 a st') : QStep tc mode k t s true r ((r.doA 2 (nc r.n r.task) 0 0).go x) 12 := by
  cases hp with
  | t0 hp =>
    obtain ⟨m, q, hq⟩ := h.q
    have hq' := hq.own h.ht hp 0 (s.bl t)
    rw [updq_self] at hq'
    refine ⟨_, ⟨m, q, hq'⟩, ?_, .t1 hp (upd_same _ _ _), ⟨fun _ _ _ => rfl, fun _ _ _ => rfl, fun i _ hne => .inl (upd_other _ _ hne), fun _ _ _ => .inl rfl, fun _ _ _ => id⟩, ?_⟩
    · show WordsT tc k (doNew r.xs 2 _ 0 0) _
      rw [h.nc, doNew_st _ _ _ _ _ rfl]
      exact h.w.setN h.hc h.hk h.ht 0 ⟨rfl, rfl, rfl⟩
    · show FarT tc k true r.xs (doNew r.xs 2 _ 0 0)
      rw [h.nc, doNew_st _ _ _ _ _ rfl]
      exact far_cell _ h.ncB
theorem q_t1 (h : AtQ tc mode k t s r) (hp : TQ s t 12 a st') : (s.tail = 0 → QStep tc mode k t s true r (r.doA 5 tc 0 r.me) 6) ∧ (s.tail ≠ 0 → QStep tc mode k t s true r (r.doA 5 tc 0 r.me) 0) := by
  cases hp with
  | t1 hp hn =>
    obtain ⟨m, q, hq⟩ := h.q
    have hx : (r.doA 5 tc 0 r.me).xs = st r.xs tc (if s.tail = 0 then (t : Int) + 1 else s.tail) := by
      show doNew r.xs 5 tc 0 r.me = _
      rw [h.me, doNew_st _ _ _ _ _ rfl, h.wt]; rfl
    refine ⟨fun hz => ?_, fun hz => ?_⟩
    · obtain ⟨hm, hq'⟩ := hq.swap0 h.ht hp hn hz
      refine ⟨_, ⟨1, _, hq'⟩, ?_, .own (upd_same _ _ _), ⟨fun i _ hne => upd_other _ _ hne, fun _ _ _ => rfl, fun _ _ _ => .inl rfl, fun _ _ _ => .inl rfl, fun i _ hne _ => (by show (t : Int) + 1 ≠ _; omega)⟩, by rw [hx]; exact far_cell _ (.inl rfl)⟩
      rw [hx, if_pos hz]; exact h.w.setT h.hc h.hk ⟨rfl, rfl⟩ (s' := { s with tail := (t : Int) + 1, ph := upd s.ph t 5 })
    · refine ⟨s, h.q, ?_, .out hp, OthQ.refl, by rw [hx]; exact far_cell _ (.inl rfl)⟩
      rw [hx, if_neg hz]; exact h.w.setT h.hc h.hk ⟨rfl, rfl⟩
theorem q_wake (h : AtQ tc mode k t s r) {qp : Nat} (hp : TQ s t qp r.a r.s) : QStep tc mode k t s false r r.waking qp := by
  refine ⟨s, h.q, ?_, hp, OthQ.refl, fun d h0 hn h1 => ?_⟩
  case refine_2 =>
    have hd : d < 8 := by rcases h1 with h1 | ⟨h1, _⟩; exact h1; cases h1
    show wordAt (wakeI r.xs r.n _ _ _ _).xs d = _
    rw [h.n]
    exact own_wake (by have := pc_big k r.k.i (by omega); omega)
  show WordsT tc k (wakeI r.xs r.n _ _ _ _).xs s
  rw [h.n]; exact h.w.wake h.hc h.hk _ _ _ _
end
end Go.Proofs.YtocdbeonogfopaaGreat
set_option linter.unusedVariables false
set_option linter.unusedSimpArgs false
namespace Go.Proofs.YtocdbeonogfopaaGreat
open Go.RowKit
section
variable {r : LS} {a : Int} {ok : Bool} {j : Nat}
theorem pq_1_0 (h1 : r.op = 1) (h2 : r.line = 0) : r.pq = r.pCome := by unfold LS.pq; rw [h1, h2]; rfl
theorem pq_1_1 (h1 : r.op = 1) (h2 : r.line = 1) : r.pq = r.pAdmit 0 r.left := by unfold LS.pq; rw [h1, h2]; rfl
theorem pq_2_0 (h1 : r.op = 2) (h2 : r.line = 0) : r.pq = r.pDepart := by unfold LS.pq; rw [h1, h2]; rfl
theorem pq_5_0 (h1 : r.op = 5) (h2 : r.line = 0) : r.pq = r.pLookIn := by unfold LS.pq; rw [h1, h2]; rfl
theorem pq_5_1 (h1 : r.op = 5) (h2 : r.line = 1) : r.pq = r.pSlip := by unfold LS.pq; rw [h1, h2]; rfl
theorem pq_3_5 (h1 : r.op = 3) (h2 : r.line = 5) : r.pq = r.wKeep 6 := by unfold LS.pq; rw [h1, h2]; rfl
theorem pq_3_6 (h1 : r.op = 3) (h2 : r.line = 6) : r.pq = r.pAppear 7 := by unfold LS.pq; rw [h1, h2]; rfl
theorem pq_3_7 (h1 : r.op = 3) (h2 : r.line = 7) : r.pq = r.pAdmit 1 r.mine := by unfold LS.pq; rw [h1, h2]; rfl
theorem pq_4_0 (h1 : r.op = 4) (h2 : r.line = 0) : r.pq = r.wKeep 1 := by unfold LS.pq; rw [h1, h2]; rfl
theorem pq_8_0 (h1 : r.op = 8) (h2 : r.line = 0) : r.pq = r.wKeep 1 := by unfold LS.pq; rw [h1, h2]; rfl
theorem pq_4_1 (h1 : r.op = 4) (h2 : r.line = 1) : r.pq = r.pVanish 0 7 := by unfold LS.pq; rw [h1, h2]; rfl
theorem pq_8_1 (h1 : r.op = 8) (h2 : r.line = 1) : r.pq = r.pVanish 256 10 := by unfold LS.pq; rw [h1, h2]; rfl
theorem pq_4_2 (h1 : r.op = 4) (h2 : r.line = 2) : r.pq = r.wCount := by unfold LS.pq; rw [h1, h2]; rfl
theorem pq_8_2 (h1 : r.op = 8) (h2 : r.line = 2) : r.pq = r.wCount := by unfold LS.pq; rw [h1, h2]; rfl
theorem pq_6_2 (h1 : r.op = 6) (h2 : r.line = 2) : r.pq = r.pLook 0 3 := by unfold LS.pq; rw [h1, h2]; rfl
theorem pq_7_2 (h1 : r.op = 7) (h2 : r.line = 2) : r.pq = r.pLook 0 3 := by unfold LS.pq; rw [h1, h2]; rfl
theorem pq_6_3 (h1 : r.op = 6) (h2 : r.line = 3) : r.pq = r.wWeigh 0 := by unfold LS.pq; rw [h1, h2]; rfl
theorem pq_7_3 (h1 : r.op = 7) (h2 : r.line = 3) : r.pq = r.wWeigh 256 := by unfold LS.pq; rw [h1, h2]; rfl
theorem pq_6_4 (h1 : r.op = 6) (h2 : r.line = 4) : r.pq = r.wKeep 5 := by unfold LS.pq; rw [h1, h2]; rfl
theorem pq_7_4 (h1 : r.op = 7) (h2 : r.line = 4) : r.pq = r.wKeep 5 := by unfold LS.pq; rw [h1, h2]; rfl
theorem pq_6_5 (h1 : r.op = 6) (h2 : r.line = 5) : r.pq = r.pAppear 6 := by unfold LS.pq; rw [h1, h2]; rfl
theorem pq_7_5 (h1 : r.op = 7) (h2 : r.line = 5) : r.pq = r.pAppear 6 := by unfold LS.pq; rw [h1, h2]; rfl
theorem pq_6_6 (h1 : r.op = 6) (h2 : r.line = 6) : r.pq = r.pAdmit 1 r.mine := by unfold LS.pq; rw [h1, h2]; rfl
theorem pq_7_6 (h1 : r.op = 7) (h2 : r.line = 6) : r.pq = r.wOthers := by unfold LS.pq; rw [h1, h2]; rfl
theorem pq_7_7 (h1 : r.op = 7) (h2 : r.line = 7) : r.pq = r.pStop := by unfold LS.pq; rw [h1, h2]; rfl
theorem pq_enter (ho : r.op = 3) (hl : r.line = (j : Int)) (hj : j < 5) : r.pq = r.wEnter := by
  unfold LS.pq
  rw [show pqCase r.op r.line = 6 by unfold pqCase; repeat (first | rw [if_neg (by omega)] | rw [if_pos (by omega)])]
  rfl
theorem pq_try (ho : r.op = 6 ∨ r.op = 7) (hl : r.line = (j : Int)) (hj : j < 2) : r.pq = r.wTry := by
  unfold LS.pq
  rw [show pqCase r.op r.line = 15 by unfold pqCase; repeat (first | rw [if_neg (by omega)] | rw [if_pos (by omega)])]
  rfl
theorem pq_give4 (ho : r.op = 4 ∨ r.op = 8) (hl : r.line = 3 + (j : Int)) (hj : j < 4) : r.pq = r.wGive 3 true := by
  unfold LS.pq
  rw [show pqCase r.op r.line = 14 by unfold pqCase; repeat (first | rw [if_neg (by omega)] | rw [if_pos (by omega)])]
  rfl
theorem pq_give6 (ho : r.op = 6 ∨ r.op = 7) (hl : r.line = 8 + (j : Int)) (hj : j < 4) : r.pq = r.wGive 8 false := by
  unfold LS.pq
  rw [show pqCase r.op r.line = 24 by unfold pqCase; repeat (first | rw [if_neg (by omega)] | rw [if_pos (by omega)])]
  rfl
theorem wEnter_0 (hl : r.line = 0) : r.wEnter = (r.doA 2 (nc r.n r.task) 0 0).go 1 := by
  have e : r.mxEnter 2 2 = ((r.doA 2 (nc r.n r.task) 0 0).go 1, false) := by unfold LS.mxEnter; rw [if_pos hl]
  unfold LS.wEnter; rw [e]; rfl
theorem wEnter_1 (hl : r.line = 1) : r.wEnter = (r.doA 2 (bc r.n r.task) 1 0).go 2 := by
  have e : r.mxEnter 2 2 = ((r.doA 2 (bc r.n r.task) 1 0).go 2, false) := by unfold LS.mxEnter; rw [if_neg (by omega), if_pos hl]
  unfold LS.wEnter; rw [e]; rfl
theorem wEnter_2 (hl : r.line = 2) : r.wEnter = if wordAt r.xs 2 = 0 then (r.swapIn 2 2).go 5 else (r.swapIn 2 2).go 3 := by
  have e : r.mxEnter 2 2 = (if wordAt r.xs 2 = 0 then (r.swapIn 2 2, true) else ((r.swapIn 2 2).go 3, false)) := by unfold LS.mxEnter; rw [if_neg (by omega), if_neg (by omega), if_pos hl]
  unfold LS.wEnter; rw [e]
  by_cases e : wordAt r.xs 2 = 0
  · simp only [if_pos e, if_true]
  · simp only [if_neg e, Bool.false_eq_true, if_false]
theorem wEnter_3 (hl : r.line = 3) : r.wEnter = r.link := by
  have e : r.mxEnter 2 2 = (r.link, false) := by unfold LS.mxEnter; rw [if_neg (by omega), if_neg (by omega), if_neg (by omega), if_pos hl]
  unfold LS.wEnter; rw [e]; rfl
theorem wEnter_4 (hl : r.line = 4) : r.wEnter = if (r.stepR (bc r.n r.task) isZ).done then (r.wait (bc r.n r.task) isZ).go 5 else r.wait (bc r.n r.task) isZ := by
  have e : r.mxEnter 2 2 = (r.wait (bc r.n r.task) isZ, (r.stepR (bc r.n r.task) isZ).done) := by unfold LS.mxEnter; rw [if_neg (by omega), if_neg (by omega), if_neg (by omega), if_neg (by omega), if_pos hl]
  unfold LS.wEnter; rw [e]
theorem wGive_0 (hl : r.line = a) : r.wGive a ok = if wordAt r.xs (nc r.n r.task) = 0 then r.peek.go (a + 1) else r.peek.go (a + 3) := by
  have e : r.mxGive 2 a [8] = (if wordAt r.xs (nc r.n r.task) = 0 then r.peek.go (a + 1) else r.peek.go (a + 3), false) := by unfold LS.mxGive; rw [if_pos hl]
  unfold LS.wGive; rw [e]; rfl
theorem wGive_1 (hl : r.line = a + 1) : r.wGive a ok = if r.casOut 2 then ((r.doA 5 2 r.me 0).notes [8]).fin ok else (r.doA 5 2 r.me 0).go (a + 2) := by
  have e : r.mxGive 2 a [8] = (if r.casOut 2 then ((r.doA 5 2 r.me 0).notes [8], true) else ((r.doA 5 2 r.me 0).go (a + 2), false)) := by unfold LS.mxGive; rw [if_neg (by omega), if_pos hl]
  unfold LS.wGive; rw [e]
  cases r.casOut 2
  · simp only [Bool.false_eq_true, if_false]
  · simp only [if_true]
theorem wGive_2 (hl : r.line = a + 2) : r.wGive a ok = if (r.stepR (nc r.n r.task) isN).done then r.seeN.go (a + 3) else r.seeN := by
  have e : r.mxGive 2 a [8] = (if (r.stepR (nc r.n r.task) isN).done then r.seeN.go (a + 3) else r.seeN, false) := by unfold LS.mxGive; rw [if_neg (by omega), if_neg (by omega), if_pos hl]
  unfold LS.wGive; rw [e]; rfl
theorem wGive_3 (hl : r.line = a + 3) : r.wGive a ok = (r.handOn [8]).fin ok := by
  have e : r.mxGive 2 a [8] = (r.handOn [8], true) := by unfold LS.mxGive; rw [if_neg (by omega), if_neg (by omega), if_neg (by omega), if_pos hl]
  unfold LS.wGive; rw [e]; rfl
theorem wTry_0 (hl : r.line = 0) : r.wTry = (r.doA 2 (nc r.n r.task) 0 0).go 1 := by
  have e : r.mxTry 2 0 = ((r.doA 2 (nc r.n r.task) 0 0).go 1, false, false) := by unfold LS.mxTry; rw [if_pos hl]; rfl
  unfold LS.wTry; rw [e]; rfl
theorem wTry_1 (hl : r.line = 1) : r.wTry = if there r.xs 2 && (wordAt r.xs 2 == 0) then ((r.doA 5 2 0 r.me).note 2 2).go 2 else ((r.doA 5 2 0 r.me).note 5 0).fin false := by
  have e : r.mxTry 2 0 = (r.doA 5 2 0 r.me, true, there r.xs 2 && (wordAt r.xs 2 == 0)) := by unfold LS.mxTry; rw [if_neg (by omega), if_pos (by omega)]
  unfold LS.wTry; rw [e]; rfl
structure LS.Fr (r r' : LS) : Prop where
  n : r'.n = r.n
  mode : r'.mode = r.mode
  task : r'.task = r.task
  op : r'.op = r.op
  s : r'.s = r.s
theorem LS.Fr.refl (r : LS) : r.Fr r := ⟨rfl, rfl, rfl, rfl, rfl⟩
theorem doA_fw (r : LS) (k c x y : Int) : r.Fr (r.doA k c x y) ∧ (r.doA k c x y).line = r.line ∧ (r.doA k c x y).ret = r.ret ∧ (r.doA k c x y).k = r.k ∧ (r.doA k c x y).a = r.a ∧ (r.doA k c x y).b = r.b ∧ (r.doA k c x y).xs = doNew r.xs k c x y := ⟨⟨rfl, rfl, rfl, rfl, rfl⟩, rfl, rfl, rfl, rfl, rfl, rfl⟩
theorem keep_fw (n : Int) : r.Fr (r.wKeep n) ∧ (r.wKeep n).line = n ∧ (r.wKeep n).ret = r.ret ∧ (r.wKeep n).k = r.k ∧ (r.wKeep n).a = r.a ∧ (r.wKeep n).b = wordAt r.xs 3 ∧ (r.wKeep n).xs = r.xs := by
  unfold LS.wKeep
  generalize wordAt r.xs 3 = y
  exact ⟨⟨rfl, rfl, rfl, rfl, rfl⟩, rfl, rfl, rfl, rfl, rfl, own_load⟩
theorem look_fw (n : Int) : r.Fr (r.pLook 0 n) ∧ (r.pLook 0 n).line = n ∧ (r.pLook 0 n).ret = r.ret ∧ (r.pLook 0 n).k = r.k ∧ (r.pLook 0 n).a = wordAt r.xs 0 ∧ (r.pLook 0 n).b = r.b ∧ (r.pLook 0 n).xs = r.xs := by
  unfold LS.pLook
  generalize wordAt r.xs 0 = y
  exact ⟨⟨rfl, rfl, rfl, rfl, rfl⟩, rfl, rfl, rfl, rfl, rfl, own_load⟩
theorem app_fw (n : Int) : r.Fr (r.pAppear n) ∧ (r.pAppear n).line = n ∧ (r.pAppear n).ret = r.ret ∧ (r.pAppear n).k = r.k ∧ (r.pAppear n).a = wordAt r.xs 0 ∧ (r.pAppear n).b = r.b ∧ (r.pAppear n).xs = doNew r.xs 3 0 (presI r.b) 0 := by
  unfold LS.pAppear
  generalize presI r.b = x
  generalize wordAt r.xs 0 = y
  exact ⟨⟨rfl, rfl, rfl, rfl, rfl⟩, rfl, rfl, rfl, rfl, rfl, rfl⟩
theorem van_fw (i w : Int) : r.Fr (r.pVanish i w) ∧ (r.pVanish i w).line = 2 ∧ (r.pVanish i w).ret = r.ret ∧ (r.pVanish i w).k = beginI r.mode 0 ∧ (r.pVanish i w).b = r.b ∧ (r.pVanish i w).xs = doNew r.xs 3 0 ((i - presI r.b) % 4294967296) 0 := by
  unfold LS.pVanish
  generalize (i - presI r.b) % 4294967296 = x
  exact ⟨⟨rfl, rfl, rfl, rfl, rfl⟩, rfl, rfl, rfl, rfl, rfl⟩
theorem cnt_fw : r.Fr r.wCount ∧ r.wCount.line = 3 ∧ r.wCount.ret = r.ret ∧ r.wCount.k = r.k ∧ r.wCount.xs = doNew r.xs 2 3 ((r.b + 1) % 4294967296) 0 := by
  unfold LS.wCount
  obtain ⟨⟨h1, h2, h3, h4, h5⟩, _, h7, h8, _, _, h9⟩ := doA_fw r 2 3 ((r.b + 1) % 4294967296) 0
  generalize r.doA 2 3 ((r.b + 1) % 4294967296) 0 = R0 at *
  exact ⟨⟨h1, h2, h3, h4, h5⟩, rfl, h7, h8, h9⟩
theorem dep_fw : r.Fr r.pDepart ∧ r.pDepart.line = r.line ∧ r.pDepart.ret = 2 ∧ r.pDepart.k = beginI r.mode 1 ∧ r.pDepart.xs = doNew r.xs 3 1 256 0 := by
  unfold LS.pDepart
  obtain ⟨⟨h1, h2, h3, h4, h5⟩, h6, h7, h8, _, _, h9⟩ := doA_fw r 3 1 256 0
  generalize r.doA 3 1 256 0 = R0 at *
  rw [← h2]
  exact ⟨⟨h1, h2, h3, h4, h5⟩, h6, rfl, rfl, h9⟩
theorem stop_fw : r.Fr r.pStop ∧ r.pStop.line = r.line ∧ r.pStop.ret = 2 ∧ r.pStop.k = r.k ∧ r.pStop.xs = doNew r.xs 3 1 256 0 := by
  unfold LS.pStop
  obtain ⟨⟨h1, h2, h3, h4, h5⟩, h6, h7, h8, _, _, h9⟩ := doA_fw r 3 1 256 0
  generalize r.doA 3 1 256 0 = R0 at *
  exact ⟨⟨h1, h2, h3, h4, h5⟩, h6, rfl, h8, h9⟩
theorem swapIn_fw (tl cl : Int) : r.Fr (r.swapIn tl cl) ∧ (r.swapIn tl cl).line = r.line ∧ (r.swapIn tl cl).ret = r.ret ∧ (r.swapIn tl cl).k = r.k ∧ (r.swapIn tl cl).a = wordAt r.xs tl ∧ (r.swapIn tl cl).xs = doNew r.xs 4 tl r.me 0 := by
  unfold LS.swapIn
  generalize r.me = x
  exact ⟨⟨rfl, rfl, rfl, rfl, rfl⟩, rfl, rfl, rfl, rfl, rfl⟩
theorem peek_fw : r.Fr r.peek ∧ r.peek.line = r.line ∧ r.peek.ret = r.ret ∧ r.peek.k = r.k ∧ r.peek.xs = r.xs := by
  unfold LS.peek
  generalize nc r.n r.task = x
  generalize wordAt r.xs x = y
  exact ⟨⟨rfl, rfl, rfl, rfl, rfl⟩, rfl, rfl, rfl, own_load⟩
theorem wait_fw (c : Int) (q : Int → Bool) : (r.wait c q).n = r.n ∧ (r.wait c q).mode = r.mode ∧ (r.wait c q).task = r.task ∧ (r.wait c q).op = r.op ∧ (r.wait c q).line = r.line ∧ (r.wait c q).ret = r.ret ∧ (r.wait c q).k = r.k ∧ (r.wait c q).a = r.a ∧ (r.wait c q).b = r.b ∧ (r.wait c q).s = (r.stepR c q).next ∧ (r.wait c q).xs = (r.stepR c q).xs := by
  unfold LS.wait
  generalize r.stepR c q = x
  exact ⟨rfl, rfl, rfl, rfl, rfl, rfl, rfl, rfl, rfl, rfl, rfl⟩
theorem noteIf_fw (R : LS) (b : Bool) (w : Int) : R.Fr (R.noteIf b w) ∧ (R.noteIf b w).line = R.line ∧ (R.noteIf b w).ret = R.ret ∧ (R.noteIf b w).k = R.k ∧ (R.noteIf b w).a = R.a ∧ (R.noteIf b w).b = R.b ∧ (R.noteIf b w).xs = R.xs := by cases b <;> exact ⟨⟨rfl, rfl, rfl, rfl, rfl⟩, rfl, rfl, rfl, rfl, rfl, rfl⟩
end
end Go.Proofs.YtocdbeonogfopaaGreat
