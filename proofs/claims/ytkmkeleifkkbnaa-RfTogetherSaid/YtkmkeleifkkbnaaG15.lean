import Derived.Laws.AppendOwnNone
import Derived.Test.YtkmkeleifkkbnaaChecked
import Derived.Laws.AppendOwn
import Derived.OwnWalk
import Derived.Deep.OwnRows
import Derived.Test.YtkmkeleifkkbnaaG14
import Derived.Test.YtkmkeleifkkbnaaG9
import Derived.Test.YtkmkeleifkkbnaaG1
import Derived.Test.YtkmkeleifkkbnaaG2
import Derived.Test.YtkmkeleifkkbnaaG12
set_option linter.unusedVariables false
set_option linter.unusedSimpArgs false
namespace Go.Proofs.Ytkmkeleifkkbnaa
theorem waitq_facts {xs : List Int} {n mode i s c : Int} {q : Int → Bool} : ((stepI xs n mode i s c q).done = true → ((stepI xs n mode i s c q).seen = true ∧ q (wordAt xs c) = true) ∨ (s = 4 ∧ (stepI xs n mode i s c q).seen = false)) ∧ ((stepI xs n mode i s c q).next = 4 → (stepI xs n mode i s c q).seen = true ∧ q (wordAt xs c) = true) := by
  by_cases hm : mode = 2
  · subst hm
    by_cases h1 : s = 1
    · subst h1; rw [stepI_1]; exact ⟨fun h => (by cases h), fun h => (by cases h)⟩
    by_cases h2 : s = 2
    · subst h2; rw [stepI_2]
      refine ⟨fun h => (by cases h), fun h => ?_⟩
      cases hq : q (wordAt xs c)
      · simp [hq] at h
      · exact ⟨rfl, rfl⟩
    by_cases h3 : s = 3
    · subst h3; rw [stepI_3]
      refine ⟨fun h => (by cases h), fun h => ?_⟩
      simp only at h
      split at h <;> cases h
    by_cases h4 : s = 4
    · subst h4; rw [stepI_4]; exact ⟨fun _ => .inr ⟨rfl, rfl⟩, fun h => (by cases h)⟩
    · rw [stepI_0 h1 h2 h3 h4]
      refine ⟨fun h => .inl ⟨h, h⟩, fun h => ?_⟩
      simp only at h
      split at h <;> cases h
  · rw [stepI_spin hm]; exact ⟨fun h => .inl ⟨h, h⟩, fun h => (by cases h)⟩
theorem updq_self {α : Type} (f : Nat → α) (t : Nat) : upd f t (f t) = f := by
  funext i; unfold upd; split
  · rename_i h; rw [h]
  · rfl
structure AtQ (tc mode : Int) (k t : Nat) (s : QS) (r : LS) : Prop where
  hk : k ≤ 64
  hc : 0 ≤ tc ∧ tc < 8
  ht : t < k
  n : r.n = k
  mode : r.mode = mode
  task : r.task = t
  q : QOK k s
  w : WordsT tc k r.xs s
section
variable {tc mode cl : Int} {k t : Nat} {s : QS} {r : LS} {whats : List Int} {x : Int} {a st' : Int}
theorem AtQ.me (h : AtQ tc mode k t s r) : r.me = (t : Int) + 1 := by
  unfold LS.me
  have := h.hk; have := h.ht
  rw [h.task]; omega
theorem AtQ.nc (h : AtQ tc mode k t s r) : nc r.n r.task = nc k t := by rw [h.n, h.task]
theorem AtQ.bc (h : AtQ tc mode k t s r) : bc r.n r.task = bc k t := by rw [h.n, h.task]
theorem AtQ.wn (h : AtQ tc mode k t s r) : wordAt r.xs (Proofs.Ytkmkeleifkkbnaa.nc r.n r.task) = s.nx t := by rw [h.nc]; exact h.w.n t h.ht
theorem AtQ.wt (h : AtQ tc mode k t s r) : wordAt r.xs tc = s.tail := h.w.t
theorem AtQ.th (h : AtQ tc mode k t s r) : there r.xs tc = true := h.w.th h.hc.1 (by have := h.hc; omega)
theorem AtQ.ncB (h : AtQ tc mode k t s r) : Proofs.Ytkmkeleifkkbnaa.nc (k : Int) (t : Int) = tc ∨ (8 ≤ Proofs.Ytkmkeleifkkbnaa.nc (k : Int) (t : Int) ∧ Proofs.Ytkmkeleifkkbnaa.nc (k : Int) (t : Int) < 8 + 2 * k) := by have := h.ht; rw [nc_q h.hk h.ht]; omega
theorem AtQ.bcB (h : AtQ tc mode k t s r) : Proofs.Ytkmkeleifkkbnaa.bc (k : Int) (t : Int) = tc ∨ (8 ≤ Proofs.Ytkmkeleifkkbnaa.bc (k : Int) (t : Int) ∧ Proofs.Ytkmkeleifkkbnaa.bc (k : Int) (t : Int) < 8 + 2 * k) := by have := h.ht; rw [bc_q h.hk h.ht]; omega
theorem AtQ.waitF (h : AtQ tc mode k t s r) (c : Int) (q : Int → Bool) : FarT tc k false r.xs (r.stepR c q).xs := fun d h0 hn h1 => by
  have hd : d < 8 := by rcases h1 with h1 | ⟨h1, _⟩; exact h1; cases h1
  have hk := h.hk; have ht := h.ht
  show wordAt (stepI r.xs r.n r.mode r.task r.s c q).xs d = _
  rw [h.n, h.task]
  exact own_wait (by rw [wc_at hk ht]; omega) (by rw [pc_at hk ht]; omega)
theorem q_e0 (h : AtQ tc mode k t s r) (hp : TQ s t 1 a st') : QStep tc mode k t s true r ((r.doA 2 (nc r.n r.task) 0 0).go x) 2 := by
  cases hp with
  | e0 hp =>
    obtain ⟨m, q, hq⟩ := h.q
    have hq' := hq.own h.ht hp 0 (s.bl t)
    rw [updq_self] at hq'
    refine ⟨_, ⟨m, q, hq'⟩, ?_, .e1 hp (upd_same _ _ _), ⟨fun _ _ _ => rfl, fun _ _ _ => rfl, fun i _ hne => .inl (upd_other _ _ hne), fun _ _ _ => .inl rfl, fun _ _ _ => id⟩, ?_⟩
    · show WordsT tc k (doNew r.xs 2 _ 0 0) _
      rw [h.nc, doNew_st _ _ _ _ _ rfl]
      exact h.w.setN h.hc h.hk h.ht 0 ⟨rfl, rfl, rfl⟩
    · show FarT tc k true r.xs (doNew r.xs 2 _ 0 0)
      rw [h.nc, doNew_st _ _ _ _ _ rfl]
      exact far_cell _ h.ncB
theorem q_e1 (h : AtQ tc mode k t s r) (hp : TQ s t 2 a st') : QStep tc mode k t s true r ((r.doA 2 (bc r.n r.task) 1 0).go x) 3 := by
  cases hp with
  | e1 hp hn =>
    obtain ⟨m, q, hq⟩ := h.q
    have hq' := hq.own h.ht hp (s.nx t) 1
    rw [updq_self] at hq'
    refine ⟨_, ⟨m, q, hq'⟩, ?_, .e2 hp hn (upd_same _ _ _), ⟨fun _ _ _ => rfl, fun _ _ _ => rfl, fun _ _ _ => .inl rfl, fun i _ hne => .inl (upd_other _ _ hne), fun _ _ _ => id⟩, ?_⟩
    · show WordsT tc k (doNew r.xs 2 _ 1 0) _
      rw [h.bc, doNew_st _ _ _ _ _ rfl]
      exact h.w.setB h.hc h.hk h.ht 1 ⟨rfl, rfl, rfl⟩
    · show FarT tc k true r.xs (doNew r.xs 2 _ 1 0)
      rw [h.bc, doNew_st _ _ _ _ _ rfl]
      exact far_cell _ h.bcB
theorem q_e2 (h : AtQ tc mode k t s r) (hp : TQ s t 3 a st') : (s.tail = 0 → QStep tc mode k t s true r (r.swapIn tc cl) 6) ∧ (s.tail ≠ 0 → QStep tc mode k t s true r ((r.swapIn tc cl).go x) 4) := by
  cases hp with
  | e2 hp hn hb =>
    obtain ⟨m, q, hq⟩ := h.q
    have hx : (r.swapIn tc cl).xs = st r.xs tc ((t : Int) + 1) := by
      show doNew r.xs 4 tc r.me 0 = _
      rw [h.me, doNew_st _ _ _ _ _ rfl]; rfl
    have hto : ∀ i : Nat, i ≠ t → (t : Int) + 1 ≠ (i : Int) + 1 := fun i hne => by omega
    refine ⟨fun hz => ?_, fun hz => ?_⟩
    · obtain ⟨hm, hq'⟩ := hq.swap0 h.ht hp hn hz
      refine ⟨_, ⟨1, _, hq'⟩, ?_, .own (upd_same _ _ _), ⟨fun i _ hne => upd_other _ _ hne, fun _ _ _ => rfl, fun _ _ _ => .inl rfl, fun _ _ _ => .inl rfl, fun i _ hne _ => hto i hne⟩, by rw [hx]; exact far_cell _ (.inl rfl)⟩
      rw [hx]; exact h.w.setT h.hc h.hk ⟨rfl, rfl⟩ (s' := { s with tail := (t : Int) + 1, ph := upd s.ph t 5 })
    · obtain ⟨hm, hq'⟩ := hq.swap1 h.ht hp hn hb hz
      refine ⟨_, ⟨m + 1, _, hq'⟩, ?_, .e3 (upd_same _ _ _) ?_, ⟨fun i _ hne => upd_other _ _ hne, fun i _ hne => upd_other _ _ hne, fun _ _ _ => .inl rfl, fun _ _ _ => .inl rfl, fun i _ hne _ => hto i hne⟩, by show FarT tc k true r.xs (r.swapIn tc cl).xs; rw [hx]; exact far_cell _ (.inl rfl)⟩
      · show WordsT tc k (r.swapIn tc cl).xs _
        rw [hx]; exact h.w.setT h.hc h.hk ⟨rfl, rfl⟩ (s' := { s with tail := (t : Int) + 1, ph := upd s.ph t 3, pr := upd s.pr t s.tail })
      · show wordAt r.xs tc = upd s.pr t s.tail t
        rw [upd_same]; exact h.wt
theorem q_e3 (h : AtQ tc mode k t s r) (hp : TQ s t 4 r.a st') (h0 : r.s = 0) : QStep tc mode k t s true r r.link 5 := by
  cases hp with
  | e3 hp ha =>
    obtain ⟨m, q, hq⟩ := h.q
    obtain ⟨p, hpk, hpt, hpn, hpp, hpr, ⟨hm, hq0⟩, hq'⟩ := hq.link h.ht hp
    have hap : nc r.n (r.a - 1) = nc k p := by rw [h.n, ha, hpr, Int.add_sub_cancel]
    refine ⟨_, ⟨m, q, hq'⟩, ?_, .e4 (upd_same _ _ _) fun e => ?_, ⟨fun i _ hne => upd_other _ _ hne, fun _ _ _ => rfl, fun i _ hne => ?_, fun _ _ _ => .inl rfl, fun _ _ _ => id⟩, ?_⟩
    · show WordsT tc k (doNew r.xs 2 _ r.me 0) _
      rw [hap, h.me, doNew_st _ _ _ _ _ rfl]
      exact h.w.setN h.hc h.hk hpk _ ⟨rfl, rfl, rfl⟩
    · have : r.s = 4 := e
      omega
    · by_cases e : i = p
      · subst e
        refine .inr ⟨hpn, hpp, ?_⟩
        show beginI r.mode _ = _
        rw [h.mode, hap]
      · exact .inl (upd_other _ _ e)
    · show FarT tc k true r.xs (doNew r.xs 2 _ r.me 0)
      rw [hap, doNew_st _ _ _ _ _ rfl]
      exact far_cell _ (.inr (by rw [nc_q h.hk hpk]; omega))
theorem q_e4 (h : AtQ tc mode k t s r) (hp : TQ s t 5 r.a r.s) : ((r.stepR (bc r.n r.task) isZ).done = false → QStep tc mode k t s false r (r.wait (bc r.n r.task) isZ) 5) ∧ ((r.stepR (bc r.n r.task) isZ).done = true → QStep tc mode k t s false r (r.wait (bc r.n r.task) isZ) 6) := by
  cases hp with
  | e4 hp h4 =>
    obtain ⟨m, q, hq⟩ := h.q
    obtain ⟨f1, f2⟩ := waitq_facts (xs := r.xs) (n := r.n) (mode := r.mode) (i := r.task) (s := r.s) (c := bc r.n r.task) (q := isZ)
    have hz : isZ (wordAt r.xs (bc r.n r.task)) = true → s.bl t = 0 := fun e => by
      rw [h.bc, h.w.b t h.ht] at e
      simpa [isZ] using e
    have hw : WordsT tc k (r.wait (bc r.n r.task) isZ).xs s := by
      show WordsT tc k (stepI r.xs r.n r.mode r.task r.s _ _).xs s
      rw [h.n, h.task]; exact h.w.wait h.hc h.hk h.ht _ _ _ _
    have hfar : FarT tc k false r.xs (r.wait (bc r.n r.task) isZ).xs := h.waitF _ _
    refine ⟨fun hd => ⟨s, ⟨m, q, hq⟩, hw, .e4 hp fun e => hz (f2 e).2, OthQ.refl, hfar⟩, fun hd => ?_⟩
    have hb0 : s.bl t = 0 := by
      rcases f1 hd with ⟨_, e⟩ | ⟨e, _⟩
      · exact hz e
      · exact h4 e
    obtain ⟨hm, hq0, hq'⟩ := hq.enter h.ht hp hb0
    exact ⟨_, ⟨m, q, hq'⟩, ⟨hw.len, hw.t, hw.n, hw.b⟩, .own (upd_same _ _ _), ⟨fun i _ hne => upd_other _ _ hne, fun _ _ _ => rfl, fun _ _ _ => .inl rfl, fun _ _ _ => .inl rfl, fun _ _ _ => id⟩, hfar⟩
theorem q_g0 (h : AtQ tc mode k t s r) (hp : TQ s t 7 a st') : (s.nx t = 0 → QStep tc mode k t s true r (r.peek.go x) 8) ∧ (s.nx t ≠ 0 → QStep tc mode k t s true r (r.peek.go x) 10) := by
  cases hp with
  | g0 hp =>
    have hx : r.peek.xs = r.xs := by
      show doNew r.xs 1 _ 0 0 = r.xs
      exact own_load
    have hw : WordsT tc k (r.peek.go x).xs s := by
      show WordsT tc k r.peek.xs s
      rw [hx]; exact h.w
    have hf : FarT tc k true r.xs (r.peek.go x).xs := by
      show FarT tc k true r.xs r.peek.xs
      rw [hx]; exact far_refl
    exact ⟨fun _ => ⟨s, h.q, hw, .g1 hp, OthQ.refl, hf⟩, fun hz => ⟨s, h.q, hw, .g3 hp h.wn hz, OthQ.refl, hf⟩⟩
theorem notes_same (r : LS) (whats : List Int) : (r.notes whats).xs = r.xs ∧ (r.notes whats).a = r.a ∧ (r.notes whats).s = r.s ∧ (r.notes whats).k = r.k ∧ (r.notes whats).n = r.n ∧ (r.notes whats).mode = r.mode ∧ (r.notes whats).task = r.task ∧ (r.notes whats).op = r.op ∧ (r.notes whats).line = r.line ∧ (r.notes whats).ret = r.ret ∧ (r.notes whats).b = r.b := by
  unfold LS.notes
  induction whats generalizing r with
  | nil => exact ⟨rfl, rfl, rfl, rfl, rfl, rfl, rfl, rfl, rfl, rfl, rfl⟩
  | cons w l ih => exact ih (r.note w 0)
theorem QStep.same {pl : Bool} {R R' : LS} {qp' : Nat} (h : QStep tc mode k t s pl r R qp') (hx : R'.xs = R.xs) (ha : R'.a = R.a) (hs : R'.s = R.s) (hk : R'.k = R.k) : QStep tc mode k t s pl r R' qp' := by
  unfold QStep at *
  rwa [hx, ha, hs, hk]
theorem AtQ.casX (h : AtQ tc mode k t s r) : r.casOut tc = (s.tail == (t : Int) + 1) := by
  unfold LS.casOut
  rw [h.me, h.th, h.wt, Bool.true_and]
theorem q_g1 (h : AtQ tc mode k t s r) (hp : TQ s t 8 a st') (h0 : r.s = 0) : (s.tail = (t : Int) + 1 → QStep tc mode k t s true r ((r.doA 5 tc r.me 0).notes whats) 0) ∧ (s.tail ≠ (t : Int) + 1 → QStep tc mode k t s true r ((r.doA 5 tc r.me 0).go x) 9) := by
  cases hp with
  | g1 hp =>
    obtain ⟨m, q, hq⟩ := h.q
    have hx : (r.doA 5 tc r.me 0).xs = st r.xs tc (if s.tail = (t : Int) + 1 then 0 else s.tail) := by
      show doNew r.xs 5 tc r.me 0 = _
      rw [h.me, doNew_st _ _ _ _ _ rfl, h.wt]; rfl
    refine ⟨fun hz => ?_, fun hz => ?_⟩
    · obtain ⟨hm, hq'⟩ := hq.empty h.ht hp hz
      obtain ⟨e1, e2, e3, e4, _⟩ := notes_same (r.doA 5 tc r.me 0) whats
      refine QStep.same (R := r.doA 5 tc r.me 0) ⟨_, ⟨0, q, hq'⟩, ?_, .out (upd_same _ _ _), ⟨fun i _ hne => upd_other _ _ hne, fun _ _ _ => rfl, fun _ _ _ => .inl rfl, fun _ _ _ => .inl rfl, fun i _ _ _ => ?_⟩, by rw [hx]; exact far_cell _ (.inl rfl)⟩ e1 e2 e3 e4
      · rw [hx, if_pos hz]; exact h.w.setT h.hc h.hk ⟨rfl, rfl⟩ (s' := { s with tail := 0, ph := upd s.ph t 0 })
      · show (0 : Int) ≠ (i : Int) + 1
        omega
    · refine ⟨s, h.q, ?_, .g2 hp hz fun e => ?_, OthQ.refl, by show FarT tc k true r.xs (r.doA 5 tc r.me 0).xs; rw [hx]; exact far_cell _ (.inl rfl)⟩
      · show WordsT tc k (r.doA 5 tc r.me 0).xs s
        rw [hx, if_neg hz]; exact h.w.setT h.hc h.hk ⟨rfl, rfl⟩
      · have : r.s = 4 := e
        omega
theorem q_g2 (h : AtQ tc mode k t s r) (hp : TQ s t 9 r.a r.s) : ((r.stepR (nc r.n r.task) isN).done = false → QStep tc mode k t s false r r.seeN 9) ∧ ((r.stepR (nc r.n r.task) isN).done = true → QStep tc mode k t s false r (r.seeN.go x) 10) := by
  cases hp with
  | g2 hp hta h4 =>
    obtain ⟨f1, f2⟩ := waitq_facts (xs := r.xs) (n := r.n) (mode := r.mode) (i := r.task) (s := r.s) (c := nc r.n r.task) (q := isN)
    rw [show stepI r.xs r.n r.mode r.task r.s (nc r.n r.task) isN = r.stepR (nc r.n r.task) isN from rfl] at f1 f2
    have hnz : isN (wordAt r.xs (nc r.n r.task)) = true → s.nx t ≠ 0 := fun e => by
      rw [h.wn] at e
      simpa [isN] using e
    have hw : WordsT tc k (r.stepR (nc r.n r.task) isN).xs s := by
      show WordsT tc k (stepI r.xs r.n r.mode r.task r.s _ _).xs s
      rw [h.n, h.task]; exact h.w.wait h.hc h.hk h.ht _ _ _ _
    have hR : r.seeN.xs = (r.stepR (nc r.n r.task) isN).xs ∧ r.seeN.s = (r.stepR (nc r.n r.task) isN).next ∧ r.seeN.a = (if (r.stepR (nc r.n r.task) isN).seen then s.nx t else r.a) := by
      unfold LS.seeN
      split
      · exact ⟨rfl, rfl, h.wn⟩
      · exact ⟨rfl, rfl, rfl⟩
    obtain ⟨R1, R2, R3⟩ := hR
    have hf : FarT tc k false r.xs r.seeN.xs := by rw [R1]; exact h.waitF _ _
    refine ⟨fun hd => ⟨s, h.q, by rw [R1]; exact hw, .g2 hp hta fun e => ?_, OthQ.refl, hf⟩, fun hd => ⟨s, h.q, ?_, .g3 hp ?_ ?_, OthQ.refl, hf⟩⟩
    · rw [R2] at e
      obtain ⟨f3, f4⟩ := f2 e
      rw [R3, f3]
      exact ⟨rfl, hnz f4⟩
    · show WordsT tc k r.seeN.xs s
      rw [R1]; exact hw
    · show r.seeN.a = _
      rcases f1 hd with ⟨e1, e2⟩ | ⟨e1, e2⟩
      · rw [R3, e1]; rfl
      · rw [R3, e2]; exact (h4 e1).1
    · rcases f1 hd with ⟨e1, e2⟩ | ⟨e1, e2⟩
      · exact hnz e2
      · exact (h4 e1).2
theorem q_g3 (h : AtQ tc mode k t s r) (hp : TQ s t 10 r.a st') : QStep tc mode k t s true r (r.handOn whats) 0 := by
  cases hp with
  | g3 hp ha hn =>
    obtain ⟨m, q, hq⟩ := h.q
    obtain ⟨p, hpk, hpt, hpn, hm1, hq1, hp4, hq'⟩ := hq.hand h.ht hp hn
    have hap : bc r.n (r.a - 1) = bc k p := by rw [h.n, ha, hpn, Int.add_sub_cancel]
    obtain ⟨e1, e2, e3, e4, e5, e6, _⟩ := notes_same (r.doA 2 (bc r.n (r.a - 1)) 0 0) whats
    refine ⟨_, ⟨m - 1, _, hq'⟩, ?_, .out (upd_same _ _ _), ⟨fun i _ hne => upd_other _ _ hne, fun _ _ _ => rfl, fun _ _ _ => .inl rfl, fun i _ hne => ?_, fun _ _ _ => id⟩, ?_⟩
    · show WordsT tc k ((r.doA 2 (bc r.n (r.a - 1)) 0 0).notes whats).xs _
      rw [e1]
      show WordsT tc k (doNew r.xs 2 _ 0 0) _
      rw [hap, doNew_st _ _ _ _ _ rfl]
      exact h.w.setB h.hc h.hk hpk 0 ⟨rfl, rfl, rfl⟩
    · by_cases e : i = p
      · subst e
        refine .inr ⟨upd_same _ _ _, by rw [hp4]; decide, ?_⟩
        show beginI ((r.doA 2 (bc r.n (r.a - 1)) 0 0).notes whats).mode _ = _
        rw [e6, hap]
        show beginI r.mode _ = _
        rw [h.mode]
      · exact .inl (upd_other _ _ e)
    · show FarT tc k true r.xs ((r.doA 2 (bc r.n (r.a - 1)) 0 0).notes whats).xs
      rw [e1]
      show FarT tc k true r.xs (doNew r.xs 2 _ 0 0)
      rw [hap, doNew_st _ _ _ _ _ rfl]
      exact far_cell _ (.inr (by rw [bc_q h.hk hpk]; omega))
theorem q_t0 (h : AtQ tc mode k t s r) (hp : TQ s t 11 a st') : QStep tc mode k t s true r ((r.doA 2 (nc r.n r.task) 0 0).go x) 12 := by
  cases hp with
  | t0 hp =>
    obtain ⟨m, q, hq⟩ := h.q
    have hq' := hq.own h.ht hp 0 (s.bl t)
    rw [updq_self] at hq'
    refine ⟨_, ⟨m, q, hq'⟩, ?_, .t1 hp (upd_same _ _ _), ⟨fun _ _ _ => rfl, fun _ _ _ => rfl, fun i _ hne => .inl (upd_other _ _ hne), fun _ _ _ => .inl rfl, fun _ _ _ => id⟩, ?_⟩
    · show WordsT tc k (doNew r.xs 2 _ 0 0) _
      rw [h.nc, doNew_st _ _ _ _ _ rfl]
      exact h.w.setN h.hc h.hk h.ht 0 ⟨rfl, rfl, rfl⟩
    · show FarT tc k true r.xs (doNew r.xs 2 _ 0 0)
      rw [h.nc, doNew_st _ _ _ _ _ rfl]
      exact far_cell _ h.ncB
theorem q_t1 (h : AtQ tc mode k t s r) (hp : TQ s t 12 a st') : (s.tail = 0 → QStep tc mode k t s true r (r.doA 5 tc 0 r.me) 6) ∧ (s.tail ≠ 0 → QStep tc mode k t s true r (r.doA 5 tc 0 r.me) 0) := by
  cases hp with
  | t1 hp hn =>
    obtain ⟨m, q, hq⟩ := h.q
    have hx : (r.doA 5 tc 0 r.me).xs = st r.xs tc (if s.tail = 0 then (t : Int) + 1 else s.tail) := by
      show doNew r.xs 5 tc 0 r.me = _
      rw [h.me, doNew_st _ _ _ _ _ rfl, h.wt]; rfl
    refine ⟨fun hz => ?_, fun hz => ?_⟩
    · obtain ⟨hm, hq'⟩ := hq.swap0 h.ht hp hn hz
      refine ⟨_, ⟨1, _, hq'⟩, ?_, .own (upd_same _ _ _), ⟨fun i _ hne => upd_other _ _ hne, fun _ _ _ => rfl, fun _ _ _ => .inl rfl, fun _ _ _ => .inl rfl, fun i _ hne _ => (by show (t : Int) + 1 ≠ _; omega)⟩, by rw [hx]; exact far_cell _ (.inl rfl)⟩
      rw [hx, if_pos hz]; exact h.w.setT h.hc h.hk ⟨rfl, rfl⟩ (s' := { s with tail := (t : Int) + 1, ph := upd s.ph t 5 })
    · refine ⟨s, h.q, ?_, .out hp, OthQ.refl, by rw [hx]; exact far_cell _ (.inl rfl)⟩
      rw [hx, if_neg hz]; exact h.w.setT h.hc h.hk ⟨rfl, rfl⟩
theorem q_wake (h : AtQ tc mode k t s r) {qp : Nat} (hp : TQ s t qp r.a r.s) : QStep tc mode k t s false r r.waking qp := by
  refine ⟨s, h.q, ?_, hp, OthQ.refl, fun d h0 hn h1 => ?_⟩
  case refine_2 =>
    have hd : d < 8 := by rcases h1 with h1 | ⟨h1, _⟩; exact h1; cases h1
    show wordAt (wakeI r.xs r.n _ _ _ _).xs d = _
    rw [h.n]
    exact own_wake (by have := pc_big k r.k.i (by omega); omega)
  show WordsT tc k (wakeI r.xs r.n _ _ _ _).xs s
  rw [h.n]; exact h.w.wake h.hc h.hk _ _ _ _
end
end Go.Proofs.Ytkmkeleifkkbnaa
set_option linter.unusedVariables false
set_option linter.unusedSimpArgs false
set_option linter.unusedSectionVars false
namespace Go.Proofs.Ytkmkeleifkkbnaa
open Go.RowKit
structure SW (k : Nat) (v : Int) (xs : List Int) : Prop where
  len : xs.length = 8 + 4 * k
  x : wordAt xs 0 = v
  w : ∀ i, i < k → wordAt xs (wc k i) = 0
structure RS (k t : Nat) (mode op line ret : Int) (K : WkV) (v : Int) (r : LS) : Prop where
  n : r.n = k
  mode : r.mode = mode
  task : r.task = t
  op : r.op = op
  line : r.line = line
  ret : r.ret = ret
  s : r.s = 0
  kk : r.k = K
  w : SW k v r.xs
section
variable {k t : Nat} {mode op line ret v x : Int} {K : WkV} {xs : List Int} {r R : LS}
theorem SW.th (h : SW k v xs) {d : Int} (h0 : 0 ≤ d) (h1 : d < 8 + 4 * k) : there xs d = true := there_lk h.len h0 h1
theorem SW.nw (h : SW k v xs) (hk : k ≤ 64) : NoWatch k xs := fun i hi => ⟨h.th (by rw [wc_at hk hi]; omega) (by rw [wc_at hk hi]; omega), h.w i hi⟩
theorem SW.set (h : SW k v xs) (hk : k ≤ 64) (x : Int) : SW k x (st xs 0 x) :=
  ⟨(st_len _ _ _).trans h.len, by rw [word_st, if_pos (h.th (by omega) (by omega))], fun i hi => by rw [word_far _ (by rw [wc_at hk hi]; omega)]; exact h.w i hi⟩
theorem SW.do (h : SW k v xs) (hk : k ≤ 64) (K x y : Int) (hK : isKind K = true := by rfl) : SW k (leftOf K x y v) (doNew xs K 0 x y) := by
  rw [doNew_st _ _ _ _ _ hK, h.x]; exact h.set hk _
theorem RS.fresh (h : RS k t mode op line ret K v r) : RS k t mode op line ret K v r.fresh := ⟨h.n, h.mode, h.task, h.op, h.line, h.ret, h.s, h.kk, h.w⟩
theorem RS.at0 (h : RS k t mode op line ret K v r) (x : Int) : r.at0 x = (v == x) := by unfold LS.at0; rw [h.w.th (by omega) (by omega), h.w.x, Bool.true_and]
theorem doA_fs (r : LS) (K c x y : Int) : (r.doA K c x y).n = r.n ∧ (r.doA K c x y).mode = r.mode ∧ (r.doA K c x y).task = r.task ∧ (r.doA K c x y).op = r.op ∧ (r.doA K c x y).line = r.line ∧ (r.doA K c x y).ret = r.ret ∧ (r.doA K c x y).s = r.s ∧ (r.doA K c x y).k = r.k ∧ (r.doA K c x y).xs = doNew r.xs K c x y := ⟨rfl, rfl, rfl, rfl, rfl, rfl, rfl, rfl, rfl⟩
variable (hk : 1 ≤ k ∧ k ≤ 64)
include hk
theorem RS.do {K : Int} (h : RS k t mode op line 0 wk0 v r) (x y : Int) (hK : isKind K = true) : RS k t mode op line 0 wk0 (leftOf K x y v) (r.doA K 0 x y) := by
  obtain ⟨f1, f2, f3, f4, f5, f6, f7, f8, f9⟩ := doA_fs r K 0 x y
  have hw := h.w.do hk.2 K x y hK
  rw [← f9] at hw
  generalize r.doA K 0 x y = R0 at *
  exact ⟨f1.trans h.n, f2.trans h.mode, f3.trans h.task, f4.trans h.op, f5.trans h.line, f6.trans h.ret, f7.trans h.s, f8.trans h.kk, hw⟩
theorem RS.go {R : LS} (h : RS k t mode op line 0 wk0 v R) (l : Int) : RS k t mode op l 0 wk0 v (R.go l) := ⟨h.n, h.mode, h.task, h.op, rfl, h.ret, h.s, h.kk, h.w⟩
theorem RS.note {R : LS} (h : RS k t mode op line 0 wk0 v R) (w a : Int) : RS k t mode op line 0 wk0 v (R.note w a) := ⟨h.n, h.mode, h.task, h.op, h.line, h.ret, h.s, h.kk, h.w⟩
theorem RS.keepA {R : LS} (h : RS k t mode op line 0 wk0 v R) (a : Int) : RS k t mode op line 0 wk0 v (R.keepA a) := ⟨h.n, h.mode, h.task, h.op, h.line, h.ret, h.s, h.kk, h.w⟩
theorem RS.fin {R : LS} (h : RS k t mode op line 0 K v R) (ok : Bool) : RS k t mode op line (if ok then 2 else 1) K v (R.fin ok) := ⟨h.n, h.mode, h.task, h.op, h.line, rfl, h.s, h.kk, h.w⟩
theorem RS.wake {R : LS} (h : RS k t mode op line 0 wk0 v R) : RS k t mode op line 0 (beginI mode 0) v (R.wake 0) := ⟨h.n, h.mode, h.task, h.op, h.line, h.ret, h.s, by show beginI R.mode 0 = _; rw [h.mode], h.w⟩
theorem l_come (h : RS k t mode 1 0 0 wk0 v r) (ho : outW v = true) : RS k t mode 1 0 2 wk0 ((1 + v) % 4294967296) r.rf := by
  rw [rf_1_0 h.op h.line]; unfold LS.fCome
  rw [h.w.x, if_pos ho]
  exact (((((h.do hk 1 0 (K := 3) rfl).keepA hk _).note hk 2 1).note hk 4 0).fin hk true)
theorem l_go (h : RS k t mode 2 0 0 wk0 v r) : RS k t mode 2 0 2 (beginI mode 0) ((4294967295 + v) % 4294967296) r.rf := by
  rw [rf_2_0 h.op h.line]; unfold LS.fGo
  exact ((((h.do hk 4294967295 0 (K := 3) rfl).note hk 6 0).wake hk).fin hk true)
theorem l_reg (h : RS k t mode 3 0 0 wk0 0 r) : RS k t mode 3 1 0 wk0 0 r.rf := by
  rw [rf_3_0 h.op h.line]; unfold LS.fReg
  rw [if_pos h.w.x]
  exact ((((h.do hk 0 0 (K := 1) rfl).keepA hk _).note hk 2 2).go hk 1)
theorem l_take (h : RS k t mode 3 1 0 wk0 0 r) : RS k t mode 3 1 2 wk0 65536 r.rf := by
  rw [rf_3_1 h.op h.line]; unfold LS.fTake
  rw [h.at0, if_pos (beq_self_eq_true _)]
  exact (((h.do hk 0 65536 (K := 5) rfl).note hk 4 0).fin hk true)
theorem l_leave (h : RS k t mode 4 0 0 wk0 65536 r) : RS k t mode 4 0 2 (beginI mode 0) 0 r.rf := by
  rw [rf_4_0 h.op h.line]; unfold LS.fLeave
  exact (((((h.do hk 4294901760 0 (K := 3) rfl).note hk 7 0).note hk 8 0).wake hk).fin hk true)
theorem l_down (h : RS k t mode 8 0 0 wk0 65536 r) : RS k t mode 8 0 2 (beginI mode 0) 1 r.rf := by
  rw [rf_8_0 h.op h.line]; unfold LS.fDown
  exact ((((h.do hk 4294901761 0 (K := 3) rfl).note hk 10 0).wake hk).fin hk true)
theorem l_look (h : RS k t mode op line 0 wk0 v r) : RS k t mode op 1 0 wk0 v (r.fLook true) ∧ (r.fLook true).a = v ∧ RS k t mode op line 1 wk0 v (r.fLook false) := by
  have g := (h.do hk 0 0 (K := 1) rfl).keepA hk (wordAt r.xs 0)
  exact ⟨g.go hk 1, h.w.x, (g.note hk 5 0).fin hk false⟩
theorem l_slip (h : RS k t mode 5 1 0 wk0 v r) (ha : r.a = v) : RS k t mode 5 1 2 wk0 ((v + 1) % 4294967296) r.rf := by
  rw [rf_5_1 h.op h.line]; unfold LS.fSlip
  rw [h.at0, ha, if_pos (beq_self_eq_true _)]
  have g := h.do hk v ((v + 1) % 4294967296) (K := 5) rfl
  rw [show leftOf 5 v ((v + 1) % 4294967296) v = (v + 1) % 4294967296 from if_pos rfl] at g
  exact (((g.note hk 2 1).note hk 4 0).fin hk true)
theorem l_try (h : RS k t mode 6 1 0 wk0 0 r) : RS k t mode 6 1 2 wk0 65536 r.rf := by
  rw [rf_6_1 h.op h.line]; unfold LS.fTry
  rw [h.at0, if_pos (beq_self_eq_true _)]
  exact ((((h.do hk 0 65536 (K := 5) rfl).note hk 2 2).note hk 4 0).fin hk true)
theorem l_up (h : RS k t mode 7 1 0 wk0 1 r) : RS k t mode 7 1 2 wk0 65536 r.rf := by
  rw [rf_7_1 h.op h.line]; unfold LS.fUp
  rw [h.at0, if_pos (beq_self_eq_true _)]
  exact (((h.do hk 1 65536 (K := 5) rfl).note hk 9 0).fin hk true)
end
section
variable {chk : LS → Bool} {k t m : Nat} {mode op line ret op' line' v v' : Int} {r : LS}
def EndS (chk : LS → Bool) (k m : Nat) (r : LS) (ret v : Int) : Prop := ∃ xs, aloneG chk LS.rf m r = (ret, xs) ∧ SW k v xs
theorem nexts_off (h : RS k t mode op line ret wk0 v r) : r.next LS.rf = r.fresh.rf := by
  unfold LS.next
  rw [h.kk, if_neg (by show ¬ false = true; decide)]
theorem EndS.on (hk0 : Chk chk) (h : RS k t mode op line 0 wk0 v r) (g : RS k t mode op' line' 0 wk0 v' r.fresh.rf) {re V : Int} (e : EndS chk k m r.fresh.rf re V) : EndS chk k (m + 1) r re V := by
  obtain ⟨xs, e1, e2⟩ := e
  refine ⟨xs, ?_, e2⟩
  rw [alone_on hk0 h.s (by rw [nexts_off h]; unfold LS.over; rw [g.ret]; rfl), nexts_off h]
  exact e1
theorem EndS.stop (hk0 : Chk chk) (h : RS k t mode op line 0 wk0 v r) (g : RS k t mode op' line' ret wk0 v' r.fresh.rf) (hr : ret ≠ 0) : EndS chk k (m + 1) r ret v' := by
  refine ⟨_, ?_, g.w⟩
  rw [alone_end hk0 h.s (by rw [nexts_off h]; unfold LS.over; rw [g.ret, g.kk]; simpa [wk0] using hr), nexts_off h, g.ret]
theorem EndS.done (hk0 : Chk chk) (hk : 1 ≤ k ∧ k ≤ 64) (h : RS k t mode op line 0 wk0 v r) (g : RS k t mode op' line' ret (beginI mode 0) v' r.fresh.rf) (hr : ret ≠ 0) (hm : k < m) : EndS chk k m r ret v' :=
  ⟨_, by
    rw [alone_doneQ hk0 hk (c := 0) (by decide) (nexts_off h) g.n (g.w.nw hk.2) g.kk (by rw [g.ret]; exact hr) h.s g.s hm, g.ret], g.w⟩
variable (hk0 : Chk chk) (hk : 1 ≤ k ∧ k ≤ 64)
include hk0 hk
theorem es_rlock (h : RS k t mode 1 0 0 wk0 v r) (ho : outW v = true) : EndS chk k (m + 1) r 2 ((1 + v) % 4294967296) := .stop hk0 h (l_come hk h.fresh ho) (by decide)
theorem es_runlock (h : RS k t mode 2 0 0 wk0 v r) (hm : k < m) : EndS chk k m r 2 ((4294967295 + v) % 4294967296) := .done hk0 hk h (l_go hk h.fresh) (by decide) hm
theorem es_lock (h : RS k t mode 3 0 0 wk0 0 r) : EndS chk k (m + 2) r 2 65536 := by
  have g := l_reg hk h.fresh
  exact .on hk0 h g (.stop hk0 g (l_take hk g.fresh) (by decide))
theorem es_unlock (h : RS k t mode 4 0 0 wk0 65536 r) (hm : k < m) : EndS chk k m r 2 0 := .done hk0 hk h (l_leave hk h.fresh) (by decide) hm
theorem es_down (h : RS k t mode 8 0 0 wk0 65536 r) (hm : k < m) : EndS chk k m r 2 1 := .done hk0 hk h (l_down hk h.fresh) (by decide) hm
theorem es_tryrlock (h : RS k t mode 5 0 0 wk0 v r) (ho : outW v = true) : EndS chk k (m + 2) r 2 ((v + 1) % 4294967296) := by
  obtain ⟨g, ga, _⟩ := l_look hk h.fresh
  have e : r.fresh.rf = r.fresh.fLook true := by rw [rf_5_0 h.fresh.op h.fresh.line, h.fresh.w.x, ho]
  rw [← e] at g ga
  exact .on hk0 h g (.stop hk0 g (l_slip hk g.fresh ga) (by decide))
theorem es_tryrlock_no (h : RS k t mode 5 0 0 wk0 v r) (ho : outW v = false) : EndS chk k (m + 1) r 1 v := by
  obtain ⟨_, _, g⟩ := l_look hk h.fresh
  have e : r.fresh.rf = r.fresh.fLook false := by rw [rf_5_0 h.fresh.op h.fresh.line, h.fresh.w.x, ho]
  rw [← e] at g
  exact .stop hk0 h g (by decide)
theorem es_trylock (h : RS k t mode 6 0 0 wk0 0 r) : EndS chk k (m + 2) r 2 65536 := by
  obtain ⟨g, _, _⟩ := l_look hk h.fresh
  have e : r.fresh.rf = r.fresh.fLook true := by rw [rf_6_0 h.fresh.op h.fresh.line, h.fresh.w.x]; rfl
  rw [← e] at g
  exact .on hk0 h g (.stop hk0 g (l_try hk g.fresh) (by decide))
theorem es_trylock_no (h : RS k t mode 6 0 0 wk0 v r) (hv : v ≠ 0) : EndS chk k (m + 1) r 1 v := by
  obtain ⟨_, _, g⟩ := l_look hk h.fresh
  have e : r.fresh.rf = r.fresh.fLook false := by rw [rf_6_0 h.fresh.op h.fresh.line, h.fresh.w.x, show (v == 0) = false by simpa using hv]
  rw [← e] at g
  exact .stop hk0 h g (by decide)
theorem es_upgrade (h : RS k t mode 7 0 0 wk0 1 r) : EndS chk k (m + 2) r 2 65536 := by
  obtain ⟨g, _, _⟩ := l_look hk h.fresh
  have e : r.fresh.rf = r.fresh.fLook true := by rw [rf_7_0 h.fresh.op h.fresh.line, h.fresh.w.x]; rfl
  rw [← e] at g
  exact .on hk0 h g (.stop hk0 g (l_up hk g.fresh) (by decide))
end
def valR (s : Nat) : Int := match s with | 1 => 1 | 2 => 65536 | 3 => 2 | _ => 0
structure StS (k s : Nat) (xs : List Int) : Prop where
  w : SW k (valR s) xs
def nextS (s : Nat) (op : Int) : Option (Int × Nat) :=
  match s, op with
  | 0, 1 => some (2, 1) | 0, 3 => some (2, 2) | 0, 5 => some (2, 1) | 0, 6 => some (2, 2)
  | 1, 2 => some (2, 0) | 1, 7 => some (2, 2) | 1, 6 => some (1, 1) | 1, 5 => some (2, 3)
  | 2, 4 => some (2, 0) | 2, 8 => some (2, 1) | 2, 5 => some (1, 2) | 2, 6 => some (1, 2)
  | 3, 2 => some (2, 1)
  | _, _ => none
section
variable {chk : LS → Bool} {k m : Nat} {mode op v : Int} {xs : List Int}
theorem rs_new (t : Nat) (op : Int) (h : SW k v xs) : RS k t mode op 0 0 wk0 v (newR k mode t op xs) := ⟨rfl, rfl, rfl, rfl, rfl, rfl, rfl, rfl, h⟩
theorem EndS.st {r : LS} {ret : Int} {s' : Nat} {v : Int} (e : EndS chk k m r ret v) (hv : v = valR s') : ∃ ys, aloneG chk LS.rf m r = (ret, ys) ∧ StS k s' ys := by
  obtain ⟨ys, e1, e2⟩ := e
  exact ⟨ys, e1, ⟨by rw [← hv]; exact e2⟩⟩
theorem alone_rfG (hk0 : Chk chk) (hk : 1 ≤ k ∧ k ≤ 64) (hm : k + 8 ≤ m) {s s' : Nat} {ret : Int} (h : nextS s op = some (ret, s')) (hx : StS k s xs) : ∃ ys, aloneG chk LS.rf m (newR k mode 0 op xs) = (ret, ys) ∧ StS k s' ys := by
  obtain ⟨hx⟩ := hx
  obtain ⟨m1, rfl⟩ : ∃ q, m = q + 1 := ⟨m - 1, by omega⟩
  obtain ⟨m2, hm2⟩ : ∃ q, m1 + 1 = q + 2 := ⟨m1 - 1, by omega⟩
  unfold nextS at h
  split at h
  all_goals first
    | (cases h; done)
    | (obtain ⟨rfl, rfl⟩ := Prod.mk.inj (Option.some.inj h))
  · exact (es_rlock hk0 hk (rs_new (mode := mode) 0 1 hx) rfl).st rfl
  · rw [hm2]; exact (es_lock hk0 hk (rs_new (mode := mode) 0 3 hx)).st rfl
  · rw [hm2]; exact (es_tryrlock hk0 hk (rs_new (mode := mode) 0 5 hx) rfl).st rfl
  · rw [hm2]; exact (es_trylock hk0 hk (rs_new (mode := mode) 0 6 hx)).st rfl
  · exact (es_runlock hk0 hk (rs_new (mode := mode) 0 2 hx) (by omega)).st rfl
  · rw [hm2]; exact (es_upgrade hk0 hk (rs_new (mode := mode) 0 7 hx)).st rfl
  · exact (es_trylock_no hk0 hk (rs_new (mode := mode) 0 6 hx) (by decide)).st rfl
  · rw [hm2]; exact (es_tryrlock hk0 hk (rs_new (mode := mode) 0 5 hx) rfl).st rfl
  · exact (es_unlock hk0 hk (rs_new (mode := mode) 0 4 hx) (by omega)).st rfl
  · exact (es_down hk0 hk (rs_new (mode := mode) 0 8 hx) (by omega)).st rfl
  · exact (es_tryrlock_no hk0 hk (rs_new (mode := mode) 0 5 hx) rfl).st rfl
  · exact (es_trylock_no hk0 hk (rs_new (mode := mode) 0 6 hx) (by decide)).st rfl
  · exact (es_runlock hk0 hk (rs_new (mode := mode) 0 2 hx) (by omega)).st rfl
end
def runS (k : Nat) (mode : Int) (xs : List Int) (op : Int) : Int × List Int := aloneL LS.rf (40 + 8 * k) (newR k mode 0 op xs)
def foldS (k : Nat) (mode : Int) (l : List Int) (xs : List Int) : List Int := l.foldl (fun ys op => (runS k mode ys op).2) xs
theorem runS_ok {k : Nat} {mode op : Int} {xs : List Int} (hk : 1 ≤ k ∧ k ≤ 64) {s s' : Nat} {ret : Int} (h : nextS s op = some (ret, s')) (hx : StS k s xs) : (runS k mode xs op).1 = ret ∧ StS k s' (runS k mode xs op).2 := by
  obtain ⟨ys, e1, e2⟩ := alone_rfG (mode := mode) chk_n hk (m := 40 + 8 * k) (by omega) h hx
  have e3 : runS k mode xs op = (ret, ys) := e1
  rw [e3]; exact ⟨rfl, e2⟩
def goodS : Nat → List Int → Option Nat
  | s, [] => some s
  | s, op :: l => match nextS s op with
    | some (2, s') => goodS s' l
    | _ => none
theorem foldS_next {k : Nat} {mode : Int} {l : List Int} {j : Nat} {op : Int} (h : l[j]? = some op) (xs : List Int) : foldS k mode (l.take (j + 1)) xs = (runS k mode (foldS k mode (l.take j) xs) op).2 := by
  unfold foldS
  rw [List.take_add_one, h, List.foldl_append]
  rfl
theorem foldS_ok {k : Nat} {mode : Int} (hk : 1 ≤ k ∧ k ≤ 64) : ∀ (l : List Int) (s s' : Nat) (xs : List Int), goodS s l = some s' → StS k s xs → StS k s' (foldS k mode l xs) ∧ ∀ (j : Nat) (op : Int), l[j]? = some op → (runS k mode (foldS k mode (l.take j) xs) op).1 = 2 := by
  intro l
  induction l with
  | nil => intro s s' xs h hx; cases h; exact ⟨hx, fun j op e => by simp at e⟩
  | cons o l ih =>
    intro s s' xs h hx
    unfold goodS at h
    split at h
    · rename_i s1 hn
      obtain ⟨r1, r2⟩ := runS_ok (mode := mode) hk hn hx
      obtain ⟨i1, i2⟩ := ih s1 s' _ h r2
      refine ⟨i1, fun j op e => ?_⟩
      cases j with
      | zero =>
        have : op = o := by simpa using e.symm
        subst this
        exact r1
      | succ j => exact i2 j op (by simpa using e)
    · cases h
def opsS : List (List Int) := [[1, 2], [3, 4], [5, 2], [6, 4], [3, 8, 2], [1, 7, 4], [6, 8, 7, 4]]
theorem opsS_ok {k : Nat} {mode : Int} (hk : 1 ≤ k ∧ k ≤ 64) {xs : List Int} (hx : StS k 0 xs) : ∀ l ∈ opsS, StS k 0 (foldS k mode l xs) ∧ ∀ (j : Nat) (op : Int), l[j]? = some op → (runS k mode (foldS k mode (l.take j) xs) op).1 = 2 := by
  intro l hl
  simp only [opsS, List.mem_cons, List.not_mem_nil, or_false] at hl
  rcases hl with rfl | rfl | rfl | rfl | rfl | rfl | rfl <;> exact foldS_ok hk _ 0 0 xs rfl hx
theorem sts_first {k : Nat} {xs : List Int} (hl : xs.length = 8 + 4 * k) (hx : ∀ d : Int, wordAt xs d = 0) : StS k 0 xs := ⟨⟨hl, hx _, fun _ _ => hx _⟩⟩
end Go.Proofs.Ytkmkeleifkkbnaa
set_option linter.unusedVariables false
set_option linter.unusedSimpArgs false
namespace Go.Proofs.Ytkmkeleifkkbnaa
open Go.RowKit
def FirstW (xs : List Int) (S : Nat) (w : World) (e : Ending) (w' : World) : Prop :=
  ∃ g, e = .returned (.tuple #[.slice (some ⟨g, 0, none⟩) S S, .int .i64 0]) ∧ w.heap.size ≤ g ∧ Held w' (some ⟨g, 0, none⟩) S S xs ∧ Only Nil w w'
end Go.Proofs.Ytkmkeleifkkbnaa
set_option linter.unusedVariables false
set_option linter.unusedSimpArgs false
namespace Go.Proofs.Ytkmkeleifkkbnaa
open Go.RowKit
def rfXs (k : Nat) : List Int := List.replicate (8 + 4 * k) 0
theorem rf_len (k : Nat) : (rfXs k).length = 8 + 4 * k := List.length_replicate
theorem rf_zero (k : Nat) : ∀ d : Int, wordAt (rfXs k) d = 0 := fun d => by
  unfold wordAt rfXs
  split
  · simp only [List.getD, List.getElem?_replicate]
    split <;> rfl
  · rfl
theorem rf_words (k : Nat) : Words (rfXs k) := fun n hn => by
  obtain ⟨_, rfl⟩ := List.mem_replicate.1 hn
  rfl
theorem words_rf (k : Nat) (S c : Nat) (b : Int) : words 5 S c b = List.replicate S 0 := by
  apply List.ext_getElem
  · simp [words]
  · intro i h1 h2
    simp [words, wordI]
theorem first_rf (k : Nat) (b : Int) (w : World) (hk : 1 ≤ k ∧ k ≤ 64) (hb : 0 ≤ b ∧ b < 4294967296) :
    Calls Try.prog 7 #[.int .i64 5, .int .i64 k, .int .u32 b] w (FirstW (rfXs k) (8 + 4 * k) w) := by
  have hS : sizeI (k : Int) = ((8 + 4 * k : Nat) : Int) := by unfold sizeI; rw [if_pos (by omega)]; push_cast; rfl
  refine (first_yes 5 k b (8 + 4 * k) w (by omega) (by omega) hS hb).mono ?_
  rintro e w' ⟨g, rfl, hg, hR, hO⟩
  rw [words_rf k] at hR
  have hI := Row.ints (k := .u32) (xs := rfXs k) hR
  exact ⟨g, rfl, hg, ⟨by simp [rfXs], (by intro h; cases h), hI⟩, hO⟩
end Go.Proofs.Ytkmkeleifkkbnaa
set_option linter.unusedVariables false
set_option linter.unusedSimpArgs false
namespace Go.Proofs.Ytkmkeleifkkbnaa
open Go.RowKit
theorem flat_cells : ∀ (zs : List Nt) (u : Value), u ∈ flat zs → u.oneCell' = true
  | [], u, h => by simp [flat] at h
  | n :: r, u, h => by
    rw [flat, List.mem_append] at h
    rcases h with h | h
    · unfold flat1 at h
      simp only [List.mem_cons, List.not_mem_nil, or_false] at h
      rcases h with rfl | rfl | rfl | rfl <;> rfl
    · exact flat_cells r u h
theorem wp_appNs {w : World} {ops : Array Oper} {rest : List Oper} {o : Oper} {a : Act} {Q : Exit → Act → World → Prop} (hgd : o.guard = none) (s x : Operand)
    (ho : o.op = .call { callee := .builtin .append, args := #[s, x], argTypes := #[32, 32] })
    (base : Nat) (v : Value) (zs : List Nt) (hs : a.eval s = v) (hown : OwnN base w v zs)
    (u : Value) (ys : List Nt) (hx : a.eval x = u) (hu : OwnN 0 w u ys)
    (h1 : zs.length ≤ 4000) (h2 : ys.length ≤ 1000) (hbase : base ≤ w.heap.size)
    (h : ∀ v' w', OwnN base w' v' (zs ++ ys) → Only (fun k => v.ownBlock = some k) w w' → wpList Try.prog ops Q rest (a.put o.dst v') w') : wpList Try.prog ops Q (o :: rest) a w := by
  obtain ⟨i0, hi, hz0, hz1, hz2⟩ := info_parts infoN
  rcases hu.2 with ⟨rfl, hn⟩ | ⟨g, cap, cur, rfl, _, hg, hc, hm, hsz, ht⟩
  · obtain rfl := List.eq_nil_of_length_eq_zero hn
    refine wpList_append_own_none hgd s x 32 ho base 114 i0 4 Try.underlying32 hi v zs.length (flat zs) hs hown hx ?_
    exact h v w (by rw [List.append_nil]; exact hown) (Only.refl _ _)
  · refine wpList_append_own w hgd s x 32 ho base 114 i0 (.agg #[.int .i64 0, .int .i64 0, .int .i64 0, .int .i64 0]) 4 32 Try.underlying32 hi hz0 hz1 hz2 rfl (by decide) v zs.length (flat zs) hs hown ⟨g, 0, none⟩ ys.length cap (flat ys) hx (flat_len ys) (fun j u hj => World.ownsRow.cells hu (g := g) rfl j u hj) (fun u hu => flat_cells ys u hu) (by unfold maxLen; omega) (by omega) hbase (fun v' w' hO hG _ => ?_)
    refine h v' w' ?_ ((Only.refl _ w).grown hG (fun k hk => .inr hk))
    have e : (zs ++ ys).length = zs.length + ys.length := List.length_append
    unfold OwnN
    rw [e, flat_app]
    exact hO
end Go.Proofs.Ytkmkeleifkkbnaa
set_option linter.unusedVariables false
set_option linter.unusedSimpArgs false
namespace Go.Proofs.Ytkmkeleifkkbnaa
open Go.RowKit
structure AloneI (w0 : World) (B : Nat) (p A : Option Addr) (cp : Nat) (r0 : LS) (most j : Nat) (v : Value) (wr : World) : Prop where
  run : ∃ nv r, RunQ wr B p A cp nv r ∧ r.WA ∧ aloneL LS.rf most r0 = aloneL LS.rf (most - j) r
  notes : ∃ zs, OwnN w0.heap.size wr v zs ∧ zs.length ≤ 2 * j
  only : Only (At A) w0 wr
  new : w0.heap.size ≤ B
  old : ∀ j, At p j ∨ At A j → j < w0.heap.size
def AloneP (p A : Option Addr) (cp : Nat) (w : World) (t : Int × List Int) (e : Ending) (w' : World) : Prop := ∃ nv, e = .returned (.tuple #[.int .i64 t.1, nv]) ∧ Only (At A) w w' ∧ Memo w' p A cp t.2 ∧ Words t.2
theorem ownN_form {base : Nat} {w : World} {v : Value} {zs : List Nt} (h : OwnN base w v zs) : ∃ A n c, v = .slice A n c := by
  rcases h.2 with ⟨rfl, _⟩ | ⟨g, cap, cur, rfl, _⟩
  · exact ⟨none, 0, 0, rfl⟩
  · exact ⟨_, _, _, rfl⟩
set_option maxRecDepth 100000 in
set_option maxHeartbeats 2000000 in
theorem alone_any (p A : Option Addr) (cp : Nat) (k mode op : Int) (most : Nat) (xs : List Int) (w : World) (h : Memo w p A cp xs) (hx : Words xs) (hmost : most ≤ 1000) :
    Calls Try.prog 9 #[.pointer p, .int .i64 k, .int .i64 mode, .int .i64 op, .int .i64 most] w (AloneP p A cp w (aloneL LS.rf most (newR k mode 0 op xs))) := by
  have e0 := (Only.refl Nil w).alloc (.cells ((newR k mode 0 op xs).cells (.pointer p) (.slice none 0 0)) 61)
  have HI0 : Hid (AloneI w w.heap.size p A cp (newR k mode 0 op xs) most 0 (.slice none 0 0) (w.alloc (.cells ((newR k mode 0 op xs).cells (.pointer p) (.slice none 0 0)) 61))) :=
    Lib.hid ⟨⟨_, _, ⟨Row.new w _ _, h.keep e0⟩, wa_new hx, rfl⟩, ⟨[], ownN_nil _ _, Nat.zero_le _⟩, e0.mono (fun _ _ h => h.elim), Nat.le_refl _, h.lt⟩
  rw [show (newR k mode 0 op xs).cells (.pointer p) (.slice none 0 0) = newCells p k mode 0 op from rfl] at HI0
  unfold newCells at HI0
  clear e0 h hx
  generalize hr0 : newR k mode 0 op xs = r0 at *
  clear hr0
  go_enter Try.func9, Try.ntmps9
  go_upto_region 2 with (fail)
  generalize w.alloc (.cells #[.pointer p, .int .i64 k, .int .i64 mode, .int .i64 0, .int .i64 op, .int .i64 0, .int .u32 0, .int .u32 0, .int .i64 0, .bool false, .int .i64 0, .int .i64 0, .bool false, .int .i64 0, .int .i64 0, .int .i64 0, .int .u32 0, .int .u32 0, .int .u32 0, .slice none 0 0] 61) = w1 at *
  generalize hB : w.heap.size = B at *
  have HB := Lib.hid hB
  clear hB
  go_wp2_with fail
  go_loopw [13, 14] (fun nv i wr => ∃ j : Nat, j ≤ most ∧ i = .int .i64 j ∧ AloneI w B p A cp r0 most j nv wr) (fun _ i _ => most - (intOf i).toNat)
  case atStart => exact ⟨0, Nat.zero_le _, rfl, HI0.out⟩
  case round =>
    obtain ⟨j, hj, rfl, hI⟩ := hrel
    clear HI0
    obtain ⟨nvr, r, hQ, hW, hA⟩ := hI.run
    have HI := Lib.hid hI
    have HQ := Lib.hid hQ
    have HW := Lib.hid hW
    have HA := Lib.hid hA
    clear hI hQ hW hA
    by_cases hlt : j < most
    · go_wp2_with fail
      refine (rf_step B p A cp nvr r _ HQ.out HW.out.words).mono ?_
      obtain ⟨hg, hn2⟩ := good_next (L := LS.rf) (fun r => good_rf) r
      have HG := Lib.hid hg
      have HN2 := Lib.hid hn2
      clear hg hn2
      have HNW := Lib.hid (wa_next HW.out)
      rintro e w2 ⟨rfl, hO, _, nv2, hP⟩
      have HO := Lib.hid hO
      have HP := Lib.hid hP
      clear hO hP
      obtain ⟨zs, hzs, hzl⟩ := HI.out.notes
      have HZ := Lib.hid (show OwnN w.heap.size w2 _ zs from own_only hzs HO.out (fun i hi e => by
        obtain ⟨cur, hc⟩ := ownN_tag hzs hi
        rcases e with e | e
        · exact row_ne hc HQ.out.row (by decide) e
        · exact memo_not HQ.out.memo hc (by decide) (by decide) (.inr e)))
      have HZL := Lib.hid hzl
      clear hzs hzl
      have HSTEP : Hid (aloneL LS.rf most r0 = if (r.next LS.rf).over then ((r.next LS.rf).ret, (r.next LS.rf).xs) else aloneL LS.rf (most - (j + 1)) (r.next LS.rf)) := Lib.hid (by
        rw [HA.out, show most - j = (most - (j + 1)) + 1 by omega]
        rfl)
      generalize r.next LS.rf = r2 at *
      have c19 : w2.cell? ⟨B, 19, none⟩ = some nv2 := HP.out.row.cell_ (i := 19) rfl
      have hbase : w.heap.size ≤ w2.heap.size := Nat.le_trans HI.out.only.size HO.out.size
      have HBA := Lib.hid hbase
      clear hbase
      go_wp2_with (at_builtin; refine wp_appNs rfl (.tmp 31) (.tmp 35) rfl w.heap.size _ _ (by rfl) HZ.out nv2 r2.ns (by rfl) HP.out.notes (by have := HZL.out; omega) (by have := HN2.out; omega) HBA.out ?_)
      intro v' w3 hown hO3
      clear c19
      have HRQ : Hid (RunQ w3 B p A cp nv2 r2) := Lib.hid ⟨HP.out.row.only hO3 (fun e => by
          obtain ⟨cur, hc⟩ := ownN_tag HZ.out e
          exact absurd (HP.out.row.same hc).1 (by decide)), HP.out.memo.far hO3 (fun j hj e => by
          obtain ⟨cur, hc⟩ := ownN_tag HZ.out e
          exact memo_not HP.out.memo hc (by decide) (by decide) hj)⟩
      have HO3 : Hid (Only (At A) w w3) := Lib.hid ((HI.out.only.step HO.out (fun i hi e => by
          rcases e with e | e
          · have := HI.out.new; omega
          · exact e)).step hO3 (fun i hi e => by
          have := (World.ownsRow.lt HZ.out i e).1
          omega))
      have HOW := Lib.hid hown
      obtain ⟨A9, n9, c9, rfl⟩ := ownN_form hown
      clear hown hO3
      cases hov : r2.over
      · have HSTEP2 := Lib.hid (HSTEP.out.trans (by rw [hov, if_neg Bool.false_ne_true]))
        clear hov
        go_wp2
        go_roundw
        case rel => exact ⟨j + 1, by omega, by go_num, ⟨⟨nv2, r2, HRQ.out, HNW.out, HSTEP2.out⟩, ⟨_, HOW.out, by rw [List.length_append]; have := HZL.out; have := HN2.out; omega⟩, HO3.out, HI.out.new, HI.out.old⟩⟩
        case measure => simp [intOf]; omega
      · have HSTEP2 := Lib.hid (HSTEP.out.trans (by rw [hov, if_pos rfl]))
        clear hov
        have c13 : w3.cell? ⟨B, 13, none⟩ = some (.int .i64 r2.ret) := HRQ.out.row.cell_ (i := 13) rfl
        go_wp2
        go_ret2
        rw [HSTEP2.out]
        exact ⟨_, rfl, HO3.out, HRQ.out.memo, HNW.out.words⟩
    · obtain rfl : j = most := by omega
      have HE := Lib.hid (show aloneL LS.rf j r0 = (0, r.xs) by rw [HA.out, Nat.sub_self]; rfl)
      go_wp2
      go_ret2
      rw [HE.out]
      exact ⟨_, rfl, HI.out.only, HQ.out.memo, HW.out.words⟩
end Go.Proofs.Ytkmkeleifkkbnaa
set_option linter.unusedVariables false
set_option linter.unusedSimpArgs false
namespace Go.Proofs.Ytkmkeleifkkbnaa
open Go.RowKit
def Fresh (w : World) (xs : List Int) (e : Ending) (w' : World) : Prop := ∃ b A' c', e = .returned (.tuple #[.pointer (some ⟨b, 0, none⟩), .int .i64 0]) ∧ w.heap.size ≤ b ∧ (∀ i, At A' i → w.heap.size ≤ i) ∧ Mem w' b A' c' xs ∧ Only Nil w w'
theorem from_ok (A : Option Addr) (n cap : Nat) (xs : List Int) (w : World) (hm : n ≤ 1024) (h : Held w A n cap xs) :
    Calls Try.prog 8 #[.slice A n cap] w (Fresh w xs) := by
  have hl := h.1
  have hm' : (n : Int) ≤ 1024 := by omega
  have HH := Lib.hid h
  have HL := Lib.hid hl
  clear h hl
  go_enter Try.func8, Try.ntmps8
  go_wp2_with (go_at_call 20; refine (clone_held A n cap xs _ (by omega) HH.out).mono ?_; rintro e w1 ⟨A', c', rfl, ho, hO⟩)
  have HO := Lib.hid ho
  have HW := Lib.hid hO
  clear ho hO
  go_ret2
  refine ⟨w1.heap.size, A', c', rfl, HW.out.size, HO.out.base, ⟨Row.new w1 _ _, ?_, ?_⟩, HW.out.alloc _⟩
  · exact ⟨own_base (own_only HO.out.own ((Only.refl Nil w1).alloc _) (fun _ _ h => h)) (Nat.zero_le _), HO.out.nil, fun _ _ => Nat.zero_le _⟩
  · rw [HL.out]; exact hm
end Go.Proofs.Ytkmkeleifkkbnaa
set_option linter.unusedVariables false
set_option linter.unusedSimpArgs false
namespace Go.Proofs.Ytkmkeleifkkbnaa
open Go.RowKit
structure Made (w0 : World) (b : Nat) (A : Option Addr) (cp : Nat) (xs : List Int) (W : World) : Prop where
  mem : Mem W b A cp xs
  new : ∀ j, At A j → w0.heap.size ≤ j
  only : Only Nil w0 W
theorem Made.call {w0 W W' : World} {b : Nat} {A : Option Addr} {cp : Nat} {xs ys : List Int} (h : Made w0 b A cp xs W) (ho : Only (At A) W W') (hm : Mem W' b A cp ys) : Made w0 b A cp ys W' :=
  ⟨hm, h.new, h.only.step ho (fun i hi e => by have := h.new i e; omega)⟩
end Go.Proofs.Ytkmkeleifkkbnaa
set_option linter.unusedVariables false
set_option linter.unusedSimpArgs false
namespace Go.Proofs.Ytkmkeleifkkbnaa
open Go.RowKit
theorem load_raw (b : Nat) (A : Option Addr) (cp : Nat) (xs : List Int) (c : Int) (w : World) (h : Mem w b A cp xs) :
    Calls Try.prog 10 #[.pointer (some ⟨b, 0, none⟩), .int .i64 c] w fun e w' => e = .returned (.int .u32 (wordAt xs c)) ∧ Only (At A) w w' ∧ Mem w' b A cp (doNew xs 1 c 0 0) := by
  have HH := Lib.hid h
  clear h
  go_enter Try.func10, Try.ntmps10
  go_wp2_with fail
  refine (do_any b A cp xs 1 c 0 0 0 _ HH.out).mono ?_
  obtain ⟨k', c', x', y', hv⟩ := doVal_form xs 1 c 0 0
  rw [oldAt xs 1 c rfl] at hv
  rintro e w1 ⟨rfl, hO, hM⟩
  rw [hv]
  have HO := Lib.hid hO
  have HM := Lib.hid hM
  clear hO hM hv
  go_wp2
  go_ret
  exact ⟨rfl, HO.out.alloc _, HM.out.only ((Only.refl Nil w1).alloc _) id (fun _ _ => id)⟩
theorem load_any (b : Nat) (A : Option Addr) (cp : Nat) (xs : List Int) (c : Int) (w : World) (h : Mem w b A cp xs) :
    Calls Try.prog 10 #[.pointer (some ⟨b, 0, none⟩), .int .i64 c] w fun e w' => e = .returned (.int .u32 (wordAt xs c)) ∧ Only (At A) w w' ∧ Mem w' b A cp xs :=
  (load_raw b A cp xs c w h).mono fun _ _ ⟨h1, h2, h3⟩ => ⟨h1, h2, by rw [doNew_load] at h3; exact h3⟩
end Go.Proofs.Ytkmkeleifkkbnaa
set_option linter.unusedVariables false
set_option linter.unusedSimpArgs false
namespace Go.Proofs.Ytkmkeleifkkbnaa
open Go.RowKit
theorem aw_alone : aloneL LS.rf 1 (newR 1 1 0 1 (rfXs 1)) = (2, [1, 0, 0, 0, 0, 0, 0, 0, 0, 0, 0, 0]) := by
  decide +kernel
set_option maxHeartbeats 1000000 in
theorem awake_any (w : World) : Calls Try.prog 11 #[] w fun e w' => e = .returned (.bool true) ∧ Only Nil w w' := by
  go_enter Try.func11, Try.ntmps11
  go_wp2_with fail
  refine (first_rf 1 5 _ (by decide) (by decide)).mono ?_
  rintro e w1 ⟨g, rfl, hg, hH, hO⟩
  have HH := Lib.hid hH
  have HO := Lib.hid hO
  clear hg hH hO
  go_wp2_with fail
  refine (from_ok _ _ _ _ _ (by decide) HH.out).mono ?_
  rintro e w2 ⟨b, A', c', rfl, hb, hA, hM, hO⟩
  have HM : Hid (Made w b A' c' _ w2) := Lib.hid ⟨hM, fun j hj => Nat.le_trans HO.out.size (hA j hj), HO.out.trans hO⟩
  clear hb hA hM hO HO HH
  go_wp2_with fail
  refine (alone_any (some ⟨b, 0, none⟩) A' c' 1 1 1 1 _ _ (Memo.of HM.out.mem) (rf_words 1) (by decide)).mono ?_
  rw [aw_alone]
  rintro e w3 ⟨nv, rfl, hO, hM, _⟩
  have HM3 := Lib.hid (HM.out.call hO hM.mem)
  clear hO hM HM
  go_wp2_with fail
  refine (load_any b A' c' _ 0 _ HM3.out.mem).mono ?_
  rw [show wordAt [1, 0, 0, 0, 0, 0, 0, 0, 0, 0, 0, 0] 0 = 1 from rfl]
  rintro e w4 ⟨rfl, hO, hM⟩
  have HM4 := Lib.hid (HM3.out.call hO hM)
  clear hO hM HM3
  go_wp2
  go_ret
  exact ⟨rfl, HM4.out.only⟩
end Go.Proofs.Ytkmkeleifkkbnaa
set_option linter.unusedVariables false
set_option linter.unusedSimpArgs false
namespace Go.Proofs.Ytkmkeleifkkbnaa
open Go.RowKit
def OwnP (base : Nat) (w : World) (v : Value) (bs : List Nat) : Prop := w.ownsRow base 62 1 v bs.length (bs.map fun b => Value.pointer (some ⟨b, 0, none⟩))
theorem infoP : (Try.prog.info? 62).map (fun i => (i.zero, i.size, i.bytes)) = some (some (.pointer none), 1, 8) := by kernel_rfl
theorem ownP_nil (base : Nat) (w : World) : OwnP base w (.slice none 0 0) [] := World.ownsRow_nil _ _ _ _
theorem ownP_tag {base : Nat} {w : World} {v : Value} {bs : List Nat} (h : OwnP base w v bs) {i : Nat} (hi : v.ownBlock = some i) : ∃ cur, Row w i 62 cur := by
  rcases h.2 with ⟨rfl, _⟩ | ⟨g, cap, cur, rfl, _, hg, _⟩
  · cases hi
  · have e : g = i := by simpa [Value.ownBlock] using hi
    subst e
    exact ⟨cur, hg⟩
theorem ownP_form {base : Nat} {w : World} {v : Value} {bs : List Nat} (h : OwnP base w v bs) : ∃ A n c, v = .slice A n c := by
  rcases h.2 with ⟨rfl, _⟩ | ⟨g, cap, cur, rfl, _⟩
  · exact ⟨none, 0, 0, rfl⟩
  · exact ⟨_, _, _, rfl⟩
theorem wp_appP {w : World} {ops : Array Oper} {rest : List Oper} {o : Oper} {a : Act} {Q : Exit → Act → World → Prop} (hgd : o.guard = none) (s x : Operand)
    (ho : o.op = .call { callee := .builtin .append, args := #[s, x], argTypes := #[47, 47] })
    (base : Nat) (v : Value) (bs : List Nat) (hs : a.eval s = v) (hown : OwnP base w v bs)
    (g nb : Nat) (hx : a.eval x = .slice (some ⟨g, 0, none⟩) 1 1) (hrow : Row w g 62 #[.pointer (some ⟨nb, 0, none⟩)])
    (h1 : bs.length ≤ 1000) (hbase : base ≤ w.heap.size)
    (h : ∀ v' w', OwnP base w' v' (bs ++ [nb]) → Only (fun k => v.ownBlock = some k) w w' → wpList Try.prog ops Q rest (a.put o.dst v') w') : wpList Try.prog ops Q (o :: rest) a w := by
  obtain ⟨i0, hi, hz0, hz1, hz2⟩ := info_parts infoP
  refine wpList_append_own w hgd s x 47 ho base 62 i0 (.pointer none) 1 8 Try.underlying47 hi hz0 hz1 hz2 rfl (by decide) v bs.length _ hs hown ⟨g, 0, none⟩ 1 1 [.pointer (some ⟨nb, 0, none⟩)] hx rfl (fun j u hj => ?_) (fun u hu => ?_) (by unfold maxLen; omega) (by omega) hbase (fun v' w' hO hG _ => ?_)
  · rw [add_at, Nat.zero_add]
    exact hrow.cell_ (by rw [← hj]; simp)
  · simp only [List.mem_cons, List.not_mem_nil, or_false] at hu
    subst hu
    rfl
  · refine h v' w' ?_ ((Only.refl _ w).grown hG (fun k hk => .inr hk))
    unfold OwnP
    rw [List.length_append, List.map_append]
    exact hO
theorem made_zero (k i : Nat) (hi : i < k) : (madeCells #[.int .i64 0] k)[i]? = some (.int .i64 0) := by
  rw [← Array.getElem?_toList, toList_madeCells_one, List.getElem?_replicate, if_pos hi]
end Go.Proofs.Ytkmkeleifkkbnaa
