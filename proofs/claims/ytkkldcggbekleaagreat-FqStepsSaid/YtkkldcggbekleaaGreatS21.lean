import Derived.Test.YtkkldcggbekleaaGreatS19
import Derived.Test.YtkkldcggbekleaaGreatS20
set_option linter.unusedVariables false
set_option linter.unusedSimpArgs false
namespace Go.Proofs.YtkkldcggbekleaaGreat
abbrev WtG := Int → Int → Int → Int → Int → Int → Option (Int × (Int → Bool))
abbrev wtR (wt : WtG) (r : LS) : Option (Int × (Int → Bool)) := wt r.n r.task r.op r.line r.a r.b
structure WaitLn (wt : WtG) (r r' : LS) (c : Int) (q : Int → Bool) : Prop where
  xs : r'.xs = (r.stepR c q).xs
  s : r'.s = (r.stepR c q).next
  k : r'.k = r.k
  b : r'.b = r.b
  a : (r.stepR c q).seen = false → r'.a = r.a
  stay : (r.stepR c q).done = false → r'.line = r.line ∧ r'.ret = r.ret ∧ wtR wt r' = wtR wt r
structure LinesQ (L : LS → LS) (wt : WtG) : Prop where
  cB : ∀ (r : LS) c q, wtR wt r = some (c, q) → r.n ≤ 64 → 0 ≤ r.task → r.task < r.n → 0 ≤ c ∧ c < 8 + 2 * r.n
  op0 : ∀ r : LS, r.op = 0 → wtR wt r = none
  line0 : ∀ r : LS, r.line = 0 → wtR wt r = none
  same : ∀ r : LS, (L r).n = r.n ∧ (L r).mode = r.mode ∧ (L r).task = r.task ∧ (L r).op = r.op ∧ (L r).xs.length = r.xs.length
  wait : ∀ (r : LS) c q, r.k.on = false → wtR wt r = some (c, q) → WaitLn wt r (L r) c q
structure GenQ (wt : WtG) (k : Nat) (mode : Int) (m : MV) : Prop where
  len : m.xs.length = 8 + 4 * k
  cst : ∀ i, i < k → (m.rs i).n = k ∧ (m.rs i).mode = mode ∧ (m.rs i).task = i
  sr : ∀ i, i < k → (m.rs i).s = 0 ∨ (m.rs i).s = 1 ∨ (m.rs i).s = 2 ∨ (m.rs i).s = 3 ∨ (m.rs i).s = 4
  sp : ∀ i, i < k → mode ≠ 2 → (m.rs i).s = 0
  sw : ∀ i, i < k → (m.rs i).s ≠ 0 → (∃ c q, wtR wt (m.rs i) = some (c, q)) ∧ (m.rs i).k.on = false
  wat : ∀ i, i < k → ((m.rs i).s = 0 ∨ (m.rs i).s = 1 → wordAt m.xs (wc k i) = 0) ∧ ((m.rs i).s = 2 ∨ (m.rs i).s = 3 ∨ (m.rs i).s = 4 → ∀ c q, wtR wt (m.rs i) = some (c, q) → wordAt m.xs (wc k i) = c + 1)
  kon : ∀ i, i < k → (m.rs i).k.on = true → 0 ≤ (m.rs i).k.i ∧ (m.rs i).k.i < k
  rt : ∀ i, i < k → (m.rs i).k.on = false → (m.rs i).ret = 0
  idle : ∀ i, i < k → (m.rs i).op = 0 → (m.rs i).k.on = false
  nl : ∀ i, i < k → ∀ c q, wtR wt (m.rs i) = some (c, q) → (m.rs i).s = 3 → hasP m.xs k i = false → q (wordAt m.xs c) = true → ∃ j, j < k ∧ (m.rs j).k.on = true ∧ (m.rs j).k.c = c ∧ (m.rs j).k.i ≤ i
section
variable {L : LS → LS} {wt : WtG} {k : Nat} {mode : Int} {m : MV} {t : Nat}
theorem GenQ.cell (h : GenQ wt k mode m) (hL : LinesQ L wt) (hk : k ≤ 64) {i : Nat} (hi : i < k) {c : Int} {q : Int → Bool} (hw : wtR wt (m.rs i) = some (c, q)) : 0 ≤ c ∧ c < 8 + 2 * k := by
  obtain ⟨c1, c2, c3⟩ := h.cst i hi
  have := hL.cB (m.rs i) c q hw (by omega) (by omega) (by omega)
  rwa [c1] at this
theorem GenQ.start (hL : LinesQ L wt) (h : GenQ wt k mode m) (ht : t < k) (h0 : (m.rs t).op = 0) (op : Int) : GenQ wt k mode (m.start t op) := by
  have hon := h.idle t ht h0
  have hs0 : (m.rs t).s = 0 := by
    by_cases e : (m.rs t).s = 0
    · exact e
    · obtain ⟨⟨c, q, hw⟩, _⟩ := h.sw t ht e
      rw [hL.op0 _ h0] at hw; cases hw
  have hxs : (m.start t op).xs = m.xs := rfl
  have hrs : (m.start t op).rs = upd m.rs t (zeroF (m.at t) op) := rfl
  refine ⟨h.len, fun i hi => ?_, fun i hi => ?_, fun i hi hm => ?_, fun i hi hne => ?_, fun i hi => ?_, fun i hi ho => ?_, fun i hi ho => ?_, fun i hi ho => ?_, fun i hi c q hw hs hp hq => ?_⟩
  all_goals rw [hrs] at *
  all_goals try rw [hxs] at *
  · by_cases e : i = t
    · subst e; rw [upd_same]; exact h.cst i hi
    · rw [upd_other _ _ e]; exact h.cst i hi
  · by_cases e : i = t
    · subst e; rw [upd_same]; exact .inl rfl
    · rw [upd_other _ _ e]; exact h.sr i hi
  · by_cases e : i = t
    · subst e; rw [upd_same]; rfl
    · rw [upd_other _ _ e]; exact h.sp i hi hm
  · by_cases e : i = t
    · subst e; rw [upd_same] at hne; exact absurd rfl hne
    · rw [upd_other _ _ e] at hne ⊢; exact h.sw i hi hne
  · by_cases e : i = t
    · subst e; rw [upd_same]
      exact ⟨fun _ => (h.wat i hi).1 (.inl hs0), fun hh => by rcases hh with hh | hh | hh <;> cases hh⟩
    · rw [upd_other _ _ e]; exact h.wat i hi
  · by_cases e : i = t
    · subst e; rw [upd_same] at ho; cases ho
    · rw [upd_other _ _ e] at ho ⊢; exact h.kon i hi ho
  · by_cases e : i = t
    · subst e; rw [upd_same]; rfl
    · rw [upd_other _ _ e] at ho ⊢; exact h.rt i hi ho
  · by_cases e : i = t
    · subst e; rw [upd_same]; rfl
    · rw [upd_other _ _ e] at ho ⊢; exact h.idle i hi ho
  · have far : ∀ j, j < k → (m.rs j).k.on = true → j ≠ t := fun j _ ho e => by subst e; rw [hon] at ho; cases ho
    by_cases e : i = t
    · subst e; rw [upd_same] at hs; cases hs
    · rw [upd_other _ _ e] at hw hs
      obtain ⟨j, hj, h1, h2, h3⟩ := h.nl i hi c q hw hs hp hq
      exact ⟨j, hj, by rw [upd_other _ _ (far j hj h1)]; exact ⟨h1, h2, h3⟩⟩
end
end Go.Proofs.YtkkldcggbekleaaGreat
set_option linter.unusedVariables false
set_option linter.unusedSimpArgs false
namespace Go.Proofs.YtkkldcggbekleaaGreat
section
variable {L : LS → LS} {wt : WtG} {k : Nat} {mode : Int} {m : MV} {t : Nat}
end
end Go.Proofs.YtkkldcggbekleaaGreat
set_option linter.unusedVariables false
set_option linter.unusedSimpArgs false
namespace Go.Proofs.YtkkldcggbekleaaGreat
inductive GiveK : Int → Int → Int → Bool → List Int → Nat → Prop
  | r1 : GiveK 0 1 6 true [4] 1
  | r5 : GiveK 0 5 6 true [4] 1
  | u4 : GiveK 0 4 0 true [7, 8] 0
  | l6 : GiveK 0 6 6 false [8] 0
  | t7 : GiveK 1 7 6 false [8] 1
  | d8 : GiveK 1 8 1 true [10] 1
inductive FT (h op line ret : Int) (on : Bool) (qp c : Nat) : Prop
  | idle0 (ho : op = 0) (hr : ret = 0) (hh : h = 0) (hq : qp = 0) (hc : c = 0)
  | idle1 (ho : op = 0) (hr : ret = 0) (hh : h = 1) (hq : qp = 0) (hc : c = 1)
  | idle2 (ho : op = 0) (hr : ret = 0) (hh : h = 2) (hq : qp = 6) (hc : c = 0)
  | ent (j : Nat) (ho : op = 1 ∨ op = 3) (hj : j < 5) (hl : line = j) (hr : ret = 0) (hh : h = 0) (hq : qp = j + 1) (hc : c = 0)
  | tr (j : Nat) (ho : op = 5 ∨ op = 6) (hj : j < 2) (hl : line = j) (hr : ret = 0) (hh : h = 0) (hq : qp = j + 11) (hc : c = 0)
  | tr7 (j : Nat) (ho : op = 7) (hj : j < 2) (hl : line = j) (hr : ret = 0) (hh : h = 1) (hq : qp = j + 11) (hc : c = 1)
  | cnt (ho : op = 1 ∨ op = 5) (hl : line = 5) (hr : ret = 0) (hh : h = 0) (hq : qp = 6) (hc : c = 0)
  | wait (ho : op = 3) (hl : line = 5) (hr : ret = 0) (hh : h = 0) (hq : qp = 6) (hc : c = 0)
  | rel (ho : op = 2) (hl : line = 0) (hr : ret = 0) (hh : h = 0) (hq : qp = 0) (hc : c = 1)
  | we6 (ho : op = 6) (hl : line = 2) (hr : ret = 0) (hh : h = 0) (hq : qp = 6) (hc : c = 0)
  | we7 (ho : op = 7) (hl : line = 2) (hr : ret = 0) (hh : h = 1) (hq : qp = 6) (hc : c = 1)
  | up (ho : op = 7) (hl : line = 3) (hr : ret = 0) (hh : h = 1) (hq : qp = 6) (hc : c = 1)
  | down (ho : op = 8) (hl : line = 0) (hr : ret = 0) (hh : h = 1) (hq : qp = 6) (hc : c = 0)
  | give (j : Nat) (a : Int) (ok : Bool) (w : List Int) (hg : GiveK h op a ok w c) (hj : j < 4) (hl : line = a + j) (hr : ret = 0) (hq : qp = j + 7)
  | gave (a : Int) (ok : Bool) (w : List Int) (hg : GiveK h op a ok w c) (hr : ret = if ok then 2 else 1) (hon : on = true) (hq : qp = 0)
  | reld (ho : op = 2) (hr : ret = 2) (hh : h = 0) (hon : on = true) (hq : qp = 0) (hc : c = 0)
theorem GiveK.c1 {h op a : Int} {ok : Bool} {w : List Int} {c : Nat} (g : GiveK h op a ok w c) : c ≤ 1 := by cases g <;> omega
theorem GiveK.h1 {h op a : Int} {ok : Bool} {w : List Int} {c : Nat} (g : GiveK h op a ok w c) : h = 0 ∨ (h = 1 ∧ c = 1) := by cases g <;> omega
theorem FT.c1 {h op line ret : Int} {on : Bool} {qp c : Nat} (f : FT h op line ret on qp c) : c ≤ 1 := by
  cases f with
  | give j a ok w hg => exact hg.c1
  | gave a ok w hg => exact hg.c1
  | _ => omega
theorem FT.holds {h op line ret : Int} {on : Bool} {qp c : Nat} (f : FT h op line ret on qp c) : h = 0 ∨ (h = 1 ∧ (c = 1 ∨ qp = 6)) ∨ (h = 2 ∧ qp = 6 ∧ op = 0) := by
  cases f with
  | give j a ok w hg => have := hg.h1; omega
  | gave a ok w hg => have := hg.h1; omega
  | _ => omega
theorem FT.wait6 {h op line ret : Int} {on : Bool} {qp c : Nat} (f : FT h op line ret on qp c) (h3 : op = 3) (hl : line = 5) : qp = 6 := by
  cases f with
  | give j a ok w hg => cases hg <;> omega
  | gave a ok w hg => cases hg <;> omega
  | _ => omega
theorem FT.up6 {h op line ret : Int} {on : Bool} {qp c : Nat} (f : FT h op line ret on qp c) (h7 : op = 7) (hl : line = 3) (hr : ret = 0) : qp = 6 ∧ c = 1 := by
  cases f with
  | give j a ok w hg => cases hg <;> omega
  | gave a ok w hg => cases hg <;> (revert hr; simp_all)
  | _ => omega
structure FqI (k : Nat) (s : QS) (qp c : Nat → Nat) (m : MV) : Prop where
  q : QOK k s
  w : WordsT 0 k m.xs s
  f : ∀ i, i < k → FT (m.hold i) (m.rs i).op (m.rs i).line (m.rs i).ret (m.rs i).k.on (qp i) (c i)
  t : ∀ i, i < k → TQ s i (qp i) (m.rs i).a (m.rs i).s
  n : wordAt m.xs 1 = (sumN c k : Nat)
  z : ∀ i, i < k → (m.hold i = 2 ∨ ((m.rs i).op = 3 ∧ (m.rs i).line = 5 ∧ (m.rs i).s = 4)) → sumN c k = 0
  o : ∀ i, i < k → (m.rs i).op = 7 → (m.rs i).line = 3 → (m.rs i).ret = 0 → sumN c k = 1
section
variable {k t : Nat} {mode : Int} {s : QS} {qp c : Nat → Nat} {m : MV}
theorem TQ.six {s : QS} {i : Nat} {a st : Int} {p : Nat} (h : TQ s i p a st) (hp : p = 6) : s.ph i = 5 := by
  subst hp
  cases h with
  | own hp => exact hp
theorem FqI.one (h : FqI k s qp c m) {i j : Nat} (hi : i < k) (hj : j < k) (h1 : qp i = 6) (h2 : qp j = 6) : i = j := h.q.one hi hj ((h.t i hi).six h1) ((h.t j hj).six h2)
theorem sumN_two {f : Nat → Nat} {i j : Nat} : ∀ {k : Nat}, i < k → j < k → i ≠ j → f i + f j ≤ sumN f k := by
  intro k
  induction k with
  | zero => intro h; omega
  | succ k ih =>
    intro hi hj hn
    show _ ≤ sumN f k + f k
    by_cases e1 : i = k
    · have := sumN_at (f := f) (i := j) (k := k) (by omega)
      rw [e1]; omega
    · by_cases e2 : j = k
      · have := sumN_at (f := f) (i := i) (k := k) (by omega)
        rw [e2]; omega
      · have := ih (by omega) (by omega) hn
        omega
theorem FqI.alone (h : FqI k s qp c m) (ht : t < k) (h2 : m.hold t = 2) (i : Nat) (hi : i < k) (hne : i ≠ t) : m.hold i = 0 := by
  have ft := (h.f t ht).holds
  have fi := (h.f i hi).holds
  have hz := h.z t ht (.inl h2)
  have hc := sumN_at (f := c) hi
  have hq : qp t = 6 := by omega
  have : qp i ≠ 6 := fun e => hne (h.one hi ht e hq)
  omega
theorem FqI.set1 (h : FqI k s qp c m) (ht : t < k) {s' : QS} {R : LS} {hv : Int} {qp' c' : Nat} {xs' : List Int} {K : WkV} (hq : QOK k s') (hw : WordsT 0 k xs' s') (hoth : OthQ mode k t s s' K)
    (hf : FT hv R.op R.line R.ret R.k.on qp' c') (htq : TQ s' t qp' R.a R.s) (hn : wordAt xs' 1 = (sumN (upd c t c') k : Nat))
    (hz : (hv = 2 ∨ (R.op = 3 ∧ R.line = 5 ∧ R.s = 4)) → sumN (upd c t c') k = 0) (ho : R.op = 7 → R.line = 3 → R.ret = 0 → sumN (upd c t c') k = 1)
    (hmv : c' = c t ∨ qp t = 6 ∨ (c t = 1 ∧ c' = 0)) : FqI k s' (upd qp t qp') (upd c t c') ⟨upd m.rs t R, upd m.hold t hv, xs'⟩ := by
  have hsame : c' = c t → upd c t c' = c := fun e => by rw [e, updq_self]
  refine ⟨hq, hw, fun i hi => ?_, fun i hi => ?_, hn, fun i hi hh => ?_, fun i hi h7 hl hr => ?_⟩
  · dsimp only
    by_cases e : i = t
    · subst e; simp only [upd_same]; exact hf
    · simp only [upd_other _ _ e]; exact h.f i hi
  · dsimp only
    by_cases e : i = t
    · subst e; simp only [upd_same]; exact htq
    · simp only [upd_other _ _ e]; exact (h.t i hi).other hoth hi e
  · dsimp only at hh
    by_cases e : i = t
    · subst e; simp only [upd_same] at hh; exact hz hh
    · simp only [upd_other _ _ e] at hh
      have h0 := h.z i hi hh
      have q6 : qp i = 6 := by
        rcases hh with hh | hh
        · have := (h.f i hi).holds; omega
        · exact (h.f i hi).wait6 hh.1 hh.2.1
      rcases hmv with e1 | e1 | ⟨e1, _⟩
      · rw [hsame e1]; exact h0
      · exact absurd (h.one hi ht q6 e1) e
      · have := sumN_at (f := c) ht; omega
  · dsimp only at h7 hl hr
    by_cases e : i = t
    · subst e; simp only [upd_same] at h7 hl hr; exact ho h7 hl hr
    · simp only [upd_other _ _ e] at h7 hl hr
      have h0 := h.o i hi h7 hl hr
      obtain ⟨q6, c6⟩ := (h.f i hi).up6 h7 hl hr
      rcases hmv with e1 | e1 | ⟨e1, _⟩
      · rw [hsame e1]; exact h0
      · exact absurd (h.one hi ht q6 e1) e
      · have := sumN_two (f := c) hi ht e; omega
end
end Go.Proofs.YtkkldcggbekleaaGreat
