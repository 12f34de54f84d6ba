import Derived.Test.YtkkldcggbekleaaGreatS18
set_option linter.unusedVariables false
set_option linter.unusedSimpArgs false
namespace Go.Proofs.YtkkldcggbekleaaGreat
structure QS where
  tail : Int
  nx : Nat → Int
  bl : Nat → Int
  ph : Nat → Nat
  pr : Nat → Int
structure QInv (k m : Nat) (q : Nat → Nat) (s : QS) : Prop where
  nd : ∀ i j, i < m → j < m → q i = q j → i = j
  lt : ∀ i, i < m → q i < k
  tl : s.tail = if m = 0 then 0 else ((q (m - 1) : Nat) : Int) + 1
  inq : ∀ i, i < m → s.ph (q i) ≠ 0
  out : ∀ t, t < k → s.ph t ≠ 0 → ∃ j, j < m ∧ q j = t
  hd : 0 < m → s.ph (q 0) = 5 ∨ (s.ph (q 0) = 4 ∧ s.bl (q 0) = 0)
  pair : ∀ j, j + 1 < m → s.bl (q (j + 1)) = 1 ∧ ((s.ph (q (j + 1)) = 3 ∧ s.pr (q (j + 1)) = ((q j : Nat) : Int) + 1 ∧ s.nx (q j) = 0) ∨ (s.ph (q (j + 1)) = 4 ∧ s.nx (q j) = ((q (j + 1) : Nat) : Int) + 1))
  last : 0 < m → s.nx (q (m - 1)) = 0
section
variable {k m t : Nat} {q : Nat → Nat} {s : QS}
theorem QInv.first (h : QInv k m q s) (ht : t < k) (h5 : s.ph t = 5) : 0 < m ∧ q 0 = t := by
  obtain ⟨j, hj, e⟩ := h.out t ht (by omega)
  cases j with
  | zero => exact ⟨hj, e⟩
  | succ j =>
    have := (h.pair j hj).2
    rw [e, h5] at this
    omega
theorem QInv.free (h : QInv k m q s) (ht : t < k) (h4 : s.ph t = 4) (hb : s.bl t = 0) : 0 < m ∧ q 0 = t := by
  obtain ⟨j, hj, e⟩ := h.out t ht (by omega)
  cases j with
  | zero => exact ⟨hj, e⟩
  | succ j =>
    have := (h.pair j hj).1
    rw [e, hb] at this
    omega
theorem QInv.own (h : QInv k m q s) (ht : t < k) (h0 : s.ph t = 0) (x y : Int) : QInv k m q { s with nx := upd s.nx t x, bl := upd s.bl t y } := by
  have far : ∀ i, i < m → q i ≠ t := fun i hi e => h.inq i hi (by rw [e]; exact h0)
  refine ⟨h.nd, h.lt, h.tl, h.inq, h.out, fun hm => ?_, fun j hj => ?_, fun hm => ?_⟩
  · show _ ∨ (_ ∧ upd s.bl t y (q 0) = 0)
    rw [upd_other _ _ (far 0 hm)]; exact h.hd hm
  · show upd s.bl t y (q (j + 1)) = 1 ∧ ((_ ∧ _ ∧ upd s.nx t x (q j) = 0) ∨ (_ ∧ upd s.nx t x (q j) = _))
    rw [upd_other _ _ (far _ hj), upd_other _ _ (far j (by omega))]; exact h.pair j hj
  · show upd s.nx t x (q (m - 1)) = 0
    rw [upd_other _ _ (far _ (by omega))]; exact h.last hm
theorem QInv.link (h : QInv k m q s) (ht : t < k) (h3 : s.ph t = 3) : ∃ p, p < k ∧ p ≠ t ∧ s.nx p = 0 ∧ s.ph p ≠ 0 ∧ s.pr t = (p : Int) + 1 ∧ (0 < m ∧ q 0 ≠ t) ∧ QInv k m q { s with nx := upd s.nx p ((t : Int) + 1), ph := upd s.ph t 4 } := by
  obtain ⟨j, hj, e⟩ := h.out t ht (by omega)
  cases j with
  | zero =>
    have := h.hd hj
    rw [e, h3] at this
    omega
  | succ j =>
    obtain ⟨hb, hp⟩ := h.pair j hj
    have hp' : s.pr t = ((q j : Nat) : Int) + 1 ∧ s.nx (q j) = 0 := by
      rcases hp with ⟨_, hp⟩ | ⟨hp, _⟩
      · rwa [e] at hp
      · rw [e, h3] at hp; omega
    refine ⟨q j, h.lt j (by omega), fun e3 => (by have := h.nd j (j + 1) (by omega) hj (by rw [e3, e]); omega), hp'.2, h.inq j (by omega), hp'.1, ⟨by omega, fun e3 => (by have := h.nd 0 (j + 1) (by omega) hj (by rw [e3, e]); omega)⟩, h.nd, h.lt, h.tl, fun i hi => ?_, fun u hu h1 => ?_, fun hm => ?_, fun i hi => ?_, fun hm => ?_⟩
    · show upd s.ph t 4 (q i) ≠ 0
      by_cases e2 : q i = t
      · rw [e2, upd_same]; omega
      · rw [upd_other _ _ e2]; exact h.inq i hi
    · have h1' : upd s.ph t 4 u ≠ 0 := h1
      by_cases e2 : u = t
      · exact ⟨j + 1, hj, by rw [e, e2]⟩
      · rw [upd_other _ _ e2] at h1'
        exact h.out u hu h1'
    · show upd s.ph t 4 (q 0) = 5 ∨ (upd s.ph t 4 (q 0) = 4 ∧ s.bl (q 0) = 0)
      have : q 0 ≠ t := fun e2 => by have := h.nd 0 (j + 1) hm hj (by rw [e2, e]); omega
      rw [upd_other _ _ this]; exact h.hd hm
    · show s.bl (q (i + 1)) = 1 ∧ ((upd s.ph t 4 (q (i + 1)) = 3 ∧ s.pr (q (i + 1)) = ((q i : Nat) : Int) + 1 ∧ upd s.nx (q j) ((t : Int) + 1) (q i) = 0) ∨ (upd s.ph t 4 (q (i + 1)) = 4 ∧ upd s.nx (q j) ((t : Int) + 1) (q i) = ((q (i + 1) : Nat) : Int) + 1))
      by_cases e2 : i = j
      · subst e2
        rw [e, upd_same, upd_same]
        rw [e] at hb
        exact ⟨hb, .inr ⟨rfl, rfl⟩⟩
      · have n1 : q (i + 1) ≠ t := fun e3 => by have := h.nd (i + 1) (j + 1) hi hj (by rw [e3, e]); omega
        have n2 : q i ≠ q j := fun e3 => by have := h.nd i j (by omega) (by omega) e3; omega
        rw [upd_other _ _ n1, upd_other _ _ n2]
        exact h.pair i hi
    · show upd s.nx (q j) ((t : Int) + 1) (q (m - 1)) = 0
      have n2 : q (m - 1) ≠ q j := fun e3 => by have := h.nd (m - 1) j (by omega) (by omega) e3; omega
      rw [upd_other _ _ n2]; exact h.last hm
theorem QInv.enter (h : QInv k m q s) (ht : t < k) (h4 : s.ph t = 4) (hb : s.bl t = 0) : 0 < m ∧ q 0 = t ∧ QInv k m q { s with ph := upd s.ph t 5 } := by
  obtain ⟨hm, e⟩ := h.free ht h4 hb
  have far : ∀ j, j + 1 < m → q (j + 1) ≠ t := fun j hj e2 => by have := h.nd 0 (j + 1) hm hj (by rw [e, e2]); omega
  refine ⟨hm, e, h.nd, h.lt, h.tl, fun i hi => ?_, fun u hu h1 => ?_, fun _ => .inl ?_, fun j hj => ?_, h.last⟩
  · show upd s.ph t 5 (q i) ≠ 0
    by_cases e2 : q i = t
    · rw [e2, upd_same]; omega
    · rw [upd_other _ _ e2]; exact h.inq i hi
  · have h1' : upd s.ph t 5 u ≠ 0 := h1
    by_cases e2 : u = t
    · exact ⟨0, hm, by rw [e, e2]⟩
    · rw [upd_other _ _ e2] at h1'
      exact h.out u hu h1'
  · show upd s.ph t 5 (q 0) = 5
    rw [e, upd_same]
  · show s.bl (q (j + 1)) = 1 ∧ ((upd s.ph t 5 (q (j + 1)) = 3 ∧ _ ∧ _) ∨ (upd s.ph t 5 (q (j + 1)) = 4 ∧ _))
    rw [upd_other _ _ (far j hj)]
    exact h.pair j hj
theorem QInv.empty (h : QInv k m q s) (ht : t < k) (h5 : s.ph t = 5) (hz : s.tail = (t : Int) + 1) : m = 1 ∧ QInv k 0 q { s with tail := 0, ph := upd s.ph t 0 } := by
  obtain ⟨hm, e⟩ := h.first ht h5
  have h1 : m = 1 := by
    have := h.tl
    rw [if_neg (by omega), hz] at this
    have := h.nd (m - 1) 0 (by omega) hm (by rw [e]; omega)
    omega
  subst h1
  refine ⟨rfl, fun i j hi => by omega, fun i hi => by omega, rfl, fun i hi => by omega, fun u hu h1 => ?_, fun hm => by omega, fun j hj => by omega, fun hm => by omega⟩
  exfalso
  have h1' : upd s.ph t 0 u ≠ 0 := h1
  by_cases e2 : u = t
  · rw [e2, upd_same] at h1'; exact h1' rfl
  · rw [upd_other _ _ e2] at h1'
    obtain ⟨j, hj, e3⟩ := h.out u hu h1'
    have : j = 0 := by omega
    rw [this, e] at e3
    exact e2 e3.symm
end
end Go.Proofs.YtkkldcggbekleaaGreat
set_option linter.unusedVariables false
set_option linter.unusedSimpArgs false
namespace Go.Proofs.YtkkldcggbekleaaGreat
open Go.RowKit
def LS.keepA (r : LS) (v : Int) : LS := { r with a := v }
def LS.noteIf (r : LS) (b : Bool) (what : Int) : LS := if b then r.note what 0 else r
end Go.Proofs.YtkkldcggbekleaaGreat
set_option linter.unusedVariables false
set_option linter.unusedSimpArgs false
namespace Go.Proofs.YtkkldcggbekleaaGreat
open Go.RowKit
def nc (n i : Int) : Int := cellI n 0 i
def bc (n i : Int) : Int := cellI n 1 i
def LS.me (r : LS) : Int := (r.task + 1) % 4294967296
def isZ (v : Int) : Bool := v == 0
def isN (v : Int) : Bool := v != 0
def LS.notes (r : LS) (whats : List Int) : LS := whats.foldl (fun r w => r.note w 0) r
def LS.link (r : LS) : LS := (((r.doA 2 (nc r.n (r.a - 1)) r.me 0).wake (nc r.n (r.a - 1))).go 4)
def LS.swapIn (r : LS) (tail cl : Int) : LS := ((r.doA 4 tail r.me 0).keepA (wordAt r.xs tail)).note 2 cl
def LS.mxEnter (r : LS) (tail cl : Int) : LS × Bool :=
  if r.line = 0 then ((r.doA 2 (nc r.n r.task) 0 0).go 1, false)
  else if r.line = 1 then ((r.doA 2 (bc r.n r.task) 1 0).go 2, false)
  else if r.line = 2 then (if wordAt r.xs tail = 0 then (r.swapIn tail cl, true) else ((r.swapIn tail cl).go 3, false))
  else if r.line = 3 then (r.link, false)
  else if r.line = 4 then (r.wait (bc r.n r.task) isZ, (r.stepR (bc r.n r.task) isZ).done)
  else (r, false)
def LS.seeN (r : LS) : LS := if (r.stepR (nc r.n r.task) isN).seen then (r.wait (nc r.n r.task) isN).keepA (wordAt r.xs (nc r.n r.task)) else r.wait (nc r.n r.task) isN
def LS.handOn (r : LS) (whats : List Int) : LS := ((r.doA 2 (bc r.n (r.a - 1)) 0 0).notes whats).wake (bc r.n (r.a - 1))
def LS.peek (r : LS) : LS := (r.doA 1 (nc r.n r.task) 0 0).keepA (wordAt r.xs (nc r.n r.task))
def LS.casOut (r : LS) (tail : Int) : Bool := there r.xs tail && (wordAt r.xs tail == r.me)
def LS.mxGive (r : LS) (tail a : Int) (whats : List Int) : LS × Bool :=
  if r.line = a then (if wordAt r.xs (nc r.n r.task) = 0 then r.peek.go (a + 1) else r.peek.go (a + 3), false)
  else if r.line = a + 1 then (if r.casOut tail then ((r.doA 5 tail r.me 0).notes whats, true) else ((r.doA 5 tail r.me 0).go (a + 2), false))
  else if r.line = a + 2 then (if (r.stepR (nc r.n r.task) isN).done then r.seeN.go (a + 3) else r.seeN, false)
  else if r.line = a + 3 then (r.handOn whats, true)
  else (r, false)
def LS.mxTry (r : LS) (tail a : Int) : LS × Bool × Bool :=
  if r.line = a then ((r.doA 2 (nc r.n r.task) 0 0).go (a + 1), false, false)
  else if r.line = a + 1 then (r.doA 5 tail 0 r.me, true, there r.xs tail && (wordAt r.xs tail == 0))
  else (r, false, false)
end Go.Proofs.YtkkldcggbekleaaGreat
set_option linter.unusedVariables false
set_option linter.unusedSimpArgs false
namespace Go.Proofs.YtkkldcggbekleaaGreat
section
variable {xs : List Int} {c d x y n mode i s : Int} {q : Int → Bool}
theorem own_wait (h1 : wc n i ≠ d) (h2 : pc n i ≠ d) : wordAt (stepI xs n mode i s c q).xs d = wordAt xs d := by
  unfold stepI
  (repeat' split) <;> first | rfl | exact word_far _ h1 | exact word_far _ h2
theorem own_wake {on hit : Bool} (h2 : pc n i ≠ d) : wordAt (wakeI xs n on c i hit).xs d = wordAt xs d := by
  unfold wakeI giveI lookI restI
  (repeat' split) <;> first | rfl | exact word_far _ h2
end
end Go.Proofs.YtkkldcggbekleaaGreat
set_option linter.unusedVariables false
set_option linter.unusedSimpArgs false
namespace Go.Proofs.YtkkldcggbekleaaGreat
def sumN (f : Nat → Nat) : Nat → Nat
  | 0 => 0
  | k + 1 => sumN f k + f k
theorem sumN_at {f : Nat → Nat} {i : Nat} : ∀ {k : Nat}, i < k → f i ≤ sumN f k
  | 0, h => absurd h (Nat.not_lt_zero _)
  | k + 1, h => by
    show f i ≤ sumN f k + f k
    by_cases e : i = k
    · subst e; omega
    · have := sumN_at (f := f) (i := i) (k := k) (by omega); omega
end Go.Proofs.YtkkldcggbekleaaGreat
set_option linter.unusedVariables false
set_option linter.unusedSimpArgs false
namespace Go.Proofs.YtkkldcggbekleaaGreat
def LS.finH (h : Int) (r : LS) : Int := if r.over then behindI r.op r.ret h else h
def LS.finR (r : LS) : LS := if r.over then zeroF r 0 else r
section
variable {k : Nat} {xs : List Int} {t i : Nat} {mode s c d idx : Int} {q : Int → Bool} {on hit : Bool}
theorem wc_at (hk : k ≤ 64) (hi : i < k) : wc (k : Int) (i : Int) = 8 + 2 * k + i := by unfold wc cellI; rw [if_pos (by omega)]
theorem pc_at (hk : k ≤ 64) (hi : i < k) : pc (k : Int) (i : Int) = 8 + 3 * k + i := by unfold pc cellI; rw [if_pos (by omega)]
theorem there_lk (hl : xs.length = 8 + 4 * k) (h0 : 0 ≤ d) (h1 : d < 8 + 4 * k) : there xs d = true := by unfold there; rw [decide_eq_true_eq, hl]; push_cast; omega
end
section
variable {m : MV} {t : Nat}
end
end Go.Proofs.YtkkldcggbekleaaGreat
