import Derived.Test.YtaeninikaalkjaaGreatH16
set_option linter.unusedVariables false
set_option linter.unusedSimpArgs false
namespace Go.Proofs.YtaeninikaalkjaaGreat
structure QS where
  tail : Int
  nx : Nat → Int
  bl : Nat → Int
  ph : Nat → Nat
  pr : Nat → Int
structure QInv (k m : Nat) (q : Nat → Nat) (s : QS) : Prop where
  nd : ∀ i j, i < m → j < m → q i = q j → i = j
  lt : ∀ i, i < m → q i < k
  tl : s.tail = if m = 0 then 0 else ((q (m - 1) : Nat) : Int) + 1
  inq : ∀ i, i < m → s.ph (q i) ≠ 0
  out : ∀ t, t < k → s.ph t ≠ 0 → ∃ j, j < m ∧ q j = t
  hd : 0 < m → s.ph (q 0) = 5 ∨ (s.ph (q 0) = 4 ∧ s.bl (q 0) = 0)
  pair : ∀ j, j + 1 < m → s.bl (q (j + 1)) = 1 ∧ ((s.ph (q (j + 1)) = 3 ∧ s.pr (q (j + 1)) = ((q j : Nat) : Int) + 1 ∧ s.nx (q j) = 0) ∨ (s.ph (q (j + 1)) = 4 ∧ s.nx (q j) = ((q (j + 1) : Nat) : Int) + 1))
  last : 0 < m → s.nx (q (m - 1)) = 0
section
variable {k m t : Nat} {q : Nat → Nat} {s : QS}
theorem QInv.first (h : QInv k m q s) (ht : t < k) (h5 : s.ph t = 5) : 0 < m ∧ q 0 = t := by
  obtain ⟨j, hj, e⟩ := h.out t ht (by omega)
  cases j with
  | zero => exact ⟨hj, e⟩
  | succ j =>
    have := (h.pair j hj).2
    rw [e, h5] at this
    omega
theorem QInv.free (h : QInv k m q s) (ht : t < k) (h4 : s.ph t = 4) (hb : s.bl t = 0) : 0 < m ∧ q 0 = t := by
  obtain ⟨j, hj, e⟩ := h.out t ht (by omega)
  cases j with
  | zero => exact ⟨hj, e⟩
  | succ j =>
    have := (h.pair j hj).1
    rw [e, hb] at this
    omega
theorem QInv.own (h : QInv k m q s) (ht : t < k) (h0 : s.ph t = 0) (x y : Int) : QInv k m q { s with nx := upd s.nx t x, bl := upd s.bl t y } := by
  have far : ∀ i, i < m → q i ≠ t := fun i hi e => h.inq i hi (by rw [e]; exact h0)
  refine ⟨h.nd, h.lt, h.tl, h.inq, h.out, fun hm => ?_, fun j hj => ?_, fun hm => ?_⟩
  · show _ ∨ (_ ∧ upd s.bl t y (q 0) = 0)
    rw [upd_other _ _ (far 0 hm)]; exact h.hd hm
  · show upd s.bl t y (q (j + 1)) = 1 ∧ ((_ ∧ _ ∧ upd s.nx t x (q j) = 0) ∨ (_ ∧ upd s.nx t x (q j) = _))
    rw [upd_other _ _ (far _ hj), upd_other _ _ (far j (by omega))]; exact h.pair j hj
  · show upd s.nx t x (q (m - 1)) = 0
    rw [upd_other _ _ (far _ (by omega))]; exact h.last hm
theorem QInv.enter (h : QInv k m q s) (ht : t < k) (h4 : s.ph t = 4) (hb : s.bl t = 0) : 0 < m ∧ q 0 = t ∧ QInv k m q { s with ph := upd s.ph t 5 } := by
  obtain ⟨hm, e⟩ := h.free ht h4 hb
  have far : ∀ j, j + 1 < m → q (j + 1) ≠ t := fun j hj e2 => by have := h.nd 0 (j + 1) hm hj (by rw [e, e2]); omega
  refine ⟨hm, e, h.nd, h.lt, h.tl, fun i hi => ?_, fun u hu h1 => ?_, fun _ => .inl ?_, fun j hj => ?_, h.last⟩
  · show upd s.ph t 5 (q i) ≠ 0
    by_cases e2 : q i = t
    · rw [e2, upd_same]; omega
    · rw [upd_other _ _ e2]; exact h.inq i hi
  · have h1' : upd s.ph t 5 u ≠ 0 := h1
    by_cases e2 : u = t
    · exact ⟨0, hm, by rw [e, e2]⟩
    · rw [upd_other _ _ e2] at h1'
      exact h.out u hu h1'
  · show upd s.ph t 5 (q 0) = 5
    rw [e, upd_same]
  · show s.bl (q (j + 1)) = 1 ∧ ((upd s.ph t 5 (q (j + 1)) = 3 ∧ _ ∧ _) ∨ (upd s.ph t 5 (q (j + 1)) = 4 ∧ _))
    rw [upd_other _ _ (far j hj)]
    exact h.pair j hj
end
end Go.Proofs.YtaeninikaalkjaaGreat
set_option linter.unusedVariables false
set_option linter.unusedSimpArgs false
namespace Go.Proofs.YtaeninikaalkjaaGreat
open Go.RowKit
def LS.keepA (r : LS) (v : Int) : LS := { r with a := v }
def LS.noteIf (r : LS) (b : Bool) (what : Int) : LS := if b then r.note what 0 else r
end Go.Proofs.YtaeninikaalkjaaGreat
set_option linter.unusedVariables false
set_option linter.unusedSimpArgs false
namespace Go.Proofs.YtaeninikaalkjaaGreat
open Go.RowKit
def nc (n i : Int) : Int := cellI n 0 i
def bc (n i : Int) : Int := cellI n 1 i
def isZ (v : Int) : Bool := v == 0
def LS.notes (r : LS) (whats : List Int) : LS := whats.foldl (fun r w => r.note w 0) r
end Go.Proofs.YtaeninikaalkjaaGreat
set_option linter.unusedVariables false
set_option linter.unusedSimpArgs false
namespace Go.Proofs.YtaeninikaalkjaaGreat
section
variable {xs : List Int} {c d x y n mode i s : Int} {q : Int → Bool}
theorem own_wait (h1 : wc n i ≠ d) (h2 : pc n i ≠ d) : wordAt (stepI xs n mode i s c q).xs d = wordAt xs d := by
  unfold stepI
  (repeat' split) <;> first | rfl | exact word_far _ h1 | exact word_far _ h2
theorem own_wake {on hit : Bool} (h2 : pc n i ≠ d) : wordAt (wakeI xs n on c i hit).xs d = wordAt xs d := by
  unfold wakeI giveI lookI restI
  (repeat' split) <;> first | rfl | exact word_far _ h2
end
end Go.Proofs.YtaeninikaalkjaaGreat
set_option linter.unusedVariables false
set_option linter.unusedSimpArgs false
namespace Go.Proofs.YtaeninikaalkjaaGreat
end Go.Proofs.YtaeninikaalkjaaGreat
set_option linter.unusedVariables false
set_option linter.unusedSimpArgs false
namespace Go.Proofs.YtaeninikaalkjaaGreat
section
variable {k : Nat} {xs : List Int} {t i : Nat} {mode s c d idx : Int} {q : Int → Bool} {on hit : Bool}
theorem wc_at (hk : k ≤ 64) (hi : i < k) : wc (k : Int) (i : Int) = 8 + 2 * k + i := by unfold wc cellI; rw [if_pos (by omega)]
theorem pc_at (hk : k ≤ 64) (hi : i < k) : pc (k : Int) (i : Int) = 8 + 3 * k + i := by unfold pc cellI; rw [if_pos (by omega)]
theorem there_lk (hl : xs.length = 8 + 4 * k) (h0 : 0 ≤ d) (h1 : d < 8 + 4 * k) : there xs d = true := by unfold there; rw [decide_eq_true_eq, hl]; push_cast; omega
end
section
variable {m : MV} {t : Nat}
end
end Go.Proofs.YtaeninikaalkjaaGreat
