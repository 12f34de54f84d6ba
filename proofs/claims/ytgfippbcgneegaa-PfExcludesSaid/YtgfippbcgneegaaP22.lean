import Derived.Test.YtgfippbcgneegaaP21
import Derived.Test.YtgfippbcgneegaaP2
set_option linter.unusedVariables false
set_option linter.unusedSimpArgs false
namespace Go.Proofs.Ytgfippbcgneegaa
inductive Rd | no | waits (saw : Int) | reads
  deriving DecidableEq
inductive Wr | no | waits | turn | comes | writes | left | last
  deriving DecidableEq
def Rd.n : Rd → Nat | .no => 0 | _ => 1
def Wr.n : Wr → Nat | .no => 0 | _ => 1
def Wr.act : Wr → Bool | .no => false | .waits => false | _ => true
def Wr.pres : Wr → Bool | .comes => true | .writes => true | _ => false
theorem Wr.act_n {x : Wr} (h : x.act = true) : x.n = 1 := by cases x <;> first | rfl | cases h
theorem Wr.pres_act {x : Wr} (h : x.pres = true) : x.act = true := by cases x <;> first | rfl | cases h
structure PS where
  rd : Nat → Rd
  wr : Nat → Wr
  tk : Nat → Nat
  I : Nat
  O : Nat
  N : Nat
  T : Nat
  β : Int
  φ : Int
  a : Nat
def old (β : Int) : Rd → Nat | .no => 0 | .waits saw => if saw = β then 0 else 1 | .reads => 1
theorem old_no (β : Int) : old β .no = 0 := rfl
theorem old_w (β v : Int) : old β (.waits v) = if v = β then 0 else 1 := rfl
theorem old_r (β : Int) : old β .reads = 1 := rfl
theorem old_le (β : Int) (x : Rd) : old β x ≤ x.n := by
  cases x
  · exact Nat.le_refl _
  · unfold old Rd.n; dsimp only; split <;> omega
  · exact Nat.le_refl _
structure PInv (k : Nat) (s : PS) : Prop where
  si : s.O + sumN (fun i => (s.rd i).n) k = s.I
  st : s.T + sumN (fun i => (s.wr i).n) k = s.N
  ph : s.φ = 0 ∨ s.φ = 1
  lo : ∀ i, i < k → (s.wr i).n = 1 → s.T ≤ s.tk i ∧ s.tk i < s.N
  ne : ∀ i j, i < k → j < k → (s.wr i).n = 1 → (s.wr j).n = 1 → s.tk i = s.tk j → i = j
  act : ∀ i, i < k → (s.wr i).act = true → s.tk i = s.T
  bits : ∀ i, i < k → (s.wr i).pres = true → s.β = 2 + s.φ ∧ s.O + sumN (fun j => old s.β (s.rd j)) k = s.a
  none : (∀ i, i < k → (s.wr i).pres = false) → s.β = 0
  saw : ∀ i v, i < k → s.rd i = .waits v → v = 2 ∨ v = 3
  next : s.β = 0 → ∀ i v, i < k → s.rd i = .waits v → if ∃ j, j < k ∧ s.wr j = .left then v = 2 + s.φ else v = 3 - s.φ
  alone : ∀ i, i < k → s.wr i = .writes → ∀ j, j < k → j ≠ i → old s.β (s.rd j) = 0
  own : ∀ i v, i < k → (s.wr i).act = true → s.rd i ≠ .waits v
section
variable {k : Nat} {s : PS} {t : Nat}
theorem PInv.acts (h : PInv k s) {i j : Nat} (hi : i < k) (hj : j < k) (gi : (s.wr i).act = true) (gj : (s.wr j).act = true) : i = j :=
  h.ne i j hi hj (Wr.act_n gi) (Wr.act_n gj) ((h.act i hi gi).trans (h.act j hj gj).symm)
theorem PInv.order (h : PInv k s) : s.O ≤ s.I ∧ s.T ≤ s.N := by
  have := h.si
  have := h.st
  omega
theorem PInv.present (h : PInv k s) (hb : s.β ≠ 0) : ∃ i, i < k ∧ (s.wr i).pres = true := by
  by_cases e : ∃ i, i < k ∧ (s.wr i).pres = true
  · exact e
  · exact absurd (h.none fun i hi => by cases e2 : (s.wr i).pres <;> first | rfl | exact absurd ⟨i, hi, e2⟩ e) hb
def PS.setR (s : PS) (t : Nat) (x : Rd) (I O : Nat) : PS := { s with rd := upd s.rd t x, I := I, O := O }
def PS.setW (s : PS) (t : Nat) (y : Wr) (T : Nat) (N T' : Nat) (β φ : Int) (a : Nat) : PS := { s with wr := upd s.wr t y, tk := upd s.tk t T, N := N, T := T', β := β, φ := φ, a := a }
theorem PInv.come (h : PInv k s) (ht : t < k) (hr : s.rd t = .no) (hw : (s.wr t).act = false ∨ s.β = 0) : PInv k (s.setR t (if s.β = 0 then .reads else .waits s.β) (s.I + 1) s.O) := by
  have hn : (if s.β = 0 then Rd.reads else .waits s.β).n = 1 := by split <;> rfl
  have su := sumN_upd (f := fun i => (s.rd i).n) (g := fun i => (upd s.rd t (if s.β = 0 then .reads else .waits s.β) i).n) (t := t) (k := k) ht (fun i _ hi => by simp only [upd_other _ _ hi])
  simp only [upd_same, hr, hn] at su
  have e0 : Rd.no.n = 0 := rfl
  have hsi := h.si
  have keep : ∀ i, i ≠ t → upd s.rd t (if s.β = 0 then .reads else .waits s.β) i = s.rd i := fun i hi => upd_other _ _ hi
  have at_ : upd s.rd t (if s.β = 0 then .reads else .waits s.β) t = if s.β = 0 then .reads else .waits s.β := upd_same _ _ _
  refine ⟨?_, h.st, h.ph, h.lo, h.ne, h.act, fun i hi hp => ?_, h.none, fun i v hi e => ?_, fun hb i v hi e => ?_, fun i hi hw2 j hj hn => ?_, fun i v hi ha => ?_⟩
  · show s.O + sumN (fun i => (upd s.rd t (if s.β = 0 then .reads else .waits s.β) i).n) k = s.I + 1
    omega
  · obtain ⟨b1, b2⟩ := h.bits i hi hp
    refine ⟨b1, ?_⟩
    show s.O + sumN (fun j => old s.β (upd s.rd t (if s.β = 0 then .reads else .waits s.β) j)) k = s.a
    have hb : s.β ≠ 0 := by have := h.ph; omega
    rw [if_neg hb]
    have so := sumN_upd (f := fun i => old s.β (s.rd i)) (g := fun i => old s.β (upd s.rd t (.waits s.β) i)) (t := t) (k := k) ht (fun i _ hi => by simp only [upd_other _ _ hi])
    simp only [upd_same, hr, old_no, old_w, if_true] at so
    show s.O + sumN (fun i => old s.β (upd s.rd t (.waits s.β) i)) k = s.a
    omega
  · by_cases e2 : i = t
    · subst e2
      have e3 : (if s.β = 0 then Rd.reads else .waits s.β) = .waits v := (at_.symm.trans e)
      by_cases hb : s.β = 0
      · rw [if_pos hb] at e3; cases e3
      · rw [if_neg hb] at e3
        obtain ⟨j, hj, hp⟩ := h.present hb
        have := (h.bits j hj hp).1
        have := h.ph
        cases e3
        omega
    · exact h.saw i v hi ((keep i e2).symm.trans e)
  · by_cases e2 : i = t
    · subst e2
      have hb' : s.β = 0 := hb
      have e3 : (if s.β = 0 then Rd.reads else .waits s.β) = .waits v := (at_.symm.trans e)
      rw [if_pos hb'] at e3; cases e3
    · exact h.next hb i v hi ((keep i e2).symm.trans e)
  · show old s.β (upd s.rd t (if s.β = 0 then .reads else .waits s.β) j) = 0
    by_cases e2 : j = t
    · subst e2
      rw [upd_same]
      have hb : s.β ≠ 0 := by
        have := (h.bits i hi (by rw [show s.wr i = .writes from hw2]; rfl)).1
        have := h.ph
        omega
      rw [if_neg hb]
      rw [old_w, if_pos rfl]
    · rw [upd_other _ _ e2]; exact h.alone i hi hw2 j hj hn
  · by_cases e2 : i = t
    · subst e2
      have : (s.wr i).act = true := ha
      show upd s.rd i _ i ≠ _
      rw [upd_same]
      rcases hw with hw | hw
      · rw [hw] at this; cases this
      · rw [if_pos hw]; intro e; cases e
    · show upd s.rd t _ i ≠ _
      rw [upd_other _ _ e2]; exact h.own i v hi ha
theorem PInv.letIn (h : PInv k s) (ht : t < k) {v : Int} (hr : s.rd t = .waits v) (hv : v ≠ s.β) : PInv k (s.setR t .reads s.I s.O) := by
  have su := sumN_upd (f := fun i => (s.rd i).n) (g := fun i => (upd s.rd t .reads i).n) (t := t) (k := k) ht (fun i _ hi => by simp only [upd_other _ _ hi])
  simp only [upd_same, hr] at su
  have e0 : (Rd.waits v).n = 1 := rfl
  have e1 : Rd.reads.n = 1 := rfl
  have so := sumN_upd (f := fun i => old s.β (s.rd i)) (g := fun i => old s.β (upd s.rd t .reads i)) (t := t) (k := k) ht (fun i _ hi => by simp only [upd_other _ _ hi])
  simp only [upd_same, hr] at so
  have o0 : old s.β (.waits v) = 1 := by rw [old_w, if_neg hv]
  have o1 : old s.β .reads = 1 := rfl
  have hsi := h.si
  refine ⟨?_, h.st, h.ph, h.lo, h.ne, h.act, fun i hi hp => ?_, h.none, fun i v hi e => ?_, fun hb i v hi e => ?_, fun i hi hw2 j hj hn => ?_, fun i v hi ha => ?_⟩
  · show s.O + sumN (fun i => (upd s.rd t .reads i).n) k = s.I
    omega
  · obtain ⟨b1, b2⟩ := h.bits i hi hp
    refine ⟨b1, ?_⟩
    show s.O + sumN (fun j => old s.β (upd s.rd t .reads j)) k = s.a
    omega
  · by_cases e2 : i = t
    · subst e2; rw [show (s.setR i .reads s.I s.O).rd i = .reads from upd_same _ _ _] at e; cases e
    · exact h.saw i v hi ((upd_other s.rd .reads e2).symm.trans e)
  · by_cases e2 : i = t
    · subst e2; rw [show (s.setR i .reads s.I s.O).rd i = .reads from upd_same _ _ _] at e; cases e
    · exact h.next hb i v hi ((upd_other s.rd .reads e2).symm.trans e)
  · show old s.β (upd s.rd t .reads j) = 0
    by_cases e2 : j = t
    · subst e2
      have := h.alone i hi hw2 j hj hn
      rw [hr, o0] at this; cases this
    · rw [upd_other _ _ e2]; exact h.alone i hi hw2 j hj hn
  · show upd s.rd t _ i ≠ _
    by_cases e2 : i = t
    · subst e2; rw [upd_same]; intro e; cases e
    · rw [upd_other _ _ e2]; exact h.own i v hi ha
theorem PInv.depart (h : PInv k s) (ht : t < k) (hr : s.rd t = .reads) : PInv k (s.setR t .no s.I (s.O + 1)) := by
  have su := sumN_upd (f := fun i => (s.rd i).n) (g := fun i => (upd s.rd t .no i).n) (t := t) (k := k) ht (fun i _ hi => by simp only [upd_other _ _ hi])
  simp only [upd_same, hr] at su
  have e0 : Rd.reads.n = 1 := rfl
  have e1 : Rd.no.n = 0 := rfl
  have so := sumN_upd (f := fun i => old s.β (s.rd i)) (g := fun i => old s.β (upd s.rd t .no i)) (t := t) (k := k) ht (fun i _ hi => by simp only [upd_other _ _ hi])
  simp only [upd_same, hr] at so
  have o0 : old s.β .reads = 1 := rfl
  have o1 : old s.β .no = 0 := rfl
  have hsi := h.si
  refine ⟨?_, h.st, h.ph, h.lo, h.ne, h.act, fun i hi hp => ?_, h.none, fun i v hi e => ?_, fun hb i v hi e => ?_, fun i hi hw2 j hj hn => ?_, fun i v hi ha => ?_⟩
  · show s.O + 1 + sumN (fun i => (upd s.rd t .no i).n) k = s.I
    omega
  · obtain ⟨b1, b2⟩ := h.bits i hi hp
    refine ⟨b1, ?_⟩
    show s.O + 1 + sumN (fun j => old s.β (upd s.rd t .no j)) k = s.a
    omega
  · by_cases e2 : i = t
    · subst e2; rw [show (s.setR i .no s.I (s.O + 1)).rd i = .no from upd_same _ _ _] at e; cases e
    · exact h.saw i v hi ((upd_other s.rd .no e2).symm.trans e)
  · by_cases e2 : i = t
    · subst e2; rw [show (s.setR i .no s.I (s.O + 1)).rd i = .no from upd_same _ _ _] at e; cases e
    · exact h.next hb i v hi ((upd_other s.rd .no e2).symm.trans e)
  · show old s.β (upd s.rd t .no j) = 0
    by_cases e2 : j = t
    · subst e2; rw [upd_same]; rfl
    · rw [upd_other _ _ e2]; exact h.alone i hi hw2 j hj hn
  · show upd s.rd t _ i ≠ _
    by_cases e2 : i = t
    · subst e2; rw [upd_same]; intro e; cases e
    · rw [upd_other _ _ e2]; exact h.own i v hi ha
theorem PInv.others (h : PInv k s) (ht : t < k) (ha : (s.wr t).act = true) (i : Nat) (hi : i < k) (hn : i ≠ t) : (s.wr i).act = false := by
  cases e : (s.wr i).act
  · rfl
  · exact absurd (h.acts hi ht e ha) hn
theorem pres_of_act {x : Wr} (h : x.act = false) : x.pres = false := by cases x <;> first | rfl | cases h
theorem act_no {x : Wr} (h : x.act = false) : x ≠ .left ∧ x ≠ .writes ∧ x ≠ .comes := by
  refine ⟨?_, ?_, ?_⟩ <;> (intro e; subst e; cases h)
theorem PInv.relabel (h : PInv k s) (ht : t < k) {y : Wr} {β φ : Int} {a : Nat} (hn : (s.wr t).n = 1) (hy : y.n = 1) (hact : y.act = true → s.tk t = s.T) (hown : y.act = true → ∀ v, s.rd t ≠ .waits v) (hph : φ = 0 ∨ φ = 1)
    (hb : ∀ i, i < k → (upd s.wr t y i).pres = true → β = 2 + φ ∧ s.O + sumN (fun j => old β (s.rd j)) k = a) (hnone : (∀ i, i < k → (upd s.wr t y i).pres = false) → β = 0)
    (hnext : β = 0 → ∀ i v, i < k → s.rd i = .waits v → if ∃ j, j < k ∧ upd s.wr t y j = .left then v = 2 + φ else v = 3 - φ) (halone : ∀ i, i < k → upd s.wr t y i = .writes → ∀ j, j < k → j ≠ i → old β (s.rd j) = 0) :
    PInv k (s.setW t y (s.tk t) s.N s.T β φ a) := by
  have su := sumN_upd (f := fun i => (s.wr i).n) (g := fun i => (upd s.wr t y i).n) (t := t) (k := k) ht (fun i _ hi => by simp only [upd_other _ _ hi])
  simp only [upd_same, hn, hy] at su
  have hst := h.st
  have htk : upd s.tk t (s.tk t) = s.tk := by
    funext i; unfold upd; split
    · rename_i e; rw [e]
    · rfl
  have hnn : ∀ i, i < k → (upd s.wr t y i).n = (s.wr i).n := fun i _ => by
    by_cases e : i = t
    · subst e; rw [upd_same, hy, hn]
    · rw [upd_other _ _ e]
  unfold PS.setW
  rw [htk]
  refine ⟨h.si, ?_, hph, fun i hi e => ?_, fun i j hi hj ei ej => ?_, fun i hi e => ?_, hb, hnone, h.saw, hnext, halone, fun i v hi e => ?_⟩
  · show s.T + sumN (fun i => (upd s.wr t y i).n) k = s.N
    omega
  · exact h.lo i hi ((hnn i hi).symm.trans e)
  · exact h.ne i j hi hj ((hnn i hi).symm.trans ei) ((hnn j hj).symm.trans ej)
  · by_cases e2 : i = t
    · subst e2
      have e' : y.act = true := by rw [← upd_same s.wr i y]; exact e
      exact hact e'
    · exact h.act i hi (by rw [← upd_other s.wr y e2]; exact e)
  · by_cases e2 : i = t
    · subst e2
      have e' : y.act = true := by rw [← upd_same s.wr i y]; exact e
      exact hown e' v
    · exact h.own i v hi (by rw [← upd_other s.wr y e2]; exact e)
theorem PInv.turn (h : PInv k s) (ht : t < k) (hw : s.wr t = .waits) (he : s.tk t = s.T) (hr : ∀ v, s.rd t ≠ .waits v) : PInv k (s.setW t .turn (s.tk t) s.N s.T s.β s.φ s.a) := by
  have hp : ∀ i, i < k → (upd s.wr t .turn i).pres = (s.wr i).pres := fun i _ => by
    by_cases e : i = t
    · subst e; rw [upd_same, hw]; rfl
    · rw [upd_other _ _ e]
  refine h.relabel ht (by rw [hw]; rfl) rfl (fun _ => he) (fun _ => hr) h.ph (fun i hi e => h.bits i hi ((hp i hi).symm.trans e)) (fun e => h.none fun i hi => (hp i hi).symm.trans (e i hi)) (fun hb i v hi e => ?_) (fun i hi e => ?_)
  · have := h.next hb i v hi e
    have hl : (∃ j, j < k ∧ upd s.wr t .turn j = .left) ↔ (∃ j, j < k ∧ s.wr j = .left) := by
      constructor
      · rintro ⟨j, hj, e⟩
        by_cases e2 : j = t
        · subst e2; rw [upd_same] at e; cases e
        · rw [upd_other _ _ e2] at e; exact ⟨j, hj, e⟩
      · rintro ⟨j, hj, e⟩
        have e2 : j ≠ t := fun e2 => by subst e2; rw [hw] at e; cases e
        exact ⟨j, hj, by rw [upd_other _ _ e2]; exact e⟩
    by_cases e2 : ∃ j, j < k ∧ s.wr j = .left
    · rw [if_pos e2] at this; rw [if_pos (hl.2 e2)]; exact this
    · rw [if_neg e2] at this; rw [if_neg (fun e3 => e2 (hl.1 e3))]; exact this
  · by_cases e2 : i = t
    · subst e2; rw [upd_same] at e; cases e
    · rw [upd_other _ _ e2] at e; exact h.alone i hi e
theorem PInv.free (h : PInv k s) (ht : t < k) (ha : (s.wr t).act = true) (hp : (s.wr t).pres = false) : s.β = 0 := h.none fun i hi => by
  by_cases e : i = t
  · subst e; exact hp
  · exact pres_of_act (h.others ht ha i hi e)
theorem PInv.lefts (h : PInv k s) (ht : t < k) (ha : (s.wr t).act = true) : (∃ j, j < k ∧ s.wr j = .left) ↔ s.wr t = .left := by
  constructor
  · rintro ⟨j, hj, e⟩
    by_cases e2 : j = t
    · subst e2; exact e
    · exact absurd e (act_no (h.others ht ha j hj e2)).1
  · exact fun e => ⟨t, ht, e⟩
theorem lefts_upd {w : Nat → Wr} {y : Wr} (ho : ∀ i, i < k → i ≠ t → (w i).act = false) (ht : t < k) : (∃ j, j < k ∧ upd w t y j = .left) ↔ y = .left := by
  constructor
  · rintro ⟨j, hj, e⟩
    by_cases e2 : j = t
    · subst e2; rw [upd_same] at e; exact e
    · rw [upd_other _ _ e2] at e
      exact absurd e (act_no (ho j hj e2)).1
  · exact fun e => ⟨t, ht, by rw [upd_same]; exact e⟩
theorem PInv.appear (h : PInv k s) (ht : t < k) (hw : s.wr t = .turn) : PInv k (s.setW t .comes (s.tk t) s.N s.T (2 + s.φ) s.φ s.I) := by
  have ha : (s.wr t).act = true := by rw [hw]; rfl
  have ho := h.others ht ha
  have hb0 := h.free ht ha (by rw [hw]; rfl)
  have hph := h.ph
  have hl : ¬ ∃ j, j < k ∧ s.wr j = .left := fun e => by rw [(h.lefts ht ha).1 e] at hw; cases hw
  refine h.relabel ht (Wr.act_n ha) rfl (fun _ => h.act t ht ha) (fun _ v => h.own t v ht ha) h.ph (fun i hi e => ⟨rfl, ?_⟩) (fun e => ?_) (fun hb => by omega) (fun i hi e => ?_)
  · rw [← h.si]
    congr 1
    refine sumN_congr fun j hj => ?_
    cases hr : s.rd j with
    | no => rfl
    | reads => rfl
    | waits v =>
      have hv := h.next hb0 j v hj hr
      rw [if_neg hl] at hv
      rw [old_w, if_neg (by omega)]; rfl
  · have := e t ht
    rw [upd_same] at this; cases this
  · by_cases e2 : i = t
    · subst e2; rw [upd_same] at e; cases e
    · rw [upd_other _ _ e2] at e
      exact absurd e (act_no (ho i hi e2)).2.1
theorem PInv.enter (h : PInv k s) (ht : t < k) (hw : s.wr t = .comes) (he : s.O + old s.β (s.rd t) = s.a) : PInv k (s.setW t .writes (s.tk t) s.N s.T s.β s.φ s.a) := by
  have ha : (s.wr t).act = true := by rw [hw]; rfl
  have ho := h.others ht ha
  obtain ⟨b1, b2⟩ := h.bits t ht (by rw [hw]; rfl)
  have hph := h.ph
  refine h.relabel ht (Wr.act_n ha) rfl (fun _ => h.act t ht ha) (fun _ v => h.own t v ht ha) h.ph (fun i hi e => ⟨b1, b2⟩) (fun e => ?_) (fun hb => by omega) (fun i hi e j hj hn => ?_)
  · have := e t ht
    rw [upd_same] at this; cases this
  · have e2 : i = t := by
      by_cases e2 : i = t
      · exact e2
      · rw [upd_other _ _ e2] at e
        exact absurd e (act_no (ho i hi e2)).2.1
    subst e2
    have hu := sumN_upd (f := fun j => old s.β (s.rd j)) (g := upd (fun j => old s.β (s.rd j)) i 0) (t := i) (k := k) ht (fun j _ hj => upd_other _ _ hj)
    rw [upd_same] at hu
    have hj2 := sumN_at (f := upd (fun j => old s.β (s.rd j)) i 0) hj
    rw [upd_other _ _ hn] at hj2
    omega
theorem PInv.vanish (h : PInv k s) (ht : t < k) (hw : s.wr t = .writes) (hr : s.rd t = .no) : PInv k (s.setW t .left (s.tk t) s.N s.T 0 s.φ s.a) := by
  have ha : (s.wr t).act = true := by rw [hw]; rfl
  have ho := h.others ht ha
  obtain ⟨b1, b2⟩ := h.bits t ht (by rw [hw]; rfl)
  refine h.relabel ht (Wr.act_n ha) rfl (fun _ => h.act t ht ha) (fun _ v => h.own t v ht ha) h.ph (fun i hi e => ?_) (fun _ => rfl) (fun _ i v hi e => ?_) (fun i hi e => ?_)
  · by_cases e2 : i = t
    · subst e2; rw [upd_same] at e; cases e
    · rw [upd_other _ _ e2, pres_of_act (ho i hi e2)] at e; cases e
  · rw [if_pos ((lefts_upd ho ht).2 rfl)]
    have hne : i ≠ t := fun e2 => by subst e2; rw [hr] at e; cases e
    have := h.alone t ht hw i hi hne
    rw [e, old_w] at this
    by_cases e2 : v = s.β
    · omega
    · rw [if_neg e2] at this; cases this
  · by_cases e2 : i = t
    · subst e2; rw [upd_same] at e; cases e
    · rw [upd_other _ _ e2] at e
      exact absurd e (act_no (ho i hi e2)).2.1
theorem PInv.count (h : PInv k s) (ht : t < k) {φ : Int} (hw : (s.wr t = .left ∧ φ = 1 - s.φ) ∨ (s.wr t = .turn ∧ φ = s.φ)) : PInv k (s.setW t .last (s.tk t) s.N s.T s.β φ s.a) := by
  have ha : (s.wr t).act = true := by rcases hw with ⟨e, _⟩ | ⟨e, _⟩ <;> rw [e] <;> rfl
  have hp : (s.wr t).pres = false := by rcases hw with ⟨e, _⟩ | ⟨e, _⟩ <;> rw [e] <;> rfl
  have ho := h.others ht ha
  have hb0 := h.free ht ha hp
  have hph := h.ph
  refine h.relabel ht (Wr.act_n ha) rfl (fun _ => h.act t ht ha) (fun _ v => h.own t v ht ha) (by omega) (fun i hi e => ?_) (fun _ => hb0) (fun _ i v hi e => ?_) (fun i hi e => ?_)
  · by_cases e2 : i = t
    · subst e2; rw [upd_same] at e; cases e
    · rw [upd_other _ _ e2, pres_of_act (ho i hi e2)] at e; cases e
  · rw [if_neg (fun e2 => by have := (lefts_upd ho ht).1 e2; cases this)]
    have := h.next hb0 i v hi e
    rcases hw with ⟨e2, e3⟩ | ⟨e2, e3⟩
    · rw [if_pos ((h.lefts ht ha).2 e2)] at this; omega
    · rw [if_neg (fun e4 => by rw [(h.lefts ht ha).1 e4] at e2; cases e2)] at this; omega
  · by_cases e2 : i = t
    · subst e2; rw [upd_same] at e; cases e
    · rw [upd_other _ _ e2] at e
      exact absurd e (act_no (ho i hi e2)).2.1
theorem PInv.draw (h : PInv k s) (ht : t < k) (hw : s.wr t = .no) {y : Wr} (hy : y = .waits ∨ (y = .turn ∧ s.N = s.T ∧ ∀ v, s.rd t ≠ .waits v)) : PInv k (s.setW t y s.N (s.N + 1) s.T s.β s.φ s.a) := by
  have hyn : y.n = 1 := by rcases hy with e | ⟨e, _⟩ <;> rw [e] <;> rfl
  have hyp : y.pres = false := by rcases hy with e | ⟨e, _⟩ <;> rw [e] <;> rfl
  have hyl : y ≠ .left := by rcases hy with e | ⟨e, _⟩ <;> rw [e] <;> intro e2 <;> cases e2
  have hyw : y ≠ .writes := by rcases hy with e | ⟨e, _⟩ <;> rw [e] <;> intro e2 <;> cases e2
  have su := sumN_upd (f := fun i => (s.wr i).n) (g := fun i => (upd s.wr t y i).n) (t := t) (k := k) ht (fun i _ hi => by simp only [upd_other _ _ hi])
  have e0 : Wr.no.n = 0 := rfl
  simp only [upd_same, hw, hyn, e0] at su
  have hst := h.st
  have hp : ∀ i, i < k → (upd s.wr t y i).pres = (s.wr i).pres := fun i _ => by
    by_cases e : i = t
    · subst e; rw [upd_same, hyp, hw]; rfl
    · rw [upd_other _ _ e]
  refine ⟨h.si, ?_, h.ph, fun i hi e => ?_, fun i j hi hj ei ej e => ?_, fun i hi e => ?_, fun i hi e => h.bits i hi ((hp i hi).symm.trans e), fun e => h.none fun i hi => (hp i hi).symm.trans (e i hi), h.saw, fun hb i v hi e => ?_, fun i hi e => ?_, fun i v hi e => ?_⟩
  · show s.T + sumN (fun i => (upd s.wr t y i).n) k = s.N + 1
    omega
  · by_cases e2 : i = t
    · subst e2
      show s.T ≤ upd s.tk i s.N i ∧ upd s.tk i s.N i < s.N + 1
      rw [upd_same]; omega
    · show s.T ≤ upd s.tk t s.N i ∧ upd s.tk t s.N i < s.N + 1
      rw [upd_other _ _ e2]
      have := h.lo i hi (by rw [← upd_other s.wr y e2]; exact e)
      omega
  · have e' : upd s.tk t s.N i = upd s.tk t s.N j := e
    by_cases e1 : i = t
    · by_cases e2 : j = t
      · rw [e1, e2]
      · subst e1
        rw [upd_same, upd_other _ _ e2] at e'
        have := h.lo j hj (by rw [← upd_other s.wr y e2]; exact ej)
        omega
    · by_cases e2 : j = t
      · subst e2
        rw [upd_same, upd_other _ _ e1] at e'
        have := h.lo i hi (by rw [← upd_other s.wr y e1]; exact ei)
        omega
      · rw [upd_other _ _ e1, upd_other _ _ e2] at e'
        exact h.ne i j hi hj (by rw [← upd_other s.wr y e1]; exact ei) (by rw [← upd_other s.wr y e2]; exact ej) e'
  · by_cases e2 : i = t
    · subst e2
      have e' : y.act = true := by rw [← upd_same s.wr i y]; exact e
      show upd s.tk i s.N i = s.T
      rw [upd_same]
      rcases hy with e3 | ⟨_, e3, _⟩
      · rw [e3] at e'; cases e'
      · exact e3
    · show upd s.tk t s.N i = s.T
      rw [upd_other _ _ e2]
      exact h.act i hi (by rw [← upd_other s.wr y e2]; exact e)
  · have hl : (∃ j, j < k ∧ upd s.wr t y j = .left) ↔ (∃ j, j < k ∧ s.wr j = .left) := by
      constructor
      · rintro ⟨j, hj, e⟩
        by_cases e2 : j = t
        · subst e2; rw [upd_same] at e; exact absurd e hyl
        · rw [upd_other _ _ e2] at e; exact ⟨j, hj, e⟩
      · rintro ⟨j, hj, e5⟩
        have e2 : j ≠ t := fun e2 => by subst e2; rw [hw] at e5; cases e5
        exact ⟨j, hj, by rw [upd_other _ _ e2]; exact e5⟩
    have := h.next hb i v hi e
    show if ∃ j, j < k ∧ upd s.wr t y j = .left then v = 2 + s.φ else v = 3 - s.φ
    by_cases e2 : ∃ j, j < k ∧ s.wr j = .left
    · rw [if_pos e2] at this; rw [if_pos (hl.2 e2)]; exact this
    · rw [if_neg e2] at this; rw [if_neg (fun e3 => e2 (hl.1 e3))]; exact this
  · by_cases e2 : i = t
    · subst e2
      have e' : y = .writes := by rw [← upd_same s.wr i y]; exact e
      exact absurd e' hyw
    · exact h.alone i hi (by rw [← upd_other s.wr y e2]; exact e)
  · by_cases e2 : i = t
    · subst e2
      have e' : y.act = true := by rw [← upd_same s.wr i y]; exact e
      rcases hy with e3 | ⟨_, _, e3⟩
      · rw [e3] at e'; cases e'
      · exact e3 v
    · exact h.own i v hi (by rw [← upd_other s.wr y e2]; exact e)
theorem PInv.pass (h : PInv k s) (ht : t < k) (hw : s.wr t = .last) : PInv k (s.setW t .no 0 s.N (s.T + 1) s.β s.φ s.a) := by
  have ha : (s.wr t).act = true := by rw [hw]; rfl
  have ho := h.others ht ha
  have hb0 := h.free ht ha (by rw [hw]; rfl)
  have hT := h.act t ht ha
  have su := sumN_upd (f := fun i => (s.wr i).n) (g := fun i => (upd s.wr t .no i).n) (t := t) (k := k) ht (fun i _ hi => by simp only [upd_other _ _ hi])
  have e0 : Wr.no.n = 0 := rfl
  have e1 : Wr.last.n = 1 := rfl
  simp only [upd_same, hw, e0, e1] at su
  have hst := h.st
  have nact : ∀ i, i < k → (upd s.wr t .no i).act = false := fun i hi => by
    by_cases e : i = t
    · subst e; rw [upd_same]; rfl
    · rw [upd_other _ _ e]; exact ho i hi e
  refine ⟨h.si, ?_, h.ph, fun i hi e => ?_, fun i j hi hj ei ej e => ?_, fun i hi e => ?_, fun i hi e => ?_, fun _ => hb0, h.saw, fun hb i v hi e => ?_, fun i hi e => ?_, fun i v hi e => ?_⟩
  · show s.T + 1 + sumN (fun i => (upd s.wr t .no i).n) k = s.N
    omega
  · have e2 : i ≠ t := fun e2 => by
      subst e2
      have : (upd s.wr i .no i).n = 1 := e
      rw [upd_same] at this; cases this
    have e3 : (s.wr i).n = 1 := by rw [← upd_other s.wr .no e2]; exact e
    show s.T + 1 ≤ upd s.tk t 0 i ∧ upd s.tk t 0 i < s.N
    rw [upd_other _ _ e2]
    have := h.lo i hi e3
    have : s.tk i ≠ s.tk t := fun e4 => e2 (h.ne i t hi ht e3 (by rw [hw]; rfl) e4)
    omega
  · have c : ∀ q, q < k → (upd s.wr t .no q).n = 1 → q ≠ t := fun q _ e e2 => by
      subst e2; rw [upd_same] at e; cases e
    have c1 := c i hi ei
    have c2 := c j hj ej
    have e' : upd s.tk t 0 i = upd s.tk t 0 j := e
    rw [upd_other _ _ c1, upd_other _ _ c2] at e'
    exact h.ne i j hi hj (by rw [← upd_other s.wr .no c1]; exact ei) (by rw [← upd_other s.wr .no c2]; exact ej) e'
  · have : (upd s.wr t .no i).act = true := e
    rw [nact i hi] at this; cases this
  · have : (upd s.wr t .no i).pres = true := e
    rw [pres_of_act (nact i hi)] at this; cases this
  · have := h.next hb i v hi e
    rw [if_neg (fun e4 => by rw [(h.lefts ht ha).1 e4] at hw; cases hw)] at this
    rw [if_neg]
    · exact this
    · rintro ⟨j, hj, e2⟩
      exact absurd e2 (act_no (nact j hj)).1
  · have : upd s.wr t .no i = .writes := e
    exact absurd this (act_no (nact i hi)).2.1
  · have : (upd s.wr t .no i).act = true := e
    rw [nact i hi] at this; cases this
theorem PInv.turns (h : PInv k s) (hall : ∀ i, i < k → s.wr i = .no ∨ s.wr i = .waits) (hsome : ∃ i, i < k ∧ s.wr i = .waits) : ∃ i, i < k ∧ s.wr i = .waits ∧ s.tk i = s.T := by
  obtain ⟨i, hi, hw⟩ := hsome
  have hp := sumN_at (f := fun i => (s.wr i).n) hi
  have hp1 : (s.wr i).n = 1 := by rw [hw]; rfl
  simp only [hp1] at hp
  have hst := h.st
  obtain ⟨j, hj, hf, ht⟩ := holes (tk := s.tk) (f := fun i => (s.wr i).n) (k := k) (lo := s.T) (n := sumN (fun i => (s.wr i).n) k)
    (fun i hi => by rcases hall i hi with e | e <;> simp only [e] <;> decide)
    (fun i hi hf => by have := h.lo i hi hf; omega)
    (fun i j hi hj hfi hfj ht => h.ne i j hi hj hfi hfj ht) rfl (by omega)
  refine ⟨j, hj, ?_, ht⟩
  rcases hall j hj with e | e
  · simp only [e] at hf; cases hf
  · exact e
end
end Go.Proofs.Ytgfippbcgneegaa
set_option linter.unusedVariables false
set_option linter.unusedSimpArgs false
namespace Go.Proofs.Ytgfippbcgneegaa
section
variable {xs : List Int} {c d x y n mode i s : Int} {q : Int → Bool}
theorem own_add (hc : there xs c = true) : wordAt (doNew xs 3 c x 0) c = (x + wordAt xs c) % 4294967296 := by
  rw [doNew_st _ _ _ _ _ rfl, word_st, if_pos hc]; rfl
theorem own_add_far (h : c ≠ d) : wordAt (doNew xs 3 c x 0) d = wordAt xs d := by
  rw [doNew_st _ _ _ _ _ rfl, word_far _ h]
theorem own_load : doNew xs 1 c 0 0 = xs := by
  rw [doNew_st _ _ _ _ _ rfl]; exact st_word xs c
theorem own_cas (hc : there xs c = true) : wordAt (doNew xs 5 c x y) c = if wordAt xs c = x then y else wordAt xs c := by
  rw [doNew_st _ _ _ _ _ rfl, word_st, if_pos hc]; rfl
theorem own_cas_far (h : c ≠ d) : wordAt (doNew xs 5 c x y) d = wordAt xs d := by
  rw [doNew_st _ _ _ _ _ rfl, word_far _ h]
theorem own_wait (h1 : wc n i ≠ d) (h2 : pc n i ≠ d) : wordAt (stepI xs n mode i s c q).xs d = wordAt xs d := by
  unfold stepI
  (repeat' split) <;> first | rfl | exact word_far _ h1 | exact word_far _ h2
theorem own_wake {on hit : Bool} (h2 : pc n i ≠ d) : wordAt (wakeI xs n on c i hit).xs d = wordAt xs d := by
  unfold wakeI giveI lookI restI
  (repeat' split) <;> first | rfl | exact word_far _ h2
end
end Go.Proofs.Ytgfippbcgneegaa
set_option linter.unusedVariables false
set_option linter.unusedSimpArgs false
namespace Go.Proofs.Ytgfippbcgneegaa
abbrev WtF := Int → Int → Int → Option (Int × (Int → Bool))
structure WaitLine (r r' : LS) (c : Int) (q : Int → Bool) : Prop where
  xs : r'.xs = (r.stepR c q).xs
  s : r'.s = (r.stepR c q).next
  k : r'.k = r.k
  a : r'.a = r.a
  stay : (r.stepR c q).done = false → r'.line = r.line ∧ r'.ret = r.ret
structure PlainLine (r r' : LS) : Prop where
  far : ∀ d, 8 ≤ d → wordAt r'.xs d = wordAt r.xs d
  s : r'.s = r.s
  k : r'.k = r.k ∨ ∃ c, 0 ≤ c ∧ c < 8 ∧ r'.k = beginI r.mode c
structure LinesOK (L : LS → LS) (wt : WtF) : Prop where
  c8 : ∀ op line a c q, wt op line a = some (c, q) → 0 ≤ c ∧ c < 8
  op0 : ∀ line a, wt 0 line a = none
  line0 : ∀ op a, wt op 0 a = none
  same : ∀ r : LS, (L r).n = r.n ∧ (L r).mode = r.mode ∧ (L r).task = r.task ∧ (L r).op = r.op ∧ (L r).xs.length = r.xs.length
  wait : ∀ (r : LS) c q, r.k.on = false → wt r.op r.line r.a = some (c, q) → WaitLine r (L r) c q
  plain : ∀ r : LS, r.k.on = false → wt r.op r.line r.a = none → PlainLine r (L r)
def LS.finH (h : Int) (r : LS) : Int := if r.over then behindI r.op r.ret h else h
def LS.finR (r : LS) : LS := if r.over then zeroF r 0 else r
theorem go_eq {L : LS → LS} {m : MV} {t : Nat} (hs : (m.at t).stuck = false) : m.go L t = ⟨upd m.rs t ((m.at t).next L).finR, upd m.hold t (((m.at t).next L).finH (m.hold t)), ((m.at t).next L).xs⟩ := by
  unfold MV.go LS.finR LS.finH
  rw [if_neg (by rw [hs]; exact Bool.false_ne_true)]
  split
  · show (⟨upd (upd m.rs t _) t _, upd m.hold t _, _⟩ : MV) = _
    have e : ∀ (f : Nat → LS) (u v : LS), upd (upd f t u) t v = upd f t v := fun f u v => by
      funext i; unfold upd; split <;> rfl
    rw [e]
    rfl
  · show (⟨upd m.rs t _, m.hold, _⟩ : MV) = _
    have e : upd m.hold t (m.hold t) = m.hold := by
      funext i; unfold upd; split
      · rename_i h; rw [h]
      · rfl
    rw [e]
section
variable {k : Nat} {xs : List Int} {t i : Nat} {mode s c d idx : Int} {q : Int → Bool} {on hit : Bool}
theorem wc_at (hk : k ≤ 64) (hi : i < k) : wc (k : Int) (i : Int) = 8 + 2 * k + i := by unfold wc cellI; rw [if_pos (by omega)]
theorem pc_at (hk : k ≤ 64) (hi : i < k) : pc (k : Int) (i : Int) = 8 + 3 * k + i := by unfold pc cellI; rw [if_pos (by omega)]
theorem there_lk (hl : xs.length = 8 + 4 * k) (h0 : 0 ≤ d) (h1 : d < 8 + 4 * k) : there xs d = true := by unfold there; rw [decide_eq_true_eq, hl]; push_cast; omega
theorem step_wat (hk : k ≤ 64) (hl : xs.length = 8 + 4 * k) (ht : t < k) (hi : i < k) : wordAt (stepI xs k mode t s c q).xs (wc k i) = if i = t ∧ mode = 2 ∧ s = 1 then (c + 1) % 4294967296 else if i = t ∧ mode = 2 ∧ s = 4 then 0 else wordAt xs (wc k i) := by
  have hw : ∀ j : Nat, j < k → there xs (wc k j) = true := fun j hj => there_lk hl (by rw [wc_at hk hj]; omega) (by rw [wc_at hk hj]; omega)
  have hne : ∀ j : Nat, j < k → i ≠ j → wc (k : Int) j ≠ wc k i := fun j hj e => by rw [wc_at hk hj, wc_at hk hi]; omega
  have hpw : ∀ j : Nat, j < k → pc (k : Int) j ≠ wc k i := fun j hj => by rw [pc_at hk hj, wc_at hk hi]; omega
  by_cases hm : mode = 2
  · subst hm
    by_cases h1 : s = 1
    · subst h1
      rw [stepI_1]
      by_cases e : i = t
      · subst e; simp [word_st, hw i hi]
      · show wordAt (st _ _ _) _ = _
        rw [word_far _ (hne t ht e)]; simp [e]
    by_cases h2 : s = 2
    · subst h2; rw [stepI_2]; simp
    by_cases h3 : s = 3
    · subst h3; rw [stepI_3]
      show wordAt (st _ _ _) _ = _
      rw [word_far _ (hpw t ht)]; simp
    by_cases h4 : s = 4
    · subst h4
      rw [stepI_4]
      by_cases e : i = t
      · subst e; simp [word_st, hw i hi]
      · show wordAt (st _ _ _) _ = _
        rw [word_far _ (hne t ht e)]; simp [e]
    · rw [stepI_0 h1 h2 h3 h4]; simp [h1, h4]
  · rw [stepI_spin hm]; simp [hm]
theorem step_per (hk : k ≤ 64) (hl : xs.length = 8 + 4 * k) (ht : t < k) (hi : i < k) : hasP (stepI xs k mode t s c q).xs k i = if i = t ∧ mode = 2 ∧ s = 3 then false else hasP xs k i := by
  have hw : there xs (pc k i) = true := there_lk hl (by rw [pc_at hk hi]; omega) (by rw [pc_at hk hi]; omega)
  have hwp : wc (k : Int) t ≠ pc k i := by rw [pc_at hk hi, wc_at hk ht]; omega
  have far : ∀ u, hasP (st xs (wc k t) u) k i = hasP xs k i := fun u => by unfold hasP; rw [word_far _ hwp]
  by_cases hm : mode = 2
  · subst hm
    by_cases h1 : s = 1
    · subst h1; rw [stepI_1]
      show hasP (st _ _ _) _ _ = _
      rw [far]; simp
    by_cases h2 : s = 2
    · subst h2; rw [stepI_2]; simp
    by_cases h3 : s = 3
    · subst h3
      rw [stepI_3]
      by_cases e : i = t
      · subst e; simp [hasP_st _ hw]
      · show hasP (st _ _ _) _ _ = _
        rw [hasP_far _ (by rw [pc_at hk ht, pc_at hk hi]; omega)]; simp [e]
    by_cases h4 : s = 4
    · subst h4; rw [stepI_4]
      show hasP (st _ _ _) _ _ = _
      rw [far]; simp
    · rw [stepI_0 h1 h2 h3 h4]; simp [h3]
  · rw [stepI_spin hm]; simp [hm]
theorem wake_wat (hk : k ≤ 64) (h0 : 0 ≤ idx) (h1 : idx < k) (hi : i < k) : wordAt (wakeI xs k on c idx hit).xs (wc k i) = wordAt xs (wc k i) := by
  obtain ⟨j, rfl⟩ := Int.eq_ofNat_of_zero_le h0
  have hp : pc (k : Int) (j : Int) ≠ wc k i := by rw [pc_at hk (by omega), wc_at hk hi]; omega
  exact own_wake hp
theorem wake_cases (hk : k ≤ 64) (hl : xs.length = 8 + 4 * k) (h1 : i < k) :
    (hit = true → (wakeI xs k true c i hit).next = nextI k c i ∧ (∀ j, j < k → hasP (wakeI xs k true c i hit).xs k j = if j = i then true else hasP xs k j)) ∧
    (hit = false → (wakeI xs k true c i hit).xs = xs ∧ ((wordAt xs (wc k i) = (c + 1) % 4294967296 ∧ (wakeI xs k true c i hit).next = ⟨true, c, i, true⟩) ∨ (wordAt xs (wc k i) ≠ (c + 1) % 4294967296 ∧ (wakeI xs k true c i hit).next = nextI k c i))) := by
  have hw : there xs (wc k i) = true := there_lk hl (by rw [wc_at hk h1]; omega) (by rw [wc_at hk h1]; omega)
  have hp : there xs (pc k i) = true := there_lk hl (by rw [pc_at hk h1]; omega) (by rw [pc_at hk h1]; omega)
  constructor
  · rintro rfl
    unfold wakeI giveI
    rw [if_pos rfl, if_pos rfl, if_pos hp]
    refine ⟨rfl, fun j hj => ?_⟩
    by_cases e : j = i
    · subst e; rw [if_pos rfl, hasP_st _ hp]; rfl
    · rw [if_neg e]; exact hasP_far _ (by rw [pc_at hk h1, pc_at hk hj]; omega)
  · rintro rfl
    unfold wakeI lookI
    rw [if_pos rfl, if_neg Bool.false_ne_true, if_pos hw]
    by_cases e : wordAt xs (wc k i) = (c + 1) % 4294967296
    · rw [if_pos e]; exact ⟨rfl, .inl ⟨e, rfl⟩⟩
    · rw [if_neg e]; exact ⟨rfl, .inr ⟨e, rfl⟩⟩
theorem wake_len0 (xs : List Int) (k c i : Int) (hit : Bool) : (wakeI xs k true c i hit).xs.length = xs.length := by
  unfold wakeI giveI lookI restI
  (repeat' split) <;> first | rfl | exact st_len _ _ _
theorem step_done0 (h : (stepI xs k mode t s c q).done = true) : (stepI xs k mode t s c q).next = 0 := by
  by_cases hm : mode = 2
  · subst hm
    by_cases h1 : s = 1
    · subst h1; cases h
    by_cases h2 : s = 2
    · subst h2; cases h
    by_cases h3 : s = 3
    · subst h3; cases h
    by_cases h4 : s = 4
    · subst h4; rfl
    · rw [stepI_0 h1 h2 h3 h4] at h ⊢
      exact if_pos h
  · rw [stepI_spin hm]
theorem step_next : ((stepI xs k mode t s c q).next = 0 ∧ ((stepI xs k mode t s c q).done = true ∨ mode ≠ 2)) ∨ (mode = 2 ∧ (stepI xs k mode t s c q).done = false ∧ (((stepI xs k mode t s c q).next = 1 ∧ s ≠ 1 ∧ s ≠ 2 ∧ s ≠ 3 ∧ s ≠ 4) ∨ ((stepI xs k mode t s c q).next = 2 ∧ (s = 1 ∨ (s = 3 ∧ hasP xs k t = true))) ∨ ((stepI xs k mode t s c q).next = 3 ∧ ((s = 2 ∧ q (wordAt xs c) = false) ∨ (s = 3 ∧ hasP xs k t = false))) ∨ ((stepI xs k mode t s c q).next = 4 ∧ s = 2 ∧ q (wordAt xs c) = true))) := by
  by_cases hm : mode = 2
  · subst hm
    by_cases h1 : s = 1
    · subst h1; exact .inr ⟨rfl, rfl, .inr (.inl ⟨rfl, .inl rfl⟩)⟩
    by_cases h2 : s = 2
    · subst h2
      rw [stepI_2]
      cases hq : q (wordAt xs c)
      · exact .inr ⟨rfl, rfl, .inr (.inr (.inl ⟨by simp, .inl ⟨rfl, rfl⟩⟩))⟩
      · exact .inr ⟨rfl, rfl, .inr (.inr (.inr ⟨by simp, rfl, rfl⟩))⟩
    by_cases h3 : s = 3
    · subst h3
      rw [stepI_3]
      cases hq : hasP xs k t
      · exact .inr ⟨rfl, rfl, .inr (.inr (.inl ⟨by simp, .inr ⟨rfl, rfl⟩⟩))⟩
      · exact .inr ⟨rfl, rfl, .inr (.inl ⟨by simp, .inr ⟨rfl, rfl⟩⟩)⟩
    by_cases h4 : s = 4
    · subst h4; exact .inl ⟨rfl, .inl rfl⟩
    · rw [stepI_0 h1 h2 h3 h4]
      cases hq : q (wordAt xs c)
      · exact .inr ⟨rfl, rfl, .inl ⟨by simp, h1, h2, h3, h4⟩⟩
      · exact .inl ⟨by simp, .inl rfl⟩
  · exact .inl ⟨by rw [stepI_spin hm], .inr hm⟩
end
def swp (k : Nat) (x : WkV) : Nat := if x.on then 5 * (k - x.i.toNat) - (if x.hit then 1 else 0) else 0
def stp (s : Int) : Nat := if s = 1 then 3 else if s = 2 then 2 else if s = 3 then 0 else if s = 4 then 1 else 4
theorem swp_off (k : Nat) {x : WkV} (h : x.on = false) : swp k x = 0 := by unfold swp; rw [h, if_neg Bool.false_ne_true]
theorem swp_begin (k : Nat) (mode c : Int) : swp k (beginI mode c) ≤ 5 * k := by
  unfold beginI swp
  split
  · simp
  · simp [wk0]
structure GenI (wt : WtF) (k : Nat) (mode : Int) (m : MV) : Prop where
  len : m.xs.length = 8 + 4 * k
  cst : ∀ i, i < k → (m.rs i).n = k ∧ (m.rs i).mode = mode ∧ (m.rs i).task = i
  sr : ∀ i, i < k → (m.rs i).s = 0 ∨ (m.rs i).s = 1 ∨ (m.rs i).s = 2 ∨ (m.rs i).s = 3 ∨ (m.rs i).s = 4
  sp : ∀ i, i < k → mode ≠ 2 → (m.rs i).s = 0
  sw : ∀ i, i < k → (m.rs i).s ≠ 0 → (∃ c q, wt (m.rs i).op (m.rs i).line (m.rs i).a = some (c, q)) ∧ (m.rs i).k.on = false
  wat : ∀ i, i < k → ((m.rs i).s = 0 ∨ (m.rs i).s = 1 → wordAt m.xs (wc k i) = 0) ∧ ((m.rs i).s = 2 ∨ (m.rs i).s = 3 ∨ (m.rs i).s = 4 → ∀ c q, wt (m.rs i).op (m.rs i).line (m.rs i).a = some (c, q) → wordAt m.xs (wc k i) = c + 1)
  kon : ∀ i, i < k → (m.rs i).k.on = true → 0 ≤ (m.rs i).k.i ∧ (m.rs i).k.i < k
  rt : ∀ i, i < k → (m.rs i).k.on = false → (m.rs i).ret = 0
  idle : ∀ i, i < k → (m.rs i).op = 0 → (m.rs i).k.on = false
  nl : ∀ i, i < k → ∀ c q, wt (m.rs i).op (m.rs i).line (m.rs i).a = some (c, q) → (m.rs i).s = 3 → hasP m.xs k i = false → q (wordAt m.xs c) = true → ∃ j, j < k ∧ (m.rs j).k.on = true ∧ (m.rs j).k.c = c ∧ (m.rs j).k.i ≤ i
section
variable {L : LS → LS} {wt : WtF} {k : Nat} {mode : Int} {m : MV} {t : Nat}
theorem stuck_iff (hs : (m.at t).k.on = false) (hst : (m.at t).stuck = true) : (m.rs t).mode = 2 ∧ (m.rs t).s = 3 ∧ hasP m.xs (m.rs t).n (m.rs t).task = false := by
  unfold LS.stuck stuckB at hst
  rw [hs] at hst
  simp only [Bool.not_false, Bool.true_and, Bool.and_eq_true, beq_iff_eq, Bool.not_eq_true'] at hst
  exact ⟨hst.1.1, hst.1.2, hst.2⟩
theorem GenI.start (hL : LinesOK L wt) (h : GenI wt k mode m) (ht : t < k) (h0 : (m.rs t).op = 0) (op : Int) : GenI wt k mode (m.start t op) := by
  have hon := h.idle t ht h0
  have hs0 : (m.rs t).s = 0 := by
    by_cases e : (m.rs t).s = 0
    · exact e
    · obtain ⟨⟨c, q, hw⟩, _⟩ := h.sw t ht e
      rw [h0, hL.op0] at hw; cases hw
  have hxs : (m.start t op).xs = m.xs := rfl
  have hrs : (m.start t op).rs = upd m.rs t (zeroF (m.at t) op) := rfl
  refine ⟨h.len, fun i hi => ?_, fun i hi => ?_, fun i hi hm => ?_, fun i hi hne => ?_, fun i hi => ?_, fun i hi ho => ?_, fun i hi ho => ?_, fun i hi ho => ?_, fun i hi c q hw hs hp hq => ?_⟩
  all_goals rw [hrs] at *
  all_goals try rw [hxs] at *
  · by_cases e : i = t
    · subst e; rw [upd_same]; exact h.cst i hi
    · rw [upd_other _ _ e]; exact h.cst i hi
  · by_cases e : i = t
    · subst e; rw [upd_same]; exact .inl rfl
    · rw [upd_other _ _ e]; exact h.sr i hi
  · by_cases e : i = t
    · subst e; rw [upd_same]; rfl
    · rw [upd_other _ _ e]; exact h.sp i hi hm
  · by_cases e : i = t
    · subst e; rw [upd_same] at hne; exact absurd rfl hne
    · rw [upd_other _ _ e] at hne ⊢; exact h.sw i hi hne
  · by_cases e : i = t
    · subst e; rw [upd_same]
      exact ⟨fun _ => (h.wat i hi).1 (.inl hs0), fun hh => by rcases hh with hh | hh | hh <;> cases hh⟩
    · rw [upd_other _ _ e]; exact h.wat i hi
  · by_cases e : i = t
    · subst e; rw [upd_same] at ho; cases ho
    · rw [upd_other _ _ e] at ho ⊢; exact h.kon i hi ho
  · by_cases e : i = t
    · subst e; rw [upd_same]; rfl
    · rw [upd_other _ _ e] at ho ⊢; exact h.rt i hi ho
  · by_cases e : i = t
    · subst e; rw [upd_same]; rfl
    · rw [upd_other _ _ e] at ho ⊢; exact h.idle i hi ho
  · have far : ∀ j, j < k → (m.rs j).k.on = true → j ≠ t := fun j _ ho e => by subst e; rw [hon] at ho; cases ho
    by_cases e : i = t
    · subst e; rw [upd_same] at hs; cases hs
    · rw [upd_other _ _ e] at hw hs
      obtain ⟨j, hj, h1, h2, h3⟩ := h.nl i hi c q hw hs hp hq
      exact ⟨j, hj, by rw [upd_other _ _ (far j hj h1)]; exact ⟨h1, h2, h3⟩⟩
end
end Go.Proofs.Ytgfippbcgneegaa
