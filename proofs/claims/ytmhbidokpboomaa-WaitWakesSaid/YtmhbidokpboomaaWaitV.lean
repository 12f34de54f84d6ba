/- Waiting of one task, by itself: the words, what holds between the deeds. -/
import Derived.Test.YtmhbidokpboomaaWaitW
set_option linter.unusedVariables false
set_option linter.unusedSimpArgs false
namespace Go.Proofs.Ytmhbidokpboomaa
open Go.RowKit

/-- The words of a lock of one task: the cell, its watch, its permit. -/
def V (v t p : Int) : List Int := [v, 0, 0, 0, 0, 0, 0, 0, 0, 0, t, p]

theorem wc10 : wc 1 0 = 10 := by decide
theorem pc11 : pc 1 0 = 11 := by decide
section
variable {v t p u : Int}
theorem V_at0 : wordAt (V v t p) 0 = v := rfl
theorem V_at10 : wordAt (V v t p) 10 = t := rfl
theorem V_has : hasP (V v t p) 1 0 = (p != 0) := rfl
theorem V_st0 : st (V v t p) 0 u = V u t p := rfl
theorem V_st10 : st (V v t p) 10 u = V v u p := rfl
theorem V_st11 : st (V v t p) 11 u = V v t u := rfl
theorem V_words (h0 : 0 ≤ v ∧ v < 4294967296) (h1 : 0 ≤ t ∧ t < 4294967296) (h2 : 0 ≤ p ∧ p < 4294967296) : Words (V v t p) := by
  intro n hn
  simp only [V, List.mem_cons, List.not_mem_nil, or_false] at hn
  rcases hn with rfl | rfl | rfl | rfl | rfl | rfl | rfl | rfl | rfl | rfl | rfl | rfl
  · exact wf_mk h0.1 h0.2
  all_goals first | exact wf_mk (by omega) (by omega) | exact wf_mk h1.1 h1.2 | exact wf_mk h2.1 h2.2
end

/-- What holds between the deeds: who waits at the third stage for what holds has a permit. -/
def Inv (q : Int → Bool) (s v t p : Int) : Prop :=
  (0 ≤ v ∧ v < 4294967296) ∧ (p = 0 ∨ p = 1) ∧ ((s = 0 ∧ t = 0) ∨ (s = 1 ∧ t = 0) ∨ (s = 2 ∧ t = 1) ∨ (s = 3 ∧ t = 1 ∧ (p = 0 → q v = false)) ∨ (s = 4 ∧ t = 1))
/-- How many steps are left, where what is waited for holds. -/
def left (s : Int) : Nat := if s = 0 then 1 else if s = 1 then 3 else if s = 2 then 2 else if s = 3 then 3 else 1

section
variable {q : Int → Bool} {s v t p x : Int}
theorem Inv.words (h : Inv q s v t p) : Words (V v t p) := by
  obtain ⟨h0, h1, h2⟩ := h
  refine V_words h0 ?_ ?_
  · rcases h2 with h | h | h | h | h <;> omega
  · rcases h1 with h | h <;> omega
theorem Inv.start : Inv q 0 0 0 0 := ⟨by omega, .inl rfl, .inl ⟨rfl, rfl⟩⟩
theorem Inv.watch (h : Inv q s v t p) : t = 0 ∨ t = 1 := by
  obtain ⟨h0, h1, h2⟩ := h
  rcases h2 with h | h | h | h | h <;> omega
theorem Inv.give (h : Inv q s v t p) : Inv q s v t 1 := by
  obtain ⟨h0, h1, h2⟩ := h
  refine ⟨h0, .inr rfl, ?_⟩
  rcases h2 with h | h | h | h | h
  · exact .inl h
  · exact .inr (.inl h)
  · exact .inr (.inr (.inl h))
  · exact .inr (.inr (.inr (.inl ⟨h.1, h.2.1, fun h => by omega⟩)))
  · exact .inr (.inr (.inr (.inr h)))
theorem Inv.store (h : Inv q s v 0 p) (hx : 0 ≤ x ∧ x < 4294967296) : Inv q s x 0 p := by
  obtain ⟨h0, h1, h2⟩ := h
  refine ⟨hx, h1, ?_⟩
  rcases h2 with h | h | h | h | h
  · exact .inl h
  · exact .inr (.inl h)
  · omega
  · omega
  · omega
theorem Inv.stored (h : Inv q s v 1 p) (hx : 0 ≤ x ∧ x < 4294967296) : Inv q s x 1 1 := by
  obtain ⟨h0, h1, h2⟩ := h
  refine ⟨hx, .inr rfl, ?_⟩
  rcases h2 with h | h | h | h | h
  · omega
  · omega
  · exact .inr (.inr (.inl h))
  · exact .inr (.inr (.inr (.inl ⟨h.1, h.2.1, fun h => by omega⟩)))
  · exact .inr (.inr (.inr (.inr h)))
/-- Nobody is stuck where what is waited for holds. -/
theorem Inv.stuck (h : Inv q s v t p) (hq : q v = true) : stuckB (V v t p) 1 2 0 s = false := by
  obtain ⟨h0, h1, h2⟩ := h
  unfold stuckB
  rw [V_has]
  rcases h2 with h | h | h | h | h
  · rw [h.1]; rfl
  · rw [h.1]; rfl
  · rw [h.1]; rfl
  · rcases h1 with rfl | rfl
    · rw [h.2.2 rfl] at hq; cases hq
    · rw [h.1]; rfl
  · rw [h.1]; rfl
/-- A step: it is done, and the watch is 0; or it isn't, and all holds as before, and fewer steps are left. -/
theorem Inv.step (h : Inv q s v t p) (r : StepR) (hr : stepI (V v t p) 1 2 0 s 0 q = r) :
    (r.done = true ∧ ∃ p', r.xs = V v 0 p') ∨ (r.done = false ∧ ∃ t' p', r.xs = V v t' p' ∧ Inv q r.next v t' p' ∧ (q v = true → left r.next < left s)) := by
  subst hr
  have hh := h
  obtain ⟨h0, h1, h2⟩ := h
  rcases h2 with ⟨rfl, rfl⟩ | ⟨rfl, rfl⟩ | ⟨rfl, rfl⟩ | ⟨rfl, rfl, h3⟩ | ⟨rfl, rfl⟩
  · rw [stepI_0 (by decide) (by decide) (by decide) (by decide), V_at0]
    cases hq : q v
    · exact .inr ⟨rfl, 0, p, rfl, ⟨h0, h1, .inr (.inl ⟨rfl, rfl⟩)⟩, fun h => by cases h⟩
    · exact .inl ⟨rfl, p, rfl⟩
  · rw [stepI_1, wc10]
    exact .inr ⟨rfl, 1, p, rfl, ⟨h0, h1, .inr (.inr (.inl ⟨rfl, rfl⟩))⟩, fun _ => show left 2 < left 1 by decide⟩
  · rw [stepI_2, V_at0]
    cases hq : q v
    · exact .inr ⟨rfl, 1, p, rfl, ⟨h0, h1, .inr (.inr (.inr (.inl ⟨rfl, rfl, fun _ => hq⟩)))⟩, fun h => by cases h⟩
    · exact .inr ⟨rfl, 1, p, rfl, ⟨h0, h1, .inr (.inr (.inr (.inr ⟨rfl, rfl⟩)))⟩, fun _ => show left 4 < left 2 by decide⟩
  · rw [stepI_3, pc11, V_has]
    rcases h1 with rfl | rfl
    · exact .inr ⟨rfl, 1, 0, rfl, hh, fun hq => by rw [h3 rfl] at hq; cases hq⟩
    · exact .inr ⟨rfl, 1, 0, rfl, ⟨h0, .inl rfl, .inr (.inr (.inl ⟨rfl, rfl⟩))⟩, fun _ => show left 2 < left 3 by decide⟩
  · rw [stepI_4, wc10]
    exact .inl ⟨rfl, p, rfl⟩
theorem left_pos (s : Int) : 1 ≤ left s := by
  unfold left
  split
  · omega
  split
  · omega
  split
  · omega
  split
  · omega
  · omega
theorem left_le (s : Int) : left s ≤ 3 := by
  unfold left
  split
  · omega
  split
  · omega
  split
  · omega
  split
  · omega
  · omega
end
end Go.Proofs.Ytmhbidokpboomaa
