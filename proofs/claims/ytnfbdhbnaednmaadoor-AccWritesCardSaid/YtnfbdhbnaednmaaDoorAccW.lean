/- Whether an access changes a word: acc.Writes. -/
import Derived.Test.YtnfbdhbnaednmaaDoorAwake
import Derived.Test.YtnfbdhbnaednmaaDoorRefDo4
import Derived.Laws.MakeOwn
namespace Go.Proofs.YtnfbdhbnaednmaaDoor
open Go.RowKit
def writesB (k x y o : Int) : Bool := if k = 2 ∨ k = 4 then x != o else if k = 3 then x != 0 else if k = 5 then (x == o && y != o) else false
theorem writes_any (k c x y o : Int) (w : World) : Calls Tryd.prog 15 #[.agg #[.int .i64 k, .int .i64 c, .int .u32 x, .int .u32 y, .int .u32 o]] w fun e w' => e = .returned (.bool (writesB k x y o)) ∧ Only Nil w w' := by
  by_cases h2 : k = 2 ∨ k = 4
  · have e : writesB k x y o = (x != o) := by unfold writesB; rw [if_pos h2]
    rw [e]
    rcases h2 with rfl | rfl
    all_goals
      clear e
      go_enter Tryd.func15, Tryd.ntmps15
      go_wp2
      go_ret
      exact ⟨rfl, by (repeat' (first | (with_reducible exact Only.refl _ _) | (with_reducible assumption) | (with_reducible refine Only.setCell ?_ ?_ _) | (with_reducible refine Only.drewN ?_ _) | (with_reducible refine Only.drew ?_) | (with_reducible refine Only.alloc ?_ _) | (left; simp; done) | (left; simp; omega) | (right; rfl)))⟩
  · by_cases h3 : k = 3
    · have e : writesB k x y o = (x != 0) := by unfold writesB; rw [if_neg h2, if_pos h3]
      rw [e]
      subst h3
      clear e h2
      go_enter Tryd.func15, Tryd.ntmps15
      go_wp2
      go_ret
      exact ⟨rfl, by (repeat' (first | (with_reducible exact Only.refl _ _) | (with_reducible assumption) | (with_reducible refine Only.setCell ?_ ?_ _) | (with_reducible refine Only.drewN ?_ _) | (with_reducible refine Only.drew ?_) | (with_reducible refine Only.alloc ?_ _) | (left; simp; done) | (left; simp; omega) | (right; rfl)))⟩
    · by_cases h5 : k = 5
      · have e : writesB k x y o = (x == o && y != o) := by unfold writesB; rw [if_neg h2, if_neg h3, if_pos h5]
        rw [e]
        subst h5
        clear e h2 h3
        by_cases hx : x = o
        · have hb := beq_iff_eq.2 hx
          have HX := Lib.hid hx
          clear hx
          go_enter Tryd.func15, Tryd.ntmps15
          go_wp2
          go_ret
          exact ⟨by rw [hb, Bool.true_and]; rfl, by (repeat' (first | (with_reducible exact Only.refl _ _) | (with_reducible assumption) | (with_reducible refine Only.setCell ?_ ?_ _) | (with_reducible refine Only.drewN ?_ _) | (with_reducible refine Only.drew ?_) | (with_reducible refine Only.alloc ?_ _) | (left; simp; done) | (left; simp; omega) | (right; rfl)))⟩
        · have hb := beq_eq_false_iff_ne.2 hx
          have HX := Lib.hid hx
          clear hx
          go_enter Tryd.func15, Tryd.ntmps15
          go_wp2
          go_ret
          exact ⟨by rw [hb, Bool.false_and]; rfl, by (repeat' (first | (with_reducible exact Only.refl _ _) | (with_reducible assumption) | (with_reducible refine Only.setCell ?_ ?_ _) | (with_reducible refine Only.drewN ?_ _) | (with_reducible refine Only.drew ?_) | (with_reducible refine Only.alloc ?_ _) | (left; simp; done) | (left; simp; omega) | (right; rfl)))⟩
      · have e : writesB k x y o = false := by unfold writesB; rw [if_neg h2, if_neg h3, if_neg h5]
        rw [e]
        have h2' : ¬ k = 2 := fun h => h2 (.inl h)
        have h4' : ¬ k = 4 := fun h => h2 (.inr h)
        clear e h2
        go_enter Tryd.func15, Tryd.ntmps15
        go_wp2
        go_ret
        exact ⟨rfl, by (repeat' (first | (with_reducible exact Only.refl _ _) | (with_reducible assumption) | (with_reducible refine Only.setCell ?_ ?_ _) | (with_reducible refine Only.drewN ?_ _) | (with_reducible refine Only.drew ?_) | (with_reducible refine Only.alloc ?_ _) | (left; simp; done) | (left; simp; omega) | (right; rfl)))⟩
theorem writes_left {k x y o : Int} (hx : 0 ≤ x) (hx' : x < 4294967296) (ho : 0 ≤ o) (ho' : o < 4294967296) : writesB k x y o = (isKind k && (leftOf k x y o != o)) := by
  unfold writesB isKind leftOf
  by_cases h1 : k = 1
  · subst h1; simp
  · by_cases h2 : k = 2
    · subst h2; simp
    · by_cases h3 : k = 3
      · subst h3
        simp
        rw [Bool.eq_iff_iff]
        simp
        omega
      · by_cases h4 : k = 4
        · subst h4; simp
        · by_cases h5 : k = 5
          · subst h5
            simp
            by_cases h : x = o
            · subst h; simp
            · have h' : ¬ o = x := fun e => h e.symm
              simp [h, h']
          · have h : ¬ (1 ≤ k ∧ k ≤ 5) := by omega
            simp [h1, h2, h3, h4, h5, h]
end Go.Proofs.YtnfbdhbnaednmaaDoor
