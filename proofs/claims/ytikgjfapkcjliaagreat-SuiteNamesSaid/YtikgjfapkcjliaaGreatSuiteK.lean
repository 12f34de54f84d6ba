/- The suite's Kind: the number of a name. -/
import Derived.Test.YtikgjfapkcjliaaGreatSuiteN
import Derived.Test.YtikgjfapkcjliaaGreatStrEq
import Derived.Deep.Cut
set_option linter.unusedVariables false
set_option linter.unusedSimpArgs false
namespace Go.Proofs.YtikgjfapkcjliaaGreat
open Go.RowKit

/-- The number of the kind with that name; 0: there is none. -/
def kindOf (X : ByteArray) : Int := if X = kindB 1 then 1 else if X = kindB 2 then 2 else if X = kindB 3 then 3 else if X = kindB 4 then 4 else if X = kindB 5 then 5 else if X = kindB 6 then 6 else 0
theorem kind_hit {X : ByteArray} {k : Nat} (hk : 1 ≤ k ∧ k ≤ 6) (h : X = kindB k) : kindOf X = k := by
  subst h
  have hc : k = 1 ∨ k = 2 ∨ k = 3 ∨ k = 4 ∨ k = 5 ∨ k = 6 := by omega
  rcases hc with rfl | rfl | rfl | rfl | rfl | rfl <;> decide +kernel
theorem kind_no {X : ByteArray} (h : ∀ j : Nat, 1 ≤ j → j < 7 → X ≠ kindB j) : kindOf X = 0 := by
  unfold kindOf
  rw [if_neg (show ¬ X = kindB 1 from h 1 (by omega) (by omega)), if_neg (show ¬ X = kindB 2 from h 2 (by omega) (by omega)), if_neg (show ¬ X = kindB 3 from h 3 (by omega) (by omega)), if_neg (show ¬ X = kindB 4 from h 4 (by omega) (by omega)), if_neg (show ¬ X = kindB 5 from h 5 (by omega) (by omega)), if_neg (show ¬ X = kindB 6 from h 6 (by omega) (by omega))]
theorem kindVs_at {k : Nat} (h : k < 7) : kindVs[k]? = some (.string (kindB k)) := by
  have hc : k = 0 ∨ k = 1 ∨ k = 2 ∨ k = 3 ∨ k = 4 ∨ k = 5 ∨ k = 6 := by omega
  rcases hc with rfl | rfl | rfl | rfl | rfl | rfl | rfl <;> rfl
theorem kind_empty {k : Nat} (h : 1 ≤ k ∧ k < 7) : ¬ (kindB k).toList = [] := by
  have hc : k = 1 ∨ k = 2 ∨ k = 3 ∨ k = 4 ∨ k = 5 ∨ k = 6 := by omega
  rcases hc with rfl | rfl | rfl | rfl | rfl | rfl <;> (rw [ByteArray.toList_eq]; decide +kernel)
theorem kind0 : kindB (0 : Nat) = ⟨#[]⟩ := rfl

set_option maxHeartbeats 1000000 in
theorem kind_any (X : ByteArray) (w : World) : Calls Tryz.prog 5 #[.string X] w fun e w' => e = .returned (.tuple #[.int .i64 (kindOf X), .bool (decide (kindOf X ≠ 0))]) ∧ Only Nil w w' := by
  have HH := Lib.hid (fun (k : Nat) (hk : 1 ≤ k ∧ k ≤ 6) (h : X = kindB k) => kind_hit hk h)
  have HNo := Lib.hid (kind_no (X := X))
  go_enter Tryz.func5, Tryz.ntmps5
  go_wp2_with fail
  refine (names_any _).mono ?_
  rintro e w1 ⟨g, rfl, hg, hR, hO⟩
  have HO := Lib.hid hO
  have HR := Lib.hid hR
  clear hO hg hR
  go_wp2
  go_loop [8] (fun i => ∃ k : Nat, k ≤ 7 ∧ i = .int .i64 k ∧ Hid (∀ j : Nat, 1 ≤ j → j < k → X ≠ kindB j)) (fun i => 7 - (intOf i).toNat)
  case atStart => exact ⟨0, by omega, rfl, Lib.hid (fun j h1 h2 => absurd h2 (by omega))⟩
  case round =>
    obtain ⟨k, hk, rfl, HD⟩ := hrel
    by_cases hlt : k < 7
    · have hc := HR.out.cell_ (i := k) (kindVs_at hlt)
      have hq := beq_str (kindB k) X
      by_cases hk0 : k = 0
      · subst hk0
        have HD1 : Hid (∀ j : Nat, 1 ≤ j → j < 1 → X ≠ kindB j) := Lib.hid (fun j h1 h2 => absurd h2 (by omega))
        rw [kind0] at hc hq
        clear hlt hk HD
        by_cases he : (⟨#[]⟩ : ByteArray) = X
        · subst he
          go_wp2
          exact ⟨⟨1, by omega, rfl, HD1⟩, by simp [intOf]⟩
        · rw [decide_eq_false he] at hq
          have h2 : ¬ X.toList = [] := fun e => he (by
            rw [ByteArray.toList_eq] at e
            exact ByteArray.ext (Array.ext' e.symm))
          have h3 : X.toList.isEmpty = false := by cases hx : X.toList <;> simp_all
          clear he
          go_wp2
          exact ⟨⟨1, by omega, rfl, HD1⟩, by simp [intOf]⟩
      · have h2 := kind_empty (k := k) (by omega)
        have h3 : (kindB k).toList.isEmpty = false := by cases hx : (kindB k).toList <;> simp_all
        have HE := Lib.hid (show kindB k = kindB k from rfl)
        by_cases he : kindB k = X
        · rw [decide_eq_true he] at hq
          have HK := Lib.hid (HH.out k (by omega) he.symm)
          generalize kindB k = Y at *
          clear he
          go_wp2
          go_returns
          exact ⟨by
            rw [HK.out, decide_eq_false (show ¬ (k : Int) = 0 by omega)]
            rfl, HO.out⟩
        · rw [decide_eq_false he] at hq
          have HD1 : Hid (∀ j : Nat, 1 ≤ j → j < k + 1 → X ≠ kindB j) := Lib.hid (fun j h1 h2 => by
            rcases Nat.lt_or_ge j k with h | h
            · exact HD.out j h1 h
            · obtain rfl : j = k := by omega
              exact fun e => he e.symm)
          generalize kindB k = Y at *
          clear he
          go_wp2
          exact ⟨⟨k + 1, by omega, by go_num, HD1⟩, by simp [intOf]; omega⟩
    · obtain rfl : k = 7 := by omega
      have HK := Lib.hid (HNo.out HD.out)
      go_wp2
      go_returns
      exact ⟨by rw [HK.out]; rfl, HO.out⟩
end Go.Proofs.YtikgjfapkcjliaaGreat
