/- The suite's names of kinds. -/
import Derived.Test.YtikgjfapkcjliaaGreatKit
import Derived.Test.YtikgjfapkcjliaaGreatChecked
import Derived.Maps.Own
set_option linter.unusedVariables false
set_option linter.unusedSimpArgs false
namespace Go.Proofs.YtikgjfapkcjliaaGreat
open Go.RowKit

/-- A kind's name. -/
def kindB (k : Int) : ByteArray :=
  if k = 1 then ⟨#[116, 97, 115, 107, 45, 102, 97, 105, 114]⟩
  else if k = 2 then ⟨#[112, 104, 97, 115, 101, 45, 102, 97, 105, 114]⟩
  else if k = 3 then ⟨#[112, 104, 97, 115, 101, 45, 113, 117, 101, 117, 101]⟩
  else if k = 4 then ⟨#[102, 97, 105, 114, 45, 113, 117, 101, 117, 101]⟩
  else if k = 5 then ⟨#[114, 101, 97, 100, 101, 114, 115, 45, 102, 105, 114, 115, 116]⟩
  else if k = 6 then ⟨#[119, 114, 105, 116, 101, 114, 115, 45, 102, 105, 114, 115, 116]⟩
  else ⟨#[]⟩
def kindVs : Array Value := #[.string ⟨#[]⟩, .string (kindB 1), .string (kindB 2), .string (kindB 3), .string (kindB 4), .string (kindB 5), .string (kindB 6)]
theorem kindB_none {k : Int} (h : ¬ (1 ≤ k ∧ k ≤ 6)) : kindB k = ⟨#[]⟩ := by
  unfold kindB
  rw [if_neg (by omega), if_neg (by omega), if_neg (by omega), if_neg (by omega), if_neg (by omega), if_neg (by omega)]
/-- The names in a list of the call's own. -/
def KindsAt (w : World) (e : Ending) (w' : World) : Prop :=
  ∃ g, e = .returned (.slice (some ⟨g, 0, none⟩) 7 7) ∧ w.heap.size ≤ g ∧ Row w' g 9 kindVs ∧ Only Nil w w'

theorem names_any (w : World) : Calls Tryz.prog 11 #[] w (KindsAt w) := by
  go_enter Tryz.func11, Tryz.ntmps11
  go_wp2
  go_ret
  exact ⟨_, rfl, Nat.le_refl _, Row.new _ _ _, (Only.refl _ _).alloc _⟩

set_option maxHeartbeats 1000000 in
theorem name_any (k : Int) (w : World) : Calls Tryz.prog 8 #[.int .i64 k] w fun e w' => e = .returned (.string (kindB k)) ∧ Only Nil w w' := by
  go_enter Tryz.func8, Tryz.ntmps8
  go_wp2_with fail
  refine (names_any _).mono ?_
  rintro e w1 ⟨g, rfl, hg, hR, hO⟩
  have HO := Lib.hid hO
  clear hO hg
  by_cases hk : 0 ≤ k ∧ k ≤ 6
  · obtain ⟨k0, k6⟩ := hk
    have hc : k = 0 ∨ k = 1 ∨ k = 2 ∨ k = 3 ∨ k = 4 ∨ k = 5 ∨ k = 6 := by omega
    rcases hc with rfl | rfl | rfl | rfl | rfl | rfl | rfl
    · skip
      have c0 : w1.cell? ⟨g, 0, none⟩ = some (.string (kindB 0)) := hR.cell_ (i := 0) rfl
      clear hR
      obtain ⟨X, hX⟩ : ∃ X, kindB 0 = X := ⟨_, rfl⟩
      rw [hX] at c0
      have HX := Lib.hid hX
      clear hX
      go_wp2
      go_ret
      exact ⟨by rw [HX.out]; rfl, HO.out⟩
    · skip
      have c0 : w1.cell? ⟨g, 1, none⟩ = some (.string (kindB 1)) := hR.cell_ (i := 1) rfl
      clear hR
      obtain ⟨X, hX⟩ : ∃ X, kindB 1 = X := ⟨_, rfl⟩
      rw [hX] at c0
      have HX := Lib.hid hX
      clear hX
      go_wp2
      go_ret
      exact ⟨by rw [HX.out]; rfl, HO.out⟩
    · skip
      have c0 : w1.cell? ⟨g, 2, none⟩ = some (.string (kindB 2)) := hR.cell_ (i := 2) rfl
      clear hR
      obtain ⟨X, hX⟩ : ∃ X, kindB 2 = X := ⟨_, rfl⟩
      rw [hX] at c0
      have HX := Lib.hid hX
      clear hX
      go_wp2
      go_ret
      exact ⟨by rw [HX.out]; rfl, HO.out⟩
    · skip
      have c0 : w1.cell? ⟨g, 3, none⟩ = some (.string (kindB 3)) := hR.cell_ (i := 3) rfl
      clear hR
      obtain ⟨X, hX⟩ : ∃ X, kindB 3 = X := ⟨_, rfl⟩
      rw [hX] at c0
      have HX := Lib.hid hX
      clear hX
      go_wp2
      go_ret
      exact ⟨by rw [HX.out]; rfl, HO.out⟩
    · skip
      have c0 : w1.cell? ⟨g, 4, none⟩ = some (.string (kindB 4)) := hR.cell_ (i := 4) rfl
      clear hR
      obtain ⟨X, hX⟩ : ∃ X, kindB 4 = X := ⟨_, rfl⟩
      rw [hX] at c0
      have HX := Lib.hid hX
      clear hX
      go_wp2
      go_ret
      exact ⟨by rw [HX.out]; rfl, HO.out⟩
    · skip
      have c0 : w1.cell? ⟨g, 5, none⟩ = some (.string (kindB 5)) := hR.cell_ (i := 5) rfl
      clear hR
      obtain ⟨X, hX⟩ : ∃ X, kindB 5 = X := ⟨_, rfl⟩
      rw [hX] at c0
      have HX := Lib.hid hX
      clear hX
      go_wp2
      go_ret
      exact ⟨by rw [HX.out]; rfl, HO.out⟩
    · skip
      have c0 : w1.cell? ⟨g, 6, none⟩ = some (.string (kindB 6)) := hR.cell_ (i := 6) rfl
      clear hR
      obtain ⟨X, hX⟩ : ∃ X, kindB 6 = X := ⟨_, rfl⟩
      rw [hX] at c0
      have HX := Lib.hid hX
      clear hX
      go_wp2
      go_ret
      exact ⟨by rw [HX.out]; rfl, HO.out⟩
  · have HX := Lib.hid (kindB_none (k := k) (by omega))
    clear hR
    by_cases hn : k < 0
    · go_wp2
      go_ret
      exact ⟨by rw [HX.out]; rfl, HO.out⟩
    · have h7 : 7 ≤ k := by omega
      clear hk
      go_wp2
      go_ret
      exact ⟨by rw [HX.out]; rfl, HO.out⟩
end Go.Proofs.YtikgjfapkcjliaaGreat
