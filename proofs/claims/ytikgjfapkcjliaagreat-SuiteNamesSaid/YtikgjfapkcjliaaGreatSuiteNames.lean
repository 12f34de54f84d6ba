/- SuiteNames: the walk. -/
import Derived.Test.YtikgjfapkcjliaaGreatSuiteAw
import Derived.Test.YtikgjfapkcjliaaGreatSuiteK
import Derived.Test.YtikgjfapkcjliaaGreatSuiteRN
import Derived.Test.YtikgjfapkcjliaaGreatSuiteL
import Derived.KernelRfl
set_option linter.unusedVariables false
set_option linter.unusedSimpArgs false
namespace Go.Proofs.YtikgjfapkcjliaaGreat
open Go.RowKit

/-- The last one of the first j kinds with that name; 0: none. -/
def wantI (X : ByteArray) : Nat → Int
  | 0 => 0
  | j + 1 => if kindB ((j : Int) + 1) = X then (j : Int) + 1 else wantI X j
def isI (X : ByteArray) : Nat → Bool
  | 0 => false
  | j + 1 => if kindB ((j : Int) + 1) = X then true else isI X j
theorem want_hit (k : Nat) (hk : 1 ≤ k ∧ k ≤ 6) : wantI (kindB k) 6 = kindOf (kindB k) ∧ isI (kindB k) 6 = decide (kindOf (kindB k) ≠ 0) := by
  have hc : k = 1 ∨ k = 2 ∨ k = 3 ∨ k = 4 ∨ k = 5 ∨ k = 6 := by omega
  rcases hc with rfl | rfl | rfl | rfl | rfl | rfl <;> decide +kernel
theorem want_6 (X : ByteArray) : wantI X 6 = kindOf X ∧ isI X 6 = decide (kindOf X ≠ 0) := by
  by_cases h : ∃ k : Nat, (1 ≤ k ∧ k ≤ 6) ∧ X = kindB k
  · obtain ⟨k, hk, rfl⟩ := h
    exact want_hit k hk
  · have hn : ∀ j : Nat, 1 ≤ j → j < 7 → X ≠ kindB j := fun j h1 h2 e => h ⟨j, ⟨h1, by omega⟩, e⟩
    rw [kind_no hn]
    have hw : ∀ j : Nat, j ≤ 6 → wantI X j = 0 ∧ isI X j = false := by
      intro j
      induction j with
      | zero => exact fun _ => ⟨rfl, rfl⟩
      | succ j ih =>
        intro hj
        have hne : ¬ kindB ((j : Int) + 1) = X := fun e => hn (j + 1) (by omega) (by omega) e.symm
        unfold wantI isI
        rw [if_neg hne, if_neg hne]
        exact ih (by omega)
    exact ⟨(hw 6 (by omega)).1, (hw 6 (by omega)).2⟩
theorem linesF_none {k : Int} (hk : ¬ (1 ≤ k ∧ k ≤ 6)) : linesF k = .nilFunc := by
  unfold linesF
  rw [if_neg (by omega), if_neg (by omega), if_neg (by omega), if_neg (by omega), if_neg (by omega), if_neg (by omega)]

set_option maxRecDepth 100000 in
theorem neq_nilG (w : World) : (binOp .neq 26 .nilFunc .nilFunc).run Tryz.prog w = .ok (.bool false) w := by
  first | rfl | kernel_rfl
set_option maxRecDepth 100000 in
theorem neq_fnG (f : Fn) (first cap : Array Value) (w : World) : (binOp .neq 26 (.func f first cap) .nilFunc).run Tryz.prog w = .ok (.bool true) w := by
  first | rfl | kernel_rfl
set_option maxRecDepth 100000 in
set_option maxHeartbeats 2000000 in
theorem walk_suiteNames (k : Int) (X : ByteArray) (w : World) (hk : (Lit.int .i64 k).wf = true) (hX : X.size ≤ maxLen) :
    Calls Tryz.prog 3 #[.int .i64 k, .string X] w fun e w' => e = .returned (.bool true) ∧ Only Nil w w' := by
  have HOX := Lib.hid (Only.refl Nil w)
  go_enter Tryz.func3, Tryz.ntmps3
  by_cases hs : 100 < X.size
  · skip
    go_wp2_with fail
    refine (awake_any _).mono ?_
    rintro e w9 ⟨rfl, hO⟩
    have HO9 := Lib.hid (HOX.out.trans hO)
    clear hO
    go_wp2
    go_ret
    exact ⟨rfl, HO9.out⟩
  · have hs2 : X.size ≤ 100 := by omega
    have HS := Lib.hid hs2
    go_wp2_with fail
    refine (kind_any X _).mono ?_
    obtain ⟨e1, e2⟩ := want_6 X
    rw [← e2, ← e1]
    clear e1 e2
    rintro e w1 ⟨rfl, hO⟩
    have HO1 := Lib.hid hO
    clear hO HOX hs hs2
    have HK := Lib.hid (And.intro (show wantI X 6 = wantI X 6 from rfl) (show isI X 6 = isI X 6 from rfl))
    obtain ⟨K, hK⟩ : ∃ K, wantI X 6 = K := ⟨_, rfl⟩
    obtain ⟨Bk, hB⟩ : ∃ Bk, isI X 6 = Bk := ⟨_, rfl⟩
    rw [hK, hB]
    have HKB := Lib.hid (And.intro hK hB)
    clear hK hB HK
    go_wp2
    go_loopw [7, 8, 9] (fun nv bv iv wr => ∃ j : Nat, j ≤ 6 ∧ iv = .int .i64 ((j : Int) + 1) ∧ nv = .int .i64 (wantI X j) ∧ bv = .bool (isI X j) ∧ wr = w1) (fun _ _ iv _ => 7 - (intOf iv).toNat)
    case atStart => exact ⟨0, by omega, rfl, rfl, rfl, rfl⟩
    case round =>
      obtain ⟨j, hj, rfl, rfl, rfl, rfl⟩ := hrel
      by_cases hlt : j < 6
      · have HW := Lib.hid (show wantI X (j + 1) = if kindB ((j : Int) + 1) = X then (j : Int) + 1 else wantI X j from rfl)
        have HI := Lib.hid (show isI X (j + 1) = if kindB ((j : Int) + 1) = X then true else isI X j from rfl)
        go_wp2_with fail
        refine (rname_any _ _).mono ?_
        rintro e w2 ⟨rfl, rfl⟩
        have hq := beq_str (kindB ((j : Int) + 1)) X
        by_cases he : kindB ((j : Int) + 1) = X
        · rw [decide_eq_true he] at hq
          have HW2 := Lib.hid (HW.out.trans (if_pos he))
          have HI2 := Lib.hid (HI.out.trans (if_pos he))
          clear he HW HI
          generalize kindB ((j : Int) + 1) = Y at *
          go_wp2
          go_roundw
          case rel => exact ⟨j + 1, by omega, by go_num, by rw [HW2.out], by rw [HI2.out], trivial⟩
          case measure => simp [intOf]; omega
        · rw [decide_eq_false he] at hq
          have HW2 := Lib.hid (HW.out.trans (if_neg he))
          have HI2 := Lib.hid (HI.out.trans (if_neg he))
          clear he HW HI
          generalize kindB ((j : Int) + 1) = Y at *
          go_wp2
          go_roundw
          case rel => exact ⟨j + 1, by omega, by go_num, by rw [HW2.out], by rw [HI2.out], trivial⟩
          case measure => simp [intOf]; omega
      · obtain rfl : j = 6 := by omega
        rw [HKB.out.1, HKB.out.2]
        go_wp2_with fail
        refine (lines_any k _).mono ?_
        clear hlt hj HKB
        by_cases hk : 1 ≤ k ∧ k ≤ 6
        · have hc : k = 1 ∨ k = 2 ∨ k = 3 ∨ k = 4 ∨ k = 5 ∨ k = 6 := by omega
          rw [decide_eq_true hk]
          clear hk
          rcases hc with rfl | rfl | rfl | rfl | rfl | rfl
          · skip
            rw [show linesF 1 = .func (.func 12) #[] #[] from rfl]
            have h2 := kind_empty (k := 1) (by omega)
            have h3 : (kindB (1 : Nat)).toList.isEmpty = false := by cases hx : (kindB (1 : Nat)).toList <;> simp_all
            obtain ⟨Y, hY⟩ : ∃ Y, kindB (1 : Nat) = Y := ⟨_, rfl⟩
            rw [hY] at h2 h3
            replace hY : kindB 1 = Y := hY
            have hf := fun w => neq_fnG (.func 12) #[] #[] w
            have hq : (Y.toList == Y.toList) = true := by rw [beq_str, decide_eq_true rfl]
            rintro e w2 ⟨rfl, rfl⟩
            go_wp2_with fail
            refine (name_any 1 _).mono ?_
            rw [hY]
            rintro e w3 ⟨rfl, hO⟩
            have HOX := Lib.hid (HO1.out.trans hO)
            clear hO
            go_wp2_with fail
            refine (rname_any 1 _).mono ?_
            rw [hY]
            rintro e w4 ⟨rfl, rfl⟩
            go_wp2_with fail
            refine (rname_any 1 _).mono ?_
            rw [hY]
            rintro e w5 ⟨rfl, rfl⟩
            go_wp2_with fail
            refine (awake_any _).mono ?_
            rintro e w9 ⟨rfl, hO⟩
            have HO9 := Lib.hid (HOX.out.trans hO)
            clear hO
            go_wp2
            go_ret
            exact ⟨rfl, HO9.out⟩
          · skip
            rw [show linesF 2 = .func (.func 13) #[] #[] from rfl]
            have h2 := kind_empty (k := 2) (by omega)
            have h3 : (kindB (2 : Nat)).toList.isEmpty = false := by cases hx : (kindB (2 : Nat)).toList <;> simp_all
            obtain ⟨Y, hY⟩ : ∃ Y, kindB (2 : Nat) = Y := ⟨_, rfl⟩
            rw [hY] at h2 h3
            replace hY : kindB 2 = Y := hY
            have hf := fun w => neq_fnG (.func 13) #[] #[] w
            have hq : (Y.toList == Y.toList) = true := by rw [beq_str, decide_eq_true rfl]
            rintro e w2 ⟨rfl, rfl⟩
            go_wp2_with fail
            refine (name_any 2 _).mono ?_
            rw [hY]
            rintro e w3 ⟨rfl, hO⟩
            have HOX := Lib.hid (HO1.out.trans hO)
            clear hO
            go_wp2_with fail
            refine (rname_any 2 _).mono ?_
            rw [hY]
            rintro e w4 ⟨rfl, rfl⟩
            go_wp2_with fail
            refine (rname_any 2 _).mono ?_
            rw [hY]
            rintro e w5 ⟨rfl, rfl⟩
            go_wp2_with fail
            refine (awake_any _).mono ?_
            rintro e w9 ⟨rfl, hO⟩
            have HO9 := Lib.hid (HOX.out.trans hO)
            clear hO
            go_wp2
            go_ret
            exact ⟨rfl, HO9.out⟩
          · skip
            rw [show linesF 3 = .func (.func 14) #[] #[] from rfl]
            have h2 := kind_empty (k := 3) (by omega)
            have h3 : (kindB (3 : Nat)).toList.isEmpty = false := by cases hx : (kindB (3 : Nat)).toList <;> simp_all
            obtain ⟨Y, hY⟩ : ∃ Y, kindB (3 : Nat) = Y := ⟨_, rfl⟩
            rw [hY] at h2 h3
            replace hY : kindB 3 = Y := hY
            have hf := fun w => neq_fnG (.func 14) #[] #[] w
            have hq : (Y.toList == Y.toList) = true := by rw [beq_str, decide_eq_true rfl]
            rintro e w2 ⟨rfl, rfl⟩
            go_wp2_with fail
            refine (name_any 3 _).mono ?_
            rw [hY]
            rintro e w3 ⟨rfl, hO⟩
            have HOX := Lib.hid (HO1.out.trans hO)
            clear hO
            go_wp2_with fail
            refine (rname_any 3 _).mono ?_
            rw [hY]
            rintro e w4 ⟨rfl, rfl⟩
            go_wp2_with fail
            refine (rname_any 3 _).mono ?_
            rw [hY]
            rintro e w5 ⟨rfl, rfl⟩
            go_wp2_with fail
            refine (awake_any _).mono ?_
            rintro e w9 ⟨rfl, hO⟩
            have HO9 := Lib.hid (HOX.out.trans hO)
            clear hO
            go_wp2
            go_ret
            exact ⟨rfl, HO9.out⟩
          · skip
            rw [show linesF 4 = .func (.func 15) #[] #[] from rfl]
            have h2 := kind_empty (k := 4) (by omega)
            have h3 : (kindB (4 : Nat)).toList.isEmpty = false := by cases hx : (kindB (4 : Nat)).toList <;> simp_all
            obtain ⟨Y, hY⟩ : ∃ Y, kindB (4 : Nat) = Y := ⟨_, rfl⟩
            rw [hY] at h2 h3
            replace hY : kindB 4 = Y := hY
            have hf := fun w => neq_fnG (.func 15) #[] #[] w
            have hq : (Y.toList == Y.toList) = true := by rw [beq_str, decide_eq_true rfl]
            rintro e w2 ⟨rfl, rfl⟩
            go_wp2_with fail
            refine (name_any 4 _).mono ?_
            rw [hY]
            rintro e w3 ⟨rfl, hO⟩
            have HOX := Lib.hid (HO1.out.trans hO)
            clear hO
            go_wp2_with fail
            refine (rname_any 4 _).mono ?_
            rw [hY]
            rintro e w4 ⟨rfl, rfl⟩
            go_wp2_with fail
            refine (rname_any 4 _).mono ?_
            rw [hY]
            rintro e w5 ⟨rfl, rfl⟩
            go_wp2_with fail
            refine (awake_any _).mono ?_
            rintro e w9 ⟨rfl, hO⟩
            have HO9 := Lib.hid (HOX.out.trans hO)
            clear hO
            go_wp2
            go_ret
            exact ⟨rfl, HO9.out⟩
          · skip
            rw [show linesF 5 = .func (.func 16) #[] #[] from rfl]
            have h2 := kind_empty (k := 5) (by omega)
            have h3 : (kindB (5 : Nat)).toList.isEmpty = false := by cases hx : (kindB (5 : Nat)).toList <;> simp_all
            obtain ⟨Y, hY⟩ : ∃ Y, kindB (5 : Nat) = Y := ⟨_, rfl⟩
            rw [hY] at h2 h3
            replace hY : kindB 5 = Y := hY
            have hf := fun w => neq_fnG (.func 16) #[] #[] w
            have hq : (Y.toList == Y.toList) = true := by rw [beq_str, decide_eq_true rfl]
            rintro e w2 ⟨rfl, rfl⟩
            go_wp2_with fail
            refine (name_any 5 _).mono ?_
            rw [hY]
            rintro e w3 ⟨rfl, hO⟩
            have HOX := Lib.hid (HO1.out.trans hO)
            clear hO
            go_wp2_with fail
            refine (rname_any 5 _).mono ?_
            rw [hY]
            rintro e w4 ⟨rfl, rfl⟩
            go_wp2_with fail
            refine (rname_any 5 _).mono ?_
            rw [hY]
            rintro e w5 ⟨rfl, rfl⟩
            go_wp2_with fail
            refine (awake_any _).mono ?_
            rintro e w9 ⟨rfl, hO⟩
            have HO9 := Lib.hid (HOX.out.trans hO)
            clear hO
            go_wp2
            go_ret
            exact ⟨rfl, HO9.out⟩
          · skip
            rw [show linesF 6 = .func (.func 17) #[] #[] from rfl]
            have h2 := kind_empty (k := 6) (by omega)
            have h3 : (kindB (6 : Nat)).toList.isEmpty = false := by cases hx : (kindB (6 : Nat)).toList <;> simp_all
            obtain ⟨Y, hY⟩ : ∃ Y, kindB (6 : Nat) = Y := ⟨_, rfl⟩
            rw [hY] at h2 h3
            replace hY : kindB 6 = Y := hY
            have hf := fun w => neq_fnG (.func 17) #[] #[] w
            have hq : (Y.toList == Y.toList) = true := by rw [beq_str, decide_eq_true rfl]
            rintro e w2 ⟨rfl, rfl⟩
            go_wp2_with fail
            refine (name_any 6 _).mono ?_
            rw [hY]
            rintro e w3 ⟨rfl, hO⟩
            have HOX := Lib.hid (HO1.out.trans hO)
            clear hO
            go_wp2_with fail
            refine (rname_any 6 _).mono ?_
            rw [hY]
            rintro e w4 ⟨rfl, rfl⟩
            go_wp2_with fail
            refine (rname_any 6 _).mono ?_
            rw [hY]
            rintro e w5 ⟨rfl, rfl⟩
            go_wp2_with fail
            refine (awake_any _).mono ?_
            rintro e w9 ⟨rfl, hO⟩
            have HO9 := Lib.hid (HOX.out.trans hO)
            clear hO
            go_wp2
            go_ret
            exact ⟨rfl, HO9.out⟩
        · rw [decide_eq_false hk, show linesF k = .nilFunc from linesF_none hk]
          have hY := kindB_none hk
          have hf := neq_nilG
          have hq : (((⟨#[]⟩ : ByteArray)).toList == ((⟨#[]⟩ : ByteArray)).toList) = true := by decide +kernel
          rintro e w2 ⟨rfl, rfl⟩
          go_wp2_with fail
          refine (name_any k _).mono ?_
          rw [hY]
          rintro e w3 ⟨rfl, hO⟩
          have HOX := Lib.hid (HO1.out.trans hO)
          clear hO
          go_wp2_with fail
          refine (rname_any k _).mono ?_
          rw [hY]
          rintro e w4 ⟨rfl, rfl⟩
          go_wp2_with fail
          refine (rname_any k _).mono ?_
          rw [hY]
          rintro e w5 ⟨rfl, rfl⟩
          go_wp2_with fail
          refine (awake_any _).mono ?_
          rintro e w9 ⟨rfl, hO⟩
          have HO9 := Lib.hid (HOX.out.trans hO)
          clear hO
          go_wp2
          go_ret
          exact ⟨rfl, HO9.out⟩
end Go.Proofs.YtikgjfapkcjliaaGreat
