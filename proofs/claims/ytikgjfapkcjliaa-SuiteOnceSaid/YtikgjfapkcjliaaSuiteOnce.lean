/- SuiteOnce: the walk. -/
import Derived.Test.YtikgjfapkcjliaaSuiteAt
import Derived.Test.YtikgjfapkcjliaaSuiteAw
import Derived.Deep.Cut
set_option linter.unusedVariables false
set_option linter.unusedSimpArgs false
namespace Go.Proofs.Ytikgjfapkcjliaa
open Go.RowKit

/-- How many holdings below h let the operation begin. -/
def cntI (o : Int) : Nat → Int
  | 0 => 0
  | h + 1 => cntI o h + (if mayI o h then 1 else 0)
/-- May one of the operations 1 to k be begun by one that holds h? -/
def someI (h : Int) : Nat → Bool
  | 0 => false
  | k + 1 => someI h k || mayI (k + 1) h
theorem may_of {o h : Int} (hm : mayI o h = true) : (h = 0 ∨ h = 1 ∨ h = 2) ∧ 1 ≤ o ∧ o ≤ 8 := by
  rcases op_cases o with rfl | rfl | rfl | rfl | rfl | rfl | rfl | rfl | hn
  all_goals (try (rw [may_none hn] at hm; cases hm))
  all_goals
    have e := of_decide_eq_true hm
    omega
theorem some_8 {h : Int} (hh : h = 0 ∨ h = 1 ∨ h = 2) : someI h 8 = true := by
  rcases hh with rfl | rfl | rfl <;> rfl
theorem cnt_3 {o : Int} (ho : 1 ≤ o ∧ o ≤ 8) : cntI o 3 = 1 := by
  have hc : o = 1 ∨ o = 2 ∨ o = 3 ∨ o = 4 ∨ o = 5 ∨ o = 6 ∨ o = 7 ∨ o = 8 := by omega
  rcases hc with rfl | rfl | rfl | rfl | rfl | rfl | rfl | rfl <;> rfl
theorem behind_in {o r h : Int} (hm : mayI o h = true) : behI o r (atI o h) = 0 ∨ behI o r (atI o h) = 1 ∨ behI o r (atI o h) = 2 := by
  have hh := may_of hm
  have ha : atI o h = 0 ∨ atI o h = 1 ∨ atI o h = 2 := by
    unfold atI
    split
    · omega
    · split <;> omega
  unfold behI
  split
  · split
    · omega
    · split
      · omega
      · exact ha
  · exact ha

set_option maxRecDepth 100000 in
set_option maxHeartbeats 2000000 in
theorem walk_suiteOnce (a0 a1 : Int) (w : World) (w0 : (Lit.int .u8 a0).wf = true) (w1 : (Lit.int .u8 a1).wf = true) :
    Calls Try.prog 3 #[.int .u8 a0, .int .u8 a1] w fun e w' => e = .returned (.bool true) ∧ Only Nil w w' := by
  obtain ⟨n0, n1⟩ := wf_u8 w0
  obtain ⟨r0, r1⟩ := wf_u8 w1
  clear w0 w1
  have ho : 1 ≤ 1 + a0 % 8 ∧ 1 + a0 % 8 ≤ 8 := by omega
  have HC := Lib.hid (cnt_3 ho)
  go_enter Try.func3, Try.ntmps3
  go_wp2
  go_loopw [6, 7] (fun nv hv wr => ∃ h : Nat, h ≤ 3 ∧ hv = .int .i64 h ∧ nv = .int .i64 (cntI (1 + a0 % 8) h) ∧ Only Nil w wr) (fun _ hv _ => 3 - (intOf hv).toNat)
  case atStart => exact ⟨0, by omega, rfl, rfl, Only.refl _ _⟩
  case round =>
    obtain ⟨h, hh, rfl, rfl, hO⟩ := hrel
    have HO := Lib.hid hO
    clear hO
    generalize 1 + a0 % 8 = o at *
    clear n0 n1
    by_cases hlt : h < 3
    · have HN := Lib.hid (show cntI o (h + 1) = cntI o h + (if mayI o h then 1 else 0) from rfl)
      have HB := Lib.hid (show mayI o h = true → someI (behI o (a1 % 4) (atI o h)) 8 = true from fun hm => some_8 (behind_in hm))
      have HQ := Lib.hid (show 0 ≤ cntI o h ∧ cntI o h ≤ 3 by
        have h1 : 0 ≤ cntI o h ∧ cntI o h ≤ h := by
          clear HN HB HO hlt hh HC
          induction h with
          | zero => exact ⟨Int.le_refl _, Int.le_refl _⟩
          | succ h ih =>
            unfold cntI
            split <;> omega
        omega)
      go_wp2_with fail
      refine (may_any _ _ _).mono ?_
      generalize mayI o h = mm at *
      rintro e w3 ⟨rfl, rfl⟩
      obtain ⟨q1, q2⟩ := HQ.out
      cases mm
      · go_wp2
        go_roundw
        case rel => exact ⟨h + 1, by omega, by go_num, by rw [HN.out]; simp, HO.out⟩
        case measure => simp [intOf]; omega
      · have HS8 := Lib.hid (HB.out rfl)
        clear HB
        go_wp2_with fail
        refine (at_any _ _ _).mono ?_
        rintro e w3 ⟨rfl, rfl⟩
        go_wp2_with fail
        refine (beh_any _ _ _ _).mono ?_
        generalize behI o (a1 % 4) (atI o h) = H at *
        rintro e w3 ⟨rfl, rfl⟩
        generalize cntI o h = N at *
        go_upto_region 11 with (fail)
        obtain ⟨wo, rfl⟩ : ∃ wo : World, wo = wr := ⟨_, rfl⟩
        go_loop [9, 10] (fun bv iv => ∃ j : Nat, j ≤ 8 ∧ iv = .int .i64 ((j : Int) + 1) ∧ bv = .bool (someI H j)) (fun _ iv => 9 - (intOf iv).toNat)
        case atStart => exact ⟨0, by omega, rfl, rfl⟩
        case round =>
          obtain ⟨j, hj, rfl, rfl⟩ := hrel
          by_cases hlj : j < 8
          · have HS := Lib.hid (show someI H (j + 1) = (someI H j || mayI ((j : Int) + 1) H) from rfl)
            generalize someI H j = bb at *
            cases bb
            · go_wp2_with fail
              refine (may_any _ _ _).mono ?_
              rintro e w3 ⟨rfl, rfl⟩
              go_wp2
              go_round
              case rel => exact ⟨j + 1, by omega, by go_num, by rw [HS.out]; rfl⟩
              case measure => simp [intOf]; omega
            · go_wp2
              go_round
              case rel => exact ⟨j + 1, by omega, by go_num, by rw [HS.out]; rfl⟩
              case measure => simp [intOf]; omega
          · obtain rfl : j = 8 := by omega
            rw [HS8.out]
            go_wp2
            go_roundw
            case rel => exact ⟨h + 1, by omega, by go_num, by rw [HN.out]; simp, HO.out⟩
            case measure => simp [intOf]; omega
    · obtain rfl : h = 3 := by omega
      rw [HC.out]
      go_wp2_with fail
      refine (awake_any _).mono ?_
      rintro e w3 ⟨rfl, hO⟩
      have HO2 := Lib.hid (HO.out.trans hO)
      clear hO
      go_wp2
      go_ret
      exact ⟨rfl, HO2.out⟩
end Go.Proofs.Ytikgjfapkcjliaa
