/- Contracts of diff: Ahead, isField, low, Get, Put, Bump. -/
import Derived.Test.YteigkgfmmcaieaaProg
import Derived.Test.YteigkgfmmcaieaaKit
import Derived.Test.YteigkgfmmcaieaaDiffM
import Derived.Laws.Shifts
import Derived.IntWalk
namespace Go.Proofs.Yteigkgfmmcaieaa
open Go.RowKit

theorem ahead_bd (a b : Int) : -2147483648 ≤ aheadI a b ∧ aheadI a b < 2147483648 := by unfold aheadI; omega

theorem ahead_any (a b : Int) (w : World) :
    Calls Try.prog 8 #[.int .u32 a, .int .u32 b] w fun e w' => e = .returned (.int .i64 (aheadI a b)) ∧ w = w' := by
  go_enter Try.func8, Try.ntmps8
  go_wp2
  go_ret
  refine ⟨congrArg (fun x => Ending.returned (.int .i64 x)) ?_, rfl⟩
  simp only [wrap32, wrap64, aheadI]
  omega

theorem isField_any (s n : Int) (w : World) :
    Calls Try.prog 21 #[.int .i64 s, .int .i64 n] w fun e w' => e = .returned (.bool (isF s n)) ∧ w = w' := by
  by_cases h : 0 ≤ s ∧ s ≤ 31 ∧ 1 ≤ n ∧ n ≤ 32
  · obtain ⟨h1, h2, h3, h4⟩ := h
    have e : isF s n = decide (s + n ≤ 32) := by simp [isF, h1, h2, h3, h4]
    have E := Lib.hid e
    clear e
    go_enter Try.func21, Try.ntmps21
    go_wp2
    go_ret
    exact ⟨by rw [E.out]; rfl, rfl⟩
  · have e : isF s n = false := by
      have : ¬ (0 ≤ s ∧ s ≤ 31 ∧ 1 ≤ n ∧ n ≤ 32 ∧ s + n ≤ 32) := by omega
      simp [isF, this]
    have E := Lib.hid e
    have H := Lib.hid h
    clear e h
    by_cases h1 : 0 ≤ s
    · by_cases h2 : s ≤ 31
      · by_cases h3 : 1 ≤ n
        · have h4 : 32 < n := by have := H.out; omega
          go_enter Try.func21, Try.ntmps21
          go_wp2
          go_ret
          exact ⟨by rw [E.out]; rfl, rfl⟩
        · have h4 : n < 1 := by omega
          go_enter Try.func21, Try.ntmps21
          go_wp2
          go_ret
          exact ⟨by rw [E.out]; rfl, rfl⟩
      · have h4 : 31 < s := by omega
        go_enter Try.func21, Try.ntmps21
        go_wp2
        go_ret
        exact ⟨by rw [E.out]; rfl, rfl⟩
    · have h4 : s < 0 := by omega
      go_enter Try.func21, Try.ntmps21
      go_wp2
      go_ret
      exact ⟨by rw [E.out]; rfl, rfl⟩

theorem low_any (n : Int) (w : World) (h : 1 ≤ n ∧ n ≤ 32) :
    Calls Try.prog 22 #[.int .i64 n] w fun e w' => e = .returned (.int .u32 (pw n - 1)) ∧ w = w' := by
  have E := Lib.hid (ones_shr h)
  obtain ⟨h1, h2⟩ := h
  go_enter Try.func22, Try.ntmps22
  go_wp2
  go_ret
  exact ⟨congrArg (fun x => Ending.returned (.int .u32 x)) E.out, rfl⟩

theorem isField_yes (s n : Int) (w : World) (h : isF s n = true) : Calls Try.prog 21 #[.int .i64 s, .int .i64 n] w fun e w' => e = .returned (.bool true) ∧ w = w' := by
  have := isField_any s n w; rwa [h] at this
theorem isField_no (s n : Int) (w : World) (h : isF s n = false) : Calls Try.prog 21 #[.int .i64 s, .int .i64 n] w fun e w' => e = .returned (.bool false) ∧ w = w' := by
  have := isField_any s n w; rwa [h] at this


theorem low_quiet (n : Int) (w : World) (k : Nat) (h1 : 1 ≤ n) (h2 : n ≤ 32) :
    Calls Try.prog 22 #[.int .i64 n] (w.drewN k) fun e w' => e = .returned (.int .u32 (pw n - 1)) ∧ ∃ m, w' = w.drewN m :=
  (low_any n _ ⟨h1, h2⟩).mono fun _ _ ⟨he, hm⟩ => ⟨he, k, hm.symm⟩

theorem get_no (v s n : Int) (w : World) (h : isF s n = false) :
    Calls Try.prog 13 #[.int .u32 v, .int .i64 s, .int .i64 n] w fun e w' => e = .returned (.int .u32 0) ∧ w = w' := by
  have H := Lib.hid h
  clear h
  go_enter Try.func13, Try.ntmps13
  go_wp2_with fail
  refine (isField_no s n _ H.out).mono ?_
  rintro e w1 ⟨rfl, rfl⟩
  go_wp2
  go_ret
  exact ⟨rfl, rfl⟩

theorem get_yes (v s n : Int) (w : World) (h : isF s n = true) (hv : 0 ≤ v ∧ v < 4294967296) :
    Calls Try.prog 13 #[.int .u32 v, .int .i64 s, .int .i64 n] w fun e w' => e = .returned (.int .u32 (fieldOf v s n)) ∧ Drew w w' := by
  have E := Lib.hid (get_bits h hv)
  obtain ⟨h1, h2, h3, h4, h5⟩ := isF_iff.1 h
  obtain ⟨h6, h7⟩ := hv
  have H := Lib.hid h
  clear h
  go_enter Try.func13, Try.ntmps13
  go_wp2_with fail
  refine (isField_yes s n _ H.out).mono ?_
  rintro e w1 ⟨rfl, rfl⟩
  go_wp2
  go_quiet ((exact low_quiet _ _ _ h3 h4))
  go_wp2
  go_ret
  exact ⟨congrArg (fun x => Ending.returned (.int .u32 x)) E.out, Drew.n _ _⟩

theorem get_any (v s n : Int) (w : World) (hv : 0 ≤ v ∧ v < 4294967296) :
    Calls Try.prog 13 #[.int .u32 v, .int .i64 s, .int .i64 n] w fun e w' => e = .returned (.int .u32 (getI v s n)) ∧ Drew w w' := by
  cases h : isF s n
  · refine (get_no v s n w h).mono fun e w' ⟨he, hw⟩ => ⟨?_, Drew.of_eq hw⟩
    rw [he]; simp [getI, h]
  · refine (get_yes v s n w h hv).mono fun e w' ⟨he, hw⟩ => ⟨?_, hw⟩
    rw [he]; simp [getI, h]

theorem put_no (v s n x : Int) (w : World) (h : isF s n = false) :
    Calls Try.prog 15 #[.int .u32 v, .int .i64 s, .int .i64 n, .int .u32 x] w fun e w' => e = .returned (.int .u32 v) ∧ w = w' := by
  have H := Lib.hid h
  clear h
  go_enter Try.func15, Try.ntmps15
  go_wp2_with fail
  refine (isField_no s n _ H.out).mono ?_
  rintro e w1 ⟨rfl, rfl⟩
  go_wp2
  go_ret
  exact ⟨rfl, rfl⟩

theorem put_yes (v s n x : Int) (w : World) (h : isF s n = true) (hv : 0 ≤ v ∧ v < 4294967296) (hx : 0 ≤ x ∧ x < 4294967296) :
    Calls Try.prog 15 #[.int .u32 v, .int .i64 s, .int .i64 n, .int .u32 x] w fun e w' => e = .returned (.int .u32 (putIn v s n x)) ∧ Drew w w' := by
  have E := Lib.hid (put_bits (x := x) h hv)
  obtain ⟨h1, h2, h3, h4, h5⟩ := isF_iff.1 h
  have E2 := Lib.hid (and_low (n := n) hx ⟨by omega, h4⟩)
  obtain ⟨h6, h7⟩ := hv
  have H := Lib.hid h
  clear h hx
  go_enter Try.func15, Try.ntmps15
  go_wp2_with fail
  refine (isField_yes s n _ H.out).mono ?_
  rintro e w1 ⟨rfl, rfl⟩
  go_wp2
  go_quiet ((exact low_quiet _ _ _ h3 h4))
  go_wp2
  go_ret
  refine ⟨congrArg (fun x => Ending.returned (.int .u32 x)) ?_, Drew.n _ _⟩
  rw [E2.out]
  exact E.out

theorem put_any (v s n x : Int) (w : World) (hv : 0 ≤ v ∧ v < 4294967296) (hx : 0 ≤ x ∧ x < 4294967296) :
    Calls Try.prog 15 #[.int .u32 v, .int .i64 s, .int .i64 n, .int .u32 x] w fun e w' => e = .returned (.int .u32 (putI v s n x)) ∧ Drew w w' := by
  cases h : isF s n
  · refine (put_no v s n x w h).mono fun e w' ⟨he, hw⟩ => ⟨?_, Drew.of_eq hw⟩
    rw [he]; simp [putI, h]
  · refine (put_yes v s n x w h hv hx).mono fun e w' ⟨he, hw⟩ => ⟨?_, hw⟩
    rw [he]; simp [putI, h]

theorem get_range {v s n : Int} : 0 ≤ getI v s n ∧ getI v s n < 4294967296 := by
  unfold getI
  split
  · rename_i h; exact ⟨(field_bd v s n).1, field_lt32 h⟩
  · omega

theorem bump_any (v s n : Int) (w : World) (hv : 0 ≤ v ∧ v < 4294967296) :
    Calls Try.prog 17 #[.int .u32 v, .int .i64 s, .int .i64 n] w fun e w' => e = .returned (.int .u32 (bumpI v s n)) ∧ Drew w w' := by
  have HV := Lib.hid hv
  clear hv
  go_enter Try.func17, Try.ntmps17
  go_wp2_with fail
  refine (get_any v s n _ HV.out).mono ?_
  rintro e w1 ⟨rfl, hd⟩
  have HD := Lib.hid hd
  clear hd
  go_wp2_with fail
  refine (put_any v s n _ _ HV.out ?_).mono ?_
  · omega
  rintro e w2 ⟨rfl, hd⟩
  have HD2 := Lib.hid hd
  clear hd
  go_wp2
  go_ret
  exact ⟨rfl, HD.out.trans HD2.out⟩
end Go.Proofs.Yteigkgfmmcaieaa
