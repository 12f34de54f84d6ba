/- Contracts of the answer's functions of layer 2, and of the law's example. -/
import Derived.Test.YteigkgfmmcaieaaDiff
namespace Go.Proofs.Yteigkgfmmcaieaa
open Go.RowKit

theorem awake_any (w : World) : Calls Try.prog 10 #[] w fun e w' => e = .returned (.bool true) ∧ Drew w w' := by
  go_enter Try.func10, Try.ntmps10
  go_wp2_with fail
  refine (ahead_any _ _ _).mono ?_
  rintro e w1 ⟨rfl, rfl⟩
  have e1 : aheadI 1 4294967295 = 2 := by decide
  rw [e1]
  go_wp2_with fail
  refine (bump_any _ _ _ _ (by omega)).mono ?_
  rintro e w1 ⟨rfl, hd⟩
  have HD := Lib.hid hd
  clear hd
  have e2 : bumpI 65280 8 8 = 4294902016 := by decide
  rw [e2]
  go_wp2
  go_ret
  exact ⟨rfl, HD.out⟩

theorem refAhead_any (a b : Int) (w : World) (ha : 0 ≤ a ∧ a < 4294967296) (hb : 0 ≤ b ∧ b < 4294967296) :
    Calls Try.prog 9 #[.int .u32 a, .int .u32 b] w fun e w' => e = .returned (.int .i64 (aheadI a b)) ∧ w = w' := by
  obtain ⟨a1, a2⟩ := ha
  obtain ⟨b1, b2⟩ := hb
  by_cases h1 : 2147483648 ≤ a - b
  · have E := Lib.hid (show a - b - 4294967296 = aheadI a b by unfold aheadI; omega)
    go_enter Try.func9, Try.ntmps9
    go_wp2
    go_ret
    exact ⟨congrArg (fun x => Ending.returned (.int .i64 x)) E.out, rfl⟩
  · by_cases h2 : a - b < -2147483648
    · have E := Lib.hid (show a - b + 4294967296 = aheadI a b by unfold aheadI; omega)
      go_enter Try.func9, Try.ntmps9
      go_wp2
      go_ret
      exact ⟨congrArg (fun x => Ending.returned (.int .i64 x)) E.out, rfl⟩
    · have E := Lib.hid (show a - b = aheadI a b by unfold aheadI; omega)
      go_enter Try.func9, Try.ntmps9
      go_wp2
      go_ret
      exact ⟨congrArg (fun x => Ending.returned (.int .i64 x)) E.out, rfl⟩

theorem is_any (s n : Int) (w : World) :
    Calls Try.prog 23 #[.int .i64 s, .int .i64 n] w fun e w' => e = .returned (.bool (isF s n)) ∧ w = w' := by
  by_cases h : 0 ≤ s ∧ s ≤ 31 ∧ 1 ≤ n ∧ n ≤ 32
  · obtain ⟨h1, h2, h3, h4⟩ := h
    have e : isF s n = decide (s + n ≤ 32) := by simp [isF, h1, h2, h3, h4]
    have E := Lib.hid e
    clear e
    go_enter Try.func23, Try.ntmps23
    go_wp2
    go_ret
    exact ⟨by rw [E.out]; rfl, rfl⟩
  · have e : isF s n = false := by
      have : ¬ (0 ≤ s ∧ s ≤ 31 ∧ 1 ≤ n ∧ n ≤ 32 ∧ s + n ≤ 32) := by omega
      simp [isF, this]
    have E := Lib.hid e
    have H := Lib.hid h
    clear e h
    by_cases h1 : 0 ≤ s
    · by_cases h2 : s ≤ 31
      · by_cases h3 : 1 ≤ n
        · have h4 : 32 < n := by have := H.out; omega
          go_enter Try.func23, Try.ntmps23
          go_wp2
          go_ret
          exact ⟨by rw [E.out]; rfl, rfl⟩
        · have h4 : n < 1 := by omega
          go_enter Try.func23, Try.ntmps23
          go_wp2
          go_ret
          exact ⟨by rw [E.out]; rfl, rfl⟩
      · have h4 : 31 < s := by omega
        go_enter Try.func23, Try.ntmps23
        go_wp2
        go_ret
        exact ⟨by rw [E.out]; rfl, rfl⟩
    · have h4 : s < 0 := by omega
      go_enter Try.func23, Try.ntmps23
      go_wp2
      go_ret
      exact ⟨by rw [E.out]; rfl, rfl⟩
theorem is_yes (s n : Int) (w : World) (h : isF s n = true) : Calls Try.prog 23 #[.int .i64 s, .int .i64 n] w fun e w' => e = .returned (.bool true) ∧ w = w' := by
  have := is_any s n w; rwa [h] at this
theorem is_no (s n : Int) (w : World) (h : isF s n = false) : Calls Try.prog 23 #[.int .i64 s, .int .i64 n] w fun e w' => e = .returned (.bool false) ∧ w = w' := by
  have := is_any s n w; rwa [h] at this

set_option maxHeartbeats 400000 in
theorem power_any (n : Nat) (w : World) (h : n ≤ 32) :
    Calls Try.prog 24 #[.int .i64 n] w fun e w' => e = .returned (.int .i64 (pw n)) ∧ w = w' := by
  go_enter Try.func24, Try.ntmps24
  go_wp2
  go_loop [3, 4] (fun p i => ∃ k : Nat, k ≤ n ∧ i = .int .i64 k ∧ p = .int .i64 (pw k)) (fun _ i => n - (intOf i).toNat)
  case atStart => exact ⟨0, Nat.zero_le _, rfl, rfl⟩
  case round =>
    obtain ⟨k, hk, rfl, rfl⟩ := hrel
    have hb := pw_le32 (n := k) (by omega)
    have hp := pw_pos k
    have HS := Lib.hid (pw_succ (n := k) (by omega))
    by_cases hlt : k < n
    · go_wp2
      go_round
      case rel => exact ⟨k + 1, by omega, by go_num, by rw [Int.natCast_add, show ((1 : Nat) : Int) = 1 from rfl, HS.out]⟩
      case measure => simp [intOf]; omega
    · obtain rfl : k = n := by omega
      clear hlt
      go_wp2
      go_ret
      exact ⟨rfl, rfl⟩

theorem power_int (n : Int) (w : World) (h : 0 ≤ n ∧ n ≤ 32) :
    Calls Try.prog 24 #[.int .i64 n] w fun e w' => e = .returned (.int .i64 (pw n)) ∧ w = w' := by
  obtain ⟨m, rfl⟩ := Int.eq_ofNat_of_zero_le h.1
  exact power_any m w (by omega)
theorem power_quiet (n : Int) (w : World) (k : Nat) (h1 : 0 ≤ n) (h2 : n ≤ 32) :
    Calls Try.prog 24 #[.int .i64 n] (w.drewN k) fun e w' => e = .returned (.int .i64 (pw n)) ∧ ∃ m, w' = w.drewN m :=
  (power_int n _ ⟨h1, h2⟩).mono fun _ _ ⟨he, hm⟩ => ⟨he, k, hm.symm⟩

theorem rget_no (v s n : Int) (w : World) (h : isF s n = false) :
    Calls Try.prog 14 #[.int .u32 v, .int .i64 s, .int .i64 n] w fun e w' => e = .returned (.int .u32 0) ∧ w = w' := by
  have H := Lib.hid h
  clear h
  go_enter Try.func14, Try.ntmps14
  go_wp2_with fail
  refine (is_no s n _ H.out).mono ?_
  rintro e w1 ⟨rfl, rfl⟩
  go_wp2
  go_ret
  exact ⟨rfl, rfl⟩

theorem rget_yes (v s n : Int) (w : World) (h : isF s n = true) (hv : 0 ≤ v ∧ v < 4294967296) :
    Calls Try.prog 14 #[.int .u32 v, .int .i64 s, .int .i64 n] w fun e w' => e = .returned (.int .u32 (fieldOf v s n)) ∧ Drew w w' := by
  obtain ⟨h1, h2, h3, h4, h5⟩ := isF_iff.1 h
  obtain ⟨h6, h7⟩ := hv
  have p1 := pw_pos s
  have p2 := pw_pos n
  have p3 := pw_le32 (n := s) (by omega)
  have p4 := pw_le32 h4
  have b1 : 0 ≤ v / pw s := Int.ediv_nonneg h6 (by omega)
  have b2 : v / pw s < 4294967296 := Int.lt_of_le_of_lt (Int.ediv_le_self _ h6) h7
  obtain ⟨b3, b4⟩ := field_bd v s n
  have b5 := field_lt32 (v := v) h
  have H := Lib.hid h
  clear h
  go_enter Try.func14, Try.ntmps14
  go_wp2_with fail
  refine (is_yes s n _ H.out).mono ?_
  rintro e w1 ⟨rfl, rfl⟩
  have h3' : 0 ≤ n := by omega
  have h5' : s ≤ 32 := by omega
  go_wp2
  go_quiet ((first | (exact power_quiet _ _ _ h1 h5') | (exact power_quiet _ _ _ h3' h4)))
  go_wp2
  go_ret
  refine ⟨congrArg (fun x => Ending.returned (.int .u32 x)) ?_, Drew.n _ _⟩
  show fieldOf v s n % 4294967296 = fieldOf v s n
  exact Int.emod_eq_of_lt b3 b5

theorem rget_quiet (v s n : Int) (w : World) (k : Nat) (h : isF s n = true) (hv : 0 ≤ v ∧ v < 4294967296) :
    Calls Try.prog 14 #[.int .u32 v, .int .i64 s, .int .i64 n] (w.drewN k) fun e w' => e = .returned (.int .u32 (fieldOf v s n)) ∧ ∃ m, w' = w.drewN m :=
  (rget_yes v s n _ h hv).mono fun _ _ ⟨he, hm⟩ => ⟨he, hm.quiet⟩

theorem rput_no (v s n x : Int) (w : World) (h : isF s n = false) :
    Calls Try.prog 16 #[.int .u32 v, .int .i64 s, .int .i64 n, .int .u32 x] w fun e w' => e = .returned (.int .u32 v) ∧ w = w' := by
  have H := Lib.hid h
  clear h
  go_enter Try.func16, Try.ntmps16
  go_wp2_with fail
  refine (is_no s n _ H.out).mono ?_
  rintro e w1 ⟨rfl, rfl⟩
  go_wp2
  go_ret
  exact ⟨rfl, rfl⟩

theorem rput_yes (v s n x : Int) (w : World) (h : isF s n = true) (hv : 0 ≤ v ∧ v < 4294967296) (hx : 0 ≤ x ∧ x < 4294967296) :
    Calls Try.prog 16 #[.int .u32 v, .int .i64 s, .int .i64 n, .int .u32 x] w fun e w' => e = .returned (.int .u32 (putIn v s n x)) ∧ Drew w w' := by
  obtain ⟨h1, h2, h3, h4, h5⟩ := isF_iff.1 h
  obtain ⟨b1, b2⟩ := put_bd (v := v) x h hv
  obtain ⟨m1, m2⟩ := put_move (v := v) x h
  have b5 := field_lt32 (v := v) h
  have HV := Lib.hid hv
  obtain ⟨h6, h7⟩ := hv
  obtain ⟨h8, h9⟩ := hx
  have p1 := pw_pos s
  have p2 := pw_pos n
  have p3 := pw_le32 (n := s) (by omega)
  have p4 := pw_le32 h4
  obtain ⟨b3, b4⟩ := field_bd v s n
  obtain ⟨b6, b7⟩ := mod_bd x n
  have H := Lib.hid h
  unfold putIn at b1 b2
  clear h
  have h3' : 0 ≤ n := by omega
  have h5' : s ≤ 32 := by omega
  go_enter Try.func16, Try.ntmps16
  go_wp2_with fail
  refine (is_yes s n _ H.out).mono ?_
  rintro e w1 ⟨rfl, rfl⟩
  go_wp2
  go_quiet ((first | (exact rget_quiet _ _ _ _ _ H.out HV.out) | (exact power_quiet _ _ _ h3' h4)))
  go_wp2_with fail
  refine (power_int s _ ⟨h1, h5'⟩).mono ?_
  rintro e w1 ⟨rfl, rfl⟩
  go_wp2
  go_ret
  exact ⟨rfl, Drew.n _ _⟩

theorem rget_any (v s n : Int) (w : World) (hv : 0 ≤ v ∧ v < 4294967296) :
    Calls Try.prog 14 #[.int .u32 v, .int .i64 s, .int .i64 n] w fun e w' => e = .returned (.int .u32 (getI v s n)) ∧ Drew w w' := by
  cases h : isF s n
  · refine (rget_no v s n w h).mono fun e w' ⟨he, hw⟩ => ⟨?_, Drew.of_eq hw⟩
    rw [he]; simp [getI, h]
  · refine (rget_yes v s n w h hv).mono fun e w' ⟨he, hw⟩ => ⟨?_, hw⟩
    rw [he]; simp [getI, h]
theorem rput_any (v s n x : Int) (w : World) (hv : 0 ≤ v ∧ v < 4294967296) (hx : 0 ≤ x ∧ x < 4294967296) :
    Calls Try.prog 16 #[.int .u32 v, .int .i64 s, .int .i64 n, .int .u32 x] w fun e w' => e = .returned (.int .u32 (putI v s n x)) ∧ Drew w w' := by
  cases h : isF s n
  · refine (rput_no v s n x w h).mono fun e w' ⟨he, hw⟩ => ⟨?_, Drew.of_eq hw⟩
    rw [he]; simp [putI, h]
  · refine (rput_yes v s n x w h hv hx).mono fun e w' ⟨he, hw⟩ => ⟨?_, hw⟩
    rw [he]; simp [putI, h]

theorem rbump_no (v s n : Int) (w : World) (h : isF s n = false) :
    Calls Try.prog 18 #[.int .u32 v, .int .i64 s, .int .i64 n] w fun e w' => e = .returned (.int .u32 0) ∧ w = w' := by
  have H := Lib.hid h
  clear h
  go_enter Try.func18, Try.ntmps18
  go_wp2_with fail
  refine (is_no s n _ H.out).mono ?_
  rintro e w1 ⟨rfl, rfl⟩
  go_wp2
  go_ret
  exact ⟨rfl, rfl⟩

theorem rbump_yes (v s n : Int) (w : World) (h : isF s n = true) (hv : 0 ≤ v ∧ v < 4294967296) :
    Calls Try.prog 18 #[.int .u32 v, .int .i64 s, .int .i64 n] w fun e w' => e = .returned (.int .u32 ((putIn v s n (fieldOf v s n + 1) - v) % 4294967296)) ∧ Drew w w' := by
  obtain ⟨h1, h2, h3, h4, h5⟩ := isF_iff.1 h
  have HV := Lib.hid hv
  have b5 := field_lt32 (v := v) h
  have p2 := pw_pos n
  have p4 := pw_le32 h4
  obtain ⟨b3, b4⟩ := field_bd v s n
  have H := Lib.hid h
  obtain ⟨b6, b7⟩ := mod_bd (fieldOf v s n + 1) n
  have E := Lib.hid (put_mod (v := v) (s := s) (n := n) ((fieldOf v s n + 1) % pw n) (fieldOf v s n + 1) (Int.emod_emod _ _))
  clear h hv
  have h3' : 0 ≤ n := by omega
  go_enter Try.func18, Try.ntmps18
  go_wp2_with fail
  refine (is_yes s n _ H.out).mono ?_
  rintro e w1 ⟨rfl, rfl⟩
  go_wp2_with fail
  refine (rget_yes v s n _ H.out HV.out).mono ?_
  rintro e w1 ⟨rfl, hd⟩
  have HD := Lib.hid hd
  clear hd
  go_wp2_with fail
  refine (power_int n _ ⟨h3', h4⟩).mono ?_
  rintro e w2 ⟨rfl, rfl⟩
  go_wp2_with fail
  refine (rput_yes v s n _ _ H.out HV.out ?_).mono ?_
  · omega
  rintro e w2 ⟨rfl, hd⟩
  have HD2 := Lib.hid hd
  clear hd
  rw [E.out]
  go_wp2
  go_ret
  exact ⟨rfl, HD.out.trans HD2.out⟩

theorem bump_yes {v s n : Int} (h : isF s n = true) : bumpI v s n = (putIn v s n (fieldOf v s n + 1) - v) % 4294967296 := by
  have b3 := field_bd v s n
  have b4 := pw_le32 (isF_iff.1 h).2.2.2.1
  have e : putIn v s n ((fieldOf v s n + 1) % 4294967296) = putIn v s n (fieldOf v s n + 1) := by
    refine put_mod _ _ ?_
    by_cases hc : fieldOf v s n + 1 = 4294967296
    · have : pw n = 4294967296 := by omega
      rw [hc, this]; rfl
    · exact congrArg (· % pw n) (Int.emod_eq_of_lt (a := fieldOf v s n + 1) (b := 4294967296) (by omega) (by omega))
  simp [bumpI, putI, getI, h, e]
theorem bump_no {v s n : Int} (h : isF s n = false) : bumpI v s n = 0 := by simp [bumpI, putI, h]
theorem rbump_any (v s n : Int) (w : World) (hv : 0 ≤ v ∧ v < 4294967296) :
    Calls Try.prog 18 #[.int .u32 v, .int .i64 s, .int .i64 n] w fun e w' => e = .returned (.int .u32 (bumpI v s n)) ∧ Drew w w' := by
  cases h : isF s n
  · refine (rbump_no v s n w h).mono fun e w' ⟨he, hw⟩ => ⟨?_, Drew.of_eq hw⟩
    rw [he, bump_no h]
  · refine (rbump_yes v s n w h hv).mono fun e w' ⟨he, hw⟩ => ⟨?_, hw⟩
    rw [he, bump_yes h]
end Go.Proofs.Yteigkgfmmcaieaa
