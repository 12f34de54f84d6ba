/- DiffAhead, DiffRound, DiffFields, DiffApart: the walks. -/
import Derived.Test.YteigkgfmmcaieaaDiffRef
namespace Go.Proofs.Yteigkgfmmcaieaa
open Go.RowKit

theorem drew_below {w w' : World} (h : Drew w w') : Below w.heap.size w w' := by
  obtain ⟨a, rfl⟩ := h
  exact (Only.below ((Only.refl Nil w).drewN a) (Nat.le_refl _) (fun _ _ h => h))

theorem walk_diffRound (a n : Int) (w : World) (wa : (Lit.int .u32 a).wf = true) (wn : (Lit.int .i32 n).wf = true) :
    Calls Try.prog 4 #[.int .u32 a, .int .i32 n] w fun e w' => e = .returned (.bool true) ∧ Below w.heap.size w w' := by
  obtain ⟨a1, a2⟩ := wf_u32 wa
  obtain ⟨n1, n2⟩ := wf_i32 wn
  clear wa wn
  have E := Lib.hid (show aheadI ((a + n) % 4294967296) a = n by unfold aheadI; omega)
  go_enter Try.func4, Try.ntmps4
  go_wp2_with fail
  refine (ahead_any _ _ _).mono ?_
  rintro e w1 ⟨rfl, rfl⟩
  rw [E.out]
  go_wp2_with fail
  refine (awake_any _).mono ?_
  rintro e w1 ⟨rfl, hd⟩
  have HD := Lib.hid hd
  clear hd
  go_wp2
  go_ret
  exact ⟨rfl, drew_below HD.out⟩

theorem ahead_facts (a b : Int) (ha : 0 ≤ a ∧ a < 4294967296) (hb : 0 ≤ b ∧ b < 4294967296) :
    a = (b + aheadI a b) % 4294967296 ∧ (aheadI a b = -2147483648 ∨ aheadI b a = -aheadI a b) ∧ (aheadI a b = 0 ↔ a = b) ∧ -2147483648 ≤ aheadI a b ∧ aheadI a b < 2147483648 := by
  unfold aheadI; omega

theorem walk_diffAhead (a b : Int) (w : World) (wa : (Lit.int .u32 a).wf = true) (wb : (Lit.int .u32 b).wf = true) :
    Calls Try.prog 3 #[.int .u32 a, .int .u32 b] w fun e w' => e = .returned (.bool true) ∧ Below w.heap.size w w' := by
  have ha := wf_u32 wa
  have hb := wf_u32 wb
  obtain ⟨E1, E2, E3, n1, n2⟩ := ahead_facts a b ha hb
  obtain ⟨a1, a2⟩ := ha
  obtain ⟨b1, b2⟩ := hb
  clear wa wb
  have HN := Lib.hid (rfl : aheadI a b = aheadI a b)
  by_cases hab : a = b
  · have h0 := E3.2 hab
    subst hab
    have H0 := Lib.hid h0
    clear E1 E2 E3 n1 n2 h0 HN
    go_enter Try.func3, Try.ntmps3
    go_wp2_with fail
    refine (ahead_any _ _ _).mono ?_
    rintro e w1 ⟨rfl, rfl⟩
    rw [H0.out]
    go_wp2_with fail
    refine (refAhead_any _ _ _ ⟨a1, a2⟩ ⟨b1, b2⟩).mono ?_
    rintro e w1 ⟨rfl, rfl⟩
    rw [H0.out]
    go_wp2_with fail
    refine (ahead_any _ _ _).mono ?_
    rintro e w1 ⟨rfl, rfl⟩
    rw [H0.out]
    go_wp2_with fail
    refine (awake_any _).mono ?_
    rintro e w1 ⟨rfl, hd⟩
    have HD := Lib.hid hd
    clear hd
    go_wp2
    go_ret
    exact ⟨rfl, drew_below HD.out⟩
  · have h0 : ¬ aheadI a b = 0 := fun h => hab (E3.1 h)
    have f2 : (a == b) = false := by simpa using hab
    have G := Lib.hid E2
    clear E2 E3 HN hab
    generalize hn : aheadI a b = n at *
    have HN := Lib.hid hn
    have f1 : (a == (b + n) % 4294967296) = true := by simpa using E1
    have f3 : (n == 0) = false := by simpa using h0
    clear hn E1 h0
    by_cases hm : n = -2147483648
    · subst hm
      clear f3 n1 n2
      have f5 : ((b + 2147483648) % 4294967296 == b) = false := by
        have h : ¬ (b + 2147483648) % 4294967296 = b := by omega
        simpa using h
      have f6 : (a == (b + 2147483648) % 4294967296) = true := by
        have h : a = (b + -2147483648) % 4294967296 := by simpa using f1
        have h : a = (b + 2147483648) % 4294967296 := by omega
        simpa using h
      clear f1
      go_enter Try.func3, Try.ntmps3
      go_wp2_with fail
      refine (ahead_any _ _ _).mono ?_
      rintro e w1 ⟨rfl, rfl⟩
      rw [HN.out]
      go_wp2_with fail
      refine (refAhead_any _ _ _ ⟨a1, a2⟩ ⟨b1, b2⟩).mono ?_
      rintro e w1 ⟨rfl, rfl⟩
      rw [HN.out]
      go_wp2_with fail
      refine (awake_any _).mono ?_
      rintro e w1 ⟨rfl, hd⟩
      have HD := Lib.hid hd
      clear hd
      go_wp2
      go_ret
      exact ⟨rfl, drew_below HD.out⟩
    · have H2 := Lib.hid (show aheadI b a = -n by have := G.out; omega)
      have f4 : (n == -2147483648) = false := by simpa using hm
      clear hm
      go_enter Try.func3, Try.ntmps3
      go_wp2_with fail
      refine (ahead_any _ _ _).mono ?_
      rintro e w1 ⟨rfl, rfl⟩
      rw [HN.out]
      go_wp2_with fail
      refine (refAhead_any _ _ _ ⟨a1, a2⟩ ⟨b1, b2⟩).mono ?_
      rintro e w1 ⟨rfl, rfl⟩
      rw [HN.out]
      go_wp2_with fail
      refine (ahead_any _ _ _).mono ?_
      rintro e w1 ⟨rfl, rfl⟩
      rw [H2.out]
      go_wp2_with fail
      refine (awake_any _).mono ?_
      rintro e w1 ⟨rfl, hd⟩
      have HD := Lib.hid hd
      clear hd
      go_wp2
      go_ret
      exact ⟨rfl, drew_below HD.out⟩

theorem walk_diffFields (v s n x : Int) (w : World) (wv : (Lit.int .u32 v).wf = true) (_ : (Lit.int .i64 s).wf = true) (_ : (Lit.int .i64 n).wf = true) (wx : (Lit.int .u32 x).wf = true) :
    Calls Try.prog 6 #[.int .u32 v, .int .i64 s, .int .i64 n, .int .u32 x] w fun e w' => e = .returned (.bool true) ∧ Below w.heap.size w w' := by
  have hv := wf_u32 wv
  have hx := wf_u32 wx
  clear wv wx
  have HV := Lib.hid hv
  have HX := Lib.hid hx
  clear hv hx
  go_enter Try.func6, Try.ntmps6
  go_wp2_with fail
  refine (get_any v s n _ HV.out).mono ?_
  rintro e w1 ⟨rfl, hd⟩
  have HD1 := Lib.hid hd
  clear hd
  go_wp2_with fail
  refine (rget_any v s n _ HV.out).mono ?_
  rintro e w2 ⟨rfl, hd⟩
  have HD2 := Lib.hid hd
  clear hd
  go_wp2_with fail
  refine (put_any v s n x _ HV.out HX.out).mono ?_
  rintro e w3 ⟨rfl, hd⟩
  have HD3 := Lib.hid hd
  clear hd
  go_wp2_with fail
  refine (rput_any v s n x _ HV.out HX.out).mono ?_
  rintro e w4 ⟨rfl, hd⟩
  have HD4 := Lib.hid hd
  clear hd
  go_wp2_with fail
  refine (bump_any v s n _ HV.out).mono ?_
  rintro e w5 ⟨rfl, hd⟩
  have HD5 := Lib.hid hd
  clear hd
  go_wp2_with fail
  refine (rbump_any v s n _ HV.out).mono ?_
  rintro e w6 ⟨rfl, hd⟩
  have HD6 := Lib.hid hd
  clear hd
  go_wp2_with fail
  refine (awake_any _).mono ?_
  rintro e w7 ⟨rfl, hd⟩
  have HD7 := Lib.hid hd
  clear hd
  go_wp2
  go_ret
  exact ⟨rfl, drew_below (HD1.out.trans (HD2.out.trans (HD3.out.trans (HD4.out.trans (HD5.out.trans (HD6.out.trans HD7.out))))))⟩
end Go.Proofs.Yteigkgfmmcaieaa
