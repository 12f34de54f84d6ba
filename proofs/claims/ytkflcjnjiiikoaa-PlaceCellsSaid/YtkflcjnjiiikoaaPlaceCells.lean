/- PlaceCells: the walk. -/
import Derived.Test.YtkflcjnjiiikoaaPlace
namespace Go.Proofs.Ytkflcjnjiiikoaa
open Go.RowKit

theorem refCell_any (n row i : Int) (w : World) (hr : row = 0 ∨ row = 1 ∨ row = 2 ∨ row = 3) :
    Calls Try.prog 7 #[.int .i64 n, .int .i64 row, .int .i64 i] w fun e w' => e = .returned (.int .i64 (cellI n row i)) ∧ w = w' := by
  by_cases h1 : 1 ≤ n
  · by_cases h2 : n ≤ 64
    · by_cases h3 : 0 ≤ i
      · by_cases h4 : i < n
        · have hc : cellI n row i = 8 + row * n + i := if_pos ⟨h1, h2, h3, h4⟩
          rw [hc]
          clear hc
          rcases hr with rfl | rfl | rfl | rfl
          all_goals
            go_enter Try.func7, Try.ntmps7
            go_wp2
            go_ret
            exact ⟨ret_int (by omega), rfl⟩
        · have hc : cellI n row i = -1 := if_neg (fun h => h4 h.2.2.2)
          rw [hc]
          clear hc hr
          go_enter Try.func7, Try.ntmps7
          go_wp2
          go_ret
          exact ⟨rfl, rfl⟩
      · have hc : cellI n row i = -1 := if_neg (fun h => h3 h.2.2.1)
        rw [hc]
        clear hc hr
        go_enter Try.func7, Try.ntmps7
        go_wp2
        go_ret
        exact ⟨rfl, rfl⟩
    · have hc : cellI n row i = -1 := if_neg (fun h => h2 h.2.1)
      rw [hc]
      clear hc hr
      go_enter Try.func7, Try.ntmps7
      go_wp2
      go_ret
      exact ⟨rfl, rfl⟩
  · have hc : cellI n row i = -1 := if_neg (fun h => h1 h.1)
    rw [hc]
    clear hc hr
    go_enter Try.func7, Try.ntmps7
    go_wp2
    go_ret
    exact ⟨rfl, rfl⟩



set_option maxRecDepth 100000 in
set_option maxHeartbeats 800000 in
theorem walk_placeCells (n i : Int) (w : World) (_w0 : (Lit.int .i64 n).wf = true) (_w1 : (Lit.int .i64 i).wf = true) :
    Calls Try.prog 3 #[.int .i64 n, .int .i64 i] w fun e w' => e = .returned (.bool true) ∧ Below w.heap.size w w' := by
  clear _w0 _w1
  by_cases h1 : 1 ≤ n
  · by_cases h2 : n ≤ 64
    · go_enter Try.func3, Try.ntmps3
      go_wp2_with fail
      refine (new_yes n _ ⟨h1, h2⟩).mono ?_
      rintro e wx0 ⟨rfl, hO⟩
      have HO0 := Lib.hid ((hO.alloc (.cells #[.int .i64 n] 23)).alloc (.cells #[.int .i64 n] 23))
      have HR0 := Lib.hid (Row.new2 wx0 (.cells #[.int .i64 n] 23) 23 #[.int .i64 n])
      clear hO
      have c0 := trivial
      go_wp2_with fail
      refine (next_any n i _).mono ?_
      rintro e wx1 ⟨rfl, hO⟩
      have HO1 := Lib.hid (HO0.out.trans hO)
      have HR1 := Lib.hid (HR0.out.only hO id)
      clear c0 hO
      have c1 := HR1.out.cell_ (i := 0) rfl
      go_wp2_with fail
      refine (refCell_any n 0 i _ (by omega)).mono ?_
      rintro e w' ⟨rfl, rfl⟩
      go_wp2_with fail
      refine (blocked_any n i _).mono ?_
      rintro e wx2 ⟨rfl, hO⟩
      have HO2 := Lib.hid (HO1.out.trans hO)
      have HR2 := Lib.hid (HR1.out.only hO id)
      clear c1 hO
      have c2 := HR2.out.cell_ (i := 0) rfl
      go_wp2_with fail
      refine (refCell_any n 1 i _ (by omega)).mono ?_
      rintro e w' ⟨rfl, rfl⟩
      go_wp2_with fail
      refine (watch_any n i _).mono ?_
      rintro e wx3 ⟨rfl, hO⟩
      have HO3 := Lib.hid (HO2.out.trans hO)
      have HR3 := Lib.hid (HR2.out.only hO id)
      clear c2 hO
      have c3 := HR3.out.cell_ (i := 0) rfl
      go_wp2_with fail
      refine (refCell_any n 2 i _ (by omega)).mono ?_
      rintro e w' ⟨rfl, rfl⟩
      go_wp2_with fail
      refine (permit_any n i _).mono ?_
      rintro e wx4 ⟨rfl, hO⟩
      have HO4 := Lib.hid (HO3.out.trans hO)
      have HR4 := Lib.hid (HR3.out.only hO id)
      clear c3 hO
      have c4 := HR4.out.cell_ (i := 0) rfl
      go_wp2_with fail
      refine (refCell_any n 3 i _ (by omega)).mono ?_
      rintro e w' ⟨rfl, rfl⟩
      go_wp2_with fail
      refine (size_any n _).mono ?_
      rintro e wx5 ⟨rfl, hO⟩
      have HO5 := Lib.hid (HO4.out.trans hO)
      clear hO
      go_wp2_with fail
      refine (refSize_any n _).mono ?_
      rintro e w' ⟨rfl, rfl⟩
      go_wp2_with fail
      refine (awake_any _).mono ?_
      rintro e wx6 ⟨rfl, hO⟩
      have HO6 := Lib.hid (HO5.out.trans hO)
      clear hO
      go_wp2
      go_ret
      exact ⟨rfl, HO6.out.below (Nat.le_refl _) (fun _ _ h => h)⟩
    · go_enter Try.func3, Try.ntmps3
      go_wp2_with fail
      refine (new_no n _ (by omega)).mono ?_
      rintro e wx0 ⟨rfl, hO⟩
      have HO0 := Lib.hid ((hO.alloc (.cells #[.int .i64 0] 23)).alloc (.cells #[.int .i64 n] 23))
      have HR0 := Lib.hid (Row.new2 wx0 (.cells #[.int .i64 0] 23) 23 #[.int .i64 n])
      clear hO
      have c0 := trivial
      go_wp2_with fail
      refine (next_any n i _).mono ?_
      rintro e wx1 ⟨rfl, hO⟩
      have HO1 := Lib.hid (HO0.out.trans hO)
      have HR1 := Lib.hid (HR0.out.only hO id)
      clear c0 hO
      have c1 := HR1.out.cell_ (i := 0) rfl
      go_wp2_with fail
      refine (refCell_any n 0 i _ (by omega)).mono ?_
      rintro e w' ⟨rfl, rfl⟩
      go_wp2_with fail
      refine (blocked_any n i _).mono ?_
      rintro e wx2 ⟨rfl, hO⟩
      have HO2 := Lib.hid (HO1.out.trans hO)
      have HR2 := Lib.hid (HR1.out.only hO id)
      clear c1 hO
      have c2 := HR2.out.cell_ (i := 0) rfl
      go_wp2_with fail
      refine (refCell_any n 1 i _ (by omega)).mono ?_
      rintro e w' ⟨rfl, rfl⟩
      go_wp2_with fail
      refine (watch_any n i _).mono ?_
      rintro e wx3 ⟨rfl, hO⟩
      have HO3 := Lib.hid (HO2.out.trans hO)
      have HR3 := Lib.hid (HR2.out.only hO id)
      clear c2 hO
      have c3 := HR3.out.cell_ (i := 0) rfl
      go_wp2_with fail
      refine (refCell_any n 2 i _ (by omega)).mono ?_
      rintro e w' ⟨rfl, rfl⟩
      go_wp2_with fail
      refine (permit_any n i _).mono ?_
      rintro e wx4 ⟨rfl, hO⟩
      have HO4 := Lib.hid (HO3.out.trans hO)
      have HR4 := Lib.hid (HR3.out.only hO id)
      clear c3 hO
      have c4 := HR4.out.cell_ (i := 0) rfl
      go_wp2_with fail
      refine (refCell_any n 3 i _ (by omega)).mono ?_
      rintro e w' ⟨rfl, rfl⟩
      go_wp2_with fail
      refine (size_any n _).mono ?_
      rintro e wx5 ⟨rfl, hO⟩
      have HO5 := Lib.hid (HO4.out.trans hO)
      clear hO
      go_wp2_with fail
      refine (refSize_any n _).mono ?_
      rintro e w' ⟨rfl, rfl⟩
      go_wp2_with fail
      refine (awake_any _).mono ?_
      rintro e wx6 ⟨rfl, hO⟩
      have HO6 := Lib.hid (HO5.out.trans hO)
      clear hO
      go_wp2
      go_ret
      exact ⟨rfl, HO6.out.below (Nat.le_refl _) (fun _ _ h => h)⟩
  · go_enter Try.func3, Try.ntmps3
    go_wp2_with fail
    refine (new_no n _ (by omega)).mono ?_
    rintro e wx0 ⟨rfl, hO⟩
    have HO0 := Lib.hid ((hO.alloc (.cells #[.int .i64 0] 23)).alloc (.cells #[.int .i64 n] 23))
    have HR0 := Lib.hid (Row.new2 wx0 (.cells #[.int .i64 0] 23) 23 #[.int .i64 n])
    clear hO
    have c0 := trivial
    go_wp2_with fail
    refine (next_any n i _).mono ?_
    rintro e wx1 ⟨rfl, hO⟩
    have HO1 := Lib.hid (HO0.out.trans hO)
    have HR1 := Lib.hid (HR0.out.only hO id)
    clear c0 hO
    have c1 := HR1.out.cell_ (i := 0) rfl
    go_wp2_with fail
    refine (refCell_any n 0 i _ (by omega)).mono ?_
    rintro e w' ⟨rfl, rfl⟩
    go_wp2_with fail
    refine (blocked_any n i _).mono ?_
    rintro e wx2 ⟨rfl, hO⟩
    have HO2 := Lib.hid (HO1.out.trans hO)
    have HR2 := Lib.hid (HR1.out.only hO id)
    clear c1 hO
    have c2 := HR2.out.cell_ (i := 0) rfl
    go_wp2_with fail
    refine (refCell_any n 1 i _ (by omega)).mono ?_
    rintro e w' ⟨rfl, rfl⟩
    go_wp2_with fail
    refine (watch_any n i _).mono ?_
    rintro e wx3 ⟨rfl, hO⟩
    have HO3 := Lib.hid (HO2.out.trans hO)
    have HR3 := Lib.hid (HR2.out.only hO id)
    clear c2 hO
    have c3 := HR3.out.cell_ (i := 0) rfl
    go_wp2_with fail
    refine (refCell_any n 2 i _ (by omega)).mono ?_
    rintro e w' ⟨rfl, rfl⟩
    go_wp2_with fail
    refine (permit_any n i _).mono ?_
    rintro e wx4 ⟨rfl, hO⟩
    have HO4 := Lib.hid (HO3.out.trans hO)
    have HR4 := Lib.hid (HR3.out.only hO id)
    clear c3 hO
    have c4 := HR4.out.cell_ (i := 0) rfl
    go_wp2_with fail
    refine (refCell_any n 3 i _ (by omega)).mono ?_
    rintro e w' ⟨rfl, rfl⟩
    go_wp2_with fail
    refine (size_any n _).mono ?_
    rintro e wx5 ⟨rfl, hO⟩
    have HO5 := Lib.hid (HO4.out.trans hO)
    clear hO
    go_wp2_with fail
    refine (refSize_any n _).mono ?_
    rintro e w' ⟨rfl, rfl⟩
    go_wp2_with fail
    refine (awake_any _).mono ?_
    rintro e wx6 ⟨rfl, hO⟩
    have HO6 := Lib.hid (HO5.out.trans hO)
    clear hO
    go_wp2
    go_ret
    exact ⟨rfl, HO6.out.below (Nat.le_refl _) (fun _ _ h => h)⟩
end Go.Proofs.Ytkflcjnjiiikoaa
