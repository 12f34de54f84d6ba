/- Accesses as texts: the small functions of acc. -/
import Derived.Test.YtlccmhlbkgojlaaDoorKit
import Derived.Test.YtlccmhlbkgojlaaDoorChecked
import Derived.Test.YtlccmhlbkgojlaaDoorAccM
import Derived.Deep.RegionHeld3
import Derived.IntWalk
import Derived.Test.YtlccmhlbkgojlaaDoorAccE
namespace Go.Proofs.YtlccmhlbkgojlaaDoor
open Go.RowKit

theorem isKind_yes (k : Int) (w : World) (h1 : 1 ≤ k) (h5 : k ≤ 5) : Calls Tryd.prog 20 #[.int .i64 k] w fun e w' => e = .returned (.bool true) ∧ w = w' := by
  go_enter Tryd.func20, Tryd.ntmps20
  go_wp2
  go_ret
  exact ⟨rfl, rfl⟩
theorem isKind_no (k : Int) (w : World) (h : ¬ (1 ≤ k ∧ k ≤ 5)) : Calls Tryd.prog 20 #[.int .i64 k] w fun e w' => e = .returned (.bool false) ∧ w = w' := by
  by_cases h1 : 1 ≤ k
  · have h5 : ¬ k ≤ 5 := fun h5 => h ⟨h1, h5⟩
    clear h
    go_enter Tryd.func20, Tryd.ntmps20
    go_wp2
    go_ret
    exact ⟨rfl, rfl⟩
  · clear h
    go_enter Tryd.func20, Tryd.ntmps20
    go_wp2
    go_ret
    exact ⟨rfl, rfl⟩
/-- How many of X and Y. -/
def nOps (k : Int) : Int := if k = 2 ∨ k = 3 ∨ k = 4 then 1 else if k = 5 then 2 else 0
theorem operands_any (k : Int) (w : World) : Calls Tryd.prog 17 #[.int .i64 k] w fun e w' => e = .returned (.int .i64 (nOps k)) ∧ w = w' := by
  by_cases h : k = 2 ∨ k = 3 ∨ k = 4 ∨ k = 5
  · rcases h with rfl | rfl | rfl | rfl
    all_goals
      go_enter Tryd.func17, Tryd.ntmps17
      go_wp2
      go_ret
      exact ⟨rfl, rfl⟩
  · have e : nOps k = 0 := by unfold nOps; rw [if_neg (by omega), if_neg (by omega)]
    rw [e]
    have h2 : ¬ k = 2 := by omega
    have h3 : ¬ k = 3 := by omega
    have h4 : ¬ k = 4 := by omega
    have h5 : ¬ k = 5 := by omega
    clear h e
    go_enter Tryd.func17, Tryd.ntmps17
    go_wp2
    go_ret
    exact ⟨rfl, rfl⟩
def useX (k x : Int) : Int := if nOps k < 1 then 0 else x
def useY (k y : Int) : Int := if nOps k < 2 then 0 else y
theorem used_any (k c x y o : Int) (w : World) : Calls Tryd.prog 21 #[.agg #[.int .i64 k, .int .i64 c, .int .u32 x, .int .u32 y, .int .u32 o]] w fun e w' => e = .returned (.agg #[.int .i64 k, .int .i64 c, .int .u32 (useX k x), .int .u32 (useY k y), .int .u32 o]) ∧ Only Nil w w' := by
  have HX := Lib.hid (show useX k x = if nOps k < 1 then 0 else x from rfl)
  have HY := Lib.hid (show useY k y = if nOps k < 2 then 0 else y from rfl)
  generalize useX k x = x' at *
  generalize useY k y = y' at *
  have hop := fun W => operands_any k W
  generalize nOps k = n at *
  by_cases h1 : n < 1
  · obtain rfl : x' = 0 := by rw [HX.out, if_pos h1]
    obtain rfl : y' = 0 := by rw [HY.out, if_pos (by omega)]
    clear HX HY
    go_enter Tryd.func21, Tryd.ntmps21
    go_wp2_with (go_at_call 17; refine (hop _).mono ?_; rintro e w' ⟨rfl, rfl⟩)
    refine post_row Tryd.results21 (by rfl) (Row.new2 _ _ _ _) Tryd.underlying24 rfl (by kernel_rfl) rfl ⟨rfl, ?_⟩
    (repeat' (first | (with_reducible exact Only.refl _ _) | (with_reducible assumption) | (with_reducible refine Only.setCell ?_ ?_ _) | (with_reducible refine Only.drewN ?_ _) | (with_reducible refine Only.drew ?_) | (with_reducible refine Only.alloc ?_ _) | (left; simp; done) | (left; simp; omega) | (right; rfl)))
  · obtain rfl : x' = x := by rw [HX.out, if_neg h1]
    by_cases h2 : n < 2
    · obtain rfl : y' = 0 := by rw [HY.out, if_pos h2]
      clear HX HY
      go_enter Tryd.func21, Tryd.ntmps21
      go_wp2_with (go_at_call 17; refine (hop _).mono ?_; rintro e w' ⟨rfl, rfl⟩)
      refine post_row Tryd.results21 (by rfl) (Row.new2 _ _ _ _) Tryd.underlying24 rfl (by kernel_rfl) rfl ⟨rfl, ?_⟩
      (repeat' (first | (with_reducible exact Only.refl _ _) | (with_reducible assumption) | (with_reducible refine Only.setCell ?_ ?_ _) | (with_reducible refine Only.drewN ?_ _) | (with_reducible refine Only.drew ?_) | (with_reducible refine Only.alloc ?_ _) | (left; simp; done) | (left; simp; omega) | (right; rfl)))
    · obtain rfl : y' = y := by rw [HY.out, if_neg h2]
      clear HX HY
      go_enter Tryd.func21, Tryd.ntmps21
      go_wp2_with (go_at_call 17; refine (hop _).mono ?_; rintro e w' ⟨rfl, rfl⟩)
      refine post_row Tryd.results21 (by rfl) (Row.new2 _ _ _ _) Tryd.underlying24 rfl (by kernel_rfl) rfl ⟨rfl, ?_⟩
      (repeat' (first | (with_reducible exact Only.refl _ _) | (with_reducible assumption) | (with_reducible refine Only.setCell ?_ ?_ _) | (with_reducible refine Only.drewN ?_ _) | (with_reducible refine Only.drew ?_) | (with_reducible refine Only.alloc ?_ _) | (left; simp; done) | (left; simp; omega) | (right; rfl)))

theorem right_kind (k c x y o : Int) (w : World) (h : ¬ (1 ≤ k ∧ k ≤ 5)) : Calls Tryd.prog 8 #[.agg #[.int .i64 k, .int .i64 c, .int .u32 x, .int .u32 y, .int .u32 o]] w fun e w' => e = .returned (.bool false) ∧ Only Nil w w' := by
  have HK := Lib.hid h
  clear h
  go_enter Tryd.func8, Tryd.ntmps8
  go_wp2
  go_quiet ((go_at_call 20; exact Calls.quiet_of_same ((isKind_no k _ HK.out).mono fun _ _ h => ⟨h.1, h.2.symm⟩)))
  go_wp2
  go_ret
  exact ⟨rfl, by (repeat' (first | (with_reducible exact Only.refl _ _) | (with_reducible assumption) | (with_reducible refine Only.setCell ?_ ?_ _) | (with_reducible refine Only.drewN ?_ _) | (with_reducible refine Only.drew ?_) | (with_reducible refine Only.alloc ?_ _) | (left; simp; done) | (left; simp; omega) | (right; rfl)))⟩
theorem right_under (k c x y o : Int) (w : World) (h1 : 1 ≤ k) (h5 : k ≤ 5) (hc : c < 0) : Calls Tryd.prog 8 #[.agg #[.int .i64 k, .int .i64 c, .int .u32 x, .int .u32 y, .int .u32 o]] w fun e w' => e = .returned (.bool false) ∧ Only Nil w w' := by
  have HK := Lib.hid (And.intro h1 h5)
  have hd : decide (0 ≤ c) = false := by simp; omega
  clear h1 h5
  go_enter Tryd.func8, Tryd.ntmps8
  go_wp2
  go_quiet ((go_at_call 20; exact Calls.quiet_of_same ((isKind_yes k _ HK.out.1 HK.out.2).mono fun _ _ h => ⟨h.1, h.2.symm⟩)))
  go_wp2
  go_ret
  exact ⟨rfl, by (repeat' (first | (with_reducible exact Only.refl _ _) | (with_reducible assumption) | (with_reducible refine Only.setCell ?_ ?_ _) | (with_reducible refine Only.drewN ?_ _) | (with_reducible refine Only.drew ?_) | (with_reducible refine Only.alloc ?_ _) | (left; simp; done) | (left; simp; omega) | (right; rfl)))⟩
theorem right_over (k c x y o : Int) (w : World) (h1 : 1 ≤ k) (h5 : k ≤ 5) (hc : 1023 < c) : Calls Tryd.prog 8 #[.agg #[.int .i64 k, .int .i64 c, .int .u32 x, .int .u32 y, .int .u32 o]] w fun e w' => e = .returned (.bool false) ∧ Only Nil w w' := by
  have HK := Lib.hid (And.intro h1 h5)
  have hd0 : decide (0 ≤ c) = true := by simp; omega
  have hd : decide (c < 1024) = false := by simp; omega
  clear h1 h5
  go_enter Tryd.func8, Tryd.ntmps8
  go_wp2
  go_quiet ((go_at_call 20; exact Calls.quiet_of_same ((isKind_yes k _ HK.out.1 HK.out.2).mono fun _ _ h => ⟨h.1, h.2.symm⟩)))
  go_wp2
  go_ret
  exact ⟨rfl, by (repeat' (first | (with_reducible exact Only.refl _ _) | (with_reducible assumption) | (with_reducible refine Only.setCell ?_ ?_ _) | (with_reducible refine Only.drewN ?_ _) | (with_reducible refine Only.drew ?_) | (with_reducible refine Only.alloc ?_ _) | (left; simp; done) | (left; simp; omega) | (right; rfl)))⟩
theorem right_same (k c x y o : Int) (w : World) (h1 : 1 ≤ k) (h5 : k ≤ 5) (hc0 : 0 ≤ c) (hc : c ≤ 1023) : Calls Tryd.prog 8 #[.agg #[.int .i64 k, .int .i64 c, .int .u32 x, .int .u32 y, .int .u32 o]] w fun e w' => e = .returned (.bool (sameB k c x y o k c (useX k x) (useY k y) o)) ∧ Only Nil w w' := by
  have HK := Lib.hid (And.intro h1 h5)
  have hd0 : decide (0 ≤ c) = true := by simpa using hc0
  have hd : decide (c < 1024) = true := by simp; omega
  have HU := Lib.hid (fun W => used_any k c x y o W)
  have heq := fun W => eql_acc k c x y o k c (useX k x) (useY k y) o W
  generalize sameB k c x y o k c (useX k x) (useY k y) o = bb at *
  generalize useX k x = x' at *
  generalize useY k y = y' at *
  have HR := Lib.hid (Row.new w 24 #[.int .i64 k, .int .i64 c, .int .u32 x, .int .u32 y, .int .u32 o])
  have HO := Lib.hid ((Only.refl Nil w).alloc (.cells #[.int .i64 k, .int .i64 c, .int .u32 x, .int .u32 y, .int .u32 o] 24))
  clear h1 h5
  go_enter Tryd.func8, Tryd.ntmps8
  go_wp2
  generalize w.alloc (.cells #[.int .i64 k, .int .i64 c, .int .u32 x, .int .u32 y, .int .u32 o] 24) = w0 at *
  generalize w.heap.size = g at *
  have c0 : w0.cell? ⟨g, 0, none⟩ = some (.int .i64 k) := HR.out.cell_ (i := 0) rfl
  have c1 : w0.cell? ⟨g, 1, none⟩ = some (.int .i64 c) := HR.out.cell_ (i := 1) rfl
  have c2 : w0.cell? ⟨g, 2, none⟩ = some (.int .u32 x) := HR.out.cell_ (i := 2) rfl
  have c3 : w0.cell? ⟨g, 3, none⟩ = some (.int .u32 y) := HR.out.cell_ (i := 3) rfl
  have c4 : w0.cell? ⟨g, 4, none⟩ = some (.int .u32 o) := HR.out.cell_ (i := 4) rfl
  go_region_held3 (fun w' => w'.cell? ⟨g, 0, none⟩ = some (.int .i64 k) ∧ w'.cell? ⟨g, 1, none⟩ = some (.int .i64 c) ∧ w'.cell? ⟨g, 2, none⟩ = some (.int .u32 x) ∧ w'.cell? ⟨g, 3, none⟩ = some (.int .u32 y) ∧ w'.cell? ⟨g, 4, none⟩ = some (.int .u32 o) ∧ Only Nil w0 w')
    (first
      | exact ⟨c0, c1, c2, c3, c4, (Only.refl _ _).drew⟩
      | (go_keep; done)
      | (go_split_ands
         refine ⟨?_, ?_, ?_, ?_, ?_, ?_⟩
         · rw [hO.cell (World.block_lt_of_cell? _ _ (by assumption)) id]; assumption
         · rw [hO.cell (World.block_lt_of_cell? _ _ (by assumption)) id]; assumption
         · rw [hO.cell (World.block_lt_of_cell? _ _ (by assumption)) id]; assumption
         · rw [hO.cell (World.block_lt_of_cell? _ _ (by assumption)) id]; assumption
         · rw [hO.cell (World.block_lt_of_cell? _ _ (by assumption)) id]; assumption
         · exact Only.trans (by assumption) hO))
    ((first
      | (go_at_call 20; refine (isKind_yes k _ HK.out.1 HK.out.2).mono ?_; rintro e w' ⟨rfl, rfl⟩)
      | (go_at_call 21; refine (HU.out _).mono ?_; rintro e w' ⟨rfl, hO⟩)))
  rename_i hH
  go_wp2
  go_ret
  exact ⟨rfl, HO.out.trans hH.2.2.2.2.2⟩

def rightB (k c x y o : Int) : Bool := decide (Acc.Right ⟨k, c, x, y, o⟩)
theorem rightB_iff {k c x y o : Int} : rightB k c x y o = true ↔ Acc.Right ⟨k, c, x, y, o⟩ := by simp [rightB]
theorem right_any (k c x y o : Int) (w : World) : Calls Tryd.prog 8 #[.agg #[.int .i64 k, .int .i64 c, .int .u32 x, .int .u32 y, .int .u32 o]] w fun e w' => e = .returned (.bool (rightB k c x y o)) ∧ Only Nil w w' := by
  by_cases hk : 1 ≤ k ∧ k ≤ 5
  · by_cases hc0 : c < 0
    · rw [show rightB k c x y o = false from decide_eq_false (fun h => by have := h.c0; simp only at this; omega)]
      exact right_under k c x y o w hk.1 hk.2 hc0
    · by_cases hc1 : 1023 < c
      · rw [show rightB k c x y o = false from decide_eq_false (fun h => by have := h.c1; simp only at this; omega)]
        exact right_over k c x y o w hk.1 hk.2 hc1
      · have e : rightB k c x y o = sameB k c x y o k c (useX k x) (useY k y) o := by
          rw [Bool.eq_iff_iff, sameB_iff, rightB_iff]
          unfold useX useY nOps
          constructor
          · intro h
            have hx := h.x
            have hy := h.y
            simp only at hx hy
            refine ⟨rfl, rfl, ?_, ?_, rfl⟩
            · rcases kinds hk.1 hk.2 with rfl | rfl | rfl | rfl | rfl <;> simp_all
            · rcases kinds hk.1 hk.2 with rfl | rfl | rfl | rfl | rfl <;> simp_all
          · rintro ⟨_, _, hx, hy, _⟩
            refine ⟨hk.1, hk.2, by simp only; omega, by simp only; omega, ?_, ?_⟩
            · rcases kinds hk.1 hk.2 with rfl | rfl | rfl | rfl | rfl <;> simp_all
            · rcases kinds hk.1 hk.2 with rfl | rfl | rfl | rfl | rfl <;> simp_all
        rw [e]
        exact right_same k c x y o w hk.1 hk.2 (by omega) (by omega)
  · rw [show rightB k c x y o = false from decide_eq_false (fun h => hk ⟨h.k1, h.k5⟩)]
    exact right_kind k c x y o w hk
end Go.Proofs.YtlccmhlbkgojlaaDoor
