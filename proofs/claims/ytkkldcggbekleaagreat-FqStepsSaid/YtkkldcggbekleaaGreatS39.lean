import Derived.Test.YtkkldcggbekleaaGreatChecked
import Derived.Test.YtkkldcggbekleaaGreatS18
import Derived.Test.YtkkldcggbekleaaGreatS6
import Derived.Test.YtkkldcggbekleaaGreatS15
import Derived.Test.YtkkldcggbekleaaGreatS17
namespace Go.Proofs.YtkkldcggbekleaaGreat
open Go.RowKit
end Go.Proofs.YtkkldcggbekleaaGreat
set_option linter.unusedVariables false
set_option linter.unusedSimpArgs false
namespace Go.Proofs.YtkkldcggbekleaaGreat
open Go.RowKit
theorem refCell_any (n row i : Int) (w : World) (hr : row = 0 ∨ row = 1 ∨ row = 2 ∨ row = 3) :
    Calls Tryz.prog 53 #[.int .i64 n, .int .i64 row, .int .i64 i] w fun e w' => e = .returned (.int .i64 (cellI n row i)) ∧ w = w' := by
  by_cases h1 : 1 ≤ n
  · by_cases h2 : n ≤ 64
    · by_cases h3 : 0 ≤ i
      · by_cases h4 : i < n
        · have hc : cellI n row i = 8 + row * n + i := if_pos ⟨h1, h2, h3, h4⟩
          rw [hc]
          clear hc
          rcases hr with rfl | rfl | rfl | rfl
          all_goals
            go_enter Tryz.func53, Tryz.ntmps53
            go_wp2
            go_ret
            exact ⟨ret_int (by omega), rfl⟩
        · have hc : cellI n row i = -1 := if_neg (fun h => h4 h.2.2.2)
          rw [hc]
          clear hc hr
          go_enter Tryz.func53, Tryz.ntmps53
          go_wp2
          go_ret
          exact ⟨rfl, rfl⟩
      · have hc : cellI n row i = -1 := if_neg (fun h => h3 h.2.2.1)
        rw [hc]
        clear hc hr
        go_enter Tryz.func53, Tryz.ntmps53
        go_wp2
        go_ret
        exact ⟨rfl, rfl⟩
    · have hc : cellI n row i = -1 := if_neg (fun h => h2 h.2.1)
      rw [hc]
      clear hc hr
      go_enter Tryz.func53, Tryz.ntmps53
      go_wp2
      go_ret
      exact ⟨rfl, rfl⟩
  · have hc : cellI n row i = -1 := if_neg (fun h => h1 h.1)
    rw [hc]
    clear hc hr
    go_enter Tryz.func53, Tryz.ntmps53
    go_wp2
    go_ret
    exact ⟨rfl, rfl⟩
end Go.Proofs.YtkkldcggbekleaaGreat
set_option linter.unusedVariables false
set_option linter.unusedSimpArgs false
namespace Go.Proofs.YtkkldcggbekleaaGreat
open Go.RowKit
theorem rcell_any (A : Option Addr) (l cp : Nat) (xs : List Int) (n i : Int) (hn : xs.length = l) (w : World) :
    Calls Tryz.prog 89 #[.slice A l cp, .int .i64 n, .int .i64 i] w fun e w' => e = .returned (.int .i64 (if there xs (pc n i) then pc n i else -1)) ∧ w = w' := by
  have HN := Lib.hid hn
  clear hn
  cases ht : there xs (pc n i)
  all_goals
    simp only [Bool.false_eq_true, if_false, if_true]
    have HT := Lib.hid ht
    clear ht
    go_enter Tryz.func89, Tryz.ntmps89
    go_wp2_with fail
    refine (refCell_any n 3 i _ (by omega)).mono ?_
    rintro e w1 ⟨rfl, rfl⟩
    have hpc : cellI n 3 i = pc n i := rfl
    rw [hpc]
    clear hpc
    go_wp2_with fail
    refine (there_any A l cp xs (pc n i) HN.out _).mono ?_
    rw [HT.out]
    rintro e w2 ⟨rfl, hw⟩
    obtain rfl := hw.symm
    clear hw
    go_wp2
    go_ret
    exact ⟨rfl, rfl⟩
end Go.Proofs.YtkkldcggbekleaaGreat
set_option linter.unusedVariables false
set_option linter.unusedSimpArgs false
namespace Go.Proofs.YtkkldcggbekleaaGreat
open Go.RowKit
theorem rgive_any (base : Nat) (A : Option Addr) (l cp : Nat) (xs : List Int) (n i : Int) (w : World) (h : Own w base A cp xs) (hn : xs.length = l) :
    Calls Tryz.prog 54 #[.slice A l cp, .int .i64 n, .int .i64 i] w fun e w' =>
      e = .returned (.tuple #[doVal xs 2 (pc n i) 1 0, .bool (there xs (pc n i))]) ∧ Only (At A) w w' ∧ Own w' base A cp (st xs (pc n i) 1) := by
  have HN := Lib.hid hn
  have HW := Lib.hid h
  cases ht : there xs (pc n i)
  · have hv : doVal xs 2 (pc n i) 1 0 = .agg #[.int .i64 0, .int .i64 0, .int .u32 0, .int .u32 0, .int .u32 0] := by simp [doVal, doOk, ht, accOf]
    have hs : st xs (pc n i) 1 = xs := by simp [st, ht]
    rw [hv, hs]
    have HT := Lib.hid ht
    clear ht h hn hv hs
    go_enter Tryz.func54, Tryz.ntmps54
    go_wp2_with fail
    refine (rcell_any A l cp xs n i HN.out _).mono ?_
    rw [HT.out]
    rintro e w1 ⟨rfl, rfl⟩
    simp only [Bool.false_eq_true, if_false]
    go_wp2
    refine post_row_tmp (P := Tryz.prog) Tryz.results54 (t := 39) (g := w.heap.size) (cs := #[.int .i64 0, .int .i64 0, .int .u32 0, .int .u32 0, .int .u32 0]) rfl (Row.new _ _ _) Tryz.underlying39 rfl (by kernel_rfl) rfl ⟨rfl, (Only.refl _ w).alloc _, ?_⟩
    exact HW.out.only ((Only.refl Nil w).alloc _) (fun _ _ => id)
  · have ht2 := ht
    simp only [there, decide_eq_true_eq] at ht2
    obtain ⟨q, hq⟩ := Int.eq_ofNat_of_zero_le ht2.1
    have hql : q < l := by omega
    obtain ⟨g, cur, rfl, hb, hr, hcell, hset⟩ := h.row (i := q) (by omega)
    have hwd : wordAt xs (pc n i) = xs.getD q 0 := by unfold wordAt; rw [ht, hq]; rfl
    have hv : doVal xs 2 (pc n i) 1 0 = .agg #[.int .i64 2, .int .i64 q, .int .u32 1, .int .u32 0, .int .u32 (xs.getD q 0)] := by
      have hok : doOk xs 2 (pc n i) = true := by simp [doOk, isKind, ht]
      unfold doVal
      rw [hok, hwd, hq]
      rfl
    have hs : st xs (pc n i) 1 = xs.set q 1 := by unfold st; rw [ht, hq]; rfl
    rw [hv, hs]
    generalize xs.getD q 0 = v at *
    have c0 := hr.cell_ hcell
    have f0 := hr.frozen q
    have HT := Lib.hid ht
    have HQ := Lib.hid hq
    have HR := Lib.hid hr
    have HSET := Lib.hid hset
    have hg := hr.lt
    clear ht h hn hv hs hq hwd ht2 hr hset hcell
    go_enter Tryz.func54, Tryz.ntmps54
    go_wp2_with fail
    refine (rcell_any _ l cp xs n i HN.out _).mono ?_
    rw [HT.out, HQ.out]
    rintro e w1 ⟨rfl, rfl⟩
    simp only [if_true]
    go_wp2
    refine post_row_tmp (P := Tryz.prog) Tryz.results54 (t := 39) (g := w.heap.size) (cs := #[.int .i64 2, .int .i64 q, .int .u32 1, .int .u32 0, .int .u32 v]) rfl ?_ Tryz.underlying39 rfl (by kernel_rfl) rfl ⟨rfl, ?_, ?_⟩
    · have e2 := (Row.new (w.setCell ⟨g, q, none⟩ (.int .u32 1)) 39 #[.int .i64 2, .int .i64 q, .int .u32 1, .int .u32 0, .int .u32 v]).alloc (Obj.cells #[.int .i64 2, .int .i64 q, .int .u32 1, .int .u32 0, .int .u32 v] 39)
      simpa [World.setCell] using e2
    · exact (((Only.refl (At (some ⟨g, 0, none⟩)) w).setCell (p := ⟨g, q, none⟩) (.inr ⟨_, rfl, rfl⟩) (.int .u32 1)).alloc _).alloc _
    · exact HSET.out _ _ (((HR.out.set q (.int .u32 1)).alloc _).alloc _)
end Go.Proofs.YtkkldcggbekleaaGreat
