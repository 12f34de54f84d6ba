/- Contracts of the answer for park: its cell, There, Give, Take, on a list of the caller's own. -/
import Derived.Test.YtcdndaobdhbplaaPark
import Derived.Test.YtcdndaobdhbplaaRefC
set_option linter.unusedVariables false
set_option linter.unusedSimpArgs false
namespace Go.Proofs.Ytcdndaobdhbplaa
open Go.RowKit

theorem rcell_any (A : Option Addr) (l cp : Nat) (xs : List Int) (n i : Int) (hn : xs.length = l) (w : World) :
    Calls Try.prog 22 #[.slice A l cp, .int .i64 n, .int .i64 i] w fun e w' => e = .returned (.int .i64 (if there xs (pc n i) then pc n i else -1)) ∧ w = w' := by
  have HN := Lib.hid hn
  clear hn
  cases ht : there xs (pc n i)
  all_goals
    simp only [Bool.false_eq_true, if_false, if_true]
    have HT := Lib.hid ht
    clear ht
    go_enter Try.func22, Try.ntmps22
    go_wp2_with fail
    refine (refCell_any n 3 i _ (by omega)).mono ?_
    rintro e w1 ⟨rfl, rfl⟩
    have hpc : cellI n 3 i = pc n i := rfl
    rw [hpc]
    clear hpc
    go_wp2_with fail
    refine (there_any A l cp xs (pc n i) HN.out _).mono ?_
    rw [HT.out]
    rintro e w2 ⟨rfl, hw⟩
    obtain rfl := hw.symm
    clear hw
    go_wp2
    go_ret
    exact ⟨rfl, rfl⟩

theorem rhas_any (A : Option Addr) (l cp B : Nat) (xs : List Int) (n i : Int) (hn : xs.length = l) (w : World) (hx : Ints w B .u32 A xs) :
    Calls Try.prog 14 #[.slice A l cp, .int .i64 n, .int .i64 i] w fun e w' => e = .returned (.bool (hasP xs n i)) ∧ w = w' := by
  have HN := Lib.hid hn
  cases ht : there xs (pc n i)
  · have hp : hasP xs n i = false := by simp [hasP, wordAt, ht]
    rw [hp]
    have HT := Lib.hid ht
    clear ht hp hn hx
    go_enter Try.func14, Try.ntmps14
    go_wp2_with fail
    refine (rcell_any A l cp xs n i HN.out _).mono ?_
    rw [HT.out]
    rintro e w1 ⟨rfl, rfl⟩
    simp only [Bool.false_eq_true, if_false]
    go_wp2
    go_ret
    exact ⟨rfl, rfl⟩
  · have ht2 := ht
    simp only [there, decide_eq_true_eq] at ht2
    obtain ⟨q, hq⟩ := Int.eq_ofNat_of_zero_le ht2.1
    have hql : q < l := by omega
    obtain ⟨b, o, rfl, hb, hc⟩ := hx (by omega)
    have c0 : w.cell? ⟨b, o + q, none⟩ = some (.int .u32 (wordAt xs (pc n i))) := by
      rw [hc q (by omega), show wordAt xs (pc n i) = xs.getD q 0 by unfold wordAt; rw [ht, hq]; rfl]
    have hp : hasP xs n i = (wordAt xs (pc n i) != 0) := rfl
    have HP := Lib.hid hp
    have HT := Lib.hid ht
    have HQ := Lib.hid hq
    generalize hw : wordAt xs (pc n i) = v at *
    rw [HP.out]
    clear ht hp hn hx hc hw ht2 hq
    go_enter Try.func14, Try.ntmps14
    go_wp2_with fail
    refine (rcell_any (some ⟨b, o, none⟩) l cp xs n i HN.out _).mono ?_
    rw [HT.out, HQ.out]
    rintro e w1 ⟨rfl, rfl⟩
    simp only [if_true]
    go_wp2
    go_ret
    exact ⟨rfl, rfl⟩

theorem rgive_any (base : Nat) (A : Option Addr) (l cp : Nat) (xs : List Int) (n i : Int) (w : World) (h : Own w base A cp xs) (hn : xs.length = l) :
    Calls Try.prog 10 #[.slice A l cp, .int .i64 n, .int .i64 i] w fun e w' =>
      e = .returned (.tuple #[doVal xs 2 (pc n i) 1 0, .bool (there xs (pc n i))]) ∧ Only (At A) w w' ∧ Own w' base A cp (st xs (pc n i) 1) := by
  have HN := Lib.hid hn
  have HW := Lib.hid h
  cases ht : there xs (pc n i)
  · have hv : doVal xs 2 (pc n i) 1 0 = .agg #[.int .i64 0, .int .i64 0, .int .u32 0, .int .u32 0, .int .u32 0] := by simp [doVal, doOk, ht, accOf]
    have hs : st xs (pc n i) 1 = xs := by simp [st, ht]
    rw [hv, hs]
    have HT := Lib.hid ht
    clear ht h hn hv hs
    go_enter Try.func10, Try.ntmps10
    go_wp2_with fail
    refine (rcell_any A l cp xs n i HN.out _).mono ?_
    rw [HT.out]
    rintro e w1 ⟨rfl, rfl⟩
    simp only [Bool.false_eq_true, if_false]
    go_wp2
    refine post_row_tmp (P := Try.prog) Try.results10 (t := 36) (g := w.heap.size) (cs := #[.int .i64 0, .int .i64 0, .int .u32 0, .int .u32 0, .int .u32 0]) rfl (Row.new _ _ _) Try.underlying36 rfl (by kernel_rfl) rfl ⟨rfl, (Only.refl _ w).alloc _, ?_⟩
    exact HW.out.only ((Only.refl Nil w).alloc _) (fun _ _ => id)
  · have ht2 := ht
    simp only [there, decide_eq_true_eq] at ht2
    obtain ⟨q, hq⟩ := Int.eq_ofNat_of_zero_le ht2.1
    have hql : q < l := by omega
    obtain ⟨g, cur, rfl, hb, hr, hcell, hset⟩ := h.row (i := q) (by omega)
    have hwd : wordAt xs (pc n i) = xs.getD q 0 := by unfold wordAt; rw [ht, hq]; rfl
    have hv : doVal xs 2 (pc n i) 1 0 = .agg #[.int .i64 2, .int .i64 q, .int .u32 1, .int .u32 0, .int .u32 (xs.getD q 0)] := by
      have hok : doOk xs 2 (pc n i) = true := by simp [doOk, isKind, ht]
      unfold doVal
      rw [hok, hwd, hq]
      rfl
    have hs : st xs (pc n i) 1 = xs.set q 1 := by unfold st; rw [ht, hq]; rfl
    rw [hv, hs]
    generalize xs.getD q 0 = v at *
    have c0 := hr.cell_ hcell
    have f0 := hr.frozen q
    have HT := Lib.hid ht
    have HQ := Lib.hid hq
    have HR := Lib.hid hr
    have HSET := Lib.hid hset
    have hg := hr.lt
    clear ht h hn hv hs hq hwd ht2 hr hset hcell
    go_enter Try.func10, Try.ntmps10
    go_wp2_with fail
    refine (rcell_any _ l cp xs n i HN.out _).mono ?_
    rw [HT.out, HQ.out]
    rintro e w1 ⟨rfl, rfl⟩
    simp only [if_true]
    go_wp2
    refine post_row_tmp (P := Try.prog) Try.results10 (t := 36) (g := w.heap.size) (cs := #[.int .i64 2, .int .i64 q, .int .u32 1, .int .u32 0, .int .u32 v]) rfl ?_ Try.underlying36 rfl (by kernel_rfl) rfl ⟨rfl, ?_, ?_⟩
    · have e2 := (Row.new (w.setCell ⟨g, q, none⟩ (.int .u32 1)) 36 #[.int .i64 2, .int .i64 q, .int .u32 1, .int .u32 0, .int .u32 v]).alloc (Obj.cells #[.int .i64 2, .int .i64 q, .int .u32 1, .int .u32 0, .int .u32 v] 36)
      simpa [World.setCell] using e2
    · exact (((Only.refl (At (some ⟨g, 0, none⟩)) w).setCell (p := ⟨g, q, none⟩) (.inr ⟨_, rfl, rfl⟩) (.int .u32 1)).alloc _).alloc _
    · exact HSET.out _ _ (((HR.out.set q (.int .u32 1)).alloc _).alloc _)

theorem rtake_any (base : Nat) (A : Option Addr) (l cp : Nat) (xs : List Int) (n i : Int) (w : World) (h : Own w base A cp xs) (hn : xs.length = l) :
    Calls Try.prog 12 #[.slice A l cp, .int .i64 n, .int .i64 i] w fun e w' =>
      e = .returned (.tuple #[takeVal xs n i, .bool (hasP xs n i)]) ∧ Only (At A) w w' ∧ Own w' base A cp (st xs (pc n i) 0) := by
  have HN := Lib.hid hn
  have HW := Lib.hid h
  cases hp : hasP xs n i
  · have hv : takeVal xs n i = .agg #[.int .i64 0, .int .i64 0, .int .u32 0, .int .u32 0, .int .u32 0] := by simp [takeVal, hp, accOf]
    have hs : st xs (pc n i) 0 = xs := st_none hp
    rw [hv, hs]
    have HT := Lib.hid hp
    clear hp h hn hv hs
    go_enter Try.func12, Try.ntmps12
    go_wp2_with fail
    refine (rhas_any A l cp _ xs n i HN.out _ (((HW.out.only ((Only.refl Nil w).alloc _) (fun _ _ => id)).held_n HN.out).2.2)).mono ?_
    rw [HT.out]
    rintro e w1 ⟨rfl, rfl⟩
    go_wp2
    refine post_row_tmp (P := Try.prog) Try.results12 (t := 36) (g := w.heap.size) (cs := #[.int .i64 0, .int .i64 0, .int .u32 0, .int .u32 0, .int .u32 0]) rfl (Row.new _ _ _) Try.underlying36 rfl (by kernel_rfl) rfl ⟨rfl, (Only.refl _ w).alloc _, ?_⟩
    exact HW.out.only ((Only.refl Nil w).alloc _) (fun _ _ => id)
  · have ht := hasP_there hp
    have ht2 := ht
    simp only [there, decide_eq_true_eq] at ht2
    obtain ⟨q, hq⟩ := Int.eq_ofNat_of_zero_le ht2.1
    have hql : q < l := by omega
    obtain ⟨g, cur, rfl, hb, hr, hcell, hset⟩ := h.row (i := q) (by omega)
    have hwd : wordAt xs (pc n i) = xs.getD q 0 := by unfold wordAt; rw [ht, hq]; rfl
    have hv : takeVal xs n i = .agg #[.int .i64 4, .int .i64 q, .int .u32 0, .int .u32 0, .int .u32 (xs.getD q 0)] := by
      unfold takeVal
      rw [hp, hwd, hq]
      rfl
    have hs : st xs (pc n i) 0 = xs.set q 0 := by unfold st; rw [ht, hq]; rfl
    rw [hv, hs]
    generalize xs.getD q 0 = v at *
    have HT := Lib.hid ht
    have HP := Lib.hid hp
    have HQ := Lib.hid hq
    have HR := Lib.hid hr
    have HSET := Lib.hid hset
    have HC := Lib.hid hcell
    have hg := hr.lt
    clear ht h hn hv hs hq hwd ht2 hr hset hcell hp
    go_enter Try.func12, Try.ntmps12
    go_wp2_with fail
    refine (rhas_any _ l cp _ xs n i HN.out _ (((HW.out.only ((Only.refl Nil w).alloc _) (fun _ _ => id)).held_n HN.out).2.2)).mono ?_
    rw [HP.out]
    rintro e w1 ⟨rfl, rfl⟩
    go_wp2_with fail
    refine (rcell_any _ l cp xs n i HN.out _).mono ?_
    rw [HT.out, HQ.out]
    rintro e w1 ⟨rfl, rfl⟩
    have c0 := HR.out.cell_ HC.out
    have f0 := HR.out.frozen q
    simp only [if_true]
    go_wp2
    refine post_row_tmp (P := Try.prog) Try.results12 (t := 36) (g := w.heap.size) (cs := #[.int .i64 4, .int .i64 q, .int .u32 0, .int .u32 0, .int .u32 v]) rfl ?_ Try.underlying36 rfl (by kernel_rfl) rfl ⟨rfl, ?_, ?_⟩
    · have e2 := (Row.new (w.setCell ⟨g, q, none⟩ (.int .u32 0)) 36 #[.int .i64 4, .int .i64 q, .int .u32 0, .int .u32 0, .int .u32 v]).alloc (Obj.cells #[.int .i64 4, .int .i64 q, .int .u32 0, .int .u32 0, .int .u32 v] 36)
      simpa [World.setCell] using e2
    · exact (((Only.refl (At (some ⟨g, 0, none⟩)) w).setCell (p := ⟨g, q, none⟩) (.inr ⟨_, rfl, rfl⟩) (.int .u32 0)).alloc _).alloc _
    · exact HSET.out _ _ (((HR.out.set q (.int .u32 0)).alloc _).alloc _)
end Go.Proofs.Ytcdndaobdhbplaa
