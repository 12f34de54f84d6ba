/- The answer's Take. -/
import Derived.Test.YtmhbidokpboomaaRHas
set_option linter.unusedVariables false
set_option linter.unusedSimpArgs false
namespace Go.Proofs.Ytmhbidokpboomaa
open Go.RowKit

theorem rtake_any (base : Nat) (A : Option Addr) (l cp : Nat) (xs : List Int) (n i : Int) (w : World) (h : Own w base A cp xs) (hn : xs.length = l) :
    Calls Try.prog 31 #[.slice A l cp, .int .i64 n, .int .i64 i] w fun e w' =>
      e = .returned (.tuple #[takeVal xs n i, .bool (hasP xs n i)]) ∧ Only (At A) w w' ∧ Own w' base A cp (st xs (pc n i) 0) := by
  have HN := Lib.hid hn
  have HW := Lib.hid h
  cases hp : hasP xs n i
  · have hv : takeVal xs n i = .agg #[.int .i64 0, .int .i64 0, .int .u32 0, .int .u32 0, .int .u32 0] := by simp [takeVal, hp, accOf]
    have hs : st xs (pc n i) 0 = xs := st_none hp
    rw [hv, hs]
    have HT := Lib.hid hp
    clear hp h hn hv hs
    go_enter Try.func31, Try.ntmps31
    go_wp2_with fail
    refine (rhas_any A l cp _ xs n i HN.out _ (((HW.out.only ((Only.refl Nil w).alloc _) (fun _ _ => id)).held_n HN.out).2.2)).mono ?_
    rw [HT.out]
    rintro e w1 ⟨rfl, rfl⟩
    go_wp2
    refine post_row_tmp (P := Try.prog) Try.results31 (t := 39) (g := w.heap.size) (cs := #[.int .i64 0, .int .i64 0, .int .u32 0, .int .u32 0, .int .u32 0]) rfl (Row.new _ _ _) Try.underlying39 rfl (by kernel_rfl) rfl ⟨rfl, (Only.refl _ w).alloc _, ?_⟩
    exact HW.out.only ((Only.refl Nil w).alloc _) (fun _ _ => id)
  · have ht := hasP_there hp
    have ht2 := ht
    simp only [there, decide_eq_true_eq] at ht2
    obtain ⟨q, hq⟩ := Int.eq_ofNat_of_zero_le ht2.1
    have hql : q < l := by omega
    obtain ⟨g, cur, rfl, hb, hr, hcell, hset⟩ := h.row (i := q) (by omega)
    have hwd : wordAt xs (pc n i) = xs.getD q 0 := by unfold wordAt; rw [ht, hq]; rfl
    have hv : takeVal xs n i = .agg #[.int .i64 4, .int .i64 q, .int .u32 0, .int .u32 0, .int .u32 (xs.getD q 0)] := by
      unfold takeVal
      rw [hp, hwd, hq]
      rfl
    have hs : st xs (pc n i) 0 = xs.set q 0 := by unfold st; rw [ht, hq]; rfl
    rw [hv, hs]
    generalize xs.getD q 0 = v at *
    have HT := Lib.hid ht
    have HP := Lib.hid hp
    have HQ := Lib.hid hq
    have HR := Lib.hid hr
    have HSET := Lib.hid hset
    have HC := Lib.hid hcell
    have hg := hr.lt
    clear ht h hn hv hs hq hwd ht2 hr hset hcell hp
    go_enter Try.func31, Try.ntmps31
    go_wp2_with fail
    refine (rhas_any _ l cp _ xs n i HN.out _ (((HW.out.only ((Only.refl Nil w).alloc _) (fun _ _ => id)).held_n HN.out).2.2)).mono ?_
    rw [HP.out]
    rintro e w1 ⟨rfl, rfl⟩
    go_wp2_with fail
    refine (rcell_any _ l cp xs n i HN.out _).mono ?_
    rw [HT.out, HQ.out]
    rintro e w1 ⟨rfl, rfl⟩
    have c0 := HR.out.cell_ HC.out
    have f0 := HR.out.frozen q
    simp only [if_true]
    go_wp2
    refine post_row_tmp (P := Try.prog) Try.results31 (t := 39) (g := w.heap.size) (cs := #[.int .i64 4, .int .i64 q, .int .u32 0, .int .u32 0, .int .u32 v]) rfl ?_ Try.underlying39 rfl (by kernel_rfl) rfl ⟨rfl, ?_, ?_⟩
    · have e2 := (Row.new (w.setCell ⟨g, q, none⟩ (.int .u32 0)) 39 #[.int .i64 4, .int .i64 q, .int .u32 0, .int .u32 0, .int .u32 v]).alloc (Obj.cells #[.int .i64 4, .int .i64 q, .int .u32 0, .int .u32 0, .int .u32 v] 39)
      simpa [World.setCell] using e2
    · exact (((Only.refl (At (some ⟨g, 0, none⟩)) w).setCell (p := ⟨g, q, none⟩) (.inr ⟨_, rfl, rfl⟩) (.int .u32 0)).alloc _).alloc _
    · exact HSET.out _ _ (((HR.out.set q (.int .u32 0)).alloc _).alloc _)
end Go.Proofs.Ytmhbidokpboomaa
