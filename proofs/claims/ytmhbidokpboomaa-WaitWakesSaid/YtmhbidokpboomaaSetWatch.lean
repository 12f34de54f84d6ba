/- wait.setWatch, wait.either. -/
import Derived.Test.YtmhbidokpboomaaWaitM
import Derived.Test.YtmhbidokpboomaaWatch
import Derived.Deep.Cut
set_option linter.unusedVariables false
set_option linter.unusedSimpArgs false
namespace Go.Proofs.Ytmhbidokpboomaa
open Go.RowKit

theorem either_any (b : Bool) (y z : Int) (w : World) :
    Calls Try.prog 29 #[.bool b, .int .i64 y, .int .i64 z] w fun e w' => e = .returned (.agg #[.int .i64 (if b then y else z)]) ∧ Only Nil w w' := by
  cases b
  all_goals
    simp only [Bool.false_eq_true, if_false, if_true]
    go_enter Try.func29, Try.ntmps29
    go_wp2
    exact post_row (P := Try.prog) Try.results29 (t := 24) (by rfl) (Row.new _ _ _) Try.underlying24 rfl (by kernel_rfl) rfl ⟨rfl, (Only.refl _ _).alloc _⟩

theorem setWatch_any (p A : Option Addr) (cp : Nat) (xs : List Int) (n i x : Int) (w : World) (h : Memo w p A cp xs) :
    Calls Try.prog 28 #[.pointer p, .agg #[.int .i64 n], .int .i64 i, .int .u32 x] w fun e w' =>
      e = .returned (doVal xs 2 (wc n i) x 0) ∧ Only (At A) w w' ∧ Memo w' p A cp (st xs (wc n i) x) := by
  have hst : doNew xs 2 (wc n i) x 0 = st xs (wc n i) x := by rw [doNew_st xs 2 _ x 0 rfl]; rfl
  have HST := Lib.hid hst
  have HH := Lib.hid h
  have ha : ∀ j, At p j ∨ At A j → j < w.heap.size := HH.out.lt
  have HA := Lib.hid ha
  clear h ha hst
  go_enter Try.func28, Try.ntmps28
  go_wp2_with fail
  refine (watch_any n i _).mono ?_
  rintro e w1 ⟨rfl, hO⟩
  have R8 : Row w1 (w.heap.size + 1) 39 #[.int .i64 0, .int .i64 0, .int .u32 0, .int .u32 0, .int .u32 0] := (Row.new2 w _ _ _).only hO id
  have hO1 : Only Nil w w1 := (((Only.refl Nil w).alloc _).alloc _).trans hO
  have HM1 := Lib.hid (HH.out.keep hO1)
  have HO1 := Lib.hid hO1
  have HR8 := Lib.hid R8
  clear hO R8 hO1
  show _
  have hpc : cellI n 2 i = wc n i := rfl
  rw [hpc]
  clear hpc
  go_wp2_with fail
  refine (do_memo p A cp xs 2 (wc n i) x 0 0 _ HM1.out).mono ?_
  obtain ⟨k', c', x', y', hv⟩ := doVal_form xs 2 (wc n i) x 0
  rw [oldAt xs 2 (wc n i) rfl] at hv
  rw [hv, HST.out]
  rintro e w2 ⟨rfl, hO, hM⟩
  have HS := Lib.hid ((HO1.out.mono (fun _ _ h => h.elim)).trans hO)
  have R8 := HR8.out.only hO (fun h => by have := HA.out _ (.inr h); omega)
  have HR9 := Lib.hid (R8.alloc (Obj.cells #[Value.int IntKind.i64 k', Value.int IntKind.i64 c', Value.int IntKind.u32 x', Value.int IntKind.u32 y', Value.int IntKind.u32 (wordAt xs (wc n i))] 39))
  have HN := Lib.hid (Row.new w2 39 #[Value.int IntKind.i64 k', Value.int IntKind.i64 c', Value.int IntKind.u32 x', Value.int IntKind.u32 y', Value.int IntKind.u32 (wordAt xs (wc n i))])
  have HS2 := Lib.hid (HS.out.alloc (Obj.cells #[Value.int IntKind.i64 k', Value.int IntKind.i64 c', Value.int IntKind.u32 x', Value.int IntKind.u32 y', Value.int IntKind.u32 (wordAt xs (wc n i))] 39))
  have HM2 := Lib.hid (hM.keep ((Only.refl Nil w2).alloc (Obj.cells #[Value.int IntKind.i64 k', Value.int IntKind.i64 c', Value.int IntKind.u32 x', Value.int IntKind.u32 y', Value.int IntKind.u32 (wordAt xs (wc n i))] 39)))
  have HV := Lib.hid hv
  have hlt := R8.lt
  have HLT := Lib.hid hlt
  clear hO R8 hM hv hlt HS
  generalize wordAt xs (wc n i) = o' at *
  generalize doOk xs 2 (wc n i) = ok at *
  go_upto_region 2 with (fail)
  generalize w2.alloc (.cells #[.int .i64 k', .int .i64 c', .int .u32 x', .int .u32 y', .int .u32 o'] 39) = w3 at *
  generalize w2.heap.size = g2 at *
  have c80 : w3.cell? ⟨w.heap.size + 1, 0, none⟩ = some (.int .i64 0) := HR9.out.cell_ (i := 0) rfl
  have c81 : w3.cell? ⟨w.heap.size + 1, 1, none⟩ = some (.int .i64 0) := HR9.out.cell_ (i := 1) rfl
  have c82 : w3.cell? ⟨w.heap.size + 1, 2, none⟩ = some (.int .u32 0) := HR9.out.cell_ (i := 2) rfl
  have c83 : w3.cell? ⟨w.heap.size + 1, 3, none⟩ = some (.int .u32 0) := HR9.out.cell_ (i := 3) rfl
  have c84 : w3.cell? ⟨w.heap.size + 1, 4, none⟩ = some (.int .u32 0) := HR9.out.cell_ (i := 4) rfl
  have f80 : w3.frozen? ⟨w.heap.size + 1, 0, none⟩ = false := HR9.out.frozen 0
  have f81 : w3.frozen? ⟨w.heap.size + 1, 1, none⟩ = false := HR9.out.frozen 1
  have f82 : w3.frozen? ⟨w.heap.size + 1, 2, none⟩ = false := HR9.out.frozen 2
  have f83 : w3.frozen? ⟨w.heap.size + 1, 3, none⟩ = false := HR9.out.frozen 3
  have f84 : w3.frozen? ⟨w.heap.size + 1, 4, none⟩ = false := HR9.out.frozen 4
  have c0 : w3.cell? ⟨g2, 0, none⟩ = some (.int .i64 k') := HN.out.cell_ (i := 0) rfl
  have c1 : w3.cell? ⟨g2, 1, none⟩ = some (.int .i64 c') := HN.out.cell_ (i := 1) rfl
  have c2 : w3.cell? ⟨g2, 2, none⟩ = some (.int .u32 x') := HN.out.cell_ (i := 2) rfl
  have c3 : w3.cell? ⟨g2, 3, none⟩ = some (.int .u32 y') := HN.out.cell_ (i := 3) rfl
  have c4 : w3.cell? ⟨g2, 4, none⟩ = some (.int .u32 o') := HN.out.cell_ (i := 4) rfl
  go_wp2
  refine post_row (P := Try.prog) Try.results28 (t := 39) (g := w.heap.size + 1) (cs := #[.int .i64 k', .int .i64 c', .int .u32 x', .int .u32 y', .int .u32 o']) rfl (five HR9.out _ _ _ _ _) Try.underlying39 rfl (by kernel_rfl) rfl ⟨?_, five_only HS2.out (.inl (by omega)) _ _ _ _ _, ?_⟩
  · rw [HV.out]
  · exact HM2.out.far (five_only (Only.refl (· = w.heap.size + 1) w3) (.inr rfl) _ _ _ _ _) (fun j hj h => by have := HA.out j hj; omega)
end Go.Proofs.Ytmhbidokpboomaa
