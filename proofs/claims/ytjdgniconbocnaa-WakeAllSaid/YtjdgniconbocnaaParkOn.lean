/- park.onPermit. -/
import Derived.Test.YtjdgniconbocnaaParkM
import Derived.Test.YtjdgniconbocnaaPermit
set_option linter.unusedVariables false
set_option linter.unusedSimpArgs false
namespace Go.Proofs.Ytjdgniconbocnaa
open Go.RowKit

theorem on_any (p A : Option Addr) (cp : Nat) (xs : List Int) (n i k c x y o : Int) (w : World) (h : Memo w p A cp xs) :
    Calls Try.prog 37 #[.func (.func 27) #[.pointer p] #[], .agg #[.int .i64 n], .int .i64 i, .agg #[.int .i64 k, .int .i64 c, .int .u32 x, .int .u32 y, .int .u32 o]] w fun e w' =>
      e = .returned (.tuple #[doVal xs k (pc n i) x y, .bool (doOk xs k (pc n i))]) ∧ Only (At A) w w' ∧ Memo w' p A cp (doNew xs k (pc n i) x y) := by
  have HH := Lib.hid h
  clear h
  go_enter Try.func37, Try.ntmps37
  go_wp2_with fail
  refine (permit_any n i _).mono ?_
  rintro e w1 ⟨rfl, hO⟩
  have R7 : Row w1 (w.heap.size + 1) 33 #[.int .i64 k, .int .i64 c, .int .u32 x, .int .u32 y, .int .u32 o] := ((Row.new2 w _ _ _).alloc _).only hO id
  have R8 : Row w1 (w.heap.size + 1 + 1) 33 #[.int .i64 0, .int .i64 0, .int .u32 0, .int .u32 0, .int .u32 0] := by
    refine Row.only ?_ hO id
    have e := Row.new2 (w.alloc (Obj.cells #[Value.int IntKind.i64 n] 37)) (Obj.cells #[Value.int IntKind.i64 k, Value.int IntKind.i64 c, Value.int IntKind.u32 x, Value.int IntKind.u32 y, Value.int IntKind.u32 o] 33) 33 #[.int .i64 0, .int .i64 0, .int .u32 0, .int .u32 0, .int .u32 0]
    simpa using e
  have HO1 : Hid (Only Nil w w1) := Lib.hid (((((Only.refl Nil w).alloc _).alloc _).alloc _).trans hO)
  have hM : Memo w1 p A cp xs := HH.out.keep HO1.out
  have c70 : w1.cell? ⟨w.heap.size + 1, 0, none⟩ = some (.int .i64 k) := R7.cell_ (i := 0) rfl
  have c71 : w1.cell? ⟨w.heap.size + 1, 1, none⟩ = some (.int .i64 c) := R7.cell_ (i := 1) rfl
  have c72 : w1.cell? ⟨w.heap.size + 1, 2, none⟩ = some (.int .u32 x) := R7.cell_ (i := 2) rfl
  have c73 : w1.cell? ⟨w.heap.size + 1, 3, none⟩ = some (.int .u32 y) := R7.cell_ (i := 3) rfl
  have c74 : w1.cell? ⟨w.heap.size + 1, 4, none⟩ = some (.int .u32 o) := R7.cell_ (i := 4) rfl
  have f70 : w1.frozen? ⟨w.heap.size + 1, 0, none⟩ = false := R7.frozen 0
  have f71 : w1.frozen? ⟨w.heap.size + 1, 1, none⟩ = false := R7.frozen 1
  have f72 : w1.frozen? ⟨w.heap.size + 1, 2, none⟩ = false := R7.frozen 2
  have f73 : w1.frozen? ⟨w.heap.size + 1, 3, none⟩ = false := R7.frozen 3
  have f74 : w1.frozen? ⟨w.heap.size + 1, 4, none⟩ = false := R7.frozen 4
  have HR7 := Lib.hid R7
  have HR8 := Lib.hid R8
  have HM := Lib.hid hM
  clear hO R7 R8 hM
  show _
  have hpc : cellI n 3 i = pc n i := rfl
  rw [hpc]
  clear hpc
  go_wp2_with fail
  have ha : ∀ j, At p j ∨ At A j → j < w.heap.size := HH.out.lt
  have e1 : Only (· = w.heap.size + 1) w1 (w1.setCell ⟨w.heap.size + 1, 1, none⟩ (.int .i64 (pc n i))) := (Only.refl (· = w.heap.size + 1) w1).setCell (p := ⟨w.heap.size + 1, 1, none⟩) (.inr rfl) _
  refine (do_memo p A cp xs k (pc n i) x y o _ (HM.out.far e1 (fun j hj h => by have := ha j hj; omega))).mono ?_
  obtain ⟨k', c', x', y', hv⟩ := doVal_form xs k (pc n i) x y
  rw [hv]
  rintro e w2 ⟨rfl, hO, hM⟩
  have hS : Only (At A) w w2 := ((HO1.out.mono (fun _ _ h => h.elim)).setCell (p := ⟨w.heap.size + 1, 1, none⟩) (.inl (by simp)) (.int .i64 (pc n i))).trans hO
  have R8 := (HR8.out.far (p := ⟨w.heap.size + 1, 1, none⟩) (by simp) (.int .i64 (pc n i))).only hO (fun h => by have := ha _ (.inr h); omega)
  have c80 : w2.cell? ⟨w.heap.size + 1 + 1, 0, none⟩ = some (.int .i64 0) := R8.cell_ (i := 0) rfl
  have c81 : w2.cell? ⟨w.heap.size + 1 + 1, 1, none⟩ = some (.int .i64 0) := R8.cell_ (i := 1) rfl
  have c82 : w2.cell? ⟨w.heap.size + 1 + 1, 2, none⟩ = some (.int .u32 0) := R8.cell_ (i := 2) rfl
  have c83 : w2.cell? ⟨w.heap.size + 1 + 1, 3, none⟩ = some (.int .u32 0) := R8.cell_ (i := 3) rfl
  have c84 : w2.cell? ⟨w.heap.size + 1 + 1, 4, none⟩ = some (.int .u32 0) := R8.cell_ (i := 4) rfl
  have f80 : w2.frozen? ⟨w.heap.size + 1 + 1, 0, none⟩ = false := R8.frozen 0
  have f81 : w2.frozen? ⟨w.heap.size + 1 + 1, 1, none⟩ = false := R8.frozen 1
  have f82 : w2.frozen? ⟨w.heap.size + 1 + 1, 2, none⟩ = false := R8.frozen 2
  have f83 : w2.frozen? ⟨w.heap.size + 1 + 1, 3, none⟩ = false := R8.frozen 3
  have f84 : w2.frozen? ⟨w.heap.size + 1 + 1, 4, none⟩ = false := R8.frozen 4
  have HR9 := Lib.hid R8
  have HS := Lib.hid hS
  have HM2 := Lib.hid hM
  have HA := Lib.hid ha
  generalize (if doOk xs k (pc n i) then wordAt xs (pc n i) else 0) = o' at hv
  generalize hok : doOk xs k (pc n i) = ok at hv
  have HV := Lib.hid hv
  have HOK := Lib.hid hok
  clear hO R8 hS hM c70 c71 c72 c73 c74 f70 f71 f72 f73 f74 e1 hv ha hok
  go_wp2
  refine post_row_tmp (P := Try.prog) Try.results37 (t := 33) (g := w.heap.size + 1 + 1) (cs := #[.int .i64 k', .int .i64 c', .int .u32 x', .int .u32 y', .int .u32 o']) rfl (five HR9.out _ _ _ _ _) Try.underlying33 rfl (by kernel_rfl) rfl ⟨?_, five_only HS.out (.inl (by omega)) _ _ _ _ _, ?_⟩
  · rw [HV.out, HOK.out]; rfl
  · exact HM2.out.far (five_only (Only.refl (· = w.heap.size + 1 + 1) w2) (.inr rfl) _ _ _ _ _) (fun j hj h => by have := HA.out j hj; omega)
end Go.Proofs.Ytjdgniconbocnaa
