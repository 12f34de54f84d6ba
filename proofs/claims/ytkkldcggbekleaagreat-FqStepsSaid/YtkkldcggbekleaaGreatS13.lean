import Derived.Test.YtkkldcggbekleaaGreatS12
set_option linter.unusedVariables false
set_option linter.unusedSimpArgs false
namespace Go.Proofs.YtkkldcggbekleaaGreat
open Go.RowKit
theorem take_any (p A : Option Addr) (cp : Nat) (xs : List Int) (n i : Int) (w : World) (h : Memo w p A cp xs) :
    Calls Tryz.prog 124 #[.pointer p, .agg #[.int .i64 n], .int .i64 i] w fun e w' =>
      e = .returned (.tuple #[takeVal xs n i, .bool (hasP xs n i)]) ∧ Only (At A) w w' ∧ Memo w' p A cp (st xs (pc n i) 0) := by
  have HH := Lib.hid h
  have ha : ∀ j, At p j ∨ At A j → j < w.heap.size := HH.out.lt
  have HA := Lib.hid ha
  clear h ha
  go_enter Tryz.func124, Tryz.ntmps124
  go_wp2_with fail
  have e0 := ((Only.refl Nil w).alloc (Obj.cells #[Value.int IntKind.i64 n] 37)).alloc (Obj.cells #[Value.int IntKind.i64 0, Value.int IntKind.i64 0, Value.int IntKind.u32 0, Value.int IntKind.u32 0, Value.int IntKind.u32 0] 39)
  refine (has_any p A cp xs n i _ (HH.out.keep e0)).mono ?_
  rintro e w2 ⟨rfl, hO, hM⟩
  have hS : Only (At A) w w2 := (e0.mono (fun _ _ h => h.elim)).trans hO
  have R4 : Row w2 w.heap.size 37 #[.int .i64 n] := ((Row.new w _ _).alloc _).only hO (fun h => by have := HA.out _ (.inr h); omega)
  have R8 : Row w2 (w.heap.size + 1) 39 #[.int .i64 0, .int .i64 0, .int .u32 0, .int .u32 0, .int .u32 0] := (Row.new2 w _ _ _).only hO (fun h => by have := HA.out _ (.inr h); omega)
  have c40 : w2.cell? ⟨w.heap.size, 0, none⟩ = some (.int .i64 n) := R4.cell_ (i := 0) rfl
  have HR9 := Lib.hid R8
  have HS := Lib.hid hS
  have HM2 := Lib.hid hM
  clear hO R8 hS hM e0 R4
  cases hp : hasP xs n i
  · have HP := Lib.hid hp
    have c80 : w2.cell? ⟨w.heap.size + 1, 0, none⟩ = some (.int .i64 0) := HR9.out.cell_ (i := 0) rfl
    have c81 : w2.cell? ⟨w.heap.size + 1, 1, none⟩ = some (.int .i64 0) := HR9.out.cell_ (i := 1) rfl
    have c82 : w2.cell? ⟨w.heap.size + 1, 2, none⟩ = some (.int .u32 0) := HR9.out.cell_ (i := 2) rfl
    have c83 : w2.cell? ⟨w.heap.size + 1, 3, none⟩ = some (.int .u32 0) := HR9.out.cell_ (i := 3) rfl
    have c84 : w2.cell? ⟨w.heap.size + 1, 4, none⟩ = some (.int .u32 0) := HR9.out.cell_ (i := 4) rfl
    have f80 : w2.frozen? ⟨w.heap.size + 1, 0, none⟩ = false := HR9.out.frozen 0
    have f81 : w2.frozen? ⟨w.heap.size + 1, 1, none⟩ = false := HR9.out.frozen 1
    have f82 : w2.frozen? ⟨w.heap.size + 1, 2, none⟩ = false := HR9.out.frozen 2
    have f83 : w2.frozen? ⟨w.heap.size + 1, 3, none⟩ = false := HR9.out.frozen 3
    have f84 : w2.frozen? ⟨w.heap.size + 1, 4, none⟩ = false := HR9.out.frozen 4
    clear hp
    go_wp2
    refine post_row_tmp (P := Tryz.prog) Tryz.results124 (t := 39) (g := w.heap.size + 1) (cs := #[.int .i64 0, .int .i64 0, .int .u32 0, .int .u32 0, .int .u32 0]) rfl (five HR9.out _ _ _ _ _) Tryz.underlying39 rfl (by kernel_rfl) rfl ⟨?_, five_only HS.out (.inl (by omega)) _ _ _ _ _, ?_⟩
    · simp only [takeVal, HP.out]; rfl
    · rw [st_none HP.out]
      exact HM2.out.far (five_only (Only.refl (· = w.heap.size + 1) w2) (.inr rfl) _ _ _ _ _) (fun j hj h => by have := HA.out j hj; omega)
  · have HP := Lib.hid hp
    have ht := hasP_there hp
    have hok0 : doOk xs 4 (pc n i) = true := by simp [doOk, isKind, ht]
    have hv : doVal xs 4 (pc n i) 0 0 = .agg #[.int .i64 4, .int .i64 (pc n i), .int .u32 0, .int .u32 0, .int .u32 (wordAt xs (pc n i))] := by simp [doVal, hok0, accOf]
    have hst : doNew xs 4 (pc n i) 0 0 = st xs (pc n i) 0 := by rw [doNew_st xs 4 _ 0 0 rfl]; rfl
    have HT := Lib.hid ht
    have HK := Lib.hid hok0
    have HV := Lib.hid hv
    have HST := Lib.hid hst
    clear hp ht hok0 hv hst
    go_wp2_with fail
    refine (on_any p A cp xs n i 4 0 0 0 0 _ HM2.out).mono ?_
    rw [HV.out, HK.out, HST.out]
    rintro e w3 ⟨rfl, hO, hM⟩
    have R8 : Row w3 (w.heap.size + 1) 39 #[.int .i64 0, .int .i64 0, .int .u32 0, .int .u32 0, .int .u32 0] := HR9.out.only hO (fun h => by have := HA.out _ (.inr h); omega)
    have c80 : w3.cell? ⟨w.heap.size + 1, 0, none⟩ = some (.int .i64 0) := R8.cell_ (i := 0) rfl
    have c81 : w3.cell? ⟨w.heap.size + 1, 1, none⟩ = some (.int .i64 0) := R8.cell_ (i := 1) rfl
    have c82 : w3.cell? ⟨w.heap.size + 1, 2, none⟩ = some (.int .u32 0) := R8.cell_ (i := 2) rfl
    have c83 : w3.cell? ⟨w.heap.size + 1, 3, none⟩ = some (.int .u32 0) := R8.cell_ (i := 3) rfl
    have c84 : w3.cell? ⟨w.heap.size + 1, 4, none⟩ = some (.int .u32 0) := R8.cell_ (i := 4) rfl
    have f80 : w3.frozen? ⟨w.heap.size + 1, 0, none⟩ = false := R8.frozen 0
    have f81 : w3.frozen? ⟨w.heap.size + 1, 1, none⟩ = false := R8.frozen 1
    have f82 : w3.frozen? ⟨w.heap.size + 1, 2, none⟩ = false := R8.frozen 2
    have f83 : w3.frozen? ⟨w.heap.size + 1, 3, none⟩ = false := R8.frozen 3
    have f84 : w3.frozen? ⟨w.heap.size + 1, 4, none⟩ = false := R8.frozen 4
    have HR3 := Lib.hid R8
    have HS3 := Lib.hid (HS.out.trans hO)
    have HM3 := Lib.hid hM
    clear hO R8 hM
    generalize hw : wordAt xs (pc n i) = v at *
    have HW := Lib.hid hw
    clear hw
    go_wp2
    refine post_row_tmp (P := Tryz.prog) Tryz.results124 (t := 39) (g := w.heap.size + 1) (cs := #[.int .i64 4, .int .i64 (pc n i), .int .u32 0, .int .u32 0, .int .u32 v]) rfl (five HR3.out _ _ _ _ _) Tryz.underlying39 rfl (by kernel_rfl) rfl ⟨?_, five_only HS3.out (.inl (by omega)) _ _ _ _ _, ?_⟩
    · simp only [takeVal, HP.out, HW.out]; rfl
    · exact HM3.out.far (five_only (Only.refl (· = w.heap.size + 1) w3) (.inr rfl) _ _ _ _ _) (fun j hj h => by have := HA.out j hj; omega)
end Go.Proofs.YtkkldcggbekleaaGreat
