import Derived.Test.YtaeninikaalkjaaGreatH6
set_option linter.unusedVariables false
set_option linter.unusedSimpArgs false
namespace Go.Proofs.YtaeninikaalkjaaGreat
open Go.RowKit
theorem at_any (p : Option Addr) (n : Int) (on : Bool) (c i : Int) (hit : Bool) (j : Int) (b : Bool) (w : World) :
    Calls Tryz.prog 97 #[.agg #[.pointer p, .int .i64 n, .bool on, .int .i64 c, .int .i64 i, .bool hit], .int .i64 j, .bool b] w fun e w' =>
      e = .returned (.agg #[.bool true, .int .i64 c, .int .i64 j, .bool b]) ∧ Only Nil w w' := by
  go_enter Tryz.func97, Tryz.ntmps97
  go_wp2
  refine post_row (P := Tryz.prog) Tryz.results97 (t := 27) (by rfl) (Row.new2 _ _ _ _) Tryz.underlying27 rfl (by kernel_rfl) rfl ⟨rfl, ((Only.refl Nil w).alloc _).alloc _⟩
theorem end_any (p : Option Addr) (n : Int) (on : Bool) (c i : Int) (hit : Bool) (w : World) :
    Calls Tryz.prog 95 #[.agg #[.pointer p, .int .i64 n, .bool on, .int .i64 c, .int .i64 i, .bool hit]] w fun e w' =>
      e = .returned (.agg #[.bool true, .int .i64 c, .int .i64 n, .bool false]) ∧ Only Nil w w' := by
  go_enter Tryz.func95, Tryz.ntmps95
  go_wp2_with fail
  refine (at_any p n on c i hit n false _).mono ?_
  rintro e w1 ⟨rfl, hO⟩
  have HR := Lib.hid ((Row.new2 w (.cells #[.pointer p, .int .i64 n, .bool on, .int .i64 c, .int .i64 i, .bool hit] 119) 27 #[.bool false, .int .i64 0, .int .i64 0, .bool false]).only hO id)
  have HO := Lib.hid ((((Only.refl Nil w).alloc (.cells #[.pointer p, .int .i64 n, .bool on, .int .i64 c, .int .i64 i, .bool hit] 119)).alloc (.cells #[.bool false, .int .i64 0, .int .i64 0, .bool false] 27)).trans hO)
  clear hO
  have c0 : w1.cell? ⟨w.heap.size + 1, 0, none⟩ = some (.bool false) := HR.out.cell_ (i := 0) rfl
  have c1 : w1.cell? ⟨w.heap.size + 1, 1, none⟩ = some (.int .i64 0) := HR.out.cell_ (i := 1) rfl
  have c2 : w1.cell? ⟨w.heap.size + 1, 2, none⟩ = some (.int .i64 0) := HR.out.cell_ (i := 2) rfl
  have c3 : w1.cell? ⟨w.heap.size + 1, 3, none⟩ = some (.bool false) := HR.out.cell_ (i := 3) rfl
  have g0 : w1.frozen? ⟨w.heap.size + 1, 0, none⟩ = false := HR.out.frozen 0
  have g1 : w1.frozen? ⟨w.heap.size + 1, 1, none⟩ = false := HR.out.frozen 1
  have g2 : w1.frozen? ⟨w.heap.size + 1, 2, none⟩ = false := HR.out.frozen 2
  have g3 : w1.frozen? ⟨w.heap.size + 1, 3, none⟩ = false := HR.out.frozen 3
  go_wp2
  refine post_row (P := Tryz.prog) Tryz.results95 (t := 27) (g := w.heap.size + 1) (by rfl) (four HR.out _ _ _ _) Tryz.underlying27 rfl (by kernel_rfl) rfl ⟨rfl, four_only HO.out (.inl (by omega)) _ _ _ _⟩
end Go.Proofs.YtaeninikaalkjaaGreat
namespace Go.Proofs.YtaeninikaalkjaaGreat
open Go.RowKit
theorem permit_any (n i : Int) (w : World) :
    Calls Tryz.prog 110 #[.agg #[.int .i64 n], .int .i64 i] w fun e w' => e = .returned (.int .i64 (cellI n 3 i)) ∧ Only Nil w w' := by
  go_enter Tryz.func110, Tryz.ntmps110
  go_wp2_with fail
  refine (cell_row n 3 i _ (by omega)).mono ?_
  rintro e w1 ⟨rfl, hO⟩
  have HO := Lib.hid hO
  clear hO
  go_wp2
  go_ret
  exact ⟨rfl, (Only.alloc (Only.refl _ _) _).trans HO.out⟩
end Go.Proofs.YtaeninikaalkjaaGreat
set_option linter.unusedVariables false
set_option linter.unusedSimpArgs false
namespace Go.Proofs.YtaeninikaalkjaaGreat
open Go.RowKit
theorem on_any (p A : Option Addr) (cp : Nat) (xs : List Int) (n i k c x y o : Int) (w : World) (h : Memo w p A cp xs) :
    Calls Tryz.prog 106 #[.func (.func 49) #[.pointer p] #[], .agg #[.int .i64 n], .int .i64 i, .agg #[.int .i64 k, .int .i64 c, .int .u32 x, .int .u32 y, .int .u32 o]] w fun e w' =>
      e = .returned (.tuple #[doVal xs k (pc n i) x y, .bool (doOk xs k (pc n i))]) ∧ Only (At A) w w' ∧ Memo w' p A cp (doNew xs k (pc n i) x y) := by
  have HH := Lib.hid h
  clear h
  go_enter Tryz.func106, Tryz.ntmps106
  go_wp2_with fail
  refine (permit_any n i _).mono ?_
  rintro e w1 ⟨rfl, hO⟩
  have R7 : Row w1 (w.heap.size + 1) 39 #[.int .i64 k, .int .i64 c, .int .u32 x, .int .u32 y, .int .u32 o] := ((Row.new2 w _ _ _).alloc _).only hO id
  have R8 : Row w1 (w.heap.size + 1 + 1) 39 #[.int .i64 0, .int .i64 0, .int .u32 0, .int .u32 0, .int .u32 0] := by
    refine Row.only ?_ hO id
    have e := Row.new2 (w.alloc (Obj.cells #[Value.int IntKind.i64 n] 37)) (Obj.cells #[Value.int IntKind.i64 k, Value.int IntKind.i64 c, Value.int IntKind.u32 x, Value.int IntKind.u32 y, Value.int IntKind.u32 o] 39) 39 #[.int .i64 0, .int .i64 0, .int .u32 0, .int .u32 0, .int .u32 0]
    simpa using e
  have HO1 : Hid (Only Nil w w1) := Lib.hid (((((Only.refl Nil w).alloc _).alloc _).alloc _).trans hO)
  have hM : Memo w1 p A cp xs := HH.out.keep HO1.out
  have c70 : w1.cell? ⟨w.heap.size + 1, 0, none⟩ = some (.int .i64 k) := R7.cell_ (i := 0) rfl
  have c71 : w1.cell? ⟨w.heap.size + 1, 1, none⟩ = some (.int .i64 c) := R7.cell_ (i := 1) rfl
  have c72 : w1.cell? ⟨w.heap.size + 1, 2, none⟩ = some (.int .u32 x) := R7.cell_ (i := 2) rfl
  have c73 : w1.cell? ⟨w.heap.size + 1, 3, none⟩ = some (.int .u32 y) := R7.cell_ (i := 3) rfl
  have c74 : w1.cell? ⟨w.heap.size + 1, 4, none⟩ = some (.int .u32 o) := R7.cell_ (i := 4) rfl
  have f70 : w1.frozen? ⟨w.heap.size + 1, 0, none⟩ = false := R7.frozen 0
  have f71 : w1.frozen? ⟨w.heap.size + 1, 1, none⟩ = false := R7.frozen 1
  have f72 : w1.frozen? ⟨w.heap.size + 1, 2, none⟩ = false := R7.frozen 2
  have f73 : w1.frozen? ⟨w.heap.size + 1, 3, none⟩ = false := R7.frozen 3
  have f74 : w1.frozen? ⟨w.heap.size + 1, 4, none⟩ = false := R7.frozen 4
  have HR7 := Lib.hid R7
  have HR8 := Lib.hid R8
  have HM := Lib.hid hM
  clear hO R7 R8 hM
  show _
  have hpc : cellI n 3 i = pc n i := rfl
  rw [hpc]
  clear hpc
  go_wp2_with fail
  have ha : ∀ j, At p j ∨ At A j → j < w.heap.size := HH.out.lt
  have e1 : Only (· = w.heap.size + 1) w1 (w1.setCell ⟨w.heap.size + 1, 1, none⟩ (.int .i64 (pc n i))) := (Only.refl (· = w.heap.size + 1) w1).setCell (p := ⟨w.heap.size + 1, 1, none⟩) (.inr rfl) _
  refine (do_memo p A cp xs k (pc n i) x y o _ (HM.out.far e1 (fun j hj h => by have := ha j hj; omega))).mono ?_
  obtain ⟨k', c', x', y', hv⟩ := doVal_form xs k (pc n i) x y
  rw [hv]
  rintro e w2 ⟨rfl, hO, hM⟩
  have hS : Only (At A) w w2 := ((HO1.out.mono (fun _ _ h => h.elim)).setCell (p := ⟨w.heap.size + 1, 1, none⟩) (.inl (by simp)) (.int .i64 (pc n i))).trans hO
  have R8 := (HR8.out.far (p := ⟨w.heap.size + 1, 1, none⟩) (by simp) (.int .i64 (pc n i))).only hO (fun h => by have := ha _ (.inr h); omega)
  have c80 : w2.cell? ⟨w.heap.size + 1 + 1, 0, none⟩ = some (.int .i64 0) := R8.cell_ (i := 0) rfl
  have c81 : w2.cell? ⟨w.heap.size + 1 + 1, 1, none⟩ = some (.int .i64 0) := R8.cell_ (i := 1) rfl
  have c82 : w2.cell? ⟨w.heap.size + 1 + 1, 2, none⟩ = some (.int .u32 0) := R8.cell_ (i := 2) rfl
  have c83 : w2.cell? ⟨w.heap.size + 1 + 1, 3, none⟩ = some (.int .u32 0) := R8.cell_ (i := 3) rfl
  have c84 : w2.cell? ⟨w.heap.size + 1 + 1, 4, none⟩ = some (.int .u32 0) := R8.cell_ (i := 4) rfl
  have f80 : w2.frozen? ⟨w.heap.size + 1 + 1, 0, none⟩ = false := R8.frozen 0
  have f81 : w2.frozen? ⟨w.heap.size + 1 + 1, 1, none⟩ = false := R8.frozen 1
  have f82 : w2.frozen? ⟨w.heap.size + 1 + 1, 2, none⟩ = false := R8.frozen 2
  have f83 : w2.frozen? ⟨w.heap.size + 1 + 1, 3, none⟩ = false := R8.frozen 3
  have f84 : w2.frozen? ⟨w.heap.size + 1 + 1, 4, none⟩ = false := R8.frozen 4
  have HR9 := Lib.hid R8
  have HS := Lib.hid hS
  have HM2 := Lib.hid hM
  have HA := Lib.hid ha
  generalize (if doOk xs k (pc n i) then wordAt xs (pc n i) else 0) = o' at hv
  generalize hok : doOk xs k (pc n i) = ok at hv
  have HV := Lib.hid hv
  have HOK := Lib.hid hok
  clear hO R8 hS hM c70 c71 c72 c73 c74 f70 f71 f72 f73 f74 e1 hv ha hok
  go_wp2
  refine post_row_tmp (P := Tryz.prog) Tryz.results106 (t := 39) (g := w.heap.size + 1 + 1) (cs := #[.int .i64 k', .int .i64 c', .int .u32 x', .int .u32 y', .int .u32 o']) rfl (five HR9.out _ _ _ _ _) Tryz.underlying39 rfl (by kernel_rfl) rfl ⟨?_, five_only HS.out (.inl (by omega)) _ _ _ _ _, ?_⟩
  · rw [HV.out, HOK.out]; rfl
  · exact HM2.out.far (five_only (Only.refl (· = w.heap.size + 1 + 1) w2) (.inr rfl) _ _ _ _ _) (fun j hj h => by have := HA.out j hj; omega)
end Go.Proofs.YtaeninikaalkjaaGreat
set_option linter.unusedVariables false
set_option linter.unusedSimpArgs false
namespace Go.Proofs.YtaeninikaalkjaaGreat
open Go.RowKit
theorem give_any (p A : Option Addr) (cp : Nat) (xs : List Int) (n i : Int) (w : World) (h : Memo w p A cp xs) :
    Calls Tryz.prog 96 #[.pointer p, .agg #[.int .i64 n], .int .i64 i] w fun e w' =>
      e = .returned (.tuple #[doVal xs 2 (pc n i) 1 0, .bool (there xs (pc n i))]) ∧ Only (At A) w w' ∧ Memo w' p A cp (st xs (pc n i) 1) := by
  have hok0 : doOk xs 2 (pc n i) = there xs (pc n i) := by simp [doOk, isKind]
  have hst : doNew xs 2 (pc n i) 1 0 = st xs (pc n i) 1 := by rw [doNew_st xs 2 _ 1 0 rfl]; rfl
  have HH := Lib.hid h
  have ha : ∀ j, At p j ∨ At A j → j < w.heap.size := HH.out.lt
  have HA := Lib.hid ha
  clear h ha
  go_enter Tryz.func96, Tryz.ntmps96
  go_wp2_with fail
  have e0 := ((Only.refl Nil w).alloc (Obj.cells #[Value.int IntKind.i64 n] 37)).alloc (Obj.cells #[Value.int IntKind.i64 0, Value.int IntKind.i64 0, Value.int IntKind.u32 0, Value.int IntKind.u32 0, Value.int IntKind.u32 0] 39)
  refine (on_any p A cp xs n i 2 0 1 0 0 _ (HH.out.keep e0)).mono ?_
  obtain ⟨k', c', x', y', hv⟩ := doVal_form xs 2 (pc n i) 1 0
  rw [hv, hok0, hst]
  rw [hok0] at hv
  rintro e w2 ⟨rfl, hO, hM⟩
  have hS : Only (At A) w w2 := (e0.mono (fun _ _ h => h.elim)).trans hO
  have R8 : Row w2 (w.heap.size + 1) 39 #[.int .i64 0, .int .i64 0, .int .u32 0, .int .u32 0, .int .u32 0] := (Row.new2 w _ _ _).only hO (fun h => by have := HA.out _ (.inr h); omega)
  have c80 : w2.cell? ⟨w.heap.size + 1, 0, none⟩ = some (.int .i64 0) := R8.cell_ (i := 0) rfl
  have c81 : w2.cell? ⟨w.heap.size + 1, 1, none⟩ = some (.int .i64 0) := R8.cell_ (i := 1) rfl
  have c82 : w2.cell? ⟨w.heap.size + 1, 2, none⟩ = some (.int .u32 0) := R8.cell_ (i := 2) rfl
  have c83 : w2.cell? ⟨w.heap.size + 1, 3, none⟩ = some (.int .u32 0) := R8.cell_ (i := 3) rfl
  have c84 : w2.cell? ⟨w.heap.size + 1, 4, none⟩ = some (.int .u32 0) := R8.cell_ (i := 4) rfl
  have f80 : w2.frozen? ⟨w.heap.size + 1, 0, none⟩ = false := R8.frozen 0
  have f81 : w2.frozen? ⟨w.heap.size + 1, 1, none⟩ = false := R8.frozen 1
  have f82 : w2.frozen? ⟨w.heap.size + 1, 2, none⟩ = false := R8.frozen 2
  have f83 : w2.frozen? ⟨w.heap.size + 1, 3, none⟩ = false := R8.frozen 3
  have f84 : w2.frozen? ⟨w.heap.size + 1, 4, none⟩ = false := R8.frozen 4
  have HR9 := Lib.hid R8
  have HS := Lib.hid hS
  have HM2 := Lib.hid hM
  generalize (if there xs (pc n i) then wordAt xs (pc n i) else 0) = o' at hv
  generalize hok : there xs (pc n i) = ok at hv
  have HV := Lib.hid hv
  have HOK := Lib.hid hok
  clear hO R8 hS hM e0 hv hok hok0 hst
  go_wp2
  refine post_row_tmp (P := Tryz.prog) Tryz.results96 (t := 39) (g := w.heap.size + 1) (cs := #[.int .i64 k', .int .i64 c', .int .u32 x', .int .u32 y', .int .u32 o']) rfl (five HR9.out _ _ _ _ _) Tryz.underlying39 rfl (by kernel_rfl) rfl ⟨?_, five_only HS.out (.inl (by omega)) _ _ _ _ _, ?_⟩
  · rw [HV.out, HOK.out]; rfl
  · exact HM2.out.far (five_only (Only.refl (· = w.heap.size + 1) w2) (.inr rfl) _ _ _ _ _) (fun j hj h => by have := HA.out j hj; omega)
end Go.Proofs.YtaeninikaalkjaaGreat
namespace Go.Proofs.YtaeninikaalkjaaGreat
open Go.RowKit
theorem watch_any (n i : Int) (w : World) :
    Calls Tryz.prog 98 #[.agg #[.int .i64 n], .int .i64 i] w fun e w' => e = .returned (.int .i64 (cellI n 2 i)) ∧ Only Nil w w' := by
  go_enter Tryz.func98, Tryz.ntmps98
  go_wp2_with fail
  refine (cell_row n 2 i _ (by omega)).mono ?_
  rintro e w1 ⟨rfl, hO⟩
  have HO := Lib.hid hO
  clear hO
  go_wp2
  go_ret
  exact ⟨rfl, (Only.alloc (Only.refl _ _) _).trans HO.out⟩
end Go.Proofs.YtaeninikaalkjaaGreat
