import Derived.Deep.Cut
import Derived.WalkKit
import Derived.Test.YtaeninikaalkjaaG2
import Derived.Test.YtaeninikaalkjaaG5
import Derived.Test.YtaeninikaalkjaaG7
set_option linter.unusedVariables false
set_option linter.unusedSimpArgs false
namespace Go.Proofs.Ytaeninikaalkjaa
open Go.RowKit
theorem either_any (b : Bool) (y z : Int) (w : World) :
    Calls Try.prog 81 #[.bool b, .int .i64 y, .int .i64 z] w fun e w' => e = .returned (.agg #[.int .i64 (if b then y else z)]) ∧ Only Nil w w' := by
  cases b
  all_goals
    simp only [Bool.false_eq_true, if_false, if_true]
    go_enter Try.func81, Try.ntmps81
    go_wp2
    exact post_row (P := Try.prog) Try.results81 (t := 51) (by rfl) (Row.new _ _ _) Try.underlying51 rfl (by kernel_rfl) rfl ⟨rfl, (Only.refl _ _).alloc _⟩
theorem setWatch_any (p A : Option Addr) (cp : Nat) (xs : List Int) (n i x : Int) (w : World) (h : Memo w p A cp xs) :
    Calls Try.prog 80 #[.pointer p, .agg #[.int .i64 n], .int .i64 i, .int .u32 x] w fun e w' =>
      e = .returned (doVal xs 2 (wc n i) x 0) ∧ Only (At A) w w' ∧ Memo w' p A cp (st xs (wc n i) x) := by
  have hst : doNew xs 2 (wc n i) x 0 = st xs (wc n i) x := by rw [doNew_st xs 2 _ x 0 rfl]; rfl
  have HST := Lib.hid hst
  have HH := Lib.hid h
  have ha : ∀ j, At p j ∨ At A j → j < w.heap.size := HH.out.lt
  have HA := Lib.hid ha
  clear h ha hst
  go_enter Try.func80, Try.ntmps80
  go_wp2_with fail
  refine (watch_any n i _).mono ?_
  rintro e w1 ⟨rfl, hO⟩
  have R8 : Row w1 (w.heap.size + 1) 59 #[.int .i64 0, .int .i64 0, .int .u32 0, .int .u32 0, .int .u32 0] := (Row.new2 w _ _ _).only hO id
  have hO1 : Only Nil w w1 := (((Only.refl Nil w).alloc _).alloc _).trans hO
  have HM1 := Lib.hid (HH.out.keep hO1)
  have HO1 := Lib.hid hO1
  have HR8 := Lib.hid R8
  clear hO R8 hO1
  show _
  have hpc : cellI n 2 i = wc n i := rfl
  rw [hpc]
  clear hpc
  go_wp2_with fail
  refine (do_memo p A cp xs 2 (wc n i) x 0 0 _ HM1.out).mono ?_
  obtain ⟨k', c', x', y', hv⟩ := doVal_form xs 2 (wc n i) x 0
  rw [oldAt xs 2 (wc n i) rfl] at hv
  rw [hv, HST.out]
  rintro e w2 ⟨rfl, hO, hM⟩
  have HS := Lib.hid ((HO1.out.mono (fun _ _ h => h.elim)).trans hO)
  have R8 := HR8.out.only hO (fun h => by have := HA.out _ (.inr h); omega)
  have HR9 := Lib.hid (R8.alloc (Obj.cells #[Value.int IntKind.i64 k', Value.int IntKind.i64 c', Value.int IntKind.u32 x', Value.int IntKind.u32 y', Value.int IntKind.u32 (wordAt xs (wc n i))] 59))
  have HN := Lib.hid (Row.new w2 59 #[Value.int IntKind.i64 k', Value.int IntKind.i64 c', Value.int IntKind.u32 x', Value.int IntKind.u32 y', Value.int IntKind.u32 (wordAt xs (wc n i))])
  have HS2 := Lib.hid (HS.out.alloc (Obj.cells #[Value.int IntKind.i64 k', Value.int IntKind.i64 c', Value.int IntKind.u32 x', Value.int IntKind.u32 y', Value.int IntKind.u32 (wordAt xs (wc n i))] 59))
  have HM2 := Lib.hid (hM.keep ((Only.refl Nil w2).alloc (Obj.cells #[Value.int IntKind.i64 k', Value.int IntKind.i64 c', Value.int IntKind.u32 x', Value.int IntKind.u32 y', Value.int IntKind.u32 (wordAt xs (wc n i))] 59)))
  have HV := Lib.hid hv
  have hlt := R8.lt
  have HLT := Lib.hid hlt
  clear hO R8 hM hv hlt HS
  generalize wordAt xs (wc n i) = o' at *
  generalize doOk xs 2 (wc n i) = ok at *
  go_upto_region 2 with (fail)
  generalize w2.alloc (.cells #[.int .i64 k', .int .i64 c', .int .u32 x', .int .u32 y', .int .u32 o'] 59) = w3 at *
  generalize w2.heap.size = g2 at *
  have c80 : w3.cell? ⟨w.heap.size + 1, 0, none⟩ = some (.int .i64 0) := HR9.out.cell_ (i := 0) rfl
  have c81 : w3.cell? ⟨w.heap.size + 1, 1, none⟩ = some (.int .i64 0) := HR9.out.cell_ (i := 1) rfl
  have c82 : w3.cell? ⟨w.heap.size + 1, 2, none⟩ = some (.int .u32 0) := HR9.out.cell_ (i := 2) rfl
  have c83 : w3.cell? ⟨w.heap.size + 1, 3, none⟩ = some (.int .u32 0) := HR9.out.cell_ (i := 3) rfl
  have c84 : w3.cell? ⟨w.heap.size + 1, 4, none⟩ = some (.int .u32 0) := HR9.out.cell_ (i := 4) rfl
  have f80 : w3.frozen? ⟨w.heap.size + 1, 0, none⟩ = false := HR9.out.frozen 0
  have f81 : w3.frozen? ⟨w.heap.size + 1, 1, none⟩ = false := HR9.out.frozen 1
  have f82 : w3.frozen? ⟨w.heap.size + 1, 2, none⟩ = false := HR9.out.frozen 2
  have f83 : w3.frozen? ⟨w.heap.size + 1, 3, none⟩ = false := HR9.out.frozen 3
  have f84 : w3.frozen? ⟨w.heap.size + 1, 4, none⟩ = false := HR9.out.frozen 4
  have c0 : w3.cell? ⟨g2, 0, none⟩ = some (.int .i64 k') := HN.out.cell_ (i := 0) rfl
  have c1 : w3.cell? ⟨g2, 1, none⟩ = some (.int .i64 c') := HN.out.cell_ (i := 1) rfl
  have c2 : w3.cell? ⟨g2, 2, none⟩ = some (.int .u32 x') := HN.out.cell_ (i := 2) rfl
  have c3 : w3.cell? ⟨g2, 3, none⟩ = some (.int .u32 y') := HN.out.cell_ (i := 3) rfl
  have c4 : w3.cell? ⟨g2, 4, none⟩ = some (.int .u32 o') := HN.out.cell_ (i := 4) rfl
  go_wp2
  refine post_row (P := Try.prog) Try.results80 (t := 59) (g := w.heap.size + 1) (cs := #[.int .i64 k', .int .i64 c', .int .u32 x', .int .u32 y', .int .u32 o']) rfl (five HR9.out _ _ _ _ _) Try.underlying59 rfl (by kernel_rfl) rfl ⟨?_, five_only HS2.out (.inl (by omega)) _ _ _ _ _, ?_⟩
  · rw [HV.out]
  · exact HM2.out.far (five_only (Only.refl (· = w.heap.size + 1) w3) (.inr rfl) _ _ _ _ _) (fun j hj h => by have := HA.out j hj; omega)
end Go.Proofs.Ytaeninikaalkjaa
set_option linter.unusedVariables false
set_option linter.unusedSimpArgs false
namespace Go.Proofs.Ytaeninikaalkjaa
open Go.RowKit
theorem take_any (p A : Option Addr) (cp : Nat) (xs : List Int) (n i : Int) (w : World) (h : Memo w p A cp xs) :
    Calls Try.prog 82 #[.pointer p, .agg #[.int .i64 n], .int .i64 i] w fun e w' =>
      e = .returned (.tuple #[takeVal xs n i, .bool (hasP xs n i)]) ∧ Only (At A) w w' ∧ Memo w' p A cp (st xs (pc n i) 0) := by
  have HH := Lib.hid h
  have ha : ∀ j, At p j ∨ At A j → j < w.heap.size := HH.out.lt
  have HA := Lib.hid ha
  clear h ha
  go_enter Try.func82, Try.ntmps82
  go_wp2_with fail
  have e0 := ((Only.refl Nil w).alloc (Obj.cells #[Value.int IntKind.i64 n] 57)).alloc (Obj.cells #[Value.int IntKind.i64 0, Value.int IntKind.i64 0, Value.int IntKind.u32 0, Value.int IntKind.u32 0, Value.int IntKind.u32 0] 59)
  refine (has_any p A cp xs n i _ (HH.out.keep e0)).mono ?_
  rintro e w2 ⟨rfl, hO, hM⟩
  have hS : Only (At A) w w2 := (e0.mono (fun _ _ h => h.elim)).trans hO
  have R4 : Row w2 w.heap.size 57 #[.int .i64 n] := ((Row.new w _ _).alloc _).only hO (fun h => by have := HA.out _ (.inr h); omega)
  have R8 : Row w2 (w.heap.size + 1) 59 #[.int .i64 0, .int .i64 0, .int .u32 0, .int .u32 0, .int .u32 0] := (Row.new2 w _ _ _).only hO (fun h => by have := HA.out _ (.inr h); omega)
  have c40 : w2.cell? ⟨w.heap.size, 0, none⟩ = some (.int .i64 n) := R4.cell_ (i := 0) rfl
  have HR9 := Lib.hid R8
  have HS := Lib.hid hS
  have HM2 := Lib.hid hM
  clear hO R8 hS hM e0 R4
  cases hp : hasP xs n i
  · have HP := Lib.hid hp
    have c80 : w2.cell? ⟨w.heap.size + 1, 0, none⟩ = some (.int .i64 0) := HR9.out.cell_ (i := 0) rfl
    have c81 : w2.cell? ⟨w.heap.size + 1, 1, none⟩ = some (.int .i64 0) := HR9.out.cell_ (i := 1) rfl
    have c82 : w2.cell? ⟨w.heap.size + 1, 2, none⟩ = some (.int .u32 0) := HR9.out.cell_ (i := 2) rfl
    have c83 : w2.cell? ⟨w.heap.size + 1, 3, none⟩ = some (.int .u32 0) := HR9.out.cell_ (i := 3) rfl
    have c84 : w2.cell? ⟨w.heap.size + 1, 4, none⟩ = some (.int .u32 0) := HR9.out.cell_ (i := 4) rfl
    have f80 : w2.frozen? ⟨w.heap.size + 1, 0, none⟩ = false := HR9.out.frozen 0
    have f81 : w2.frozen? ⟨w.heap.size + 1, 1, none⟩ = false := HR9.out.frozen 1
    have f82 : w2.frozen? ⟨w.heap.size + 1, 2, none⟩ = false := HR9.out.frozen 2
    have f83 : w2.frozen? ⟨w.heap.size + 1, 3, none⟩ = false := HR9.out.frozen 3
    have f84 : w2.frozen? ⟨w.heap.size + 1, 4, none⟩ = false := HR9.out.frozen 4
    clear hp
    go_wp2
    refine post_row_tmp (P := Try.prog) Try.results82 (t := 59) (g := w.heap.size + 1) (cs := #[.int .i64 0, .int .i64 0, .int .u32 0, .int .u32 0, .int .u32 0]) rfl (five HR9.out _ _ _ _ _) Try.underlying59 rfl (by kernel_rfl) rfl ⟨?_, five_only HS.out (.inl (by omega)) _ _ _ _ _, ?_⟩
    · simp only [takeVal, HP.out]; rfl
    · rw [st_none HP.out]
      exact HM2.out.far (five_only (Only.refl (· = w.heap.size + 1) w2) (.inr rfl) _ _ _ _ _) (fun j hj h => by have := HA.out j hj; omega)
  · have HP := Lib.hid hp
    have ht := hasP_there hp
    have hok0 : doOk xs 4 (pc n i) = true := by simp [doOk, isKind, ht]
    have hv : doVal xs 4 (pc n i) 0 0 = .agg #[.int .i64 4, .int .i64 (pc n i), .int .u32 0, .int .u32 0, .int .u32 (wordAt xs (pc n i))] := by simp [doVal, hok0, accOf]
    have hst : doNew xs 4 (pc n i) 0 0 = st xs (pc n i) 0 := by rw [doNew_st xs 4 _ 0 0 rfl]; rfl
    have HT := Lib.hid ht
    have HK := Lib.hid hok0
    have HV := Lib.hid hv
    have HST := Lib.hid hst
    clear hp ht hok0 hv hst
    go_wp2_with fail
    refine (on_any p A cp xs n i 4 0 0 0 0 _ HM2.out).mono ?_
    rw [HV.out, HK.out, HST.out]
    rintro e w3 ⟨rfl, hO, hM⟩
    have R8 : Row w3 (w.heap.size + 1) 59 #[.int .i64 0, .int .i64 0, .int .u32 0, .int .u32 0, .int .u32 0] := HR9.out.only hO (fun h => by have := HA.out _ (.inr h); omega)
    have c80 : w3.cell? ⟨w.heap.size + 1, 0, none⟩ = some (.int .i64 0) := R8.cell_ (i := 0) rfl
    have c81 : w3.cell? ⟨w.heap.size + 1, 1, none⟩ = some (.int .i64 0) := R8.cell_ (i := 1) rfl
    have c82 : w3.cell? ⟨w.heap.size + 1, 2, none⟩ = some (.int .u32 0) := R8.cell_ (i := 2) rfl
    have c83 : w3.cell? ⟨w.heap.size + 1, 3, none⟩ = some (.int .u32 0) := R8.cell_ (i := 3) rfl
    have c84 : w3.cell? ⟨w.heap.size + 1, 4, none⟩ = some (.int .u32 0) := R8.cell_ (i := 4) rfl
    have f80 : w3.frozen? ⟨w.heap.size + 1, 0, none⟩ = false := R8.frozen 0
    have f81 : w3.frozen? ⟨w.heap.size + 1, 1, none⟩ = false := R8.frozen 1
    have f82 : w3.frozen? ⟨w.heap.size + 1, 2, none⟩ = false := R8.frozen 2
    have f83 : w3.frozen? ⟨w.heap.size + 1, 3, none⟩ = false := R8.frozen 3
    have f84 : w3.frozen? ⟨w.heap.size + 1, 4, none⟩ = false := R8.frozen 4
    have HR3 := Lib.hid R8
    have HS3 := Lib.hid (HS.out.trans hO)
    have HM3 := Lib.hid hM
    clear hO R8 hM
    generalize hw : wordAt xs (pc n i) = v at *
    have HW := Lib.hid hw
    clear hw
    go_wp2
    refine post_row_tmp (P := Try.prog) Try.results82 (t := 59) (g := w.heap.size + 1) (cs := #[.int .i64 4, .int .i64 (pc n i), .int .u32 0, .int .u32 0, .int .u32 v]) rfl (five HR3.out _ _ _ _ _) Try.underlying59 rfl (by kernel_rfl) rfl ⟨?_, five_only HS3.out (.inl (by omega)) _ _ _ _ _, ?_⟩
    · simp only [takeVal, HP.out, HW.out]; rfl
    · exact HM3.out.far (five_only (Only.refl (· = w.heap.size + 1) w3) (.inr rfl) _ _ _ _ _) (fun j hj h => by have := HA.out j hj; omega)
end Go.Proofs.Ytaeninikaalkjaa
set_option linter.unusedVariables false
set_option linter.unusedSimpArgs false
namespace Go.Proofs.Ytaeninikaalkjaa
open Go.RowKit
def Stepped (p A : Option Addr) (cp : Nat) (r : StepR) (w : World) (e : Ending) (w' : World) : Prop :=
  e = .returned (.tuple #[.agg #[.int .i64 r.next], r.acc, .bool r.seen, .bool r.done]) ∧ Only (At A) w w' ∧ Memo w' p A cp r.xs
structure SF (w0 : World) (p A : Option Addr) (cp : Nat) (B : Nat) (n s ns : Int) (acs : Array Value) (W : World) (xs : List Int) : Prop where
  only : Only (At A) w0 W
  memo : Memo W p A cp xs
  rm : Row W B 57 #[.int .i64 n]
  rs : Row W (B + 1) 51 #[.int .i64 s]
  rn : Row W (B + 1 + 1) 51 #[.int .i64 ns]
  ra : Row W (B + 1 + 1 + 1) 59 acs
  lt : ∀ j, At p j ∨ At A j → j < B
  hw : w0.heap.size ≤ B
section
variable {w0 W W' : World} {p A : Option Addr} {cp B : Nat} {n s ns : Int} {acs : Array Value} {xs ys : List Int}
theorem SF.call (h : SF w0 p A cp B n s ns acs W xs) (ho : Only (At A) W W') (hm : Memo W' p A cp ys) : SF w0 p A cp B n s ns acs W' ys :=
  ⟨h.only.trans ho, hm, h.rm.only ho (fun e => by have := h.lt _ (.inr e); omega), h.rs.only ho (fun e => by have := h.lt _ (.inr e); omega), h.rn.only ho (fun e => by have := h.lt _ (.inr e); omega), h.ra.only ho (fun e => by have := h.lt _ (.inr e); omega), h.lt, h.hw⟩
theorem SF.keep (h : SF w0 p A cp B n s ns acs W xs) (ho : Only Nil W W') : SF w0 p A cp B n s ns acs W' xs := h.call (ho.mono (fun _ _ h => h.elim)) (h.memo.keep ho)
theorem SF.setN (h : SF w0 p A cp B n s ns acs W xs) (m : Int) : SF w0 p A cp B n s m acs (W.setCell ⟨B + 1 + 1, 0, none⟩ (.int .i64 m)) xs := by
  have ho := (Only.refl (· = B + 1 + 1) W).setCell (p := ⟨B + 1 + 1, 0, none⟩) (.inr rfl) (.int .i64 m)
  exact ⟨h.only.setCell (.inl (by have := h.hw; show w0.heap.size ≤ B + 1 + 1; omega)) _, h.memo.far ho (fun j hj e => by have := h.lt j hj; omega), h.rm.only ho (fun e => by omega), h.rs.only ho (fun e => by omega), h.rn.set 0 _, h.ra.only ho (fun e => by omega), h.lt, h.hw⟩
theorem SF.setA {a0 a1 a2 a3 a4 : Value} (h : SF w0 p A cp B n s ns #[a0, a1, a2, a3, a4] W xs) (v0 v1 v2 v3 v4 : Value) :
    SF w0 p A cp B n s ns #[v0, v1, v2, v3, v4] (((((W.setCell ⟨B + 1 + 1 + 1, 0, none⟩ v0).setCell ⟨B + 1 + 1 + 1, 1, none⟩ v1).setCell ⟨B + 1 + 1 + 1, 2, none⟩ v2).setCell ⟨B + 1 + 1 + 1, 3, none⟩ v3).setCell ⟨B + 1 + 1 + 1, 4, none⟩ v4) xs := by
  have ho := five_only (Only.refl (· = B + 1 + 1 + 1) W) (g := B + 1 + 1 + 1) (.inr rfl) v0 v1 v2 v3 v4
  exact ⟨five_only h.only (.inl (by have := h.hw; omega)) _ _ _ _ _, h.memo.far ho (fun j hj e => by have := h.lt j hj; omega), h.rm.only ho (fun e => by omega), h.rs.only ho (fun e => by omega), h.rn.only ho (fun e => by omega), five h.ra _ _ _ _ _, h.lt, h.hw⟩
theorem SF.start {w : World} {p A : Option Addr} {cp : Nat} {xs : List Int} (n s : Int) (h : Memo w p A cp xs) :
    SF w p A cp w.heap.size n s 0 #[.int .i64 0, .int .i64 0, .int .u32 0, .int .u32 0, .int .u32 0] ((((w.alloc (.cells #[.int .i64 n] 57)).alloc (.cells #[.int .i64 s] 51)).alloc (.cells #[.int .i64 0] 51)).alloc (.cells #[.int .i64 0, .int .i64 0, .int .u32 0, .int .u32 0, .int .u32 0] 59)) xs := by
  have e0 := ((((Only.refl Nil w).alloc (.cells #[.int .i64 n] 57)).alloc (.cells #[.int .i64 s] 51)).alloc (.cells #[.int .i64 0] 51)).alloc (.cells #[.int .i64 0, .int .i64 0, .int .u32 0, .int .u32 0, .int .u32 0] 59)
  refine ⟨e0.mono (fun _ _ h => h.elim), h.keep e0, (((Row.new w _ _).alloc _).alloc _).alloc _, ((Row.new2 w _ _ _).alloc _).alloc _, ?_, ?_, h.lt, Nat.le_refl _⟩
  · have e := (Row.new2 (w.alloc (.cells #[.int .i64 n] 57)) (.cells #[.int .i64 s] 51) 51 #[.int .i64 0]).alloc (.cells #[.int .i64 0, .int .i64 0, .int .u32 0, .int .u32 0, .int .u32 0] 59)
    rwa [show (w.alloc (.cells #[.int .i64 n] 57)).heap.size = w.heap.size + 1 by simp] at e
  · have e := Row.new2 ((w.alloc (.cells #[.int .i64 n] 57)).alloc (.cells #[.int .i64 s] 51)) (.cells #[.int .i64 0] 51) 59 #[.int .i64 0, .int .i64 0, .int .u32 0, .int .u32 0, .int .u32 0]
    rwa [show ((w.alloc (.cells #[.int .i64 n] 57)).alloc (.cells #[.int .i64 s] 51)).heap.size = w.heap.size + 1 + 1 by simp] at e
end
set_option maxHeartbeats 400000 in
theorem step_1 (p A : Option Addr) (cp : Nat) (xs : List Int) (n i c : Int) (fv : Value) (w : World) (h : Memo w p A cp xs) :
    Calls Try.prog 70 #[.pointer p, .agg #[.int .i64 n], .int .i64 2, .int .i64 i, .agg #[.int .i64 1], .int .i64 c, fv] w (Stepped p A cp ⟨2, doVal xs 2 (wc n i) ((c + 1) % 4294967296) 0, false, false, st xs (wc n i) ((c + 1) % 4294967296)⟩ w) := by
  have HF0 := Lib.hid (SF.start n 1 h)
  clear h
  go_enter Try.func70, Try.ntmps70
  go_wp2_with fail
  generalize (((w.alloc (.cells #[.int .i64 n] 57)).alloc (.cells #[.int .i64 1] 51)).alloc (.cells #[.int .i64 0] 51)).alloc (.cells #[.int .i64 0, .int .i64 0, .int .u32 0, .int .u32 0, .int .u32 0] 59) = w1 at *
  generalize w.heap.size = B at *
  have n1 : w1.cell? ⟨B, 0, none⟩ = some (.int .i64 n) := HF0.out.rm.cell_ (i := 0) rfl
  refine (setWatch_any p A cp xs n i ((c + 1) % 4294967296) _ HF0.out.memo).mono ?_
  obtain ⟨k', c', x', y', hv⟩ := doVal_form xs 2 (wc n i) ((c + 1) % 4294967296) 0
  generalize (if doOk xs 2 (wc n i) = true then wordAt xs (wc n i) else 0) = o' at hv
  rw [hv]
  rintro e w2 ⟨rfl, hO, hM⟩
  have HF1 := Lib.hid (HF0.out.call hO hM)
  have HV := Lib.hid hv
  clear hO hM hv
  have a0 : w2.cell? ⟨B + 1 + 1 + 1, 0, none⟩ = some (.int .i64 0) := HF1.out.ra.cell_ (i := 0) rfl
  have a1 : w2.cell? ⟨B + 1 + 1 + 1, 1, none⟩ = some (.int .i64 0) := HF1.out.ra.cell_ (i := 1) rfl
  have a2 : w2.cell? ⟨B + 1 + 1 + 1, 2, none⟩ = some (.int .u32 0) := HF1.out.ra.cell_ (i := 2) rfl
  have a3 : w2.cell? ⟨B + 1 + 1 + 1, 3, none⟩ = some (.int .u32 0) := HF1.out.ra.cell_ (i := 3) rfl
  have a4 : w2.cell? ⟨B + 1 + 1 + 1, 4, none⟩ = some (.int .u32 0) := HF1.out.ra.cell_ (i := 4) rfl
  have g0 : w2.frozen? ⟨B + 1 + 1 + 1, 0, none⟩ = false := HF1.out.ra.frozen 0
  have g1 : w2.frozen? ⟨B + 1 + 1 + 1, 1, none⟩ = false := HF1.out.ra.frozen 1
  have g2 : w2.frozen? ⟨B + 1 + 1 + 1, 2, none⟩ = false := HF1.out.ra.frozen 2
  have g3 : w2.frozen? ⟨B + 1 + 1 + 1, 3, none⟩ = false := HF1.out.ra.frozen 3
  have g4 : w2.frozen? ⟨B + 1 + 1 + 1, 4, none⟩ = false := HF1.out.ra.frozen 4
  have n0 : w2.cell? ⟨B + 1 + 1, 0, none⟩ = some (.int .i64 0) := HF1.out.rn.cell_ (i := 0) rfl
  have m0 : w2.frozen? ⟨B + 1 + 1, 0, none⟩ = false := HF1.out.rn.frozen 0
  go_wp2
  have HF5 := Lib.hid ((HF1.out.setN 2).setA (.int .i64 k') (.int .i64 c') (.int .u32 x') (.int .u32 y') (.int .u32 o'))
  refine post_two_tmps (P := Try.prog) Try.results70 (by rfl) HF5.out.rn Try.underlying51 rfl (by kernel_rfl) (by rfl) HF5.out.ra Try.underlying59 rfl (by kernel_rfl) rfl ⟨?_, HF5.out.only, HF5.out.memo⟩
  rw [HV.out]; rfl
set_option maxHeartbeats 400000 in
theorem step_4 (p A : Option Addr) (cp : Nat) (xs : List Int) (n i c : Int) (fv : Value) (w : World) (h : Memo w p A cp xs) :
    Calls Try.prog 70 #[.pointer p, .agg #[.int .i64 n], .int .i64 2, .int .i64 i, .agg #[.int .i64 4], .int .i64 c, fv] w (Stepped p A cp ⟨0, doVal xs 2 (wc n i) 0 0, false, true, st xs (wc n i) 0⟩ w) := by
  have HF0 := Lib.hid (SF.start n 4 h)
  clear h
  go_enter Try.func70, Try.ntmps70
  go_wp2_with fail
  generalize (((w.alloc (.cells #[.int .i64 n] 57)).alloc (.cells #[.int .i64 4] 51)).alloc (.cells #[.int .i64 0] 51)).alloc (.cells #[.int .i64 0, .int .i64 0, .int .u32 0, .int .u32 0, .int .u32 0] 59) = w1 at *
  generalize w.heap.size = B at *
  have n1 : w1.cell? ⟨B, 0, none⟩ = some (.int .i64 n) := HF0.out.rm.cell_ (i := 0) rfl
  refine (setWatch_any p A cp xs n i (0) _ HF0.out.memo).mono ?_
  obtain ⟨k', c', x', y', hv⟩ := doVal_form xs 2 (wc n i) (0) 0
  generalize (if doOk xs 2 (wc n i) = true then wordAt xs (wc n i) else 0) = o' at hv
  rw [hv]
  rintro e w2 ⟨rfl, hO, hM⟩
  have HF1 := Lib.hid (HF0.out.call hO hM)
  have HV := Lib.hid hv
  clear hO hM hv
  have a0 : w2.cell? ⟨B + 1 + 1 + 1, 0, none⟩ = some (.int .i64 0) := HF1.out.ra.cell_ (i := 0) rfl
  have a1 : w2.cell? ⟨B + 1 + 1 + 1, 1, none⟩ = some (.int .i64 0) := HF1.out.ra.cell_ (i := 1) rfl
  have a2 : w2.cell? ⟨B + 1 + 1 + 1, 2, none⟩ = some (.int .u32 0) := HF1.out.ra.cell_ (i := 2) rfl
  have a3 : w2.cell? ⟨B + 1 + 1 + 1, 3, none⟩ = some (.int .u32 0) := HF1.out.ra.cell_ (i := 3) rfl
  have a4 : w2.cell? ⟨B + 1 + 1 + 1, 4, none⟩ = some (.int .u32 0) := HF1.out.ra.cell_ (i := 4) rfl
  have g0 : w2.frozen? ⟨B + 1 + 1 + 1, 0, none⟩ = false := HF1.out.ra.frozen 0
  have g1 : w2.frozen? ⟨B + 1 + 1 + 1, 1, none⟩ = false := HF1.out.ra.frozen 1
  have g2 : w2.frozen? ⟨B + 1 + 1 + 1, 2, none⟩ = false := HF1.out.ra.frozen 2
  have g3 : w2.frozen? ⟨B + 1 + 1 + 1, 3, none⟩ = false := HF1.out.ra.frozen 3
  have g4 : w2.frozen? ⟨B + 1 + 1 + 1, 4, none⟩ = false := HF1.out.ra.frozen 4
  have n0 : w2.cell? ⟨B + 1 + 1, 0, none⟩ = some (.int .i64 0) := HF1.out.rn.cell_ (i := 0) rfl
  have m0 : w2.frozen? ⟨B + 1 + 1, 0, none⟩ = false := HF1.out.rn.frozen 0
  go_wp2
  have HF5 := Lib.hid ((HF1.out.setN 0).setA (.int .i64 k') (.int .i64 c') (.int .u32 x') (.int .u32 y') (.int .u32 o'))
  refine post_two_tmps (P := Try.prog) Try.results70 (by rfl) HF5.out.rn Try.underlying51 rfl (by kernel_rfl) (by rfl) HF5.out.ra Try.underlying59 rfl (by kernel_rfl) rfl ⟨?_, HF5.out.only, HF5.out.memo⟩
  rw [HV.out]; rfl
set_option maxHeartbeats 400000 in
theorem step_3 (p A : Option Addr) (cp : Nat) (xs : List Int) (n i c : Int) (fv : Value) (w : World) (h : Memo w p A cp xs) (m : Int) (hmm : (if hasP xs n i = true then (2 : Int) else 3) = m) :
    Calls Try.prog 70 #[.pointer p, .agg #[.int .i64 n], .int .i64 2, .int .i64 i, .agg #[.int .i64 3], .int .i64 c, fv] w (Stepped p A cp ⟨m, takeVal xs n i, false, false, st xs (pc n i) 0⟩ w) := by
  have HMM := Lib.hid hmm
  clear hmm
  have HF0 := Lib.hid (SF.start n 3 h)
  clear h
  go_enter Try.func70, Try.ntmps70
  go_wp2_with fail
  generalize (((w.alloc (.cells #[.int .i64 n] 57)).alloc (.cells #[.int .i64 3] 51)).alloc (.cells #[.int .i64 0] 51)).alloc (.cells #[.int .i64 0, .int .i64 0, .int .u32 0, .int .u32 0, .int .u32 0] 59) = w1 at *
  generalize w.heap.size = B at *
  refine (take_any p A cp xs n i _ HF0.out.memo).mono ?_
  obtain ⟨k', c', x', y', o', hv⟩ := takeVal_form xs n i
  rw [hv]
  rintro e w2 ⟨rfl, hO, hM⟩
  have HF1 := Lib.hid (HF0.out.call hO hM)
  have HV := Lib.hid hv
  clear hO hM hv
  generalize hasP xs n i = b at *
  have HF2 := Lib.hid (HF1.out.keep ((Only.refl Nil w2).alloc (.cells #[.int .i64 k', .int .i64 c', .int .u32 x', .int .u32 y', .int .u32 o'] 59)))
  have HN := Lib.hid (Row.new w2 59 #[.int .i64 k', .int .i64 c', .int .u32 x', .int .u32 y', .int .u32 o'])
  have HG := Lib.hid (show B + 1 + 1 + 1 < w2.heap.size from HF1.out.ra.lt)
  go_wp2_with fail
  generalize w2.alloc (.cells #[.int .i64 k', .int .i64 c', .int .u32 x', .int .u32 y', .int .u32 o'] 59) = w3 at *
  generalize w2.heap.size = g at *
  refine wp_region_held_drew (S := fun w' => Five w' g (.int .i64 k') (.int .i64 c') (.int .u32 x') (.int .u32 y') (.int .u32 o')) (by kernel_rfl) HN.out.five (fun hHeld => ?_)
  have HF3 := Lib.hid (HF2.out.keep (Only.refl Nil w3).drew)
  have HN3 := Lib.hid HN.out.drew
  clear HF2 HN
  generalize w3.drew = w4 at *
  refine zk 0 rfl ?_
  refine zk 2 rfl ?_
  refine mcl 1 rfl (by kernel_rfl) (by rfl) (fun K hK => ?_)
  go_simp
  refine (either_any b 2 3 _).mono ?_
  rw [HMM.out]
  rintro e w9 ⟨rfl, hO⟩
  have HF9 := Lib.hid (HF3.out.keep hO)
  have HN9 := Lib.hid (HN3.out.only hO id)
  refine hK.out _ _ HN9.out.five (fun hHeld9 => ?_)
  clear hK K hHeld hO HF3 HN3
  have n0 : w9.cell? ⟨B + 1 + 1, 0, none⟩ = some (.int .i64 0) := HF9.out.rn.cell_ (i := 0) rfl
  have m0 : w9.frozen? ⟨B + 1 + 1, 0, none⟩ = false := HF9.out.rn.frozen 0
  refine mcl 3 rfl (by kernel_rfl) (by rfl) (fun K hK => ?_)
  go_simp
  have HF4 := Lib.hid (HF9.out.setN m)
  have HN4 := Lib.hid (HN9.out.far (p := ⟨B + 1 + 1, 0, none⟩) (by have := HG.out; show g ≠ B + 1 + 1; omega) (.int .i64 m))
  refine hK.out _ _ HN4.out.five (fun hHeld2 => ?_)
  clear hK K hHeld9 n0 m0 HF9 HN9
  generalize w9.setCell ⟨B + 1 + 1, 0, none⟩ (.int .i64 m) = w5 at *
  have c0 : w5.cell? ⟨B + 1 + 1 + 1, 0, none⟩ = some (.int .i64 0) := HF4.out.ra.cell_ (i := 0) rfl
  have c1 : w5.cell? ⟨B + 1 + 1 + 1, 1, none⟩ = some (.int .i64 0) := HF4.out.ra.cell_ (i := 1) rfl
  have c2 : w5.cell? ⟨B + 1 + 1 + 1, 2, none⟩ = some (.int .u32 0) := HF4.out.ra.cell_ (i := 2) rfl
  have c3 : w5.cell? ⟨B + 1 + 1 + 1, 3, none⟩ = some (.int .u32 0) := HF4.out.ra.cell_ (i := 3) rfl
  have c4 : w5.cell? ⟨B + 1 + 1 + 1, 4, none⟩ = some (.int .u32 0) := HF4.out.ra.cell_ (i := 4) rfl
  have g0 : w5.frozen? ⟨B + 1 + 1 + 1, 0, none⟩ = false := HF4.out.ra.frozen 0
  have g1 : w5.frozen? ⟨B + 1 + 1 + 1, 1, none⟩ = false := HF4.out.ra.frozen 1
  have g2 : w5.frozen? ⟨B + 1 + 1 + 1, 2, none⟩ = false := HF4.out.ra.frozen 2
  have g3 : w5.frozen? ⟨B + 1 + 1 + 1, 3, none⟩ = false := HF4.out.ra.frozen 3
  have g4 : w5.frozen? ⟨B + 1 + 1 + 1, 4, none⟩ = false := HF4.out.ra.frozen 4
  refine mcl 4 rfl (by kernel_rfl) (by rfl) (fun K hK => ?_)
  go_simp
  have HF5 := Lib.hid (HF4.out.setA (.int .i64 k') (.int .i64 c') (.int .u32 x') (.int .u32 y') (.int .u32 o'))
  have HN5 := Lib.hid (five_far (g := B + 1 + 1 + 1) HN4.out (by have := HG.out; show g ≠ B + 1 + 1 + 1; omega) (.int .i64 k') (.int .i64 c') (.int .u32 x') (.int .u32 y') (.int .u32 o'))
  refine hK.out _ _ HN5.out.five (fun hHeld3 => ?_)
  clear hK K hHeld2 c0 c1 c2 c3 c4 g0 g1 g2 g3 g4 HF4 HN4
  generalize (((((w5.setCell ⟨B + 1 + 1 + 1, 0, none⟩ (.int .i64 k')).setCell ⟨B + 1 + 1 + 1, 1, none⟩ (.int .i64 c')).setCell ⟨B + 1 + 1 + 1, 2, none⟩ (.int .u32 x')).setCell ⟨B + 1 + 1 + 1, 3, none⟩ (.int .u32 y')).setCell ⟨B + 1 + 1 + 1, 4, none⟩ (.int .u32 o')) = w6 at *
  refine zk 5 rfl ?_
  refine zk 6 rfl ?_
  refine wpAnyH_done (by kernel_rfl) ?_ _
  clear hHeld3
  go_wp2
  refine post_two_tmps (P := Try.prog) Try.results70 (by rfl) HF5.out.rn Try.underlying51 rfl (by kernel_rfl) (by rfl) HF5.out.ra Try.underlying59 rfl (by kernel_rfl) rfl ⟨?_, HF5.out.only, HF5.out.memo⟩
  rw [HV.out]; rfl
end Go.Proofs.Ytaeninikaalkjaa
set_option linter.unusedVariables false
set_option linter.unusedSimpArgs false
namespace Go.Proofs.Ytaeninikaalkjaa
open Go.RowKit
structure WB (w : World) (B : Nat) (p A : Option Addr) (cp : Nat) (nv : Value) (g : Nat) (c : Int) (fv : Value) (r : LS) (s3 s4 : Bool) : Prop where
  run : RunP w B p A cp nv r
  r0 : Row w g 62 #[.pointer (some ⟨B, 0, none⟩)]
  r1 : Row w (g + 1) 3 #[.int .i64 c]
  r2 : Row w (g + 2) 98 #[fv]
  r3 : Row w (g + 3) 4 #[.bool s3]
  r4 : Row w (g + 4) 4 #[.bool s4]
def Wd (B : Nat) (A : Option Addr) (g : Nat) : Nat → Prop := fun j => TurnB B A j ∨ j = g + 3 ∨ j = g + 4
theorem memo_not {w : World} {p A : Option Addr} {cp : Nat} {xs : List Int} {j : Nat} {t : TypeId} {cs : Array Value} (h : Memo w p A cp xs) (hr : Row w j t cs) (h1 : t ≠ 73) (h2 : t ≠ 22) : ¬ (At p j ∨ At A j) := fun hj => by
  obtain ⟨t', cs', hr', ht⟩ := memo_tag h hj
  have e := (hr.same hr').1
  rcases ht with rfl | rfl
  · exact h1 e
  · exact h2 e
theorem ownN_not {base : Nat} {w : World} {v : Value} {zs : List Nt} {i : Nat} {t : TypeId} {cs : Array Value} (h : OwnN base w v zs) (hr : Row w i t cs) (h1 : t ≠ 102) : v.ownBlock ≠ some i := fun hi => by
  obtain ⟨cur, hc⟩ := ownN_tag h hi
  exact h1 (hr.same hc).1
section
variable {w w' w0 : World} {B : Nat} {p A : Option Addr} {cp : Nat} {nv : Value} {g : Nat} {c : Int} {fv : Value} {r r' : LS} {s3 s4 : Bool} {ys : List Int} {S : Nat → Prop}
theorem WB.call (h : WB w B p A cp nv g c fv r s3 s4) (ho : Only (At A) w w') (hm : Memo w' p A cp ys) : WB w' B p A cp nv g c fv { r with xs := ys } s3 s4 :=
  ⟨h.run.call ho hm, h.r0.only ho (fun e => memo_not h.run.memo h.r0 (by decide) (by decide) (.inr e)), h.r1.only ho (fun e => memo_not h.run.memo h.r1 (by decide) (by decide) (.inr e)), h.r2.only ho (fun e => memo_not h.run.memo h.r2 (by decide) (by decide) (.inr e)), h.r3.only ho (fun e => memo_not h.run.memo h.r3 (by decide) (by decide) (.inr e)), h.r4.only ho (fun e => memo_not h.run.memo h.r4 (by decide) (by decide) (.inr e))⟩
theorem WB.keep (h : WB w B p A cp nv g c fv r s3 s4) (ho : Only Nil w w') : WB w' B p A cp nv g c fv r s3 s4 := h.call (ho.mono (fun _ _ h => h.elim)) (h.run.memo.keep ho)
theorem WB.turn (h : WB w B p A cp nv g c fv r s3 s4) (ho : Only (· = B) w w') (hr : RunP w' B p A cp nv r') : WB w' B p A cp nv g c fv r' s3 s4 :=
  ⟨hr, h.r0.only ho (row_ne h.r0 h.run.row (by decide)), h.r1.only ho (row_ne h.r1 h.run.row (by decide)), h.r2.only ho (row_ne h.r2 h.run.row (by decide)), h.r3.only ho (row_ne h.r3 h.run.row (by decide)), h.r4.only ho (row_ne h.r4 h.run.row (by decide))⟩
theorem WB.far (h : WB w B p A cp nv g c fv r s3 s4) {q : Nat} {t : TypeId} {cs : Array Value} (hq : Row w q t cs) (ho : Only (· = q) w w') (hB : B ≠ q) (hm : t ≠ 73) (hu : t ≠ 22) (hn : t ≠ 102) (h0 : ∀ i, i < 5 → q ≠ g + i) : WB w' B p A cp nv g c fv r s3 s4 :=
  ⟨h.run.apart ho hB (fun j hj e => by subst e; exact memo_not h.run.memo hq hm hu hj) (fun i hi e => by subst e; exact ownN_not h.run.notes hq hn hi),
    h.r0.only ho (fun e => h0 0 (by decide) e.symm), h.r1.only ho (fun e => h0 1 (by decide) e.symm), h.r2.only ho (fun e => h0 2 (by decide) e.symm), h.r3.only ho (fun e => h0 3 (by decide) e.symm), h.r4.only ho (fun e => h0 4 (by decide) e.symm)⟩
theorem WB.set3 (h : WB w B p A cp nv g c fv r s3 s4) (b : Bool) : WB (w.setCell ⟨g + 3, 0, none⟩ (.bool b)) B p A cp nv g c fv r b s4 := by
  have ho := (Only.refl (· = g + 3) w).setCell (p := ⟨g + 3, 0, none⟩) (.inr rfl) (.bool b)
  exact ⟨h.run.apart ho (row_ne h.run.row h.r3 (by decide)) (fun j hj e => by subst e; exact memo_not h.run.memo h.r3 (by decide) (by decide) hj) (fun i hi e => by subst e; exact ownN_not h.run.notes h.r3 (by decide) hi),
    h.r0.only ho (fun e => by omega), h.r1.only ho (fun e => by omega), h.r2.only ho (fun e => by omega), h.r3.set 0 _, h.r4.only ho (fun e => by omega)⟩
theorem WB.set4 (h : WB w B p A cp nv g c fv r s3 s4) (b : Bool) : WB (w.setCell ⟨g + 4, 0, none⟩ (.bool b)) B p A cp nv g c fv r s3 b := by
  have ho := (Only.refl (· = g + 4) w).setCell (p := ⟨g + 4, 0, none⟩) (.inr rfl) (.bool b)
  exact ⟨h.run.apart ho (row_ne h.run.row h.r4 (by decide)) (fun j hj e => by subst e; exact memo_not h.run.memo h.r4 (by decide) (by decide) hj) (fun i hi e => by subst e; exact ownN_not h.run.notes h.r4 (by decide) hi),
    h.r0.only ho (fun e => by omega), h.r1.only ho (fun e => by omega), h.r2.only ho (fun e => by omega), h.r3.only ho (fun e => by omega), h.r4.set 0 _⟩
theorem RunP.setS {w : World} {B : Nat} {p A : Option Addr} {cp : Nat} {nv : Value} {r : LS} (h : RunP w B p A cp nv r) (v : Int) : RunP (w.setCell ⟨B, 8, none⟩ (.int .i64 v)) B p A cp nv { r with s := v } :=
  h.turn ((Only.refl (· = B) w).setCell (p := ⟨B, 8, none⟩) (.inr rfl) _) (h.row.set 8 (.int .i64 v)) rfl rfl
theorem WB.setS (h : WB w B p A cp nv g c fv r s3 s4) (v : Int) : WB (w.setCell ⟨B, 8, none⟩ (.int .i64 v)) B p A cp nv g c fv { r with s := v } s3 s4 :=
  h.turn ((Only.refl (· = B) w).setCell (p := ⟨B, 8, none⟩) (.inr rfl) _) (h.run.setS v)
theorem WB.held (h : WB w B p A cp nv g c fv r s3 s4) : w.cell? ⟨g, 0, none⟩ = some (.pointer (some ⟨B, 0, none⟩)) ∧ w.cell? ⟨B, 0, none⟩ = some (.pointer p) ∧ w.cell? ⟨B, 1, none⟩ = some (.int .i64 r.n) ∧ w.cell? ⟨B, 2, none⟩ = some (.int .i64 r.mode) ∧ w.cell? ⟨B, 3, none⟩ = some (.int .i64 r.task) ∧ w.cell? ⟨B, 8, none⟩ = some (.int .i64 r.s) ∧ w.cell? ⟨g + 1, 0, none⟩ = some (.int .i64 c) ∧ w.cell? ⟨g + 2, 0, none⟩ = some fv :=
  ⟨h.r0.cell_ (i := 0) rfl, h.run.row.cell_ (i := 0) rfl, h.run.row.cell_ (i := 1) rfl, h.run.row.cell_ (i := 2) rfl, h.run.row.cell_ (i := 3) rfl, h.run.row.cell_ (i := 8) rfl, h.r1.cell_ (i := 0) rfl, h.r2.cell_ (i := 0) rfl⟩
end
theorem Row.at {w : World} {t : TypeId} {cs : Array Value} {k : Nat} (h : w.heap.size = k) : Row (w.alloc (.cells cs t)) k t cs := by subst h; exact Row.new w t cs
end Go.Proofs.Ytaeninikaalkjaa
set_option linter.unusedVariables false
set_option linter.unusedSimpArgs false
namespace Go.Proofs.Ytaeninikaalkjaa
open Go.RowKit
def Aside (t : TypeId) : Prop := t ≠ 61 ∧ t ≠ 73 ∧ t ≠ 22
theorem RunP.aside {w w' : World} {B : Nat} {p A : Option Addr} {cp : Nat} {nv : Value} {r : LS} {g : Nat} {t : TypeId} {cs : Array Value} (h : RunP w B p A cp nv r) (hg : Row w g t cs) (ho : Only (TurnB B A) w w') (ht : Aside t) : Row w' g t cs :=
  hg.only ho (fun e => by
    rcases e with e | e
    · exact row_ne hg h.row ht.1 e
    · exact memo_not h.memo hg ht.2.1 ht.2.2 (.inr e))
theorem RowsL.turn {w w' : World} {B : Nat} {p A : Option Addr} {cp : Nat} {nv : Value} {r : LS} {L : List (Nat × TypeId × Array Value)} (h : RowsL w L) (hp : RunP w B p A cp nv r) (ho : Only (TurnB B A) w w') (ht : ∀ x ∈ L, Aside x.2.1) : RowsL w' L := fun x hx => hp.aside (h x hx) ho (ht x hx)
end Go.Proofs.Ytaeninikaalkjaa
set_option linter.unusedVariables false
set_option linter.unusedSimpArgs false
namespace Go.Proofs.Ytaeninikaalkjaa
open Go.RowKit
def LS.keepA (r : LS) (v : Int) : LS := { r with a := v }
def LS.noteIf (r : LS) (b : Bool) (what : Int) : LS := if b then r.note what 0 else r
end Go.Proofs.Ytaeninikaalkjaa
set_option linter.unusedVariables false
set_option linter.unusedSimpArgs false
namespace Go.Proofs.Ytaeninikaalkjaa
open Go.RowKit
def nc (n i : Int) : Int := cellI n 0 i
def bc (n i : Int) : Int := cellI n 1 i
def isZ (v : Int) : Bool := v == 0
def LS.notes (r : LS) (whats : List Int) : LS := whats.foldl (fun r w => r.note w 0) r
end Go.Proofs.Ytaeninikaalkjaa
namespace Go.Proofs.Ytaeninikaalkjaa
end Go.Proofs.Ytaeninikaalkjaa
