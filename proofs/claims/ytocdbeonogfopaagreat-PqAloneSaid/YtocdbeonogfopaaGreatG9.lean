import Derived.Deep.Cut
import Derived.Test.YtocdbeonogfopaaGreatG8
import Derived.Test.YtocdbeonogfopaaGreatG2
import Derived.Test.YtocdbeonogfopaaGreatG5
set_option linter.unusedVariables false
set_option linter.unusedSimpArgs false
namespace Go.Proofs.YtocdbeonogfopaaGreat
open Go.RowKit
theorem look_any (p A : Option Addr) (cp : Nat) (xs : List Int) (c : Int) (fv : Value) (q : Int → Bool) (w : World) (h : Memo w p A cp xs) (hf : Holds A w fv q) (hx : Words xs) :
    Calls Tryz.prog 139 #[.pointer p, .int .i64 c, fv] w fun e w' =>
      e = .returned (.tuple #[doVal xs 1 c 0 0, .bool (q (wordAt xs c))]) ∧ Only (At A) w w' ∧ Memo w' p A cp xs := by
  have hb := word_wf hx c
  have HB := Lib.hid hb
  have hst : doNew xs 1 c 0 0 = xs := doNew_load xs _ _ _
  have HH := Lib.hid h
  have HF := Lib.hid hf
  have ha : ∀ j, At p j ∨ At A j → j < w.heap.size := HH.out.lt
  have HA := Lib.hid ha
  clear h ha hf hb hx
  go_enter Tryz.func139, Tryz.ntmps139
  go_wp2_with fail
  have e0 := (Only.refl Nil w).alloc (Obj.cells #[Value.int IntKind.i64 0, Value.int IntKind.i64 0, Value.int IntKind.u32 0, Value.int IntKind.u32 0, Value.int IntKind.u32 0] 59)
  refine (do_memo p A cp xs 1 c 0 0 0 _ (HH.out.keep e0)).mono ?_
  obtain ⟨k', c', x', y', hv⟩ := doVal_form xs 1 c 0 0
  rw [oldAt xs 1 c rfl] at hv
  rw [hv, hst]
  rintro e w2 ⟨rfl, hO, hM⟩
  have hS : Only (At A) w w2 := (e0.mono (fun _ _ h => h.elim)).trans hO
  have R8 : Row w2 w.heap.size 59 #[.int .i64 0, .int .i64 0, .int .u32 0, .int .u32 0, .int .u32 0] := (Row.new w _ _).only hO (fun h => by have := HA.out _ (.inr h); omega)
  have HR := Lib.hid (R8.alloc (Obj.cells #[Value.int IntKind.i64 k', Value.int IntKind.i64 c', Value.int IntKind.u32 x', Value.int IntKind.u32 y', Value.int IntKind.u32 (wordAt xs c)] 59))
  have HN := Lib.hid (Row.new w2 59 #[Value.int IntKind.i64 k', Value.int IntKind.i64 c', Value.int IntKind.u32 x', Value.int IntKind.u32 y', Value.int IntKind.u32 (wordAt xs c)])
  have HS := Lib.hid (hS.alloc (Obj.cells #[Value.int IntKind.i64 k', Value.int IntKind.i64 c', Value.int IntKind.u32 x', Value.int IntKind.u32 y', Value.int IntKind.u32 (wordAt xs c)] 59))
  have HM := Lib.hid (hM.keep ((Only.refl Nil w2).alloc (Obj.cells #[Value.int IntKind.i64 k', Value.int IntKind.i64 c', Value.int IntKind.u32 x', Value.int IntKind.u32 y', Value.int IntKind.u32 (wordAt xs c)] 59)))
  have HZ := Lib.hid R8.lt
  clear hO R8 hS hM e0 hst
  have HV := Lib.hid hv
  clear hv
  go_wp2_with fail
  generalize w2.alloc (.cells #[.int .i64 k', .int .i64 c', .int .u32 x', .int .u32 y', .int .u32 (wordAt xs c)] 59) = w3 at *
  generalize hg : w2.heap.size = g at *
  have HG := Lib.hid hg
  clear hg
  generalize hwd : wordAt xs c = v at *
  have HWD := Lib.hid hwd
  clear hwd
  have c0 : w3.cell? ⟨g, 0, none⟩ = some (.int .i64 k') := HN.out.cell_ (i := 0) rfl
  have c1 : w3.cell? ⟨g, 1, none⟩ = some (.int .i64 c') := HN.out.cell_ (i := 1) rfl
  have c2 : w3.cell? ⟨g, 2, none⟩ = some (.int .u32 x') := HN.out.cell_ (i := 2) rfl
  have c3 : w3.cell? ⟨g, 3, none⟩ = some (.int .u32 y') := HN.out.cell_ (i := 3) rfl
  have c4 : w3.cell? ⟨g, 4, none⟩ = some (.int .u32 v) := HN.out.cell_ (i := 4) rfl
  have hgg : ¬ g = w.heap.size := by have := HZ.out; omega
  have HGG := Lib.hid hgg
  clear hgg
  refine wp_region_held_drew (S := fun w' => w'.cell? ⟨g, 0, none⟩ = some (.int .i64 k') ∧ w'.cell? ⟨g, 1, none⟩ = some (.int .i64 c') ∧ w'.cell? ⟨g, 2, none⟩ = some (.int .u32 x') ∧ w'.cell? ⟨g, 3, none⟩ = some (.int .u32 y') ∧ w'.cell? ⟨g, 4, none⟩ = some (.int .u32 v)) (by kernel_rfl) ⟨c0, c1, c2, c3, c4⟩ (fun hHeld => ?_)
  refine mtk 0 rfl (.agg #[.int .i64 k', .int .i64 c', .int .u32 x', .int .u32 y', .int .u32 v]) (fun w hSw => ?_) ?_
  · (try dsimp only at hSw)
    go_split_ands
    go_simp
  (try simp only [Act.put, k1, k2, k3])
  refine mtk 1 rfl (fv) (fun w hSw => ?_) ?_
  · (try dsimp only at hSw)
    go_split_ands
    go_simp
  (try simp only [Act.put, k1, k2, k3])
  refine mtk 2 rfl (.pointer (some ⟨g, 4, none⟩)) (fun w hSw => ?_) ?_
  · (try dsimp only at hSw)
    go_split_ands
    go_simp
  (try simp only [Act.put, k1, k2, k3])
  refine mtk 3 rfl (.int .u32 v) (fun w hSw => ?_) ?_
  · (try dsimp only at hSw)
    go_split_ands
    go_simp
  (try simp only [Act.put, k1, k2, k3])
  refine mcl 4 rfl (by kernel_rfl) (by rfl) (fun K hK => ?_)
  go_simp
  refine (HF.out v _ HS.out.drew HB.out.1 HB.out.2).mono ?_
  rintro e w4 ⟨rfl, hO⟩
  have hO4 : Only Nil w3 w4 := (Only.refl Nil w3).drew.trans hO
  have HN4 := Lib.hid (HN.out.only hO4 id)
  have HR4 := Lib.hid (HR.out.only hO4 id)
  have HO4 := Lib.hid hO4
  refine hK.out _ _ ⟨HN4.out.cell_ (i := 0) rfl, HN4.out.cell_ (i := 1) rfl, HN4.out.cell_ (i := 2) rfl, HN4.out.cell_ (i := 3) rfl, HN4.out.cell_ (i := 4) rfl⟩ (fun hHeld2 => ?_)
  clear hK K hHeld hO hO4 c0 c1 c2 c3 c4
  (try simp only [Act.put, k1, k2, k3])
  have d0 : w4.cell? ⟨w.heap.size, 0, none⟩ = some (.int .i64 0) := HR4.out.cell_ (i := 0) rfl
  have d1 : w4.cell? ⟨w.heap.size, 1, none⟩ = some (.int .i64 0) := HR4.out.cell_ (i := 1) rfl
  have d2 : w4.cell? ⟨w.heap.size, 2, none⟩ = some (.int .u32 0) := HR4.out.cell_ (i := 2) rfl
  have d3 : w4.cell? ⟨w.heap.size, 3, none⟩ = some (.int .u32 0) := HR4.out.cell_ (i := 3) rfl
  have d4 : w4.cell? ⟨w.heap.size, 4, none⟩ = some (.int .u32 0) := HR4.out.cell_ (i := 4) rfl
  have f0 : w4.frozen? ⟨w.heap.size, 0, none⟩ = false := HR4.out.frozen 0
  have f1 : w4.frozen? ⟨w.heap.size, 1, none⟩ = false := HR4.out.frozen 1
  have f2 : w4.frozen? ⟨w.heap.size, 2, none⟩ = false := HR4.out.frozen 2
  have f3 : w4.frozen? ⟨w.heap.size, 3, none⟩ = false := HR4.out.frozen 3
  have f4 : w4.frozen? ⟨w.heap.size, 4, none⟩ = false := HR4.out.frozen 4
  refine mcl 5 rfl (by kernel_rfl) (by rfl) (fun K hK => ?_)
  go_simp
  have HN5 := Lib.hid (HN4.out.only (five_only (Only.refl (· = w.heap.size) w4) (.inr rfl) (.int .i64 k') (.int .i64 c') (.int .u32 x') (.int .u32 y') (.int .u32 v)) HGG.out)
  refine hK.out _ _ ⟨HN5.out.cell_ (i := 0) rfl, HN5.out.cell_ (i := 1) rfl, HN5.out.cell_ (i := 2) rfl, HN5.out.cell_ (i := 3) rfl, HN5.out.cell_ (i := 4) rfl⟩ (fun hHeld3 => ?_)
  clear hK K hHeld2 d0 d1 d2 d3 d4 f0 f1 f2 f3 f4
  (try simp only [Act.put, k1, k2, k3])
  refine mtk 6 rfl (.bool (q v)) (fun w hSw => ?_) ?_
  · (try dsimp only at hSw)
    go_split_ands
    go_simp
  (try simp only [Act.put, k1, k2, k3])
  refine wpAnyH_done (by kernel_rfl) ?_ _
  go_wp2
  refine post_row_tmp (P := Tryz.prog) Tryz.results139 (t := 59) (g := w.heap.size) (cs := #[.int .i64 k', .int .i64 c', .int .u32 x', .int .u32 y', .int .u32 v]) rfl (five HR4.out _ _ _ _ _) Tryz.underlying59 rfl (by kernel_rfl) rfl ⟨?_, five_only (HS.out.trans (HO4.out.mono (fun _ _ h => h.elim))) (.inl (Nat.le_refl _)) _ _ _ _ _, ?_⟩
  · rw [HV.out, HWD.out]; rfl
  · exact (HM.out.keep HO4.out).far (five_only (Only.refl (· = w.heap.size) w4) (.inr rfl) _ _ _ _ _) (fun j hj h => by have := HA.out j hj; omega)
end Go.Proofs.YtocdbeonogfopaaGreat
set_option linter.unusedVariables false
set_option linter.unusedSimpArgs false
namespace Go.Proofs.YtocdbeonogfopaaGreat
open Go.RowKit
theorem either_any (b : Bool) (y z : Int) (w : World) :
    Calls Tryz.prog 141 #[.bool b, .int .i64 y, .int .i64 z] w fun e w' => e = .returned (.agg #[.int .i64 (if b then y else z)]) ∧ Only Nil w w' := by
  cases b
  all_goals
    simp only [Bool.false_eq_true, if_false, if_true]
    go_enter Tryz.func141, Tryz.ntmps141
    go_wp2
    exact post_row (P := Tryz.prog) Tryz.results141 (t := 51) (by rfl) (Row.new _ _ _) Tryz.underlying51 rfl (by kernel_rfl) rfl ⟨rfl, (Only.refl _ _).alloc _⟩
theorem setWatch_any (p A : Option Addr) (cp : Nat) (xs : List Int) (n i x : Int) (w : World) (h : Memo w p A cp xs) :
    Calls Tryz.prog 140 #[.pointer p, .agg #[.int .i64 n], .int .i64 i, .int .u32 x] w fun e w' =>
      e = .returned (doVal xs 2 (wc n i) x 0) ∧ Only (At A) w w' ∧ Memo w' p A cp (st xs (wc n i) x) := by
  have hst : doNew xs 2 (wc n i) x 0 = st xs (wc n i) x := by rw [doNew_st xs 2 _ x 0 rfl]; rfl
  have HST := Lib.hid hst
  have HH := Lib.hid h
  have ha : ∀ j, At p j ∨ At A j → j < w.heap.size := HH.out.lt
  have HA := Lib.hid ha
  clear h ha hst
  go_enter Tryz.func140, Tryz.ntmps140
  go_wp2_with fail
  refine (watch_any n i _).mono ?_
  rintro e w1 ⟨rfl, hO⟩
  have R8 : Row w1 (w.heap.size + 1) 59 #[.int .i64 0, .int .i64 0, .int .u32 0, .int .u32 0, .int .u32 0] := (Row.new2 w _ _ _).only hO id
  have hO1 : Only Nil w w1 := (((Only.refl Nil w).alloc _).alloc _).trans hO
  have HM1 := Lib.hid (HH.out.keep hO1)
  have HO1 := Lib.hid hO1
  have HR8 := Lib.hid R8
  clear hO R8 hO1
  show _
  have hpc : cellI n 2 i = wc n i := rfl
  rw [hpc]
  clear hpc
  go_wp2_with fail
  refine (do_memo p A cp xs 2 (wc n i) x 0 0 _ HM1.out).mono ?_
  obtain ⟨k', c', x', y', hv⟩ := doVal_form xs 2 (wc n i) x 0
  rw [oldAt xs 2 (wc n i) rfl] at hv
  rw [hv, HST.out]
  rintro e w2 ⟨rfl, hO, hM⟩
  have HS := Lib.hid ((HO1.out.mono (fun _ _ h => h.elim)).trans hO)
  have R8 := HR8.out.only hO (fun h => by have := HA.out _ (.inr h); omega)
  have HR9 := Lib.hid (R8.alloc (Obj.cells #[Value.int IntKind.i64 k', Value.int IntKind.i64 c', Value.int IntKind.u32 x', Value.int IntKind.u32 y', Value.int IntKind.u32 (wordAt xs (wc n i))] 59))
  have HN := Lib.hid (Row.new w2 59 #[Value.int IntKind.i64 k', Value.int IntKind.i64 c', Value.int IntKind.u32 x', Value.int IntKind.u32 y', Value.int IntKind.u32 (wordAt xs (wc n i))])
  have HS2 := Lib.hid (HS.out.alloc (Obj.cells #[Value.int IntKind.i64 k', Value.int IntKind.i64 c', Value.int IntKind.u32 x', Value.int IntKind.u32 y', Value.int IntKind.u32 (wordAt xs (wc n i))] 59))
  have HM2 := Lib.hid (hM.keep ((Only.refl Nil w2).alloc (Obj.cells #[Value.int IntKind.i64 k', Value.int IntKind.i64 c', Value.int IntKind.u32 x', Value.int IntKind.u32 y', Value.int IntKind.u32 (wordAt xs (wc n i))] 59)))
  have HV := Lib.hid hv
  have hlt := R8.lt
  have HLT := Lib.hid hlt
  clear hO R8 hM hv hlt HS
  generalize wordAt xs (wc n i) = o' at *
  generalize doOk xs 2 (wc n i) = ok at *
  go_upto_region 2 with (fail)
  generalize w2.alloc (.cells #[.int .i64 k', .int .i64 c', .int .u32 x', .int .u32 y', .int .u32 o'] 59) = w3 at *
  generalize w2.heap.size = g2 at *
  have c80 : w3.cell? ⟨w.heap.size + 1, 0, none⟩ = some (.int .i64 0) := HR9.out.cell_ (i := 0) rfl
  have c81 : w3.cell? ⟨w.heap.size + 1, 1, none⟩ = some (.int .i64 0) := HR9.out.cell_ (i := 1) rfl
  have c82 : w3.cell? ⟨w.heap.size + 1, 2, none⟩ = some (.int .u32 0) := HR9.out.cell_ (i := 2) rfl
  have c83 : w3.cell? ⟨w.heap.size + 1, 3, none⟩ = some (.int .u32 0) := HR9.out.cell_ (i := 3) rfl
  have c84 : w3.cell? ⟨w.heap.size + 1, 4, none⟩ = some (.int .u32 0) := HR9.out.cell_ (i := 4) rfl
  have f80 : w3.frozen? ⟨w.heap.size + 1, 0, none⟩ = false := HR9.out.frozen 0
  have f81 : w3.frozen? ⟨w.heap.size + 1, 1, none⟩ = false := HR9.out.frozen 1
  have f82 : w3.frozen? ⟨w.heap.size + 1, 2, none⟩ = false := HR9.out.frozen 2
  have f83 : w3.frozen? ⟨w.heap.size + 1, 3, none⟩ = false := HR9.out.frozen 3
  have f84 : w3.frozen? ⟨w.heap.size + 1, 4, none⟩ = false := HR9.out.frozen 4
  have c0 : w3.cell? ⟨g2, 0, none⟩ = some (.int .i64 k') := HN.out.cell_ (i := 0) rfl
  have c1 : w3.cell? ⟨g2, 1, none⟩ = some (.int .i64 c') := HN.out.cell_ (i := 1) rfl
  have c2 : w3.cell? ⟨g2, 2, none⟩ = some (.int .u32 x') := HN.out.cell_ (i := 2) rfl
  have c3 : w3.cell? ⟨g2, 3, none⟩ = some (.int .u32 y') := HN.out.cell_ (i := 3) rfl
  have c4 : w3.cell? ⟨g2, 4, none⟩ = some (.int .u32 o') := HN.out.cell_ (i := 4) rfl
  go_wp2
  refine post_row (P := Tryz.prog) Tryz.results140 (t := 59) (g := w.heap.size + 1) (cs := #[.int .i64 k', .int .i64 c', .int .u32 x', .int .u32 y', .int .u32 o']) rfl (five HR9.out _ _ _ _ _) Tryz.underlying59 rfl (by kernel_rfl) rfl ⟨?_, five_only HS2.out (.inl (by omega)) _ _ _ _ _, ?_⟩
  · rw [HV.out]
  · exact HM2.out.far (five_only (Only.refl (· = w.heap.size + 1) w3) (.inr rfl) _ _ _ _ _) (fun j hj h => by have := HA.out j hj; omega)
end Go.Proofs.YtocdbeonogfopaaGreat
set_option linter.unusedVariables false
set_option linter.unusedSimpArgs false
namespace Go.Proofs.YtocdbeonogfopaaGreat
open Go.RowKit
theorem take_any (p A : Option Addr) (cp : Nat) (xs : List Int) (n i : Int) (w : World) (h : Memo w p A cp xs) :
    Calls Tryz.prog 142 #[.pointer p, .agg #[.int .i64 n], .int .i64 i] w fun e w' =>
      e = .returned (.tuple #[takeVal xs n i, .bool (hasP xs n i)]) ∧ Only (At A) w w' ∧ Memo w' p A cp (st xs (pc n i) 0) := by
  have HH := Lib.hid h
  have ha : ∀ j, At p j ∨ At A j → j < w.heap.size := HH.out.lt
  have HA := Lib.hid ha
  clear h ha
  go_enter Tryz.func142, Tryz.ntmps142
  go_wp2_with fail
  have e0 := ((Only.refl Nil w).alloc (Obj.cells #[Value.int IntKind.i64 n] 57)).alloc (Obj.cells #[Value.int IntKind.i64 0, Value.int IntKind.i64 0, Value.int IntKind.u32 0, Value.int IntKind.u32 0, Value.int IntKind.u32 0] 59)
  refine (has_any p A cp xs n i _ (HH.out.keep e0)).mono ?_
  rintro e w2 ⟨rfl, hO, hM⟩
  have hS : Only (At A) w w2 := (e0.mono (fun _ _ h => h.elim)).trans hO
  have R4 : Row w2 w.heap.size 57 #[.int .i64 n] := ((Row.new w _ _).alloc _).only hO (fun h => by have := HA.out _ (.inr h); omega)
  have R8 : Row w2 (w.heap.size + 1) 59 #[.int .i64 0, .int .i64 0, .int .u32 0, .int .u32 0, .int .u32 0] := (Row.new2 w _ _ _).only hO (fun h => by have := HA.out _ (.inr h); omega)
  have c40 : w2.cell? ⟨w.heap.size, 0, none⟩ = some (.int .i64 n) := R4.cell_ (i := 0) rfl
  have HR9 := Lib.hid R8
  have HS := Lib.hid hS
  have HM2 := Lib.hid hM
  clear hO R8 hS hM e0 R4
  cases hp : hasP xs n i
  · have HP := Lib.hid hp
    have c80 : w2.cell? ⟨w.heap.size + 1, 0, none⟩ = some (.int .i64 0) := HR9.out.cell_ (i := 0) rfl
    have c81 : w2.cell? ⟨w.heap.size + 1, 1, none⟩ = some (.int .i64 0) := HR9.out.cell_ (i := 1) rfl
    have c82 : w2.cell? ⟨w.heap.size + 1, 2, none⟩ = some (.int .u32 0) := HR9.out.cell_ (i := 2) rfl
    have c83 : w2.cell? ⟨w.heap.size + 1, 3, none⟩ = some (.int .u32 0) := HR9.out.cell_ (i := 3) rfl
    have c84 : w2.cell? ⟨w.heap.size + 1, 4, none⟩ = some (.int .u32 0) := HR9.out.cell_ (i := 4) rfl
    have f80 : w2.frozen? ⟨w.heap.size + 1, 0, none⟩ = false := HR9.out.frozen 0
    have f81 : w2.frozen? ⟨w.heap.size + 1, 1, none⟩ = false := HR9.out.frozen 1
    have f82 : w2.frozen? ⟨w.heap.size + 1, 2, none⟩ = false := HR9.out.frozen 2
    have f83 : w2.frozen? ⟨w.heap.size + 1, 3, none⟩ = false := HR9.out.frozen 3
    have f84 : w2.frozen? ⟨w.heap.size + 1, 4, none⟩ = false := HR9.out.frozen 4
    clear hp
    go_wp2
    refine post_row_tmp (P := Tryz.prog) Tryz.results142 (t := 59) (g := w.heap.size + 1) (cs := #[.int .i64 0, .int .i64 0, .int .u32 0, .int .u32 0, .int .u32 0]) rfl (five HR9.out _ _ _ _ _) Tryz.underlying59 rfl (by kernel_rfl) rfl ⟨?_, five_only HS.out (.inl (by omega)) _ _ _ _ _, ?_⟩
    · simp only [takeVal, HP.out]; rfl
    · rw [st_none HP.out]
      exact HM2.out.far (five_only (Only.refl (· = w.heap.size + 1) w2) (.inr rfl) _ _ _ _ _) (fun j hj h => by have := HA.out j hj; omega)
  · have HP := Lib.hid hp
    have ht := hasP_there hp
    have hok0 : doOk xs 4 (pc n i) = true := by simp [doOk, isKind, ht]
    have hv : doVal xs 4 (pc n i) 0 0 = .agg #[.int .i64 4, .int .i64 (pc n i), .int .u32 0, .int .u32 0, .int .u32 (wordAt xs (pc n i))] := by simp [doVal, hok0, accOf]
    have hst : doNew xs 4 (pc n i) 0 0 = st xs (pc n i) 0 := by rw [doNew_st xs 4 _ 0 0 rfl]; rfl
    have HT := Lib.hid ht
    have HK := Lib.hid hok0
    have HV := Lib.hid hv
    have HST := Lib.hid hst
    clear hp ht hok0 hv hst
    go_wp2_with fail
    refine (on_any p A cp xs n i 4 0 0 0 0 _ HM2.out).mono ?_
    rw [HV.out, HK.out, HST.out]
    rintro e w3 ⟨rfl, hO, hM⟩
    have R8 : Row w3 (w.heap.size + 1) 59 #[.int .i64 0, .int .i64 0, .int .u32 0, .int .u32 0, .int .u32 0] := HR9.out.only hO (fun h => by have := HA.out _ (.inr h); omega)
    have c80 : w3.cell? ⟨w.heap.size + 1, 0, none⟩ = some (.int .i64 0) := R8.cell_ (i := 0) rfl
    have c81 : w3.cell? ⟨w.heap.size + 1, 1, none⟩ = some (.int .i64 0) := R8.cell_ (i := 1) rfl
    have c82 : w3.cell? ⟨w.heap.size + 1, 2, none⟩ = some (.int .u32 0) := R8.cell_ (i := 2) rfl
    have c83 : w3.cell? ⟨w.heap.size + 1, 3, none⟩ = some (.int .u32 0) := R8.cell_ (i := 3) rfl
    have c84 : w3.cell? ⟨w.heap.size + 1, 4, none⟩ = some (.int .u32 0) := R8.cell_ (i := 4) rfl
    have f80 : w3.frozen? ⟨w.heap.size + 1, 0, none⟩ = false := R8.frozen 0
    have f81 : w3.frozen? ⟨w.heap.size + 1, 1, none⟩ = false := R8.frozen 1
    have f82 : w3.frozen? ⟨w.heap.size + 1, 2, none⟩ = false := R8.frozen 2
    have f83 : w3.frozen? ⟨w.heap.size + 1, 3, none⟩ = false := R8.frozen 3
    have f84 : w3.frozen? ⟨w.heap.size + 1, 4, none⟩ = false := R8.frozen 4
    have HR3 := Lib.hid R8
    have HS3 := Lib.hid (HS.out.trans hO)
    have HM3 := Lib.hid hM
    clear hO R8 hM
    generalize hw : wordAt xs (pc n i) = v at *
    have HW := Lib.hid hw
    clear hw
    go_wp2
    refine post_row_tmp (P := Tryz.prog) Tryz.results142 (t := 59) (g := w.heap.size + 1) (cs := #[.int .i64 4, .int .i64 (pc n i), .int .u32 0, .int .u32 0, .int .u32 v]) rfl (five HR3.out _ _ _ _ _) Tryz.underlying59 rfl (by kernel_rfl) rfl ⟨?_, five_only HS3.out (.inl (by omega)) _ _ _ _ _, ?_⟩
    · simp only [takeVal, HP.out, HW.out]; rfl
    · exact HM3.out.far (five_only (Only.refl (· = w.heap.size + 1) w3) (.inr rfl) _ _ _ _ _) (fun j hj h => by have := HA.out j hj; omega)
end Go.Proofs.YtocdbeonogfopaaGreat
