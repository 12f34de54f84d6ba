/- wait.look. -/
import Derived.Test.YtmhbidokpboomaaHolds
import Derived.Test.YtmhbidokpboomaaWaitM
import Derived.Test.YtmhbidokpboomaaTake
set_option linter.unusedVariables false
set_option linter.unusedSimpArgs false
namespace Go.Proofs.Ytmhbidokpboomaa
open Go.RowKit

theorem look_any (p A : Option Addr) (cp : Nat) (xs : List Int) (c : Int) (fv : Value) (q : Int → Bool) (w : World) (h : Memo w p A cp xs) (hf : Holds fv q) (hx : Words xs) :
    Calls Try.prog 27 #[.pointer p, .int .i64 c, fv] w fun e w' =>
      e = .returned (.tuple #[doVal xs 1 c 0 0, .bool (q (wordAt xs c))]) ∧ Only (At A) w w' ∧ Memo w' p A cp xs := by
  have hb := word_wf hx c
  have HB := Lib.hid hb
  have hst : doNew xs 1 c 0 0 = xs := doNew_load xs _ _ _
  have HH := Lib.hid h
  have HF := Lib.hid hf
  have ha : ∀ j, At p j ∨ At A j → j < w.heap.size := HH.out.lt
  have HA := Lib.hid ha
  clear h ha hf hb hx
  go_enter Try.func27, Try.ntmps27
  go_wp2_with fail
  have e0 := (Only.refl Nil w).alloc (Obj.cells #[Value.int IntKind.i64 0, Value.int IntKind.i64 0, Value.int IntKind.u32 0, Value.int IntKind.u32 0, Value.int IntKind.u32 0] 39)
  refine (do_memo p A cp xs 1 c 0 0 0 _ (HH.out.keep e0)).mono ?_
  obtain ⟨k', c', x', y', hv⟩ := doVal_form xs 1 c 0 0
  rw [oldAt xs 1 c rfl] at hv
  rw [hv, hst]
  rintro e w2 ⟨rfl, hO, hM⟩
  have hS : Only (At A) w w2 := (e0.mono (fun _ _ h => h.elim)).trans hO
  have R8 : Row w2 w.heap.size 39 #[.int .i64 0, .int .i64 0, .int .u32 0, .int .u32 0, .int .u32 0] := (Row.new w _ _).only hO (fun h => by have := HA.out _ (.inr h); omega)
  have HR := Lib.hid (R8.alloc (Obj.cells #[Value.int IntKind.i64 k', Value.int IntKind.i64 c', Value.int IntKind.u32 x', Value.int IntKind.u32 y', Value.int IntKind.u32 (wordAt xs c)] 39))
  have HN := Lib.hid (Row.new w2 39 #[Value.int IntKind.i64 k', Value.int IntKind.i64 c', Value.int IntKind.u32 x', Value.int IntKind.u32 y', Value.int IntKind.u32 (wordAt xs c)])
  have HS := Lib.hid (hS.alloc (Obj.cells #[Value.int IntKind.i64 k', Value.int IntKind.i64 c', Value.int IntKind.u32 x', Value.int IntKind.u32 y', Value.int IntKind.u32 (wordAt xs c)] 39))
  have HM := Lib.hid (hM.keep ((Only.refl Nil w2).alloc (Obj.cells #[Value.int IntKind.i64 k', Value.int IntKind.i64 c', Value.int IntKind.u32 x', Value.int IntKind.u32 y', Value.int IntKind.u32 (wordAt xs c)] 39)))
  have HZ := Lib.hid R8.lt
  clear hO R8 hS hM e0 hst
  have HV := Lib.hid hv
  clear hv
  go_wp2_with fail
  generalize w2.alloc (.cells #[.int .i64 k', .int .i64 c', .int .u32 x', .int .u32 y', .int .u32 (wordAt xs c)] 39) = w3 at *
  generalize hg : w2.heap.size = g at *
  have HG := Lib.hid hg
  clear hg
  generalize hwd : wordAt xs c = v at *
  have HWD := Lib.hid hwd
  clear hwd
  have c0 : w3.cell? ⟨g, 0, none⟩ = some (.int .i64 k') := HN.out.cell_ (i := 0) rfl
  have c1 : w3.cell? ⟨g, 1, none⟩ = some (.int .i64 c') := HN.out.cell_ (i := 1) rfl
  have c2 : w3.cell? ⟨g, 2, none⟩ = some (.int .u32 x') := HN.out.cell_ (i := 2) rfl
  have c3 : w3.cell? ⟨g, 3, none⟩ = some (.int .u32 y') := HN.out.cell_ (i := 3) rfl
  have c4 : w3.cell? ⟨g, 4, none⟩ = some (.int .u32 v) := HN.out.cell_ (i := 4) rfl
  have hgg : ¬ g = w.heap.size := by have := HZ.out; omega
  have HGG := Lib.hid hgg
  clear hgg
  refine wp_region_held_drew (S := fun w' => w'.cell? ⟨g, 0, none⟩ = some (.int .i64 k') ∧ w'.cell? ⟨g, 1, none⟩ = some (.int .i64 c') ∧ w'.cell? ⟨g, 2, none⟩ = some (.int .u32 x') ∧ w'.cell? ⟨g, 3, none⟩ = some (.int .u32 y') ∧ w'.cell? ⟨g, 4, none⟩ = some (.int .u32 v)) (by kernel_rfl) ⟨c0, c1, c2, c3, c4⟩ (fun hHeld => ?_)
  refine take_0 (.agg #[.int .i64 k', .int .i64 c', .int .u32 x', .int .u32 y', .int .u32 v]) (by kernel_rfl) (by kernel_rfl) (by kernel_rfl) (fun _ _ _ h => h) (by rfl) (fun w hSw => ?_) (by assumption) ?_
  · (try dsimp only at hSw)
    go_split_ands
    go_simp
  (try simp only [Act.put, List.setIfInBounds_toArray, List.set_cons_zero, List.set_cons_succ])
  refine take_1 (fv) (by kernel_rfl) (by kernel_rfl) (by kernel_rfl) (fun _ _ _ h => h) (by rfl) (fun w hSw => ?_) (by assumption) ?_
  · (try dsimp only at hSw)
    go_split_ands
    go_simp
  (try simp only [Act.put, List.setIfInBounds_toArray, List.set_cons_zero, List.set_cons_succ])
  refine take_2 (.pointer (some ⟨g, 4, none⟩)) (by kernel_rfl) (by kernel_rfl) (by kernel_rfl) (fun _ _ _ h => h) (by rfl) (fun w hSw => ?_) (by assumption) ?_
  · (try dsimp only at hSw)
    go_split_ands
    go_simp
  (try simp only [Act.put, List.setIfInBounds_toArray, List.set_cons_zero, List.set_cons_succ])
  refine take_3 (.int .u32 v) (by kernel_rfl) (by kernel_rfl) (by kernel_rfl) (fun _ _ _ h => h) (by rfl) (fun w hSw => ?_) (by assumption) ?_
  · (try dsimp only at hSw)
    go_split_ands
    go_simp
  (try simp only [Act.put, List.setIfInBounds_toArray, List.set_cons_zero, List.set_cons_succ])
  refine call_4 (by kernel_rfl) (by rfl) (fun K hK => ?_)
  go_simp
  refine (HF.out v _ HB.out.1 HB.out.2).mono ?_
  rintro e w4 ⟨rfl, hO⟩
  have hO4 : Only Nil w3 w4 := (Only.refl Nil w3).drew.trans hO
  have HN4 := Lib.hid (HN.out.only hO4 id)
  have HR4 := Lib.hid (HR.out.only hO4 id)
  have HO4 := Lib.hid hO4
  refine hK.out _ _ ⟨HN4.out.cell_ (i := 0) rfl, HN4.out.cell_ (i := 1) rfl, HN4.out.cell_ (i := 2) rfl, HN4.out.cell_ (i := 3) rfl, HN4.out.cell_ (i := 4) rfl⟩ (fun hHeld2 => ?_)
  clear hK K hHeld hO hO4 c0 c1 c2 c3 c4
  (try simp only [Act.put, List.setIfInBounds_toArray, List.set_cons_zero, List.set_cons_succ])
  have d0 : w4.cell? ⟨w.heap.size, 0, none⟩ = some (.int .i64 0) := HR4.out.cell_ (i := 0) rfl
  have d1 : w4.cell? ⟨w.heap.size, 1, none⟩ = some (.int .i64 0) := HR4.out.cell_ (i := 1) rfl
  have d2 : w4.cell? ⟨w.heap.size, 2, none⟩ = some (.int .u32 0) := HR4.out.cell_ (i := 2) rfl
  have d3 : w4.cell? ⟨w.heap.size, 3, none⟩ = some (.int .u32 0) := HR4.out.cell_ (i := 3) rfl
  have d4 : w4.cell? ⟨w.heap.size, 4, none⟩ = some (.int .u32 0) := HR4.out.cell_ (i := 4) rfl
  have f0 : w4.frozen? ⟨w.heap.size, 0, none⟩ = false := HR4.out.frozen 0
  have f1 : w4.frozen? ⟨w.heap.size, 1, none⟩ = false := HR4.out.frozen 1
  have f2 : w4.frozen? ⟨w.heap.size, 2, none⟩ = false := HR4.out.frozen 2
  have f3 : w4.frozen? ⟨w.heap.size, 3, none⟩ = false := HR4.out.frozen 3
  have f4 : w4.frozen? ⟨w.heap.size, 4, none⟩ = false := HR4.out.frozen 4
  refine call_5 (by kernel_rfl) (by rfl) (fun K hK => ?_)
  go_simp
  have HN5 := Lib.hid (HN4.out.only (five_only (Only.refl (· = w.heap.size) w4) (.inr rfl) (.int .i64 k') (.int .i64 c') (.int .u32 x') (.int .u32 y') (.int .u32 v)) HGG.out)
  refine hK.out _ _ ⟨HN5.out.cell_ (i := 0) rfl, HN5.out.cell_ (i := 1) rfl, HN5.out.cell_ (i := 2) rfl, HN5.out.cell_ (i := 3) rfl, HN5.out.cell_ (i := 4) rfl⟩ (fun hHeld3 => ?_)
  clear hK K hHeld2 d0 d1 d2 d3 d4 f0 f1 f2 f3 f4
  (try simp only [Act.put, List.setIfInBounds_toArray, List.set_cons_zero, List.set_cons_succ])
  refine take_6 (.bool (q v)) (by kernel_rfl) (by kernel_rfl) (by kernel_rfl) (fun _ _ _ h => h) (by rfl) (fun w hSw => ?_) (by assumption) ?_
  · (try dsimp only at hSw)
    go_split_ands
    go_simp
  (try simp only [Act.put, List.setIfInBounds_toArray, List.set_cons_zero, List.set_cons_succ])
  refine wpAnyH_done (by kernel_rfl) ?_ _
  go_wp2
  refine post_row_tmp (P := Try.prog) Try.results27 (t := 39) (g := w.heap.size) (cs := #[.int .i64 k', .int .i64 c', .int .u32 x', .int .u32 y', .int .u32 v]) rfl (five HR4.out _ _ _ _ _) Try.underlying39 rfl (by kernel_rfl) rfl ⟨?_, five_only (HS.out.trans (HO4.out.mono (fun _ _ h => h.elim))) (.inl (Nat.le_refl _)) _ _ _ _ _, ?_⟩
  · rw [HV.out, HWD.out]; rfl
  · exact (HM.out.keep HO4.out).far (five_only (Only.refl (· = w.heap.size) w4) (.inr rfl) _ _ _ _ _) (fun j hj h => by have := HA.out j hj; omega)
end Go.Proofs.Ytmhbidokpboomaa
