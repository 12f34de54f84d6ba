/- ParkNone: the walk. -/
import Derived.Test.YtcdndaobdhbplaaParkAw
set_option linter.unusedVariables false
set_option linter.unusedSimpArgs false
namespace Go.Proofs.Ytcdndaobdhbplaa
open Go.RowKit

/-- Nothing is done where there is no such cell. -/
theorem none_there {xs : List Int} (hx : xs.length ≤ 8) (n i : Int) : there xs (pc n i) = false := by
  unfold pc cellI there
  split
  · rename_i h
    rw [decide_eq_false_iff_not]
    omega
  · rw [decide_eq_false_iff_not]
    omega
theorem none_has {xs : List Int} (hx : xs.length ≤ 8) (n i : Int) : hasP xs n i = false := by
  unfold hasP wordAt
  rw [none_there hx]
  rfl
theorem none_give {xs : List Int} (hx : xs.length ≤ 8) (n i : Int) : doVal xs 2 (pc n i) 1 0 = .agg #[.int .i64 0, .int .i64 0, .int .u32 0, .int .u32 0, .int .u32 0] := by
  simp [doVal, doOk, none_there hx, accOf]
theorem none_st {xs : List Int} (hx : xs.length ≤ 8) (n i u : Int) : st xs (pc n i) u = xs := by
  simp [st, none_there hx]
theorem none_take {xs : List Int} (hx : xs.length ≤ 8) (n i : Int) : takeVal xs n i = .agg #[.int .i64 0, .int .i64 0, .int .u32 0, .int .u32 0, .int .u32 0] := by
  simp [takeVal, none_has hx, accOf]

/-- Of a memory of eight cells, and of none. -/
theorem give_none (p A : Option Addr) (cp : Nat) (xs : List Int) (n i : Int) (w : World) (h : Memo w p A cp xs) (hx : xs.length ≤ 8) :
    Calls Try.prog 9 #[.pointer p, .agg #[.int .i64 n], .int .i64 i] w fun e w' =>
      e = .returned (.tuple #[.agg #[.int .i64 0, .int .i64 0, .int .u32 0, .int .u32 0, .int .u32 0], .bool false]) ∧ Only (At A) w w' ∧ Memo w' p A cp xs := by
  have q := give_any p A cp xs n i w h
  rwa [none_give hx, none_there hx, none_st hx] at q
theorem take_none (p A : Option Addr) (cp : Nat) (xs : List Int) (n i : Int) (w : World) (h : Memo w p A cp xs) (hx : xs.length ≤ 8) :
    Calls Try.prog 11 #[.pointer p, .agg #[.int .i64 n], .int .i64 i] w fun e w' =>
      e = .returned (.tuple #[.agg #[.int .i64 0, .int .i64 0, .int .u32 0, .int .u32 0, .int .u32 0], .bool false]) ∧ Only (At A) w w' ∧ Memo w' p A cp xs := by
  have q := take_any p A cp xs n i w h
  rwa [none_take hx, none_has hx, none_st hx] at q
theorem has_none (p A : Option Addr) (cp : Nat) (xs : List Int) (n i : Int) (w : World) (h : Memo w p A cp xs) (hx : xs.length ≤ 8) :
    Calls Try.prog 13 #[.pointer p, .agg #[.int .i64 n], .int .i64 i] w fun e w' =>
      e = .returned (.bool false) ∧ Only (At A) w w' ∧ Memo w' p A cp xs := by
  have q := has_any p A cp xs n i w h
  rwa [none_has hx] at q
theorem memo_nil (w : World) : Memo w none none 0 [] := .inl ⟨rfl, rfl, rfl⟩
theorem At_none {S : Nat → Prop} {w w' : World} (h : Only (At none) w w') : Only S w w' := h.mono (fun _ _ ⟨_, h, _⟩ => by cases h)

set_option maxRecDepth 100000 in
set_option maxHeartbeats 1600000 in
theorem walk_parkNone (a0 a1 : Int) (w : World) (w0 : (Lit.int .i64 a0).wf = true) (w1 : (Lit.int .i64 a1).wf = true) :
    Calls Try.prog 5 #[.int .i64 a0, .int .i64 a1] w fun e w' => e = .returned (.bool true) ∧ Below w.heap.size w w' := by
  clear w0 w1
  go_enter Try.func5, Try.ntmps5
  go_wp2_with fail
  have R0 : Row (w.alloc (Obj.cells #[Value.int IntKind.i64 a0] 30)) w.heap.size 30 #[.int .i64 a0] := Row.new _ _ _
  have O0 : Only Nil w (w.alloc (Obj.cells #[Value.int IntKind.i64 a0] 30)) := (Only.refl Nil w).alloc _
  refine (give_none none none 0 [] a0 a1 _ (memo_nil _) (by decide)).mono ?_
  rintro e w1 ⟨rfl, hO, hM⟩
  have HR1 := Lib.hid (R0.only (At_none (S := Nil) hO) id)
  have HO1 := Lib.hid (O0.trans (At_none hO))
  have c1 : w1.cell? ⟨w.heap.size, 0, none⟩ = some (.int .i64 a0) := HR1.out.cell_ (i := 0) rfl
  have l1 := HR1.out.lt
  clear R0 O0 hO hM
  go_wp2_with fail
  refine (take_none none none 0 [] a0 a1 _ (memo_nil _) (by decide)).mono ?_
  rintro e w2 ⟨rfl, hO, hM⟩
  have R1 : Row (w1.alloc (Obj.cells #[Value.int IntKind.i64 0, Value.int IntKind.i64 0, Value.int IntKind.u32 0, Value.int IntKind.u32 0, Value.int IntKind.u32 0] 36)) w1.heap.size 36 #[.int .i64 0, .int .i64 0, .int .u32 0, .int .u32 0, .int .u32 0] := Row.new _ _ _
  have HA1 := Lib.hid (R1.only (At_none (S := Nil) hO) id)
  have HR2 := Lib.hid ((HR1.out.alloc _).only (At_none (S := Nil) hO) id)
  have HO2 := Lib.hid ((HO1.out.alloc _).trans (At_none hO))
  clear R1 hO hM c1 l1
  go_wp2_with fail
  refine (new_ok 8 _ (by decide)).mono ?_
  intro e w3 hF
  obtain ⟨b, A', c', rfl, hb, hA, hM, hO⟩ := hF
  have HM3 : Hid (Memo w3 (some ⟨b, 0, none⟩) A' c' (List.replicate 8 0)) := Lib.hid (Memo.of hM)
  have HR3 := Lib.hid ((HR2.out.alloc _).only hO id)
  have HA3 := Lib.hid ((HA1.out.alloc _).only hO id)
  have R2 : Row (w2.alloc (Obj.cells #[Value.int IntKind.i64 0, Value.int IntKind.i64 0, Value.int IntKind.u32 0, Value.int IntKind.u32 0, Value.int IntKind.u32 0] 36)) w2.heap.size 36 #[.int .i64 0, .int .i64 0, .int .u32 0, .int .u32 0, .int .u32 0] := Row.new _ _ _
  have HB3 := Lib.hid (R2.only hO id)
  have HO3 := Lib.hid ((HO2.out.alloc _).trans hO)
  have hl : ∀ j, At A' j → w2.heap.size < j := fun j hj => by have := hA j hj; simp at this; omega
  have HL := Lib.hid hl
  have hw1 : w1.heap.size < w2.heap.size := by have := HA1.out.lt; omega
  have hw0 : w.heap.size < w2.heap.size := by have := HR2.out.lt; omega
  have c1 : w3.cell? ⟨w.heap.size, 0, none⟩ = some (.int .i64 a0) := HR3.out.cell_ (i := 0) rfl
  have l1 := HR3.out.lt
  clear hM hO hA hb hl R2
  go_wp2_with fail
  refine (give_none (some ⟨b, 0, none⟩) A' c' (List.replicate 8 0) a0 a1 _ HM3.out (by decide)).mono ?_
  rintro e w4 ⟨rfl, hO, hM⟩
  have HM4 := Lib.hid hM
  have HR4 := Lib.hid (HR3.out.only hO (fun h => by have := HL.out _ h; omega))
  have HA4 := Lib.hid (HA3.out.only hO (fun h => by have := HL.out _ h; omega))
  have HB4 := Lib.hid (HB3.out.only hO (fun h => by have := HL.out _ h; omega))
  have HO4 := Lib.hid (HO3.out.step hO (fun j hj h => by have := HL.out _ h; omega))
  clear hM hO c1 l1
  have c1 : w4.cell? ⟨w.heap.size, 0, none⟩ = some (.int .i64 a0) := HR4.out.cell_ (i := 0) rfl
  have l1 := HR4.out.lt
  have l2 := HA4.out.lt
  have l3 := HB4.out.lt
  have ca0 : w4.cell? ⟨w1.heap.size, 0, none⟩ = some (.int .i64 0) := HA4.out.cell_ (i := 0) rfl
  have ca1 : w4.cell? ⟨w1.heap.size, 1, none⟩ = some (.int .i64 0) := HA4.out.cell_ (i := 1) rfl
  have ca2 : w4.cell? ⟨w1.heap.size, 2, none⟩ = some (.int .u32 0) := HA4.out.cell_ (i := 2) rfl
  have ca3 : w4.cell? ⟨w1.heap.size, 3, none⟩ = some (.int .u32 0) := HA4.out.cell_ (i := 3) rfl
  have ca4 : w4.cell? ⟨w1.heap.size, 4, none⟩ = some (.int .u32 0) := HA4.out.cell_ (i := 4) rfl
  have cb0 : w4.cell? ⟨w2.heap.size, 0, none⟩ = some (.int .i64 0) := HB4.out.cell_ (i := 0) rfl
  have cb1 : w4.cell? ⟨w2.heap.size, 1, none⟩ = some (.int .i64 0) := HB4.out.cell_ (i := 1) rfl
  have cb2 : w4.cell? ⟨w2.heap.size, 2, none⟩ = some (.int .u32 0) := HB4.out.cell_ (i := 2) rfl
  have cb3 : w4.cell? ⟨w2.heap.size, 3, none⟩ = some (.int .u32 0) := HB4.out.cell_ (i := 3) rfl
  have cb4 : w4.cell? ⟨w2.heap.size, 4, none⟩ = some (.int .u32 0) := HB4.out.cell_ (i := 4) rfl
  go_wp2_with fail
  refine (has_none none none 0 [] a0 a1 _ (memo_nil _) (by decide)).mono ?_
  rintro e w5 ⟨rfl, hO, hM⟩
  have HO5 := Lib.hid (((Only.refl Nil w4).alloc _).trans (At_none (S := Nil) hO))
  have HR5 := Lib.hid (HR4.out.only HO5.out id)
  clear hM hO c1 l1 l2 l3 ca0 ca1 ca2 ca3 ca4 cb0 cb1 cb2 cb3 cb4
  have c1 : w5.cell? ⟨w.heap.size, 0, none⟩ = some (.int .i64 a0) := HR5.out.cell_ (i := 0) rfl
  go_wp2_with fail
  refine (has_none (some ⟨b, 0, none⟩) A' c' (List.replicate 8 0) a0 a1 _ (HM4.out.keep HO5.out) (by decide)).mono ?_
  rintro e w6 ⟨rfl, hO, hM⟩
  have HO6 := Lib.hid ((HO4.out.trans HO5.out).step hO (fun j hj h => by have := HL.out _ h; omega))
  clear hM hO c1
  go_wp2_with fail
  refine (awake_any _).mono ?_
  rintro e w7 ⟨rfl, hO⟩
  have HO7 := Lib.hid (HO6.out.trans hO)
  clear hO
  go_wp2
  go_ret
  exact ⟨rfl, HO7.out.below (Nat.le_refl _) (fun _ _ h => h)⟩
end Go.Proofs.Ytcdndaobdhbplaa
