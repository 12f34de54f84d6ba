/- NoteRight, RcTake, RcCheck. -/
import Derived.RegionTactic
import Derived.BigRegion
import Derived.Deep.Cut
import Derived.Test.YtigdbokfapedcaaGreatB17
import Derived.Test.YtigdbokfapedcaaGreatB6
import Derived.Test.YtigdbokfapedcaaGreatB16
import Derived.Test.YtigdbokfapedcaaGreatB3
/- Whether a note is right: note.Right. (Written by gen/NoteRight.py.) -/
namespace Go.Proofs.YtigdbokfapedcaaGreat
open Go.RowKit
set_option linter.unusedVariables false
set_option linter.unusedSimpArgs false

set_option maxRecDepth 100000 in
set_option maxHeartbeats 2000000 in
theorem right_n0 (t q o a : Int) (w : World) (h0 : decide (0 ≤ t) = false) : Calls Tryz.prog 39 #[.agg #[.int .i64 t, .int .i64 q, .int .i64 o, .int .i64 a]] w fun e w' => e = .returned (.bool false) ∧ Only Nil w w' := by
  have HR := Lib.hid (Row.new w 59 #[.int .i64 t, .int .i64 q, .int .i64 o, .int .i64 a])
  have HO := Lib.hid ((Only.refl Nil w).alloc (.cells #[.int .i64 t, .int .i64 q, .int .i64 o, .int .i64 a] 59))
  go_enter Tryz.func39, Tryz.ntmps39
  go_wp2_with fail
  generalize w.alloc (.cells #[.int .i64 t, .int .i64 q, .int .i64 o, .int .i64 a] 59) = w0 at *
  generalize w.heap.size = g at *
  have c0 : w0.cell? ⟨g, 0, none⟩ = some (.int .i64 t) := HR.out.cell_ (i := 0) rfl
  have c1 : w0.cell? ⟨g, 1, none⟩ = some (.int .i64 q) := HR.out.cell_ (i := 1) rfl
  have c2 : w0.cell? ⟨g, 2, none⟩ = some (.int .i64 o) := HR.out.cell_ (i := 2) rfl
  have c3 : w0.cell? ⟨g, 3, none⟩ = some (.int .i64 a) := HR.out.cell_ (i := 3) rfl
  refine wp_region_held_drew (S := fun w' => w'.cell? ⟨g, 0, none⟩ = some (.int .i64 t) ∧ w'.cell? ⟨g, 1, none⟩ = some (.int .i64 q) ∧ w'.cell? ⟨g, 2, none⟩ = some (.int .i64 o) ∧ w'.cell? ⟨g, 3, none⟩ = some (.int .i64 a) ∧ Only Nil w0 w') (by kernel_rfl) ⟨c0, c1, c2, c3, (Only.refl _ _).drew⟩ (fun hHeld => ?_)
  have HW0 := Lib.hid (show Only Nil w0 w0.drew from (Only.refl _ _).drew)
  refine zk 0 rfl (hw := by kernel_rfl) ?_
  try simp only [Act.put, k1, k2, k3]
  refine zk 1 rfl (hw := by kernel_rfl) ?_
  try simp only [Act.put, k1, k2, k3]
  refine zk 2 rfl (hw := by kernel_rfl) ?_
  try simp only [Act.put, k1, k2, k3]
  refine zk 3 rfl (hw := by kernel_rfl) ?_
  try simp only [Act.put, k1, k2, k3]
  refine mps 4 rfl (hw := by kernel_rfl) ?_
  try simp only [Act.put, k1, k2, k3]
  refine mps 5 rfl (hw := by kernel_rfl) ?_
  try simp only [Act.put, k1, k2, k3]
  refine mps 6 rfl (hw := by kernel_rfl) ?_
  try simp only [Act.put, k1, k2, k3]
  refine zk 7 rfl (hw := by kernel_rfl) ?_
  try simp only [Act.put, k1, k2, k3]
  refine zk 8 rfl (hw := by kernel_rfl) ?_
  try simp only [Act.put, k1, k2, k3]
  refine mps 9 rfl (hw := by kernel_rfl) ?_
  try simp only [Act.put, k1, k2, k3]
  refine mps 10 rfl (hw := by kernel_rfl) ?_
  try simp only [Act.put, k1, k2, k3]
  refine mps 11 rfl (hw := by kernel_rfl) ?_
  try simp only [Act.put, k1, k2, k3]
  refine mps 12 rfl (hw := by kernel_rfl) ?_
  try simp only [Act.put, k1, k2, k3]
  refine zk 13 rfl (hw := by kernel_rfl) ?_
  try simp only [Act.put, k1, k2, k3]
  refine zk 14 rfl (hw := by kernel_rfl) ?_
  try simp only [Act.put, k1, k2, k3]
  refine mps 15 rfl (hw := by kernel_rfl) ?_
  try simp only [Act.put, k1, k2, k3]
  refine mps 16 rfl (hw := by kernel_rfl) ?_
  try simp only [Act.put, k1, k2, k3]
  refine mps 17 rfl (hw := by kernel_rfl) ?_
  try simp only [Act.put, k1, k2, k3]
  refine mps 18 rfl (hw := by kernel_rfl) ?_
  try simp only [Act.put, k1, k2, k3]
  refine mps 19 rfl (hw := by kernel_rfl) ?_
  try simp only [Act.put, k1, k2, k3]
  refine mps 20 rfl (hw := by kernel_rfl) ?_
  try simp only [Act.put, k1, k2, k3]
  refine zk 21 rfl (hw := by kernel_rfl) ?_
  try simp only [Act.put, k1, k2, k3]
  refine zk 22 rfl (hw := by kernel_rfl) ?_
  try simp only [Act.put, k1, k2, k3]
  refine mps 23 rfl (hw := by kernel_rfl) ?_
  try simp only [Act.put, k1, k2, k3]
  refine mps 24 rfl (hw := by kernel_rfl) ?_
  try simp only [Act.put, k1, k2, k3]
  refine mps 25 rfl (hw := by kernel_rfl) ?_
  try simp only [Act.put, k1, k2, k3]
  refine mps 26 rfl (hw := by kernel_rfl) ?_
  try simp only [Act.put, k1, k2, k3]
  refine mps 27 rfl (hw := by kernel_rfl) ?_
  try simp only [Act.put, k1, k2, k3]
  refine mps 28 rfl (hw := by kernel_rfl) ?_
  try simp only [Act.put, k1, k2, k3]
  refine zk 29 rfl (hw := by kernel_rfl) ?_
  try simp only [Act.put, k1, k2, k3]
  refine zk 30 rfl (hw := by kernel_rfl) ?_
  try simp only [Act.put, k1, k2, k3]
  refine wpAnyH_done (by kernel_rfl) ?_ _
  go_wp2
  go_ret
  exact ⟨rfl, HO.out.trans HW0.out⟩
set_option maxRecDepth 100000 in
set_option maxHeartbeats 2000000 in
theorem right_n1 (t q o a : Int) (w : World) (h0 : decide (0 ≤ t) = true) (h1 : decide (t < 64) = false) : Calls Tryz.prog 39 #[.agg #[.int .i64 t, .int .i64 q, .int .i64 o, .int .i64 a]] w fun e w' => e = .returned (.bool false) ∧ Only Nil w w' := by
  have HR := Lib.hid (Row.new w 59 #[.int .i64 t, .int .i64 q, .int .i64 o, .int .i64 a])
  have HO := Lib.hid ((Only.refl Nil w).alloc (.cells #[.int .i64 t, .int .i64 q, .int .i64 o, .int .i64 a] 59))
  go_enter Tryz.func39, Tryz.ntmps39
  go_wp2_with fail
  generalize w.alloc (.cells #[.int .i64 t, .int .i64 q, .int .i64 o, .int .i64 a] 59) = w0 at *
  generalize w.heap.size = g at *
  have c0 : w0.cell? ⟨g, 0, none⟩ = some (.int .i64 t) := HR.out.cell_ (i := 0) rfl
  have c1 : w0.cell? ⟨g, 1, none⟩ = some (.int .i64 q) := HR.out.cell_ (i := 1) rfl
  have c2 : w0.cell? ⟨g, 2, none⟩ = some (.int .i64 o) := HR.out.cell_ (i := 2) rfl
  have c3 : w0.cell? ⟨g, 3, none⟩ = some (.int .i64 a) := HR.out.cell_ (i := 3) rfl
  refine wp_region_held_drew (S := fun w' => w'.cell? ⟨g, 0, none⟩ = some (.int .i64 t) ∧ w'.cell? ⟨g, 1, none⟩ = some (.int .i64 q) ∧ w'.cell? ⟨g, 2, none⟩ = some (.int .i64 o) ∧ w'.cell? ⟨g, 3, none⟩ = some (.int .i64 a) ∧ Only Nil w0 w') (by kernel_rfl) ⟨c0, c1, c2, c3, (Only.refl _ _).drew⟩ (fun hHeld => ?_)
  have HW0 := Lib.hid (show Only Nil w0 w0.drew from (Only.refl _ _).drew)
  refine zk 0 rfl (hw := by kernel_rfl) ?_
  try simp only [Act.put, k1, k2, k3]
  refine zk 1 rfl (hw := by kernel_rfl) ?_
  try simp only [Act.put, k1, k2, k3]
  refine zk 2 rfl (hw := by kernel_rfl) ?_
  try simp only [Act.put, k1, k2, k3]
  refine zk 3 rfl (hw := by kernel_rfl) ?_
  try simp only [Act.put, k1, k2, k3]
  refine zk 4 rfl (hw := by kernel_rfl) ?_
  try simp only [Act.put, k1, k2, k3]
  refine zk 5 rfl (hw := by kernel_rfl) ?_
  try simp only [Act.put, k1, k2, k3]
  refine zk 6 rfl (hw := by kernel_rfl) ?_
  try simp only [Act.put, k1, k2, k3]
  refine zk 7 rfl (hw := by kernel_rfl) ?_
  try simp only [Act.put, k1, k2, k3]
  refine zk 8 rfl (hw := by kernel_rfl) ?_
  try simp only [Act.put, k1, k2, k3]
  refine mps 9 rfl (hw := by kernel_rfl) ?_
  try simp only [Act.put, k1, k2, k3]
  refine mps 10 rfl (hw := by kernel_rfl) ?_
  try simp only [Act.put, k1, k2, k3]
  refine mps 11 rfl (hw := by kernel_rfl) ?_
  try simp only [Act.put, k1, k2, k3]
  refine mps 12 rfl (hw := by kernel_rfl) ?_
  try simp only [Act.put, k1, k2, k3]
  refine zk 13 rfl (hw := by kernel_rfl) ?_
  try simp only [Act.put, k1, k2, k3]
  refine zk 14 rfl (hw := by kernel_rfl) ?_
  try simp only [Act.put, k1, k2, k3]
  refine mps 15 rfl (hw := by kernel_rfl) ?_
  try simp only [Act.put, k1, k2, k3]
  refine mps 16 rfl (hw := by kernel_rfl) ?_
  try simp only [Act.put, k1, k2, k3]
  refine mps 17 rfl (hw := by kernel_rfl) ?_
  try simp only [Act.put, k1, k2, k3]
  refine mps 18 rfl (hw := by kernel_rfl) ?_
  try simp only [Act.put, k1, k2, k3]
  refine mps 19 rfl (hw := by kernel_rfl) ?_
  try simp only [Act.put, k1, k2, k3]
  refine mps 20 rfl (hw := by kernel_rfl) ?_
  try simp only [Act.put, k1, k2, k3]
  refine zk 21 rfl (hw := by kernel_rfl) ?_
  try simp only [Act.put, k1, k2, k3]
  refine zk 22 rfl (hw := by kernel_rfl) ?_
  try simp only [Act.put, k1, k2, k3]
  refine mps 23 rfl (hw := by kernel_rfl) ?_
  try simp only [Act.put, k1, k2, k3]
  refine mps 24 rfl (hw := by kernel_rfl) ?_
  try simp only [Act.put, k1, k2, k3]
  refine mps 25 rfl (hw := by kernel_rfl) ?_
  try simp only [Act.put, k1, k2, k3]
  refine mps 26 rfl (hw := by kernel_rfl) ?_
  try simp only [Act.put, k1, k2, k3]
  refine mps 27 rfl (hw := by kernel_rfl) ?_
  try simp only [Act.put, k1, k2, k3]
  refine mps 28 rfl (hw := by kernel_rfl) ?_
  try simp only [Act.put, k1, k2, k3]
  refine zk 29 rfl (hw := by kernel_rfl) ?_
  try simp only [Act.put, k1, k2, k3]
  refine zk 30 rfl (hw := by kernel_rfl) ?_
  try simp only [Act.put, k1, k2, k3]
  refine wpAnyH_done (by kernel_rfl) ?_ _
  go_wp2
  go_ret
  exact ⟨rfl, HO.out.trans HW0.out⟩
set_option maxRecDepth 100000 in
set_option maxHeartbeats 2000000 in
theorem right_n2 (t q o a : Int) (w : World) (h0 : decide (0 ≤ t) = true) (h1 : decide (t < 64) = true) (h2 : fitB whWs q = false) : Calls Tryz.prog 39 #[.agg #[.int .i64 t, .int .i64 q, .int .i64 o, .int .i64 a]] w fun e w' => e = .returned (.bool false) ∧ Only Nil w w' := by
  have HR := Lib.hid (Row.new w 59 #[.int .i64 t, .int .i64 q, .int .i64 o, .int .i64 a])
  have HO := Lib.hid ((Only.refl Nil w).alloc (.cells #[.int .i64 t, .int .i64 q, .int .i64 o, .int .i64 a] 59))
  have HF12 := Lib.hid h2
  clear h2
  go_enter Tryz.func39, Tryz.ntmps39
  go_wp2_with fail
  generalize w.alloc (.cells #[.int .i64 t, .int .i64 q, .int .i64 o, .int .i64 a] 59) = w0 at *
  generalize w.heap.size = g at *
  have c0 : w0.cell? ⟨g, 0, none⟩ = some (.int .i64 t) := HR.out.cell_ (i := 0) rfl
  have c1 : w0.cell? ⟨g, 1, none⟩ = some (.int .i64 q) := HR.out.cell_ (i := 1) rfl
  have c2 : w0.cell? ⟨g, 2, none⟩ = some (.int .i64 o) := HR.out.cell_ (i := 2) rfl
  have c3 : w0.cell? ⟨g, 3, none⟩ = some (.int .i64 a) := HR.out.cell_ (i := 3) rfl
  refine wp_region_held_drew (S := fun w' => w'.cell? ⟨g, 0, none⟩ = some (.int .i64 t) ∧ w'.cell? ⟨g, 1, none⟩ = some (.int .i64 q) ∧ w'.cell? ⟨g, 2, none⟩ = some (.int .i64 o) ∧ w'.cell? ⟨g, 3, none⟩ = some (.int .i64 a) ∧ Only Nil w0 w') (by kernel_rfl) ⟨c0, c1, c2, c3, (Only.refl _ _).drew⟩ (fun hHeld => ?_)
  have HW0 := Lib.hid (show Only Nil w0 w0.drew from (Only.refl _ _).drew)
  refine zk 0 rfl (hw := by kernel_rfl) ?_
  try simp only [Act.put, k1, k2, k3]
  refine zk 1 rfl (hw := by kernel_rfl) ?_
  try simp only [Act.put, k1, k2, k3]
  refine zk 2 rfl (hw := by kernel_rfl) ?_
  try simp only [Act.put, k1, k2, k3]
  refine zk 3 rfl (hw := by kernel_rfl) ?_
  try simp only [Act.put, k1, k2, k3]
  refine zk 4 rfl (hw := by kernel_rfl) ?_
  try simp only [Act.put, k1, k2, k3]
  refine zk 5 rfl (hw := by kernel_rfl) ?_
  try simp only [Act.put, k1, k2, k3]
  refine zk 6 rfl (hw := by kernel_rfl) ?_
  try simp only [Act.put, k1, k2, k3]
  refine zk 7 rfl (hw := by kernel_rfl) ?_
  try simp only [Act.put, k1, k2, k3]
  refine zk 8 rfl (hw := by kernel_rfl) ?_
  try simp only [Act.put, k1, k2, k3]
  refine zk 10 rfl (hw := by kernel_rfl) ?_
  try simp only [Act.put, k1, k2, k3]
  refine zk 11 rfl (hw := by kernel_rfl) ?_
  try simp only [Act.put, k1, k2, k3]
  refine mcl 9 rfl (by kernel_rfl) (by rfl) (fun K hK => ?_)
  go_simp
  refine (whatWords_any _).mono ?_
  rintro e w1 ⟨v9, rfl, hs, hO⟩
  have HW1 := Lib.hid (HW0.out.trans hO)
  have HS1 := Lib.hid hs
  refine hK.out _ _ ⟨(HW1.out.cell (World.block_lt_of_cell? _ _ c0) id).trans c0, (HW1.out.cell (World.block_lt_of_cell? _ _ c1) id).trans c1, (HW1.out.cell (World.block_lt_of_cell? _ _ c2) id).trans c2, (HW1.out.cell (World.block_lt_of_cell? _ _ c3) id).trans c3, HW1.out⟩ (fun hHeld => ?_)
  clear hK K hs hO
  refine mcl 12 rfl (by kernel_rfl) (by rfl) (fun K hK => ?_)
  go_simp
  refine (fits_any _ _ _ _ HS1.out).mono ?_
  rintro e w' ⟨rfl, rfl⟩
  rw [HF12.out]
  refine hK.out _ _ ⟨(HW1.out.cell (World.block_lt_of_cell? _ _ c0) id).trans c0, (HW1.out.cell (World.block_lt_of_cell? _ _ c1) id).trans c1, (HW1.out.cell (World.block_lt_of_cell? _ _ c2) id).trans c2, (HW1.out.cell (World.block_lt_of_cell? _ _ c3) id).trans c3, HW1.out⟩ (fun hHeld => ?_)
  clear hK K
  refine zk 13 rfl (hw := by kernel_rfl) ?_
  try simp only [Act.put, k1, k2, k3]
  refine zk 14 rfl (hw := by kernel_rfl) ?_
  try simp only [Act.put, k1, k2, k3]
  refine mps 15 rfl (hw := by kernel_rfl) ?_
  try simp only [Act.put, k1, k2, k3]
  refine mps 16 rfl (hw := by kernel_rfl) ?_
  try simp only [Act.put, k1, k2, k3]
  refine mps 17 rfl (hw := by kernel_rfl) ?_
  try simp only [Act.put, k1, k2, k3]
  refine mps 18 rfl (hw := by kernel_rfl) ?_
  try simp only [Act.put, k1, k2, k3]
  refine mps 19 rfl (hw := by kernel_rfl) ?_
  try simp only [Act.put, k1, k2, k3]
  refine mps 20 rfl (hw := by kernel_rfl) ?_
  try simp only [Act.put, k1, k2, k3]
  refine zk 21 rfl (hw := by kernel_rfl) ?_
  try simp only [Act.put, k1, k2, k3]
  refine zk 22 rfl (hw := by kernel_rfl) ?_
  try simp only [Act.put, k1, k2, k3]
  refine mps 23 rfl (hw := by kernel_rfl) ?_
  try simp only [Act.put, k1, k2, k3]
  refine mps 24 rfl (hw := by kernel_rfl) ?_
  try simp only [Act.put, k1, k2, k3]
  refine mps 25 rfl (hw := by kernel_rfl) ?_
  try simp only [Act.put, k1, k2, k3]
  refine mps 26 rfl (hw := by kernel_rfl) ?_
  try simp only [Act.put, k1, k2, k3]
  refine mps 27 rfl (hw := by kernel_rfl) ?_
  try simp only [Act.put, k1, k2, k3]
  refine mps 28 rfl (hw := by kernel_rfl) ?_
  try simp only [Act.put, k1, k2, k3]
  refine zk 29 rfl (hw := by kernel_rfl) ?_
  try simp only [Act.put, k1, k2, k3]
  refine zk 30 rfl (hw := by kernel_rfl) ?_
  try simp only [Act.put, k1, k2, k3]
  refine wpAnyH_done (by kernel_rfl) ?_ _
  go_wp2
  go_ret
  exact ⟨rfl, HO.out.trans HW1.out⟩
set_option maxRecDepth 100000 in
set_option maxHeartbeats 2000000 in
theorem right_n3 (t q o a : Int) (w : World) (h0 : decide (0 ≤ t) = true) (h1 : decide (t < 64) = true) (h2 : fitB whWs q = true) (h3 : fitB (opOf q) o = false) : Calls Tryz.prog 39 #[.agg #[.int .i64 t, .int .i64 q, .int .i64 o, .int .i64 a]] w fun e w' => e = .returned (.bool false) ∧ Only Nil w w' := by
  have HR := Lib.hid (Row.new w 59 #[.int .i64 t, .int .i64 q, .int .i64 o, .int .i64 a])
  have HO := Lib.hid ((Only.refl Nil w).alloc (.cells #[.int .i64 t, .int .i64 q, .int .i64 o, .int .i64 a] 59))
  have HF12 := Lib.hid h2
  clear h2
  have HF20 := Lib.hid h3
  clear h3
  go_enter Tryz.func39, Tryz.ntmps39
  go_wp2_with fail
  generalize w.alloc (.cells #[.int .i64 t, .int .i64 q, .int .i64 o, .int .i64 a] 59) = w0 at *
  generalize w.heap.size = g at *
  have c0 : w0.cell? ⟨g, 0, none⟩ = some (.int .i64 t) := HR.out.cell_ (i := 0) rfl
  have c1 : w0.cell? ⟨g, 1, none⟩ = some (.int .i64 q) := HR.out.cell_ (i := 1) rfl
  have c2 : w0.cell? ⟨g, 2, none⟩ = some (.int .i64 o) := HR.out.cell_ (i := 2) rfl
  have c3 : w0.cell? ⟨g, 3, none⟩ = some (.int .i64 a) := HR.out.cell_ (i := 3) rfl
  refine wp_region_held_drew (S := fun w' => w'.cell? ⟨g, 0, none⟩ = some (.int .i64 t) ∧ w'.cell? ⟨g, 1, none⟩ = some (.int .i64 q) ∧ w'.cell? ⟨g, 2, none⟩ = some (.int .i64 o) ∧ w'.cell? ⟨g, 3, none⟩ = some (.int .i64 a) ∧ Only Nil w0 w') (by kernel_rfl) ⟨c0, c1, c2, c3, (Only.refl _ _).drew⟩ (fun hHeld => ?_)
  have HW0 := Lib.hid (show Only Nil w0 w0.drew from (Only.refl _ _).drew)
  refine zk 0 rfl (hw := by kernel_rfl) ?_
  try simp only [Act.put, k1, k2, k3]
  refine zk 1 rfl (hw := by kernel_rfl) ?_
  try simp only [Act.put, k1, k2, k3]
  refine zk 2 rfl (hw := by kernel_rfl) ?_
  try simp only [Act.put, k1, k2, k3]
  refine zk 3 rfl (hw := by kernel_rfl) ?_
  try simp only [Act.put, k1, k2, k3]
  refine zk 4 rfl (hw := by kernel_rfl) ?_
  try simp only [Act.put, k1, k2, k3]
  refine zk 5 rfl (hw := by kernel_rfl) ?_
  try simp only [Act.put, k1, k2, k3]
  refine zk 6 rfl (hw := by kernel_rfl) ?_
  try simp only [Act.put, k1, k2, k3]
  refine zk 7 rfl (hw := by kernel_rfl) ?_
  try simp only [Act.put, k1, k2, k3]
  refine zk 8 rfl (hw := by kernel_rfl) ?_
  try simp only [Act.put, k1, k2, k3]
  refine zk 10 rfl (hw := by kernel_rfl) ?_
  try simp only [Act.put, k1, k2, k3]
  refine zk 11 rfl (hw := by kernel_rfl) ?_
  try simp only [Act.put, k1, k2, k3]
  refine mcl 9 rfl (by kernel_rfl) (by rfl) (fun K hK => ?_)
  go_simp
  refine (whatWords_any _).mono ?_
  rintro e w1 ⟨v9, rfl, hs, hO⟩
  have HW1 := Lib.hid (HW0.out.trans hO)
  have HS1 := Lib.hid hs
  refine hK.out _ _ ⟨(HW1.out.cell (World.block_lt_of_cell? _ _ c0) id).trans c0, (HW1.out.cell (World.block_lt_of_cell? _ _ c1) id).trans c1, (HW1.out.cell (World.block_lt_of_cell? _ _ c2) id).trans c2, (HW1.out.cell (World.block_lt_of_cell? _ _ c3) id).trans c3, HW1.out⟩ (fun hHeld => ?_)
  clear hK K hs hO
  refine mcl 12 rfl (by kernel_rfl) (by rfl) (fun K hK => ?_)
  go_simp
  refine (fits_any _ _ _ _ HS1.out).mono ?_
  rintro e w' ⟨rfl, rfl⟩
  rw [HF12.out]
  refine hK.out _ _ ⟨(HW1.out.cell (World.block_lt_of_cell? _ _ c0) id).trans c0, (HW1.out.cell (World.block_lt_of_cell? _ _ c1) id).trans c1, (HW1.out.cell (World.block_lt_of_cell? _ _ c2) id).trans c2, (HW1.out.cell (World.block_lt_of_cell? _ _ c3) id).trans c3, HW1.out⟩ (fun hHeld => ?_)
  clear hK K
  refine zk 13 rfl (hw := by kernel_rfl) ?_
  try simp only [Act.put, k1, k2, k3]
  refine zk 14 rfl (hw := by kernel_rfl) ?_
  try simp only [Act.put, k1, k2, k3]
  refine zk 15 rfl (hw := by kernel_rfl) ?_
  try simp only [Act.put, k1, k2, k3]
  refine zk 16 rfl (hw := by kernel_rfl) ?_
  try simp only [Act.put, k1, k2, k3]
  refine zk 18 rfl (hw := by kernel_rfl) ?_
  try simp only [Act.put, k1, k2, k3]
  refine zk 19 rfl (hw := by kernel_rfl) ?_
  try simp only [Act.put, k1, k2, k3]
  refine mcl 17 rfl (by kernel_rfl) (by rfl) (fun K hK => ?_)
  go_simp
  refine (opOf_any q _).mono ?_
  rintro e w2 ⟨v17, rfl, hs, hO⟩
  have HW2 := Lib.hid (HW1.out.trans hO)
  have HS2 := Lib.hid hs
  refine hK.out _ _ ⟨(HW2.out.cell (World.block_lt_of_cell? _ _ c0) id).trans c0, (HW2.out.cell (World.block_lt_of_cell? _ _ c1) id).trans c1, (HW2.out.cell (World.block_lt_of_cell? _ _ c2) id).trans c2, (HW2.out.cell (World.block_lt_of_cell? _ _ c3) id).trans c3, HW2.out⟩ (fun hHeld => ?_)
  clear hK K hs hO
  refine mcl 20 rfl (by kernel_rfl) (by rfl) (fun K hK => ?_)
  go_simp
  refine (fits_any _ _ _ _ HS2.out).mono ?_
  rintro e w' ⟨rfl, rfl⟩
  rw [HF20.out]
  refine hK.out _ _ ⟨(HW2.out.cell (World.block_lt_of_cell? _ _ c0) id).trans c0, (HW2.out.cell (World.block_lt_of_cell? _ _ c1) id).trans c1, (HW2.out.cell (World.block_lt_of_cell? _ _ c2) id).trans c2, (HW2.out.cell (World.block_lt_of_cell? _ _ c3) id).trans c3, HW2.out⟩ (fun hHeld => ?_)
  clear hK K
  refine zk 21 rfl (hw := by kernel_rfl) ?_
  try simp only [Act.put, k1, k2, k3]
  refine zk 22 rfl (hw := by kernel_rfl) ?_
  try simp only [Act.put, k1, k2, k3]
  refine mps 23 rfl (hw := by kernel_rfl) ?_
  try simp only [Act.put, k1, k2, k3]
  refine mps 24 rfl (hw := by kernel_rfl) ?_
  try simp only [Act.put, k1, k2, k3]
  refine mps 25 rfl (hw := by kernel_rfl) ?_
  try simp only [Act.put, k1, k2, k3]
  refine mps 26 rfl (hw := by kernel_rfl) ?_
  try simp only [Act.put, k1, k2, k3]
  refine mps 27 rfl (hw := by kernel_rfl) ?_
  try simp only [Act.put, k1, k2, k3]
  refine mps 28 rfl (hw := by kernel_rfl) ?_
  try simp only [Act.put, k1, k2, k3]
  refine zk 29 rfl (hw := by kernel_rfl) ?_
  try simp only [Act.put, k1, k2, k3]
  refine zk 30 rfl (hw := by kernel_rfl) ?_
  try simp only [Act.put, k1, k2, k3]
  refine wpAnyH_done (by kernel_rfl) ?_ _
  go_wp2
  go_ret
  exact ⟨rfl, HO.out.trans HW2.out⟩
set_option maxRecDepth 100000 in
set_option maxHeartbeats 2000000 in
theorem right_n4 (t q o a : Int) (w : World) (h0 : decide (0 ≤ t) = true) (h1 : decide (t < 64) = true) (h2 : fitB whWs q = true) (h3 : fitB (opOf q) o = true) (h4 : fitB (argOf q) a = false) : Calls Tryz.prog 39 #[.agg #[.int .i64 t, .int .i64 q, .int .i64 o, .int .i64 a]] w fun e w' => e = .returned (.bool false) ∧ Only Nil w w' := by
  have HR := Lib.hid (Row.new w 59 #[.int .i64 t, .int .i64 q, .int .i64 o, .int .i64 a])
  have HO := Lib.hid ((Only.refl Nil w).alloc (.cells #[.int .i64 t, .int .i64 q, .int .i64 o, .int .i64 a] 59))
  have HF12 := Lib.hid h2
  clear h2
  have HF20 := Lib.hid h3
  clear h3
  have HF28 := Lib.hid h4
  clear h4
  go_enter Tryz.func39, Tryz.ntmps39
  go_wp2_with fail
  generalize w.alloc (.cells #[.int .i64 t, .int .i64 q, .int .i64 o, .int .i64 a] 59) = w0 at *
  generalize w.heap.size = g at *
  have c0 : w0.cell? ⟨g, 0, none⟩ = some (.int .i64 t) := HR.out.cell_ (i := 0) rfl
  have c1 : w0.cell? ⟨g, 1, none⟩ = some (.int .i64 q) := HR.out.cell_ (i := 1) rfl
  have c2 : w0.cell? ⟨g, 2, none⟩ = some (.int .i64 o) := HR.out.cell_ (i := 2) rfl
  have c3 : w0.cell? ⟨g, 3, none⟩ = some (.int .i64 a) := HR.out.cell_ (i := 3) rfl
  refine wp_region_held_drew (S := fun w' => w'.cell? ⟨g, 0, none⟩ = some (.int .i64 t) ∧ w'.cell? ⟨g, 1, none⟩ = some (.int .i64 q) ∧ w'.cell? ⟨g, 2, none⟩ = some (.int .i64 o) ∧ w'.cell? ⟨g, 3, none⟩ = some (.int .i64 a) ∧ Only Nil w0 w') (by kernel_rfl) ⟨c0, c1, c2, c3, (Only.refl _ _).drew⟩ (fun hHeld => ?_)
  have HW0 := Lib.hid (show Only Nil w0 w0.drew from (Only.refl _ _).drew)
  refine zk 0 rfl (hw := by kernel_rfl) ?_
  try simp only [Act.put, k1, k2, k3]
  refine zk 1 rfl (hw := by kernel_rfl) ?_
  try simp only [Act.put, k1, k2, k3]
  refine zk 2 rfl (hw := by kernel_rfl) ?_
  try simp only [Act.put, k1, k2, k3]
  refine zk 3 rfl (hw := by kernel_rfl) ?_
  try simp only [Act.put, k1, k2, k3]
  refine zk 4 rfl (hw := by kernel_rfl) ?_
  try simp only [Act.put, k1, k2, k3]
  refine zk 5 rfl (hw := by kernel_rfl) ?_
  try simp only [Act.put, k1, k2, k3]
  refine zk 6 rfl (hw := by kernel_rfl) ?_
  try simp only [Act.put, k1, k2, k3]
  refine zk 7 rfl (hw := by kernel_rfl) ?_
  try simp only [Act.put, k1, k2, k3]
  refine zk 8 rfl (hw := by kernel_rfl) ?_
  try simp only [Act.put, k1, k2, k3]
  refine zk 10 rfl (hw := by kernel_rfl) ?_
  try simp only [Act.put, k1, k2, k3]
  refine zk 11 rfl (hw := by kernel_rfl) ?_
  try simp only [Act.put, k1, k2, k3]
  refine mcl 9 rfl (by kernel_rfl) (by rfl) (fun K hK => ?_)
  go_simp
  refine (whatWords_any _).mono ?_
  rintro e w1 ⟨v9, rfl, hs, hO⟩
  have HW1 := Lib.hid (HW0.out.trans hO)
  have HS1 := Lib.hid hs
  refine hK.out _ _ ⟨(HW1.out.cell (World.block_lt_of_cell? _ _ c0) id).trans c0, (HW1.out.cell (World.block_lt_of_cell? _ _ c1) id).trans c1, (HW1.out.cell (World.block_lt_of_cell? _ _ c2) id).trans c2, (HW1.out.cell (World.block_lt_of_cell? _ _ c3) id).trans c3, HW1.out⟩ (fun hHeld => ?_)
  clear hK K hs hO
  refine mcl 12 rfl (by kernel_rfl) (by rfl) (fun K hK => ?_)
  go_simp
  refine (fits_any _ _ _ _ HS1.out).mono ?_
  rintro e w' ⟨rfl, rfl⟩
  rw [HF12.out]
  refine hK.out _ _ ⟨(HW1.out.cell (World.block_lt_of_cell? _ _ c0) id).trans c0, (HW1.out.cell (World.block_lt_of_cell? _ _ c1) id).trans c1, (HW1.out.cell (World.block_lt_of_cell? _ _ c2) id).trans c2, (HW1.out.cell (World.block_lt_of_cell? _ _ c3) id).trans c3, HW1.out⟩ (fun hHeld => ?_)
  clear hK K
  refine zk 13 rfl (hw := by kernel_rfl) ?_
  try simp only [Act.put, k1, k2, k3]
  refine zk 14 rfl (hw := by kernel_rfl) ?_
  try simp only [Act.put, k1, k2, k3]
  refine zk 15 rfl (hw := by kernel_rfl) ?_
  try simp only [Act.put, k1, k2, k3]
  refine zk 16 rfl (hw := by kernel_rfl) ?_
  try simp only [Act.put, k1, k2, k3]
  refine zk 18 rfl (hw := by kernel_rfl) ?_
  try simp only [Act.put, k1, k2, k3]
  refine zk 19 rfl (hw := by kernel_rfl) ?_
  try simp only [Act.put, k1, k2, k3]
  refine mcl 17 rfl (by kernel_rfl) (by rfl) (fun K hK => ?_)
  go_simp
  refine (opOf_any q _).mono ?_
  rintro e w2 ⟨v17, rfl, hs, hO⟩
  have HW2 := Lib.hid (HW1.out.trans hO)
  have HS2 := Lib.hid hs
  refine hK.out _ _ ⟨(HW2.out.cell (World.block_lt_of_cell? _ _ c0) id).trans c0, (HW2.out.cell (World.block_lt_of_cell? _ _ c1) id).trans c1, (HW2.out.cell (World.block_lt_of_cell? _ _ c2) id).trans c2, (HW2.out.cell (World.block_lt_of_cell? _ _ c3) id).trans c3, HW2.out⟩ (fun hHeld => ?_)
  clear hK K hs hO
  refine mcl 20 rfl (by kernel_rfl) (by rfl) (fun K hK => ?_)
  go_simp
  refine (fits_any _ _ _ _ HS2.out).mono ?_
  rintro e w' ⟨rfl, rfl⟩
  rw [HF20.out]
  refine hK.out _ _ ⟨(HW2.out.cell (World.block_lt_of_cell? _ _ c0) id).trans c0, (HW2.out.cell (World.block_lt_of_cell? _ _ c1) id).trans c1, (HW2.out.cell (World.block_lt_of_cell? _ _ c2) id).trans c2, (HW2.out.cell (World.block_lt_of_cell? _ _ c3) id).trans c3, HW2.out⟩ (fun hHeld => ?_)
  clear hK K
  refine zk 21 rfl (hw := by kernel_rfl) ?_
  try simp only [Act.put, k1, k2, k3]
  refine zk 22 rfl (hw := by kernel_rfl) ?_
  try simp only [Act.put, k1, k2, k3]
  refine zk 23 rfl (hw := by kernel_rfl) ?_
  try simp only [Act.put, k1, k2, k3]
  refine zk 24 rfl (hw := by kernel_rfl) ?_
  try simp only [Act.put, k1, k2, k3]
  refine zk 26 rfl (hw := by kernel_rfl) ?_
  try simp only [Act.put, k1, k2, k3]
  refine zk 27 rfl (hw := by kernel_rfl) ?_
  try simp only [Act.put, k1, k2, k3]
  refine mcl 25 rfl (by kernel_rfl) (by rfl) (fun K hK => ?_)
  go_simp
  refine (argOf_any q _).mono ?_
  rintro e w3 ⟨v25, rfl, hs, hO⟩
  have HW3 := Lib.hid (HW2.out.trans hO)
  have HS3 := Lib.hid hs
  refine hK.out _ _ ⟨(HW3.out.cell (World.block_lt_of_cell? _ _ c0) id).trans c0, (HW3.out.cell (World.block_lt_of_cell? _ _ c1) id).trans c1, (HW3.out.cell (World.block_lt_of_cell? _ _ c2) id).trans c2, (HW3.out.cell (World.block_lt_of_cell? _ _ c3) id).trans c3, HW3.out⟩ (fun hHeld => ?_)
  clear hK K hs hO
  refine mcl 28 rfl (by kernel_rfl) (by rfl) (fun K hK => ?_)
  go_simp
  refine (fits_any _ _ _ _ HS3.out).mono ?_
  rintro e w' ⟨rfl, rfl⟩
  rw [HF28.out]
  refine hK.out _ _ ⟨(HW3.out.cell (World.block_lt_of_cell? _ _ c0) id).trans c0, (HW3.out.cell (World.block_lt_of_cell? _ _ c1) id).trans c1, (HW3.out.cell (World.block_lt_of_cell? _ _ c2) id).trans c2, (HW3.out.cell (World.block_lt_of_cell? _ _ c3) id).trans c3, HW3.out⟩ (fun hHeld => ?_)
  clear hK K
  refine zk 29 rfl (hw := by kernel_rfl) ?_
  try simp only [Act.put, k1, k2, k3]
  refine zk 30 rfl (hw := by kernel_rfl) ?_
  try simp only [Act.put, k1, k2, k3]
  refine wpAnyH_done (by kernel_rfl) ?_ _
  go_wp2
  go_ret
  exact ⟨rfl, HO.out.trans HW3.out⟩
set_option maxRecDepth 100000 in
set_option maxHeartbeats 2000000 in
theorem right_n5 (t q o a : Int) (w : World) (h0 : decide (0 ≤ t) = true) (h1 : decide (t < 64) = true) (h2 : fitB whWs q = true) (h3 : fitB (opOf q) o = true) (h4 : fitB (argOf q) a = true) : Calls Tryz.prog 39 #[.agg #[.int .i64 t, .int .i64 q, .int .i64 o, .int .i64 a]] w fun e w' => e = .returned (.bool true) ∧ Only Nil w w' := by
  have HR := Lib.hid (Row.new w 59 #[.int .i64 t, .int .i64 q, .int .i64 o, .int .i64 a])
  have HO := Lib.hid ((Only.refl Nil w).alloc (.cells #[.int .i64 t, .int .i64 q, .int .i64 o, .int .i64 a] 59))
  have HF12 := Lib.hid h2
  clear h2
  have HF20 := Lib.hid h3
  clear h3
  have HF28 := Lib.hid h4
  clear h4
  go_enter Tryz.func39, Tryz.ntmps39
  go_wp2_with fail
  generalize w.alloc (.cells #[.int .i64 t, .int .i64 q, .int .i64 o, .int .i64 a] 59) = w0 at *
  generalize w.heap.size = g at *
  have c0 : w0.cell? ⟨g, 0, none⟩ = some (.int .i64 t) := HR.out.cell_ (i := 0) rfl
  have c1 : w0.cell? ⟨g, 1, none⟩ = some (.int .i64 q) := HR.out.cell_ (i := 1) rfl
  have c2 : w0.cell? ⟨g, 2, none⟩ = some (.int .i64 o) := HR.out.cell_ (i := 2) rfl
  have c3 : w0.cell? ⟨g, 3, none⟩ = some (.int .i64 a) := HR.out.cell_ (i := 3) rfl
  refine wp_region_held_drew (S := fun w' => w'.cell? ⟨g, 0, none⟩ = some (.int .i64 t) ∧ w'.cell? ⟨g, 1, none⟩ = some (.int .i64 q) ∧ w'.cell? ⟨g, 2, none⟩ = some (.int .i64 o) ∧ w'.cell? ⟨g, 3, none⟩ = some (.int .i64 a) ∧ Only Nil w0 w') (by kernel_rfl) ⟨c0, c1, c2, c3, (Only.refl _ _).drew⟩ (fun hHeld => ?_)
  have HW0 := Lib.hid (show Only Nil w0 w0.drew from (Only.refl _ _).drew)
  refine zk 0 rfl (hw := by kernel_rfl) ?_
  try simp only [Act.put, k1, k2, k3]
  refine zk 1 rfl (hw := by kernel_rfl) ?_
  try simp only [Act.put, k1, k2, k3]
  refine zk 2 rfl (hw := by kernel_rfl) ?_
  try simp only [Act.put, k1, k2, k3]
  refine zk 3 rfl (hw := by kernel_rfl) ?_
  try simp only [Act.put, k1, k2, k3]
  refine zk 4 rfl (hw := by kernel_rfl) ?_
  try simp only [Act.put, k1, k2, k3]
  refine zk 5 rfl (hw := by kernel_rfl) ?_
  try simp only [Act.put, k1, k2, k3]
  refine zk 6 rfl (hw := by kernel_rfl) ?_
  try simp only [Act.put, k1, k2, k3]
  refine zk 7 rfl (hw := by kernel_rfl) ?_
  try simp only [Act.put, k1, k2, k3]
  refine zk 8 rfl (hw := by kernel_rfl) ?_
  try simp only [Act.put, k1, k2, k3]
  refine zk 10 rfl (hw := by kernel_rfl) ?_
  try simp only [Act.put, k1, k2, k3]
  refine zk 11 rfl (hw := by kernel_rfl) ?_
  try simp only [Act.put, k1, k2, k3]
  refine mcl 9 rfl (by kernel_rfl) (by rfl) (fun K hK => ?_)
  go_simp
  refine (whatWords_any _).mono ?_
  rintro e w1 ⟨v9, rfl, hs, hO⟩
  have HW1 := Lib.hid (HW0.out.trans hO)
  have HS1 := Lib.hid hs
  refine hK.out _ _ ⟨(HW1.out.cell (World.block_lt_of_cell? _ _ c0) id).trans c0, (HW1.out.cell (World.block_lt_of_cell? _ _ c1) id).trans c1, (HW1.out.cell (World.block_lt_of_cell? _ _ c2) id).trans c2, (HW1.out.cell (World.block_lt_of_cell? _ _ c3) id).trans c3, HW1.out⟩ (fun hHeld => ?_)
  clear hK K hs hO
  refine mcl 12 rfl (by kernel_rfl) (by rfl) (fun K hK => ?_)
  go_simp
  refine (fits_any _ _ _ _ HS1.out).mono ?_
  rintro e w' ⟨rfl, rfl⟩
  rw [HF12.out]
  refine hK.out _ _ ⟨(HW1.out.cell (World.block_lt_of_cell? _ _ c0) id).trans c0, (HW1.out.cell (World.block_lt_of_cell? _ _ c1) id).trans c1, (HW1.out.cell (World.block_lt_of_cell? _ _ c2) id).trans c2, (HW1.out.cell (World.block_lt_of_cell? _ _ c3) id).trans c3, HW1.out⟩ (fun hHeld => ?_)
  clear hK K
  refine zk 13 rfl (hw := by kernel_rfl) ?_
  try simp only [Act.put, k1, k2, k3]
  refine zk 14 rfl (hw := by kernel_rfl) ?_
  try simp only [Act.put, k1, k2, k3]
  refine zk 15 rfl (hw := by kernel_rfl) ?_
  try simp only [Act.put, k1, k2, k3]
  refine zk 16 rfl (hw := by kernel_rfl) ?_
  try simp only [Act.put, k1, k2, k3]
  refine zk 18 rfl (hw := by kernel_rfl) ?_
  try simp only [Act.put, k1, k2, k3]
  refine zk 19 rfl (hw := by kernel_rfl) ?_
  try simp only [Act.put, k1, k2, k3]
  refine mcl 17 rfl (by kernel_rfl) (by rfl) (fun K hK => ?_)
  go_simp
  refine (opOf_any q _).mono ?_
  rintro e w2 ⟨v17, rfl, hs, hO⟩
  have HW2 := Lib.hid (HW1.out.trans hO)
  have HS2 := Lib.hid hs
  refine hK.out _ _ ⟨(HW2.out.cell (World.block_lt_of_cell? _ _ c0) id).trans c0, (HW2.out.cell (World.block_lt_of_cell? _ _ c1) id).trans c1, (HW2.out.cell (World.block_lt_of_cell? _ _ c2) id).trans c2, (HW2.out.cell (World.block_lt_of_cell? _ _ c3) id).trans c3, HW2.out⟩ (fun hHeld => ?_)
  clear hK K hs hO
  refine mcl 20 rfl (by kernel_rfl) (by rfl) (fun K hK => ?_)
  go_simp
  refine (fits_any _ _ _ _ HS2.out).mono ?_
  rintro e w' ⟨rfl, rfl⟩
  rw [HF20.out]
  refine hK.out _ _ ⟨(HW2.out.cell (World.block_lt_of_cell? _ _ c0) id).trans c0, (HW2.out.cell (World.block_lt_of_cell? _ _ c1) id).trans c1, (HW2.out.cell (World.block_lt_of_cell? _ _ c2) id).trans c2, (HW2.out.cell (World.block_lt_of_cell? _ _ c3) id).trans c3, HW2.out⟩ (fun hHeld => ?_)
  clear hK K
  refine zk 21 rfl (hw := by kernel_rfl) ?_
  try simp only [Act.put, k1, k2, k3]
  refine zk 22 rfl (hw := by kernel_rfl) ?_
  try simp only [Act.put, k1, k2, k3]
  refine zk 23 rfl (hw := by kernel_rfl) ?_
  try simp only [Act.put, k1, k2, k3]
  refine zk 24 rfl (hw := by kernel_rfl) ?_
  try simp only [Act.put, k1, k2, k3]
  refine zk 26 rfl (hw := by kernel_rfl) ?_
  try simp only [Act.put, k1, k2, k3]
  refine zk 27 rfl (hw := by kernel_rfl) ?_
  try simp only [Act.put, k1, k2, k3]
  refine mcl 25 rfl (by kernel_rfl) (by rfl) (fun K hK => ?_)
  go_simp
  refine (argOf_any q _).mono ?_
  rintro e w3 ⟨v25, rfl, hs, hO⟩
  have HW3 := Lib.hid (HW2.out.trans hO)
  have HS3 := Lib.hid hs
  refine hK.out _ _ ⟨(HW3.out.cell (World.block_lt_of_cell? _ _ c0) id).trans c0, (HW3.out.cell (World.block_lt_of_cell? _ _ c1) id).trans c1, (HW3.out.cell (World.block_lt_of_cell? _ _ c2) id).trans c2, (HW3.out.cell (World.block_lt_of_cell? _ _ c3) id).trans c3, HW3.out⟩ (fun hHeld => ?_)
  clear hK K hs hO
  refine mcl 28 rfl (by kernel_rfl) (by rfl) (fun K hK => ?_)
  go_simp
  refine (fits_any _ _ _ _ HS3.out).mono ?_
  rintro e w' ⟨rfl, rfl⟩
  rw [HF28.out]
  refine hK.out _ _ ⟨(HW3.out.cell (World.block_lt_of_cell? _ _ c0) id).trans c0, (HW3.out.cell (World.block_lt_of_cell? _ _ c1) id).trans c1, (HW3.out.cell (World.block_lt_of_cell? _ _ c2) id).trans c2, (HW3.out.cell (World.block_lt_of_cell? _ _ c3) id).trans c3, HW3.out⟩ (fun hHeld => ?_)
  clear hK K
  refine zk 29 rfl (hw := by kernel_rfl) ?_
  try simp only [Act.put, k1, k2, k3]
  refine zk 30 rfl (hw := by kernel_rfl) ?_
  try simp only [Act.put, k1, k2, k3]
  refine wpAnyH_done (by kernel_rfl) ?_ _
  go_wp2
  go_ret
  exact ⟨rfl, HO.out.trans HW3.out⟩
theorem right_note (t q o a : Int) (w : World) : Calls Tryz.prog 39 #[.agg #[.int .i64 t, .int .i64 q, .int .i64 o, .int .i64 a]] w fun e w' => e = .returned (.bool (rightN t q o a)) ∧ Only Nil w w' := by
  unfold rightN tripB
  cases h0 : decide (0 ≤ t)
  · exact right_n0 t q o a w h0
  · cases h1 : decide (t < 64)
    · exact right_n1 t q o a w h0 h1
    · cases h2 : fitB whWs q
      · exact right_n2 t q o a w h0 h1 h2
      · cases h3 : fitB (opOf q) o
        · exact right_n3 t q o a w h0 h1 h2 h3
        · cases h4 : fitB (argOf q) a
          · exact right_n4 t q o a w h0 h1 h2 h3 h4
          · exact right_n5 t q o a w h0 h1 h2 h3 h4
end Go.Proofs.YtigdbokfapedcaaGreat
/- Who is within what: operations.take and operations.fault. -/
set_option linter.unusedVariables false
set_option linter.unusedSimpArgs false
namespace Go.Proofs.YtigdbokfapedcaaGreat
open Go.RowKit
/-- What the map holds. -/
def vf (l : List Nt) (t : Int) : Option Value := (mpF l t).map (Value.int .i64)
theorem vf_call {l : List Nt} {x : Nt} (h : x.w = 1) : vf (l ++ [x]) = updM (vf l) x.t (some (.int .i64 x.o)) := by
  funext t
  unfold vf
  rw [mpF_snoc]
  unfold mpN
  by_cases e : t = x.t
  · subst e; rw [updM_same, if_pos rfl, if_pos h]; rfl
  · rw [updM_other _ _ e, if_neg (fun h => e h.symm)]
theorem vf_ret {l : List Nt} {x : Nt} (h : x.w = 11) : vf (l ++ [x]) = updM (vf l) x.t none := by
  funext t
  unfold vf
  rw [mpF_snoc]
  unfold mpN
  by_cases e : t = x.t
  · subst e; rw [updM_same, if_pos rfl, if_neg (by omega), if_pos h]; rfl
  · rw [updM_other _ _ e, if_neg (fun h => e h.symm)]
theorem vf_else {l : List Nt} {x : Nt} (h1 : ¬ x.w = 1) (h : ¬ x.w = 11) : vf (l ++ [x]) = vf l := by
  funext t
  unfold vf
  rw [mpF_snoc]
  unfold mpN
  by_cases e : x.t = t
  · rw [if_pos e, if_neg h1, if_neg h]
  · rw [if_neg e]
set_option maxRecDepth 100000 in
theorem opsTake_any (M n : Nat) (pre : List Nt) (t q o a : Int) (w : World) (h : Mp w M n (vf pre)) (hn : n < 1000000) (hw : (Lit.int .i64 t).wf = true) :
    Calls Tryz.prog 18 #[.map (some M), .agg #[.int .i64 t, .int .i64 q, .int .i64 o, .int .i64 a]] w fun e w' => e = .returned (.tuple #[]) ∧ Mp w' M (n + 1) (vf (pre ++ [⟨t, q, o, a⟩])) ∧ Only (· = M) w w' := by
  have e1 := (Only.refl (· = M) w).alloc (.cells #[.int .i64 t, .int .i64 q, .int .i64 o, .int .i64 a] 59)
  have HP := Lib.hid (h.only ((Only.refl Nil w).alloc (.cells #[.int .i64 t, .int .i64 q, .int .i64 o, .int .i64 a] 59)) id)
  have HO := Lib.hid e1
  have HN := Lib.hid hn
  have HW := Lib.hid hw
  clear h e1 hn hw
  by_cases h1 : q = 1
  · have HV := Lib.hid (vf_call (l := pre) (x := ⟨t, q, o, a⟩) h1)
    subst h1
    go_enter Tryz.func18, Tryz.ntmps18
    go_wp2_with (at_mapUpdate; refine wp_putM rfl (.tmp 8) (.tmp 10) (.tmp 12) 68 rfl Tryz.underlying68 rfl HP.out HN.out rfl HW.out rfl ?_)
    intro w1 hm ho
    have H := Lib.hid (And.intro hm (HO.out.trans ho))
    clear hm ho
    go_wp2
    go_returns
    exact ⟨rfl, by rw [HV.out]; exact H.out.1, H.out.2⟩
  · by_cases h11 : q = 11
    · have HV := Lib.hid (vf_ret (l := pre) (x := ⟨t, q, o, a⟩) h11)
      subst h11
      go_enter Tryz.func18, Tryz.ntmps18
      go_wp2_with (at_delete; refine wp_delM rfl (.tmp 15) (.tmp 17) 68 rfl Tryz.underlying68 rfl HP.out rfl HW.out ?_)
      intro w1 hm ho
      have H := Lib.hid (And.intro hm (HO.out.trans ho))
      clear hm ho
      go_wp2
      go_returns
      exact ⟨rfl, by rw [HV.out]; exact H.out.1.mono (Nat.le_succ _), H.out.2⟩
    · have HV := Lib.hid (vf_else (l := pre) (x := ⟨t, q, o, a⟩) h1 h11)
      go_enter Tryz.func18, Tryz.ntmps18
      go_wp2
      go_returns
      exact ⟨rfl, by rw [HV.out]; exact HP.out.mono (Nat.le_succ _), HO.out⟩
set_option maxRecDepth 100000 in
theorem fault_any (M m : Nat) (n : Int) (pre : List Nt) (t q o a : Int) (w : World) (h : Mp w M m (vf pre)) (hw : (Lit.int .i64 t).wf = true) :
    Calls Tryz.prog 17 #[.map (some M), .int .i64 n, .agg #[.int .i64 t, .int .i64 q, .int .i64 o, .int .i64 a]] w fun e w' => e = .returned (.int .i64 (faultM n (mpF pre t) ⟨t, q, o, a⟩)) ∧ Only Nil w w' := by
  have e1 := (Only.refl Nil w).alloc (.cells #[.int .i64 t, .int .i64 q, .int .i64 o, .int .i64 a] 59)
  have hl := (h.only e1 id).get_ok (z := .int .i64 0) Tryz.underlying68 (by kernel_rfl) hw
  have hv : (vf pre t).getD (.int .i64 0) = .int .i64 ((mpF pre t).getD 0) := by unfold vf; cases mpF pre t <;> rfl
  have hs : (vf pre t).isSome = (mpF pre t).isSome := by unfold vf; cases mpF pre t <;> rfl
  rw [hv, hs] at hl
  have HL := Lib.hid hl
  have HO := Lib.hid e1
  have HR := Lib.hid (Row.new w 59 #[.int .i64 t, .int .i64 q, .int .i64 o, .int .i64 a])
  clear e1 h hl hv hs
  generalize mpF pre t = r at *
  unfold faultM
  dsimp only
  generalize hb : r.isSome = b at *
  generalize r.getD 0 = g at *
  clear hb
  by_cases hr : rightN t q o a = false
  · have RT := Lib.hid hr
    rw [if_pos hr]
    clear hr
    go_enter Tryz.func17, Tryz.ntmps17
    go_upto_region 1 with (fail)
    generalize w.alloc _ = w1 at *
    generalize w.heap.size = X at *
    have hlk := HL.out
    have c0 : w1.cell? ⟨X, 0, none⟩ = some (.int .i64 t) := HR.out.cell_ (i := 0) rfl
    have c1 : w1.cell? ⟨X, 1, none⟩ = some (.int .i64 q) := HR.out.cell_ (i := 1) rfl
    have c2 : w1.cell? ⟨X, 2, none⟩ = some (.int .i64 o) := HR.out.cell_ (i := 2) rfl
    have c3 : w1.cell? ⟨X, 3, none⟩ = some (.int .i64 a) := HR.out.cell_ (i := 3) rfl
    go_wp2_with fail
    clear c0 c1 c2 c3 hlk
    refine (right_note t q o a w1).mono ?_
    rw [RT.out]
    rintro e w2 ⟨rfl, hO⟩
    have HR2 := Lib.hid (HR.out.only hO id)
    have HO2 := Lib.hid (HO.out.trans hO)
    clear hO HR HO HL
    have c0 : w2.cell? ⟨X, 0, none⟩ = some (.int .i64 t) := HR2.out.cell_ (i := 0) rfl
    have c1 : w2.cell? ⟨X, 1, none⟩ = some (.int .i64 q) := HR2.out.cell_ (i := 1) rfl
    have c2 : w2.cell? ⟨X, 2, none⟩ = some (.int .i64 o) := HR2.out.cell_ (i := 2) rfl
    have c3 : w2.cell? ⟨X, 3, none⟩ = some (.int .i64 a) := HR2.out.cell_ (i := 3) rfl
    go_wp2
    go_ret
    exact ⟨rfl, HO2.out⟩
  · have RT := Lib.hid (show rightN t q o a = true by simpa using hr)
    rw [if_neg hr]
    clear hr
    by_cases hn : n ≤ t
    · rw [if_pos hn]
      go_enter Tryz.func17, Tryz.ntmps17
      go_upto_region 1 with (fail)
      generalize w.alloc _ = w1 at *
      generalize w.heap.size = X at *
      have hlk := HL.out
      have c0 : w1.cell? ⟨X, 0, none⟩ = some (.int .i64 t) := HR.out.cell_ (i := 0) rfl
      have c1 : w1.cell? ⟨X, 1, none⟩ = some (.int .i64 q) := HR.out.cell_ (i := 1) rfl
      have c2 : w1.cell? ⟨X, 2, none⟩ = some (.int .i64 o) := HR.out.cell_ (i := 2) rfl
      have c3 : w1.cell? ⟨X, 3, none⟩ = some (.int .i64 a) := HR.out.cell_ (i := 3) rfl
      go_wp2_with fail
      clear c0 c1 c2 c3 hlk
      refine (right_note t q o a w1).mono ?_
      rw [RT.out]
      rintro e w2 ⟨rfl, hO⟩
      have HR2 := Lib.hid (HR.out.only hO id)
      have HO2 := Lib.hid (HO.out.trans hO)
      clear hO HR HO HL
      have c0 : w2.cell? ⟨X, 0, none⟩ = some (.int .i64 t) := HR2.out.cell_ (i := 0) rfl
      have c1 : w2.cell? ⟨X, 1, none⟩ = some (.int .i64 q) := HR2.out.cell_ (i := 1) rfl
      have c2 : w2.cell? ⟨X, 2, none⟩ = some (.int .i64 o) := HR2.out.cell_ (i := 2) rfl
      have c3 : w2.cell? ⟨X, 3, none⟩ = some (.int .i64 a) := HR2.out.cell_ (i := 3) rfl
      go_wp2
      go_ret
      exact ⟨rfl, HO2.out⟩
    · rw [if_neg hn]
      have hn' : ¬ t ≥ n := hn
      by_cases h1 : q = 1
      · rw [decide_eq_true h1]
        subst h1
        cases b
        · rw [if_neg (by decide), if_neg (by omega)]
          go_enter Tryz.func17, Tryz.ntmps17
          go_upto_region 1 with (fail)
          generalize w.alloc _ = w1 at *
          generalize w.heap.size = X at *
          have hlk := HL.out
          have c0 : w1.cell? ⟨X, 0, none⟩ = some (.int .i64 t) := HR.out.cell_ (i := 0) rfl
          have c1 : w1.cell? ⟨X, 1, none⟩ = some (.int .i64 1) := HR.out.cell_ (i := 1) rfl
          have c2 : w1.cell? ⟨X, 2, none⟩ = some (.int .i64 o) := HR.out.cell_ (i := 2) rfl
          have c3 : w1.cell? ⟨X, 3, none⟩ = some (.int .i64 a) := HR.out.cell_ (i := 3) rfl
          go_wp2_with fail
          clear c0 c1 c2 c3 hlk
          refine (right_note t 1 o a w1).mono ?_
          rw [RT.out]
          rintro e w2 ⟨rfl, hO⟩
          have HR2 := Lib.hid (HR.out.only hO id)
          have HO2 := Lib.hid (HO.out.trans hO)
          clear hO HR HO HL
          have c0 : w2.cell? ⟨X, 0, none⟩ = some (.int .i64 t) := HR2.out.cell_ (i := 0) rfl
          have c1 : w2.cell? ⟨X, 1, none⟩ = some (.int .i64 1) := HR2.out.cell_ (i := 1) rfl
          have c2 : w2.cell? ⟨X, 2, none⟩ = some (.int .i64 o) := HR2.out.cell_ (i := 2) rfl
          have c3 : w2.cell? ⟨X, 3, none⟩ = some (.int .i64 a) := HR2.out.cell_ (i := 3) rfl
          go_wp2
          go_ret
          exact ⟨rfl, HO2.out⟩
        · rw [if_pos rfl]
          go_enter Tryz.func17, Tryz.ntmps17
          go_upto_region 1 with (fail)
          generalize w.alloc _ = w1 at *
          generalize w.heap.size = X at *
          have hlk := HL.out
          have c0 : w1.cell? ⟨X, 0, none⟩ = some (.int .i64 t) := HR.out.cell_ (i := 0) rfl
          have c1 : w1.cell? ⟨X, 1, none⟩ = some (.int .i64 1) := HR.out.cell_ (i := 1) rfl
          have c2 : w1.cell? ⟨X, 2, none⟩ = some (.int .i64 o) := HR.out.cell_ (i := 2) rfl
          have c3 : w1.cell? ⟨X, 3, none⟩ = some (.int .i64 a) := HR.out.cell_ (i := 3) rfl
          go_wp2_with fail
          clear c0 c1 c2 c3 hlk
          refine (right_note t 1 o a w1).mono ?_
          rw [RT.out]
          rintro e w2 ⟨rfl, hO⟩
          have HR2 := Lib.hid (HR.out.only hO id)
          have HO2 := Lib.hid (HO.out.trans hO)
          clear hO HR HO HL
          have c0 : w2.cell? ⟨X, 0, none⟩ = some (.int .i64 t) := HR2.out.cell_ (i := 0) rfl
          have c1 : w2.cell? ⟨X, 1, none⟩ = some (.int .i64 1) := HR2.out.cell_ (i := 1) rfl
          have c2 : w2.cell? ⟨X, 2, none⟩ = some (.int .i64 o) := HR2.out.cell_ (i := 2) rfl
          have c3 : w2.cell? ⟨X, 3, none⟩ = some (.int .i64 a) := HR2.out.cell_ (i := 3) rfl
          go_wp2
          go_ret
          exact ⟨rfl, HO2.out⟩
      · rw [decide_eq_false h1]
        have hq : (q == 1) = false := by simpa using h1
        cases b
        · rw [if_pos rfl]
          go_enter Tryz.func17, Tryz.ntmps17
          go_upto_region 1 with (fail)
          generalize w.alloc _ = w1 at *
          generalize w.heap.size = X at *
          have hlk := HL.out
          have c0 : w1.cell? ⟨X, 0, none⟩ = some (.int .i64 t) := HR.out.cell_ (i := 0) rfl
          have c1 : w1.cell? ⟨X, 1, none⟩ = some (.int .i64 q) := HR.out.cell_ (i := 1) rfl
          have c2 : w1.cell? ⟨X, 2, none⟩ = some (.int .i64 o) := HR.out.cell_ (i := 2) rfl
          have c3 : w1.cell? ⟨X, 3, none⟩ = some (.int .i64 a) := HR.out.cell_ (i := 3) rfl
          go_wp2_with fail
          clear c0 c1 c2 c3 hlk
          refine (right_note t q o a w1).mono ?_
          rw [RT.out]
          rintro e w2 ⟨rfl, hO⟩
          have HR2 := Lib.hid (HR.out.only hO id)
          have HO2 := Lib.hid (HO.out.trans hO)
          clear hO HR HO HL
          have c0 : w2.cell? ⟨X, 0, none⟩ = some (.int .i64 t) := HR2.out.cell_ (i := 0) rfl
          have c1 : w2.cell? ⟨X, 1, none⟩ = some (.int .i64 q) := HR2.out.cell_ (i := 1) rfl
          have c2 : w2.cell? ⟨X, 2, none⟩ = some (.int .i64 o) := HR2.out.cell_ (i := 2) rfl
          have c3 : w2.cell? ⟨X, 3, none⟩ = some (.int .i64 a) := HR2.out.cell_ (i := 3) rfl
          go_wp2
          go_ret
          exact ⟨rfl, HO2.out⟩
        · rw [if_neg (by decide)]
          by_cases h11 : q = 11
          · by_cases ho : o = g
            · rw [if_neg (fun e => e.2 ho)]
              subst h11
              subst ho
              go_enter Tryz.func17, Tryz.ntmps17
              go_upto_region 1 with (fail)
              generalize w.alloc _ = w1 at *
              generalize w.heap.size = X at *
              have hlk := HL.out
              have c0 : w1.cell? ⟨X, 0, none⟩ = some (.int .i64 t) := HR.out.cell_ (i := 0) rfl
              have c1 : w1.cell? ⟨X, 1, none⟩ = some (.int .i64 11) := HR.out.cell_ (i := 1) rfl
              have c2 : w1.cell? ⟨X, 2, none⟩ = some (.int .i64 o) := HR.out.cell_ (i := 2) rfl
              have c3 : w1.cell? ⟨X, 3, none⟩ = some (.int .i64 a) := HR.out.cell_ (i := 3) rfl
              go_wp2_with fail
              clear c0 c1 c2 c3 hlk
              refine (right_note t 11 o a w1).mono ?_
              rw [RT.out]
              rintro e w2 ⟨rfl, hO⟩
              have HR2 := Lib.hid (HR.out.only hO id)
              have HO2 := Lib.hid (HO.out.trans hO)
              clear hO HR HO HL
              have c0 : w2.cell? ⟨X, 0, none⟩ = some (.int .i64 t) := HR2.out.cell_ (i := 0) rfl
              have c1 : w2.cell? ⟨X, 1, none⟩ = some (.int .i64 11) := HR2.out.cell_ (i := 1) rfl
              have c2 : w2.cell? ⟨X, 2, none⟩ = some (.int .i64 o) := HR2.out.cell_ (i := 2) rfl
              have c3 : w2.cell? ⟨X, 3, none⟩ = some (.int .i64 a) := HR2.out.cell_ (i := 3) rfl
              go_wp2
              go_ret
              exact ⟨rfl, HO2.out⟩
            · rw [if_pos ⟨h11, ho⟩]
              subst h11
              have hog : (o != g) = true := by simpa using ho
              go_enter Tryz.func17, Tryz.ntmps17
              go_upto_region 1 with (fail)
              generalize w.alloc _ = w1 at *
              generalize w.heap.size = X at *
              have hlk := HL.out
              have c0 : w1.cell? ⟨X, 0, none⟩ = some (.int .i64 t) := HR.out.cell_ (i := 0) rfl
              have c1 : w1.cell? ⟨X, 1, none⟩ = some (.int .i64 11) := HR.out.cell_ (i := 1) rfl
              have c2 : w1.cell? ⟨X, 2, none⟩ = some (.int .i64 o) := HR.out.cell_ (i := 2) rfl
              have c3 : w1.cell? ⟨X, 3, none⟩ = some (.int .i64 a) := HR.out.cell_ (i := 3) rfl
              go_wp2_with fail
              clear c0 c1 c2 c3 hlk
              refine (right_note t 11 o a w1).mono ?_
              rw [RT.out]
              rintro e w2 ⟨rfl, hO⟩
              have HR2 := Lib.hid (HR.out.only hO id)
              have HO2 := Lib.hid (HO.out.trans hO)
              clear hO HR HO HL
              have c0 : w2.cell? ⟨X, 0, none⟩ = some (.int .i64 t) := HR2.out.cell_ (i := 0) rfl
              have c1 : w2.cell? ⟨X, 1, none⟩ = some (.int .i64 11) := HR2.out.cell_ (i := 1) rfl
              have c2 : w2.cell? ⟨X, 2, none⟩ = some (.int .i64 o) := HR2.out.cell_ (i := 2) rfl
              have c3 : w2.cell? ⟨X, 3, none⟩ = some (.int .i64 a) := HR2.out.cell_ (i := 3) rfl
              go_wp2
              go_ret
              exact ⟨rfl, HO2.out⟩
          · rw [if_neg (fun e => h11 e.1)]
            have hq2 : (q == 11) = false := by simpa using h11
            go_enter Tryz.func17, Tryz.ntmps17
            go_upto_region 1 with (fail)
            generalize w.alloc _ = w1 at *
            generalize w.heap.size = X at *
            have hlk := HL.out
            have c0 : w1.cell? ⟨X, 0, none⟩ = some (.int .i64 t) := HR.out.cell_ (i := 0) rfl
            have c1 : w1.cell? ⟨X, 1, none⟩ = some (.int .i64 q) := HR.out.cell_ (i := 1) rfl
            have c2 : w1.cell? ⟨X, 2, none⟩ = some (.int .i64 o) := HR.out.cell_ (i := 2) rfl
            have c3 : w1.cell? ⟨X, 3, none⟩ = some (.int .i64 a) := HR.out.cell_ (i := 3) rfl
            go_wp2_with fail
            clear c0 c1 c2 c3 hlk
            refine (right_note t q o a w1).mono ?_
            rw [RT.out]
            rintro e w2 ⟨rfl, hO⟩
            have HR2 := Lib.hid (HR.out.only hO id)
            have HO2 := Lib.hid (HO.out.trans hO)
            clear hO HR HO HL
            have c0 : w2.cell? ⟨X, 0, none⟩ = some (.int .i64 t) := HR2.out.cell_ (i := 0) rfl
            have c1 : w2.cell? ⟨X, 1, none⟩ = some (.int .i64 q) := HR2.out.cell_ (i := 1) rfl
            have c2 : w2.cell? ⟨X, 2, none⟩ = some (.int .i64 o) := HR2.out.cell_ (i := 2) rfl
            have c3 : w2.cell? ⟨X, 3, none⟩ = some (.int .i64 a) := HR2.out.cell_ (i := 3) rfl
            go_wp2
            go_ret
            exact ⟨rfl, HO2.out⟩
end Go.Proofs.YtigdbokfapedcaaGreat
/- rec.Check. -/
set_option linter.unusedVariables false
set_option linter.unusedSimpArgs false
namespace Go.Proofs.YtigdbokfapedcaaGreat
open Go.RowKit
theorem inOp_nil (t : Int) : inOp [] t = 0 := rfl
/-- Up to k all notes are right. -/
structure CkI (n : Int) (w : World) (l : List Nt) (k : Nat) (wr : World) : Prop where
  m : ∃ c, c ≤ k ∧ Mp wr w.heap.size c (vf (l.take k))
  o : Only Nil w wr
  r : ∀ x ∈ l.take k, rightN x.t x.w x.o x.a = true
  c : chkL n l = chkF n (l.take k) (l.drop k)
set_option maxRecDepth 100000 in
set_option maxHeartbeats 2000000 in
theorem rcheck_any (n : Int) (A : Option Addr) (m cap : Nat) (l : List Nt) (w : World) (hl : l.length = m) (hN : Notes w A l) (hwf : ∀ x ∈ l, (Lit.int .i64 x.t).wf = true) (hm : m ≤ 2000) :
    Calls Tryz.prog 7 #[.int .i64 n, .slice A m cap] w fun e w' => e = .returned (.tuple #[.int .i64 (chkL n l).1, .int .i64 (chkL n l).2]) ∧ Only Nil w w' := by
  have HZ := Lib.hid hl
  have HN := Lib.hid hN
  have HWF := Lib.hid hwf
  have HM := Lib.hid hm
  have q0 : (m : Int) ≤ 9223372036854775806 := by omega
  have hmm := @run_makeMap Tryz.prog
  clear hl hN hwf hm
  go_enter Tryz.func7, Tryz.ntmps7
  go_wp2_with fail
  go_loopw [13] (fun i wr => ∃ k : Nat, k ≤ m ∧ i = .int .i64 k ∧ CkI n w l k wr) (fun i _ => m - (intOf i).toNat)
  case atStart => exact ⟨0, Nat.zero_le _, rfl, ⟨0, Nat.le_refl _, mp_made w⟩, (Only.refl _ _).alloc _, (fun x hx => by simp at hx), rfl⟩
  case round =>
    obtain ⟨k, hk, rfl, HI⟩ := hrel
    obtain ⟨c, hc, hmp⟩ := HI.m
    have hO := HI.o
    have hR := HI.r
    have hC := HI.c
    clear HI
    by_cases hlt : k < m
    · obtain ⟨x, hx⟩ : ∃ x, l[k]? = some x := ⟨_, List.getElem?_eq_getElem (by rw [HZ.out]; exact hlt)⟩
      have hd : l.drop k = x :: l.drop (k + 1) := by
        obtain ⟨h1, h2⟩ := List.getElem?_eq_some_iff.1 hx
        rw [List.drop_eq_getElem_cons h1, h2]
      have ht1 : l.take (k + 1) = l.take k ++ [x] := by rw [List.take_add_one, hx]; rfl
      have hln : (l.take k).length = k := by rw [List.length_take, HZ.out]; omega
      obtain ⟨b, q, rfl, hb, hat⟩ := (HN.out.only hO) (by rw [HZ.out]; omega)
      obtain ⟨f0, f1, f2, f3⟩ := hat k x hx
      have HWX := Lib.hid (HWF.out x (List.mem_of_getElem? hx))
      have e1 := (Only.refl Nil wr).alloc (.cells #[.int .i64 x.t, .int .i64 x.w, .int .i64 x.o, .int .i64 x.a] 59)
      have HR := Lib.hid (Row.new wr 59 #[.int .i64 x.t, .int .i64 x.w, .int .i64 x.o, .int .i64 x.a])
      have HMP := Lib.hid (hmp.only e1 id)
      have HO := Lib.hid (hO.trans e1)
      have HD := Lib.hid (And.intro hd (And.intro ht1 hln))
      have HRC := Lib.hid (And.intro hR hC)
      have HKM := Lib.hid (And.intro hlt hc)
      have hfw := fault_wrong (n := n) (o := mpF (l.take k) x.t) (x := x) (mpF_right x.t (l.take k) none hR (by simp))
      rw [mpF_op] at hfw
      have HFW := Lib.hid hfw
      have q5 : (k : Int) < m := by omega
      clear hat hx hd ht1 hln hmp hO hR hC e1 hk hc hfw hlt
      go_upto_region 5 with (fail)
      clear f0 f1 f2 f3
      generalize wr.alloc _ = w1 at *
      generalize wr.heap.size = X at *
      have c0 : w1.cell? ⟨X, 0, none⟩ = some (.int .i64 x.t) := HR.out.cell_ (i := 0) rfl
      have c1 : w1.cell? ⟨X, 1, none⟩ = some (.int .i64 x.w) := HR.out.cell_ (i := 1) rfl
      have c2 : w1.cell? ⟨X, 2, none⟩ = some (.int .i64 x.o) := HR.out.cell_ (i := 2) rfl
      have c3 : w1.cell? ⟨X, 3, none⟩ = some (.int .i64 x.a) := HR.out.cell_ (i := 3) rfl
      go_wp2_with fail
      clear c0 c1 c2 c3
      refine (fault_any w.heap.size c n (l.take k) x.t x.w x.o x.a w1 HMP.out HWX.out).mono ?_
      rw [show faultM n (mpF (l.take k) x.t) ⟨x.t, x.w, x.o, x.a⟩ = wrongN n (inOp (l.take k) x.t) x from HFW.out]
      rintro e w2 ⟨rfl, hO⟩
      have HO2 := Lib.hid (HO.out.trans hO)
      have HR2 := Lib.hid (HR.out.only hO id)
      have HM2 := Lib.hid (HMP.out.only hO id)
      clear hO HR HO HMP
      generalize hwr : wrongN n (inOp (l.take k) x.t) x = wr0 at *
      have HWR := Lib.hid hwr
      clear hwr
      by_cases h0 : wr0 = 0
      · subst h0
        have c0 : w2.cell? ⟨X, 0, none⟩ = some (.int .i64 x.t) := HR2.out.cell_ (i := 0) rfl
        have c1 : w2.cell? ⟨X, 1, none⟩ = some (.int .i64 x.w) := HR2.out.cell_ (i := 1) rfl
        have c2 : w2.cell? ⟨X, 2, none⟩ = some (.int .i64 x.o) := HR2.out.cell_ (i := 2) rfl
        have c3 : w2.cell? ⟨X, 3, none⟩ = some (.int .i64 x.a) := HR2.out.cell_ (i := 3) rfl
        go_wp2_with fail
        clear c0 c1 c2 c3
        refine (opsTake_any w.heap.size c (l.take k) x.t x.w x.o x.a w2 HM2.out (by have h1 := HKM.out; have h2 := HM.out; omega) HWX.out).mono ?_
        rintro e w3 ⟨rfl, hm3, ho3⟩
        have HCI := Lib.hid (show CkI n w l (k + 1) w3 from ⟨⟨c + 1, by have := HKM.out; omega, by rw [HD.out.2.1]; exact hm3⟩, HO2.out.step ho3 (fun i hi e => by omega), fun y hy => by
          rw [HD.out.2.1] at hy
          rcases List.mem_append.1 hy with hy | hy
          · exact HRC.out.1 y hy
          · rw [List.mem_singleton.1 hy]; exact wrong_right HWR.out, by
          rw [HRC.out.2, HD.out.1, chkF, if_pos HWR.out, HD.out.2.1]⟩)
        have HLT := Lib.hid HKM.out.1
        clear hm3 ho3 HM2 HO2 HR2
        go_wp2
        exact ⟨⟨k + 1, HLT.out, by go_num, HCI.out⟩, by have := HLT.out; simp [intOf]; omega⟩
      · have HE := Lib.hid (show chkL n l = ((k : Int), wr0) by rw [HRC.out.2, HD.out.1, chkF, if_neg (by rw [HWR.out]; exact h0), HD.out.2.2, HWR.out])
        go_wp2
        go_ret2
        exact ⟨by rw [HE.out]; rfl, HO2.out⟩
    · obtain rfl : k = m := by omega
      have HE := Lib.hid (show chkL n l = (0, 0) by rw [hC, List.drop_of_length_le (by rw [HZ.out]; exact Nat.le_refl _)]; rfl)
      have HO := Lib.hid hO
      clear hmp hO hR hC hlt hk hc
      go_wp2
      go_ret2
      exact ⟨by rw [HE.out]; rfl, HO.out⟩
end Go.Proofs.YtigdbokfapedcaaGreat
