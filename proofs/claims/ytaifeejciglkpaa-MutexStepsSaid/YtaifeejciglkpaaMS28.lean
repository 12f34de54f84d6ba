import Derived.Test.YtaifeejciglkpaaMS22
import Derived.Test.YtaifeejciglkpaaMS27
import Derived.Test.YtaifeejciglkpaaMS21
import Derived.Test.YtaifeejciglkpaaMS14
set_option linter.unusedVariables false
set_option linter.unusedSimpArgs false
namespace Go.Proofs.Ytaifeejciglkpaa
open Go.RowKit
set_option maxRecDepth 100000 in
set_option maxHeartbeats 1000000 in
theorem msteps_1 (A0 : Option Addr) (l cap : Nat) (n mode task f0 f1 f2 f3 f4 : Int) (f5 : Bool) (f6 f7 : Int) (f8 : Bool) (f9 kind a cl : Int) (A8 : Option Addr) (l8 cap8 : Nat) (w : World) (h : (1024 : Int) < l) : Calls Try.prog 3 #[.slice A0 l cap, .int .i64 n, .int .i64 mode, .int .i64 task, .agg #[.int .i64 f0, .int .i64 f1, .int .u32 f2, .int .u32 f3, .int .i64 f4, .bool f5, .int .i64 f6, .int .i64 f7, .bool f8, .int .i64 f9], .int .i64 kind, .int .i64 a, .int .i64 cl, .slice A8 l8 cap8] w fun e w' => e = .returned (.bool true) ∧ Only Nil w w' := by
  have HO := Lib.hid ((Only.refl Nil w).alloc (.cells #[.int .i64 f0, .int .i64 f1, .int .u32 f2, .int .u32 f3, .int .i64 f4, .bool f5, .int .i64 f6, .int .i64 f7, .bool f8, .int .i64 f9] 29))
  go_enter Try.func3, Try.ntmps3
  go_wp2_with fail
  refine (awake_any _).mono ?_
  rintro e w1 ⟨rfl, hO⟩
  have HO1 := Lib.hid (HO.out.trans hO)
  clear hO
  go_wp2
  go_ret
  exact ⟨rfl, HO1.out⟩
set_option maxRecDepth 100000 in
set_option maxHeartbeats 1000000 in
theorem msteps_2 (A0 : Option Addr) (l cap : Nat) (n mode task f0 f1 f2 f3 f4 : Int) (f5 : Bool) (f6 f7 : Int) (f8 : Bool) (f9 kind a cl : Int) (A8 : Option Addr) (l8 cap8 : Nat) (w : World) (h1 : ¬ (1024 : Int) < l) (h : (10 : Int) < l8) : Calls Try.prog 3 #[.slice A0 l cap, .int .i64 n, .int .i64 mode, .int .i64 task, .agg #[.int .i64 f0, .int .i64 f1, .int .u32 f2, .int .u32 f3, .int .i64 f4, .bool f5, .int .i64 f6, .int .i64 f7, .bool f8, .int .i64 f9], .int .i64 kind, .int .i64 a, .int .i64 cl, .slice A8 l8 cap8] w fun e w' => e = .returned (.bool true) ∧ Only Nil w w' := by
  have HO := Lib.hid ((Only.refl Nil w).alloc (.cells #[.int .i64 f0, .int .i64 f1, .int .u32 f2, .int .u32 f3, .int .i64 f4, .bool f5, .int .i64 f6, .int .i64 f7, .bool f8, .int .i64 f9] 29))
  go_enter Try.func3, Try.ntmps3
  go_wp2_with fail
  refine (awake_any _).mono ?_
  rintro e w1 ⟨rfl, hO⟩
  have HO1 := Lib.hid (HO.out.trans hO)
  clear hO
  go_wp2
  go_ret
  exact ⟨rfl, HO1.out⟩
set_option maxRecDepth 100000 in
set_option maxHeartbeats 1000000 in
theorem msteps_3 (A0 : Option Addr) (l cap : Nat) (n mode task f0 f1 f2 f3 f4 : Int) (f5 : Bool) (f6 f7 : Int) (f8 : Bool) (f9 kind a cl : Int) (A8 : Option Addr) (l8 cap8 : Nat) (w : World) (h1 : ¬ (1024 : Int) < l) (h2 : ¬ (10 : Int) < l8) (h : 1000 < a) : Calls Try.prog 3 #[.slice A0 l cap, .int .i64 n, .int .i64 mode, .int .i64 task, .agg #[.int .i64 f0, .int .i64 f1, .int .u32 f2, .int .u32 f3, .int .i64 f4, .bool f5, .int .i64 f6, .int .i64 f7, .bool f8, .int .i64 f9], .int .i64 kind, .int .i64 a, .int .i64 cl, .slice A8 l8 cap8] w fun e w' => e = .returned (.bool true) ∧ Only Nil w w' := by
  have HO := Lib.hid ((Only.refl Nil w).alloc (.cells #[.int .i64 f0, .int .i64 f1, .int .u32 f2, .int .u32 f3, .int .i64 f4, .bool f5, .int .i64 f6, .int .i64 f7, .bool f8, .int .i64 f9] 29))
  go_enter Try.func3, Try.ntmps3
  go_wp2_with fail
  refine (awake_any _).mono ?_
  rintro e w1 ⟨rfl, hO⟩
  have HO1 := Lib.hid (HO.out.trans hO)
  clear hO
  go_wp2
  go_ret
  exact ⟨rfl, HO1.out⟩
set_option maxRecDepth 100000 in
set_option maxHeartbeats 1000000 in
theorem msteps_4 (A0 : Option Addr) (l cap : Nat) (n mode task f0 f1 f2 f3 f4 : Int) (f5 : Bool) (f6 f7 : Int) (f8 : Bool) (f9 kind a cl : Int) (A8 : Option Addr) (l8 cap8 : Nat) (w : World) (h1 : ¬ (1024 : Int) < l) (h2 : ¬ (10 : Int) < l8) (h3 : ¬ 1000 < a) (h : a < -1000) : Calls Try.prog 3 #[.slice A0 l cap, .int .i64 n, .int .i64 mode, .int .i64 task, .agg #[.int .i64 f0, .int .i64 f1, .int .u32 f2, .int .u32 f3, .int .i64 f4, .bool f5, .int .i64 f6, .int .i64 f7, .bool f8, .int .i64 f9], .int .i64 kind, .int .i64 a, .int .i64 cl, .slice A8 l8 cap8] w fun e w' => e = .returned (.bool true) ∧ Only Nil w w' := by
  have HO := Lib.hid ((Only.refl Nil w).alloc (.cells #[.int .i64 f0, .int .i64 f1, .int .u32 f2, .int .u32 f3, .int .i64 f4, .bool f5, .int .i64 f6, .int .i64 f7, .bool f8, .int .i64 f9] 29))
  go_enter Try.func3, Try.ntmps3
  go_wp2_with fail
  refine (awake_any _).mono ?_
  rintro e w1 ⟨rfl, hO⟩
  have HO1 := Lib.hid (HO.out.trans hO)
  clear hO
  go_wp2
  go_ret
  exact ⟨rfl, HO1.out⟩
set_option maxRecDepth 100000 in
set_option maxHeartbeats 1000000 in
theorem msteps_5 (A0 : Option Addr) (l cap : Nat) (n mode task f0 f1 f2 f3 f4 : Int) (f5 : Bool) (f6 f7 : Int) (f8 : Bool) (f9 kind a cl : Int) (A8 : Option Addr) (l8 cap8 : Nat) (w : World) (h1 : ¬ (1024 : Int) < l) (h2 : ¬ (10 : Int) < l8) (h3 : ¬ 1000 < a) (h4 : ¬ a < -1000) (h : 1000 < f1) : Calls Try.prog 3 #[.slice A0 l cap, .int .i64 n, .int .i64 mode, .int .i64 task, .agg #[.int .i64 f0, .int .i64 f1, .int .u32 f2, .int .u32 f3, .int .i64 f4, .bool f5, .int .i64 f6, .int .i64 f7, .bool f8, .int .i64 f9], .int .i64 kind, .int .i64 a, .int .i64 cl, .slice A8 l8 cap8] w fun e w' => e = .returned (.bool true) ∧ Only Nil w w' := by
  have HO := Lib.hid ((Only.refl Nil w).alloc (.cells #[.int .i64 f0, .int .i64 f1, .int .u32 f2, .int .u32 f3, .int .i64 f4, .bool f5, .int .i64 f6, .int .i64 f7, .bool f8, .int .i64 f9] 29))
  go_enter Try.func3, Try.ntmps3
  go_wp2_with fail
  refine (awake_any _).mono ?_
  rintro e w1 ⟨rfl, hO⟩
  have HO1 := Lib.hid (HO.out.trans hO)
  clear hO
  go_wp2
  go_ret
  exact ⟨rfl, HO1.out⟩
set_option maxRecDepth 100000 in
set_option maxHeartbeats 1000000 in
theorem msteps_6 (A0 : Option Addr) (l cap : Nat) (n mode task f0 f1 f2 f3 f4 : Int) (f5 : Bool) (f6 f7 : Int) (f8 : Bool) (f9 kind a cl : Int) (A8 : Option Addr) (l8 cap8 : Nat) (w : World) (h1 : ¬ (1024 : Int) < l) (h2 : ¬ (10 : Int) < l8) (h3 : ¬ 1000 < a) (h4 : ¬ a < -1000) (h5 : ¬ 1000 < f1) (h : f1 < -1000) : Calls Try.prog 3 #[.slice A0 l cap, .int .i64 n, .int .i64 mode, .int .i64 task, .agg #[.int .i64 f0, .int .i64 f1, .int .u32 f2, .int .u32 f3, .int .i64 f4, .bool f5, .int .i64 f6, .int .i64 f7, .bool f8, .int .i64 f9], .int .i64 kind, .int .i64 a, .int .i64 cl, .slice A8 l8 cap8] w fun e w' => e = .returned (.bool true) ∧ Only Nil w w' := by
  have HO := Lib.hid ((Only.refl Nil w).alloc (.cells #[.int .i64 f0, .int .i64 f1, .int .u32 f2, .int .u32 f3, .int .i64 f4, .bool f5, .int .i64 f6, .int .i64 f7, .bool f8, .int .i64 f9] 29))
  go_enter Try.func3, Try.ntmps3
  go_wp2_with fail
  refine (awake_any _).mono ?_
  rintro e w1 ⟨rfl, hO⟩
  have HO1 := Lib.hid (HO.out.trans hO)
  clear hO
  go_wp2
  go_ret
  exact ⟨rfl, HO1.out⟩
set_option maxRecDepth 100000 in
set_option maxHeartbeats 1000000 in
theorem msteps_7 (A0 : Option Addr) (l cap : Nat) (n mode task f0 f1 f2 f3 f4 : Int) (f5 : Bool) (f6 f7 : Int) (f8 : Bool) (f9 kind a cl : Int) (A8 : Option Addr) (l8 cap8 : Nat) (w : World) (h1 : ¬ (1024 : Int) < l) (h2 : ¬ (10 : Int) < l8) (h3 : ¬ 1000 < a) (h4 : ¬ a < -1000) (h5 : ¬ 1000 < f1) (h6 : ¬ f1 < -1000) (h : task = 9223372036854775807) : Calls Try.prog 3 #[.slice A0 l cap, .int .i64 n, .int .i64 mode, .int .i64 task, .agg #[.int .i64 f0, .int .i64 f1, .int .u32 f2, .int .u32 f3, .int .i64 f4, .bool f5, .int .i64 f6, .int .i64 f7, .bool f8, .int .i64 f9], .int .i64 kind, .int .i64 a, .int .i64 cl, .slice A8 l8 cap8] w fun e w' => e = .returned (.bool true) ∧ Only Nil w w' := by
  subst h
  have HO := Lib.hid ((Only.refl Nil w).alloc (.cells #[.int .i64 f0, .int .i64 f1, .int .u32 f2, .int .u32 f3, .int .i64 f4, .bool f5, .int .i64 f6, .int .i64 f7, .bool f8, .int .i64 f9] 29))
  go_enter Try.func3, Try.ntmps3
  go_wp2_with fail
  refine (awake_any _).mono ?_
  rintro e w1 ⟨rfl, hO⟩
  have HO1 := Lib.hid (HO.out.trans hO)
  clear hO
  go_wp2
  go_ret
  exact ⟨rfl, HO1.out⟩
theorem frame_heldM {w : World} {gf : Nat} {f0 f1 f2 f3 f4 : Int} {f5 : Bool} {f6 f7 : Int} {f8 : Bool} {f9 : Int} (h : Row w gf 29 #[.int .i64 f0, .int .i64 f1, .int .u32 f2, .int .u32 f3, .int .i64 f4, .bool f5, .int .i64 f6, .int .i64 f7, .bool f8, .int .i64 f9]) : w.cell? ⟨gf, 0, none⟩ = some (.int .i64 f0) ∧ w.cell? ⟨gf, 1, none⟩ = some (.int .i64 f1) ∧ w.cell? ⟨gf, 2, none⟩ = some (.int .u32 f2) ∧ w.cell? ⟨gf, 3, none⟩ = some (.int .u32 f3) ∧ w.cell? ⟨gf, 4, none⟩ = some (.int .i64 f4) ∧ w.cell? ⟨gf, 5, none⟩ = some (.bool f5) ∧ w.cell? ⟨gf, 6, none⟩ = some (.int .i64 f6) ∧ w.cell? ⟨gf, 7, none⟩ = some (.int .i64 f7) ∧ w.cell? ⟨gf, 8, none⟩ = some (.bool f8) ∧ w.cell? ⟨gf, 9, none⟩ = some (.int .i64 f9) :=
  ⟨h.cell_ (i := 0) rfl, h.cell_ (i := 1) rfl, h.cell_ (i := 2) rfl, h.cell_ (i := 3) rfl, h.cell_ (i := 4) rfl, h.cell_ (i := 5) rfl, h.cell_ (i := 6) rfl, h.cell_ (i := 7) rfl, h.cell_ (i := 8) rfl, h.cell_ (i := 9) rfl⟩
theorem whats_of {w0 w : World} {B : Nat} {A Z : Option Addr} {n c : Nat} {ls : List Int} (h : IsRow .i64 w0 Z n c ls) (ho : Only Nil w0 w) (hB : w0.heap.size ≤ B) (hA : ∀ j, At A j → w0.heap.size ≤ j) : Whats B A w (.slice Z n c) ls := by
  refine ⟨Z, c, by rw [h.len_], fun w' h' i x hx => ?_⟩
  have hl := (List.getElem?_eq_some_iff.1 hx).1
  obtain ⟨b, o, e, hb, hc⟩ := h.ints (by omega)
  refine ⟨b, o, e, ?_⟩
  have h1 := hc i hl
  rw [List.getD, hx] at h1
  have h2 : w.cell? ⟨b, o + i, none⟩ = some (.int .i64 x) := (ho.cell (p := ⟨b, o + i, none⟩) hb id).trans h1
  exact (h'.cell (p := ⟨b, o + i, none⟩) (by have := ho.size; show b < _; omega) (fun e => by
    rcases e with e | e
    · have e : b = B := e
      omega
    · have := hA b e; omega)).trans h2
set_option maxRecDepth 100000 in
set_option maxHeartbeats 8000000 in
theorem msteps_main (A0 : Option Addr) (l cap : Nat) (n mode task f0 f1 f2 f3 f4 : Int) (f5 : Bool) (f6 f7 : Int) (f8 : Bool) (f9 kind a cl : Int) (A8 : Option Addr) (l8 cap8 : Nat) (w : World) (xs zs : List Int) (hr : IsRow .u32 w A0 l cap xs) (hz : IsRow .i64 w A8 l8 cap8 zs) (hl : l ≤ 1024) (hf2 : 0 ≤ f2 ∧ f2 < 4294967296)
    (h1 : ¬ (1024 : Int) < l) (h2 : ¬ (10 : Int) < l8) (h3 : ¬ 1000 < a) (h4 : ¬ a < -1000) (h5 : ¬ 1000 < f1) (h6 : ¬ f1 < -1000) (h7 : ¬ task = 9223372036854775807) : Calls Try.prog 3 #[.slice A0 l cap, .int .i64 n, .int .i64 mode, .int .i64 task, .agg #[.int .i64 f0, .int .i64 f1, .int .u32 f2, .int .u32 f3, .int .i64 f4, .bool f5, .int .i64 f6, .int .i64 f7, .bool f8, .int .i64 f9], .int .i64 kind, .int .i64 a, .int .i64 cl, .slice A8 l8 cap8] w fun e w' => e = .returned (.bool true) ∧ Only Nil w w' := by
  have HR := Lib.hid hr
  have HZS := Lib.hid hz
  have HF2 := Lib.hid hf2
  have HAB := Lib.hid (show -1000 ≤ a ∧ a ≤ 1000 by omega)
  have HZL := Lib.hid (show zs.length ≤ 10 by rw [hz.len_]; omega)
  have h7' : (task == 9223372036854775807) = false := beq_eq_false_iff_ne.2 h7
  have HO0 := Lib.hid ((Only.refl Nil w).alloc (.cells #[.int .i64 f0, .int .i64 f1, .int .u32 f2, .int .u32 f3, .int .i64 f4, .bool f5, .int .i64 f6, .int .i64 f7, .bool f8, .int .i64 f9] 29))
  have HF0 := Lib.hid (Row.new w 29 #[.int .i64 f0, .int .i64 f1, .int .u32 f2, .int .u32 f3, .int .i64 f4, .bool f5, .int .i64 f6, .int .i64 f7, .bool f8, .int .i64 f9])
  clear hr hf2 hz h7
  go_enter Try.func3, Try.ntmps3
  go_wp2_with fail
  generalize w.alloc (.cells #[.int .i64 f0, .int .i64 f1, .int .u32 f2, .int .u32 f3, .int .i64 f4, .bool f5, .int .i64 f6, .int .i64 f7, .bool f8, .int .i64 f9] 29) = w1 at *
  generalize hgf : w.heap.size = gf at *
  have HGF := Lib.hid hgf
  clear hgf h1 h2 h3 h4 h5 h6 h7'
  refine (from_ok A0 l cap xs _ hl ((isRow_held HR.out).only HO0.out (fun _ _ => id))).mono ?_
  intro e w2 hF
  obtain ⟨b, A', c', rfl, hb, hA, hM, hO⟩ := hF
  have HM := Lib.hid (Memo.of hM)
  have HLT := Lib.hid (show ∀ j, At (some (⟨b, 0, none⟩ : Addr)) j ∨ At A' j → w.heap.size ≤ j ∧ j < w2.heap.size from fun j hj => by
    have hz := HO0.out.size
    refine ⟨?_, HM.out.lt j hj⟩
    rcases hj with ⟨a, ha, rfl⟩ | hj
    · cases ha; show w.heap.size ≤ b; omega
    · have := hA j hj; omega)
  have HO1 := Lib.hid (HO0.out.trans hO)
  have HF1 := Lib.hid (HF0.out.only hO id)
  clear hb hA hM hO HO0 HF0
  have a0 : w2.cell? ⟨gf, 0, none⟩ = some (.int .i64 f0) := HF1.out.cell_ (i := 0) rfl
  have a1 : w2.cell? ⟨gf, 1, none⟩ = some (.int .i64 f1) := HF1.out.cell_ (i := 1) rfl
  have a2 : w2.cell? ⟨gf, 2, none⟩ = some (.int .u32 f2) := HF1.out.cell_ (i := 2) rfl
  have a3 : w2.cell? ⟨gf, 3, none⟩ = some (.int .u32 f3) := HF1.out.cell_ (i := 3) rfl
  have a4 : w2.cell? ⟨gf, 4, none⟩ = some (.int .i64 f4) := HF1.out.cell_ (i := 4) rfl
  have a5 : w2.cell? ⟨gf, 5, none⟩ = some (.bool f5) := HF1.out.cell_ (i := 5) rfl
  have a6 : w2.cell? ⟨gf, 6, none⟩ = some (.int .i64 f6) := HF1.out.cell_ (i := 6) rfl
  have a7 : w2.cell? ⟨gf, 7, none⟩ = some (.int .i64 f7) := HF1.out.cell_ (i := 7) rfl
  have a8 : w2.cell? ⟨gf, 8, none⟩ = some (.bool f8) := HF1.out.cell_ (i := 8) rfl
  have a9 : w2.cell? ⟨gf, 9, none⟩ = some (.int .i64 f9) := HF1.out.cell_ (i := 9) rfl
  go_upto_region 7 with (fail)
  clear a0 a1 a2 a3 a4 a5 a6 a7 a8 a9
  have e0 := (Only.refl Nil w2).alloc (.cells #[.pointer (some ⟨b, 0, none⟩), .int .i64 n, .int .i64 mode, .int .i64 task, .int .i64 f0, .int .i64 f1, .int .u32 f2, .int .u32 f3, .int .i64 f4, .bool f5, .int .i64 f6, .int .i64 f7, .bool f8, .int .i64 f9, .int .i64 0, .int .i64 0, .int .u32 0, .int .u32 0, .int .u32 0, .slice none 0 0] 43)
  have HP : Hid (RunP (w2.alloc (.cells #[.pointer (some ⟨b, 0, none⟩), .int .i64 n, .int .i64 mode, .int .i64 task, .int .i64 f0, .int .i64 f1, .int .u32 f2, .int .u32 f3, .int .i64 f4, .bool f5, .int .i64 f6, .int .i64 f7, .bool f8, .int .i64 f9, .int .i64 0, .int .i64 0, .int .u32 0, .int .u32 0, .int .u32 0, .slice none 0 0] 43)) w2.heap.size (some ⟨b, 0, none⟩) A' c' (.slice none 0 0) (⟨n, mode, task, f0, f1, f2, f3, f4, ⟨f5, f6, f7, f8⟩, f9, acc0, [], xs⟩ : LS)) :=
    Lib.hid ⟨Row.new w2 43 _, ownN_nil _ _, HM.out.keep e0⟩
  have HO2 := Lib.hid (HO1.out.trans e0)
  have HF2b := Lib.hid (HF1.out.only e0 id)
  have HBB := Lib.hid (show w.heap.size ≤ w2.heap.size from HO1.out.size)
  have HZ := Lib.hid (show w2.heap.size ≤ (w2.alloc (.cells #[.pointer (some ⟨b, 0, none⟩), .int .i64 n, .int .i64 mode, .int .i64 task, .int .i64 f0, .int .i64 f1, .int .u32 f2, .int .u32 f3, .int .i64 f4, .bool f5, .int .i64 f6, .int .i64 f7, .bool f8, .int .i64 f9, .int .i64 0, .int .i64 0, .int .u32 0, .int .u32 0, .int .u32 0, .slice none 0 0] 43)).heap.size from e0.size)
  clear HM HO1 HF1 e0
  generalize w2.alloc (.cells #[.pointer (some ⟨b, 0, none⟩), .int .i64 n, .int .i64 mode, .int .i64 task, .int .i64 f0, .int .i64 f1, .int .u32 f2, .int .u32 f3, .int .i64 f4, .bool f5, .int .i64 f6, .int .i64 f7, .bool f8, .int .i64 f9, .int .i64 0, .int .i64 0, .int .u32 0, .int .u32 0, .int .u32 0, .slice none 0 0] 43) = w3 at *
  generalize w2.heap.size = B at *
  refine wp_region_phase (n := 9) 7 (fun w => w.cell? ⟨gf, 0, none⟩ = some (.int .i64 f0) ∧ w.cell? ⟨gf, 1, none⟩ = some (.int .i64 f1) ∧ w.cell? ⟨gf, 2, none⟩ = some (.int .u32 f2) ∧ w.cell? ⟨gf, 3, none⟩ = some (.int .u32 f3) ∧ w.cell? ⟨gf, 4, none⟩ = some (.int .i64 f4) ∧ w.cell? ⟨gf, 5, none⟩ = some (.bool f5) ∧ w.cell? ⟨gf, 6, none⟩ = some (.int .i64 f6) ∧ w.cell? ⟨gf, 7, none⟩ = some (.int .i64 f7) ∧ w.cell? ⟨gf, 8, none⟩ = some (.bool f8) ∧ w.cell? ⟨gf, 9, none⟩ = some (.int .i64 f9)) rfl (by kernel_rfl) (frame_heldM HF2b.out) (fun hHeld => ?_)
  have HP3 := Lib.hid (HP.out.keep (Only.refl Nil w3).drew)
  have HO3 := Lib.hid HO2.out.drew
  have HF3 := Lib.hid HF2b.out.drew
  have HZ3 : Hid (B ≤ w3.drew.heap.size) := Lib.hid HZ.out
  clear HP HO2 HF2b HZ
  generalize w3.drew = w4 at *
  refine mpa 0 rfl (.slice A0 l cap) (fun w => ?_) ?_
  · go_simp
  (try simp only [Act.put, k1, k2, k3])
  refine mpa 2 rfl (.int .i64 n) (fun w => ?_) ?_
  · go_simp
  (try simp only [Act.put, k1, k2, k3])
  refine mpa 3 rfl (.int .i64 mode) (fun w => ?_) ?_
  · go_simp
  (try simp only [Act.put, k1, k2, k3])
  refine mpa 4 rfl (.int .i64 task) (fun w => ?_) ?_
  · go_simp
  (try simp only [Act.put, k1, k2, k3])
  refine mpt 5 rfl (.agg #[.int .i64 f0, .int .i64 f1, .int .u32 f2, .int .u32 f3, .int .i64 f4, .bool f5, .int .i64 f6, .int .i64 f7, .bool f8, .int .i64 f9]) (fun w hSw => ?_) ?_
  · (try dsimp only at hSw)
    go_split_ands
    go_simp
  (try simp only [Act.put, k1, k2, k3])
  refine mpc 1 rfl (by kernel_rfl) (by rfl) (fun K hK => ?_)
  go_simp
  refine (copy_n A0 l cap xs _ (by omega) ((isRow_held HR.out).only HO3.out (fun _ _ => id))).mono ?_
  intro e w5 hF
  obtain ⟨A2, c2, rfl, hOwn, hO⟩ := hF
  have HW5 := Lib.hid hOwn
  have HP5 := Lib.hid (HP3.out.keep hO)
  have HO5 := Lib.hid (HO3.out.trans hO)
  have HF5 := Lib.hid (HF3.out.only hO id)
  have HM5 := Lib.hid hO.size
  have hHeld2 := frame_heldM HF5.out
  refine hK.out _ _ (.inr hHeld2) ?_
  clear hK K hHeld hO hOwn HP3 HO3 HF3
  generalize hgM : w4.heap.size = M at *
  clear hgM
  (try simp only [Act.put, k1, k2, k3])
  refine mpa 6 rfl (.agg #[.slice A2 l c2, .int .i64 n, .int .i64 mode, .int .i64 task, .int .i64 f0, .int .i64 f1, .int .u32 f2, .int .u32 f3, .int .i64 f4, .bool f5, .int .i64 f6, .int .i64 f7, .bool f8, .int .i64 f9, .int .i64 0, .int .i64 0, .int .u32 0, .int .u32 0, .int .u32 0, .slice none 0 0]) (fun w => ?_) ?_
  · go_simp
  (try simp only [Act.put, k1, k2, k3])
  refine mpc 7 rfl (by kernel_rfl) (by rfl) (fun K hK => ?_)
  go_simp
  have e0 := (Only.refl Nil w5).alloc (.cells #[.slice A2 l c2, .int .i64 n, .int .i64 mode, .int .i64 task, .int .i64 f0, .int .i64 f1, .int .u32 f2, .int .u32 f3, .int .i64 f4, .bool f5, .int .i64 f6, .int .i64 f7, .bool f8, .int .i64 f9, .int .i64 0, .int .i64 0, .int .u32 0, .int .u32 0, .int .u32 0, .slice none 0 0] 47)
  have HT : Hid (Two w B w5.heap.size M (some ⟨b, 0, none⟩) A' A2 c' l c2 (.slice none 0 0) (.slice none 0 0) (⟨n, mode, task, f0, f1, f2, f3, f4, ⟨f5, f6, f7, f8⟩, f9, acc0, [], xs⟩ : LS) (⟨n, mode, task, f0, f1, f2, f3, f4, ⟨f5, f6, f7, f8⟩, f9, acc0, [], xs⟩ : LS) (w5.alloc (.cells #[.slice A2 l c2, .int .i64 n, .int .i64 mode, .int .i64 task, .int .i64 f0, .int .i64 f1, .int .u32 f2, .int .u32 f3, .int .i64 f4, .bool f5, .int .i64 f6, .int .i64 f7, .bool f8, .int .i64 f9, .int .i64 0, .int .i64 0, .int .u32 0, .int .u32 0, .int .u32 0, .slice none 0 0] 47))) :=
    Lib.hid ⟨HP5.out.keep e0, ⟨Row.new w5 47 _, ownN_nil _ _, HW5.out.only e0 (fun _ _ => id), HR.out.len_⟩, HO5.out.trans e0, HBB.out, HO5.out.size, fun j hj => by have := HLT.out j hj; have := HZ3.out; omega, by have := HBB.out; have := HZ3.out; omega⟩
  have HF6 := Lib.hid (HF5.out.only e0 id)
  refine hK.out _ _ (.inl (by kernel_rfl)) ?_
  clear hK K e0 hHeld2 HP5 HO5 HF5 HW5 HM5 HBB HZ3 HLT
  generalize w5.alloc (.cells #[.slice A2 l c2, .int .i64 n, .int .i64 mode, .int .i64 task, .int .i64 f0, .int .i64 f1, .int .u32 f2, .int .u32 f3, .int .i64 f4, .bool f5, .int .i64 f6, .int .i64 f7, .bool f8, .int .i64 f9, .int .i64 0, .int .i64 0, .int .u32 0, .int .u32 0, .int .u32 0, .slice none 0 0] 47) = w6 at *
  generalize w5.heap.size = B' at *
  (try simp only [Act.put, k1, k2, k3])
  refine mpa 8 rfl (.pointer (some ⟨B', 0, none⟩)) (fun w => ?_) ?_
  · go_simp
  (try simp only [Act.put, k1, k2, k3])
  refine wpAnyP_done (by kernel_rfl) ?_ _
  have HWF := Lib.hid HR.out.wf
  have HFA := Lib.hid (show ((⟨n, mode, task, f0, f1, f2, f3, f4, ⟨f5, f6, f7, f8⟩, f9, acc0, [], xs⟩ : LS)).a = f2 from rfl)
  have HFN := Lib.hid (show ((⟨n, mode, task, f0, f1, f2, f3, f4, ⟨f5, f6, f7, f8⟩, f9, acc0, [], xs⟩ : LS)).ns.length ≤ 0 from Nat.le_refl _)
  generalize hrr : (⟨n, mode, task, f0, f1, f2, f3, f4, ⟨f5, f6, f7, f8⟩, f9, acc0, [], xs⟩ : LS) = r1 at *
  have HX1 := Lib.hid (show Words r1.xs by rw [← hrr]; exact HWF.out)
  clear hrr
  have HA1 := Lib.hid (show 0 ≤ r1.a ∧ r1.a < 4294967296 by rw [HFA.out]; exact HF2.out)
  have HL1 := Lib.hid (show r1.ns.length ≤ 900 from Nat.le_trans HFN.out (Nat.zero_le _))
  have HW1 := Lib.hid (whats_of (B := B) (A := A') HZS.out HT.out.only HT.out.bB (fun j hj => (HT.out.bA j (.inr hj)).1))
  by_cases k0 : kind = 0
  · subst k0
    have HNS := Lib.hid (show (r1.mxEnter 0 cl).1.ns.length ≤ 100 from Nat.le_trans (keep_enter r1 0 cl).1.notes (by have := HFN.out; omega))
    go_wp2_with fail
    refine (enter_run B (some ⟨b, 0, none⟩) A' c' _ r1 0 cl _ HT.out.hp HL1.out HX1.out HA1.out).mono ?_
    rintro e w7 ⟨rfl, hO, nvp2, hP⟩
    have HT1 := Lib.hid (HT.out.prog HF6.out (hO.mono (fun _ _ e => .inl e)) (by decide) (by decide) (by decide) (by rw [HGF.out]; exact Nat.le_refl _) hP)
    clear hO hP HT HF6
    go_wp2_with fail
    refine (renter_run B' M A2 l c2 _ r1 0 cl _ HT1.out.hr HL1.out HX1.out HA1.out).mono ?_
    rintro e w8 ⟨rfl, hO, nvr2, hR⟩
    have HT3 := Lib.hid (HT1.out.answ hO hR)
    clear hO hR HT1
    generalize r1.mxEnter 0 cl = pr at *
    obtain ⟨r2, d⟩ := pr
    dsimp only at HT3 HNS
    go_wp2_with fail
    refine (try_nil 0 0 _).mono ?_
    rintro e w9 ⟨rfl, rfl⟩
    go_wp2_with fail
    refine (enter_nil 0 0 _).mono ?_
    rintro e w9 ⟨rfl, rfl⟩
    go_wp2_with fail
    refine (give_nil 0 0 _ _).mono ?_
    rintro e w9 ⟨rfl, rfl⟩
    go_upto_region 21 with (fail)
    refine cmp_mx _ _ _ _ _ _ _ _ _ _ _ _ _ _ _ _ _ _ _ _ _ _ _ _ _ _ _ _ _ _ _ _ _ _ _ _ _ _ _ _ _ _ _ _ _ _ _ _ _ _ _ _ _ _ _ _ _ _ _ _ _ _ _ _ _ _ _ _ _ _ _ _ _ _ _ _ _ _ _ _ _ _ _ _ _ _ _ _ _ _ _ _ _ _ _ _ _ _ _ _ _ _ _ _ _ _ _ _ _ _ _ _ _ _ _ _ _ _ _ _ _ _ _ _ _ _ _ _ _ _ _ _ _ _ _ _ _ _ _ _ _ _ _ _ _ _ _ _ _ _ _ _ _ _ _ _ _ _ _ _ _ _ _ _ _ _ _ _ _ _ _ _ _ _ w w8 B B' M b l c' c2 A' A2 nvp2 nvr2 r2 d false HT3 hl HNS.out (fun _ _ _ _ _ h => h) ?_
    intro _ _ _ _ _ _ _ _ _ _ _ _ _ _ _ _ _ _ _ _ _ _ _ _ _ _ _ _ _ _ _ _ _ _ _ _ _ _ _ _ _ _ _ _ _ _ _ _ _ _ _ _ _ w19 hO
    have HO9 := Lib.hid hO
    clear hO
    go_wp2
    go_ret
    exact ⟨rfl, HO9.out⟩
  have k0' : (kind == 0) = false := beq_eq_false_iff_ne.2 k0
  by_cases k1 : kind = 1
  · subst k1
    have HNS := Lib.hid (show (r1.mxGive 0 a zs).1.ns.length ≤ 100 from Nat.le_trans (keep_give r1 0 a zs).1.notes (by have := HFN.out; have := HZL.out; omega))
    have HZ9 := Lib.hid (Nat.le_trans HZL.out (show 10 ≤ 90 by decide))
    go_wp2_with fail
    refine (give_run B (some ⟨b, 0, none⟩) A' c' _ r1 0 a _ HT.out.hp HL1.out HX1.out HA1.out _ zs HW1.out HZ9.out HAB.out.1 HAB.out.2).mono ?_
    rintro e w7 ⟨rfl, hO, nvp2, hP⟩
    have HT1 := Lib.hid (HT.out.prog HF6.out (hO.mono (fun _ _ e => .inl e)) (by decide) (by decide) (by decide) (by rw [HGF.out]; exact Nat.le_refl _) hP)
    clear hO hP HT HF6
    have HW2 := Lib.hid (whats_of (B := B') (A := A2) HZS.out HT1.out.only HT1.out.bR (fun j hj => Nat.le_trans HT1.out.bM (HT1.out.hr.own.base j hj)))
    go_wp2_with fail
    refine (rgive_run B' M A2 l c2 _ r1 0 a _ HT1.out.hr HL1.out HX1.out HA1.out _ zs HW2.out HZ9.out HAB.out.1 HAB.out.2).mono ?_
    rintro e w8 ⟨rfl, hO, nvr2, hR⟩
    have HT3 := Lib.hid (HT1.out.answ hO hR)
    clear hO hR HT1
    generalize r1.mxGive 0 a zs = pr at *
    obtain ⟨r2, d⟩ := pr
    dsimp only at HT3 HNS
    go_wp2_with fail
    refine (try_nil 0 0 _).mono ?_
    rintro e w9 ⟨rfl, rfl⟩
    go_wp2_with fail
    refine (enter_nil 0 0 _).mono ?_
    rintro e w9 ⟨rfl, rfl⟩
    go_wp2_with fail
    refine (give_nil 0 0 _ _).mono ?_
    rintro e w9 ⟨rfl, rfl⟩
    go_upto_region 21 with (fail)
    refine cmp_mx _ _ _ _ _ _ _ _ _ _ _ _ _ _ _ _ _ _ _ _ _ _ _ _ _ _ _ _ _ _ _ _ _ _ _ _ _ _ _ _ _ _ _ _ _ _ _ _ _ _ _ _ _ _ _ _ _ _ _ _ _ _ _ _ _ _ _ _ _ _ _ _ _ _ _ _ _ _ _ _ _ _ _ _ _ _ _ _ _ _ _ _ _ _ _ _ _ _ _ _ _ _ _ _ _ _ _ _ _ _ _ _ _ _ _ _ _ _ _ _ _ _ _ _ _ _ _ _ _ _ _ _ _ _ _ _ _ _ _ _ _ _ _ _ _ _ _ _ _ _ _ _ _ _ _ _ _ _ _ _ _ _ _ _ _ _ _ _ _ _ _ _ _ _ w w8 B B' M b l c' c2 A' A2 nvp2 nvr2 r2 d false HT3 hl HNS.out (fun _ _ _ _ _ h => h) ?_
    intro _ _ _ _ _ _ _ _ _ _ _ _ _ _ _ _ _ _ _ _ _ _ _ _ _ _ _ _ _ _ _ _ _ _ _ _ _ _ _ _ _ _ _ _ _ _ _ _ _ _ _ _ _ w19 hO
    have HO9 := Lib.hid hO
    clear hO
    go_wp2
    go_ret
    exact ⟨rfl, HO9.out⟩
  · have k1' : (kind == 1) = false := beq_eq_false_iff_ne.2 k1
    clear k0 k1
    have HNS := Lib.hid (show (r1.mxTry 0 a).1.ns.length ≤ 100 from by
      have hn : (r1.mxTry 0 a).1.ns = r1.ns := by unfold LS.mxTry; (repeat' split) <;> rfl
      rw [hn]
      exact Nat.le_trans HFN.out (Nat.zero_le _))
    go_wp2_with fail
    refine (try_run B (some ⟨b, 0, none⟩) A' c' _ r1 0 a _ HT.out.hp HL1.out HX1.out HA1.out HAB.out.1 HAB.out.2).mono ?_
    rintro e w7 ⟨rfl, hO, nvp2, hP⟩
    have HT1 := Lib.hid (HT.out.prog HF6.out (hO.mono (fun _ _ e => .inl e)) (by decide) (by decide) (by decide) (by rw [HGF.out]; exact Nat.le_refl _) hP)
    clear hO hP HT HF6
    go_wp2_with fail
    refine (rtry_run B' M A2 l c2 _ r1 0 a _ HT1.out.hr HL1.out HX1.out HA1.out HAB.out.1 HAB.out.2).mono ?_
    rintro e w8 ⟨rfl, hO, nvr2, hR⟩
    have HT3 := Lib.hid (HT1.out.answ hO hR)
    clear hO hR HT1
    generalize r1.mxTry 0 a = pr at *
    obtain ⟨r2, d, din⟩ := pr
    dsimp only at HT3 HNS
    go_wp2_with fail
    refine (try_nil 0 0 _).mono ?_
    rintro e w9 ⟨rfl, rfl⟩
    go_wp2_with fail
    refine (enter_nil 0 0 _).mono ?_
    rintro e w9 ⟨rfl, rfl⟩
    go_wp2_with fail
    refine (give_nil 0 0 _ _).mono ?_
    rintro e w9 ⟨rfl, rfl⟩
    go_upto_region 21 with (fail)
    refine cmp_mx _ _ _ _ _ _ _ _ _ _ _ _ _ _ _ _ _ _ _ _ _ _ _ _ _ _ _ _ _ _ _ _ _ _ _ _ _ _ _ _ _ _ _ _ _ _ _ _ _ _ _ _ _ _ _ _ _ _ _ _ _ _ _ _ _ _ _ _ _ _ _ _ _ _ _ _ _ _ _ _ _ _ _ _ _ _ _ _ _ _ _ _ _ _ _ _ _ _ _ _ _ _ _ _ _ _ _ _ _ _ _ _ _ _ _ _ _ _ _ _ _ _ _ _ _ _ _ _ _ _ _ _ _ _ _ _ _ _ _ _ _ _ _ _ _ _ _ _ _ _ _ _ _ _ _ _ _ _ _ _ _ _ _ _ _ _ _ _ _ _ _ _ _ _ w w8 B B' M b l c' c2 A' A2 nvp2 nvr2 r2 d din HT3 hl HNS.out (fun _ _ _ _ _ h => h) ?_
    intro _ _ _ _ _ _ _ _ _ _ _ _ _ _ _ _ _ _ _ _ _ _ _ _ _ _ _ _ _ _ _ _ _ _ _ _ _ _ _ _ _ _ _ _ _ _ _ _ _ _ _ _ _ w19 hO
    have HO9 := Lib.hid hO
    clear hO
    go_wp2
    go_ret
    exact ⟨rfl, HO9.out⟩
theorem walk_mutexSteps (a0 : Option Addr) (len0 cap0 : Nat) (z0 : List Int) (a1 a2 a3 : Int) (u4x0 u4x1 u4x2 u4x3 u4x4 : Int) (u4x5 : Bool) (u4x6 u4x7 : Int) (u4x8 : Bool) (u4x9 : Int) (a5 a6 a7 : Int) (a8 : Option Addr) (len8 cap8 : Nat) (z8 : List Int) (w : World)
    (w0 : IsRow .u32 w a0 len0 cap0 z0) (w1 : (Lit.int .i64 a1).wf = true) (w2 : (Lit.int .i64 a2).wf = true) (w3 : (Lit.int .i64 a3).wf = true) (w4 : (Lit.int .u32 u4x2).wf = true) (w5 : (Lit.int .i64 a5).wf = true) (w6 : (Lit.int .i64 a6).wf = true) (w7 : (Lit.int .i64 a7).wf = true) (w8 : IsRow .i64 w a8 len8 cap8 z8) :
    Calls Try.prog 3 #[.slice a0 len0 cap0, .int .i64 a1, .int .i64 a2, .int .i64 a3, .agg #[.int .i64 u4x0, .int .i64 u4x1, .int .u32 u4x2, .int .u32 u4x3, .int .i64 u4x4, .bool u4x5, .int .i64 u4x6, .int .i64 u4x7, .bool u4x8, .int .i64 u4x9], .int .i64 a5, .int .i64 a6, .int .i64 a7, .slice a8 len8 cap8] w fun e w' => e = .returned (.bool true) ∧ Only Nil w w' := by
  by_cases h1 : (1024 : Int) < len0
  · exact msteps_1 _ _ _ _ _ _ _ _ _ _ _ _ _ _ _ _ _ _ _ _ _ _ _ h1
  by_cases h2 : (10 : Int) < len8
  · exact msteps_2 _ _ _ _ _ _ _ _ _ _ _ _ _ _ _ _ _ _ _ _ _ _ _ h1 h2
  by_cases h3 : 1000 < a6
  · exact msteps_3 _ _ _ _ _ _ _ _ _ _ _ _ _ _ _ _ _ _ _ _ _ _ _ h1 h2 h3
  by_cases h4 : a6 < -1000
  · exact msteps_4 _ _ _ _ _ _ _ _ _ _ _ _ _ _ _ _ _ _ _ _ _ _ _ h1 h2 h3 h4
  by_cases h5 : 1000 < u4x1
  · exact msteps_5 _ _ _ _ _ _ _ _ _ _ _ _ _ _ _ _ _ _ _ _ _ _ _ h1 h2 h3 h4 h5
  by_cases h6 : u4x1 < -1000
  · exact msteps_6 _ _ _ _ _ _ _ _ _ _ _ _ _ _ _ _ _ _ _ _ _ _ _ h1 h2 h3 h4 h5 h6
  by_cases h7 : a3 = 9223372036854775807
  · exact msteps_7 _ _ _ _ _ _ _ _ _ _ _ _ _ _ _ _ _ _ _ _ _ _ _ h1 h2 h3 h4 h5 h6 h7
  · exact msteps_main _ _ _ _ _ _ _ _ _ _ _ _ _ _ _ _ _ _ _ _ _ _ _ z0 z8 w0 w8 (by omega) (wf_u32 w4) h1 h2 h3 h4 h5 h6 h7
end Go.Proofs.Ytaifeejciglkpaa
