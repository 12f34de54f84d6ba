/- Accesses read from texts: acc.Parse. -/
import Derived.Test.YtlccmhlbkgojlaaDoorGather
import Derived.Test.YtlccmhlbkgojlaaDoorAwake
namespace Go.Proofs.YtlccmhlbkgojlaaDoor
open Go.RowKit

/-- The right access with that text, and no error; or none, and an error. -/
def ParsedAs (l : Bs) (e : Ending) : Prop := (∃ b : Acc, Has l b ∧ e = .returned (.tuple #[.agg #[.int .i64 b.k, .int .i64 b.c, .int .u32 b.x, .int .u32 b.y, .int .u32 b.o], .int .i64 0])) ∨
  ((∀ b, ¬ Has l b) ∧ e = .returned (.tuple #[.agg #[.int .i64 0, .int .i64 0, .int .u32 0, .int .u32 0, .int .u32 0], .int .i64 4]))


set_option maxHeartbeats 2000000 in
set_option maxRecDepth 100000 in
theorem parse_acc (s : ByteArray) (w : World) (hs : s.size ≤ 900) (h : LiesP w) : Calls Tryd.prog 11 #[.string s] w fun e w' => ParsedAs s.data.toList e ∧ Only Nil w w' := by
  have hlen := cut_len s.data.toList
  have hmem := cut_mem s.data.toList
  have hsl : s.data.toList.length = s.size := rfl
  have hob := (Only.refl Nil w).alloc (.cells #[.int .i64 0, .int .i64 0, .int .u32 0, .int .u32 0, .int .u32 0] 24)
  have HSP := Lib.hid (fun o => split_any s (w.alloc o) hs (h.only ((Only.refl Nil w).alloc o)).max)
  have hws := Row.new2 w (.cells #[.int .i64 0, .int .i64 0, .int .u32 0, .int .u32 0, .int .u32 0] 24) 9 (((cut s.data.toList).map bs).map Value.string).toArray
  have HGA := Lib.hid (gather_any s.data.toList (w.heap.size + 1) (cut s.data.toList).length (cut s.data.toList).length _ rfl hws.lt
    (fun j x hj => by rw [hws.cell j, List.getElem?_toArray, List.getElem?_map, List.getElem?_map, hj]; rfl)
    (fun j x hj => by have := hmem x (List.mem_of_getElem? hj); rw [bs_size]; omega) (by omega) (h.only (hob.alloc _)))
  have HL := Lib.hid h
  have HOB := Lib.hid (hob.alloc (.cells (((cut s.data.toList).map bs).map Value.string).toArray 9))
  have HA := Lib.hid ((Row.new w 24 #[.int .i64 0, .int .i64 0, .int .u32 0, .int .u32 0, .int .u32 0]).alloc (.cells (((cut s.data.toList).map bs).map Value.string).toArray 9))
  clear hlen hmem hsl hob hws h hs
  generalize ((cut s.data.toList).map bs).map Value.string = vs at *
  generalize (cut s.data.toList).length = n at *
  go_enter Tryd.func11, Tryd.ntmps11
  go_wp2_with fail
  refine (HSP.out _).mono ?_
  rintro e w1 ⟨rfl, rfl⟩
  rw [show (w.alloc (.cells #[.int .i64 0, .int .i64 0, .int .u32 0, .int .u32 0, .int .u32 0] 24)).heap.size = w.heap.size + 1 by simp]
  go_wp2_with fail
  refine HGA.out.mono ?_
  rintro e w2 ⟨k, c, x, y, o, rfl, hO, f, hu⟩
  have HO2 := Lib.hid (HOB.out.trans hO)
  have HA2 := Lib.hid (HA.out.only hO id)
  have HF := Lib.hid f
  have HU := Lib.hid hu
  clear hO f hu HGA HSP
  generalize hg : w.heap.size = g at *
  have HG := Lib.hid hg
  clear hg
  go_wp2_with fail
  have HO3 := Lib.hid (HO2.out.alloc (.cells #[.int .i64 k, .int .i64 c, .int .u32 x, .int .u32 y, .int .u32 o] 24))
  have HA3 := Lib.hid (HA2.out.alloc (.cells #[.int .i64 k, .int .i64 c, .int .u32 x, .int .u32 y, .int .u32 o] 24))
  have HB3 := Lib.hid (Row.new w2 24 #[.int .i64 k, .int .i64 c, .int .u32 x, .int .u32 y, .int .u32 o])
  have HNE := Lib.hid (show ¬ g = w2.heap.size by have := HA2.out.lt; omega)
  generalize hh : w2.heap.size = h2 at *
  generalize w2.alloc (.cells #[.int .i64 k, .int .i64 c, .int .u32 x, .int .u32 y, .int .u32 o] 24) = w3 at *
  clear hh HO2 HA2 HA HOB
  refine (right_any k c x y o w3).mono ?_
  rintro e w4 ⟨rfl, hO⟩
  have HO4 := Lib.hid (HO3.out.trans hO)
  have HA4 := Lib.hid (HA3.out.only hO id)
  have HB4 := Lib.hid (HB3.out.only hO id)
  clear hO HA3 HB3
  cases hr : rightB k c x y o
  · have HNO := Lib.hid (show ∀ b, ¬ Has s.data.toList b from fun b hb => by
      have e := HU.out b hb
      have r := hb.2.1
      rw [e] at r
      have := rightB_iff.2 r
      rw [hr] at this; exact Bool.noConfusion this)
    clear hr
    have z0 : w4.cell? ⟨g, 0, none⟩ = some (.int .i64 0) := HA4.out.cell_ (i := 0) rfl
    have z1 : w4.cell? ⟨g, 1, none⟩ = some (.int .i64 0) := HA4.out.cell_ (i := 1) rfl
    have z2 : w4.cell? ⟨g, 2, none⟩ = some (.int .u32 0) := HA4.out.cell_ (i := 2) rfl
    have z3 : w4.cell? ⟨g, 3, none⟩ = some (.int .u32 0) := HA4.out.cell_ (i := 3) rfl
    have z4 : w4.cell? ⟨g, 4, none⟩ = some (.int .u32 0) := HA4.out.cell_ (i := 4) rfl
    have f0 : w4.frozen? ⟨g, 0, none⟩ = false := HA4.out.frozen 0
    have f1 : w4.frozen? ⟨g, 1, none⟩ = false := HA4.out.frozen 1
    have f2 : w4.frozen? ⟨g, 2, none⟩ = false := HA4.out.frozen 2
    have f3 : w4.frozen? ⟨g, 3, none⟩ = false := HA4.out.frozen 3
    have f4 : w4.frozen? ⟨g, 4, none⟩ = false := HA4.out.frozen 4
    go_wp2
    refine post_row_tmp Tryd.results11 (by rfl) (((((HA4.out.set 0 _).set 1 _).set 2 _).set 3 _).set 4 _) Tryd.underlying24 rfl (by kernel_rfl) rfl ⟨.inr ⟨HNO.out, rfl⟩, ?_⟩
    have hgw := HG.out
    have hO := HO4.out
    (repeat' (first | (with_reducible exact Only.refl _ _) | (with_reducible assumption) | (with_reducible refine Only.setCell ?_ ?_ _) | (with_reducible refine Only.drewN ?_ _) | (with_reducible refine Only.drew ?_) | (with_reducible refine Only.alloc ?_ _) | (left; simp; done) | (left; simp; omega) | (right; rfl)))
  · have HR := Lib.hid (rightB_iff.1 hr)
    clear hr
    have z0 : w4.cell? ⟨h2, 0, none⟩ = some (.int .i64 k) := HB4.out.cell_ (i := 0) rfl
    have z1 : w4.cell? ⟨h2, 1, none⟩ = some (.int .i64 c) := HB4.out.cell_ (i := 1) rfl
    have z2 : w4.cell? ⟨h2, 2, none⟩ = some (.int .u32 x) := HB4.out.cell_ (i := 2) rfl
    have z3 : w4.cell? ⟨h2, 3, none⟩ = some (.int .u32 y) := HB4.out.cell_ (i := 3) rfl
    have z4 : w4.cell? ⟨h2, 4, none⟩ = some (.int .u32 o) := HB4.out.cell_ (i := 4) rfl
    go_wp2_with fail
    clear z0 z1 z2 z3 z4
    refine (text_any k c x y o w4 (HL.out.only HO4.out).lies HF.out).mono ?_
    rintro e w5 ⟨rfl, hO⟩
    have HO5 := Lib.hid (HO4.out.trans hO)
    have HA5 := Lib.hid (HA4.out.only hO id)
    have HB5 := Lib.hid (HB4.out.only hO id)
    clear hO HA4 HB4
    have HX := Lib.hid (textB_yes (rightB_iff.2 HR.out))
    generalize textB k c x y o = X at *
    by_cases heq : X = s
    · subst heq
      have HH := Lib.hid (show Has X.data.toList ⟨k, c, x, y, o⟩ by rw [HX.out]; exact has_text HF.out HR.out)
      have z0 : w5.cell? ⟨h2, 0, none⟩ = some (.int .i64 k) := HB5.out.cell_ (i := 0) rfl
      have z1 : w5.cell? ⟨h2, 1, none⟩ = some (.int .i64 c) := HB5.out.cell_ (i := 1) rfl
      have z2 : w5.cell? ⟨h2, 2, none⟩ = some (.int .u32 x) := HB5.out.cell_ (i := 2) rfl
      have z3 : w5.cell? ⟨h2, 3, none⟩ = some (.int .u32 y) := HB5.out.cell_ (i := 3) rfl
      have z4 : w5.cell? ⟨h2, 4, none⟩ = some (.int .u32 o) := HB5.out.cell_ (i := 4) rfl
      have y0 : w5.cell? ⟨g, 0, none⟩ = some (.int .i64 0) := HA5.out.cell_ (i := 0) rfl
      have y1 : w5.cell? ⟨g, 1, none⟩ = some (.int .i64 0) := HA5.out.cell_ (i := 1) rfl
      have y2 : w5.cell? ⟨g, 2, none⟩ = some (.int .u32 0) := HA5.out.cell_ (i := 2) rfl
      have y3 : w5.cell? ⟨g, 3, none⟩ = some (.int .u32 0) := HA5.out.cell_ (i := 3) rfl
      have y4 : w5.cell? ⟨g, 4, none⟩ = some (.int .u32 0) := HA5.out.cell_ (i := 4) rfl
      have f0 : w5.frozen? ⟨g, 0, none⟩ = false := HA5.out.frozen 0
      have f1 : w5.frozen? ⟨g, 1, none⟩ = false := HA5.out.frozen 1
      have f2 : w5.frozen? ⟨g, 2, none⟩ = false := HA5.out.frozen 2
      have f3 : w5.frozen? ⟨g, 3, none⟩ = false := HA5.out.frozen 3
      have f4 : w5.frozen? ⟨g, 4, none⟩ = false := HA5.out.frozen 4
      have hne := HNE.out
      go_wp2
      refine post_row_tmp Tryd.results11 (by rfl) (((((HA5.out.set 0 _).set 1 _).set 2 _).set 3 _).set 4 _) Tryd.underlying24 rfl (by kernel_rfl) rfl ⟨.inl ⟨⟨k, c, x, y, o⟩, HH.out, rfl⟩, ?_⟩
      have hgw := HG.out
      have hO := HO5.out
      (repeat' (first | (with_reducible exact Only.refl _ _) | (with_reducible assumption) | (with_reducible refine Only.setCell ?_ ?_ _) | (with_reducible refine Only.drewN ?_ _) | (with_reducible refine Only.drew ?_) | (with_reducible refine Only.alloc ?_ _) | (left; simp; done) | (left; simp; omega) | (right; rfl)))
    · have HNO := Lib.hid (show ∀ b, ¬ Has s.data.toList b from fun b hb => heq (by
        have e := HU.out b hb
        have t := hb.text
        rw [e] at t
        rw [HX.out, t]
        rfl))
      have hq : (X.toList == s.toList) = false := by rw [beq_str]; exact decide_eq_false heq
      clear heq
      have z0 : w5.cell? ⟨g, 0, none⟩ = some (.int .i64 0) := HA5.out.cell_ (i := 0) rfl
      have z1 : w5.cell? ⟨g, 1, none⟩ = some (.int .i64 0) := HA5.out.cell_ (i := 1) rfl
      have z2 : w5.cell? ⟨g, 2, none⟩ = some (.int .u32 0) := HA5.out.cell_ (i := 2) rfl
      have z3 : w5.cell? ⟨g, 3, none⟩ = some (.int .u32 0) := HA5.out.cell_ (i := 3) rfl
      have z4 : w5.cell? ⟨g, 4, none⟩ = some (.int .u32 0) := HA5.out.cell_ (i := 4) rfl
      have f0 : w5.frozen? ⟨g, 0, none⟩ = false := HA5.out.frozen 0
      have f1 : w5.frozen? ⟨g, 1, none⟩ = false := HA5.out.frozen 1
      have f2 : w5.frozen? ⟨g, 2, none⟩ = false := HA5.out.frozen 2
      have f3 : w5.frozen? ⟨g, 3, none⟩ = false := HA5.out.frozen 3
      have f4 : w5.frozen? ⟨g, 4, none⟩ = false := HA5.out.frozen 4
      go_wp2
      refine post_row_tmp Tryd.results11 (by rfl) (((((HA5.out.set 0 _).set 1 _).set 2 _).set 3 _).set 4 _) Tryd.underlying24 rfl (by kernel_rfl) rfl ⟨.inr ⟨HNO.out, rfl⟩, ?_⟩
      have hgw := HG.out
      have hO := HO5.out
      (repeat' (first | (with_reducible exact Only.refl _ _) | (with_reducible assumption) | (with_reducible refine Only.setCell ?_ ?_ _) | (with_reducible refine Only.drewN ?_ _) | (with_reducible refine Only.drew ?_) | (with_reducible refine Only.alloc ?_ _) | (left; simp; done) | (left; simp; omega) | (right; rfl)))
end Go.Proofs.YtlccmhlbkgojlaaDoor
