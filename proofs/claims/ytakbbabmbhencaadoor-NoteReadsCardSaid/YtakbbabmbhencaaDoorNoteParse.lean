/- Notes read from texts: note.Parse. -/
import Derived.Test.YtakbbabmbhencaaDoorNoteGather
import Derived.Test.YtakbbabmbhencaaDoorNoteText
import Derived.Test.YtakbbabmbhencaaDoorSplit
import Derived.Test.YtakbbabmbhencaaDoorParts
import Derived.Test.YtakbbabmbhencaaDoorStrEq
namespace Go.Proofs.YtakbbabmbhencaaDoor
open Go.RowKit

set_option linter.unusedVariables false
set_option linter.unusedSimpArgs false
/-- The right note with that text, and no error; or none, and an error. -/
def ParsedN (l : Bs) (e : Ending) : Prop := (∃ b : Nt, HasN l b ∧ e = .returned (.tuple #[.agg #[.int .i64 b.t, .int .i64 b.w, .int .i64 b.o, .int .i64 b.a], .int .i64 0])) ∨
  ((∀ b, ¬ HasN l b) ∧ e = .returned (.tuple #[.agg #[.int .i64 0, .int .i64 0, .int .i64 0, .int .i64 0], .int .i64 4]))


set_option maxHeartbeats 2000000 in
set_option maxRecDepth 100000 in
theorem parse_note (s : ByteArray) (w : World) (hs : s.size ≤ 900) (h : LiesN w) : Calls Tryd.prog 15 #[.string s] w fun e w' => ParsedN s.data.toList e ∧ Only Nil w w' := by
  have hlen := cut_len s.data.toList
  have hmem := cut_mem s.data.toList
  have hsl : s.data.toList.length = s.size := rfl
  have hob := (Only.refl Nil w).alloc (.cells #[.int .i64 0, .int .i64 0, .int .i64 0, .int .i64 0] 23)
  have HSP := Lib.hid (fun o => split_any s (w.alloc o) hs (h.only ((Only.refl Nil w).alloc o)).max)
  have hws := Row.new2 w (.cells #[.int .i64 0, .int .i64 0, .int .i64 0, .int .i64 0] 23) 9 (((cut s.data.toList).map bs).map Value.string).toArray
  obtain ⟨n, hn⟩ : ∃ n, (cut s.data.toList).length = n + 1 := ⟨(cut s.data.toList).length - 1, by have := List.length_pos_iff.2 (cut_ne s.data.toList); omega⟩
  have HGA := Lib.hid (gather_note s.data.toList (w.heap.size + 1) n _ hn (by omega) hws.lt
    (fun j x hj => by rw [hws.cell j, List.getElem?_toArray, List.getElem?_map, List.getElem?_map, hj]; rfl)
    (fun j x hj => by have := hmem x (List.mem_of_getElem? hj); rw [bs_size]; omega) (h.only (hob.alloc _)))
  rw [hn] at HSP
  have HL := Lib.hid h
  have HOB := Lib.hid (hob.alloc (.cells (((cut s.data.toList).map bs).map Value.string).toArray 9))
  have HA := Lib.hid ((Row.new w 23 #[.int .i64 0, .int .i64 0, .int .i64 0, .int .i64 0]).alloc (.cells (((cut s.data.toList).map bs).map Value.string).toArray 9))
  clear hlen hmem hsl hob hws h hs hn
  generalize ((cut s.data.toList).map bs).map Value.string = vs at *
  go_enter Tryd.func15, Tryd.ntmps15
  go_wp2_with fail
  refine (HSP.out _).mono ?_
  rintro e w1 ⟨rfl, rfl⟩
  rw [show (w.alloc (.cells #[.int .i64 0, .int .i64 0, .int .i64 0, .int .i64 0] 23)).heap.size = w.heap.size + 1 by simp]
  go_wp2_with fail
  refine HGA.out.mono ?_
  rintro e w2 ⟨k, c, x, y, rfl, hO, hu⟩
  have HO2 := Lib.hid (HOB.out.trans hO)
  have HA2 := Lib.hid (HA.out.only hO id)
  have HU := Lib.hid hu
  clear hO hu HGA HSP
  generalize hg : w.heap.size = g at *
  have HG := Lib.hid hg
  clear hg
  go_wp2_with fail
  have HO3 := Lib.hid (HO2.out.alloc (.cells #[.int .i64 k, .int .i64 c, .int .i64 x, .int .i64 y] 23))
  have HA3 := Lib.hid (HA2.out.alloc (.cells #[.int .i64 k, .int .i64 c, .int .i64 x, .int .i64 y] 23))
  have HB3 := Lib.hid (Row.new w2 23 #[.int .i64 k, .int .i64 c, .int .i64 x, .int .i64 y])
  have HNE := Lib.hid (show ¬ g = w2.heap.size by have := HA2.out.lt; omega)
  generalize hh : w2.heap.size = h2 at *
  generalize w2.alloc (.cells #[.int .i64 k, .int .i64 c, .int .i64 x, .int .i64 y] 23) = w3 at *
  clear hh HO2 HA2 HA HOB
  refine (right_note k c x y w3).mono ?_
  rintro e w4 ⟨rfl, hO⟩
  have HO4 := Lib.hid (HO3.out.trans hO)
  have HA4 := Lib.hid (HA3.out.only hO id)
  have HB4 := Lib.hid (HB3.out.only hO id)
  clear hO HA3 HB3
  cases hr : rightN k c x y
  · have HNO := Lib.hid (show ∀ b, ¬ HasN s.data.toList b from fun b hb => by
      have e := HU.out b hb
      have r := hb.1
      rw [e, hr] at r
      exact Bool.noConfusion r)
    clear hr
    have z0 : w4.cell? ⟨g, 0, none⟩ = some (.int .i64 0) := HA4.out.cell_ (i := 0) rfl
    have z1 : w4.cell? ⟨g, 1, none⟩ = some (.int .i64 0) := HA4.out.cell_ (i := 1) rfl
    have z2 : w4.cell? ⟨g, 2, none⟩ = some (.int .i64 0) := HA4.out.cell_ (i := 2) rfl
    have z3 : w4.cell? ⟨g, 3, none⟩ = some (.int .i64 0) := HA4.out.cell_ (i := 3) rfl
    have f0 : w4.frozen? ⟨g, 0, none⟩ = false := HA4.out.frozen 0
    have f1 : w4.frozen? ⟨g, 1, none⟩ = false := HA4.out.frozen 1
    have f2 : w4.frozen? ⟨g, 2, none⟩ = false := HA4.out.frozen 2
    have f3 : w4.frozen? ⟨g, 3, none⟩ = false := HA4.out.frozen 3
    go_wp2
    refine post_row_tmp Tryd.results15 (by rfl) ((((HA4.out.set 0 _).set 1 _).set 2 _).set 3 _) Tryd.underlying23 rfl (by kernel_rfl) rfl ⟨.inr ⟨HNO.out, rfl⟩, ?_⟩
    have hgw := HG.out
    have hO := HO4.out
    (repeat' (first | (with_reducible exact Only.refl _ _) | (with_reducible assumption) | (with_reducible refine Only.setCell ?_ ?_ _) | (with_reducible refine Only.drewN ?_ _) | (with_reducible refine Only.drew ?_) | (with_reducible refine Only.alloc ?_ _) | (left; simp; done) | (left; simp; omega) | (right; rfl)))
  · have HR := Lib.hid hr
    clear hr
    have z0 : w4.cell? ⟨h2, 0, none⟩ = some (.int .i64 k) := HB4.out.cell_ (i := 0) rfl
    have z1 : w4.cell? ⟨h2, 1, none⟩ = some (.int .i64 c) := HB4.out.cell_ (i := 1) rfl
    have z2 : w4.cell? ⟨h2, 2, none⟩ = some (.int .i64 x) := HB4.out.cell_ (i := 2) rfl
    have z3 : w4.cell? ⟨h2, 3, none⟩ = some (.int .i64 y) := HB4.out.cell_ (i := 3) rfl
    go_wp2_with fail
    clear z0 z1 z2 z3
    refine (text_note k c x y w4).mono ?_
    rintro e w5 ⟨rfl, hO⟩
    have HO5 := Lib.hid (HO4.out.trans hO)
    have HA5 := Lib.hid (HA4.out.only hO id)
    have HB5 := Lib.hid (HB4.out.only hO id)
    clear hO HA4 HB4
    have HX := Lib.hid (show txB k c x y = bs (textN ⟨k, c, x, y⟩) from txB_yes HR.out)
    generalize txB k c x y = X at *
    by_cases heq : X = s
    · subst heq
      have HH := Lib.hid (show HasN X.data.toList ⟨k, c, x, y⟩ by rw [HX.out]; exact ⟨HR.out, rfl⟩)
      have z0 : w5.cell? ⟨h2, 0, none⟩ = some (.int .i64 k) := HB5.out.cell_ (i := 0) rfl
      have z1 : w5.cell? ⟨h2, 1, none⟩ = some (.int .i64 c) := HB5.out.cell_ (i := 1) rfl
      have z2 : w5.cell? ⟨h2, 2, none⟩ = some (.int .i64 x) := HB5.out.cell_ (i := 2) rfl
      have z3 : w5.cell? ⟨h2, 3, none⟩ = some (.int .i64 y) := HB5.out.cell_ (i := 3) rfl
      have y0 : w5.cell? ⟨g, 0, none⟩ = some (.int .i64 0) := HA5.out.cell_ (i := 0) rfl
      have y1 : w5.cell? ⟨g, 1, none⟩ = some (.int .i64 0) := HA5.out.cell_ (i := 1) rfl
      have y2 : w5.cell? ⟨g, 2, none⟩ = some (.int .i64 0) := HA5.out.cell_ (i := 2) rfl
      have y3 : w5.cell? ⟨g, 3, none⟩ = some (.int .i64 0) := HA5.out.cell_ (i := 3) rfl
      have f0 : w5.frozen? ⟨g, 0, none⟩ = false := HA5.out.frozen 0
      have f1 : w5.frozen? ⟨g, 1, none⟩ = false := HA5.out.frozen 1
      have f2 : w5.frozen? ⟨g, 2, none⟩ = false := HA5.out.frozen 2
      have f3 : w5.frozen? ⟨g, 3, none⟩ = false := HA5.out.frozen 3
      have hne := HNE.out
      go_wp2
      refine post_row_tmp Tryd.results15 (by rfl) ((((HA5.out.set 0 _).set 1 _).set 2 _).set 3 _) Tryd.underlying23 rfl (by kernel_rfl) rfl ⟨.inl ⟨⟨k, c, x, y⟩, HH.out, rfl⟩, ?_⟩
      have hgw := HG.out
      have hO := HO5.out
      (repeat' (first | (with_reducible exact Only.refl _ _) | (with_reducible assumption) | (with_reducible refine Only.setCell ?_ ?_ _) | (with_reducible refine Only.drewN ?_ _) | (with_reducible refine Only.drew ?_) | (with_reducible refine Only.alloc ?_ _) | (left; simp; done) | (left; simp; omega) | (right; rfl)))
    · have HNO := Lib.hid (show ∀ b, ¬ HasN s.data.toList b from fun b hb => heq (by
        have e := HU.out b hb
        have t := hb.2
        rw [e] at t
        rw [HX.out, ← t]
        rfl))
      have hq : (X.toList == s.toList) = false := by rw [beq_str]; exact decide_eq_false heq
      clear heq
      have z0 : w5.cell? ⟨g, 0, none⟩ = some (.int .i64 0) := HA5.out.cell_ (i := 0) rfl
      have z1 : w5.cell? ⟨g, 1, none⟩ = some (.int .i64 0) := HA5.out.cell_ (i := 1) rfl
      have z2 : w5.cell? ⟨g, 2, none⟩ = some (.int .i64 0) := HA5.out.cell_ (i := 2) rfl
      have z3 : w5.cell? ⟨g, 3, none⟩ = some (.int .i64 0) := HA5.out.cell_ (i := 3) rfl
      have f0 : w5.frozen? ⟨g, 0, none⟩ = false := HA5.out.frozen 0
      have f1 : w5.frozen? ⟨g, 1, none⟩ = false := HA5.out.frozen 1
      have f2 : w5.frozen? ⟨g, 2, none⟩ = false := HA5.out.frozen 2
      have f3 : w5.frozen? ⟨g, 3, none⟩ = false := HA5.out.frozen 3
      go_wp2
      refine post_row_tmp Tryd.results15 (by rfl) ((((HA5.out.set 0 _).set 1 _).set 2 _).set 3 _) Tryd.underlying23 rfl (by kernel_rfl) rfl ⟨.inr ⟨HNO.out, rfl⟩, ?_⟩
      have hgw := HG.out
      have hO := HO5.out
      (repeat' (first | (with_reducible exact Only.refl _ _) | (with_reducible assumption) | (with_reducible refine Only.setCell ?_ ?_ _) | (with_reducible refine Only.drewN ?_ _) | (with_reducible refine Only.drew ?_) | (with_reducible refine Only.alloc ?_ _) | (left; simp; done) | (left; simp; omega) | (right; rfl)))
end Go.Proofs.YtakbbabmbhencaaDoor
