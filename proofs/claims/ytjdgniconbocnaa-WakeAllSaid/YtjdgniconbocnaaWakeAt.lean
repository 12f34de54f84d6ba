/- turn.at, turn.end. -/
import Derived.Test.YtjdgniconbocnaaWakeM
set_option linter.unusedVariables false
set_option linter.unusedSimpArgs false
namespace Go.Proofs.Ytjdgniconbocnaa
open Go.RowKit

theorem at_any (p : Option Addr) (n : Int) (on : Bool) (c i : Int) (hit : Bool) (j : Int) (b : Bool) (w : World) :
    Calls Try.prog 30 #[.agg #[.pointer p, .int .i64 n, .bool on, .int .i64 c, .int .i64 i, .bool hit], .int .i64 j, .bool b] w fun e w' =>
      e = .returned (.agg #[.bool true, .int .i64 c, .int .i64 j, .bool b]) ∧ Only Nil w w' := by
  go_enter Try.func30, Try.ntmps30
  go_wp2
  refine post_row (P := Try.prog) Try.results30 (t := 24) (by rfl) (Row.new2 _ _ _ _) Try.underlying24 rfl (by kernel_rfl) rfl ⟨rfl, ((Only.refl Nil w).alloc _).alloc _⟩

theorem end_any (p : Option Addr) (n : Int) (on : Bool) (c i : Int) (hit : Bool) (w : World) :
    Calls Try.prog 28 #[.agg #[.pointer p, .int .i64 n, .bool on, .int .i64 c, .int .i64 i, .bool hit]] w fun e w' =>
      e = .returned (.agg #[.bool true, .int .i64 c, .int .i64 n, .bool false]) ∧ Only Nil w w' := by
  go_enter Try.func28, Try.ntmps28
  go_wp2_with fail
  refine (at_any p n on c i hit n false _).mono ?_
  rintro e w1 ⟨rfl, hO⟩
  have HR := Lib.hid ((Row.new2 w (.cells #[.pointer p, .int .i64 n, .bool on, .int .i64 c, .int .i64 i, .bool hit] 51) 24 #[.bool false, .int .i64 0, .int .i64 0, .bool false]).only hO id)
  have HO := Lib.hid ((((Only.refl Nil w).alloc (.cells #[.pointer p, .int .i64 n, .bool on, .int .i64 c, .int .i64 i, .bool hit] 51)).alloc (.cells #[.bool false, .int .i64 0, .int .i64 0, .bool false] 24)).trans hO)
  clear hO
  have c0 : w1.cell? ⟨w.heap.size + 1, 0, none⟩ = some (.bool false) := HR.out.cell_ (i := 0) rfl
  have c1 : w1.cell? ⟨w.heap.size + 1, 1, none⟩ = some (.int .i64 0) := HR.out.cell_ (i := 1) rfl
  have c2 : w1.cell? ⟨w.heap.size + 1, 2, none⟩ = some (.int .i64 0) := HR.out.cell_ (i := 2) rfl
  have c3 : w1.cell? ⟨w.heap.size + 1, 3, none⟩ = some (.bool false) := HR.out.cell_ (i := 3) rfl
  have g0 : w1.frozen? ⟨w.heap.size + 1, 0, none⟩ = false := HR.out.frozen 0
  have g1 : w1.frozen? ⟨w.heap.size + 1, 1, none⟩ = false := HR.out.frozen 1
  have g2 : w1.frozen? ⟨w.heap.size + 1, 2, none⟩ = false := HR.out.frozen 2
  have g3 : w1.frozen? ⟨w.heap.size + 1, 3, none⟩ = false := HR.out.frozen 3
  go_wp2
  refine post_row (P := Try.prog) Try.results28 (t := 24) (g := w.heap.size + 1) (by rfl) (four HR.out _ _ _ _) Try.underlying24 rfl (by kernel_rfl) rfl ⟨rfl, four_only HO.out (.inl (by omega)) _ _ _ _⟩
end Go.Proofs.Ytjdgniconbocnaa
