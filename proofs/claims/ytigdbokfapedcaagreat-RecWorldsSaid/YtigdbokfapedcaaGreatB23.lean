/- RcAw. -/
import Derived.Test.YtigdbokfapedcaaGreatB22
/- Law 20's awake: the document's example. -/
set_option linter.unusedVariables false
set_option linter.unusedSimpArgs false
namespace Go.Proofs.YtigdbokfapedcaaGreat
open Go.RowKit
def exL : List Nt := [⟨0, 1, 1, 0⟩, ⟨0, 11, 1, 2⟩]
theorem exL_calls : callsF 0 exL = [⟨0, 1, 0, 1, 2, []⟩] := by simp [callsF, exL, callAt, retF]
set_option maxRecDepth 100000 in
theorem awake_any (w : World) : Calls Tryz.prog 5 #[] w fun e w' => e = .returned (.bool true) ∧ Only Nil w w' := by
  have hr := Row.new w 59 #[.int .i64 0, .int .i64 1, .int .i64 1, .int .i64 0, .int .i64 0, .int .i64 11, .int .i64 1, .int .i64 2]
  have e1 := (Only.refl Nil w).alloc (.cells #[.int .i64 0, .int .i64 1, .int .i64 1, .int .i64 0, .int .i64 0, .int .i64 11, .int .i64 1, .int .i64 2] 59)
  have HN := Lib.hid (show Notes (w.alloc (.cells #[.int .i64 0, .int .i64 1, .int .i64 1, .int .i64 0, .int .i64 0, .int .i64 11, .int .i64 1, .int .i64 2] 59)) (some ⟨w.heap.size, 0, none⟩) exL from fun _ => ⟨w.heap.size, 0, rfl, hr.lt, fun i n hi => by
    have hi2 : i < 2 := (List.getElem?_eq_some_iff.1 hi).1
    rcases (show i = 0 ∨ i = 1 by omega) with rfl | rfl
    · have e : (⟨0, 1, 1, 0⟩ : Nt) = n := by simpa [exL] using hi
      subst e
      exact ⟨hr.cell_ (i := 0) rfl, hr.cell_ (i := 1) rfl, hr.cell_ (i := 2) rfl, hr.cell_ (i := 3) rfl⟩
    · have e : (⟨0, 11, 1, 2⟩ : Nt) = n := by simpa [exL] using hi
      subst e
      exact ⟨hr.cell_ (i := 4) rfl, hr.cell_ (i := 5) rfl, hr.cell_ (i := 6) rfl, hr.cell_ (i := 7) rfl⟩⟩)
  have HO := Lib.hid e1
  clear hr e1
  go_enter Tryz.func5, Tryz.ntmps5
  go_wp2_with fail
  refine (rcCalls_any (some ⟨w.heap.size, 0, none⟩) 2 2 exL _ rfl HN.out (fun x hx => by
    rcases List.mem_cons.1 hx with rfl | hx
    · exact wfI (by decide)
    · rcases List.mem_cons.1 hx with rfl | hx
      · exact wfI (by decide)
      · simp at hx) (by decide)).mono ?_
  rintro e w1 ⟨cv, rfl, hc, hO⟩
  have HO1 := Lib.hid (HO.out.trans hO)
  rw [exL_calls] at hc
  obtain ⟨A, k, rfl, hcs⟩ := hc
  obtain ⟨b, q, rfl, hb, c0, c1, c2, c3, c4, _⟩ := hcs 0 _ rfl
  dsimp only [Nat.zero_mul, Nat.add_zero] at c0 c1 c2 c3 c4
  clear hO HO HN hcs
  go_wp2
  go_ret
  exact ⟨rfl, HO1.out⟩
end Go.Proofs.YtigdbokfapedcaaGreat
