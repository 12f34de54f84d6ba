/- Picks that came in. -/
import Derived.Test.YtdneicbbnbbffaaDoorTab
import Derived.Test.YtdneicbbnbbffaaDoorChecked
set_option linter.unusedVariables false
set_option linter.unusedSimpArgs false
namespace Go.Proofs.YtdneicbbnbbffaaDoor
open Go.RowKit

/-- The picks that came in: element by element. -/
def IsPicks (w : World) (A : Option Addr) (len : Nat) : Prop := ∀ i, i < len → ∃ b q t o, A = some ⟨b, q, none⟩ ∧ b < w.heap.size ∧
  w.cell? ⟨b, q + i * 2, none⟩ = some (.int .i64 t) ∧ w.cell? ⟨b, q + i * 2 + 1, none⟩ = some (.int .i64 o)

theorem isPicks_of {H : Type} {enc : TypeId × Value → H} {w : World} {base : Nat} {spare : Nat → Bool} {held : Bool} {fuel len cap : Nat} {A : Option Addr} {x : DataW H × List MemPlace}
    (h : DataW.trod enc Tryd.prog w base spare held fuel 23 [.slice A len cap] = some x) : IsPicks w A len := by
  intro i hi
  obtain ⟨b, o, hA, hb, hf⟩ := open_tab Tryd.underlying23 Tryd.underlying42 (by kernel_rfl) (by kernel_rfl) (by decide) h i hi
  obtain ⟨v0, n0, y0, c0, t0⟩ := hf 0 _ rfl
  obtain ⟨v1, n1, y1, c1, t1⟩ := hf 1 _ rfl
  obtain ⟨z0, e0, _, wz0⟩ := DataW.trod_int Tryd.underlying3 t0
  obtain ⟨z1, e1, _, wz⟩ := DataW.trod_int Tryd.underlying3 t1
  simp only [List.cons.injEq, and_true] at e0 e1
  subst e0 e1
  exact ⟨b, o, z0, z1, hA, hb, c0, c1⟩
end Go.Proofs.YtdneicbbnbbffaaDoor
