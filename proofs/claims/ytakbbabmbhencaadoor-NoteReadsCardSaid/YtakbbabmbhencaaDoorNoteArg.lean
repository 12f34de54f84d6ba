/- A note that came in, by its numbers. -/
import Derived.Test.YtakbbabmbhencaaDoorKit
import Derived.Test.YtakbbabmbhencaaDoorChecked
import Derived.Test.YtakbbabmbhencaaDoorNoteM
import Derived.Deep.Slices
import Derived.Deep.Fields
import Derived.ChangeSame
namespace Go.Proofs.YtakbbabmbhencaaDoor
open Go.RowKit Go.ChangeShapes Go.WideShapes Go.Deep
/-- Each number fits. -/
def I64 (x : Int) : Prop := -9223372036854775808 ≤ x ∧ x < 9223372036854775808
section
variable {H : Type} {enc : TypeId × Value → H} {w : World} {base : Nat} {spare : Nat → Bool} {held : Bool}
theorem field_int {k : IntKind} {t : TypeId} {n : Nat} {l : List Value} {v : Value} {o : Option (DataW H × List MemPlace)} {y : DataW H × List MemPlace} (ht : Tryd.prog.underlying t = some (.int k)) (hl : l = [v]) (ho : o = some y)
    (h : DataW.trod enc Tryd.prog w base spare held n t l = o) : ∃ a, v = .int k a ∧ (Lit.int k a).wf = true := by
  subst hl ho
  obtain ⟨a, hc, _, hw⟩ := DataW.trod_int ht h
  simp only [List.cons.injEq, and_true] at hc
  exact ⟨a, hc, hw⟩
set_option maxRecDepth 100000 in
theorem open_note {r : Reach} {b0 : Nat} {v : Value} {d : DataW H} {p : List MemPlace} (hv : Value.okWide Tryd.prog w r b0 23 v) (h : DataW.Trod enc Tryd.prog w base spare held 23 v d p) :
    ∃ k c x y : Int, v = .agg #[.int .i64 k, .int .i64 c, .int .i64 x, .int .i64 y] ∧ I64 k ∧ I64 c ∧ I64 x ∧ I64 y := by
  obtain ⟨cs, rfl, hsz⟩ := okWide_struct Tryd.underlying23 hv
  have hC : Tryd.prog.cellsOf 23 = 4 := by kernel_rfl
  obtain ⟨l⟩ := cs
  match l, hsz.trans hC with
  | [v0, v1, v2, v3], _ =>
    obtain ⟨fuel, hf⟩ := h
    obtain ⟨xs, n, _, _, _, hl, hg⟩ := DataW.trod_struct Tryd.underlying23 hf
    have c1 : Tryd.prog.cellsOf 3 = 1 := by kernel_rfl
    have hx : ∀ i, i < 4 → ∃ y, xs[i]? = some y := fun i hi => ⟨_, List.getElem?_eq_getElem (by rw [hl]; exact hi)⟩
    obtain ⟨y0, e0⟩ := hx 0 (by decide)
    obtain ⟨y1, e1⟩ := hx 1 (by decide)
    obtain ⟨y2, e2⟩ := hx 2 (by decide)
    obtain ⟨y3, e3⟩ := hx 3 (by decide)
    obtain ⟨k, rfl, hk⟩ := field_int (v := v0) Tryd.underlying3 (by show List.take (Tryd.prog.cellsOf 3) _ = _; rw [c1]; rfl) e0 (hg 0 _ rfl)
    obtain ⟨c, rfl, hc⟩ := field_int (v := v1) Tryd.underlying3 (by show List.take (Tryd.prog.cellsOf 3) _ = _; rw [c1]; rfl) e1 (hg 1 _ rfl)
    obtain ⟨x, rfl, hx⟩ := field_int (v := v2) Tryd.underlying3 (by show List.take (Tryd.prog.cellsOf 3) _ = _; rw [c1]; rfl) e2 (hg 2 _ rfl)
    obtain ⟨y, rfl, hy⟩ := field_int (v := v3) Tryd.underlying3 (by show List.take (Tryd.prog.cellsOf 3) _ = _; rw [c1]; rfl) e3 (hg 3 _ rfl)
    exact ⟨k, c, x, y, rfl, wf_i64 hk, wf_i64 hc, wf_i64 hx, wf_i64 hy⟩
end
end Go.Proofs.YtakbbabmbhencaaDoor
