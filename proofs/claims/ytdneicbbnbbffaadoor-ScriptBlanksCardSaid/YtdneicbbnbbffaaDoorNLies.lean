/- What the variables hold that note.Parse reads. -/
import Derived.Test.YtdneicbbnbbffaaDoorStr
namespace Go.Proofs.YtdneicbbnbbffaaDoor
open Go.RowKit
structure LiesN (w : World) : Prop where
  max : ∃ m, w.cell? ⟨0, 0, none⟩ = some (.int .i64 m)
  syn : ∃ tp p, w.var? Tryd.prog "strconv.ErrSyntax" = some #[.iface tp p]
  rng : ∃ tp p, w.var? Tryd.prog "strconv.ErrRange" = some #[.iface tp p]
theorem var_only' {w w' : World} {n : String} {cs : Array Value} (h : w.var? Tryd.prog n = some cs) (ho : Only Nil w w') : w'.var? Tryd.prog n = some cs := by
  unfold World.var? at h ⊢
  cases hg : Tryd.prog.globalNamed n with
  | none => simp [hg] at h
  | some g =>
    simp only [hg, Option.bind_some] at h ⊢
    have hlt : g < w.heap.size := by
      rcases Nat.lt_or_ge g w.heap.size with h' | h'
      · exact h'
      · simp [Array.getElem?_eq_none h'] at h
    rw [ho.block g hlt id]
    exact h
theorem LiesN.only {w w' : World} (h : LiesN w) (ho : Only Nil w w') : LiesN w' where
  max := by
    obtain ⟨m, hm⟩ := h.max
    exact ⟨m, (ho.cell (p := ⟨0, 0, none⟩) (World.block_lt_of_cell? w _ hm) id).trans hm⟩
  syn := by
    obtain ⟨tp, p, hv⟩ := h.syn
    exact ⟨tp, p, var_only' hv ho⟩
  rng := by
    obtain ⟨tp, p, hv⟩ := h.rng
    exact ⟨tp, p, var_only' hv ho⟩
end Go.Proofs.YtdneicbbnbbffaaDoor
