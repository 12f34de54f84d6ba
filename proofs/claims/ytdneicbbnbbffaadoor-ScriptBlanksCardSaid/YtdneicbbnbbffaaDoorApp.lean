/- append of texts to a list that the call made. -/
import Derived.Test.YtdneicbbnbbffaaDoorStr
import Derived.Laws.AppendOwn
import Derived.OwnWalk
namespace Go.Proofs.YtdneicbbnbbffaaDoor
open Go.RowKit
theorem infoS : (Tryd.prog.info? 9).map (fun i => (i.zero, i.size, i.bytes)) = some (some (.string ByteArray.empty), 1, 16) := by kernel_rfl
/-- A list of these texts, that the call made. -/
def OwnS (base : Nat) (w : World) (v : Value) (xs : List ByteArray) : Prop := w.ownsRow base 9 1 v xs.length (xs.map Value.string)
theorem OwnS.only {base : Nat} {w w' : World} {v : Value} {xs : List ByteArray} (h : OwnS base w v xs) (ho : Only Nil w w') : OwnS base w' v xs := own_only h ho (fun _ _ => id)
theorem ownS_new {base : Nat} {w : World} (xs : List ByteArray) (hb : base ≤ w.heap.size) (hm : xs.length ≤ 65536) : OwnS base (w.alloc (.cells (xs.map Value.string).toArray 9)) (.slice (some ⟨w.heap.size, 0, none⟩) xs.length xs.length) xs :=
  ⟨by simp, .inr ⟨w.heap.size, xs.length, (xs.map Value.string).toArray, rfl, hb, Row.new w _ _, Nat.le_refl _, by unfold maxLen; omega, by simp, by simp [List.take_of_length_le]⟩⟩
theorem OwnS.form {base : Nat} {w : World} {v : Value} {xs : List ByteArray} (h : OwnS base w v xs) (h0 : xs ≠ []) : ∃ g c, v = .slice (some ⟨g, 0, none⟩) xs.length c ∧ g < w.heap.size ∧ base ≤ g ∧ xs.length ≤ c ∧ ∀ (j : Nat) (x : ByteArray), xs[j]? = some x → w.cell? ⟨g, 0 + j, none⟩ = some (.string x) := by
  rcases h.2 with ⟨_, hn⟩ | ⟨g, cap, cur, hv, hb, hg, hc, _⟩
  · exact absurd (List.eq_nil_of_length_eq_zero hn) h0
  · refine ⟨g, cap, hv, (Array.getElem?_eq_some_iff.1 hg).1, hb, hc, fun j x hj => ?_⟩
    have := World.ownsRow.cells h (g := g) (by rw [hv]; rfl) j (.string x) (by rw [List.getElem?_map, hj]; rfl)
    rwa [add_at] at this
theorem wp_app {w : World} {ops : Array Oper} {rest : List Oper} {o : Oper} {a : Act} {Q : Exit → Act → World → Prop} (hgd : o.guard = none) (s x : Operand)
    (ho : o.op = .call { callee := .builtin .append, args := #[s, x], argTypes := #[44, 44] })
    (base : Nat) (v : Value) (xs : List ByteArray) (hs : a.eval s = v) (hown : OwnS base w v xs)
    (g : Nat) (ys : List ByteArray) (hx : a.eval x = .slice (some ⟨g, 0, none⟩) ys.length ys.length) (hrow : Row w g 9 (ys.map Value.string).toArray)
    (h1 : xs.length ≤ 1000000) (h2 : ys.length ≤ 1000) (hbase : base ≤ w.heap.size)
    (h : ∀ v' w', OwnS base w' v' (xs ++ ys) → (∀ w0, Only Nil w0 w → w0.heap.size ≤ base → Only Nil w0 w') → wpList Tryd.prog ops Q rest (a.put o.dst v') w') : wpList Tryd.prog ops Q (o :: rest) a w := by
  obtain ⟨i0, hi, hz0, hz1, hz2⟩ := info_parts infoS
  refine wpList_append_own w hgd s x 44 ho base 9 i0 (.string ByteArray.empty) 1 16 Tryd.underlying44 hi hz0 hz1 hz2 rfl (by decide) v xs.length (xs.map Value.string) hs hown ⟨g, 0, none⟩ ys.length ys.length (ys.map Value.string) hx (by simp) (fun j u hj => ?_) (fun u hu => ?_) (by unfold maxLen; omega) (by omega) hbase (fun v' w' hO hG _ => ?_)
  · rw [add_at, Nat.zero_add]
    exact hrow.cell_ (by rw [List.getElem?_toArray]; exact hj)
  · obtain ⟨y, _, rfl⟩ := List.mem_map.1 hu
    rfl
  · refine h v' w' ?_ (fun w0 h0 hb => h0.grown hG (fun k hk => .inl ?_))
    · unfold OwnS
      rw [List.length_append, List.map_append]
      exact hO
    · obtain ⟨hk1, _⟩ := World.ownsRow.lt hown k hk
      omega
end Go.Proofs.YtdneicbbnbbffaaDoor
