/- Lists of picks. -/
import Derived.Test.YtdneicbbnbbffaaDoorKit
import Derived.Test.YtdneicbbnbbffaaDoorChecked
import Derived.Laws.AppendOwn
import Derived.OwnWalk
set_option linter.unusedVariables false
set_option linter.unusedSimpArgs false
namespace Go.Proofs.YtdneicbbnbbffaaDoor
open Go.RowKit
theorem infoPk : (Tryd.prog.info? 42).map (fun i => (i.zero, i.size, i.bytes)) = some (some (.agg #[.int .i64 0, .int .i64 0]), 2, 16) := by kernel_rfl
/-- Picks, cell by cell. -/
def flatP (ps : List (Int × Int)) : List Value := ps.flatMap fun p => [.int .i64 p.1, .int .i64 p.2]
theorem flatP_app (ps : List (Int × Int)) (p : Int × Int) : flatP (ps ++ [p]) = flatP ps ++ [.int .i64 p.1, .int .i64 p.2] := by simp [flatP]
theorem flatP_apps (ps qs : List (Int × Int)) : flatP (ps ++ qs) = flatP ps ++ flatP qs := by simp [flatP]
theorem flatP_get : ∀ (ps : List (Int × Int)) (i : Nat) (p : Int × Int), ps[i]? = some p → (flatP ps)[i * 2]? = some (.int .i64 p.1) ∧ (flatP ps)[i * 2 + 1]? = some (.int .i64 p.2)
  | [], i, p, h => by simp at h
  | q :: r, 0, p, h => by
    simp only [List.getElem?_cons_zero, Option.some.injEq] at h
    subst h
    exact ⟨rfl, rfl⟩
  | q :: r, i + 1, p, h => by
    obtain ⟨e1, e2⟩ := flatP_get r i p (by simpa using h)
    have e : flatP (q :: r) = .int .i64 q.1 :: .int .i64 q.2 :: flatP r := rfl
    rw [e, show (i + 1) * 2 = i * 2 + 1 + 1 by omega, List.getElem?_cons_succ, List.getElem?_cons_succ, List.getElem?_cons_succ, List.getElem?_cons_succ]
    exact ⟨e1, e2⟩
/-- A list of these picks, that the call made. -/
def OwnK (base : Nat) (w : World) (v : Value) (ps : List (Int × Int)) : Prop := w.ownsRow base 42 2 v ps.length (flatP ps)
theorem ownK_nil (base : Nat) (w : World) : OwnK base w (.slice none 0 0) [] := World.ownsRow_nil _ _ _ _
theorem OwnK.keep {base : Nat} {w w' : World} {v : Value} {ps : List (Int × Int)} (h : OwnK base w v ps) (ho : Only Nil w w') : OwnK base w' v ps := own_only h ho (fun _ _ => id)
theorem OwnK.mono {base base' : Nat} {w : World} {v : Value} {ps : List (Int × Int)} (h : OwnK base w v ps) (hb : base' ≤ base) : OwnK base' w v ps := by
  refine ⟨h.1, ?_⟩
  rcases h.2 with hn | ⟨g, cap, cur, hv, hg, rest⟩
  · exact .inl hn
  · exact .inr ⟨g, cap, cur, hv, Nat.le_trans hb hg, rest⟩
theorem OwnK.shape {base : Nat} {W : World} {v : Value} {ps : List (Int × Int)} (h : OwnK base W v ps) : ∃ a c, v = .slice a ps.length c := by
  rcases h.2 with ⟨rfl, h0⟩ | ⟨g, cap, cur, rfl, _⟩
  · exact ⟨none, 0, by rw [h0]⟩
  · exact ⟨_, _, rfl⟩
/-- A slice reads as these picks. -/
def PkAt (w : World) (v : Value) (ps : List (Int × Int)) : Prop := ∃ A c, v = .slice A ps.length c ∧ ∀ j p, ps[j]? = some p → ∃ b q, A = some ⟨b, q, none⟩ ∧ b < w.heap.size ∧ w.cell? ⟨b, q + j * 2, none⟩ = some (.int .i64 p.1) ∧ w.cell? ⟨b, q + j * 2 + 1, none⟩ = some (.int .i64 p.2)
theorem PkAt.only {w w' : World} {v : Value} {ps : List (Int × Int)} (h : PkAt w v ps) (ho : Only Nil w w') : PkAt w' v ps := by
  obtain ⟨A, c, hv, hat⟩ := h
  refine ⟨A, c, hv, fun j p hj => ?_⟩
  obtain ⟨b, q, hA, hb, h1, h2⟩ := hat j p hj
  exact ⟨b, q, hA, Nat.lt_of_lt_of_le hb ho.size, (ho.cell (p := ⟨b, q + j * 2, none⟩) hb id).trans h1, (ho.cell (p := ⟨b, q + j * 2 + 1, none⟩) hb id).trans h2⟩
theorem OwnK.at {base : Nat} {w : World} {v : Value} {ps : List (Int × Int)} (h : OwnK base w v ps) : PkAt w v ps := by
  rcases h.2 with ⟨rfl, h0⟩ | ⟨g, cap, cur, rfl, hb, hg, _⟩
  · have : ps = [] := List.eq_nil_of_length_eq_zero h0
    subst this
    exact ⟨none, 0, rfl, fun j p hj => by simp at hj⟩
  · refine ⟨_, _, rfl, fun j p hj => ⟨g, 0, rfl, (Array.getElem?_eq_some_iff.1 hg).1, ?_⟩⟩
    obtain ⟨e1, e2⟩ := flatP_get ps j p hj
    have c1 := World.ownsRow.cells h (g := g) rfl (j * 2) _ e1
    have c2 := World.ownsRow.cells h (g := g) rfl (j * 2 + 1) _ e2
    rw [add_at] at c1 c2
    exact ⟨c1, by rw [Nat.zero_add] at c2 ⊢; exact c2⟩
theorem wp_appK {w : World} {ops : Array Oper} {rest : List Oper} {o : Oper} {a : Act} {Q : Exit → Act → World → Prop} (hgd : o.guard = none) (s x : Operand)
    (ho : o.op = .call { callee := .builtin .append, args := #[s, x], argTypes := #[23, 23] })
    (base : Nat) (v : Value) (ps : List (Int × Int)) (hs : a.eval s = v) (hown : OwnK base w v ps)
    (g : Nat) (p : Int × Int) (hx : a.eval x = .slice (some ⟨g, 0, none⟩) 1 1) (hrow : Row w g 42 #[.int .i64 p.1, .int .i64 p.2])
    (h1 : ps.length ≤ 1000000) (hbase : base ≤ w.heap.size)
    (h : ∀ v' w', OwnK base w' v' (ps ++ [p]) → (∀ w0, Only Nil w0 w → w0.heap.size ≤ base → Only Nil w0 w') → wpList Tryd.prog ops Q rest (a.put o.dst v') w') : wpList Tryd.prog ops Q (o :: rest) a w := by
  obtain ⟨i0, hi, hz0, hz1, hz2⟩ := info_parts infoPk
  refine wpList_append_own w hgd s x 23 ho base 42 i0 (.agg #[.int .i64 0, .int .i64 0]) 2 16 Tryd.underlying23 hi hz0 hz1 hz2 rfl (by decide) v ps.length (flatP ps) hs hown ⟨g, 0, none⟩ 1 1 [.int .i64 p.1, .int .i64 p.2] hx (by simp) (fun j u hj => ?_) (fun u hu => ?_) (by unfold maxLen; omega) (by omega) hbase (fun v' w' hO hG _ => ?_)
  · rw [add_at, Nat.zero_add]
    exact hrow.cell_ (by rw [← hj]; simp)
  · simp only [List.mem_cons, List.not_mem_nil, or_false] at hu
    rcases hu with rfl | rfl <;> rfl
  · refine h v' w' ?_ (fun w0 h0 hb => h0.grown hG (fun k hk => .inl ?_))
    · unfold OwnK
      rw [List.length_append, flatP_app]
      exact hO
    · obtain ⟨hk1, _⟩ := World.ownsRow.lt hown k hk
      omega
end Go.Proofs.YtdneicbbnbbffaaDoor
