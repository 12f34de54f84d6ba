/- The words at first of a fair queue's lock, in a block that is known whole; a block of words. -/
import Derived.Test.YtjdgniconbocnaaFirst4
set_option linter.unusedVariables false
set_option linter.unusedSimpArgs false
namespace Go.Proofs.Ytjdgniconbocnaa
open Go.RowKit

/-- A block that holds just these words. -/
def RowL (w : World) (g : Nat) (zs : List Int) : Prop := Row w g 31 (cellsOf zs)

theorem cells_set (zs : List Int) (i : Nat) (v : Int) : (cellsOf zs).setIfInBounds i (.int .u32 v) = cellsOf (zs.set i v) := by
  apply Array.ext'
  simp [cellsOf, List.map_set]

section
variable {w w' : World} {g : Nat} {zs : List Int} {S : Nat → Prop}
theorem RowL.cell (h : RowL w g zs) {i : Nat} (hi : i < zs.length) : w.cell? ⟨g, i, none⟩ = some (.int .u32 (zs.getD i 0)) :=
  Row.cell_ h (by simp [cellsOf, List.getD, List.getElem?_eq_getElem hi])
theorem RowL.set (h : RowL w g zs) (i : Nat) (v : Int) : RowL (w.setCell ⟨g, i, none⟩ (.int .u32 v)) g (zs.set i v) := by
  have e := Row.set h i (.int .u32 v)
  rwa [cells_set] at e
theorem RowL.only (h : RowL w g zs) (ho : Only S w w') (hg : ¬ S g) : RowL w' g zs := Row.only h ho hg
theorem RowL.alloc (h : RowL w g zs) (o : Obj) : RowL (w.alloc o) g zs := Row.alloc h o
theorem RowL.drew (h : RowL w g zs) : RowL w.drew g zs := h
theorem RowL.froz (h : RowL w g zs) (i : Nat) : w.frozen? ⟨g, i, none⟩ = false := Row.frozen h i
theorem RowL.held (h : RowL w g zs) {n : Nat} (hn : zs.length = n) (c : Nat) : Held w (some ⟨g, 0, none⟩) n c zs :=
  ⟨hn, (by intro h; cases h), Row.ints (k := .u32) h⟩
end

/-- So many words, each 0, in a block of their own. -/
def ZeroRow (S : Nat) (w : World) (e : Ending) (w' : World) : Prop :=
  ∃ g, e = .returned (.tuple #[.slice (some ⟨g, 0, none⟩) S S, .int .i64 0]) ∧ w.heap.size ≤ g ∧ RowL w' g (List.replicate S 0) ∧ Only Nil w w'

theorem first4_row (n : Int) (S : Nat) (w : World) (hn : 1 ≤ n ∧ n ≤ 64) (hS : sizeI n = S) :
    Calls Try.prog 14 #[.int .i64 4, .int .i64 n, .int .u32 0] w (ZeroRow S w) := by
  refine (first_yes 4 n 0 S w (by omega) hn hS (by omega)).mono ?_
  rintro e w' ⟨g, rfl, hg, hR, hO⟩
  rw [words4] at hR
  exact ⟨g, rfl, hg, hR, hO⟩
end Go.Proofs.Ytjdgniconbocnaa
