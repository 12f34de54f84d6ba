/- Lists of words; a word by its number. -/
import Derived.Test.YtdneicbbnbbffaaDoorStr
import Derived.Test.YtdneicbbnbbffaaDoorStrEq
import Derived.Test.YtdneicbbnbbffaaDoorNoteM
import Derived.IntWalk
set_option linter.unusedVariables false
set_option linter.unusedSimpArgs false
namespace Go.Proofs.YtdneicbbnbbffaaDoor
open Go.RowKit

/-- v is a list of these words. -/
def Strs (w : World) (v : Value) (ws : List Bs) : Prop := (ws = [] ∧ v = .slice none 0 0) ∨ ∃ g c, v = .slice (some ⟨g, 0, none⟩) ws.length c ∧ g < w.heap.size ∧ ∀ (j : Nat) (x : Bs), ws[j]? = some x → w.cell? ⟨g, j, none⟩ = some (.string (bs x))

theorem Strs.only {w w' : World} {v : Value} {ws : List Bs} (h : Strs w v ws) (ho : Only Nil w w') : Strs w' v ws := by
  rcases h with h | ⟨g, c, hv, hg, hc⟩
  · exact .inl h
  · exact .inr ⟨g, c, hv, Nat.lt_of_lt_of_le hg ho.size, fun j x hj => (ho.cell (p := ⟨g, j, none⟩) hg id).trans (hc j x hj)⟩

theorem strs_new (w : World) (ws : List Bs) : Strs (w.alloc (.cells ((ws.map bs).map Value.string).toArray 9)) (.slice (some ⟨w.heap.size, 0, none⟩) ws.length ws.length) ws :=
  .inr ⟨w.heap.size, ws.length, rfl, by simp, fun j x hj => (Row.new w _ _).cell_ (by rw [List.getElem?_toArray, List.getElem?_map, List.getElem?_map, hj]; rfl)⟩

/-- A list of these words comes back. -/
def Gives (ws : List Bs) (w : World) (e : Ending) (w' : World) : Prop := ∃ v, e = .returned v ∧ Strs w' v ws ∧ Only Nil w w'

theorem gives_nil (w : World) : Gives [] w (.returned (.slice none 0 0)) w := ⟨_, rfl, .inl ⟨rfl, rfl⟩, Only.refl _ _⟩

theorem gives_new (w : World) (ws : List Bs) : Gives ws w (.returned (.slice (some ⟨w.heap.size, 0, none⟩) ws.length ws.length)) (w.alloc (.cells ((ws.map bs).map Value.string).toArray 9)) :=
  ⟨_, rfl, strs_new w ws, (Only.refl _ _).alloc _⟩

theorem opWords_any (w : World) : Calls Tryd.prog 40 #[] w (Gives opWs w) := by
  go_enter Tryd.func40, Tryd.ntmps40
  go_wp2
  go_ret
  exact gives_new w opWs

theorem word_at {ws : List Bs} {k : Nat} (h : k < ws.length) : ws[k]? = some (wordI ws k) := by
  unfold wordI
  rw [if_neg (by omega), Int.toNat_natCast, List.getD_eq_getElem?_getD, List.getElem?_eq_getElem h]; rfl

theorem word_any (v : Value) (ws : List Bs) (x : Int) (w : World) (h : Strs w v ws) : Calls Tryd.prog 39 #[v, .int .i64 x] w fun e w' => e = .returned (.string (bs (wordI ws x))) ∧ w = w' := by
  by_cases h0 : x < 0
  · rw [word_out (.inl h0), show bs [] = ⟨#[]⟩ from rfl]
    rcases h with ⟨_, rfl⟩ | ⟨g, c, rfl, _, _⟩
    all_goals
      go_enter Tryd.func39, Tryd.ntmps39
      go_wp2
      go_ret
      exact ⟨rfl, rfl⟩
  · by_cases h1 : (ws.length : Int) ≤ x
    · rw [word_out (.inr h1), show bs [] = ⟨#[]⟩ from rfl]
      rcases h with ⟨rfl, rfl⟩ | ⟨g, c, rfl, _, _⟩
      · have h1' : (0 : Int) ≤ x := by omega
        clear h1 h0
        go_enter Tryd.func39, Tryd.ntmps39
        go_wp2
        go_ret
        exact ⟨rfl, rfl⟩
      · generalize ws.length = n at *
        go_enter Tryd.func39, Tryd.ntmps39
        go_wp2
        go_ret
        exact ⟨rfl, rfl⟩
    · obtain ⟨k, rfl⟩ : ∃ k : Nat, x = k := ⟨x.toNat, by omega⟩
      have hk : k < ws.length := by omega
      rcases h with ⟨rfl, rfl⟩ | ⟨g, c, rfl, hg, hc⟩
      · simp at hk
      · have hcell := hc k _ (word_at hk)
        generalize bs (wordI ws k) = X at *
        generalize ws.length = n at *
        clear hc h0 h1 hg
        have h0 : decide ((k : Int) < 0) = false := by simp
        have h1 : ¬ (n : Int) ≤ k := by omega
        go_enter Tryd.func39, Tryd.ntmps39
        go_wp2
        go_ret
        exact ⟨rfl, rfl⟩
end Go.Proofs.YtdneicbbnbbffaaDoor
