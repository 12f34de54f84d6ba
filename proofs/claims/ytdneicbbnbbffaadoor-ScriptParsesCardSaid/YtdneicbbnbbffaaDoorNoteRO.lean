/- An operation's word: the answer's. -/
import Derived.Test.YtdneicbbnbbffaaDoorNoteW
namespace Go.Proofs.YtdneicbbnbbffaaDoor
open Go.RowKit
set_option linter.unusedVariables false
set_option linter.unusedSimpArgs false

theorem op_ref (x : Int) (w : World) : Calls Tryd.prog 27 #[.int .i64 x] w fun e w' => e = .returned (.string (bs (wordI opWs x))) ∧ Only Nil w w' := by
  have HO := Lib.hid ((Only.refl Nil w).alloc (.cells ((opWs.map bs).map Value.string).toArray 9))
  by_cases h0 : x < 0
  · rw [word_out (.inl h0), show bs [] = ⟨#[]⟩ from rfl]
    go_enter Tryd.func27, Tryd.ntmps27
    go_wp2
    go_ret
    exact ⟨rfl, HO.out⟩
  · by_cases h1 : (8 : Int) < x
    · rw [word_out (.inr (by show ((opWs.length : Nat) : Int) ≤ x; have : (opWs.length : Int) = 8 + 1 := rfl; omega)), show bs [] = ⟨#[]⟩ from rfl]
      go_enter Tryd.func27, Tryd.ntmps27
      go_wp2
      go_ret
      exact ⟨rfl, HO.out⟩
    · have hlen : opWs.length = 8 + 1 := rfl
      obtain ⟨k, rfl⟩ : ∃ k : Nat, x = k := ⟨x.toNat, by omega⟩
      have hcell : (w.alloc (.cells ((opWs.map bs).map Value.string).toArray 9)).cell? ⟨w.heap.size, k, none⟩ = some (.string (bs (wordI opWs k))) := (Row.new w _ _).cell_ (by rw [List.getElem?_toArray, List.getElem?_map, List.getElem?_map, word_at (ws := opWs) (k := k) (by omega)]; rfl)
      generalize bs (wordI opWs k) = X at *
      simp only [opWs, bs, List.map_cons, List.map_nil] at hcell
      have h0 : decide ((k : Int) < 0) = false := by simp
      clear hlen
      go_enter Tryd.func27, Tryd.ntmps27
      go_wp2
      go_ret
      exact ⟨rfl, HO.out⟩
end Go.Proofs.YtdneicbbnbbffaaDoor
