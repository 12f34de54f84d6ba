/- (*Memory).All. -/
import Derived.Test.YtjdgniconbocnaaClone
set_option linter.unusedVariables false
set_option linter.unusedSimpArgs false
namespace Go.Proofs.Ytjdgniconbocnaa
open Go.RowKit

theorem all_any (b : Nat) (A : Option Addr) (c : Nat) (xs : List Int) (w : World) (h : Mem w b A c xs) :
    Calls Try.prog 11 #[.pointer (some ⟨b, 0, none⟩)] w fun e w' => ∃ A' c', e = .returned (.slice A' xs.length c') ∧ Own w' w.heap.size A' c' xs ∧ Only Nil w w' := by
  have hl := h.len
  have hc : w.cell? ⟨b, 0, none⟩ = some (.slice A xs.length c) := h.hdr.cell_ (i := 0) rfl
  have HH := Lib.hid h
  clear h
  go_enter Try.func11, Try.ntmps11
  go_wp2_with (go_at_call 17; refine (clone_held A xs.length c xs _ (by omega) HH.out.own.held).mono ?_; rintro e w1 ⟨A', c', rfl, ho, hO⟩)
  have HO := Lib.hid ho
  have HW := Lib.hid hO
  clear ho hO
  go_ret
  exact ⟨A', c', rfl, HO.out, HW.out⟩

theorem all_nil (w : World) : Calls Try.prog 11 #[.pointer none] w fun e w' => e = .returned (.slice none 0 0) ∧ w' = w := by
  go_enter Try.func11, Try.ntmps11
  go_wp2
  go_ret
  exact ⟨rfl, rfl⟩

/-- The same, with the length by its own name. -/
theorem all_n (b : Nat) (A : Option Addr) (c n : Nat) (xs : List Int) (w : World) (h : Mem w b A c xs) (hn : xs.length = n) :
    Calls Try.prog 11 #[.pointer (some ⟨b, 0, none⟩)] w fun e w' => ∃ A' c', e = .returned (.slice A' n c') ∧ Own w' w.heap.size A' c' xs ∧ Only Nil w w' := by
  subst hn; exact all_any b A c xs w h
end Go.Proofs.Ytjdgniconbocnaa
