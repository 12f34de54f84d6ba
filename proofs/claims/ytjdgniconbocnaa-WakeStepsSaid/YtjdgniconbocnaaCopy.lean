/- The answer's Copy. -/
import Derived.Test.YtjdgniconbocnaaClone
set_option linter.unusedVariables false
set_option linter.unusedSimpArgs false
namespace Go.Proofs.Ytjdgniconbocnaa
open Go.RowKit

/-- append([]uint32{}, l...) at a nil list. -/
theorem copy_nil (w : World) : Calls Try.prog 7 #[.slice none 0 0] w fun e w' => ∃ v, e = .returned v ∧ w'.ownsRow w.heap.size 31 1 v 0 [] ∧ Only Nil w w' := by
  obtain ⟨i0, hi, hz0, hz1, hz2⟩ := info_parts infoW
  go_enter Try.func7, Try.ntmps7
  go_wp2
  go_ret
  exact ⟨_, rfl, World.ownsRow_made w #[] 0 (Nat.le_refl _) (by decide) rfl, (Only.refl _ _).alloc _⟩

theorem copy_some (a : Addr) (n cap : Nat) (xs : List Int) (w : World) (hn : xs.length = n) (hm : n ≤ 1048576) (h : Ints w w.heap.size .u32 (some a) xs) :
    Calls Try.prog 7 #[.slice (some a) n cap] w fun e w' => ∃ v, e = .returned v ∧ w'.ownsRow w.heap.size 31 1 v n (xs.map (.int .u32)) ∧ Only Nil w w' := by
  obtain ⟨i0, hi, hz0, hz1, hz2⟩ := info_parts infoW
  go_enter Try.func7, Try.ntmps7
  go_wp2_with (at_builtin; refine wpList_append_own _ rfl (.tmp 3) (.tmp 4) 22 rfl w.heap.size 31 i0 (.int .u32 0) 1 4 Try.underlying22 hi hz0 hz1 hz2 rfl (by decide) _ 0 [] rfl (World.ownsRow_made w #[] 0 (Nat.le_refl _) (by decide) rfl) a n cap (xs.map (.int .u32)) rfl ?c0 ?c1 ?c2 ?c3 ?c4 ?c5 ?_)
  case c0 => simp [hn]
  case c1 => exact news_of (h.alloc (Nat.le_refl _) (.cells #[] 31))
  case c2 => exact one_of xs
  case c3 => unfold maxLen; omega
  case c4 => omega
  case c5 => simp
  intro v' w1 hown hgrow _
  have HO := Lib.hid hown
  have HG := Lib.hid hgrow
  clear hown hgrow
  go_wp2
  go_ret
  exact ⟨_, rfl, HO.out, ((Only.refl _ _).alloc _).grown HG.out (fun k hk => by simp only [Value.ownBlock, Option.some.injEq] at hk; left; omega)⟩

theorem copy_any (A : Option Addr) (n cap : Nat) (xs : List Int) (w : World) (hm : n ≤ 1048576) (h : Held w A n cap xs) :
    Calls Try.prog 7 #[.slice A n cap] w fun e w' => ∃ A' c', e = .returned (.slice A' xs.length c') ∧ Own w' w.heap.size A' c' xs ∧ Only Nil w w' := by
  obtain ⟨h1, h2, h3⟩ := h
  cases A with
  | none =>
    obtain ⟨rfl, rfl⟩ := h2 rfl
    obtain rfl : xs = [] := List.length_eq_zero_iff.1 h1
    refine (copy_nil w).mono fun e w' ⟨v, he, ho, hO⟩ => ?_
    obtain ⟨A', c', rfl, hw⟩ := Own.of (xs := []) ho
    exact ⟨A', c', he, hw, hO⟩
  | some a =>
    subst h1
    refine (copy_some a _ cap xs w rfl hm h3).mono fun e w' ⟨v, he, ho, hO⟩ => ?_
    obtain ⟨A', c', rfl, hw⟩ := Own.of ho
    exact ⟨A', c', he, hw, hO⟩

theorem copy_n (A : Option Addr) (n cap : Nat) (xs : List Int) (w : World) (hm : n ≤ 1048576) (h : Held w A n cap xs) :
    Calls Try.prog 7 #[.slice A n cap] w fun e w' => ∃ A' c', e = .returned (.slice A' n c') ∧ Own w' w.heap.size A' c' xs ∧ Only Nil w w' := by
  have e := h.1
  have q := copy_any A n cap xs w hm h
  rw [e] at q
  exact q
end Go.Proofs.Ytjdgniconbocnaa
