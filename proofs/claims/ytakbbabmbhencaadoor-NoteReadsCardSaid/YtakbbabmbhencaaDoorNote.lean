/- Notes as texts: lists of words, and the small functions of note. -/
import Derived.Test.YtakbbabmbhencaaDoorStr
import Derived.Test.YtakbbabmbhencaaDoorStrEq
import Derived.Test.YtakbbabmbhencaaDoorNoteM
import Derived.IntWalk
namespace Go.Proofs.YtakbbabmbhencaaDoor
open Go.RowKit
set_option linter.unusedVariables false
set_option linter.unusedSimpArgs false

/-- v is a list of these words. -/
def Strs (w : World) (v : Value) (ws : List Bs) : Prop := (ws = [] ∧ v = .slice none 0 0) ∨ ∃ g c, v = .slice (some ⟨g, 0, none⟩) ws.length c ∧ g < w.heap.size ∧ ∀ (j : Nat) (x : Bs), ws[j]? = some x → w.cell? ⟨g, j, none⟩ = some (.string (bs x))
theorem Strs.only {w w' : World} {v : Value} {ws : List Bs} (h : Strs w v ws) (ho : Only Nil w w') : Strs w' v ws := by
  rcases h with h | ⟨g, c, hv, hg, hc⟩
  · exact .inl h
  · exact .inr ⟨g, c, hv, Nat.lt_of_lt_of_le hg ho.size, fun j x hj => (ho.cell (p := ⟨g, j, none⟩) hg id).trans (hc j x hj)⟩
theorem strs_new (w : World) (ws : List Bs) : Strs (w.alloc (.cells ((ws.map bs).map Value.string).toArray 9)) (.slice (some ⟨w.heap.size, 0, none⟩) ws.length ws.length) ws :=
  .inr ⟨w.heap.size, ws.length, rfl, by simp, fun j x hj => (Row.new w _ _).cell_ (by rw [List.getElem?_toArray, List.getElem?_map, List.getElem?_map, hj]; rfl)⟩
/-- A list of these words comes back. -/
def Gives (ws : List Bs) (w : World) (e : Ending) (w' : World) : Prop := ∃ v, e = .returned v ∧ Strs w' v ws ∧ Only Nil w w'
theorem gives_nil (w : World) : Gives [] w (.returned (.slice none 0 0)) w := ⟨_, rfl, .inl ⟨rfl, rfl⟩, Only.refl _ _⟩
theorem gives_new (w : World) (ws : List Bs) : Gives ws w (.returned (.slice (some ⟨w.heap.size, 0, none⟩) ws.length ws.length)) (w.alloc (.cells ((ws.map bs).map Value.string).toArray 9)) :=
  ⟨_, rfl, strs_new w ws, (Only.refl _ _).alloc _⟩
theorem opWords_any (w : World) : Calls Tryd.prog 33 #[] w (Gives opWs w) := by
  go_enter Tryd.func33, Tryd.ntmps33
  go_wp2
  go_ret
  exact gives_new w opWs
theorem whatWords_any (w : World) : Calls Tryd.prog 24 #[] w (Gives whWs w) := by
  go_enter Tryd.func24, Tryd.ntmps24
  go_wp2
  go_ret
  exact gives_new w whWs
theorem opOf_any (k : Int) (w : World) : Calls Tryd.prog 25 #[.int .i64 k] w (Gives (opOf k) w) := by
  by_cases h : k = 1 ∨ k = 11
  · rw [show opOf k = opWs by unfold opOf; rw [if_pos h]]
    have H := Lib.hid (opWords_any)
    rcases h with rfl | rfl
    all_goals
      go_enter Tryd.func25, Tryd.ntmps25
      go_wp2_with fail
      refine (H.out _).mono ?_
      rintro e w' ⟨v, rfl, hs, hO⟩
      have HS := Lib.hid hs
      have HO := Lib.hid hO
      clear hs hO
      go_wp2
      go_ret
      exact ⟨_, rfl, HS.out, HO.out⟩
  · rw [show opOf k = [] by unfold opOf; rw [if_neg h]]
    have h1 : ¬ k = 1 := by omega
    have h2 : ¬ k = 11 := by omega
    clear h
    go_enter Tryd.func25, Tryd.ntmps25
    go_wp2
    go_ret
    exact gives_nil w
theorem argOf_any (k : Int) (w : World) : Calls Tryd.prog 26 #[.int .i64 k] w (Gives (argOf k) w) := by
  by_cases h2 : k = 2
  · subst h2
    go_enter Tryd.func26, Tryd.ntmps26
    go_wp2
    go_ret
    exact gives_new w clWs
  · by_cases h11 : k = 11
    · subst h11
      go_enter Tryd.func26, Tryd.ntmps26
      go_wp2
      go_ret
      exact gives_new w rtWs
    · rw [show argOf k = [] by unfold argOf; rw [if_neg h2, if_neg h11]]
      go_enter Tryd.func26, Tryd.ntmps26
      go_wp2
      go_ret
      exact gives_nil w
theorem word_at {ws : List Bs} {k : Nat} (h : k < ws.length) : ws[k]? = some (wordI ws k) := by
  unfold wordI
  rw [if_neg (by omega), Int.toNat_natCast, List.getD_eq_getElem?_getD, List.getElem?_eq_getElem h]; rfl
theorem word_any (v : Value) (ws : List Bs) (x : Int) (w : World) (h : Strs w v ws) : Calls Tryd.prog 23 #[v, .int .i64 x] w fun e w' => e = .returned (.string (bs (wordI ws x))) ∧ w = w' := by
  by_cases h0 : x < 0
  · rw [word_out (.inl h0), show bs [] = ⟨#[]⟩ from rfl]
    rcases h with ⟨_, rfl⟩ | ⟨g, c, rfl, _, _⟩
    all_goals
      go_enter Tryd.func23, Tryd.ntmps23
      go_wp2
      go_ret
      exact ⟨rfl, rfl⟩
  · by_cases h1 : (ws.length : Int) ≤ x
    · rw [word_out (.inr h1), show bs [] = ⟨#[]⟩ from rfl]
      rcases h with ⟨rfl, rfl⟩ | ⟨g, c, rfl, _, _⟩
      · have h1' : (0 : Int) ≤ x := by omega
        clear h1 h0
        go_enter Tryd.func23, Tryd.ntmps23
        go_wp2
        go_ret
        exact ⟨rfl, rfl⟩
      · generalize ws.length = n at *
        go_enter Tryd.func23, Tryd.ntmps23
        go_wp2
        go_ret
        exact ⟨rfl, rfl⟩
    · obtain ⟨k, rfl⟩ : ∃ k : Nat, x = k := ⟨x.toNat, by omega⟩
      have hk : k < ws.length := by omega
      rcases h with ⟨rfl, rfl⟩ | ⟨g, c, rfl, hg, hc⟩
      · simp at hk
      · have hcell := hc k _ (word_at hk)
        generalize bs (wordI ws k) = X at *
        generalize ws.length = n at *
        clear hc h0 h1 hg
        have h0 : decide ((k : Int) < 0) = false := by simp
        have h1 : ¬ (n : Int) ≤ k := by omega
        go_enter Tryd.func23, Tryd.ntmps23
        go_wp2
        go_ret
        exact ⟨rfl, rfl⟩
/-- What the comparison with the empty text tells of a text of these bytes. -/
theorem bs_some {l : Bs} (h : l ≠ []) : ¬ (bs l).toList = [] ∧ (bs l).toList.isEmpty = false := by
  have e : ¬ (bs l).toList = [] := by rw [ByteArray.toList_eq]; exact h
  exact ⟨e, by simpa using e⟩
theorem fits_any (v : Value) (ws : List Bs) (x : Int) (w : World) (h : Strs w v ws) : Calls Tryd.prog 30 #[v, .int .i64 x] w fun e w' => e = .returned (.bool (fitB ws x)) ∧ w = w' := by
  have HW := Lib.hid (word_any v ws x w h)
  rcases h with ⟨rfl, rfl⟩ | ⟨g, c, rfl, hg, hc⟩
  · clear HW
    rw [show fitB [] x = decide (x = 0) from rfl]
    by_cases hx : x = 0
    · subst hx
      go_enter Tryd.func30, Tryd.ntmps30
      go_wp2
      go_ret
      exact ⟨rfl, rfl⟩
    · have hb : (x == 0) = false := by simpa using hx
      rw [decide_eq_false hx]
      go_enter Tryd.func30, Tryd.ntmps30
      go_wp2
      go_ret
      exact ⟨rfl, rfl⟩
  · clear hg hc
    by_cases h0 : ws = []
    · subst h0
      rw [show fitB [] x = decide (x = 0) from rfl]
      clear HW
      rw [show (([] : List Bs).length) = 0 from rfl]
      by_cases hx : x = 0
      · subst hx
        go_enter Tryd.func30, Tryd.ntmps30
        go_wp2
        go_ret
        exact ⟨rfl, rfl⟩
      · have hb : (x == 0) = false := by simpa using hx
        rw [decide_eq_false hx]
        go_enter Tryd.func30, Tryd.ntmps30
        go_wp2
        go_ret
        exact ⟨rfl, rfl⟩
    · have hfit : fitB ws x = !decide (wordI ws x = []) := by unfold fitB; rw [if_neg h0]
      have hn : ((ws.length : Int) == 0) = false := by
        have := List.length_pos_iff.2 h0
        simp; omega
      generalize ws.length = n at *
      by_cases hx : wordI ws x = []
      · rw [hfit, decide_eq_true hx]
        rw [hx, show bs [] = ⟨#[]⟩ from rfl] at HW
        clear hx hfit h0
        go_enter Tryd.func30, Tryd.ntmps30
        go_wp2_with fail
        refine HW.out.mono ?_
        rintro e w' ⟨rfl, rfl⟩
        go_wp2
        go_ret
        exact ⟨rfl, rfl⟩
      · obtain ⟨hx1, hx2⟩ := bs_some hx
        rw [hfit, decide_eq_false hx]
        generalize bs (wordI ws x) = X at *
        clear hx hfit h0
        go_enter Tryd.func30, Tryd.ntmps30
        go_wp2_with fail
        refine HW.out.mono ?_
        rintro e w' ⟨rfl, rfl⟩
        go_wp2
        go_ret
        exact ⟨rfl, rfl⟩
end Go.Proofs.YtakbbabmbhencaaDoor
