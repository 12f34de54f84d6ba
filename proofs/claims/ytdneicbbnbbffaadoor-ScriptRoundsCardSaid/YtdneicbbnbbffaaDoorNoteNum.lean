/- A word's number; operations' words. -/
import Derived.Test.YtdneicbbnbbffaaDoorNoteW
set_option linter.unusedVariables false
set_option linter.unusedSimpArgs false
namespace Go.Proofs.YtdneicbbnbbffaaDoor
open Go.RowKit

theorem num_drop : ∀ (ws : List Bs) (i k : Nat) (l : Bs), k ≤ ws.length → (∀ (j : Nat) (x : Bs), j < k → ws[j]? = some x → x ≠ l) → numFrom ws i l = numFrom (ws.drop k) (i + k) l
  | ws, i, 0, l, _, _ => rfl
  | [], i, k + 1, l, h, _ => absurd h (by simp)
  | x :: r, i, k + 1, l, h, hn => by
    rw [numFrom, if_neg (hn 0 x (by omega) rfl), List.drop_succ_cons, num_drop r (i + 1) k l (by simpa using h) (fun j y hj hy => hn (j + 1) y (by omega) hy), show i + 1 + k = i + (k + 1) by omega]

theorem num_hit {ws : List Bs} {k : Nat} {x l : Bs} (hk : ws[k]? = some x) (h : x = l) (hn : ∀ (j : Nat) (x : Bs), j < k → ws[j]? = some x → x ≠ l) : numFrom ws 0 l = k := by
  have hlt : k < ws.length := (List.getElem?_eq_some_iff.1 hk).1
  rw [num_drop ws 0 k l (by omega) hn, List.drop_eq_getElem_cons hlt, numFrom, if_pos (by rw [← h]; exact (List.getElem?_eq_some_iff.1 hk).2), Nat.zero_add]

theorem num_none {ws : List Bs} {l : Bs} (hn : ∀ (j : Nat) (x : Bs), j < ws.length → ws[j]? = some x → x ≠ l) : numFrom ws 0 l = -1 := by
  rw [num_drop ws 0 ws.length l (Nat.le_refl _) hn, List.drop_length]; rfl

theorem num_lo : ∀ (ws : List Bs) (i : Nat) (l : Bs), -1 ≤ numFrom ws i l ∧ numFrom ws i l < ws.length + i
  | [], i, l => by unfold numFrom; simp; omega
  | x :: r, i, l => by
    have := num_lo r (i + 1) l
    unfold numFrom
    split
    · simp; omega
    · simp only [List.length_cons]; omega

theorem index_any (v : Value) (ws : List Bs) (s : ByteArray) (w : World) (h : Strs w v ws) (hm : ws.length ≤ 1000) : Calls Tryd.prog 55 #[v, .string s] w fun e w' => e = .returned (.int .i64 (numFrom ws 0 s.data.toList)) ∧ w = w' := by
  rcases h with ⟨rfl, rfl⟩ | ⟨g, c, rfl, hg, hc⟩
  · go_enter Tryd.func55, Tryd.ntmps55
    go_wp2
    go_loop [8] (fun i => i = .int .i64 0) (fun i => 0)
    case atStart => exact rfl
    case round =>
      subst hrel
      go_wp2
      go_ret
      exact ⟨rfl, rfl⟩
  · have HC := Lib.hid hc
    have HH := Lib.hid (fun k x (hk : ws[k]? = some x) (h : x = s.data.toList) hn => num_hit hk h hn)
    have HN := Lib.hid (num_none (ws := ws) (l := s.data.toList))
    have HL := Lib.hid (show ∀ k, k < ws.length → ∃ x, ws[k]? = some x from fun k hk => ⟨_, List.getElem?_eq_getElem hk⟩)
    have HE := Lib.hid (show ∀ x : Bs, (s.toList == (bs x).toList) = decide (x = s.data.toList) from fun x => by
      rw [beq_str]
      exact decide_eq_decide.2 ⟨fun e => by rw [e]; rfl, fun e => by rw [e]; rfl⟩)
    clear hc hg
    generalize numFrom ws 0 s.data.toList = r at *
    generalize hn : ws.length = n at *
    clear hn
    go_enter Tryd.func55, Tryd.ntmps55
    go_wp2
    go_loop [8] (fun i => ∃ k : Nat, k ≤ n ∧ i = .int .i64 k ∧ Hid (∀ (j : Nat) (x : Bs), j < k → ws[j]? = some x → x ≠ s.data.toList)) (fun i => n - (intOf i).toNat)
    case atStart => exact ⟨0, Nat.zero_le _, rfl, Lib.hid (fun j _ hj => absurd hj (by omega))⟩
    case round =>
      obtain ⟨k, hk, rfl, HD⟩ := hrel
      by_cases hlt : k < n
      · obtain ⟨x, hx⟩ := HL.out k hlt
        have HX := Lib.hid hx
        have hcell := HC.out k x hx
        have hq := HE.out x
        clear hx
        by_cases he : x = s.data.toList
        · rw [decide_eq_true he] at hq
          have HR := Lib.hid (HH.out k x HX.out he HD.out)
          generalize bs x = X at *
          clear he
          go_wp2
          go_ret
          exact ⟨by rw [HR.out]; rfl, rfl⟩
        · rw [decide_eq_false he] at hq
          have HD1 : Hid (∀ (j : Nat) (x : Bs), j < k + 1 → ws[j]? = some x → x ≠ s.data.toList) := Lib.hid (fun j y hj hy => by
            rcases Nat.lt_or_ge j k with h | h
            · exact HD.out j y h hy
            · obtain rfl : j = k := by omega
              rw [HX.out] at hy
              injection hy with hy
              rw [← hy]; exact he)
          generalize bs x = X at *
          clear he
          go_wp2
          exact ⟨⟨k + 1, by omega, by go_num, HD1⟩, by simp [intOf]; omega⟩
      · obtain rfl : k = n := by omega
        have HR := Lib.hid (HN.out HD.out)
        clear hlt hk
        go_wp2
        go_ret
        exact ⟨by rw [HR.out]; rfl, rfl⟩

theorem number_any (v : Value) (ws : List Bs) (s : ByteArray) (w : World) (h : Strs w v ws) (hm : ws.length ≤ 1000) : Calls Tryd.prog 45 #[v, .string s] w fun e w' => e = .returned (.int .i64 (numI ws s.data.toList)) ∧ w = w' := by
  have HI := Lib.hid (index_any v ws s w h hm)
  obtain ⟨lo, hi⟩ := num_lo ws 0 s.data.toList
  unfold numI
  generalize numFrom ws 0 s.data.toList = r at *
  clear h
  have hi' : r < 1000 := by omega
  clear hi hm
  by_cases hr : 0 < r
  · rw [if_pos hr]
    go_enter Tryd.func45, Tryd.ntmps45
    go_wp2_with fail
    refine HI.out.mono ?_
    rintro e w' ⟨rfl, rfl⟩
    go_wp2
    go_ret
    exact ⟨by simp, rfl⟩
  · rw [if_neg hr]
    go_enter Tryd.func45, Tryd.ntmps45
    go_wp2_with fail
    refine HI.out.mono ?_
    rintro e w' ⟨rfl, rfl⟩
    go_wp2
    go_ret
    exact ⟨by simp, rfl⟩

theorem op_note (x : Int) (w : World) : Calls Tryd.prog 25 #[.int .i64 x] w fun e w' => e = .returned (.string (bs (wordI opWs x))) ∧ Only Nil w w' := by
  go_enter Tryd.func25, Tryd.ntmps25
  go_wp2_with fail
  refine (opWords_any _).mono ?_
  rintro e w' ⟨v, rfl, hs, hO⟩
  have HS := Lib.hid hs
  have HO := Lib.hid hO
  clear hs hO
  go_wp2_with fail
  refine (word_any _ _ _ _ HS.out).mono ?_
  rintro e w' ⟨rfl, rfl⟩
  go_wp2
  go_ret
  exact ⟨rfl, HO.out⟩

theorem number_note (s : ByteArray) (w : World) : Calls Tryd.prog 35 #[.string s] w fun e w' => e = .returned (.int .i64 (numI opWs s.data.toList)) ∧ Only Nil w w' := by
  go_enter Tryd.func35, Tryd.ntmps35
  go_wp2_with fail
  refine (opWords_any _).mono ?_
  rintro e w' ⟨v, rfl, hs, hO⟩
  have HS := Lib.hid hs
  have HO := Lib.hid hO
  clear hs hO
  go_wp2_with fail
  refine (number_any _ _ _ _ HS.out (by decide)).mono ?_
  rintro e w' ⟨rfl, rfl⟩
  go_wp2
  go_ret
  exact ⟨rfl, HO.out⟩
end Go.Proofs.YtdneicbbnbbffaaDoor
