/- An operation's number: the answer's. -/
import Derived.Test.YtdneicbbnbbffaaDoorNoteNum
import Derived.Test.YtdneicbbnbbffaaDoorNoteRO
namespace Go.Proofs.YtdneicbbnbbffaaDoor
open Go.RowKit
set_option linter.unusedVariables false
set_option linter.unusedSimpArgs false
theorem num_is : ∀ (ws : List Bs) (i : Nat) (l : Bs), numFrom ws i l = -1 ∨ ∃ k : Nat, ws[k]? = some l ∧ numFrom ws i l = (i : Int) + k
  | [], i, l => .inl rfl
  | x :: r, i, l => by
    unfold numFrom
    by_cases h : x = l
    · rw [if_pos h]; exact .inr ⟨0, by rw [← h]; rfl, by omega⟩
    · rw [if_neg h]
      rcases num_is r (i + 1) l with h' | ⟨k, h1, h2⟩
      · exact .inl h'
      · exact .inr ⟨k + 1, by simpa using h1, by rw [h2]; omega⟩
theorem num_op_hit : ∀ k : Fin 9, 0 < k.val → numI opWs (wordI opWs (k.val : Nat)) = (k.val : Nat) := by decide +kernel
theorem num_op_none {l : Bs} (h : ∀ k : Nat, 1 ≤ k → k < 9 → wordI opWs k ≠ l) : numI opWs l = 0 := by
  unfold numI
  rcases num_is opWs 0 l with e | ⟨k, h1, h2⟩
  · rw [e]; rfl
  · rcases Nat.eq_zero_or_pos k with rfl | hk
    · rw [h2]; rfl
    · have hlt : k < opWs.length := (List.getElem?_eq_some_iff.1 h1).1
      rw [word_at hlt] at h1
      injection h1 with h1
      exact absurd h1 (h k hk hlt)
theorem number_ref (s : ByteArray) (w : World) : Calls Tryd.prog 21 #[.string s] w fun e w' => e = .returned (.int .i64 (numI opWs s.data.toList)) ∧ Only Nil w w' := by
  have HH := Lib.hid (fun k (h : wordI opWs k = s.data.toList) => h)
  have HE := Lib.hid (show ∀ x : Bs, ((bs x).toList == s.toList) = decide (x = s.data.toList) from fun x => by
    rw [beq_str]
    exact decide_eq_decide.2 ⟨fun e => by rw [← e]; rfl, fun e => by rw [e]; rfl⟩)
  have HN := Lib.hid (num_op_none (l := s.data.toList))
  have HY := Lib.hid (show ∀ k : Nat, 1 ≤ k → k < 9 → wordI opWs k = s.data.toList → numI opWs s.data.toList = k from fun k h1 h9 e => by
    rw [← e]; exact num_op_hit ⟨k, h9⟩ h1)
  clear HH
  go_enter Tryd.func21, Tryd.ntmps21
  go_wp2
  go_loopw [3] (fun i wr => ∃ k : Nat, 1 ≤ k ∧ k ≤ 9 ∧ i = .int .i64 k ∧ Hid (∀ j : Nat, 1 ≤ j → j < k → wordI opWs j ≠ s.data.toList) ∧ Hid (Only Nil w wr)) (fun i _ => 9 - (intOf i).toNat)
  case atStart => exact ⟨1, by omega, by omega, rfl, Lib.hid (fun j h1 h2 => absurd h1 (by omega)), Lib.hid (Only.refl _ _)⟩
  case round =>
    obtain ⟨k, hk1, hk9, rfl, HD, HO⟩ := hrel
    by_cases hlt : k < 9
    · have hq := HE.out (wordI opWs k)
      go_wp2_with fail
      refine (op_ref k _).mono ?_
      rintro e w2 ⟨rfl, hO⟩
      have HO2 := Lib.hid (HO.out.trans hO)
      clear hO
      by_cases he : wordI opWs k = s.data.toList
      · rw [decide_eq_true he] at hq
        have HR := Lib.hid (HY.out k hk1 hlt he)
        clear he
        generalize bs (wordI opWs k) = X at *
        go_wp2
        go_ret
        exact ⟨by rw [HR.out]; rfl, HO2.out⟩
      · rw [decide_eq_false he] at hq
        have HD1 : Hid (∀ j : Nat, 1 ≤ j → j < k + 1 → wordI opWs j ≠ s.data.toList) := Lib.hid (fun j h1 h2 => by
          rcases Nat.lt_or_ge j k with h | h
          · exact HD.out j h1 h
          · rw [show j = k by omega]; exact he)
        clear he
        generalize bs (wordI opWs k) = X at *
        go_wp2
        exact ⟨⟨k + 1, by omega, by omega, by go_num, HD1, HO2⟩, by simp [intOf]; omega⟩
    · obtain rfl : k = 9 := by omega
      have HR := Lib.hid (HN.out HD.out)
      clear hlt hk1 hk9
      go_wp2
      go_ret
      exact ⟨by rw [HR.out]; rfl, HO.out⟩
end Go.Proofs.YtdneicbbnbbffaaDoor
