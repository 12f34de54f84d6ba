/- A line's words: the answer's. -/
import Derived.Test.YtdneicbbnbbffaaDoorScL
import Derived.Test.YtdneicbbnbbffaaDoorBytesW
import Derived.IntWalk
namespace Go.Proofs.YtdneicbbnbbffaaDoor
open Go.RowKit
set_option linter.unusedVariables false
set_option linter.unusedSimpArgs false
def fil (ls : List Bs) : List Bs := ls.filter fun w => !decide (w = [])
/-- The word so far, if there is one. -/
def oneW (cur : Bs) : List Bs := if cur = [] then [] else [cur]
theorem fil_one (cur : Bs) : fil [cur] = oneW cur := by
  unfold oneW fil
  by_cases h : cur = [] <;> simp [h]
theorem fil_app (a b : List Bs) : fil (a ++ b) = fil a ++ fil b := List.filter_append _ _
/-- What is to come behind k bytes. -/
def toCome (l : Bs) (n k : Nat) (cur : Bs) : List Bs := if k ≤ n then fil (ahead cur (cut (l.drop k))) else []
theorem fil_words (l : Bs) : fil (cut l) = wordsL l := rfl
set_option maxHeartbeats 1000000 in
theorem words_s (s : ByteArray) (w : World) (hs : s.size ≤ 100000) : Calls Tryd.prog 19 #[.string s] w (GotS (wordsL s.data.toList) w) := by
  have HS := Lib.hid hs
  have hs' : (s.size : Int) ≤ 100000 := by omega
  have hown0 : OwnS w.heap.size w (.slice none 0 0) (([] : List Bs).map bs) := ⟨by simp, .inl ⟨rfl, rfl⟩⟩
  have H0 := Lib.hid hown0
  clear hs hown0
  generalize hb : w.heap.size = base at *
  have HB := Lib.hid hb
  clear hb
  go_enter Tryd.func19, Tryd.ntmps19
  go_wp2
  go_loopw [3, 4, 5] (fun out wd i wr => ∃ (k : Nat) (dn : List Bs) (cur : Bs), k ≤ s.size + 1 ∧ i = .int .i64 k ∧ wd = .string (bs cur) ∧ OwnS base wr out (dn.map bs) ∧ Only Nil w wr ∧ Hid (wordsL s.data.toList = dn ++ toCome s.data.toList s.size k cur) ∧ cur.length ≤ k ∧ dn.length ≤ k) (fun _ _ i _ => s.size + 1 - (intOf i).toNat)
  case atStart => exact ⟨0, [], [], Nat.zero_le _, rfl, rfl, H0.out, Only.refl _ _, Lib.hid (by unfold toCome; rw [if_pos (Nat.zero_le _), List.drop_zero, ahead_nil]; rfl), Nat.le_refl _, Nat.le_refl _⟩
  case round =>
    obtain ⟨k, dn, cur, hk, rfl, rfl, hown, hO, HC, hcl, hdl⟩ := hrel
    have HO := Lib.hid hO
    have HOWN := Lib.hid hown
    have HCL := Lib.hid hcl
    have HDL := Lib.hid hdl
    have hcs : (bs cur).size ≤ 100001 := by have := HS.out; rw [bs_size]; omega
    clear hown hO hcl hdl
    by_cases hlt : k < s.size
    · have HDR := Lib.hid (drop_byte s k hlt)
      have HT := Lib.hid (show toCome s.data.toList s.size k cur = fil (ahead cur (cut (s.data.toList.drop k))) by unfold toCome; rw [if_pos (by omega)])
      have HT1 := Lib.hid (fun c => show toCome s.data.toList s.size (k + 1) c = fil (ahead c (cut (s.data.toList.drop (k + 1)))) by unfold toCome; rw [if_pos (by omega)])
      by_cases hc : s[k] = 32
      · have h32 : s[k].toNat = 32 := by rw [hc]; rfl
        have HN := Lib.hid (show wordsL s.data.toList = (dn ++ oneW cur) ++ toCome s.data.toList s.size (k + 1) [] by rw [HC.out, HT.out, HT1.out, HDR.out, hc, ahead_blank, ahead_nil, fil_app, fil_one, List.append_assoc])
        clear hc
        by_cases hcur : cur = []
        · have HN2 := Lib.hid (show wordsL s.data.toList = dn ++ toCome s.data.toList s.size (k + 1) [] by rw [HN.out, hcur]; simp [oneW])
          obtain ⟨q1, q2⟩ := em_yes hcur
          clear hcur
          generalize bs cur = B at *
          go_wp2
          exact ⟨⟨k + 1, dn, [], by omega, by go_num, rfl, HOWN.out, HO.out, HN2, by simp, by have := HDL.out; omega⟩, by simp [intOf] <;> omega⟩
        · have HN2 := Lib.hid (show wordsL s.data.toList = (dn ++ [cur]) ++ toCome s.data.toList s.size (k + 1) [] by rw [HN.out]; unfold oneW; rw [if_neg hcur])
          obtain ⟨q1, q2⟩ := em_no hcur
          clear hcur
          generalize hB : bs cur = B at *
          have HBB := Lib.hid hB
          clear hB
          go_wp2_with (at_builtin; refine wp_app rfl (.tmp 31) (.tmp 33) rfl base _ _ rfl (HOWN.out.only ((Only.refl _ _).alloc _)) _ [B] rfl (Row.new _ _ _) (by have h1 := HDL.out; have h2 := HS.out; simp; omega) (by simp) (by have h1 := HO.out.size; have h2 := HB.out; simp; omega) ?_)
          intro v4 w4 hown hon
          have HO4 := Lib.hid (hon w (HO.out.alloc _) (Nat.le_of_eq HB.out))
          have HS4 := Lib.hid hown
          clear hown hon
          go_wp2
          exact ⟨⟨k + 1, dn ++ [cur], [], by omega, by go_num, rfl, by have := HS4.out; rw [← HBB.out] at this; simpa using this, HO4.out, HN2, by simp, by have := HDL.out; simp; omega⟩, by simp [intOf] <;> omega⟩
      · have h32 : ¬ s[k].toNat = 32 := fun h => hc (UInt8.toNat_inj.1 (h.trans rfl))
        have HN := Lib.hid (show wordsL s.data.toList = dn ++ toCome s.data.toList s.size (k + 1) (cur ++ [s[k]]) by rw [HC.out, HT.out, HT1.out, HDR.out, ahead_more _ _ hc])
        have hex := extract_one s k hlt
        have HAPP := Lib.hid (show bs cur ++ bs [s[k]] = bs (cur ++ [s[k]]) from bs_app _ _)
        have hsz1 : (bs [s[k]]).size = 1 := rfl
        have HLEN := Lib.hid (show (cur ++ [s[k]]).length ≤ k + 1 by have := HCL.out; simp; omega)
        clear hc
        generalize hnx : cur ++ [s[k]] = nx at *
        clear hnx
        generalize bs [s[k]] = D at *
        generalize bs cur = B at *
        go_wp2
        exact ⟨⟨k + 1, dn, nx, by omega, by go_num, by rw [← HAPP.out], HOWN.out, HO.out, HN, HLEN.out, by have := HDL.out; omega⟩, by simp [intOf]; omega⟩
    · by_cases hkk : k = s.size
      · have HT := Lib.hid (show toCome s.data.toList s.size k cur = oneW cur by
          unfold toCome; rw [if_pos (by omega), List.drop_eq_nil_of_le (by rw [size_list]; omega), ahead_end, fil_one])
        have HT1 := Lib.hid (show toCome s.data.toList s.size (k + 1) [] = [] by unfold toCome; rw [if_neg (by omega)])
        have HN := Lib.hid (show wordsL s.data.toList = (dn ++ oneW cur) ++ toCome s.data.toList s.size (k + 1) [] by rw [HC.out, HT.out, HT1.out, List.append_nil])
        subst hkk
        by_cases hcur : cur = []
        · have HN2 := Lib.hid (show wordsL s.data.toList = dn ++ toCome s.data.toList s.size (s.size + 1) [] by rw [HN.out, hcur]; simp [oneW])
          obtain ⟨q1, q2⟩ := em_yes hcur
          clear hcur
          generalize bs cur = B at *
          go_wp2
          exact ⟨⟨s.size + 1, dn, [], by omega, by go_num, rfl, HOWN.out, HO.out, HN2, by simp, by have := HDL.out; omega⟩, by simp [intOf] <;> omega⟩
        · have HN2 := Lib.hid (show wordsL s.data.toList = (dn ++ [cur]) ++ toCome s.data.toList s.size (s.size + 1) [] by rw [HN.out]; unfold oneW; rw [if_neg hcur])
          obtain ⟨q1, q2⟩ := em_no hcur
          clear hcur
          generalize hB : bs cur = B at *
          have HBB := Lib.hid hB
          clear hB
          go_wp2_with (at_builtin; refine wp_app rfl (.tmp 31) (.tmp 33) rfl base _ _ rfl (HOWN.out.only ((Only.refl _ _).alloc _)) _ [B] rfl (Row.new _ _ _) (by have h1 := HDL.out; have h2 := HS.out; simp; omega) (by simp) (by have h1 := HO.out.size; have h2 := HB.out; simp; omega) ?_)
          intro v4 w4 hown hon
          have HO4 := Lib.hid (hon w (HO.out.alloc _) (Nat.le_of_eq HB.out))
          have HS4 := Lib.hid hown
          clear hown hon
          go_wp2
          exact ⟨⟨s.size + 1, dn ++ [cur], [], by omega, by go_num, rfl, by have := HS4.out; rw [← HBB.out] at this; simpa using this, HO4.out, HN2, by simp, by have := HDL.out; simp; omega⟩, by simp [intOf] <;> omega⟩
      · have hkk : k = s.size + 1 := by omega
        have HN := Lib.hid (show wordsL s.data.toList = dn by rw [HC.out]; unfold toCome; rw [if_neg (by omega), List.append_nil])
        clear HC
        subst hkk
        go_wp2
        go_ret
        exact ⟨_, rfl, by rw [HN.out, HB.out]; exact HOWN.out, HO.out⟩
end Go.Proofs.YtdneicbbnbbffaaDoor
