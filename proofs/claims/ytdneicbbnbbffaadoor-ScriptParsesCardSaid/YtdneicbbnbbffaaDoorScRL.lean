/- A script's lines: the answer's. -/
import Derived.Test.YtdneicbbnbbffaaDoorScL
import Derived.Test.YtdneicbbnbbffaaDoorBytesW
import Derived.IntWalk
namespace Go.Proofs.YtdneicbbnbbffaaDoor
open Go.RowKit
set_option linter.unusedVariables false
set_option linter.unusedSimpArgs false
/-- From a text's place a on, up to b. -/
def part (l : Bs) (a b : Nat) : Bs := (l.drop a).take (b - a)
theorem lineL_pre : ∀ (x r : Bs), (10 : UInt8) ∉ x → lineL (x ++ 10 :: r) = x :: lineL r := fun x r h => by
  obtain ⟨e1, e2⟩ := tw_hit (l := x) (r := r) h
  rw [lineL_step (by simp), e1, e2]
theorem lineL_last {x : Bs} (h : (10 : UInt8) ∉ x) (h0 : x ≠ []) : lineL x = [x] := by
  obtain ⟨e1, e2⟩ := tw_all h
  rw [lineL_step h0, e1, e2]; rfl
theorem extract_bs (s : ByteArray) (a b : Nat) : s.extract a b = bs (part s.data.toList a b) := by
  apply ByteArray.ext
  apply Array.ext'
  exact Lib.extract_data s a b
/-- The last line, if there is one. -/
theorem part_all (l : Bs) (a : Nat) : part l a l.length = l.drop a := by
  unfold part
  exact List.take_of_length_le (by rw [List.length_drop]; omega)
theorem part_nil (l : Bs) (a : Nat) : part l a a = [] := by unfold part; rw [Nat.sub_self, List.take_zero]
theorem part_more {l : Bs} {a k : Nat} {c : UInt8} (ha : a ≤ k) (hc : l[k]? = some c) : part l a (k + 1) = part l a k ++ [c] := by
  unfold part
  rw [show k + 1 - a = (k - a) + 1 by omega, List.take_add_one, List.getElem?_drop, show a + (k - a) = k by omega, hc]; rfl
theorem drop_part {l : Bs} {a k : Nat} {c : UInt8} (ha : a ≤ k) (hc : l[k]? = some c) : l.drop a = part l a k ++ c :: l.drop (k + 1) := by
  have hlt := (List.getElem?_eq_some_iff.1 hc).1
  have he := (List.getElem?_eq_some_iff.1 hc).2
  unfold part
  have h1 : l.drop a = (l.drop a).take (k - a) ++ (l.drop a).drop (k - a) := (List.take_append_drop _ _).symm
  rw [List.drop_drop, show a + (k - a) = k by omega, List.drop_eq_getElem_cons hlt, he] at h1
  exact h1
set_option maxHeartbeats 1000000 in
theorem lines_s (s : ByteArray) (w : World) (hs : s.size ≤ 100000) : Calls Tryd.prog 15 #[.string s] w (GotS (lineL s.data.toList) w) := by
  have HS := Lib.hid hs
  have hs' : (s.size : Int) ≤ 100000 := by omega
  have hown0 : OwnS w.heap.size w (.slice none 0 0) (([] : List Bs).map bs) := ⟨by simp, .inl ⟨rfl, rfl⟩⟩
  have H0 := Lib.hid hown0
  clear hs hown0
  generalize hb : w.heap.size = base at *
  have HB := Lib.hid hb
  clear hb
  go_enter Tryd.func15, Tryd.ntmps15
  go_wp2
  go_loopw [3, 4, 5] (fun out fr i wr => ∃ (k a : Nat) (dn : List Bs), k ≤ s.size ∧ a ≤ k ∧ i = .int .i64 k ∧ fr = .int .i64 a ∧ OwnS base wr out (dn.map bs) ∧ Only Nil w wr ∧ Hid (lineL s.data.toList = dn ++ lineL (s.data.toList.drop a)) ∧ Hid ((10 : UInt8) ∉ part s.data.toList a k) ∧ dn.length ≤ k) (fun _ _ i _ => s.size - (intOf i).toNat)
  case atStart => exact ⟨0, 0, [], Nat.zero_le _, Nat.zero_le _, rfl, rfl, H0.out, Only.refl _ _, Lib.hid (by rw [List.drop_zero]; rfl), Lib.hid (by rw [part_nil]; simp), Nat.le_refl _⟩
  case round =>
    obtain ⟨k, a, dn, hk, ha, rfl, rfl, hown, hO, HC, HX, hdl⟩ := hrel
    have HO := Lib.hid hO
    have HOWN := Lib.hid hown
    have HDL := Lib.hid hdl
    clear hown hO hdl
    by_cases hlt : k < s.size
    · have hget : s.data.toList[k]? = some s[k] := by rw [List.getElem?_eq_getElem (by rw [size_list]; exact hlt)]; exact congrArg some (getElem_list s k hlt)
      by_cases hc : s[k] = 10
      · have h10 : s[k].toNat = 10 := by rw [hc]; rfl
        rw [hc] at hget
        have HN := Lib.hid (show lineL s.data.toList = (dn ++ [part s.data.toList a k]) ++ lineL (s.data.toList.drop (k + 1)) by
          rw [HC.out, drop_part ha hget, lineL_pre _ _ HX.out, List.append_assoc]; rfl)
        have hex := extract_bs s a k
        clear hc hget
        generalize hp : part s.data.toList a k = p at *
        clear hp
        generalize hB : bs p = B at *
        have HBB := Lib.hid hB
        clear hB
        go_wp2_with (at_builtin; refine wp_app rfl (.tmp 16) (.tmp 21) rfl base _ _ rfl (HOWN.out.only ((Only.refl _ _).alloc _)) _ [B] rfl (Row.new _ _ _) (by have h1 := HDL.out; have h2 := HS.out; simp; omega) (by simp) (by have h1 := HO.out.size; have h2 := HB.out; simp; omega) ?_)
        intro v4 w4 hown hon
        have HO4 := Lib.hid (hon w (HO.out.alloc _) (Nat.le_of_eq HB.out))
        have HS4 := Lib.hid hown
        clear hown hon
        go_wp2
        exact ⟨⟨k + 1, k + 1, dn ++ [p], by omega, Nat.le_refl _, by go_num, by go_num, by have := HS4.out; rw [← HBB.out] at this; simpa using this, HO4.out, HN, Lib.hid (by rw [part_nil]; simp), by have := HDL.out; simp; omega⟩, by simp [intOf]; omega⟩
      · have h10 : ¬ s[k].toNat = 10 := fun h => hc (UInt8.toNat_inj.1 (h.trans rfl))
        have HX2 := Lib.hid (show (10 : UInt8) ∉ part s.data.toList a (k + 1) by
          rw [part_more ha hget]; simp only [List.mem_append, List.mem_singleton, not_or]; exact ⟨HX.out, fun e => hc e.symm⟩)
        clear hc hget HX
        go_wp2
        exact ⟨⟨k + 1, a, dn, by omega, by omega, by go_num, rfl, HOWN.out, HO.out, HC, HX2, by have := HDL.out; omega⟩, by simp [intOf]; omega⟩
    · have hkk : k = s.size := by omega
      subst hkk
      have HP := Lib.hid (show part s.data.toList a s.size = s.data.toList.drop a from part_all s.data.toList a)
      by_cases hf : a < s.size
      · have HN := Lib.hid (show lineL s.data.toList = dn ++ [part s.data.toList a s.size] by
          rw [HC.out, HP.out, lineL_last (by rw [← HP.out]; exact HX.out) (fun h => by
            have := congrArg List.length h
            rw [List.length_drop, size_list] at this
            simp at this; omega)])
        have hex := extract_bs s a s.size
        clear HP HX
        generalize hp : part s.data.toList a s.size = p at *
        clear hp
        generalize hB : bs p = B at *
        have HBB := Lib.hid hB
        clear hB
        go_wp2_with (at_builtin; refine wp_app rfl (.tmp 29) (.tmp 33) rfl base _ _ rfl (HOWN.out.only ((Only.refl _ _).alloc _)) _ [B] rfl (Row.new _ _ _) (by have h1 := HDL.out; have h2 := HS.out; simp; omega) (by simp) (by have h1 := HO.out.size; have h2 := HB.out; simp; omega) ?_)
        intro v4 w4 hown hon
        have HO4 := Lib.hid (hon w (HO.out.alloc _) (Nat.le_of_eq HB.out))
        have HS4 := Lib.hid hown
        clear hown hon
        go_wp2
        go_ret
        refine ⟨v4, rfl, ?_, HO4.out⟩
        rw [HN.out, HB.out]
        have := HS4.out
        rw [← HBB.out] at this
        simpa using this
      · have ha' : a = s.size := by omega
        have HN := Lib.hid (show lineL s.data.toList = dn by
          rw [HC.out, List.drop_eq_nil_of_le (by rw [size_list]; omega)]; simp [lineL])
        clear HC HX HP
        subst ha'
        go_wp2
        go_ret
        exact ⟨_, rfl, by rw [HN.out, HB.out]; exact HOWN.out, HO.out⟩
end Go.Proofs.YtdneicbbnbbffaaDoor
