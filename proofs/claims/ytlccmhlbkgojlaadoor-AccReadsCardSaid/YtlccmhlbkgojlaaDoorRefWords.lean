/- What stands between blanks: the answer's Words. -/
import Derived.Test.YtlccmhlbkgojlaaDoorRefHex
import Derived.Test.YtlccmhlbkgojlaaDoorApp
namespace Go.Proofs.YtlccmhlbkgojlaaDoor
open Go.RowKit
/-- A list of these texts, that the call made. -/
def GotS (ls : List Bs) (w : World) (e : Ending) (w' : World) : Prop := ∃ v, e = .returned v ∧ OwnS w.heap.size w' v (ls.map bs) ∧ Only Nil w w'
theorem extract_one (s : ByteArray) (k : Nat) (h : k < s.size) : s.extract k (k + 1) = bs [s[k]] := by
  apply ByteArray.ext
  apply Array.ext'
  show (s.extract k (k + 1)).data.toList = [s[k]]
  rw [Lib.extract_data]
  rw [show s.data.toList.drop k = s[k] :: s.data.toList.drop (k + 1) from drop_byte s k h, show k + 1 - k = 1 by omega]
  rfl
set_option maxHeartbeats 1000000 in
theorem words_ref (s : ByteArray) (w : World) (hs : s.size ≤ 900) : Calls Tryd.prog 27 #[.string s] w (GotS (cut s.data.toList) w) := by
  have HS := Lib.hid hs
  have hs' : (s.size : Int) ≤ 900 := by omega
  have HBS := Lib.hid (Nat.le_refl w.heap.size)
  have hown0 : OwnS w.heap.size w (.slice none 0 0) (([] : List Bs).map bs) := ⟨by simp, .inl ⟨rfl, rfl⟩⟩
  have H0 := Lib.hid hown0
  clear hs hown0
  generalize hb : w.heap.size = base at *
  have HB := Lib.hid hb
  clear hb
  go_enter Tryd.func27, Tryd.ntmps27
  go_wp2
  go_loopw [3, 4, 5] (fun out wd i wr => ∃ (k : Nat) (dn : List Bs) (cur : Bs), k ≤ s.size ∧ i = .int .i64 k ∧ wd = .string (bs cur) ∧ OwnS base wr out (dn.map bs) ∧ Only Nil w wr ∧ Hid (cut s.data.toList = dn ++ ahead cur (cut (s.data.toList.drop k))) ∧ cur.length ≤ k ∧ dn.length ≤ k) (fun _ _ i _ => s.size - (intOf i).toNat)
  case atStart => exact ⟨0, [], [], Nat.zero_le _, rfl, rfl, H0.out, Only.refl _ _, Lib.hid (by rw [List.drop_zero, ahead_nil]; rfl), Nat.le_refl _, Nat.le_refl _⟩
  case round =>
    obtain ⟨k, dn, cur, hk, rfl, rfl, hown, hO, HC, hcl, hdl⟩ := hrel
    have HO := Lib.hid hO
    have HOWN := Lib.hid hown
    have HCL := Lib.hid hcl
    have HDL := Lib.hid hdl
    have hcs : (bs cur).size ≤ 900 := by have := HS.out; rw [bs_size]; omega
    clear hown hO hcl hdl
    by_cases hlt : k < s.size
    · have HDR := Lib.hid (drop_byte s k hlt)
      by_cases hc : s[k] = 32
      · have h32 : s[k].toNat = 32 := by rw [hc]; rfl
        have HN := Lib.hid (show cut s.data.toList = (dn ++ [cur]) ++ ahead [] (cut (s.data.toList.drop (k + 1))) by rw [HC.out, HDR.out, hc, ahead_blank, ahead_nil, List.append_assoc])
        clear hc
        generalize hB : bs cur = B at *
        have HBB := Lib.hid hB
        clear hB
        go_wp2_with (at_builtin; refine wp_app rfl (.tmp 16) (.tmp 18) rfl base _ _ rfl (HOWN.out.only ((Only.refl _ _).alloc _)) _ [B] rfl (Row.new _ _ _) (by have h1 := HDL.out; have h2 := HS.out; simp; omega) (by simp) (by have h1 := HO.out.size; have h2 := HB.out; simp; omega) ?_)
        intro v4 w4 hown hon
        have HO4 := Lib.hid (hon w (HO.out.alloc _) (Nat.le_of_eq HB.out))
        have HS4 := Lib.hid hown
        clear hown hon
        go_wp2
        exact ⟨⟨k + 1, dn ++ [cur], [], by omega, by go_num, rfl, by have := HS4.out; rw [← HBB.out] at this; simpa using this, HO4.out, HN, by simp, by have := HDL.out; simp; omega⟩, by simp [intOf]; omega⟩
      · have h32 : ¬ s[k].toNat = 32 := fun h => hc (UInt8.toNat_inj.1 (h.trans rfl))
        have HN := Lib.hid (show cut s.data.toList = dn ++ ahead (cur ++ [s[k]]) (cut (s.data.toList.drop (k + 1))) by rw [HC.out, HDR.out, ahead_more _ _ hc])
        have hex := extract_one s k hlt
        have HAPP := Lib.hid (show bs cur ++ bs [s[k]] = bs (cur ++ [s[k]]) from bs_app _ _)
        have hsz1 : (bs [s[k]]).size = 1 := rfl
        have HLEN := Lib.hid (show (cur ++ [s[k]]).length ≤ k + 1 by have := HCL.out; simp; omega)
        clear hc
        generalize hnx : cur ++ [s[k]] = nx at *
        clear hnx
        generalize bs [s[k]] = D at *
        generalize bs cur = B at *
        go_wp2
        exact ⟨⟨k + 1, dn, nx, by omega, by go_num, by rw [← HAPP.out], HOWN.out, HO.out, HN, HLEN.out, by have := HDL.out; omega⟩, by simp [intOf]; omega⟩
    · have hkk : k = s.size := by omega
      subst hkk
      have HN := Lib.hid (show cut s.data.toList = dn ++ [cur] by rw [HC.out, List.drop_eq_nil_of_le (by rw [size_list]; exact Nat.le_refl _), ahead_end])
      generalize hB : bs cur = B at *
      have HBB := Lib.hid hB
      clear hB
      go_wp2_with (at_builtin; refine wp_app rfl (.tmp 27) (.tmp 29) rfl base _ _ rfl (HOWN.out.only ((Only.refl _ _).alloc _)) _ [B] rfl (Row.new _ _ _) (by have h1 := HDL.out; have h2 := HS.out; simp; omega) (by simp) (by have h1 := HO.out.size; have h2 := HB.out; simp; omega) ?_)
      intro v4 w4 hown hon
      have HO4 := Lib.hid (hon w (HO.out.alloc _) (Nat.le_of_eq HB.out))
      have HS4 := Lib.hid hown
      clear hown hon
      go_wp2
      go_ret
      refine ⟨v4, rfl, ?_, HO4.out⟩
      rw [HN.out, HB.out]
      have := HS4.out
      rw [← HBB.out] at this
      simpa using this
end Go.Proofs.YtlccmhlbkgojlaaDoor
