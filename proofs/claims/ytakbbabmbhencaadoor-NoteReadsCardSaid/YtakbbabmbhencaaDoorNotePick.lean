/- The words that aren't empty, picked out. -/
import Derived.Test.YtakbbabmbhencaaDoorNoteN
import Derived.Test.YtakbbabmbhencaaDoorJoin
namespace Go.Proofs.YtakbbabmbhencaaDoor
open Go.RowKit
set_option linter.unusedVariables false
set_option linter.unusedSimpArgs false
theorem some_yes (X : ByteArray) (w : World) (h1 : ¬ X.toList = []) (h2 : X.toList.isEmpty = false) : Calls Tryd.prog 29 #[.string X] w fun e w' => e = .returned (.bool true) ∧ w = w' := by
  go_enter Tryd.func29, Tryd.ntmps29
  go_wp2
  go_ret
  exact ⟨rfl, rfl⟩
theorem some_no (w : World) : Calls Tryd.prog 29 #[.string ⟨#[]⟩] w fun e w' => e = .returned (.bool false) ∧ w = w' := by
  go_enter Tryd.func29, Tryd.ntmps29
  go_wp2
  go_ret
  exact ⟨rfl, rfl⟩
/-- Those of the first k words that aren't empty. -/
def kept (ws : List Bs) (k : Nat) : List ByteArray := ((ws.take k).filter (fun l => !decide (l = []))).map bs
theorem kept_yes {ws : List Bs} {k : Nat} {x : Bs} (h : ws[k]? = some x) (hx : x ≠ []) : kept ws (k + 1) = kept ws k ++ [bs x] := by
  unfold kept
  rw [List.take_add_one, h, List.filter_append, List.map_append]
  simp [hx]
theorem kept_no {ws : List Bs} {k : Nat} {x : Bs} (h : ws[k]? = some x) (hx : x = []) : kept ws (k + 1) = kept ws k := by
  unfold kept
  rw [List.take_add_one, h, List.filter_append, List.map_append]
  simp [hx]
theorem kept_len (ws : List Bs) (k : Nat) : (kept ws k).length ≤ k := by
  unfold kept
  rw [List.length_map]
  exact Nat.le_trans (List.length_filter_le _ _) (by rw [List.length_take]; omega)
set_option maxRecDepth 100000 in
set_option maxHeartbeats 1000000 in
theorem pick_words (v : Value) (ws : List Bs) (w : World) (h : Strs w v ws) (h0 : ws ≠ []) (hm : ws.length ≤ 900) :
    Calls Tryd.prog 28 #[v, .func (.func 29) #[] #[]] w fun e w' => ∃ v', e = .returned v' ∧ OwnS w.heap.size w' v' (kept ws ws.length) ∧ Only Nil w w' := by
  have HS := Lib.hid h
  rcases h with ⟨h, _⟩ | ⟨g, c, rfl, hg, hc⟩
  · exact absurd h h0
  · have HG := Lib.hid hg
    have HC := Lib.hid hc
    have HW := Lib.hid (show ∀ k, k < ws.length → ∃ x, ws[k]? = some x from fun k hk => ⟨_, List.getElem?_eq_getElem hk⟩)
    clear hg hc h0
    generalize hn : ws.length = n at *
    clear hn
    go_enter Tryd.func28, Tryd.ntmps28
    go_wp2
    go_loopw [5, 10] (fun p i wr => ∃ k : Nat, k ≤ n ∧ i = .int .i64 k ∧ Hid (OwnS w.heap.size wr p (kept ws k)) ∧ Hid (Only Nil w wr)) (fun _ i _ => n - (intOf i).toNat)
    case atStart => exact ⟨0, Nat.zero_le _, rfl, Lib.hid (World.ownsRow_nil _ _ _ _), Lib.hid (Only.refl _ _)⟩
    case round =>
      rename_i p i
      obtain ⟨k, hk, rfl, HP, HO⟩ := hrel
      by_cases hlt : k < n
      · obtain ⟨x, hx⟩ := HW.out k hlt
        have HX := Lib.hid hx
        have hcell : wr.cell? ⟨g, k, none⟩ = some (.string (bs x)) := (HO.out.cell (p := ⟨g, k, none⟩) HG.out id).trans (HC.out k x hx)
        clear hx
        by_cases he : x = []
        · have HK := Lib.hid (kept_no HX.out he)
          subst he
          rw [show bs [] = ⟨#[]⟩ from rfl] at hcell
          go_wp2_with fail
          refine (some_no _).mono ?_
          rintro e w' ⟨rfl, rfl⟩
          go_wp2
          exact ⟨⟨k + 1, by omega, by go_num, Lib.hid (by rw [HK.out]; exact HP.out), HO⟩, by simp [intOf]; omega⟩
        · have HK := Lib.hid (kept_yes HX.out he)
          have HXX := Lib.hid (show [bs x] = [bs x] from rfl)
          obtain ⟨hx1, hx2⟩ := bs_some he
          have HL := Lib.hid (show (kept ws k).length ≤ 1000 by have := kept_len ws k; omega)
          generalize bs x = X at *
          clear he
          go_wp2_with fail
          refine (some_yes _ _ hx1 hx2).mono ?_
          rintro e w' ⟨rfl, rfl⟩
          go_wp2_with (at_builtin; refine wp_app rfl (.tmp 17) (.tmp 19) rfl w.heap.size _ _ rfl (HP.out.only ((Only.refl _ _).alloc _)) _ [X] rfl (Row.new _ _ _) HL.out (by simp) (by have h1 := HO.out.size; simp; omega) ?_)
          intro V4 W4 hown hon
          have HO4 := Lib.hid (hon w (HO.out.alloc _) (Nat.le_refl _))
          have HS4 := Lib.hid (show OwnS w.heap.size W4 V4 (kept ws (k + 1)) by rw [HK.out]; exact hown)
          clear hown hon
          go_wp2
          exact ⟨⟨k + 1, by omega, by go_num, HS4, HO4⟩, by simp [intOf]; omega⟩
      · obtain rfl : k = n := by omega
        clear hlt hk
        go_wp2
        go_ret
        exact ⟨_, rfl, HP.out, HO.out⟩
end Go.Proofs.YtakbbabmbhencaaDoor
