/- The answer's Text of picks. -/
import Derived.Test.YtdneicbbnbbffaaDoorScTxt
import Derived.Test.YtdneicbbnbbffaaDoorScTx
import Derived.Test.YtdneicbbnbbffaaDoorNoteRO
import Derived.IntWalk
namespace Go.Proofs.YtdneicbbnbbffaaDoor
open Go.RowKit
set_option linter.unusedVariables false
set_option linter.unusedSimpArgs false
set_option maxRecDepth 100000 in
set_option maxHeartbeats 2000000 in
theorem rtext_any (v : Value) (ps : List (Int × Int)) (w : World) (h : PkAt w v ps) (hm : ps.length ≤ 100) : Calls Tryd.prog 12 #[v] w (Texted (txtT ps) w) := by
  obtain ⟨A, c, rfl, hat⟩ := h
  have HAT := Lib.hid hat
  obtain ⟨n, hn⟩ : ∃ n, n = ps.length := ⟨_, rfl⟩
  rw [← hn] at hm ⊢
  have HN := Lib.hid hn
  have hm' : (n : Int) ≤ 100 := by omega
  clear hat hn
  go_enter Tryd.func12, Tryd.ntmps12
  go_wp2
  go_loopw [5, 6] (fun sv i wr => ∃ k : Nat, k ≤ n ∧ i = .int .i64 k ∧ sv = .string (bs (textP (ps.take k))) ∧ Hid (Fine (ps.take k)) ∧ Hid (Only Nil w wr)) (fun _ i _ => n - (intOf i).toNat)
  case atStart => exact ⟨0, Nat.zero_le _, rfl, rfl, Lib.hid (fun p hp => by simp at hp), Lib.hid (Only.refl _ _)⟩
  case round =>
    obtain ⟨k, hk, rfl, rfl, HF, HO⟩ := hrel
    by_cases hlt : k < n
    · obtain ⟨p, hp⟩ : ∃ p, ps[k]? = some p := ⟨_, List.getElem?_eq_getElem (by rw [← HN.out]; exact hlt)⟩
      obtain ⟨b, q, rfl, hb, x0, x1⟩ := HAT.out k p hp
      have HTK := Lib.hid (show ps.take (k + 1) = ps.take k ++ [p] by rw [List.take_add_one, hp]; rfl)
      have HSP := Lib.hid (show ps = ps.take k ++ p :: ps.drop (k + 1) by
        have h := (List.take_append_drop k ps).symm
        rw [List.drop_eq_getElem_cons (by rw [← HN.out]; exact hlt)] at h
        rw [(List.getElem?_eq_some_iff.1 hp).2] at h
        exact h)
      clear hp
      obtain ⟨t, o⟩ := p
      dsimp only at x0 x1
      have HC0 := Lib.hid (fun W (h : Only Nil w W) => (h.cell (p := ⟨b, q + k * 2, none⟩) hb id).trans x0)
      have HC1 := Lib.hid (fun W (h : Only Nil w W) => (h.cell (p := ⟨b, q + k * 2 + 1, none⟩) hb id).trans x1)
      have f0 := HC0.out _ HO.out
      have f1 := HC1.out _ HO.out
      clear x0 x1
      have HTL := Lib.hid (textP_len HF.out)
      have HKL := Lib.hid (show (ps.take k).length ≤ 100 by rw [List.length_take]; omega)
      have hS : (bs (textP (ps.take k))).size ≤ 2000 := by have h1 := HTL.out; have h2 := HKL.out; rw [bs_size]; omega
      have HOP := Lib.hid (fun W => op_ref o W)
      by_cases ht : 0 ≤ t ∧ t ≤ 999
      · obtain ⟨d, rfl⟩ : ∃ d : Nat, t = d := ⟨t.toNat, by omega⟩
        have HD := Lib.hid (show d ≤ 999 by omega)
        have hd1 : ¬ (999 : Int) < (d : Int) := by omega
        have HDT := Lib.hid (fun W => text_bs d W (by have := HD.out; omega))
        have hDL : (bs (Lib.decDigits d)).size ≤ 3 := dec_len (u := d) (k := 3) (by omega) (by omega)
        by_cases h0 : o = 0
        · subst h0
          have HFF : Hid (faultI ((d : Int), (0 : Int)).1 ((d : Int), (0 : Int)).2 = 0) := Lib.hid (by show faultI (d : Int) 0 = 0; unfold faultI; rw [if_pos ht, if_neg (fun h => h.1 rfl)])
          have HF7 := Lib.hid (show Fine (ps.take (k + 1)) by rw [HTK.out]; exact fine_app HF.out HFF.out)
          have HLN := Lib.hid (show bs (textP (ps.take k)) ++ bs (Lib.decDigits d) ++ ⟨#[10]⟩ = bs (textP (ps.take (k + 1))) by
            rw [HTK.out, textP_app, show lineP ((d : Int), (0 : Int)) = Lib.decDigits d ++ [10] by unfold lineP midP; rw [if_pos rfl, List.append_nil]; rfl, ← List.append_assoc, ← bs_app, ← bs_app]; rfl)
          clear ht
          generalize bs (textP (ps.take k)) = S at *
          generalize bs (Lib.decDigits d) = D at *
          go_wp2_with fail
          refine (HDT.out _).mono ?_
          rintro e w2 ⟨rfl, hO⟩
          have HO2 := Lib.hid (HO.out.trans hO)
          have f1' := HC1.out _ HO2.out
          clear hO
          go_wp2
          exact ⟨⟨k + 1, by omega, by go_num, by rw [← HLN.out], HF7, HO2⟩, by simp [intOf]; omega⟩
        · by_cases hw : wordI opWs o = []
          · have hF : faultI (d : Int) o = 5 := by unfold faultI; rw [if_pos ht, if_pos ⟨h0, hw⟩]
            have HE := Lib.hid (txtT_bad (suf := ps.drop (k + 1)) HF.out (show faultI ((d : Int), o).1 ((d : Int), o).2 ≠ 0 by show faultI (d : Int) o ≠ 0; rw [hF]; decide))
            rw [← HSP.out, show faultI ((d : Int), o).1 ((d : Int), o).2 = 5 from hF] at HE
            obtain ⟨q1, q2⟩ := em_yes hw
            clear hw ht hF
            go_wp2_with fail
            refine (HOP.out _).mono ?_
            rintro e w2 ⟨rfl, hO⟩
            have HO2 := Lib.hid (HO.out.trans hO)
            clear hO
            go_wp2
            go_ret3
            refine ⟨?_, HO2.out⟩
            rw [HE.out, List.length_take, Nat.min_eq_left (by have := HN.out; omega)]
            rfl
          · have HFF : Hid (faultI ((d : Int), o).1 ((d : Int), o).2 = 0) := Lib.hid (by show faultI (d : Int) o = 0; unfold faultI; rw [if_pos ht, if_neg (fun h => hw h.2)])
            have HF7 := Lib.hid (show Fine (ps.take (k + 1)) by rw [HTK.out]; exact fine_app HF.out HFF.out)
            have HLN := Lib.hid (show bs (textP (ps.take k)) ++ bs (Lib.decDigits d) ++ ⟨#[32]⟩ ++ bs (wordI opWs o) ++ ⟨#[10]⟩ = bs (textP (ps.take (k + 1))) by
              rw [HTK.out, textP_app, show lineP ((d : Int), o) = Lib.decDigits d ++ [32] ++ wordI opWs o ++ [10] by unfold lineP midP; rw [if_neg h0]; simp, ← List.append_assoc, ← List.append_assoc, ← List.append_assoc, ← bs_app, ← bs_app, ← bs_app, ← bs_app]; rfl)
            have hX : (bs (wordI opWs o)).size ≤ 12 := word_len o
            obtain ⟨q1, q2⟩ := em_no hw
            clear hw ht
            generalize bs (textP (ps.take k)) = S at *
            generalize bs (Lib.decDigits d) = D at *
            generalize bs (wordI opWs o) = X at *
            go_wp2_with fail
            refine (HOP.out _).mono ?_
            rintro e w2 ⟨rfl, hO⟩
            have HO2 := Lib.hid (HO.out.trans hO)
            have f0' := HC0.out _ HO2.out
            clear hO
            go_wp2_with fail
            refine (HDT.out _).mono ?_
            rintro e w3 ⟨rfl, hO⟩
            have HO3 := Lib.hid (HO2.out.trans hO)
            have f1' := HC1.out _ HO3.out
            clear hO
            go_wp2_with fail
            refine (HOP.out _).mono ?_
            rintro e w4 ⟨rfl, hO⟩
            have HO4 := Lib.hid (HO3.out.trans hO)
            clear hO
            go_wp2
            exact ⟨⟨k + 1, by omega, by go_num, by rw [← HLN.out], HF7, HO4⟩, by simp [intOf]; omega⟩
      · have hF : faultI t o = 2 := if_neg ht
        have HE := Lib.hid (txtT_bad (suf := ps.drop (k + 1)) HF.out (show faultI (t, o).1 (t, o).2 ≠ 0 by show faultI t o ≠ 0; rw [hF]; decide))
        rw [← HSP.out, show faultI (t, o).1 (t, o).2 = 2 from hF] at HE
        clear hF
        rcases (show t < 0 ∨ (0 ≤ t ∧ 999 < t) by omega) with ht' | ⟨ht1, ht2⟩
        · clear ht
          go_wp2
          go_ret3
          refine ⟨?_, HO.out⟩
          rw [HE.out, List.length_take, Nat.min_eq_left (by have := HN.out; omega)]
          rfl
        · clear ht
          go_wp2
          go_ret3
          refine ⟨?_, HO.out⟩
          rw [HE.out, List.length_take, Nat.min_eq_left (by have := HN.out; omega)]
          rfl
    · have hkk : k = n := by omega
      have htk : ps.take k = ps := List.take_of_length_le (by rw [← HN.out]; omega)
      rw [htk] at HF ⊢
      have HE := Lib.hid (txtT_good HF.out)
      subst hkk
      clear htk
      go_wp2
      go_ret3
      exact ⟨by rw [HE.out]; rfl, HO.out⟩
end Go.Proofs.YtdneicbbnbbffaaDoor
