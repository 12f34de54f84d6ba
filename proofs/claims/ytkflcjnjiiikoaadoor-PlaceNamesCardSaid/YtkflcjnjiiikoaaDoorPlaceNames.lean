/- PlaceNames: the walk. -/
import Derived.Test.YtkflcjnjiiikoaaDoorRefName
namespace Go.Proofs.YtkflcjnjiiikoaaDoor
open Go.RowKit

theorem both_names (n k c : Int) (w : World) (s : ByteArray)
    (h1 : ∀ W, Calls Tryd.prog 5 #[.agg #[.int .i64 n], .int .i64 k, .int .i64 c] W fun e w' => e = .returned (.string s) ∧ Only Nil W w')
    (h2 : ∀ W, Calls Tryd.prog 6 #[.int .i64 n, .int .i64 k, .int .i64 c] W fun e w' => e = .returned (.string s) ∧ Only Nil W w') :
    Calls Tryd.prog 3 #[.int .i64 n, .int .i64 k, .int .i64 c] w fun e w' => e = .returned (.bool true) ∧ Only Nil w w' := by
  have H1 := Lib.hid h1
  have H2 := Lib.hid h2
  clear h1 h2
  go_enter Tryd.func3, Tryd.ntmps3
  go_wp2_with fail
  refine (H1.out _).mono ?_
  rintro e w1 ⟨rfl, hO⟩
  have HO1 := Lib.hid hO
  clear hO
  go_wp2_with fail
  refine (H2.out _).mono ?_
  rintro e w2 ⟨rfl, hO⟩
  have HO2 := Lib.hid hO
  clear hO
  go_wp2_with fail
  refine (awake_any _).mono ?_
  rintro e w3 ⟨rfl, hO⟩
  have HO3 := Lib.hid hO
  clear hO
  go_wp2
  go_ret
  exact ⟨rfl, (HO1.out.trans HO2.out).trans HO3.out⟩

theorem miss_bad {n c : Int} (hn : ¬ (1 ≤ n ∧ n ≤ 64)) : Miss n c := fun r j _ _ _ h => by
  rw [show cellI n r j = -1 from if_neg (fun h => hn ⟨h.1, h.2.1⟩)] at h; omega
theorem miss_over {n c : Int} (hn : 1 ≤ n ∧ n ≤ 64) (hc : 8 + 4 * n ≤ c) : Miss n c := fun r j hr hj _ h => by
  rw [show cellI n r j = 8 + r * n + j from if_pos ⟨hn.1, hn.2, by omega, hj⟩] at h
  have : (r : Int) * n ≤ 3 * n := Int.mul_le_mul_of_nonneg_right (by omega) (by omega)
  omega
theorem miss_gap {n c : Int} (hc : c < 8) : Miss n c := fun r j hr hj _ h => by
  by_cases hn : 1 ≤ n ∧ n ≤ 64
  · rw [show cellI n r j = 8 + r * n + j from if_pos ⟨hn.1, hn.2, by omega, hj⟩] at h
    have : 0 ≤ (r : Int) * n := Int.mul_nonneg (by omega) (by omega)
    omega
  · exact miss_bad (c := c) hn r j hr hj (by omega) h

theorem names_any (n k c : Int) (w : World) (wk : (Lit.int .i64 k).wf = true) :
    Calls Tryd.prog 3 #[.int .i64 n, .int .i64 k, .int .i64 c] w fun e w' => e = .returned (.bool true) ∧ Only Nil w w' := by
  by_cases hk : 1 ≤ k ∧ k ≤ 6
  · by_cases hc : c < 0
    · exact both_names n k c w ⟨#[]⟩ (fun W => name_none_under k n c W hk hc) (fun W => refName_miss_under k n c W hk hc)
    · have hL := own_size k hk
      by_cases hn : 1 ≤ n ∧ n ≤ 64
      · have hz : sizeI n = 8 + 4 * n := if_pos hn
        by_cases h8 : 8 ≤ c
        · by_cases ho : 8 + 4 * n ≤ c
          · exact both_names n k c w ⟨#[]⟩ (fun W => name_none_over k n c W hk (by omega) (by omega)) (fun W => refName_miss_over k n c W hk (by omega) (miss_over hn ho))
          · obtain ⟨r, hr⟩ := Int.eq_ofNat_of_zero_le (Int.ediv_nonneg (show 0 ≤ c - 8 by omega) (show 0 ≤ n by omega))
            obtain ⟨i, hi⟩ := Int.eq_ofNat_of_zero_le (Int.emod_nonneg (c - 8) (show n ≠ 0 by omega))
            have hi' : (i : Int) < n := by rw [← hi]; exact Int.emod_lt_of_pos _ (by omega)
            have hr' : (r : Int) < 4 := by rw [← hr]; exact Int.ediv_lt_of_lt_mul (by omega) (by omega)
            have hcc : c = 8 + r * n + i := by
              have e := Int.mul_ediv_add_emod (c - 8) n
              rw [hr, hi, Int.mul_comm] at e
              omega
            exact both_names n k c w _ (fun W => name_task k n c r i W hk hn (by omega) hi' hcc) (fun W => refName_task k n c r i W hk hn (by omega) hi' hcc)
        · by_cases hcl : c < ((ownV k).size : Int)
          · obtain ⟨m, rfl⟩ := Int.eq_ofNat_of_zero_le (show 0 ≤ c by omega)
            obtain ⟨s, hs⟩ := name_at k hk m (by omega)
            exact both_names n k _ w s (fun W => name_own k n m s W hk hn hs) (fun W => refName_own k n m s W hk hn hs)
          · exact both_names n k c w ⟨#[]⟩ (fun W => name_none_gap k n c W hk (by omega) (by omega) hn) (fun W => refName_miss_over k n c W hk (by omega) (miss_gap (by omega)))
      · have hz : sizeI n = 0 := if_neg hn
        by_cases hcl : c < ((ownV k).size : Int)
        · exact both_names n k c w ⟨#[]⟩ (fun W => name_none_over k n c W hk (by omega) (by omega)) (fun W => refName_miss_size k n c W hk (by omega) hcl hn (miss_bad hn))
        · exact both_names n k c w ⟨#[]⟩ (fun W => name_none_over k n c W hk (by omega) (by omega)) (fun W => refName_miss_over k n c W hk (by omega) (miss_bad hn))
  · exact both_names n k c w ⟨#[]⟩ (fun W => name_none_kind k n c W wk hk) (fun W => (refName_none_kind k n c W hk).mono fun e w' ⟨h1, h2⟩ => ⟨h1, h2 ▸ Only.refl _ _⟩)

theorem walk_placeNames (n k c : Int) (w : World) (_wn : (Lit.int .i64 n).wf = true) (wk : (Lit.int .i64 k).wf = true) (_wc : (Lit.int .i64 c).wf = true) :
    Calls Tryd.prog 3 #[.int .i64 n, .int .i64 k, .int .i64 c] w fun e w' => e = .returned (.bool true) ∧ Below w.heap.size w w' :=
  (names_any n k c w wk).mono fun _ _ ⟨he, hO⟩ => ⟨he, hO.below (Nat.le_refl _) (fun _ _ h => h)⟩
end Go.Proofs.YtkflcjnjiiikoaaDoor
