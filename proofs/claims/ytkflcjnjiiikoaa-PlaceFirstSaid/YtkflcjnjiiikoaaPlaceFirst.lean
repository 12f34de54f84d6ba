/- PlaceFirst: the walk. -/
import Derived.Test.YtkflcjnjiiikoaaFirst
import Derived.Test.YtkflcjnjiiikoaaSame
namespace Go.Proofs.Ytkflcjnjiiikoaa
open Go.RowKit


theorem walk_placeFirst (k n b : Int) (w : World) (w0 : (Lit.int .i64 k).wf = true) (_w1 : (Lit.int .i64 n).wf = true) (w2 : (Lit.int .u32 b).wf = true) :
    Calls Try.prog 4 #[.int .i64 k, .int .i64 n, .int .u32 b] w fun e w' => e = .returned (.bool true) ∧ Below w.heap.size w w' := by
  have HB := Lib.hid (wf_u32 w2)
  have HW := Lib.hid w0
  clear w0 _w1 w2
  by_cases hk : 1 ≤ k ∧ k ≤ 6
  · have HK := Lib.hid hk
    clear hk
    by_cases hn : 1 ≤ n ∧ n ≤ 64
    · have hz : sizeI n = 8 + 4 * n := if_pos hn
      obtain ⟨S, hS⟩ := Int.eq_ofNat_of_zero_le (show 0 ≤ sizeI n by omega)
      have s2 : S ≤ 300 := by omega
      have HS := Lib.hid hS
      have HN := Lib.hid hn
      clear hn hz hS
      go_enter Try.func4, Try.ntmps4
      go_wp2_with fail
      refine (first_yes k n b S _ HK.out HN.out HS.out HB.out).mono ?_
      intro e w1 hF
      obtain ⟨g1, rfl, hg1, hR, hO⟩ := hF
      have HR1 := Lib.hid hR
      have HO1 := Lib.hid hO
      clear hR hO hg1
      go_wp2_with fail
      refine (refFirst_yes k n b S _ HK.out HN.out HS.out HB.out).mono ?_
      intro e w2 hF
      obtain ⟨g2, rfl, hg2, hR, hO⟩ := hF
      have HR2 := Lib.hid hR
      have HO2 := Lib.hid hO
      have HR12 := Lib.hid (HR1.out.only hO id)
      clear hR hO hg2
      go_wp2_with fail
      refine (sameI_any _ _ S S S S (words k S (ownV k).size b) (words k S (ownV k).size b) _ (words_len ..) (words_len ..) HR12.out.ints HR2.out.ints (by omega)).mono ?_
      rw [decide_eq_true rfl]
      rintro e w3 ⟨rfl, hO⟩
      have HO3 := Lib.hid hO
      clear hO
      go_wp2_with fail
      refine (awake_any _).mono ?_
      rintro e w5 ⟨rfl, hO⟩
      have HO5 := Lib.hid hO
      clear hO
      go_wp2
      go_ret
      exact ⟨rfl, (((HO1.out.trans HO2.out).trans HO3.out.only).trans HO5.out).below (Nat.le_refl _) (fun _ _ h => h)⟩
    · have HN := Lib.hid hn
      clear hn
      go_enter Try.func4, Try.ntmps4
      go_wp2_with fail
      refine (first_no_n k n b _ HK.out HN.out).mono ?_
      rintro e w1 ⟨rfl, hO⟩
      have HO1 := Lib.hid hO
      clear hO
      go_wp2_with fail
      refine (refFirst_no_n k n b _ HK.out HN.out).mono ?_
      rintro e w2 ⟨rfl, hO⟩
      have HO2 := Lib.hid hO
      clear hO
      go_wp2_with fail
      refine (sameI_any none none 0 0 0 0 [] [] _ rfl rfl ints_nil ints_nil (by omega)).mono ?_
      rw [decide_eq_true rfl]
      rintro e w3 ⟨rfl, hO⟩
      have HO3 := Lib.hid hO
      clear hO
      go_wp2_with fail
      refine (awake_any _).mono ?_
      rintro e w5 ⟨rfl, hO⟩
      have HO5 := Lib.hid hO
      clear hO
      go_wp2
      go_ret
      exact ⟨rfl, (((HO1.out.trans HO2.out).trans HO3.out.only).trans HO5.out).below (Nat.le_refl _) (fun _ _ h => h)⟩
  · have HK := Lib.hid hk
    clear hk
    go_enter Try.func4, Try.ntmps4
    go_wp2_with fail
    refine (first_no_kind k n b _ HW.out HK.out).mono ?_
    rintro e w1 ⟨rfl, hO⟩
    have HO1 := Lib.hid hO
    clear hO
    go_wp2_with fail
    refine (refFirst_no_kind k n b _ HK.out).mono ?_
    rintro e w2 ⟨rfl, rfl⟩
    have HO2 := Lib.hid (Only.refl Nil w1)
    go_wp2_with fail
    refine (sameI_any none none 0 0 0 0 [] [] _ rfl rfl ints_nil ints_nil (by omega)).mono ?_
    rw [decide_eq_true rfl]
    rintro e w3 ⟨rfl, hO⟩
    have HO3 := Lib.hid hO
    clear hO
    go_wp2_with fail
    refine (awake_any _).mono ?_
    rintro e w5 ⟨rfl, hO⟩
    have HO5 := Lib.hid hO
    clear hO
    go_wp2
    go_ret
    exact ⟨rfl, (((HO1.out.trans HO2.out).trans HO3.out.only).trans HO5.out).below (Nat.le_refl _) (fun _ _ h => h)⟩
end Go.Proofs.Ytkflcjnjiiikoaa
