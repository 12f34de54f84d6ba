/- The answer's Rounds. -/
import Derived.Test.YtdneicbbnbbffaaDoorScRo
import Derived.Deep.Cut
set_option linter.unusedVariables false
set_option linter.unusedSimpArgs false
namespace Go.Proofs.YtdneicbbnbbffaaDoor
open Go.RowKit
set_option maxRecDepth 100000 in
set_option maxHeartbeats 2000000 in
theorem rrounds_any (n : Int) (A1 : Option Addr) (T c1 : Nat) (A2 : Option Addr) (m c2 : Nat) (ts os : List Int) (w : World) (hT : ts.length = T) (hx : Ints w w.heap.size .u8 A1 ts) (ht : ∀ t ∈ ts, 0 ≤ t ∧ t < 256) (hTb : T ≤ 100)
    (hm : os.length = m) (hy : Ints w w.heap.size .i64 A2 os) (hmb : m ≤ 20) (N : Nat) (hn : n = N) (hN : 1 ≤ N ∧ N ≤ 64) :
    Calls Tryd.prog 14 #[.int .i64 n, .slice A1 T c1, .slice A2 m c2] w fun e w' => ∃ v, e = .returned v ∧ OwnK w.heap.size w' v (roundsL N ts os (T * N)) ∧ Only Nil w w' := by
  subst hn
  have n1 : ¬ (N : Int) < 1 := by omega
  have n2 : ¬ (64 : Int) < (N : Int) := by omega
  have hTb' : (T : Int) ≤ 100 := by omega
  have HX := Lib.hid hx
  have HY := Lib.hid hy
  have HTT := Lib.hid ht
  have HTL := Lib.hid hT
  have HML := Lib.hid hm
  have HN := Lib.hid hN
  clear hx hy ht hm hT hN
  go_enter Tryd.func14, Tryd.ntmps14
  go_wp2
  go_loopw [7, 8, 9] (fun p kk i wr => ∃ r : Nat, r ≤ T ∧ i = .int .i64 r ∧ kk = .int .i64 ((r * N : Nat) : Int) ∧ Hid (OwnK w.heap.size wr p (roundsL N ts os (r * N))) ∧ Hid (Only Nil w wr)) (fun _ _ i _ => T - (intOf i).toNat)
  case atStart => exact ⟨0, Nat.zero_le _, rfl, by rw [Nat.zero_mul]; rfl, Lib.hid (by rw [Nat.zero_mul]; exact ownK_nil _ _), Lib.hid (Only.refl _ _)⟩
  case round =>
    obtain ⟨r, hr, rfl, rfl, HP, HO⟩ := hrel
    by_cases hlt : r < T
    · obtain ⟨b, o, rfl, hb, hc⟩ := HX.out (by rw [HTL.out]; omega)
      have HCE := Lib.hid (fun W (h : Only Nil w W) => (h.cell (p := ⟨b, o + r, none⟩) hb id).trans (hc r (by rw [HTL.out]; exact hlt)))
      have htr : 0 ≤ ts.getD r 0 ∧ ts.getD r 0 < 256 := by
        have hg : ts.getD r 0 = ts[r]'(by rw [HTL.out]; exact hlt) := by simp [List.getD, List.getElem?_eq_getElem (show r < ts.length by rw [HTL.out]; exact hlt)]
        rw [hg]; exact HTT.out _ (List.getElem_mem _)
      have HPA := Lib.hid (fun j (hj : j < N) => pickAt_in ts os (r := r) hj)
      have HRN := Lib.hid (show (r + 1) * N = r * N + N by rw [Nat.add_mul, Nat.one_mul])
      have hRb : r * N ≤ 6400 := Nat.le_trans (Nat.mul_le_mul (show r ≤ 100 by omega) HN.out.2) (by decide)
      generalize hv : ts.getD r 0 = v at *
      clear hc hv
      generalize hR : r * N = R at *
      clear hR
      go_wp2
      go_loopw [7, 8, 10] (fun p kk i wq => ∃ j : Nat, j ≤ N ∧ i = .int .i64 j ∧ kk = .int .i64 ((R + j : Nat) : Int) ∧ Hid (OwnK w.heap.size wq p (roundsL N ts os (R + j))) ∧ Hid (Only Nil w wq)) (fun _ _ i _ => N - (intOf i).toNat)
      case atStart => exact ⟨0, Nat.zero_le _, rfl, rfl, HP, HO⟩
      case round =>
        clear HP HO
        obtain ⟨j, hj, rfl, rfl, HP, HO⟩ := hrel
        by_cases hjn : j < N
        · have HK := Lib.hid (HPA.out j hjn)
          have hmod : (v + (j : Int)).tmod (N : Int) = (v + (j : Int)) % (N : Int) := Int.tmod_eq_emod_of_nonneg (by omega)
          obtain ⟨K, hK⟩ : ∃ K, K = R + j := ⟨_, rfl⟩
          rw [← hK] at HP HK ⊢
          have HKE := Lib.hid hK
          have hKb : K ≤ 6500 := by have := HN.out; omega
          clear hK
          have hcell := HCE.out _ HO.out
          by_cases h0 : os = []
          · have hm0 : m = 0 := by rw [← HML.out, h0]; rfl
            subst hm0
            have har : arI os K = 0 := by unfold arI; rw [if_pos h0]
            rw [har] at HK
            clear h0
            have hop := (Only.refl Nil wr).alloc (.cells #[.int .i64 ((v + (j : Int)) % (N : Int)), .int .i64 0] 42) |>.alloc (.cells #[.int .i64 ((v + (j : Int)) % (N : Int)), .int .i64 0] 42)
            rw [← har] at HK
            generalize arI os K = av at *
            subst har
            have hrw := Row.new2 wr (.cells #[.int .i64 ((v + (j : Int)) % (N : Int)), .int .i64 0] 42) 42 #[.int .i64 ((v + (j : Int)) % (N : Int)), .int .i64 0]
            go_wp2_with (at_builtin; refine wp_appK rfl (.tmp 51) (.tmp 53) rfl w.heap.size _ _ rfl (HP.out.keep hop) _ ((v + (j : Int)) % (N : Int), 0) rfl hrw (by rw [roundsL_len]; omega) (by have := HO.out.size; simp [World.setCell]; omega) ?_)
            intro v4 w4 hown hon
            have HO4 := Lib.hid (hon w (HO.out.trans hop) (Nat.le_refl _))
            have HP4 := Lib.hid (show OwnK w.heap.size w4 v4 (roundsL N ts os (R + (j + 1))) by
              rw [show R + (j + 1) = K + 1 by have := HKE.out; omega, roundsL_snoc, HK.out]; exact hown)
            clear hown hon
            go_wp2
            exact ⟨⟨j + 1, by omega, by go_num, by rw [HKE.out]; go_num, HP4, HO4⟩, by simp [intOf]; omega⟩
          · have hpos : 0 < os.length := List.length_pos_iff.2 h0
            obtain ⟨b2, o2, rfl, hb2, hc2⟩ := HY.out hpos
            have hlt2 : K % os.length < os.length := Nat.mod_lt _ hpos
            have hcell2 := (HO.out.cell (p := ⟨b2, o2 + K % os.length, none⟩) hb2 id).trans (hc2 _ hlt2)
            have har : os.getD (K % os.length) 0 = arI os K := by unfold arI; rw [if_neg h0]
            rw [har] at hcell2
            clear hc2 h0 har
            rw [HML.out] at hcell2 hlt2 hpos
            have hm1 : ¬ (m : Int) = 0 := by omega
            have hm0 : (0 : Int) < (m : Int) := by omega
            have hmod1 : (K : Int) % (m : Int) = ((K % m : Nat) : Int) := rfl
            have hmod2 : (K : Int).tmod (m : Int) = ((K % m : Nat) : Int) := rfl
            have hlt3 : ((K % m : Nat) : Int) < (m : Int) := by omega
            generalize K % m = q at *
            generalize arI os K = av at *
            have hb2' : b2 < wr.heap.size := Nat.lt_of_lt_of_le hb2 HO.out.size
            have hcell3 : ∀ o', (wr.alloc o').cell? ⟨b2, o2 + q, none⟩ = some (.int .i64 av) := fun o' => (World.cell?_alloc_lt wr o' _ hb2').trans hcell2
            have hop := (Only.refl Nil wr).alloc (.cells #[.int .i64 ((v + (j : Int)) % (N : Int)), .int .i64 av] 42) |>.alloc (.cells #[.int .i64 ((v + (j : Int)) % (N : Int)), .int .i64 av] 42)
            have hrw := Row.new2 wr (.cells #[.int .i64 ((v + (j : Int)) % (N : Int)), .int .i64 av] 42) 42 #[.int .i64 ((v + (j : Int)) % (N : Int)), .int .i64 av]
            clear HPA hcell2
            go_wp2_with (at_builtin; refine wp_appK rfl (.tmp 51) (.tmp 53) rfl w.heap.size _ _ rfl (HP.out.keep hop) _ ((v + (j : Int)) % (N : Int), av) rfl hrw (by rw [roundsL_len]; omega) (by have := HO.out.size; simp [World.setCell]; omega) ?_)
            intro v4 w4 hown hon
            have HO4 := Lib.hid (hon w (HO.out.trans hop) (Nat.le_refl _))
            have HP4 := Lib.hid (show OwnK w.heap.size w4 v4 (roundsL N ts os (R + (j + 1))) by
              rw [show R + (j + 1) = K + 1 by have := HKE.out; omega, roundsL_snoc, HK.out]; exact hown)
            clear hown hon
            go_wp2
            exact ⟨⟨j + 1, by omega, by go_num, by rw [HKE.out]; go_num, HP4, HO4⟩, by simp [intOf]; omega⟩
        · obtain rfl : j = N := by omega
          have HP4 := Lib.hid (show OwnK w.heap.size wr _ (roundsL j ts os ((r + 1) * j)) by rw [HRN.out]; exact HP.out)
          have HKV := Lib.hid (show ((R + j : Nat) : Int) = (((r + 1) * j : Nat) : Int) by rw [HRN.out])
          clear HP
          go_wp2
          exact ⟨⟨r + 1, by omega, by go_num, by rw [← HKV.out], HP4, HO⟩, by simp [intOf]; omega⟩
    · obtain rfl : r = T := by omega
      clear hlt hr
      go_wp2
      go_ret
      exact ⟨_, rfl, HP.out, HO.out⟩
end Go.Proofs.YtdneicbbnbbffaaDoor
