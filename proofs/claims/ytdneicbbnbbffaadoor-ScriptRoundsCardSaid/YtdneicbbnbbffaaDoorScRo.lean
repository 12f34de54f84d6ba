/- script.Rounds. -/
import Derived.Test.YtdneicbbnbbffaaDoorScK
import Derived.IntWalk
set_option linter.unusedVariables false
set_option linter.unusedSimpArgs false
namespace Go.Proofs.YtdneicbbnbbffaaDoor
open Go.RowKit
/-- What stands at k, round and round. -/
def arI (os : List Int) (k : Nat) : Int := if os = [] then 0 else os.getD (k % os.length) 0
def pickAt (n : Nat) (ts os : List Int) (k : Nat) : Int × Int := ((ts.getD (k / n) 0 + (k % n : Nat)) % n, arI os k)
def roundsL (n : Nat) (ts os : List Int) (m : Nat) : List (Int × Int) := (List.range m).map (pickAt n ts os)
theorem roundsL_len (n : Nat) (ts os : List Int) (m : Nat) : (roundsL n ts os m).length = m := by simp [roundsL]
theorem roundsL_snoc (n : Nat) (ts os : List Int) (m : Nat) : roundsL n ts os (m + 1) = roundsL n ts os m ++ [pickAt n ts os m] := by simp [roundsL, List.range_succ]
theorem pickAt_in {n : Nat} (ts os : List Int) {r j : Nat} (hj : j < n) : pickAt n ts os (r * n + j) = ((ts.getD r 0 + (j : Int)) % n, arI os (r * n + j)) := by
  unfold pickAt
  rw [show (r * n + j) / n = r by rw [Nat.add_comm, Nat.add_mul_div_right _ _ (by omega), Nat.div_eq_of_lt hj, Nat.zero_add], show (r * n + j) % n = j by rw [Nat.add_comm, Nat.add_mul_mod_self_right, Nat.mod_eq_of_lt hj]]
theorem around_any (A : Option Addr) (m c k : Nat) (os : List Int) (w : World) (hm : os.length = m) (hx : Ints w w.heap.size .i64 A os) (hb : m ≤ 20) (hk : k ≤ 100000) :
    Calls Tryd.prog 29 #[.slice A m c, .int .i64 k] w fun e w' => e = .returned (.int .i64 (arI os k)) ∧ w = w' := by
  by_cases h0 : os = []
  · have hm0 : m = 0 := by rw [← hm, h0]; rfl
    subst hm0
    rw [show arI os k = 0 by unfold arI; rw [if_pos h0]]
    clear h0 hm hx
    go_enter Tryd.func29, Tryd.ntmps29
    go_wp2
    go_ret
    exact ⟨rfl, rfl⟩
  · have hpos : 0 < os.length := List.length_pos_iff.2 h0
    obtain ⟨b, o, rfl, hbb, hc⟩ := hx hpos
    have hlt : k % os.length < os.length := Nat.mod_lt _ hpos
    have hcell := hc _ hlt
    rw [show arI os k = os.getD (k % os.length) 0 by unfold arI; rw [if_neg h0]]
    clear hc h0
    rw [hm] at hcell hlt hpos ⊢
    have hm1 : ¬ (m : Int) = 0 := by omega
    have hmod : (k : Int) % (m : Int) = ((k % m : Nat) : Int) := rfl
    have hmod2 : (k : Int).tmod (m : Int) = ((k % m : Nat) : Int) := rfl
    have hlt2 : ((k % m : Nat) : Int) < (m : Int) := by omega
    generalize os.getD (k % m) 0 = v at *
    generalize k % m = q at *
    clear hm
    go_enter Tryd.func29, Tryd.ntmps29
    go_wp2
    go_ret
    exact ⟨rfl, rfl⟩
set_option maxRecDepth 100000 in
set_option maxHeartbeats 2000000 in
theorem rounds_any (n : Int) (A1 : Option Addr) (T c1 : Nat) (A2 : Option Addr) (m c2 : Nat) (ts os : List Int) (w : World) (hT : ts.length = T) (hx : Ints w w.heap.size .u8 A1 ts) (ht : ∀ t ∈ ts, 0 ≤ t ∧ t < 256) (hTb : T ≤ 100)
    (hm : os.length = m) (hy : Ints w w.heap.size .i64 A2 os) (hmb : m ≤ 20) (N : Nat) (hn : n = N) (hN : 1 ≤ N ∧ N ≤ 64) :
    Calls Tryd.prog 13 #[.int .i64 n, .slice A1 T c1, .slice A2 m c2] w fun e w' => ∃ v, e = .returned v ∧ OwnK w.heap.size w' v (roundsL N ts os (T * N)) ∧ Only Nil w w' := by
  subst hn
  have n1 : ¬ (N : Int) < 1 := by omega
  have n2 : ¬ (64 : Int) < (N : Int) := by omega
  have hTb' : (T : Int) ≤ 100 := by omega
  have HAR := Lib.hid (fun W k (ho : Only Nil w W) hk => around_any A2 m c2 k os W hm ((hy.only ho (Nat.le_refl _) (fun _ _ => id)).more ho.size) hmb hk)
  have HX := Lib.hid hx
  have HTT := Lib.hid ht
  have HTL := Lib.hid hT
  have HN := Lib.hid hN
  clear hx hy ht hm hmb hT hN
  go_enter Tryd.func13, Tryd.ntmps13
  go_wp2
  go_loopw [7, 20] (fun p i wr => ∃ r : Nat, r ≤ T ∧ i = .int .i64 r ∧ Hid (OwnK w.heap.size wr p (roundsL N ts os (r * N))) ∧ Hid (Only Nil w wr)) (fun _ i _ => T - (intOf i).toNat)
  case atStart => exact ⟨0, Nat.zero_le _, rfl, Lib.hid (by rw [Nat.zero_mul]; exact ownK_nil _ _), Lib.hid (Only.refl _ _)⟩
  case round =>
    obtain ⟨r, hr, rfl, HP, HO⟩ := hrel
    by_cases hlt : r < T
    · obtain ⟨b, o, rfl, hb, hc⟩ := HX.out (by rw [HTL.out]; omega)
      have hcell := (HO.out.cell (p := ⟨b, o + r, none⟩) hb id).trans (hc r (by rw [HTL.out]; exact hlt))
      have htr : 0 ≤ ts.getD r 0 ∧ ts.getD r 0 < 256 := by
        have hg : ts.getD r 0 = ts[r]'(by rw [HTL.out]; exact hlt) := by simp [List.getD, List.getElem?_eq_getElem (show r < ts.length by rw [HTL.out]; exact hlt)]
        rw [hg]; exact HTT.out _ (List.getElem_mem _)
      have HPA := Lib.hid (fun j (hj : j < N) => pickAt_in ts os (r := r) hj)
      have HRN := Lib.hid (show (r + 1) * N = r * N + N by rw [Nat.add_mul, Nat.one_mul])
      have hRb : r * N ≤ 6400 := Nat.le_trans (Nat.mul_le_mul (show r ≤ 100 by omega) HN.out.2) (by decide)
      generalize hv : ts.getD r 0 = v at *
      clear hc hv
      generalize hR : r * N = R at *
      clear hR
      go_wp2
      go_loopw [7, 25] (fun p i wq => ∃ j : Nat, j ≤ N ∧ i = .int .i64 j ∧ Hid (OwnK w.heap.size wq p (roundsL N ts os (R + j))) ∧ Hid (Only Nil w wq)) (fun _ i _ => N - (intOf i).toNat)
      case atStart => exact ⟨0, Nat.zero_le _, rfl, HP, HO⟩
      case round =>
        clear HP HO
        obtain ⟨j, hj, rfl, HP, HO⟩ := hrel
        by_cases hjn : j < N
        · have HK := Lib.hid (HPA.out j hjn)
          obtain ⟨av, cv, rfl⟩ := HP.out.shape
          rw [roundsL_len] at HP ⊢
          have hmod : (v + (j : Int)).tmod (N : Int) = (v + (j : Int)) % (N : Int) := Int.tmod_eq_emod_of_nonneg (by omega)
          obtain ⟨K, hK⟩ : ∃ K, K = R + j := ⟨_, rfl⟩
          rw [← hK] at HP HK ⊢
          have HKE := Lib.hid hK
          have hKb : K ≤ 6500 := by have := HN.out; omega
          clear hK
          go_wp2_with fail
          refine (HAR.out _ K HO.out (by omega)).mono ?_
          rintro e w2 ⟨rfl, rfl⟩
          go_wp2_with (at_builtin; refine wp_appK rfl (.tmp 34) (.tmp 41) rfl w.heap.size _ _ rfl (HP.out.keep ((Only.refl _ _).alloc _)) _ ((v + (j : Int)) % (N : Int), arI os K) rfl (Row.new _ _ _) (by rw [roundsL_len]; omega) (by have := HO.out.size; simp; omega) ?_)
          intro v4 w4 hown hon
          have HO4 := Lib.hid (hon w (HO.out.alloc _) (Nat.le_refl _))
          have HP4 := Lib.hid (show OwnK w.heap.size w4 v4 (roundsL N ts os (R + (j + 1))) by
            rw [show R + (j + 1) = K + 1 by have := HKE.out; omega, roundsL_snoc, HK.out]; exact hown)
          clear hown hon
          go_wp2
          exact ⟨⟨j + 1, by omega, by go_num, HP4, HO4⟩, by simp [intOf]; omega⟩
        · obtain rfl : j = N := by omega
          have HP4 := Lib.hid (show OwnK w.heap.size wr _ (roundsL j ts os ((r + 1) * j)) by rw [HRN.out]; exact HP.out)
          clear HP
          go_wp2
          exact ⟨⟨r + 1, by omega, by go_num, HP4, HO⟩, by simp [intOf]; omega⟩
    · obtain rfl : r = T := by omega
      clear hlt hr
      go_wp2
      go_ret
      exact ⟨_, rfl, HP.out, HO.out⟩
end Go.Proofs.YtdneicbbnbbffaaDoor
