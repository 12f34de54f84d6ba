/- DiffApart: the walk. -/
import Derived.Test.YteigkgfmmcaieaaDiffLaws
namespace Go.Proofs.Yteigkgfmmcaieaa
open Go.RowKit

/-- The word v, whose field of 8 bits from a on was bumped k times. -/
def bumped (v a : Int) (k : Nat) : Int := putIn v a 8 (fieldOf v a 8 + k)
theorem isF_8 {a : Int} (h : 0 ≤ a ∧ a ≤ 24) : isF a 8 = true := by rw [isF_iff]; omega
theorem bumped_0 (v a : Int) : bumped v a 0 = v := by
  unfold bumped
  refine put_same _ ?_
  have h := field_bd v a 8
  rw [Int.natCast_zero, Int.add_zero, Int.emod_eq_of_lt h.1 h.2]
theorem bumped_256 (v a : Int) : bumped v a 256 = v := by
  unfold bumped
  refine put_same _ ?_
  have h := field_bd v a 8
  rw [pw_8] at *
  omega
theorem bumped_bd {v a : Int} (k : Nat) (h : 0 ≤ a ∧ a ≤ 24) (hv : 0 ≤ v ∧ v < 4294967296) : 0 ≤ bumped v a k ∧ bumped v a k < 4294967296 := put_bd _ (isF_8 h) hv
theorem bumped_get {v a : Int} (k : Nat) (h : 0 ≤ a ∧ a ≤ 24) : getI (bumped v a k) a 8 = (fieldOf v a 8 + k) % 256 := by
  unfold getI bumped
  rw [isF_8 h, if_pos rfl, put_field _ h.1 (by decide), pw_8]
theorem bumped_next {v a : Int} (k : Nat) (h : 0 ≤ a ∧ a ≤ 24) (hv : 0 ≤ v ∧ v < 4294967296) : (bumped v a k + bumpI (bumped v a k) a 8) % 4294967296 = bumped v a (k + 1) := by
  have hb := bumped_bd (v := v) (k + 1) h hv
  have e : putIn (bumped v a k) a 8 (fieldOf (bumped v a k) a 8 + 1) = bumped v a (k + 1) := by
    unfold bumped
    rw [put_put _ _ h.1 (by decide), put_field _ h.1 (by decide)]
    refine put_mod _ _ ?_
    rw [pw_8]; omega
  rw [bump_yes (isF_8 h), e]
  omega
theorem put8 {v a x : Int} (h : 0 ≤ a ∧ a ≤ 24) : getI (putI v a 8 x) a 8 = x % 256 := by
  unfold getI putI
  rw [isF_8 h, if_pos rfl, if_pos rfl, put_field _ h.1 (by decide), pw_8]
theorem put8_bd {v a x : Int} (h : 0 ≤ a ∧ a ≤ 24) (hv : 0 ≤ v ∧ v < 4294967296) : 0 ≤ putI v a 8 x ∧ putI v a 8 x < 4294967296 := by
  unfold putI
  rw [isF_8 h, if_pos rfl]
  exact put_bd _ (isF_8 h) hv
theorem put8_other {v a b x : Int} (h : 0 ≤ a ∧ a ≤ 24) (hb : 0 ≤ b ∧ b ≤ 24) (hab : b + 8 ≤ a ∨ a + 8 ≤ b) : getI (putI v a 8 x) b 8 = getI v b 8 := by
  unfold getI putI
  rw [isF_8 h, isF_8 hb, if_pos rfl, if_pos rfl, if_pos rfl]
  rcases hab with hab | hab
  · exact put_under _ hb.1 (by decide) hab
  · exact put_above _ h.1 (by decide) hab
theorem and_255 {x : Int} (hx : 0 ≤ x ∧ x < 4294967296) : bits .and .u32 x 255 = x % 256 := by
  have := and_low (n := 8) hx (by decide)
  rwa [pw_8] at this

theorem put8_any (v a x : Int) (w : World) (h : 0 ≤ a ∧ a ≤ 24) (hv : 0 ≤ v ∧ v < 4294967296) (hx : 0 ≤ x ∧ x < 4294967296) :
    Calls Try.prog 15 #[.int .u32 v, .int .i64 a, .int .i64 8, .int .u32 x] w fun e w' => e = .returned (.int .u32 (putI v a 8 x)) ∧ Drew w w' := put_any v a 8 x w hv hx
theorem get_is (v a g : Int) (w : World) (hv : 0 ≤ v ∧ v < 4294967296) (hg : getI v a 8 = g) :
    Calls Try.prog 13 #[.int .u32 v, .int .i64 a, .int .i64 8] w fun e w' => e = .returned (.int .u32 g) ∧ Drew w w' := hg ▸ get_any v a 8 w hv

set_option maxRecDepth 100000 in
set_option maxHeartbeats 2000000 in
theorem walk_diffApart (v x p q : Int) (w : World) (wv : (Lit.int .u32 v).wf = true) (wx : (Lit.int .u32 x).wf = true) (wp : (Lit.int .u8 p).wf = true) (wq : (Lit.int .u8 q).wf = true) :
    Calls Try.prog 7 #[.int .u32 v, .int .u32 x, .int .u8 p, .int .u8 q] w fun e w' => e = .returned (.bool true) ∧ Below w.heap.size w w' := by
  have hv := wf_u32 wv
  have hx := wf_u32 wx
  obtain ⟨p1, p2⟩ := wf_u8 wp
  obtain ⟨q1, q2⟩ := wf_u8 wq
  clear wv wx wp wq
  have ha : 0 ≤ p % 25 ∧ p % 25 ≤ 24 := by omega
  have hb : 0 ≤ q % 25 ∧ q % 25 ≤ 24 := by omega
  have HV := Lib.hid hv
  have HX := Lib.hid hx
  have HA := Lib.hid ha
  have HB := Lib.hid hb
  have HP := Lib.hid (put8_bd (x := x) ha hv)
  have f1 : (x % 256 != bits .and .u32 x 255) = false := by rw [and_255 hx]; simp
  clear hv hx ha hb
  go_enter Try.func7, Try.ntmps7
  go_wp2_with fail
  refine (put8_any v _ x _ HA.out HV.out HX.out).mono ?_
  rintro e w1 ⟨rfl, hd⟩
  have HD1 := Lib.hid hd
  clear hd
  go_wp2_with fail
  refine (get_is _ _ (x % 256) _ HP.out (put8 HA.out)).mono ?_
  rintro e w2 ⟨rfl, hd⟩
  have HD2 := Lib.hid hd
  clear hd
  have three : q % 25 + 8 ≤ p % 25 ∨ (p % 25 < q % 25 + 8 ∧ p % 25 + 8 ≤ q % 25) ∨ (p % 25 < q % 25 + 8 ∧ q % 25 < p % 25 + 8) := by omega
  rcases three with h1 | ⟨h0, h1⟩ | ⟨h0, h1⟩
  · skip
    go_wp2_with fail
    refine (get_is _ _ (getI v (q % 25) 8) _ HP.out (put8_other HA.out HB.out (by omega))).mono ?_
    rintro e w3 ⟨rfl, hd⟩
    have HD3 := Lib.hid (HD1.out.trans (HD2.out.trans hd))
    clear hd
    go_wp2_with fail
    refine (get_is _ _ (getI v (q % 25) 8) _ HV.out rfl).mono ?_
    rintro e w4 ⟨rfl, hd⟩
    have HD4 := Lib.hid (HD3.out.trans hd)
    clear hd
    go_wp2
    go_loopw [12, 13] (fun n i wr => ∃ k : Nat, k ≤ 256 ∧ i = .int .i64 k ∧ n = .int .u32 (bumped v (p % 25) k) ∧ Drew w wr) (fun _ i _ => 256 - (intOf i).toNat)
    case atStart => exact ⟨0, by omega, rfl, by rw [bumped_0], HD4.out⟩
    case round =>
      obtain ⟨k, hk, rfl, rfl, hr⟩ := hrel
      have HR := Lib.hid hr
      have HBD := Lib.hid (bumped_bd (v := v) k HA.out HV.out)
      clear hr
      by_cases hlt : k < 256
      · have HN := Lib.hid (bumped_next (v := v) k HA.out HV.out)
        have HBD1 := Lib.hid (bumped_bd (v := v) (k + 1) HA.out HV.out)
        have f0 := field_bd v (p % 25) 8
        rw [pw_8] at f0
        have g1 := and_255 (x := (fieldOf v (p % 25) 8 + k) % 256 + 1) (by omega)
        have G2 := Lib.hid (show ((fieldOf v (p % 25) 8 + ((k : Int) + 1)) % 256 != bits .and .u32 ((fieldOf v (p % 25) 8 + k) % 256 + 1) 255) = false by
          rw [g1]; simp only [bne_eq_false_iff_eq]; omega)
        clear g1
        go_wp2_with fail
        refine (bump_any _ _ _ _ HBD.out).mono ?_
        rintro e w5 ⟨rfl, hd⟩
        have HD5 := Lib.hid (HR.out.trans hd)
        clear hd
        have hn := HN.out
        go_wp2_with fail
        clear hn
        refine (get_is _ _ _ _ HBD1.out (bumped_get (k + 1) HA.out)).mono ?_
        rintro e w6 ⟨rfl, hd⟩
        have HD6 := Lib.hid (HD5.out.trans hd)
        clear hd
        go_wp2_with fail
        refine (get_is _ _ _ _ HBD.out (bumped_get k HA.out)).mono ?_
        rintro e w7 ⟨rfl, hd⟩
        have HD7 := Lib.hid (HD6.out.trans hd)
        clear hd
        have g2 := G2.out
        go_wp2
        go_roundw
        case rel => exact ⟨k + 1, by omega, by go_num, by rw [HN.out], HD7.out⟩
        case measure => simp [intOf]; omega
      · obtain rfl : k = 256 := by omega
        clear hlt hk HBD
        have E := Lib.hid (bumped_256 v (p % 25))
        rw [E.out]
        go_wp2_with fail
        refine (awake_any _).mono ?_
        rintro e w5 ⟨rfl, hd⟩
        have HD5 := Lib.hid (HR.out.trans hd)
        clear hd
        go_wp2
        go_ret
        exact ⟨rfl, drew_below HD5.out⟩
  · skip
    go_wp2_with fail
    refine (get_is _ _ (getI v (q % 25) 8) _ HP.out (put8_other HA.out HB.out (by omega))).mono ?_
    rintro e w3 ⟨rfl, hd⟩
    have HD3 := Lib.hid (HD1.out.trans (HD2.out.trans hd))
    clear hd
    go_wp2_with fail
    refine (get_is _ _ (getI v (q % 25) 8) _ HV.out rfl).mono ?_
    rintro e w4 ⟨rfl, hd⟩
    have HD4 := Lib.hid (HD3.out.trans hd)
    clear hd
    go_wp2
    go_loopw [12, 13] (fun n i wr => ∃ k : Nat, k ≤ 256 ∧ i = .int .i64 k ∧ n = .int .u32 (bumped v (p % 25) k) ∧ Drew w wr) (fun _ i _ => 256 - (intOf i).toNat)
    case atStart => exact ⟨0, by omega, rfl, by rw [bumped_0], HD4.out⟩
    case round =>
      obtain ⟨k, hk, rfl, rfl, hr⟩ := hrel
      have HR := Lib.hid hr
      have HBD := Lib.hid (bumped_bd (v := v) k HA.out HV.out)
      clear hr
      by_cases hlt : k < 256
      · have HN := Lib.hid (bumped_next (v := v) k HA.out HV.out)
        have HBD1 := Lib.hid (bumped_bd (v := v) (k + 1) HA.out HV.out)
        have f0 := field_bd v (p % 25) 8
        rw [pw_8] at f0
        have g1 := and_255 (x := (fieldOf v (p % 25) 8 + k) % 256 + 1) (by omega)
        have G2 := Lib.hid (show ((fieldOf v (p % 25) 8 + ((k : Int) + 1)) % 256 != bits .and .u32 ((fieldOf v (p % 25) 8 + k) % 256 + 1) 255) = false by
          rw [g1]; simp only [bne_eq_false_iff_eq]; omega)
        clear g1
        go_wp2_with fail
        refine (bump_any _ _ _ _ HBD.out).mono ?_
        rintro e w5 ⟨rfl, hd⟩
        have HD5 := Lib.hid (HR.out.trans hd)
        clear hd
        have hn := HN.out
        go_wp2_with fail
        clear hn
        refine (get_is _ _ _ _ HBD1.out (bumped_get (k + 1) HA.out)).mono ?_
        rintro e w6 ⟨rfl, hd⟩
        have HD6 := Lib.hid (HD5.out.trans hd)
        clear hd
        go_wp2_with fail
        refine (get_is _ _ _ _ HBD.out (bumped_get k HA.out)).mono ?_
        rintro e w7 ⟨rfl, hd⟩
        have HD7 := Lib.hid (HD6.out.trans hd)
        clear hd
        have g2 := G2.out
        go_wp2
        go_roundw
        case rel => exact ⟨k + 1, by omega, by go_num, by rw [HN.out], HD7.out⟩
        case measure => simp [intOf]; omega
      · obtain rfl : k = 256 := by omega
        clear hlt hk HBD
        have E := Lib.hid (bumped_256 v (p % 25))
        rw [E.out]
        go_wp2_with fail
        refine (awake_any _).mono ?_
        rintro e w5 ⟨rfl, hd⟩
        have HD5 := Lib.hid (HR.out.trans hd)
        clear hd
        go_wp2
        go_ret
        exact ⟨rfl, drew_below HD5.out⟩
  · skip
    have HD4 := Lib.hid (HD1.out.trans HD2.out)
    go_wp2
    go_loopw [12, 13] (fun n i wr => ∃ k : Nat, k ≤ 256 ∧ i = .int .i64 k ∧ n = .int .u32 (bumped v (p % 25) k) ∧ Drew w wr) (fun _ i _ => 256 - (intOf i).toNat)
    case atStart => exact ⟨0, by omega, rfl, by rw [bumped_0], HD4.out⟩
    case round =>
      obtain ⟨k, hk, rfl, rfl, hr⟩ := hrel
      have HR := Lib.hid hr
      have HBD := Lib.hid (bumped_bd (v := v) k HA.out HV.out)
      clear hr
      by_cases hlt : k < 256
      · have HN := Lib.hid (bumped_next (v := v) k HA.out HV.out)
        have HBD1 := Lib.hid (bumped_bd (v := v) (k + 1) HA.out HV.out)
        have f0 := field_bd v (p % 25) 8
        rw [pw_8] at f0
        have g1 := and_255 (x := (fieldOf v (p % 25) 8 + k) % 256 + 1) (by omega)
        have G2 := Lib.hid (show ((fieldOf v (p % 25) 8 + ((k : Int) + 1)) % 256 != bits .and .u32 ((fieldOf v (p % 25) 8 + k) % 256 + 1) 255) = false by
          rw [g1]; simp only [bne_eq_false_iff_eq]; omega)
        clear g1
        go_wp2_with fail
        refine (bump_any _ _ _ _ HBD.out).mono ?_
        rintro e w5 ⟨rfl, hd⟩
        have HD5 := Lib.hid (HR.out.trans hd)
        clear hd
        have hn := HN.out
        go_wp2_with fail
        clear hn
        refine (get_is _ _ _ _ HBD1.out (bumped_get (k + 1) HA.out)).mono ?_
        rintro e w6 ⟨rfl, hd⟩
        have HD6 := Lib.hid (HD5.out.trans hd)
        clear hd
        go_wp2_with fail
        refine (get_is _ _ _ _ HBD.out (bumped_get k HA.out)).mono ?_
        rintro e w7 ⟨rfl, hd⟩
        have HD7 := Lib.hid (HD6.out.trans hd)
        clear hd
        have g2 := G2.out
        go_wp2
        go_roundw
        case rel => exact ⟨k + 1, by omega, by go_num, by rw [HN.out], HD7.out⟩
        case measure => simp [intOf]; omega
      · obtain rfl : k = 256 := by omega
        clear hlt hk HBD
        have E := Lib.hid (bumped_256 v (p % 25))
        rw [E.out]
        go_wp2_with fail
        refine (awake_any _).mono ?_
        rintro e w5 ⟨rfl, hd⟩
        have HD5 := Lib.hid (HR.out.trans hd)
        clear hd
        go_wp2
        go_ret
        exact ⟨rfl, drew_below HD5.out⟩
end Go.Proofs.Yteigkgfmmcaieaa
