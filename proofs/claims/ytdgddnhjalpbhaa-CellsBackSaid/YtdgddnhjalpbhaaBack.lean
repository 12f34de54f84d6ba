/- CellsBack: the walk. -/
import Derived.Test.YtdgddnhjalpbhaaRef
namespace Go.Proofs.Ytdgddnhjalpbhaa
open Go.RowKit

theorem back_long (A : Option Addr) (n cap : Nat) (c x : Int) (w : World) (hm : 1024 < n) :
    Calls Try.prog 6 #[.slice A n cap, .int .i64 c, .int .u32 x] w fun e w' => e = .returned (.bool true) ∧ Only Nil w w' := by
  have hm' : 1024 < (n : Int) := by omega
  go_enter Try.func6, Try.ntmps6
  go_wp2_with fail
  refine (awake_any _).mono ?_
  rintro e w1 ⟨rfl, hO⟩
  have HO := Lib.hid hO
  clear hO
  go_wp2
  go_ret
  exact ⟨rfl, HO.out⟩

theorem add_back {o x : Int} (ho : 0 ≤ o ∧ o < 4294967296) : ((-x) % 4294967296 + (x + o) % 4294967296) % 4294967296 = o := by omega

theorem add_twice (xs : List Int) (c x : Int) (ho : 0 ≤ wordAt xs c ∧ wordAt xs c < 4294967296) : doNew (doNew xs 3 c x 0) 3 c (-x % 4294967296) 0 = xs := by
  rw [doNew_st _ _ _ _ _ rfl, doNew_st _ _ _ _ _ rfl, word_st, st_st]
  cases h : there xs c
  · simp [st, h]
  · rw [if_pos rfl]
    have e : leftOf 3 (-x % 4294967296) 0 (leftOf 3 x 0 (wordAt xs c)) = wordAt xs c := by
      simp only [leftOf, if_true]
      exact add_back ho
    rw [e, st_word]
theorem swap_st (xs : List Int) (c x : Int) : doNew xs 4 c x 0 = st xs c x := by rw [doNew_st _ _ _ _ _ rfl]; rfl
theorem cas_st (xs : List Int) (c y : Int) : doNew xs 5 c (wordAt xs c) y = st xs c y := by rw [doNew_st _ _ _ _ _ rfl]; simp [leftOf]

set_option maxHeartbeats 800000 in
theorem back_short (A : Option Addr) (n cap : Nat) (xs : List Int) (c x : Int) (w : World) (hr : IsRow .u32 w A n cap xs) (hx : 0 ≤ x ∧ x < 4294967296) (hm : n ≤ 1024) :
    Calls Try.prog 6 #[.slice A n cap, .int .i64 c, .int .u32 x] w fun e w' => e = .returned (.bool true) ∧ Only Nil w w' := by
  have hm' : (n : Int) ≤ 1024 := by omega
  have hw := word_wf hr.wf c
  have HW := Lib.hid hw
  have HX := Lib.hid hx
  have HR := Lib.hid hr
  clear hw hx hr
  cases ht : there xs c
  · skip
    have HT := Lib.hid ht
    clear ht
    go_enter Try.func6, Try.ntmps6
    go_wp2_with fail
    refine (from_ok A n cap xs _ hm (isRow_held HR.out)).mono ?_
    intro e w1 hF
    obtain ⟨b, A', c', rfl, hb, hA, hM, hO⟩ := hF
    have HM := Lib.hid hM
    have HO1 := Lib.hid hO
    have HA := Lib.hid hA
    clear hM hO hA
    go_wp2_with fail
    refine (add_any b A' c' xs c x _ HM.out).mono ?_
    rintro e w2 ⟨rfl, hO, hM⟩
    have HM2 := Lib.hid hM
    have HO2 := Lib.hid hO
    clear hM hO
    go_wp2_with fail
    refine (add_any b A' c' _ c (-x % 4294967296) _ HM2.out).mono ?_
    rintro e w3 ⟨rfl, hO, hM⟩
    rw [add_twice xs c x HW.out] at hM
    have HM3 := Lib.hid hM
    have HO3 := Lib.hid hO
    clear hM hO
    go_wp2_with fail
    refine (swap_any b A' c' xs c x _ HM3.out).mono ?_
    rintro e w4 ⟨rfl, hO, hM⟩
    rw [swap_st] at hM
    have HM4 := Lib.hid hM
    have HO4 := Lib.hid hO
    clear hM hO
    go_wp2_with fail
    refine (swap_any b A' c' _ c (wordAt xs c) _ HM4.out).mono ?_
    rintro e w5 ⟨rfl, hO, hM⟩
    rw [swap_st, st_st, st_word] at hM
    have HM5 := Lib.hid hM
    have HO5 := Lib.hid hO
    clear hM hO
    go_wp2_with fail
    refine (cas_any b A' c' xs c (wordAt xs c) x _ HM5.out).mono ?_
    rw [HT.out, beq_self_eq_true, cas_st]
    rintro e w6 ⟨rfl, hO, hM⟩
    have HM6 := Lib.hid hM
    have HO6 := Lib.hid hO
    clear hM hO
    go_wp2_with fail
    refine (cas_any b A' c' _ c x (wordAt xs c) _ HM6.out).mono ?_
    rw [there_st, HT.out, word_st, HT.out]
    rintro e w7 ⟨rfl, hO, hM⟩
    have hM7 : Mem w7 b A' c' xs := by
      have e2 : doNew (st xs c x) 5 c x (wordAt xs c) = xs := by
        rw [doNew_st _ _ _ _ _ rfl, st_st, word_st]
        cases h : there xs c
        · simp [st, h]
        · rw [if_pos rfl]
          simp only [leftOf, if_true]
          exact st_word xs c
      rwa [e2] at hM
    have HM7 := Lib.hid hM7
    have HO7 := Lib.hid hO
    clear hM hO hM7
    go_wp2_with fail
    refine (there_any A n cap xs c HR.out.len_ _).mono ?_
    rw [HT.out]
    rintro e w8 ⟨rfl, rfl⟩
    go_wp2_with fail
    refine (all_any b A' c' xs _ HM7.out).mono ?_
    intro e w9 hF
    obtain ⟨A9, c9, rfl, hOwn, hO⟩ := hF
    have HO9 := Lib.hid hO
    have HW9 := Lib.hid hOwn
    clear hO hOwn
    have hq : Only Nil w w9 := (((((((HO1.out.step HO2.out (fun i hi h => by have := HA.out i h; omega)).step HO3.out (fun i hi h => by have := HA.out i h; omega)).step HO4.out (fun i hi h => by have := HA.out i h; omega)).step HO5.out (fun i hi h => by have := HA.out i h; omega)).step HO6.out (fun i hi h => by have := HA.out i h; omega)).step HO7.out (fun i hi h => by have := HA.out i h; omega))).trans HO9.out
    have HQ := Lib.hid hq
    clear hq
    go_wp2_with fail
    have hn := HR.out.len_
    have hs := same_any A9 A c9 cap xs xs w9 HW9.out.held (by rw [hn]; exact (isRow_held HR.out).only HQ.out (fun _ _ => id)) (by omega)
    rw [hn] at hs
    rw [hn]
    refine hs.mono ?_
    clear hs hn
    rw [show decide (xs = xs) = true by simp]
    rintro e w10 ⟨rfl, hO⟩
    have HO10 := Lib.hid hO
    clear hO
    go_wp2_with fail
    refine (awake_any _).mono ?_
    rintro e w11 ⟨rfl, hO⟩
    have HO11 := Lib.hid hO
    clear hO
    go_wp2
    go_ret
    exact ⟨rfl, (HQ.out.trans HO10.out).trans HO11.out⟩
  · skip
    have HT := Lib.hid ht
    clear ht
    go_enter Try.func6, Try.ntmps6
    go_wp2_with fail
    refine (from_ok A n cap xs _ hm (isRow_held HR.out)).mono ?_
    intro e w1 hF
    obtain ⟨b, A', c', rfl, hb, hA, hM, hO⟩ := hF
    have HM := Lib.hid hM
    have HO1 := Lib.hid hO
    have HA := Lib.hid hA
    clear hM hO hA
    go_wp2_with fail
    refine (add_any b A' c' xs c x _ HM.out).mono ?_
    rintro e w2 ⟨rfl, hO, hM⟩
    have HM2 := Lib.hid hM
    have HO2 := Lib.hid hO
    clear hM hO
    go_wp2_with fail
    refine (add_any b A' c' _ c (-x % 4294967296) _ HM2.out).mono ?_
    rintro e w3 ⟨rfl, hO, hM⟩
    rw [add_twice xs c x HW.out] at hM
    have HM3 := Lib.hid hM
    have HO3 := Lib.hid hO
    clear hM hO
    go_wp2_with fail
    refine (swap_any b A' c' xs c x _ HM3.out).mono ?_
    rintro e w4 ⟨rfl, hO, hM⟩
    rw [swap_st] at hM
    have HM4 := Lib.hid hM
    have HO4 := Lib.hid hO
    clear hM hO
    go_wp2_with fail
    refine (swap_any b A' c' _ c (wordAt xs c) _ HM4.out).mono ?_
    rintro e w5 ⟨rfl, hO, hM⟩
    rw [swap_st, st_st, st_word] at hM
    have HM5 := Lib.hid hM
    have HO5 := Lib.hid hO
    clear hM hO
    go_wp2_with fail
    refine (cas_any b A' c' xs c (wordAt xs c) x _ HM5.out).mono ?_
    rw [HT.out, beq_self_eq_true, cas_st]
    rintro e w6 ⟨rfl, hO, hM⟩
    have HM6 := Lib.hid hM
    have HO6 := Lib.hid hO
    clear hM hO
    go_wp2_with fail
    refine (cas_any b A' c' _ c x (wordAt xs c) _ HM6.out).mono ?_
    rw [there_st, HT.out, word_st, HT.out]
    rintro e w7 ⟨rfl, hO, hM⟩
    have hM7 : Mem w7 b A' c' xs := by
      have e2 : doNew (st xs c x) 5 c x (wordAt xs c) = xs := by
        rw [doNew_st _ _ _ _ _ rfl, st_st, word_st]
        cases h : there xs c
        · simp [st, h]
        · rw [if_pos rfl]
          simp only [leftOf, if_true]
          exact st_word xs c
      rwa [e2] at hM
    have HM7 := Lib.hid hM7
    have HO7 := Lib.hid hO
    clear hM hO hM7
    go_wp2_with fail
    refine (there_any A n cap xs c HR.out.len_ _).mono ?_
    rw [HT.out]
    rintro e w8 ⟨rfl, rfl⟩
    go_wp2_with fail
    refine (all_any b A' c' xs _ HM7.out).mono ?_
    intro e w9 hF
    obtain ⟨A9, c9, rfl, hOwn, hO⟩ := hF
    have HO9 := Lib.hid hO
    have HW9 := Lib.hid hOwn
    clear hO hOwn
    have hq : Only Nil w w9 := (((((((HO1.out.step HO2.out (fun i hi h => by have := HA.out i h; omega)).step HO3.out (fun i hi h => by have := HA.out i h; omega)).step HO4.out (fun i hi h => by have := HA.out i h; omega)).step HO5.out (fun i hi h => by have := HA.out i h; omega)).step HO6.out (fun i hi h => by have := HA.out i h; omega)).step HO7.out (fun i hi h => by have := HA.out i h; omega))).trans HO9.out
    have HQ := Lib.hid hq
    clear hq
    go_wp2_with fail
    have hn := HR.out.len_
    have hs := same_any A9 A c9 cap xs xs w9 HW9.out.held (by rw [hn]; exact (isRow_held HR.out).only HQ.out (fun _ _ => id)) (by omega)
    rw [hn] at hs
    rw [hn]
    refine hs.mono ?_
    clear hs hn
    rw [show decide (xs = xs) = true by simp]
    rintro e w10 ⟨rfl, hO⟩
    have HO10 := Lib.hid hO
    clear hO
    obtain ⟨b0, o0, hA0, hc0, hi0, hcell⟩ := isRow_cell HR.out (HQ.out.trans HO10.out) HT.out
    subst hA0
    go_wp2_with fail
    refine (awake_any _).mono ?_
    rintro e w11 ⟨rfl, hO⟩
    have HO11 := Lib.hid hO
    clear hO
    go_wp2
    go_ret
    exact ⟨rfl, (HQ.out.trans HO10.out).trans HO11.out⟩

theorem walk_cellsBack (a0 : Option Addr) (len0 cap0 : Nat) (z0 : List Int) (c x : Int) (w : World) (w0 : IsRow .u32 w a0 len0 cap0 z0) (_w1 : (Lit.int .i64 c).wf = true) (w2 : (Lit.int .u32 x).wf = true) :
    Calls Try.prog 6 #[.slice a0 len0 cap0, .int .i64 c, .int .u32 x] w fun e w' => e = .returned (.bool true) ∧ Below w.heap.size w w' := by
  have fin : Calls Try.prog 6 #[.slice a0 len0 cap0, .int .i64 c, .int .u32 x] w fun e w' => e = .returned (.bool true) ∧ Only Nil w w' := by
    by_cases h : len0 ≤ 1024
    · exact back_short a0 len0 cap0 z0 c x w w0 (wf_u32 w2) h
    · exact back_long a0 len0 cap0 c x w (by omega)
  exact fin.mono fun _ _ ⟨he, hO⟩ => ⟨he, hO.below (Nat.le_refl _) (fun _ _ h => h)⟩
end Go.Proofs.Ytdgddnhjalpbhaa
