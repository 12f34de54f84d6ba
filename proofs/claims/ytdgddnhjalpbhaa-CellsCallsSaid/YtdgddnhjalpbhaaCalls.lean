/- CellsCalls: the walk. -/
import Derived.Test.YtdgddnhjalpbhaaRef
namespace Go.Proofs.Ytdgddnhjalpbhaa
open Go.RowKit

theorem calls_long (A : Option Addr) (n cap : Nat) (c x y : Int) (w : World) (hm : 1024 < n) :
    Calls Try.prog 4 #[.slice A n cap, .int .i64 c, .int .u32 x, .int .u32 y] w fun e w' => e = .returned (.bool true) ∧ Only Nil w w' := by
  have hm' : 1024 < (n : Int) := by omega
  go_enter Try.func4, Try.ntmps4
  go_wp2_with fail
  refine (awake_any _).mono ?_
  rintro e w1 ⟨rfl, hO⟩
  have HO := Lib.hid hO
  clear hO
  go_wp2
  go_ret
  exact ⟨rfl, HO.out⟩

set_option maxRecDepth 100000 in
set_option maxHeartbeats 3200000 in
theorem calls_not (A : Option Addr) (n cap : Nat) (xs : List Int) (c x y : Int) (w : World) (hr : IsRow .u32 w A n cap xs) (hm : n ≤ 1024) (ht : there xs c = false) :
    Calls Try.prog 4 #[.slice A n cap, .int .i64 c, .int .u32 x, .int .u32 y] w fun e w' => e = .returned (.bool true) ∧ Only Nil w w' := by
  have hm' : (n : Int) ≤ 1024 := by omega
  have HR := Lib.hid hr
  clear hr
  have HT := Lib.hid ht
  clear ht
  have hw0 : wordAt xs c = 0 := by simp [wordAt, HT.out]
  have HW0 := Lib.hid hw0
  clear hw0
  go_enter Try.func4, Try.ntmps4
  go_wp2_with fail
  refine (there_any A n cap xs c HR.out.len_ _).mono ?_
  rw [HT.out]
  rintro e w1 ⟨rfl, hw1⟩
  obtain rfl := hw1.symm
  go_wp2
  go_loopw [11] (fun i wr => ∃ k : Nat, 1 ≤ k ∧ k ≤ 6 ∧ i = .int .i64 k ∧ Only Nil w wr) (fun i _ => 6 - (intOf i).toNat)
  case atStart => exact ⟨1, by omega, by omega, rfl, Only.refl _ _⟩
  case round =>
    obtain ⟨k, hk1, hk6, rfl, ho0⟩ := hrel
    have HO0 := Lib.hid ho0
    clear ho0
    have hk : k = 1 ∨ k = 2 ∨ k = 3 ∨ k = 4 ∨ k = 5 ∨ k = 6 := by omega
    clear hk1 hk6
    rcases hk with rfl | rfl | rfl | rfl | rfl | rfl
    · skip
      go_wp2_with fail
      refine (from_ok A n cap xs _ hm ((isRow_held HR.out).only HO0.out (fun _ _ => id))).mono ?_
      intro e w1 hF
      obtain ⟨b, A', c', rfl, hb, hA, hM, hO⟩ := hF
      have HM := Lib.hid hM
      have HO1 := Lib.hid hO
      have HA := Lib.hid hA
      clear hM hO hA
      go_wp2_with fail
      refine (load_any b A' c' xs c _ HM.out).mono ?_
      rintro e w2 ⟨rfl, hO, hM⟩
      rw [HW0.out]
      have HM2 := Lib.hid hM
      have HO2 := Lib.hid hO
      clear hM hO
      go_wp2_with fail
      refine (store_any b A' c' xs c x _ HM2.out).mono ?_
      rintro e w3 ⟨rfl, hO, hM⟩
      have e3 : doNew xs 2 c x 0 = st xs c x := by rw [doNew_st _ _ _ _ _ rfl]; rfl
      rw [e3] at hM
      clear e3
      have HM3 := Lib.hid hM
      have HO3 := Lib.hid hO
      clear hM hO
      go_wp2_with fail
      have hq : Only Nil w w3 := ((HO0.out.trans HO1.out).step HO2.out (fun i hi h => by have := HA.out i h; have := HO0.out.size; omega)).step HO3.out (fun i hi h => by have := HA.out i h; have := HO0.out.size; omega)
      have HQ := Lib.hid hq
      clear hq
      refine (copy_n A n cap xs _ (by omega) ((isRow_held HR.out).only HQ.out (fun _ _ => id))).mono ?_
      intro e w4 hF
      obtain ⟨A4, c4, rfl, hOwn, hO⟩ := hF
      have HW4 := Lib.hid hOwn
      have HO4 := Lib.hid hO
      clear hOwn hO
      have hw5 : Own w4 w3.heap.size A4 c4 (st xs c x) := by rw [show st xs c x = xs by simp [st, HT.out]]; exact HW4.out
      have hm5 : Mem w4 b A' c' (st xs c x) := HM3.out.only HO4.out id (fun _ _ => id)
      have hq5 : Only Nil w w4 := HQ.out.trans HO4.out
      go_wp2_with fail
      have HW5 := Lib.hid hw5
      clear hw5
      have HM5 := Lib.hid hm5
      have HQ5 := Lib.hid hq5
      clear hm5 hq5
      refine (all_n b A' c' n _ _ HM5.out (by rw [st_len]; exact HR.out.len_)).mono ?_
      intro e w6 hF
      obtain ⟨A6, c6, rfl, hOwn, hO⟩ := hF
      have HW6 := Lib.hid hOwn
      have HO6 := Lib.hid hO
      clear hOwn hO
      go_wp2_with fail
      refine (same_n A6 A4 c6 c4 n _ _ _ (HW6.out.held_n (by rw [st_len]; exact HR.out.len_)) ((HW5.out.only HO6.out (fun _ _ => id)).held_n (by rw [st_len]; exact HR.out.len_)) (by omega)).mono ?_
      rw [show decide (st xs c x = st xs c x) = true by simp]
      rintro e w7 ⟨rfl, hO⟩
      have HO7 := Lib.hid hO
      clear hO
      go_wp2
      exact ⟨⟨2, by omega, by omega, by go_num, (HQ5.out.trans HO6.out).trans HO7.out⟩, by simp [intOf]⟩
    · skip
      go_wp2_with fail
      refine (from_ok A n cap xs _ hm ((isRow_held HR.out).only HO0.out (fun _ _ => id))).mono ?_
      intro e w1 hF
      obtain ⟨b, A', c', rfl, hb, hA, hM, hO⟩ := hF
      have HM := Lib.hid hM
      have HO1 := Lib.hid hO
      have HA := Lib.hid hA
      clear hM hO hA
      go_wp2_with fail
      refine (load_any b A' c' xs c _ HM.out).mono ?_
      rintro e w2 ⟨rfl, hO, hM⟩
      rw [HW0.out]
      have HM2 := Lib.hid hM
      have HO2 := Lib.hid hO
      clear hM hO
      go_wp2_with fail
      refine (add_any b A' c' xs c x _ HM2.out).mono ?_
      rintro e w3 ⟨rfl, hO, hM⟩
      have e3 : doNew xs 3 c x 0 = st xs c ((wordAt xs c + x) % 4294967296) := by rw [doNew_st _ _ _ _ _ rfl]; simp only [leftOf, if_true]; rw [Int.add_comm]
      rw [e3] at hM
      clear e3
      rw [HW0.out]
      have HM3 := Lib.hid hM
      have HO3 := Lib.hid hO
      clear hM hO
      go_wp2_with fail
      have hq : Only Nil w w3 := ((HO0.out.trans HO1.out).step HO2.out (fun i hi h => by have := HA.out i h; have := HO0.out.size; omega)).step HO3.out (fun i hi h => by have := HA.out i h; have := HO0.out.size; omega)
      have HQ := Lib.hid hq
      clear hq
      refine (copy_n A n cap xs _ (by omega) ((isRow_held HR.out).only HQ.out (fun _ _ => id))).mono ?_
      intro e w4 hF
      obtain ⟨A4, c4, rfl, hOwn, hO⟩ := hF
      have HW4 := Lib.hid hOwn
      have HO4 := Lib.hid hO
      clear hOwn hO
      have hw5 : Own w4 w3.heap.size A4 c4 (st xs c ((wordAt xs c + x) % 4294967296)) := by rw [show st xs c ((wordAt xs c + x) % 4294967296) = xs by simp [st, HT.out]]; exact HW4.out
      have hm5 : Mem w4 b A' c' (st xs c ((wordAt xs c + x) % 4294967296)) := HM3.out.only HO4.out id (fun _ _ => id)
      have hq5 : Only Nil w w4 := HQ.out.trans HO4.out
      go_wp2_with fail
      have HW5 := Lib.hid hw5
      clear hw5
      have HM5 := Lib.hid hm5
      have HQ5 := Lib.hid hq5
      clear hm5 hq5
      refine (all_n b A' c' n _ _ HM5.out (by rw [st_len]; exact HR.out.len_)).mono ?_
      intro e w6 hF
      obtain ⟨A6, c6, rfl, hOwn, hO⟩ := hF
      have HW6 := Lib.hid hOwn
      have HO6 := Lib.hid hO
      clear hOwn hO
      go_wp2_with fail
      refine (same_n A6 A4 c6 c4 n _ _ _ (HW6.out.held_n (by rw [st_len]; exact HR.out.len_)) ((HW5.out.only HO6.out (fun _ _ => id)).held_n (by rw [st_len]; exact HR.out.len_)) (by omega)).mono ?_
      rw [show decide (st xs c ((wordAt xs c + x) % 4294967296) = st xs c ((wordAt xs c + x) % 4294967296)) = true by simp]
      rintro e w7 ⟨rfl, hO⟩
      have HO7 := Lib.hid hO
      clear hO
      go_wp2
      exact ⟨⟨3, by omega, by omega, by go_num, (HQ5.out.trans HO6.out).trans HO7.out⟩, by simp [intOf]⟩
    · skip
      go_wp2_with fail
      refine (from_ok A n cap xs _ hm ((isRow_held HR.out).only HO0.out (fun _ _ => id))).mono ?_
      intro e w1 hF
      obtain ⟨b, A', c', rfl, hb, hA, hM, hO⟩ := hF
      have HM := Lib.hid hM
      have HO1 := Lib.hid hO
      have HA := Lib.hid hA
      clear hM hO hA
      go_wp2_with fail
      refine (load_any b A' c' xs c _ HM.out).mono ?_
      rintro e w2 ⟨rfl, hO, hM⟩
      rw [HW0.out]
      have HM2 := Lib.hid hM
      have HO2 := Lib.hid hO
      clear hM hO
      go_wp2_with fail
      refine (swap_any b A' c' xs c x _ HM2.out).mono ?_
      rintro e w3 ⟨rfl, hO, hM⟩
      have e3 : doNew xs 4 c x 0 = st xs c x := by rw [doNew_st _ _ _ _ _ rfl]; rfl
      rw [e3] at hM
      clear e3
      rw [HW0.out]
      have HM3 := Lib.hid hM
      have HO3 := Lib.hid hO
      clear hM hO
      go_wp2_with fail
      have hq : Only Nil w w3 := ((HO0.out.trans HO1.out).step HO2.out (fun i hi h => by have := HA.out i h; have := HO0.out.size; omega)).step HO3.out (fun i hi h => by have := HA.out i h; have := HO0.out.size; omega)
      have HQ := Lib.hid hq
      clear hq
      refine (copy_n A n cap xs _ (by omega) ((isRow_held HR.out).only HQ.out (fun _ _ => id))).mono ?_
      intro e w4 hF
      obtain ⟨A4, c4, rfl, hOwn, hO⟩ := hF
      have HW4 := Lib.hid hOwn
      have HO4 := Lib.hid hO
      clear hOwn hO
      have hw5 : Own w4 w3.heap.size A4 c4 (st xs c x) := by rw [show st xs c x = xs by simp [st, HT.out]]; exact HW4.out
      have hm5 : Mem w4 b A' c' (st xs c x) := HM3.out.only HO4.out id (fun _ _ => id)
      have hq5 : Only Nil w w4 := HQ.out.trans HO4.out
      go_wp2_with fail
      have HW5 := Lib.hid hw5
      clear hw5
      have HM5 := Lib.hid hm5
      have HQ5 := Lib.hid hq5
      clear hm5 hq5
      refine (all_n b A' c' n _ _ HM5.out (by rw [st_len]; exact HR.out.len_)).mono ?_
      intro e w6 hF
      obtain ⟨A6, c6, rfl, hOwn, hO⟩ := hF
      have HW6 := Lib.hid hOwn
      have HO6 := Lib.hid hO
      clear hOwn hO
      go_wp2_with fail
      refine (same_n A6 A4 c6 c4 n _ _ _ (HW6.out.held_n (by rw [st_len]; exact HR.out.len_)) ((HW5.out.only HO6.out (fun _ _ => id)).held_n (by rw [st_len]; exact HR.out.len_)) (by omega)).mono ?_
      rw [show decide (st xs c x = st xs c x) = true by simp]
      rintro e w7 ⟨rfl, hO⟩
      have HO7 := Lib.hid hO
      clear hO
      go_wp2
      exact ⟨⟨4, by omega, by omega, by go_num, (HQ5.out.trans HO6.out).trans HO7.out⟩, by simp [intOf]⟩
    · skip
      go_wp2_with fail
      refine (from_ok A n cap xs _ hm ((isRow_held HR.out).only HO0.out (fun _ _ => id))).mono ?_
      intro e w1 hF
      obtain ⟨b, A', c', rfl, hb, hA, hM, hO⟩ := hF
      have HM := Lib.hid hM
      have HO1 := Lib.hid hO
      have HA := Lib.hid hA
      clear hM hO hA
      go_wp2_with fail
      refine (load_any b A' c' xs c _ HM.out).mono ?_
      rintro e w2 ⟨rfl, hO, hM⟩
      rw [HW0.out]
      have HM2 := Lib.hid hM
      have HO2 := Lib.hid hO
      clear hM hO
      go_wp2_with fail
      refine (load_any b A' c' xs c _ HM2.out).mono ?_
      rintro e w3 ⟨rfl, hO, hM⟩
      have e3 : xs = st xs c (wordAt xs c) := by rw [st_word]
      rw [e3] at hM
      clear e3
      rw [HW0.out]
      have HM3 := Lib.hid hM
      have HO3 := Lib.hid hO
      clear hM hO
      go_wp2_with fail
      have hq : Only Nil w w3 := ((HO0.out.trans HO1.out).step HO2.out (fun i hi h => by have := HA.out i h; have := HO0.out.size; omega)).step HO3.out (fun i hi h => by have := HA.out i h; have := HO0.out.size; omega)
      have HQ := Lib.hid hq
      clear hq
      refine (copy_n A n cap xs _ (by omega) ((isRow_held HR.out).only HQ.out (fun _ _ => id))).mono ?_
      intro e w4 hF
      obtain ⟨A4, c4, rfl, hOwn, hO⟩ := hF
      have HW4 := Lib.hid hOwn
      have HO4 := Lib.hid hO
      clear hOwn hO
      have hw5 : Own w4 w3.heap.size A4 c4 (st xs c (wordAt xs c)) := by rw [show st xs c (wordAt xs c) = xs by simp [st, HT.out]]; exact HW4.out
      have hm5 : Mem w4 b A' c' (st xs c (wordAt xs c)) := HM3.out.only HO4.out id (fun _ _ => id)
      have hq5 : Only Nil w w4 := HQ.out.trans HO4.out
      go_wp2_with fail
      have HW5 := Lib.hid hw5
      clear hw5
      have HM5 := Lib.hid hm5
      have HQ5 := Lib.hid hq5
      clear hm5 hq5
      refine (all_n b A' c' n _ _ HM5.out (by rw [st_len]; exact HR.out.len_)).mono ?_
      intro e w6 hF
      obtain ⟨A6, c6, rfl, hOwn, hO⟩ := hF
      have HW6 := Lib.hid hOwn
      have HO6 := Lib.hid hO
      clear hOwn hO
      go_wp2_with fail
      refine (same_n A6 A4 c6 c4 n _ _ _ (HW6.out.held_n (by rw [st_len]; exact HR.out.len_)) ((HW5.out.only HO6.out (fun _ _ => id)).held_n (by rw [st_len]; exact HR.out.len_)) (by omega)).mono ?_
      rw [show decide (st xs c (wordAt xs c) = st xs c (wordAt xs c)) = true by simp]
      rintro e w7 ⟨rfl, hO⟩
      have HO7 := Lib.hid hO
      clear hO
      go_wp2
      exact ⟨⟨5, by omega, by omega, by go_num, (HQ5.out.trans HO6.out).trans HO7.out⟩, by simp [intOf]⟩
    · skip
      go_wp2_with fail
      refine (from_ok A n cap xs _ hm ((isRow_held HR.out).only HO0.out (fun _ _ => id))).mono ?_
      intro e w1 hF
      obtain ⟨b, A', c', rfl, hb, hA, hM, hO⟩ := hF
      have HM := Lib.hid hM
      have HO1 := Lib.hid hO
      have HA := Lib.hid hA
      clear hM hO hA
      go_wp2_with fail
      refine (load_any b A' c' xs c _ HM.out).mono ?_
      rintro e w2 ⟨rfl, hO, hM⟩
      rw [HW0.out]
      have HM2 := Lib.hid hM
      have HO2 := Lib.hid hO
      clear hM hO
      go_wp2_with fail
      refine (cas_any b A' c' xs c x y _ HM2.out).mono ?_
      rintro e w3 ⟨rfl, hO, hM⟩
      have e3 : doNew xs 5 c x y = st xs c (if wordAt xs c = x then y else wordAt xs c) := by rw [doNew_st _ _ _ _ _ rfl]; simp [leftOf]
      rw [e3] at hM
      clear e3
      rw [HT.out, HW0.out]
      have HM3 := Lib.hid hM
      have HO3 := Lib.hid hO
      clear hM hO
      go_wp2_with fail
      have hq : Only Nil w w3 := ((HO0.out.trans HO1.out).step HO2.out (fun i hi h => by have := HA.out i h; have := HO0.out.size; omega)).step HO3.out (fun i hi h => by have := HA.out i h; have := HO0.out.size; omega)
      have HQ := Lib.hid hq
      clear hq
      refine (copy_n A n cap xs _ (by omega) ((isRow_held HR.out).only HQ.out (fun _ _ => id))).mono ?_
      intro e w4 hF
      obtain ⟨A4, c4, rfl, hOwn, hO⟩ := hF
      have HW4 := Lib.hid hOwn
      have HO4 := Lib.hid hO
      clear hOwn hO
      have hw5 : Own w4 w3.heap.size A4 c4 (st xs c (if wordAt xs c = x then y else wordAt xs c)) := by rw [show st xs c (if wordAt xs c = x then y else wordAt xs c) = xs by simp [st, HT.out]]; exact HW4.out
      have hm5 : Mem w4 b A' c' (st xs c (if wordAt xs c = x then y else wordAt xs c)) := HM3.out.only HO4.out id (fun _ _ => id)
      have hq5 : Only Nil w w4 := HQ.out.trans HO4.out
      go_wp2_with fail
      have HW5 := Lib.hid hw5
      clear hw5
      have HM5 := Lib.hid hm5
      have HQ5 := Lib.hid hq5
      clear hm5 hq5
      refine (all_n b A' c' n _ _ HM5.out (by rw [st_len]; exact HR.out.len_)).mono ?_
      intro e w6 hF
      obtain ⟨A6, c6, rfl, hOwn, hO⟩ := hF
      have HW6 := Lib.hid hOwn
      have HO6 := Lib.hid hO
      clear hOwn hO
      go_wp2_with fail
      refine (same_n A6 A4 c6 c4 n _ _ _ (HW6.out.held_n (by rw [st_len]; exact HR.out.len_)) ((HW5.out.only HO6.out (fun _ _ => id)).held_n (by rw [st_len]; exact HR.out.len_)) (by omega)).mono ?_
      rw [show decide (st xs c (if wordAt xs c = x then y else wordAt xs c) = st xs c (if wordAt xs c = x then y else wordAt xs c)) = true by simp]
      rintro e w7 ⟨rfl, hO⟩
      have HO7 := Lib.hid hO
      clear hO
      go_wp2
      exact ⟨⟨6, by omega, by omega, by go_num, (HQ5.out.trans HO6.out).trans HO7.out⟩, by simp [intOf]⟩
    · go_wp2_with fail
      refine (awake_any _).mono ?_
      rintro e w1 ⟨rfl, hO⟩
      have HO := Lib.hid hO
      clear hO
      go_wp2
      go_ret
      exact ⟨rfl, HO0.out.trans HO.out⟩

set_option maxRecDepth 100000 in
set_option maxHeartbeats 3200000 in
theorem calls_at (A : Option Addr) (n cap : Nat) (xs : List Int) (c x y : Int) (w : World) (hr : IsRow .u32 w A n cap xs) (hm : n ≤ 1024) (ht : there xs c = true) :
    Calls Try.prog 4 #[.slice A n cap, .int .i64 c, .int .u32 x, .int .u32 y] w fun e w' => e = .returned (.bool true) ∧ Only Nil w w' := by
  have hm' : (n : Int) ≤ 1024 := by omega
  have HR := Lib.hid hr
  clear hr
  have HT := Lib.hid ht
  clear ht
  have ht2 : 0 ≤ c ∧ c < xs.length := by have e := HT.out; simpa [there] using e
  have HT2 := Lib.hid ht2
  clear ht2
  obtain ⟨b0, o0, hA0, hc0, hi0, hcell0⟩ := isRow_cell HR.out (Only.refl Nil w) HT.out
  subst hA0
  go_enter Try.func4, Try.ntmps4
  go_wp2_with fail
  refine (there_any _ n cap xs c HR.out.len_ _).mono ?_
  rw [HT.out]
  rintro e w1 ⟨rfl, hw1⟩
  obtain rfl := hw1.symm
  go_wp2
  go_loopw [11] (fun i wr => ∃ k : Nat, 1 ≤ k ∧ k ≤ 6 ∧ i = .int .i64 k ∧ Only Nil w wr) (fun i _ => 6 - (intOf i).toNat)
  case atStart => exact ⟨1, by omega, by omega, rfl, Only.refl _ _⟩
  case round =>
    obtain ⟨k, hk1, hk6, rfl, ho0⟩ := hrel
    have HO0 := Lib.hid ho0
    clear ho0
    have hk : k = 1 ∨ k = 2 ∨ k = 3 ∨ k = 4 ∨ k = 5 ∨ k = 6 := by omega
    clear hk1 hk6
    rcases hk with rfl | rfl | rfl | rfl | rfl | rfl
    · skip
      go_wp2_with fail
      refine (from_ok (some ⟨b0, o0, none⟩) n cap xs _ hm ((isRow_held HR.out).only HO0.out (fun _ _ => id))).mono ?_
      intro e w1 hF
      obtain ⟨b, A', c', rfl, hb, hA, hM, hO⟩ := hF
      have HM := Lib.hid hM
      have HO1 := Lib.hid hO
      have HA := Lib.hid hA
      clear hM hO hA
      go_wp2_with fail
      refine (load_any b A' c' xs c _ HM.out).mono ?_
      rintro e w2 ⟨rfl, hO, hM⟩
      have HM2 := Lib.hid hM
      have HO2 := Lib.hid hO
      clear hM hO
      go_wp2_with fail
      refine (store_any b A' c' xs c x _ HM2.out).mono ?_
      rintro e w3 ⟨rfl, hO, hM⟩
      have e3 : doNew xs 2 c x 0 = st xs c x := by rw [doNew_st _ _ _ _ _ rfl]; rfl
      rw [e3] at hM
      clear e3
      have HM3 := Lib.hid hM
      have HO3 := Lib.hid hO
      clear hM hO
      go_wp2_with fail
      have hq : Only Nil w w3 := ((HO0.out.trans HO1.out).step HO2.out (fun i hi h => by have := HA.out i h; have := HO0.out.size; omega)).step HO3.out (fun i hi h => by have := HA.out i h; have := HO0.out.size; omega)
      have HQ := Lib.hid hq
      clear hq
      refine (copy_n (some ⟨b0, o0, none⟩) n cap xs _ (by omega) ((isRow_held HR.out).only HQ.out (fun _ _ => id))).mono ?_
      intro e w4 hF
      obtain ⟨A4, c4, rfl, hOwn, hO⟩ := hF
      have HW4 := Lib.hid hOwn
      have HO4 := Lib.hid hO
      clear hOwn hO
      obtain ⟨g, cur, hA4, hg0, hrow, hcell, hset⟩ := HW4.out.row (i := c.toNat) (by have := HT2.out; have := HR.out.len_; omega)
      have hc4 := hrow.cell_ hcell
      have hf4 := hrow.frozen c.toNat
      have HRow := Lib.hid hrow
      have HSet := Lib.hid hset
      have HB4 := Lib.hid (HW4.out.base)
      clear hset hrow hcell
      subst hA4
      go_wp2_with fail
      have hw5 := HSet.out _ x (HRow.out.set c.toNat (.int .u32 x))
      rw [show xs.set c.toNat x = st xs c x by simp [st, HT.out]] at hw5
      have ho5 : Only (fun i => w3.heap.size ≤ i) w4 (w4.setCell ⟨g, c.toNat, none⟩ (.int .u32 x)) := (Only.refl _ _).setCell (.inr hg0) _
      generalize w4.setCell ⟨g, c.toNat, none⟩ (.int .u32 x) = w5 at *
      have HW5 := Lib.hid hw5
      have HO5 := Lib.hid ho5
      clear hw5 ho5
      have hm5 : Mem w5 b A' c' (st xs c x) := (HM3.out.only HO4.out id (fun _ _ => id)).only HO5.out (by have := HM3.out.hdr.lt; omega) (fun i hi => by have := HM3.out.own.lt i hi; omega)
      have hq5 : Only Nil w w5 := (HQ.out.trans HO4.out).step HO5.out (fun i hi h => by have := HQ.out.size; omega)
      have HM5 := Lib.hid hm5
      have HQ5 := Lib.hid hq5
      clear hm5 hq5
      refine (all_n b A' c' n _ _ HM5.out (by rw [st_len]; exact HR.out.len_)).mono ?_
      intro e w6 hF
      obtain ⟨A6, c6, rfl, hOwn, hO⟩ := hF
      have HW6 := Lib.hid hOwn
      have HO6 := Lib.hid hO
      clear hOwn hO
      go_wp2_with fail
      refine (same_n A6 (some ⟨g, 0, none⟩) c6 c4 n _ _ _ (HW6.out.held_n (by rw [st_len]; exact HR.out.len_)) ((HW5.out.only HO6.out (fun _ _ => id)).held_n (by rw [st_len]; exact HR.out.len_)) (by omega)).mono ?_
      rw [show decide (st xs c x = st xs c x) = true by simp]
      rintro e w7 ⟨rfl, hO⟩
      have HO7 := Lib.hid hO
      clear hO
      go_wp2
      exact ⟨⟨2, by omega, by omega, by go_num, (HQ5.out.trans HO6.out).trans HO7.out⟩, by simp [intOf]⟩
    · skip
      go_wp2_with fail
      refine (from_ok (some ⟨b0, o0, none⟩) n cap xs _ hm ((isRow_held HR.out).only HO0.out (fun _ _ => id))).mono ?_
      intro e w1 hF
      obtain ⟨b, A', c', rfl, hb, hA, hM, hO⟩ := hF
      have HM := Lib.hid hM
      have HO1 := Lib.hid hO
      have HA := Lib.hid hA
      clear hM hO hA
      go_wp2_with fail
      refine (load_any b A' c' xs c _ HM.out).mono ?_
      rintro e w2 ⟨rfl, hO, hM⟩
      have HM2 := Lib.hid hM
      have HO2 := Lib.hid hO
      clear hM hO
      go_wp2_with fail
      refine (add_any b A' c' xs c x _ HM2.out).mono ?_
      rintro e w3 ⟨rfl, hO, hM⟩
      have e3 : doNew xs 3 c x 0 = st xs c ((wordAt xs c + x) % 4294967296) := by rw [doNew_st _ _ _ _ _ rfl]; simp only [leftOf, if_true]; rw [Int.add_comm]
      rw [e3] at hM
      clear e3
      have HM3 := Lib.hid hM
      have HO3 := Lib.hid hO
      clear hM hO
      go_wp2_with fail
      have hq : Only Nil w w3 := ((HO0.out.trans HO1.out).step HO2.out (fun i hi h => by have := HA.out i h; have := HO0.out.size; omega)).step HO3.out (fun i hi h => by have := HA.out i h; have := HO0.out.size; omega)
      have HQ := Lib.hid hq
      clear hq
      refine (copy_n (some ⟨b0, o0, none⟩) n cap xs _ (by omega) ((isRow_held HR.out).only HQ.out (fun _ _ => id))).mono ?_
      intro e w4 hF
      obtain ⟨A4, c4, rfl, hOwn, hO⟩ := hF
      have HW4 := Lib.hid hOwn
      have HO4 := Lib.hid hO
      clear hOwn hO
      obtain ⟨g, cur, hA4, hg0, hrow, hcell, hset⟩ := HW4.out.row (i := c.toNat) (by have := HT2.out; have := HR.out.len_; omega)
      have hc4 := hrow.cell_ hcell
      have hf4 := hrow.frozen c.toNat
      have HRow := Lib.hid hrow
      have HSet := Lib.hid hset
      have HB4 := Lib.hid (HW4.out.base)
      clear hset hrow hcell
      subst hA4
      go_wp2_with fail
      have hw5 := HSet.out _ ((wordAt xs c + x) % 4294967296) (HRow.out.set c.toNat (.int .u32 ((wordAt xs c + x) % 4294967296)))
      rw [show xs.set c.toNat ((wordAt xs c + x) % 4294967296) = st xs c ((wordAt xs c + x) % 4294967296) by simp [st, HT.out]] at hw5
      have ho5 : Only (fun i => w3.heap.size ≤ i) w4 (w4.setCell ⟨g, c.toNat, none⟩ (.int .u32 ((wordAt xs c + x) % 4294967296))) := (Only.refl _ _).setCell (.inr hg0) _
      generalize w4.setCell ⟨g, c.toNat, none⟩ (.int .u32 ((wordAt xs c + x) % 4294967296)) = w5 at *
      have HW5 := Lib.hid hw5
      have HO5 := Lib.hid ho5
      clear hw5 ho5
      have hm5 : Mem w5 b A' c' (st xs c ((wordAt xs c + x) % 4294967296)) := (HM3.out.only HO4.out id (fun _ _ => id)).only HO5.out (by have := HM3.out.hdr.lt; omega) (fun i hi => by have := HM3.out.own.lt i hi; omega)
      have hq5 : Only Nil w w5 := (HQ.out.trans HO4.out).step HO5.out (fun i hi h => by have := HQ.out.size; omega)
      have HM5 := Lib.hid hm5
      have HQ5 := Lib.hid hq5
      clear hm5 hq5
      refine (all_n b A' c' n _ _ HM5.out (by rw [st_len]; exact HR.out.len_)).mono ?_
      intro e w6 hF
      obtain ⟨A6, c6, rfl, hOwn, hO⟩ := hF
      have HW6 := Lib.hid hOwn
      have HO6 := Lib.hid hO
      clear hOwn hO
      go_wp2_with fail
      refine (same_n A6 (some ⟨g, 0, none⟩) c6 c4 n _ _ _ (HW6.out.held_n (by rw [st_len]; exact HR.out.len_)) ((HW5.out.only HO6.out (fun _ _ => id)).held_n (by rw [st_len]; exact HR.out.len_)) (by omega)).mono ?_
      rw [show decide (st xs c ((wordAt xs c + x) % 4294967296) = st xs c ((wordAt xs c + x) % 4294967296)) = true by simp]
      rintro e w7 ⟨rfl, hO⟩
      have HO7 := Lib.hid hO
      clear hO
      go_wp2
      exact ⟨⟨3, by omega, by omega, by go_num, (HQ5.out.trans HO6.out).trans HO7.out⟩, by simp [intOf]⟩
    · skip
      go_wp2_with fail
      refine (from_ok (some ⟨b0, o0, none⟩) n cap xs _ hm ((isRow_held HR.out).only HO0.out (fun _ _ => id))).mono ?_
      intro e w1 hF
      obtain ⟨b, A', c', rfl, hb, hA, hM, hO⟩ := hF
      have HM := Lib.hid hM
      have HO1 := Lib.hid hO
      have HA := Lib.hid hA
      clear hM hO hA
      go_wp2_with fail
      refine (load_any b A' c' xs c _ HM.out).mono ?_
      rintro e w2 ⟨rfl, hO, hM⟩
      have HM2 := Lib.hid hM
      have HO2 := Lib.hid hO
      clear hM hO
      go_wp2_with fail
      refine (swap_any b A' c' xs c x _ HM2.out).mono ?_
      rintro e w3 ⟨rfl, hO, hM⟩
      have e3 : doNew xs 4 c x 0 = st xs c x := by rw [doNew_st _ _ _ _ _ rfl]; rfl
      rw [e3] at hM
      clear e3
      have HM3 := Lib.hid hM
      have HO3 := Lib.hid hO
      clear hM hO
      go_wp2_with fail
      have hq : Only Nil w w3 := ((HO0.out.trans HO1.out).step HO2.out (fun i hi h => by have := HA.out i h; have := HO0.out.size; omega)).step HO3.out (fun i hi h => by have := HA.out i h; have := HO0.out.size; omega)
      have HQ := Lib.hid hq
      clear hq
      refine (copy_n (some ⟨b0, o0, none⟩) n cap xs _ (by omega) ((isRow_held HR.out).only HQ.out (fun _ _ => id))).mono ?_
      intro e w4 hF
      obtain ⟨A4, c4, rfl, hOwn, hO⟩ := hF
      have HW4 := Lib.hid hOwn
      have HO4 := Lib.hid hO
      clear hOwn hO
      obtain ⟨g, cur, hA4, hg0, hrow, hcell, hset⟩ := HW4.out.row (i := c.toNat) (by have := HT2.out; have := HR.out.len_; omega)
      have hc4 := hrow.cell_ hcell
      have hf4 := hrow.frozen c.toNat
      have HRow := Lib.hid hrow
      have HSet := Lib.hid hset
      have HB4 := Lib.hid (HW4.out.base)
      clear hset hrow hcell
      subst hA4
      go_wp2_with fail
      have hw5 := HSet.out _ x (HRow.out.set c.toNat (.int .u32 x))
      rw [show xs.set c.toNat x = st xs c x by simp [st, HT.out]] at hw5
      have ho5 : Only (fun i => w3.heap.size ≤ i) w4 (w4.setCell ⟨g, c.toNat, none⟩ (.int .u32 x)) := (Only.refl _ _).setCell (.inr hg0) _
      generalize w4.setCell ⟨g, c.toNat, none⟩ (.int .u32 x) = w5 at *
      have HW5 := Lib.hid hw5
      have HO5 := Lib.hid ho5
      clear hw5 ho5
      have hm5 : Mem w5 b A' c' (st xs c x) := (HM3.out.only HO4.out id (fun _ _ => id)).only HO5.out (by have := HM3.out.hdr.lt; omega) (fun i hi => by have := HM3.out.own.lt i hi; omega)
      have hq5 : Only Nil w w5 := (HQ.out.trans HO4.out).step HO5.out (fun i hi h => by have := HQ.out.size; omega)
      have HM5 := Lib.hid hm5
      have HQ5 := Lib.hid hq5
      clear hm5 hq5
      refine (all_n b A' c' n _ _ HM5.out (by rw [st_len]; exact HR.out.len_)).mono ?_
      intro e w6 hF
      obtain ⟨A6, c6, rfl, hOwn, hO⟩ := hF
      have HW6 := Lib.hid hOwn
      have HO6 := Lib.hid hO
      clear hOwn hO
      go_wp2_with fail
      refine (same_n A6 (some ⟨g, 0, none⟩) c6 c4 n _ _ _ (HW6.out.held_n (by rw [st_len]; exact HR.out.len_)) ((HW5.out.only HO6.out (fun _ _ => id)).held_n (by rw [st_len]; exact HR.out.len_)) (by omega)).mono ?_
      rw [show decide (st xs c x = st xs c x) = true by simp]
      rintro e w7 ⟨rfl, hO⟩
      have HO7 := Lib.hid hO
      clear hO
      go_wp2
      exact ⟨⟨4, by omega, by omega, by go_num, (HQ5.out.trans HO6.out).trans HO7.out⟩, by simp [intOf]⟩
    · skip
      go_wp2_with fail
      refine (from_ok (some ⟨b0, o0, none⟩) n cap xs _ hm ((isRow_held HR.out).only HO0.out (fun _ _ => id))).mono ?_
      intro e w1 hF
      obtain ⟨b, A', c', rfl, hb, hA, hM, hO⟩ := hF
      have HM := Lib.hid hM
      have HO1 := Lib.hid hO
      have HA := Lib.hid hA
      clear hM hO hA
      go_wp2_with fail
      refine (load_any b A' c' xs c _ HM.out).mono ?_
      rintro e w2 ⟨rfl, hO, hM⟩
      have HM2 := Lib.hid hM
      have HO2 := Lib.hid hO
      clear hM hO
      go_wp2_with fail
      refine (load_any b A' c' xs c _ HM2.out).mono ?_
      rintro e w3 ⟨rfl, hO, hM⟩
      have e3 : xs = st xs c (wordAt xs c) := by rw [st_word]
      rw [e3] at hM
      clear e3
      have HM3 := Lib.hid hM
      have HO3 := Lib.hid hO
      clear hM hO
      go_wp2_with fail
      have hq : Only Nil w w3 := ((HO0.out.trans HO1.out).step HO2.out (fun i hi h => by have := HA.out i h; have := HO0.out.size; omega)).step HO3.out (fun i hi h => by have := HA.out i h; have := HO0.out.size; omega)
      have HQ := Lib.hid hq
      clear hq
      refine (copy_n (some ⟨b0, o0, none⟩) n cap xs _ (by omega) ((isRow_held HR.out).only HQ.out (fun _ _ => id))).mono ?_
      intro e w4 hF
      obtain ⟨A4, c4, rfl, hOwn, hO⟩ := hF
      have HW4 := Lib.hid hOwn
      have HO4 := Lib.hid hO
      clear hOwn hO
      obtain ⟨g, cur, hA4, hg0, hrow, hcell, hset⟩ := HW4.out.row (i := c.toNat) (by have := HT2.out; have := HR.out.len_; omega)
      have hc4 := hrow.cell_ hcell
      have hf4 := hrow.frozen c.toNat
      have HRow := Lib.hid hrow
      have HSet := Lib.hid hset
      have HB4 := Lib.hid (HW4.out.base)
      clear hset hrow hcell
      subst hA4
      go_wp2_with fail
      have hw5 := HSet.out _ (wordAt xs c) (HRow.out.set c.toNat (.int .u32 (wordAt xs c)))
      rw [show xs.set c.toNat (wordAt xs c) = st xs c (wordAt xs c) by simp [st, HT.out]] at hw5
      have ho5 : Only (fun i => w3.heap.size ≤ i) w4 (w4.setCell ⟨g, c.toNat, none⟩ (.int .u32 (wordAt xs c))) := (Only.refl _ _).setCell (.inr hg0) _
      generalize w4.setCell ⟨g, c.toNat, none⟩ (.int .u32 (wordAt xs c)) = w5 at *
      have HW5 := Lib.hid hw5
      have HO5 := Lib.hid ho5
      clear hw5 ho5
      have hm5 : Mem w5 b A' c' (st xs c (wordAt xs c)) := (HM3.out.only HO4.out id (fun _ _ => id)).only HO5.out (by have := HM3.out.hdr.lt; omega) (fun i hi => by have := HM3.out.own.lt i hi; omega)
      have hq5 : Only Nil w w5 := (HQ.out.trans HO4.out).step HO5.out (fun i hi h => by have := HQ.out.size; omega)
      have HM5 := Lib.hid hm5
      have HQ5 := Lib.hid hq5
      clear hm5 hq5
      refine (all_n b A' c' n _ _ HM5.out (by rw [st_len]; exact HR.out.len_)).mono ?_
      intro e w6 hF
      obtain ⟨A6, c6, rfl, hOwn, hO⟩ := hF
      have HW6 := Lib.hid hOwn
      have HO6 := Lib.hid hO
      clear hOwn hO
      go_wp2_with fail
      refine (same_n A6 (some ⟨g, 0, none⟩) c6 c4 n _ _ _ (HW6.out.held_n (by rw [st_len]; exact HR.out.len_)) ((HW5.out.only HO6.out (fun _ _ => id)).held_n (by rw [st_len]; exact HR.out.len_)) (by omega)).mono ?_
      rw [show decide (st xs c (wordAt xs c) = st xs c (wordAt xs c)) = true by simp]
      rintro e w7 ⟨rfl, hO⟩
      have HO7 := Lib.hid hO
      clear hO
      go_wp2
      exact ⟨⟨5, by omega, by omega, by go_num, (HQ5.out.trans HO6.out).trans HO7.out⟩, by simp [intOf]⟩
    · by_cases he : wordAt xs c = x
      · have hb := beq_iff_eq.2 he
        have HE := Lib.hid he
        clear he
        go_wp2_with fail
        refine (from_ok (some ⟨b0, o0, none⟩) n cap xs _ hm ((isRow_held HR.out).only HO0.out (fun _ _ => id))).mono ?_
        intro e w1 hF
        obtain ⟨b, A', c', rfl, hb, hA, hM, hO⟩ := hF
        have HM := Lib.hid hM
        have HO1 := Lib.hid hO
        have HA := Lib.hid hA
        clear hM hO hA
        go_wp2_with fail
        refine (load_any b A' c' xs c _ HM.out).mono ?_
        rintro e w2 ⟨rfl, hO, hM⟩
        have HM2 := Lib.hid hM
        have HO2 := Lib.hid hO
        clear hM hO
        go_wp2_with fail
        refine (cas_any b A' c' xs c x y _ HM2.out).mono ?_
        rintro e w3 ⟨rfl, hO, hM⟩
        have e3 : doNew xs 5 c x y = st xs c y := by rw [doNew_st _ _ _ _ _ rfl]; simp [leftOf, HE.out]
        rw [e3] at hM
        clear e3
        rw [HT.out]
        have HM3 := Lib.hid hM
        have HO3 := Lib.hid hO
        clear hM hO
        go_wp2_with fail
        have hq : Only Nil w w3 := ((HO0.out.trans HO1.out).step HO2.out (fun i hi h => by have := HA.out i h; have := HO0.out.size; omega)).step HO3.out (fun i hi h => by have := HA.out i h; have := HO0.out.size; omega)
        have HQ := Lib.hid hq
        clear hq
        refine (copy_n (some ⟨b0, o0, none⟩) n cap xs _ (by omega) ((isRow_held HR.out).only HQ.out (fun _ _ => id))).mono ?_
        intro e w4 hF
        obtain ⟨A4, c4, rfl, hOwn, hO⟩ := hF
        have HW4 := Lib.hid hOwn
        have HO4 := Lib.hid hO
        clear hOwn hO
        obtain ⟨g, cur, hA4, hg0, hrow, hcell, hset⟩ := HW4.out.row (i := c.toNat) (by have := HT2.out; have := HR.out.len_; omega)
        have hc4 := hrow.cell_ hcell
        have hf4 := hrow.frozen c.toNat
        have HRow := Lib.hid hrow
        have HSet := Lib.hid hset
        have HB4 := Lib.hid (HW4.out.base)
        clear hset hrow hcell
        subst hA4
        go_wp2_with fail
        have hw5 := HSet.out _ y (HRow.out.set c.toNat (.int .u32 y))
        rw [show xs.set c.toNat y = st xs c y by simp [st, HT.out]] at hw5
        have ho5 : Only (fun i => w3.heap.size ≤ i) w4 (w4.setCell ⟨g, c.toNat, none⟩ (.int .u32 y)) := (Only.refl _ _).setCell (.inr hg0) _
        generalize w4.setCell ⟨g, c.toNat, none⟩ (.int .u32 y) = w5 at *
        have HW5 := Lib.hid hw5
        have HO5 := Lib.hid ho5
        clear hw5 ho5
        have hm5 : Mem w5 b A' c' (st xs c y) := (HM3.out.only HO4.out id (fun _ _ => id)).only HO5.out (by have := HM3.out.hdr.lt; omega) (fun i hi => by have := HM3.out.own.lt i hi; omega)
        have hq5 : Only Nil w w5 := (HQ.out.trans HO4.out).step HO5.out (fun i hi h => by have := HQ.out.size; omega)
        have HM5 := Lib.hid hm5
        have HQ5 := Lib.hid hq5
        clear hm5 hq5
        refine (all_n b A' c' n _ _ HM5.out (by rw [st_len]; exact HR.out.len_)).mono ?_
        intro e w6 hF
        obtain ⟨A6, c6, rfl, hOwn, hO⟩ := hF
        have HW6 := Lib.hid hOwn
        have HO6 := Lib.hid hO
        clear hOwn hO
        go_wp2_with fail
        refine (same_n A6 (some ⟨g, 0, none⟩) c6 c4 n _ _ _ (HW6.out.held_n (by rw [st_len]; exact HR.out.len_)) ((HW5.out.only HO6.out (fun _ _ => id)).held_n (by rw [st_len]; exact HR.out.len_)) (by omega)).mono ?_
        rw [show decide (st xs c y = st xs c y) = true by simp]
        rintro e w7 ⟨rfl, hO⟩
        have HO7 := Lib.hid hO
        clear hO
        go_wp2
        exact ⟨⟨6, by omega, by omega, by go_num, (HQ5.out.trans HO6.out).trans HO7.out⟩, by simp [intOf]⟩
      · have hb := beq_eq_false_iff_ne.2 he
        have HE := Lib.hid he
        clear he
        go_wp2_with fail
        refine (from_ok (some ⟨b0, o0, none⟩) n cap xs _ hm ((isRow_held HR.out).only HO0.out (fun _ _ => id))).mono ?_
        intro e w1 hF
        obtain ⟨b, A', c', rfl, hb, hA, hM, hO⟩ := hF
        have HM := Lib.hid hM
        have HO1 := Lib.hid hO
        have HA := Lib.hid hA
        clear hM hO hA
        go_wp2_with fail
        refine (load_any b A' c' xs c _ HM.out).mono ?_
        rintro e w2 ⟨rfl, hO, hM⟩
        have HM2 := Lib.hid hM
        have HO2 := Lib.hid hO
        clear hM hO
        go_wp2_with fail
        refine (cas_any b A' c' xs c x y _ HM2.out).mono ?_
        rintro e w3 ⟨rfl, hO, hM⟩
        have e3 : doNew xs 5 c x y = st xs c (wordAt xs c) := by rw [doNew_st _ _ _ _ _ rfl]; simp [leftOf, HE.out]
        rw [e3] at hM
        clear e3
        rw [HT.out]
        have HM3 := Lib.hid hM
        have HO3 := Lib.hid hO
        clear hM hO
        go_wp2_with fail
        have hq : Only Nil w w3 := ((HO0.out.trans HO1.out).step HO2.out (fun i hi h => by have := HA.out i h; have := HO0.out.size; omega)).step HO3.out (fun i hi h => by have := HA.out i h; have := HO0.out.size; omega)
        have HQ := Lib.hid hq
        clear hq
        refine (copy_n (some ⟨b0, o0, none⟩) n cap xs _ (by omega) ((isRow_held HR.out).only HQ.out (fun _ _ => id))).mono ?_
        intro e w4 hF
        obtain ⟨A4, c4, rfl, hOwn, hO⟩ := hF
        have HW4 := Lib.hid hOwn
        have HO4 := Lib.hid hO
        clear hOwn hO
        obtain ⟨g, cur, hA4, hg0, hrow, hcell, hset⟩ := HW4.out.row (i := c.toNat) (by have := HT2.out; have := HR.out.len_; omega)
        have hc4 := hrow.cell_ hcell
        have hf4 := hrow.frozen c.toNat
        have HRow := Lib.hid hrow
        have HSet := Lib.hid hset
        have HB4 := Lib.hid (HW4.out.base)
        clear hset hrow hcell
        subst hA4
        go_wp2_with fail
        have hw5 := HSet.out _ (wordAt xs c) (HRow.out.set c.toNat (.int .u32 (wordAt xs c)))
        rw [show xs.set c.toNat (wordAt xs c) = st xs c (wordAt xs c) by simp [st, HT.out]] at hw5
        have ho5 : Only (fun i => w3.heap.size ≤ i) w4 (w4.setCell ⟨g, c.toNat, none⟩ (.int .u32 (wordAt xs c))) := (Only.refl _ _).setCell (.inr hg0) _
        generalize w4.setCell ⟨g, c.toNat, none⟩ (.int .u32 (wordAt xs c)) = w5 at *
        have HW5 := Lib.hid hw5
        have HO5 := Lib.hid ho5
        clear hw5 ho5
        have hm5 : Mem w5 b A' c' (st xs c (wordAt xs c)) := (HM3.out.only HO4.out id (fun _ _ => id)).only HO5.out (by have := HM3.out.hdr.lt; omega) (fun i hi => by have := HM3.out.own.lt i hi; omega)
        have hq5 : Only Nil w w5 := (HQ.out.trans HO4.out).step HO5.out (fun i hi h => by have := HQ.out.size; omega)
        have HM5 := Lib.hid hm5
        have HQ5 := Lib.hid hq5
        clear hm5 hq5
        refine (all_n b A' c' n _ _ HM5.out (by rw [st_len]; exact HR.out.len_)).mono ?_
        intro e w6 hF
        obtain ⟨A6, c6, rfl, hOwn, hO⟩ := hF
        have HW6 := Lib.hid hOwn
        have HO6 := Lib.hid hO
        clear hOwn hO
        go_wp2_with fail
        refine (same_n A6 (some ⟨g, 0, none⟩) c6 c4 n _ _ _ (HW6.out.held_n (by rw [st_len]; exact HR.out.len_)) ((HW5.out.only HO6.out (fun _ _ => id)).held_n (by rw [st_len]; exact HR.out.len_)) (by omega)).mono ?_
        rw [show decide (st xs c (wordAt xs c) = st xs c (wordAt xs c)) = true by simp]
        rintro e w7 ⟨rfl, hO⟩
        have HO7 := Lib.hid hO
        clear hO
        go_wp2
        exact ⟨⟨6, by omega, by omega, by go_num, (HQ5.out.trans HO6.out).trans HO7.out⟩, by simp [intOf]⟩
    · go_wp2_with fail
      refine (awake_any _).mono ?_
      rintro e w1 ⟨rfl, hO⟩
      have HO := Lib.hid hO
      clear hO
      go_wp2
      go_ret
      exact ⟨rfl, HO0.out.trans HO.out⟩

theorem walk_cellsCalls (a0 : Option Addr) (len0 cap0 : Nat) (z0 : List Int) (c x y : Int) (w : World) (w0 : IsRow .u32 w a0 len0 cap0 z0) (_w1 : (Lit.int .i64 c).wf = true) (_w2 : (Lit.int .u32 x).wf = true) (_w3 : (Lit.int .u32 y).wf = true) :
    Calls Try.prog 4 #[.slice a0 len0 cap0, .int .i64 c, .int .u32 x, .int .u32 y] w fun e w' => e = .returned (.bool true) ∧ Below w.heap.size w w' := by
  have fin : Calls Try.prog 4 #[.slice a0 len0 cap0, .int .i64 c, .int .u32 x, .int .u32 y] w fun e w' => e = .returned (.bool true) ∧ Only Nil w w' := by
    by_cases h : len0 ≤ 1024
    · cases ht : there z0 c
      · exact calls_not a0 len0 cap0 z0 c x y w w0 h ht
      · exact calls_at a0 len0 cap0 z0 c x y w w0 h ht
    · exact calls_long a0 len0 cap0 c x y w (by omega)
  exact fin.mono fun _ _ ⟨he, hO⟩ => ⟨he, hO.below (Nat.le_refl _) (fun _ _ h => h)⟩
end Go.Proofs.Ytdgddnhjalpbhaa
