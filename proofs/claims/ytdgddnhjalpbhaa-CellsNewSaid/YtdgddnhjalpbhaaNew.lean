/- CellsNew: the walk. -/
import Derived.Test.YtdgddnhjalpbhaaRef
namespace Go.Proofs.Ytdgddnhjalpbhaa
open Go.RowKit

theorem store_nil (c x : Int) (w : World) :
    Calls Try.prog 17 #[.pointer none, .int .i64 c, .int .u32 x] w fun e w' => e = .returned (.tuple #[]) ∧ Only Nil w w' := by
  go_enter Try.func17, Try.ntmps17
  go_wp2_with fail
  refine (do_nil 2 c x 0 0 _).mono ?_
  rintro e w1 ⟨rfl, hO⟩
  have HO := Lib.hid hO
  clear hO
  go_wp2
  go_end0
  exact ⟨rfl, HO.out⟩

theorem load_nil (c : Int) (w : World) :
    Calls Try.prog 16 #[.pointer none, .int .i64 c] w fun e w' => e = .returned (.int .u32 0) ∧ Only Nil w w' := by
  go_enter Try.func16, Try.ntmps16
  go_wp2_with fail
  refine (do_nil 1 c 0 0 0 _).mono ?_
  rintro e w1 ⟨rfl, hO⟩
  have HO := Lib.hid hO
  clear hO
  go_wp2
  go_ret
  exact ⟨rfl, HO.out.alloc _⟩

theorem new_walk_not (n c x : Int) (w : World) (hn : n < 0 ∨ 1024 < n) :
    Calls Try.prog 5 #[.int .i64 n, .int .i64 c, .int .u32 x] w fun e w' => e = .returned (.bool true) ∧ Only Nil w w' := by
  have hcase : (n < 0) ∨ (¬ n < 0 ∧ 1024 < n) := by omega
  clear hn
  rcases hcase with h0 | ⟨h0, h1⟩
  all_goals
    go_enter Try.func5, Try.ntmps5
    go_wp2_with fail
    refine (new_not n _ (by omega)).mono ?_
    rintro e w1 ⟨rfl, rfl⟩
    go_wp2_with fail
    refine (store_nil c x _).mono ?_
    rintro e w1 ⟨rfl, hO⟩
    have HO := Lib.hid hO
    clear hO
    go_wp2_with fail
    refine (do_nil 1 c 0 0 0 _).mono ?_
    rintro e w2 ⟨rfl, hO⟩
    have HO2 := Lib.hid hO
    clear hO
    go_wp2_with fail
    refine (len_nil _).mono ?_
    rintro e w3 ⟨rfl, rfl⟩
    go_wp2_with fail
    refine (load_nil c _).mono ?_
    rintro e w4 ⟨rfl, hO⟩
    have HO4 := Lib.hid hO
    clear hO
    go_wp2_with fail
    refine (all_nil _).mono ?_
    rintro e w5 ⟨rfl, rfl⟩
    go_wp2_with fail
    refine (awake_any _).mono ?_
    rintro e w6 ⟨rfl, hO⟩
    have HO6 := Lib.hid hO
    clear hO
    go_wp2
    go_ret
    exact ⟨rfl, (((HO.out.trans HO2.out).alloc _).trans HO4.out).trans HO6.out⟩

theorem word_rep (n : Nat) (c : Int) : wordAt (List.replicate n 0) c = 0 := by
  unfold wordAt
  split
  · rename_i h
    simp only [there, decide_eq_true_eq, List.length_replicate] at h
    simp only [List.getD, List.getElem?_replicate]
    split <;> rfl
  · rfl

def fives (n k : Nat) : List Int := List.replicate k 5 ++ List.replicate (n - k) 0
theorem fives_len {n k : Nat} (h : k ≤ n) : (fives n k).length = n := by simp [fives]; omega
theorem fives_at (n k : Nat) : (fives n k).getD k 0 = 0 := by
  simp only [fives, List.getD]
  rw [List.getElem?_append_right (by simp)]
  simp only [List.length_replicate, Nat.sub_self, List.getElem?_replicate]
  split <;> rfl
theorem fives_set {n k : Nat} (h : k < n) : (fives n k).set k 5 = fives n (k + 1) := by
  unfold fives
  rw [List.set_append_right _ _ (by simp), List.length_replicate, Nat.sub_self, show n - k = (n - (k + 1)) + 1 by omega, List.replicate_succ, List.set_cons_zero, List.replicate_succ', List.append_assoc]
  rfl

set_option maxHeartbeats 800000 in
theorem new_walk_ok (n : Nat) (c x : Int) (w : World) (hn : n ≤ 1024) :
    Calls Try.prog 5 #[.int .i64 n, .int .i64 c, .int .u32 x] w fun e w' => e = .returned (.bool true) ∧ Only Nil w w' := by
  have hn0 : ¬ (n : Int) < 0 := by omega
  have hn1 : ¬ 1024 < (n : Int) := by omega
  go_enter Try.func5, Try.ntmps5
  go_wp2_with fail
  refine (new_ok n _ hn).mono ?_
  intro e w1 hF
  obtain ⟨b, A', c', rfl, hb, hA, hM, hO⟩ := hF
  have HM1 := Lib.hid hM
  have HO1 := Lib.hid hO
  have HA1 := Lib.hid hA
  clear hM hO hA
  go_wp2_with fail
  refine (store_nil c x _).mono ?_
  rintro e w2 ⟨rfl, hO⟩
  have HO2 := Lib.hid hO
  have HM2 := Lib.hid (HM1.out.only hO id (fun _ _ => id))
  clear hO
  go_wp2_with fail
  refine (do_nil 1 c 0 0 0 _).mono ?_
  rintro e w3 ⟨rfl, hO⟩
  have HO3 := Lib.hid (hO.alloc (Obj.cells #[.int .i64 0, .int .i64 0, .int .u32 0, .int .u32 0, .int .u32 0] 33))
  have HM3 := Lib.hid (HM2.out.only HO3.out id (fun _ _ => id))
  clear hO
  go_wp2_with fail
  refine (len_nil _).mono ?_
  rintro e w4 ⟨rfl, rfl⟩
  go_wp2_with fail
  refine (load_nil c _).mono ?_
  rintro e w4 ⟨rfl, hO⟩
  have HO4 := Lib.hid hO
  have HM4 := Lib.hid (HM3.out.only HO4.out id (fun _ _ => id))
  clear hO
  go_wp2_with fail
  refine (all_nil _).mono ?_
  rintro e w5 ⟨rfl, rfl⟩
  go_wp2_with fail
  have hl : (List.replicate n (0 : Int)).length = n := by simp
  have hh := HM4.out.hdr
  rw [hl] at hh
  refine (len_any b A' n c' _ hh).mono ?_
  clear hl hh
  rintro e w6 ⟨rfl, rfl⟩
  go_wp2_with fail
  refine (load_any b A' c' (List.replicate n 0) c _ HM4.out).mono ?_
  rw [word_rep]
  rintro e w6 ⟨rfl, hO, hM⟩
  have HO6 := Lib.hid hO
  have HM6 := Lib.hid hM
  clear hO hM
  go_wp2_with fail
  refine (all_any b A' c' (List.replicate n 0) _ HM6.out).mono ?_
  intro e w7 hF
  obtain ⟨A7, c7, he, hOwn, hO⟩ := hF
  rw [List.length_replicate] at he
  subst he
  have HO7 := Lib.hid hO
  have HW7 := Lib.hid hOwn
  clear hO hOwn
  go_wp2
  go_loopw [13] (fun i wr => ∃ k : Nat, k ≤ n ∧ i = .int .i64 k ∧ Own wr w6.heap.size A7 c7 (fives n k) ∧ Only (At A7) w7 wr) (fun i _ => n - (intOf i).toNat)
  case atStart => exact ⟨0, Nat.zero_le _, rfl, by simpa [fives] using HW7.out, Only.refl _ _⟩
  case round =>
    obtain ⟨k, hk, rfl, hown, hor⟩ := hrel
    have HWR := Lib.hid hown
    have HOR := Lib.hid hor
    clear hown hor
    by_cases hlt : k < n
    · obtain ⟨g, cur, hA7, hg0, hrow, hcell, hset⟩ := HWR.out.row (i := k) (by rw [fives_len hk]; exact hlt)
      rw [fives_at n k] at hcell
      have hc0 := hrow.cell_ hcell
      have hf0 := hrow.frozen k
      have HR := Lib.hid hrow
      have HS := Lib.hid hset
      have HA7 := Lib.hid hA7
      have HL := Lib.hid hlt
      clear hset hrow hcell
      subst hA7
      go_wp2
      have hfin := HS.out _ 5 (HR.out.set k (.int .u32 5))
      rw [fives_set HL.out] at hfin
      exact ⟨⟨k + 1, by omega, by go_num, hfin, HOR.out.setCell (p := ⟨g, k, none⟩) (.inr ⟨_, rfl, rfl⟩) _⟩, by simp [intOf]; omega⟩
    · have hkn : k = n := by omega
      have HK := Lib.hid hkn
      clear hkn
      have hAt : ∀ i, At A7 i → w6.heap.size ≤ i := HW7.out.base
      have hMr : Mem wr b A' c' (List.replicate n 0) := (HM6.out.only HO7.out id (fun _ _ => id)).only HOR.out (fun h => by have := hAt b h; have := HM6.out.hdr.lt; omega) (fun i hi h => by have := hAt i h; have := HM6.out.own.lt i hi; omega)
      have HMR := Lib.hid hMr
      have HAT := Lib.hid hAt
      clear hMr hAt
      go_wp2_with fail
      refine (load_any b A' c' (List.replicate n 0) 0 _ HMR.out).mono ?_
      rw [word_rep]
      rintro e w8 ⟨rfl, hO, hM⟩
      have HO8 := Lib.hid hO
      clear hO hM
      go_wp2_with fail
      refine (awake_any _).mono ?_
      rintro e w9 ⟨rfl, hO⟩
      have HO9 := Lib.hid hO
      clear hO
      go_wp2
      go_ret
      have q1 : Only Nil w w6 := (((HO1.out.trans HO2.out).trans HO3.out).trans HO4.out).step HO6.out (fun i hi h => by have := HA1.out i h; omega)
      have q2 : Only Nil w wr := (q1.trans HO7.out).step HOR.out (fun i hi h => by have := HAT.out i h; have := q1.size; omega)
      exact ⟨rfl, (q2.step HO8.out (fun i hi h => by have := HA1.out i h; omega)).trans HO9.out⟩

theorem walk_cellsNew (n c x : Int) (w : World) (_w0 : (Lit.int .i64 n).wf = true) (_w1 : (Lit.int .i64 c).wf = true) (_w2 : (Lit.int .u32 x).wf = true) :
    Calls Try.prog 5 #[.int .i64 n, .int .i64 c, .int .u32 x] w fun e w' => e = .returned (.bool true) ∧ Below w.heap.size w w' := by
  have fin : Calls Try.prog 5 #[.int .i64 n, .int .i64 c, .int .u32 x] w fun e w' => e = .returned (.bool true) ∧ Only Nil w w' := by
    by_cases h : n < 0 ∨ 1024 < n
    · exact new_walk_not n c x w h
    · obtain ⟨m, rfl⟩ := Int.eq_ofNat_of_zero_le (show 0 ≤ n by omega)
      exact new_walk_ok m c x w (by omega)
  exact fin.mono fun _ _ ⟨he, hO⟩ => ⟨he, hO.below (Nat.le_refl _) (fun _ _ h => h)⟩
end Go.Proofs.Ytdgddnhjalpbhaa
