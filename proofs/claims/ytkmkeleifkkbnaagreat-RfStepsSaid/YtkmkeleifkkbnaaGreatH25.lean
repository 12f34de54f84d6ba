import Derived.Test.YtkmkeleifkkbnaaGreatChecked
import Derived.Test.YtkmkeleifkkbnaaGreatH6
import Derived.Test.YtkmkeleifkkbnaaGreatH19
import Derived.Test.YtkmkeleifkkbnaaGreatH24
import Derived.Test.YtkmkeleifkkbnaaGreatH16
import Derived.Test.YtkmkeleifkkbnaaGreatH14
import Derived.Test.YtkmkeleifkkbnaaGreatH15
set_option linter.unusedVariables false
set_option linter.unusedSimpArgs false
namespace Go.Proofs.YtkmkeleifkkbnaaGreat
open Go.RowKit
theorem load_raw (b : Nat) (A : Option Addr) (cp : Nat) (xs : List Int) (c : Int) (w : World) (h : Mem w b A cp xs) :
    Calls Tryz.prog 17 #[.pointer (some ⟨b, 0, none⟩), .int .i64 c] w fun e w' => e = .returned (.int .u32 (wordAt xs c)) ∧ Only (At A) w w' ∧ Mem w' b A cp (doNew xs 1 c 0 0) := by
  have HH := Lib.hid h
  clear h
  go_enter Tryz.func17, Tryz.ntmps17
  go_wp2_with fail
  refine (do_any b A cp xs 1 c 0 0 0 _ HH.out).mono ?_
  obtain ⟨k', c', x', y', hv⟩ := doVal_form xs 1 c 0 0
  rw [oldAt xs 1 c rfl] at hv
  rintro e w1 ⟨rfl, hO, hM⟩
  rw [hv]
  have HO := Lib.hid hO
  have HM := Lib.hid hM
  clear hO hM hv
  go_wp2
  go_ret
  exact ⟨rfl, HO.out.alloc _, HM.out.only ((Only.refl Nil w1).alloc _) id (fun _ _ => id)⟩
theorem load_any (b : Nat) (A : Option Addr) (cp : Nat) (xs : List Int) (c : Int) (w : World) (h : Mem w b A cp xs) :
    Calls Tryz.prog 17 #[.pointer (some ⟨b, 0, none⟩), .int .i64 c] w fun e w' => e = .returned (.int .u32 (wordAt xs c)) ∧ Only (At A) w w' ∧ Mem w' b A cp xs :=
  (load_raw b A cp xs c w h).mono fun _ _ ⟨h1, h2, h3⟩ => ⟨h1, h2, by rw [doNew_load] at h3; exact h3⟩
end Go.Proofs.YtkmkeleifkkbnaaGreat
set_option linter.unusedVariables false
set_option linter.unusedSimpArgs false
namespace Go.Proofs.YtkmkeleifkkbnaaGreat
open Go.RowKit
theorem aw_alone : aloneL LS.rf 1 (newR 1 1 0 1 (rfXs 1)) = (2, [1, 0, 0, 0, 0, 0, 0, 0, 0, 0, 0, 0]) := by
  decide +kernel
set_option maxHeartbeats 1000000 in
theorem awake_any (w : World) : Calls Tryz.prog 4 #[] w fun e w' => e = .returned (.bool true) ∧ Only Nil w w' := by
  go_enter Tryz.func4, Tryz.ntmps4
  go_wp2_with fail
  refine (first_rf 1 5 _ (by decide) (by decide)).mono ?_
  rintro e w1 ⟨g, rfl, hg, hH, hO⟩
  have HH := Lib.hid hH
  have HO := Lib.hid hO
  clear hg hH hO
  go_wp2_with fail
  refine (from_ok _ _ _ _ _ (by decide) HH.out).mono ?_
  rintro e w2 ⟨b, A', c', rfl, hb, hA, hM, hO⟩
  have HM : Hid (Made w b A' c' _ w2) := Lib.hid ⟨hM, fun j hj => Nat.le_trans HO.out.size (hA j hj), HO.out.trans hO⟩
  clear hb hA hM hO HO HH
  go_wp2_with fail
  refine (alone_any (some ⟨b, 0, none⟩) A' c' 1 1 1 1 _ _ (Memo.of HM.out.mem) (rf_words 1) (by decide)).mono ?_
  rw [aw_alone]
  rintro e w3 ⟨nv, rfl, hO, hM, _⟩
  have HM3 := Lib.hid (HM.out.call hO hM.mem)
  clear hO hM HM
  go_wp2_with fail
  refine (load_any b A' c' _ 0 _ HM3.out.mem).mono ?_
  rw [show wordAt [1, 0, 0, 0, 0, 0, 0, 0, 0, 0, 0, 0] 0 = 1 from rfl]
  rintro e w4 ⟨rfl, hO, hM⟩
  have HM4 := Lib.hid (HM3.out.call hO hM)
  clear hO hM HM3
  go_wp2
  go_ret
  exact ⟨rfl, HM4.out.only⟩
end Go.Proofs.YtkmkeleifkkbnaaGreat
namespace Go.Proofs.YtkmkeleifkkbnaaGreat
open Go.RowKit
end Go.Proofs.YtkmkeleifkkbnaaGreat
set_option linter.unusedVariables false
set_option linter.unusedSimpArgs false
namespace Go.Proofs.YtkmkeleifkkbnaaGreat
open Go.RowKit
theorem refCell_any (n row i : Int) (w : World) (hr : row = 0 ∨ row = 1 ∨ row = 2 ∨ row = 3) :
    Calls Tryz.prog 55 #[.int .i64 n, .int .i64 row, .int .i64 i] w fun e w' => e = .returned (.int .i64 (cellI n row i)) ∧ w = w' := by
  by_cases h1 : 1 ≤ n
  · by_cases h2 : n ≤ 64
    · by_cases h3 : 0 ≤ i
      · by_cases h4 : i < n
        · have hc : cellI n row i = 8 + row * n + i := if_pos ⟨h1, h2, h3, h4⟩
          rw [hc]
          clear hc
          rcases hr with rfl | rfl | rfl | rfl
          all_goals
            go_enter Tryz.func55, Tryz.ntmps55
            go_wp2
            go_ret
            exact ⟨ret_int (by omega), rfl⟩
        · have hc : cellI n row i = -1 := if_neg (fun h => h4 h.2.2.2)
          rw [hc]
          clear hc hr
          go_enter Tryz.func55, Tryz.ntmps55
          go_wp2
          go_ret
          exact ⟨rfl, rfl⟩
      · have hc : cellI n row i = -1 := if_neg (fun h => h3 h.2.2.1)
        rw [hc]
        clear hc hr
        go_enter Tryz.func55, Tryz.ntmps55
        go_wp2
        go_ret
        exact ⟨rfl, rfl⟩
    · have hc : cellI n row i = -1 := if_neg (fun h => h2 h.2.1)
      rw [hc]
      clear hc hr
      go_enter Tryz.func55, Tryz.ntmps55
      go_wp2
      go_ret
      exact ⟨rfl, rfl⟩
  · have hc : cellI n row i = -1 := if_neg (fun h => h1 h.1)
    rw [hc]
    clear hc hr
    go_enter Tryz.func55, Tryz.ntmps55
    go_wp2
    go_ret
    exact ⟨rfl, rfl⟩
end Go.Proofs.YtkmkeleifkkbnaaGreat
set_option linter.unusedVariables false
set_option linter.unusedSimpArgs false
namespace Go.Proofs.YtkmkeleifkkbnaaGreat
open Go.RowKit
theorem rcell_any (A : Option Addr) (l cp : Nat) (xs : List Int) (n i : Int) (hn : xs.length = l) (w : World) :
    Calls Tryz.prog 85 #[.slice A l cp, .int .i64 n, .int .i64 i] w fun e w' => e = .returned (.int .i64 (if there xs (pc n i) then pc n i else -1)) ∧ w = w' := by
  have HN := Lib.hid hn
  clear hn
  cases ht : there xs (pc n i)
  all_goals
    simp only [Bool.false_eq_true, if_false, if_true]
    have HT := Lib.hid ht
    clear ht
    go_enter Tryz.func85, Tryz.ntmps85
    go_wp2_with fail
    refine (refCell_any n 3 i _ (by omega)).mono ?_
    rintro e w1 ⟨rfl, rfl⟩
    have hpc : cellI n 3 i = pc n i := rfl
    rw [hpc]
    clear hpc
    go_wp2_with fail
    refine (there_any A l cp xs (pc n i) HN.out _).mono ?_
    rw [HT.out]
    rintro e w2 ⟨rfl, hw⟩
    obtain rfl := hw.symm
    clear hw
    go_wp2
    go_ret
    exact ⟨rfl, rfl⟩
end Go.Proofs.YtkmkeleifkkbnaaGreat
set_option linter.unusedVariables false
set_option linter.unusedSimpArgs false
namespace Go.Proofs.YtkmkeleifkkbnaaGreat
open Go.RowKit
theorem rgive_any (base : Nat) (A : Option Addr) (l cp : Nat) (xs : List Int) (n i : Int) (w : World) (h : Own w base A cp xs) (hn : xs.length = l) :
    Calls Tryz.prog 56 #[.slice A l cp, .int .i64 n, .int .i64 i] w fun e w' =>
      e = .returned (.tuple #[doVal xs 2 (pc n i) 1 0, .bool (there xs (pc n i))]) ∧ Only (At A) w w' ∧ Own w' base A cp (st xs (pc n i) 1) := by
  have HN := Lib.hid hn
  have HW := Lib.hid h
  cases ht : there xs (pc n i)
  · have hv : doVal xs 2 (pc n i) 1 0 = .agg #[.int .i64 0, .int .i64 0, .int .u32 0, .int .u32 0, .int .u32 0] := by simp [doVal, doOk, ht, accOf]
    have hs : st xs (pc n i) 1 = xs := by simp [st, ht]
    rw [hv, hs]
    have HT := Lib.hid ht
    clear ht h hn hv hs
    go_enter Tryz.func56, Tryz.ntmps56
    go_wp2_with fail
    refine (rcell_any A l cp xs n i HN.out _).mono ?_
    rw [HT.out]
    rintro e w1 ⟨rfl, rfl⟩
    simp only [Bool.false_eq_true, if_false]
    go_wp2
    refine post_row_tmp (P := Tryz.prog) Tryz.results56 (t := 39) (g := w.heap.size) (cs := #[.int .i64 0, .int .i64 0, .int .u32 0, .int .u32 0, .int .u32 0]) rfl (Row.new _ _ _) Tryz.underlying39 rfl (by kernel_rfl) rfl ⟨rfl, (Only.refl _ w).alloc _, ?_⟩
    exact HW.out.only ((Only.refl Nil w).alloc _) (fun _ _ => id)
  · have ht2 := ht
    simp only [there, decide_eq_true_eq] at ht2
    obtain ⟨q, hq⟩ := Int.eq_ofNat_of_zero_le ht2.1
    have hql : q < l := by omega
    obtain ⟨g, cur, rfl, hb, hr, hcell, hset⟩ := h.row (i := q) (by omega)
    have hwd : wordAt xs (pc n i) = xs.getD q 0 := by unfold wordAt; rw [ht, hq]; rfl
    have hv : doVal xs 2 (pc n i) 1 0 = .agg #[.int .i64 2, .int .i64 q, .int .u32 1, .int .u32 0, .int .u32 (xs.getD q 0)] := by
      have hok : doOk xs 2 (pc n i) = true := by simp [doOk, isKind, ht]
      unfold doVal
      rw [hok, hwd, hq]
      rfl
    have hs : st xs (pc n i) 1 = xs.set q 1 := by unfold st; rw [ht, hq]; rfl
    rw [hv, hs]
    generalize xs.getD q 0 = v at *
    have c0 := hr.cell_ hcell
    have f0 := hr.frozen q
    have HT := Lib.hid ht
    have HQ := Lib.hid hq
    have HR := Lib.hid hr
    have HSET := Lib.hid hset
    have hg := hr.lt
    clear ht h hn hv hs hq hwd ht2 hr hset hcell
    go_enter Tryz.func56, Tryz.ntmps56
    go_wp2_with fail
    refine (rcell_any _ l cp xs n i HN.out _).mono ?_
    rw [HT.out, HQ.out]
    rintro e w1 ⟨rfl, rfl⟩
    simp only [if_true]
    go_wp2
    refine post_row_tmp (P := Tryz.prog) Tryz.results56 (t := 39) (g := w.heap.size) (cs := #[.int .i64 2, .int .i64 q, .int .u32 1, .int .u32 0, .int .u32 v]) rfl ?_ Tryz.underlying39 rfl (by kernel_rfl) rfl ⟨rfl, ?_, ?_⟩
    · have e2 := (Row.new (w.setCell ⟨g, q, none⟩ (.int .u32 1)) 39 #[.int .i64 2, .int .i64 q, .int .u32 1, .int .u32 0, .int .u32 v]).alloc (Obj.cells #[.int .i64 2, .int .i64 q, .int .u32 1, .int .u32 0, .int .u32 v] 39)
      simpa [World.setCell] using e2
    · exact (((Only.refl (At (some ⟨g, 0, none⟩)) w).setCell (p := ⟨g, q, none⟩) (.inr ⟨_, rfl, rfl⟩) (.int .u32 1)).alloc _).alloc _
    · exact HSET.out _ _ (((HR.out.set q (.int .u32 1)).alloc _).alloc _)
end Go.Proofs.YtkmkeleifkkbnaaGreat
