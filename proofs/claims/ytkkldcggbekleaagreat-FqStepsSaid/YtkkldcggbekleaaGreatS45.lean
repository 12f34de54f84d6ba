import Derived.Test.YtkkldcggbekleaaGreatS41
import Derived.Test.YtkkldcggbekleaaGreatS42
import Derived.Test.YtkkldcggbekleaaGreatS44
import Derived.Test.YtkkldcggbekleaaGreatS39
import Derived.Test.YtkkldcggbekleaaGreatS19
set_option linter.unusedVariables false
set_option linter.unusedSimpArgs false
namespace Go.Proofs.YtkkldcggbekleaaGreat
open Go.RowKit
theorem rme_any (B base : Nat) (A : Option Addr) (l cp : Nat) (nv : Value) (r : LS) (w : World) (h : RunR w B base A l cp nv r) : Calls Tryz.prog 60 #[Value.pointer (some ⟨B, 0, none⟩)] w fun e w' => e = .returned (.int .u32 r.me) ∧ w = w' := by
  have c3 : w.cell? ⟨B, 3, none⟩ = some (.int .i64 r.task) := h.row.cell_ (i := 3) rfl
  have HM := Lib.hid (show r.me = (r.task + 1) % 4294967296 from rfl)
  clear h
  go_enter Tryz.func60, Tryz.ntmps60
  go_wp2
  go_ret
  exact ⟨ret_int (by rw [HM.out]; omega), rfl⟩
theorem rnext_any (B base : Nat) (A : Option Addr) (l cp : Nat) (nv : Value) (r : LS) (i : Int) (w : World) (h : RunR w B base A l cp nv r) : Calls Tryz.prog 57 #[Value.pointer (some ⟨B, 0, none⟩), .int .i64 i] w fun e w' => e = .returned (.int .i64 (nc r.n i)) ∧ w = w' := by
  have c1 : w.cell? ⟨B, 1, none⟩ = some (.int .i64 r.n) := h.row.cell_ (i := 1) rfl
  clear h
  go_enter Tryz.func57, Tryz.ntmps57
  go_wp2_with fail
  refine (refCell_any r.n 0 i _ (.inl rfl)).mono ?_
  rintro e w1 ⟨rfl, rfl⟩
  have HC := Lib.hid (show nc r.n i = cellI r.n 0 i from rfl)
  go_wp2
  go_ret
  exact ⟨ret_int (by rw [HC.out]), rfl⟩
theorem rblocked_any (B base : Nat) (A : Option Addr) (l cp : Nat) (nv : Value) (r : LS) (i : Int) (w : World) (h : RunR w B base A l cp nv r) : Calls Tryz.prog 58 #[Value.pointer (some ⟨B, 0, none⟩), .int .i64 i] w fun e w' => e = .returned (.int .i64 (bc r.n i)) ∧ w = w' := by
  have c1 : w.cell? ⟨B, 1, none⟩ = some (.int .i64 r.n) := h.row.cell_ (i := 1) rfl
  clear h
  go_enter Tryz.func58, Tryz.ntmps58
  go_wp2_with fail
  refine (refCell_any r.n 1 i _ (.inr (.inl rfl))).mono ?_
  rintro e w1 ⟨rfl, rfl⟩
  have HC := Lib.hid (show bc r.n i = cellI r.n 1 i from rfl)
  go_wp2
  go_ret
  exact ⟨ret_int (by rw [HC.out]), rfl⟩
theorem uIs_zero {v : Int} (hv : 0 ≤ v ∧ v < 4294967296) : uIs 0 4294967295 0 v = isZ v := by
  show (bits .and .u32 v 4294967295 == 0) = (v == 0)
  rw [all32 hv]
theorem uIs_some {v : Int} (hv : 0 ≤ v ∧ v < 4294967296) : uIs 1 4294967295 0 v = isN v := by
  show (bits .and .u32 v 4294967295 != 0) = (v != 0)
  rw [all32 hv]
theorem stepR_zero {r : LS} (hx : Words r.xs) (c : Int) : r.stepR c (uIs 0 4294967295 0) = r.stepR c isZ := stepI_same (uIs_zero (word_bd hx c))
theorem wait_zero {r : LS} (hx : Words r.xs) (c : Int) : r.wait c (uIs 0 4294967295 0) = r.wait c isZ := by unfold LS.wait; rw [stepR_zero hx c]
theorem stepR_some {r : LS} (hx : Words r.xs) (c : Int) : r.stepR c (uIs 1 4294967295 0) = r.stepR c isN := stepI_same (uIs_some (word_bd hx c))
theorem wait_some {r : LS} (hx : Words r.xs) (c : Int) : r.wait c (uIs 1 4294967295 0) = r.wait c isN := by unfold LS.wait; rw [stepR_some hx c]
theorem seen_old {xs : List Int} {n mode i s c : Int} {q : Int → Bool} (h : (stepI xs n mode i s c q).seen = true) : (ofV (stepI xs n mode i s c q).acc).o = wordAt xs c := by
  have hv : ofV (doVal xs 1 c 0 0) = accI xs 1 c 0 0 := by rw [doVal_acc]; rfl
  have ho : (accI xs 1 c 0 0).o = wordAt xs c := acc_old rfl
  unfold stepI at h ⊢
  by_cases hm : mode ≠ 2
  · rw [if_pos hm] at h ⊢
    exact (congrArg Acc5.o hv).trans ho
  rw [if_neg hm] at h ⊢
  by_cases h1 : s = 1
  · rw [if_pos h1] at h; cases h
  rw [if_neg h1] at h ⊢
  by_cases h2 : s = 2
  · rw [if_pos h2] at h ⊢
    exact (congrArg Acc5.o hv).trans ho
  rw [if_neg h2] at h ⊢
  by_cases h3 : s = 3
  · rw [if_pos h3] at h; cases h
  rw [if_neg h3] at h ⊢
  by_cases h4 : s = 4
  · rw [if_pos h4] at h; cases h
  rw [if_neg h4] at h ⊢
  exact (congrArg Acc5.o hv).trans ho
-- the line is set, and that is all
set_option maxHeartbeats 1000000 in
theorem renter_0 (B base : Nat) (A : Option Addr) (l cp : Nat) (nv : Value) (r : LS) (tail cl : Int) (w : World) (h : RunR w B base A l cp nv r) (hl : r.ns.length ≤ 900) (hx : Words r.xs) (ha : 0 ≤ r.a ∧ r.a < 4294967296) (hln : r.line = 0) :
    Calls Tryz.prog 24 #[Value.pointer (some ⟨B, 0, none⟩), .int .i64 tail, .int .i64 cl] w (DoneR B base A l cp w (.bool false) ((r.doA 2 (nc r.n r.task) 0 0).go 1)) := by
  have HX := Lib.hid hx
  have HL := Lib.hid hl
  have HA := Lib.hid ha
  have HP := Lib.hid h
  have HLN := Lib.hid hln
  have c5 : w.cell? ⟨B, 5, none⟩ = some (.int .i64 (0)) := by rw [← hln]; exact h.row.cell_ (i := 5) rfl
  have c3 : w.cell? ⟨B, 3, none⟩ = some (.int .i64 r.task) := h.row.cell_ (i := 3) rfl
  have c6 : w.cell? ⟨B, 6, none⟩ = some (.int .u32 r.a) := h.row.cell_ (i := 6) rfl
  have f6 : w.frozen? ⟨B, 6, none⟩ = false := h.row.frozen 6
  obtain ⟨ha0, ha1⟩ := ha
  clear h hl hx hln
  go_enter Tryz.func24, Tryz.ntmps24
  go_wp2_with fail
  refine (rnext_any B base A l cp nv r r.task _ HP.out).mono ?_
  rintro e w1 ⟨rfl, rfl⟩
  go_wp2_with fail
  clear c3 c5 c6 f6
  have HO := Lib.hid (Only.refl (TurnB B A) w)
  refine (rstore_run B base A l cp nv r (nc r.n r.task) 0 _ HP.out).mono ?_
  rintro e w2 ⟨rfl, hO, nv2, hP⟩
  have HP2 := Lib.hid hP
  have HO2 := Lib.hid (HO.out.trans hO)
  clear hO hP
  have l5 : w2.cell? ⟨B, 5, none⟩ = some (.int .i64 (r.line)) := HP2.out.row.cell_ (i := 5) rfl
  have g5 : w2.frozen? ⟨B, 5, none⟩ = false := HP2.out.row.frozen 5
  go_wp2
  clear l5 g5
  have HPZ := Lib.hid (HP2.out.setLine (1))
  have HOZ := Lib.hid (HO2.out.setCell (p := ⟨B, 5, none⟩) (.inr (.inl rfl)) (.int .i64 (1)))
  go_ret
  exact ⟨rfl, HOZ.out, nv2, HPZ.out⟩
set_option maxHeartbeats 1000000 in
theorem renter_1 (B base : Nat) (A : Option Addr) (l cp : Nat) (nv : Value) (r : LS) (tail cl : Int) (w : World) (h : RunR w B base A l cp nv r) (hl : r.ns.length ≤ 900) (hx : Words r.xs) (ha : 0 ≤ r.a ∧ r.a < 4294967296) (hln : r.line = 1) :
    Calls Tryz.prog 24 #[Value.pointer (some ⟨B, 0, none⟩), .int .i64 tail, .int .i64 cl] w (DoneR B base A l cp w (.bool false) ((r.doA 2 (bc r.n r.task) 1 0).go 2)) := by
  have HX := Lib.hid hx
  have HL := Lib.hid hl
  have HA := Lib.hid ha
  have HP := Lib.hid h
  have HLN := Lib.hid hln
  have c5 : w.cell? ⟨B, 5, none⟩ = some (.int .i64 (1)) := by rw [← hln]; exact h.row.cell_ (i := 5) rfl
  have c3 : w.cell? ⟨B, 3, none⟩ = some (.int .i64 r.task) := h.row.cell_ (i := 3) rfl
  have c6 : w.cell? ⟨B, 6, none⟩ = some (.int .u32 r.a) := h.row.cell_ (i := 6) rfl
  have f6 : w.frozen? ⟨B, 6, none⟩ = false := h.row.frozen 6
  obtain ⟨ha0, ha1⟩ := ha
  clear h hl hx hln
  go_enter Tryz.func24, Tryz.ntmps24
  go_wp2_with fail
  refine (rblocked_any B base A l cp nv r r.task _ HP.out).mono ?_
  rintro e w1 ⟨rfl, rfl⟩
  go_wp2_with fail
  clear c3 c5 c6 f6
  have HO := Lib.hid (Only.refl (TurnB B A) w)
  refine (rstore_run B base A l cp nv r (bc r.n r.task) 1 _ HP.out).mono ?_
  rintro e w2 ⟨rfl, hO, nv2, hP⟩
  have HP2 := Lib.hid hP
  have HO2 := Lib.hid (HO.out.trans hO)
  clear hO hP
  have l5 : w2.cell? ⟨B, 5, none⟩ = some (.int .i64 (r.line)) := HP2.out.row.cell_ (i := 5) rfl
  have g5 : w2.frozen? ⟨B, 5, none⟩ = false := HP2.out.row.frozen 5
  go_wp2
  clear l5 g5
  have HPZ := Lib.hid (HP2.out.setLine (2))
  have HOZ := Lib.hid (HO2.out.setCell (p := ⟨B, 5, none⟩) (.inr (.inl rfl)) (.int .i64 (2)))
  go_ret
  exact ⟨rfl, HOZ.out, nv2, HPZ.out⟩
set_option maxHeartbeats 1000000 in
theorem renter_2a (B base : Nat) (A : Option Addr) (l cp : Nat) (nv : Value) (r : LS) (tail cl : Int) (w : World) (h : RunR w B base A l cp nv r) (hl : r.ns.length ≤ 900) (hx : Words r.xs) (ha : 0 ≤ r.a ∧ r.a < 4294967296) (hln : r.line = 2) (hz : wordAt r.xs tail = 0) :
    Calls Tryz.prog 24 #[Value.pointer (some ⟨B, 0, none⟩), .int .i64 tail, .int .i64 cl] w (DoneR B base A l cp w (.bool true) (r.swapIn tail cl)) := by
  have HZ := Lib.hid hz
  clear hz
  have HX := Lib.hid hx
  have HL := Lib.hid hl
  have HA := Lib.hid ha
  have HP := Lib.hid h
  have HLN := Lib.hid hln
  have c5 : w.cell? ⟨B, 5, none⟩ = some (.int .i64 (2)) := by rw [← hln]; exact h.row.cell_ (i := 5) rfl
  have c3 : w.cell? ⟨B, 3, none⟩ = some (.int .i64 r.task) := h.row.cell_ (i := 3) rfl
  have c6 : w.cell? ⟨B, 6, none⟩ = some (.int .u32 r.a) := h.row.cell_ (i := 6) rfl
  have f6 : w.frozen? ⟨B, 6, none⟩ = false := h.row.frozen 6
  obtain ⟨ha0, ha1⟩ := ha
  clear h hl hx hln
  go_enter Tryz.func24, Tryz.ntmps24
  go_wp2_with fail
  refine (rme_any B base A l cp nv r _ HP.out).mono ?_
  rintro e w1 ⟨rfl, rfl⟩
  go_wp2_with fail
  clear c3 c5 c6 f6 ha0 ha1
  have HO := Lib.hid (Only.refl (TurnB B A) w)
  refine (rswap_run B base A l cp nv r tail r.me _ HP.out).mono ?_
  rintro e w2 ⟨rfl, hO, nv2, hP⟩
  have HP2 := Lib.hid hP
  have HO2 := Lib.hid (HO.out.trans hO)
  clear hO hP
  have c6 : w2.cell? ⟨B, 6, none⟩ = some (.int .u32 r.a) := HP2.out.row.cell_ (i := 6) rfl
  have f6 : w2.frozen? ⟨B, 6, none⟩ = false := HP2.out.row.frozen 6
  go_upto_region 12 with (fail)
  have HP3 := Lib.hid (HP2.out.setA (wordAt r.xs tail))
  have HO3 := Lib.hid (HO2.out.setCell (p := ⟨B, 6, none⟩) (.inr (.inl rfl)) (.int .u32 (wordAt r.xs tail)))
  clear c6 f6 HP2 HO2
  generalize w2.setCell ⟨B, 6, none⟩ (.int .u32 (wordAt r.xs tail)) = w3 at *
  go_wp2_with fail
  refine (rnote_run B base A l cp nv2 _ 2 cl _ HP3.out (show (r.doA 4 tail r.me 0).ns.length ≤ 1000 from Nat.le_trans HL.out (by decide))).mono ?_
  rintro e w4 ⟨rfl, hO, nv4, hP⟩
  have HP4 : Hid (RunR w4 B base A l cp nv4 (r.swapIn tail cl)) := Lib.hid hP
  have HO4 := Lib.hid (HO3.out.trans hO)
  clear hO hP HP3 HO3
  have c6 : w4.cell? ⟨B, 6, none⟩ = some (.int .u32 (wordAt r.xs tail)) := HP4.out.row.cell_ (i := 6) rfl
  rw [HZ.out] at c6
  go_wp2
  go_ret
  exact ⟨rfl, HO4.out, nv4, HP4.out⟩
set_option maxHeartbeats 1000000 in
theorem renter_2b (B base : Nat) (A : Option Addr) (l cp : Nat) (nv : Value) (r : LS) (tail cl : Int) (w : World) (h : RunR w B base A l cp nv r) (hl : r.ns.length ≤ 900) (hx : Words r.xs) (ha : 0 ≤ r.a ∧ r.a < 4294967296) (hln : r.line = 2) (hz : wordAt r.xs tail ≠ 0) :
    Calls Tryz.prog 24 #[Value.pointer (some ⟨B, 0, none⟩), .int .i64 tail, .int .i64 cl] w (DoneR B base A l cp w (.bool false) ((r.swapIn tail cl).go 3)) := by
  have HZ := Lib.hid hz
  clear hz
  have HX := Lib.hid hx
  have HL := Lib.hid hl
  have HA := Lib.hid ha
  have HP := Lib.hid h
  have HLN := Lib.hid hln
  have c5 : w.cell? ⟨B, 5, none⟩ = some (.int .i64 (2)) := by rw [← hln]; exact h.row.cell_ (i := 5) rfl
  have c3 : w.cell? ⟨B, 3, none⟩ = some (.int .i64 r.task) := h.row.cell_ (i := 3) rfl
  have c6 : w.cell? ⟨B, 6, none⟩ = some (.int .u32 r.a) := h.row.cell_ (i := 6) rfl
  have f6 : w.frozen? ⟨B, 6, none⟩ = false := h.row.frozen 6
  obtain ⟨ha0, ha1⟩ := ha
  clear h hl hx hln
  go_enter Tryz.func24, Tryz.ntmps24
  go_wp2_with fail
  refine (rme_any B base A l cp nv r _ HP.out).mono ?_
  rintro e w1 ⟨rfl, rfl⟩
  go_wp2_with fail
  clear c3 c5 c6 f6 ha0 ha1
  have HO := Lib.hid (Only.refl (TurnB B A) w)
  refine (rswap_run B base A l cp nv r tail r.me _ HP.out).mono ?_
  rintro e w2 ⟨rfl, hO, nv2, hP⟩
  have HP2 := Lib.hid hP
  have HO2 := Lib.hid (HO.out.trans hO)
  clear hO hP
  have c6 : w2.cell? ⟨B, 6, none⟩ = some (.int .u32 r.a) := HP2.out.row.cell_ (i := 6) rfl
  have f6 : w2.frozen? ⟨B, 6, none⟩ = false := HP2.out.row.frozen 6
  go_upto_region 12 with (fail)
  have HP3 := Lib.hid (HP2.out.setA (wordAt r.xs tail))
  have HO3 := Lib.hid (HO2.out.setCell (p := ⟨B, 6, none⟩) (.inr (.inl rfl)) (.int .u32 (wordAt r.xs tail)))
  clear c6 f6 HP2 HO2
  generalize w2.setCell ⟨B, 6, none⟩ (.int .u32 (wordAt r.xs tail)) = w3 at *
  go_wp2_with fail
  refine (rnote_run B base A l cp nv2 _ 2 cl _ HP3.out (show (r.doA 4 tail r.me 0).ns.length ≤ 1000 from Nat.le_trans HL.out (by decide))).mono ?_
  rintro e w4 ⟨rfl, hO, nv4, hP⟩
  have HP4 : Hid (RunR w4 B base A l cp nv4 (r.swapIn tail cl)) := Lib.hid hP
  have HO4 := Lib.hid (HO3.out.trans hO)
  clear hO hP HP3 HO3
  have c6 : w4.cell? ⟨B, 6, none⟩ = some (.int .u32 (wordAt r.xs tail)) := HP4.out.row.cell_ (i := 6) rfl
  have hb : (wordAt r.xs tail == 0) = false := beq_eq_false_iff_ne.2 HZ.out
  have l5 : w4.cell? ⟨B, 5, none⟩ = some (.int .i64 (r.line)) := HP4.out.row.cell_ (i := 5) rfl
  have g5 : w4.frozen? ⟨B, 5, none⟩ = false := HP4.out.row.frozen 5
  generalize wordAt r.xs tail = x at *
  go_wp2
  clear l5 g5 c6 hb
  have HPZ := Lib.hid (HP4.out.setLine 3)
  have HOZ := Lib.hid (HO4.out.setCell (p := ⟨B, 5, none⟩) (.inr (.inl rfl)) (.int .i64 3))
  go_ret
  exact ⟨rfl, HOZ.out, nv4, HPZ.out⟩
set_option maxHeartbeats 1000000 in
theorem renter_3 (B base : Nat) (A : Option Addr) (l cp : Nat) (nv : Value) (r : LS) (tail cl : Int) (w : World) (h : RunR w B base A l cp nv r) (hl : r.ns.length ≤ 900) (hx : Words r.xs) (ha : 0 ≤ r.a ∧ r.a < 4294967296) (hln : r.line = 3) :
    Calls Tryz.prog 24 #[Value.pointer (some ⟨B, 0, none⟩), .int .i64 tail, .int .i64 cl] w (DoneR B base A l cp w (.bool false) r.link) := by
  have HX := Lib.hid hx
  have HL := Lib.hid hl
  have HA := Lib.hid ha
  have HP := Lib.hid h
  have HLN := Lib.hid hln
  have c5 : w.cell? ⟨B, 5, none⟩ = some (.int .i64 (3)) := by rw [← hln]; exact h.row.cell_ (i := 5) rfl
  have c3 : w.cell? ⟨B, 3, none⟩ = some (.int .i64 r.task) := h.row.cell_ (i := 3) rfl
  have c6 : w.cell? ⟨B, 6, none⟩ = some (.int .u32 r.a) := h.row.cell_ (i := 6) rfl
  have f6 : w.frozen? ⟨B, 6, none⟩ = false := h.row.frozen 6
  obtain ⟨ha0, ha1⟩ := ha
  clear h hl hx hln
  go_enter Tryz.func24, Tryz.ntmps24
  go_wp2_with fail
  refine (rnext_any B base A l cp nv r (r.a - 1) _ HP.out).mono ?_
  rintro e w1 ⟨rfl, rfl⟩
  go_wp2_with fail
  refine (rme_any B base A l cp nv r _ HP.out).mono ?_
  rintro e w1 ⟨rfl, rfl⟩
  go_wp2_with fail
  clear c3 c5 c6 f6 ha0 ha1
  have HO := Lib.hid (Only.refl (TurnB B A) w)
  refine (rstore_run B base A l cp nv r (nc r.n (r.a - 1)) r.me _ HP.out).mono ?_
  rintro e w2 ⟨rfl, hO, nv2, hP⟩
  have HP2 := Lib.hid hP
  have HO2 := Lib.hid (HO.out.trans hO)
  clear hO hP
  go_wp2_with fail
  refine (rwake_run B base A l cp nv2 _ (nc r.n (r.a - 1)) _ HP2.out).mono ?_
  rintro e w3 ⟨rfl, hO, nv3, hP⟩
  have HP3 := Lib.hid hP
  have HO3 := Lib.hid (HO2.out.trans hO)
  clear hO hP
  have l5 : w3.cell? ⟨B, 5, none⟩ = some (.int .i64 (r.line)) := HP3.out.row.cell_ (i := 5) rfl
  have g5 : w3.frozen? ⟨B, 5, none⟩ = false := HP3.out.row.frozen 5
  go_wp2
  clear l5 g5
  have HPZ := Lib.hid (HP3.out.setLine (4))
  have HOZ := Lib.hid (HO3.out.setCell (p := ⟨B, 5, none⟩) (.inr (.inl rfl)) (.int .i64 (4)))
  go_ret
  exact ⟨rfl, HOZ.out, nv3, HPZ.out⟩
set_option maxHeartbeats 1000000 in
theorem renter_4 (B base : Nat) (A : Option Addr) (l cp : Nat) (nv : Value) (r : LS) (tail cl : Int) (w : World) (h : RunR w B base A l cp nv r) (hl : r.ns.length ≤ 900) (hx : Words r.xs) (ha : 0 ≤ r.a ∧ r.a < 4294967296) (hln : r.line = 4) :
    Calls Tryz.prog 24 #[Value.pointer (some ⟨B, 0, none⟩), .int .i64 tail, .int .i64 cl] w (DoneR B base A l cp w (.bool (r.stepR (bc r.n r.task) isZ).done) (r.wait (bc r.n r.task) isZ)) := by
  have HX := Lib.hid hx
  have HL := Lib.hid hl
  have HA := Lib.hid ha
  have HP := Lib.hid h
  have HLN := Lib.hid hln
  have c5 : w.cell? ⟨B, 5, none⟩ = some (.int .i64 (4)) := by rw [← hln]; exact h.row.cell_ (i := 5) rfl
  have c3 : w.cell? ⟨B, 3, none⟩ = some (.int .i64 r.task) := h.row.cell_ (i := 3) rfl
  have c6 : w.cell? ⟨B, 6, none⟩ = some (.int .u32 r.a) := h.row.cell_ (i := 6) rfl
  have f6 : w.frozen? ⟨B, 6, none⟩ = false := h.row.frozen 6
  obtain ⟨ha0, ha1⟩ := ha
  clear h hl hx hln
  go_enter Tryz.func24, Tryz.ntmps24
  go_wp2_with fail
  refine (rblocked_any B base A l cp nv r r.task _ HP.out).mono ?_
  rintro e w1 ⟨rfl, rfl⟩
  go_wp2_with fail
  clear c3 c5 c6 f6 ha0 ha1
  have HO := Lib.hid (Only.refl (TurnB B A) w)
  refine (rwait_run B base A l cp nv r (bc r.n r.task) 0 4294967295 0 _ HP.out HX.out).mono ?_
  rw [stepR_zero HX.out, wait_zero HX.out]
  generalize (r.stepR (bc r.n r.task) isZ).seen = sn at *
  generalize (r.stepR (bc r.n r.task) isZ).done = dn at *
  rintro e w2 ⟨rfl, hO, nv2, hP⟩
  have HP2 := Lib.hid hP
  have HO2 := Lib.hid (HO.out.trans hO)
  clear hO hP
  go_wp2
  go_ret
  exact ⟨rfl, HO2.out, nv2, HP2.out⟩
set_option maxHeartbeats 1000000 in
theorem renter_no (B base : Nat) (A : Option Addr) (l cp : Nat) (nv : Value) (r : LS) (tail cl : Int) (w : World) (h : RunR w B base A l cp nv r) (hl : r.ns.length ≤ 900) (hx : Words r.xs) (ha : 0 ≤ r.a ∧ r.a < 4294967296) (ln : Int) (hln : r.line = ln) (n0 : ln ≠ 0) (n1 : ln ≠ 1) (n2 : ln ≠ 2) (n3 : ln ≠ 3) (n4 : ln ≠ 4) :
    Calls Tryz.prog 24 #[Value.pointer (some ⟨B, 0, none⟩), .int .i64 tail, .int .i64 cl] w (DoneR B base A l cp w (.bool false) r) := by
  have b0 : (ln == 0) = false := beq_eq_false_iff_ne.2 n0
  have b1 : (ln == 1) = false := beq_eq_false_iff_ne.2 n1
  have b2 : (ln == 2) = false := beq_eq_false_iff_ne.2 n2
  have b3 : (ln == 3) = false := beq_eq_false_iff_ne.2 n3
  have b4 : (ln == 4) = false := beq_eq_false_iff_ne.2 n4
  clear n0 n1 n2 n3 n4
  have HX := Lib.hid hx
  have HL := Lib.hid hl
  have HA := Lib.hid ha
  have HP := Lib.hid h
  have HLN := Lib.hid hln
  have c5 : w.cell? ⟨B, 5, none⟩ = some (.int .i64 (ln)) := by rw [← hln]; exact h.row.cell_ (i := 5) rfl
  have c3 : w.cell? ⟨B, 3, none⟩ = some (.int .i64 r.task) := h.row.cell_ (i := 3) rfl
  have c6 : w.cell? ⟨B, 6, none⟩ = some (.int .u32 r.a) := h.row.cell_ (i := 6) rfl
  have f6 : w.frozen? ⟨B, 6, none⟩ = false := h.row.frozen 6
  obtain ⟨ha0, ha1⟩ := ha
  clear h hl hx hln
  go_enter Tryz.func24, Tryz.ntmps24
  go_wp2
  go_ret
  exact ⟨rfl, Only.refl _ _, nv, HP.out⟩
theorem renter_run (B base : Nat) (A : Option Addr) (l cp : Nat) (nv : Value) (r : LS) (tail cl : Int) (w : World) (h : RunR w B base A l cp nv r) (hl : r.ns.length ≤ 900) (hx : Words r.xs) (ha : 0 ≤ r.a ∧ r.a < 4294967296) :
    Calls Tryz.prog 24 #[Value.pointer (some ⟨B, 0, none⟩), .int .i64 tail, .int .i64 cl] w (DoneR B base A l cp w (.bool (r.mxEnter tail cl).2) (r.mxEnter tail cl).1) := by
  by_cases l0 : r.line = 0
  · rw [show r.mxEnter tail cl = _ by unfold LS.mxEnter; rw [if_pos l0]]
    exact renter_0 B base A l cp nv r tail cl w h hl hx ha l0
  by_cases l1 : r.line = 1
  · rw [show r.mxEnter tail cl = _ by unfold LS.mxEnter; rw [if_neg l0, if_pos l1]]
    exact renter_1 B base A l cp nv r tail cl w h hl hx ha l1
  by_cases l2 : r.line = 2
  · by_cases hz : wordAt r.xs tail = 0
    · rw [show r.mxEnter tail cl = _ by unfold LS.mxEnter; rw [if_neg l0, if_neg l1, if_pos l2, if_pos hz]]
      exact renter_2a B base A l cp nv r tail cl w h hl hx ha l2 hz
    · rw [show r.mxEnter tail cl = _ by unfold LS.mxEnter; rw [if_neg l0, if_neg l1, if_pos l2, if_neg hz]]
      exact renter_2b B base A l cp nv r tail cl w h hl hx ha l2 hz
  by_cases l3 : r.line = 3
  · rw [show r.mxEnter tail cl = _ by unfold LS.mxEnter; rw [if_neg l0, if_neg l1, if_neg l2, if_pos l3]]
    exact renter_3 B base A l cp nv r tail cl w h hl hx ha l3
  by_cases l4 : r.line = 4
  · rw [show r.mxEnter tail cl = _ by unfold LS.mxEnter; rw [if_neg l0, if_neg l1, if_neg l2, if_neg l3, if_pos l4]]
    exact renter_4 B base A l cp nv r tail cl w h hl hx ha l4
  · rw [show r.mxEnter tail cl = _ by unfold LS.mxEnter; rw [if_neg l0, if_neg l1, if_neg l2, if_neg l3, if_neg l4]]
    exact renter_no B base A l cp nv r tail cl w h hl hx ha _ rfl l0 l1 l2 l3 l4
end Go.Proofs.YtkkldcggbekleaaGreat
