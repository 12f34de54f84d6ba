import Derived.Test.YtkkldcggbekleaaGreatS45
import Derived.Test.YtkkldcggbekleaaGreatS27
set_option linter.unusedVariables false
set_option linter.unusedSimpArgs false
namespace Go.Proofs.YtkkldcggbekleaaGreat
open Go.RowKit
set_option maxHeartbeats 1000000 in
theorem rnotes_run (B base : Nat) (A : Option Addr) (l cp : Nat) (nv : Value) (r : LS) (V : Value) (ls : List Int) (w : World) (h : RunR w B base A l cp nv r) (hw : Whats B A w V ls) (hl : r.ns.length + ls.length ≤ 1000) :
    Calls Tryz.prog 91 #[Value.pointer (some ⟨B, 0, none⟩), V] w (DoneR B base A l cp w (.tuple #[]) (r.notes ls)) := by
  obtain ⟨Z, c, rfl, hz⟩ := hw
  generalize hm : ls.length = m at *
  have HM := Lib.hid hm
  have HZ := Lib.hid hz
  have HL := Lib.hid hl
  have H0 : Hid (Only (TurnB B A) w w ∧ ∃ nv, RunR w B base A l cp nv (r.notes (ls.take 0))) := Lib.hid ⟨Only.refl _ _, nv, h⟩
  clear h hz hl hm
  go_enter Tryz.func91, Tryz.ntmps91
  go_wp2
  go_loopw [4] (fun iv wr => ∃ k : Nat, k ≤ m ∧ iv = .int .i64 k ∧ Hid (Only (TurnB B A) w wr ∧ ∃ nv, RunR wr B base A l cp nv (r.notes (ls.take k)))) (fun iv _ => m - (intOf iv).toNat)
  case atStart => exact ⟨0, Nat.zero_le _, rfl, H0⟩
  case round =>
    obtain ⟨k, hk, rfl, HC⟩ := hrel
    clear H0
    have hm9 : m ≤ 1000 := by have := HL.out; omega
    by_cases hlt : k < m
    · obtain ⟨x, hx⟩ : ∃ x, ls[k]? = some x := ⟨_, List.getElem?_eq_getElem (by rw [HM.out]; exact hlt)⟩
      obtain ⟨hO, nv1, hP⟩ := HC.out
      obtain ⟨b, o, rfl, hc⟩ := HZ.out _ hO k x hx
      have HP := Lib.hid hP
      have HO := Lib.hid hO
      have HN := Lib.hid (notes_next (r := r) hx)
      have HNL := Lib.hid (show (r.notes (ls.take k)).ns.length ≤ 1000 by rw [notes_len, List.length_take]; have := HL.out; omega)
      clear HC hO hP hx
      go_wp2_with fail
      clear hc
      refine (rnote_run B base A l cp nv1 _ x 0 _ HP.out HNL.out).mono ?_
      rintro e w2 ⟨rfl, hO, nv2, hP⟩
      have HC2 : Hid (Only (TurnB B A) w w2 ∧ ∃ nv, RunR w2 B base A l cp nv (r.notes (ls.take (k + 1)))) := Lib.hid ⟨HO.out.trans hO, nv2, by rw [HN.out]; exact hP⟩
      clear hO hP HP HO
      go_wp2
      go_roundw
      case rel => exact ⟨k + 1, by omega, by go_num, HC2⟩
      case measure => simp [intOf]; omega
    · obtain rfl : k = m := by omega
      have HE : Hid (Only (TurnB B A) w wr ∧ ∃ nv, RunR wr B base A l cp nv (r.notes ls)) := Lib.hid (by rw [show ls = ls.take k by rw [← HM.out, List.take_length]]; exact HC.out)
      clear HC
      go_wp2
      go_returns
      exact ⟨rfl, HE.out.1, HE.out.2⟩
set_option maxHeartbeats 1000000 in
theorem rgive_0 (B base : Nat) (A : Option Addr) (l cp : Nat) (nv : Value) (r : LS) (tail a : Int) (w : World) (h : RunR w B base A l cp nv r) (hl : r.ns.length ≤ 900) (hx : Words r.xs) (ha : 0 ≤ r.a ∧ r.a < 4294967296) (V : Value) (ls : List Int) (hw : Whats B A w V ls) (hm : ls.length ≤ 90) (hr0 : -1000 ≤ a) (hr1 : a ≤ 1000) (hln : r.line = a) (hz : wordAt r.xs (nc r.n r.task) = 0) :
    Calls Tryz.prog 63 #[Value.pointer (some ⟨B, 0, none⟩), .int .i64 tail, .int .i64 a, V] w (DoneR B base A l cp w (.bool false) (r.peek.go (a + 1))) := by
  have HZ := Lib.hid hz
  clear hz
  have HW := Lib.hid hw
  have HM := Lib.hid hm
  have e1 : (a + 1 == a) = false := beq_eq_false_iff_ne.2 (by omega)
  have e2 : (a + 2 == a) = false := beq_eq_false_iff_ne.2 (by omega)
  have e3 : (a + 2 == a + 1) = false := beq_eq_false_iff_ne.2 (by omega)
  have e4 : (a + 3 == a) = false := beq_eq_false_iff_ne.2 (by omega)
  have e5 : (a + 3 == a + 1) = false := beq_eq_false_iff_ne.2 (by omega)
  have e6 : (a + 3 == a + 2) = false := beq_eq_false_iff_ne.2 (by omega)
  clear hw hm
  have HX := Lib.hid hx
  have HL := Lib.hid hl
  have HA := Lib.hid ha
  have HP := Lib.hid h
  have HLN := Lib.hid hln
  have c5 : w.cell? ⟨B, 5, none⟩ = some (.int .i64 (a)) := by rw [← hln]; exact h.row.cell_ (i := 5) rfl
  have c3 : w.cell? ⟨B, 3, none⟩ = some (.int .i64 r.task) := h.row.cell_ (i := 3) rfl
  have c6 : w.cell? ⟨B, 6, none⟩ = some (.int .u32 r.a) := h.row.cell_ (i := 6) rfl
  have f6 : w.frozen? ⟨B, 6, none⟩ = false := h.row.frozen 6
  obtain ⟨ha0, ha1⟩ := ha
  clear h hl hx hln
  go_enter Tryz.func63, Tryz.ntmps63
  go_wp2_with fail
  refine (rnext_any B base A l cp nv r r.task _ HP.out).mono ?_
  rintro e w1 ⟨rfl, rfl⟩
  go_wp2_with fail
  clear c3 c5 c6 f6 ha0 ha1
  have HO := Lib.hid (Only.refl (TurnB B A) w)
  refine (rload_run B base A l cp nv r (nc r.n r.task) _ HP.out).mono ?_
  rintro e w2 ⟨rfl, hO, nv2, hP⟩
  have HP2 := Lib.hid hP
  have HO2 := Lib.hid (HO.out.trans hO)
  clear hO hP
  have c6 : w2.cell? ⟨B, 6, none⟩ = some (.int .u32 r.a) := HP2.out.row.cell_ (i := 6) rfl
  have f6 : w2.frozen? ⟨B, 6, none⟩ = false := HP2.out.row.frozen 6
  go_upto_region 4 with (fail)
  have HP3 : Hid (RunR (w2.setCell ⟨B, 6, none⟩ (.int .u32 (wordAt r.xs (nc r.n r.task)))) B base A l cp nv2 r.peek) := Lib.hid (HP2.out.setA (wordAt r.xs (nc r.n r.task)))
  have HO3 := Lib.hid (HO2.out.setCell (p := ⟨B, 6, none⟩) (.inr (.inl rfl)) (.int .u32 (wordAt r.xs (nc r.n r.task))))
  clear c6 f6 HP2 HO2
  generalize w2.setCell ⟨B, 6, none⟩ (.int .u32 (wordAt r.xs (nc r.n r.task))) = w3 at *
  have l5 : w3.cell? ⟨B, 5, none⟩ = some (.int .i64 (r.line)) := HP3.out.row.cell_ (i := 5) rfl
  have g5 : w3.frozen? ⟨B, 5, none⟩ = false := HP3.out.row.frozen 5
  go_upto_region 5 with (fail)
  have HP4 := Lib.hid (HP3.out.setLine (a + 1))
  have HO4 := Lib.hid (HO3.out.setCell (p := ⟨B, 5, none⟩) (.inr (.inl rfl)) (.int .i64 (a + 1)))
  clear l5 g5 HP3 HO3
  generalize w3.setCell ⟨B, 5, none⟩ (.int .i64 (a + 1)) = w4 at *
  have c6 : w4.cell? ⟨B, 6, none⟩ = some (.int .u32 (wordAt r.xs (nc r.n r.task))) := HP4.out.row.cell_ (i := 6) rfl
  rw [HZ.out] at c6
  go_wp2
  go_ret
  exact ⟨rfl, HO4.out, nv2, HP4.out⟩
set_option maxHeartbeats 1000000 in
theorem rgive_0b (B base : Nat) (A : Option Addr) (l cp : Nat) (nv : Value) (r : LS) (tail a : Int) (w : World) (h : RunR w B base A l cp nv r) (hl : r.ns.length ≤ 900) (hx : Words r.xs) (ha : 0 ≤ r.a ∧ r.a < 4294967296) (V : Value) (ls : List Int) (hw : Whats B A w V ls) (hm : ls.length ≤ 90) (hr0 : -1000 ≤ a) (hr1 : a ≤ 1000) (hln : r.line = a) (hz : wordAt r.xs (nc r.n r.task) ≠ 0) :
    Calls Tryz.prog 63 #[Value.pointer (some ⟨B, 0, none⟩), .int .i64 tail, .int .i64 a, V] w (DoneR B base A l cp w (.bool false) (r.peek.go (a + 3))) := by
  have HZ := Lib.hid hz
  clear hz
  have HW := Lib.hid hw
  have HM := Lib.hid hm
  have e1 : (a + 1 == a) = false := beq_eq_false_iff_ne.2 (by omega)
  have e2 : (a + 2 == a) = false := beq_eq_false_iff_ne.2 (by omega)
  have e3 : (a + 2 == a + 1) = false := beq_eq_false_iff_ne.2 (by omega)
  have e4 : (a + 3 == a) = false := beq_eq_false_iff_ne.2 (by omega)
  have e5 : (a + 3 == a + 1) = false := beq_eq_false_iff_ne.2 (by omega)
  have e6 : (a + 3 == a + 2) = false := beq_eq_false_iff_ne.2 (by omega)
  clear hw hm
  have HX := Lib.hid hx
  have HL := Lib.hid hl
  have HA := Lib.hid ha
  have HP := Lib.hid h
  have HLN := Lib.hid hln
  have c5 : w.cell? ⟨B, 5, none⟩ = some (.int .i64 (a)) := by rw [← hln]; exact h.row.cell_ (i := 5) rfl
  have c3 : w.cell? ⟨B, 3, none⟩ = some (.int .i64 r.task) := h.row.cell_ (i := 3) rfl
  have c6 : w.cell? ⟨B, 6, none⟩ = some (.int .u32 r.a) := h.row.cell_ (i := 6) rfl
  have f6 : w.frozen? ⟨B, 6, none⟩ = false := h.row.frozen 6
  obtain ⟨ha0, ha1⟩ := ha
  clear h hl hx hln
  go_enter Tryz.func63, Tryz.ntmps63
  go_wp2_with fail
  refine (rnext_any B base A l cp nv r r.task _ HP.out).mono ?_
  rintro e w1 ⟨rfl, rfl⟩
  go_wp2_with fail
  clear c3 c5 c6 f6 ha0 ha1
  have HO := Lib.hid (Only.refl (TurnB B A) w)
  refine (rload_run B base A l cp nv r (nc r.n r.task) _ HP.out).mono ?_
  rintro e w2 ⟨rfl, hO, nv2, hP⟩
  have HP2 := Lib.hid hP
  have HO2 := Lib.hid (HO.out.trans hO)
  clear hO hP
  have c6 : w2.cell? ⟨B, 6, none⟩ = some (.int .u32 r.a) := HP2.out.row.cell_ (i := 6) rfl
  have f6 : w2.frozen? ⟨B, 6, none⟩ = false := HP2.out.row.frozen 6
  go_upto_region 4 with (fail)
  have HP3 : Hid (RunR (w2.setCell ⟨B, 6, none⟩ (.int .u32 (wordAt r.xs (nc r.n r.task)))) B base A l cp nv2 r.peek) := Lib.hid (HP2.out.setA (wordAt r.xs (nc r.n r.task)))
  have HO3 := Lib.hid (HO2.out.setCell (p := ⟨B, 6, none⟩) (.inr (.inl rfl)) (.int .u32 (wordAt r.xs (nc r.n r.task))))
  clear c6 f6 HP2 HO2
  generalize w2.setCell ⟨B, 6, none⟩ (.int .u32 (wordAt r.xs (nc r.n r.task))) = w3 at *
  have l5 : w3.cell? ⟨B, 5, none⟩ = some (.int .i64 (r.line)) := HP3.out.row.cell_ (i := 5) rfl
  have g5 : w3.frozen? ⟨B, 5, none⟩ = false := HP3.out.row.frozen 5
  go_upto_region 5 with (fail)
  have HP4 := Lib.hid (HP3.out.setLine (a + 1))
  have HO4 := Lib.hid (HO3.out.setCell (p := ⟨B, 5, none⟩) (.inr (.inl rfl)) (.int .i64 (a + 1)))
  clear l5 g5 HP3 HO3
  generalize w3.setCell ⟨B, 5, none⟩ (.int .i64 (a + 1)) = w4 at *
  have c6 : w4.cell? ⟨B, 6, none⟩ = some (.int .u32 (wordAt r.xs (nc r.n r.task))) := HP4.out.row.cell_ (i := 6) rfl
  have hb : (wordAt r.xs (nc r.n r.task) == 0) = false := beq_eq_false_iff_ne.2 HZ.out
  have l5 : w4.cell? ⟨B, 5, none⟩ = some (.int .i64 (a + 1)) := HP4.out.row.cell_ (i := 5) rfl
  have g5 : w4.frozen? ⟨B, 5, none⟩ = false := HP4.out.row.frozen 5
  generalize wordAt r.xs (nc r.n r.task) = x at *
  go_wp2
  clear l5 g5 c6 hb
  have HPZ := Lib.hid (HP4.out.setLine (a + 3))
  have HOZ := Lib.hid (HO4.out.setCell (p := ⟨B, 5, none⟩) (.inr (.inl rfl)) (.int .i64 (a + 3)))
  go_ret
  exact ⟨rfl, HOZ.out, nv2, HPZ.out⟩
set_option maxHeartbeats 1000000 in
theorem rgive_1 (B base : Nat) (A : Option Addr) (l cp : Nat) (nv : Value) (r : LS) (tail a : Int) (w : World) (h : RunR w B base A l cp nv r) (hl : r.ns.length ≤ 900) (hx : Words r.xs) (ha : 0 ≤ r.a ∧ r.a < 4294967296) (V : Value) (ls : List Int) (hw : Whats B A w V ls) (hm : ls.length ≤ 90) (hr0 : -1000 ≤ a) (hr1 : a ≤ 1000) (hln : r.line = a + 1) (ht : r.casOut tail = true) :
    Calls Tryz.prog 63 #[Value.pointer (some ⟨B, 0, none⟩), .int .i64 tail, .int .i64 a, V] w (DoneR B base A l cp w (.bool true) ((r.doA 5 tail r.me 0).notes ls)) := by
  have HLEN := Lib.hid (show (r.doA 5 tail r.me 0).ns.length + ls.length ≤ 1000 by show r.ns.length + _ ≤ _; omega)
  have HT := Lib.hid ht
  have HQ := Lib.hid (show r.casOut tail = (there r.xs tail && (wordAt r.xs tail == r.me)) from rfl)
  clear ht
  have HW := Lib.hid hw
  have HM := Lib.hid hm
  have e1 : (a + 1 == a) = false := beq_eq_false_iff_ne.2 (by omega)
  have e2 : (a + 2 == a) = false := beq_eq_false_iff_ne.2 (by omega)
  have e3 : (a + 2 == a + 1) = false := beq_eq_false_iff_ne.2 (by omega)
  have e4 : (a + 3 == a) = false := beq_eq_false_iff_ne.2 (by omega)
  have e5 : (a + 3 == a + 1) = false := beq_eq_false_iff_ne.2 (by omega)
  have e6 : (a + 3 == a + 2) = false := beq_eq_false_iff_ne.2 (by omega)
  clear hw hm
  have HX := Lib.hid hx
  have HL := Lib.hid hl
  have HA := Lib.hid ha
  have HP := Lib.hid h
  have HLN := Lib.hid hln
  have c5 : w.cell? ⟨B, 5, none⟩ = some (.int .i64 (a + 1)) := by rw [← hln]; exact h.row.cell_ (i := 5) rfl
  have c3 : w.cell? ⟨B, 3, none⟩ = some (.int .i64 r.task) := h.row.cell_ (i := 3) rfl
  have c6 : w.cell? ⟨B, 6, none⟩ = some (.int .u32 r.a) := h.row.cell_ (i := 6) rfl
  have f6 : w.frozen? ⟨B, 6, none⟩ = false := h.row.frozen 6
  obtain ⟨ha0, ha1⟩ := ha
  clear h hl hx hln
  go_enter Tryz.func63, Tryz.ntmps63
  go_wp2_with fail
  refine (rme_any B base A l cp nv r _ HP.out).mono ?_
  rintro e w1 ⟨rfl, rfl⟩
  go_wp2_with fail
  clear c3 c5 c6 f6 ha0 ha1
  have HO := Lib.hid (Only.refl (TurnB B A) w)
  refine (rcas_run B base A l cp nv r tail r.me 0 _ HP.out).mono ?_
  rw [← HQ.out, HT.out]
  rintro e w2 ⟨rfl, hO, nv2, hP⟩
  have HP2 := Lib.hid hP
  have HO2 := Lib.hid (HO.out.trans hO)
  clear hO hP
  have HWN := Lib.hid (HW.out.move HO2.out)
  go_wp2_with fail
  refine (rnotes_run B base A l cp nv2 _ V ls _ HP2.out HWN.out HLEN.out).mono ?_
  rintro e w3 ⟨rfl, hO, nv3, hP⟩
  have HP3 := Lib.hid hP
  have HO3 := Lib.hid (HO2.out.trans hO)
  clear hO hP
  go_wp2
  go_ret
  exact ⟨rfl, HO3.out, nv3, HP3.out⟩
set_option maxHeartbeats 1000000 in
theorem rgive_1b (B base : Nat) (A : Option Addr) (l cp : Nat) (nv : Value) (r : LS) (tail a : Int) (w : World) (h : RunR w B base A l cp nv r) (hl : r.ns.length ≤ 900) (hx : Words r.xs) (ha : 0 ≤ r.a ∧ r.a < 4294967296) (V : Value) (ls : List Int) (hw : Whats B A w V ls) (hm : ls.length ≤ 90) (hr0 : -1000 ≤ a) (hr1 : a ≤ 1000) (hln : r.line = a + 1) (ht : r.casOut tail = false) :
    Calls Tryz.prog 63 #[Value.pointer (some ⟨B, 0, none⟩), .int .i64 tail, .int .i64 a, V] w (DoneR B base A l cp w (.bool false) ((r.doA 5 tail r.me 0).go (a + 2))) := by
  have HT := Lib.hid ht
  have HQ := Lib.hid (show r.casOut tail = (there r.xs tail && (wordAt r.xs tail == r.me)) from rfl)
  clear ht
  have HW := Lib.hid hw
  have HM := Lib.hid hm
  have e1 : (a + 1 == a) = false := beq_eq_false_iff_ne.2 (by omega)
  have e2 : (a + 2 == a) = false := beq_eq_false_iff_ne.2 (by omega)
  have e3 : (a + 2 == a + 1) = false := beq_eq_false_iff_ne.2 (by omega)
  have e4 : (a + 3 == a) = false := beq_eq_false_iff_ne.2 (by omega)
  have e5 : (a + 3 == a + 1) = false := beq_eq_false_iff_ne.2 (by omega)
  have e6 : (a + 3 == a + 2) = false := beq_eq_false_iff_ne.2 (by omega)
  clear hw hm
  have HX := Lib.hid hx
  have HL := Lib.hid hl
  have HA := Lib.hid ha
  have HP := Lib.hid h
  have HLN := Lib.hid hln
  have c5 : w.cell? ⟨B, 5, none⟩ = some (.int .i64 (a + 1)) := by rw [← hln]; exact h.row.cell_ (i := 5) rfl
  have c3 : w.cell? ⟨B, 3, none⟩ = some (.int .i64 r.task) := h.row.cell_ (i := 3) rfl
  have c6 : w.cell? ⟨B, 6, none⟩ = some (.int .u32 r.a) := h.row.cell_ (i := 6) rfl
  have f6 : w.frozen? ⟨B, 6, none⟩ = false := h.row.frozen 6
  obtain ⟨ha0, ha1⟩ := ha
  clear h hl hx hln
  go_enter Tryz.func63, Tryz.ntmps63
  go_wp2_with fail
  refine (rme_any B base A l cp nv r _ HP.out).mono ?_
  rintro e w1 ⟨rfl, rfl⟩
  go_wp2_with fail
  clear c3 c5 c6 f6 ha0 ha1
  have HO := Lib.hid (Only.refl (TurnB B A) w)
  refine (rcas_run B base A l cp nv r tail r.me 0 _ HP.out).mono ?_
  rw [← HQ.out, HT.out]
  rintro e w2 ⟨rfl, hO, nv2, hP⟩
  have HP2 := Lib.hid hP
  have HO2 := Lib.hid (HO.out.trans hO)
  clear hO hP
  have l5 : w2.cell? ⟨B, 5, none⟩ = some (.int .i64 (r.line)) := HP2.out.row.cell_ (i := 5) rfl
  have g5 : w2.frozen? ⟨B, 5, none⟩ = false := HP2.out.row.frozen 5
  go_wp2
  clear l5 g5
  have HPZ := Lib.hid (HP2.out.setLine (a + 2))
  have HOZ := Lib.hid (HO2.out.setCell (p := ⟨B, 5, none⟩) (.inr (.inl rfl)) (.int .i64 (a + 2)))
  go_ret
  exact ⟨rfl, HOZ.out, nv2, HPZ.out⟩
-- what is seen is kept
set_option maxHeartbeats 1000000 in
theorem rgive_2 (B base : Nat) (A : Option Addr) (l cp : Nat) (nv : Value) (r : LS) (tail a : Int) (w : World) (h : RunR w B base A l cp nv r) (hl : r.ns.length ≤ 900) (hx : Words r.xs) (ha : 0 ≤ r.a ∧ r.a < 4294967296) (V : Value) (ls : List Int) (hw : Whats B A w V ls) (hm : ls.length ≤ 90) (hr0 : -1000 ≤ a) (hr1 : a ≤ 1000) (hln : r.line = a + 2) (hdn : (r.stepR (nc r.n r.task) isN).done = true) :
    Calls Tryz.prog 63 #[Value.pointer (some ⟨B, 0, none⟩), .int .i64 tail, .int .i64 a, V] w (DoneR B base A l cp w (.bool false) (r.seeN.go (a + 3))) := by
  cases hsn : (r.stepR (nc r.n r.task) isN).seen
  · rw [show r.seeN = r.wait (nc r.n r.task) isN by unfold LS.seeN; rw [hsn, if_neg Bool.false_ne_true]]
    have HSN := Lib.hid hsn
    have HDN := Lib.hid hdn
    clear hsn hdn
    have HW := Lib.hid hw
    have HM := Lib.hid hm
    have e1 : (a + 1 == a) = false := beq_eq_false_iff_ne.2 (by omega)
    have e2 : (a + 2 == a) = false := beq_eq_false_iff_ne.2 (by omega)
    have e3 : (a + 2 == a + 1) = false := beq_eq_false_iff_ne.2 (by omega)
    have e4 : (a + 3 == a) = false := beq_eq_false_iff_ne.2 (by omega)
    have e5 : (a + 3 == a + 1) = false := beq_eq_false_iff_ne.2 (by omega)
    have e6 : (a + 3 == a + 2) = false := beq_eq_false_iff_ne.2 (by omega)
    clear hw hm
    have HX := Lib.hid hx
    have HL := Lib.hid hl
    have HA := Lib.hid ha
    have HP := Lib.hid h
    have HLN := Lib.hid hln
    have c5 : w.cell? ⟨B, 5, none⟩ = some (.int .i64 (a + 2)) := by rw [← hln]; exact h.row.cell_ (i := 5) rfl
    have c3 : w.cell? ⟨B, 3, none⟩ = some (.int .i64 r.task) := h.row.cell_ (i := 3) rfl
    have c6 : w.cell? ⟨B, 6, none⟩ = some (.int .u32 r.a) := h.row.cell_ (i := 6) rfl
    have f6 : w.frozen? ⟨B, 6, none⟩ = false := h.row.frozen 6
    obtain ⟨ha0, ha1⟩ := ha
    clear h hl hx hln
    go_enter Tryz.func63, Tryz.ntmps63
    go_wp2_with fail
    refine (rnext_any B base A l cp nv r r.task _ HP.out).mono ?_
    rintro e w1 ⟨rfl, rfl⟩
    go_wp2_with fail
    clear c3 c5 c6 f6 ha0 ha1
    have HO := Lib.hid (Only.refl (TurnB B A) w)
    refine (rwait_run B base A l cp nv r (nc r.n r.task) 1 4294967295 0 _ HP.out HX.out).mono ?_
    rw [stepR_some HX.out, wait_some HX.out, HSN.out, HDN.out]
    rintro e w2 ⟨rfl, hO, nv2, hP⟩
    have HP2 := Lib.hid hP
    have HO2 := Lib.hid (HO.out.trans hO)
    clear hO hP
    have l5 : w2.cell? ⟨B, 5, none⟩ = some (.int .i64 (r.line)) := HP2.out.row.cell_ (i := 5) rfl
    have g5 : w2.frozen? ⟨B, 5, none⟩ = false := HP2.out.row.frozen 5
    go_wp2
    clear l5 g5
    have HPZ := Lib.hid (HP2.out.setLine (a + 3))
    have HOZ := Lib.hid (HO2.out.setCell (p := ⟨B, 5, none⟩) (.inr (.inl rfl)) (.int .i64 (a + 3)))
    go_ret
    exact ⟨rfl, HOZ.out, nv2, HPZ.out⟩
  · rw [show r.seeN = (r.wait (nc r.n r.task) isN).keepA (wordAt r.xs (nc r.n r.task)) by unfold LS.seeN; rw [hsn, if_pos rfl]]
    have HSN := Lib.hid hsn
    have HDN := Lib.hid hdn
    clear hsn hdn
    have HW := Lib.hid hw
    have HM := Lib.hid hm
    have e1 : (a + 1 == a) = false := beq_eq_false_iff_ne.2 (by omega)
    have e2 : (a + 2 == a) = false := beq_eq_false_iff_ne.2 (by omega)
    have e3 : (a + 2 == a + 1) = false := beq_eq_false_iff_ne.2 (by omega)
    have e4 : (a + 3 == a) = false := beq_eq_false_iff_ne.2 (by omega)
    have e5 : (a + 3 == a + 1) = false := beq_eq_false_iff_ne.2 (by omega)
    have e6 : (a + 3 == a + 2) = false := beq_eq_false_iff_ne.2 (by omega)
    clear hw hm
    have HX := Lib.hid hx
    have HL := Lib.hid hl
    have HA := Lib.hid ha
    have HP := Lib.hid h
    have HLN := Lib.hid hln
    have c5 : w.cell? ⟨B, 5, none⟩ = some (.int .i64 (a + 2)) := by rw [← hln]; exact h.row.cell_ (i := 5) rfl
    have c3 : w.cell? ⟨B, 3, none⟩ = some (.int .i64 r.task) := h.row.cell_ (i := 3) rfl
    have c6 : w.cell? ⟨B, 6, none⟩ = some (.int .u32 r.a) := h.row.cell_ (i := 6) rfl
    have f6 : w.frozen? ⟨B, 6, none⟩ = false := h.row.frozen 6
    obtain ⟨ha0, ha1⟩ := ha
    clear h hl hx hln
    go_enter Tryz.func63, Tryz.ntmps63
    go_wp2_with fail
    refine (rnext_any B base A l cp nv r r.task _ HP.out).mono ?_
    rintro e w1 ⟨rfl, rfl⟩
    go_wp2_with fail
    clear c3 c5 c6 f6 ha0 ha1
    have HO := Lib.hid (Only.refl (TurnB B A) w)
    refine (rwait_run B base A l cp nv r (nc r.n r.task) 1 4294967295 0 _ HP.out HX.out).mono ?_
    rw [stepR_some HX.out, wait_some HX.out, HSN.out, HDN.out]
    rintro e w2 ⟨rfl, hO, nv2, hP⟩
    have HP2 := Lib.hid hP
    have HO2 := Lib.hid (HO.out.trans hO)
    clear hO hP
    have HOLD := Lib.hid (seen_old HSN.out)
    have hac := (show (r.wait (nc r.n r.task) isN).acc = ofV (r.stepR (nc r.n r.task) isN).acc from rfl)
    have c18 : w2.cell? ⟨B, 18, none⟩ = some (.int .u32 (wordAt r.xs (nc r.n r.task))) := by
      have e := HP2.out.row.cell_ (i := 18) (v := .int .u32 (r.wait (nc r.n r.task) isN).acc.o) rfl
      rw [hac] at e
      rw [← HOLD.out]
      exact e
    have c6 : w2.cell? ⟨B, 6, none⟩ = some (.int .u32 r.a) := HP2.out.row.cell_ (i := 6) rfl
    have f6 : w2.frozen? ⟨B, 6, none⟩ = false := HP2.out.row.frozen 6
    clear hac HOLD
    go_upto_region 18 with (fail)
    have HP3 : Hid (RunR (w2.setCell ⟨B, 6, none⟩ (.int .u32 (wordAt r.xs (nc r.n r.task)))) B base A l cp nv2 ((r.wait (nc r.n r.task) isN).keepA (wordAt r.xs (nc r.n r.task)))) := Lib.hid (HP2.out.setA (wordAt r.xs (nc r.n r.task)))
    have HO3 := Lib.hid (HO2.out.setCell (p := ⟨B, 6, none⟩) (.inr (.inl rfl)) (.int .u32 (wordAt r.xs (nc r.n r.task))))
    clear c6 f6 c18 HP2 HO2
    generalize w2.setCell ⟨B, 6, none⟩ (.int .u32 (wordAt r.xs (nc r.n r.task))) = w3 at *
    have l5 : w3.cell? ⟨B, 5, none⟩ = some (.int .i64 (r.line)) := HP3.out.row.cell_ (i := 5) rfl
    have g5 : w3.frozen? ⟨B, 5, none⟩ = false := HP3.out.row.frozen 5
    go_wp2
    clear l5 g5
    have HPZ := Lib.hid (HP3.out.setLine (a + 3))
    have HOZ := Lib.hid (HO3.out.setCell (p := ⟨B, 5, none⟩) (.inr (.inl rfl)) (.int .i64 (a + 3)))
    go_ret
    exact ⟨rfl, HOZ.out, nv2, HPZ.out⟩
set_option maxHeartbeats 1000000 in
theorem rgive_2b (B base : Nat) (A : Option Addr) (l cp : Nat) (nv : Value) (r : LS) (tail a : Int) (w : World) (h : RunR w B base A l cp nv r) (hl : r.ns.length ≤ 900) (hx : Words r.xs) (ha : 0 ≤ r.a ∧ r.a < 4294967296) (V : Value) (ls : List Int) (hw : Whats B A w V ls) (hm : ls.length ≤ 90) (hr0 : -1000 ≤ a) (hr1 : a ≤ 1000) (hln : r.line = a + 2) (hdn : (r.stepR (nc r.n r.task) isN).done = false) :
    Calls Tryz.prog 63 #[Value.pointer (some ⟨B, 0, none⟩), .int .i64 tail, .int .i64 a, V] w (DoneR B base A l cp w (.bool false) r.seeN) := by
  cases hsn : (r.stepR (nc r.n r.task) isN).seen
  · rw [show r.seeN = r.wait (nc r.n r.task) isN by unfold LS.seeN; rw [hsn, if_neg Bool.false_ne_true]]
    have HSN := Lib.hid hsn
    have HDN := Lib.hid hdn
    clear hsn hdn
    have HW := Lib.hid hw
    have HM := Lib.hid hm
    have e1 : (a + 1 == a) = false := beq_eq_false_iff_ne.2 (by omega)
    have e2 : (a + 2 == a) = false := beq_eq_false_iff_ne.2 (by omega)
    have e3 : (a + 2 == a + 1) = false := beq_eq_false_iff_ne.2 (by omega)
    have e4 : (a + 3 == a) = false := beq_eq_false_iff_ne.2 (by omega)
    have e5 : (a + 3 == a + 1) = false := beq_eq_false_iff_ne.2 (by omega)
    have e6 : (a + 3 == a + 2) = false := beq_eq_false_iff_ne.2 (by omega)
    clear hw hm
    have HX := Lib.hid hx
    have HL := Lib.hid hl
    have HA := Lib.hid ha
    have HP := Lib.hid h
    have HLN := Lib.hid hln
    have c5 : w.cell? ⟨B, 5, none⟩ = some (.int .i64 (a + 2)) := by rw [← hln]; exact h.row.cell_ (i := 5) rfl
    have c3 : w.cell? ⟨B, 3, none⟩ = some (.int .i64 r.task) := h.row.cell_ (i := 3) rfl
    have c6 : w.cell? ⟨B, 6, none⟩ = some (.int .u32 r.a) := h.row.cell_ (i := 6) rfl
    have f6 : w.frozen? ⟨B, 6, none⟩ = false := h.row.frozen 6
    obtain ⟨ha0, ha1⟩ := ha
    clear h hl hx hln
    go_enter Tryz.func63, Tryz.ntmps63
    go_wp2_with fail
    refine (rnext_any B base A l cp nv r r.task _ HP.out).mono ?_
    rintro e w1 ⟨rfl, rfl⟩
    go_wp2_with fail
    clear c3 c5 c6 f6 ha0 ha1
    have HO := Lib.hid (Only.refl (TurnB B A) w)
    refine (rwait_run B base A l cp nv r (nc r.n r.task) 1 4294967295 0 _ HP.out HX.out).mono ?_
    rw [stepR_some HX.out, wait_some HX.out, HSN.out, HDN.out]
    rintro e w2 ⟨rfl, hO, nv2, hP⟩
    have HP2 := Lib.hid hP
    have HO2 := Lib.hid (HO.out.trans hO)
    clear hO hP
    go_wp2
    go_ret
    exact ⟨rfl, HO2.out, nv2, HP2.out⟩
  · rw [show r.seeN = (r.wait (nc r.n r.task) isN).keepA (wordAt r.xs (nc r.n r.task)) by unfold LS.seeN; rw [hsn, if_pos rfl]]
    have HSN := Lib.hid hsn
    have HDN := Lib.hid hdn
    clear hsn hdn
    have HW := Lib.hid hw
    have HM := Lib.hid hm
    have e1 : (a + 1 == a) = false := beq_eq_false_iff_ne.2 (by omega)
    have e2 : (a + 2 == a) = false := beq_eq_false_iff_ne.2 (by omega)
    have e3 : (a + 2 == a + 1) = false := beq_eq_false_iff_ne.2 (by omega)
    have e4 : (a + 3 == a) = false := beq_eq_false_iff_ne.2 (by omega)
    have e5 : (a + 3 == a + 1) = false := beq_eq_false_iff_ne.2 (by omega)
    have e6 : (a + 3 == a + 2) = false := beq_eq_false_iff_ne.2 (by omega)
    clear hw hm
    have HX := Lib.hid hx
    have HL := Lib.hid hl
    have HA := Lib.hid ha
    have HP := Lib.hid h
    have HLN := Lib.hid hln
    have c5 : w.cell? ⟨B, 5, none⟩ = some (.int .i64 (a + 2)) := by rw [← hln]; exact h.row.cell_ (i := 5) rfl
    have c3 : w.cell? ⟨B, 3, none⟩ = some (.int .i64 r.task) := h.row.cell_ (i := 3) rfl
    have c6 : w.cell? ⟨B, 6, none⟩ = some (.int .u32 r.a) := h.row.cell_ (i := 6) rfl
    have f6 : w.frozen? ⟨B, 6, none⟩ = false := h.row.frozen 6
    obtain ⟨ha0, ha1⟩ := ha
    clear h hl hx hln
    go_enter Tryz.func63, Tryz.ntmps63
    go_wp2_with fail
    refine (rnext_any B base A l cp nv r r.task _ HP.out).mono ?_
    rintro e w1 ⟨rfl, rfl⟩
    go_wp2_with fail
    clear c3 c5 c6 f6 ha0 ha1
    have HO := Lib.hid (Only.refl (TurnB B A) w)
    refine (rwait_run B base A l cp nv r (nc r.n r.task) 1 4294967295 0 _ HP.out HX.out).mono ?_
    rw [stepR_some HX.out, wait_some HX.out, HSN.out, HDN.out]
    rintro e w2 ⟨rfl, hO, nv2, hP⟩
    have HP2 := Lib.hid hP
    have HO2 := Lib.hid (HO.out.trans hO)
    clear hO hP
    have HOLD := Lib.hid (seen_old HSN.out)
    have hac := (show (r.wait (nc r.n r.task) isN).acc = ofV (r.stepR (nc r.n r.task) isN).acc from rfl)
    have c18 : w2.cell? ⟨B, 18, none⟩ = some (.int .u32 (wordAt r.xs (nc r.n r.task))) := by
      have e := HP2.out.row.cell_ (i := 18) (v := .int .u32 (r.wait (nc r.n r.task) isN).acc.o) rfl
      rw [hac] at e
      rw [← HOLD.out]
      exact e
    have c6 : w2.cell? ⟨B, 6, none⟩ = some (.int .u32 r.a) := HP2.out.row.cell_ (i := 6) rfl
    have f6 : w2.frozen? ⟨B, 6, none⟩ = false := HP2.out.row.frozen 6
    clear hac HOLD
    go_upto_region 18 with (fail)
    have HP3 : Hid (RunR (w2.setCell ⟨B, 6, none⟩ (.int .u32 (wordAt r.xs (nc r.n r.task)))) B base A l cp nv2 ((r.wait (nc r.n r.task) isN).keepA (wordAt r.xs (nc r.n r.task)))) := Lib.hid (HP2.out.setA (wordAt r.xs (nc r.n r.task)))
    have HO3 := Lib.hid (HO2.out.setCell (p := ⟨B, 6, none⟩) (.inr (.inl rfl)) (.int .u32 (wordAt r.xs (nc r.n r.task))))
    clear c6 f6 c18 HP2 HO2
    generalize w2.setCell ⟨B, 6, none⟩ (.int .u32 (wordAt r.xs (nc r.n r.task))) = w3 at *
    go_wp2
    go_ret
    exact ⟨rfl, HO3.out, nv2, HP3.out⟩
set_option maxHeartbeats 1000000 in
theorem rgive_3 (B base : Nat) (A : Option Addr) (l cp : Nat) (nv : Value) (r : LS) (tail a : Int) (w : World) (h : RunR w B base A l cp nv r) (hl : r.ns.length ≤ 900) (hx : Words r.xs) (ha : 0 ≤ r.a ∧ r.a < 4294967296) (V : Value) (ls : List Int) (hw : Whats B A w V ls) (hm : ls.length ≤ 90) (hr0 : -1000 ≤ a) (hr1 : a ≤ 1000) (hln : r.line = a + 3) :
    Calls Tryz.prog 63 #[Value.pointer (some ⟨B, 0, none⟩), .int .i64 tail, .int .i64 a, V] w (DoneR B base A l cp w (.bool true) (r.handOn ls)) := by
  have HLEN := Lib.hid (show (r.doA 2 (bc r.n (r.a - 1)) 0 0).ns.length + ls.length ≤ 1000 by show r.ns.length + _ ≤ _; omega)
  have HW := Lib.hid hw
  have HM := Lib.hid hm
  have e1 : (a + 1 == a) = false := beq_eq_false_iff_ne.2 (by omega)
  have e2 : (a + 2 == a) = false := beq_eq_false_iff_ne.2 (by omega)
  have e3 : (a + 2 == a + 1) = false := beq_eq_false_iff_ne.2 (by omega)
  have e4 : (a + 3 == a) = false := beq_eq_false_iff_ne.2 (by omega)
  have e5 : (a + 3 == a + 1) = false := beq_eq_false_iff_ne.2 (by omega)
  have e6 : (a + 3 == a + 2) = false := beq_eq_false_iff_ne.2 (by omega)
  clear hw hm
  have HX := Lib.hid hx
  have HL := Lib.hid hl
  have HA := Lib.hid ha
  have HP := Lib.hid h
  have HLN := Lib.hid hln
  have c5 : w.cell? ⟨B, 5, none⟩ = some (.int .i64 (a + 3)) := by rw [← hln]; exact h.row.cell_ (i := 5) rfl
  have c3 : w.cell? ⟨B, 3, none⟩ = some (.int .i64 r.task) := h.row.cell_ (i := 3) rfl
  have c6 : w.cell? ⟨B, 6, none⟩ = some (.int .u32 r.a) := h.row.cell_ (i := 6) rfl
  have f6 : w.frozen? ⟨B, 6, none⟩ = false := h.row.frozen 6
  obtain ⟨ha0, ha1⟩ := ha
  clear h hl hx hln
  go_enter Tryz.func63, Tryz.ntmps63
  go_wp2_with fail
  refine (rblocked_any B base A l cp nv r (r.a - 1) _ HP.out).mono ?_
  rintro e w1 ⟨rfl, rfl⟩
  go_wp2_with fail
  clear c3 c5 c6 f6 ha0 ha1
  have HO := Lib.hid (Only.refl (TurnB B A) w)
  refine (rstore_run B base A l cp nv r (bc r.n (r.a - 1)) 0 _ HP.out).mono ?_
  rintro e w2 ⟨rfl, hO, nv2, hP⟩
  have HP2 := Lib.hid hP
  have HO2 := Lib.hid (HO.out.trans hO)
  clear hO hP
  have HWN := Lib.hid (HW.out.move HO2.out)
  go_wp2_with fail
  refine (rnotes_run B base A l cp nv2 _ V ls _ HP2.out HWN.out HLEN.out).mono ?_
  rintro e w3 ⟨rfl, hO, nv3, hP⟩
  have HP3 := Lib.hid hP
  have HO3 := Lib.hid (HO2.out.trans hO)
  clear hO hP
  go_wp2_with fail
  refine (rwake_run B base A l cp nv3 _ (bc r.n (r.a - 1)) _ HP3.out).mono ?_
  rintro e w4 ⟨rfl, hO, nv4, hP⟩
  have HP4 := Lib.hid hP
  have HO4 := Lib.hid (HO3.out.trans hO)
  clear hO hP
  go_wp2
  go_ret
  exact ⟨rfl, HO4.out, nv4, HP4.out⟩
set_option maxHeartbeats 1000000 in
theorem rgive_no (B base : Nat) (A : Option Addr) (l cp : Nat) (nv : Value) (r : LS) (tail a : Int) (w : World) (h : RunR w B base A l cp nv r) (hl : r.ns.length ≤ 900) (hx : Words r.xs) (ha : 0 ≤ r.a ∧ r.a < 4294967296) (V : Value) (ls : List Int) (hw : Whats B A w V ls) (hm : ls.length ≤ 90) (hr0 : -1000 ≤ a) (hr1 : a ≤ 1000) (ln : Int) (hln : r.line = ln) (n0 : ln ≠ a) (n1 : ln ≠ a + 1) (n2 : ln ≠ a + 2) (n3 : ln ≠ a + 3) :
    Calls Tryz.prog 63 #[Value.pointer (some ⟨B, 0, none⟩), .int .i64 tail, .int .i64 a, V] w (DoneR B base A l cp w (.bool false) r) := by
  have b0 : (ln == a) = false := beq_eq_false_iff_ne.2 n0
  have b1 : (ln == a + 1) = false := beq_eq_false_iff_ne.2 n1
  have b2 : (ln == a + 2) = false := beq_eq_false_iff_ne.2 n2
  have b3 : (ln == a + 3) = false := beq_eq_false_iff_ne.2 n3
  clear n0 n1 n2 n3
  have HW := Lib.hid hw
  have HM := Lib.hid hm
  have e1 : (a + 1 == a) = false := beq_eq_false_iff_ne.2 (by omega)
  have e2 : (a + 2 == a) = false := beq_eq_false_iff_ne.2 (by omega)
  have e3 : (a + 2 == a + 1) = false := beq_eq_false_iff_ne.2 (by omega)
  have e4 : (a + 3 == a) = false := beq_eq_false_iff_ne.2 (by omega)
  have e5 : (a + 3 == a + 1) = false := beq_eq_false_iff_ne.2 (by omega)
  have e6 : (a + 3 == a + 2) = false := beq_eq_false_iff_ne.2 (by omega)
  clear hw hm
  have HX := Lib.hid hx
  have HL := Lib.hid hl
  have HA := Lib.hid ha
  have HP := Lib.hid h
  have HLN := Lib.hid hln
  have c5 : w.cell? ⟨B, 5, none⟩ = some (.int .i64 (ln)) := by rw [← hln]; exact h.row.cell_ (i := 5) rfl
  have c3 : w.cell? ⟨B, 3, none⟩ = some (.int .i64 r.task) := h.row.cell_ (i := 3) rfl
  have c6 : w.cell? ⟨B, 6, none⟩ = some (.int .u32 r.a) := h.row.cell_ (i := 6) rfl
  have f6 : w.frozen? ⟨B, 6, none⟩ = false := h.row.frozen 6
  obtain ⟨ha0, ha1⟩ := ha
  clear h hl hx hln
  go_enter Tryz.func63, Tryz.ntmps63
  go_wp2
  go_ret
  exact ⟨rfl, Only.refl _ _, nv, HP.out⟩
theorem rgive_run (B base : Nat) (A : Option Addr) (l cp : Nat) (nv : Value) (r : LS) (tail a : Int) (w : World) (h : RunR w B base A l cp nv r) (hl : r.ns.length ≤ 900) (hx : Words r.xs) (ha : 0 ≤ r.a ∧ r.a < 4294967296) (V : Value) (ls : List Int) (hw : Whats B A w V ls) (hm : ls.length ≤ 90) (hr0 : -1000 ≤ a) (hr1 : a ≤ 1000) :
    Calls Tryz.prog 63 #[Value.pointer (some ⟨B, 0, none⟩), .int .i64 tail, .int .i64 a, V] w (DoneR B base A l cp w (.bool (r.mxGive tail a ls).2) (r.mxGive tail a ls).1) := by
  by_cases l0 : r.line = a
  · by_cases hz : wordAt r.xs (nc r.n r.task) = 0
    · rw [show r.mxGive tail a ls = _ by unfold LS.mxGive; rw [if_pos l0, if_pos hz]]
      exact rgive_0 B base A l cp nv r tail a w h hl hx ha V ls hw hm hr0 hr1 l0 hz
    · rw [show r.mxGive tail a ls = _ by unfold LS.mxGive; rw [if_pos l0, if_neg hz]]
      exact rgive_0b B base A l cp nv r tail a w h hl hx ha V ls hw hm hr0 hr1 l0 hz
  by_cases l1 : r.line = a + 1
  · cases hz : r.casOut tail
    · rw [show r.mxGive tail a ls = _ by unfold LS.mxGive; rw [if_neg l0, if_pos l1, hz, if_neg Bool.false_ne_true]]
      exact rgive_1b B base A l cp nv r tail a w h hl hx ha V ls hw hm hr0 hr1 l1 hz
    · rw [show r.mxGive tail a ls = _ by unfold LS.mxGive; rw [if_neg l0, if_pos l1, hz, if_pos rfl]]
      exact rgive_1 B base A l cp nv r tail a w h hl hx ha V ls hw hm hr0 hr1 l1 hz
  by_cases l2 : r.line = a + 2
  · cases hz : (r.stepR (nc r.n r.task) isN).done
    · rw [show r.mxGive tail a ls = _ by unfold LS.mxGive; rw [if_neg l0, if_neg l1, if_pos l2, hz, if_neg Bool.false_ne_true]]
      exact rgive_2b B base A l cp nv r tail a w h hl hx ha V ls hw hm hr0 hr1 l2 hz
    · rw [show r.mxGive tail a ls = _ by unfold LS.mxGive; rw [if_neg l0, if_neg l1, if_pos l2, hz, if_pos rfl]]
      exact rgive_2 B base A l cp nv r tail a w h hl hx ha V ls hw hm hr0 hr1 l2 hz
  by_cases l3 : r.line = a + 3
  · rw [show r.mxGive tail a ls = _ by unfold LS.mxGive; rw [if_neg l0, if_neg l1, if_neg l2, if_pos l3]]
    exact rgive_3 B base A l cp nv r tail a w h hl hx ha V ls hw hm hr0 hr1 l3
  · rw [show r.mxGive tail a ls = _ by unfold LS.mxGive; rw [if_neg l0, if_neg l1, if_neg l2, if_neg l3]]
    exact rgive_no B base A l cp nv r tail a w h hl hx ha V ls hw hm hr0 hr1 _ rfl l0 l1 l2 l3
set_option maxHeartbeats 1000000 in
theorem rtry_0 (B base : Nat) (A : Option Addr) (l cp : Nat) (nv : Value) (r : LS) (tail a : Int) (w : World) (h : RunR w B base A l cp nv r) (hl : r.ns.length ≤ 900) (hx : Words r.xs) (ha : 0 ≤ r.a ∧ r.a < 4294967296) (hr0 : -1000 ≤ a) (hr1 : a ≤ 1000) (hln : r.line = a) :
    Calls Tryz.prog 25 #[Value.pointer (some ⟨B, 0, none⟩), .int .i64 tail, .int .i64 a] w (DoneR B base A l cp w (.tuple #[.bool false, .bool false]) ((r.doA 2 (nc r.n r.task) 0 0).go (a + 1))) := by
  have HX := Lib.hid hx
  have HL := Lib.hid hl
  have HA := Lib.hid ha
  have HP := Lib.hid h
  have HLN := Lib.hid hln
  have c5 : w.cell? ⟨B, 5, none⟩ = some (.int .i64 (a)) := by rw [← hln]; exact h.row.cell_ (i := 5) rfl
  have c3 : w.cell? ⟨B, 3, none⟩ = some (.int .i64 r.task) := h.row.cell_ (i := 3) rfl
  have c6 : w.cell? ⟨B, 6, none⟩ = some (.int .u32 r.a) := h.row.cell_ (i := 6) rfl
  have f6 : w.frozen? ⟨B, 6, none⟩ = false := h.row.frozen 6
  obtain ⟨ha0, ha1⟩ := ha
  clear h hl hx hln
  go_enter Tryz.func25, Tryz.ntmps25
  go_wp2_with fail
  refine (rnext_any B base A l cp nv r r.task _ HP.out).mono ?_
  rintro e w1 ⟨rfl, rfl⟩
  go_wp2_with fail
  clear c3 c5 c6 f6 ha0 ha1
  have HO := Lib.hid (Only.refl (TurnB B A) w)
  refine (rstore_run B base A l cp nv r (nc r.n r.task) 0 _ HP.out).mono ?_
  rintro e w2 ⟨rfl, hO, nv2, hP⟩
  have HP2 := Lib.hid hP
  have HO2 := Lib.hid (HO.out.trans hO)
  clear hO hP
  have l5 : w2.cell? ⟨B, 5, none⟩ = some (.int .i64 (r.line)) := HP2.out.row.cell_ (i := 5) rfl
  have g5 : w2.frozen? ⟨B, 5, none⟩ = false := HP2.out.row.frozen 5
  go_wp2
  clear l5 g5
  have HPZ := Lib.hid (HP2.out.setLine (a + 1))
  have HOZ := Lib.hid (HO2.out.setCell (p := ⟨B, 5, none⟩) (.inr (.inl rfl)) (.int .i64 (a + 1)))
  go_ret2
  exact ⟨rfl, HOZ.out, nv2, HPZ.out⟩
set_option maxHeartbeats 1000000 in
theorem rtry_1 (B base : Nat) (A : Option Addr) (l cp : Nat) (nv : Value) (r : LS) (tail a : Int) (w : World) (h : RunR w B base A l cp nv r) (hl : r.ns.length ≤ 900) (hx : Words r.xs) (ha : 0 ≤ r.a ∧ r.a < 4294967296) (hr0 : -1000 ≤ a) (hr1 : a ≤ 1000) (hln : r.line = a + 1) :
    Calls Tryz.prog 25 #[Value.pointer (some ⟨B, 0, none⟩), .int .i64 tail, .int .i64 a] w (DoneR B base A l cp w (.tuple #[.bool true, .bool (there r.xs tail && (wordAt r.xs tail == 0))]) (r.doA 5 tail 0 r.me)) := by
  have e1 : (a + 1 == a) = false := beq_eq_false_iff_ne.2 (by omega)
  have HX := Lib.hid hx
  have HL := Lib.hid hl
  have HA := Lib.hid ha
  have HP := Lib.hid h
  have HLN := Lib.hid hln
  have c5 : w.cell? ⟨B, 5, none⟩ = some (.int .i64 (a + 1)) := by rw [← hln]; exact h.row.cell_ (i := 5) rfl
  have c3 : w.cell? ⟨B, 3, none⟩ = some (.int .i64 r.task) := h.row.cell_ (i := 3) rfl
  have c6 : w.cell? ⟨B, 6, none⟩ = some (.int .u32 r.a) := h.row.cell_ (i := 6) rfl
  have f6 : w.frozen? ⟨B, 6, none⟩ = false := h.row.frozen 6
  obtain ⟨ha0, ha1⟩ := ha
  clear h hl hx hln
  go_enter Tryz.func25, Tryz.ntmps25
  go_wp2_with fail
  refine (rme_any B base A l cp nv r _ HP.out).mono ?_
  rintro e w1 ⟨rfl, rfl⟩
  go_wp2_with fail
  clear c3 c5 c6 f6 ha0 ha1
  have HO := Lib.hid (Only.refl (TurnB B A) w)
  refine (rcas_run B base A l cp nv r tail 0 r.me _ HP.out).mono ?_
  generalize (there r.xs tail && (wordAt r.xs tail == 0)) = d at *
  rintro e w2 ⟨rfl, hO, nv2, hP⟩
  have HP2 := Lib.hid hP
  have HO2 := Lib.hid (HO.out.trans hO)
  clear hO hP
  go_wp2
  go_ret2
  exact ⟨rfl, HO2.out, nv2, HP2.out⟩
set_option maxHeartbeats 1000000 in
theorem rtry_no (B base : Nat) (A : Option Addr) (l cp : Nat) (nv : Value) (r : LS) (tail a : Int) (w : World) (h : RunR w B base A l cp nv r) (hl : r.ns.length ≤ 900) (hx : Words r.xs) (ha : 0 ≤ r.a ∧ r.a < 4294967296) (hr0 : -1000 ≤ a) (hr1 : a ≤ 1000) (ln : Int) (hln : r.line = ln) (n0 : ln ≠ a) (n1 : ln ≠ a + 1) :
    Calls Tryz.prog 25 #[Value.pointer (some ⟨B, 0, none⟩), .int .i64 tail, .int .i64 a] w (DoneR B base A l cp w (.tuple #[.bool false, .bool false]) r) := by
  have b0 : (ln == a) = false := beq_eq_false_iff_ne.2 n0
  have b1 : (ln == a + 1) = false := beq_eq_false_iff_ne.2 n1
  clear n0 n1
  have HX := Lib.hid hx
  have HL := Lib.hid hl
  have HA := Lib.hid ha
  have HP := Lib.hid h
  have HLN := Lib.hid hln
  have c5 : w.cell? ⟨B, 5, none⟩ = some (.int .i64 (ln)) := by rw [← hln]; exact h.row.cell_ (i := 5) rfl
  have c3 : w.cell? ⟨B, 3, none⟩ = some (.int .i64 r.task) := h.row.cell_ (i := 3) rfl
  have c6 : w.cell? ⟨B, 6, none⟩ = some (.int .u32 r.a) := h.row.cell_ (i := 6) rfl
  have f6 : w.frozen? ⟨B, 6, none⟩ = false := h.row.frozen 6
  obtain ⟨ha0, ha1⟩ := ha
  clear h hl hx hln
  go_enter Tryz.func25, Tryz.ntmps25
  go_wp2
  go_ret2
  exact ⟨rfl, Only.refl _ _, nv, HP.out⟩
theorem rtry_run (B base : Nat) (A : Option Addr) (l cp : Nat) (nv : Value) (r : LS) (tail a : Int) (w : World) (h : RunR w B base A l cp nv r) (hl : r.ns.length ≤ 900) (hx : Words r.xs) (ha : 0 ≤ r.a ∧ r.a < 4294967296) (hr0 : -1000 ≤ a) (hr1 : a ≤ 1000) :
    Calls Tryz.prog 25 #[Value.pointer (some ⟨B, 0, none⟩), .int .i64 tail, .int .i64 a] w (DoneR B base A l cp w (.tuple #[.bool (r.mxTry tail a).2.1, .bool (r.mxTry tail a).2.2]) (r.mxTry tail a).1) := by
  by_cases l0 : r.line = a
  · rw [show r.mxTry tail a = _ by unfold LS.mxTry; rw [if_pos l0]]
    exact rtry_0 B base A l cp nv r tail a w h hl hx ha hr0 hr1 l0
  by_cases l1 : r.line = a + 1
  · rw [show r.mxTry tail a = _ by unfold LS.mxTry; rw [if_neg l0, if_pos l1]]
    exact rtry_1 B base A l cp nv r tail a w h hl hx ha hr0 hr1 l1
  · rw [show r.mxTry tail a = _ by unfold LS.mxTry; rw [if_neg l0, if_neg l1]]
    exact rtry_no B base A l cp nv r tail a w h hl hx ha hr0 hr1 _ rfl l0 l1
end Go.Proofs.YtkkldcggbekleaaGreat
