/- MxG, Pass, FCh, DiffPut, Suite, SuiteAt, OpW, WdOp, TasksN, PlaceN, PlaceSize, Names. -/
import Derived.Test.YtigdbokfapedcaaGreatProg
import Derived.Laws.Shifts
import Derived.IntWalk
import Derived.Test.YtigdbokfapedcaaGreatChecked
import Derived.Deep.OwnRows
import Derived.Maps.Own
import Derived.Test.YtigdbokfapedcaaGreatB14
import Derived.Test.YtigdbokfapedcaaGreatB13
import Derived.Test.YtigdbokfapedcaaGreatB3
import Derived.Test.YtigdbokfapedcaaGreatB1
import Derived.Test.YtigdbokfapedcaaGreatB4
import Derived.Test.YtigdbokfapedcaaGreatB2
/- mutex.Give, mutex.Try, the program's. -/
set_option linter.unusedVariables false
set_option linter.unusedSimpArgs false
namespace Go.Proofs.YtigdbokfapedcaaGreat
open Go.RowKit

theorem seeN_ns (r : LS) : r.seeN.ns = r.ns := by
  unfold LS.seeN
  split <;> rfl
-- behind the call that gives on: the notes

set_option maxHeartbeats 1000000 in
theorem give_0 (B : Nat) (p A : Option Addr) (cp : Nat) (nv : Value) (r : LS) (tail a : Int) (w : World) (h : RunP w B p A cp nv r) (hl : r.ns.length ≤ 900) (hx : Words r.xs) (ha : 0 ≤ r.a ∧ r.a < 4294967296) (V : Value) (l : List Int) (hw : Whats B A w V l) (hm : l.length ≤ 90) (hr0 : -1000 ≤ a) (hr1 : a ≤ 1000) (hln : r.line = a) (hz : wordAt r.xs (nc r.n r.task) = 0) :
    Calls Tryz.prog 207 #[Value.pointer (some ⟨B, 0, none⟩), .int .i64 tail, .int .i64 a, V] w (Done B p A cp w (.bool false) (r.peek.go (a + 1))) := by
  have HZ := Lib.hid hz
  clear hz
  have HW := Lib.hid hw
  have HM := Lib.hid hm
  have e1 : (a + 1 == a) = false := beq_eq_false_iff_ne.2 (by omega)
  have e2 : (a + 2 == a) = false := beq_eq_false_iff_ne.2 (by omega)
  have e3 : (a + 2 == a + 1) = false := beq_eq_false_iff_ne.2 (by omega)
  have e4 : (a + 3 == a) = false := beq_eq_false_iff_ne.2 (by omega)
  have e5 : (a + 3 == a + 1) = false := beq_eq_false_iff_ne.2 (by omega)
  have e6 : (a + 3 == a + 2) = false := beq_eq_false_iff_ne.2 (by omega)
  clear hw hm
  have HX := Lib.hid hx
  have HL := Lib.hid hl
  have HA := Lib.hid ha
  have HP := Lib.hid h
  have HLN := Lib.hid hln
  have c5 : w.cell? ⟨B, 5, none⟩ = some (.int .i64 (a)) := by rw [← hln]; exact h.row.cell_ (i := 5) rfl
  clear h hl hx ha hln
  go_enter Tryz.func207, Tryz.ntmps207
  go_wp2_with fail
  clear c5
  have HO := Lib.hid (Only.refl (TurnB B A) w)
  refine (look_none B p A cp nv r (a + 1) (a + 3) _ HP.out HZ.out).mono ?_
  rintro e wN ⟨rfl, hO, nvN, hP⟩
  have HPN := Lib.hid hP
  have HON := Lib.hid (HO.out.trans hO)
  clear hO hP
  go_wp2
  go_ret
  exact ⟨rfl, HON.out, nvN, HPN.out⟩
set_option maxHeartbeats 1000000 in
theorem give_0b (B : Nat) (p A : Option Addr) (cp : Nat) (nv : Value) (r : LS) (tail a : Int) (w : World) (h : RunP w B p A cp nv r) (hl : r.ns.length ≤ 900) (hx : Words r.xs) (ha : 0 ≤ r.a ∧ r.a < 4294967296) (V : Value) (l : List Int) (hw : Whats B A w V l) (hm : l.length ≤ 90) (hr0 : -1000 ≤ a) (hr1 : a ≤ 1000) (hln : r.line = a) (hz : wordAt r.xs (nc r.n r.task) ≠ 0) :
    Calls Tryz.prog 207 #[Value.pointer (some ⟨B, 0, none⟩), .int .i64 tail, .int .i64 a, V] w (Done B p A cp w (.bool false) (r.peek.go (a + 3))) := by
  have HZ := Lib.hid hz
  clear hz
  have HW := Lib.hid hw
  have HM := Lib.hid hm
  have e1 : (a + 1 == a) = false := beq_eq_false_iff_ne.2 (by omega)
  have e2 : (a + 2 == a) = false := beq_eq_false_iff_ne.2 (by omega)
  have e3 : (a + 2 == a + 1) = false := beq_eq_false_iff_ne.2 (by omega)
  have e4 : (a + 3 == a) = false := beq_eq_false_iff_ne.2 (by omega)
  have e5 : (a + 3 == a + 1) = false := beq_eq_false_iff_ne.2 (by omega)
  have e6 : (a + 3 == a + 2) = false := beq_eq_false_iff_ne.2 (by omega)
  clear hw hm
  have HX := Lib.hid hx
  have HL := Lib.hid hl
  have HA := Lib.hid ha
  have HP := Lib.hid h
  have HLN := Lib.hid hln
  have c5 : w.cell? ⟨B, 5, none⟩ = some (.int .i64 (a)) := by rw [← hln]; exact h.row.cell_ (i := 5) rfl
  clear h hl hx ha hln
  go_enter Tryz.func207, Tryz.ntmps207
  go_wp2_with fail
  clear c5
  have HO := Lib.hid (Only.refl (TurnB B A) w)
  refine (look_one B p A cp nv r (a + 1) (a + 3) _ HP.out HZ.out).mono ?_
  rintro e wN ⟨rfl, hO, nvN, hP⟩
  have HPN := Lib.hid hP
  have HON := Lib.hid (HO.out.trans hO)
  clear hO hP
  go_wp2
  go_ret
  exact ⟨rfl, HON.out, nvN, HPN.out⟩
set_option maxHeartbeats 1000000 in
theorem give_1 (B : Nat) (p A : Option Addr) (cp : Nat) (nv : Value) (r : LS) (tail a : Int) (w : World) (h : RunP w B p A cp nv r) (hl : r.ns.length ≤ 900) (hx : Words r.xs) (ha : 0 ≤ r.a ∧ r.a < 4294967296) (V : Value) (l : List Int) (hw : Whats B A w V l) (hm : l.length ≤ 90) (hr0 : -1000 ≤ a) (hr1 : a ≤ 1000) (hln : r.line = a + 1) (ht : r.casOut tail = true) :
    Calls Tryz.prog 207 #[Value.pointer (some ⟨B, 0, none⟩), .int .i64 tail, .int .i64 a, V] w (Done B p A cp w (.bool true) ((r.doA 5 tail r.me 0).notes l)) := by
  have HT := Lib.hid ht
  have HLEN := Lib.hid (show (r.doA 5 tail r.me 0).ns.length + l.length ≤ 1000 by show r.ns.length + _ ≤ _; omega)
  clear ht
  have HW := Lib.hid hw
  have HM := Lib.hid hm
  have e1 : (a + 1 == a) = false := beq_eq_false_iff_ne.2 (by omega)
  have e2 : (a + 2 == a) = false := beq_eq_false_iff_ne.2 (by omega)
  have e3 : (a + 2 == a + 1) = false := beq_eq_false_iff_ne.2 (by omega)
  have e4 : (a + 3 == a) = false := beq_eq_false_iff_ne.2 (by omega)
  have e5 : (a + 3 == a + 1) = false := beq_eq_false_iff_ne.2 (by omega)
  have e6 : (a + 3 == a + 2) = false := beq_eq_false_iff_ne.2 (by omega)
  clear hw hm
  have HX := Lib.hid hx
  have HL := Lib.hid hl
  have HA := Lib.hid ha
  have HP := Lib.hid h
  have HLN := Lib.hid hln
  have c5 : w.cell? ⟨B, 5, none⟩ = some (.int .i64 (a + 1)) := by rw [← hln]; exact h.row.cell_ (i := 5) rfl
  clear h hl hx ha hln
  go_enter Tryz.func207, Tryz.ntmps207
  go_wp2_with fail
  clear c5
  refine (empty_yes B p A cp nv r tail (a + 2) _ HP.out HT.out).mono ?_
  rintro e w1 ⟨rfl, hO, nv1, hP⟩
  have HP1 := Lib.hid hP
  have HO1 := Lib.hid hO
  clear hO hP
  have HWN := Lib.hid (HW.out.move HO1.out)
  go_wp2_with fail
  refine (notes_run B p A cp nv1 _ V l _ HP1.out HWN.out HLEN.out).mono ?_
  rintro e wM ⟨rfl, hO, nvM, hP⟩
  have HPM := Lib.hid hP
  have HOM := Lib.hid (HO1.out.trans hO)
  clear hO hP
  go_wp2
  go_ret
  exact ⟨rfl, HOM.out, nvM, HPM.out⟩
set_option maxHeartbeats 1000000 in
theorem give_1b (B : Nat) (p A : Option Addr) (cp : Nat) (nv : Value) (r : LS) (tail a : Int) (w : World) (h : RunP w B p A cp nv r) (hl : r.ns.length ≤ 900) (hx : Words r.xs) (ha : 0 ≤ r.a ∧ r.a < 4294967296) (V : Value) (l : List Int) (hw : Whats B A w V l) (hm : l.length ≤ 90) (hr0 : -1000 ≤ a) (hr1 : a ≤ 1000) (hln : r.line = a + 1) (ht : r.casOut tail = false) :
    Calls Tryz.prog 207 #[Value.pointer (some ⟨B, 0, none⟩), .int .i64 tail, .int .i64 a, V] w (Done B p A cp w (.bool false) ((r.doA 5 tail r.me 0).go (a + 2))) := by
  have HT := Lib.hid ht
  clear ht
  have HW := Lib.hid hw
  have HM := Lib.hid hm
  have e1 : (a + 1 == a) = false := beq_eq_false_iff_ne.2 (by omega)
  have e2 : (a + 2 == a) = false := beq_eq_false_iff_ne.2 (by omega)
  have e3 : (a + 2 == a + 1) = false := beq_eq_false_iff_ne.2 (by omega)
  have e4 : (a + 3 == a) = false := beq_eq_false_iff_ne.2 (by omega)
  have e5 : (a + 3 == a + 1) = false := beq_eq_false_iff_ne.2 (by omega)
  have e6 : (a + 3 == a + 2) = false := beq_eq_false_iff_ne.2 (by omega)
  clear hw hm
  have HX := Lib.hid hx
  have HL := Lib.hid hl
  have HA := Lib.hid ha
  have HP := Lib.hid h
  have HLN := Lib.hid hln
  have c5 : w.cell? ⟨B, 5, none⟩ = some (.int .i64 (a + 1)) := by rw [← hln]; exact h.row.cell_ (i := 5) rfl
  clear h hl hx ha hln
  go_enter Tryz.func207, Tryz.ntmps207
  go_wp2_with fail
  clear c5
  have HO := Lib.hid (Only.refl (TurnB B A) w)
  refine (empty_no B p A cp nv r tail (a + 2) _ HP.out HT.out).mono ?_
  rintro e wN ⟨rfl, hO, nvN, hP⟩
  have HPN := Lib.hid hP
  have HON := Lib.hid (HO.out.trans hO)
  clear hO hP
  go_wp2
  go_ret
  exact ⟨rfl, HON.out, nvN, HPN.out⟩
set_option maxHeartbeats 1000000 in
theorem give_2 (B : Nat) (p A : Option Addr) (cp : Nat) (nv : Value) (r : LS) (tail a : Int) (w : World) (h : RunP w B p A cp nv r) (hl : r.ns.length ≤ 900) (hx : Words r.xs) (ha : 0 ≤ r.a ∧ r.a < 4294967296) (V : Value) (l : List Int) (hw : Whats B A w V l) (hm : l.length ≤ 90) (hr0 : -1000 ≤ a) (hr1 : a ≤ 1000) (hln : r.line = a + 2) (hd : (r.stepR (nc r.n r.task) isN).done = true) :
    Calls Tryz.prog 207 #[Value.pointer (some ⟨B, 0, none⟩), .int .i64 tail, .int .i64 a, V] w (Done B p A cp w (.bool false) (r.seeN.go (a + 3))) := by
  have HD := Lib.hid hd
  clear hd
  have HW := Lib.hid hw
  have HM := Lib.hid hm
  have e1 : (a + 1 == a) = false := beq_eq_false_iff_ne.2 (by omega)
  have e2 : (a + 2 == a) = false := beq_eq_false_iff_ne.2 (by omega)
  have e3 : (a + 2 == a + 1) = false := beq_eq_false_iff_ne.2 (by omega)
  have e4 : (a + 3 == a) = false := beq_eq_false_iff_ne.2 (by omega)
  have e5 : (a + 3 == a + 1) = false := beq_eq_false_iff_ne.2 (by omega)
  have e6 : (a + 3 == a + 2) = false := beq_eq_false_iff_ne.2 (by omega)
  clear hw hm
  have HX := Lib.hid hx
  have HL := Lib.hid hl
  have HA := Lib.hid ha
  have HP := Lib.hid h
  have HLN := Lib.hid hln
  have c5 : w.cell? ⟨B, 5, none⟩ = some (.int .i64 (a + 2)) := by rw [← hln]; exact h.row.cell_ (i := 5) rfl
  clear h hl hx ha hln
  go_enter Tryz.func207, Tryz.ntmps207
  go_wp2_with fail
  clear c5
  have HO := Lib.hid (Only.refl (TurnB B A) w)
  refine (await_yes B p A cp nv r (a + 3) _ HP.out HX.out HD.out).mono ?_
  rintro e wN ⟨rfl, hO, nvN, hP⟩
  have HPN := Lib.hid hP
  have HON := Lib.hid (HO.out.trans hO)
  clear hO hP
  go_wp2
  go_ret
  exact ⟨rfl, HON.out, nvN, HPN.out⟩
set_option maxHeartbeats 1000000 in
theorem give_2b (B : Nat) (p A : Option Addr) (cp : Nat) (nv : Value) (r : LS) (tail a : Int) (w : World) (h : RunP w B p A cp nv r) (hl : r.ns.length ≤ 900) (hx : Words r.xs) (ha : 0 ≤ r.a ∧ r.a < 4294967296) (V : Value) (l : List Int) (hw : Whats B A w V l) (hm : l.length ≤ 90) (hr0 : -1000 ≤ a) (hr1 : a ≤ 1000) (hln : r.line = a + 2) (hd : (r.stepR (nc r.n r.task) isN).done = false) :
    Calls Tryz.prog 207 #[Value.pointer (some ⟨B, 0, none⟩), .int .i64 tail, .int .i64 a, V] w (Done B p A cp w (.bool false) r.seeN) := by
  have HD := Lib.hid hd
  clear hd
  have HW := Lib.hid hw
  have HM := Lib.hid hm
  have e1 : (a + 1 == a) = false := beq_eq_false_iff_ne.2 (by omega)
  have e2 : (a + 2 == a) = false := beq_eq_false_iff_ne.2 (by omega)
  have e3 : (a + 2 == a + 1) = false := beq_eq_false_iff_ne.2 (by omega)
  have e4 : (a + 3 == a) = false := beq_eq_false_iff_ne.2 (by omega)
  have e5 : (a + 3 == a + 1) = false := beq_eq_false_iff_ne.2 (by omega)
  have e6 : (a + 3 == a + 2) = false := beq_eq_false_iff_ne.2 (by omega)
  clear hw hm
  have HX := Lib.hid hx
  have HL := Lib.hid hl
  have HA := Lib.hid ha
  have HP := Lib.hid h
  have HLN := Lib.hid hln
  have c5 : w.cell? ⟨B, 5, none⟩ = some (.int .i64 (a + 2)) := by rw [← hln]; exact h.row.cell_ (i := 5) rfl
  clear h hl hx ha hln
  go_enter Tryz.func207, Tryz.ntmps207
  go_wp2_with fail
  clear c5
  have HO := Lib.hid (Only.refl (TurnB B A) w)
  refine (await_no B p A cp nv r (a + 3) _ HP.out HX.out HD.out).mono ?_
  rintro e wN ⟨rfl, hO, nvN, hP⟩
  have HPN := Lib.hid hP
  have HON := Lib.hid (HO.out.trans hO)
  clear hO hP
  go_wp2
  go_ret
  exact ⟨rfl, HON.out, nvN, HPN.out⟩
theorem notes_wake (l : List Int) : ∀ (r : LS) (c : Int), (r.wake c).notes l = (r.notes l).wake c := by
  induction l with
  | nil => intro r c; rfl
  | cons x l ih =>
    intro r c
    show ((r.wake c).note x 0).notes l = ((r.note x 0).notes l).wake c
    rw [← ih]
    rfl
set_option maxHeartbeats 1000000 in
theorem give_3 (B : Nat) (p A : Option Addr) (cp : Nat) (nv : Value) (r : LS) (tail a : Int) (w : World) (h : RunP w B p A cp nv r) (hl : r.ns.length ≤ 900) (hx : Words r.xs) (ha : 0 ≤ r.a ∧ r.a < 4294967296) (V : Value) (l : List Int) (hw : Whats B A w V l) (hm : l.length ≤ 90) (hr0 : -1000 ≤ a) (hr1 : a ≤ 1000) (hln : r.line = a + 3) :
    Calls Tryz.prog 207 #[Value.pointer (some ⟨B, 0, none⟩), .int .i64 tail, .int .i64 a, V] w (Done B p A cp w (.bool true) (r.handOn l)) := by
  have HE := Lib.hid (notes_wake l (r.doA 2 (bc r.n (r.a - 1)) 0 0) (bc r.n (r.a - 1)))
  have HLEN := Lib.hid (show ((r.doA 2 (bc r.n (r.a - 1)) 0 0).wake (bc r.n (r.a - 1))).ns.length + l.length ≤ 1000 by show r.ns.length + _ ≤ _; omega)
  rw [show r.handOn l = ((r.doA 2 (bc r.n (r.a - 1)) 0 0).wake (bc r.n (r.a - 1))).notes l from HE.out.symm]
  have HW := Lib.hid hw
  have HM := Lib.hid hm
  have e1 : (a + 1 == a) = false := beq_eq_false_iff_ne.2 (by omega)
  have e2 : (a + 2 == a) = false := beq_eq_false_iff_ne.2 (by omega)
  have e3 : (a + 2 == a + 1) = false := beq_eq_false_iff_ne.2 (by omega)
  have e4 : (a + 3 == a) = false := beq_eq_false_iff_ne.2 (by omega)
  have e5 : (a + 3 == a + 1) = false := beq_eq_false_iff_ne.2 (by omega)
  have e6 : (a + 3 == a + 2) = false := beq_eq_false_iff_ne.2 (by omega)
  clear hw hm
  have HX := Lib.hid hx
  have HL := Lib.hid hl
  have HA := Lib.hid ha
  have HP := Lib.hid h
  have HLN := Lib.hid hln
  have c5 : w.cell? ⟨B, 5, none⟩ = some (.int .i64 (a + 3)) := by rw [← hln]; exact h.row.cell_ (i := 5) rfl
  clear h hl hx ha hln
  go_enter Tryz.func207, Tryz.ntmps207
  go_upto_region 12 with (fail)
  have c1 : w.cell? ⟨B, 1, none⟩ = some (.int .i64 r.n) := HP.out.row.cell_ (i := 1) rfl
  refine wp_region_phase (n := 9) 8 (fun w => w.cell? ⟨B, 1, none⟩ = some (.int .i64 r.n)) rfl (by kernel_rfl) c1 (fun hHeld => ?_)
  have HP0 := Lib.hid (HP.out.keep (Only.refl Nil w).drew)
  have HO0 := Lib.hid ((Only.refl (TurnB B A) w).drew)
  clear c1 HP c5
  generalize w.drew = w0 at *
  refine za 0 rfl ?_
  refine za 1 rfl ?_
  refine za 2 rfl ?_
  refine za 3 rfl ?_
  refine zt 4 rfl ?_
  refine za 5 rfl ?_
  refine mpc 6 rfl (by kernel_rfl) (by rfl) (fun K hK => ?_)
  go_simp
  refine (kept_any B p A cp nv r _ HP0.out HA.out).mono ?_
  rintro e w1 ⟨rfl, rfl⟩
  refine hK.out _ _ (.inr hHeld) ?_
  clear hK K

  refine mpc 7 rfl (by kernel_rfl) (by rfl) (fun K hK => ?_)
  go_simp
  refine (blocked_any r.n (r.a - 1) _).mono ?_
  rintro e w1 ⟨rfl, hO⟩
  have HP1 := Lib.hid (HP0.out.keep hO)
  have HO1 := Lib.hid (HO0.out.trans (hO.mono (T := TurnB B A) (fun _ _ h => h.elim)))
  have hHeld2 : w1.cell? ⟨B, 1, none⟩ = some (.int .i64 r.n) := HP1.out.row.cell_ (i := 1) rfl
  refine hK.out _ _ (.inr hHeld2) ?_
  clear hK K hHeld hO HP0 HO0

  refine mpc 8 rfl (by kernel_rfl) (by rfl) (fun K hK => ?_)
  go_simp
  refine (tell_run B p A cp nv r (bc r.n (r.a - 1)) 0 _ HP1.out).mono ?_
  rintro e w2 ⟨rfl, hO, nv2, hP⟩
  have HP2 := Lib.hid hP
  have HO2 := Lib.hid (HO1.out.trans hO)
  refine hK.out _ _ (.inl (by kernel_rfl)) ?_
  clear hK K hHeld2 hO hP HP1 HO1

  refine wpAnyP_done (by kernel_rfl) ?_ _
  have HWN := Lib.hid (HW.out.move HO2.out)
  go_wp2_with fail
  refine (notes_run B p A cp nv2 _ V l _ HP2.out HWN.out HLEN.out).mono ?_
  rintro e wM ⟨rfl, hO, nvM, hP⟩
  have HPM := Lib.hid hP
  have HOM := Lib.hid (HO2.out.trans hO)
  clear hO hP
  go_wp2
  go_ret
  exact ⟨rfl, HOM.out, nvM, HPM.out⟩

set_option maxHeartbeats 1000000 in
theorem give_no (B : Nat) (p A : Option Addr) (cp : Nat) (nv : Value) (r : LS) (tail a : Int) (w : World) (h : RunP w B p A cp nv r) (hl : r.ns.length ≤ 900) (hx : Words r.xs) (ha : 0 ≤ r.a ∧ r.a < 4294967296) (V : Value) (l : List Int) (hw : Whats B A w V l) (hm : l.length ≤ 90) (hr0 : -1000 ≤ a) (hr1 : a ≤ 1000) (ln : Int) (hln : r.line = ln) (n0 : ln ≠ a) (n1 : ln ≠ a + 1) (n2 : ln ≠ a + 2) (n3 : ln ≠ a + 3) :
    Calls Tryz.prog 207 #[Value.pointer (some ⟨B, 0, none⟩), .int .i64 tail, .int .i64 a, V] w (Done B p A cp w (.bool false) r) := by
  have b0 : (ln == a) = false := beq_eq_false_iff_ne.2 n0
  have b1 : (ln == a + 1) = false := beq_eq_false_iff_ne.2 n1
  have b2 : (ln == a + 2) = false := beq_eq_false_iff_ne.2 n2
  have b3 : (ln == a + 3) = false := beq_eq_false_iff_ne.2 n3
  clear n0 n1 n2 n3
  have HW := Lib.hid hw
  have HM := Lib.hid hm
  have e1 : (a + 1 == a) = false := beq_eq_false_iff_ne.2 (by omega)
  have e2 : (a + 2 == a) = false := beq_eq_false_iff_ne.2 (by omega)
  have e3 : (a + 2 == a + 1) = false := beq_eq_false_iff_ne.2 (by omega)
  have e4 : (a + 3 == a) = false := beq_eq_false_iff_ne.2 (by omega)
  have e5 : (a + 3 == a + 1) = false := beq_eq_false_iff_ne.2 (by omega)
  have e6 : (a + 3 == a + 2) = false := beq_eq_false_iff_ne.2 (by omega)
  clear hw hm
  have HX := Lib.hid hx
  have HL := Lib.hid hl
  have HA := Lib.hid ha
  have HP := Lib.hid h
  have HLN := Lib.hid hln
  have c5 : w.cell? ⟨B, 5, none⟩ = some (.int .i64 (ln)) := by rw [← hln]; exact h.row.cell_ (i := 5) rfl
  clear h hl hx ha hln
  go_enter Tryz.func207, Tryz.ntmps207
  go_wp2
  go_ret
  exact ⟨rfl, Only.refl _ _, nv, HP.out⟩

/-- Giving on, of any run. -/
theorem give_run (B : Nat) (p A : Option Addr) (cp : Nat) (nv : Value) (r : LS) (tail a : Int) (w : World) (h : RunP w B p A cp nv r) (hl : r.ns.length ≤ 900) (hx : Words r.xs) (ha : 0 ≤ r.a ∧ r.a < 4294967296) (V : Value) (l : List Int) (hw : Whats B A w V l) (hm : l.length ≤ 90) (hr0 : -1000 ≤ a) (hr1 : a ≤ 1000) :
    Calls Tryz.prog 207 #[Value.pointer (some ⟨B, 0, none⟩), .int .i64 tail, .int .i64 a, V] w (Done B p A cp w (.bool (r.mxGive tail a l).2) (r.mxGive tail a l).1) := by
  by_cases l0 : r.line = a
  · by_cases hz : wordAt r.xs (nc r.n r.task) = 0
    · rw [show r.mxGive tail a l = _ by unfold LS.mxGive; rw [if_pos l0, if_pos hz]]
      exact give_0 B p A cp nv r tail a w h hl hx ha V l hw hm hr0 hr1 l0 hz
    · rw [show r.mxGive tail a l = _ by unfold LS.mxGive; rw [if_pos l0, if_neg hz]]
      exact give_0b B p A cp nv r tail a w h hl hx ha V l hw hm hr0 hr1 l0 hz
  by_cases l1 : r.line = a + 1
  · cases hz : r.casOut tail
    · rw [show r.mxGive tail a l = _ by unfold LS.mxGive; rw [if_neg l0, if_pos l1, hz, if_neg Bool.false_ne_true]]
      exact give_1b B p A cp nv r tail a w h hl hx ha V l hw hm hr0 hr1 l1 hz
    · rw [show r.mxGive tail a l = _ by unfold LS.mxGive; rw [if_neg l0, if_pos l1, hz, if_pos rfl]]
      exact give_1 B p A cp nv r tail a w h hl hx ha V l hw hm hr0 hr1 l1 hz
  by_cases l2 : r.line = a + 2
  · cases hz : (r.stepR (nc r.n r.task) isN).done
    · rw [show r.mxGive tail a l = _ by unfold LS.mxGive; rw [if_neg l0, if_neg l1, if_pos l2, hz, if_neg Bool.false_ne_true]]
      exact give_2b B p A cp nv r tail a w h hl hx ha V l hw hm hr0 hr1 l2 hz
    · rw [show r.mxGive tail a l = _ by unfold LS.mxGive; rw [if_neg l0, if_neg l1, if_pos l2, hz, if_pos rfl]]
      exact give_2 B p A cp nv r tail a w h hl hx ha V l hw hm hr0 hr1 l2 hz
  by_cases l3 : r.line = a + 3
  · rw [show r.mxGive tail a l = _ by unfold LS.mxGive; rw [if_neg l0, if_neg l1, if_neg l2, if_pos l3]]
    exact give_3 B p A cp nv r tail a w h hl hx ha V l hw hm hr0 hr1 l3
  · rw [show r.mxGive tail a l = _ by unfold LS.mxGive; rw [if_neg l0, if_neg l1, if_neg l2, if_neg l3]]
    exact give_no B p A cp nv r tail a w h hl hx ha V l hw hm hr0 hr1 _ rfl l0 l1 l2 l3
theorem give_nil (tail a : Int) (V : Value) (w : World) : Calls Tryz.prog 207 #[.pointer none, .int .i64 tail, .int .i64 a, V] w fun e w' => e = .returned (.bool false) ∧ w = w' := by
  go_enter Tryz.func207, Tryz.ntmps207
  go_wp2
  go_ret
  exact ⟨rfl, rfl⟩
end Go.Proofs.YtigdbokfapedcaaGreat
/- What a lock's stepOf comes back with, handed on. -/
set_option linter.unusedVariables false
set_option linter.unusedSimpArgs false
namespace Go.Proofs.YtigdbokfapedcaaGreat
open Go.RowKit
/-- A call that comes back with a closure or nil, handed on. -/
theorem passed {FS : List Nat} {FM : FuncId} {args : Array Value} {B : Nat} {p A : Option Addr} {cp : Nat} {r r' : LS} {w0 w : World} {Q : Ending → World → Prop} (h : Calls Tryz.prog FM args w (ClS FS B p A cp r r' w)) (ho : Only Nil w0 w)
    (k1 : ∀ F caps w', Hid (ClS FS B p A cp r r' w0 (.returned (.func (.func F) #[] caps)) w') → Q (.returned (.func (.func F) #[] caps)) w') (k2 : ∀ w', Hid (ClS FS B p A cp r r' w0 (.returned .nilFunc) w') → Q (.returned .nilFunc) w') : Calls Tryz.prog FM args w Q := by
  refine h.mono ?_
  rintro e w' (⟨F, hF, caps, rfl, hO, hC⟩ | ⟨rfl, hO, hr⟩)
  · exact k1 F caps w' (Lib.hid (.inl ⟨F, hF, caps, rfl, ho.trans hO, hC⟩))
  · exact k2 w' (Lib.hid (.inr ⟨rfl, ho.trans hO, hr⟩))
end Go.Proofs.YtigdbokfapedcaaGreat
/- A change of the word, its notes, a wake-up, the end. -/
set_option linter.unusedVariables false
set_option linter.unusedSimpArgs false
namespace Go.Proofs.YtigdbokfapedcaaGreat
def LS.fChange (r : LS) (x : Int) (l : List Int) : LS := (((r.doA 3 0 x 0).notes l).wake 0).fin true
end Go.Proofs.YtigdbokfapedcaaGreat
/- Contracts of diff: Put, Bump. -/
namespace Go.Proofs.YtigdbokfapedcaaGreat
open Go.RowKit

theorem put_no (v s n x : Int) (w : World) (h : isF s n = false) :
    Calls Tryz.prog 232 #[.int .u32 v, .int .i64 s, .int .i64 n, .int .u32 x] w fun e w' => e = .returned (.int .u32 v) ∧ w = w' := by
  have H := Lib.hid h
  clear h
  go_enter Tryz.func232, Tryz.ntmps232
  go_wp2_with fail
  refine (isField_no s n _ H.out).mono ?_
  rintro e w1 ⟨rfl, rfl⟩
  go_wp2
  go_ret
  exact ⟨rfl, rfl⟩

theorem put_yes (v s n x : Int) (w : World) (h : isF s n = true) (hv : 0 ≤ v ∧ v < 4294967296) (hx : 0 ≤ x ∧ x < 4294967296) :
    Calls Tryz.prog 232 #[.int .u32 v, .int .i64 s, .int .i64 n, .int .u32 x] w fun e w' => e = .returned (.int .u32 (putIn v s n x)) ∧ Drew w w' := by
  have E := Lib.hid (put_bits (x := x) h hv)
  obtain ⟨h1, h2, h3, h4, h5⟩ := isF_iff.1 h
  have E2 := Lib.hid (and_low (n := n) hx ⟨by omega, h4⟩)
  obtain ⟨h6, h7⟩ := hv
  have H := Lib.hid h
  clear h hx
  go_enter Tryz.func232, Tryz.ntmps232
  go_wp2_with fail
  refine (isField_yes s n _ H.out).mono ?_
  rintro e w1 ⟨rfl, rfl⟩
  go_wp2
  go_quiet ((exact low_quiet _ _ _ h3 h4))
  go_wp2
  go_ret
  refine ⟨congrArg (fun x => Ending.returned (.int .u32 x)) ?_, Drew.n _ _⟩
  rw [E2.out]
  exact E.out

theorem put_any (v s n x : Int) (w : World) (hv : 0 ≤ v ∧ v < 4294967296) (hx : 0 ≤ x ∧ x < 4294967296) :
    Calls Tryz.prog 232 #[.int .u32 v, .int .i64 s, .int .i64 n, .int .u32 x] w fun e w' => e = .returned (.int .u32 (putI v s n x)) ∧ Drew w w' := by
  cases h : isF s n
  · refine (put_no v s n x w h).mono fun e w' ⟨he, hw⟩ => ⟨?_, Drew.of_eq hw⟩
    rw [he]; simp [putI, h]
  · refine (put_yes v s n x w h hv hx).mono fun e w' ⟨he, hw⟩ => ⟨?_, hw⟩
    rw [he]; simp [putI, h]

theorem bump_any (v s n : Int) (w : World) (hv : 0 ≤ v ∧ v < 4294967296) :
    Calls Tryz.prog 157 #[.int .u32 v, .int .i64 s, .int .i64 n] w fun e w' => e = .returned (.int .u32 (bumpI v s n)) ∧ Drew w w' := by
  have HV := Lib.hid hv
  clear hv
  go_enter Tryz.func157, Tryz.ntmps157
  go_wp2_with fail
  refine (get_any v s n _ HV.out).mono ?_
  rintro e w1 ⟨rfl, hd⟩
  have HD := Lib.hid hd
  clear hd
  go_wp2_with fail
  refine (put_any v s n _ _ HV.out ?_).mono ?_
  · omega
  rintro e w2 ⟨rfl, hd⟩
  have HD2 := Lib.hid hd
  clear hd
  go_wp2
  go_ret
  exact ⟨rfl, HD.out.trans HD2.out⟩
end Go.Proofs.YtigdbokfapedcaaGreat
/- The suite: which operation may be begun, what is held from its beginning on, and behind its end. -/
set_option linter.unusedVariables false
set_option linter.unusedSimpArgs false
namespace Go.Proofs.YtigdbokfapedcaaGreat
open Go.RowKit

/-- May one that holds h begin the operation o? -/
def suMay (o h : Int) : Bool := if o = 1 ∨ o = 3 ∨ o = 5 ∨ o = 6 then h == 0 else if o = 2 ∨ o = 7 then h == 1 else if o = 4 ∨ o = 8 then h == 2 else false
/-- What is held from its beginning on. -/
def atI (o h : Int) : Int := if o = 2 ∨ o = 4 then 0 else if o = 8 then 1 else h
/-- What is held behind its end with r. -/
def behI (o r h : Int) : Int := if r = 2 then (if o = 1 ∨ o = 5 then 1 else if o = 3 ∨ o = 6 ∨ o = 7 then 2 else h) else h

theorem op_cases (o : Int) : o = 1 ∨ o = 2 ∨ o = 3 ∨ o = 4 ∨ o = 5 ∨ o = 6 ∨ o = 7 ∨ o = 8 ∨ (¬ o = 1 ∧ ¬ o = 2 ∧ ¬ o = 3 ∧ ¬ o = 4 ∧ ¬ o = 5 ∧ ¬ o = 6 ∧ ¬ o = 7 ∧ ¬ o = 8) := by omega
theorem may_none {o : Int} (h : ¬ o = 1 ∧ ¬ o = 2 ∧ ¬ o = 3 ∧ ¬ o = 4 ∧ ¬ o = 5 ∧ ¬ o = 6 ∧ ¬ o = 7 ∧ ¬ o = 8) (x : Int) : suMay o x = false := by
  unfold suMay
  rw [if_neg (by omega), if_neg (by omega), if_neg (by omega)]
theorem beh_none {o : Int} (h : ¬ o = 1 ∧ ¬ o = 2 ∧ ¬ o = 3 ∧ ¬ o = 4 ∧ ¬ o = 5 ∧ ¬ o = 6 ∧ ¬ o = 7 ∧ ¬ o = 8) (r x : Int) : behI o r x = x := by
  unfold behI
  by_cases hr : r = 2
  · rw [if_pos hr, if_neg (by omega), if_neg (by omega)]
  · rw [if_neg hr]

theorem may_any (o h : Int) (w : World) : Calls Tryz.prog 76 #[.int .i64 o, .int .i64 h] w fun e w' => e = .returned (.bool (suMay o h)) ∧ w = w' := by
  rcases op_cases o with rfl | rfl | rfl | rfl | rfl | rfl | rfl | rfl | ⟨h1, h2, h3, h4, h5, h6, h7, h8⟩
  all_goals (try rw [show ∀ x, suMay 1 x = (x == 0) from fun _ => rfl])
  all_goals (try rw [show ∀ x, suMay 2 x = (x == 1) from fun _ => rfl])
  all_goals (try rw [show ∀ x, suMay 3 x = (x == 0) from fun _ => rfl])
  all_goals (try rw [show ∀ x, suMay 4 x = (x == 2) from fun _ => rfl])
  all_goals (try rw [show ∀ x, suMay 5 x = (x == 0) from fun _ => rfl])
  all_goals (try rw [show ∀ x, suMay 6 x = (x == 0) from fun _ => rfl])
  all_goals (try rw [show ∀ x, suMay 7 x = (x == 1) from fun _ => rfl])
  all_goals (try rw [show ∀ x, suMay 8 x = (x == 2) from fun _ => rfl])
  all_goals (try rw [may_none ⟨h1, h2, h3, h4, h5, h6, h7, h8⟩])
  all_goals
    go_enter Tryz.func76, Tryz.ntmps76
    go_wp2
    go_ret
    exact ⟨rfl, rfl⟩

theorem beh_any (o r h : Int) (w : World) : Calls Tryz.prog 166 #[.int .i64 o, .int .i64 r, .int .i64 h] w fun e w' => e = .returned (.int .i64 (behI o r h)) ∧ w = w' := by
  by_cases hr : r = 2
  · subst hr
    rcases op_cases o with rfl | rfl | rfl | rfl | rfl | rfl | rfl | rfl | ⟨h1, h2, h3, h4, h5, h6, h7, h8⟩
    all_goals (try rw [show ∀ x, behI 1 2 x = 1 from fun _ => rfl])
    all_goals (try rw [show ∀ x, behI 2 2 x = x from fun _ => rfl])
    all_goals (try rw [show ∀ x, behI 3 2 x = 2 from fun _ => rfl])
    all_goals (try rw [show ∀ x, behI 4 2 x = x from fun _ => rfl])
    all_goals (try rw [show ∀ x, behI 5 2 x = 1 from fun _ => rfl])
    all_goals (try rw [show ∀ x, behI 6 2 x = 2 from fun _ => rfl])
    all_goals (try rw [show ∀ x, behI 7 2 x = 2 from fun _ => rfl])
    all_goals (try rw [show ∀ x, behI 8 2 x = x from fun _ => rfl])
    all_goals (try rw [beh_none ⟨h1, h2, h3, h4, h5, h6, h7, h8⟩])
    all_goals
      go_enter Tryz.func166, Tryz.ntmps166
      go_wp2
      go_ret
      exact ⟨rfl, rfl⟩
  · rw [show behI o r h = h from if_neg hr]
    go_enter Tryz.func166, Tryz.ntmps166
    go_wp2
    go_ret
    exact ⟨rfl, rfl⟩
end Go.Proofs.YtigdbokfapedcaaGreat
/- The suite's At. -/
set_option linter.unusedVariables false
set_option linter.unusedSimpArgs false
namespace Go.Proofs.YtigdbokfapedcaaGreat
open Go.RowKit
theorem suat_any (o h : Int) (w : World) : Calls Tryz.prog 78 #[.int .i64 o, .int .i64 h] w fun e w' => e = .returned (.int .i64 (atI o h)) ∧ w = w' := by
  by_cases h2 : o = 2
  · subst h2
    rw [show atI 2 h = 0 from rfl]
    go_enter Tryz.func78, Tryz.ntmps78
    go_wp2
    go_ret
    exact ⟨rfl, rfl⟩
  by_cases h4 : o = 4
  · subst h4
    rw [show atI 4 h = 0 from rfl]
    go_enter Tryz.func78, Tryz.ntmps78
    go_wp2
    go_ret
    exact ⟨rfl, rfl⟩
  by_cases h8 : o = 8
  · subst h8
    rw [show atI 8 h = 1 from rfl]
    go_enter Tryz.func78, Tryz.ntmps78
    go_wp2
    go_ret
    exact ⟨rfl, rfl⟩
  · rw [show atI o h = h by unfold atI; rw [if_neg (by omega), if_neg h8]]
    go_enter Tryz.func78, Tryz.ntmps78
    go_wp2
    go_ret
    exact ⟨rfl, rfl⟩
end Go.Proofs.YtigdbokfapedcaaGreat
/- The operations' words, in plain words. -/
set_option linter.unusedVariables false
set_option linter.unusedSimpArgs false
namespace Go.Proofs.YtigdbokfapedcaaGreat
open Go.RowKit
def opW (o : Int) : ByteArray := if o = 1 then ⟨#[114, 108, 111, 99, 107]⟩ else if o = 2 then ⟨#[114, 117, 110, 108, 111, 99, 107]⟩ else if o = 3 then ⟨#[108, 111, 99, 107]⟩ else if o = 4 then ⟨#[117, 110, 108, 111, 99, 107]⟩ else if o = 5 then ⟨#[116, 114, 121, 114, 108, 111, 99, 107]⟩ else if o = 6 then ⟨#[116, 114, 121, 108, 111, 99, 107]⟩ else if o = 7 then ⟨#[117, 112, 103, 114, 97, 100, 101]⟩ else if o = 8 then ⟨#[100, 111, 119, 110, 103, 114, 97, 100, 101]⟩ else ⟨#[]⟩
theorem opW_some {o : Int} (h : 1 ≤ o ∧ o ≤ 8) : (opW o).toList.isEmpty = false := by
  have hc : o = 1 ∨ o = 2 ∨ o = 3 ∨ o = 4 ∨ o = 5 ∨ o = 6 ∨ o = 7 ∨ o = 8 := by omega
  rcases hc with h | h | h | h | h | h | h | h
  · subst h
    exact (show (opW 1).toList.isEmpty = false by kernel_rfl)
  · subst h
    exact (show (opW 2).toList.isEmpty = false by kernel_rfl)
  · subst h
    exact (show (opW 3).toList.isEmpty = false by kernel_rfl)
  · subst h
    exact (show (opW 4).toList.isEmpty = false by kernel_rfl)
  · subst h
    exact (show (opW 5).toList.isEmpty = false by kernel_rfl)
  · subst h
    exact (show (opW 6).toList.isEmpty = false by kernel_rfl)
  · subst h
    exact (show (opW 7).toList.isEmpty = false by kernel_rfl)
  · subst h
    exact (show (opW 8).toList.isEmpty = false by kernel_rfl)
theorem opW_none {o : Int} (h : ¬ (1 ≤ o ∧ o ≤ 8)) : opW o = ⟨#[]⟩ := by
  unfold opW
  rw [if_neg (by omega), if_neg (by omega), if_neg (by omega), if_neg (by omega), if_neg (by omega), if_neg (by omega), if_neg (by omega), if_neg (by omega)]
end Go.Proofs.YtigdbokfapedcaaGreat
/- Is there such an operation? The program's. -/
set_option linter.unusedVariables false
set_option linter.unusedSimpArgs false
namespace Go.Proofs.YtigdbokfapedcaaGreat
open Go.RowKit
def opCs : Array Value := #[.string ⟨#[]⟩, .string (opW 1), .string (opW 2), .string (opW 3), .string (opW 4), .string (opW 5), .string (opW 6), .string (opW 7), .string (opW 8)]
theorem opWs_any (w : World) : Calls Tryz.prog 75 #[] w fun e w' => ∃ g, e = .returned (.slice (some ⟨g, 0, none⟩) 9 9) ∧ Row w' g 9 opCs ∧ Only Nil w w' := by
  go_enter Tryz.func75, Tryz.ntmps75
  go_wp2
  go_ret
  exact ⟨_, rfl, Row.new w 9 opCs, (Only.refl Nil w).alloc _⟩
theorem opWord_in (g k : Nat) (X : ByteArray) (w : World) (hk : k < 9) (h : w.cell? ⟨g, k, none⟩ = some (.string X)) : Calls Tryz.prog 74 #[.slice (some ⟨g, 0, none⟩) 9 9, .int .i64 k] w fun e w' => e = .returned (.string X) ∧ w = w' := by
  have h0 : decide ((k : Int) < 0) = false := by simp
  have h1 : ¬ (9 : Int) ≤ k := by omega
  have h2 : (k : Int) < 9 := by omega
  go_enter Tryz.func74, Tryz.ntmps74
  go_wp2
  go_ret
  exact ⟨rfl, rfl⟩
theorem opWord_out (g : Nat) (x : Int) (w : World) (h : x < 0 ∨ 9 ≤ x) : Calls Tryz.prog 74 #[.slice (some ⟨g, 0, none⟩) 9 9, .int .i64 x] w fun e w' => e = .returned (.string ⟨#[]⟩) ∧ w = w' := by
  rcases h with h | h
  · go_enter Tryz.func74, Tryz.ntmps74
    go_wp2
    go_ret
    exact ⟨rfl, rfl⟩
  · have h0 : decide (x < 0) = false := decide_eq_false (by omega)
    go_enter Tryz.func74, Tryz.ntmps74
    go_wp2
    go_ret
    exact ⟨rfl, rfl⟩
theorem opCs_at {k : Nat} (hk : k < 9) : opCs[k]? = some (.string (opW k)) := by
  have hc : k = 0 ∨ k = 1 ∨ k = 2 ∨ k = 3 ∨ k = 4 ∨ k = 5 ∨ k = 6 ∨ k = 7 ∨ k = 8 := by omega
  rcases hc with rfl | rfl | rfl | rfl | rfl | rfl | rfl | rfl | rfl <;> rfl
theorem op_any (o : Int) (W : World) : Calls Tryz.prog 37 #[.int .i64 o] W fun e w' => e = .returned (.string (opW o)) ∧ Only Nil W w' := by
  go_enter Tryz.func37, Tryz.ntmps37
  go_wp2_with fail
  refine (opWs_any _).mono ?_
  rintro e w1 ⟨g, rfl, hR, hO⟩
  have HR := Lib.hid hR
  have HO := Lib.hid hO
  clear hR hO
  go_wp2_with fail
  have hw : Calls Tryz.prog 74 #[.slice (some ⟨g, 0, none⟩) 9 9, .int .i64 o] w1 fun e w' => e = .returned (.string (opW o)) ∧ w1 = w' := by
    by_cases h : 0 ≤ o ∧ o < 9
    · obtain ⟨k, rfl⟩ : ∃ k : Nat, o = k := ⟨o.toNat, by omega⟩
      exact opWord_in g k _ w1 (by omega) (HR.out.cell_ (opCs_at (by omega)))
    · rw [opW_none (by omega)]
      exact opWord_out g o w1 (by omega)
  refine hw.mono ?_
  rintro e w2 ⟨rfl, rfl⟩
  clear hw
  go_wp2
  go_ret
  exact ⟨rfl, HO.out⟩
end Go.Proofs.YtigdbokfapedcaaGreat
/- A list of tasks, new. -/
set_option linter.unusedVariables false
set_option linter.unusedSimpArgs false
namespace Go.Proofs.YtigdbokfapedcaaGreat
open Go.RowKit
def zeroT : Array Value := #[.int .i64 0, .int .i64 0, .int .i64 0, .int .u32 0, .int .u32 0, .int .i64 0, .bool false, .int .i64 0, .int .i64 0, .bool false, .int .i64 0]
theorem infoT : (Tryz.prog.info? 86).map (fun i => (i.zero, i.size, i.bytes)) = some (some (.agg zeroT), 11, 80) := by kernel_rfl
theorem make_tasks (k : Nat) (hk : k ≤ 64) (W : World) :
    (Instr.makeSlice 55 (.int .i64 (k : Int)) (.int .i64 (k : Int))).run Tryz.prog W = .ok (.slice (some ⟨W.heap.size, 0, none⟩) k k) (W.alloc (.cells (madeCells zeroT (k * 11)) 86)) := by
  obtain ⟨i, hi, hzz⟩ := Option.map_eq_some_iff.1 infoT
  simp only [Prod.mk.injEq] at hzz
  obtain ⟨hz, hs, hb⟩ := hzz
  have hr := run_make (P := Tryz.prog) W 55 86 i (.agg zeroT) Tryz.underlying55 hi hz .i64 .i64 k k (by omega) (Int.le_refl _) (by rw [hb]; omega) (by omega)
  simp only [Int.toNat_natCast, hs] at hr
  exact hr
theorem tasks_zero {w : World} {g k : Nat} {h : Nat → Int} {f : Nat → LS} (hz : ∀ i, i < k → taskCs (h i) (f i) = zeroT) (hr : Row w g 86 (madeCells zeroT (k * 11))) : Tasks w g k h f := by
  refine tasks_new w k h f _ (size_madeCells _ _) (fun i hi j v hj => ?_) hr
  rw [hz i hi] at hj
  have h11 : j < 11 := by
    have := (Array.getElem?_eq_some_iff.1 hj).1
    exact this
  have hlt : i * 11 + j < k * 11 := by omega
  unfold madeCells
  rw [Array.getElem?_map, Array.getElem?_range, if_pos hlt]
  show some (zeroT[(i * 11 + j) % 11]!) = some v
  rw [show (i * 11 + j) % 11 = j by omega, getElem!_def, hj]
end Go.Proofs.YtigdbokfapedcaaGreat
/- place.New. -/
set_option linter.unusedVariables false
set_option linter.unusedSimpArgs false
namespace Go.Proofs.YtigdbokfapedcaaGreat
open Go.RowKit

theorem new_yes (n : Int) (w : World) (hn : 1 ≤ n ∧ n ≤ 64) :
    Calls Tryz.prog 14 #[.int .i64 n] w fun e w' => e = .returned (.tuple #[.agg #[.int .i64 n], .int .i64 0]) ∧ Only Nil w w' := by
  have HK := Lib.hid (okN_yes hn)
  clear hn
  go_enter Tryz.func14, Tryz.ntmps14
  go_wp2_with fail
  refine (isCount_any n _).mono ?_
  rw [HK.out]
  rintro e w1 ⟨rfl, rfl⟩
  go_wp2
  exact bodyPost_ret (v := .tuple #[.agg #[.int .i64 n], .int .i64 0]) (by simp [results, Tryz.results14, go_sem]) rfl ⟨rfl, by (repeat' (first | (with_reducible exact Only.refl _ _) | (with_reducible assumption) | (with_reducible refine Only.setCell ?_ ?_ _) | (with_reducible refine Only.drewN ?_ _) | (with_reducible refine Only.drew ?_) | (with_reducible refine Only.alloc ?_ _) | (left; simp; done) | (left; simp; omega) | (right; rfl)))⟩

theorem new_no (n : Int) (w : World) (hn : ¬ (1 ≤ n ∧ n ≤ 64)) :
    Calls Tryz.prog 14 #[.int .i64 n] w fun e w' => e = .returned (.tuple #[.agg #[.int .i64 0], .int .i64 2]) ∧ Only Nil w w' := by
  have HK := Lib.hid (okN_no hn)
  clear hn
  go_enter Tryz.func14, Tryz.ntmps14
  go_wp2_with fail
  refine (isCount_any n _).mono ?_
  rw [HK.out]
  rintro e w1 ⟨rfl, rfl⟩
  go_wp2
  exact bodyPost_ret (v := .tuple #[.agg #[.int .i64 0], .int .i64 2]) (by simp [results, Tryz.results14, go_sem]) rfl ⟨rfl, by (repeat' (first | (with_reducible exact Only.refl _ _) | (with_reducible assumption) | (with_reducible refine Only.setCell ?_ ?_ _) | (with_reducible refine Only.drewN ?_ _) | (with_reducible refine Only.drew ?_) | (with_reducible refine Only.alloc ?_ _) | (left; simp; done) | (left; simp; omega) | (right; rfl)))⟩
end Go.Proofs.YtigdbokfapedcaaGreat
/- place.Map's Size. -/
set_option linter.unusedVariables false
set_option linter.unusedSimpArgs false
namespace Go.Proofs.YtigdbokfapedcaaGreat
open Go.RowKit

theorem size_any (n : Int) (w : World) :
    Calls Tryz.prog 32 #[.agg #[.int .i64 n]] w fun e w' => e = .returned (.int .i64 (sizeI n)) ∧ Only Nil w w' := by
  by_cases hn : 1 ≤ n ∧ n ≤ 64
  · have hc : sizeI n = 8 + 4 * n := if_pos hn
    rw [hc]
    clear hc
    have HK := Lib.hid (okN_yes hn)
    obtain ⟨n1, n2⟩ := hn
    go_enter Tryz.func32, Tryz.ntmps32
    go_wp2_with fail
    refine (isCount_any n _).mono ?_
    rw [HK.out]
    rintro e w1 ⟨rfl, rfl⟩
    go_wp2
    go_ret
    exact ⟨rfl, by (repeat' (first | (with_reducible exact Only.refl _ _) | (with_reducible assumption) | (with_reducible refine Only.setCell ?_ ?_ _) | (with_reducible refine Only.drewN ?_ _) | (with_reducible refine Only.drew ?_) | (with_reducible refine Only.alloc ?_ _) | (left; simp; done) | (left; simp; omega) | (right; rfl)))⟩
  · have hc : sizeI n = 0 := if_neg hn
    rw [hc]
    clear hc
    have HK := Lib.hid (okN_no hn)
    clear hn
    go_enter Tryz.func32, Tryz.ntmps32
    go_wp2_with fail
    refine (isCount_any n _).mono ?_
    rw [HK.out]
    rintro e w1 ⟨rfl, rfl⟩
    go_wp2
    go_ret
    exact ⟨rfl, by (repeat' (first | (with_reducible exact Only.refl _ _) | (with_reducible assumption) | (with_reducible refine Only.setCell ?_ ?_ _) | (with_reducible refine Only.drewN ?_ _) | (with_reducible refine Only.drew ?_) | (with_reducible refine Only.alloc ?_ _) | (left; simp; done) | (left; simp; omega) | (right; rfl)))⟩
end Go.Proofs.YtigdbokfapedcaaGreat
/- The names of a kind's own cells: the reference's (a switch), the program's (a map of lists). -/
namespace Go.Proofs.YtigdbokfapedcaaGreat
open Go.RowKit

def names1 : Array Value := #[.string ⟨#[117, 115, 101, 114, 115]⟩, .string ⟨#[114, 101, 97, 100, 115]⟩, .string ⟨#[119, 114, 105, 116, 101, 115]⟩]
def names2 : Array Value := #[.string ⟨#[114, 105, 110]⟩, .string ⟨#[114, 111, 117, 116]⟩, .string ⟨#[119, 105, 110]⟩, .string ⟨#[119, 111, 117, 116]⟩, .string ⟨#[112, 104, 97, 115, 101]⟩]
def names3 : Array Value := #[.string ⟨#[114, 105, 110]⟩, .string ⟨#[114, 111, 117, 116]⟩, .string ⟨#[116, 97, 105, 108]⟩, .string ⟨#[112, 104, 97, 115, 101]⟩]
def names4 : Array Value := #[.string ⟨#[116, 97, 105, 108]⟩, .string ⟨#[99, 111, 117, 110, 116]⟩]
def names5 : Array Value := #[.string ⟨#[119, 111, 114, 100]⟩]
def names6 : Array Value := #[.string ⟨#[119, 111, 114, 100]⟩]
/-- The names of a kind's own cells. -/
def ownV (k : Int) : Array Value := if k = 1 then names1 else if k = 2 then names2 else if k = 3 then names3 else if k = 4 then names4 else if k = 5 then names5 else if k = 6 then names6 else #[]
theorem ownV_none {k : Int} (h : ¬ (1 ≤ k ∧ k ≤ 6)) : ownV k = #[] := by
  unfold ownV
  repeat' (first | rfl | (rw [if_neg (by omega)]))
theorem kinds {k : Int} (h : 1 ≤ k ∧ k ≤ 6) : k = 1 ∨ k = 2 ∨ k = 3 ∨ k = 4 ∨ k = 5 ∨ k = 6 := by omega

theorem name_at (k : Int) (hk : 1 ≤ k ∧ k ≤ 6) (c : Nat) (hc : c < (ownV k).size) : ∃ s, (ownV k)[c]? = some (.string s) := by
  rcases kinds hk with rfl | rfl | rfl | rfl | rfl | rfl
  · rcases (show c = 0 ∨ c = 1 ∨ c = 2 by have : c < 3 := hc; omega) with rfl | rfl | rfl <;> exact ⟨_, rfl⟩
  · rcases (show c = 0 ∨ c = 1 ∨ c = 2 ∨ c = 3 ∨ c = 4 by have : c < 5 := hc; omega) with rfl | rfl | rfl | rfl | rfl <;> exact ⟨_, rfl⟩
  · rcases (show c = 0 ∨ c = 1 ∨ c = 2 ∨ c = 3 by have : c < 4 := hc; omega) with rfl | rfl | rfl | rfl <;> exact ⟨_, rfl⟩
  · rcases (show c = 0 ∨ c = 1 by have : c < 2 := hc; omega) with rfl | rfl <;> exact ⟨_, rfl⟩
  · rcases (show c = 0 by have : c < 1 := hc; omega) with rfl; exact ⟨_, rfl⟩
  · rcases (show c = 0 by have : c < 1 := hc; omega) with rfl; exact ⟨_, rfl⟩
theorem own_size (k : Int) (hk : 1 ≤ k ∧ k ≤ 6) : 1 ≤ (ownV k).size ∧ (ownV k).size ≤ 5 := by
  rcases kinds hk with rfl | rfl | rfl | rfl | rfl | rfl <;> exact ⟨by decide, by decide⟩

/-- A list of a kind's names of the call's own. -/
def NamesAt (k : Int) (w : World) (e : Ending) (w' : World) : Prop :=
  ∃ g, e = .returned (.slice (some ⟨g, 0, none⟩) (ownV k).size (ownV k).size) ∧ w.heap.size ≤ g ∧ Row w' g 9 (ownV k) ∧ Only Nil w w'

/-- An element of the map is read as itself. -/
def asIs (v : Value) : Option (DataW Value × List MemPlace) := some (.held v, [])
abbrev key (k : Int) : Lit := .int .i64 k

theorem wpList_insert_own {H : Type} {P : Program} (w : World) {ops : Array Oper} {rest : List Oper} {o : Oper} {a : Act} {Q : Exit → Act → World → Prop}
    (hg : o.guard = none) (m x v : Operand) (t : TypeId) (hop : o.op = Op.insert t m x v)
    (k e : TypeId) (K : Maps.Keyed P k) (ht : P.underlying t = some (.map k e)) (R : Value → Option (DataW H × List MemPlace)) (b n : Nat) (D : DataW H)
    (hm : a.eval m = .map (some b)) (hown : w.ownsMap P k R b n D) (hn : n < maxLen) (key val : Value) (kl : Lit) (hx : a.eval x = key) (hv : a.eval v = val) (hkey : keyOf P k key = some kl)
    (d : DataW H) (ps : List MemPlace) (hval : R val = some (d, ps))
    (hK : ∀ w', w'.ownsMap P k R b (n + 1) (D.put kl d) → w.grownBy w' (some b) → wpList P ops Q rest (a.put o.dst undef) w') :
    wpList P ops Q (o :: rest) a w := by
  refine wpList_plain hg fun K' hK' => ?_
  obtain ⟨w', hrun, r1, r2⟩ := hown.update K ht hn hkey hval
  unfold Oper.wp
  simp [execOp, hop, hm, hx, hv, hrun, Result.andThen]
  exact hK' _ _ (hK w' r1 r2)
-- OWN
theorem hkeyOf (n : Int) (h : (Lit.int .i64 n).wf = true) : keyOf Tryz.prog 3 (.int .i64 n) = some (key n) := Maps.keyOf_int_mk Tryz.underlying3 h

/-- A list is laid, and stored into the map. -/
theorem put_list {w : World} {B n : Nat} {D : DataW Value} (h : w.ownsMap Tryz.prog 3 asIs B n D) (hn : n < 100) (q : Int) (hq : (Lit.int .i64 q).wf = true) (cs : Array Value) (m : Nat) (g : Nat) (hg0 : w.heap.size = g) :
    ∃ w', (Instr.mapUpdate 114 (.map (some B)) (.int .i64 q) (.slice (some ⟨g, 0, none⟩) m m)).run Tryz.prog (w.alloc (.cells cs 9)) = .ok () w' ∧
      w'.ownsMap Tryz.prog 3 asIs B (n + 1) (D.put (key q) (.held (.slice (some ⟨g, 0, none⟩) m m))) ∧ Row w' g 9 cs ∧ g < w'.heap.size ∧ Only (fun i => i = B) w w' := by
  subst hg0
  obtain ⟨w', hrun, ho, hg⟩ := (h.alloc (.cells cs 9)).update (Maps.int_keyed Tryz.underlying3) Tryz.underlying114 (by unfold maxLen; omega) (hkeyOf q hq) (d := .held (.slice (some ⟨w.heap.size, 0, none⟩) m m)) (ps := []) rfl
  have hlt := h.lt
  have hsz := hg.size
  refine ⟨w', hrun, ho, ?_, by simp at hsz; omega, ((Only.refl _ _).alloc _).grown hg (fun k hk => by injection hk with hk; right; exact hk.symm)⟩
  exact (hg.block w.heap.size (by simp) (by simp; omega)).trans (Row.new w _ _)

theorem zero_list (w : World) : (zeroValue 87).run Tryz.prog w = .ok (.slice none 0 0) w := by kernel_rfl

def six (v1 v2 v3 v4 v5 v6 : Value) : DataW Value := ((((((DataW.map []).put (key 1) (.held v1)).put (key 2) (.held v2)).put (key 3) (.held v3)).put (key 4) (.held v4)).put (key 5) (.held v5)).put (key 6) (.held v6)
theorem six_is (v1 v2 v3 v4 v5 v6 : Value) : six v1 v2 v3 v4 v5 v6 = .map [(key 1, .held v1), (key 2, .held v2), (key 3, .held v3), (key 4, .held v4), (key 5, .held v5), (key 6, .held v6)] := by
  simp [six, DataW.put, DataW.insert, Lit.before, Lit.sameKey, key]
def pickV (k : Int) (v1 v2 v3 v4 v5 v6 : Value) : Value := if k = 1 then v1 else if k = 2 then v2 else if k = 3 then v3 else if k = 4 then v4 else if k = 5 then v5 else if k = 6 then v6 else .slice none 0 0
theorem six_at (k : Int) (v1 v2 v3 v4 v5 v6 : Value) : (six v1 v2 v3 v4 v5 v6).atKey (key k) (.held (.slice none 0 0)) = .held (pickV k v1 v2 v3 v4 v5 v6) := by
  rw [six_is]
  by_cases hk : 1 ≤ k ∧ k ≤ 6
  · rcases kinds hk with rfl | rfl | rfl | rfl | rfl | rfl <;> simp [DataW.atKey, pickV, Lit.sameKey, key]
  · have h1 : ¬ 1 = k := by omega
    have h2 : ¬ 2 = k := by omega
    have h3 : ¬ 3 = k := by omega
    have h4 : ¬ 4 = k := by omega
    have h5 : ¬ 5 = k := by omega
    have h6 : ¬ 6 = k := by omega
    simp [DataW.atKey, pickV, Lit.sameKey, key, h1, h2, h3, h4, h5, h6, Ne.symm h1, Ne.symm h2, Ne.symm h3, Ne.symm h4, Ne.symm h5, Ne.symm h6]

theorem get_list {w : World} {B n : Nat} {v1 v2 v3 v4 v5 v6 : Value} (h : w.ownsMap Tryz.prog 3 asIs B n (six v1 v2 v3 v4 v5 v6)) (k : Int) (hk : (Lit.int .i64 k).wf = true) :
    (Instr.lookup 114 (.map (some B)) (.int .i64 k) false).run Tryz.prog w = .ok (pickV k v1 v2 v3 v4 v5 v6) w := by
  obtain ⟨v, ps, hrun, hv⟩ := h.lookup (Maps.int_keyed Tryz.underlying3) Tryz.underlying114 (zero_list w) (zd := .held (.slice none 0 0)) (zp := []) rfl (hkeyOf k hk)
  rw [six_at] at hv
  simp only [asIs, Option.some.injEq, Prod.mk.injEq, DataW.held.injEq] at hv
  rw [hrun, hv.1]

/-- What the kind's list is: in a block of its own. -/
def NamesIn (k : Int) (w : World) (e : Ending) (w' : World) : Prop :=
  ∃ g1 g2 g3 g4 g5 g6, e = .returned (pickV k (.slice (some ⟨g1, 0, none⟩) 3 3) (.slice (some ⟨g2, 0, none⟩) 5 5) (.slice (some ⟨g3, 0, none⟩) 4 4) (.slice (some ⟨g4, 0, none⟩) 2 2) (.slice (some ⟨g5, 0, none⟩) 1 1) (.slice (some ⟨g6, 0, none⟩) 1 1)) ∧
    w.heap.size ≤ g1 ∧ w.heap.size ≤ g2 ∧ w.heap.size ≤ g3 ∧ w.heap.size ≤ g4 ∧ w.heap.size ≤ g5 ∧ w.heap.size ≤ g6 ∧
    Row w' g1 9 names1 ∧ Row w' g2 9 names2 ∧ Row w' g3 9 names3 ∧ Row w' g4 9 names4 ∧ Row w' g5 9 names5 ∧ Row w' g6 9 names6 ∧ Only Nil w w'

set_option maxRecDepth 100000 in
set_option maxHeartbeats 1000000 in
theorem ownNames_in (k : Int) (w : World) (hk : (Lit.int .i64 k).wf = true) : Calls Tryz.prog 31 #[.int .i64 k] w (NamesIn k w) := by
  have HK := Lib.hid hk
  clear hk
  have hmm := @run_makeMap Tryz.prog
  have HO0 := Lib.hid (World.ownsMap_made w Tryz.prog 3 asIs)
  go_enter Tryz.func31, Tryz.ntmps31
  go_wp2_with fail
  obtain ⟨wx1, hrun, ho, hR, hz, hO⟩ := put_list HO0.out (by omega) 1 rfl names1 3 (w.heap.size+1) (by simp)
  unfold names1 at hrun
  rw [hrun]
  have HO1 := Lib.hid ho
  have HR1 := Lib.hid hR
  have HZ1 := Lib.hid hz
  have HL1 := Lib.hid hO
  clear hrun ho hR hz hO
  go_wp2_with fail
  obtain ⟨wx2, hrun, ho, hR, hz, hO⟩ := put_list HO1.out (by omega) 2 rfl names2 5 wx1.heap.size (by simp)
  unfold names2 at hrun
  rw [hrun]
  have HO2 := Lib.hid ho
  have HR2 := Lib.hid hR
  have HZ2 := Lib.hid hz
  have HL2 := Lib.hid hO
  clear hrun ho hR hz hO
  go_wp2_with fail
  obtain ⟨wx3, hrun, ho, hR, hz, hO⟩ := put_list HO2.out (by omega) 3 rfl names3 4 wx2.heap.size (by simp)
  unfold names3 at hrun
  rw [hrun]
  have HO3 := Lib.hid ho
  have HR3 := Lib.hid hR
  have HZ3 := Lib.hid hz
  have HL3 := Lib.hid hO
  clear hrun ho hR hz hO
  go_wp2_with fail
  obtain ⟨wx4, hrun, ho, hR, hz, hO⟩ := put_list HO3.out (by omega) 4 rfl names4 2 wx3.heap.size (by simp)
  unfold names4 at hrun
  rw [hrun]
  have HO4 := Lib.hid ho
  have HR4 := Lib.hid hR
  have HZ4 := Lib.hid hz
  have HL4 := Lib.hid hO
  clear hrun ho hR hz hO
  go_wp2_with fail
  obtain ⟨wx5, hrun, ho, hR, hz, hO⟩ := put_list HO4.out (by omega) 5 rfl names5 1 wx4.heap.size (by simp)
  unfold names5 at hrun
  rw [hrun]
  have HO5 := Lib.hid ho
  have HR5 := Lib.hid hR
  have HZ5 := Lib.hid hz
  have HL5 := Lib.hid hO
  clear hrun ho hR hz hO
  go_wp2_with fail
  obtain ⟨wx6, hrun, ho, hR, hz, hO⟩ := put_list HO5.out (by omega) 6 rfl names6 1 wx5.heap.size (by simp)
  unfold names6 at hrun
  rw [hrun]
  have HO6 := Lib.hid ho
  have HR6 := Lib.hid hR
  have HZ6 := Lib.hid hz
  have HL6 := Lib.hid hO
  clear hrun ho hR hz hO
  have hs1 : w.heap.size + 1 < wx1.heap.size := HZ1.out
  have HS1 := Lib.hid hs1
  clear hs1
  have HGET := Lib.hid (get_list HO6.out k HK.out)
  have hget := HGET.out
  go_wp2
  go_ret
  have l2 := HL2.out
  have l3 := HL3.out
  have l4 := HL4.out
  have l5 := HL5.out
  have l6 := HL6.out
  have z1 := HS1.out
  have z2 := l2.size
  have z3 := l3.size
  have z4 := l4.size
  have z5 := l5.size
  have hq := HL1.out
  have q0 : Only Nil w (w.alloc (.map #[] 0)) := (Only.refl _ _).alloc _
  have q1 : Only Nil w wx6 := (((((q0.step hq (fun i hi h => by omega)).step l2 (fun i hi h => by omega)).step l3 (fun i hi h => by omega)).step l4 (fun i hi h => by omega)).step l5 (fun i hi h => by omega)).step l6 (fun i hi h => by omega)
  exact ⟨_, _, _, _, _, _, rfl, by omega, by omega, by omega, by omega, by omega, by omega,
    ((((HR1.out.only l2 (by omega)).only l3 (by omega)).only l4 (by omega)).only l5 (by omega)).only l6 (by omega),
    (((HR2.out.only l3 (by omega)).only l4 (by omega)).only l5 (by omega)).only l6 (by omega),
    ((HR3.out.only l4 (by omega)).only l5 (by omega)).only l6 (by omega),
    (HR4.out.only l5 (by omega)).only l6 (by omega), HR5.out.only l6 (by omega), HR6.out, q1⟩

theorem ownNames_yes (k : Int) (w : World) (hk : 1 ≤ k ∧ k ≤ 6) : Calls Tryz.prog 31 #[.int .i64 k] w (NamesAt k w) := by
  have hwf : (Lit.int .i64 k).wf = true := by rcases kinds hk with rfl | rfl | rfl | rfl | rfl | rfl <;> rfl
  refine (ownNames_in k w hwf).mono fun e w' ⟨g1, g2, g3, g4, g5, g6, he, b1, b2, b3, b4, b5, b6, r1, r2, r3, r4, r5, r6, hO⟩ => ?_
  rcases kinds hk with rfl | rfl | rfl | rfl | rfl | rfl
  · exact ⟨g1, he, b1, r1, hO⟩
  · exact ⟨g2, he, b2, r2, hO⟩
  · exact ⟨g3, he, b3, r3, hO⟩
  · exact ⟨g4, he, b4, r4, hO⟩
  · exact ⟨g5, he, b5, r5, hO⟩
  · exact ⟨g6, he, b6, r6, hO⟩

theorem ownNames_no (k : Int) (w : World) (hwf : (Lit.int .i64 k).wf = true) (hk : ¬ (1 ≤ k ∧ k ≤ 6)) : Calls Tryz.prog 31 #[.int .i64 k] w fun e w' => e = .returned (.slice none 0 0) ∧ Only Nil w w' := by
  refine (ownNames_in k w hwf).mono fun e w' ⟨g1, g2, g3, g4, g5, g6, he, b1, b2, b3, b4, b5, b6, r1, r2, r3, r4, r5, r6, hO⟩ => ⟨?_, hO⟩
  rw [he]
  unfold pickV
  rw [if_neg (by omega), if_neg (by omega), if_neg (by omega), if_neg (by omega), if_neg (by omega), if_neg (by omega)]
end Go.Proofs.YtigdbokfapedcaaGreat
