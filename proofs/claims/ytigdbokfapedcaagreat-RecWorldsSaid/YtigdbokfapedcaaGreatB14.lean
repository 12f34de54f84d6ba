/- MxC, MxW, MxE, MxT. -/
import Derived.Test.YtigdbokfapedcaaGreatB12
import Derived.Test.YtigdbokfapedcaaGreatB13
import Derived.Test.YtigdbokfapedcaaGreatB3
/- The mutex's pieces, the program's: what names a task, stores and loads of its cells. -/
set_option linter.unusedVariables false
set_option linter.unusedSimpArgs false
namespace Go.Proofs.YtigdbokfapedcaaGreat
open Go.RowKit

theorem number_any (B : Nat) (p A : Option Addr) (cp : Nat) (nv : Value) (r : LS) (w : World) (h : RunP w B p A cp nv r) : Calls Tryz.prog 257 #[Value.pointer (some ⟨B, 0, none⟩)] w fun e w' => e = .returned (.int .u32 r.me) ∧ w = w' := by
  have c3 : w.cell? ⟨B, 3, none⟩ = some (.int .i64 r.task) := h.row.cell_ (i := 3) rfl
  have HM := Lib.hid (show r.me = (r.task + 1) % 4294967296 from rfl)
  clear h
  go_enter Tryz.func257, Tryz.ntmps257
  go_wp2
  go_ret
  exact ⟨ret_int (by rw [HM.out]; omega), rfl⟩

theorem kept_any (B : Nat) (p A : Option Addr) (cp : Nat) (nv : Value) (r : LS) (w : World) (h : RunP w B p A cp nv r) (ha : 0 ≤ r.a ∧ r.a < 4294967296) : Calls Tryz.prog 256 #[Value.pointer (some ⟨B, 0, none⟩)] w fun e w' => e = .returned (.int .i64 (r.a - 1)) ∧ w = w' := by
  have c6 : w.cell? ⟨B, 6, none⟩ = some (.int .u32 r.a) := h.row.cell_ (i := 6) rfl
  obtain ⟨h0, h1⟩ := ha
  clear h
  go_enter Tryz.func256, Tryz.ntmps256
  go_wp2
  go_ret
  exact ⟨ret_int (by go_num), rfl⟩

theorem tell_run (B : Nat) (p A : Option Addr) (cp : Nat) (nv : Value) (r : LS) (c x : Int) (w : World) (h : RunP w B p A cp nv r) :
    Calls Tryz.prog 254 #[Value.pointer (some ⟨B, 0, none⟩), .int .i64 c, .int .u32 x] w (Done B p A cp w (.tuple #[]) ((r.doA 2 c x 0).wake c)) := by
  have HP := Lib.hid h
  clear h
  go_enter Tryz.func254, Tryz.ntmps254
  go_wp2_with fail
  refine (store_run B p A cp nv r c x _ HP.out).mono ?_
  rintro e w1 ⟨rfl, hO, nv1, hP⟩
  have HP1 := Lib.hid hP
  have HO1 := Lib.hid hO
  clear hO hP HP
  go_wp2_with fail
  refine (wake_run B p A cp nv1 _ c _ HP1.out).mono ?_
  rintro e w2 ⟨rfl, hO, nv2, hP⟩
  have HP2 := Lib.hid hP
  have HO2 := Lib.hid (HO1.out.trans hO)
  clear hO hP
  go_wp2
  go_returns
  exact ⟨rfl, HO2.out, nv2, HP2.out⟩

-- a drawn region that loads the lock's map and the task, and asks for a cell of the task's

set_option maxHeartbeats 1000000 in
theorem clear_run (B : Nat) (p A : Option Addr) (cp : Nat) (nv : Value) (r : LS) (l : Int) (w : World) (h : RunP w B p A cp nv r) :
    Calls Tryz.prog 251 #[Value.pointer (some ⟨B, 0, none⟩), .int .i64 l] w (Done B p A cp w (.tuple #[]) ((r.doA 2 (nc r.n r.task) 0 0).go l)) := by
  have HP := Lib.hid h
  clear h
  go_enter Tryz.func251, Tryz.ntmps251
  go_upto_region 0 with (fail)
  have c1 : w.cell? ⟨B, 1, none⟩ = some (.int .i64 r.n) := HP.out.row.cell_ (i := 1) rfl
  have c3 : w.cell? ⟨B, 3, none⟩ = some (.int .i64 r.task) := HP.out.row.cell_ (i := 3) rfl
  refine wp_region_phase (n := 11) 10 (fun w => w.cell? ⟨B, 1, none⟩ = some (.int .i64 r.n) ∧ w.cell? ⟨B, 3, none⟩ = some (.int .i64 r.task)) rfl (by kernel_rfl) ⟨c1, c3⟩ (fun hHeld => ?_)
  have HP0 := Lib.hid (HP.out.keep (Only.refl Nil w).drew)
  have HO0 := Lib.hid ((Only.refl (TurnB B A) w).drew)
  clear c1 c3 HP
  generalize w.drew = w0 at *
  refine za 0 rfl ?_
  refine za 1 rfl ?_
  refine za 2 rfl ?_
  refine za 3 rfl ?_
  refine zt 4 rfl ?_
  refine za 5 rfl ?_
  refine za 6 rfl ?_
  refine za 7 rfl ?_
  refine zt 8 rfl ?_
  refine mpc 9 rfl (by kernel_rfl) (by rfl) (fun K hK => ?_)
  go_simp
  refine (next_any r.n r.task _).mono ?_
  rintro e w1 ⟨rfl, hO⟩
  have HP1 := Lib.hid (HP0.out.keep hO)
  have HO1 := Lib.hid (HO0.out.trans (hO.mono (T := TurnB B A) (fun _ _ h => h.elim)))
  have hHeld2 : w1.cell? ⟨B, 1, none⟩ = some (.int .i64 r.n) ∧ w1.cell? ⟨B, 3, none⟩ = some (.int .i64 r.task) := ⟨HP1.out.row.cell_ (i := 1) rfl, HP1.out.row.cell_ (i := 3) rfl⟩
  refine hK.out _ _ (.inr hHeld2) ?_
  clear hK K hHeld hO HP0 HO0

  refine mpc 10 rfl (by kernel_rfl) (by rfl) (fun K hK => ?_)
  go_simp
  refine (store_run B p A cp nv r (nc r.n r.task) 0 _ HP1.out).mono ?_
  rintro e w2 ⟨rfl, hO, nv2, hP⟩
  have HP2 := Lib.hid hP
  have HO2 := Lib.hid (HO1.out.trans hO)
  refine hK.out _ _ (.inl (by kernel_rfl)) ?_
  clear hK K hHeld2 hO hP HP1 HO1

  refine wpAnyP_done (by kernel_rfl) ?_ _
  go_wp2_with fail
  refine (go_run B p A cp nv2 _ l _ HP2.out).mono ?_
  rintro e w3 ⟨rfl, hO, nv3, hP⟩
  have HP3 := Lib.hid hP
  have HO3 := Lib.hid (HO2.out.trans hO)
  clear hO hP
  go_wp2
  go_returns
  exact ⟨rfl, HO3.out, nv3, HP3.out⟩

set_option maxHeartbeats 1000000 in
theorem stand_in (B : Nat) (p A : Option Addr) (cp : Nat) (nv : Value) (r : LS) (tail cl l : Int) (w : World) (h : RunP w B p A cp nv r) (hl : r.ns.length ≤ 900) (hz : wordAt r.xs tail = 0) :
    Calls Tryz.prog 253 #[Value.pointer (some ⟨B, 0, none⟩), .int .i64 tail, .int .i64 cl, .int .i64 l] w (Done B p A cp w (.bool true) (r.swapIn tail cl)) := by
  have HZ := Lib.hid hz
  have HL := Lib.hid hl
  have HP := Lib.hid h
  clear h hz hl
  go_enter Tryz.func253, Tryz.ntmps253
  go_wp2_with fail
  refine (number_any B p A cp nv r _ HP.out).mono ?_
  rintro e w1 ⟨rfl, rfl⟩
  go_wp2_with fail
  refine (swap_run B p A cp nv r tail r.me _ HP.out).mono ?_
  rintro e w2 ⟨rfl, hO, nv2, hP⟩
  have HP2 := Lib.hid hP
  have HO2 := Lib.hid hO
  clear hO hP HP
  have c6 : w2.cell? ⟨B, 6, none⟩ = some (.int .u32 r.a) := HP2.out.row.cell_ (i := 6) rfl
  have f6 : w2.frozen? ⟨B, 6, none⟩ = false := HP2.out.row.frozen 6
  go_upto_region 2 with (fail)
  have HP3 := Lib.hid (HP2.out.setA (wordAt r.xs tail))
  have HO3 := Lib.hid (HO2.out.setCell (p := ⟨B, 6, none⟩) (.inr (.inl rfl)) (.int .u32 (wordAt r.xs tail)))
  clear c6 f6 HP2 HO2
  generalize w2.setCell ⟨B, 6, none⟩ (.int .u32 (wordAt r.xs tail)) = w3 at *
  go_wp2_with fail
  refine (note_run B p A cp nv2 _ 2 cl _ HP3.out (show (r.doA 4 tail r.me 0).ns.length ≤ 1000 from Nat.le_trans HL.out (by decide))).mono ?_
  rintro e w4 ⟨rfl, hO, nv4, hP⟩
  have HP4 : Hid (RunP w4 B p A cp nv4 (r.swapIn tail cl)) := Lib.hid hP
  have HO4 := Lib.hid (HO3.out.trans hO)
  clear hO hP HP3 HO3
  have c6 : w4.cell? ⟨B, 6, none⟩ = some (.int .u32 (wordAt r.xs tail)) := HP4.out.row.cell_ (i := 6) rfl
  rw [HZ.out] at c6
  go_wp2
  go_ret
  exact ⟨rfl, HO4.out, nv4, HP4.out⟩
set_option maxHeartbeats 1000000 in
theorem stand_behind (B : Nat) (p A : Option Addr) (cp : Nat) (nv : Value) (r : LS) (tail cl l : Int) (w : World) (h : RunP w B p A cp nv r) (hl : r.ns.length ≤ 900) (hz : wordAt r.xs tail ≠ 0) :
    Calls Tryz.prog 253 #[Value.pointer (some ⟨B, 0, none⟩), .int .i64 tail, .int .i64 cl, .int .i64 l] w (Done B p A cp w (.bool false) ((r.swapIn tail cl).go l)) := by
  have HZ := Lib.hid hz
  have HL := Lib.hid hl
  have HP := Lib.hid h
  clear h hz hl
  go_enter Tryz.func253, Tryz.ntmps253
  go_wp2_with fail
  refine (number_any B p A cp nv r _ HP.out).mono ?_
  rintro e w1 ⟨rfl, rfl⟩
  go_wp2_with fail
  refine (swap_run B p A cp nv r tail r.me _ HP.out).mono ?_
  rintro e w2 ⟨rfl, hO, nv2, hP⟩
  have HP2 := Lib.hid hP
  have HO2 := Lib.hid hO
  clear hO hP HP
  have c6 : w2.cell? ⟨B, 6, none⟩ = some (.int .u32 r.a) := HP2.out.row.cell_ (i := 6) rfl
  have f6 : w2.frozen? ⟨B, 6, none⟩ = false := HP2.out.row.frozen 6
  go_upto_region 2 with (fail)
  have HP3 := Lib.hid (HP2.out.setA (wordAt r.xs tail))
  have HO3 := Lib.hid (HO2.out.setCell (p := ⟨B, 6, none⟩) (.inr (.inl rfl)) (.int .u32 (wordAt r.xs tail)))
  clear c6 f6 HP2 HO2
  generalize w2.setCell ⟨B, 6, none⟩ (.int .u32 (wordAt r.xs tail)) = w3 at *
  go_wp2_with fail
  refine (note_run B p A cp nv2 _ 2 cl _ HP3.out (show (r.doA 4 tail r.me 0).ns.length ≤ 1000 from Nat.le_trans HL.out (by decide))).mono ?_
  rintro e w4 ⟨rfl, hO, nv4, hP⟩
  have HP4 : Hid (RunP w4 B p A cp nv4 (r.swapIn tail cl)) := Lib.hid hP
  have HO4 := Lib.hid (HO3.out.trans hO)
  clear hO hP HP3 HO3
  have c6 : w4.cell? ⟨B, 6, none⟩ = some (.int .u32 (wordAt r.xs tail)) := HP4.out.row.cell_ (i := 6) rfl
  have hb : (wordAt r.xs tail == 0) = false := beq_eq_false_iff_ne.2 HZ.out
  generalize wordAt r.xs tail = x at *
  go_wp2_with fail
  clear c6 hb
  refine (go_run B p A cp nv4 _ l _ HP4.out).mono ?_
  rintro e w5 ⟨rfl, hO, nv5, hP⟩
  have HP5 := Lib.hid hP
  have HO5 := Lib.hid (HO4.out.trans hO)
  clear hO hP
  go_wp2
  go_ret
  exact ⟨rfl, HO5.out, nv5, HP5.out⟩

theorem empty_yes (B : Nat) (p A : Option Addr) (cp : Nat) (nv : Value) (r : LS) (tail l : Int) (w : World) (h : RunP w B p A cp nv r) (ht : r.casOut tail = true) :
    Calls Tryz.prog 260 #[Value.pointer (some ⟨B, 0, none⟩), .int .i64 tail, .int .i64 l] w (Done B p A cp w (.bool true) (r.doA 5 tail r.me 0)) := by
  have HQ := Lib.hid (show r.casOut tail = (there r.xs tail && (wordAt r.xs tail == r.me)) from rfl)
  have HT := Lib.hid ht
  have HP := Lib.hid h
  clear h ht
  go_enter Tryz.func260, Tryz.ntmps260
  go_wp2_with fail
  refine (number_any B p A cp nv r _ HP.out).mono ?_
  rintro e w1 ⟨rfl, rfl⟩
  go_wp2_with fail
  refine (cas_run B p A cp nv r tail r.me 0 _ HP.out).mono ?_
  rw [← HQ.out, HT.out]
  rintro e w2 ⟨rfl, hO, nv2, hP⟩
  have HP2 := Lib.hid hP
  have HO2 := Lib.hid hO
  clear hO hP HP
  go_wp2
  go_ret
  exact ⟨rfl, HO2.out, nv2, HP2.out⟩
theorem empty_no (B : Nat) (p A : Option Addr) (cp : Nat) (nv : Value) (r : LS) (tail l : Int) (w : World) (h : RunP w B p A cp nv r) (ht : r.casOut tail = false) :
    Calls Tryz.prog 260 #[Value.pointer (some ⟨B, 0, none⟩), .int .i64 tail, .int .i64 l] w (Done B p A cp w (.bool false) ((r.doA 5 tail r.me 0).go l)) := by
  have HQ := Lib.hid (show r.casOut tail = (there r.xs tail && (wordAt r.xs tail == r.me)) from rfl)
  have HT := Lib.hid ht
  have HP := Lib.hid h
  clear h ht
  go_enter Tryz.func260, Tryz.ntmps260
  go_wp2_with fail
  refine (number_any B p A cp nv r _ HP.out).mono ?_
  rintro e w1 ⟨rfl, rfl⟩
  go_wp2_with fail
  refine (cas_run B p A cp nv r tail r.me 0 _ HP.out).mono ?_
  rw [← HQ.out, HT.out]
  rintro e w2 ⟨rfl, hO, nv2, hP⟩
  have HP2 := Lib.hid hP
  have HO2 := Lib.hid hO
  clear hO hP HP
  go_wp2_with fail
  refine (go_run B p A cp nv2 _ l _ HP2.out).mono ?_
  rintro e w3 ⟨rfl, hO, nv3, hP⟩
  have HP3 := Lib.hid hP
  have HO3 := Lib.hid (HO2.out.trans hO)
  clear hO hP
  go_wp2
  go_ret
  exact ⟨rfl, HO3.out, nv3, HP3.out⟩

set_option maxHeartbeats 1000000 in
theorem look_none (B : Nat) (p A : Option Addr) (cp : Nat) (nv : Value) (r : LS) (l0 l1 : Int) (w : World) (h : RunP w B p A cp nv r) (hz : wordAt r.xs (nc r.n r.task) = 0) :
    Calls Tryz.prog 259 #[Value.pointer (some ⟨B, 0, none⟩), .int .i64 l0, .int .i64 l1] w (Done B p A cp w (.tuple #[]) (r.peek.go l0)) := by
  have HZ := Lib.hid hz
  have HP := Lib.hid h
  clear h hz
  go_enter Tryz.func259, Tryz.ntmps259
  go_upto_region 0 with (fail)
  have c1 : w.cell? ⟨B, 1, none⟩ = some (.int .i64 r.n) := HP.out.row.cell_ (i := 1) rfl
  have c3 : w.cell? ⟨B, 3, none⟩ = some (.int .i64 r.task) := HP.out.row.cell_ (i := 3) rfl
  refine wp_region_phase (n := 16) 11 (fun w => w.cell? ⟨B, 1, none⟩ = some (.int .i64 r.n) ∧ w.cell? ⟨B, 3, none⟩ = some (.int .i64 r.task)) rfl (by kernel_rfl) ⟨c1, c3⟩ (fun hHeld => ?_)
  have HP0 := Lib.hid (HP.out.keep (Only.refl Nil w).drew)
  have HO0 := Lib.hid ((Only.refl (TurnB B A) w).drew)
  clear c1 c3 HP
  generalize w.drew = w0 at *
  refine za 0 rfl ?_
  refine za 1 rfl ?_
  refine za 2 rfl ?_
  refine za 3 rfl ?_
  refine za 4 rfl ?_
  refine zt 5 rfl ?_
  refine za 6 rfl ?_
  refine za 7 rfl ?_
  refine za 8 rfl ?_
  refine zt 9 rfl ?_
  refine mpc 10 rfl (by kernel_rfl) (by rfl) (fun K hK => ?_)
  go_simp
  refine (next_any r.n r.task _).mono ?_
  rintro e w1 ⟨rfl, hO⟩
  have HP1 := Lib.hid (HP0.out.keep hO)
  have HO1 := Lib.hid (HO0.out.trans (hO.mono (T := TurnB B A) (fun _ _ h => h.elim)))
  have hHeld2 : w1.cell? ⟨B, 1, none⟩ = some (.int .i64 r.n) ∧ w1.cell? ⟨B, 3, none⟩ = some (.int .i64 r.task) := ⟨HP1.out.row.cell_ (i := 1) rfl, HP1.out.row.cell_ (i := 3) rfl⟩
  refine hK.out _ _ (.inr hHeld2) ?_
  clear hK K hHeld hO HP0 HO0

  refine mpc 11 rfl (by kernel_rfl) (by rfl) (fun K hK => ?_)
  go_simp
  refine (load_run B p A cp nv r (nc r.n r.task) _ HP1.out).mono ?_
  rintro e w2 ⟨rfl, hO, nv2, hP⟩
  have HP2 := Lib.hid hP
  have HO2 := Lib.hid (HO1.out.trans hO)
  refine hK.out _ _ (.inl (by kernel_rfl)) ?_
  clear hK K hHeld2 hO hP HP1 HO1

  refine za 12 rfl ?_
  refine za 13 rfl ?_
  refine za 14 rfl ?_
  have c6 : w2.cell? ⟨B, 6, none⟩ = some (.int .u32 r.a) := HP2.out.row.cell_ (i := 6) rfl
  have f6 : w2.frozen? ⟨B, 6, none⟩ = false := HP2.out.row.frozen 6
  refine mpc 15 rfl (by kernel_rfl) (by rfl) (fun K hK => ?_)
  go_simp
  have HP3 : Hid (RunP (w2.setCell ⟨B, 6, none⟩ (.int .u32 (wordAt r.xs (nc r.n r.task)))) B p A cp nv2 r.peek) := Lib.hid (HP2.out.setA (wordAt r.xs (nc r.n r.task)))
  have HO3 := Lib.hid (HO2.out.setCell (p := ⟨B, 6, none⟩) (.inr (.inl rfl)) (.int .u32 (wordAt r.xs (nc r.n r.task))))
  refine hK.out _ _ (.inl (by kernel_rfl)) ?_
  clear hK K c6 f6 HP2 HO2
  generalize w2.setCell ⟨B, 6, none⟩ (.int .u32 (wordAt r.xs (nc r.n r.task))) = w3 at *

  refine wpAnyP_done (by kernel_rfl) ?_ _
  have c6 : w3.cell? ⟨B, 6, none⟩ = some (.int .u32 (wordAt r.xs (nc r.n r.task))) := HP3.out.row.cell_ (i := 6) rfl
  rw [HZ.out] at c6
  go_wp2_with fail
  clear c6
  refine (go_run B p A cp nv2 _ l0 _ HP3.out).mono ?_
  rintro e w4 ⟨rfl, hO, nv4, hP⟩
  have HP4 := Lib.hid hP
  have HO4 := Lib.hid (HO3.out.trans hO)
  clear hO hP
  go_wp2
  go_returns
  exact ⟨rfl, HO4.out, nv4, HP4.out⟩
set_option maxHeartbeats 1000000 in
theorem look_one (B : Nat) (p A : Option Addr) (cp : Nat) (nv : Value) (r : LS) (l0 l1 : Int) (w : World) (h : RunP w B p A cp nv r) (hz : wordAt r.xs (nc r.n r.task) ≠ 0) :
    Calls Tryz.prog 259 #[Value.pointer (some ⟨B, 0, none⟩), .int .i64 l0, .int .i64 l1] w (Done B p A cp w (.tuple #[]) (r.peek.go l1)) := by
  have HZ := Lib.hid hz
  have HP := Lib.hid h
  clear h hz
  go_enter Tryz.func259, Tryz.ntmps259
  go_upto_region 0 with (fail)
  have c1 : w.cell? ⟨B, 1, none⟩ = some (.int .i64 r.n) := HP.out.row.cell_ (i := 1) rfl
  have c3 : w.cell? ⟨B, 3, none⟩ = some (.int .i64 r.task) := HP.out.row.cell_ (i := 3) rfl
  refine wp_region_phase (n := 16) 11 (fun w => w.cell? ⟨B, 1, none⟩ = some (.int .i64 r.n) ∧ w.cell? ⟨B, 3, none⟩ = some (.int .i64 r.task)) rfl (by kernel_rfl) ⟨c1, c3⟩ (fun hHeld => ?_)
  have HP0 := Lib.hid (HP.out.keep (Only.refl Nil w).drew)
  have HO0 := Lib.hid ((Only.refl (TurnB B A) w).drew)
  clear c1 c3 HP
  generalize w.drew = w0 at *
  refine za 0 rfl ?_
  refine za 1 rfl ?_
  refine za 2 rfl ?_
  refine za 3 rfl ?_
  refine za 4 rfl ?_
  refine zt 5 rfl ?_
  refine za 6 rfl ?_
  refine za 7 rfl ?_
  refine za 8 rfl ?_
  refine zt 9 rfl ?_
  refine mpc 10 rfl (by kernel_rfl) (by rfl) (fun K hK => ?_)
  go_simp
  refine (next_any r.n r.task _).mono ?_
  rintro e w1 ⟨rfl, hO⟩
  have HP1 := Lib.hid (HP0.out.keep hO)
  have HO1 := Lib.hid (HO0.out.trans (hO.mono (T := TurnB B A) (fun _ _ h => h.elim)))
  have hHeld2 : w1.cell? ⟨B, 1, none⟩ = some (.int .i64 r.n) ∧ w1.cell? ⟨B, 3, none⟩ = some (.int .i64 r.task) := ⟨HP1.out.row.cell_ (i := 1) rfl, HP1.out.row.cell_ (i := 3) rfl⟩
  refine hK.out _ _ (.inr hHeld2) ?_
  clear hK K hHeld hO HP0 HO0

  refine mpc 11 rfl (by kernel_rfl) (by rfl) (fun K hK => ?_)
  go_simp
  refine (load_run B p A cp nv r (nc r.n r.task) _ HP1.out).mono ?_
  rintro e w2 ⟨rfl, hO, nv2, hP⟩
  have HP2 := Lib.hid hP
  have HO2 := Lib.hid (HO1.out.trans hO)
  refine hK.out _ _ (.inl (by kernel_rfl)) ?_
  clear hK K hHeld2 hO hP HP1 HO1

  refine za 12 rfl ?_
  refine za 13 rfl ?_
  refine za 14 rfl ?_
  have c6 : w2.cell? ⟨B, 6, none⟩ = some (.int .u32 r.a) := HP2.out.row.cell_ (i := 6) rfl
  have f6 : w2.frozen? ⟨B, 6, none⟩ = false := HP2.out.row.frozen 6
  refine mpc 15 rfl (by kernel_rfl) (by rfl) (fun K hK => ?_)
  go_simp
  have HP3 : Hid (RunP (w2.setCell ⟨B, 6, none⟩ (.int .u32 (wordAt r.xs (nc r.n r.task)))) B p A cp nv2 r.peek) := Lib.hid (HP2.out.setA (wordAt r.xs (nc r.n r.task)))
  have HO3 := Lib.hid (HO2.out.setCell (p := ⟨B, 6, none⟩) (.inr (.inl rfl)) (.int .u32 (wordAt r.xs (nc r.n r.task))))
  refine hK.out _ _ (.inl (by kernel_rfl)) ?_
  clear hK K c6 f6 HP2 HO2
  generalize w2.setCell ⟨B, 6, none⟩ (.int .u32 (wordAt r.xs (nc r.n r.task))) = w3 at *

  refine wpAnyP_done (by kernel_rfl) ?_ _
  have c6 : w3.cell? ⟨B, 6, none⟩ = some (.int .u32 (wordAt r.xs (nc r.n r.task))) := HP3.out.row.cell_ (i := 6) rfl
  have hb : (wordAt r.xs (nc r.n r.task) == 0) = false := beq_eq_false_iff_ne.2 HZ.out
  generalize wordAt r.xs (nc r.n r.task) = x at *
  go_wp2_with fail
  clear c6 hb
  refine (go_run B p A cp nv2 _ l1 _ HP3.out).mono ?_
  rintro e w4 ⟨rfl, hO, nv4, hP⟩
  have HP4 := Lib.hid hP
  have HO4 := Lib.hid (HO3.out.trans hO)
  clear hO hP
  go_wp2
  go_returns
  exact ⟨rfl, HO4.out, nv4, HP4.out⟩
end Go.Proofs.YtigdbokfapedcaaGreat
/- The mutex's pieces, the program's: waiting for a task behind, notes. -/
set_option linter.unusedVariables false
set_option linter.unusedSimpArgs false
namespace Go.Proofs.YtigdbokfapedcaaGreat
open Go.RowKit

theorem zero_is (v : Int) (w : World) : Calls Tryz.prog 258 #[.int .u32 v] w fun e w' => e = .returned (.bool (v == 0)) ∧ w = w' := by
  go_enter Tryz.func258, Tryz.ntmps258
  go_wp2
  go_ret
  exact ⟨rfl, rfl⟩
theorem holds_zero : HoldsAny (.func (.func 258) #[] #[]) isZ := by
  intro v w h0 h1
  have hn := neq_fn
  go_enter_defers Tryz.func275, Tryz.ntmps275
  go_wp2_with fail
  refine (zero_is v _).mono ?_
  rintro e w1 ⟨rfl, rfl⟩
  have HQ := Lib.hid (show isZ v = (v == 0) from rfl)
  generalize hq : (v == 0) = q at *
  clear hq
  go_wp2
  refine leaves_cons (f := 284) (args := #[]) (by simp) (by simp [go_sem]) ?_
  refine (rec_idle _).mono ?_
  rintro e u' w'' ⟨rfl, rfl, rfl⟩
  exact ⟨_, results_tmp rfl _ _ _, by rw [HQ.out]; rfl, Only.refl _ _⟩

theorem some_make (B : Nat) (w : World) : Calls Tryz.prog 280 #[.pointer (some ⟨B, 4, none⟩)] w fun e w' =>
    e = .returned (.func (.func 286) #[] #[.pointer (some ⟨w.heap.size, 0, none⟩)]) ∧ Row w' w.heap.size 219 #[.pointer (some ⟨B, 4, none⟩)] ∧ Only Nil w w' := by
  have HR := Lib.hid (Row.new w 219 #[.pointer (some ⟨B, 4, none⟩)])
  have HO := Lib.hid ((Only.refl Nil w).alloc (.cells #[.pointer (some ⟨B, 4, none⟩)] 219))
  go_enter Tryz.func280, Tryz.ntmps280
  go_wp2
  go_ret
  exact ⟨rfl, HR.out, HO.out⟩

theorem some_yes (B gt : Nat) (r : LS) (hv nv : Value) (v : Int) (w : World) (hb : Row w gt 219 #[.pointer (some ⟨B, 4, none⟩)]) (hr : Row w B 102 (r.cells hv nv)) (hq : isN v = true) :
    Calls Tryz.prog 286 #[.int .u32 v, .pointer (some ⟨gt, 0, none⟩)] w fun e w' => e = .returned (.bool true) ∧ Only (· = B) w w' ∧ Row w' B 102 ((r.keepA v).cells hv nv) := by
  have b0 : w.cell? ⟨gt, 0, none⟩ = some (.pointer (some ⟨B, 4, none⟩)) := hb.cell_ (i := 0) rfl
  have c6 : w.cell? ⟨B, 6, none⟩ = some (.int .u32 r.a) := hr.cell_ (i := 6) rfl
  have f6 : w.frozen? ⟨B, 6, none⟩ = false := hr.frozen 6
  have HR := Lib.hid (show Row (w.setCell ⟨B, 6, none⟩ (.int .u32 v)) B 102 ((r.keepA v).cells hv nv) from hr.set 6 (.int .u32 v))
  have HO := Lib.hid ((Only.refl (· = B) w).setCell (p := ⟨B, 6, none⟩) (.inr rfl) (.int .u32 v))
  have hv0 : (v != 0) = true := hq
  have hv1 : (v == 0) = false := by simpa using hv0
  clear hb hr hq
  go_enter Tryz.func286, Tryz.ntmps286
  go_wp2
  go_ret
  exact ⟨ret_bool (by simp [hv1]), HO.out, HR.out⟩
theorem some_no (B gt : Nat) (r : LS) (hv nv : Value) (v : Int) (w : World) (hr : Row w B 102 (r.cells hv nv)) (hq : isN v = false) :
    Calls Tryz.prog 286 #[.int .u32 v, .pointer (some ⟨gt, 0, none⟩)] w fun e w' => e = .returned (.bool false) ∧ Only (· = B) w w' ∧ Row w' B 102 (r.cells hv nv) := by
  have HR := Lib.hid hr
  obtain rfl : v = 0 := by have : (v != 0) = false := hq; simpa using this
  clear hr hq
  go_enter Tryz.func286, Tryz.ntmps286
  go_wp2
  go_ret
  exact ⟨rfl, Only.refl _ _, HR.out⟩

theorem holds_some (B gt : Nat) (p A : Option Addr) (cp : Nat) (nv : Value) (r : LS) (w : World) (h : RunP w B p A cp nv r) (hb : Row w gt 219 #[.pointer (some ⟨B, 4, none⟩)]) :
    HoldsK A B w (.func (.func 286) #[] #[.pointer (some ⟨gt, 0, none⟩)]) isN (r.cells (.pointer p) nv) (fun v => (r.keepA v).cells (.pointer p) nv) := by
  intro v w1 hO hr h0 h1
  have hb1 : Row w1 gt 219 #[.pointer (some ⟨B, 4, none⟩)] := h.aside hb hO.turned2 ⟨by decide, by decide, by decide⟩
  have hn := neq_fn
  cases hq : isN v
  · show Calls Tryz.prog 275 _ w1 (fun e w' => e = .returned (.bool false) ∧ Only (· = B) w1 w' ∧ Row w' B 102 (r.cells (.pointer p) nv))
    have HT := Lib.hid (some_no B gt r (.pointer p) nv v w1 hr hq)
    clear h hb hO hb1 hr hq
    go_enter_defers Tryz.func275, Tryz.ntmps275
    go_wp2_with fail
    refine HT.out.mono ?_
    rintro e w2 ⟨rfl, hO, hr⟩
    have HO := Lib.hid hO
    have HR := Lib.hid hr
    clear hO hr HT
    go_wp2
    refine leaves_cons (f := 284) (args := #[]) (by simp) (by simp [go_sem]) ?_
    refine (rec_idle _).mono ?_
    rintro e u' w'' ⟨rfl, rfl, rfl⟩
    exact ⟨_, results_tmp rfl _ _ _, rfl, HO.out, HR.out⟩
  · show Calls Tryz.prog 275 _ w1 (fun e w' => e = .returned (.bool true) ∧ Only (· = B) w1 w' ∧ Row w' B 102 ((r.keepA v).cells (.pointer p) nv))
    have HT := Lib.hid (some_yes B gt r (.pointer p) nv v w1 hb1 hr hq)
    clear h hb hO hb1 hr hq
    go_enter_defers Tryz.func275, Tryz.ntmps275
    go_wp2_with fail
    refine HT.out.mono ?_
    rintro e w2 ⟨rfl, hO, hr⟩
    have HO := Lib.hid hO
    have HR := Lib.hid hr
    clear hO hr HT
    go_wp2
    refine leaves_cons (f := 284) (args := #[]) (by simp) (by simp [go_sem]) ?_
    refine (rec_idle _).mono ?_
    rintro e u' w'' ⟨rfl, rfl, rfl⟩
    exact ⟨_, results_tmp rfl _ _ _, rfl, HO.out, HR.out⟩

theorem seeN_eq (r : LS) : r.waitK (nc r.n r.task) isN = r.seeN := by
  unfold LS.waitK LS.waitM LS.seeN LS.kept LS.kw
  cases (r.stepR (nc r.n r.task) isN).seen <;> rfl

set_option maxHeartbeats 1000000 in
theorem await_no (B : Nat) (p A : Option Addr) (cp : Nat) (nv : Value) (r : LS) (l : Int) (w : World) (h : RunP w B p A cp nv r) (hx : Words r.xs) (hdn : (r.stepR (nc r.n r.task) isN).done = false) :
    Calls Tryz.prog 261 #[Value.pointer (some ⟨B, 0, none⟩), .int .i64 l] w (Done B p A cp w (.tuple #[]) r.seeN) := by
  have HDN := Lib.hid hdn
  have HX := Lib.hid hx
  have HP := Lib.hid h
  clear h hx hdn
  go_enter Tryz.func261, Tryz.ntmps261
  go_upto_region 0 with (fail)
  have c1 : w.cell? ⟨B, 1, none⟩ = some (.int .i64 r.n) := HP.out.row.cell_ (i := 1) rfl
  have c3 : w.cell? ⟨B, 3, none⟩ = some (.int .i64 r.task) := HP.out.row.cell_ (i := 3) rfl
  refine wp_region_phase (n := 20) 14 (fun w => w.cell? ⟨B, 1, none⟩ = some (.int .i64 r.n) ∧ w.cell? ⟨B, 3, none⟩ = some (.int .i64 r.task)) rfl (by kernel_rfl) ⟨c1, c3⟩ (fun hHeld => ?_)
  have HP0 := Lib.hid (HP.out.keep (Only.refl Nil w).drew)
  have HO0 := Lib.hid ((Only.refl (TurnB B A) w).drew)
  clear c1 c3 HP
  generalize w.drew = w0 at *
  refine za 0 rfl ?_
  refine za 1 rfl ?_
  refine za 2 rfl ?_
  refine za 3 rfl ?_
  refine zt 4 rfl ?_
  refine za 5 rfl ?_
  refine za 6 rfl ?_
  refine za 7 rfl ?_
  refine zt 8 rfl ?_
  refine za 10 rfl ?_
  refine za 11 rfl ?_
  refine za 12 rfl ?_
  refine mpc 9 rfl (by kernel_rfl) (by rfl) (fun K hK => ?_)
  go_simp
  refine (next_any r.n r.task _).mono ?_
  rintro e w1 ⟨rfl, hO⟩
  have HP1 := Lib.hid (HP0.out.keep hO)
  have HO1 := Lib.hid (HO0.out.trans (hO.mono (T := TurnB B A) (fun _ _ h => h.elim)))
  have hHeld2 : w1.cell? ⟨B, 1, none⟩ = some (.int .i64 r.n) ∧ w1.cell? ⟨B, 3, none⟩ = some (.int .i64 r.task) := ⟨HP1.out.row.cell_ (i := 1) rfl, HP1.out.row.cell_ (i := 3) rfl⟩
  refine hK.out _ _ (.inr hHeld2) ?_
  clear hK K hHeld hO HP0 HO0

  refine mpc 13 rfl (by kernel_rfl) (by rfl) (fun K hK => ?_)
  go_simp
  refine (some_make B _).mono ?_
  rintro e w2 ⟨rfl, hb, hO⟩
  have HP2 := Lib.hid (HP1.out.keep hO)
  have HO2 := Lib.hid (HO1.out.trans (hO.mono (T := TurnB B A) (fun _ _ h => h.elim)))
  have HF := Lib.hid (holds_some B w1.heap.size p A cp nv r _ HP2.out hb)
  have hHeld3 : w2.cell? ⟨B, 1, none⟩ = some (.int .i64 r.n) ∧ w2.cell? ⟨B, 3, none⟩ = some (.int .i64 r.task) := ⟨HP2.out.row.cell_ (i := 1) rfl, HP2.out.row.cell_ (i := 3) rfl⟩
  generalize w1.heap.size = g1 at *
  refine hK.out _ _ (.inr hHeld3) ?_
  clear hK K hHeld2 hO hb HP1 HO1

  refine mpc 14 rfl (by kernel_rfl) (by rfl) (fun K hK => ?_)
  go_simp
  refine (waitK_run B p A cp nv r (nc r.n r.task) (.func 286) #[] #[.pointer (some ⟨g1, 0, none⟩)] isN _ HP2.out HF.out HX.out).mono ?_
  rw [seeN_eq, HDN.out]
  rintro e w3 ⟨rfl, hO, nv3, hP⟩
  have HP3 := Lib.hid hP
  have HO3 := Lib.hid (HO2.out.trans hO)
  generalize (r.stepR (nc r.n r.task) isN).seen = sn at *
  refine hK.out _ _ (.inl (by kernel_rfl)) ?_
  clear hK K hHeld3 hO hP HP2 HO2 HF

  refine za 15 rfl ?_
  refine za 16 rfl ?_
  refine za 17 rfl ?_
  refine za 18 rfl ?_
  refine za 19 rfl ?_
  refine wpAnyP_done (by kernel_rfl) ?_ _
  go_wp2
  go_returns
  exact ⟨rfl, HO3.out, nv3, HP3.out⟩
set_option maxHeartbeats 1000000 in
theorem await_yes (B : Nat) (p A : Option Addr) (cp : Nat) (nv : Value) (r : LS) (l : Int) (w : World) (h : RunP w B p A cp nv r) (hx : Words r.xs) (hdn : (r.stepR (nc r.n r.task) isN).done = true) :
    Calls Tryz.prog 261 #[Value.pointer (some ⟨B, 0, none⟩), .int .i64 l] w (Done B p A cp w (.tuple #[]) (r.seeN.go l)) := by
  have HDN := Lib.hid hdn
  have HX := Lib.hid hx
  have HP := Lib.hid h
  clear h hx hdn
  go_enter Tryz.func261, Tryz.ntmps261
  go_upto_region 0 with (fail)
  have c1 : w.cell? ⟨B, 1, none⟩ = some (.int .i64 r.n) := HP.out.row.cell_ (i := 1) rfl
  have c3 : w.cell? ⟨B, 3, none⟩ = some (.int .i64 r.task) := HP.out.row.cell_ (i := 3) rfl
  refine wp_region_phase (n := 20) 14 (fun w => w.cell? ⟨B, 1, none⟩ = some (.int .i64 r.n) ∧ w.cell? ⟨B, 3, none⟩ = some (.int .i64 r.task)) rfl (by kernel_rfl) ⟨c1, c3⟩ (fun hHeld => ?_)
  have HP0 := Lib.hid (HP.out.keep (Only.refl Nil w).drew)
  have HO0 := Lib.hid ((Only.refl (TurnB B A) w).drew)
  clear c1 c3 HP
  generalize w.drew = w0 at *
  refine za 0 rfl ?_
  refine za 1 rfl ?_
  refine za 2 rfl ?_
  refine za 3 rfl ?_
  refine zt 4 rfl ?_
  refine za 5 rfl ?_
  refine za 6 rfl ?_
  refine za 7 rfl ?_
  refine zt 8 rfl ?_
  refine za 10 rfl ?_
  refine za 11 rfl ?_
  refine za 12 rfl ?_
  refine mpc 9 rfl (by kernel_rfl) (by rfl) (fun K hK => ?_)
  go_simp
  refine (next_any r.n r.task _).mono ?_
  rintro e w1 ⟨rfl, hO⟩
  have HP1 := Lib.hid (HP0.out.keep hO)
  have HO1 := Lib.hid (HO0.out.trans (hO.mono (T := TurnB B A) (fun _ _ h => h.elim)))
  have hHeld2 : w1.cell? ⟨B, 1, none⟩ = some (.int .i64 r.n) ∧ w1.cell? ⟨B, 3, none⟩ = some (.int .i64 r.task) := ⟨HP1.out.row.cell_ (i := 1) rfl, HP1.out.row.cell_ (i := 3) rfl⟩
  refine hK.out _ _ (.inr hHeld2) ?_
  clear hK K hHeld hO HP0 HO0

  refine mpc 13 rfl (by kernel_rfl) (by rfl) (fun K hK => ?_)
  go_simp
  refine (some_make B _).mono ?_
  rintro e w2 ⟨rfl, hb, hO⟩
  have HP2 := Lib.hid (HP1.out.keep hO)
  have HO2 := Lib.hid (HO1.out.trans (hO.mono (T := TurnB B A) (fun _ _ h => h.elim)))
  have HF := Lib.hid (holds_some B w1.heap.size p A cp nv r _ HP2.out hb)
  have hHeld3 : w2.cell? ⟨B, 1, none⟩ = some (.int .i64 r.n) ∧ w2.cell? ⟨B, 3, none⟩ = some (.int .i64 r.task) := ⟨HP2.out.row.cell_ (i := 1) rfl, HP2.out.row.cell_ (i := 3) rfl⟩
  generalize w1.heap.size = g1 at *
  refine hK.out _ _ (.inr hHeld3) ?_
  clear hK K hHeld2 hO hb HP1 HO1

  refine mpc 14 rfl (by kernel_rfl) (by rfl) (fun K hK => ?_)
  go_simp
  refine (waitK_run B p A cp nv r (nc r.n r.task) (.func 286) #[] #[.pointer (some ⟨g1, 0, none⟩)] isN _ HP2.out HF.out HX.out).mono ?_
  rw [seeN_eq, HDN.out]
  rintro e w3 ⟨rfl, hO, nv3, hP⟩
  have HP3 := Lib.hid hP
  have HO3 := Lib.hid (HO2.out.trans hO)
  generalize (r.stepR (nc r.n r.task) isN).seen = sn at *
  refine hK.out _ _ (.inl (by kernel_rfl)) ?_
  clear hK K hHeld3 hO hP HP2 HO2 HF

  refine za 15 rfl ?_
  refine za 16 rfl ?_
  refine za 17 rfl ?_
  refine za 18 rfl ?_
  refine za 19 rfl ?_
  refine wpAnyP_done (by kernel_rfl) ?_ _
  go_wp2_with fail
  refine (go_run B p A cp nv3 _ l _ HP3.out).mono ?_
  rintro e w4 ⟨rfl, hO, nv4, hP⟩
  have HP4 := Lib.hid hP
  have HO4 := Lib.hid (HO3.out.trans hO)
  clear hO hP
  go_wp2
  go_returns
  exact ⟨rfl, HO4.out, nv4, HP4.out⟩

set_option maxHeartbeats 1000000 in
theorem notes_run (B : Nat) (p A : Option Addr) (cp : Nat) (nv : Value) (r : LS) (V : Value) (l : List Int) (w : World) (h : RunP w B p A cp nv r) (hw : Whats B A w V l) (hl : r.ns.length + l.length ≤ 1000) :
    Calls Tryz.prog 262 #[Value.pointer (some ⟨B, 0, none⟩), V] w (Done B p A cp w (.tuple #[]) (r.notes l)) := by
  obtain ⟨Z, c, rfl, hz⟩ := hw
  generalize hm : l.length = m at *
  have HM := Lib.hid hm
  have HZ := Lib.hid hz
  have HL := Lib.hid hl
  have H0 : Hid (Only (TurnB B A) w w ∧ ∃ nv, RunP w B p A cp nv (r.notes (l.take 0))) := Lib.hid ⟨Only.refl _ _, nv, h⟩
  clear h hz hl hm
  go_enter Tryz.func262, Tryz.ntmps262
  go_wp2
  go_loopw [8] (fun iv wr => ∃ k : Nat, k ≤ m ∧ iv = .int .i64 k ∧ Hid (Only (TurnB B A) w wr ∧ ∃ nv, RunP wr B p A cp nv (r.notes (l.take k)))) (fun iv _ => m - (intOf iv).toNat)
  case atStart => exact ⟨0, Nat.zero_le _, rfl, H0⟩
  case round =>
    obtain ⟨k, hk, rfl, HC⟩ := hrel
    clear H0
    have hm9 : m ≤ 1000 := by have := HL.out; omega
    by_cases hlt : k < m
    · obtain ⟨x, hx⟩ : ∃ x, l[k]? = some x := ⟨_, List.getElem?_eq_getElem (by rw [HM.out]; exact hlt)⟩
      obtain ⟨hO, nv1, hP⟩ := HC.out
      obtain ⟨b, o, rfl, hc⟩ := HZ.out _ hO k x hx
      have HP := Lib.hid hP
      have HO := Lib.hid hO
      have HN := Lib.hid (notes_next (r := r) hx)
      have HNL := Lib.hid (show (r.notes (l.take k)).ns.length ≤ 1000 by rw [notes_len, List.length_take]; have := HL.out; omega)
      clear HC hO hP hx
      go_wp2_with fail
      clear hc
      refine (note_run B p A cp nv1 _ x 0 _ HP.out HNL.out).mono ?_
      rintro e w2 ⟨rfl, hO, nv2, hP⟩
      have HC2 : Hid (Only (TurnB B A) w w2 ∧ ∃ nv, RunP w2 B p A cp nv (r.notes (l.take (k + 1)))) := Lib.hid ⟨HO.out.trans hO, nv2, by rw [HN.out]; exact hP⟩
      clear hO hP HP HO
      go_wp2
      go_roundw
      case rel => exact ⟨k + 1, by omega, by go_num, HC2⟩
      case measure => simp [intOf]; omega
    · obtain rfl : k = m := by omega
      have HE : Hid (Only (TurnB B A) w wr ∧ ∃ nv, RunP wr B p A cp nv (r.notes l)) := Lib.hid (by rw [show l = l.take k by rw [← HM.out, List.take_length]]; exact HC.out)
      clear HC
      go_wp2
      go_returns
      exact ⟨rfl, HE.out.1, HE.out.2⟩
end Go.Proofs.YtigdbokfapedcaaGreat
/- mutex.Enter, mutex.Give, mutex.Try, the program's. -/
set_option linter.unusedVariables false
set_option linter.unusedSimpArgs false
namespace Go.Proofs.YtigdbokfapedcaaGreat
open Go.RowKit


set_option maxHeartbeats 1000000 in
theorem enter_0 (B : Nat) (p A : Option Addr) (cp : Nat) (nv : Value) (r : LS) (tail cl : Int) (w : World) (h : RunP w B p A cp nv r) (hl : r.ns.length ≤ 900) (hx : Words r.xs) (ha : 0 ≤ r.a ∧ r.a < 4294967296) (hln : r.line = 0) :
    Calls Tryz.prog 198 #[Value.pointer (some ⟨B, 0, none⟩), .int .i64 tail, .int .i64 cl] w (Done B p A cp w (.bool false) ((r.doA 2 (nc r.n r.task) 0 0).go 1)) := by
  have HX := Lib.hid hx
  have HL := Lib.hid hl
  have HA := Lib.hid ha
  have HP := Lib.hid h
  have HLN := Lib.hid hln
  have c5 : w.cell? ⟨B, 5, none⟩ = some (.int .i64 (0)) := by rw [← hln]; exact h.row.cell_ (i := 5) rfl
  clear h hl hx ha hln
  go_enter Tryz.func198, Tryz.ntmps198
  go_wp2_with fail
  clear c5
  have HO := Lib.hid (Only.refl (TurnB B A) w)
  refine (clear_run B p A cp nv r 1 _ HP.out).mono ?_
  rintro e wN ⟨rfl, hO, nvN, hP⟩
  have HPN := Lib.hid hP
  have HON := Lib.hid (HO.out.trans hO)
  clear hO hP
  go_wp2
  go_ret
  exact ⟨rfl, HON.out, nvN, HPN.out⟩
set_option maxHeartbeats 1000000 in
theorem enter_1 (B : Nat) (p A : Option Addr) (cp : Nat) (nv : Value) (r : LS) (tail cl : Int) (w : World) (h : RunP w B p A cp nv r) (hl : r.ns.length ≤ 900) (hx : Words r.xs) (ha : 0 ≤ r.a ∧ r.a < 4294967296) (hln : r.line = 1) :
    Calls Tryz.prog 198 #[Value.pointer (some ⟨B, 0, none⟩), .int .i64 tail, .int .i64 cl] w (Done B p A cp w (.bool false) ((r.doA 2 (bc r.n r.task) 1 0).go 2)) := by
  have HX := Lib.hid hx
  have HL := Lib.hid hl
  have HA := Lib.hid ha
  have HP := Lib.hid h
  have HLN := Lib.hid hln
  have c5 : w.cell? ⟨B, 5, none⟩ = some (.int .i64 (1)) := by rw [← hln]; exact h.row.cell_ (i := 5) rfl
  clear h hl hx ha hln
  go_enter Tryz.func198, Tryz.ntmps198
  go_upto_region 7 with (fail)
  have c1 : w.cell? ⟨B, 1, none⟩ = some (.int .i64 r.n) := HP.out.row.cell_ (i := 1) rfl
  have c3 : w.cell? ⟨B, 3, none⟩ = some (.int .i64 r.task) := HP.out.row.cell_ (i := 3) rfl
  refine wp_region_phase (n := 11) 10 (fun w => w.cell? ⟨B, 1, none⟩ = some (.int .i64 r.n) ∧ w.cell? ⟨B, 3, none⟩ = some (.int .i64 r.task)) rfl (by kernel_rfl) ⟨c1, c3⟩ (fun hHeld => ?_)
  have HP0 := Lib.hid (HP.out.keep (Only.refl Nil w).drew)
  have HO0 := Lib.hid ((Only.refl (TurnB B A) w).drew)
  clear c1 c3 HP c5
  generalize w.drew = w0 at *
  refine za 0 rfl ?_
  refine za 1 rfl ?_
  refine za 2 rfl ?_
  refine za 3 rfl ?_
  refine zt 4 rfl ?_
  refine za 5 rfl ?_
  refine za 6 rfl ?_
  refine za 7 rfl ?_
  refine zt 8 rfl ?_
  refine mpc 9 rfl (by kernel_rfl) (by rfl) (fun K hK => ?_)
  go_simp
  refine (blocked_any r.n r.task _).mono ?_
  rintro e w1 ⟨rfl, hO⟩
  have HP1 := Lib.hid (HP0.out.keep hO)
  have HO1 := Lib.hid (HO0.out.trans (hO.mono (T := TurnB B A) (fun _ _ h => h.elim)))
  have hHeld2 : w1.cell? ⟨B, 1, none⟩ = some (.int .i64 r.n) ∧ w1.cell? ⟨B, 3, none⟩ = some (.int .i64 r.task) := ⟨HP1.out.row.cell_ (i := 1) rfl, HP1.out.row.cell_ (i := 3) rfl⟩
  refine hK.out _ _ (.inr hHeld2) ?_
  clear hK K hHeld hO HP0 HO0

  refine mpc 10 rfl (by kernel_rfl) (by rfl) (fun K hK => ?_)
  go_simp
  refine (store_run B p A cp nv r (bc r.n r.task) 1 _ HP1.out).mono ?_
  rintro e w2 ⟨rfl, hO, nv2, hP⟩
  have HP2 := Lib.hid hP
  have HO2 := Lib.hid (HO1.out.trans hO)
  refine hK.out _ _ (.inl (by kernel_rfl)) ?_
  clear hK K hHeld2 hO hP HP1 HO1

  refine wpAnyP_done (by kernel_rfl) ?_ _
  go_wp2_with fail
  refine (go_run B p A cp nv2 _ 2 _ HP2.out).mono ?_
  rintro e wN ⟨rfl, hO, nvN, hP⟩
  have HPN := Lib.hid hP
  have HON := Lib.hid (HO2.out.trans hO)
  clear hO hP
  go_wp2
  go_ret
  exact ⟨rfl, HON.out, nvN, HPN.out⟩
set_option maxHeartbeats 1000000 in
theorem enter_2a (B : Nat) (p A : Option Addr) (cp : Nat) (nv : Value) (r : LS) (tail cl : Int) (w : World) (h : RunP w B p A cp nv r) (hl : r.ns.length ≤ 900) (hx : Words r.xs) (ha : 0 ≤ r.a ∧ r.a < 4294967296) (hln : r.line = 2) (hz : wordAt r.xs tail = 0) :
    Calls Tryz.prog 198 #[Value.pointer (some ⟨B, 0, none⟩), .int .i64 tail, .int .i64 cl] w (Done B p A cp w (.bool true) (r.swapIn tail cl)) := by
  have HZ := Lib.hid hz
  clear hz
  have HX := Lib.hid hx
  have HL := Lib.hid hl
  have HA := Lib.hid ha
  have HP := Lib.hid h
  have HLN := Lib.hid hln
  have c5 : w.cell? ⟨B, 5, none⟩ = some (.int .i64 (2)) := by rw [← hln]; exact h.row.cell_ (i := 5) rfl
  clear h hl hx ha hln
  go_enter Tryz.func198, Tryz.ntmps198
  go_wp2_with fail
  clear c5
  have HO := Lib.hid (Only.refl (TurnB B A) w)
  refine (stand_in B p A cp nv r tail cl 3 _ HP.out HL.out HZ.out).mono ?_
  rintro e wN ⟨rfl, hO, nvN, hP⟩
  have HPN := Lib.hid hP
  have HON := Lib.hid (HO.out.trans hO)
  clear hO hP
  go_wp2
  go_ret
  exact ⟨rfl, HON.out, nvN, HPN.out⟩
set_option maxHeartbeats 1000000 in
theorem enter_2b (B : Nat) (p A : Option Addr) (cp : Nat) (nv : Value) (r : LS) (tail cl : Int) (w : World) (h : RunP w B p A cp nv r) (hl : r.ns.length ≤ 900) (hx : Words r.xs) (ha : 0 ≤ r.a ∧ r.a < 4294967296) (hln : r.line = 2) (hz : wordAt r.xs tail ≠ 0) :
    Calls Tryz.prog 198 #[Value.pointer (some ⟨B, 0, none⟩), .int .i64 tail, .int .i64 cl] w (Done B p A cp w (.bool false) ((r.swapIn tail cl).go 3)) := by
  have HZ := Lib.hid hz
  clear hz
  have HX := Lib.hid hx
  have HL := Lib.hid hl
  have HA := Lib.hid ha
  have HP := Lib.hid h
  have HLN := Lib.hid hln
  have c5 : w.cell? ⟨B, 5, none⟩ = some (.int .i64 (2)) := by rw [← hln]; exact h.row.cell_ (i := 5) rfl
  clear h hl hx ha hln
  go_enter Tryz.func198, Tryz.ntmps198
  go_wp2_with fail
  clear c5
  have HO := Lib.hid (Only.refl (TurnB B A) w)
  refine (stand_behind B p A cp nv r tail cl 3 _ HP.out HL.out HZ.out).mono ?_
  rintro e wN ⟨rfl, hO, nvN, hP⟩
  have HPN := Lib.hid hP
  have HON := Lib.hid (HO.out.trans hO)
  clear hO hP
  go_wp2
  go_ret
  exact ⟨rfl, HON.out, nvN, HPN.out⟩

set_option maxHeartbeats 1000000 in
theorem enter_3 (B : Nat) (p A : Option Addr) (cp : Nat) (nv : Value) (r : LS) (tail cl : Int) (w : World) (h : RunP w B p A cp nv r) (hl : r.ns.length ≤ 900) (hx : Words r.xs) (ha : 0 ≤ r.a ∧ r.a < 4294967296) (hln : r.line = 3) :
    Calls Tryz.prog 198 #[Value.pointer (some ⟨B, 0, none⟩), .int .i64 tail, .int .i64 cl] w (Done B p A cp w (.bool false) r.link) := by
  have HX := Lib.hid hx
  have HL := Lib.hid hl
  have HA := Lib.hid ha
  have HP := Lib.hid h
  have HLN := Lib.hid hln
  have c5 : w.cell? ⟨B, 5, none⟩ = some (.int .i64 (3)) := by rw [← hln]; exact h.row.cell_ (i := 5) rfl
  clear h hl hx ha hln
  go_enter Tryz.func198, Tryz.ntmps198
  go_upto_region 12 with (fail)
  have c1 : w.cell? ⟨B, 1, none⟩ = some (.int .i64 r.n) := HP.out.row.cell_ (i := 1) rfl
  have c3 : w.cell? ⟨B, 3, none⟩ = some (.int .i64 r.task) := HP.out.row.cell_ (i := 3) rfl
  refine wp_region_phase (n := 11) 10 (fun w => w.cell? ⟨B, 1, none⟩ = some (.int .i64 r.n) ∧ w.cell? ⟨B, 3, none⟩ = some (.int .i64 r.task)) rfl (by kernel_rfl) ⟨c1, c3⟩ (fun hHeld => ?_)
  have HP0 := Lib.hid (HP.out.keep (Only.refl Nil w).drew)
  have HO0 := Lib.hid ((Only.refl (TurnB B A) w).drew)
  clear c1 c3 HP c5
  generalize w.drew = w0 at *
  refine za 0 rfl ?_
  refine za 1 rfl ?_
  refine za 2 rfl ?_
  refine za 3 rfl ?_
  refine zt 4 rfl ?_
  refine za 5 rfl ?_
  refine za 8 rfl ?_
  refine mpc 6 rfl (by kernel_rfl) (by rfl) (fun K hK => ?_)
  go_simp
  refine (kept_any B p A cp nv r _ HP0.out HA.out).mono ?_
  rintro e w1 ⟨rfl, rfl⟩
  refine hK.out _ _ (.inr hHeld) ?_
  clear hK K

  refine mpc 7 rfl (by kernel_rfl) (by rfl) (fun K hK => ?_)
  go_simp
  refine (next_any r.n (r.a - 1) _).mono ?_
  rintro e w1 ⟨rfl, hO⟩
  have HP1 := Lib.hid (HP0.out.keep hO)
  have HO1 := Lib.hid (HO0.out.trans (hO.mono (T := TurnB B A) (fun _ _ h => h.elim)))
  have hHeld2 : w1.cell? ⟨B, 1, none⟩ = some (.int .i64 r.n) ∧ w1.cell? ⟨B, 3, none⟩ = some (.int .i64 r.task) := ⟨HP1.out.row.cell_ (i := 1) rfl, HP1.out.row.cell_ (i := 3) rfl⟩
  refine hK.out _ _ (.inr hHeld2) ?_
  clear hK K hHeld hO HP0 HO0

  refine mpc 9 rfl (by kernel_rfl) (by rfl) (fun K hK => ?_)
  go_simp
  refine (number_any B p A cp nv r _ HP1.out).mono ?_
  rintro e w1 ⟨rfl, rfl⟩
  refine hK.out _ _ (.inr hHeld2) ?_
  clear hK K

  refine mpc 10 rfl (by kernel_rfl) (by rfl) (fun K hK => ?_)
  go_simp
  refine (tell_run B p A cp nv r (nc r.n (r.a - 1)) r.me _ HP1.out).mono ?_
  rintro e w2 ⟨rfl, hO, nv2, hP⟩
  have HP2 := Lib.hid hP
  have HO2 := Lib.hid (HO1.out.trans hO)
  refine hK.out _ _ (.inl (by kernel_rfl)) ?_
  clear hK K hHeld2 hO hP HP1 HO1

  refine wpAnyP_done (by kernel_rfl) ?_ _
  go_wp2_with fail
  refine (go_run B p A cp nv2 _ 4 _ HP2.out).mono ?_
  rintro e wN ⟨rfl, hO, nvN, hP⟩
  have HPN := Lib.hid hP
  have HON := Lib.hid (HO2.out.trans hO)
  clear hO hP
  go_wp2
  go_ret
  exact ⟨rfl, HON.out, nvN, HPN.out⟩

set_option maxHeartbeats 1000000 in
theorem enter_4 (B : Nat) (p A : Option Addr) (cp : Nat) (nv : Value) (r : LS) (tail cl : Int) (w : World) (h : RunP w B p A cp nv r) (hl : r.ns.length ≤ 900) (hx : Words r.xs) (ha : 0 ≤ r.a ∧ r.a < 4294967296) (hln : r.line = 4) :
    Calls Tryz.prog 198 #[Value.pointer (some ⟨B, 0, none⟩), .int .i64 tail, .int .i64 cl] w (Done B p A cp w (.bool (r.stepR (bc r.n r.task) isZ).done) (r.wait (bc r.n r.task) isZ)) := by
  have HX := Lib.hid hx
  have HL := Lib.hid hl
  have HA := Lib.hid ha
  have HP := Lib.hid h
  have HLN := Lib.hid hln
  have c5 : w.cell? ⟨B, 5, none⟩ = some (.int .i64 (4)) := by rw [← hln]; exact h.row.cell_ (i := 5) rfl
  clear h hl hx ha hln
  go_enter Tryz.func198, Tryz.ntmps198
  go_upto_region 15 with (fail)
  have c1 : w.cell? ⟨B, 1, none⟩ = some (.int .i64 r.n) := HP.out.row.cell_ (i := 1) rfl
  have c3 : w.cell? ⟨B, 3, none⟩ = some (.int .i64 r.task) := HP.out.row.cell_ (i := 3) rfl
  refine wp_region_phase (n := 16) 10 (fun w => w.cell? ⟨B, 1, none⟩ = some (.int .i64 r.n) ∧ w.cell? ⟨B, 3, none⟩ = some (.int .i64 r.task)) rfl (by kernel_rfl) ⟨c1, c3⟩ (fun hHeld => ?_)
  have HP0 := Lib.hid (HP.out.keep (Only.refl Nil w).drew)
  have HO0 := Lib.hid ((Only.refl (TurnB B A) w).drew)
  clear c1 c3 HP c5
  generalize w.drew = w0 at *
  refine za 0 rfl ?_
  refine za 1 rfl ?_
  refine za 2 rfl ?_
  refine za 3 rfl ?_
  refine zt 4 rfl ?_
  refine za 5 rfl ?_
  refine za 6 rfl ?_
  refine za 7 rfl ?_
  refine zt 8 rfl ?_
  refine mpc 9 rfl (by kernel_rfl) (by rfl) (fun K hK => ?_)
  go_simp
  refine (blocked_any r.n r.task _).mono ?_
  rintro e w1 ⟨rfl, hO⟩
  have HP1 := Lib.hid (HP0.out.keep hO)
  have HO1 := Lib.hid (HO0.out.trans (hO.mono (T := TurnB B A) (fun _ _ h => h.elim)))
  have hHeld2 : w1.cell? ⟨B, 1, none⟩ = some (.int .i64 r.n) ∧ w1.cell? ⟨B, 3, none⟩ = some (.int .i64 r.task) := ⟨HP1.out.row.cell_ (i := 1) rfl, HP1.out.row.cell_ (i := 3) rfl⟩
  refine hK.out _ _ (.inr hHeld2) ?_
  clear hK K hHeld hO HP0 HO0

  refine mpc 10 rfl (by kernel_rfl) (by rfl) (fun K hK => ?_)
  go_simp
  refine (wait_run B p A cp nv r (bc r.n r.task) (.func 258) #[] #[] isZ _ HP1.out holds_zero.at HX.out).mono ?_
  generalize (r.stepR (bc r.n r.task) isZ).seen = sn at *
  generalize (r.stepR (bc r.n r.task) isZ).done = dn at *
  rintro e w2 ⟨rfl, hO, nv2, hP⟩
  have HP2 := Lib.hid hP
  have HO2 := Lib.hid (HO1.out.trans hO)
  refine hK.out _ _ (.inl (by kernel_rfl)) ?_
  clear hK K hHeld2 hO hP HP1 HO1

  refine za 11 rfl ?_
  refine za 12 rfl ?_
  refine za 13 rfl ?_
  refine za 14 rfl ?_
  refine za 15 rfl ?_
  refine wpAnyP_done (by kernel_rfl) ?_ _
  go_wp2
  go_ret
  exact ⟨rfl, HO2.out, nv2, HP2.out⟩

set_option maxHeartbeats 1000000 in
theorem enter_no (B : Nat) (p A : Option Addr) (cp : Nat) (nv : Value) (r : LS) (tail cl : Int) (w : World) (h : RunP w B p A cp nv r) (hl : r.ns.length ≤ 900) (hx : Words r.xs) (ha : 0 ≤ r.a ∧ r.a < 4294967296) (ln : Int) (hln : r.line = ln) (n0 : ln ≠ 0) (n1 : ln ≠ 1) (n2 : ln ≠ 2) (n3 : ln ≠ 3) (n4 : ln ≠ 4) :
    Calls Tryz.prog 198 #[Value.pointer (some ⟨B, 0, none⟩), .int .i64 tail, .int .i64 cl] w (Done B p A cp w (.bool false) r) := by
  have b0 : (ln == 0) = false := beq_eq_false_iff_ne.2 n0
  have b1 : (ln == 1) = false := beq_eq_false_iff_ne.2 n1
  have b2 : (ln == 2) = false := beq_eq_false_iff_ne.2 n2
  have b3 : (ln == 3) = false := beq_eq_false_iff_ne.2 n3
  have b4 : (ln == 4) = false := beq_eq_false_iff_ne.2 n4
  clear n0 n1 n2 n3 n4
  have HX := Lib.hid hx
  have HL := Lib.hid hl
  have HA := Lib.hid ha
  have HP := Lib.hid h
  have HLN := Lib.hid hln
  have c5 : w.cell? ⟨B, 5, none⟩ = some (.int .i64 (ln)) := by rw [← hln]; exact h.row.cell_ (i := 5) rfl
  clear h hl hx ha hln
  go_enter Tryz.func198, Tryz.ntmps198
  go_wp2
  go_ret
  exact ⟨rfl, Only.refl _ _, nv, HP.out⟩

/-- Entering, of any run. -/
theorem enter_run (B : Nat) (p A : Option Addr) (cp : Nat) (nv : Value) (r : LS) (tail cl : Int) (w : World) (h : RunP w B p A cp nv r) (hl : r.ns.length ≤ 900) (hx : Words r.xs) (ha : 0 ≤ r.a ∧ r.a < 4294967296) :
    Calls Tryz.prog 198 #[Value.pointer (some ⟨B, 0, none⟩), .int .i64 tail, .int .i64 cl] w (Done B p A cp w (.bool (r.mxEnter tail cl).2) (r.mxEnter tail cl).1) := by
  by_cases l0 : r.line = 0
  · rw [show r.mxEnter tail cl = _ by unfold LS.mxEnter; rw [if_pos l0]]
    exact enter_0 B p A cp nv r tail cl w h hl hx ha l0
  by_cases l1 : r.line = 1
  · rw [show r.mxEnter tail cl = _ by unfold LS.mxEnter; rw [if_neg l0, if_pos l1]]
    exact enter_1 B p A cp nv r tail cl w h hl hx ha l1
  by_cases l2 : r.line = 2
  · by_cases hz : wordAt r.xs tail = 0
    · rw [show r.mxEnter tail cl = _ by unfold LS.mxEnter; rw [if_neg l0, if_neg l1, if_pos l2, if_pos hz]]
      exact enter_2a B p A cp nv r tail cl w h hl hx ha l2 hz
    · rw [show r.mxEnter tail cl = _ by unfold LS.mxEnter; rw [if_neg l0, if_neg l1, if_pos l2, if_neg hz]]
      exact enter_2b B p A cp nv r tail cl w h hl hx ha l2 hz
  by_cases l3 : r.line = 3
  · rw [show r.mxEnter tail cl = _ by unfold LS.mxEnter; rw [if_neg l0, if_neg l1, if_neg l2, if_pos l3]]
    exact enter_3 B p A cp nv r tail cl w h hl hx ha l3
  by_cases l4 : r.line = 4
  · rw [show r.mxEnter tail cl = _ by unfold LS.mxEnter; rw [if_neg l0, if_neg l1, if_neg l2, if_neg l3, if_pos l4]]
    exact enter_4 B p A cp nv r tail cl w h hl hx ha l4
  · rw [show r.mxEnter tail cl = _ by unfold LS.mxEnter; rw [if_neg l0, if_neg l1, if_neg l2, if_neg l3, if_neg l4]]
    exact enter_no B p A cp nv r tail cl w h hl hx ha _ rfl l0 l1 l2 l3 l4
theorem enter_nil (tail cl : Int) (w : World) : Calls Tryz.prog 198 #[.pointer none, .int .i64 tail, .int .i64 cl] w fun e w' => e = .returned (.bool false) ∧ w = w' := by
  go_enter Tryz.func198, Tryz.ntmps198
  go_wp2
  go_ret
  exact ⟨rfl, rfl⟩
end Go.Proofs.YtigdbokfapedcaaGreat
/- mutex.Try, the program's. -/
set_option linter.unusedVariables false
set_option linter.unusedSimpArgs false
namespace Go.Proofs.YtigdbokfapedcaaGreat
open Go.RowKit


set_option maxHeartbeats 1000000 in
theorem try_0 (B : Nat) (p A : Option Addr) (cp : Nat) (nv : Value) (r : LS) (tail a : Int) (w : World) (h : RunP w B p A cp nv r) (hl : r.ns.length ≤ 900) (hx : Words r.xs) (ha : 0 ≤ r.a ∧ r.a < 4294967296) (hr0 : -1000 ≤ a) (hr1 : a ≤ 1000) (hln : r.line = a) :
    Calls Tryz.prog 220 #[Value.pointer (some ⟨B, 0, none⟩), .int .i64 tail, .int .i64 a] w (Done B p A cp w (.tuple #[.bool false, .bool false]) ((r.doA 2 (nc r.n r.task) 0 0).go (a + 1))) := by
  have HX := Lib.hid hx
  have HL := Lib.hid hl
  have HA := Lib.hid ha
  have HP := Lib.hid h
  have HLN := Lib.hid hln
  have c5 : w.cell? ⟨B, 5, none⟩ = some (.int .i64 (a)) := by rw [← hln]; exact h.row.cell_ (i := 5) rfl
  clear h hl hx ha hln
  go_enter Tryz.func220, Tryz.ntmps220
  go_wp2_with fail
  clear c5
  refine (clear_run B p A cp nv r (a + 1) _ HP.out).mono ?_
  rintro e w1 ⟨rfl, hO, nv1, hP⟩
  have HP1 := Lib.hid hP
  have HO1 := Lib.hid hO
  clear hO hP
  go_wp2
  go_ret2
  exact ⟨rfl, HO1.out, nv1, HP1.out⟩
set_option maxHeartbeats 1000000 in
theorem try_1 (B : Nat) (p A : Option Addr) (cp : Nat) (nv : Value) (r : LS) (tail a : Int) (w : World) (h : RunP w B p A cp nv r) (hl : r.ns.length ≤ 900) (hx : Words r.xs) (ha : 0 ≤ r.a ∧ r.a < 4294967296) (hr0 : -1000 ≤ a) (hr1 : a ≤ 1000) (hln : r.line = a + 1) :
    Calls Tryz.prog 220 #[Value.pointer (some ⟨B, 0, none⟩), .int .i64 tail, .int .i64 a] w (Done B p A cp w (.tuple #[.bool true, .bool (there r.xs tail && (wordAt r.xs tail == 0))]) (r.doA 5 tail 0 r.me)) := by
  have e1 : (a + 1 == a) = false := beq_eq_false_iff_ne.2 (by omega)
  have HX := Lib.hid hx
  have HL := Lib.hid hl
  have HA := Lib.hid ha
  have HP := Lib.hid h
  have HLN := Lib.hid hln
  have c5 : w.cell? ⟨B, 5, none⟩ = some (.int .i64 (a + 1)) := by rw [← hln]; exact h.row.cell_ (i := 5) rfl
  clear h hl hx ha hln
  go_enter Tryz.func220, Tryz.ntmps220
  go_wp2_with fail
  clear c5
  refine (number_any B p A cp nv r _ HP.out).mono ?_
  rintro e w1 ⟨rfl, rfl⟩
  go_wp2_with fail
  refine (cas_run B p A cp nv r tail 0 r.me _ HP.out).mono ?_
  generalize (there r.xs tail && (wordAt r.xs tail == 0)) = d at *
  rintro e w2 ⟨rfl, hO, nv2, hP⟩
  have HP2 := Lib.hid hP
  have HO2 := Lib.hid hO
  clear hO hP HP
  go_wp2
  go_ret2
  exact ⟨rfl, HO2.out, nv2, HP2.out⟩
set_option maxHeartbeats 1000000 in
theorem try_no (B : Nat) (p A : Option Addr) (cp : Nat) (nv : Value) (r : LS) (tail a : Int) (w : World) (h : RunP w B p A cp nv r) (hl : r.ns.length ≤ 900) (hx : Words r.xs) (ha : 0 ≤ r.a ∧ r.a < 4294967296) (hr0 : -1000 ≤ a) (hr1 : a ≤ 1000) (ln : Int) (hln : r.line = ln) (n0 : ln ≠ a) (n1 : ln ≠ a + 1) :
    Calls Tryz.prog 220 #[Value.pointer (some ⟨B, 0, none⟩), .int .i64 tail, .int .i64 a] w (Done B p A cp w (.tuple #[.bool false, .bool false]) r) := by
  have b0 : (ln == a) = false := beq_eq_false_iff_ne.2 n0
  have b1 : (ln == a + 1) = false := beq_eq_false_iff_ne.2 n1
  clear n0 n1
  have HX := Lib.hid hx
  have HL := Lib.hid hl
  have HA := Lib.hid ha
  have HP := Lib.hid h
  have HLN := Lib.hid hln
  have c5 : w.cell? ⟨B, 5, none⟩ = some (.int .i64 (ln)) := by rw [← hln]; exact h.row.cell_ (i := 5) rfl
  clear h hl hx ha hln
  go_enter Tryz.func220, Tryz.ntmps220
  go_wp2
  go_ret2
  exact ⟨rfl, Only.refl _ _, nv, HP.out⟩
/-- A try, of any run. -/
theorem try_run (B : Nat) (p A : Option Addr) (cp : Nat) (nv : Value) (r : LS) (tail a : Int) (w : World) (h : RunP w B p A cp nv r) (hl : r.ns.length ≤ 900) (hx : Words r.xs) (ha : 0 ≤ r.a ∧ r.a < 4294967296) (hr0 : -1000 ≤ a) (hr1 : a ≤ 1000) :
    Calls Tryz.prog 220 #[Value.pointer (some ⟨B, 0, none⟩), .int .i64 tail, .int .i64 a] w (Done B p A cp w (.tuple #[.bool (r.mxTry tail a).2.1, .bool (r.mxTry tail a).2.2]) (r.mxTry tail a).1) := by
  by_cases l0 : r.line = a
  · rw [show r.mxTry tail a = _ by unfold LS.mxTry; rw [if_pos l0]]
    exact try_0 B p A cp nv r tail a w h hl hx ha hr0 hr1 l0
  by_cases l1 : r.line = a + 1
  · rw [show r.mxTry tail a = _ by unfold LS.mxTry; rw [if_neg l0, if_pos l1]]
    exact try_1 B p A cp nv r tail a w h hl hx ha hr0 hr1 l1
  · rw [show r.mxTry tail a = _ by unfold LS.mxTry; rw [if_neg l0, if_neg l1]]
    exact try_no B p A cp nv r tail a w h hl hx ha hr0 hr1 _ rfl l0 l1
theorem try_nil (tail a : Int) (w : World) : Calls Tryz.prog 220 #[.pointer none, .int .i64 tail, .int .i64 a] w fun e w' => e = .returned (.tuple #[.bool false, .bool false]) ∧ w = w' := by
  go_enter Tryz.func220, Tryz.ntmps220
  go_wp2
  go_ret2
  exact ⟨rfl, rfl⟩
end Go.Proofs.YtigdbokfapedcaaGreat
