import Derived.Test.YtkkldcggbekleaaGreatS26
import Derived.Test.YtkkldcggbekleaaGreatS24
import Derived.Test.YtkkldcggbekleaaGreatS19
import Derived.Test.YtkkldcggbekleaaGreatS7
set_option linter.unusedVariables false
set_option linter.unusedSimpArgs false
namespace Go.Proofs.YtkkldcggbekleaaGreat
open Go.RowKit
theorem number_any (B : Nat) (p A : Option Addr) (cp : Nat) (nv : Value) (r : LS) (w : World) (h : RunP w B p A cp nv r) : Calls Tryz.prog 105 #[Value.pointer (some ⟨B, 0, none⟩)] w fun e w' => e = .returned (.int .u32 r.me) ∧ w = w' := by
  have c3 : w.cell? ⟨B, 3, none⟩ = some (.int .i64 r.task) := h.row.cell_ (i := 3) rfl
  have HM := Lib.hid (show r.me = (r.task + 1) % 4294967296 from rfl)
  clear h
  go_enter Tryz.func105, Tryz.ntmps105
  go_wp2
  go_ret
  exact ⟨ret_int (by rw [HM.out]; omega), rfl⟩
theorem kept_any (B : Nat) (p A : Option Addr) (cp : Nat) (nv : Value) (r : LS) (w : World) (h : RunP w B p A cp nv r) (ha : 0 ≤ r.a ∧ r.a < 4294967296) : Calls Tryz.prog 104 #[Value.pointer (some ⟨B, 0, none⟩)] w fun e w' => e = .returned (.int .i64 (r.a - 1)) ∧ w = w' := by
  have c6 : w.cell? ⟨B, 6, none⟩ = some (.int .u32 r.a) := h.row.cell_ (i := 6) rfl
  obtain ⟨h0, h1⟩ := ha
  clear h
  go_enter Tryz.func104, Tryz.ntmps104
  go_wp2
  go_ret
  exact ⟨ret_int (by go_num), rfl⟩
theorem tell_run (B : Nat) (p A : Option Addr) (cp : Nat) (nv : Value) (r : LS) (c x : Int) (w : World) (h : RunP w B p A cp nv r) :
    Calls Tryz.prog 102 #[Value.pointer (some ⟨B, 0, none⟩), .int .i64 c, .int .u32 x] w (Done B p A cp w (.tuple #[]) ((r.doA 2 c x 0).wake c)) := by
  have HP := Lib.hid h
  clear h
  go_enter Tryz.func102, Tryz.ntmps102
  go_wp2_with fail
  refine (store_run B p A cp nv r c x _ HP.out).mono ?_
  rintro e w1 ⟨rfl, hO, nv1, hP⟩
  have HP1 := Lib.hid hP
  have HO1 := Lib.hid hO
  clear hO hP HP
  go_wp2_with fail
  refine (wake_run B p A cp nv1 _ c _ HP1.out).mono ?_
  rintro e w2 ⟨rfl, hO, nv2, hP⟩
  have HP2 := Lib.hid hP
  have HO2 := Lib.hid (HO1.out.trans hO)
  clear hO hP
  go_wp2
  go_returns
  exact ⟨rfl, HO2.out, nv2, HP2.out⟩
-- a drawn region that loads the lock's map and the task, and asks for a cell of the task's
set_option maxHeartbeats 1000000 in
theorem clear_run (B : Nat) (p A : Option Addr) (cp : Nat) (nv : Value) (r : LS) (l : Int) (w : World) (h : RunP w B p A cp nv r) :
    Calls Tryz.prog 98 #[Value.pointer (some ⟨B, 0, none⟩), .int .i64 l] w (Done B p A cp w (.tuple #[]) ((r.doA 2 (nc r.n r.task) 0 0).go l)) := by
  have HP := Lib.hid h
  clear h
  go_enter Tryz.func98, Tryz.ntmps98
  go_upto_region 0 with (fail)
  have c1 : w.cell? ⟨B, 1, none⟩ = some (.int .i64 r.n) := HP.out.row.cell_ (i := 1) rfl
  have c3 : w.cell? ⟨B, 3, none⟩ = some (.int .i64 r.task) := HP.out.row.cell_ (i := 3) rfl
  refine wp_region_phase (n := 11) 10 (fun w => w.cell? ⟨B, 1, none⟩ = some (.int .i64 r.n) ∧ w.cell? ⟨B, 3, none⟩ = some (.int .i64 r.task)) rfl (by kernel_rfl) ⟨c1, c3⟩ (fun hHeld => ?_)
  have HP0 := Lib.hid (HP.out.keep (Only.refl Nil w).drew)
  have HO0 := Lib.hid ((Only.refl (TurnB B A) w).drew)
  clear c1 c3 HP
  generalize w.drew = w0 at *
  refine mpa 0 rfl (Value.pointer (some ⟨B, 0, none⟩)) (fun w => ?_) ?_
  · go_simp
  (try simp only [Act.put, k1, k2, k3])
  refine mpa 1 rfl (Value.pointer (some ⟨B, 0, none⟩)) (fun w => ?_) ?_
  · go_simp
  (try simp only [Act.put, k1, k2, k3])
  refine mpa 2 rfl (Value.pointer (some ⟨B, 0, none⟩)) (fun w => ?_) ?_
  · go_simp
  (try simp only [Act.put, k1, k2, k3])
  refine mpa 3 rfl (.pointer (some ⟨B, 1, none⟩)) (fun w => ?_) ?_
  · go_simp
  (try simp only [Act.put, k1, k2, k3])
  refine mpt 4 rfl (.agg #[.int .i64 r.n]) (fun w hSw => ?_) ?_
  · (try dsimp only at hSw)
    go_split_ands
    go_simp
  (try simp only [Act.put, k1, k2, k3])
  refine mpa 5 rfl (Value.pointer (some ⟨B, 0, none⟩)) (fun w => ?_) ?_
  · go_simp
  (try simp only [Act.put, k1, k2, k3])
  refine mpa 6 rfl (Value.pointer (some ⟨B, 0, none⟩)) (fun w => ?_) ?_
  · go_simp
  (try simp only [Act.put, k1, k2, k3])
  refine mpa 7 rfl (.pointer (some ⟨B, 3, none⟩)) (fun w => ?_) ?_
  · go_simp
  (try simp only [Act.put, k1, k2, k3])
  refine mpt 8 rfl (.int .i64 r.task) (fun w hSw => ?_) ?_
  · (try dsimp only at hSw)
    go_split_ands
    go_simp
  (try simp only [Act.put, k1, k2, k3])
  refine mpc 9 rfl (by kernel_rfl) (by rfl) (fun K hK => ?_)
  go_simp
  refine (next_any r.n r.task _).mono ?_
  rintro e w1 ⟨rfl, hO⟩
  have HP1 := Lib.hid (HP0.out.keep hO)
  have HO1 := Lib.hid (HO0.out.trans (hO.mono (T := TurnB B A) (fun _ _ h => h.elim)))
  have hHeld2 : w1.cell? ⟨B, 1, none⟩ = some (.int .i64 r.n) ∧ w1.cell? ⟨B, 3, none⟩ = some (.int .i64 r.task) := ⟨HP1.out.row.cell_ (i := 1) rfl, HP1.out.row.cell_ (i := 3) rfl⟩
  refine hK.out _ _ (.inr hHeld2) ?_
  clear hK K hHeld hO HP0 HO0
  (try simp only [Act.put, k1, k2, k3])
  refine mpc 10 rfl (by kernel_rfl) (by rfl) (fun K hK => ?_)
  go_simp
  refine (store_run B p A cp nv r (nc r.n r.task) 0 _ HP1.out).mono ?_
  rintro e w2 ⟨rfl, hO, nv2, hP⟩
  have HP2 := Lib.hid hP
  have HO2 := Lib.hid (HO1.out.trans hO)
  refine hK.out _ _ (.inl (by kernel_rfl)) ?_
  clear hK K hHeld2 hO hP HP1 HO1
  (try simp only [Act.put, k1, k2, k3])
  refine wpAnyP_done (by kernel_rfl) ?_ _
  go_wp2_with fail
  refine (go_run B p A cp nv2 _ l _ HP2.out).mono ?_
  rintro e w3 ⟨rfl, hO, nv3, hP⟩
  have HP3 := Lib.hid hP
  have HO3 := Lib.hid (HO2.out.trans hO)
  clear hO hP
  go_wp2
  go_returns
  exact ⟨rfl, HO3.out, nv3, HP3.out⟩
set_option maxHeartbeats 1000000 in
theorem stand_in (B : Nat) (p A : Option Addr) (cp : Nat) (nv : Value) (r : LS) (tail cl l : Int) (w : World) (h : RunP w B p A cp nv r) (hl : r.ns.length ≤ 900) (hz : wordAt r.xs tail = 0) :
    Calls Tryz.prog 101 #[Value.pointer (some ⟨B, 0, none⟩), .int .i64 tail, .int .i64 cl, .int .i64 l] w (Done B p A cp w (.bool true) (r.swapIn tail cl)) := by
  have HZ := Lib.hid hz
  have HL := Lib.hid hl
  have HP := Lib.hid h
  clear h hz hl
  go_enter Tryz.func101, Tryz.ntmps101
  go_wp2_with fail
  refine (number_any B p A cp nv r _ HP.out).mono ?_
  rintro e w1 ⟨rfl, rfl⟩
  go_wp2_with fail
  refine (swap_run B p A cp nv r tail r.me _ HP.out).mono ?_
  rintro e w2 ⟨rfl, hO, nv2, hP⟩
  have HP2 := Lib.hid hP
  have HO2 := Lib.hid hO
  clear hO hP HP
  have c6 : w2.cell? ⟨B, 6, none⟩ = some (.int .u32 r.a) := HP2.out.row.cell_ (i := 6) rfl
  have f6 : w2.frozen? ⟨B, 6, none⟩ = false := HP2.out.row.frozen 6
  go_upto_region 2 with (fail)
  have HP3 := Lib.hid (HP2.out.setA (wordAt r.xs tail))
  have HO3 := Lib.hid (HO2.out.setCell (p := ⟨B, 6, none⟩) (.inr (.inl rfl)) (.int .u32 (wordAt r.xs tail)))
  clear c6 f6 HP2 HO2
  generalize w2.setCell ⟨B, 6, none⟩ (.int .u32 (wordAt r.xs tail)) = w3 at *
  go_wp2_with fail
  refine (note_run B p A cp nv2 _ 2 cl _ HP3.out (show (r.doA 4 tail r.me 0).ns.length ≤ 1000 from Nat.le_trans HL.out (by decide))).mono ?_
  rintro e w4 ⟨rfl, hO, nv4, hP⟩
  have HP4 : Hid (RunP w4 B p A cp nv4 (r.swapIn tail cl)) := Lib.hid hP
  have HO4 := Lib.hid (HO3.out.trans hO)
  clear hO hP HP3 HO3
  have c6 : w4.cell? ⟨B, 6, none⟩ = some (.int .u32 (wordAt r.xs tail)) := HP4.out.row.cell_ (i := 6) rfl
  rw [HZ.out] at c6
  go_wp2
  go_ret
  exact ⟨rfl, HO4.out, nv4, HP4.out⟩
set_option maxHeartbeats 1000000 in
theorem stand_behind (B : Nat) (p A : Option Addr) (cp : Nat) (nv : Value) (r : LS) (tail cl l : Int) (w : World) (h : RunP w B p A cp nv r) (hl : r.ns.length ≤ 900) (hz : wordAt r.xs tail ≠ 0) :
    Calls Tryz.prog 101 #[Value.pointer (some ⟨B, 0, none⟩), .int .i64 tail, .int .i64 cl, .int .i64 l] w (Done B p A cp w (.bool false) ((r.swapIn tail cl).go l)) := by
  have HZ := Lib.hid hz
  have HL := Lib.hid hl
  have HP := Lib.hid h
  clear h hz hl
  go_enter Tryz.func101, Tryz.ntmps101
  go_wp2_with fail
  refine (number_any B p A cp nv r _ HP.out).mono ?_
  rintro e w1 ⟨rfl, rfl⟩
  go_wp2_with fail
  refine (swap_run B p A cp nv r tail r.me _ HP.out).mono ?_
  rintro e w2 ⟨rfl, hO, nv2, hP⟩
  have HP2 := Lib.hid hP
  have HO2 := Lib.hid hO
  clear hO hP HP
  have c6 : w2.cell? ⟨B, 6, none⟩ = some (.int .u32 r.a) := HP2.out.row.cell_ (i := 6) rfl
  have f6 : w2.frozen? ⟨B, 6, none⟩ = false := HP2.out.row.frozen 6
  go_upto_region 2 with (fail)
  have HP3 := Lib.hid (HP2.out.setA (wordAt r.xs tail))
  have HO3 := Lib.hid (HO2.out.setCell (p := ⟨B, 6, none⟩) (.inr (.inl rfl)) (.int .u32 (wordAt r.xs tail)))
  clear c6 f6 HP2 HO2
  generalize w2.setCell ⟨B, 6, none⟩ (.int .u32 (wordAt r.xs tail)) = w3 at *
  go_wp2_with fail
  refine (note_run B p A cp nv2 _ 2 cl _ HP3.out (show (r.doA 4 tail r.me 0).ns.length ≤ 1000 from Nat.le_trans HL.out (by decide))).mono ?_
  rintro e w4 ⟨rfl, hO, nv4, hP⟩
  have HP4 : Hid (RunP w4 B p A cp nv4 (r.swapIn tail cl)) := Lib.hid hP
  have HO4 := Lib.hid (HO3.out.trans hO)
  clear hO hP HP3 HO3
  have c6 : w4.cell? ⟨B, 6, none⟩ = some (.int .u32 (wordAt r.xs tail)) := HP4.out.row.cell_ (i := 6) rfl
  have hb : (wordAt r.xs tail == 0) = false := beq_eq_false_iff_ne.2 HZ.out
  generalize wordAt r.xs tail = x at *
  go_wp2_with fail
  clear c6 hb
  refine (go_run B p A cp nv4 _ l _ HP4.out).mono ?_
  rintro e w5 ⟨rfl, hO, nv5, hP⟩
  have HP5 := Lib.hid hP
  have HO5 := Lib.hid (HO4.out.trans hO)
  clear hO hP
  go_wp2
  go_ret
  exact ⟨rfl, HO5.out, nv5, HP5.out⟩
theorem empty_yes (B : Nat) (p A : Option Addr) (cp : Nat) (nv : Value) (r : LS) (tail l : Int) (w : World) (h : RunP w B p A cp nv r) (ht : r.casOut tail = true) :
    Calls Tryz.prog 109 #[Value.pointer (some ⟨B, 0, none⟩), .int .i64 tail, .int .i64 l] w (Done B p A cp w (.bool true) (r.doA 5 tail r.me 0)) := by
  have HQ := Lib.hid (show r.casOut tail = (there r.xs tail && (wordAt r.xs tail == r.me)) from rfl)
  have HT := Lib.hid ht
  have HP := Lib.hid h
  clear h ht
  go_enter Tryz.func109, Tryz.ntmps109
  go_wp2_with fail
  refine (number_any B p A cp nv r _ HP.out).mono ?_
  rintro e w1 ⟨rfl, rfl⟩
  go_wp2_with fail
  refine (cas_run B p A cp nv r tail r.me 0 _ HP.out).mono ?_
  rw [← HQ.out, HT.out]
  rintro e w2 ⟨rfl, hO, nv2, hP⟩
  have HP2 := Lib.hid hP
  have HO2 := Lib.hid hO
  clear hO hP HP
  go_wp2
  go_ret
  exact ⟨rfl, HO2.out, nv2, HP2.out⟩
theorem empty_no (B : Nat) (p A : Option Addr) (cp : Nat) (nv : Value) (r : LS) (tail l : Int) (w : World) (h : RunP w B p A cp nv r) (ht : r.casOut tail = false) :
    Calls Tryz.prog 109 #[Value.pointer (some ⟨B, 0, none⟩), .int .i64 tail, .int .i64 l] w (Done B p A cp w (.bool false) ((r.doA 5 tail r.me 0).go l)) := by
  have HQ := Lib.hid (show r.casOut tail = (there r.xs tail && (wordAt r.xs tail == r.me)) from rfl)
  have HT := Lib.hid ht
  have HP := Lib.hid h
  clear h ht
  go_enter Tryz.func109, Tryz.ntmps109
  go_wp2_with fail
  refine (number_any B p A cp nv r _ HP.out).mono ?_
  rintro e w1 ⟨rfl, rfl⟩
  go_wp2_with fail
  refine (cas_run B p A cp nv r tail r.me 0 _ HP.out).mono ?_
  rw [← HQ.out, HT.out]
  rintro e w2 ⟨rfl, hO, nv2, hP⟩
  have HP2 := Lib.hid hP
  have HO2 := Lib.hid hO
  clear hO hP HP
  go_wp2_with fail
  refine (go_run B p A cp nv2 _ l _ HP2.out).mono ?_
  rintro e w3 ⟨rfl, hO, nv3, hP⟩
  have HP3 := Lib.hid hP
  have HO3 := Lib.hid (HO2.out.trans hO)
  clear hO hP
  go_wp2
  go_ret
  exact ⟨rfl, HO3.out, nv3, HP3.out⟩
set_option maxHeartbeats 1000000 in
theorem look_none (B : Nat) (p A : Option Addr) (cp : Nat) (nv : Value) (r : LS) (l0 l1 : Int) (w : World) (h : RunP w B p A cp nv r) (hz : wordAt r.xs (nc r.n r.task) = 0) :
    Calls Tryz.prog 108 #[Value.pointer (some ⟨B, 0, none⟩), .int .i64 l0, .int .i64 l1] w (Done B p A cp w (.tuple #[]) (r.peek.go l0)) := by
  have HZ := Lib.hid hz
  have HP := Lib.hid h
  clear h hz
  go_enter Tryz.func108, Tryz.ntmps108
  go_upto_region 0 with (fail)
  have c1 : w.cell? ⟨B, 1, none⟩ = some (.int .i64 r.n) := HP.out.row.cell_ (i := 1) rfl
  have c3 : w.cell? ⟨B, 3, none⟩ = some (.int .i64 r.task) := HP.out.row.cell_ (i := 3) rfl
  refine wp_region_phase (n := 16) 11 (fun w => w.cell? ⟨B, 1, none⟩ = some (.int .i64 r.n) ∧ w.cell? ⟨B, 3, none⟩ = some (.int .i64 r.task)) rfl (by kernel_rfl) ⟨c1, c3⟩ (fun hHeld => ?_)
  have HP0 := Lib.hid (HP.out.keep (Only.refl Nil w).drew)
  have HO0 := Lib.hid ((Only.refl (TurnB B A) w).drew)
  clear c1 c3 HP
  generalize w.drew = w0 at *
  refine mpa 0 rfl (Value.pointer (some ⟨B, 0, none⟩)) (fun w => ?_) ?_
  · go_simp
  (try simp only [Act.put, k1, k2, k3])
  refine mpa 1 rfl (Value.pointer (some ⟨B, 0, none⟩)) (fun w => ?_) ?_
  · go_simp
  (try simp only [Act.put, k1, k2, k3])
  refine mpa 2 rfl (Value.pointer (some ⟨B, 0, none⟩)) (fun w => ?_) ?_
  · go_simp
  (try simp only [Act.put, k1, k2, k3])
  refine mpa 3 rfl (Value.pointer (some ⟨B, 0, none⟩)) (fun w => ?_) ?_
  · go_simp
  (try simp only [Act.put, k1, k2, k3])
  refine mpa 4 rfl (.pointer (some ⟨B, 1, none⟩)) (fun w => ?_) ?_
  · go_simp
  (try simp only [Act.put, k1, k2, k3])
  refine mpt 5 rfl (.agg #[.int .i64 r.n]) (fun w hSw => ?_) ?_
  · (try dsimp only at hSw)
    go_split_ands
    go_simp
  (try simp only [Act.put, k1, k2, k3])
  refine mpa 6 rfl (Value.pointer (some ⟨B, 0, none⟩)) (fun w => ?_) ?_
  · go_simp
  (try simp only [Act.put, k1, k2, k3])
  refine mpa 7 rfl (Value.pointer (some ⟨B, 0, none⟩)) (fun w => ?_) ?_
  · go_simp
  (try simp only [Act.put, k1, k2, k3])
  refine mpa 8 rfl (.pointer (some ⟨B, 3, none⟩)) (fun w => ?_) ?_
  · go_simp
  (try simp only [Act.put, k1, k2, k3])
  refine mpt 9 rfl (.int .i64 r.task) (fun w hSw => ?_) ?_
  · (try dsimp only at hSw)
    go_split_ands
    go_simp
  (try simp only [Act.put, k1, k2, k3])
  refine mpc 10 rfl (by kernel_rfl) (by rfl) (fun K hK => ?_)
  go_simp
  refine (next_any r.n r.task _).mono ?_
  rintro e w1 ⟨rfl, hO⟩
  have HP1 := Lib.hid (HP0.out.keep hO)
  have HO1 := Lib.hid (HO0.out.trans (hO.mono (T := TurnB B A) (fun _ _ h => h.elim)))
  have hHeld2 : w1.cell? ⟨B, 1, none⟩ = some (.int .i64 r.n) ∧ w1.cell? ⟨B, 3, none⟩ = some (.int .i64 r.task) := ⟨HP1.out.row.cell_ (i := 1) rfl, HP1.out.row.cell_ (i := 3) rfl⟩
  refine hK.out _ _ (.inr hHeld2) ?_
  clear hK K hHeld hO HP0 HO0
  (try simp only [Act.put, k1, k2, k3])
  refine mpc 11 rfl (by kernel_rfl) (by rfl) (fun K hK => ?_)
  go_simp
  refine (load_run B p A cp nv r (nc r.n r.task) _ HP1.out).mono ?_
  rintro e w2 ⟨rfl, hO, nv2, hP⟩
  have HP2 := Lib.hid hP
  have HO2 := Lib.hid (HO1.out.trans hO)
  refine hK.out _ _ (.inl (by kernel_rfl)) ?_
  clear hK K hHeld2 hO hP HP1 HO1
  (try simp only [Act.put, k1, k2, k3])
  refine mpa 12 rfl (Value.pointer (some ⟨B, 0, none⟩)) (fun w => ?_) ?_
  · go_simp
  (try simp only [Act.put, k1, k2, k3])
  refine mpa 13 rfl (.pointer (some ⟨B, 4, none⟩)) (fun w => ?_) ?_
  · go_simp
  (try simp only [Act.put, k1, k2, k3])
  refine mpa 14 rfl (.pointer (some ⟨B, 6, none⟩)) (fun w => ?_) ?_
  · go_simp
  (try simp only [Act.put, k1, k2, k3])
  have c6 : w2.cell? ⟨B, 6, none⟩ = some (.int .u32 r.a) := HP2.out.row.cell_ (i := 6) rfl
  have f6 : w2.frozen? ⟨B, 6, none⟩ = false := HP2.out.row.frozen 6
  refine mpc 15 rfl (by kernel_rfl) (by rfl) (fun K hK => ?_)
  go_simp
  have HP3 : Hid (RunP (w2.setCell ⟨B, 6, none⟩ (.int .u32 (wordAt r.xs (nc r.n r.task)))) B p A cp nv2 r.peek) := Lib.hid (HP2.out.setA (wordAt r.xs (nc r.n r.task)))
  have HO3 := Lib.hid (HO2.out.setCell (p := ⟨B, 6, none⟩) (.inr (.inl rfl)) (.int .u32 (wordAt r.xs (nc r.n r.task))))
  refine hK.out _ _ (.inl (by kernel_rfl)) ?_
  clear hK K c6 f6 HP2 HO2
  generalize w2.setCell ⟨B, 6, none⟩ (.int .u32 (wordAt r.xs (nc r.n r.task))) = w3 at *
  (try simp only [Act.put, k1, k2, k3])
  refine wpAnyP_done (by kernel_rfl) ?_ _
  have c6 : w3.cell? ⟨B, 6, none⟩ = some (.int .u32 (wordAt r.xs (nc r.n r.task))) := HP3.out.row.cell_ (i := 6) rfl
  rw [HZ.out] at c6
  go_wp2_with fail
  clear c6
  refine (go_run B p A cp nv2 _ l0 _ HP3.out).mono ?_
  rintro e w4 ⟨rfl, hO, nv4, hP⟩
  have HP4 := Lib.hid hP
  have HO4 := Lib.hid (HO3.out.trans hO)
  clear hO hP
  go_wp2
  go_returns
  exact ⟨rfl, HO4.out, nv4, HP4.out⟩
set_option maxHeartbeats 1000000 in
theorem look_one (B : Nat) (p A : Option Addr) (cp : Nat) (nv : Value) (r : LS) (l0 l1 : Int) (w : World) (h : RunP w B p A cp nv r) (hz : wordAt r.xs (nc r.n r.task) ≠ 0) :
    Calls Tryz.prog 108 #[Value.pointer (some ⟨B, 0, none⟩), .int .i64 l0, .int .i64 l1] w (Done B p A cp w (.tuple #[]) (r.peek.go l1)) := by
  have HZ := Lib.hid hz
  have HP := Lib.hid h
  clear h hz
  go_enter Tryz.func108, Tryz.ntmps108
  go_upto_region 0 with (fail)
  have c1 : w.cell? ⟨B, 1, none⟩ = some (.int .i64 r.n) := HP.out.row.cell_ (i := 1) rfl
  have c3 : w.cell? ⟨B, 3, none⟩ = some (.int .i64 r.task) := HP.out.row.cell_ (i := 3) rfl
  refine wp_region_phase (n := 16) 11 (fun w => w.cell? ⟨B, 1, none⟩ = some (.int .i64 r.n) ∧ w.cell? ⟨B, 3, none⟩ = some (.int .i64 r.task)) rfl (by kernel_rfl) ⟨c1, c3⟩ (fun hHeld => ?_)
  have HP0 := Lib.hid (HP.out.keep (Only.refl Nil w).drew)
  have HO0 := Lib.hid ((Only.refl (TurnB B A) w).drew)
  clear c1 c3 HP
  generalize w.drew = w0 at *
  refine mpa 0 rfl (Value.pointer (some ⟨B, 0, none⟩)) (fun w => ?_) ?_
  · go_simp
  (try simp only [Act.put, k1, k2, k3])
  refine mpa 1 rfl (Value.pointer (some ⟨B, 0, none⟩)) (fun w => ?_) ?_
  · go_simp
  (try simp only [Act.put, k1, k2, k3])
  refine mpa 2 rfl (Value.pointer (some ⟨B, 0, none⟩)) (fun w => ?_) ?_
  · go_simp
  (try simp only [Act.put, k1, k2, k3])
  refine mpa 3 rfl (Value.pointer (some ⟨B, 0, none⟩)) (fun w => ?_) ?_
  · go_simp
  (try simp only [Act.put, k1, k2, k3])
  refine mpa 4 rfl (.pointer (some ⟨B, 1, none⟩)) (fun w => ?_) ?_
  · go_simp
  (try simp only [Act.put, k1, k2, k3])
  refine mpt 5 rfl (.agg #[.int .i64 r.n]) (fun w hSw => ?_) ?_
  · (try dsimp only at hSw)
    go_split_ands
    go_simp
  (try simp only [Act.put, k1, k2, k3])
  refine mpa 6 rfl (Value.pointer (some ⟨B, 0, none⟩)) (fun w => ?_) ?_
  · go_simp
  (try simp only [Act.put, k1, k2, k3])
  refine mpa 7 rfl (Value.pointer (some ⟨B, 0, none⟩)) (fun w => ?_) ?_
  · go_simp
  (try simp only [Act.put, k1, k2, k3])
  refine mpa 8 rfl (.pointer (some ⟨B, 3, none⟩)) (fun w => ?_) ?_
  · go_simp
  (try simp only [Act.put, k1, k2, k3])
  refine mpt 9 rfl (.int .i64 r.task) (fun w hSw => ?_) ?_
  · (try dsimp only at hSw)
    go_split_ands
    go_simp
  (try simp only [Act.put, k1, k2, k3])
  refine mpc 10 rfl (by kernel_rfl) (by rfl) (fun K hK => ?_)
  go_simp
  refine (next_any r.n r.task _).mono ?_
  rintro e w1 ⟨rfl, hO⟩
  have HP1 := Lib.hid (HP0.out.keep hO)
  have HO1 := Lib.hid (HO0.out.trans (hO.mono (T := TurnB B A) (fun _ _ h => h.elim)))
  have hHeld2 : w1.cell? ⟨B, 1, none⟩ = some (.int .i64 r.n) ∧ w1.cell? ⟨B, 3, none⟩ = some (.int .i64 r.task) := ⟨HP1.out.row.cell_ (i := 1) rfl, HP1.out.row.cell_ (i := 3) rfl⟩
  refine hK.out _ _ (.inr hHeld2) ?_
  clear hK K hHeld hO HP0 HO0
  (try simp only [Act.put, k1, k2, k3])
  refine mpc 11 rfl (by kernel_rfl) (by rfl) (fun K hK => ?_)
  go_simp
  refine (load_run B p A cp nv r (nc r.n r.task) _ HP1.out).mono ?_
  rintro e w2 ⟨rfl, hO, nv2, hP⟩
  have HP2 := Lib.hid hP
  have HO2 := Lib.hid (HO1.out.trans hO)
  refine hK.out _ _ (.inl (by kernel_rfl)) ?_
  clear hK K hHeld2 hO hP HP1 HO1
  (try simp only [Act.put, k1, k2, k3])
  refine mpa 12 rfl (Value.pointer (some ⟨B, 0, none⟩)) (fun w => ?_) ?_
  · go_simp
  (try simp only [Act.put, k1, k2, k3])
  refine mpa 13 rfl (.pointer (some ⟨B, 4, none⟩)) (fun w => ?_) ?_
  · go_simp
  (try simp only [Act.put, k1, k2, k3])
  refine mpa 14 rfl (.pointer (some ⟨B, 6, none⟩)) (fun w => ?_) ?_
  · go_simp
  (try simp only [Act.put, k1, k2, k3])
  have c6 : w2.cell? ⟨B, 6, none⟩ = some (.int .u32 r.a) := HP2.out.row.cell_ (i := 6) rfl
  have f6 : w2.frozen? ⟨B, 6, none⟩ = false := HP2.out.row.frozen 6
  refine mpc 15 rfl (by kernel_rfl) (by rfl) (fun K hK => ?_)
  go_simp
  have HP3 : Hid (RunP (w2.setCell ⟨B, 6, none⟩ (.int .u32 (wordAt r.xs (nc r.n r.task)))) B p A cp nv2 r.peek) := Lib.hid (HP2.out.setA (wordAt r.xs (nc r.n r.task)))
  have HO3 := Lib.hid (HO2.out.setCell (p := ⟨B, 6, none⟩) (.inr (.inl rfl)) (.int .u32 (wordAt r.xs (nc r.n r.task))))
  refine hK.out _ _ (.inl (by kernel_rfl)) ?_
  clear hK K c6 f6 HP2 HO2
  generalize w2.setCell ⟨B, 6, none⟩ (.int .u32 (wordAt r.xs (nc r.n r.task))) = w3 at *
  (try simp only [Act.put, k1, k2, k3])
  refine wpAnyP_done (by kernel_rfl) ?_ _
  have c6 : w3.cell? ⟨B, 6, none⟩ = some (.int .u32 (wordAt r.xs (nc r.n r.task))) := HP3.out.row.cell_ (i := 6) rfl
  have hb : (wordAt r.xs (nc r.n r.task) == 0) = false := beq_eq_false_iff_ne.2 HZ.out
  generalize wordAt r.xs (nc r.n r.task) = x at *
  go_wp2_with fail
  clear c6 hb
  refine (go_run B p A cp nv2 _ l1 _ HP3.out).mono ?_
  rintro e w4 ⟨rfl, hO, nv4, hP⟩
  have HP4 := Lib.hid hP
  have HO4 := Lib.hid (HO3.out.trans hO)
  clear hO hP
  go_wp2
  go_returns
  exact ⟨rfl, HO4.out, nv4, HP4.out⟩
end Go.Proofs.YtkkldcggbekleaaGreat
set_option linter.unusedVariables false
set_option linter.unusedSimpArgs false
namespace Go.Proofs.YtkkldcggbekleaaGreat
open Go.RowKit
def Whats (B : Nat) (A : Option Addr) (w : World) (V : Value) (l : List Int) : Prop := ∃ (Z : Option Addr) (c : Nat), V = .slice Z l.length c ∧ ∀ w', Only (TurnB B A) w w' → ∀ i x, l[i]? = some x → ∃ b o, Z = some ⟨b, o, none⟩ ∧ w'.cell? ⟨b, o + i, none⟩ = some (.int .i64 x)
theorem Whats.move {B : Nat} {A : Option Addr} {w w' : World} {V : Value} {l : List Int} (h : Whats B A w V l) (ho : Only (TurnB B A) w w') : Whats B A w' V l := by
  obtain ⟨Z, c, e, h⟩ := h
  exact ⟨Z, c, e, fun w2 h2 => h w2 (ho.trans h2)⟩
theorem notes_len (l : List Int) : ∀ r : LS, (r.notes l).ns.length = r.ns.length + l.length := by
  induction l with
  | nil => intro r; rfl
  | cons x l ih =>
    intro r
    show ((r.note x 0).notes l).ns.length = _
    rw [ih]
    simp only [LS.note, List.length_append, List.length_cons, List.length_nil]
    omega
theorem notes_next {r : LS} {l : List Int} {k : Nat} {x : Int} (h : l[k]? = some x) : r.notes (l.take (k + 1)) = (r.notes (l.take k)).note x 0 := by
  unfold LS.notes
  rw [List.take_add_one, h, List.foldl_append]
  rfl
end Go.Proofs.YtkkldcggbekleaaGreat
