import Derived.Test.YtocdbeonogfopaaGreatG14
set_option linter.unusedVariables false
set_option linter.unusedSimpArgs false
namespace Go.Proofs.YtocdbeonogfopaaGreat
open Go.RowKit
set_option maxHeartbeats 1000000 in
theorem enter_0 (B : Nat) (p A : Option Addr) (cp : Nat) (nv : Value) (r : LS) (tail cl : Int) (w : World) (h : RunP w B p A cp nv r) (hl : r.ns.length ≤ 900) (hx : Words r.xs) (ha : 0 ≤ r.a ∧ r.a < 4294967296) (hln : r.line = 0) :
    Calls Tryz.prog 54 #[Value.pointer (some ⟨B, 0, none⟩), .int .i64 tail, .int .i64 cl] w (Done B p A cp w (.bool false) ((r.doA 2 (nc r.n r.task) 0 0).go 1)) := by
  have HX := Lib.hid hx
  have HL := Lib.hid hl
  have HA := Lib.hid ha
  have HP := Lib.hid h
  have HLN := Lib.hid hln
  have c5 : w.cell? ⟨B, 5, none⟩ = some (.int .i64 (0)) := by rw [← hln]; exact h.row.cell_ (i := 5) rfl
  clear h hl hx ha hln
  go_enter Tryz.func54, Tryz.ntmps54
  go_wp2_with fail
  clear c5
  have HO := Lib.hid (Only.refl (TurnB B A) w)
  refine (clear_run B p A cp nv r 1 _ HP.out).mono ?_
  rintro e wN ⟨rfl, hO, nvN, hP⟩
  have HPN := Lib.hid hP
  have HON := Lib.hid (HO.out.trans hO)
  clear hO hP
  go_wp2
  go_ret
  exact ⟨rfl, HON.out, nvN, HPN.out⟩
set_option maxHeartbeats 1000000 in
theorem enter_1 (B : Nat) (p A : Option Addr) (cp : Nat) (nv : Value) (r : LS) (tail cl : Int) (w : World) (h : RunP w B p A cp nv r) (hl : r.ns.length ≤ 900) (hx : Words r.xs) (ha : 0 ≤ r.a ∧ r.a < 4294967296) (hln : r.line = 1) :
    Calls Tryz.prog 54 #[Value.pointer (some ⟨B, 0, none⟩), .int .i64 tail, .int .i64 cl] w (Done B p A cp w (.bool false) ((r.doA 2 (bc r.n r.task) 1 0).go 2)) := by
  have HX := Lib.hid hx
  have HL := Lib.hid hl
  have HA := Lib.hid ha
  have HP := Lib.hid h
  have HLN := Lib.hid hln
  have c5 : w.cell? ⟨B, 5, none⟩ = some (.int .i64 (1)) := by rw [← hln]; exact h.row.cell_ (i := 5) rfl
  clear h hl hx ha hln
  go_enter Tryz.func54, Tryz.ntmps54
  go_upto_region 7 with (fail)
  have c1 : w.cell? ⟨B, 1, none⟩ = some (.int .i64 r.n) := HP.out.row.cell_ (i := 1) rfl
  have c3 : w.cell? ⟨B, 3, none⟩ = some (.int .i64 r.task) := HP.out.row.cell_ (i := 3) rfl
  refine wp_region_phase (n := 11) 10 (fun w => w.cell? ⟨B, 1, none⟩ = some (.int .i64 r.n) ∧ w.cell? ⟨B, 3, none⟩ = some (.int .i64 r.task)) rfl (by kernel_rfl) ⟨c1, c3⟩ (fun hHeld => ?_)
  have HP0 := Lib.hid (HP.out.keep (Only.refl Nil w).drew)
  have HO0 := Lib.hid ((Only.refl (TurnB B A) w).drew)
  clear c1 c3 HP c5
  generalize w.drew = w0 at *
  refine mpa 0 rfl (Value.pointer (some ⟨B, 0, none⟩)) (fun w => ?_) ?_
  · go_simp
  (try simp only [Act.put, k1, k2, k3])
  refine mpa 1 rfl (Value.pointer (some ⟨B, 0, none⟩)) (fun w => ?_) ?_
  · go_simp
  (try simp only [Act.put, k1, k2, k3])
  refine mpa 2 rfl (Value.pointer (some ⟨B, 0, none⟩)) (fun w => ?_) ?_
  · go_simp
  (try simp only [Act.put, k1, k2, k3])
  refine mpa 3 rfl (.pointer (some ⟨B, 1, none⟩)) (fun w => ?_) ?_
  · go_simp
  (try simp only [Act.put, k1, k2, k3])
  refine mpt 4 rfl (.agg #[.int .i64 r.n]) (fun w hSw => ?_) ?_
  · (try dsimp only at hSw)
    go_split_ands
    go_simp
  (try simp only [Act.put, k1, k2, k3])
  refine mpa 5 rfl (Value.pointer (some ⟨B, 0, none⟩)) (fun w => ?_) ?_
  · go_simp
  (try simp only [Act.put, k1, k2, k3])
  refine mpa 6 rfl (Value.pointer (some ⟨B, 0, none⟩)) (fun w => ?_) ?_
  · go_simp
  (try simp only [Act.put, k1, k2, k3])
  refine mpa 7 rfl (.pointer (some ⟨B, 3, none⟩)) (fun w => ?_) ?_
  · go_simp
  (try simp only [Act.put, k1, k2, k3])
  refine mpt 8 rfl (.int .i64 r.task) (fun w hSw => ?_) ?_
  · (try dsimp only at hSw)
    go_split_ands
    go_simp
  (try simp only [Act.put, k1, k2, k3])
  refine mpc 9 rfl (by kernel_rfl) (by rfl) (fun K hK => ?_)
  go_simp
  refine (blocked_any r.n r.task _).mono ?_
  rintro e w1 ⟨rfl, hO⟩
  have HP1 := Lib.hid (HP0.out.keep hO)
  have HO1 := Lib.hid (HO0.out.trans (hO.mono (T := TurnB B A) (fun _ _ h => h.elim)))
  have hHeld2 : w1.cell? ⟨B, 1, none⟩ = some (.int .i64 r.n) ∧ w1.cell? ⟨B, 3, none⟩ = some (.int .i64 r.task) := ⟨HP1.out.row.cell_ (i := 1) rfl, HP1.out.row.cell_ (i := 3) rfl⟩
  refine hK.out _ _ (.inr hHeld2) ?_
  clear hK K hHeld hO HP0 HO0
  (try simp only [Act.put, k1, k2, k3])
  refine mpc 10 rfl (by kernel_rfl) (by rfl) (fun K hK => ?_)
  go_simp
  refine (store_run B p A cp nv r (bc r.n r.task) 1 _ HP1.out).mono ?_
  rintro e w2 ⟨rfl, hO, nv2, hP⟩
  have HP2 := Lib.hid hP
  have HO2 := Lib.hid (HO1.out.trans hO)
  refine hK.out _ _ (.inl (by kernel_rfl)) ?_
  clear hK K hHeld2 hO hP HP1 HO1
  (try simp only [Act.put, k1, k2, k3])
  refine wpAnyP_done (by kernel_rfl) ?_ _
  go_wp2_with fail
  refine (go_run B p A cp nv2 _ 2 _ HP2.out).mono ?_
  rintro e wN ⟨rfl, hO, nvN, hP⟩
  have HPN := Lib.hid hP
  have HON := Lib.hid (HO2.out.trans hO)
  clear hO hP
  go_wp2
  go_ret
  exact ⟨rfl, HON.out, nvN, HPN.out⟩
set_option maxHeartbeats 1000000 in
theorem enter_2a (B : Nat) (p A : Option Addr) (cp : Nat) (nv : Value) (r : LS) (tail cl : Int) (w : World) (h : RunP w B p A cp nv r) (hl : r.ns.length ≤ 900) (hx : Words r.xs) (ha : 0 ≤ r.a ∧ r.a < 4294967296) (hln : r.line = 2) (hz : wordAt r.xs tail = 0) :
    Calls Tryz.prog 54 #[Value.pointer (some ⟨B, 0, none⟩), .int .i64 tail, .int .i64 cl] w (Done B p A cp w (.bool true) (r.swapIn tail cl)) := by
  have HZ := Lib.hid hz
  clear hz
  have HX := Lib.hid hx
  have HL := Lib.hid hl
  have HA := Lib.hid ha
  have HP := Lib.hid h
  have HLN := Lib.hid hln
  have c5 : w.cell? ⟨B, 5, none⟩ = some (.int .i64 (2)) := by rw [← hln]; exact h.row.cell_ (i := 5) rfl
  clear h hl hx ha hln
  go_enter Tryz.func54, Tryz.ntmps54
  go_wp2_with fail
  clear c5
  have HO := Lib.hid (Only.refl (TurnB B A) w)
  refine (stand_in B p A cp nv r tail cl 3 _ HP.out HL.out HZ.out).mono ?_
  rintro e wN ⟨rfl, hO, nvN, hP⟩
  have HPN := Lib.hid hP
  have HON := Lib.hid (HO.out.trans hO)
  clear hO hP
  go_wp2
  go_ret
  exact ⟨rfl, HON.out, nvN, HPN.out⟩
set_option maxHeartbeats 1000000 in
theorem enter_2b (B : Nat) (p A : Option Addr) (cp : Nat) (nv : Value) (r : LS) (tail cl : Int) (w : World) (h : RunP w B p A cp nv r) (hl : r.ns.length ≤ 900) (hx : Words r.xs) (ha : 0 ≤ r.a ∧ r.a < 4294967296) (hln : r.line = 2) (hz : wordAt r.xs tail ≠ 0) :
    Calls Tryz.prog 54 #[Value.pointer (some ⟨B, 0, none⟩), .int .i64 tail, .int .i64 cl] w (Done B p A cp w (.bool false) ((r.swapIn tail cl).go 3)) := by
  have HZ := Lib.hid hz
  clear hz
  have HX := Lib.hid hx
  have HL := Lib.hid hl
  have HA := Lib.hid ha
  have HP := Lib.hid h
  have HLN := Lib.hid hln
  have c5 : w.cell? ⟨B, 5, none⟩ = some (.int .i64 (2)) := by rw [← hln]; exact h.row.cell_ (i := 5) rfl
  clear h hl hx ha hln
  go_enter Tryz.func54, Tryz.ntmps54
  go_wp2_with fail
  clear c5
  have HO := Lib.hid (Only.refl (TurnB B A) w)
  refine (stand_behind B p A cp nv r tail cl 3 _ HP.out HL.out HZ.out).mono ?_
  rintro e wN ⟨rfl, hO, nvN, hP⟩
  have HPN := Lib.hid hP
  have HON := Lib.hid (HO.out.trans hO)
  clear hO hP
  go_wp2
  go_ret
  exact ⟨rfl, HON.out, nvN, HPN.out⟩
set_option maxHeartbeats 1000000 in
theorem enter_3 (B : Nat) (p A : Option Addr) (cp : Nat) (nv : Value) (r : LS) (tail cl : Int) (w : World) (h : RunP w B p A cp nv r) (hl : r.ns.length ≤ 900) (hx : Words r.xs) (ha : 0 ≤ r.a ∧ r.a < 4294967296) (hln : r.line = 3) :
    Calls Tryz.prog 54 #[Value.pointer (some ⟨B, 0, none⟩), .int .i64 tail, .int .i64 cl] w (Done B p A cp w (.bool false) r.link) := by
  have HX := Lib.hid hx
  have HL := Lib.hid hl
  have HA := Lib.hid ha
  have HP := Lib.hid h
  have HLN := Lib.hid hln
  have c5 : w.cell? ⟨B, 5, none⟩ = some (.int .i64 (3)) := by rw [← hln]; exact h.row.cell_ (i := 5) rfl
  clear h hl hx ha hln
  go_enter Tryz.func54, Tryz.ntmps54
  go_upto_region 12 with (fail)
  have c1 : w.cell? ⟨B, 1, none⟩ = some (.int .i64 r.n) := HP.out.row.cell_ (i := 1) rfl
  have c3 : w.cell? ⟨B, 3, none⟩ = some (.int .i64 r.task) := HP.out.row.cell_ (i := 3) rfl
  refine wp_region_phase (n := 11) 10 (fun w => w.cell? ⟨B, 1, none⟩ = some (.int .i64 r.n) ∧ w.cell? ⟨B, 3, none⟩ = some (.int .i64 r.task)) rfl (by kernel_rfl) ⟨c1, c3⟩ (fun hHeld => ?_)
  have HP0 := Lib.hid (HP.out.keep (Only.refl Nil w).drew)
  have HO0 := Lib.hid ((Only.refl (TurnB B A) w).drew)
  clear c1 c3 HP c5
  generalize w.drew = w0 at *
  refine mpa 0 rfl (Value.pointer (some ⟨B, 0, none⟩)) (fun w => ?_) ?_
  · go_simp
  (try simp only [Act.put, k1, k2, k3])
  refine mpa 1 rfl (Value.pointer (some ⟨B, 0, none⟩)) (fun w => ?_) ?_
  · go_simp
  (try simp only [Act.put, k1, k2, k3])
  refine mpa 2 rfl (Value.pointer (some ⟨B, 0, none⟩)) (fun w => ?_) ?_
  · go_simp
  (try simp only [Act.put, k1, k2, k3])
  refine mpa 3 rfl (.pointer (some ⟨B, 1, none⟩)) (fun w => ?_) ?_
  · go_simp
  (try simp only [Act.put, k1, k2, k3])
  refine mpt 4 rfl (.agg #[.int .i64 r.n]) (fun w hSw => ?_) ?_
  · (try dsimp only at hSw)
    go_split_ands
    go_simp
  (try simp only [Act.put, k1, k2, k3])
  refine mpa 5 rfl (Value.pointer (some ⟨B, 0, none⟩)) (fun w => ?_) ?_
  · go_simp
  (try simp only [Act.put, k1, k2, k3])
  refine mpa 8 rfl (Value.pointer (some ⟨B, 0, none⟩)) (fun w => ?_) ?_
  · go_simp
  (try simp only [Act.put, k1, k2, k3])
  refine mpc 6 rfl (by kernel_rfl) (by rfl) (fun K hK => ?_)
  go_simp
  refine (kept_any B p A cp nv r _ HP0.out HA.out).mono ?_
  rintro e w1 ⟨rfl, rfl⟩
  refine hK.out _ _ (.inr hHeld) ?_
  clear hK K
  (try simp only [Act.put, k1, k2, k3])
  refine mpc 7 rfl (by kernel_rfl) (by rfl) (fun K hK => ?_)
  go_simp
  refine (next_any r.n (r.a - 1) _).mono ?_
  rintro e w1 ⟨rfl, hO⟩
  have HP1 := Lib.hid (HP0.out.keep hO)
  have HO1 := Lib.hid (HO0.out.trans (hO.mono (T := TurnB B A) (fun _ _ h => h.elim)))
  have hHeld2 : w1.cell? ⟨B, 1, none⟩ = some (.int .i64 r.n) ∧ w1.cell? ⟨B, 3, none⟩ = some (.int .i64 r.task) := ⟨HP1.out.row.cell_ (i := 1) rfl, HP1.out.row.cell_ (i := 3) rfl⟩
  refine hK.out _ _ (.inr hHeld2) ?_
  clear hK K hHeld hO HP0 HO0
  (try simp only [Act.put, k1, k2, k3])
  refine mpc 9 rfl (by kernel_rfl) (by rfl) (fun K hK => ?_)
  go_simp
  refine (number_any B p A cp nv r _ HP1.out).mono ?_
  rintro e w1 ⟨rfl, rfl⟩
  refine hK.out _ _ (.inr hHeld2) ?_
  clear hK K
  (try simp only [Act.put, k1, k2, k3])
  refine mpc 10 rfl (by kernel_rfl) (by rfl) (fun K hK => ?_)
  go_simp
  refine (tell_run B p A cp nv r (nc r.n (r.a - 1)) r.me _ HP1.out).mono ?_
  rintro e w2 ⟨rfl, hO, nv2, hP⟩
  have HP2 := Lib.hid hP
  have HO2 := Lib.hid (HO1.out.trans hO)
  refine hK.out _ _ (.inl (by kernel_rfl)) ?_
  clear hK K hHeld2 hO hP HP1 HO1
  (try simp only [Act.put, k1, k2, k3])
  refine wpAnyP_done (by kernel_rfl) ?_ _
  go_wp2_with fail
  refine (go_run B p A cp nv2 _ 4 _ HP2.out).mono ?_
  rintro e wN ⟨rfl, hO, nvN, hP⟩
  have HPN := Lib.hid hP
  have HON := Lib.hid (HO2.out.trans hO)
  clear hO hP
  go_wp2
  go_ret
  exact ⟨rfl, HON.out, nvN, HPN.out⟩
set_option maxHeartbeats 1000000 in
theorem enter_4 (B : Nat) (p A : Option Addr) (cp : Nat) (nv : Value) (r : LS) (tail cl : Int) (w : World) (h : RunP w B p A cp nv r) (hl : r.ns.length ≤ 900) (hx : Words r.xs) (ha : 0 ≤ r.a ∧ r.a < 4294967296) (hln : r.line = 4) :
    Calls Tryz.prog 54 #[Value.pointer (some ⟨B, 0, none⟩), .int .i64 tail, .int .i64 cl] w (Done B p A cp w (.bool (r.stepR (bc r.n r.task) isZ).done) (r.wait (bc r.n r.task) isZ)) := by
  have HX := Lib.hid hx
  have HL := Lib.hid hl
  have HA := Lib.hid ha
  have HP := Lib.hid h
  have HLN := Lib.hid hln
  have c5 : w.cell? ⟨B, 5, none⟩ = some (.int .i64 (4)) := by rw [← hln]; exact h.row.cell_ (i := 5) rfl
  clear h hl hx ha hln
  go_enter Tryz.func54, Tryz.ntmps54
  go_upto_region 15 with (fail)
  have c1 : w.cell? ⟨B, 1, none⟩ = some (.int .i64 r.n) := HP.out.row.cell_ (i := 1) rfl
  have c3 : w.cell? ⟨B, 3, none⟩ = some (.int .i64 r.task) := HP.out.row.cell_ (i := 3) rfl
  refine wp_region_phase (n := 16) 10 (fun w => w.cell? ⟨B, 1, none⟩ = some (.int .i64 r.n) ∧ w.cell? ⟨B, 3, none⟩ = some (.int .i64 r.task)) rfl (by kernel_rfl) ⟨c1, c3⟩ (fun hHeld => ?_)
  have HP0 := Lib.hid (HP.out.keep (Only.refl Nil w).drew)
  have HO0 := Lib.hid ((Only.refl (TurnB B A) w).drew)
  clear c1 c3 HP c5
  generalize w.drew = w0 at *
  refine mpa 0 rfl (Value.pointer (some ⟨B, 0, none⟩)) (fun w => ?_) ?_
  · go_simp
  (try simp only [Act.put, k1, k2, k3])
  refine mpa 1 rfl (Value.pointer (some ⟨B, 0, none⟩)) (fun w => ?_) ?_
  · go_simp
  (try simp only [Act.put, k1, k2, k3])
  refine mpa 2 rfl (Value.pointer (some ⟨B, 0, none⟩)) (fun w => ?_) ?_
  · go_simp
  (try simp only [Act.put, k1, k2, k3])
  refine mpa 3 rfl (.pointer (some ⟨B, 1, none⟩)) (fun w => ?_) ?_
  · go_simp
  (try simp only [Act.put, k1, k2, k3])
  refine mpt 4 rfl (.agg #[.int .i64 r.n]) (fun w hSw => ?_) ?_
  · (try dsimp only at hSw)
    go_split_ands
    go_simp
  (try simp only [Act.put, k1, k2, k3])
  refine mpa 5 rfl (Value.pointer (some ⟨B, 0, none⟩)) (fun w => ?_) ?_
  · go_simp
  (try simp only [Act.put, k1, k2, k3])
  refine mpa 6 rfl (Value.pointer (some ⟨B, 0, none⟩)) (fun w => ?_) ?_
  · go_simp
  (try simp only [Act.put, k1, k2, k3])
  refine mpa 7 rfl (.pointer (some ⟨B, 3, none⟩)) (fun w => ?_) ?_
  · go_simp
  (try simp only [Act.put, k1, k2, k3])
  refine mpt 8 rfl (.int .i64 r.task) (fun w hSw => ?_) ?_
  · (try dsimp only at hSw)
    go_split_ands
    go_simp
  (try simp only [Act.put, k1, k2, k3])
  refine mpc 9 rfl (by kernel_rfl) (by rfl) (fun K hK => ?_)
  go_simp
  refine (blocked_any r.n r.task _).mono ?_
  rintro e w1 ⟨rfl, hO⟩
  have HP1 := Lib.hid (HP0.out.keep hO)
  have HO1 := Lib.hid (HO0.out.trans (hO.mono (T := TurnB B A) (fun _ _ h => h.elim)))
  have hHeld2 : w1.cell? ⟨B, 1, none⟩ = some (.int .i64 r.n) ∧ w1.cell? ⟨B, 3, none⟩ = some (.int .i64 r.task) := ⟨HP1.out.row.cell_ (i := 1) rfl, HP1.out.row.cell_ (i := 3) rfl⟩
  refine hK.out _ _ (.inr hHeld2) ?_
  clear hK K hHeld hO HP0 HO0
  (try simp only [Act.put, k1, k2, k3])
  refine mpc 10 rfl (by kernel_rfl) (by rfl) (fun K hK => ?_)
  go_simp
  refine (wait_run B p A cp nv r (bc r.n r.task) (.func 103) #[] #[] isZ _ HP1.out holds_zero.at HX.out).mono ?_
  generalize (r.stepR (bc r.n r.task) isZ).seen = sn at *
  generalize (r.stepR (bc r.n r.task) isZ).done = dn at *
  rintro e w2 ⟨rfl, hO, nv2, hP⟩
  have HP2 := Lib.hid hP
  have HO2 := Lib.hid (HO1.out.trans hO)
  refine hK.out _ _ (.inl (by kernel_rfl)) ?_
  clear hK K hHeld2 hO hP HP1 HO1
  (try simp only [Act.put, k1, k2, k3])
  refine mpa 11 rfl (.tuple #[.bool sn, .bool dn]) (fun w => ?_) ?_
  · go_simp
  (try simp only [Act.put, k1, k2, k3])
  refine mpa 12 rfl (.bool sn) (fun w => ?_) ?_
  · go_simp
  (try simp only [Act.put, k1, k2, k3])
  refine mpa 13 rfl (.bool dn) (fun w => ?_) ?_
  · go_simp
  (try simp only [Act.put, k1, k2, k3])
  refine mpa 14 rfl (.bool sn) (fun w => ?_) ?_
  · go_simp
  (try simp only [Act.put, k1, k2, k3])
  refine mpa 15 rfl (.bool dn) (fun w => ?_) ?_
  · go_simp
  (try simp only [Act.put, k1, k2, k3])
  refine wpAnyP_done (by kernel_rfl) ?_ _
  go_wp2
  go_ret
  exact ⟨rfl, HO2.out, nv2, HP2.out⟩
set_option maxHeartbeats 1000000 in
theorem enter_no (B : Nat) (p A : Option Addr) (cp : Nat) (nv : Value) (r : LS) (tail cl : Int) (w : World) (h : RunP w B p A cp nv r) (hl : r.ns.length ≤ 900) (hx : Words r.xs) (ha : 0 ≤ r.a ∧ r.a < 4294967296) (ln : Int) (hln : r.line = ln) (n0 : ln ≠ 0) (n1 : ln ≠ 1) (n2 : ln ≠ 2) (n3 : ln ≠ 3) (n4 : ln ≠ 4) :
    Calls Tryz.prog 54 #[Value.pointer (some ⟨B, 0, none⟩), .int .i64 tail, .int .i64 cl] w (Done B p A cp w (.bool false) r) := by
  have b0 : (ln == 0) = false := beq_eq_false_iff_ne.2 n0
  have b1 : (ln == 1) = false := beq_eq_false_iff_ne.2 n1
  have b2 : (ln == 2) = false := beq_eq_false_iff_ne.2 n2
  have b3 : (ln == 3) = false := beq_eq_false_iff_ne.2 n3
  have b4 : (ln == 4) = false := beq_eq_false_iff_ne.2 n4
  clear n0 n1 n2 n3 n4
  have HX := Lib.hid hx
  have HL := Lib.hid hl
  have HA := Lib.hid ha
  have HP := Lib.hid h
  have HLN := Lib.hid hln
  have c5 : w.cell? ⟨B, 5, none⟩ = some (.int .i64 (ln)) := by rw [← hln]; exact h.row.cell_ (i := 5) rfl
  clear h hl hx ha hln
  go_enter Tryz.func54, Tryz.ntmps54
  go_wp2
  go_ret
  exact ⟨rfl, Only.refl _ _, nv, HP.out⟩
theorem enter_run (B : Nat) (p A : Option Addr) (cp : Nat) (nv : Value) (r : LS) (tail cl : Int) (w : World) (h : RunP w B p A cp nv r) (hl : r.ns.length ≤ 900) (hx : Words r.xs) (ha : 0 ≤ r.a ∧ r.a < 4294967296) :
    Calls Tryz.prog 54 #[Value.pointer (some ⟨B, 0, none⟩), .int .i64 tail, .int .i64 cl] w (Done B p A cp w (.bool (r.mxEnter tail cl).2) (r.mxEnter tail cl).1) := by
  by_cases l0 : r.line = 0
  · rw [show r.mxEnter tail cl = _ by unfold LS.mxEnter; rw [if_pos l0]]
    exact enter_0 B p A cp nv r tail cl w h hl hx ha l0
  by_cases l1 : r.line = 1
  · rw [show r.mxEnter tail cl = _ by unfold LS.mxEnter; rw [if_neg l0, if_pos l1]]
    exact enter_1 B p A cp nv r tail cl w h hl hx ha l1
  by_cases l2 : r.line = 2
  · by_cases hz : wordAt r.xs tail = 0
    · rw [show r.mxEnter tail cl = _ by unfold LS.mxEnter; rw [if_neg l0, if_neg l1, if_pos l2, if_pos hz]]
      exact enter_2a B p A cp nv r tail cl w h hl hx ha l2 hz
    · rw [show r.mxEnter tail cl = _ by unfold LS.mxEnter; rw [if_neg l0, if_neg l1, if_pos l2, if_neg hz]]
      exact enter_2b B p A cp nv r tail cl w h hl hx ha l2 hz
  by_cases l3 : r.line = 3
  · rw [show r.mxEnter tail cl = _ by unfold LS.mxEnter; rw [if_neg l0, if_neg l1, if_neg l2, if_pos l3]]
    exact enter_3 B p A cp nv r tail cl w h hl hx ha l3
  by_cases l4 : r.line = 4
  · rw [show r.mxEnter tail cl = _ by unfold LS.mxEnter; rw [if_neg l0, if_neg l1, if_neg l2, if_neg l3, if_pos l4]]
    exact enter_4 B p A cp nv r tail cl w h hl hx ha l4
  · rw [show r.mxEnter tail cl = _ by unfold LS.mxEnter; rw [if_neg l0, if_neg l1, if_neg l2, if_neg l3, if_neg l4]]
    exact enter_no B p A cp nv r tail cl w h hl hx ha _ rfl l0 l1 l2 l3 l4
end Go.Proofs.YtocdbeonogfopaaGreat
set_option linter.unusedVariables false
set_option linter.unusedSimpArgs false
namespace Go.Proofs.YtocdbeonogfopaaGreat
open Go.RowKit
set_option maxHeartbeats 1000000 in
theorem try_0 (B : Nat) (p A : Option Addr) (cp : Nat) (nv : Value) (r : LS) (tail a : Int) (w : World) (h : RunP w B p A cp nv r) (hl : r.ns.length ≤ 900) (hx : Words r.xs) (ha : 0 ≤ r.a ∧ r.a < 4294967296) (hr0 : -1000 ≤ a) (hr1 : a ≤ 1000) (hln : r.line = a) :
    Calls Tryz.prog 115 #[Value.pointer (some ⟨B, 0, none⟩), .int .i64 tail, .int .i64 a] w (Done B p A cp w (.tuple #[.bool false, .bool false]) ((r.doA 2 (nc r.n r.task) 0 0).go (a + 1))) := by
  have HX := Lib.hid hx
  have HL := Lib.hid hl
  have HA := Lib.hid ha
  have HP := Lib.hid h
  have HLN := Lib.hid hln
  have c5 : w.cell? ⟨B, 5, none⟩ = some (.int .i64 (a)) := by rw [← hln]; exact h.row.cell_ (i := 5) rfl
  clear h hl hx ha hln
  go_enter Tryz.func115, Tryz.ntmps115
  go_wp2_with fail
  clear c5
  refine (clear_run B p A cp nv r (a + 1) _ HP.out).mono ?_
  rintro e w1 ⟨rfl, hO, nv1, hP⟩
  have HP1 := Lib.hid hP
  have HO1 := Lib.hid hO
  clear hO hP
  go_wp2
  go_ret2
  exact ⟨rfl, HO1.out, nv1, HP1.out⟩
set_option maxHeartbeats 1000000 in
theorem try_1 (B : Nat) (p A : Option Addr) (cp : Nat) (nv : Value) (r : LS) (tail a : Int) (w : World) (h : RunP w B p A cp nv r) (hl : r.ns.length ≤ 900) (hx : Words r.xs) (ha : 0 ≤ r.a ∧ r.a < 4294967296) (hr0 : -1000 ≤ a) (hr1 : a ≤ 1000) (hln : r.line = a + 1) :
    Calls Tryz.prog 115 #[Value.pointer (some ⟨B, 0, none⟩), .int .i64 tail, .int .i64 a] w (Done B p A cp w (.tuple #[.bool true, .bool (there r.xs tail && (wordAt r.xs tail == 0))]) (r.doA 5 tail 0 r.me)) := by
  have e1 : (a + 1 == a) = false := beq_eq_false_iff_ne.2 (by omega)
  have HX := Lib.hid hx
  have HL := Lib.hid hl
  have HA := Lib.hid ha
  have HP := Lib.hid h
  have HLN := Lib.hid hln
  have c5 : w.cell? ⟨B, 5, none⟩ = some (.int .i64 (a + 1)) := by rw [← hln]; exact h.row.cell_ (i := 5) rfl
  clear h hl hx ha hln
  go_enter Tryz.func115, Tryz.ntmps115
  go_wp2_with fail
  clear c5
  refine (number_any B p A cp nv r _ HP.out).mono ?_
  rintro e w1 ⟨rfl, rfl⟩
  go_wp2_with fail
  refine (cas_run B p A cp nv r tail 0 r.me _ HP.out).mono ?_
  generalize (there r.xs tail && (wordAt r.xs tail == 0)) = d at *
  rintro e w2 ⟨rfl, hO, nv2, hP⟩
  have HP2 := Lib.hid hP
  have HO2 := Lib.hid hO
  clear hO hP HP
  go_wp2
  go_ret2
  exact ⟨rfl, HO2.out, nv2, HP2.out⟩
set_option maxHeartbeats 1000000 in
theorem try_no (B : Nat) (p A : Option Addr) (cp : Nat) (nv : Value) (r : LS) (tail a : Int) (w : World) (h : RunP w B p A cp nv r) (hl : r.ns.length ≤ 900) (hx : Words r.xs) (ha : 0 ≤ r.a ∧ r.a < 4294967296) (hr0 : -1000 ≤ a) (hr1 : a ≤ 1000) (ln : Int) (hln : r.line = ln) (n0 : ln ≠ a) (n1 : ln ≠ a + 1) :
    Calls Tryz.prog 115 #[Value.pointer (some ⟨B, 0, none⟩), .int .i64 tail, .int .i64 a] w (Done B p A cp w (.tuple #[.bool false, .bool false]) r) := by
  have b0 : (ln == a) = false := beq_eq_false_iff_ne.2 n0
  have b1 : (ln == a + 1) = false := beq_eq_false_iff_ne.2 n1
  clear n0 n1
  have HX := Lib.hid hx
  have HL := Lib.hid hl
  have HA := Lib.hid ha
  have HP := Lib.hid h
  have HLN := Lib.hid hln
  have c5 : w.cell? ⟨B, 5, none⟩ = some (.int .i64 (ln)) := by rw [← hln]; exact h.row.cell_ (i := 5) rfl
  clear h hl hx ha hln
  go_enter Tryz.func115, Tryz.ntmps115
  go_wp2
  go_ret2
  exact ⟨rfl, Only.refl _ _, nv, HP.out⟩
theorem try_run (B : Nat) (p A : Option Addr) (cp : Nat) (nv : Value) (r : LS) (tail a : Int) (w : World) (h : RunP w B p A cp nv r) (hl : r.ns.length ≤ 900) (hx : Words r.xs) (ha : 0 ≤ r.a ∧ r.a < 4294967296) (hr0 : -1000 ≤ a) (hr1 : a ≤ 1000) :
    Calls Tryz.prog 115 #[Value.pointer (some ⟨B, 0, none⟩), .int .i64 tail, .int .i64 a] w (Done B p A cp w (.tuple #[.bool (r.mxTry tail a).2.1, .bool (r.mxTry tail a).2.2]) (r.mxTry tail a).1) := by
  by_cases l0 : r.line = a
  · rw [show r.mxTry tail a = _ by unfold LS.mxTry; rw [if_pos l0]]
    exact try_0 B p A cp nv r tail a w h hl hx ha hr0 hr1 l0
  by_cases l1 : r.line = a + 1
  · rw [show r.mxTry tail a = _ by unfold LS.mxTry; rw [if_neg l0, if_pos l1]]
    exact try_1 B p A cp nv r tail a w h hl hx ha hr0 hr1 l1
  · rw [show r.mxTry tail a = _ by unfold LS.mxTry; rw [if_neg l0, if_neg l1]]
    exact try_no B p A cp nv r tail a w h hl hx ha hr0 hr1 _ rfl l0 l1
end Go.Proofs.YtocdbeonogfopaaGreat
set_option linter.unusedVariables false
set_option linter.unusedSimpArgs false
namespace Go.Proofs.YtocdbeonogfopaaGreat
open Go.RowKit
set_option maxHeartbeats 1000000 in
theorem give_0 (B : Nat) (p A : Option Addr) (cp : Nat) (nv : Value) (r : LS) (tail a : Int) (w : World) (h : RunP w B p A cp nv r) (hl : r.ns.length ≤ 900) (hx : Words r.xs) (ha : 0 ≤ r.a ∧ r.a < 4294967296) (V : Value) (l : List Int) (hw : Whats B A w V l) (hm : l.length ≤ 90) (hr0 : -1000 ≤ a) (hr1 : a ≤ 1000) (hln : r.line = a) (hz : wordAt r.xs (nc r.n r.task) = 0) :
    Calls Tryz.prog 71 #[Value.pointer (some ⟨B, 0, none⟩), .int .i64 tail, .int .i64 a, V] w (Done B p A cp w (.bool false) (r.peek.go (a + 1))) := by
  have HZ := Lib.hid hz
  clear hz
  have HW := Lib.hid hw
  have HM := Lib.hid hm
  have e1 : (a + 1 == a) = false := beq_eq_false_iff_ne.2 (by omega)
  have e2 : (a + 2 == a) = false := beq_eq_false_iff_ne.2 (by omega)
  have e3 : (a + 2 == a + 1) = false := beq_eq_false_iff_ne.2 (by omega)
  have e4 : (a + 3 == a) = false := beq_eq_false_iff_ne.2 (by omega)
  have e5 : (a + 3 == a + 1) = false := beq_eq_false_iff_ne.2 (by omega)
  have e6 : (a + 3 == a + 2) = false := beq_eq_false_iff_ne.2 (by omega)
  clear hw hm
  have HX := Lib.hid hx
  have HL := Lib.hid hl
  have HA := Lib.hid ha
  have HP := Lib.hid h
  have HLN := Lib.hid hln
  have c5 : w.cell? ⟨B, 5, none⟩ = some (.int .i64 (a)) := by rw [← hln]; exact h.row.cell_ (i := 5) rfl
  clear h hl hx ha hln
  go_enter Tryz.func71, Tryz.ntmps71
  go_wp2_with fail
  clear c5
  have HO := Lib.hid (Only.refl (TurnB B A) w)
  refine (look_none B p A cp nv r (a + 1) (a + 3) _ HP.out HZ.out).mono ?_
  rintro e wN ⟨rfl, hO, nvN, hP⟩
  have HPN := Lib.hid hP
  have HON := Lib.hid (HO.out.trans hO)
  clear hO hP
  go_wp2
  go_ret
  exact ⟨rfl, HON.out, nvN, HPN.out⟩
set_option maxHeartbeats 1000000 in
theorem give_0b (B : Nat) (p A : Option Addr) (cp : Nat) (nv : Value) (r : LS) (tail a : Int) (w : World) (h : RunP w B p A cp nv r) (hl : r.ns.length ≤ 900) (hx : Words r.xs) (ha : 0 ≤ r.a ∧ r.a < 4294967296) (V : Value) (l : List Int) (hw : Whats B A w V l) (hm : l.length ≤ 90) (hr0 : -1000 ≤ a) (hr1 : a ≤ 1000) (hln : r.line = a) (hz : wordAt r.xs (nc r.n r.task) ≠ 0) :
    Calls Tryz.prog 71 #[Value.pointer (some ⟨B, 0, none⟩), .int .i64 tail, .int .i64 a, V] w (Done B p A cp w (.bool false) (r.peek.go (a + 3))) := by
  have HZ := Lib.hid hz
  clear hz
  have HW := Lib.hid hw
  have HM := Lib.hid hm
  have e1 : (a + 1 == a) = false := beq_eq_false_iff_ne.2 (by omega)
  have e2 : (a + 2 == a) = false := beq_eq_false_iff_ne.2 (by omega)
  have e3 : (a + 2 == a + 1) = false := beq_eq_false_iff_ne.2 (by omega)
  have e4 : (a + 3 == a) = false := beq_eq_false_iff_ne.2 (by omega)
  have e5 : (a + 3 == a + 1) = false := beq_eq_false_iff_ne.2 (by omega)
  have e6 : (a + 3 == a + 2) = false := beq_eq_false_iff_ne.2 (by omega)
  clear hw hm
  have HX := Lib.hid hx
  have HL := Lib.hid hl
  have HA := Lib.hid ha
  have HP := Lib.hid h
  have HLN := Lib.hid hln
  have c5 : w.cell? ⟨B, 5, none⟩ = some (.int .i64 (a)) := by rw [← hln]; exact h.row.cell_ (i := 5) rfl
  clear h hl hx ha hln
  go_enter Tryz.func71, Tryz.ntmps71
  go_wp2_with fail
  clear c5
  have HO := Lib.hid (Only.refl (TurnB B A) w)
  refine (look_one B p A cp nv r (a + 1) (a + 3) _ HP.out HZ.out).mono ?_
  rintro e wN ⟨rfl, hO, nvN, hP⟩
  have HPN := Lib.hid hP
  have HON := Lib.hid (HO.out.trans hO)
  clear hO hP
  go_wp2
  go_ret
  exact ⟨rfl, HON.out, nvN, HPN.out⟩
set_option maxHeartbeats 1000000 in
theorem give_1 (B : Nat) (p A : Option Addr) (cp : Nat) (nv : Value) (r : LS) (tail a : Int) (w : World) (h : RunP w B p A cp nv r) (hl : r.ns.length ≤ 900) (hx : Words r.xs) (ha : 0 ≤ r.a ∧ r.a < 4294967296) (V : Value) (l : List Int) (hw : Whats B A w V l) (hm : l.length ≤ 90) (hr0 : -1000 ≤ a) (hr1 : a ≤ 1000) (hln : r.line = a + 1) (ht : r.casOut tail = true) :
    Calls Tryz.prog 71 #[Value.pointer (some ⟨B, 0, none⟩), .int .i64 tail, .int .i64 a, V] w (Done B p A cp w (.bool true) ((r.doA 5 tail r.me 0).notes l)) := by
  have HT := Lib.hid ht
  have HLEN := Lib.hid (show (r.doA 5 tail r.me 0).ns.length + l.length ≤ 1000 by show r.ns.length + _ ≤ _; omega)
  clear ht
  have HW := Lib.hid hw
  have HM := Lib.hid hm
  have e1 : (a + 1 == a) = false := beq_eq_false_iff_ne.2 (by omega)
  have e2 : (a + 2 == a) = false := beq_eq_false_iff_ne.2 (by omega)
  have e3 : (a + 2 == a + 1) = false := beq_eq_false_iff_ne.2 (by omega)
  have e4 : (a + 3 == a) = false := beq_eq_false_iff_ne.2 (by omega)
  have e5 : (a + 3 == a + 1) = false := beq_eq_false_iff_ne.2 (by omega)
  have e6 : (a + 3 == a + 2) = false := beq_eq_false_iff_ne.2 (by omega)
  clear hw hm
  have HX := Lib.hid hx
  have HL := Lib.hid hl
  have HA := Lib.hid ha
  have HP := Lib.hid h
  have HLN := Lib.hid hln
  have c5 : w.cell? ⟨B, 5, none⟩ = some (.int .i64 (a + 1)) := by rw [← hln]; exact h.row.cell_ (i := 5) rfl
  clear h hl hx ha hln
  go_enter Tryz.func71, Tryz.ntmps71
  go_wp2_with fail
  clear c5
  refine (empty_yes B p A cp nv r tail (a + 2) _ HP.out HT.out).mono ?_
  rintro e w1 ⟨rfl, hO, nv1, hP⟩
  have HP1 := Lib.hid hP
  have HO1 := Lib.hid hO
  clear hO hP
  have HWN := Lib.hid (HW.out.move HO1.out)
  go_wp2_with fail
  refine (notes_run B p A cp nv1 _ V l _ HP1.out HWN.out HLEN.out).mono ?_
  rintro e wM ⟨rfl, hO, nvM, hP⟩
  have HPM := Lib.hid hP
  have HOM := Lib.hid (HO1.out.trans hO)
  clear hO hP
  go_wp2
  go_ret
  exact ⟨rfl, HOM.out, nvM, HPM.out⟩
set_option maxHeartbeats 1000000 in
theorem give_1b (B : Nat) (p A : Option Addr) (cp : Nat) (nv : Value) (r : LS) (tail a : Int) (w : World) (h : RunP w B p A cp nv r) (hl : r.ns.length ≤ 900) (hx : Words r.xs) (ha : 0 ≤ r.a ∧ r.a < 4294967296) (V : Value) (l : List Int) (hw : Whats B A w V l) (hm : l.length ≤ 90) (hr0 : -1000 ≤ a) (hr1 : a ≤ 1000) (hln : r.line = a + 1) (ht : r.casOut tail = false) :
    Calls Tryz.prog 71 #[Value.pointer (some ⟨B, 0, none⟩), .int .i64 tail, .int .i64 a, V] w (Done B p A cp w (.bool false) ((r.doA 5 tail r.me 0).go (a + 2))) := by
  have HT := Lib.hid ht
  clear ht
  have HW := Lib.hid hw
  have HM := Lib.hid hm
  have e1 : (a + 1 == a) = false := beq_eq_false_iff_ne.2 (by omega)
  have e2 : (a + 2 == a) = false := beq_eq_false_iff_ne.2 (by omega)
  have e3 : (a + 2 == a + 1) = false := beq_eq_false_iff_ne.2 (by omega)
  have e4 : (a + 3 == a) = false := beq_eq_false_iff_ne.2 (by omega)
  have e5 : (a + 3 == a + 1) = false := beq_eq_false_iff_ne.2 (by omega)
  have e6 : (a + 3 == a + 2) = false := beq_eq_false_iff_ne.2 (by omega)
  clear hw hm
  have HX := Lib.hid hx
  have HL := Lib.hid hl
  have HA := Lib.hid ha
  have HP := Lib.hid h
  have HLN := Lib.hid hln
  have c5 : w.cell? ⟨B, 5, none⟩ = some (.int .i64 (a + 1)) := by rw [← hln]; exact h.row.cell_ (i := 5) rfl
  clear h hl hx ha hln
  go_enter Tryz.func71, Tryz.ntmps71
  go_wp2_with fail
  clear c5
  have HO := Lib.hid (Only.refl (TurnB B A) w)
  refine (empty_no B p A cp nv r tail (a + 2) _ HP.out HT.out).mono ?_
  rintro e wN ⟨rfl, hO, nvN, hP⟩
  have HPN := Lib.hid hP
  have HON := Lib.hid (HO.out.trans hO)
  clear hO hP
  go_wp2
  go_ret
  exact ⟨rfl, HON.out, nvN, HPN.out⟩
set_option maxHeartbeats 1000000 in
theorem give_2 (B : Nat) (p A : Option Addr) (cp : Nat) (nv : Value) (r : LS) (tail a : Int) (w : World) (h : RunP w B p A cp nv r) (hl : r.ns.length ≤ 900) (hx : Words r.xs) (ha : 0 ≤ r.a ∧ r.a < 4294967296) (V : Value) (l : List Int) (hw : Whats B A w V l) (hm : l.length ≤ 90) (hr0 : -1000 ≤ a) (hr1 : a ≤ 1000) (hln : r.line = a + 2) (hd : (r.stepR (nc r.n r.task) isN).done = true) :
    Calls Tryz.prog 71 #[Value.pointer (some ⟨B, 0, none⟩), .int .i64 tail, .int .i64 a, V] w (Done B p A cp w (.bool false) (r.seeN.go (a + 3))) := by
  have HD := Lib.hid hd
  clear hd
  have HW := Lib.hid hw
  have HM := Lib.hid hm
  have e1 : (a + 1 == a) = false := beq_eq_false_iff_ne.2 (by omega)
  have e2 : (a + 2 == a) = false := beq_eq_false_iff_ne.2 (by omega)
  have e3 : (a + 2 == a + 1) = false := beq_eq_false_iff_ne.2 (by omega)
  have e4 : (a + 3 == a) = false := beq_eq_false_iff_ne.2 (by omega)
  have e5 : (a + 3 == a + 1) = false := beq_eq_false_iff_ne.2 (by omega)
  have e6 : (a + 3 == a + 2) = false := beq_eq_false_iff_ne.2 (by omega)
  clear hw hm
  have HX := Lib.hid hx
  have HL := Lib.hid hl
  have HA := Lib.hid ha
  have HP := Lib.hid h
  have HLN := Lib.hid hln
  have c5 : w.cell? ⟨B, 5, none⟩ = some (.int .i64 (a + 2)) := by rw [← hln]; exact h.row.cell_ (i := 5) rfl
  clear h hl hx ha hln
  go_enter Tryz.func71, Tryz.ntmps71
  go_wp2_with fail
  clear c5
  have HO := Lib.hid (Only.refl (TurnB B A) w)
  refine (await_yes B p A cp nv r (a + 3) _ HP.out HX.out HD.out).mono ?_
  rintro e wN ⟨rfl, hO, nvN, hP⟩
  have HPN := Lib.hid hP
  have HON := Lib.hid (HO.out.trans hO)
  clear hO hP
  go_wp2
  go_ret
  exact ⟨rfl, HON.out, nvN, HPN.out⟩
set_option maxHeartbeats 1000000 in
theorem give_2b (B : Nat) (p A : Option Addr) (cp : Nat) (nv : Value) (r : LS) (tail a : Int) (w : World) (h : RunP w B p A cp nv r) (hl : r.ns.length ≤ 900) (hx : Words r.xs) (ha : 0 ≤ r.a ∧ r.a < 4294967296) (V : Value) (l : List Int) (hw : Whats B A w V l) (hm : l.length ≤ 90) (hr0 : -1000 ≤ a) (hr1 : a ≤ 1000) (hln : r.line = a + 2) (hd : (r.stepR (nc r.n r.task) isN).done = false) :
    Calls Tryz.prog 71 #[Value.pointer (some ⟨B, 0, none⟩), .int .i64 tail, .int .i64 a, V] w (Done B p A cp w (.bool false) r.seeN) := by
  have HD := Lib.hid hd
  clear hd
  have HW := Lib.hid hw
  have HM := Lib.hid hm
  have e1 : (a + 1 == a) = false := beq_eq_false_iff_ne.2 (by omega)
  have e2 : (a + 2 == a) = false := beq_eq_false_iff_ne.2 (by omega)
  have e3 : (a + 2 == a + 1) = false := beq_eq_false_iff_ne.2 (by omega)
  have e4 : (a + 3 == a) = false := beq_eq_false_iff_ne.2 (by omega)
  have e5 : (a + 3 == a + 1) = false := beq_eq_false_iff_ne.2 (by omega)
  have e6 : (a + 3 == a + 2) = false := beq_eq_false_iff_ne.2 (by omega)
  clear hw hm
  have HX := Lib.hid hx
  have HL := Lib.hid hl
  have HA := Lib.hid ha
  have HP := Lib.hid h
  have HLN := Lib.hid hln
  have c5 : w.cell? ⟨B, 5, none⟩ = some (.int .i64 (a + 2)) := by rw [← hln]; exact h.row.cell_ (i := 5) rfl
  clear h hl hx ha hln
  go_enter Tryz.func71, Tryz.ntmps71
  go_wp2_with fail
  clear c5
  have HO := Lib.hid (Only.refl (TurnB B A) w)
  refine (await_no B p A cp nv r (a + 3) _ HP.out HX.out HD.out).mono ?_
  rintro e wN ⟨rfl, hO, nvN, hP⟩
  have HPN := Lib.hid hP
  have HON := Lib.hid (HO.out.trans hO)
  clear hO hP
  go_wp2
  go_ret
  exact ⟨rfl, HON.out, nvN, HPN.out⟩
theorem notes_wake (l : List Int) : ∀ (r : LS) (c : Int), (r.wake c).notes l = (r.notes l).wake c := by
  induction l with
  | nil => intro r c; rfl
  | cons x l ih =>
    intro r c
    show ((r.wake c).note x 0).notes l = ((r.note x 0).notes l).wake c
    rw [← ih]
    rfl
set_option maxHeartbeats 1000000 in
theorem give_3 (B : Nat) (p A : Option Addr) (cp : Nat) (nv : Value) (r : LS) (tail a : Int) (w : World) (h : RunP w B p A cp nv r) (hl : r.ns.length ≤ 900) (hx : Words r.xs) (ha : 0 ≤ r.a ∧ r.a < 4294967296) (V : Value) (l : List Int) (hw : Whats B A w V l) (hm : l.length ≤ 90) (hr0 : -1000 ≤ a) (hr1 : a ≤ 1000) (hln : r.line = a + 3) :
    Calls Tryz.prog 71 #[Value.pointer (some ⟨B, 0, none⟩), .int .i64 tail, .int .i64 a, V] w (Done B p A cp w (.bool true) (r.handOn l)) := by
  have HE := Lib.hid (notes_wake l (r.doA 2 (bc r.n (r.a - 1)) 0 0) (bc r.n (r.a - 1)))
  have HLEN := Lib.hid (show ((r.doA 2 (bc r.n (r.a - 1)) 0 0).wake (bc r.n (r.a - 1))).ns.length + l.length ≤ 1000 by show r.ns.length + _ ≤ _; omega)
  rw [show r.handOn l = ((r.doA 2 (bc r.n (r.a - 1)) 0 0).wake (bc r.n (r.a - 1))).notes l from HE.out.symm]
  have HW := Lib.hid hw
  have HM := Lib.hid hm
  have e1 : (a + 1 == a) = false := beq_eq_false_iff_ne.2 (by omega)
  have e2 : (a + 2 == a) = false := beq_eq_false_iff_ne.2 (by omega)
  have e3 : (a + 2 == a + 1) = false := beq_eq_false_iff_ne.2 (by omega)
  have e4 : (a + 3 == a) = false := beq_eq_false_iff_ne.2 (by omega)
  have e5 : (a + 3 == a + 1) = false := beq_eq_false_iff_ne.2 (by omega)
  have e6 : (a + 3 == a + 2) = false := beq_eq_false_iff_ne.2 (by omega)
  clear hw hm
  have HX := Lib.hid hx
  have HL := Lib.hid hl
  have HA := Lib.hid ha
  have HP := Lib.hid h
  have HLN := Lib.hid hln
  have c5 : w.cell? ⟨B, 5, none⟩ = some (.int .i64 (a + 3)) := by rw [← hln]; exact h.row.cell_ (i := 5) rfl
  clear h hl hx ha hln
  go_enter Tryz.func71, Tryz.ntmps71
  go_upto_region 12 with (fail)
  have c1 : w.cell? ⟨B, 1, none⟩ = some (.int .i64 r.n) := HP.out.row.cell_ (i := 1) rfl
  refine wp_region_phase (n := 9) 8 (fun w => w.cell? ⟨B, 1, none⟩ = some (.int .i64 r.n)) rfl (by kernel_rfl) c1 (fun hHeld => ?_)
  have HP0 := Lib.hid (HP.out.keep (Only.refl Nil w).drew)
  have HO0 := Lib.hid ((Only.refl (TurnB B A) w).drew)
  clear c1 HP c5
  generalize w.drew = w0 at *
  refine mpa 0 rfl (Value.pointer (some ⟨B, 0, none⟩)) (fun w => ?_) ?_
  · go_simp
  (try simp only [Act.put, k1, k2, k3])
  refine mpa 1 rfl (Value.pointer (some ⟨B, 0, none⟩)) (fun w => ?_) ?_
  · go_simp
  (try simp only [Act.put, k1, k2, k3])
  refine mpa 2 rfl (Value.pointer (some ⟨B, 0, none⟩)) (fun w => ?_) ?_
  · go_simp
  (try simp only [Act.put, k1, k2, k3])
  refine mpa 3 rfl (.pointer (some ⟨B, 1, none⟩)) (fun w => ?_) ?_
  · go_simp
  (try simp only [Act.put, k1, k2, k3])
  refine mpt 4 rfl (.agg #[.int .i64 r.n]) (fun w hSw => ?_) ?_
  · (try dsimp only at hSw)
    go_split_ands
    go_simp
  (try simp only [Act.put, k1, k2, k3])
  refine mpa 5 rfl (Value.pointer (some ⟨B, 0, none⟩)) (fun w => ?_) ?_
  · go_simp
  (try simp only [Act.put, k1, k2, k3])
  refine mpc 6 rfl (by kernel_rfl) (by rfl) (fun K hK => ?_)
  go_simp
  refine (kept_any B p A cp nv r _ HP0.out HA.out).mono ?_
  rintro e w1 ⟨rfl, rfl⟩
  refine hK.out _ _ (.inr hHeld) ?_
  clear hK K
  (try simp only [Act.put, k1, k2, k3])
  refine mpc 7 rfl (by kernel_rfl) (by rfl) (fun K hK => ?_)
  go_simp
  refine (blocked_any r.n (r.a - 1) _).mono ?_
  rintro e w1 ⟨rfl, hO⟩
  have HP1 := Lib.hid (HP0.out.keep hO)
  have HO1 := Lib.hid (HO0.out.trans (hO.mono (T := TurnB B A) (fun _ _ h => h.elim)))
  have hHeld2 : w1.cell? ⟨B, 1, none⟩ = some (.int .i64 r.n) := HP1.out.row.cell_ (i := 1) rfl
  refine hK.out _ _ (.inr hHeld2) ?_
  clear hK K hHeld hO HP0 HO0
  (try simp only [Act.put, k1, k2, k3])
  refine mpc 8 rfl (by kernel_rfl) (by rfl) (fun K hK => ?_)
  go_simp
  refine (tell_run B p A cp nv r (bc r.n (r.a - 1)) 0 _ HP1.out).mono ?_
  rintro e w2 ⟨rfl, hO, nv2, hP⟩
  have HP2 := Lib.hid hP
  have HO2 := Lib.hid (HO1.out.trans hO)
  refine hK.out _ _ (.inl (by kernel_rfl)) ?_
  clear hK K hHeld2 hO hP HP1 HO1
  (try simp only [Act.put, k1, k2, k3])
  refine wpAnyP_done (by kernel_rfl) ?_ _
  have HWN := Lib.hid (HW.out.move HO2.out)
  go_wp2_with fail
  refine (notes_run B p A cp nv2 _ V l _ HP2.out HWN.out HLEN.out).mono ?_
  rintro e wM ⟨rfl, hO, nvM, hP⟩
  have HPM := Lib.hid hP
  have HOM := Lib.hid (HO2.out.trans hO)
  clear hO hP
  go_wp2
  go_ret
  exact ⟨rfl, HOM.out, nvM, HPM.out⟩
set_option maxHeartbeats 1000000 in
theorem give_no (B : Nat) (p A : Option Addr) (cp : Nat) (nv : Value) (r : LS) (tail a : Int) (w : World) (h : RunP w B p A cp nv r) (hl : r.ns.length ≤ 900) (hx : Words r.xs) (ha : 0 ≤ r.a ∧ r.a < 4294967296) (V : Value) (l : List Int) (hw : Whats B A w V l) (hm : l.length ≤ 90) (hr0 : -1000 ≤ a) (hr1 : a ≤ 1000) (ln : Int) (hln : r.line = ln) (n0 : ln ≠ a) (n1 : ln ≠ a + 1) (n2 : ln ≠ a + 2) (n3 : ln ≠ a + 3) :
    Calls Tryz.prog 71 #[Value.pointer (some ⟨B, 0, none⟩), .int .i64 tail, .int .i64 a, V] w (Done B p A cp w (.bool false) r) := by
  have b0 : (ln == a) = false := beq_eq_false_iff_ne.2 n0
  have b1 : (ln == a + 1) = false := beq_eq_false_iff_ne.2 n1
  have b2 : (ln == a + 2) = false := beq_eq_false_iff_ne.2 n2
  have b3 : (ln == a + 3) = false := beq_eq_false_iff_ne.2 n3
  clear n0 n1 n2 n3
  have HW := Lib.hid hw
  have HM := Lib.hid hm
  have e1 : (a + 1 == a) = false := beq_eq_false_iff_ne.2 (by omega)
  have e2 : (a + 2 == a) = false := beq_eq_false_iff_ne.2 (by omega)
  have e3 : (a + 2 == a + 1) = false := beq_eq_false_iff_ne.2 (by omega)
  have e4 : (a + 3 == a) = false := beq_eq_false_iff_ne.2 (by omega)
  have e5 : (a + 3 == a + 1) = false := beq_eq_false_iff_ne.2 (by omega)
  have e6 : (a + 3 == a + 2) = false := beq_eq_false_iff_ne.2 (by omega)
  clear hw hm
  have HX := Lib.hid hx
  have HL := Lib.hid hl
  have HA := Lib.hid ha
  have HP := Lib.hid h
  have HLN := Lib.hid hln
  have c5 : w.cell? ⟨B, 5, none⟩ = some (.int .i64 (ln)) := by rw [← hln]; exact h.row.cell_ (i := 5) rfl
  clear h hl hx ha hln
  go_enter Tryz.func71, Tryz.ntmps71
  go_wp2
  go_ret
  exact ⟨rfl, Only.refl _ _, nv, HP.out⟩
theorem give_run (B : Nat) (p A : Option Addr) (cp : Nat) (nv : Value) (r : LS) (tail a : Int) (w : World) (h : RunP w B p A cp nv r) (hl : r.ns.length ≤ 900) (hx : Words r.xs) (ha : 0 ≤ r.a ∧ r.a < 4294967296) (V : Value) (l : List Int) (hw : Whats B A w V l) (hm : l.length ≤ 90) (hr0 : -1000 ≤ a) (hr1 : a ≤ 1000) :
    Calls Tryz.prog 71 #[Value.pointer (some ⟨B, 0, none⟩), .int .i64 tail, .int .i64 a, V] w (Done B p A cp w (.bool (r.mxGive tail a l).2) (r.mxGive tail a l).1) := by
  by_cases l0 : r.line = a
  · by_cases hz : wordAt r.xs (nc r.n r.task) = 0
    · rw [show r.mxGive tail a l = _ by unfold LS.mxGive; rw [if_pos l0, if_pos hz]]
      exact give_0 B p A cp nv r tail a w h hl hx ha V l hw hm hr0 hr1 l0 hz
    · rw [show r.mxGive tail a l = _ by unfold LS.mxGive; rw [if_pos l0, if_neg hz]]
      exact give_0b B p A cp nv r tail a w h hl hx ha V l hw hm hr0 hr1 l0 hz
  by_cases l1 : r.line = a + 1
  · cases hz : r.casOut tail
    · rw [show r.mxGive tail a l = _ by unfold LS.mxGive; rw [if_neg l0, if_pos l1, hz, if_neg Bool.false_ne_true]]
      exact give_1b B p A cp nv r tail a w h hl hx ha V l hw hm hr0 hr1 l1 hz
    · rw [show r.mxGive tail a l = _ by unfold LS.mxGive; rw [if_neg l0, if_pos l1, hz, if_pos rfl]]
      exact give_1 B p A cp nv r tail a w h hl hx ha V l hw hm hr0 hr1 l1 hz
  by_cases l2 : r.line = a + 2
  · cases hz : (r.stepR (nc r.n r.task) isN).done
    · rw [show r.mxGive tail a l = _ by unfold LS.mxGive; rw [if_neg l0, if_neg l1, if_pos l2, hz, if_neg Bool.false_ne_true]]
      exact give_2b B p A cp nv r tail a w h hl hx ha V l hw hm hr0 hr1 l2 hz
    · rw [show r.mxGive tail a l = _ by unfold LS.mxGive; rw [if_neg l0, if_neg l1, if_pos l2, hz, if_pos rfl]]
      exact give_2 B p A cp nv r tail a w h hl hx ha V l hw hm hr0 hr1 l2 hz
  by_cases l3 : r.line = a + 3
  · rw [show r.mxGive tail a l = _ by unfold LS.mxGive; rw [if_neg l0, if_neg l1, if_neg l2, if_pos l3]]
    exact give_3 B p A cp nv r tail a w h hl hx ha V l hw hm hr0 hr1 l3
  · rw [show r.mxGive tail a l = _ by unfold LS.mxGive; rw [if_neg l0, if_neg l1, if_neg l2, if_neg l3]]
    exact give_no B p A cp nv r tail a w h hl hx ha V l hw hm hr0 hr1 _ rfl l0 l1 l2 l3
end Go.Proofs.YtocdbeonogfopaaGreat
