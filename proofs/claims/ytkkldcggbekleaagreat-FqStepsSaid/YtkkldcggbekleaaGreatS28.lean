import Derived.Test.YtkkldcggbekleaaGreatS27
set_option linter.unusedVariables false
set_option linter.unusedSimpArgs false
namespace Go.Proofs.YtkkldcggbekleaaGreat
open Go.RowKit
theorem zero_is (v : Int) (w : World) : Calls Tryz.prog 106 #[.int .u32 v] w fun e w' => e = .returned (.bool (v == 0)) ∧ w = w' := by
  go_enter Tryz.func106, Tryz.ntmps106
  go_wp2
  go_ret
  exact ⟨rfl, rfl⟩
theorem holds_zero : HoldsAny (.func (.func 106) #[] #[]) isZ := by
  intro v w h0 h1
  have hn := neq_fn
  go_enter_defers Tryz.func127, Tryz.ntmps127
  go_wp2_with fail
  refine (zero_is v _).mono ?_
  rintro e w1 ⟨rfl, rfl⟩
  have HQ := Lib.hid (show isZ v = (v == 0) from rfl)
  generalize hq : (v == 0) = q at *
  clear hq
  go_wp2
  refine leaves_cons (f := 129) (args := #[]) (by simp) (by simp [go_sem]) ?_
  refine (rec_idle _).mono ?_
  rintro e u' w'' ⟨rfl, rfl, rfl⟩
  exact ⟨_, results_tmp rfl _ _ _, by rw [HQ.out]; rfl, Only.refl _ _⟩
theorem some_make (B : Nat) (w : World) : Calls Tryz.prog 120 #[.pointer (some ⟨B, 4, none⟩)] w fun e w' =>
    e = .returned (.func (.func 126) #[] #[.pointer (some ⟨w.heap.size, 0, none⟩)]) ∧ Row w' w.heap.size 67 #[.pointer (some ⟨B, 4, none⟩)] ∧ Only Nil w w' := by
  have HR := Lib.hid (Row.new w 67 #[.pointer (some ⟨B, 4, none⟩)])
  have HO := Lib.hid ((Only.refl Nil w).alloc (.cells #[.pointer (some ⟨B, 4, none⟩)] 67))
  go_enter Tryz.func120, Tryz.ntmps120
  go_wp2
  go_ret
  exact ⟨rfl, HR.out, HO.out⟩
theorem some_yes (B gt : Nat) (r : LS) (hv nv : Value) (v : Int) (w : World) (hb : Row w gt 67 #[.pointer (some ⟨B, 4, none⟩)]) (hr : Row w B 42 (r.cells hv nv)) (hq : isN v = true) :
    Calls Tryz.prog 126 #[.int .u32 v, .pointer (some ⟨gt, 0, none⟩)] w fun e w' => e = .returned (.bool true) ∧ Only (· = B) w w' ∧ Row w' B 42 ((r.keepA v).cells hv nv) := by
  have b0 : w.cell? ⟨gt, 0, none⟩ = some (.pointer (some ⟨B, 4, none⟩)) := hb.cell_ (i := 0) rfl
  have c6 : w.cell? ⟨B, 6, none⟩ = some (.int .u32 r.a) := hr.cell_ (i := 6) rfl
  have f6 : w.frozen? ⟨B, 6, none⟩ = false := hr.frozen 6
  have HR := Lib.hid (show Row (w.setCell ⟨B, 6, none⟩ (.int .u32 v)) B 42 ((r.keepA v).cells hv nv) from hr.set 6 (.int .u32 v))
  have HO := Lib.hid ((Only.refl (· = B) w).setCell (p := ⟨B, 6, none⟩) (.inr rfl) (.int .u32 v))
  have hv0 : (v != 0) = true := hq
  have hv1 : (v == 0) = false := by simpa using hv0
  clear hb hr hq
  go_enter Tryz.func126, Tryz.ntmps126
  go_wp2
  go_ret
  exact ⟨ret_bool (by simp [hv1]), HO.out, HR.out⟩
theorem some_no (B gt : Nat) (r : LS) (hv nv : Value) (v : Int) (w : World) (hr : Row w B 42 (r.cells hv nv)) (hq : isN v = false) :
    Calls Tryz.prog 126 #[.int .u32 v, .pointer (some ⟨gt, 0, none⟩)] w fun e w' => e = .returned (.bool false) ∧ Only (· = B) w w' ∧ Row w' B 42 (r.cells hv nv) := by
  have HR := Lib.hid hr
  obtain rfl : v = 0 := by have : (v != 0) = false := hq; simpa using this
  clear hr hq
  go_enter Tryz.func126, Tryz.ntmps126
  go_wp2
  go_ret
  exact ⟨rfl, Only.refl _ _, HR.out⟩
theorem holds_some (B gt : Nat) (p A : Option Addr) (cp : Nat) (nv : Value) (r : LS) (w : World) (h : RunP w B p A cp nv r) (hb : Row w gt 67 #[.pointer (some ⟨B, 4, none⟩)]) :
    HoldsK A B w (.func (.func 126) #[] #[.pointer (some ⟨gt, 0, none⟩)]) isN (r.cells (.pointer p) nv) (fun v => (r.keepA v).cells (.pointer p) nv) := by
  intro v w1 hO hr h0 h1
  have hb1 : Row w1 gt 67 #[.pointer (some ⟨B, 4, none⟩)] := h.aside hb hO.turned2 ⟨by decide, by decide, by decide⟩
  have hn := neq_fn
  cases hq : isN v
  · show Calls Tryz.prog 127 _ w1 (fun e w' => e = .returned (.bool false) ∧ Only (· = B) w1 w' ∧ Row w' B 42 (r.cells (.pointer p) nv))
    have HT := Lib.hid (some_no B gt r (.pointer p) nv v w1 hr hq)
    clear h hb hO hb1 hr hq
    go_enter_defers Tryz.func127, Tryz.ntmps127
    go_wp2_with fail
    refine HT.out.mono ?_
    rintro e w2 ⟨rfl, hO, hr⟩
    have HO := Lib.hid hO
    have HR := Lib.hid hr
    clear hO hr HT
    go_wp2
    refine leaves_cons (f := 129) (args := #[]) (by simp) (by simp [go_sem]) ?_
    refine (rec_idle _).mono ?_
    rintro e u' w'' ⟨rfl, rfl, rfl⟩
    exact ⟨_, results_tmp rfl _ _ _, rfl, HO.out, HR.out⟩
  · show Calls Tryz.prog 127 _ w1 (fun e w' => e = .returned (.bool true) ∧ Only (· = B) w1 w' ∧ Row w' B 42 ((r.keepA v).cells (.pointer p) nv))
    have HT := Lib.hid (some_yes B gt r (.pointer p) nv v w1 hb1 hr hq)
    clear h hb hO hb1 hr hq
    go_enter_defers Tryz.func127, Tryz.ntmps127
    go_wp2_with fail
    refine HT.out.mono ?_
    rintro e w2 ⟨rfl, hO, hr⟩
    have HO := Lib.hid hO
    have HR := Lib.hid hr
    clear hO hr HT
    go_wp2
    refine leaves_cons (f := 129) (args := #[]) (by simp) (by simp [go_sem]) ?_
    refine (rec_idle _).mono ?_
    rintro e u' w'' ⟨rfl, rfl, rfl⟩
    exact ⟨_, results_tmp rfl _ _ _, rfl, HO.out, HR.out⟩
theorem seeN_eq (r : LS) : r.waitK (nc r.n r.task) isN = r.seeN := by
  unfold LS.waitK LS.seeN LS.kept
  cases (r.stepR (nc r.n r.task) isN).seen <;> rfl
set_option maxHeartbeats 1000000 in
theorem await_no (B : Nat) (p A : Option Addr) (cp : Nat) (nv : Value) (r : LS) (l : Int) (w : World) (h : RunP w B p A cp nv r) (hx : Words r.xs) (hdn : (r.stepR (nc r.n r.task) isN).done = false) :
    Calls Tryz.prog 110 #[Value.pointer (some ⟨B, 0, none⟩), .int .i64 l] w (Done B p A cp w (.tuple #[]) r.seeN) := by
  have HDN := Lib.hid hdn
  have HX := Lib.hid hx
  have HP := Lib.hid h
  clear h hx hdn
  go_enter Tryz.func110, Tryz.ntmps110
  go_upto_region 0 with (fail)
  have c1 : w.cell? ⟨B, 1, none⟩ = some (.int .i64 r.n) := HP.out.row.cell_ (i := 1) rfl
  have c3 : w.cell? ⟨B, 3, none⟩ = some (.int .i64 r.task) := HP.out.row.cell_ (i := 3) rfl
  refine wp_region_phase (n := 20) 14 (fun w => w.cell? ⟨B, 1, none⟩ = some (.int .i64 r.n) ∧ w.cell? ⟨B, 3, none⟩ = some (.int .i64 r.task)) rfl (by kernel_rfl) ⟨c1, c3⟩ (fun hHeld => ?_)
  have HP0 := Lib.hid (HP.out.keep (Only.refl Nil w).drew)
  have HO0 := Lib.hid ((Only.refl (TurnB B A) w).drew)
  clear c1 c3 HP
  generalize w.drew = w0 at *
  refine mpa 0 rfl (Value.pointer (some ⟨B, 0, none⟩)) (fun w => ?_) ?_
  · go_simp
  (try simp only [Act.put, k1, k2, k3])
  refine mpa 1 rfl (Value.pointer (some ⟨B, 0, none⟩)) (fun w => ?_) ?_
  · go_simp
  (try simp only [Act.put, k1, k2, k3])
  refine mpa 2 rfl (Value.pointer (some ⟨B, 0, none⟩)) (fun w => ?_) ?_
  · go_simp
  (try simp only [Act.put, k1, k2, k3])
  refine mpa 3 rfl (.pointer (some ⟨B, 1, none⟩)) (fun w => ?_) ?_
  · go_simp
  (try simp only [Act.put, k1, k2, k3])
  refine mpt 4 rfl (.agg #[.int .i64 r.n]) (fun w hSw => ?_) ?_
  · (try dsimp only at hSw)
    go_split_ands
    go_simp
  (try simp only [Act.put, k1, k2, k3])
  refine mpa 5 rfl (Value.pointer (some ⟨B, 0, none⟩)) (fun w => ?_) ?_
  · go_simp
  (try simp only [Act.put, k1, k2, k3])
  refine mpa 6 rfl (Value.pointer (some ⟨B, 0, none⟩)) (fun w => ?_) ?_
  · go_simp
  (try simp only [Act.put, k1, k2, k3])
  refine mpa 7 rfl (.pointer (some ⟨B, 3, none⟩)) (fun w => ?_) ?_
  · go_simp
  (try simp only [Act.put, k1, k2, k3])
  refine mpt 8 rfl (.int .i64 r.task) (fun w hSw => ?_) ?_
  · (try dsimp only at hSw)
    go_split_ands
    go_simp
  (try simp only [Act.put, k1, k2, k3])
  refine mpa 10 rfl (Value.pointer (some ⟨B, 0, none⟩)) (fun w => ?_) ?_
  · go_simp
  (try simp only [Act.put, k1, k2, k3])
  refine mpa 11 rfl (Value.pointer (some ⟨B, 0, none⟩)) (fun w => ?_) ?_
  · go_simp
  (try simp only [Act.put, k1, k2, k3])
  refine mpa 12 rfl (.pointer (some ⟨B, 4, none⟩)) (fun w => ?_) ?_
  · go_simp
  (try simp only [Act.put, k1, k2, k3])
  refine mpc 9 rfl (by kernel_rfl) (by rfl) (fun K hK => ?_)
  go_simp
  refine (next_any r.n r.task _).mono ?_
  rintro e w1 ⟨rfl, hO⟩
  have HP1 := Lib.hid (HP0.out.keep hO)
  have HO1 := Lib.hid (HO0.out.trans (hO.mono (T := TurnB B A) (fun _ _ h => h.elim)))
  have hHeld2 : w1.cell? ⟨B, 1, none⟩ = some (.int .i64 r.n) ∧ w1.cell? ⟨B, 3, none⟩ = some (.int .i64 r.task) := ⟨HP1.out.row.cell_ (i := 1) rfl, HP1.out.row.cell_ (i := 3) rfl⟩
  refine hK.out _ _ (.inr hHeld2) ?_
  clear hK K hHeld hO HP0 HO0
  (try simp only [Act.put, k1, k2, k3])
  refine mpc 13 rfl (by kernel_rfl) (by rfl) (fun K hK => ?_)
  go_simp
  refine (some_make B _).mono ?_
  rintro e w2 ⟨rfl, hb, hO⟩
  have HP2 := Lib.hid (HP1.out.keep hO)
  have HO2 := Lib.hid (HO1.out.trans (hO.mono (T := TurnB B A) (fun _ _ h => h.elim)))
  have HF := Lib.hid (holds_some B w1.heap.size p A cp nv r _ HP2.out hb)
  have hHeld3 : w2.cell? ⟨B, 1, none⟩ = some (.int .i64 r.n) ∧ w2.cell? ⟨B, 3, none⟩ = some (.int .i64 r.task) := ⟨HP2.out.row.cell_ (i := 1) rfl, HP2.out.row.cell_ (i := 3) rfl⟩
  generalize w1.heap.size = g1 at *
  refine hK.out _ _ (.inr hHeld3) ?_
  clear hK K hHeld2 hO hb HP1 HO1
  (try simp only [Act.put, k1, k2, k3])
  refine mpc 14 rfl (by kernel_rfl) (by rfl) (fun K hK => ?_)
  go_simp
  refine (waitK_run B p A cp nv r (nc r.n r.task) (.func 126) #[] #[.pointer (some ⟨g1, 0, none⟩)] isN _ HP2.out HF.out HX.out).mono ?_
  rw [seeN_eq, HDN.out]
  rintro e w3 ⟨rfl, hO, nv3, hP⟩
  have HP3 := Lib.hid hP
  have HO3 := Lib.hid (HO2.out.trans hO)
  generalize (r.stepR (nc r.n r.task) isN).seen = sn at *
  refine hK.out _ _ (.inl (by kernel_rfl)) ?_
  clear hK K hHeld3 hO hP HP2 HO2 HF
  (try simp only [Act.put, k1, k2, k3])
  refine mpa 15 rfl (.tuple #[.bool sn, .bool false]) (fun w => ?_) ?_
  · go_simp
  (try simp only [Act.put, k1, k2, k3])
  refine mpa 16 rfl (.bool sn) (fun w => ?_) ?_
  · go_simp
  (try simp only [Act.put, k1, k2, k3])
  refine mpa 17 rfl (.bool false) (fun w => ?_) ?_
  · go_simp
  (try simp only [Act.put, k1, k2, k3])
  refine mpa 18 rfl (.bool sn) (fun w => ?_) ?_
  · go_simp
  (try simp only [Act.put, k1, k2, k3])
  refine mpa 19 rfl (.bool false) (fun w => ?_) ?_
  · go_simp
  (try simp only [Act.put, k1, k2, k3])
  refine wpAnyP_done (by kernel_rfl) ?_ _
  go_wp2
  go_returns
  exact ⟨rfl, HO3.out, nv3, HP3.out⟩
set_option maxHeartbeats 1000000 in
theorem await_yes (B : Nat) (p A : Option Addr) (cp : Nat) (nv : Value) (r : LS) (l : Int) (w : World) (h : RunP w B p A cp nv r) (hx : Words r.xs) (hdn : (r.stepR (nc r.n r.task) isN).done = true) :
    Calls Tryz.prog 110 #[Value.pointer (some ⟨B, 0, none⟩), .int .i64 l] w (Done B p A cp w (.tuple #[]) (r.seeN.go l)) := by
  have HDN := Lib.hid hdn
  have HX := Lib.hid hx
  have HP := Lib.hid h
  clear h hx hdn
  go_enter Tryz.func110, Tryz.ntmps110
  go_upto_region 0 with (fail)
  have c1 : w.cell? ⟨B, 1, none⟩ = some (.int .i64 r.n) := HP.out.row.cell_ (i := 1) rfl
  have c3 : w.cell? ⟨B, 3, none⟩ = some (.int .i64 r.task) := HP.out.row.cell_ (i := 3) rfl
  refine wp_region_phase (n := 20) 14 (fun w => w.cell? ⟨B, 1, none⟩ = some (.int .i64 r.n) ∧ w.cell? ⟨B, 3, none⟩ = some (.int .i64 r.task)) rfl (by kernel_rfl) ⟨c1, c3⟩ (fun hHeld => ?_)
  have HP0 := Lib.hid (HP.out.keep (Only.refl Nil w).drew)
  have HO0 := Lib.hid ((Only.refl (TurnB B A) w).drew)
  clear c1 c3 HP
  generalize w.drew = w0 at *
  refine mpa 0 rfl (Value.pointer (some ⟨B, 0, none⟩)) (fun w => ?_) ?_
  · go_simp
  (try simp only [Act.put, k1, k2, k3])
  refine mpa 1 rfl (Value.pointer (some ⟨B, 0, none⟩)) (fun w => ?_) ?_
  · go_simp
  (try simp only [Act.put, k1, k2, k3])
  refine mpa 2 rfl (Value.pointer (some ⟨B, 0, none⟩)) (fun w => ?_) ?_
  · go_simp
  (try simp only [Act.put, k1, k2, k3])
  refine mpa 3 rfl (.pointer (some ⟨B, 1, none⟩)) (fun w => ?_) ?_
  · go_simp
  (try simp only [Act.put, k1, k2, k3])
  refine mpt 4 rfl (.agg #[.int .i64 r.n]) (fun w hSw => ?_) ?_
  · (try dsimp only at hSw)
    go_split_ands
    go_simp
  (try simp only [Act.put, k1, k2, k3])
  refine mpa 5 rfl (Value.pointer (some ⟨B, 0, none⟩)) (fun w => ?_) ?_
  · go_simp
  (try simp only [Act.put, k1, k2, k3])
  refine mpa 6 rfl (Value.pointer (some ⟨B, 0, none⟩)) (fun w => ?_) ?_
  · go_simp
  (try simp only [Act.put, k1, k2, k3])
  refine mpa 7 rfl (.pointer (some ⟨B, 3, none⟩)) (fun w => ?_) ?_
  · go_simp
  (try simp only [Act.put, k1, k2, k3])
  refine mpt 8 rfl (.int .i64 r.task) (fun w hSw => ?_) ?_
  · (try dsimp only at hSw)
    go_split_ands
    go_simp
  (try simp only [Act.put, k1, k2, k3])
  refine mpa 10 rfl (Value.pointer (some ⟨B, 0, none⟩)) (fun w => ?_) ?_
  · go_simp
  (try simp only [Act.put, k1, k2, k3])
  refine mpa 11 rfl (Value.pointer (some ⟨B, 0, none⟩)) (fun w => ?_) ?_
  · go_simp
  (try simp only [Act.put, k1, k2, k3])
  refine mpa 12 rfl (.pointer (some ⟨B, 4, none⟩)) (fun w => ?_) ?_
  · go_simp
  (try simp only [Act.put, k1, k2, k3])
  refine mpc 9 rfl (by kernel_rfl) (by rfl) (fun K hK => ?_)
  go_simp
  refine (next_any r.n r.task _).mono ?_
  rintro e w1 ⟨rfl, hO⟩
  have HP1 := Lib.hid (HP0.out.keep hO)
  have HO1 := Lib.hid (HO0.out.trans (hO.mono (T := TurnB B A) (fun _ _ h => h.elim)))
  have hHeld2 : w1.cell? ⟨B, 1, none⟩ = some (.int .i64 r.n) ∧ w1.cell? ⟨B, 3, none⟩ = some (.int .i64 r.task) := ⟨HP1.out.row.cell_ (i := 1) rfl, HP1.out.row.cell_ (i := 3) rfl⟩
  refine hK.out _ _ (.inr hHeld2) ?_
  clear hK K hHeld hO HP0 HO0
  (try simp only [Act.put, k1, k2, k3])
  refine mpc 13 rfl (by kernel_rfl) (by rfl) (fun K hK => ?_)
  go_simp
  refine (some_make B _).mono ?_
  rintro e w2 ⟨rfl, hb, hO⟩
  have HP2 := Lib.hid (HP1.out.keep hO)
  have HO2 := Lib.hid (HO1.out.trans (hO.mono (T := TurnB B A) (fun _ _ h => h.elim)))
  have HF := Lib.hid (holds_some B w1.heap.size p A cp nv r _ HP2.out hb)
  have hHeld3 : w2.cell? ⟨B, 1, none⟩ = some (.int .i64 r.n) ∧ w2.cell? ⟨B, 3, none⟩ = some (.int .i64 r.task) := ⟨HP2.out.row.cell_ (i := 1) rfl, HP2.out.row.cell_ (i := 3) rfl⟩
  generalize w1.heap.size = g1 at *
  refine hK.out _ _ (.inr hHeld3) ?_
  clear hK K hHeld2 hO hb HP1 HO1
  (try simp only [Act.put, k1, k2, k3])
  refine mpc 14 rfl (by kernel_rfl) (by rfl) (fun K hK => ?_)
  go_simp
  refine (waitK_run B p A cp nv r (nc r.n r.task) (.func 126) #[] #[.pointer (some ⟨g1, 0, none⟩)] isN _ HP2.out HF.out HX.out).mono ?_
  rw [seeN_eq, HDN.out]
  rintro e w3 ⟨rfl, hO, nv3, hP⟩
  have HP3 := Lib.hid hP
  have HO3 := Lib.hid (HO2.out.trans hO)
  generalize (r.stepR (nc r.n r.task) isN).seen = sn at *
  refine hK.out _ _ (.inl (by kernel_rfl)) ?_
  clear hK K hHeld3 hO hP HP2 HO2 HF
  (try simp only [Act.put, k1, k2, k3])
  refine mpa 15 rfl (.tuple #[.bool sn, .bool true]) (fun w => ?_) ?_
  · go_simp
  (try simp only [Act.put, k1, k2, k3])
  refine mpa 16 rfl (.bool sn) (fun w => ?_) ?_
  · go_simp
  (try simp only [Act.put, k1, k2, k3])
  refine mpa 17 rfl (.bool true) (fun w => ?_) ?_
  · go_simp
  (try simp only [Act.put, k1, k2, k3])
  refine mpa 18 rfl (.bool sn) (fun w => ?_) ?_
  · go_simp
  (try simp only [Act.put, k1, k2, k3])
  refine mpa 19 rfl (.bool true) (fun w => ?_) ?_
  · go_simp
  (try simp only [Act.put, k1, k2, k3])
  refine wpAnyP_done (by kernel_rfl) ?_ _
  go_wp2_with fail
  refine (go_run B p A cp nv3 _ l _ HP3.out).mono ?_
  rintro e w4 ⟨rfl, hO, nv4, hP⟩
  have HP4 := Lib.hid hP
  have HO4 := Lib.hid (HO3.out.trans hO)
  clear hO hP
  go_wp2
  go_returns
  exact ⟨rfl, HO4.out, nv4, HP4.out⟩
set_option maxHeartbeats 1000000 in
theorem notes_run (B : Nat) (p A : Option Addr) (cp : Nat) (nv : Value) (r : LS) (V : Value) (l : List Int) (w : World) (h : RunP w B p A cp nv r) (hw : Whats B A w V l) (hl : r.ns.length + l.length ≤ 1000) :
    Calls Tryz.prog 111 #[Value.pointer (some ⟨B, 0, none⟩), V] w (Done B p A cp w (.tuple #[]) (r.notes l)) := by
  obtain ⟨Z, c, rfl, hz⟩ := hw
  generalize hm : l.length = m at *
  have HM := Lib.hid hm
  have HZ := Lib.hid hz
  have HL := Lib.hid hl
  have H0 : Hid (Only (TurnB B A) w w ∧ ∃ nv, RunP w B p A cp nv (r.notes (l.take 0))) := Lib.hid ⟨Only.refl _ _, nv, h⟩
  clear h hz hl hm
  go_enter Tryz.func111, Tryz.ntmps111
  go_wp2
  go_loopw [8] (fun iv wr => ∃ k : Nat, k ≤ m ∧ iv = .int .i64 k ∧ Hid (Only (TurnB B A) w wr ∧ ∃ nv, RunP wr B p A cp nv (r.notes (l.take k)))) (fun iv _ => m - (intOf iv).toNat)
  case atStart => exact ⟨0, Nat.zero_le _, rfl, H0⟩
  case round =>
    obtain ⟨k, hk, rfl, HC⟩ := hrel
    clear H0
    have hm9 : m ≤ 1000 := by have := HL.out; omega
    by_cases hlt : k < m
    · obtain ⟨x, hx⟩ : ∃ x, l[k]? = some x := ⟨_, List.getElem?_eq_getElem (by rw [HM.out]; exact hlt)⟩
      obtain ⟨hO, nv1, hP⟩ := HC.out
      obtain ⟨b, o, rfl, hc⟩ := HZ.out _ hO k x hx
      have HP := Lib.hid hP
      have HO := Lib.hid hO
      have HN := Lib.hid (notes_next (r := r) hx)
      have HNL := Lib.hid (show (r.notes (l.take k)).ns.length ≤ 1000 by rw [notes_len, List.length_take]; have := HL.out; omega)
      clear HC hO hP hx
      go_wp2_with fail
      clear hc
      refine (note_run B p A cp nv1 _ x 0 _ HP.out HNL.out).mono ?_
      rintro e w2 ⟨rfl, hO, nv2, hP⟩
      have HC2 : Hid (Only (TurnB B A) w w2 ∧ ∃ nv, RunP w2 B p A cp nv (r.notes (l.take (k + 1)))) := Lib.hid ⟨HO.out.trans hO, nv2, by rw [HN.out]; exact hP⟩
      clear hO hP HP HO
      go_wp2
      go_roundw
      case rel => exact ⟨k + 1, by omega, by go_num, HC2⟩
      case measure => simp [intOf]; omega
    · obtain rfl : k = m := by omega
      have HE : Hid (Only (TurnB B A) w wr ∧ ∃ nv, RunP wr B p A cp nv (r.notes l)) := Lib.hid (by rw [show l = l.take k by rw [← HM.out, List.take_length]]; exact HC.out)
      clear HC
      go_wp2
      go_returns
      exact ⟨rfl, HE.out.1, HE.out.2⟩
end Go.Proofs.YtkkldcggbekleaaGreat
