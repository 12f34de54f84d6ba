import Derived.Test.YtocdbeonogfopaaGreatG20
set_option linter.unusedVariables false
set_option linter.unusedSimpArgs false
namespace Go.Proofs.YtocdbeonogfopaaGreat
open Go.RowKit
set_option maxHeartbeats 1000000 in
theorem lines_1_0 (B : Nat) (p A : Option Addr) (cp : Nat) (nv : Value) (r : LS) (w : World) (h : RunP w B p A cp nv r) (hl : r.ns.length ≤ 900) (hx : Words r.xs) (ha : 0 ≤ r.a ∧ r.a < 4294967296) (hb : 0 ≤ r.b ∧ r.b < 4294967296) (h1 : r.op = 1) (h2 : r.line = 0) :
    Calls Tryz.prog 52 #[Value.pointer (some ⟨B, 0, none⟩)] w (Done B p A cp w (.tuple #[]) r.pf) := by
  have HT := Lib.hid (show r.pf = r.pCome by unfold LS.pf; rw [h1, h2]; rfl)
  have H1 := Lib.hid h1
  have H2 := Lib.hid h2
  clear h1 h2
  have HX := Lib.hid hx
  have HL := Lib.hid hl
  have HA := Lib.hid ha
  have HB := Lib.hid hb
  have HP := Lib.hid h
  have c4 : w.cell? ⟨B, 4, none⟩ = some (.int .i64 (1)) := by rw [← H1.out]; exact HP.out.row.cell_ (i := 4) rfl
  have c5 : w.cell? ⟨B, 5, none⟩ = some (.int .i64 (0)) := by rw [← H2.out]; exact HP.out.row.cell_ (i := 5) rfl
  clear h hl hx ha hb
  go_enter Tryz.func52, Tryz.ntmps52
  go_upto_region 1 with (fail)
  refine wp_region_phase (n := 11) 10 (fun w => w.cell? ⟨B, 4, none⟩ = some (.int .i64 (1)) ∧ w.cell? ⟨B, 5, none⟩ = some (.int .i64 (0))) rfl (by kernel_rfl) ⟨c4, c5⟩ (fun hHeld => ?_)
  clear c4 c5
  have HP1 := Lib.hid (HP.out.keep (Only.refl Nil w).drew)
  have HO1 := Lib.hid (Only.refl Nil w).drew
  clear HP
  generalize w.drew = w2 at *
  refine mpa 0 rfl (Value.pointer (some ⟨B, 0, none⟩)) (fun w => ?_) ?_
  · go_simp
  (try simp only [Act.put, k1, k2, k3])
  refine mpa 1 rfl (Value.pointer (some ⟨B, 0, none⟩)) (fun w => ?_) ?_
  · go_simp
  (try simp only [Act.put, k1, k2, k3])
  refine mpa 2 rfl (.pointer (some ⟨B, 4, none⟩)) (fun w => ?_) ?_
  · go_simp
  (try simp only [Act.put, k1, k2, k3])
  refine mpa 3 rfl (.pointer (some ⟨B, 4, none⟩)) (fun w => ?_) ?_
  · go_simp
  (try simp only [Act.put, k1, k2, k3])
  refine mpt 4 rfl (.int .i64 (1)) (fun w hSw => ?_) ?_
  · (try dsimp only at hSw)
    go_split_ands
    go_simp
  (try simp only [Act.put, k1, k2, k3])
  refine mpa 5 rfl (Value.pointer (some ⟨B, 0, none⟩)) (fun w => ?_) ?_
  · go_simp
  (try simp only [Act.put, k1, k2, k3])
  refine mpa 6 rfl (Value.pointer (some ⟨B, 0, none⟩)) (fun w => ?_) ?_
  · go_simp
  (try simp only [Act.put, k1, k2, k3])
  refine mpa 7 rfl (.pointer (some ⟨B, 4, none⟩)) (fun w => ?_) ?_
  · go_simp
  (try simp only [Act.put, k1, k2, k3])
  refine mpa 8 rfl (.pointer (some ⟨B, 5, none⟩)) (fun w => ?_) ?_
  · go_simp
  (try simp only [Act.put, k1, k2, k3])
  refine mpt 9 rfl (.int .i64 (0)) (fun w hSw => ?_) ?_
  · (try dsimp only at hSw)
    go_split_ands
    go_simp
  (try simp only [Act.put, k1, k2, k3])
  refine mpc 10 rfl (by kernel_rfl) (by rfl) (fun K hK => ?_)
  go_simp
  refine hK.out _ _ (.inl (by kernel_rfl)) ?_
  clear hK K
  (try simp only [Act.put, k1, k2, k3])
  refine wpAnyP_done (by kernel_rfl) ?_ _
  clear hHeld
  go_wp2_with fail
  have hc := come_run B p A cp nv r _ HP1.out HL.out HX.out
  rw [← HT.out] at hc
  refine hc.mono ?_
  rintro e w3 ⟨rfl, hO, nv3, hP⟩
  have HO3 := Lib.hid ((HO1.out.mono (T := TurnB B A) (fun _ _ h => h.elim)).trans hO)
  have HP3 := Lib.hid hP
  clear hO hP hc
  go_wp2
  go_returns
  exact ⟨rfl, HO3.out, nv3, HP3.out⟩
set_option maxHeartbeats 1000000 in
theorem lines_5_0 (B : Nat) (p A : Option Addr) (cp : Nat) (nv : Value) (r : LS) (w : World) (h : RunP w B p A cp nv r) (hl : r.ns.length ≤ 900) (hx : Words r.xs) (ha : 0 ≤ r.a ∧ r.a < 4294967296) (hb : 0 ≤ r.b ∧ r.b < 4294967296) (h1 : r.op = 5) (h2 : r.line = 0) :
    Calls Tryz.prog 52 #[Value.pointer (some ⟨B, 0, none⟩)] w (Done B p A cp w (.tuple #[]) r.pf) := by
  have HT := Lib.hid (show r.pf = r.pLookIn by unfold LS.pf; rw [h1, h2]; rfl)
  have H1 := Lib.hid h1
  have H2 := Lib.hid h2
  clear h1 h2
  have HX := Lib.hid hx
  have HL := Lib.hid hl
  have HA := Lib.hid ha
  have HB := Lib.hid hb
  have HP := Lib.hid h
  have c4 : w.cell? ⟨B, 4, none⟩ = some (.int .i64 (5)) := by rw [← H1.out]; exact HP.out.row.cell_ (i := 4) rfl
  have c5 : w.cell? ⟨B, 5, none⟩ = some (.int .i64 (0)) := by rw [← H2.out]; exact HP.out.row.cell_ (i := 5) rfl
  clear h hl hx ha hb
  go_enter Tryz.func52, Tryz.ntmps52
  go_upto_region 1 with (fail)
  refine wp_region_phase (n := 11) 10 (fun w => w.cell? ⟨B, 4, none⟩ = some (.int .i64 (5)) ∧ w.cell? ⟨B, 5, none⟩ = some (.int .i64 (0))) rfl (by kernel_rfl) ⟨c4, c5⟩ (fun hHeld => ?_)
  clear c4 c5
  have HP1 := Lib.hid (HP.out.keep (Only.refl Nil w).drew)
  have HO1 := Lib.hid (Only.refl Nil w).drew
  clear HP
  generalize w.drew = w2 at *
  refine mpa 0 rfl (Value.pointer (some ⟨B, 0, none⟩)) (fun w => ?_) ?_
  · go_simp
  (try simp only [Act.put, k1, k2, k3])
  refine mpa 1 rfl (Value.pointer (some ⟨B, 0, none⟩)) (fun w => ?_) ?_
  · go_simp
  (try simp only [Act.put, k1, k2, k3])
  refine mpa 2 rfl (.pointer (some ⟨B, 4, none⟩)) (fun w => ?_) ?_
  · go_simp
  (try simp only [Act.put, k1, k2, k3])
  refine mpa 3 rfl (.pointer (some ⟨B, 4, none⟩)) (fun w => ?_) ?_
  · go_simp
  (try simp only [Act.put, k1, k2, k3])
  refine mpt 4 rfl (.int .i64 (5)) (fun w hSw => ?_) ?_
  · (try dsimp only at hSw)
    go_split_ands
    go_simp
  (try simp only [Act.put, k1, k2, k3])
  refine mpa 5 rfl (Value.pointer (some ⟨B, 0, none⟩)) (fun w => ?_) ?_
  · go_simp
  (try simp only [Act.put, k1, k2, k3])
  refine mpa 6 rfl (Value.pointer (some ⟨B, 0, none⟩)) (fun w => ?_) ?_
  · go_simp
  (try simp only [Act.put, k1, k2, k3])
  refine mpa 7 rfl (.pointer (some ⟨B, 4, none⟩)) (fun w => ?_) ?_
  · go_simp
  (try simp only [Act.put, k1, k2, k3])
  refine mpa 8 rfl (.pointer (some ⟨B, 5, none⟩)) (fun w => ?_) ?_
  · go_simp
  (try simp only [Act.put, k1, k2, k3])
  refine mpt 9 rfl (.int .i64 (0)) (fun w hSw => ?_) ?_
  · (try dsimp only at hSw)
    go_split_ands
    go_simp
  (try simp only [Act.put, k1, k2, k3])
  refine mpc 10 rfl (by kernel_rfl) (by rfl) (fun K hK => ?_)
  go_simp
  refine hK.out _ _ (.inl (by kernel_rfl)) ?_
  clear hK K
  (try simp only [Act.put, k1, k2, k3])
  refine wpAnyP_done (by kernel_rfl) ?_ _
  clear hHeld
  go_wp2_with fail
  have hc := lookIn_run B p A cp nv r _ HP1.out HL.out HX.out
  rw [← HT.out] at hc
  refine hc.mono ?_
  rintro e w3 ⟨rfl, hO, nv3, hP⟩
  have HO3 := Lib.hid ((HO1.out.mono (T := TurnB B A) (fun _ _ h => h.elim)).trans hO)
  have HP3 := Lib.hid hP
  clear hO hP hc
  go_wp2
  go_returns
  exact ⟨rfl, HO3.out, nv3, HP3.out⟩
end Go.Proofs.YtocdbeonogfopaaGreat
set_option linter.unusedVariables false
set_option linter.unusedSimpArgs false
namespace Go.Proofs.YtocdbeonogfopaaGreat
open Go.RowKit
set_option maxHeartbeats 1000000 in
theorem lines_1_1 (B : Nat) (p A : Option Addr) (cp : Nat) (nv : Value) (r : LS) (w : World) (h : RunP w B p A cp nv r) (hl : r.ns.length ≤ 900) (hx : Words r.xs) (ha : 0 ≤ r.a ∧ r.a < 4294967296) (hb : 0 ≤ r.b ∧ r.b < 4294967296) (h1 : r.op = 1) (h2 : r.line = 1) :
    Calls Tryz.prog 52 #[Value.pointer (some ⟨B, 0, none⟩)] w (Done B p A cp w (.tuple #[]) r.pf) := by
  have HT := Lib.hid (show r.pf = r.pAdmit 0 r.left by unfold LS.pf; rw [h1, h2]; rfl)
  have H1 := Lib.hid h1
  have H2 := Lib.hid h2
  clear h1 h2
  have HX := Lib.hid hx
  have HL := Lib.hid hl
  have HA := Lib.hid ha
  have HB := Lib.hid hb
  have HP := Lib.hid h
  have c4 : w.cell? ⟨B, 4, none⟩ = some (.int .i64 (1)) := by rw [← H1.out]; exact HP.out.row.cell_ (i := 4) rfl
  have c5 : w.cell? ⟨B, 5, none⟩ = some (.int .i64 (1)) := by rw [← H2.out]; exact HP.out.row.cell_ (i := 5) rfl
  clear h hl hx ha hb
  go_enter Tryz.func52, Tryz.ntmps52
  go_upto_region 1 with (fail)
  refine wp_region_phase (n := 11) 10 (fun w => w.cell? ⟨B, 4, none⟩ = some (.int .i64 (1)) ∧ w.cell? ⟨B, 5, none⟩ = some (.int .i64 (1))) rfl (by kernel_rfl) ⟨c4, c5⟩ (fun hHeld => ?_)
  clear c4 c5
  have HP1 := Lib.hid (HP.out.keep (Only.refl Nil w).drew)
  have HO1 := Lib.hid (Only.refl Nil w).drew
  clear HP
  generalize w.drew = w2 at *
  refine mpa 0 rfl (Value.pointer (some ⟨B, 0, none⟩)) (fun w => ?_) ?_
  · go_simp
  (try simp only [Act.put, k1, k2, k3])
  refine mpa 1 rfl (Value.pointer (some ⟨B, 0, none⟩)) (fun w => ?_) ?_
  · go_simp
  (try simp only [Act.put, k1, k2, k3])
  refine mpa 2 rfl (.pointer (some ⟨B, 4, none⟩)) (fun w => ?_) ?_
  · go_simp
  (try simp only [Act.put, k1, k2, k3])
  refine mpa 3 rfl (.pointer (some ⟨B, 4, none⟩)) (fun w => ?_) ?_
  · go_simp
  (try simp only [Act.put, k1, k2, k3])
  refine mpt 4 rfl (.int .i64 (1)) (fun w hSw => ?_) ?_
  · (try dsimp only at hSw)
    go_split_ands
    go_simp
  (try simp only [Act.put, k1, k2, k3])
  refine mpa 5 rfl (Value.pointer (some ⟨B, 0, none⟩)) (fun w => ?_) ?_
  · go_simp
  (try simp only [Act.put, k1, k2, k3])
  refine mpa 6 rfl (Value.pointer (some ⟨B, 0, none⟩)) (fun w => ?_) ?_
  · go_simp
  (try simp only [Act.put, k1, k2, k3])
  refine mpa 7 rfl (.pointer (some ⟨B, 4, none⟩)) (fun w => ?_) ?_
  · go_simp
  (try simp only [Act.put, k1, k2, k3])
  refine mpa 8 rfl (.pointer (some ⟨B, 5, none⟩)) (fun w => ?_) ?_
  · go_simp
  (try simp only [Act.put, k1, k2, k3])
  refine mpt 9 rfl (.int .i64 (1)) (fun w hSw => ?_) ?_
  · (try dsimp only at hSw)
    go_split_ands
    go_simp
  (try simp only [Act.put, k1, k2, k3])
  refine mpc 10 rfl (by kernel_rfl) (by rfl) (fun K hK => ?_)
  go_simp
  refine hK.out _ _ (.inl (by kernel_rfl)) ?_
  clear hK K
  (try simp only [Act.put, k1, k2, k3])
  refine wpAnyP_done (by kernel_rfl) ?_ _
  clear hHeld
  go_wp2_with fail
  have hc := left_run B p A cp nv r _ HP1.out HL.out HX.out HA.out
  rw [← HT.out] at hc
  refine hc.mono ?_
  rintro e w3 ⟨rfl, hO, nv3, hP⟩
  have HO3 := Lib.hid ((HO1.out.mono (T := TurnB B A) (fun _ _ h => h.elim)).trans hO)
  have HP3 := Lib.hid hP
  clear hO hP hc
  go_wp2
  go_returns
  exact ⟨rfl, HO3.out, nv3, HP3.out⟩
set_option maxHeartbeats 1000000 in
theorem lines_5_1 (B : Nat) (p A : Option Addr) (cp : Nat) (nv : Value) (r : LS) (w : World) (h : RunP w B p A cp nv r) (hl : r.ns.length ≤ 900) (hx : Words r.xs) (ha : 0 ≤ r.a ∧ r.a < 4294967296) (hb : 0 ≤ r.b ∧ r.b < 4294967296) (h1 : r.op = 5) (h2 : r.line = 1) :
    Calls Tryz.prog 52 #[Value.pointer (some ⟨B, 0, none⟩)] w (Done B p A cp w (.tuple #[]) r.pf) := by
  have HT := Lib.hid (show r.pf = r.pSlip by unfold LS.pf; rw [h1, h2]; rfl)
  have H1 := Lib.hid h1
  have H2 := Lib.hid h2
  clear h1 h2
  have HX := Lib.hid hx
  have HL := Lib.hid hl
  have HA := Lib.hid ha
  have HB := Lib.hid hb
  have HP := Lib.hid h
  have c4 : w.cell? ⟨B, 4, none⟩ = some (.int .i64 (5)) := by rw [← H1.out]; exact HP.out.row.cell_ (i := 4) rfl
  have c5 : w.cell? ⟨B, 5, none⟩ = some (.int .i64 (1)) := by rw [← H2.out]; exact HP.out.row.cell_ (i := 5) rfl
  clear h hl hx ha hb
  go_enter Tryz.func52, Tryz.ntmps52
  go_upto_region 1 with (fail)
  refine wp_region_phase (n := 11) 10 (fun w => w.cell? ⟨B, 4, none⟩ = some (.int .i64 (5)) ∧ w.cell? ⟨B, 5, none⟩ = some (.int .i64 (1))) rfl (by kernel_rfl) ⟨c4, c5⟩ (fun hHeld => ?_)
  clear c4 c5
  have HP1 := Lib.hid (HP.out.keep (Only.refl Nil w).drew)
  have HO1 := Lib.hid (Only.refl Nil w).drew
  clear HP
  generalize w.drew = w2 at *
  refine mpa 0 rfl (Value.pointer (some ⟨B, 0, none⟩)) (fun w => ?_) ?_
  · go_simp
  (try simp only [Act.put, k1, k2, k3])
  refine mpa 1 rfl (Value.pointer (some ⟨B, 0, none⟩)) (fun w => ?_) ?_
  · go_simp
  (try simp only [Act.put, k1, k2, k3])
  refine mpa 2 rfl (.pointer (some ⟨B, 4, none⟩)) (fun w => ?_) ?_
  · go_simp
  (try simp only [Act.put, k1, k2, k3])
  refine mpa 3 rfl (.pointer (some ⟨B, 4, none⟩)) (fun w => ?_) ?_
  · go_simp
  (try simp only [Act.put, k1, k2, k3])
  refine mpt 4 rfl (.int .i64 (5)) (fun w hSw => ?_) ?_
  · (try dsimp only at hSw)
    go_split_ands
    go_simp
  (try simp only [Act.put, k1, k2, k3])
  refine mpa 5 rfl (Value.pointer (some ⟨B, 0, none⟩)) (fun w => ?_) ?_
  · go_simp
  (try simp only [Act.put, k1, k2, k3])
  refine mpa 6 rfl (Value.pointer (some ⟨B, 0, none⟩)) (fun w => ?_) ?_
  · go_simp
  (try simp only [Act.put, k1, k2, k3])
  refine mpa 7 rfl (.pointer (some ⟨B, 4, none⟩)) (fun w => ?_) ?_
  · go_simp
  (try simp only [Act.put, k1, k2, k3])
  refine mpa 8 rfl (.pointer (some ⟨B, 5, none⟩)) (fun w => ?_) ?_
  · go_simp
  (try simp only [Act.put, k1, k2, k3])
  refine mpt 9 rfl (.int .i64 (1)) (fun w hSw => ?_) ?_
  · (try dsimp only at hSw)
    go_split_ands
    go_simp
  (try simp only [Act.put, k1, k2, k3])
  refine mpc 10 rfl (by kernel_rfl) (by rfl) (fun K hK => ?_)
  go_simp
  refine hK.out _ _ (.inl (by kernel_rfl)) ?_
  clear hK K
  (try simp only [Act.put, k1, k2, k3])
  refine wpAnyP_done (by kernel_rfl) ?_ _
  clear hHeld
  go_wp2_with fail
  have hc := slip_run B p A cp nv r _ HP1.out HL.out HX.out
  rw [← HT.out] at hc
  refine hc.mono ?_
  rintro e w3 ⟨rfl, hO, nv3, hP⟩
  have HO3 := Lib.hid ((HO1.out.mono (T := TurnB B A) (fun _ _ h => h.elim)).trans hO)
  have HP3 := Lib.hid hP
  clear hO hP hc
  go_wp2
  go_returns
  exact ⟨rfl, HO3.out, nv3, HP3.out⟩
end Go.Proofs.YtocdbeonogfopaaGreat
