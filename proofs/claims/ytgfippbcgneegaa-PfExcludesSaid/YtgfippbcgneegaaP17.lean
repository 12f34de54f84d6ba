import Derived.Test.YtgfippbcgneegaaP13
import Derived.Test.YtgfippbcgneegaaP14
import Derived.Test.YtgfippbcgneegaaP15
import Derived.Test.YtgfippbcgneegaaP16
import Derived.Test.YtgfippbcgneegaaP8
set_option linter.unusedVariables false
set_option linter.unusedSimpArgs false
namespace Go.Proofs.Ytgfippbcgneegaa
open Go.RowKit
set_option maxHeartbeats 1000000 in
theorem lines_3_3 (B : Nat) (p A : Option Addr) (cp : Nat) (nv : Value) (r : LS) (w : World) (h : RunP w B p A cp nv r) (hl : r.ns.length ≤ 900) (hx : Words r.xs) (ha : 0 ≤ r.a ∧ r.a < 4294967296) (hb : 0 ≤ r.b ∧ r.b < 4294967296) (h1 : r.op = 3) (h2 : r.line = 3) :
    Calls Try.prog 27 #[Value.pointer (some ⟨B, 0, none⟩)] w (Done B p A cp w (.tuple #[]) r.pf) := by
  have HT := Lib.hid (show r.pf = r.pAppear 4 by unfold LS.pf; rw [h1, h2]; rfl)
  have H1 := Lib.hid h1
  have H2 := Lib.hid h2
  clear h1 h2
  have HX := Lib.hid hx
  have HL := Lib.hid hl
  have HA := Lib.hid ha
  have HB := Lib.hid hb
  have HP := Lib.hid h
  have c4 : w.cell? ⟨B, 4, none⟩ = some (.int .i64 (3)) := by rw [← H1.out]; exact HP.out.row.cell_ (i := 4) rfl
  have c5 : w.cell? ⟨B, 5, none⟩ = some (.int .i64 (3)) := by rw [← H2.out]; exact HP.out.row.cell_ (i := 5) rfl
  clear h hl hx ha hb
  go_enter Try.func27, Try.ntmps27
  go_upto_region 1 with (fail)
  refine wp_region_phase (n := 11) 10 (fun w => w.cell? ⟨B, 4, none⟩ = some (.int .i64 (3)) ∧ w.cell? ⟨B, 5, none⟩ = some (.int .i64 (3))) rfl (by kernel_rfl) ⟨c4, c5⟩ (fun hHeld => ?_)
  clear c4 c5
  have HP1 := Lib.hid (HP.out.keep (Only.refl Nil w).drew)
  have HO1 := Lib.hid (Only.refl Nil w).drew
  clear HP
  generalize w.drew = w2 at *
  refine mpa 0 rfl (Value.pointer (some ⟨B, 0, none⟩)) (fun w => ?_) ?_
  · go_simp
  (try simp only [Act.put, k1, k2, k3])
  refine mpa 1 rfl (Value.pointer (some ⟨B, 0, none⟩)) (fun w => ?_) ?_
  · go_simp
  (try simp only [Act.put, k1, k2, k3])
  refine mpa 2 rfl (.pointer (some ⟨B, 4, none⟩)) (fun w => ?_) ?_
  · go_simp
  (try simp only [Act.put, k1, k2, k3])
  refine mpa 3 rfl (.pointer (some ⟨B, 4, none⟩)) (fun w => ?_) ?_
  · go_simp
  (try simp only [Act.put, k1, k2, k3])
  refine mpt 4 rfl (.int .i64 (3)) (fun w hSw => ?_) ?_
  · (try dsimp only at hSw)
    go_split_ands
    go_simp
  (try simp only [Act.put, k1, k2, k3])
  refine mpa 5 rfl (Value.pointer (some ⟨B, 0, none⟩)) (fun w => ?_) ?_
  · go_simp
  (try simp only [Act.put, k1, k2, k3])
  refine mpa 6 rfl (Value.pointer (some ⟨B, 0, none⟩)) (fun w => ?_) ?_
  · go_simp
  (try simp only [Act.put, k1, k2, k3])
  refine mpa 7 rfl (.pointer (some ⟨B, 4, none⟩)) (fun w => ?_) ?_
  · go_simp
  (try simp only [Act.put, k1, k2, k3])
  refine mpa 8 rfl (.pointer (some ⟨B, 5, none⟩)) (fun w => ?_) ?_
  · go_simp
  (try simp only [Act.put, k1, k2, k3])
  refine mpt 9 rfl (.int .i64 (3)) (fun w hSw => ?_) ?_
  · (try dsimp only at hSw)
    go_split_ands
    go_simp
  (try simp only [Act.put, k1, k2, k3])
  refine mpc 10 rfl (by kernel_rfl) (by rfl) (fun K hK => ?_)
  go_simp
  refine hK.out _ _ (.inl (by kernel_rfl)) ?_
  clear hK K
  (try simp only [Act.put, k1, k2, k3])
  refine wpAnyP_done (by kernel_rfl) ?_ _
  clear hHeld
  go_wp2_with fail
  have hc := appear_run B p A cp nv r 4 _ HP1.out HL.out HX.out HB.out
  rw [← HT.out] at hc
  refine hc.mono ?_
  rintro e w3 ⟨rfl, hO, nv3, hP⟩
  have HO3 := Lib.hid ((HO1.out.mono (T := TurnB B A) (fun _ _ h => h.elim)).trans hO)
  have HP3 := Lib.hid hP
  clear hO hP hc
  go_wp2
  go_returns
  exact ⟨rfl, HO3.out, nv3, HP3.out⟩
set_option maxHeartbeats 1000000 in
theorem lines_4_3 (B : Nat) (p A : Option Addr) (cp : Nat) (nv : Value) (r : LS) (w : World) (h : RunP w B p A cp nv r) (hl : r.ns.length ≤ 900) (hx : Words r.xs) (ha : 0 ≤ r.a ∧ r.a < 4294967296) (hb : 0 ≤ r.b ∧ r.b < 4294967296) (h1 : r.op = 4) (h2 : r.line = 3) :
    Calls Try.prog 27 #[Value.pointer (some ⟨B, 0, none⟩)] w (Done B p A cp w (.tuple #[]) r.pf) := by
  have HT := Lib.hid (show r.pf = r.pPass true by unfold LS.pf; rw [h1, h2]; rfl)
  have H1 := Lib.hid h1
  have H2 := Lib.hid h2
  clear h1 h2
  have HX := Lib.hid hx
  have HL := Lib.hid hl
  have HA := Lib.hid ha
  have HB := Lib.hid hb
  have HP := Lib.hid h
  have c4 : w.cell? ⟨B, 4, none⟩ = some (.int .i64 (4)) := by rw [← H1.out]; exact HP.out.row.cell_ (i := 4) rfl
  have c5 : w.cell? ⟨B, 5, none⟩ = some (.int .i64 (3)) := by rw [← H2.out]; exact HP.out.row.cell_ (i := 5) rfl
  clear h hl hx ha hb
  go_enter Try.func27, Try.ntmps27
  go_upto_region 1 with (fail)
  refine wp_region_phase (n := 11) 10 (fun w => w.cell? ⟨B, 4, none⟩ = some (.int .i64 (4)) ∧ w.cell? ⟨B, 5, none⟩ = some (.int .i64 (3))) rfl (by kernel_rfl) ⟨c4, c5⟩ (fun hHeld => ?_)
  clear c4 c5
  have HP1 := Lib.hid (HP.out.keep (Only.refl Nil w).drew)
  have HO1 := Lib.hid (Only.refl Nil w).drew
  clear HP
  generalize w.drew = w2 at *
  refine mpa 0 rfl (Value.pointer (some ⟨B, 0, none⟩)) (fun w => ?_) ?_
  · go_simp
  (try simp only [Act.put, k1, k2, k3])
  refine mpa 1 rfl (Value.pointer (some ⟨B, 0, none⟩)) (fun w => ?_) ?_
  · go_simp
  (try simp only [Act.put, k1, k2, k3])
  refine mpa 2 rfl (.pointer (some ⟨B, 4, none⟩)) (fun w => ?_) ?_
  · go_simp
  (try simp only [Act.put, k1, k2, k3])
  refine mpa 3 rfl (.pointer (some ⟨B, 4, none⟩)) (fun w => ?_) ?_
  · go_simp
  (try simp only [Act.put, k1, k2, k3])
  refine mpt 4 rfl (.int .i64 (4)) (fun w hSw => ?_) ?_
  · (try dsimp only at hSw)
    go_split_ands
    go_simp
  (try simp only [Act.put, k1, k2, k3])
  refine mpa 5 rfl (Value.pointer (some ⟨B, 0, none⟩)) (fun w => ?_) ?_
  · go_simp
  (try simp only [Act.put, k1, k2, k3])
  refine mpa 6 rfl (Value.pointer (some ⟨B, 0, none⟩)) (fun w => ?_) ?_
  · go_simp
  (try simp only [Act.put, k1, k2, k3])
  refine mpa 7 rfl (.pointer (some ⟨B, 4, none⟩)) (fun w => ?_) ?_
  · go_simp
  (try simp only [Act.put, k1, k2, k3])
  refine mpa 8 rfl (.pointer (some ⟨B, 5, none⟩)) (fun w => ?_) ?_
  · go_simp
  (try simp only [Act.put, k1, k2, k3])
  refine mpt 9 rfl (.int .i64 (3)) (fun w hSw => ?_) ?_
  · (try dsimp only at hSw)
    go_split_ands
    go_simp
  (try simp only [Act.put, k1, k2, k3])
  refine mpc 10 rfl (by kernel_rfl) (by rfl) (fun K hK => ?_)
  go_simp
  refine hK.out _ _ (.inl (by kernel_rfl)) ?_
  clear hK K
  (try simp only [Act.put, k1, k2, k3])
  refine wpAnyP_done (by kernel_rfl) ?_ _
  clear hHeld
  go_wp2_with fail
  have hc := pass_run B p A cp nv r true _ HP1.out HL.out HX.out
  rw [← HT.out] at hc
  refine hc.mono ?_
  rintro e w3 ⟨rfl, hO, nv3, hP⟩
  have HO3 := Lib.hid ((HO1.out.mono (T := TurnB B A) (fun _ _ h => h.elim)).trans hO)
  have HP3 := Lib.hid hP
  clear hO hP hc
  go_wp2
  go_returns
  exact ⟨rfl, HO3.out, nv3, HP3.out⟩
set_option maxHeartbeats 1000000 in
theorem tries_6_4 (B : Nat) (p A : Option Addr) (cp : Nat) (nv : Value) (r : LS) (w : World) (h : RunP w B p A cp nv r) (hl : r.ns.length ≤ 900) (hx : Words r.xs) (ha : 0 ≤ r.a ∧ r.a < 4294967296) (hb : 0 ≤ r.b ∧ r.b < 4294967296) (h1 : r.op = 6) (h2 : r.line = 4) :
    Calls Try.prog 55 #[Value.pointer (some ⟨B, 0, none⟩)] w (Done B p A cp w (.tuple #[]) r.pf) := by
  have HT := Lib.hid (show r.pf = r.pWeighR 0 by unfold LS.pf; rw [h1, h2]; rfl)
  have H1 := Lib.hid h1
  have H2 := Lib.hid h2
  clear h1 h2
  have HX := Lib.hid hx
  have HL := Lib.hid hl
  have HA := Lib.hid ha
  have HB := Lib.hid hb
  have HP := Lib.hid h
  have c4 : w.cell? ⟨B, 4, none⟩ = some (.int .i64 (6)) := by rw [← H1.out]; exact HP.out.row.cell_ (i := 4) rfl
  have c5 : w.cell? ⟨B, 5, none⟩ = some (.int .i64 (4)) := by rw [← H2.out]; exact HP.out.row.cell_ (i := 5) rfl
  clear h hl hx ha hb
  go_enter Try.func55, Try.ntmps55
  go_upto_region 0 with (fail)
  refine wp_region_phase (n := 11) 10 (fun w => w.cell? ⟨B, 4, none⟩ = some (.int .i64 (6)) ∧ w.cell? ⟨B, 5, none⟩ = some (.int .i64 (4))) rfl (by kernel_rfl) ⟨c4, c5⟩ (fun hHeld => ?_)
  clear c4 c5
  have HP1 := Lib.hid (HP.out.keep (Only.refl Nil w).drew)
  have HO1 := Lib.hid (Only.refl Nil w).drew
  clear HP
  generalize w.drew = w2 at *
  refine mpa 0 rfl (Value.pointer (some ⟨B, 0, none⟩)) (fun w => ?_) ?_
  · go_simp
  (try simp only [Act.put, k1, k2, k3])
  refine mpa 1 rfl (Value.pointer (some ⟨B, 0, none⟩)) (fun w => ?_) ?_
  · go_simp
  (try simp only [Act.put, k1, k2, k3])
  refine mpa 2 rfl (.pointer (some ⟨B, 4, none⟩)) (fun w => ?_) ?_
  · go_simp
  (try simp only [Act.put, k1, k2, k3])
  refine mpa 3 rfl (.pointer (some ⟨B, 4, none⟩)) (fun w => ?_) ?_
  · go_simp
  (try simp only [Act.put, k1, k2, k3])
  refine mpt 4 rfl (.int .i64 (6)) (fun w hSw => ?_) ?_
  · (try dsimp only at hSw)
    go_split_ands
    go_simp
  (try simp only [Act.put, k1, k2, k3])
  refine mpa 5 rfl (Value.pointer (some ⟨B, 0, none⟩)) (fun w => ?_) ?_
  · go_simp
  (try simp only [Act.put, k1, k2, k3])
  refine mpa 6 rfl (Value.pointer (some ⟨B, 0, none⟩)) (fun w => ?_) ?_
  · go_simp
  (try simp only [Act.put, k1, k2, k3])
  refine mpa 7 rfl (.pointer (some ⟨B, 4, none⟩)) (fun w => ?_) ?_
  · go_simp
  (try simp only [Act.put, k1, k2, k3])
  refine mpa 8 rfl (.pointer (some ⟨B, 5, none⟩)) (fun w => ?_) ?_
  · go_simp
  (try simp only [Act.put, k1, k2, k3])
  refine mpt 9 rfl (.int .i64 (4)) (fun w hSw => ?_) ?_
  · (try dsimp only at hSw)
    go_split_ands
    go_simp
  (try simp only [Act.put, k1, k2, k3])
  refine mpc 10 rfl (by kernel_rfl) (by rfl) (fun K hK => ?_)
  go_simp
  refine hK.out _ _ (.inl (by kernel_rfl)) ?_
  clear hK K
  (try simp only [Act.put, k1, k2, k3])
  refine wpAnyP_done (by kernel_rfl) ?_ _
  clear hHeld
  go_wp2_with fail
  have hc := weighR_run B p A cp nv r 0 _ HP1.out HL.out HX.out
  rw [← HT.out] at hc
  refine hc.mono ?_
  rintro e w3 ⟨rfl, hO, nv3, hP⟩
  have HO3 := Lib.hid ((HO1.out.mono (T := TurnB B A) (fun _ _ h => h.elim)).trans hO)
  have HP3 := Lib.hid hP
  clear hO hP hc
  go_wp2
  go_returns
  exact ⟨rfl, HO3.out, nv3, HP3.out⟩
set_option maxHeartbeats 1000000 in
theorem tries_7_3 (B : Nat) (p A : Option Addr) (cp : Nat) (nv : Value) (r : LS) (w : World) (h : RunP w B p A cp nv r) (hl : r.ns.length ≤ 900) (hx : Words r.xs) (ha : 0 ≤ r.a ∧ r.a < 4294967296) (hb : 0 ≤ r.b ∧ r.b < 4294967296) (h1 : r.op = 7) (h2 : r.line = 3) :
    Calls Try.prog 55 #[Value.pointer (some ⟨B, 0, none⟩)] w (Done B p A cp w (.tuple #[]) r.pf) := by
  have HT := Lib.hid (show r.pf = r.pLook 0 4 by unfold LS.pf; rw [h1, h2]; rfl)
  have H1 := Lib.hid h1
  have H2 := Lib.hid h2
  clear h1 h2
  have HX := Lib.hid hx
  have HL := Lib.hid hl
  have HA := Lib.hid ha
  have HB := Lib.hid hb
  have HP := Lib.hid h
  have c4 : w.cell? ⟨B, 4, none⟩ = some (.int .i64 (7)) := by rw [← H1.out]; exact HP.out.row.cell_ (i := 4) rfl
  have c5 : w.cell? ⟨B, 5, none⟩ = some (.int .i64 (3)) := by rw [← H2.out]; exact HP.out.row.cell_ (i := 5) rfl
  clear h hl hx ha hb
  go_enter Try.func55, Try.ntmps55
  go_upto_region 0 with (fail)
  refine wp_region_phase (n := 11) 10 (fun w => w.cell? ⟨B, 4, none⟩ = some (.int .i64 (7)) ∧ w.cell? ⟨B, 5, none⟩ = some (.int .i64 (3))) rfl (by kernel_rfl) ⟨c4, c5⟩ (fun hHeld => ?_)
  clear c4 c5
  have HP1 := Lib.hid (HP.out.keep (Only.refl Nil w).drew)
  have HO1 := Lib.hid (Only.refl Nil w).drew
  clear HP
  generalize w.drew = w2 at *
  refine mpa 0 rfl (Value.pointer (some ⟨B, 0, none⟩)) (fun w => ?_) ?_
  · go_simp
  (try simp only [Act.put, k1, k2, k3])
  refine mpa 1 rfl (Value.pointer (some ⟨B, 0, none⟩)) (fun w => ?_) ?_
  · go_simp
  (try simp only [Act.put, k1, k2, k3])
  refine mpa 2 rfl (.pointer (some ⟨B, 4, none⟩)) (fun w => ?_) ?_
  · go_simp
  (try simp only [Act.put, k1, k2, k3])
  refine mpa 3 rfl (.pointer (some ⟨B, 4, none⟩)) (fun w => ?_) ?_
  · go_simp
  (try simp only [Act.put, k1, k2, k3])
  refine mpt 4 rfl (.int .i64 (7)) (fun w hSw => ?_) ?_
  · (try dsimp only at hSw)
    go_split_ands
    go_simp
  (try simp only [Act.put, k1, k2, k3])
  refine mpa 5 rfl (Value.pointer (some ⟨B, 0, none⟩)) (fun w => ?_) ?_
  · go_simp
  (try simp only [Act.put, k1, k2, k3])
  refine mpa 6 rfl (Value.pointer (some ⟨B, 0, none⟩)) (fun w => ?_) ?_
  · go_simp
  (try simp only [Act.put, k1, k2, k3])
  refine mpa 7 rfl (.pointer (some ⟨B, 4, none⟩)) (fun w => ?_) ?_
  · go_simp
  (try simp only [Act.put, k1, k2, k3])
  refine mpa 8 rfl (.pointer (some ⟨B, 5, none⟩)) (fun w => ?_) ?_
  · go_simp
  (try simp only [Act.put, k1, k2, k3])
  refine mpt 9 rfl (.int .i64 (3)) (fun w hSw => ?_) ?_
  · (try dsimp only at hSw)
    go_split_ands
    go_simp
  (try simp only [Act.put, k1, k2, k3])
  refine mpc 10 rfl (by kernel_rfl) (by rfl) (fun K hK => ?_)
  go_simp
  refine hK.out _ _ (.inl (by kernel_rfl)) ?_
  clear hK K
  (try simp only [Act.put, k1, k2, k3])
  refine wpAnyP_done (by kernel_rfl) ?_ _
  clear hHeld
  go_wp2_with fail
  have hc := look_run B p A cp nv r 0 4 _ HP1.out HL.out HX.out
  rw [← HT.out] at hc
  refine hc.mono ?_
  rintro e w3 ⟨rfl, hO, nv3, hP⟩
  have HO3 := Lib.hid ((HO1.out.mono (T := TurnB B A) (fun _ _ h => h.elim)).trans hO)
  have HP3 := Lib.hid hP
  clear hO hP hc
  go_wp2
  go_returns
  exact ⟨rfl, HO3.out, nv3, HP3.out⟩
set_option maxHeartbeats 1000000 in
theorem tries_no7 (B : Nat) (p A : Option Addr) (cp : Nat) (nv : Value) (r : LS) (w : World) (h : RunP w B p A cp nv r) (hl : r.ns.length ≤ 900) (hx : Words r.xs) (ha : 0 ≤ r.a ∧ r.a < 4294967296) (hb : 0 ≤ r.b ∧ r.b < 4294967296)  (h1 : r.op = 7) (n0 : ¬ r.line = 0) (n1 : ¬ r.line = 1) (n2 : ¬ r.line = 2) (n3 : ¬ r.line = 3) (n4 : ¬ r.line = 4) (n5 : ¬ r.line = 5) (n6 : ¬ r.line = 6) (n7 : ¬ r.line = 7) (n8 : ¬ r.line = 8) (n9 : ¬ r.line = 9) (hr : r.pf = r) : Calls Try.prog 55 #[Value.pointer (some ⟨B, 0, none⟩)] w (Done B p A cp w (.tuple #[]) r.pf) := by
  rw [hr]
  clear hr
  obtain ⟨ln, H2⟩ : ∃ ln, Hid (r.line = ln) := ⟨_, Lib.hid rfl⟩
  have H1 := Lib.hid h1; clear h1; rw [H2.out] at n0 n1 n2 n3 n4 n5 n6 n7 n8 n9
  have HX := Lib.hid hx
  have HL := Lib.hid hl
  have HA := Lib.hid ha
  have HB := Lib.hid hb
  have HP := Lib.hid h
  have c4 : w.cell? ⟨B, 4, none⟩ = some (.int .i64 (7)) := by rw [← H1.out]; exact HP.out.row.cell_ (i := 4) rfl
  have c5 : w.cell? ⟨B, 5, none⟩ = some (.int .i64 (ln)) := by rw [← H2.out]; exact HP.out.row.cell_ (i := 5) rfl
  clear h hl hx ha hb
  go_enter Try.func55, Try.ntmps55
  go_upto_region 0 with (fail)
  refine wp_region_phase (n := 11) 10 (fun w => w.cell? ⟨B, 4, none⟩ = some (.int .i64 (7)) ∧ w.cell? ⟨B, 5, none⟩ = some (.int .i64 (ln))) rfl (by kernel_rfl) ⟨c4, c5⟩ (fun hHeld => ?_)
  clear c4 c5
  have HP1 := Lib.hid (HP.out.keep (Only.refl Nil w).drew)
  have HO1 := Lib.hid (Only.refl Nil w).drew
  clear HP
  generalize w.drew = w2 at *
  refine mpa 0 rfl (Value.pointer (some ⟨B, 0, none⟩)) (fun w => ?_) ?_
  · go_simp
  (try simp only [Act.put, k1, k2, k3])
  refine mpa 1 rfl (Value.pointer (some ⟨B, 0, none⟩)) (fun w => ?_) ?_
  · go_simp
  (try simp only [Act.put, k1, k2, k3])
  refine mpa 2 rfl (.pointer (some ⟨B, 4, none⟩)) (fun w => ?_) ?_
  · go_simp
  (try simp only [Act.put, k1, k2, k3])
  refine mpa 3 rfl (.pointer (some ⟨B, 4, none⟩)) (fun w => ?_) ?_
  · go_simp
  (try simp only [Act.put, k1, k2, k3])
  refine mpt 4 rfl (.int .i64 (7)) (fun w hSw => ?_) ?_
  · (try dsimp only at hSw)
    go_split_ands
    go_simp
  (try simp only [Act.put, k1, k2, k3])
  refine mpa 5 rfl (Value.pointer (some ⟨B, 0, none⟩)) (fun w => ?_) ?_
  · go_simp
  (try simp only [Act.put, k1, k2, k3])
  refine mpa 6 rfl (Value.pointer (some ⟨B, 0, none⟩)) (fun w => ?_) ?_
  · go_simp
  (try simp only [Act.put, k1, k2, k3])
  refine mpa 7 rfl (.pointer (some ⟨B, 4, none⟩)) (fun w => ?_) ?_
  · go_simp
  (try simp only [Act.put, k1, k2, k3])
  refine mpa 8 rfl (.pointer (some ⟨B, 5, none⟩)) (fun w => ?_) ?_
  · go_simp
  (try simp only [Act.put, k1, k2, k3])
  refine mpt 9 rfl (.int .i64 (ln)) (fun w hSw => ?_) ?_
  · (try dsimp only at hSw)
    go_split_ands
    go_simp
  (try simp only [Act.put, k1, k2, k3])
  refine mpc 10 rfl (by kernel_rfl) (by rfl) (fun K hK => ?_)
  go_simp
  refine hK.out _ _ (.inl (by kernel_rfl)) ?_
  clear hK K
  (try simp only [Act.put, k1, k2, k3])
  refine wpAnyP_done (by kernel_rfl) ?_ _
  clear hHeld
  go_wp2
  go_returns
  exact ⟨rfl, HO1.out.mono (fun _ _ h => h.elim), nv, HP1.out⟩
set_option maxHeartbeats 1000000 in
theorem lines_no (B : Nat) (p A : Option Addr) (cp : Nat) (nv : Value) (r : LS) (w : World) (h : RunP w B p A cp nv r) (hl : r.ns.length ≤ 900) (hx : Words r.xs) (ha : 0 ≤ r.a ∧ r.a < 4294967296) (hb : 0 ≤ r.b ∧ r.b < 4294967296) (o1 : ¬ r.op = 1) (o2 : ¬ r.op = 2) (o3 : ¬ r.op = 3) (o4 : ¬ r.op = 4) (o5 : ¬ r.op = 5) (o8 : ¬ r.op = 8) (ht : ∀ w', RunP w' B p A cp nv r → Calls Try.prog 55 #[Value.pointer (some ⟨B, 0, none⟩)] w' (Done B p A cp w' (.tuple #[]) r.pf)) : Calls Try.prog 27 #[Value.pointer (some ⟨B, 0, none⟩)] w (Done B p A cp w (.tuple #[]) r.pf) := by
  have HT := Lib.hid ht
  clear ht
  obtain ⟨ln, H2⟩ : ∃ ln, Hid (r.line = ln) := ⟨_, Lib.hid rfl⟩
  obtain ⟨ol, H1⟩ : ∃ ol, Hid (r.op = ol) := ⟨_, Lib.hid rfl⟩; rw [H1.out] at o1 o2 o3 o4 o5 o8
  have HX := Lib.hid hx
  have HL := Lib.hid hl
  have HA := Lib.hid ha
  have HB := Lib.hid hb
  have HP := Lib.hid h
  have c4 : w.cell? ⟨B, 4, none⟩ = some (.int .i64 (ol)) := by rw [← H1.out]; exact HP.out.row.cell_ (i := 4) rfl
  have c5 : w.cell? ⟨B, 5, none⟩ = some (.int .i64 (ln)) := by rw [← H2.out]; exact HP.out.row.cell_ (i := 5) rfl
  clear h hl hx ha hb
  go_enter Try.func27, Try.ntmps27
  go_upto_region 1 with (fail)
  refine wp_region_phase (n := 11) 10 (fun w => w.cell? ⟨B, 4, none⟩ = some (.int .i64 (ol)) ∧ w.cell? ⟨B, 5, none⟩ = some (.int .i64 (ln))) rfl (by kernel_rfl) ⟨c4, c5⟩ (fun hHeld => ?_)
  clear c4 c5
  have HP1 := Lib.hid (HP.out.keep (Only.refl Nil w).drew)
  have HO1 := Lib.hid (Only.refl Nil w).drew
  clear HP
  generalize w.drew = w2 at *
  refine mpa 0 rfl (Value.pointer (some ⟨B, 0, none⟩)) (fun w => ?_) ?_
  · go_simp
  (try simp only [Act.put, k1, k2, k3])
  refine mpa 1 rfl (Value.pointer (some ⟨B, 0, none⟩)) (fun w => ?_) ?_
  · go_simp
  (try simp only [Act.put, k1, k2, k3])
  refine mpa 2 rfl (.pointer (some ⟨B, 4, none⟩)) (fun w => ?_) ?_
  · go_simp
  (try simp only [Act.put, k1, k2, k3])
  refine mpa 3 rfl (.pointer (some ⟨B, 4, none⟩)) (fun w => ?_) ?_
  · go_simp
  (try simp only [Act.put, k1, k2, k3])
  refine mpt 4 rfl (.int .i64 (ol)) (fun w hSw => ?_) ?_
  · (try dsimp only at hSw)
    go_split_ands
    go_simp
  (try simp only [Act.put, k1, k2, k3])
  refine mpa 5 rfl (Value.pointer (some ⟨B, 0, none⟩)) (fun w => ?_) ?_
  · go_simp
  (try simp only [Act.put, k1, k2, k3])
  refine mpa 6 rfl (Value.pointer (some ⟨B, 0, none⟩)) (fun w => ?_) ?_
  · go_simp
  (try simp only [Act.put, k1, k2, k3])
  refine mpa 7 rfl (.pointer (some ⟨B, 4, none⟩)) (fun w => ?_) ?_
  · go_simp
  (try simp only [Act.put, k1, k2, k3])
  refine mpa 8 rfl (.pointer (some ⟨B, 5, none⟩)) (fun w => ?_) ?_
  · go_simp
  (try simp only [Act.put, k1, k2, k3])
  refine mpt 9 rfl (.int .i64 (ln)) (fun w hSw => ?_) ?_
  · (try dsimp only at hSw)
    go_split_ands
    go_simp
  (try simp only [Act.put, k1, k2, k3])
  refine mpc 10 rfl (by kernel_rfl) (by rfl) (fun K hK => ?_)
  go_simp
  refine hK.out _ _ (.inl (by kernel_rfl)) ?_
  clear hK K
  (try simp only [Act.put, k1, k2, k3])
  refine wpAnyP_done (by kernel_rfl) ?_ _
  clear hHeld
  go_wp2_with fail
  refine (HT.out _ HP1.out).mono ?_
  rintro e w3 ⟨rfl, hO, nv3, hP⟩
  have HO3 := Lib.hid ((HO1.out.mono (T := TurnB B A) (fun _ _ h => h.elim)).trans hO)
  have HP3 := Lib.hid hP
  clear hO hP HT
  go_wp2
  go_returns
  exact ⟨rfl, HO3.out, nv3, HP3.out⟩
end Go.Proofs.Ytgfippbcgneegaa
set_option linter.unusedVariables false
set_option linter.unusedSimpArgs false
namespace Go.Proofs.Ytgfippbcgneegaa
open Go.RowKit
set_option maxHeartbeats 1000000 in
theorem lines_3_4 (B : Nat) (p A : Option Addr) (cp : Nat) (nv : Value) (r : LS) (w : World) (h : RunP w B p A cp nv r) (hl : r.ns.length ≤ 900) (hx : Words r.xs) (ha : 0 ≤ r.a ∧ r.a < 4294967296) (hb : 0 ≤ r.b ∧ r.b < 4294967296) (h1 : r.op = 3) (h2 : r.line = 4) :
    Calls Try.prog 27 #[Value.pointer (some ⟨B, 0, none⟩)] w (Done B p A cp w (.tuple #[]) r.pf) := by
  have HT := Lib.hid (show r.pf = r.pAdmit 1 r.mine by unfold LS.pf; rw [h1, h2]; rfl)
  have H1 := Lib.hid h1
  have H2 := Lib.hid h2
  clear h1 h2
  have HX := Lib.hid hx
  have HL := Lib.hid hl
  have HA := Lib.hid ha
  have HB := Lib.hid hb
  have HP := Lib.hid h
  have c4 : w.cell? ⟨B, 4, none⟩ = some (.int .i64 (3)) := by rw [← H1.out]; exact HP.out.row.cell_ (i := 4) rfl
  have c5 : w.cell? ⟨B, 5, none⟩ = some (.int .i64 (4)) := by rw [← H2.out]; exact HP.out.row.cell_ (i := 5) rfl
  clear h hl hx ha hb
  go_enter Try.func27, Try.ntmps27
  go_upto_region 1 with (fail)
  refine wp_region_phase (n := 11) 10 (fun w => w.cell? ⟨B, 4, none⟩ = some (.int .i64 (3)) ∧ w.cell? ⟨B, 5, none⟩ = some (.int .i64 (4))) rfl (by kernel_rfl) ⟨c4, c5⟩ (fun hHeld => ?_)
  clear c4 c5
  have HP1 := Lib.hid (HP.out.keep (Only.refl Nil w).drew)
  have HO1 := Lib.hid (Only.refl Nil w).drew
  clear HP
  generalize w.drew = w2 at *
  refine mpa 0 rfl (Value.pointer (some ⟨B, 0, none⟩)) (fun w => ?_) ?_
  · go_simp
  (try simp only [Act.put, k1, k2, k3])
  refine mpa 1 rfl (Value.pointer (some ⟨B, 0, none⟩)) (fun w => ?_) ?_
  · go_simp
  (try simp only [Act.put, k1, k2, k3])
  refine mpa 2 rfl (.pointer (some ⟨B, 4, none⟩)) (fun w => ?_) ?_
  · go_simp
  (try simp only [Act.put, k1, k2, k3])
  refine mpa 3 rfl (.pointer (some ⟨B, 4, none⟩)) (fun w => ?_) ?_
  · go_simp
  (try simp only [Act.put, k1, k2, k3])
  refine mpt 4 rfl (.int .i64 (3)) (fun w hSw => ?_) ?_
  · (try dsimp only at hSw)
    go_split_ands
    go_simp
  (try simp only [Act.put, k1, k2, k3])
  refine mpa 5 rfl (Value.pointer (some ⟨B, 0, none⟩)) (fun w => ?_) ?_
  · go_simp
  (try simp only [Act.put, k1, k2, k3])
  refine mpa 6 rfl (Value.pointer (some ⟨B, 0, none⟩)) (fun w => ?_) ?_
  · go_simp
  (try simp only [Act.put, k1, k2, k3])
  refine mpa 7 rfl (.pointer (some ⟨B, 4, none⟩)) (fun w => ?_) ?_
  · go_simp
  (try simp only [Act.put, k1, k2, k3])
  refine mpa 8 rfl (.pointer (some ⟨B, 5, none⟩)) (fun w => ?_) ?_
  · go_simp
  (try simp only [Act.put, k1, k2, k3])
  refine mpt 9 rfl (.int .i64 (4)) (fun w hSw => ?_) ?_
  · (try dsimp only at hSw)
    go_split_ands
    go_simp
  (try simp only [Act.put, k1, k2, k3])
  refine mpc 10 rfl (by kernel_rfl) (by rfl) (fun K hK => ?_)
  go_simp
  refine hK.out _ _ (.inl (by kernel_rfl)) ?_
  clear hK K
  (try simp only [Act.put, k1, k2, k3])
  refine wpAnyP_done (by kernel_rfl) ?_ _
  clear hHeld
  go_wp2_with fail
  have hc := readers_run B p A cp nv r _ HP1.out HL.out HX.out
  rw [← HT.out] at hc
  refine hc.mono ?_
  rintro e w3 ⟨rfl, hO, nv3, hP⟩
  have HO3 := Lib.hid ((HO1.out.mono (T := TurnB B A) (fun _ _ h => h.elim)).trans hO)
  have HP3 := Lib.hid hP
  clear hO hP hc
  go_wp2
  go_returns
  exact ⟨rfl, HO3.out, nv3, HP3.out⟩
set_option maxHeartbeats 1000000 in
theorem lines_8_3 (B : Nat) (p A : Option Addr) (cp : Nat) (nv : Value) (r : LS) (w : World) (h : RunP w B p A cp nv r) (hl : r.ns.length ≤ 900) (hx : Words r.xs) (ha : 0 ≤ r.a ∧ r.a < 4294967296) (hb : 0 ≤ r.b ∧ r.b < 4294967296) (h1 : r.op = 8) (h2 : r.line = 3) :
    Calls Try.prog 27 #[Value.pointer (some ⟨B, 0, none⟩)] w (Done B p A cp w (.tuple #[]) r.pf) := by
  have HT := Lib.hid (show r.pf = r.pPass true by unfold LS.pf; rw [h1, h2]; rfl)
  have H1 := Lib.hid h1
  have H2 := Lib.hid h2
  clear h1 h2
  have HX := Lib.hid hx
  have HL := Lib.hid hl
  have HA := Lib.hid ha
  have HB := Lib.hid hb
  have HP := Lib.hid h
  have c4 : w.cell? ⟨B, 4, none⟩ = some (.int .i64 (8)) := by rw [← H1.out]; exact HP.out.row.cell_ (i := 4) rfl
  have c5 : w.cell? ⟨B, 5, none⟩ = some (.int .i64 (3)) := by rw [← H2.out]; exact HP.out.row.cell_ (i := 5) rfl
  clear h hl hx ha hb
  go_enter Try.func27, Try.ntmps27
  go_upto_region 1 with (fail)
  refine wp_region_phase (n := 11) 10 (fun w => w.cell? ⟨B, 4, none⟩ = some (.int .i64 (8)) ∧ w.cell? ⟨B, 5, none⟩ = some (.int .i64 (3))) rfl (by kernel_rfl) ⟨c4, c5⟩ (fun hHeld => ?_)
  clear c4 c5
  have HP1 := Lib.hid (HP.out.keep (Only.refl Nil w).drew)
  have HO1 := Lib.hid (Only.refl Nil w).drew
  clear HP
  generalize w.drew = w2 at *
  refine mpa 0 rfl (Value.pointer (some ⟨B, 0, none⟩)) (fun w => ?_) ?_
  · go_simp
  (try simp only [Act.put, k1, k2, k3])
  refine mpa 1 rfl (Value.pointer (some ⟨B, 0, none⟩)) (fun w => ?_) ?_
  · go_simp
  (try simp only [Act.put, k1, k2, k3])
  refine mpa 2 rfl (.pointer (some ⟨B, 4, none⟩)) (fun w => ?_) ?_
  · go_simp
  (try simp only [Act.put, k1, k2, k3])
  refine mpa 3 rfl (.pointer (some ⟨B, 4, none⟩)) (fun w => ?_) ?_
  · go_simp
  (try simp only [Act.put, k1, k2, k3])
  refine mpt 4 rfl (.int .i64 (8)) (fun w hSw => ?_) ?_
  · (try dsimp only at hSw)
    go_split_ands
    go_simp
  (try simp only [Act.put, k1, k2, k3])
  refine mpa 5 rfl (Value.pointer (some ⟨B, 0, none⟩)) (fun w => ?_) ?_
  · go_simp
  (try simp only [Act.put, k1, k2, k3])
  refine mpa 6 rfl (Value.pointer (some ⟨B, 0, none⟩)) (fun w => ?_) ?_
  · go_simp
  (try simp only [Act.put, k1, k2, k3])
  refine mpa 7 rfl (.pointer (some ⟨B, 4, none⟩)) (fun w => ?_) ?_
  · go_simp
  (try simp only [Act.put, k1, k2, k3])
  refine mpa 8 rfl (.pointer (some ⟨B, 5, none⟩)) (fun w => ?_) ?_
  · go_simp
  (try simp only [Act.put, k1, k2, k3])
  refine mpt 9 rfl (.int .i64 (3)) (fun w hSw => ?_) ?_
  · (try dsimp only at hSw)
    go_split_ands
    go_simp
  (try simp only [Act.put, k1, k2, k3])
  refine mpc 10 rfl (by kernel_rfl) (by rfl) (fun K hK => ?_)
  go_simp
  refine hK.out _ _ (.inl (by kernel_rfl)) ?_
  clear hK K
  (try simp only [Act.put, k1, k2, k3])
  refine wpAnyP_done (by kernel_rfl) ?_ _
  clear hHeld
  go_wp2_with fail
  have hc := pass_run B p A cp nv r true _ HP1.out HL.out HX.out
  rw [← HT.out] at hc
  refine hc.mono ?_
  rintro e w3 ⟨rfl, hO, nv3, hP⟩
  have HO3 := Lib.hid ((HO1.out.mono (T := TurnB B A) (fun _ _ h => h.elim)).trans hO)
  have HP3 := Lib.hid hP
  clear hO hP hc
  go_wp2
  go_returns
  exact ⟨rfl, HO3.out, nv3, HP3.out⟩
set_option maxHeartbeats 1000000 in
theorem tries_6_5 (B : Nat) (p A : Option Addr) (cp : Nat) (nv : Value) (r : LS) (w : World) (h : RunP w B p A cp nv r) (hl : r.ns.length ≤ 900) (hx : Words r.xs) (ha : 0 ≤ r.a ∧ r.a < 4294967296) (hb : 0 ≤ r.b ∧ r.b < 4294967296) (h1 : r.op = 6) (h2 : r.line = 5) :
    Calls Try.prog 55 #[Value.pointer (some ⟨B, 0, none⟩)] w (Done B p A cp w (.tuple #[]) r.pf) := by
  have HT := Lib.hid (show r.pf = r.pKeep 6 by unfold LS.pf; rw [h1, h2]; rfl)
  have H1 := Lib.hid h1
  have H2 := Lib.hid h2
  clear h1 h2
  have HX := Lib.hid hx
  have HL := Lib.hid hl
  have HA := Lib.hid ha
  have HB := Lib.hid hb
  have HP := Lib.hid h
  have c4 : w.cell? ⟨B, 4, none⟩ = some (.int .i64 (6)) := by rw [← H1.out]; exact HP.out.row.cell_ (i := 4) rfl
  have c5 : w.cell? ⟨B, 5, none⟩ = some (.int .i64 (5)) := by rw [← H2.out]; exact HP.out.row.cell_ (i := 5) rfl
  clear h hl hx ha hb
  go_enter Try.func55, Try.ntmps55
  go_upto_region 0 with (fail)
  refine wp_region_phase (n := 11) 10 (fun w => w.cell? ⟨B, 4, none⟩ = some (.int .i64 (6)) ∧ w.cell? ⟨B, 5, none⟩ = some (.int .i64 (5))) rfl (by kernel_rfl) ⟨c4, c5⟩ (fun hHeld => ?_)
  clear c4 c5
  have HP1 := Lib.hid (HP.out.keep (Only.refl Nil w).drew)
  have HO1 := Lib.hid (Only.refl Nil w).drew
  clear HP
  generalize w.drew = w2 at *
  refine mpa 0 rfl (Value.pointer (some ⟨B, 0, none⟩)) (fun w => ?_) ?_
  · go_simp
  (try simp only [Act.put, k1, k2, k3])
  refine mpa 1 rfl (Value.pointer (some ⟨B, 0, none⟩)) (fun w => ?_) ?_
  · go_simp
  (try simp only [Act.put, k1, k2, k3])
  refine mpa 2 rfl (.pointer (some ⟨B, 4, none⟩)) (fun w => ?_) ?_
  · go_simp
  (try simp only [Act.put, k1, k2, k3])
  refine mpa 3 rfl (.pointer (some ⟨B, 4, none⟩)) (fun w => ?_) ?_
  · go_simp
  (try simp only [Act.put, k1, k2, k3])
  refine mpt 4 rfl (.int .i64 (6)) (fun w hSw => ?_) ?_
  · (try dsimp only at hSw)
    go_split_ands
    go_simp
  (try simp only [Act.put, k1, k2, k3])
  refine mpa 5 rfl (Value.pointer (some ⟨B, 0, none⟩)) (fun w => ?_) ?_
  · go_simp
  (try simp only [Act.put, k1, k2, k3])
  refine mpa 6 rfl (Value.pointer (some ⟨B, 0, none⟩)) (fun w => ?_) ?_
  · go_simp
  (try simp only [Act.put, k1, k2, k3])
  refine mpa 7 rfl (.pointer (some ⟨B, 4, none⟩)) (fun w => ?_) ?_
  · go_simp
  (try simp only [Act.put, k1, k2, k3])
  refine mpa 8 rfl (.pointer (some ⟨B, 5, none⟩)) (fun w => ?_) ?_
  · go_simp
  (try simp only [Act.put, k1, k2, k3])
  refine mpt 9 rfl (.int .i64 (5)) (fun w hSw => ?_) ?_
  · (try dsimp only at hSw)
    go_split_ands
    go_simp
  (try simp only [Act.put, k1, k2, k3])
  refine mpc 10 rfl (by kernel_rfl) (by rfl) (fun K hK => ?_)
  go_simp
  refine hK.out _ _ (.inl (by kernel_rfl)) ?_
  clear hK K
  (try simp only [Act.put, k1, k2, k3])
  refine wpAnyP_done (by kernel_rfl) ?_ _
  clear hHeld
  go_wp2_with fail
  have hc := keep_run B p A cp nv r 6 _ HP1.out HL.out HX.out
  rw [← HT.out] at hc
  refine hc.mono ?_
  rintro e w3 ⟨rfl, hO, nv3, hP⟩
  have HO3 := Lib.hid ((HO1.out.mono (T := TurnB B A) (fun _ _ h => h.elim)).trans hO)
  have HP3 := Lib.hid hP
  clear hO hP hc
  go_wp2
  go_returns
  exact ⟨rfl, HO3.out, nv3, HP3.out⟩
set_option maxHeartbeats 1000000 in
theorem tries_7_4 (B : Nat) (p A : Option Addr) (cp : Nat) (nv : Value) (r : LS) (w : World) (h : RunP w B p A cp nv r) (hl : r.ns.length ≤ 900) (hx : Words r.xs) (ha : 0 ≤ r.a ∧ r.a < 4294967296) (hb : 0 ≤ r.b ∧ r.b < 4294967296) (h1 : r.op = 7) (h2 : r.line = 4) :
    Calls Try.prog 55 #[Value.pointer (some ⟨B, 0, none⟩)] w (Done B p A cp w (.tuple #[]) r.pf) := by
  have HT := Lib.hid (show r.pf = r.pWeighR 256 by unfold LS.pf; rw [h1, h2]; rfl)
  have H1 := Lib.hid h1
  have H2 := Lib.hid h2
  clear h1 h2
  have HX := Lib.hid hx
  have HL := Lib.hid hl
  have HA := Lib.hid ha
  have HB := Lib.hid hb
  have HP := Lib.hid h
  have c4 : w.cell? ⟨B, 4, none⟩ = some (.int .i64 (7)) := by rw [← H1.out]; exact HP.out.row.cell_ (i := 4) rfl
  have c5 : w.cell? ⟨B, 5, none⟩ = some (.int .i64 (4)) := by rw [← H2.out]; exact HP.out.row.cell_ (i := 5) rfl
  clear h hl hx ha hb
  go_enter Try.func55, Try.ntmps55
  go_upto_region 0 with (fail)
  refine wp_region_phase (n := 11) 10 (fun w => w.cell? ⟨B, 4, none⟩ = some (.int .i64 (7)) ∧ w.cell? ⟨B, 5, none⟩ = some (.int .i64 (4))) rfl (by kernel_rfl) ⟨c4, c5⟩ (fun hHeld => ?_)
  clear c4 c5
  have HP1 := Lib.hid (HP.out.keep (Only.refl Nil w).drew)
  have HO1 := Lib.hid (Only.refl Nil w).drew
  clear HP
  generalize w.drew = w2 at *
  refine mpa 0 rfl (Value.pointer (some ⟨B, 0, none⟩)) (fun w => ?_) ?_
  · go_simp
  (try simp only [Act.put, k1, k2, k3])
  refine mpa 1 rfl (Value.pointer (some ⟨B, 0, none⟩)) (fun w => ?_) ?_
  · go_simp
  (try simp only [Act.put, k1, k2, k3])
  refine mpa 2 rfl (.pointer (some ⟨B, 4, none⟩)) (fun w => ?_) ?_
  · go_simp
  (try simp only [Act.put, k1, k2, k3])
  refine mpa 3 rfl (.pointer (some ⟨B, 4, none⟩)) (fun w => ?_) ?_
  · go_simp
  (try simp only [Act.put, k1, k2, k3])
  refine mpt 4 rfl (.int .i64 (7)) (fun w hSw => ?_) ?_
  · (try dsimp only at hSw)
    go_split_ands
    go_simp
  (try simp only [Act.put, k1, k2, k3])
  refine mpa 5 rfl (Value.pointer (some ⟨B, 0, none⟩)) (fun w => ?_) ?_
  · go_simp
  (try simp only [Act.put, k1, k2, k3])
  refine mpa 6 rfl (Value.pointer (some ⟨B, 0, none⟩)) (fun w => ?_) ?_
  · go_simp
  (try simp only [Act.put, k1, k2, k3])
  refine mpa 7 rfl (.pointer (some ⟨B, 4, none⟩)) (fun w => ?_) ?_
  · go_simp
  (try simp only [Act.put, k1, k2, k3])
  refine mpa 8 rfl (.pointer (some ⟨B, 5, none⟩)) (fun w => ?_) ?_
  · go_simp
  (try simp only [Act.put, k1, k2, k3])
  refine mpt 9 rfl (.int .i64 (4)) (fun w hSw => ?_) ?_
  · (try dsimp only at hSw)
    go_split_ands
    go_simp
  (try simp only [Act.put, k1, k2, k3])
  refine mpc 10 rfl (by kernel_rfl) (by rfl) (fun K hK => ?_)
  go_simp
  refine hK.out _ _ (.inl (by kernel_rfl)) ?_
  clear hK K
  (try simp only [Act.put, k1, k2, k3])
  refine wpAnyP_done (by kernel_rfl) ?_ _
  clear hHeld
  go_wp2_with fail
  have hc := weighR_run B p A cp nv r 256 _ HP1.out HL.out HX.out
  rw [← HT.out] at hc
  refine hc.mono ?_
  rintro e w3 ⟨rfl, hO, nv3, hP⟩
  have HO3 := Lib.hid ((HO1.out.mono (T := TurnB B A) (fun _ _ h => h.elim)).trans hO)
  have HP3 := Lib.hid hP
  clear hO hP hc
  go_wp2
  go_returns
  exact ⟨rfl, HO3.out, nv3, HP3.out⟩
set_option maxHeartbeats 1000000 in
theorem tries_no (B : Nat) (p A : Option Addr) (cp : Nat) (nv : Value) (r : LS) (w : World) (h : RunP w B p A cp nv r) (hl : r.ns.length ≤ 900) (hx : Words r.xs) (ha : 0 ≤ r.a ∧ r.a < 4294967296) (hb : 0 ≤ r.b ∧ r.b < 4294967296)  (o6 : ¬ r.op = 6) (o7 : ¬ r.op = 7) (hr : r.pf = r) : Calls Try.prog 55 #[Value.pointer (some ⟨B, 0, none⟩)] w (Done B p A cp w (.tuple #[]) r.pf) := by
  rw [hr]
  clear hr
  obtain ⟨ln, H2⟩ : ∃ ln, Hid (r.line = ln) := ⟨_, Lib.hid rfl⟩
  obtain ⟨ol, H1⟩ : ∃ ol, Hid (r.op = ol) := ⟨_, Lib.hid rfl⟩; rw [H1.out] at o6 o7
  have HX := Lib.hid hx
  have HL := Lib.hid hl
  have HA := Lib.hid ha
  have HB := Lib.hid hb
  have HP := Lib.hid h
  have c4 : w.cell? ⟨B, 4, none⟩ = some (.int .i64 (ol)) := by rw [← H1.out]; exact HP.out.row.cell_ (i := 4) rfl
  have c5 : w.cell? ⟨B, 5, none⟩ = some (.int .i64 (ln)) := by rw [← H2.out]; exact HP.out.row.cell_ (i := 5) rfl
  clear h hl hx ha hb
  go_enter Try.func55, Try.ntmps55
  go_upto_region 0 with (fail)
  refine wp_region_phase (n := 11) 10 (fun w => w.cell? ⟨B, 4, none⟩ = some (.int .i64 (ol)) ∧ w.cell? ⟨B, 5, none⟩ = some (.int .i64 (ln))) rfl (by kernel_rfl) ⟨c4, c5⟩ (fun hHeld => ?_)
  clear c4 c5
  have HP1 := Lib.hid (HP.out.keep (Only.refl Nil w).drew)
  have HO1 := Lib.hid (Only.refl Nil w).drew
  clear HP
  generalize w.drew = w2 at *
  refine mpa 0 rfl (Value.pointer (some ⟨B, 0, none⟩)) (fun w => ?_) ?_
  · go_simp
  (try simp only [Act.put, k1, k2, k3])
  refine mpa 1 rfl (Value.pointer (some ⟨B, 0, none⟩)) (fun w => ?_) ?_
  · go_simp
  (try simp only [Act.put, k1, k2, k3])
  refine mpa 2 rfl (.pointer (some ⟨B, 4, none⟩)) (fun w => ?_) ?_
  · go_simp
  (try simp only [Act.put, k1, k2, k3])
  refine mpa 3 rfl (.pointer (some ⟨B, 4, none⟩)) (fun w => ?_) ?_
  · go_simp
  (try simp only [Act.put, k1, k2, k3])
  refine mpt 4 rfl (.int .i64 (ol)) (fun w hSw => ?_) ?_
  · (try dsimp only at hSw)
    go_split_ands
    go_simp
  (try simp only [Act.put, k1, k2, k3])
  refine mpa 5 rfl (Value.pointer (some ⟨B, 0, none⟩)) (fun w => ?_) ?_
  · go_simp
  (try simp only [Act.put, k1, k2, k3])
  refine mpa 6 rfl (Value.pointer (some ⟨B, 0, none⟩)) (fun w => ?_) ?_
  · go_simp
  (try simp only [Act.put, k1, k2, k3])
  refine mpa 7 rfl (.pointer (some ⟨B, 4, none⟩)) (fun w => ?_) ?_
  · go_simp
  (try simp only [Act.put, k1, k2, k3])
  refine mpa 8 rfl (.pointer (some ⟨B, 5, none⟩)) (fun w => ?_) ?_
  · go_simp
  (try simp only [Act.put, k1, k2, k3])
  refine mpt 9 rfl (.int .i64 (ln)) (fun w hSw => ?_) ?_
  · (try dsimp only at hSw)
    go_split_ands
    go_simp
  (try simp only [Act.put, k1, k2, k3])
  refine mpc 10 rfl (by kernel_rfl) (by rfl) (fun K hK => ?_)
  go_simp
  refine hK.out _ _ (.inl (by kernel_rfl)) ?_
  clear hK K
  (try simp only [Act.put, k1, k2, k3])
  refine wpAnyP_done (by kernel_rfl) ?_ _
  clear hHeld
  go_wp2
  go_returns
  exact ⟨rfl, HO1.out.mono (fun _ _ h => h.elim), nv, HP1.out⟩
end Go.Proofs.Ytgfippbcgneegaa
set_option linter.unusedVariables false
set_option linter.unusedSimpArgs false
namespace Go.Proofs.Ytgfippbcgneegaa
open Go.RowKit
theorem pf_none {r : LS} (h : pfCase r.op r.line = 0) : r.pf = r := by unfold LS.pf; rw [h]; rfl
theorem tries_run (B : Nat) (p A : Option Addr) (cp : Nat) (nv : Value) (r : LS) (w : World) (h : RunP w B p A cp nv r) (hl : r.ns.length ≤ 900) (hx : Words r.xs) (ha : 0 ≤ r.a ∧ r.a < 4294967296) (hb : 0 ≤ r.b ∧ r.b < 4294967296) (hn : ¬ r.op = 1) (hn2 : ¬ r.op = 2) (hn3 : ¬ r.op = 3) (hn4 : ¬ r.op = 4) (hn5 : ¬ r.op = 5) (hn8 : ¬ r.op = 8) : Calls Try.prog 55 #[Value.pointer (some ⟨B, 0, none⟩)] w (Done B p A cp w (.tuple #[]) r.pf) := by
  by_cases o6 : r.op = 6
  · by_cases l0 : r.line = 0
    · exact tries_6_0 B p A cp nv r w h hl hx ha hb o6 l0
    by_cases l1 : r.line = 1
    · exact tries_6_1 B p A cp nv r w h hl hx ha hb o6 l1
    by_cases l2 : r.line = 2
    · exact tries_6_2 B p A cp nv r w h hl hx ha hb o6 l2
    by_cases l3 : r.line = 3
    · exact tries_6_3 B p A cp nv r w h hl hx ha hb o6 l3
    by_cases l4 : r.line = 4
    · exact tries_6_4 B p A cp nv r w h hl hx ha hb o6 l4
    by_cases l5 : r.line = 5
    · exact tries_6_5 B p A cp nv r w h hl hx ha hb o6 l5
    by_cases l6 : r.line = 6
    · exact tries_6_6 B p A cp nv r w h hl hx ha hb o6 l6
    by_cases l7 : r.line = 7
    · exact tries_6_7 B p A cp nv r w h hl hx ha hb o6 l7
    by_cases l9 : r.line = 9
    · exact tries_6_9 B p A cp nv r w h hl hx ha hb o6 l9
    exact tries_no6 B p A cp nv r w h hl hx ha hb o6 l0 l1 l2 l3 l4 l5 l6 l7 l9 (pf_none (by simp [pfCase, o6, l0, l1, l2, l3, l4, l5, l6, l7, l9]))
  by_cases o7 : r.op = 7
  · by_cases l0 : r.line = 0
    · exact tries_7_0 B p A cp nv r w h hl hx ha hb o7 l0
    by_cases l1 : r.line = 1
    · exact tries_7_1 B p A cp nv r w h hl hx ha hb o7 l1
    by_cases l2 : r.line = 2
    · exact tries_7_2 B p A cp nv r w h hl hx ha hb o7 l2
    by_cases l3 : r.line = 3
    · exact tries_7_3 B p A cp nv r w h hl hx ha hb o7 l3
    by_cases l4 : r.line = 4
    · exact tries_7_4 B p A cp nv r w h hl hx ha hb o7 l4
    by_cases l5 : r.line = 5
    · exact tries_7_5 B p A cp nv r w h hl hx ha hb o7 l5
    by_cases l6 : r.line = 6
    · exact tries_7_6 B p A cp nv r w h hl hx ha hb o7 l6
    by_cases l7 : r.line = 7
    · exact tries_7_7 B p A cp nv r w h hl hx ha hb o7 l7
    by_cases l8 : r.line = 8
    · exact tries_7_8 B p A cp nv r w h hl hx ha hb o7 l8
    by_cases l9 : r.line = 9
    · exact tries_7_9 B p A cp nv r w h hl hx ha hb o7 l9
    exact tries_no7 B p A cp nv r w h hl hx ha hb o7 l0 l1 l2 l3 l4 l5 l6 l7 l8 l9 (pf_none (by simp [pfCase, o7, l0, l1, l2, l3, l4, l5, l6, l7, l8, l9]))
  exact tries_no B p A cp nv r w h hl hx ha hb o6 o7 (pf_none (by simp [pfCase, hn, hn2, hn3, hn4, hn5, hn8, o6, o7]))
theorem pf_lines (B : Nat) (p A : Option Addr) (cp : Nat) (nv : Value) (r : LS) (w : World) (h : RunP w B p A cp nv r) (hl : r.ns.length ≤ 900) (hx : Words r.xs) (ha : 0 ≤ r.a ∧ r.a < 4294967296) (hb : 0 ≤ r.b ∧ r.b < 4294967296) : Calls Try.prog 27 #[Value.pointer (some ⟨B, 0, none⟩)] w (Done B p A cp w (.tuple #[]) r.pf) := by
  by_cases o1 : r.op = 1
  · by_cases l0 : r.line = 0
    · exact lines_1_0 B p A cp nv r w h hl hx ha hb o1 l0
    by_cases l1 : r.line = 1
    · exact lines_1_1 B p A cp nv r w h hl hx ha hb o1 l1
    exact lines_no1 B p A cp nv r w h hl hx ha hb o1 l0 l1 (fun w' h' => by
      rw [pf_none (by simp [pfCase, o1, l0, l1])]
      have e := tries_no B p A cp nv r w' h' hl hx ha hb (by omega) (by omega) (pf_none (by simp [pfCase, o1, l0, l1]))
      rwa [pf_none (by simp [pfCase, o1, l0, l1])] at e)
  by_cases o2 : r.op = 2
  · by_cases l0 : r.line = 0
    · exact lines_2_0 B p A cp nv r w h hl hx ha hb o2 l0
    exact lines_no2 B p A cp nv r w h hl hx ha hb o2 l0 (fun w' h' => by
      rw [pf_none (by simp [pfCase, o2, l0])]
      have e := tries_no B p A cp nv r w' h' hl hx ha hb (by omega) (by omega) (pf_none (by simp [pfCase, o2, l0]))
      rwa [pf_none (by simp [pfCase, o2, l0])] at e)
  by_cases o3 : r.op = 3
  · by_cases l0 : r.line = 0
    · exact lines_3_0 B p A cp nv r w h hl hx ha hb o3 l0
    by_cases l1 : r.line = 1
    · exact lines_3_1 B p A cp nv r w h hl hx ha hb o3 l1
    by_cases l2 : r.line = 2
    · exact lines_3_2 B p A cp nv r w h hl hx ha hb o3 l2
    by_cases l3 : r.line = 3
    · exact lines_3_3 B p A cp nv r w h hl hx ha hb o3 l3
    by_cases l4 : r.line = 4
    · exact lines_3_4 B p A cp nv r w h hl hx ha hb o3 l4
    exact lines_no3 B p A cp nv r w h hl hx ha hb o3 l0 l1 l2 l3 l4 (fun w' h' => by
      rw [pf_none (by simp [pfCase, o3, l0, l1, l2, l3, l4])]
      have e := tries_no B p A cp nv r w' h' hl hx ha hb (by omega) (by omega) (pf_none (by simp [pfCase, o3, l0, l1, l2, l3, l4]))
      rwa [pf_none (by simp [pfCase, o3, l0, l1, l2, l3, l4])] at e)
  by_cases o4 : r.op = 4
  · by_cases l0 : r.line = 0
    · exact lines_4_0 B p A cp nv r w h hl hx ha hb o4 l0
    by_cases l1 : r.line = 1
    · exact lines_4_1 B p A cp nv r w h hl hx ha hb o4 l1
    by_cases l2 : r.line = 2
    · exact lines_4_2 B p A cp nv r w h hl hx ha hb o4 l2
    by_cases l3 : r.line = 3
    · exact lines_4_3 B p A cp nv r w h hl hx ha hb o4 l3
    exact lines_no4 B p A cp nv r w h hl hx ha hb o4 l0 l1 l2 l3 (fun w' h' => by
      rw [pf_none (by simp [pfCase, o4, l0, l1, l2, l3])]
      have e := tries_no B p A cp nv r w' h' hl hx ha hb (by omega) (by omega) (pf_none (by simp [pfCase, o4, l0, l1, l2, l3]))
      rwa [pf_none (by simp [pfCase, o4, l0, l1, l2, l3])] at e)
  by_cases o5 : r.op = 5
  · by_cases l0 : r.line = 0
    · exact lines_5_0 B p A cp nv r w h hl hx ha hb o5 l0
    by_cases l1 : r.line = 1
    · exact lines_5_1 B p A cp nv r w h hl hx ha hb o5 l1
    exact lines_no5 B p A cp nv r w h hl hx ha hb o5 l0 l1 (fun w' h' => by
      rw [pf_none (by simp [pfCase, o5, l0, l1])]
      have e := tries_no B p A cp nv r w' h' hl hx ha hb (by omega) (by omega) (pf_none (by simp [pfCase, o5, l0, l1]))
      rwa [pf_none (by simp [pfCase, o5, l0, l1])] at e)
  by_cases o8 : r.op = 8
  · by_cases l0 : r.line = 0
    · exact lines_8_0 B p A cp nv r w h hl hx ha hb o8 l0
    by_cases l1 : r.line = 1
    · exact lines_8_1 B p A cp nv r w h hl hx ha hb o8 l1
    by_cases l2 : r.line = 2
    · exact lines_8_2 B p A cp nv r w h hl hx ha hb o8 l2
    by_cases l3 : r.line = 3
    · exact lines_8_3 B p A cp nv r w h hl hx ha hb o8 l3
    exact lines_no8 B p A cp nv r w h hl hx ha hb o8 l0 l1 l2 l3 (fun w' h' => by
      rw [pf_none (by simp [pfCase, o8, l0, l1, l2, l3])]
      have e := tries_no B p A cp nv r w' h' hl hx ha hb (by omega) (by omega) (pf_none (by simp [pfCase, o8, l0, l1, l2, l3]))
      rwa [pf_none (by simp [pfCase, o8, l0, l1, l2, l3])] at e)
  exact lines_no B p A cp nv r w h hl hx ha hb o1 o2 o3 o4 o5 o8 (fun w' h' => tries_run B p A cp nv r w' h' hl hx ha hb o1 o2 o3 o4 o5 o8)
theorem pf_lined (B : Nat) (p A : Option Addr) (cp : Nat) (r : LS) (hl : r.ns.length ≤ 900) (hx : Words r.xs) (ha : 0 ≤ r.a ∧ r.a < 4294967296) (hb : 0 ≤ r.b ∧ r.b < 4294967296) : Lined B p A cp (.func (.func 27) #[] #[]) r r.pf (TurnB B A) (fun _ => True) (fun _ => True) := by
  intro w nv _ h
  have HT := Lib.hid (pf_lines B p A cp nv r w h hl hx ha hb)
  have hn := neq_fnL
  clear h hl hx ha hb
  go_enter_defers Try.func41, Try.ntmps41
  go_wp2_with fail
  refine HT.out.mono ?_
  rintro e w1 ⟨rfl, hO, nv1, hP⟩
  have HO := Lib.hid hO
  have HP := Lib.hid hP
  clear hO hP HT
  go_wp2
  refine leaves_cons (f := 61) (args := #[]) (by simp) (by simp [go_sem]) ?_
  refine (rec_run _).mono ?_
  rintro e u' w'' ⟨rfl, rfl, rfl⟩
  exact ⟨_, by simp [results, Try.results41, go_sem], rfl, HO.out, trivial, nv1, HP.out⟩
theorem pf_step (B : Nat) (p A : Option Addr) (cp : Nat) (nv : Value) (r : LS) (w : World) (h : RunQ w B p A cp nv r) (hx : Words r.xs) (ha : 0 ≤ r.a ∧ r.a < 4294967296) (hb : 0 ≤ r.b ∧ r.b < 4294967296) :
    Calls Try.prog 26 #[Value.pointer (some ⟨B, 0, none⟩), .func (.func 27) #[] #[]] w (Stepd B p A cp (r.next LS.pf) (TurnB B A) (fun _ => True) w) := by
  unfold LS.next
  cases hon : r.k.on
  · rw [if_neg Bool.false_ne_true]
    exact step_lines B p A cp nv _ r _ _ _ _ w h hon (pf_lined B p A cp r.fresh (Nat.zero_le _) hx ha hb) (.inl rfl) (fun _ _ => trivial)
  · rw [if_pos rfl]
    exact step_wake B p A cp nv _ r w h hon
end Go.Proofs.Ytgfippbcgneegaa
