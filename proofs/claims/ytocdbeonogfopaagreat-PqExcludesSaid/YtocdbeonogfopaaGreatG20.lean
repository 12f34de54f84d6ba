import Derived.Test.YtocdbeonogfopaaGreatG19
set_option linter.unusedVariables false
set_option linter.unusedSimpArgs false
namespace Go.Proofs.YtocdbeonogfopaaGreat
open Go.RowKit
structure BoxW (w : World) (A : Option Addr) (g : Nat) (a : Int) : Prop where
  row : Row w g 22 #[.int .u32 a]
  far : ¬ At A g
theorem left_is (g : Nat) (s v : Int) (w : World) (hb : Row w g 22 #[.int .u32 s]) (hv : 0 ≤ v ∧ v < 4294967296) :
    Calls Tryz.prog 125 #[.int .u32 v, .pointer (some ⟨g, 0, none⟩)] w fun e w' => e = .returned (.bool (bitsI v != s)) ∧ Only Nil w w' := by
  have b0 : w.cell? ⟨g, 0, none⟩ = some (.int .u32 s) := hb.cell_ (i := 0) rfl
  clear hb
  go_enter Tryz.func125, Tryz.ntmps125
  go_wp2
  go_quiet ((exact bits_quiet v _ _ hv))
  go_wp2
  go_ret
  exact ⟨rfl, (Drew.n _ _).only⟩
theorem holds_left {A : Option Addr} {g : Nat} {s : Int} {w : World} (h : BoxW w A g s) : Holds A w (.func (.func 125) #[] #[.pointer (some ⟨g, 0, none⟩)]) (fun v => bitsI v != s) := by
  intro v w1 hO h0 h1
  have hb1 := h.row.only hO h.far
  have HT := Lib.hid (left_is g s v w1 hb1 ⟨h0, h1⟩)
  clear h hO hb1
  have hn := neq_fn
  go_enter_defers Tryz.func145, Tryz.ntmps145
  go_wp2_with fail
  refine HT.out.mono ?_
  rintro e w2 ⟨rfl, hO⟩
  have HO := Lib.hid hO
  clear hO HT
  generalize hq : (bitsI v != s) = q at *
  have HQ := Lib.hid hq
  clear hq
  go_wp2
  refine leaves_cons (f := 147) (args := #[]) (by simp) (by simp [go_sem]) ?_
  refine (rec_idle _).mono ?_
  rintro e u' w'' ⟨rfl, rfl, rfl⟩
  exact ⟨_, results_tmp rfl _ _ _, by rw [HQ.out]; rfl, HO.out⟩
def LS.admits (r : LS) (sn dn : Bool) : LS := if dn then (r.noteIf sn 4).fin true else r.noteIf sn 4
theorem admit_run (B : Nat) (p A : Option Addr) (cp : Nat) (nv : Value) (r : LS) (sn dn : Bool) (w : World) (h : RunP w B p A cp nv r) (hl : r.ns.length ≤ 900) : Calls Tryz.prog 126 #[Value.pointer (some ⟨B, 0, none⟩), .bool sn, .bool dn] w (Done B p A cp w (.tuple #[]) (r.admits sn dn)) := by
  have HP0 := Lib.hid h
  have HL := Lib.hid hl
  have HO0 := Lib.hid (Only.refl (TurnB B A) w)
  clear h hl
  cases sn <;> cases dn
  · go_enter Tryz.func126, Tryz.ntmps126
    go_wp2
    go_returns
    exact ⟨rfl, HO0.out, nv, HP0.out⟩
  · go_enter Tryz.func126, Tryz.ntmps126
    go_wp2_with fail
    refine (end_run B p A cp nv _ _ true HP0.out).mono ?_
    rintro e w9 ⟨rfl, hO, nv9, hP⟩
    have HO9 := Lib.hid (HO0.out.trans hO)
    have HP9 := Lib.hid hP
    clear hO hP
    go_wp2
    go_returns
    exact ⟨rfl, HO9.out, nv9, HP9.out⟩
  · go_enter Tryz.func126, Tryz.ntmps126
    go_wp2_with fail
    refine (note_run B p A cp nv _ 4 0 _ HP0.out (Nat.le_trans HL.out (by decide))).mono ?_
    rintro e w9 ⟨rfl, hO, nv9, hP⟩
    have HO9 := Lib.hid (HO0.out.trans hO)
    have HP9 := Lib.hid hP
    clear hO hP
    go_wp2
    go_returns
    exact ⟨rfl, HO9.out, nv9, HP9.out⟩
  · go_enter Tryz.func126, Tryz.ntmps126
    go_wp2_with fail
    refine (note_run B p A cp nv _ 4 0 _ HP0.out (Nat.le_trans HL.out (by decide))).mono ?_
    rintro e w1 ⟨rfl, hO, nv1, hP⟩
    have HO1 := Lib.hid (HO0.out.trans hO)
    have HP1 := Lib.hid hP
    clear hO hP HP0 HO0
    go_wp2_with fail
    refine (end_run B p A cp nv1 _ _ true HP1.out).mono ?_
    rintro e w9 ⟨rfl, hO, nv9, hP⟩
    have HO9 := Lib.hid (HO1.out.trans hO)
    have HP9 := Lib.hid hP
    clear hO hP
    go_wp2
    go_returns
    exact ⟨rfl, HO9.out, nv9, HP9.out⟩
set_option maxHeartbeats 1000000 in
theorem left_run (B : Nat) (p A : Option Addr) (cp : Nat) (nv : Value) (r : LS) (w : World) (h : RunP w B p A cp nv r) (hl : r.ns.length ≤ 900) (hx : Words r.xs) (ha : 0 ≤ r.a ∧ r.a < 4294967296) : Calls Tryz.prog 83 #[Value.pointer (some ⟨B, 0, none⟩)] w (Done B p A cp w (.tuple #[]) (r.pAdmit 0 r.left)) := by
  rw [show r.pAdmit 0 r.left = (r.wait 0 r.left).admits (r.stepR 0 r.left).seen (r.stepR 0 r.left).done from rfl]
  generalize hsn : (r.stepR 0 r.left).seen = sn
  generalize hdn : (r.stepR 0 r.left).done = dn
  have HSN := Lib.hid hsn
  have HDN := Lib.hid hdn
  have HA := Lib.hid ha
  clear hsn hdn ha
  have HP0 := Lib.hid h
  have HL := Lib.hid hl
  have HX := Lib.hid hx
  have HO0 := Lib.hid (Only.refl (TurnB B A) w)
  clear h hl hx
  have c6 : w.cell? ⟨B, 6, none⟩ = some (.int .u32 r.a) := HP0.out.row.cell_ (i := 6) rfl
  go_enter Tryz.func83, Tryz.ntmps83
  go_wp2_with fail
  clear c6
  refine (bits_any r.a _ HA.out).mono ?_
  rintro e w1 ⟨rfl, hd⟩
  have HP1 := Lib.hid (HP0.out.keep hd.only)
  have HO1 : Hid (Only (TurnB B A) w w1) := Lib.hid (HO0.out.trans hd.only)
  clear hd HP0 HO0
  have HT1 : Hid (BoxW (w1.alloc (.cells #[.int .u32 (bitsI r.a)] 22)) A w1.heap.size (bitsI r.a)) := Lib.hid ⟨Row.new w1 22 #[.int .u32 (bitsI r.a)], fun e => by have := HP1.out.memo.lt _ (.inr e); omega⟩
  have e1 := (Only.refl Nil w1).alloc (.cells #[.int .u32 (bitsI r.a)] 22)
  have HP2 := Lib.hid (HP1.out.keep e1)
  have HO2 := Lib.hid (HO1.out.trans (e1.mono (fun _ _ h => h.elim)))
  clear e1 HP1 HO1
  go_wp2_with fail
  refine (wait_run B p A cp nv r 0 (.func 125) #[] #[.pointer (some ⟨w1.heap.size, 0, none⟩)] r.left _ HP2.out (holds_left HT1.out) HX.out).mono ?_
  rw [HSN.out, HDN.out]
  rintro e w3 ⟨rfl, hO, nv2, hP⟩
  have HO3 := Lib.hid (HO2.out.trans hO)
  have HP3 := Lib.hid hP
  clear hO hP HP2 HO2 HT1
  go_wp2_with fail
  refine (admit_run B p A cp nv2 (r.wait 0 r.left) sn dn _ HP3.out HL.out).mono ?_
  rintro e w9 ⟨rfl, hO, nv9, hP⟩
  have HO9 := Lib.hid (HO3.out.trans hO)
  have HP9 := Lib.hid hP
  clear hO hP
  go_wp2
  go_returns
  exact ⟨rfl, HO9.out, nv9, HP9.out⟩
set_option maxHeartbeats 1000000 in
theorem slip_run (B : Nat) (p A : Option Addr) (cp : Nat) (nv : Value) (r : LS) (w : World) (h : RunP w B p A cp nv r) (hl : r.ns.length ≤ 900) (hx : Words r.xs) : Calls Tryz.prog 94 #[Value.pointer (some ⟨B, 0, none⟩)] w (Done B p A cp w (.tuple #[]) r.pSlip) := by
  cases hcl : r.was 0
  · rw [show r.pSlip = (r.doA 5 0 r.a ((r.a + 256) % 4294967296)).go 0 by unfold LS.pSlip; rw [hcl]; rfl]
    have HCL := Lib.hid (show (there r.xs 0 && (wordAt r.xs 0 == r.a)) = false from hcl)
    clear hcl
    have HP0 := Lib.hid h
    have HL := Lib.hid hl
    have HX := Lib.hid hx
    have HO0 := Lib.hid (Only.refl (TurnB B A) w)
    clear h hl hx
    have c6 : w.cell? ⟨B, 6, none⟩ = some (.int .u32 r.a) := HP0.out.row.cell_ (i := 6) rfl
    have hx : IntKind.u32.wrap (r.a + 256) = (r.a + 256) % 4294967296 := rfl
    go_enter Tryz.func94, Tryz.ntmps94
    go_upto_region 0 with (fail)
    refine wp_region_phase (n := 14) 12 (fun w => w.cell? ⟨B, 6, none⟩ = some (.int .u32 r.a)) rfl (by kernel_rfl) c6 (fun hHeld => ?_)
    clear c6
    have HP0b := Lib.hid (HP0.out.keep (Only.refl Nil w).drew)
    have HO0b := Lib.hid HO0.out.drew
    clear HP0 HO0
    generalize w.drew = w0 at *
    refine mpa 0 rfl (Value.pointer (some ⟨B, 0, none⟩)) (fun w => ?_) ?_
    · go_simp
    (try simp only [Act.put, k1, k2, k3])
    refine mpa 1 rfl (Value.pointer (some ⟨B, 0, none⟩)) (fun w => ?_) ?_
    · go_simp
    (try simp only [Act.put, k1, k2, k3])
    refine mpa 2 rfl (Value.pointer (some ⟨B, 0, none⟩)) (fun w => ?_) ?_
    · go_simp
    (try simp only [Act.put, k1, k2, k3])
    refine mpa 3 rfl (.pointer (some ⟨B, 4, none⟩)) (fun w => ?_) ?_
    · go_simp
    (try simp only [Act.put, k1, k2, k3])
    refine mpa 4 rfl (.pointer (some ⟨B, 6, none⟩)) (fun w => ?_) ?_
    · go_simp
    (try simp only [Act.put, k1, k2, k3])
    refine mpt 5 rfl (.int .u32 r.a) (fun w hSw => ?_) ?_
    · (try dsimp only at hSw)
      go_split_ands
      go_simp
    (try simp only [Act.put, k1, k2, k3])
    refine mpa 6 rfl (Value.pointer (some ⟨B, 0, none⟩)) (fun w => ?_) ?_
    · go_simp
    (try simp only [Act.put, k1, k2, k3])
    refine mpa 7 rfl (Value.pointer (some ⟨B, 0, none⟩)) (fun w => ?_) ?_
    · go_simp
    (try simp only [Act.put, k1, k2, k3])
    refine mpa 8 rfl (.pointer (some ⟨B, 4, none⟩)) (fun w => ?_) ?_
    · go_simp
    (try simp only [Act.put, k1, k2, k3])
    refine mpa 9 rfl (.pointer (some ⟨B, 6, none⟩)) (fun w => ?_) ?_
    · go_simp
    (try simp only [Act.put, k1, k2, k3])
    refine mpt 10 rfl (.int .u32 r.a) (fun w hSw => ?_) ?_
    · (try dsimp only at hSw)
      go_split_ands
      go_simp
    (try simp only [Act.put, k1, k2, k3])
    refine mpa 11 rfl (.int .u32 ((r.a + 256) % 4294967296)) (fun w => ?_) ?_
    · go_simp
    (try simp only [Act.put, k1, k2, k3])
    refine mpc 12 rfl (by kernel_rfl) (by rfl) (fun K hK => ?_)
    go_simp
    refine (cas_run B p A cp nv r 0 r.a ((r.a + 256) % 4294967296) _ HP0b.out).mono ?_
    rw [HCL.out]
    rintro e w1 ⟨rfl, hO, nv1, hP⟩
    have HO1 := Lib.hid (HO0b.out.trans hO)
    have HP1 := Lib.hid hP
    refine hK.out _ _ (.inl (by kernel_rfl)) ?_
    clear hK K hHeld hO hP HP0b HO0b hx
    (try simp only [Act.put, k1, k2, k3])
    refine mpa 13 rfl (.bool true) (fun w => ?_) ?_
    · go_simp
    (try simp only [Act.put, k1, k2, k3])
    refine wpAnyP_done (by kernel_rfl) ?_ _
    go_wp2_with fail
    refine (go_run B p A cp nv1 _ 0 _ HP1.out).mono ?_
    rintro e w9 ⟨rfl, hO, nv9, hP⟩
    have HO9 := Lib.hid (HO1.out.trans hO)
    have HP9 := Lib.hid hP
    clear hO hP
    go_wp2
    go_returns
    exact ⟨rfl, HO9.out, nv9, HP9.out⟩
  · rw [show r.pSlip = (((r.doA 5 0 r.a ((r.a + 256) % 4294967296)).note 2 1).note 4 0).fin true by unfold LS.pSlip; rw [hcl]; rfl]
    have HCL := Lib.hid (show (there r.xs 0 && (wordAt r.xs 0 == r.a)) = true from hcl)
    clear hcl
    have HP0 := Lib.hid h
    have HL := Lib.hid hl
    have HX := Lib.hid hx
    have HO0 := Lib.hid (Only.refl (TurnB B A) w)
    clear h hl hx
    have c6 : w.cell? ⟨B, 6, none⟩ = some (.int .u32 r.a) := HP0.out.row.cell_ (i := 6) rfl
    have hx : IntKind.u32.wrap (r.a + 256) = (r.a + 256) % 4294967296 := rfl
    go_enter Tryz.func94, Tryz.ntmps94
    go_upto_region 0 with (fail)
    refine wp_region_phase (n := 14) 12 (fun w => w.cell? ⟨B, 6, none⟩ = some (.int .u32 r.a)) rfl (by kernel_rfl) c6 (fun hHeld => ?_)
    clear c6
    have HP0b := Lib.hid (HP0.out.keep (Only.refl Nil w).drew)
    have HO0b := Lib.hid HO0.out.drew
    clear HP0 HO0
    generalize w.drew = w0 at *
    refine mpa 0 rfl (Value.pointer (some ⟨B, 0, none⟩)) (fun w => ?_) ?_
    · go_simp
    (try simp only [Act.put, k1, k2, k3])
    refine mpa 1 rfl (Value.pointer (some ⟨B, 0, none⟩)) (fun w => ?_) ?_
    · go_simp
    (try simp only [Act.put, k1, k2, k3])
    refine mpa 2 rfl (Value.pointer (some ⟨B, 0, none⟩)) (fun w => ?_) ?_
    · go_simp
    (try simp only [Act.put, k1, k2, k3])
    refine mpa 3 rfl (.pointer (some ⟨B, 4, none⟩)) (fun w => ?_) ?_
    · go_simp
    (try simp only [Act.put, k1, k2, k3])
    refine mpa 4 rfl (.pointer (some ⟨B, 6, none⟩)) (fun w => ?_) ?_
    · go_simp
    (try simp only [Act.put, k1, k2, k3])
    refine mpt 5 rfl (.int .u32 r.a) (fun w hSw => ?_) ?_
    · (try dsimp only at hSw)
      go_split_ands
      go_simp
    (try simp only [Act.put, k1, k2, k3])
    refine mpa 6 rfl (Value.pointer (some ⟨B, 0, none⟩)) (fun w => ?_) ?_
    · go_simp
    (try simp only [Act.put, k1, k2, k3])
    refine mpa 7 rfl (Value.pointer (some ⟨B, 0, none⟩)) (fun w => ?_) ?_
    · go_simp
    (try simp only [Act.put, k1, k2, k3])
    refine mpa 8 rfl (.pointer (some ⟨B, 4, none⟩)) (fun w => ?_) ?_
    · go_simp
    (try simp only [Act.put, k1, k2, k3])
    refine mpa 9 rfl (.pointer (some ⟨B, 6, none⟩)) (fun w => ?_) ?_
    · go_simp
    (try simp only [Act.put, k1, k2, k3])
    refine mpt 10 rfl (.int .u32 r.a) (fun w hSw => ?_) ?_
    · (try dsimp only at hSw)
      go_split_ands
      go_simp
    (try simp only [Act.put, k1, k2, k3])
    refine mpa 11 rfl (.int .u32 ((r.a + 256) % 4294967296)) (fun w => ?_) ?_
    · go_simp
    (try simp only [Act.put, k1, k2, k3])
    refine mpc 12 rfl (by kernel_rfl) (by rfl) (fun K hK => ?_)
    go_simp
    refine (cas_run B p A cp nv r 0 r.a ((r.a + 256) % 4294967296) _ HP0b.out).mono ?_
    rw [HCL.out]
    rintro e w1 ⟨rfl, hO, nv1, hP⟩
    have HO1 := Lib.hid (HO0b.out.trans hO)
    have HP1 := Lib.hid hP
    refine hK.out _ _ (.inl (by kernel_rfl)) ?_
    clear hK K hHeld hO hP HP0b HO0b hx
    (try simp only [Act.put, k1, k2, k3])
    refine mpa 13 rfl (.bool false) (fun w => ?_) ?_
    · go_simp
    (try simp only [Act.put, k1, k2, k3])
    refine wpAnyP_done (by kernel_rfl) ?_ _
    go_wp2_with fail
    refine (note_run B p A cp nv1 _ 2 1 _ HP1.out (show (r.doA 5 0 r.a ((r.a + 256) % 4294967296)).ns.length ≤ 1000 from Nat.le_trans HL.out (by decide))).mono ?_
    rintro e w2 ⟨rfl, hO, nv2, hP⟩
    have HO2 := Lib.hid (HO1.out.trans hO)
    have HP2 := Lib.hid hP
    clear hO hP HP1 HO1
    go_wp2_with fail
    refine (note_run B p A cp nv2 _ 4 0 _ HP2.out (by have := HL.out; simp only [LS.note, LS.doA, List.length_append, List.length_cons, List.length_nil]; omega)).mono ?_
    rintro e w3 ⟨rfl, hO, nv3, hP⟩
    have HO3 := Lib.hid (HO2.out.trans hO)
    have HP3 := Lib.hid hP
    clear hO hP HP2 HO2
    go_wp2_with fail
    refine (end_run B p A cp nv3 _ _ true HP3.out).mono ?_
    rintro e w9 ⟨rfl, hO, nv9, hP⟩
    have HO9 := Lib.hid (HO3.out.trans hO)
    have HP9 := Lib.hid hP
    clear hO hP
    go_wp2
    go_returns
    exact ⟨rfl, HO9.out, nv9, HP9.out⟩
end Go.Proofs.YtocdbeonogfopaaGreat
