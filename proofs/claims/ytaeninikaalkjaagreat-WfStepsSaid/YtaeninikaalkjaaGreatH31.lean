import Derived.Test.YtaeninikaalkjaaGreatH14
import Derived.Test.YtaeninikaalkjaaGreatH30
set_option linter.unusedVariables false
set_option linter.unusedSimpArgs false
namespace Go.Proofs.YtaeninikaalkjaaGreat
open Go.RowKit
theorem RowsL.call {w w' : World} {L : List (Nat × TypeId × Array Value)} {base : Nat} {A : Option Addr} {cp : Nat} {xs : List Int} (h : RowsL w L) (hm : Own w base A cp xs) (ho : Only (At A) w w') (ht : ∀ x ∈ L, x.2.1 ≠ 23) : RowsL w' L := fun x hx =>
  (h x hx).only ho (fun e => by
    obtain ⟨cur, hc⟩ := own_tag hm e
    exact ht x hx ((h x hx).same hc).1)
theorem RunR.farRow {w w' : World} {B base : Nat} {A : Option Addr} {l cp : Nat} {nv : Value} {r : LS} {q : Nat} {t : TypeId} {cs : Array Value} (h : RunR w B base A l cp nv r) (hq : Row w q t cs) (ho : Only (· = q) w w')
    (h1 : t ≠ 46) (h2 : t ≠ 23) (h3 : t ≠ 85) : RunR w' B base A l cp nv r :=
  h.apart ho (fun e => h1 (by subst e; exact (hq.same h.row).1)) (fun j hj e => by
    subst e
    obtain ⟨cur, hc⟩ := own_tag h.own hj
    exact h2 (hq.same hc).1) (fun i hi e => by
    subst e
    obtain ⟨cur, hc⟩ := ownN_tag h.notes hi
    exact h3 (hq.same hc).1)
theorem RunR.held {w : World} {B base : Nat} {A : Option Addr} {l cp : Nat} {nv : Value} {r : LS} {gu : Nat} {k m x : Int} {L : List (Nat × TypeId × Array Value)} (h : RunR w B base A l cp nv r) (hx : RowsL w L) (hL : (gu, 79, #[.int .i64 k, .int .u32 m, .int .u32 x]) ∈ L) :
    w.cell? ⟨B, 0, none⟩ = some (.slice A l cp) ∧ w.cell? ⟨B, 1, none⟩ = some (.int .i64 r.n) ∧ w.cell? ⟨B, 2, none⟩ = some (.int .i64 r.mode) ∧ w.cell? ⟨B, 3, none⟩ = some (.int .i64 r.task) ∧ w.cell? ⟨B, 8, none⟩ = some (.int .i64 r.s) ∧ w.cell? ⟨gu, 0, none⟩ = some (.int .i64 k) ∧ w.cell? ⟨gu, 1, none⟩ = some (.int .u32 m) ∧ w.cell? ⟨gu, 2, none⟩ = some (.int .u32 x) :=
  ⟨h.row.cell_ (i := 0) rfl, h.row.cell_ (i := 1) rfl, h.row.cell_ (i := 2) rfl, h.row.cell_ (i := 3) rfl, h.row.cell_ (i := 8) rfl, (hx _ hL).cell_ (i := 0) rfl, (hx _ hL).cell_ (i := 1) rfl, (hx _ hL).cell_ (i := 2) rfl⟩
set_option maxRecDepth 100000 in
set_option maxHeartbeats 4000000 in
theorem rwait_run (B base : Nat) (A : Option Addr) (l cp : Nat) (nv : Value) (r : LS) (c k m x : Int) (w : World) (h : RunR w B base A l cp nv r) (hx : Words r.xs) :
    Calls Tryz.prog 39 #[.pointer (some ⟨B, 0, none⟩), .int .i64 c, .agg #[.int .i64 k, .int .u32 m, .int .u32 x]] w (DoneR B base A l cp w (.tuple #[.bool (r.stepR c (uIs k m x)).seen, .bool (r.stepR c (uIs k m x)).done]) (r.wait c (uIs k m x))) := by
  have e0 := (Only.refl Nil w).alloc (.cells #[.int .i64 k, .int .u32 m, .int .u32 x] 79)
  have HP0 := Lib.hid (h.keep e0)
  have HO0 := Lib.hid (e0.mono (T := TurnB B A) (fun _ _ h => h.elim))
  have HX0 : Hid (RowsL _ [(w.heap.size, 79, #[.int .i64 k, .int .u32 m, .int .u32 x])]) := Lib.hid (RowsL.cons (fun _ h => absurd h (by simp)) (Row.new w 79 #[.int .i64 k, .int .u32 m, .int .u32 x]))
  have HWF := Lib.hid hx
  have hacc := ofV_step r.xs r.n r.mode r.task r.s c (uIs k m x)
  have hzl := (step_len r.xs r.n r.mode r.task r.s c (uIs k m x)).trans h.len
  clear h hx e0
  rw [show r.wait c (uIs k m x) = { r with s := (r.stepR c (uIs k m x)).next, acc := ofV (r.stepR c (uIs k m x)).acc, xs := (r.stepR c (uIs k m x)).xs } from rfl]
  rw [show r.stepR c (uIs k m x) = stepI r.xs r.n r.mode r.task r.s c (uIs k m x) from rfl]
  generalize hst : stepI r.xs r.n r.mode r.task r.s c (uIs k m x) = t at *
  obtain ⟨nx, ac, sn, dn, zs⟩ := t
  dsimp only at hacc hzl ⊢
  generalize ha5 : ofV ac = a5 at *
  have HST := Lib.hid hst
  have HZL := Lib.hid hzl
  have HAC := Lib.hid hacc
  clear hst hacc hzl ha5
  go_enter Tryz.func39, Tryz.ntmps39
  go_upto_region 1 with (fail)
  generalize w.alloc (.cells #[.int .i64 k, .int .u32 m, .int .u32 x] 79) = w1 at *
  generalize w.heap.size = gu at *
  refine wp_region_phase (n := 35) 23 (fun w => w.cell? ⟨B, 0, none⟩ = some (.slice A l cp) ∧ w.cell? ⟨B, 1, none⟩ = some (.int .i64 r.n) ∧ w.cell? ⟨B, 2, none⟩ = some (.int .i64 r.mode) ∧ w.cell? ⟨B, 3, none⟩ = some (.int .i64 r.task) ∧ w.cell? ⟨B, 8, none⟩ = some (.int .i64 r.s) ∧ w.cell? ⟨gu, 0, none⟩ = some (.int .i64 k) ∧ w.cell? ⟨gu, 1, none⟩ = some (.int .u32 m) ∧ w.cell? ⟨gu, 2, none⟩ = some (.int .u32 x)) rfl (by kernel_rfl) (HP0.out.held HX0.out (by simp)) (fun hHeld => ?_)
  have HP := Lib.hid (HP0.out.keep (Only.refl Nil w1).drew)
  have HO := Lib.hid HO0.out.drew
  have HX := Lib.hid (HX0.out.keep (Only.refl Nil w1).drew)
  clear HP0 HO0 HX0
  generalize w1.drew = w2 at *
  refine za 0 rfl ?_
  refine za 1 rfl ?_
  refine za 2 rfl ?_
  refine zt 3 rfl ?_
  refine za 4 rfl ?_
  refine za 5 rfl ?_
  refine za 6 rfl ?_
  refine zt 7 rfl ?_
  refine za 8 rfl ?_
  refine za 9 rfl ?_
  refine za 10 rfl ?_
  refine zt 11 rfl ?_
  refine za 12 rfl ?_
  refine za 13 rfl ?_
  refine za 14 rfl ?_
  refine zt 15 rfl ?_
  refine za 16 rfl ?_
  refine za 17 rfl ?_
  refine za 18 rfl ?_
  refine za 19 rfl ?_
  refine zt 20 rfl ?_
  refine za 21 rfl ?_
  refine zt 22 rfl ?_
  refine pe_23_29_30 rfl rfl (by kernel_rfl) (by rfl) (fun K hK => ?_) (by rfl) (fun K hK => ?_) (by rfl) (fun K hK => ?_)
  · go_simp
    refine (rstep_any base A l cp r.xs r.n r.mode r.task r.s c k m x _ HP.out.own HP.out.len HWF.out).mono ?_
    rw [HST.out]
    intro e w3 hF
    obtain ⟨rfl, hO, hM⟩ := hF
    dsimp only at hM ⊢
    rw [HAC.out]
    dsimp only [Acc5.v]
    have HP2 := Lib.hid (HP.out.call hO hM HZL.out)
    have HO2 := Lib.hid (HO.out.trans hO.turned2)
    have HX2 := Lib.hid (HX.out.call HP.out.own hO (by simp))
    refine hK.out _ _ (.inl (by kernel_rfl)) ?_
    clear hK K hO hM HP HO HX
    have HP := HP2
    have HO := HO2
    have HX := HX2
    clear HP2 HO2 HX2
    refine za 24 rfl ?_
    refine za 25 rfl ?_
    refine za 26 rfl ?_
    refine za 27 rfl ?_
    refine za 28 rfl ?_
    refine pd_29_30 rfl rfl (by kernel_rfl) (by rfl) (fun K hK => ?_) (by rfl) (fun K hK => ?_)
    · go_simp
      have e1 := (Only.refl Nil w3).alloc (.cells #[.int .i64 0] 25)
      have HP2 := Lib.hid (HP.out.keep e1)
      have HO2 := Lib.hid (HO.out.alloc (.cells #[.int .i64 0] 25))
      have HX2 := Lib.hid ((HX.out.keep e1).cons (Row.new w3 25 #[.int .i64 0]))
      have HG8 := Lib.hid HO.out.size
      refine hK.out _ _ (.inl (by kernel_rfl)) ?_
      clear hK K e1 HP HO HX
      generalize w3.alloc (.cells #[.int .i64 0] 25) = w4 at *
      generalize w3.heap.size = g8 at *
      have HP := HP2
      have HO := HO2
      have HX := HX2
      clear HP2 HO2 HX2
      refine mpc 30 rfl (by kernel_rfl) (by rfl) (fun K hK => ?_)
      go_simp
      have e1 := (Only.refl Nil w4).alloc (.cells #[.int .i64 0, .int .i64 0, .int .u32 0, .int .u32 0, .int .u32 0] 39)
      have HP2 := Lib.hid (HP.out.keep e1)
      have HO2 := Lib.hid (HO.out.alloc (.cells #[.int .i64 0, .int .i64 0, .int .u32 0, .int .u32 0, .int .u32 0] 39))
      have HX2 := Lib.hid ((HX.out.keep e1).cons (Row.new w4 39 #[.int .i64 0, .int .i64 0, .int .u32 0, .int .u32 0, .int .u32 0]))
      have HG9 := Lib.hid HO.out.size
      refine hK.out _ _ (.inl (by kernel_rfl)) ?_
      clear hK K e1 HP HO HX
      generalize w4.alloc (.cells #[.int .i64 0, .int .i64 0, .int .u32 0, .int .u32 0, .int .u32 0] 39) = w5 at *
      generalize w4.heap.size = g9 at *
      have HP := HP2
      have HO := HO2
      have HX := HX2
      clear HP2 HO2 HX2
      have H8 : Hid (Row w5 g8 25 #[.int .i64 0]) := Lib.hid (HX.out (g8, 25, #[.int .i64 0]) (by simp))
      have H9 : Hid (Row w5 g9 39 #[.int .i64 0, .int .i64 0, .int .u32 0, .int .u32 0, .int .u32 0]) := Lib.hid (HX.out (g9, 39, #[.int .i64 0, .int .i64 0, .int .u32 0, .int .u32 0, .int .u32 0]) (by simp))
      have H89 := Lib.hid (row_ne H8.out H9.out (by decide))
      have hb8 := row_ne H8.out HP.out.row (by decide)
      have hb9 := row_ne H9.out HP.out.row (by decide)
      have HB8 := Lib.hid hb8
      have HB9 := Lib.hid hb9
      clear HX hb8 hb9
      have c0 : w5.cell? ⟨g8, 0, none⟩ = some (.int .i64 0) := H8.out.cell_ (i := 0) rfl
      have f0 : w5.frozen? ⟨g8, 0, none⟩ = false := H8.out.frozen 0
      refine mpc 31 rfl (by kernel_rfl) (by rfl) (fun K hK => ?_)
      go_simp
      have ho := (Only.refl (· = g8) w5).setCell (p := ⟨g8, 0, none⟩) (.inr rfl) (.int .i64 nx)
      have HP2 := Lib.hid (HP.out.farRow H8.out ho (by decide) (by decide) (by decide))
      have HO2 := Lib.hid (HO.out.setCell (p := ⟨g8, 0, none⟩) (.inl (HG8.out)) (.int .i64 nx))
      have H82 := Lib.hid (H8.out.set 0 (.int .i64 nx))
      have H92 := Lib.hid (H9.out.only ho (Ne.symm H89.out))
      refine hK.out _ _ (.inl (by kernel_rfl)) ?_
      clear hK K ho c0 f0 HP HO H8 H9
      generalize w5.setCell ⟨g8, 0, none⟩ (.int .i64 nx) = w6 at *
      have a0 : w6.cell? ⟨g9, 0, none⟩ = some (.int .i64 0) := H92.out.cell_ (i := 0) rfl
      have a1 : w6.cell? ⟨g9, 1, none⟩ = some (.int .i64 0) := H92.out.cell_ (i := 1) rfl
      have a2 : w6.cell? ⟨g9, 2, none⟩ = some (.int .u32 0) := H92.out.cell_ (i := 2) rfl
      have a3 : w6.cell? ⟨g9, 3, none⟩ = some (.int .u32 0) := H92.out.cell_ (i := 3) rfl
      have a4 : w6.cell? ⟨g9, 4, none⟩ = some (.int .u32 0) := H92.out.cell_ (i := 4) rfl
      have f0 : w6.frozen? ⟨g9, 0, none⟩ = false := H92.out.frozen 0
      have f1 : w6.frozen? ⟨g9, 1, none⟩ = false := H92.out.frozen 1
      have f2 : w6.frozen? ⟨g9, 2, none⟩ = false := H92.out.frozen 2
      have f3 : w6.frozen? ⟨g9, 3, none⟩ = false := H92.out.frozen 3
      have f4 : w6.frozen? ⟨g9, 4, none⟩ = false := H92.out.frozen 4
      refine mpc 32 rfl (by kernel_rfl) (by rfl) (fun K hK => ?_)
      go_simp
      have ho := five_only (Only.refl (· = g9) w6) (g := g9) (.inr rfl) (.int .i64 a5.k) (.int .i64 a5.c) (.int .u32 a5.x) (.int .u32 a5.y) (.int .u32 a5.o)
      have HP3 := Lib.hid (HP2.out.farRow H92.out ho (by decide) (by decide) (by decide))
      have HO3 := Lib.hid (five_only HO2.out (g := g9) (.inl HG9.out) (.int .i64 a5.k) (.int .i64 a5.c) (.int .u32 a5.x) (.int .u32 a5.y) (.int .u32 a5.o))
      have H83 := Lib.hid (H82.out.only ho H89.out)
      have H93 := Lib.hid (five H92.out (.int .i64 a5.k) (.int .i64 a5.c) (.int .u32 a5.x) (.int .u32 a5.y) (.int .u32 a5.o))
      refine hK.out _ _ (.inl (by kernel_rfl)) ?_
      clear hK K ho a0 a1 a2 a3 a4 f0 f1 f2 f3 f4 HP2 HO2 H82 H92
      generalize (((((w6.setCell ⟨g9, 0, none⟩ (.int .i64 a5.k)).setCell ⟨g9, 1, none⟩ (.int .i64 a5.c)).setCell ⟨g9, 2, none⟩ (.int .u32 a5.x)).setCell ⟨g9, 3, none⟩ (.int .u32 a5.y)).setCell ⟨g9, 4, none⟩ (.int .u32 a5.o)) = w7 at *
      refine za 33 rfl ?_
      refine za 34 rfl ?_
      refine wpAnyP_done (by kernel_rfl) ?_ _
      have c0 : w7.cell? ⟨g8, 0, none⟩ = some (.int .i64 nx) := H83.out.cell_ (i := 0) rfl
      have c8 : w7.cell? ⟨B, 8, none⟩ = some (.int .i64 r.s) := HP3.out.row.cell_ (i := 8) rfl
      have f8 : w7.frozen? ⟨B, 8, none⟩ = false := HP3.out.row.frozen 8
      go_upto_region 3 with (fail)
      clear c0 c8 f8
      have ho := (Only.refl (· = B) w7).setCell (p := ⟨B, 8, none⟩) (.inr rfl) (.int .i64 nx)
      have HP4 := Lib.hid (HP3.out.setS nx)
      have HO4 := Lib.hid (HO3.out.setCell (p := ⟨B, 8, none⟩) (.inr (.inl rfl)) (.int .i64 nx))
      have H94 := Lib.hid (H93.out.only ho HB9.out)
      clear ho HP3 HO3 H83 H93
      generalize w7.setCell ⟨B, 8, none⟩ (.int .i64 nx) = w8 at *
      have a0 : w8.cell? ⟨g9, 0, none⟩ = some (.int .i64 a5.k) := H94.out.cell_ (i := 0) rfl
      have a1 : w8.cell? ⟨g9, 1, none⟩ = some (.int .i64 a5.c) := H94.out.cell_ (i := 1) rfl
      have a2 : w8.cell? ⟨g9, 2, none⟩ = some (.int .u32 a5.x) := H94.out.cell_ (i := 2) rfl
      have a3 : w8.cell? ⟨g9, 3, none⟩ = some (.int .u32 a5.y) := H94.out.cell_ (i := 3) rfl
      have a4 : w8.cell? ⟨g9, 4, none⟩ = some (.int .u32 a5.o) := H94.out.cell_ (i := 4) rfl
      have b14 : w8.cell? ⟨B, 14, none⟩ = some (.int .i64 r.acc.k) := HP4.out.row.cell_ (i := 14) rfl
      have b15 : w8.cell? ⟨B, 15, none⟩ = some (.int .i64 r.acc.c) := HP4.out.row.cell_ (i := 15) rfl
      have b16 : w8.cell? ⟨B, 16, none⟩ = some (.int .u32 r.acc.x) := HP4.out.row.cell_ (i := 16) rfl
      have b17 : w8.cell? ⟨B, 17, none⟩ = some (.int .u32 r.acc.y) := HP4.out.row.cell_ (i := 17) rfl
      have b18 : w8.cell? ⟨B, 18, none⟩ = some (.int .u32 r.acc.o) := HP4.out.row.cell_ (i := 18) rfl
      have f14 : w8.frozen? ⟨B, 14, none⟩ = false := HP4.out.row.frozen 14
      have f15 : w8.frozen? ⟨B, 15, none⟩ = false := HP4.out.row.frozen 15
      have f16 : w8.frozen? ⟨B, 16, none⟩ = false := HP4.out.row.frozen 16
      have f17 : w8.frozen? ⟨B, 17, none⟩ = false := HP4.out.row.frozen 17
      have f18 : w8.frozen? ⟨B, 18, none⟩ = false := HP4.out.row.frozen 18
      go_wp2
      clear a0 a1 a2 a3 a4 b14 b15 b16 b17 b18 f14 f15 f16 f17 f18
      go_ret2
      exact ⟨rfl, set_acc_only HO4.out (B := B) (.inl rfl) _ _ _ _ _, nv, HP4.out.setAcc a5⟩
    · go_simp
      have e1 := (Only.refl Nil w3).alloc (.cells #[.int .i64 0, .int .i64 0, .int .u32 0, .int .u32 0, .int .u32 0] 39)
      have HP2 := Lib.hid (HP.out.keep e1)
      have HO2 := Lib.hid (HO.out.alloc (.cells #[.int .i64 0, .int .i64 0, .int .u32 0, .int .u32 0, .int .u32 0] 39))
      have HX2 := Lib.hid ((HX.out.keep e1).cons (Row.new w3 39 #[.int .i64 0, .int .i64 0, .int .u32 0, .int .u32 0, .int .u32 0]))
      have HG9 := Lib.hid HO.out.size
      refine hK.out _ _ (.inl (by kernel_rfl)) ?_
      clear hK K e1 HP HO HX
      generalize w3.alloc (.cells #[.int .i64 0, .int .i64 0, .int .u32 0, .int .u32 0, .int .u32 0] 39) = w4 at *
      generalize w3.heap.size = g9 at *
      have HP := HP2
      have HO := HO2
      have HX := HX2
      clear HP2 HO2 HX2
      refine mpc 29 rfl (by kernel_rfl) (by rfl) (fun K hK => ?_)
      go_simp
      have e1 := (Only.refl Nil w4).alloc (.cells #[.int .i64 0] 25)
      have HP2 := Lib.hid (HP.out.keep e1)
      have HO2 := Lib.hid (HO.out.alloc (.cells #[.int .i64 0] 25))
      have HX2 := Lib.hid ((HX.out.keep e1).cons (Row.new w4 25 #[.int .i64 0]))
      have HG8 := Lib.hid HO.out.size
      refine hK.out _ _ (.inl (by kernel_rfl)) ?_
      clear hK K e1 HP HO HX
      generalize w4.alloc (.cells #[.int .i64 0] 25) = w5 at *
      generalize w4.heap.size = g8 at *
      have HP := HP2
      have HO := HO2
      have HX := HX2
      clear HP2 HO2 HX2
      have H8 : Hid (Row w5 g8 25 #[.int .i64 0]) := Lib.hid (HX.out (g8, 25, #[.int .i64 0]) (by simp))
      have H9 : Hid (Row w5 g9 39 #[.int .i64 0, .int .i64 0, .int .u32 0, .int .u32 0, .int .u32 0]) := Lib.hid (HX.out (g9, 39, #[.int .i64 0, .int .i64 0, .int .u32 0, .int .u32 0, .int .u32 0]) (by simp))
      have H89 := Lib.hid (row_ne H8.out H9.out (by decide))
      have hb8 := row_ne H8.out HP.out.row (by decide)
      have hb9 := row_ne H9.out HP.out.row (by decide)
      have HB8 := Lib.hid hb8
      have HB9 := Lib.hid hb9
      clear HX hb8 hb9
      have c0 : w5.cell? ⟨g8, 0, none⟩ = some (.int .i64 0) := H8.out.cell_ (i := 0) rfl
      have f0 : w5.frozen? ⟨g8, 0, none⟩ = false := H8.out.frozen 0
      refine mpc 31 rfl (by kernel_rfl) (by rfl) (fun K hK => ?_)
      go_simp
      have ho := (Only.refl (· = g8) w5).setCell (p := ⟨g8, 0, none⟩) (.inr rfl) (.int .i64 nx)
      have HP2 := Lib.hid (HP.out.farRow H8.out ho (by decide) (by decide) (by decide))
      have HO2 := Lib.hid (HO.out.setCell (p := ⟨g8, 0, none⟩) (.inl (HG8.out)) (.int .i64 nx))
      have H82 := Lib.hid (H8.out.set 0 (.int .i64 nx))
      have H92 := Lib.hid (H9.out.only ho (Ne.symm H89.out))
      refine hK.out _ _ (.inl (by kernel_rfl)) ?_
      clear hK K ho c0 f0 HP HO H8 H9
      generalize w5.setCell ⟨g8, 0, none⟩ (.int .i64 nx) = w6 at *
      have a0 : w6.cell? ⟨g9, 0, none⟩ = some (.int .i64 0) := H92.out.cell_ (i := 0) rfl
      have a1 : w6.cell? ⟨g9, 1, none⟩ = some (.int .i64 0) := H92.out.cell_ (i := 1) rfl
      have a2 : w6.cell? ⟨g9, 2, none⟩ = some (.int .u32 0) := H92.out.cell_ (i := 2) rfl
      have a3 : w6.cell? ⟨g9, 3, none⟩ = some (.int .u32 0) := H92.out.cell_ (i := 3) rfl
      have a4 : w6.cell? ⟨g9, 4, none⟩ = some (.int .u32 0) := H92.out.cell_ (i := 4) rfl
      have f0 : w6.frozen? ⟨g9, 0, none⟩ = false := H92.out.frozen 0
      have f1 : w6.frozen? ⟨g9, 1, none⟩ = false := H92.out.frozen 1
      have f2 : w6.frozen? ⟨g9, 2, none⟩ = false := H92.out.frozen 2
      have f3 : w6.frozen? ⟨g9, 3, none⟩ = false := H92.out.frozen 3
      have f4 : w6.frozen? ⟨g9, 4, none⟩ = false := H92.out.frozen 4
      refine mpc 32 rfl (by kernel_rfl) (by rfl) (fun K hK => ?_)
      go_simp
      have ho := five_only (Only.refl (· = g9) w6) (g := g9) (.inr rfl) (.int .i64 a5.k) (.int .i64 a5.c) (.int .u32 a5.x) (.int .u32 a5.y) (.int .u32 a5.o)
      have HP3 := Lib.hid (HP2.out.farRow H92.out ho (by decide) (by decide) (by decide))
      have HO3 := Lib.hid (five_only HO2.out (g := g9) (.inl HG9.out) (.int .i64 a5.k) (.int .i64 a5.c) (.int .u32 a5.x) (.int .u32 a5.y) (.int .u32 a5.o))
      have H83 := Lib.hid (H82.out.only ho H89.out)
      have H93 := Lib.hid (five H92.out (.int .i64 a5.k) (.int .i64 a5.c) (.int .u32 a5.x) (.int .u32 a5.y) (.int .u32 a5.o))
      refine hK.out _ _ (.inl (by kernel_rfl)) ?_
      clear hK K ho a0 a1 a2 a3 a4 f0 f1 f2 f3 f4 HP2 HO2 H82 H92
      generalize (((((w6.setCell ⟨g9, 0, none⟩ (.int .i64 a5.k)).setCell ⟨g9, 1, none⟩ (.int .i64 a5.c)).setCell ⟨g9, 2, none⟩ (.int .u32 a5.x)).setCell ⟨g9, 3, none⟩ (.int .u32 a5.y)).setCell ⟨g9, 4, none⟩ (.int .u32 a5.o)) = w7 at *
      refine za 33 rfl ?_
      refine za 34 rfl ?_
      refine wpAnyP_done (by kernel_rfl) ?_ _
      have c0 : w7.cell? ⟨g8, 0, none⟩ = some (.int .i64 nx) := H83.out.cell_ (i := 0) rfl
      have c8 : w7.cell? ⟨B, 8, none⟩ = some (.int .i64 r.s) := HP3.out.row.cell_ (i := 8) rfl
      have f8 : w7.frozen? ⟨B, 8, none⟩ = false := HP3.out.row.frozen 8
      go_upto_region 3 with (fail)
      clear c0 c8 f8
      have ho := (Only.refl (· = B) w7).setCell (p := ⟨B, 8, none⟩) (.inr rfl) (.int .i64 nx)
      have HP4 := Lib.hid (HP3.out.setS nx)
      have HO4 := Lib.hid (HO3.out.setCell (p := ⟨B, 8, none⟩) (.inr (.inl rfl)) (.int .i64 nx))
      have H94 := Lib.hid (H93.out.only ho HB9.out)
      clear ho HP3 HO3 H83 H93
      generalize w7.setCell ⟨B, 8, none⟩ (.int .i64 nx) = w8 at *
      have a0 : w8.cell? ⟨g9, 0, none⟩ = some (.int .i64 a5.k) := H94.out.cell_ (i := 0) rfl
      have a1 : w8.cell? ⟨g9, 1, none⟩ = some (.int .i64 a5.c) := H94.out.cell_ (i := 1) rfl
      have a2 : w8.cell? ⟨g9, 2, none⟩ = some (.int .u32 a5.x) := H94.out.cell_ (i := 2) rfl
      have a3 : w8.cell? ⟨g9, 3, none⟩ = some (.int .u32 a5.y) := H94.out.cell_ (i := 3) rfl
      have a4 : w8.cell? ⟨g9, 4, none⟩ = some (.int .u32 a5.o) := H94.out.cell_ (i := 4) rfl
      have b14 : w8.cell? ⟨B, 14, none⟩ = some (.int .i64 r.acc.k) := HP4.out.row.cell_ (i := 14) rfl
      have b15 : w8.cell? ⟨B, 15, none⟩ = some (.int .i64 r.acc.c) := HP4.out.row.cell_ (i := 15) rfl
      have b16 : w8.cell? ⟨B, 16, none⟩ = some (.int .u32 r.acc.x) := HP4.out.row.cell_ (i := 16) rfl
      have b17 : w8.cell? ⟨B, 17, none⟩ = some (.int .u32 r.acc.y) := HP4.out.row.cell_ (i := 17) rfl
      have b18 : w8.cell? ⟨B, 18, none⟩ = some (.int .u32 r.acc.o) := HP4.out.row.cell_ (i := 18) rfl
      have f14 : w8.frozen? ⟨B, 14, none⟩ = false := HP4.out.row.frozen 14
      have f15 : w8.frozen? ⟨B, 15, none⟩ = false := HP4.out.row.frozen 15
      have f16 : w8.frozen? ⟨B, 16, none⟩ = false := HP4.out.row.frozen 16
      have f17 : w8.frozen? ⟨B, 17, none⟩ = false := HP4.out.row.frozen 17
      have f18 : w8.frozen? ⟨B, 18, none⟩ = false := HP4.out.row.frozen 18
      go_wp2
      clear a0 a1 a2 a3 a4 b14 b15 b16 b17 b18 f14 f15 f16 f17 f18
      go_ret2
      exact ⟨rfl, set_acc_only HO4.out (B := B) (.inl rfl) _ _ _ _ _, nv, HP4.out.setAcc a5⟩
  · go_simp
    clear hHeld
    have e1 := (Only.refl Nil w2).alloc (.cells #[.int .i64 0] 25)
    have HP2 := Lib.hid (HP.out.keep e1)
    have HO2 := Lib.hid (HO.out.alloc (.cells #[.int .i64 0] 25))
    have HX2 := Lib.hid ((HX.out.keep e1).cons (Row.new w2 25 #[.int .i64 0]))
    have HG8 := Lib.hid HO.out.size
    refine hK.out _ _ (.inr (HP2.out.held HX2.out (by simp))) ?_
    clear hK K e1 HP HO HX
    generalize w2.alloc (.cells #[.int .i64 0] 25) = w3 at *
    generalize w2.heap.size = g8 at *
    have HP := HP2
    have HO := HO2
    have HX := HX2
    clear HP2 HO2 HX2
    have hHeld := HP.out.held HX.out (gu := gu) (k := k) (m := m) (x := x) (by simp)
    refine pd_23_30 rfl rfl (by kernel_rfl) (by rfl) (fun K hK => ?_) (by rfl) (fun K hK => ?_)
    · go_simp
      refine (rstep_any base A l cp r.xs r.n r.mode r.task r.s c k m x _ HP.out.own HP.out.len HWF.out).mono ?_
      rw [HST.out]
      intro e w4 hF
      obtain ⟨rfl, hO, hM⟩ := hF
      dsimp only at hM ⊢
      rw [HAC.out]
      dsimp only [Acc5.v]
      have HP2 := Lib.hid (HP.out.call hO hM HZL.out)
      have HO2 := Lib.hid (HO.out.trans hO.turned2)
      have HX2 := Lib.hid (HX.out.call HP.out.own hO (by simp))
      refine hK.out _ _ (.inl (by kernel_rfl)) ?_
      clear hK K hO hM HP HO HX
      have HP := HP2
      have HO := HO2
      have HX := HX2
      clear HP2 HO2 HX2
      refine za 24 rfl ?_
      refine za 25 rfl ?_
      refine za 26 rfl ?_
      refine za 27 rfl ?_
      refine za 28 rfl ?_
      refine mpc 30 rfl (by kernel_rfl) (by rfl) (fun K hK => ?_)
      go_simp
      have e1 := (Only.refl Nil w4).alloc (.cells #[.int .i64 0, .int .i64 0, .int .u32 0, .int .u32 0, .int .u32 0] 39)
      have HP2 := Lib.hid (HP.out.keep e1)
      have HO2 := Lib.hid (HO.out.alloc (.cells #[.int .i64 0, .int .i64 0, .int .u32 0, .int .u32 0, .int .u32 0] 39))
      have HX2 := Lib.hid ((HX.out.keep e1).cons (Row.new w4 39 #[.int .i64 0, .int .i64 0, .int .u32 0, .int .u32 0, .int .u32 0]))
      have HG9 := Lib.hid HO.out.size
      refine hK.out _ _ (.inl (by kernel_rfl)) ?_
      clear hK K e1 HP HO HX
      generalize w4.alloc (.cells #[.int .i64 0, .int .i64 0, .int .u32 0, .int .u32 0, .int .u32 0] 39) = w5 at *
      generalize w4.heap.size = g9 at *
      have HP := HP2
      have HO := HO2
      have HX := HX2
      clear HP2 HO2 HX2
      have H8 : Hid (Row w5 g8 25 #[.int .i64 0]) := Lib.hid (HX.out (g8, 25, #[.int .i64 0]) (by simp))
      have H9 : Hid (Row w5 g9 39 #[.int .i64 0, .int .i64 0, .int .u32 0, .int .u32 0, .int .u32 0]) := Lib.hid (HX.out (g9, 39, #[.int .i64 0, .int .i64 0, .int .u32 0, .int .u32 0, .int .u32 0]) (by simp))
      have H89 := Lib.hid (row_ne H8.out H9.out (by decide))
      have hb8 := row_ne H8.out HP.out.row (by decide)
      have hb9 := row_ne H9.out HP.out.row (by decide)
      have HB8 := Lib.hid hb8
      have HB9 := Lib.hid hb9
      clear HX hb8 hb9
      have c0 : w5.cell? ⟨g8, 0, none⟩ = some (.int .i64 0) := H8.out.cell_ (i := 0) rfl
      have f0 : w5.frozen? ⟨g8, 0, none⟩ = false := H8.out.frozen 0
      refine mpc 31 rfl (by kernel_rfl) (by rfl) (fun K hK => ?_)
      go_simp
      have ho := (Only.refl (· = g8) w5).setCell (p := ⟨g8, 0, none⟩) (.inr rfl) (.int .i64 nx)
      have HP2 := Lib.hid (HP.out.farRow H8.out ho (by decide) (by decide) (by decide))
      have HO2 := Lib.hid (HO.out.setCell (p := ⟨g8, 0, none⟩) (.inl (HG8.out)) (.int .i64 nx))
      have H82 := Lib.hid (H8.out.set 0 (.int .i64 nx))
      have H92 := Lib.hid (H9.out.only ho (Ne.symm H89.out))
      refine hK.out _ _ (.inl (by kernel_rfl)) ?_
      clear hK K ho c0 f0 HP HO H8 H9
      generalize w5.setCell ⟨g8, 0, none⟩ (.int .i64 nx) = w6 at *
      have a0 : w6.cell? ⟨g9, 0, none⟩ = some (.int .i64 0) := H92.out.cell_ (i := 0) rfl
      have a1 : w6.cell? ⟨g9, 1, none⟩ = some (.int .i64 0) := H92.out.cell_ (i := 1) rfl
      have a2 : w6.cell? ⟨g9, 2, none⟩ = some (.int .u32 0) := H92.out.cell_ (i := 2) rfl
      have a3 : w6.cell? ⟨g9, 3, none⟩ = some (.int .u32 0) := H92.out.cell_ (i := 3) rfl
      have a4 : w6.cell? ⟨g9, 4, none⟩ = some (.int .u32 0) := H92.out.cell_ (i := 4) rfl
      have f0 : w6.frozen? ⟨g9, 0, none⟩ = false := H92.out.frozen 0
      have f1 : w6.frozen? ⟨g9, 1, none⟩ = false := H92.out.frozen 1
      have f2 : w6.frozen? ⟨g9, 2, none⟩ = false := H92.out.frozen 2
      have f3 : w6.frozen? ⟨g9, 3, none⟩ = false := H92.out.frozen 3
      have f4 : w6.frozen? ⟨g9, 4, none⟩ = false := H92.out.frozen 4
      refine mpc 32 rfl (by kernel_rfl) (by rfl) (fun K hK => ?_)
      go_simp
      have ho := five_only (Only.refl (· = g9) w6) (g := g9) (.inr rfl) (.int .i64 a5.k) (.int .i64 a5.c) (.int .u32 a5.x) (.int .u32 a5.y) (.int .u32 a5.o)
      have HP3 := Lib.hid (HP2.out.farRow H92.out ho (by decide) (by decide) (by decide))
      have HO3 := Lib.hid (five_only HO2.out (g := g9) (.inl HG9.out) (.int .i64 a5.k) (.int .i64 a5.c) (.int .u32 a5.x) (.int .u32 a5.y) (.int .u32 a5.o))
      have H83 := Lib.hid (H82.out.only ho H89.out)
      have H93 := Lib.hid (five H92.out (.int .i64 a5.k) (.int .i64 a5.c) (.int .u32 a5.x) (.int .u32 a5.y) (.int .u32 a5.o))
      refine hK.out _ _ (.inl (by kernel_rfl)) ?_
      clear hK K ho a0 a1 a2 a3 a4 f0 f1 f2 f3 f4 HP2 HO2 H82 H92
      generalize (((((w6.setCell ⟨g9, 0, none⟩ (.int .i64 a5.k)).setCell ⟨g9, 1, none⟩ (.int .i64 a5.c)).setCell ⟨g9, 2, none⟩ (.int .u32 a5.x)).setCell ⟨g9, 3, none⟩ (.int .u32 a5.y)).setCell ⟨g9, 4, none⟩ (.int .u32 a5.o)) = w7 at *
      refine za 33 rfl ?_
      refine za 34 rfl ?_
      refine wpAnyP_done (by kernel_rfl) ?_ _
      have c0 : w7.cell? ⟨g8, 0, none⟩ = some (.int .i64 nx) := H83.out.cell_ (i := 0) rfl
      have c8 : w7.cell? ⟨B, 8, none⟩ = some (.int .i64 r.s) := HP3.out.row.cell_ (i := 8) rfl
      have f8 : w7.frozen? ⟨B, 8, none⟩ = false := HP3.out.row.frozen 8
      go_upto_region 3 with (fail)
      clear c0 c8 f8
      have ho := (Only.refl (· = B) w7).setCell (p := ⟨B, 8, none⟩) (.inr rfl) (.int .i64 nx)
      have HP4 := Lib.hid (HP3.out.setS nx)
      have HO4 := Lib.hid (HO3.out.setCell (p := ⟨B, 8, none⟩) (.inr (.inl rfl)) (.int .i64 nx))
      have H94 := Lib.hid (H93.out.only ho HB9.out)
      clear ho HP3 HO3 H83 H93
      generalize w7.setCell ⟨B, 8, none⟩ (.int .i64 nx) = w8 at *
      have a0 : w8.cell? ⟨g9, 0, none⟩ = some (.int .i64 a5.k) := H94.out.cell_ (i := 0) rfl
      have a1 : w8.cell? ⟨g9, 1, none⟩ = some (.int .i64 a5.c) := H94.out.cell_ (i := 1) rfl
      have a2 : w8.cell? ⟨g9, 2, none⟩ = some (.int .u32 a5.x) := H94.out.cell_ (i := 2) rfl
      have a3 : w8.cell? ⟨g9, 3, none⟩ = some (.int .u32 a5.y) := H94.out.cell_ (i := 3) rfl
      have a4 : w8.cell? ⟨g9, 4, none⟩ = some (.int .u32 a5.o) := H94.out.cell_ (i := 4) rfl
      have b14 : w8.cell? ⟨B, 14, none⟩ = some (.int .i64 r.acc.k) := HP4.out.row.cell_ (i := 14) rfl
      have b15 : w8.cell? ⟨B, 15, none⟩ = some (.int .i64 r.acc.c) := HP4.out.row.cell_ (i := 15) rfl
      have b16 : w8.cell? ⟨B, 16, none⟩ = some (.int .u32 r.acc.x) := HP4.out.row.cell_ (i := 16) rfl
      have b17 : w8.cell? ⟨B, 17, none⟩ = some (.int .u32 r.acc.y) := HP4.out.row.cell_ (i := 17) rfl
      have b18 : w8.cell? ⟨B, 18, none⟩ = some (.int .u32 r.acc.o) := HP4.out.row.cell_ (i := 18) rfl
      have f14 : w8.frozen? ⟨B, 14, none⟩ = false := HP4.out.row.frozen 14
      have f15 : w8.frozen? ⟨B, 15, none⟩ = false := HP4.out.row.frozen 15
      have f16 : w8.frozen? ⟨B, 16, none⟩ = false := HP4.out.row.frozen 16
      have f17 : w8.frozen? ⟨B, 17, none⟩ = false := HP4.out.row.frozen 17
      have f18 : w8.frozen? ⟨B, 18, none⟩ = false := HP4.out.row.frozen 18
      go_wp2
      clear a0 a1 a2 a3 a4 b14 b15 b16 b17 b18 f14 f15 f16 f17 f18
      go_ret2
      exact ⟨rfl, set_acc_only HO4.out (B := B) (.inl rfl) _ _ _ _ _, nv, HP4.out.setAcc a5⟩
    · go_simp
      clear hHeld
      have e1 := (Only.refl Nil w3).alloc (.cells #[.int .i64 0, .int .i64 0, .int .u32 0, .int .u32 0, .int .u32 0] 39)
      have HP2 := Lib.hid (HP.out.keep e1)
      have HO2 := Lib.hid (HO.out.alloc (.cells #[.int .i64 0, .int .i64 0, .int .u32 0, .int .u32 0, .int .u32 0] 39))
      have HX2 := Lib.hid ((HX.out.keep e1).cons (Row.new w3 39 #[.int .i64 0, .int .i64 0, .int .u32 0, .int .u32 0, .int .u32 0]))
      have HG9 := Lib.hid HO.out.size
      refine hK.out _ _ (.inr (HP2.out.held HX2.out (by simp))) ?_
      clear hK K e1 HP HO HX
      generalize w3.alloc (.cells #[.int .i64 0, .int .i64 0, .int .u32 0, .int .u32 0, .int .u32 0] 39) = w4 at *
      generalize w3.heap.size = g9 at *
      have HP := HP2
      have HO := HO2
      have HX := HX2
      clear HP2 HO2 HX2
      have hHeld := HP.out.held HX.out (gu := gu) (k := k) (m := m) (x := x) (by simp)
      refine mpc 23 rfl (by kernel_rfl) (by rfl) (fun K hK => ?_)
      go_simp
      refine (rstep_any base A l cp r.xs r.n r.mode r.task r.s c k m x _ HP.out.own HP.out.len HWF.out).mono ?_
      rw [HST.out]
      intro e w5 hF
      obtain ⟨rfl, hO, hM⟩ := hF
      dsimp only at hM ⊢
      rw [HAC.out]
      dsimp only [Acc5.v]
      have HP2 := Lib.hid (HP.out.call hO hM HZL.out)
      have HO2 := Lib.hid (HO.out.trans hO.turned2)
      have HX2 := Lib.hid (HX.out.call HP.out.own hO (by simp))
      refine hK.out _ _ (.inl (by kernel_rfl)) ?_
      clear hK K hO hM HP HO HX
      have HP := HP2
      have HO := HO2
      have HX := HX2
      clear HP2 HO2 HX2
      refine za 24 rfl ?_
      refine za 25 rfl ?_
      refine za 26 rfl ?_
      refine za 27 rfl ?_
      refine za 28 rfl ?_
      have H8 : Hid (Row w5 g8 25 #[.int .i64 0]) := Lib.hid (HX.out (g8, 25, #[.int .i64 0]) (by simp))
      have H9 : Hid (Row w5 g9 39 #[.int .i64 0, .int .i64 0, .int .u32 0, .int .u32 0, .int .u32 0]) := Lib.hid (HX.out (g9, 39, #[.int .i64 0, .int .i64 0, .int .u32 0, .int .u32 0, .int .u32 0]) (by simp))
      have H89 := Lib.hid (row_ne H8.out H9.out (by decide))
      have hb8 := row_ne H8.out HP.out.row (by decide)
      have hb9 := row_ne H9.out HP.out.row (by decide)
      have HB8 := Lib.hid hb8
      have HB9 := Lib.hid hb9
      clear HX hb8 hb9
      have c0 : w5.cell? ⟨g8, 0, none⟩ = some (.int .i64 0) := H8.out.cell_ (i := 0) rfl
      have f0 : w5.frozen? ⟨g8, 0, none⟩ = false := H8.out.frozen 0
      refine mpc 31 rfl (by kernel_rfl) (by rfl) (fun K hK => ?_)
      go_simp
      have ho := (Only.refl (· = g8) w5).setCell (p := ⟨g8, 0, none⟩) (.inr rfl) (.int .i64 nx)
      have HP2 := Lib.hid (HP.out.farRow H8.out ho (by decide) (by decide) (by decide))
      have HO2 := Lib.hid (HO.out.setCell (p := ⟨g8, 0, none⟩) (.inl (HG8.out)) (.int .i64 nx))
      have H82 := Lib.hid (H8.out.set 0 (.int .i64 nx))
      have H92 := Lib.hid (H9.out.only ho (Ne.symm H89.out))
      refine hK.out _ _ (.inl (by kernel_rfl)) ?_
      clear hK K ho c0 f0 HP HO H8 H9
      generalize w5.setCell ⟨g8, 0, none⟩ (.int .i64 nx) = w6 at *
      have a0 : w6.cell? ⟨g9, 0, none⟩ = some (.int .i64 0) := H92.out.cell_ (i := 0) rfl
      have a1 : w6.cell? ⟨g9, 1, none⟩ = some (.int .i64 0) := H92.out.cell_ (i := 1) rfl
      have a2 : w6.cell? ⟨g9, 2, none⟩ = some (.int .u32 0) := H92.out.cell_ (i := 2) rfl
      have a3 : w6.cell? ⟨g9, 3, none⟩ = some (.int .u32 0) := H92.out.cell_ (i := 3) rfl
      have a4 : w6.cell? ⟨g9, 4, none⟩ = some (.int .u32 0) := H92.out.cell_ (i := 4) rfl
      have f0 : w6.frozen? ⟨g9, 0, none⟩ = false := H92.out.frozen 0
      have f1 : w6.frozen? ⟨g9, 1, none⟩ = false := H92.out.frozen 1
      have f2 : w6.frozen? ⟨g9, 2, none⟩ = false := H92.out.frozen 2
      have f3 : w6.frozen? ⟨g9, 3, none⟩ = false := H92.out.frozen 3
      have f4 : w6.frozen? ⟨g9, 4, none⟩ = false := H92.out.frozen 4
      refine mpc 32 rfl (by kernel_rfl) (by rfl) (fun K hK => ?_)
      go_simp
      have ho := five_only (Only.refl (· = g9) w6) (g := g9) (.inr rfl) (.int .i64 a5.k) (.int .i64 a5.c) (.int .u32 a5.x) (.int .u32 a5.y) (.int .u32 a5.o)
      have HP3 := Lib.hid (HP2.out.farRow H92.out ho (by decide) (by decide) (by decide))
      have HO3 := Lib.hid (five_only HO2.out (g := g9) (.inl HG9.out) (.int .i64 a5.k) (.int .i64 a5.c) (.int .u32 a5.x) (.int .u32 a5.y) (.int .u32 a5.o))
      have H83 := Lib.hid (H82.out.only ho H89.out)
      have H93 := Lib.hid (five H92.out (.int .i64 a5.k) (.int .i64 a5.c) (.int .u32 a5.x) (.int .u32 a5.y) (.int .u32 a5.o))
      refine hK.out _ _ (.inl (by kernel_rfl)) ?_
      clear hK K ho a0 a1 a2 a3 a4 f0 f1 f2 f3 f4 HP2 HO2 H82 H92
      generalize (((((w6.setCell ⟨g9, 0, none⟩ (.int .i64 a5.k)).setCell ⟨g9, 1, none⟩ (.int .i64 a5.c)).setCell ⟨g9, 2, none⟩ (.int .u32 a5.x)).setCell ⟨g9, 3, none⟩ (.int .u32 a5.y)).setCell ⟨g9, 4, none⟩ (.int .u32 a5.o)) = w7 at *
      refine za 33 rfl ?_
      refine za 34 rfl ?_
      refine wpAnyP_done (by kernel_rfl) ?_ _
      have c0 : w7.cell? ⟨g8, 0, none⟩ = some (.int .i64 nx) := H83.out.cell_ (i := 0) rfl
      have c8 : w7.cell? ⟨B, 8, none⟩ = some (.int .i64 r.s) := HP3.out.row.cell_ (i := 8) rfl
      have f8 : w7.frozen? ⟨B, 8, none⟩ = false := HP3.out.row.frozen 8
      go_upto_region 3 with (fail)
      clear c0 c8 f8
      have ho := (Only.refl (· = B) w7).setCell (p := ⟨B, 8, none⟩) (.inr rfl) (.int .i64 nx)
      have HP4 := Lib.hid (HP3.out.setS nx)
      have HO4 := Lib.hid (HO3.out.setCell (p := ⟨B, 8, none⟩) (.inr (.inl rfl)) (.int .i64 nx))
      have H94 := Lib.hid (H93.out.only ho HB9.out)
      clear ho HP3 HO3 H83 H93
      generalize w7.setCell ⟨B, 8, none⟩ (.int .i64 nx) = w8 at *
      have a0 : w8.cell? ⟨g9, 0, none⟩ = some (.int .i64 a5.k) := H94.out.cell_ (i := 0) rfl
      have a1 : w8.cell? ⟨g9, 1, none⟩ = some (.int .i64 a5.c) := H94.out.cell_ (i := 1) rfl
      have a2 : w8.cell? ⟨g9, 2, none⟩ = some (.int .u32 a5.x) := H94.out.cell_ (i := 2) rfl
      have a3 : w8.cell? ⟨g9, 3, none⟩ = some (.int .u32 a5.y) := H94.out.cell_ (i := 3) rfl
      have a4 : w8.cell? ⟨g9, 4, none⟩ = some (.int .u32 a5.o) := H94.out.cell_ (i := 4) rfl
      have b14 : w8.cell? ⟨B, 14, none⟩ = some (.int .i64 r.acc.k) := HP4.out.row.cell_ (i := 14) rfl
      have b15 : w8.cell? ⟨B, 15, none⟩ = some (.int .i64 r.acc.c) := HP4.out.row.cell_ (i := 15) rfl
      have b16 : w8.cell? ⟨B, 16, none⟩ = some (.int .u32 r.acc.x) := HP4.out.row.cell_ (i := 16) rfl
      have b17 : w8.cell? ⟨B, 17, none⟩ = some (.int .u32 r.acc.y) := HP4.out.row.cell_ (i := 17) rfl
      have b18 : w8.cell? ⟨B, 18, none⟩ = some (.int .u32 r.acc.o) := HP4.out.row.cell_ (i := 18) rfl
      have f14 : w8.frozen? ⟨B, 14, none⟩ = false := HP4.out.row.frozen 14
      have f15 : w8.frozen? ⟨B, 15, none⟩ = false := HP4.out.row.frozen 15
      have f16 : w8.frozen? ⟨B, 16, none⟩ = false := HP4.out.row.frozen 16
      have f17 : w8.frozen? ⟨B, 17, none⟩ = false := HP4.out.row.frozen 17
      have f18 : w8.frozen? ⟨B, 18, none⟩ = false := HP4.out.row.frozen 18
      go_wp2
      clear a0 a1 a2 a3 a4 b14 b15 b16 b17 b18 f14 f15 f16 f17 f18
      go_ret2
      exact ⟨rfl, set_acc_only HO4.out (B := B) (.inl rfl) _ _ _ _ _, nv, HP4.out.setAcc a5⟩
  · go_simp
    clear hHeld
    have e1 := (Only.refl Nil w2).alloc (.cells #[.int .i64 0, .int .i64 0, .int .u32 0, .int .u32 0, .int .u32 0] 39)
    have HP2 := Lib.hid (HP.out.keep e1)
    have HO2 := Lib.hid (HO.out.alloc (.cells #[.int .i64 0, .int .i64 0, .int .u32 0, .int .u32 0, .int .u32 0] 39))
    have HX2 := Lib.hid ((HX.out.keep e1).cons (Row.new w2 39 #[.int .i64 0, .int .i64 0, .int .u32 0, .int .u32 0, .int .u32 0]))
    have HG9 := Lib.hid HO.out.size
    refine hK.out _ _ (.inr (HP2.out.held HX2.out (by simp))) ?_
    clear hK K e1 HP HO HX
    generalize w2.alloc (.cells #[.int .i64 0, .int .i64 0, .int .u32 0, .int .u32 0, .int .u32 0] 39) = w3 at *
    generalize w2.heap.size = g9 at *
    have HP := HP2
    have HO := HO2
    have HX := HX2
    clear HP2 HO2 HX2
    have hHeld := HP.out.held HX.out (gu := gu) (k := k) (m := m) (x := x) (by simp)
    refine pd_23_29 rfl rfl (by kernel_rfl) (by rfl) (fun K hK => ?_) (by rfl) (fun K hK => ?_)
    · go_simp
      refine (rstep_any base A l cp r.xs r.n r.mode r.task r.s c k m x _ HP.out.own HP.out.len HWF.out).mono ?_
      rw [HST.out]
      intro e w4 hF
      obtain ⟨rfl, hO, hM⟩ := hF
      dsimp only at hM ⊢
      rw [HAC.out]
      dsimp only [Acc5.v]
      have HP2 := Lib.hid (HP.out.call hO hM HZL.out)
      have HO2 := Lib.hid (HO.out.trans hO.turned2)
      have HX2 := Lib.hid (HX.out.call HP.out.own hO (by simp))
      refine hK.out _ _ (.inl (by kernel_rfl)) ?_
      clear hK K hO hM HP HO HX
      have HP := HP2
      have HO := HO2
      have HX := HX2
      clear HP2 HO2 HX2
      refine za 24 rfl ?_
      refine za 25 rfl ?_
      refine za 26 rfl ?_
      refine za 27 rfl ?_
      refine za 28 rfl ?_
      refine mpc 29 rfl (by kernel_rfl) (by rfl) (fun K hK => ?_)
      go_simp
      have e1 := (Only.refl Nil w4).alloc (.cells #[.int .i64 0] 25)
      have HP2 := Lib.hid (HP.out.keep e1)
      have HO2 := Lib.hid (HO.out.alloc (.cells #[.int .i64 0] 25))
      have HX2 := Lib.hid ((HX.out.keep e1).cons (Row.new w4 25 #[.int .i64 0]))
      have HG8 := Lib.hid HO.out.size
      refine hK.out _ _ (.inl (by kernel_rfl)) ?_
      clear hK K e1 HP HO HX
      generalize w4.alloc (.cells #[.int .i64 0] 25) = w5 at *
      generalize w4.heap.size = g8 at *
      have HP := HP2
      have HO := HO2
      have HX := HX2
      clear HP2 HO2 HX2
      have H8 : Hid (Row w5 g8 25 #[.int .i64 0]) := Lib.hid (HX.out (g8, 25, #[.int .i64 0]) (by simp))
      have H9 : Hid (Row w5 g9 39 #[.int .i64 0, .int .i64 0, .int .u32 0, .int .u32 0, .int .u32 0]) := Lib.hid (HX.out (g9, 39, #[.int .i64 0, .int .i64 0, .int .u32 0, .int .u32 0, .int .u32 0]) (by simp))
      have H89 := Lib.hid (row_ne H8.out H9.out (by decide))
      have hb8 := row_ne H8.out HP.out.row (by decide)
      have hb9 := row_ne H9.out HP.out.row (by decide)
      have HB8 := Lib.hid hb8
      have HB9 := Lib.hid hb9
      clear HX hb8 hb9
      have c0 : w5.cell? ⟨g8, 0, none⟩ = some (.int .i64 0) := H8.out.cell_ (i := 0) rfl
      have f0 : w5.frozen? ⟨g8, 0, none⟩ = false := H8.out.frozen 0
      refine mpc 31 rfl (by kernel_rfl) (by rfl) (fun K hK => ?_)
      go_simp
      have ho := (Only.refl (· = g8) w5).setCell (p := ⟨g8, 0, none⟩) (.inr rfl) (.int .i64 nx)
      have HP2 := Lib.hid (HP.out.farRow H8.out ho (by decide) (by decide) (by decide))
      have HO2 := Lib.hid (HO.out.setCell (p := ⟨g8, 0, none⟩) (.inl (HG8.out)) (.int .i64 nx))
      have H82 := Lib.hid (H8.out.set 0 (.int .i64 nx))
      have H92 := Lib.hid (H9.out.only ho (Ne.symm H89.out))
      refine hK.out _ _ (.inl (by kernel_rfl)) ?_
      clear hK K ho c0 f0 HP HO H8 H9
      generalize w5.setCell ⟨g8, 0, none⟩ (.int .i64 nx) = w6 at *
      have a0 : w6.cell? ⟨g9, 0, none⟩ = some (.int .i64 0) := H92.out.cell_ (i := 0) rfl
      have a1 : w6.cell? ⟨g9, 1, none⟩ = some (.int .i64 0) := H92.out.cell_ (i := 1) rfl
      have a2 : w6.cell? ⟨g9, 2, none⟩ = some (.int .u32 0) := H92.out.cell_ (i := 2) rfl
      have a3 : w6.cell? ⟨g9, 3, none⟩ = some (.int .u32 0) := H92.out.cell_ (i := 3) rfl
      have a4 : w6.cell? ⟨g9, 4, none⟩ = some (.int .u32 0) := H92.out.cell_ (i := 4) rfl
      have f0 : w6.frozen? ⟨g9, 0, none⟩ = false := H92.out.frozen 0
      have f1 : w6.frozen? ⟨g9, 1, none⟩ = false := H92.out.frozen 1
      have f2 : w6.frozen? ⟨g9, 2, none⟩ = false := H92.out.frozen 2
      have f3 : w6.frozen? ⟨g9, 3, none⟩ = false := H92.out.frozen 3
      have f4 : w6.frozen? ⟨g9, 4, none⟩ = false := H92.out.frozen 4
      refine mpc 32 rfl (by kernel_rfl) (by rfl) (fun K hK => ?_)
      go_simp
      have ho := five_only (Only.refl (· = g9) w6) (g := g9) (.inr rfl) (.int .i64 a5.k) (.int .i64 a5.c) (.int .u32 a5.x) (.int .u32 a5.y) (.int .u32 a5.o)
      have HP3 := Lib.hid (HP2.out.farRow H92.out ho (by decide) (by decide) (by decide))
      have HO3 := Lib.hid (five_only HO2.out (g := g9) (.inl HG9.out) (.int .i64 a5.k) (.int .i64 a5.c) (.int .u32 a5.x) (.int .u32 a5.y) (.int .u32 a5.o))
      have H83 := Lib.hid (H82.out.only ho H89.out)
      have H93 := Lib.hid (five H92.out (.int .i64 a5.k) (.int .i64 a5.c) (.int .u32 a5.x) (.int .u32 a5.y) (.int .u32 a5.o))
      refine hK.out _ _ (.inl (by kernel_rfl)) ?_
      clear hK K ho a0 a1 a2 a3 a4 f0 f1 f2 f3 f4 HP2 HO2 H82 H92
      generalize (((((w6.setCell ⟨g9, 0, none⟩ (.int .i64 a5.k)).setCell ⟨g9, 1, none⟩ (.int .i64 a5.c)).setCell ⟨g9, 2, none⟩ (.int .u32 a5.x)).setCell ⟨g9, 3, none⟩ (.int .u32 a5.y)).setCell ⟨g9, 4, none⟩ (.int .u32 a5.o)) = w7 at *
      refine za 33 rfl ?_
      refine za 34 rfl ?_
      refine wpAnyP_done (by kernel_rfl) ?_ _
      have c0 : w7.cell? ⟨g8, 0, none⟩ = some (.int .i64 nx) := H83.out.cell_ (i := 0) rfl
      have c8 : w7.cell? ⟨B, 8, none⟩ = some (.int .i64 r.s) := HP3.out.row.cell_ (i := 8) rfl
      have f8 : w7.frozen? ⟨B, 8, none⟩ = false := HP3.out.row.frozen 8
      go_upto_region 3 with (fail)
      clear c0 c8 f8
      have ho := (Only.refl (· = B) w7).setCell (p := ⟨B, 8, none⟩) (.inr rfl) (.int .i64 nx)
      have HP4 := Lib.hid (HP3.out.setS nx)
      have HO4 := Lib.hid (HO3.out.setCell (p := ⟨B, 8, none⟩) (.inr (.inl rfl)) (.int .i64 nx))
      have H94 := Lib.hid (H93.out.only ho HB9.out)
      clear ho HP3 HO3 H83 H93
      generalize w7.setCell ⟨B, 8, none⟩ (.int .i64 nx) = w8 at *
      have a0 : w8.cell? ⟨g9, 0, none⟩ = some (.int .i64 a5.k) := H94.out.cell_ (i := 0) rfl
      have a1 : w8.cell? ⟨g9, 1, none⟩ = some (.int .i64 a5.c) := H94.out.cell_ (i := 1) rfl
      have a2 : w8.cell? ⟨g9, 2, none⟩ = some (.int .u32 a5.x) := H94.out.cell_ (i := 2) rfl
      have a3 : w8.cell? ⟨g9, 3, none⟩ = some (.int .u32 a5.y) := H94.out.cell_ (i := 3) rfl
      have a4 : w8.cell? ⟨g9, 4, none⟩ = some (.int .u32 a5.o) := H94.out.cell_ (i := 4) rfl
      have b14 : w8.cell? ⟨B, 14, none⟩ = some (.int .i64 r.acc.k) := HP4.out.row.cell_ (i := 14) rfl
      have b15 : w8.cell? ⟨B, 15, none⟩ = some (.int .i64 r.acc.c) := HP4.out.row.cell_ (i := 15) rfl
      have b16 : w8.cell? ⟨B, 16, none⟩ = some (.int .u32 r.acc.x) := HP4.out.row.cell_ (i := 16) rfl
      have b17 : w8.cell? ⟨B, 17, none⟩ = some (.int .u32 r.acc.y) := HP4.out.row.cell_ (i := 17) rfl
      have b18 : w8.cell? ⟨B, 18, none⟩ = some (.int .u32 r.acc.o) := HP4.out.row.cell_ (i := 18) rfl
      have f14 : w8.frozen? ⟨B, 14, none⟩ = false := HP4.out.row.frozen 14
      have f15 : w8.frozen? ⟨B, 15, none⟩ = false := HP4.out.row.frozen 15
      have f16 : w8.frozen? ⟨B, 16, none⟩ = false := HP4.out.row.frozen 16
      have f17 : w8.frozen? ⟨B, 17, none⟩ = false := HP4.out.row.frozen 17
      have f18 : w8.frozen? ⟨B, 18, none⟩ = false := HP4.out.row.frozen 18
      go_wp2
      clear a0 a1 a2 a3 a4 b14 b15 b16 b17 b18 f14 f15 f16 f17 f18
      go_ret2
      exact ⟨rfl, set_acc_only HO4.out (B := B) (.inl rfl) _ _ _ _ _, nv, HP4.out.setAcc a5⟩
    · go_simp
      clear hHeld
      have e1 := (Only.refl Nil w3).alloc (.cells #[.int .i64 0] 25)
      have HP2 := Lib.hid (HP.out.keep e1)
      have HO2 := Lib.hid (HO.out.alloc (.cells #[.int .i64 0] 25))
      have HX2 := Lib.hid ((HX.out.keep e1).cons (Row.new w3 25 #[.int .i64 0]))
      have HG8 := Lib.hid HO.out.size
      refine hK.out _ _ (.inr (HP2.out.held HX2.out (by simp))) ?_
      clear hK K e1 HP HO HX
      generalize w3.alloc (.cells #[.int .i64 0] 25) = w4 at *
      generalize w3.heap.size = g8 at *
      have HP := HP2
      have HO := HO2
      have HX := HX2
      clear HP2 HO2 HX2
      have hHeld := HP.out.held HX.out (gu := gu) (k := k) (m := m) (x := x) (by simp)
      refine mpc 23 rfl (by kernel_rfl) (by rfl) (fun K hK => ?_)
      go_simp
      refine (rstep_any base A l cp r.xs r.n r.mode r.task r.s c k m x _ HP.out.own HP.out.len HWF.out).mono ?_
      rw [HST.out]
      intro e w5 hF
      obtain ⟨rfl, hO, hM⟩ := hF
      dsimp only at hM ⊢
      rw [HAC.out]
      dsimp only [Acc5.v]
      have HP2 := Lib.hid (HP.out.call hO hM HZL.out)
      have HO2 := Lib.hid (HO.out.trans hO.turned2)
      have HX2 := Lib.hid (HX.out.call HP.out.own hO (by simp))
      refine hK.out _ _ (.inl (by kernel_rfl)) ?_
      clear hK K hO hM HP HO HX
      have HP := HP2
      have HO := HO2
      have HX := HX2
      clear HP2 HO2 HX2
      refine za 24 rfl ?_
      refine za 25 rfl ?_
      refine za 26 rfl ?_
      refine za 27 rfl ?_
      refine za 28 rfl ?_
      have H8 : Hid (Row w5 g8 25 #[.int .i64 0]) := Lib.hid (HX.out (g8, 25, #[.int .i64 0]) (by simp))
      have H9 : Hid (Row w5 g9 39 #[.int .i64 0, .int .i64 0, .int .u32 0, .int .u32 0, .int .u32 0]) := Lib.hid (HX.out (g9, 39, #[.int .i64 0, .int .i64 0, .int .u32 0, .int .u32 0, .int .u32 0]) (by simp))
      have H89 := Lib.hid (row_ne H8.out H9.out (by decide))
      have hb8 := row_ne H8.out HP.out.row (by decide)
      have hb9 := row_ne H9.out HP.out.row (by decide)
      have HB8 := Lib.hid hb8
      have HB9 := Lib.hid hb9
      clear HX hb8 hb9
      have c0 : w5.cell? ⟨g8, 0, none⟩ = some (.int .i64 0) := H8.out.cell_ (i := 0) rfl
      have f0 : w5.frozen? ⟨g8, 0, none⟩ = false := H8.out.frozen 0
      refine mpc 31 rfl (by kernel_rfl) (by rfl) (fun K hK => ?_)
      go_simp
      have ho := (Only.refl (· = g8) w5).setCell (p := ⟨g8, 0, none⟩) (.inr rfl) (.int .i64 nx)
      have HP2 := Lib.hid (HP.out.farRow H8.out ho (by decide) (by decide) (by decide))
      have HO2 := Lib.hid (HO.out.setCell (p := ⟨g8, 0, none⟩) (.inl (HG8.out)) (.int .i64 nx))
      have H82 := Lib.hid (H8.out.set 0 (.int .i64 nx))
      have H92 := Lib.hid (H9.out.only ho (Ne.symm H89.out))
      refine hK.out _ _ (.inl (by kernel_rfl)) ?_
      clear hK K ho c0 f0 HP HO H8 H9
      generalize w5.setCell ⟨g8, 0, none⟩ (.int .i64 nx) = w6 at *
      have a0 : w6.cell? ⟨g9, 0, none⟩ = some (.int .i64 0) := H92.out.cell_ (i := 0) rfl
      have a1 : w6.cell? ⟨g9, 1, none⟩ = some (.int .i64 0) := H92.out.cell_ (i := 1) rfl
      have a2 : w6.cell? ⟨g9, 2, none⟩ = some (.int .u32 0) := H92.out.cell_ (i := 2) rfl
      have a3 : w6.cell? ⟨g9, 3, none⟩ = some (.int .u32 0) := H92.out.cell_ (i := 3) rfl
      have a4 : w6.cell? ⟨g9, 4, none⟩ = some (.int .u32 0) := H92.out.cell_ (i := 4) rfl
      have f0 : w6.frozen? ⟨g9, 0, none⟩ = false := H92.out.frozen 0
      have f1 : w6.frozen? ⟨g9, 1, none⟩ = false := H92.out.frozen 1
      have f2 : w6.frozen? ⟨g9, 2, none⟩ = false := H92.out.frozen 2
      have f3 : w6.frozen? ⟨g9, 3, none⟩ = false := H92.out.frozen 3
      have f4 : w6.frozen? ⟨g9, 4, none⟩ = false := H92.out.frozen 4
      refine mpc 32 rfl (by kernel_rfl) (by rfl) (fun K hK => ?_)
      go_simp
      have ho := five_only (Only.refl (· = g9) w6) (g := g9) (.inr rfl) (.int .i64 a5.k) (.int .i64 a5.c) (.int .u32 a5.x) (.int .u32 a5.y) (.int .u32 a5.o)
      have HP3 := Lib.hid (HP2.out.farRow H92.out ho (by decide) (by decide) (by decide))
      have HO3 := Lib.hid (five_only HO2.out (g := g9) (.inl HG9.out) (.int .i64 a5.k) (.int .i64 a5.c) (.int .u32 a5.x) (.int .u32 a5.y) (.int .u32 a5.o))
      have H83 := Lib.hid (H82.out.only ho H89.out)
      have H93 := Lib.hid (five H92.out (.int .i64 a5.k) (.int .i64 a5.c) (.int .u32 a5.x) (.int .u32 a5.y) (.int .u32 a5.o))
      refine hK.out _ _ (.inl (by kernel_rfl)) ?_
      clear hK K ho a0 a1 a2 a3 a4 f0 f1 f2 f3 f4 HP2 HO2 H82 H92
      generalize (((((w6.setCell ⟨g9, 0, none⟩ (.int .i64 a5.k)).setCell ⟨g9, 1, none⟩ (.int .i64 a5.c)).setCell ⟨g9, 2, none⟩ (.int .u32 a5.x)).setCell ⟨g9, 3, none⟩ (.int .u32 a5.y)).setCell ⟨g9, 4, none⟩ (.int .u32 a5.o)) = w7 at *
      refine za 33 rfl ?_
      refine za 34 rfl ?_
      refine wpAnyP_done (by kernel_rfl) ?_ _
      have c0 : w7.cell? ⟨g8, 0, none⟩ = some (.int .i64 nx) := H83.out.cell_ (i := 0) rfl
      have c8 : w7.cell? ⟨B, 8, none⟩ = some (.int .i64 r.s) := HP3.out.row.cell_ (i := 8) rfl
      have f8 : w7.frozen? ⟨B, 8, none⟩ = false := HP3.out.row.frozen 8
      go_upto_region 3 with (fail)
      clear c0 c8 f8
      have ho := (Only.refl (· = B) w7).setCell (p := ⟨B, 8, none⟩) (.inr rfl) (.int .i64 nx)
      have HP4 := Lib.hid (HP3.out.setS nx)
      have HO4 := Lib.hid (HO3.out.setCell (p := ⟨B, 8, none⟩) (.inr (.inl rfl)) (.int .i64 nx))
      have H94 := Lib.hid (H93.out.only ho HB9.out)
      clear ho HP3 HO3 H83 H93
      generalize w7.setCell ⟨B, 8, none⟩ (.int .i64 nx) = w8 at *
      have a0 : w8.cell? ⟨g9, 0, none⟩ = some (.int .i64 a5.k) := H94.out.cell_ (i := 0) rfl
      have a1 : w8.cell? ⟨g9, 1, none⟩ = some (.int .i64 a5.c) := H94.out.cell_ (i := 1) rfl
      have a2 : w8.cell? ⟨g9, 2, none⟩ = some (.int .u32 a5.x) := H94.out.cell_ (i := 2) rfl
      have a3 : w8.cell? ⟨g9, 3, none⟩ = some (.int .u32 a5.y) := H94.out.cell_ (i := 3) rfl
      have a4 : w8.cell? ⟨g9, 4, none⟩ = some (.int .u32 a5.o) := H94.out.cell_ (i := 4) rfl
      have b14 : w8.cell? ⟨B, 14, none⟩ = some (.int .i64 r.acc.k) := HP4.out.row.cell_ (i := 14) rfl
      have b15 : w8.cell? ⟨B, 15, none⟩ = some (.int .i64 r.acc.c) := HP4.out.row.cell_ (i := 15) rfl
      have b16 : w8.cell? ⟨B, 16, none⟩ = some (.int .u32 r.acc.x) := HP4.out.row.cell_ (i := 16) rfl
      have b17 : w8.cell? ⟨B, 17, none⟩ = some (.int .u32 r.acc.y) := HP4.out.row.cell_ (i := 17) rfl
      have b18 : w8.cell? ⟨B, 18, none⟩ = some (.int .u32 r.acc.o) := HP4.out.row.cell_ (i := 18) rfl
      have f14 : w8.frozen? ⟨B, 14, none⟩ = false := HP4.out.row.frozen 14
      have f15 : w8.frozen? ⟨B, 15, none⟩ = false := HP4.out.row.frozen 15
      have f16 : w8.frozen? ⟨B, 16, none⟩ = false := HP4.out.row.frozen 16
      have f17 : w8.frozen? ⟨B, 17, none⟩ = false := HP4.out.row.frozen 17
      have f18 : w8.frozen? ⟨B, 18, none⟩ = false := HP4.out.row.frozen 18
      go_wp2
      clear a0 a1 a2 a3 a4 b14 b15 b16 b17 b18 f14 f15 f16 f17 f18
      go_ret2
      exact ⟨rfl, set_acc_only HO4.out (B := B) (.inl rfl) _ _ _ _ _, nv, HP4.out.setAcc a5⟩
end Go.Proofs.YtaeninikaalkjaaGreat
