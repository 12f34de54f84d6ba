import Derived.Test.YtaeninikaalkjaaGreatH28
import Derived.Test.YtaeninikaalkjaaGreatH33
import Derived.Test.YtaeninikaalkjaaGreatH15
import Derived.Test.YtaeninikaalkjaaGreatH26
set_option linter.unusedVariables false
set_option linter.unusedSimpArgs false
namespace Go.Proofs.YtaeninikaalkjaaGreat
open Go.RowKit
theorem RunR.reset {w : World} {B base : Nat} {A : Option Addr} {l cp : Nat} {nv : Value} {r : LS} (h : RunR w B base A l cp nv r) :
    RunR ((((((w.setCell ⟨B, 14, none⟩ (.int .i64 0)).setCell ⟨B, 15, none⟩ (.int .i64 0)).setCell ⟨B, 16, none⟩ (.int .u32 0)).setCell ⟨B, 17, none⟩ (.int .u32 0)).setCell ⟨B, 18, none⟩ (.int .u32 0)).setCell ⟨B, 19, none⟩ (.slice none 0 0)) B base A l cp (.slice none 0 0) r.fresh :=
  (h.setAcc acc0).setNotes (ownN_nil _ _)
theorem rwaking_off (B base : Nat) (A : Option Addr) (l cp : Nat) (nv : Value) (r : LS) (w : World) (h : RunR w B base A l cp nv r) (hon : r.k.on = false) :
    Calls Tryz.prog 9 #[.pointer (some ⟨B, 0, none⟩)] w (DoneR B base A l cp w (.bool false) r.fresh) := by
  have HON := Lib.hid hon
  have a14 : w.cell? ⟨B, 14, none⟩ = some (.int .i64 r.acc.k) := h.row.cell_ (i := 14) rfl
  have a15 : w.cell? ⟨B, 15, none⟩ = some (.int .i64 r.acc.c) := h.row.cell_ (i := 15) rfl
  have a16 : w.cell? ⟨B, 16, none⟩ = some (.int .u32 r.acc.x) := h.row.cell_ (i := 16) rfl
  have a17 : w.cell? ⟨B, 17, none⟩ = some (.int .u32 r.acc.y) := h.row.cell_ (i := 17) rfl
  have a18 : w.cell? ⟨B, 18, none⟩ = some (.int .u32 r.acc.o) := h.row.cell_ (i := 18) rfl
  have a19 : w.cell? ⟨B, 19, none⟩ = some (nv) := h.row.cell_ (i := 19) rfl
  have f14 : w.frozen? ⟨B, 14, none⟩ = false := h.row.frozen 14
  have f15 : w.frozen? ⟨B, 15, none⟩ = false := h.row.frozen 15
  have f16 : w.frozen? ⟨B, 16, none⟩ = false := h.row.frozen 16
  have f17 : w.frozen? ⟨B, 17, none⟩ = false := h.row.frozen 17
  have f18 : w.frozen? ⟨B, 18, none⟩ = false := h.row.frozen 18
  have f19 : w.frozen? ⟨B, 19, none⟩ = false := h.row.frozen 19
  have HP0 := Lib.hid h.reset
  have HO0 := Lib.hid (reset_only (Only.refl (TurnB B A) w) (B := B) (.inl rfl))
  clear h hon
  go_enter Tryz.func9, Tryz.ntmps9
  go_upto_region 3 with (fail)
  clear a14 a15 a16 a17 a18 a19 f14 f15 f16 f17 f18 f19
  generalize ((((((w.setCell ⟨B, 14, none⟩ (.int .i64 0)).setCell ⟨B, 15, none⟩ (.int .i64 0)).setCell ⟨B, 16, none⟩ (.int .u32 0)).setCell ⟨B, 17, none⟩ (.int .u32 0)).setCell ⟨B, 18, none⟩ (.int .u32 0)).setCell ⟨B, 19, none⟩ (.slice none 0 0)) = w1 at *
  have c9 : w1.cell? ⟨B, 9, none⟩ = some (.bool r.k.on) := HP0.out.row.cell_ (i := 9) rfl
  rw [HON.out] at c9
  go_wp2
  go_ret
  exact ⟨rfl, HO0.out, _, HP0.out⟩
set_option maxRecDepth 100000 in
set_option maxHeartbeats 1000000 in
theorem rwaking_on (B base : Nat) (A : Option Addr) (l cp : Nat) (nv : Value) (r : LS) (w : World) (h : RunR w B base A l cp nv r) (hon : r.k.on = true) :
    Calls Tryz.prog 9 #[.pointer (some ⟨B, 0, none⟩)] w (DoneR B base A l cp w (.bool true) r.waking) := by
  have hacc := ofV_wake r.xs r.n r.k.on r.k.c r.k.i r.k.hit
  rw [show r.waking = { r.fresh with acc := ofV (wakeI r.xs r.n r.k.on r.k.c r.k.i r.k.hit).acc, k := (wakeI r.xs r.n r.k.on r.k.c r.k.i r.k.hit).next, xs := (wakeI r.xs r.n r.k.on r.k.c r.k.i r.k.hit).xs } from rfl]
  have hzl : (wakeI r.xs r.n r.k.on r.k.c r.k.i r.k.hit).xs.length = l := by
    rw [← h.len]
    unfold wakeI giveI lookI restI
    repeat' split
    all_goals first | rfl | exact st_len _ _ _
  generalize hst : wakeI r.xs r.n r.k.on r.k.c r.k.i r.k.hit = t at *
  obtain ⟨nx, ac, zs⟩ := t
  dsimp only at hacc hzl ⊢
  generalize ha5 : ofV ac = a5 at *
  have HST := Lib.hid hst
  have HAC := Lib.hid hacc
  have HZL := Lib.hid hzl
  clear hst hacc hzl ha5
  have HON := Lib.hid hon
  have a14 : w.cell? ⟨B, 14, none⟩ = some (.int .i64 r.acc.k) := h.row.cell_ (i := 14) rfl
  have a15 : w.cell? ⟨B, 15, none⟩ = some (.int .i64 r.acc.c) := h.row.cell_ (i := 15) rfl
  have a16 : w.cell? ⟨B, 16, none⟩ = some (.int .u32 r.acc.x) := h.row.cell_ (i := 16) rfl
  have a17 : w.cell? ⟨B, 17, none⟩ = some (.int .u32 r.acc.y) := h.row.cell_ (i := 17) rfl
  have a18 : w.cell? ⟨B, 18, none⟩ = some (.int .u32 r.acc.o) := h.row.cell_ (i := 18) rfl
  have a19 : w.cell? ⟨B, 19, none⟩ = some (nv) := h.row.cell_ (i := 19) rfl
  have f14 : w.frozen? ⟨B, 14, none⟩ = false := h.row.frozen 14
  have f15 : w.frozen? ⟨B, 15, none⟩ = false := h.row.frozen 15
  have f16 : w.frozen? ⟨B, 16, none⟩ = false := h.row.frozen 16
  have f17 : w.frozen? ⟨B, 17, none⟩ = false := h.row.frozen 17
  have f18 : w.frozen? ⟨B, 18, none⟩ = false := h.row.frozen 18
  have f19 : w.frozen? ⟨B, 19, none⟩ = false := h.row.frozen 19
  have HP0 := Lib.hid h.reset
  have HO0 := Lib.hid (reset_only (Only.refl (TurnB B A) w) (B := B) (.inl rfl))
  clear h hon
  go_enter Tryz.func9, Tryz.ntmps9
  go_upto_region 3 with (fail)
  clear a14 a15 a16 a17 a18 a19 f14 f15 f16 f17 f18 f19
  generalize ((((((w.setCell ⟨B, 14, none⟩ (.int .i64 0)).setCell ⟨B, 15, none⟩ (.int .i64 0)).setCell ⟨B, 16, none⟩ (.int .u32 0)).setCell ⟨B, 17, none⟩ (.int .u32 0)).setCell ⟨B, 18, none⟩ (.int .u32 0)).setCell ⟨B, 19, none⟩ (.slice none 0 0)) = w1 at *
  have c9 : w1.cell? ⟨B, 9, none⟩ = some (.bool r.k.on) := HP0.out.row.cell_ (i := 9) rfl
  rw [HON.out] at c9
  go_upto_region 5 with (fail)
  clear c9
  have HQ : r.fresh.xs = r.xs ∧ r.fresh.n = r.n ∧ r.fresh.k = r.k := ⟨rfl, rfl, rfl⟩
  have HQ2 := Lib.hid HQ
  clear HQ
  refine wp_region_phase (n := 26) 15 (fun w => w.cell? ⟨B, 0, none⟩ = some (.slice A l cp) ∧ w.cell? ⟨B, 1, none⟩ = some (.int .i64 r.n) ∧ w.cell? ⟨B, 9, none⟩ = some (.bool r.k.on) ∧ w.cell? ⟨B, 10, none⟩ = some (.int .i64 r.k.c) ∧ w.cell? ⟨B, 11, none⟩ = some (.int .i64 r.k.i) ∧ w.cell? ⟨B, 12, none⟩ = some (.bool r.k.hit)) rfl (by kernel_rfl)
    ⟨HP0.out.row.cell_ (i := 0) rfl, HP0.out.row.cell_ (i := 1) rfl, HP0.out.row.cell_ (i := 9) rfl, HP0.out.row.cell_ (i := 10) rfl, HP0.out.row.cell_ (i := 11) rfl, HP0.out.row.cell_ (i := 12) rfl⟩ (fun hHeld => ?_)
  have HP1 := Lib.hid (HP0.out.keep (Only.refl Nil w1).drew)
  have HO1 := Lib.hid HO0.out.drew
  clear HP0 HO0
  generalize w1.drew = w2 at *
  refine za 0 rfl ?_
  refine za 1 rfl ?_
  refine za 2 rfl ?_
  refine za 3 rfl ?_
  refine za 4 rfl ?_
  refine zt 5 rfl ?_
  refine za 6 rfl ?_
  refine za 7 rfl ?_
  refine za 8 rfl ?_
  refine zt 9 rfl ?_
  refine za 10 rfl ?_
  refine za 11 rfl ?_
  refine za 12 rfl ?_
  refine za 13 rfl ?_
  refine zt 14 rfl ?_
  refine mpc 15 rfl (by kernel_rfl) (by rfl) (fun K hK => ?_)
  go_simp
  refine (rwake_any base A l cp r.xs r.n r.k.on r.k.c r.k.i r.k.hit _ HP1.out.own HP1.out.len).mono ?_
  rw [HST.out]
  intro e w3 hF
  obtain ⟨rfl, hO, hM⟩ := hF
  dsimp only at hM ⊢
  rw [HAC.out]
  clear HAC
  dsimp only [Acc5.v, WkV.v]
  have HP2 := Lib.hid (HP1.out.call hO hM HZL.out)
  have HO2 := Lib.hid (HO1.out.trans hO.turned2)
  refine hK.out _ _ (.inl (by kernel_rfl)) ?_
  clear hK K hHeld hO hM HP1 HO1
  refine za 16 rfl ?_
  refine za 17 rfl ?_
  refine za 18 rfl ?_
  refine za 19 rfl ?_
  refine za 20 rfl ?_
  refine za 21 rfl ?_
  have a9 : w3.cell? ⟨B, 9, none⟩ = some (.bool r.k.on) := HP2.out.row.cell_ (i := 9) rfl
  have a10 : w3.cell? ⟨B, 10, none⟩ = some (.int .i64 r.k.c) := HP2.out.row.cell_ (i := 10) rfl
  have a11 : w3.cell? ⟨B, 11, none⟩ = some (.int .i64 r.k.i) := HP2.out.row.cell_ (i := 11) rfl
  have a12 : w3.cell? ⟨B, 12, none⟩ = some (.bool r.k.hit) := HP2.out.row.cell_ (i := 12) rfl
  have f9 : w3.frozen? ⟨B, 9, none⟩ = false := HP2.out.row.frozen 9
  have f10 : w3.frozen? ⟨B, 10, none⟩ = false := HP2.out.row.frozen 10
  have f11 : w3.frozen? ⟨B, 11, none⟩ = false := HP2.out.row.frozen 11
  have f12 : w3.frozen? ⟨B, 12, none⟩ = false := HP2.out.row.frozen 12
  refine mpc 22 rfl (by kernel_rfl) (by rfl) (fun K hK => ?_)
  go_simp
  have HP3 := Lib.hid (HP2.out.setWake nx)
  have HO3 := Lib.hid (set_wake_only HO2.out (B := B) (.inl rfl) (.bool nx.on) (.int .i64 nx.c) (.int .i64 nx.i) (.bool nx.hit))
  refine hK.out _ _ (.inl (by kernel_rfl)) ?_
  clear hK K a9 a10 a11 a12 f9 f10 f11 f12 HP2 HO2
  generalize (((w3.setCell ⟨B, 9, none⟩ (.bool nx.on)).setCell ⟨B, 10, none⟩ (.int .i64 nx.c)).setCell ⟨B, 11, none⟩ (.int .i64 nx.i)).setCell ⟨B, 12, none⟩ (.bool nx.hit) = w4 at *
  refine za 23 rfl ?_
  refine za 24 rfl ?_
  have b14 : w4.cell? ⟨B, 14, none⟩ = some (.int .i64 0) := HP3.out.row.cell_ (i := 14) rfl
  have b15 : w4.cell? ⟨B, 15, none⟩ = some (.int .i64 0) := HP3.out.row.cell_ (i := 15) rfl
  have b16 : w4.cell? ⟨B, 16, none⟩ = some (.int .u32 0) := HP3.out.row.cell_ (i := 16) rfl
  have b17 : w4.cell? ⟨B, 17, none⟩ = some (.int .u32 0) := HP3.out.row.cell_ (i := 17) rfl
  have b18 : w4.cell? ⟨B, 18, none⟩ = some (.int .u32 0) := HP3.out.row.cell_ (i := 18) rfl
  have f14 : w4.frozen? ⟨B, 14, none⟩ = false := HP3.out.row.frozen 14
  have f15 : w4.frozen? ⟨B, 15, none⟩ = false := HP3.out.row.frozen 15
  have f16 : w4.frozen? ⟨B, 16, none⟩ = false := HP3.out.row.frozen 16
  have f17 : w4.frozen? ⟨B, 17, none⟩ = false := HP3.out.row.frozen 17
  have f18 : w4.frozen? ⟨B, 18, none⟩ = false := HP3.out.row.frozen 18
  refine mpc 25 rfl (by kernel_rfl) (by rfl) (fun K hK => ?_)
  go_simp
  have HP4 := Lib.hid (HP3.out.setAcc a5)
  have HO4 := Lib.hid (set_acc_only HO3.out (B := B) (.inl rfl) (.int .i64 a5.k) (.int .i64 a5.c) (.int .u32 a5.x) (.int .u32 a5.y) (.int .u32 a5.o))
  refine hK.out _ _ (.inl (by kernel_rfl)) ?_
  clear hK K b14 b15 b16 b17 b18 f14 f15 f16 f17 f18 HP3 HO3
  generalize ((((w4.setCell ⟨B, 14, none⟩ (.int .i64 a5.k)).setCell ⟨B, 15, none⟩ (.int .i64 a5.c)).setCell ⟨B, 16, none⟩ (.int .u32 a5.x)).setCell ⟨B, 17, none⟩ (.int .u32 a5.y)).setCell ⟨B, 18, none⟩ (.int .u32 a5.o) = w5 at *
  refine wpAnyP_done (by kernel_rfl) ?_ _
  go_wp2
  go_ret
  exact ⟨rfl, HO4.out, _, HP4.out⟩
end Go.Proofs.YtaeninikaalkjaaGreat
set_option linter.unusedVariables false
set_option linter.unusedSimpArgs false
namespace Go.Proofs.YtaeninikaalkjaaGreat
open Go.RowKit
theorem tsteps_away (A0 : Option Addr) (l cap : Nat) (n mode task f0 f1 f2 f3 f4 : Int) (f5 : Bool) (f6 f7 : Int) (f8 : Bool) (f9 : Int) (w : World) (h : 1024 < l) : Calls Tryz.prog 3 #[.slice A0 l cap, .int .i64 n, .int .i64 mode, .int .i64 task, .agg #[.int .i64 f0, .int .i64 f1, .int .u32 f2, .int .u32 f3, .int .i64 f4, .bool f5, .int .i64 f6, .int .i64 f7, .bool f8, .int .i64 f9]] w fun e w' => e = .returned (.bool true) ∧ Only Nil w w' := by
  have HO := Lib.hid ((Only.refl Nil w).alloc (.cells #[.int .i64 f0, .int .i64 f1, .int .u32 f2, .int .u32 f3, .int .i64 f4, .bool f5, .int .i64 f6, .int .i64 f7, .bool f8, .int .i64 f9] 29))
  have h' : (1024 : Int) < l := by omega
  go_enter Tryz.func3, Tryz.ntmps3
  go_wp2_with fail
  refine (awake_any _).mono ?_
  rintro e w1 ⟨rfl, hO⟩
  have HO1 := Lib.hid (HO.out.trans hO)
  clear hO
  go_wp2
  go_ret
  exact ⟨rfl, HO1.out⟩
theorem frame_held {w : World} {gf : Nat} {f0 f1 f2 f3 f4 : Int} {f5 : Bool} {f6 f7 : Int} {f8 : Bool} {f9 : Int} (h : Row w gf 29 #[.int .i64 f0, .int .i64 f1, .int .u32 f2, .int .u32 f3, .int .i64 f4, .bool f5, .int .i64 f6, .int .i64 f7, .bool f8, .int .i64 f9]) : w.cell? ⟨gf, 0, none⟩ = some (.int .i64 f0) ∧ w.cell? ⟨gf, 1, none⟩ = some (.int .i64 f1) ∧ w.cell? ⟨gf, 2, none⟩ = some (.int .u32 f2) ∧ w.cell? ⟨gf, 3, none⟩ = some (.int .u32 f3) ∧ w.cell? ⟨gf, 4, none⟩ = some (.int .i64 f4) ∧ w.cell? ⟨gf, 5, none⟩ = some (.bool f5) ∧ w.cell? ⟨gf, 6, none⟩ = some (.int .i64 f6) ∧ w.cell? ⟨gf, 7, none⟩ = some (.int .i64 f7) ∧ w.cell? ⟨gf, 8, none⟩ = some (.bool f8) ∧ w.cell? ⟨gf, 9, none⟩ = some (.int .i64 f9) :=
  ⟨h.cell_ (i := 0) rfl, h.cell_ (i := 1) rfl, h.cell_ (i := 2) rfl, h.cell_ (i := 3) rfl, h.cell_ (i := 4) rfl, h.cell_ (i := 5) rfl, h.cell_ (i := 6) rfl, h.cell_ (i := 7) rfl, h.cell_ (i := 8) rfl, h.cell_ (i := 9) rfl⟩
set_option maxRecDepth 100000 in
set_option maxHeartbeats 8000000 in
theorem tsteps_main (A0 : Option Addr) (l cap : Nat) (n mode task f0 f1 f2 f3 f4 : Int) (f5 : Bool) (f6 f7 : Int) (f8 : Bool) (f9 : Int) (w : World) (xs : List Int) (hr : IsRow .u32 w A0 l cap xs) (hl : l ≤ 1024) (hf2 : 0 ≤ f2 ∧ f2 < 4294967296) : Calls Tryz.prog 3 #[.slice A0 l cap, .int .i64 n, .int .i64 mode, .int .i64 task, .agg #[.int .i64 f0, .int .i64 f1, .int .u32 f2, .int .u32 f3, .int .i64 f4, .bool f5, .int .i64 f6, .int .i64 f7, .bool f8, .int .i64 f9]] w fun e w' => e = .returned (.bool true) ∧ Only Nil w w' := by
  have HR := Lib.hid hr
  have HF2 := Lib.hid hf2
  have hl1 : ¬ (1024 : Int) < l := by omega
  have HO0 := Lib.hid ((Only.refl Nil w).alloc (.cells #[.int .i64 f0, .int .i64 f1, .int .u32 f2, .int .u32 f3, .int .i64 f4, .bool f5, .int .i64 f6, .int .i64 f7, .bool f8, .int .i64 f9] 29))
  have HF0 := Lib.hid (Row.new w 29 #[.int .i64 f0, .int .i64 f1, .int .u32 f2, .int .u32 f3, .int .i64 f4, .bool f5, .int .i64 f6, .int .i64 f7, .bool f8, .int .i64 f9])
  clear hr hf2
  go_enter Tryz.func3, Tryz.ntmps3
  go_wp2_with fail
  generalize w.alloc (.cells #[.int .i64 f0, .int .i64 f1, .int .u32 f2, .int .u32 f3, .int .i64 f4, .bool f5, .int .i64 f6, .int .i64 f7, .bool f8, .int .i64 f9] 29) = w1 at *
  generalize hgf : w.heap.size = gf at *
  have HGF := Lib.hid hgf
  clear hgf hl1
  refine (from_ok A0 l cap xs _ hl ((isRow_held HR.out).only HO0.out (fun _ _ => id))).mono ?_
  intro e w2 hF
  obtain ⟨b, A', c', rfl, hb, hA, hM, hO⟩ := hF
  have HM := Lib.hid (Memo.of hM)
  have HLT := Lib.hid (show ∀ j, At (some (⟨b, 0, none⟩ : Addr)) j ∨ At A' j → w.heap.size ≤ j ∧ j < w2.heap.size from fun j hj => by
    have hz := HO0.out.size
    refine ⟨?_, HM.out.lt j hj⟩
    rcases hj with ⟨a, ha, rfl⟩ | hj
    · cases ha; show w.heap.size ≤ b; omega
    · have := hA j hj; omega)
  have HO1 := Lib.hid (HO0.out.trans hO)
  have HF1 := Lib.hid (HF0.out.only hO id)
  clear hb hA hM hO HO0 HF0
  have a0 : w2.cell? ⟨gf, 0, none⟩ = some (.int .i64 f0) := HF1.out.cell_ (i := 0) rfl
  have a1 : w2.cell? ⟨gf, 1, none⟩ = some (.int .i64 f1) := HF1.out.cell_ (i := 1) rfl
  have a2 : w2.cell? ⟨gf, 2, none⟩ = some (.int .u32 f2) := HF1.out.cell_ (i := 2) rfl
  have a3 : w2.cell? ⟨gf, 3, none⟩ = some (.int .u32 f3) := HF1.out.cell_ (i := 3) rfl
  have a4 : w2.cell? ⟨gf, 4, none⟩ = some (.int .i64 f4) := HF1.out.cell_ (i := 4) rfl
  have a5 : w2.cell? ⟨gf, 5, none⟩ = some (.bool f5) := HF1.out.cell_ (i := 5) rfl
  have a6 : w2.cell? ⟨gf, 6, none⟩ = some (.int .i64 f6) := HF1.out.cell_ (i := 6) rfl
  have a7 : w2.cell? ⟨gf, 7, none⟩ = some (.int .i64 f7) := HF1.out.cell_ (i := 7) rfl
  have a8 : w2.cell? ⟨gf, 8, none⟩ = some (.bool f8) := HF1.out.cell_ (i := 8) rfl
  have a9 : w2.cell? ⟨gf, 9, none⟩ = some (.int .i64 f9) := HF1.out.cell_ (i := 9) rfl
  go_upto_region 7 with (fail)
  clear a0 a1 a2 a3 a4 a5 a6 a7 a8 a9
  have e0 := (Only.refl Nil w2).alloc (.cells #[.pointer (some ⟨b, 0, none⟩), .int .i64 n, .int .i64 mode, .int .i64 task, .int .i64 f0, .int .i64 f1, .int .u32 f2, .int .u32 f3, .int .i64 f4, .bool f5, .int .i64 f6, .int .i64 f7, .bool f8, .int .i64 f9, .int .i64 0, .int .i64 0, .int .u32 0, .int .u32 0, .int .u32 0, .slice none 0 0] 42)
  have HP : Hid (RunP (w2.alloc (.cells #[.pointer (some ⟨b, 0, none⟩), .int .i64 n, .int .i64 mode, .int .i64 task, .int .i64 f0, .int .i64 f1, .int .u32 f2, .int .u32 f3, .int .i64 f4, .bool f5, .int .i64 f6, .int .i64 f7, .bool f8, .int .i64 f9, .int .i64 0, .int .i64 0, .int .u32 0, .int .u32 0, .int .u32 0, .slice none 0 0] 42)) w2.heap.size (some ⟨b, 0, none⟩) A' c' (.slice none 0 0) (⟨n, mode, task, f0, f1, f2, f3, f4, ⟨f5, f6, f7, f8⟩, f9, acc0, [], xs⟩ : LS)) :=
    Lib.hid ⟨Row.new w2 42 _, ownN_nil _ _, HM.out.keep e0⟩
  have HO2 := Lib.hid (HO1.out.trans e0)
  have HF2b := Lib.hid (HF1.out.only e0 id)
  have HBB := Lib.hid (show w.heap.size ≤ w2.heap.size from HO1.out.size)
  have HZ := Lib.hid (show w2.heap.size ≤ (w2.alloc (.cells #[.pointer (some ⟨b, 0, none⟩), .int .i64 n, .int .i64 mode, .int .i64 task, .int .i64 f0, .int .i64 f1, .int .u32 f2, .int .u32 f3, .int .i64 f4, .bool f5, .int .i64 f6, .int .i64 f7, .bool f8, .int .i64 f9, .int .i64 0, .int .i64 0, .int .u32 0, .int .u32 0, .int .u32 0, .slice none 0 0] 42)).heap.size from e0.size)
  clear HM HO1 HF1 e0
  generalize w2.alloc (.cells #[.pointer (some ⟨b, 0, none⟩), .int .i64 n, .int .i64 mode, .int .i64 task, .int .i64 f0, .int .i64 f1, .int .u32 f2, .int .u32 f3, .int .i64 f4, .bool f5, .int .i64 f6, .int .i64 f7, .bool f8, .int .i64 f9, .int .i64 0, .int .i64 0, .int .u32 0, .int .u32 0, .int .u32 0, .slice none 0 0] 42) = w3 at *
  generalize w2.heap.size = B at *
  refine wp_region_phase (n := 9) 7 (fun w => w.cell? ⟨gf, 0, none⟩ = some (.int .i64 f0) ∧ w.cell? ⟨gf, 1, none⟩ = some (.int .i64 f1) ∧ w.cell? ⟨gf, 2, none⟩ = some (.int .u32 f2) ∧ w.cell? ⟨gf, 3, none⟩ = some (.int .u32 f3) ∧ w.cell? ⟨gf, 4, none⟩ = some (.int .i64 f4) ∧ w.cell? ⟨gf, 5, none⟩ = some (.bool f5) ∧ w.cell? ⟨gf, 6, none⟩ = some (.int .i64 f6) ∧ w.cell? ⟨gf, 7, none⟩ = some (.int .i64 f7) ∧ w.cell? ⟨gf, 8, none⟩ = some (.bool f8) ∧ w.cell? ⟨gf, 9, none⟩ = some (.int .i64 f9)) rfl (by kernel_rfl) (frame_held HF2b.out) (fun hHeld => ?_)
  have HP3 := Lib.hid (HP.out.keep (Only.refl Nil w3).drew)
  have HO3 := Lib.hid HO2.out.drew
  have HF3 := Lib.hid HF2b.out.drew
  have HZ3 : Hid (B ≤ w3.drew.heap.size) := Lib.hid HZ.out
  clear HP HO2 HF2b HZ
  generalize w3.drew = w4 at *
  refine za 0 rfl ?_
  refine za 2 rfl ?_
  refine za 3 rfl ?_
  refine za 4 rfl ?_
  refine zt 5 rfl ?_
  refine mpc 1 rfl (by kernel_rfl) (by rfl) (fun K hK => ?_)
  go_simp
  refine (copy_n A0 l cap xs _ (by omega) ((isRow_held HR.out).only HO3.out (fun _ _ => id))).mono ?_
  intro e w5 hF
  obtain ⟨A2, c2, rfl, hOwn, hO⟩ := hF
  have HW5 := Lib.hid hOwn
  have HP5 := Lib.hid (HP3.out.keep hO)
  have HO5 := Lib.hid (HO3.out.trans hO)
  have HF5 := Lib.hid (HF3.out.only hO id)
  have HM5 := Lib.hid hO.size
  have hHeld2 := frame_held HF5.out
  refine hK.out _ _ (.inr hHeld2) ?_
  clear hK K hHeld hO hOwn HP3 HO3 HF3
  generalize hgM : w4.heap.size = M at *
  clear hgM
  refine za 6 rfl ?_
  refine mpc 7 rfl (by kernel_rfl) (by rfl) (fun K hK => ?_)
  go_simp
  have e0 := (Only.refl Nil w5).alloc (.cells #[.slice A2 l c2, .int .i64 n, .int .i64 mode, .int .i64 task, .int .i64 f0, .int .i64 f1, .int .u32 f2, .int .u32 f3, .int .i64 f4, .bool f5, .int .i64 f6, .int .i64 f7, .bool f8, .int .i64 f9, .int .i64 0, .int .i64 0, .int .u32 0, .int .u32 0, .int .u32 0, .slice none 0 0] 46)
  have HT : Hid (Two w B w5.heap.size M (some ⟨b, 0, none⟩) A' A2 c' l c2 (.slice none 0 0) (.slice none 0 0) (⟨n, mode, task, f0, f1, f2, f3, f4, ⟨f5, f6, f7, f8⟩, f9, acc0, [], xs⟩ : LS) (⟨n, mode, task, f0, f1, f2, f3, f4, ⟨f5, f6, f7, f8⟩, f9, acc0, [], xs⟩ : LS) (w5.alloc (.cells #[.slice A2 l c2, .int .i64 n, .int .i64 mode, .int .i64 task, .int .i64 f0, .int .i64 f1, .int .u32 f2, .int .u32 f3, .int .i64 f4, .bool f5, .int .i64 f6, .int .i64 f7, .bool f8, .int .i64 f9, .int .i64 0, .int .i64 0, .int .u32 0, .int .u32 0, .int .u32 0, .slice none 0 0] 46))) :=
    Lib.hid ⟨HP5.out.keep e0, ⟨Row.new w5 46 _, ownN_nil _ _, HW5.out.only e0 (fun _ _ => id), HR.out.len_⟩, HO5.out.trans e0, HBB.out, HO5.out.size, fun j hj => by have := HLT.out j hj; have := HZ3.out; omega, by have := HBB.out; have := HZ3.out; omega⟩
  have HF6 := Lib.hid (HF5.out.only e0 id)
  refine hK.out _ _ (.inl (by kernel_rfl)) ?_
  clear hK K e0 hHeld2 HP5 HO5 HF5 HW5 HM5 HBB HZ3 HLT
  generalize w5.alloc (.cells #[.slice A2 l c2, .int .i64 n, .int .i64 mode, .int .i64 task, .int .i64 f0, .int .i64 f1, .int .u32 f2, .int .u32 f3, .int .i64 f4, .bool f5, .int .i64 f6, .int .i64 f7, .bool f8, .int .i64 f9, .int .i64 0, .int .i64 0, .int .u32 0, .int .u32 0, .int .u32 0, .slice none 0 0] 46) = w6 at *
  generalize w5.heap.size = B' at *
  refine za 8 rfl ?_
  refine wpAnyP_done (by kernel_rfl) ?_ _
  have HWF := Lib.hid HR.out.wf
  have HNS := Lib.hid (Nat.le_trans (good_next (L := LS.wf) (fun r => good_wf) (⟨n, mode, task, f0, f1, f2, f3, f4, ⟨f5, f6, f7, f8⟩, f9, acc0, [], xs⟩ : LS)).2 (show 2 ≤ 100 by decide))
  have HFA := Lib.hid (show ((⟨n, mode, task, f0, f1, f2, f3, f4, ⟨f5, f6, f7, f8⟩, f9, acc0, [], xs⟩ : LS).fresh).a = f2 from rfl)
  have HFX := Lib.hid (show ((⟨n, mode, task, f0, f1, f2, f3, f4, ⟨f5, f6, f7, f8⟩, f9, acc0, [], xs⟩ : LS).fresh).xs = xs from rfl)
  have HFB := Lib.hid (show f2 = ((⟨n, mode, task, f0, f1, f2, f3, f4, ⟨f5, f6, f7, f8⟩, f9, acc0, [], xs⟩ : LS)).a from rfl)
  have HFN := Lib.hid (show ((⟨n, mode, task, f0, f1, f2, f3, f4, ⟨f5, f6, f7, f8⟩, f9, acc0, [], xs⟩ : LS).fresh).ns.length ≤ 900 from Nat.zero_le _)
  generalize hrr : (⟨n, mode, task, f0, f1, f2, f3, f4, ⟨f5, f6, f7, f8⟩, f9, acc0, [], xs⟩ : LS) = r1 at *
  have HX1 := Lib.hid (show Words r1.xs by rw [← hrr]; exact HWF.out)
  clear hrr
  go_wp2_with fail
  refine (wf_step B (some ⟨b, 0, none⟩) A' c' _ r1 _ HT.out.hp.q HX1.out (by rw [← HFB.out]; exact HF2.out)).mono ?_
  cases hon : r1.k.on
  · have HON := Lib.hid hon
    clear hon
    have HNX := Lib.hid (show r1.next LS.wf = r1.fresh.wf by unfold LS.next; rw [HON.out, if_neg Bool.false_ne_true])
    generalize r1.next LS.wf = r2 at *
    rintro e w7 ⟨rfl, hO, _, nvp2, hP⟩
    have HT1 := Lib.hid (HT.out.prog HF6.out (hO.mono (fun _ _ e => .inl e)) (by decide) (by decide) (by decide) (by rw [HGF.out]; exact Nat.le_refl _) hP)
    clear hO hP HT HF6
    go_wp2_with fail
    refine (rwaking_off B' M A2 l c2 _ r1 _ HT1.out.hr HON.out).mono ?_
    rintro e w8 ⟨rfl, hO, nvr2, hR⟩
    have HT2 := Lib.hid (HT1.out.answ hO hR)
    clear hO hR HT1
    go_wp2_with fail
    refine (wfref_lines B' M A2 l c2 nvr2 r1.fresh _ HT2.out.hr HFN.out (by rw [HFX.out]; exact HWF.out) (by rw [HFA.out]; exact HF2.out)).mono ?_
    rw [← HNX.out]
    rintro e wb ⟨rfl, hO, nvr3, hR⟩
    have HT3 := Lib.hid (HT2.out.answ hO hR)
    clear hO hR HT2
    go_wp2_with fail
    refine (wf_lines_nil _).mono ?_
    rintro e w9 ⟨rfl, rfl⟩
    go_upto_region 12 with (fail)
    refine cmp_same _ _ _ _ _ _ _ _ _ _ _ _ _ _ _ _ _ _ _ _ _ _ _ _ _ _ _ _ _ _ _ _ _ _ _ _ _ _ _ _ _ _ _ _ _ _ _ _ _ _ _ _ _ _ _ _ _ _ _ _ _ _ _ _ _ _ _ _ _ _ _ _ _ _ _ _ _ _ _ _ _ _ _ _ _ _ _ _ _ _ _ _ _ _ _ _ w wb B B' M b l c' c2 A' A2 nvp2 nvr3 r2 HT3 hl HNS.out (fun _ _ _ _ _ h => h) ?_
    intro _ _ _ _ _ _ _ _ _ _ _ _ _ _ _ _ _ _ _ _ _ _ _ _ _ _ _ _ _ _ _ _ _ _ _ _ _ _ _ _ _ _ _ _ _ _ _ _ _ w19 hO
    have HO9 := Lib.hid hO
    clear hO
    go_wp2
    go_ret
    exact ⟨rfl, HO9.out⟩
  · have HON := Lib.hid hon
    clear hon
    have HNX := Lib.hid (show r1.next LS.wf = r1.waking by unfold LS.next; rw [HON.out, if_pos rfl])
    generalize r1.next LS.wf = r2 at *
    rintro e w7 ⟨rfl, hO, _, nvp2, hP⟩
    have HT1 := Lib.hid (HT.out.prog HF6.out (hO.mono (fun _ _ e => .inl e)) (by decide) (by decide) (by decide) (by rw [HGF.out]; exact Nat.le_refl _) hP)
    clear hO hP HT HF6
    go_wp2_with fail
    refine (rwaking_on B' M A2 l c2 _ r1 _ HT1.out.hr HON.out).mono ?_
    rw [← HNX.out]
    rintro e wb ⟨rfl, hO, nvr3, hR⟩
    have HT3 := Lib.hid (HT1.out.answ hO hR)
    clear hO hR HT1
    go_wp2_with fail
    refine (wf_lines_nil _).mono ?_
    rintro e w9 ⟨rfl, rfl⟩
    go_upto_region 12 with (fail)
    refine cmp_same _ _ _ _ _ _ _ _ _ _ _ _ _ _ _ _ _ _ _ _ _ _ _ _ _ _ _ _ _ _ _ _ _ _ _ _ _ _ _ _ _ _ _ _ _ _ _ _ _ _ _ _ _ _ _ _ _ _ _ _ _ _ _ _ _ _ _ _ _ _ _ _ _ _ _ _ _ _ _ _ _ _ _ _ _ _ _ _ _ _ _ _ _ _ _ _ w wb B B' M b l c' c2 A' A2 nvp2 nvr3 r2 HT3 hl HNS.out (fun _ _ _ _ _ h => h) ?_
    intro _ _ _ _ _ _ _ _ _ _ _ _ _ _ _ _ _ _ _ _ _ _ _ _ _ _ _ _ _ _ _ _ _ _ _ _ _ _ _ _ _ _ _ _ _ _ _ _ _ w19 hO
    have HO9 := Lib.hid hO
    clear hO
    go_wp2
    go_ret
    exact ⟨rfl, HO9.out⟩
theorem walk_wfSteps (a0 : Option Addr) (len0 cap0 : Nat) (z0 : List Int) (a1 a2 a3 : Int) (u4x0 u4x1 u4x2 u4x3 u4x4 : Int) (u4x5 : Bool) (u4x6 u4x7 : Int) (u4x8 : Bool) (u4x9 : Int) (w : World)
    (w0 : IsRow .u32 w a0 len0 cap0 z0) (w1 : (Lit.int .i64 a1).wf = true) (w2 : (Lit.int .i64 a2).wf = true) (w3 : (Lit.int .i64 a3).wf = true) (w4 : (Lit.int .u32 u4x2).wf = true) :
    Calls Tryz.prog 3 #[.slice a0 len0 cap0, .int .i64 a1, .int .i64 a2, .int .i64 a3, .agg #[.int .i64 u4x0, .int .i64 u4x1, .int .u32 u4x2, .int .u32 u4x3, .int .i64 u4x4, .bool u4x5, .int .i64 u4x6, .int .i64 u4x7, .bool u4x8, .int .i64 u4x9]] w fun e w' => e = .returned (.bool true) ∧ Only Nil w w' := by
  by_cases h1 : len0 ≤ 1024
  · exact tsteps_main a0 len0 cap0 a1 a2 a3 u4x0 u4x1 u4x2 u4x3 u4x4 u4x5 u4x6 u4x7 u4x8 u4x9 w z0 w0 h1 (wf_u32 w4)
  · exact tsteps_away a0 len0 cap0 a1 a2 a3 u4x0 u4x1 u4x2 u4x3 u4x4 u4x5 u4x6 u4x7 u4x8 u4x9 w (by omega)
end Go.Proofs.YtaeninikaalkjaaGreat
