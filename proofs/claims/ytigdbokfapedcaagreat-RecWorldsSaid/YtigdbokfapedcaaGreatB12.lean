/- KWait. -/
import Derived.Test.YtigdbokfapedcaaGreatB10
import Derived.Test.YtigdbokfapedcaaGreatB11
import Derived.Test.YtigdbokfapedcaaGreatB3
/- A run's Wait with a function that keeps what it sees in the run's frame, the program's. -/
set_option linter.unusedVariables false
set_option linter.unusedSimpArgs false
namespace Go.Proofs.YtigdbokfapedcaaGreat
open Go.RowKit

/-- What a function keeps of a word: the word, or nothing. -/
def LS.kw (r : LS) (m : Bool) (v : Int) : LS := if m then r.keepA v else r
/-- What a wait keeps: what the function does, when it is seen. -/
def LS.kept (r : LS) (m seen : Bool) (v : Int) : LS := if seen then r.kw m v else r
theorem kept_row {w : World} {B : Nat} {r : LS} {m seen : Bool} {v : Int} {hv nv : Value} {t : TypeId} (h : Row w B t (kpt seen ((r.kw m v).cells hv nv) (r.cells hv nv))) : Row w B t ((r.kept m seen v).cells hv nv) := by
  cases seen
  · exact h
  · exact h
theorem kept_eqs (r : LS) (m seen : Bool) (v : Int) : (r.kept m seen v).n = r.n ∧ (r.kept m seen v).mode = r.mode ∧ (r.kept m seen v).task = r.task ∧ (r.kept m seen v).s = r.s ∧ (r.kept m seen v).acc = r.acc ∧ (r.kept m seen v).ns = r.ns ∧ (r.kept m seen v).xs = r.xs := by
  cases seen <;> cases m <;> exact ⟨rfl, rfl, rfl, rfl, rfl, rfl, rfl⟩
theorem WB.kept {w w' : World} {B : Nat} {p A : Option Addr} {cp : Nat} {nv : Value} {g : Nat} {c : Int} {fv : Value} {r : LS} {s3 s4 : Bool} {ys : List Int} (h : WB w B p A cp nv g c fv r s3 s4) (ho : Only (TurnB B A) w w') (hm : Memo w' p A cp ys) {r' : LS} (hn : r'.ns = r.ns) (hr : Row w' B 102 (r'.cells (.pointer p) nv)) : WB w' B p A cp nv g c fv { r' with xs := ys } s3 s4 := by
  have hf : ∀ {j : Nat} {t : TypeId} {cs : Array Value}, Row w j t cs → t ≠ 102 → t ≠ 93 → t ≠ 22 → ¬ TurnB B A j := fun hj h1 h2 h3 e => by
    rcases e with e | e
    · exact row_ne hj h.run.row h1 e
    · exact memo_not h.run.memo hj h2 h3 (.inr e)
  exact ⟨⟨hr, by rw [show ({ r' with xs := ys } : LS).ns = r.ns from hn]; exact own_only h.run.notes ho (fun i hi e => by
      rcases e with e | e
      · exact (h.run.farN hi).1 e
      · exact (h.run.farN hi).2 (.inr e)), hm⟩,
    h.r0.only ho (hf h.r0 (by decide) (by decide) (by decide)), h.r1.only ho (hf h.r1 (by decide) (by decide) (by decide)), h.r2.only ho (hf h.r2 (by decide) (by decide) (by decide)), h.r3.only ho (hf h.r3 (by decide) (by decide) (by decide)), h.r4.only ho (hf h.r4 (by decide) (by decide) (by decide))⟩

/-- Behind the closure: the stage and the words are the step's, the access is told. -/
def WaitedK (m : Bool) (w : World) (B : Nat) (p A : Option Addr) (cp : Nat) (nv : Value) (g : Nat) (c : Int) (fv : Value) (r : LS) (t : StepR) (e : Ending) (w' : World) : Prop :=
  e = .returned (ofV t.acc).v ∧ Only (Wd B A g) w w' ∧ WB w' B p A cp nv g c fv { r.kept m t.seen (wordAt r.xs c) with s := t.next, xs := t.xs } t.seen t.done

set_option maxRecDepth 100000 in
set_option maxHeartbeats 2000000 in
theorem waitK_closure (m : Bool) (B : Nat) (p A : Option Addr) (cp : Nat) (nv : Value) (g : Nat) (c : Int) (fv : Value) (q : Int → Bool) (r : LS) (s3 s4 : Bool) (w : World) (h : WB w B p A cp nv g c fv r s3 s4) (hf : HoldsK A B w fv q (r.cells (.pointer p) nv) (fun v => (r.kw m v).cells (.pointer p) nv)) (hx : Words r.xs) :
    Calls Tryz.prog 192 #[.pointer (some ⟨g, 0, none⟩), .pointer (some ⟨g + 1, 0, none⟩), .pointer (some ⟨g + 2, 0, none⟩), .pointer (some ⟨g + 3, 0, none⟩), .pointer (some ⟨g + 4, 0, none⟩)] w (WaitedK m w B p A cp nv g c fv r (r.stepR c q)) := by
  have e0 := (Only.refl Nil w).alloc (.cells #[.int .i64 0, .int .i64 0, .int .u32 0, .int .u32 0, .int .u32 0] 63)
  have HP := Lib.hid (h.keep e0)
  have HR := Lib.hid (Row.new w 63 #[.int .i64 0, .int .i64 0, .int .u32 0, .int .u32 0, .int .u32 0])
  have HO := Lib.hid (e0.mono (T := Wd B A g) (fun _ _ h => h.elim))
  have hga : ∀ i, i < 5 → w.heap.size ≠ g + i := fun i hi e => by
    have h4 := h.r4.lt
    omega
  have HGA := Lib.hid hga
  have HBA := Lib.hid (show B ≠ w.heap.size from fun e => by have := h.run.row.lt; omega)
  have HF := Lib.hid (hf.move0 e0.drew)
  have HFR := Lib.hid (show ∀ j, At p j ∨ At A j → j ≠ B from fun j hj => h.run.far hj)
  have HX := Lib.hid hx
  have HW := Lib.hid (Nat.le_refl w.heap.size)
  clear h hf hx e0 hga
  have hacc := ofV_step r.xs r.n r.mode r.task r.s c q
  rw [show r.stepR c q = stepI r.xs r.n r.mode r.task r.s c q from rfl]
  generalize hst : stepI r.xs r.n r.mode r.task r.s c q = t at *
  obtain ⟨nx, ac, sn, dn, zs⟩ := t
  have HST := Lib.hid hst
  have HAC := Lib.hid (show ac = (ofV ac).v from hacc)
  clear hst hacc
  have HDE := Lib.hid (show WaitedK m w B p A cp nv g c fv r ⟨nx, ac, sn, dn, zs⟩ = fun e w' => e = .returned (ofV ac).v ∧ Only (Wd B A g) w w' ∧ WB w' B p A cp nv g c fv { r.kept m sn (wordAt r.xs c) with s := nx, xs := zs } sn dn from rfl)
  go_enter Tryz.func192, Tryz.ntmps192
  go_upto_region 1 with (fail)
  generalize w.alloc (.cells #[.int .i64 0, .int .i64 0, .int .u32 0, .int .u32 0, .int .u32 0] 63) = w1 at *
  generalize hgg : w.heap.size = ga at *
  have HG := Lib.hid hgg
  clear hgg
  refine wp_region_phase (n := 37) 33 (fun w => w.cell? ⟨g, 0, none⟩ = some (.pointer (some ⟨B, 0, none⟩)) ∧ w.cell? ⟨B, 0, none⟩ = some (.pointer p) ∧ w.cell? ⟨B, 1, none⟩ = some (.int .i64 r.n) ∧ w.cell? ⟨B, 2, none⟩ = some (.int .i64 r.mode) ∧ w.cell? ⟨B, 3, none⟩ = some (.int .i64 r.task) ∧ w.cell? ⟨B, 8, none⟩ = some (.int .i64 r.s) ∧ w.cell? ⟨g + 1, 0, none⟩ = some (.int .i64 c) ∧ w.cell? ⟨g + 2, 0, none⟩ = some fv) rfl (by kernel_rfl) HP.out.held (fun hHeld => ?_)
  have HP1 := Lib.hid (HP.out.keep (Only.refl Nil w1).drew)
  have HR1 := Lib.hid HR.out.drew
  have HO1 := Lib.hid HO.out.drew
  clear HP HR HO
  generalize w1.drew = w2 at *
  refine zt 0 rfl ?_
  refine zt 1 rfl ?_
  refine za 2 rfl ?_
  refine za 3 rfl ?_
  refine zt 4 rfl ?_
  refine zt 5 rfl ?_
  refine za 6 rfl ?_
  refine za 7 rfl ?_
  refine zt 8 rfl ?_
  refine zt 9 rfl ?_
  refine za 10 rfl ?_
  refine za 11 rfl ?_
  refine zt 12 rfl ?_
  refine zt 13 rfl ?_
  refine za 14 rfl ?_
  refine za 15 rfl ?_
  refine zt 16 rfl ?_
  refine zt 17 rfl ?_
  refine za 18 rfl ?_
  refine za 19 rfl ?_
  refine za 20 rfl ?_
  refine zt 21 rfl ?_
  refine zt 22 rfl ?_
  refine zt 23 rfl ?_
  refine mpc 24 rfl (by kernel_rfl) (by rfl) (fun K hK => ?_)
  go_simp
  refine (stepK_any p A cp B _ _ r.xs r.n r.mode r.task r.s c fv q _ HP1.out.run.memo HP1.out.run.row HFR.out HF.out HX.out).mono ?_
  rw [HST.out]
  intro e w3 hF
  obtain ⟨rfl, hO, hM, hrr⟩ := hF
  dsimp only at hM hrr ⊢
  rw [HAC.out]
  clear HAC
  generalize ofV ac = a5 at *
  dsimp only [Acc5.v]
  obtain ⟨rk, hrk⟩ : ∃ rk, rk = r.kept m sn (wordAt r.xs c) := ⟨_, rfl⟩
  have hke := kept_eqs r m sn (wordAt r.xs c)
  rw [← hrk] at hke
  have hrr2 := kept_row hrr
  rw [← hrk] at hrr2
  have HP2 := Lib.hid (HP1.out.kept hO hM hke.2.2.2.2.2.1 hrr2)
  have hh2 := HP2.out.held
  dsimp only at hh2
  rw [hke.1, hke.2.1, hke.2.2.1, hke.2.2.2.1] at hh2
  have HRK := Lib.hid hrk
  have HKS := Lib.hid (show rk.s = r.s from hke.2.2.2.1)
  have HR2 := Lib.hid (HR1.out.only hO (fun e => by
    rcases e with e | e
    · exact row_ne HR1.out HP1.out.run.row (by decide) e
    · exact memo_not HP1.out.run.memo HR1.out (by decide) (by decide) (.inr e)))
  have HO2 := Lib.hid (HO1.out.trans (hO.mono (T := Wd B A g) (fun _ _ e => .inl e)))
  clear hrk hke hrr hrr2
  refine hK.out _ _ (.inr hh2) ?_
  have hHeld2 := hh2
  clear hK K hHeld hO hM HP1 HR1 HO1 hh2

  refine za 25 rfl ?_
  refine za 26 rfl ?_
  refine za 27 rfl ?_
  refine za 28 rfl ?_
  refine za 29 rfl ?_
  refine za 30 rfl ?_
  refine za 31 rfl ?_
  refine za 32 rfl ?_
  have c8 : w3.cell? ⟨B, 8, none⟩ = some (.int .i64 rk.s) := HP2.out.run.row.cell_ (i := 8) rfl
  have f8 : w3.frozen? ⟨B, 8, none⟩ = false := HP2.out.run.row.frozen 8
  refine mpc 33 rfl (by kernel_rfl) (by rfl) (fun K hK => ?_)
  go_simp
  have HP3 := Lib.hid (HP2.out.setS nx)
  have HO3 := Lib.hid (HO2.out.setCell (p := ⟨B, 8, none⟩) (.inr (.inl (.inl rfl))) (.int .i64 nx))
  have HR3 := Lib.hid (HR2.out.far (p := ⟨B, 8, none⟩) (Ne.symm HBA.out) (.int .i64 nx))
  refine hK.out _ _ (.inl (by kernel_rfl)) ?_
  clear hK K hHeld2 c8 f8 HP2 HO2 HR2
  generalize w3.setCell ⟨B, 8, none⟩ (.int .i64 nx) = w4 at *

  have a0 : w4.cell? ⟨ga, 0, none⟩ = some (.int .i64 0) := HR3.out.cell_ (i := 0) rfl
  have a1 : w4.cell? ⟨ga, 1, none⟩ = some (.int .i64 0) := HR3.out.cell_ (i := 1) rfl
  have a2 : w4.cell? ⟨ga, 2, none⟩ = some (.int .u32 0) := HR3.out.cell_ (i := 2) rfl
  have a3 : w4.cell? ⟨ga, 3, none⟩ = some (.int .u32 0) := HR3.out.cell_ (i := 3) rfl
  have a4 : w4.cell? ⟨ga, 4, none⟩ = some (.int .u32 0) := HR3.out.cell_ (i := 4) rfl
  have f0 : w4.frozen? ⟨ga, 0, none⟩ = false := HR3.out.frozen 0
  have f1 : w4.frozen? ⟨ga, 1, none⟩ = false := HR3.out.frozen 1
  have f2 : w4.frozen? ⟨ga, 2, none⟩ = false := HR3.out.frozen 2
  have f3 : w4.frozen? ⟨ga, 3, none⟩ = false := HR3.out.frozen 3
  have f4 : w4.frozen? ⟨ga, 4, none⟩ = false := HR3.out.frozen 4
  refine mpc 34 rfl (by kernel_rfl) (by rfl) (fun K hK => ?_)
  go_simp
  have ho5 := five_only (Only.refl (· = ga) w4) (g := ga) (.inr rfl) (.int .i64 a5.k) (.int .i64 a5.c) (.int .u32 a5.x) (.int .u32 a5.y) (.int .u32 a5.o)
  have HP4 := Lib.hid (HP3.out.far HR3.out ho5 HBA.out (by decide) (by decide) (by decide) HGA.out)
  have HO4 := Lib.hid (five_only HO3.out (g := ga) (.inl (by have := HG.out; omega)) (.int .i64 a5.k) (.int .i64 a5.c) (.int .u32 a5.x) (.int .u32 a5.y) (.int .u32 a5.o))
  have HR4 := Lib.hid (five HR3.out (.int .i64 a5.k) (.int .i64 a5.c) (.int .u32 a5.x) (.int .u32 a5.y) (.int .u32 a5.o))
  refine hK.out _ _ (.inl (by kernel_rfl)) ?_
  clear hK K ho5 a0 a1 a2 a3 a4 f0 f1 f2 f3 f4 HP3 HO3 HR3
  generalize (((((w4.setCell ⟨ga, 0, none⟩ (.int .i64 a5.k)).setCell ⟨ga, 1, none⟩ (.int .i64 a5.c)).setCell ⟨ga, 2, none⟩ (.int .u32 a5.x)).setCell ⟨ga, 3, none⟩ (.int .u32 a5.y)).setCell ⟨ga, 4, none⟩ (.int .u32 a5.o)) = w5 at *

  have b3 : w5.cell? ⟨g + 3, 0, none⟩ = some (.bool s3) := HP4.out.r3.cell_ (i := 0) rfl
  have f3 : w5.frozen? ⟨g + 3, 0, none⟩ = false := HP4.out.r3.frozen 0
  refine mpc 35 rfl (by kernel_rfl) (by rfl) (fun K hK => ?_)
  go_simp
  have HP5 := Lib.hid (HP4.out.set3 sn)
  have HO5 := Lib.hid (HO4.out.setCell (p := ⟨g + 3, 0, none⟩) (.inr (.inr (.inl rfl))) (.bool sn))
  have HR5 := Lib.hid (HR4.out.far (p := ⟨g + 3, 0, none⟩) (HGA.out 3 (by decide)) (.bool sn))
  refine hK.out _ _ (.inl (by kernel_rfl)) ?_
  clear hK K b3 f3 HP4 HO4 HR4
  generalize w5.setCell ⟨g + 3, 0, none⟩ (.bool sn) = w6 at *

  have b3 : w6.cell? ⟨g + 4, 0, none⟩ = some (.bool s4) := HP5.out.r4.cell_ (i := 0) rfl
  have f3 : w6.frozen? ⟨g + 4, 0, none⟩ = false := HP5.out.r4.frozen 0
  refine mpc 36 rfl (by kernel_rfl) (by rfl) (fun K hK => ?_)
  go_simp
  have HP6 := Lib.hid (HP5.out.set4 dn)
  have HO6 := Lib.hid (HO5.out.setCell (p := ⟨g + 4, 0, none⟩) (.inr (.inr (.inr rfl))) (.bool dn))
  have HR6 := Lib.hid (HR5.out.far (p := ⟨g + 4, 0, none⟩) (HGA.out 4 (by decide)) (.bool dn))
  refine hK.out _ _ (.inl (by kernel_rfl)) ?_
  clear hK K b3 f3 HP5 HO5 HR5
  generalize w6.setCell ⟨g + 4, 0, none⟩ (.bool dn) = w7 at *

  refine wpAnyP_done (by kernel_rfl) ?_ _
  have a0 : w7.cell? ⟨ga, 0, none⟩ = some (.int .i64 a5.k) := HR6.out.cell_ (i := 0) rfl
  have a1 : w7.cell? ⟨ga, 1, none⟩ = some (.int .i64 a5.c) := HR6.out.cell_ (i := 1) rfl
  have a2 : w7.cell? ⟨ga, 2, none⟩ = some (.int .u32 a5.x) := HR6.out.cell_ (i := 2) rfl
  have a3 : w7.cell? ⟨ga, 3, none⟩ = some (.int .u32 a5.y) := HR6.out.cell_ (i := 3) rfl
  have a4 : w7.cell? ⟨ga, 4, none⟩ = some (.int .u32 a5.o) := HR6.out.cell_ (i := 4) rfl
  have f0 : w7.frozen? ⟨ga, 0, none⟩ = false := HR6.out.frozen 0
  have f1 : w7.frozen? ⟨ga, 1, none⟩ = false := HR6.out.frozen 1
  have f2 : w7.frozen? ⟨ga, 2, none⟩ = false := HR6.out.frozen 2
  have f3 : w7.frozen? ⟨ga, 3, none⟩ = false := HR6.out.frozen 3
  have f4 : w7.frozen? ⟨ga, 4, none⟩ = false := HR6.out.frozen 4
  have ho5 := five_only (Only.refl (· = ga) w7) (g := ga) (.inr rfl) (.int .i64 a5.k) (.int .i64 a5.c) (.int .u32 a5.x) (.int .u32 a5.y) (.int .u32 a5.o)
  have HP7 := Lib.hid (HP6.out.far HR6.out ho5 HBA.out (by decide) (by decide) (by decide) HGA.out)
  have HO7 := Lib.hid (five_only HO6.out (g := ga) (.inl (by have := HG.out; omega)) (.int .i64 a5.k) (.int .i64 a5.c) (.int .u32 a5.x) (.int .u32 a5.y) (.int .u32 a5.o))
  have HR7 := Lib.hid (five HR6.out (.int .i64 a5.k) (.int .i64 a5.c) (.int .u32 a5.x) (.int .u32 a5.y) (.int .u32 a5.o))
  clear ho5 HP6 HO6 HR6
  go_wp2
  exact post_row (P := Tryz.prog) Tryz.results192 (by rfl) HR7.out Tryz.underlying63 rfl (by kernel_rfl) rfl (by rw [HDE.out, ← HRK.out]; exact ⟨rfl, HO7.out, HP7.out⟩)

/-- What Wait's step leaves. -/
def WaitDoneK (m : Bool) (w : World) (B : Nat) (p A : Option Addr) (cp : Nat) (nv : Value) (g : Nat) (c : Int) (fv : Value) (r : LS) (t : StepR) (e : Ending) (w' : World) : Prop :=
  e = .returned (.tuple #[]) ∧ Only (Wd B A g) w w' ∧ WB w' B p A cp nv g c fv { r.kept m t.seen (wordAt r.xs c) with s := t.next, acc := ofV t.acc, xs := t.xs } t.seen t.done

set_option maxHeartbeats 1000000 in
theorem waitK_do (m : Bool) (B : Nat) (p A : Option Addr) (cp : Nat) (nv : Value) (g : Nat) (c : Int) (fv : Value) (q : Int → Bool) (r : LS) (s3 s4 : Bool) (w : World) (h : WB w B p A cp nv g c fv r s3 s4) (hf : HoldsK A B w fv q (r.cells (.pointer p) nv) (fun v => (r.kw m v).cells (.pointer p) nv)) (hx : Words r.xs) :
    Calls Tryz.prog 191 #[.pointer (some ⟨B, 0, none⟩), .func (.func 192) #[] #[.pointer (some ⟨g, 0, none⟩), .pointer (some ⟨g + 1, 0, none⟩), .pointer (some ⟨g + 2, 0, none⟩), .pointer (some ⟨g + 3, 0, none⟩), .pointer (some ⟨g + 4, 0, none⟩)]] w (WaitDoneK m w B p A cp nv g c fv r (r.stepR c q)) := by
  have HC := Lib.hid (waitK_closure m B p A cp nv g c fv q r s3 s4 w h hf hx)
  clear h hf hx
  go_enter Tryz.func191, Tryz.ntmps191
  go_wp2_with fail
  refine HC.out.mono ?_
  clear HC

  generalize r.stepR c q = t at *
  obtain ⟨nx, ac, sn, dn, zs⟩ := t
  intro e w1 hF
  obtain ⟨rfl, hO, hP⟩ := hF
  dsimp only at hP ⊢
  have HD := Lib.hid (show (⟨nx, ac, sn, dn, zs⟩ : StepR).acc = ac from rfl)
  have HDE := Lib.hid (show WaitDoneK m w B p A cp nv g c fv r ⟨nx, ac, sn, dn, zs⟩ = fun e w' => e = .returned (.tuple #[]) ∧ Only (Wd B A g) w w' ∧ WB w' B p A cp nv g c fv { r.kept m sn (wordAt r.xs c) with s := nx, acc := ofV ac, xs := zs } sn dn from rfl)
  generalize ofV ac = a5 at *
  dsimp only [Acc5.v]
  obtain ⟨rk, hrk⟩ : ∃ rk, rk = r.kept m sn (wordAt r.xs c) := ⟨_, rfl⟩
  have hka := (kept_eqs r m sn (wordAt r.xs c)).2.2.2.2.1
  rw [← hrk] at hP hka
  have HRK := Lib.hid hrk
  have HKA := Lib.hid hka
  clear hrk hka
  have HP := Lib.hid hP
  have HO := Lib.hid hO
  clear hP hO
  have a14 : w1.cell? ⟨B, 14, none⟩ = some (.int .i64 rk.acc.k) := HP.out.run.row.cell_ (i := 14) rfl
  have a15 : w1.cell? ⟨B, 15, none⟩ = some (.int .i64 rk.acc.c) := HP.out.run.row.cell_ (i := 15) rfl
  have a16 : w1.cell? ⟨B, 16, none⟩ = some (.int .u32 rk.acc.x) := HP.out.run.row.cell_ (i := 16) rfl
  have a17 : w1.cell? ⟨B, 17, none⟩ = some (.int .u32 rk.acc.y) := HP.out.run.row.cell_ (i := 17) rfl
  have a18 : w1.cell? ⟨B, 18, none⟩ = some (.int .u32 rk.acc.o) := HP.out.run.row.cell_ (i := 18) rfl
  have f14 : w1.frozen? ⟨B, 14, none⟩ = false := HP.out.run.row.frozen 14
  have f15 : w1.frozen? ⟨B, 15, none⟩ = false := HP.out.run.row.frozen 15
  have f16 : w1.frozen? ⟨B, 16, none⟩ = false := HP.out.run.row.frozen 16
  have f17 : w1.frozen? ⟨B, 17, none⟩ = false := HP.out.run.row.frozen 17
  have f18 : w1.frozen? ⟨B, 18, none⟩ = false := HP.out.run.row.frozen 18
  go_wp2
  clear a14 a15 a16 a17 a18 f14 f15 f16 f17 f18
  go_returns
  rw [HDE.out, ← HRK.out]
  exact ⟨rfl, set_acc_only HO.out (B := B) (.inl (.inl rfl)) _ _ _ _ _, HP.out.turn (set_acc_only (Only.refl (· = B) w1) rfl _ _ _ _ _) (HP.out.run.setAcc a5)⟩
/-- A run behind a wait. -/
def LS.waitM (r : LS) (m : Bool) (c : Int) (q : Int → Bool) : LS := { r.kept m (r.stepR c q).seen (wordAt r.xs c) with s := (r.stepR c q).next, acc := ofV (r.stepR c q).acc, xs := (r.stepR c q).xs }
set_option maxRecDepth 100000 in
set_option maxHeartbeats 1000000 in
theorem waitM_run (m : Bool) (B : Nat) (p A : Option Addr) (cp : Nat) (nv : Value) (r : LS) (c : Int) (F : Fn) (f1 f2 : Array Value) (q : Int → Bool) (w : World) (h : RunP w B p A cp nv r) (hf : HoldsK A B w (.func F f1 f2) q (r.cells (.pointer p) nv) (fun v => (r.kw m v).cells (.pointer p) nv)) (hx : Words r.xs) :
    Calls Tryz.prog 102 #[.pointer (some ⟨B, 0, none⟩), .int .i64 c, .func F f1 f2] w (Done B p A cp w (.tuple #[.bool (r.stepR c q).seen, .bool (r.stepR c q).done]) (r.waitM m c q)) := by
  have e0 := (((((Only.refl Nil w).alloc (.cells #[.pointer (some ⟨B, 0, none⟩)] 99)).alloc (.cells #[.int .i64 c] 3)).alloc (.cells #[.func F f1 f2] 138)).alloc (.cells #[.bool false] 4)).alloc (.cells #[.bool false] 4)
  have HP : Hid (WB _ B p A cp nv w.heap.size c (.func F f1 f2) r false false) := Lib.hid ⟨h.keep e0, ((((Row.new w 99 #[.pointer (some ⟨B, 0, none⟩)]).alloc _).alloc _).alloc _).alloc _,
    (((Row.at (t := 3) (cs := #[.int .i64 c]) (by simp)).alloc _).alloc _).alloc _, ((Row.at (t := 138) (cs := #[.func F f1 f2]) (by simp)).alloc _).alloc _, (Row.at (t := 4) (cs := #[.bool false]) (by simp)).alloc _, Row.at (by simp)⟩
  have HO := Lib.hid (e0.mono (T := TurnB B A) (fun _ _ h => h.elim))
  have HF := Lib.hid (hf.move0 e0)
  have HX := Lib.hid hx
  clear h hf hx e0
  rw [show r.waitM m c q = { r.kept m (r.stepR c q).seen (wordAt r.xs c) with s := (r.stepR c q).next, acc := ofV (r.stepR c q).acc, xs := (r.stepR c q).xs } from rfl]
  generalize hst : r.stepR c q = t at *
  have HST := Lib.hid hst
  clear hst
  obtain ⟨nx, ac, sn, dn, zs⟩ := t
  dsimp only
  generalize hr2 : ({ r.kept m sn (wordAt r.xs c) with s := nx, acc := ofV ac, xs := zs } : LS) = r2 at *
  have HR2 := Lib.hid hr2
  clear hr2
  go_enter Tryz.func102, Tryz.ntmps102
  go_upto_region 1 with (fail)
  generalize ((((w.alloc (.cells #[.pointer (some ⟨B, 0, none⟩)] 99)).alloc (.cells #[.int .i64 c] 3)).alloc (.cells #[.func F f1 f2] 138)).alloc (.cells #[.bool false] 4)).alloc (.cells #[.bool false] 4) = w1 at *
  generalize hgg : w.heap.size = g at *
  have HG := Lib.hid hgg
  clear hgg
  have a0 : w1.cell? ⟨g, 0, none⟩ = some (.pointer (some ⟨B, 0, none⟩)) := HP.out.r0.cell_ (i := 0) rfl
  go_wp2_with fail
  clear a0
  refine (waitK_do m B p A cp nv g c (.func F f1 f2) q r false false _ HP.out HF.out HX.out).mono ?_
  rw [HST.out]
  intro e w2 hF
  obtain ⟨rfl, hO, hP⟩ := hF
  dsimp only at hP
  rw [HR2.out] at hP
  have HP2 := Lib.hid hP
  have HO2 := Lib.hid (HO.out.step hO (fun i hi hd => by
    rcases hd with hd | hd | hd
    · exact hd
    · have := HG.out; omega
    · have := HG.out; omega))
  clear hO hP HP HO
  go_upto_region 4 with (fail)
  refine wp_region_phase (n := 4) 3 (fun w => w.cell? ⟨g + 3, 0, none⟩ = some (.bool sn) ∧ w.cell? ⟨g + 4, 0, none⟩ = some (.bool dn)) rfl (by kernel_rfl) ⟨HP2.out.r3.cell_ (i := 0) rfl, HP2.out.r4.cell_ (i := 0) rfl⟩ (fun hHeld => ?_)
  have HP3 := Lib.hid (HP2.out.keep (Only.refl Nil w2).drew)
  have HO3 := Lib.hid HO2.out.drew
  clear HP2 HO2
  generalize w2.drew = w3 at *
  refine zt 0 rfl ?_
  refine zt 1 rfl ?_
  have b3 : w3.cell? ⟨g + 1 + 1 + 1, 0, none⟩ = some (.bool sn) := HP3.out.r3.cell_ (i := 0) rfl
  have f3 : w3.frozen? ⟨g + 1 + 1 + 1, 0, none⟩ = false := HP3.out.r3.frozen 0
  refine mpc 2 rfl (by kernel_rfl) (by rfl) (fun K hK => ?_)
  go_simp
  have HP4 : Hid (WB (w3.setCell ⟨g + 1 + 1 + 1, 0, none⟩ (.bool sn)) B p A cp nv g c (.func F f1 f2) r2 sn dn) := Lib.hid (HP3.out.set3 sn)
  have HO4 := Lib.hid (HO3.out.setCell (p := ⟨g + 1 + 1 + 1, 0, none⟩) (.inl (by have := HG.out; show w.heap.size ≤ g + 1 + 1 + 1; omega)) (.bool sn))
  refine hK.out _ _ (.inr ⟨HP4.out.r3.cell_ (i := 0) rfl, HP4.out.r4.cell_ (i := 0) rfl⟩) ?_
  clear hK K hHeld b3 f3 HP3 HO3
  generalize w3.setCell ⟨g + 1 + 1 + 1, 0, none⟩ (.bool sn) = w4 at *

  have b3 : w4.cell? ⟨g + 1 + 1 + 1 + 1, 0, none⟩ = some (.bool dn) := HP4.out.r4.cell_ (i := 0) rfl
  have f3 : w4.frozen? ⟨g + 1 + 1 + 1 + 1, 0, none⟩ = false := HP4.out.r4.frozen 0
  refine mpc 3 rfl (by kernel_rfl) (by rfl) (fun K hK => ?_)
  go_simp
  have HP5 : Hid (WB (w4.setCell ⟨g + 1 + 1 + 1 + 1, 0, none⟩ (.bool dn)) B p A cp nv g c (.func F f1 f2) r2 sn dn) := Lib.hid (HP4.out.set4 dn)
  have HO5 := Lib.hid (HO4.out.setCell (p := ⟨g + 1 + 1 + 1 + 1, 0, none⟩) (.inl (by have := HG.out; show w.heap.size ≤ g + 1 + 1 + 1 + 1; omega)) (.bool dn))
  refine hK.out _ _ (.inl (by kernel_rfl)) ?_
  clear hK K b3 f3 HP4 HO4
  generalize w4.setCell ⟨g + 1 + 1 + 1 + 1, 0, none⟩ (.bool dn) = w5 at *

  refine wpAnyP_done (by kernel_rfl) ?_ _
  have b3 : w5.cell? ⟨g + 1 + 1 + 1, 0, none⟩ = some (.bool sn) := HP5.out.r3.cell_ (i := 0) rfl
  have b4 : w5.cell? ⟨g + 1 + 1 + 1 + 1, 0, none⟩ = some (.bool dn) := HP5.out.r4.cell_ (i := 0) rfl
  go_wp2
  exact bodyPost_ret (v := .tuple #[.bool sn, .bool dn]) (by simp [results, Tryz.results102, go_sem, b3, b4]) rfl ⟨rfl, HO5.out, nv, HP5.out.run⟩
/-- A run behind a wait that keeps what it sees. -/
def LS.waitK (r : LS) (c : Int) (q : Int → Bool) : LS := r.waitM true c q
theorem waitK_run (B : Nat) (p A : Option Addr) (cp : Nat) (nv : Value) (r : LS) (c : Int) (F : Fn) (f1 f2 : Array Value) (q : Int → Bool) (w : World) (h : RunP w B p A cp nv r) (hf : HoldsK A B w (.func F f1 f2) q (r.cells (.pointer p) nv) (fun v => (r.keepA v).cells (.pointer p) nv)) (hx : Words r.xs) :
    Calls Tryz.prog 102 #[.pointer (some ⟨B, 0, none⟩), .int .i64 c, .func F f1 f2] w (Done B p A cp w (.tuple #[.bool (r.stepR c q).seen, .bool (r.stepR c q).done]) (r.waitK c q)) := waitM_run true B p A cp nv r c F f1 f2 q w h hf hx
end Go.Proofs.YtigdbokfapedcaaGreat
