import Derived.Test.YtaeninikaalkjaaGreatChecked
import Derived.Defers
import Derived.Recover
import Derived.Deep.Cut
import Derived.Test.YtaeninikaalkjaaGreatH11
import Derived.Test.YtaeninikaalkjaaGreatH7
import Derived.Test.YtaeninikaalkjaaGreatH5
import Derived.Test.YtaeninikaalkjaaGreatH6
import Derived.Test.YtaeninikaalkjaaGreatH8
set_option linter.unusedVariables false
set_option linter.unusedSimpArgs false
namespace Go.Proofs.YtaeninikaalkjaaGreat
open Go.RowKit
theorem rec_run (w : World) : CallsD Tryz.prog 51 #[] .returning w fun e u' w' => e = .returned (.tuple #[]) ∧ u' = .returning ∧ w = w' := by
  refine callsD_of_wpS Tryz.func51 rfl fun c₀ cs hu => ?_
  apply wpS_region
  simp [wpOpsS, go_sem, recoverD, hu, Tryz.ntmps51, Exit.thenS]
  cases c₀
  simp_all [bodyPostS, results, Tryz.results51]
set_option maxRecDepth 100000 in
theorem neq_fnL (f : Fn) (first cap : Array Value) (w : World) : (binOp .neq 48 (.func f first cap) .nilFunc).run Tryz.prog w = .ok (.bool true) w := by
  first | rfl | kernel_rfl
def Lined (B : Nat) (p A : Option Addr) (cp : Nat) (fv : Value) (r r' : LS) (T : Nat → Prop) (I Y : World → Prop) : Prop := ∀ w nv, I w → RunP w B p A cp nv r →
  Calls Tryz.prog 21 #[.pointer (some ⟨B, 0, none⟩), fv] w fun e w' => e = .returned (.tuple #[]) ∧ Only T w w' ∧ Y w' ∧ ∃ nv', RunP w' B p A cp nv' r'
def Stepd (B : Nat) (p A : Option Addr) (cp : Nat) (r' : LS) (T : Nat → Prop) (Y : World → Prop) (w : World) (e : Ending) (w' : World) : Prop :=
  e = .returned (.bool r'.over) ∧ Only T w w' ∧ Y w' ∧ ∃ nv', RunP w' B p A cp nv' r'
theorem RunP.reset {w : World} {B : Nat} {p A : Option Addr} {cp : Nat} {nv : Value} {r : LS} (h : RunP w B p A cp nv r) :
    RunP ((((((w.setCell ⟨B, 14, none⟩ (.int .i64 0)).setCell ⟨B, 15, none⟩ (.int .i64 0)).setCell ⟨B, 16, none⟩ (.int .u32 0)).setCell ⟨B, 17, none⟩ (.int .u32 0)).setCell ⟨B, 18, none⟩ (.int .u32 0)).setCell ⟨B, 19, none⟩ (.slice none 0 0)) B p A cp (.slice none 0 0) r.fresh := by
  have h1 := h.setAcc acc0
  have ho := (Only.refl (· = B) (((((w.setCell ⟨B, 14, none⟩ (.int .i64 0)).setCell ⟨B, 15, none⟩ (.int .i64 0)).setCell ⟨B, 16, none⟩ (.int .u32 0)).setCell ⟨B, 17, none⟩ (.int .u32 0)).setCell ⟨B, 18, none⟩ (.int .u32 0))).setCell (p := ⟨B, 19, none⟩) (.inr rfl) (.slice none 0 0)
  exact ⟨h1.row.set 19 (.slice none 0 0), ownN_nil _ _, h1.memo.far ho (fun j hj => h1.far hj)⟩
theorem reset_only {S : Nat → Prop} {w w' : World} {B : Nat} (h : Only S w w') (hg : S B) :
    Only S w ((((((w'.setCell ⟨B, 14, none⟩ (.int .i64 0)).setCell ⟨B, 15, none⟩ (.int .i64 0)).setCell ⟨B, 16, none⟩ (.int .u32 0)).setCell ⟨B, 17, none⟩ (.int .u32 0)).setCell ⟨B, 18, none⟩ (.int .u32 0)).setCell ⟨B, 19, none⟩ (.slice none 0 0)) :=
  (set_acc_only h hg _ _ _ _ _).setCell (p := ⟨B, 19, none⟩) (.inr hg) _
structure RunQ (w : World) (B : Nat) (p A : Option Addr) (cp : Nat) (nv : Value) (r : LS) : Prop where
  row : Row w B 42 (r.cells (.pointer p) nv)
  memo : Memo w p A cp r.xs
theorem RunP.q {w : World} {B : Nat} {p A : Option Addr} {cp : Nat} {nv : Value} {r : LS} (h : RunP w B p A cp nv r) : RunQ w B p A cp nv r := ⟨h.row, h.memo⟩
theorem RunQ.far {w : World} {B : Nat} {p A : Option Addr} {cp : Nat} {nv : Value} {r : LS} (h : RunQ w B p A cp nv r) {j : Nat} (hj : At p j ∨ At A j) : j ≠ B := by
  rintro rfl
  obtain ⟨t, cs, hr, ht⟩ := memo_tag h.memo hj
  have e := (h.row.same hr).1
  rcases ht with rfl | rfl <;> exact absurd e (by decide)
theorem RunQ.reset {w : World} {B : Nat} {p A : Option Addr} {cp : Nat} {nv : Value} {r : LS} (h : RunQ w B p A cp nv r) :
    RunP ((((((w.setCell ⟨B, 14, none⟩ (.int .i64 0)).setCell ⟨B, 15, none⟩ (.int .i64 0)).setCell ⟨B, 16, none⟩ (.int .u32 0)).setCell ⟨B, 17, none⟩ (.int .u32 0)).setCell ⟨B, 18, none⟩ (.int .u32 0)).setCell ⟨B, 19, none⟩ (.slice none 0 0)) B p A cp (.slice none 0 0) r.fresh := by
  have ho := (set_acc_only (Only.refl (· = B) w) (B := B) rfl (.int .i64 0) (.int .i64 0) (.int .u32 0) (.int .u32 0) (.int .u32 0)).setCell (p := ⟨B, 19, none⟩) (.inr rfl) (.slice none 0 0)
  exact ⟨(set_acc_row h.row acc0).set 19 (.slice none 0 0), ownN_nil _ _, h.memo.far ho (fun j hj => h.far hj)⟩
set_option maxHeartbeats 1000000 in
theorem step_wake (B : Nat) (p A : Option Addr) (cp : Nat) (nv fv : Value) (r : LS) (w : World) (h : RunQ w B p A cp nv r) (hon : r.k.on = true) :
    Calls Tryz.prog 7 #[.pointer (some ⟨B, 0, none⟩), fv] w (Stepd B p A cp r.waking (TurnB B A) (fun _ => True) w) := by
  have HON := Lib.hid hon
  clear hon
  generalize hrw : r.waking = r' at *
  have HRW := Lib.hid hrw
  clear hrw
  have a14 : w.cell? ⟨B, 14, none⟩ = some (.int .i64 r.acc.k) := h.row.cell_ (i := 14) rfl
  have a15 : w.cell? ⟨B, 15, none⟩ = some (.int .i64 r.acc.c) := h.row.cell_ (i := 15) rfl
  have a16 : w.cell? ⟨B, 16, none⟩ = some (.int .u32 r.acc.x) := h.row.cell_ (i := 16) rfl
  have a17 : w.cell? ⟨B, 17, none⟩ = some (.int .u32 r.acc.y) := h.row.cell_ (i := 17) rfl
  have a18 : w.cell? ⟨B, 18, none⟩ = some (.int .u32 r.acc.o) := h.row.cell_ (i := 18) rfl
  have a19 : w.cell? ⟨B, 19, none⟩ = some (nv) := h.row.cell_ (i := 19) rfl
  have f14 : w.frozen? ⟨B, 14, none⟩ = false := h.row.frozen 14
  have f15 : w.frozen? ⟨B, 15, none⟩ = false := h.row.frozen 15
  have f16 : w.frozen? ⟨B, 16, none⟩ = false := h.row.frozen 16
  have f17 : w.frozen? ⟨B, 17, none⟩ = false := h.row.frozen 17
  have f18 : w.frozen? ⟨B, 18, none⟩ = false := h.row.frozen 18
  have f19 : w.frozen? ⟨B, 19, none⟩ = false := h.row.frozen 19
  have HP0 := Lib.hid h.reset
  have HO0 := Lib.hid (reset_only (Only.refl (TurnB B A) w) (B := B) (.inl rfl))
  clear h
  go_enter Tryz.func7, Tryz.ntmps7
  go_upto_region 4 with (fail)
  clear a14 a15 a16 a17 a18 a19 f14 f15 f16 f17 f18 f19
  generalize ((((((w.setCell ⟨B, 14, none⟩ (.int .i64 0)).setCell ⟨B, 15, none⟩ (.int .i64 0)).setCell ⟨B, 16, none⟩ (.int .u32 0)).setCell ⟨B, 17, none⟩ (.int .u32 0)).setCell ⟨B, 18, none⟩ (.int .u32 0)).setCell ⟨B, 19, none⟩ (.slice none 0 0)) = w1 at *
  have c9 : w1.cell? ⟨B, 9, none⟩ = some (.bool r.k.on) := HP0.out.row.cell_ (i := 9) rfl
  rw [HON.out] at c9
  go_wp2_with fail
  clear c9
  refine (wake_do B p A cp _ r.fresh _ HP0.out).mono ?_
  rw [show ({ r.fresh with k := r.fresh.wakeR.next, xs := r.fresh.wakeR.xs, acc := ofV r.fresh.wakeR.acc } : LS) = r.waking from rfl, HRW.out]
  rintro e w2 ⟨rfl, hO, hP⟩
  have HP := Lib.hid hP
  have HO := Lib.hid (HO0.out.trans hO)
  clear hP hO HP0 HO0
  have HOV := Lib.hid (show r'.over = ((r'.ret != 0) && !r'.k.on) from rfl)
  have c13 : w2.cell? ⟨B, 13, none⟩ = some (.int .i64 r'.ret) := HP.out.row.cell_ (i := 13) rfl
  have c9 : w2.cell? ⟨B, 9, none⟩ = some (.bool r'.k.on) := HP.out.row.cell_ (i := 9) rfl
  cases hb : (r'.ret != 0)
  · have HB := Lib.hid hb
    have hc : ¬ (!(r'.ret == 0)) = true := by rw [show (!(r'.ret == 0)) = (r'.ret != 0) from rfl, hb]; simp
    go_wp2
    go_ret
    exact ⟨ret_bool (by rw [HOV.out, HB.out, Bool.false_and]), HO.out, trivial, _, HP.out⟩
  · have HB := Lib.hid hb
    cases hk : r'.k.on
    · have HKK := Lib.hid hk
      rw [hk] at c9
      clear hk
      go_wp2
      go_ret
      exact ⟨ret_bool (by rw [HOV.out, HB.out, HKK.out]; rfl), HO.out, trivial, _, HP.out⟩
    · have HKK := Lib.hid hk
      rw [hk] at c9
      clear hk
      go_wp2
      go_ret
      exact ⟨ret_bool (by rw [HOV.out, HB.out, HKK.out]; rfl), HO.out, trivial, _, HP.out⟩
set_option maxHeartbeats 1000000 in
theorem step_lines (B : Nat) (p A : Option Addr) (cp : Nat) (nv fv : Value) (r r' : LS) (T : Nat → Prop) (I Y : World → Prop) (w : World) (h : RunQ w B p A cp nv r) (hoff : r.k.on = false)
    (hl : Lined B p A cp fv r.fresh r' T I Y) (ht : T B) (hi : ∀ w1, Only (· = B) w w1 → I w1) :
    Calls Tryz.prog 7 #[.pointer (some ⟨B, 0, none⟩), fv] w (Stepd B p A cp r' T Y w) := by
  have HON := Lib.hid hoff
  have HLI := Lib.hid hl
  have HT := Lib.hid ht
  have HI := Lib.hid (hi _ (reset_only (Only.refl (· = B) w) (B := B) rfl))
  clear hoff hl ht hi
  have a14 : w.cell? ⟨B, 14, none⟩ = some (.int .i64 r.acc.k) := h.row.cell_ (i := 14) rfl
  have a15 : w.cell? ⟨B, 15, none⟩ = some (.int .i64 r.acc.c) := h.row.cell_ (i := 15) rfl
  have a16 : w.cell? ⟨B, 16, none⟩ = some (.int .u32 r.acc.x) := h.row.cell_ (i := 16) rfl
  have a17 : w.cell? ⟨B, 17, none⟩ = some (.int .u32 r.acc.y) := h.row.cell_ (i := 17) rfl
  have a18 : w.cell? ⟨B, 18, none⟩ = some (.int .u32 r.acc.o) := h.row.cell_ (i := 18) rfl
  have a19 : w.cell? ⟨B, 19, none⟩ = some (nv) := h.row.cell_ (i := 19) rfl
  have f14 : w.frozen? ⟨B, 14, none⟩ = false := h.row.frozen 14
  have f15 : w.frozen? ⟨B, 15, none⟩ = false := h.row.frozen 15
  have f16 : w.frozen? ⟨B, 16, none⟩ = false := h.row.frozen 16
  have f17 : w.frozen? ⟨B, 17, none⟩ = false := h.row.frozen 17
  have f18 : w.frozen? ⟨B, 18, none⟩ = false := h.row.frozen 18
  have f19 : w.frozen? ⟨B, 19, none⟩ = false := h.row.frozen 19
  have HP0 := Lib.hid h.reset
  have HO0 := Lib.hid (reset_only (Only.refl T w) (B := B) HT.out)
  clear h
  go_enter Tryz.func7, Tryz.ntmps7
  go_upto_region 4 with (fail)
  clear a14 a15 a16 a17 a18 a19 f14 f15 f16 f17 f18 f19
  generalize ((((((w.setCell ⟨B, 14, none⟩ (.int .i64 0)).setCell ⟨B, 15, none⟩ (.int .i64 0)).setCell ⟨B, 16, none⟩ (.int .u32 0)).setCell ⟨B, 17, none⟩ (.int .u32 0)).setCell ⟨B, 18, none⟩ (.int .u32 0)).setCell ⟨B, 19, none⟩ (.slice none 0 0)) = w1 at *
  have c9 : w1.cell? ⟨B, 9, none⟩ = some (.bool r.k.on) := HP0.out.row.cell_ (i := 9) rfl
  rw [HON.out] at c9
  go_wp2_with fail
  clear c9
  refine (HLI.out _ _ HI.out HP0.out).mono ?_
  rintro e w2 ⟨rfl, hO, hY, nv', hP⟩
  have HP := Lib.hid hP
  have HY := Lib.hid hY
  have HO := Lib.hid (HO0.out.trans hO)
  clear hP hO hY HP0 HO0 HLI HI
  have HOV := Lib.hid (show r'.over = ((r'.ret != 0) && !r'.k.on) from rfl)
  have c13 : w2.cell? ⟨B, 13, none⟩ = some (.int .i64 r'.ret) := HP.out.row.cell_ (i := 13) rfl
  have c9 : w2.cell? ⟨B, 9, none⟩ = some (.bool r'.k.on) := HP.out.row.cell_ (i := 9) rfl
  cases hb : (r'.ret != 0)
  · have HB := Lib.hid hb
    have hc : ¬ (!(r'.ret == 0)) = true := by rw [show (!(r'.ret == 0)) = (r'.ret != 0) from rfl, hb]; simp
    go_wp2
    go_ret
    exact ⟨ret_bool (by rw [HOV.out, HB.out, Bool.false_and]), HO.out, HY.out, _, HP.out⟩
  · have HB := Lib.hid hb
    cases hk : r'.k.on
    · have HKK := Lib.hid hk
      rw [hk] at c9
      clear hk
      go_wp2
      go_ret
      exact ⟨ret_bool (by rw [HOV.out, HB.out, HKK.out]; rfl), HO.out, HY.out, _, HP.out⟩
    · have HKK := Lib.hid hk
      rw [hk] at c9
      clear hk
      go_wp2
      go_ret
      exact ⟨ret_bool (by rw [HOV.out, HB.out, HKK.out]; rfl), HO.out, HY.out, _, HP.out⟩
end Go.Proofs.YtaeninikaalkjaaGreat
set_option linter.unusedVariables false
set_option linter.unusedSimpArgs false
namespace Go.Proofs.YtaeninikaalkjaaGreat
open Go.RowKit
def HoldsAny (fv : Value) (q : Int → Bool) : Prop := ∀ (v : Int) (w : World), 0 ≤ v → v < 4294967296 →
  Calls Tryz.prog 108 #[fv, .int .u32 v] w fun e w' => e = .returned (.bool (q v)) ∧ Only Nil w w'
def Holds (A : Option Addr) (w0 : World) (fv : Value) (q : Int → Bool) : Prop := ∀ (v : Int) (w : World), Only (At A) w0 w → 0 ≤ v → v < 4294967296 →
  Calls Tryz.prog 108 #[fv, .int .u32 v] w fun e w' => e = .returned (.bool (q v)) ∧ Only Nil w w'
theorem HoldsAny.at {fv : Value} {q : Int → Bool} (h : HoldsAny fv q) {A : Option Addr} {w0 : World} : Holds A w0 fv q := fun v w _ => h v w
theorem Holds.move {A : Option Addr} {w0 w1 : World} {fv : Value} {q : Int → Bool} (h : Holds A w0 fv q) (ho : Only (At A) w0 w1) : Holds A w1 fv q := fun v w hw => h v w (ho.trans hw)
theorem Holds.move0 {A : Option Addr} {w0 w1 : World} {fv : Value} {q : Int → Bool} (h : Holds A w0 fv q) (ho : Only Nil w0 w1) : Holds A w1 fv q := h.move (ho.mono (fun _ _ h => h.elim))
theorem rec_idle (w : World) :
    CallsD Tryz.prog 111 #[] .returning w fun e u' w' => e = .returned (.tuple #[]) ∧ u' = .returning ∧ w = w' := by
  refine callsD_of_wpS Tryz.func111 rfl fun c₀ cs hu => ?_
  apply wpS_region
  simp [wpOpsS, go_sem, recoverD, hu, Tryz.ntmps111, Exit.thenS]
  cases c₀
  simp_all [bodyPostS, results, Tryz.results111]
set_option maxRecDepth 100000 in
theorem neq_fn (f : Fn) (first cap : Array Value) (w : World) : (binOp .neq 95 (.func f first cap) .nilFunc).run Tryz.prog w = .ok (.bool true) w := by
  first | rfl | kernel_rfl
end Go.Proofs.YtaeninikaalkjaaGreat
set_option linter.unusedVariables false
set_option linter.unusedSimpArgs false
namespace Go.Proofs.YtaeninikaalkjaaGreat
open Go.RowKit
end Go.Proofs.YtaeninikaalkjaaGreat
set_option linter.unusedVariables false
set_option linter.unusedSimpArgs false
namespace Go.Proofs.YtaeninikaalkjaaGreat
open Go.RowKit
theorem either_any (b : Bool) (y z : Int) (w : World) :
    Calls Tryz.prog 101 #[.bool b, .int .i64 y, .int .i64 z] w fun e w' => e = .returned (.agg #[.int .i64 (if b then y else z)]) ∧ Only Nil w w' := by
  cases b
  all_goals
    simp only [Bool.false_eq_true, if_false, if_true]
    go_enter Tryz.func101, Tryz.ntmps101
    go_wp2
    exact post_row (P := Tryz.prog) Tryz.results101 (t := 25) (by rfl) (Row.new _ _ _) Tryz.underlying25 rfl (by kernel_rfl) rfl ⟨rfl, (Only.refl _ _).alloc _⟩
theorem setWatch_any (p A : Option Addr) (cp : Nat) (xs : List Int) (n i x : Int) (w : World) (h : Memo w p A cp xs) :
    Calls Tryz.prog 100 #[.pointer p, .agg #[.int .i64 n], .int .i64 i, .int .u32 x] w fun e w' =>
      e = .returned (doVal xs 2 (wc n i) x 0) ∧ Only (At A) w w' ∧ Memo w' p A cp (st xs (wc n i) x) := by
  have hst : doNew xs 2 (wc n i) x 0 = st xs (wc n i) x := by rw [doNew_st xs 2 _ x 0 rfl]; rfl
  have HST := Lib.hid hst
  have HH := Lib.hid h
  have ha : ∀ j, At p j ∨ At A j → j < w.heap.size := HH.out.lt
  have HA := Lib.hid ha
  clear h ha hst
  go_enter Tryz.func100, Tryz.ntmps100
  go_wp2_with fail
  refine (watch_any n i _).mono ?_
  rintro e w1 ⟨rfl, hO⟩
  have R8 : Row w1 (w.heap.size + 1) 39 #[.int .i64 0, .int .i64 0, .int .u32 0, .int .u32 0, .int .u32 0] := (Row.new2 w _ _ _).only hO id
  have hO1 : Only Nil w w1 := (((Only.refl Nil w).alloc _).alloc _).trans hO
  have HM1 := Lib.hid (HH.out.keep hO1)
  have HO1 := Lib.hid hO1
  have HR8 := Lib.hid R8
  clear hO R8 hO1
  show _
  have hpc : cellI n 2 i = wc n i := rfl
  rw [hpc]
  clear hpc
  go_wp2_with fail
  refine (do_memo p A cp xs 2 (wc n i) x 0 0 _ HM1.out).mono ?_
  obtain ⟨k', c', x', y', hv⟩ := doVal_form xs 2 (wc n i) x 0
  rw [oldAt xs 2 (wc n i) rfl] at hv
  rw [hv, HST.out]
  rintro e w2 ⟨rfl, hO, hM⟩
  have HS := Lib.hid ((HO1.out.mono (fun _ _ h => h.elim)).trans hO)
  have R8 := HR8.out.only hO (fun h => by have := HA.out _ (.inr h); omega)
  have HR9 := Lib.hid (R8.alloc (Obj.cells #[Value.int IntKind.i64 k', Value.int IntKind.i64 c', Value.int IntKind.u32 x', Value.int IntKind.u32 y', Value.int IntKind.u32 (wordAt xs (wc n i))] 39))
  have HN := Lib.hid (Row.new w2 39 #[Value.int IntKind.i64 k', Value.int IntKind.i64 c', Value.int IntKind.u32 x', Value.int IntKind.u32 y', Value.int IntKind.u32 (wordAt xs (wc n i))])
  have HS2 := Lib.hid (HS.out.alloc (Obj.cells #[Value.int IntKind.i64 k', Value.int IntKind.i64 c', Value.int IntKind.u32 x', Value.int IntKind.u32 y', Value.int IntKind.u32 (wordAt xs (wc n i))] 39))
  have HM2 := Lib.hid (hM.keep ((Only.refl Nil w2).alloc (Obj.cells #[Value.int IntKind.i64 k', Value.int IntKind.i64 c', Value.int IntKind.u32 x', Value.int IntKind.u32 y', Value.int IntKind.u32 (wordAt xs (wc n i))] 39)))
  have HV := Lib.hid hv
  have hlt := R8.lt
  have HLT := Lib.hid hlt
  clear hO R8 hM hv hlt HS
  generalize wordAt xs (wc n i) = o' at *
  generalize doOk xs 2 (wc n i) = ok at *
  go_upto_region 2 with (fail)
  generalize w2.alloc (.cells #[.int .i64 k', .int .i64 c', .int .u32 x', .int .u32 y', .int .u32 o'] 39) = w3 at *
  generalize w2.heap.size = g2 at *
  have c80 : w3.cell? ⟨w.heap.size + 1, 0, none⟩ = some (.int .i64 0) := HR9.out.cell_ (i := 0) rfl
  have c81 : w3.cell? ⟨w.heap.size + 1, 1, none⟩ = some (.int .i64 0) := HR9.out.cell_ (i := 1) rfl
  have c82 : w3.cell? ⟨w.heap.size + 1, 2, none⟩ = some (.int .u32 0) := HR9.out.cell_ (i := 2) rfl
  have c83 : w3.cell? ⟨w.heap.size + 1, 3, none⟩ = some (.int .u32 0) := HR9.out.cell_ (i := 3) rfl
  have c84 : w3.cell? ⟨w.heap.size + 1, 4, none⟩ = some (.int .u32 0) := HR9.out.cell_ (i := 4) rfl
  have f80 : w3.frozen? ⟨w.heap.size + 1, 0, none⟩ = false := HR9.out.frozen 0
  have f81 : w3.frozen? ⟨w.heap.size + 1, 1, none⟩ = false := HR9.out.frozen 1
  have f82 : w3.frozen? ⟨w.heap.size + 1, 2, none⟩ = false := HR9.out.frozen 2
  have f83 : w3.frozen? ⟨w.heap.size + 1, 3, none⟩ = false := HR9.out.frozen 3
  have f84 : w3.frozen? ⟨w.heap.size + 1, 4, none⟩ = false := HR9.out.frozen 4
  have c0 : w3.cell? ⟨g2, 0, none⟩ = some (.int .i64 k') := HN.out.cell_ (i := 0) rfl
  have c1 : w3.cell? ⟨g2, 1, none⟩ = some (.int .i64 c') := HN.out.cell_ (i := 1) rfl
  have c2 : w3.cell? ⟨g2, 2, none⟩ = some (.int .u32 x') := HN.out.cell_ (i := 2) rfl
  have c3 : w3.cell? ⟨g2, 3, none⟩ = some (.int .u32 y') := HN.out.cell_ (i := 3) rfl
  have c4 : w3.cell? ⟨g2, 4, none⟩ = some (.int .u32 o') := HN.out.cell_ (i := 4) rfl
  go_wp2
  refine post_row (P := Tryz.prog) Tryz.results100 (t := 39) (g := w.heap.size + 1) (cs := #[.int .i64 k', .int .i64 c', .int .u32 x', .int .u32 y', .int .u32 o']) rfl (five HR9.out _ _ _ _ _) Tryz.underlying39 rfl (by kernel_rfl) rfl ⟨?_, five_only HS2.out (.inl (by omega)) _ _ _ _ _, ?_⟩
  · rw [HV.out]
  · exact HM2.out.far (five_only (Only.refl (· = w.heap.size + 1) w3) (.inr rfl) _ _ _ _ _) (fun j hj h => by have := HA.out j hj; omega)
end Go.Proofs.YtaeninikaalkjaaGreat
set_option linter.unusedVariables false
set_option linter.unusedSimpArgs false
namespace Go.Proofs.YtaeninikaalkjaaGreat
open Go.RowKit
theorem has_any (p A : Option Addr) (cp : Nat) (xs : List Int) (n i : Int) (w : World) (h : Memo w p A cp xs) :
    Calls Tryz.prog 109 #[.pointer p, .agg #[.int .i64 n], .int .i64 i] w fun e w' =>
      e = .returned (.bool (hasP xs n i)) ∧ Only (At A) w w' ∧ Memo w' p A cp xs := by
  have hok0 : doOk xs 1 (pc n i) = there xs (pc n i) := by simp [doOk, isKind]
  have hst : doNew xs 1 (pc n i) 0 0 = xs := doNew_load xs _ _ _
  have HH := Lib.hid h
  have ha : ∀ j, At p j ∨ At A j → j < w.heap.size := HH.out.lt
  have HA := Lib.hid ha
  clear h ha
  go_enter Tryz.func109, Tryz.ntmps109
  go_wp2_with fail
  have e0 := (Only.refl Nil w).alloc (Obj.cells #[Value.int IntKind.i64 n] 37)
  refine (on_any p A cp xs n i 1 0 0 0 0 _ (HH.out.keep e0)).mono ?_
  obtain ⟨k', c', x', y', hv⟩ := doVal_form xs 1 (pc n i) 0 0
  rw [hv, hok0, hst]
  rintro e w2 ⟨rfl, hO, hM⟩
  have hS : Only (At A) w w2 := (e0.mono (fun _ _ h => h.elim)).trans hO
  have HS := Lib.hid hS
  have HM2 := Lib.hid hM
  clear hO hS hM e0 hv hok0 hst
  have hp : hasP xs n i = (there xs (pc n i) && (wordAt xs (pc n i) != 0)) := by
    unfold hasP wordAt
    cases there xs (pc n i) <;> simp
  cases ht : there xs (pc n i)
  · rw [ht] at hp
    have HP := Lib.hid hp
    clear ht hp
    go_wp2
    go_ret
    exact ⟨by rw [HP.out]; rfl, HS.out.alloc _, HM2.out.keep ((Only.refl Nil w2).alloc _)⟩
  · rw [ht] at hp
    generalize wordAt xs (pc n i) = v at *
    have HP := Lib.hid hp
    clear ht hp
    go_wp2
    go_ret
    exact ⟨by rw [HP.out, Bool.true_and]; rfl, HS.out.alloc _, HM2.out.keep ((Only.refl Nil w2).alloc _)⟩
end Go.Proofs.YtaeninikaalkjaaGreat
set_option linter.unusedVariables false
set_option linter.unusedSimpArgs false
namespace Go.Proofs.YtaeninikaalkjaaGreat
open Go.RowKit
theorem take_any (p A : Option Addr) (cp : Nat) (xs : List Int) (n i : Int) (w : World) (h : Memo w p A cp xs) :
    Calls Tryz.prog 102 #[.pointer p, .agg #[.int .i64 n], .int .i64 i] w fun e w' =>
      e = .returned (.tuple #[takeVal xs n i, .bool (hasP xs n i)]) ∧ Only (At A) w w' ∧ Memo w' p A cp (st xs (pc n i) 0) := by
  have HH := Lib.hid h
  have ha : ∀ j, At p j ∨ At A j → j < w.heap.size := HH.out.lt
  have HA := Lib.hid ha
  clear h ha
  go_enter Tryz.func102, Tryz.ntmps102
  go_wp2_with fail
  have e0 := ((Only.refl Nil w).alloc (Obj.cells #[Value.int IntKind.i64 n] 37)).alloc (Obj.cells #[Value.int IntKind.i64 0, Value.int IntKind.i64 0, Value.int IntKind.u32 0, Value.int IntKind.u32 0, Value.int IntKind.u32 0] 39)
  refine (has_any p A cp xs n i _ (HH.out.keep e0)).mono ?_
  rintro e w2 ⟨rfl, hO, hM⟩
  have hS : Only (At A) w w2 := (e0.mono (fun _ _ h => h.elim)).trans hO
  have R4 : Row w2 w.heap.size 37 #[.int .i64 n] := ((Row.new w _ _).alloc _).only hO (fun h => by have := HA.out _ (.inr h); omega)
  have R8 : Row w2 (w.heap.size + 1) 39 #[.int .i64 0, .int .i64 0, .int .u32 0, .int .u32 0, .int .u32 0] := (Row.new2 w _ _ _).only hO (fun h => by have := HA.out _ (.inr h); omega)
  have c40 : w2.cell? ⟨w.heap.size, 0, none⟩ = some (.int .i64 n) := R4.cell_ (i := 0) rfl
  have HR9 := Lib.hid R8
  have HS := Lib.hid hS
  have HM2 := Lib.hid hM
  clear hO R8 hS hM e0 R4
  cases hp : hasP xs n i
  · have HP := Lib.hid hp
    have c80 : w2.cell? ⟨w.heap.size + 1, 0, none⟩ = some (.int .i64 0) := HR9.out.cell_ (i := 0) rfl
    have c81 : w2.cell? ⟨w.heap.size + 1, 1, none⟩ = some (.int .i64 0) := HR9.out.cell_ (i := 1) rfl
    have c82 : w2.cell? ⟨w.heap.size + 1, 2, none⟩ = some (.int .u32 0) := HR9.out.cell_ (i := 2) rfl
    have c83 : w2.cell? ⟨w.heap.size + 1, 3, none⟩ = some (.int .u32 0) := HR9.out.cell_ (i := 3) rfl
    have c84 : w2.cell? ⟨w.heap.size + 1, 4, none⟩ = some (.int .u32 0) := HR9.out.cell_ (i := 4) rfl
    have f80 : w2.frozen? ⟨w.heap.size + 1, 0, none⟩ = false := HR9.out.frozen 0
    have f81 : w2.frozen? ⟨w.heap.size + 1, 1, none⟩ = false := HR9.out.frozen 1
    have f82 : w2.frozen? ⟨w.heap.size + 1, 2, none⟩ = false := HR9.out.frozen 2
    have f83 : w2.frozen? ⟨w.heap.size + 1, 3, none⟩ = false := HR9.out.frozen 3
    have f84 : w2.frozen? ⟨w.heap.size + 1, 4, none⟩ = false := HR9.out.frozen 4
    clear hp
    go_wp2
    refine post_row_tmp (P := Tryz.prog) Tryz.results102 (t := 39) (g := w.heap.size + 1) (cs := #[.int .i64 0, .int .i64 0, .int .u32 0, .int .u32 0, .int .u32 0]) rfl (five HR9.out _ _ _ _ _) Tryz.underlying39 rfl (by kernel_rfl) rfl ⟨?_, five_only HS.out (.inl (by omega)) _ _ _ _ _, ?_⟩
    · simp only [takeVal, HP.out]; rfl
    · rw [st_none HP.out]
      exact HM2.out.far (five_only (Only.refl (· = w.heap.size + 1) w2) (.inr rfl) _ _ _ _ _) (fun j hj h => by have := HA.out j hj; omega)
  · have HP := Lib.hid hp
    have ht := hasP_there hp
    have hok0 : doOk xs 4 (pc n i) = true := by simp [doOk, isKind, ht]
    have hv : doVal xs 4 (pc n i) 0 0 = .agg #[.int .i64 4, .int .i64 (pc n i), .int .u32 0, .int .u32 0, .int .u32 (wordAt xs (pc n i))] := by simp [doVal, hok0, accOf]
    have hst : doNew xs 4 (pc n i) 0 0 = st xs (pc n i) 0 := by rw [doNew_st xs 4 _ 0 0 rfl]; rfl
    have HT := Lib.hid ht
    have HK := Lib.hid hok0
    have HV := Lib.hid hv
    have HST := Lib.hid hst
    clear hp ht hok0 hv hst
    go_wp2_with fail
    refine (on_any p A cp xs n i 4 0 0 0 0 _ HM2.out).mono ?_
    rw [HV.out, HK.out, HST.out]
    rintro e w3 ⟨rfl, hO, hM⟩
    have R8 : Row w3 (w.heap.size + 1) 39 #[.int .i64 0, .int .i64 0, .int .u32 0, .int .u32 0, .int .u32 0] := HR9.out.only hO (fun h => by have := HA.out _ (.inr h); omega)
    have c80 : w3.cell? ⟨w.heap.size + 1, 0, none⟩ = some (.int .i64 0) := R8.cell_ (i := 0) rfl
    have c81 : w3.cell? ⟨w.heap.size + 1, 1, none⟩ = some (.int .i64 0) := R8.cell_ (i := 1) rfl
    have c82 : w3.cell? ⟨w.heap.size + 1, 2, none⟩ = some (.int .u32 0) := R8.cell_ (i := 2) rfl
    have c83 : w3.cell? ⟨w.heap.size + 1, 3, none⟩ = some (.int .u32 0) := R8.cell_ (i := 3) rfl
    have c84 : w3.cell? ⟨w.heap.size + 1, 4, none⟩ = some (.int .u32 0) := R8.cell_ (i := 4) rfl
    have f80 : w3.frozen? ⟨w.heap.size + 1, 0, none⟩ = false := R8.frozen 0
    have f81 : w3.frozen? ⟨w.heap.size + 1, 1, none⟩ = false := R8.frozen 1
    have f82 : w3.frozen? ⟨w.heap.size + 1, 2, none⟩ = false := R8.frozen 2
    have f83 : w3.frozen? ⟨w.heap.size + 1, 3, none⟩ = false := R8.frozen 3
    have f84 : w3.frozen? ⟨w.heap.size + 1, 4, none⟩ = false := R8.frozen 4
    have HR3 := Lib.hid R8
    have HS3 := Lib.hid (HS.out.trans hO)
    have HM3 := Lib.hid hM
    clear hO R8 hM
    generalize hw : wordAt xs (pc n i) = v at *
    have HW := Lib.hid hw
    clear hw
    go_wp2
    refine post_row_tmp (P := Tryz.prog) Tryz.results102 (t := 39) (g := w.heap.size + 1) (cs := #[.int .i64 4, .int .i64 (pc n i), .int .u32 0, .int .u32 0, .int .u32 v]) rfl (five HR3.out _ _ _ _ _) Tryz.underlying39 rfl (by kernel_rfl) rfl ⟨?_, five_only HS3.out (.inl (by omega)) _ _ _ _ _, ?_⟩
    · simp only [takeVal, HP.out, HW.out]; rfl
    · exact HM3.out.far (five_only (Only.refl (· = w.heap.size + 1) w3) (.inr rfl) _ _ _ _ _) (fun j hj h => by have := HA.out j hj; omega)
end Go.Proofs.YtaeninikaalkjaaGreat
