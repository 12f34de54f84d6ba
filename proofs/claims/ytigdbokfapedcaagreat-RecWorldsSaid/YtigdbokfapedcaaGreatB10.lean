/- Step, LineW, KLook. -/
import Derived.Test.YtigdbokfapedcaaGreatB9
import Derived.Test.YtigdbokfapedcaaGreatB6
import Derived.Test.YtigdbokfapedcaaGreatB2
/- wait.Step. -/
set_option linter.unusedVariables false
set_option linter.unusedSimpArgs false
namespace Go.Proofs.YtigdbokfapedcaaGreat
open Go.RowKit

/-- What a step's call leaves. -/
def Stepped (p A : Option Addr) (cp : Nat) (r : StepR) (w : World) (e : Ending) (w' : World) : Prop :=
  e = .returned (.tuple #[.agg #[.int .i64 r.next], r.acc, .bool r.seen, .bool r.done]) ∧ Only (At A) w w' ∧ Memo w' p A cp r.xs

/-- A step's own blocks: the map, the stage, the results. -/
structure SF (w0 : World) (p A : Option Addr) (cp : Nat) (B : Nat) (n s ns : Int) (acs : Array Value) (W : World) (xs : List Int) : Prop where
  only : Only (At A) w0 W
  memo : Memo W p A cp xs
  rm : Row W B 49 #[.int .i64 n]
  rs : Row W (B + 1) 80 #[.int .i64 s]
  rn : Row W (B + 1 + 1) 80 #[.int .i64 ns]
  ra : Row W (B + 1 + 1 + 1) 63 acs
  lt : ∀ j, At p j ∨ At A j → j < B
  hw : w0.heap.size ≤ B

section
variable {w0 W W' : World} {p A : Option Addr} {cp B : Nat} {n s ns : Int} {acs : Array Value} {xs ys : List Int}
theorem SF.call (h : SF w0 p A cp B n s ns acs W xs) (ho : Only (At A) W W') (hm : Memo W' p A cp ys) : SF w0 p A cp B n s ns acs W' ys :=
  ⟨h.only.trans ho, hm, h.rm.only ho (fun e => by have := h.lt _ (.inr e); omega), h.rs.only ho (fun e => by have := h.lt _ (.inr e); omega), h.rn.only ho (fun e => by have := h.lt _ (.inr e); omega), h.ra.only ho (fun e => by have := h.lt _ (.inr e); omega), h.lt, h.hw⟩
theorem SF.keep (h : SF w0 p A cp B n s ns acs W xs) (ho : Only Nil W W') : SF w0 p A cp B n s ns acs W' xs := h.call (ho.mono (fun _ _ h => h.elim)) (h.memo.keep ho)
theorem SF.setN (h : SF w0 p A cp B n s ns acs W xs) (m : Int) : SF w0 p A cp B n s m acs (W.setCell ⟨B + 1 + 1, 0, none⟩ (.int .i64 m)) xs := by
  have ho := (Only.refl (· = B + 1 + 1) W).setCell (p := ⟨B + 1 + 1, 0, none⟩) (.inr rfl) (.int .i64 m)
  exact ⟨h.only.setCell (.inl (by have := h.hw; show w0.heap.size ≤ B + 1 + 1; omega)) _, h.memo.far ho (fun j hj e => by have := h.lt j hj; omega), h.rm.only ho (fun e => by omega), h.rs.only ho (fun e => by omega), h.rn.set 0 _, h.ra.only ho (fun e => by omega), h.lt, h.hw⟩
theorem SF.setA {a0 a1 a2 a3 a4 : Value} (h : SF w0 p A cp B n s ns #[a0, a1, a2, a3, a4] W xs) (v0 v1 v2 v3 v4 : Value) :
    SF w0 p A cp B n s ns #[v0, v1, v2, v3, v4] (((((W.setCell ⟨B + 1 + 1 + 1, 0, none⟩ v0).setCell ⟨B + 1 + 1 + 1, 1, none⟩ v1).setCell ⟨B + 1 + 1 + 1, 2, none⟩ v2).setCell ⟨B + 1 + 1 + 1, 3, none⟩ v3).setCell ⟨B + 1 + 1 + 1, 4, none⟩ v4) xs := by
  have ho := five_only (Only.refl (· = B + 1 + 1 + 1) W) (g := B + 1 + 1 + 1) (.inr rfl) v0 v1 v2 v3 v4
  exact ⟨five_only h.only (.inl (by have := h.hw; omega)) _ _ _ _ _, h.memo.far ho (fun j hj e => by have := h.lt j hj; omega), h.rm.only ho (fun e => by omega), h.rs.only ho (fun e => by omega), h.rn.only ho (fun e => by omega), five h.ra _ _ _ _ _, h.lt, h.hw⟩
theorem SF.start {w : World} {p A : Option Addr} {cp : Nat} {xs : List Int} (n s : Int) (h : Memo w p A cp xs) :
    SF w p A cp w.heap.size n s 0 #[.int .i64 0, .int .i64 0, .int .u32 0, .int .u32 0, .int .u32 0] ((((w.alloc (.cells #[.int .i64 n] 49)).alloc (.cells #[.int .i64 s] 80)).alloc (.cells #[.int .i64 0] 80)).alloc (.cells #[.int .i64 0, .int .i64 0, .int .u32 0, .int .u32 0, .int .u32 0] 63)) xs := by
  have e0 := ((((Only.refl Nil w).alloc (.cells #[.int .i64 n] 49)).alloc (.cells #[.int .i64 s] 80)).alloc (.cells #[.int .i64 0] 80)).alloc (.cells #[.int .i64 0, .int .i64 0, .int .u32 0, .int .u32 0, .int .u32 0] 63)
  refine ⟨e0.mono (fun _ _ h => h.elim), h.keep e0, (((Row.new w _ _).alloc _).alloc _).alloc _, ((Row.new2 w _ _ _).alloc _).alloc _, ?_, ?_, h.lt, Nat.le_refl _⟩
  · have e := (Row.new2 (w.alloc (.cells #[.int .i64 n] 49)) (.cells #[.int .i64 s] 80) 80 #[.int .i64 0]).alloc (.cells #[.int .i64 0, .int .i64 0, .int .u32 0, .int .u32 0, .int .u32 0] 63)
    rwa [show (w.alloc (.cells #[.int .i64 n] 49)).heap.size = w.heap.size + 1 by simp] at e
  · have e := Row.new2 ((w.alloc (.cells #[.int .i64 n] 49)).alloc (.cells #[.int .i64 s] 80)) (.cells #[.int .i64 0] 80) 63 #[.int .i64 0, .int .i64 0, .int .u32 0, .int .u32 0, .int .u32 0]
    rwa [show ((w.alloc (.cells #[.int .i64 n] 49)).alloc (.cells #[.int .i64 s] 80)).heap.size = w.heap.size + 1 + 1 by simp] at e
end


set_option maxHeartbeats 400000 in
theorem step_spin (p A : Option Addr) (cp : Nat) (xs : List Int) (n mode i s c : Int) (fv : Value) (q : Int → Bool) (w : World) (h : Memo w p A cp xs) (hf : Holds A w fv q) (hx : Words xs) (hm : ¬ mode = 2) :
    Calls Tryz.prog 193 #[.pointer p, .agg #[.int .i64 n], .int .i64 mode, .int .i64 i, .agg #[.int .i64 s], .int .i64 c, fv] w (Stepped p A cp ⟨0, doVal xs 1 c 0 0, q (wordAt xs c), q (wordAt xs c), xs⟩ w) := by
  have hm' : (mode != 2) = true := bne_iff_ne.2 hm
  have HF0 := Lib.hid (SF.start n s h)
  have HF := Lib.hid hf
  have HX := Lib.hid hx
  clear h hf hx
  go_enter Tryz.func193, Tryz.ntmps193
  go_wp2_with fail
  generalize (((w.alloc (.cells #[.int .i64 n] 49)).alloc (.cells #[.int .i64 s] 80)).alloc (.cells #[.int .i64 0] 80)).alloc (.cells #[.int .i64 0, .int .i64 0, .int .u32 0, .int .u32 0, .int .u32 0] 63) = w1 at *
  generalize w.heap.size = B at *
  refine (look_any p A cp xs c fv q _ HF0.out.memo (HF.out.move HF0.out.only) HX.out).mono ?_
  obtain ⟨k', c', x', y', hv⟩ := doVal_form xs 1 c 0 0
  rw [oldAt xs 1 c rfl] at hv
  rw [hv]
  rintro e w2 ⟨rfl, hO, hM⟩
  have HF1 := Lib.hid (HF0.out.call hO hM)
  have HV := Lib.hid hv
  clear hO hM hv
  generalize hwd : wordAt xs c = o' at *
  have HWD := Lib.hid hwd
  clear hwd
  have a0 : w2.cell? ⟨B + 1 + 1 + 1, 0, none⟩ = some (.int .i64 0) := HF1.out.ra.cell_ (i := 0) rfl
  have a1 : w2.cell? ⟨B + 1 + 1 + 1, 1, none⟩ = some (.int .i64 0) := HF1.out.ra.cell_ (i := 1) rfl
  have a2 : w2.cell? ⟨B + 1 + 1 + 1, 2, none⟩ = some (.int .u32 0) := HF1.out.ra.cell_ (i := 2) rfl
  have a3 : w2.cell? ⟨B + 1 + 1 + 1, 3, none⟩ = some (.int .u32 0) := HF1.out.ra.cell_ (i := 3) rfl
  have a4 : w2.cell? ⟨B + 1 + 1 + 1, 4, none⟩ = some (.int .u32 0) := HF1.out.ra.cell_ (i := 4) rfl
  have g0 : w2.frozen? ⟨B + 1 + 1 + 1, 0, none⟩ = false := HF1.out.ra.frozen 0
  have g1 : w2.frozen? ⟨B + 1 + 1 + 1, 1, none⟩ = false := HF1.out.ra.frozen 1
  have g2 : w2.frozen? ⟨B + 1 + 1 + 1, 2, none⟩ = false := HF1.out.ra.frozen 2
  have g3 : w2.frozen? ⟨B + 1 + 1 + 1, 3, none⟩ = false := HF1.out.ra.frozen 3
  have g4 : w2.frozen? ⟨B + 1 + 1 + 1, 4, none⟩ = false := HF1.out.ra.frozen 4
  go_wp2_with fail
  have HF2 := Lib.hid (HF1.out.setA (.int .i64 k') (.int .i64 c') (.int .u32 x') (.int .u32 y') (.int .u32 o'))
  clear a0 a1 a2 a3 a4 g0 g1 g2 g3 g4 HF1
  generalize (((((w2.setCell ⟨B + 1 + 1 + 1, 0, none⟩ (.int .i64 k')).setCell ⟨B + 1 + 1 + 1, 1, none⟩ (.int .i64 c')).setCell ⟨B + 1 + 1 + 1, 2, none⟩ (.int .u32 x')).setCell ⟨B + 1 + 1 + 1, 3, none⟩ (.int .u32 y')).setCell ⟨B + 1 + 1 + 1, 4, none⟩ (.int .u32 o')) = w3 at *
  refine wp_region_held_drew (S := fun w' => Five w' (B + 1 + 1 + 1) (.int .i64 k') (.int .i64 c') (.int .u32 x') (.int .u32 y') (.int .u32 o')) (by kernel_rfl) HF2.out.ra.five (fun hHeld => ?_)
  have HF3 := Lib.hid (HF2.out.keep (Only.refl Nil w3).drew)
  clear HF2
  generalize w3.drew = w4 at *
  refine zk 0 rfl ?_
  refine zk 1 rfl ?_
  refine zk 2 rfl ?_
  refine zk 3 rfl ?_
  have n0 : w4.cell? ⟨B + 1 + 1, 0, none⟩ = some (.int .i64 0) := HF3.out.rn.cell_ (i := 0) rfl
  have m0 : w4.frozen? ⟨B + 1 + 1, 0, none⟩ = false := HF3.out.rn.frozen 0
  refine mcl 4 rfl (by kernel_rfl) (by rfl) (fun K hK => ?_)
  go_simp
  have HF4 := Lib.hid (HF3.out.setN (0))
  refine hK.out _ _ HF4.out.ra.five (fun hHeld2 => ?_)
  clear hK K hHeld n0 m0 HF3
  generalize w4.setCell ⟨B + 1 + 1, 0, none⟩ (.int .i64 (0)) = w5 at *
  have c0 : w5.cell? ⟨B + 1 + 1 + 1, 0, none⟩ = some (.int .i64 k') := HF4.out.ra.cell_ (i := 0) rfl
  have c1 : w5.cell? ⟨B + 1 + 1 + 1, 1, none⟩ = some (.int .i64 c') := HF4.out.ra.cell_ (i := 1) rfl
  have c2 : w5.cell? ⟨B + 1 + 1 + 1, 2, none⟩ = some (.int .u32 x') := HF4.out.ra.cell_ (i := 2) rfl
  have c3 : w5.cell? ⟨B + 1 + 1 + 1, 3, none⟩ = some (.int .u32 y') := HF4.out.ra.cell_ (i := 3) rfl
  have c4 : w5.cell? ⟨B + 1 + 1 + 1, 4, none⟩ = some (.int .u32 o') := HF4.out.ra.cell_ (i := 4) rfl
  have g0 : w5.frozen? ⟨B + 1 + 1 + 1, 0, none⟩ = false := HF4.out.ra.frozen 0
  have g1 : w5.frozen? ⟨B + 1 + 1 + 1, 1, none⟩ = false := HF4.out.ra.frozen 1
  have g2 : w5.frozen? ⟨B + 1 + 1 + 1, 2, none⟩ = false := HF4.out.ra.frozen 2
  have g3 : w5.frozen? ⟨B + 1 + 1 + 1, 3, none⟩ = false := HF4.out.ra.frozen 3
  have g4 : w5.frozen? ⟨B + 1 + 1 + 1, 4, none⟩ = false := HF4.out.ra.frozen 4
  refine mcl 5 rfl (by kernel_rfl) (by rfl) (fun K hK => ?_)
  go_simp
  have HF5 := Lib.hid (HF4.out.setA (.int .i64 k') (.int .i64 c') (.int .u32 x') (.int .u32 y') (.int .u32 o'))
  refine hK.out _ _ HF5.out.ra.five (fun hHeld3 => ?_)
  clear hK K hHeld2 c0 c1 c2 c3 c4 g0 g1 g2 g3 g4 HF4
  generalize (((((w5.setCell ⟨B + 1 + 1 + 1, 0, none⟩ (.int .i64 k')).setCell ⟨B + 1 + 1 + 1, 1, none⟩ (.int .i64 c')).setCell ⟨B + 1 + 1 + 1, 2, none⟩ (.int .u32 x')).setCell ⟨B + 1 + 1 + 1, 3, none⟩ (.int .u32 y')).setCell ⟨B + 1 + 1 + 1, 4, none⟩ (.int .u32 o')) = w6 at *
  refine zk 6 rfl ?_
  refine zk 7 rfl ?_
  refine wpAnyH_done (by kernel_rfl) ?_ _
  clear hHeld3
  go_wp2
  refine post_two_tmps (P := Tryz.prog) Tryz.results193 (by rfl) HF5.out.rn Tryz.underlying80 rfl (by kernel_rfl) (by rfl) HF5.out.ra Tryz.underlying63 rfl (by kernel_rfl) rfl ⟨?_, HF5.out.only, HF5.out.memo⟩
  rw [HV.out]; rfl

set_option maxHeartbeats 400000 in
theorem step_0 (p A : Option Addr) (cp : Nat) (xs : List Int) (n i s c : Int) (fv : Value) (q : Int → Bool) (w : World) (h : Memo w p A cp xs) (hf : Holds A w fv q) (hx : Words xs) (h1 : s ≠ 1) (h2 : s ≠ 2) (h3 : s ≠ 3) (h4 : s ≠ 4) (m : Int) (hmm : (if q (wordAt xs c) = true then (0 : Int) else 1) = m) :
    Calls Tryz.prog 193 #[.pointer p, .agg #[.int .i64 n], .int .i64 2, .int .i64 i, .agg #[.int .i64 s], .int .i64 c, fv] w (Stepped p A cp ⟨m, doVal xs 1 c 0 0, q (wordAt xs c), q (wordAt xs c), xs⟩ w) := by
  have HMM := Lib.hid hmm
  clear hmm
  have h1' := beq_eq_false_iff_ne.2 h1
  have h2' := beq_eq_false_iff_ne.2 h2
  have h3' := beq_eq_false_iff_ne.2 h3
  have h4' := beq_eq_false_iff_ne.2 h4
  clear h1 h2 h3 h4
  have HF0 := Lib.hid (SF.start n s h)
  have HF := Lib.hid hf
  have HX := Lib.hid hx
  clear h hf hx
  go_enter Tryz.func193, Tryz.ntmps193
  go_wp2_with fail
  generalize (((w.alloc (.cells #[.int .i64 n] 49)).alloc (.cells #[.int .i64 s] 80)).alloc (.cells #[.int .i64 0] 80)).alloc (.cells #[.int .i64 0, .int .i64 0, .int .u32 0, .int .u32 0, .int .u32 0] 63) = w1 at *
  generalize w.heap.size = B at *
  refine (look_any p A cp xs c fv q _ HF0.out.memo (HF.out.move HF0.out.only) HX.out).mono ?_
  obtain ⟨k', c', x', y', hv⟩ := doVal_form xs 1 c 0 0
  rw [oldAt xs 1 c rfl] at hv
  rw [hv]
  rintro e w2 ⟨rfl, hO, hM⟩
  have HF1 := Lib.hid (HF0.out.call hO hM)
  have HV := Lib.hid hv
  clear hO hM hv
  generalize hwd : wordAt xs c = o' at *
  have HWD := Lib.hid hwd
  clear hwd
  have a0 : w2.cell? ⟨B + 1 + 1 + 1, 0, none⟩ = some (.int .i64 0) := HF1.out.ra.cell_ (i := 0) rfl
  have a1 : w2.cell? ⟨B + 1 + 1 + 1, 1, none⟩ = some (.int .i64 0) := HF1.out.ra.cell_ (i := 1) rfl
  have a2 : w2.cell? ⟨B + 1 + 1 + 1, 2, none⟩ = some (.int .u32 0) := HF1.out.ra.cell_ (i := 2) rfl
  have a3 : w2.cell? ⟨B + 1 + 1 + 1, 3, none⟩ = some (.int .u32 0) := HF1.out.ra.cell_ (i := 3) rfl
  have a4 : w2.cell? ⟨B + 1 + 1 + 1, 4, none⟩ = some (.int .u32 0) := HF1.out.ra.cell_ (i := 4) rfl
  have g0 : w2.frozen? ⟨B + 1 + 1 + 1, 0, none⟩ = false := HF1.out.ra.frozen 0
  have g1 : w2.frozen? ⟨B + 1 + 1 + 1, 1, none⟩ = false := HF1.out.ra.frozen 1
  have g2 : w2.frozen? ⟨B + 1 + 1 + 1, 2, none⟩ = false := HF1.out.ra.frozen 2
  have g3 : w2.frozen? ⟨B + 1 + 1 + 1, 3, none⟩ = false := HF1.out.ra.frozen 3
  have g4 : w2.frozen? ⟨B + 1 + 1 + 1, 4, none⟩ = false := HF1.out.ra.frozen 4
  go_wp2_with fail
  have HF2 := Lib.hid (HF1.out.setA (.int .i64 k') (.int .i64 c') (.int .u32 x') (.int .u32 y') (.int .u32 o'))
  clear a0 a1 a2 a3 a4 g0 g1 g2 g3 g4 HF1
  generalize (((((w2.setCell ⟨B + 1 + 1 + 1, 0, none⟩ (.int .i64 k')).setCell ⟨B + 1 + 1 + 1, 1, none⟩ (.int .i64 c')).setCell ⟨B + 1 + 1 + 1, 2, none⟩ (.int .u32 x')).setCell ⟨B + 1 + 1 + 1, 3, none⟩ (.int .u32 y')).setCell ⟨B + 1 + 1 + 1, 4, none⟩ (.int .u32 o')) = w3 at *
  refine wp_region_held_drew (S := fun w' => Five w' (B + 1 + 1 + 1) (.int .i64 k') (.int .i64 c') (.int .u32 x') (.int .u32 y') (.int .u32 o')) (by kernel_rfl) HF2.out.ra.five (fun hHeld => ?_)
  have HF3 := Lib.hid (HF2.out.keep (Only.refl Nil w3).drew)
  clear HF2
  generalize w3.drew = w4 at *
  refine zk 0 rfl ?_
  refine zk 2 rfl ?_
  refine zk 3 rfl ?_
  refine zk 4 rfl ?_
  refine mcl 1 rfl (by kernel_rfl) (by rfl) (fun K hK => ?_)
  go_simp
  refine (either_any (q o') 0 1 _).mono ?_
  rw [HMM.out]
  rintro e w9 ⟨rfl, hO⟩
  have HF9 := Lib.hid (HF3.out.keep hO)
  refine hK.out _ _ HF9.out.ra.five (fun hHeld9 => ?_)
  clear hK K hHeld hO HF3
  have HF3 := HF9
  clear HF9
  have n0 : w9.cell? ⟨B + 1 + 1, 0, none⟩ = some (.int .i64 0) := HF3.out.rn.cell_ (i := 0) rfl
  have m0 : w9.frozen? ⟨B + 1 + 1, 0, none⟩ = false := HF3.out.rn.frozen 0
  refine mcl 5 rfl (by kernel_rfl) (by rfl) (fun K hK => ?_)
  go_simp
  have HF4 := Lib.hid (HF3.out.setN (m))
  refine hK.out _ _ HF4.out.ra.five (fun hHeld2 => ?_)
  clear hK K hHeld9 n0 m0 HF3
  generalize w9.setCell ⟨B + 1 + 1, 0, none⟩ (.int .i64 (m)) = w5 at *
  have c0 : w5.cell? ⟨B + 1 + 1 + 1, 0, none⟩ = some (.int .i64 k') := HF4.out.ra.cell_ (i := 0) rfl
  have c1 : w5.cell? ⟨B + 1 + 1 + 1, 1, none⟩ = some (.int .i64 c') := HF4.out.ra.cell_ (i := 1) rfl
  have c2 : w5.cell? ⟨B + 1 + 1 + 1, 2, none⟩ = some (.int .u32 x') := HF4.out.ra.cell_ (i := 2) rfl
  have c3 : w5.cell? ⟨B + 1 + 1 + 1, 3, none⟩ = some (.int .u32 y') := HF4.out.ra.cell_ (i := 3) rfl
  have c4 : w5.cell? ⟨B + 1 + 1 + 1, 4, none⟩ = some (.int .u32 o') := HF4.out.ra.cell_ (i := 4) rfl
  have g0 : w5.frozen? ⟨B + 1 + 1 + 1, 0, none⟩ = false := HF4.out.ra.frozen 0
  have g1 : w5.frozen? ⟨B + 1 + 1 + 1, 1, none⟩ = false := HF4.out.ra.frozen 1
  have g2 : w5.frozen? ⟨B + 1 + 1 + 1, 2, none⟩ = false := HF4.out.ra.frozen 2
  have g3 : w5.frozen? ⟨B + 1 + 1 + 1, 3, none⟩ = false := HF4.out.ra.frozen 3
  have g4 : w5.frozen? ⟨B + 1 + 1 + 1, 4, none⟩ = false := HF4.out.ra.frozen 4
  refine mcl 6 rfl (by kernel_rfl) (by rfl) (fun K hK => ?_)
  go_simp
  have HF5 := Lib.hid (HF4.out.setA (.int .i64 k') (.int .i64 c') (.int .u32 x') (.int .u32 y') (.int .u32 o'))
  refine hK.out _ _ HF5.out.ra.five (fun hHeld3 => ?_)
  clear hK K hHeld2 c0 c1 c2 c3 c4 g0 g1 g2 g3 g4 HF4
  generalize (((((w5.setCell ⟨B + 1 + 1 + 1, 0, none⟩ (.int .i64 k')).setCell ⟨B + 1 + 1 + 1, 1, none⟩ (.int .i64 c')).setCell ⟨B + 1 + 1 + 1, 2, none⟩ (.int .u32 x')).setCell ⟨B + 1 + 1 + 1, 3, none⟩ (.int .u32 y')).setCell ⟨B + 1 + 1 + 1, 4, none⟩ (.int .u32 o')) = w6 at *
  refine zk 7 rfl ?_
  refine zk 8 rfl ?_
  refine wpAnyH_done (by kernel_rfl) ?_ _
  clear hHeld3
  go_wp2
  refine post_two_tmps (P := Tryz.prog) Tryz.results193 (by rfl) HF5.out.rn Tryz.underlying80 rfl (by kernel_rfl) (by rfl) HF5.out.ra Tryz.underlying63 rfl (by kernel_rfl) rfl ⟨?_, HF5.out.only, HF5.out.memo⟩
  rw [HV.out]; rfl

set_option maxHeartbeats 400000 in
theorem step_2 (p A : Option Addr) (cp : Nat) (xs : List Int) (n i c : Int) (fv : Value) (q : Int → Bool) (w : World) (h : Memo w p A cp xs) (hf : Holds A w fv q) (hx : Words xs) (m : Int) (hmm : (if q (wordAt xs c) = true then (4 : Int) else 3) = m) :
    Calls Tryz.prog 193 #[.pointer p, .agg #[.int .i64 n], .int .i64 2, .int .i64 i, .agg #[.int .i64 2], .int .i64 c, fv] w (Stepped p A cp ⟨m, doVal xs 1 c 0 0, q (wordAt xs c), false, xs⟩ w) := by
  have HMM := Lib.hid hmm
  clear hmm
  have HF0 := Lib.hid (SF.start n 2 h)
  have HF := Lib.hid hf
  have HX := Lib.hid hx
  clear h hf hx
  go_enter Tryz.func193, Tryz.ntmps193
  go_wp2_with fail
  generalize (((w.alloc (.cells #[.int .i64 n] 49)).alloc (.cells #[.int .i64 2] 80)).alloc (.cells #[.int .i64 0] 80)).alloc (.cells #[.int .i64 0, .int .i64 0, .int .u32 0, .int .u32 0, .int .u32 0] 63) = w1 at *
  generalize w.heap.size = B at *
  refine (look_any p A cp xs c fv q _ HF0.out.memo (HF.out.move HF0.out.only) HX.out).mono ?_
  obtain ⟨k', c', x', y', hv⟩ := doVal_form xs 1 c 0 0
  rw [oldAt xs 1 c rfl] at hv
  rw [hv]
  rintro e w2 ⟨rfl, hO, hM⟩
  have HF1 := Lib.hid (HF0.out.call hO hM)
  have HV := Lib.hid hv
  clear hO hM hv
  generalize hwd : wordAt xs c = o' at *
  have HWD := Lib.hid hwd
  clear hwd
  have a0 : w2.cell? ⟨B + 1 + 1 + 1, 0, none⟩ = some (.int .i64 0) := HF1.out.ra.cell_ (i := 0) rfl
  have a1 : w2.cell? ⟨B + 1 + 1 + 1, 1, none⟩ = some (.int .i64 0) := HF1.out.ra.cell_ (i := 1) rfl
  have a2 : w2.cell? ⟨B + 1 + 1 + 1, 2, none⟩ = some (.int .u32 0) := HF1.out.ra.cell_ (i := 2) rfl
  have a3 : w2.cell? ⟨B + 1 + 1 + 1, 3, none⟩ = some (.int .u32 0) := HF1.out.ra.cell_ (i := 3) rfl
  have a4 : w2.cell? ⟨B + 1 + 1 + 1, 4, none⟩ = some (.int .u32 0) := HF1.out.ra.cell_ (i := 4) rfl
  have g0 : w2.frozen? ⟨B + 1 + 1 + 1, 0, none⟩ = false := HF1.out.ra.frozen 0
  have g1 : w2.frozen? ⟨B + 1 + 1 + 1, 1, none⟩ = false := HF1.out.ra.frozen 1
  have g2 : w2.frozen? ⟨B + 1 + 1 + 1, 2, none⟩ = false := HF1.out.ra.frozen 2
  have g3 : w2.frozen? ⟨B + 1 + 1 + 1, 3, none⟩ = false := HF1.out.ra.frozen 3
  have g4 : w2.frozen? ⟨B + 1 + 1 + 1, 4, none⟩ = false := HF1.out.ra.frozen 4
  go_wp2_with fail
  have HF2 := Lib.hid (HF1.out.setA (.int .i64 k') (.int .i64 c') (.int .u32 x') (.int .u32 y') (.int .u32 o'))
  clear a0 a1 a2 a3 a4 g0 g1 g2 g3 g4 HF1
  generalize (((((w2.setCell ⟨B + 1 + 1 + 1, 0, none⟩ (.int .i64 k')).setCell ⟨B + 1 + 1 + 1, 1, none⟩ (.int .i64 c')).setCell ⟨B + 1 + 1 + 1, 2, none⟩ (.int .u32 x')).setCell ⟨B + 1 + 1 + 1, 3, none⟩ (.int .u32 y')).setCell ⟨B + 1 + 1 + 1, 4, none⟩ (.int .u32 o')) = w3 at *
  refine wp_region_held_drew (S := fun w' => Five w' (B + 1 + 1 + 1) (.int .i64 k') (.int .i64 c') (.int .u32 x') (.int .u32 y') (.int .u32 o')) (by kernel_rfl) HF2.out.ra.five (fun hHeld => ?_)
  have HF3 := Lib.hid (HF2.out.keep (Only.refl Nil w3).drew)
  clear HF2
  generalize w3.drew = w4 at *
  refine zk 0 rfl ?_
  refine zk 2 rfl ?_
  refine zk 3 rfl ?_
  refine mcl 1 rfl (by kernel_rfl) (by rfl) (fun K hK => ?_)
  go_simp
  refine (either_any (q o') 4 3 _).mono ?_
  rw [HMM.out]
  rintro e w9 ⟨rfl, hO⟩
  have HF9 := Lib.hid (HF3.out.keep hO)
  refine hK.out _ _ HF9.out.ra.five (fun hHeld9 => ?_)
  clear hK K hHeld hO HF3
  have HF3 := HF9
  clear HF9
  have n0 : w9.cell? ⟨B + 1 + 1, 0, none⟩ = some (.int .i64 0) := HF3.out.rn.cell_ (i := 0) rfl
  have m0 : w9.frozen? ⟨B + 1 + 1, 0, none⟩ = false := HF3.out.rn.frozen 0
  refine mcl 4 rfl (by kernel_rfl) (by rfl) (fun K hK => ?_)
  go_simp
  have HF4 := Lib.hid (HF3.out.setN (m))
  refine hK.out _ _ HF4.out.ra.five (fun hHeld2 => ?_)
  clear hK K hHeld9 n0 m0 HF3
  generalize w9.setCell ⟨B + 1 + 1, 0, none⟩ (.int .i64 (m)) = w5 at *
  have c0 : w5.cell? ⟨B + 1 + 1 + 1, 0, none⟩ = some (.int .i64 k') := HF4.out.ra.cell_ (i := 0) rfl
  have c1 : w5.cell? ⟨B + 1 + 1 + 1, 1, none⟩ = some (.int .i64 c') := HF4.out.ra.cell_ (i := 1) rfl
  have c2 : w5.cell? ⟨B + 1 + 1 + 1, 2, none⟩ = some (.int .u32 x') := HF4.out.ra.cell_ (i := 2) rfl
  have c3 : w5.cell? ⟨B + 1 + 1 + 1, 3, none⟩ = some (.int .u32 y') := HF4.out.ra.cell_ (i := 3) rfl
  have c4 : w5.cell? ⟨B + 1 + 1 + 1, 4, none⟩ = some (.int .u32 o') := HF4.out.ra.cell_ (i := 4) rfl
  have g0 : w5.frozen? ⟨B + 1 + 1 + 1, 0, none⟩ = false := HF4.out.ra.frozen 0
  have g1 : w5.frozen? ⟨B + 1 + 1 + 1, 1, none⟩ = false := HF4.out.ra.frozen 1
  have g2 : w5.frozen? ⟨B + 1 + 1 + 1, 2, none⟩ = false := HF4.out.ra.frozen 2
  have g3 : w5.frozen? ⟨B + 1 + 1 + 1, 3, none⟩ = false := HF4.out.ra.frozen 3
  have g4 : w5.frozen? ⟨B + 1 + 1 + 1, 4, none⟩ = false := HF4.out.ra.frozen 4
  refine mcl 5 rfl (by kernel_rfl) (by rfl) (fun K hK => ?_)
  go_simp
  have HF5 := Lib.hid (HF4.out.setA (.int .i64 k') (.int .i64 c') (.int .u32 x') (.int .u32 y') (.int .u32 o'))
  refine hK.out _ _ HF5.out.ra.five (fun hHeld3 => ?_)
  clear hK K hHeld2 c0 c1 c2 c3 c4 g0 g1 g2 g3 g4 HF4
  generalize (((((w5.setCell ⟨B + 1 + 1 + 1, 0, none⟩ (.int .i64 k')).setCell ⟨B + 1 + 1 + 1, 1, none⟩ (.int .i64 c')).setCell ⟨B + 1 + 1 + 1, 2, none⟩ (.int .u32 x')).setCell ⟨B + 1 + 1 + 1, 3, none⟩ (.int .u32 y')).setCell ⟨B + 1 + 1 + 1, 4, none⟩ (.int .u32 o')) = w6 at *
  refine zk 6 rfl ?_
  refine zk 7 rfl ?_
  refine wpAnyH_done (by kernel_rfl) ?_ _
  clear hHeld3
  go_wp2
  refine post_two_tmps (P := Tryz.prog) Tryz.results193 (by rfl) HF5.out.rn Tryz.underlying80 rfl (by kernel_rfl) (by rfl) HF5.out.ra Tryz.underlying63 rfl (by kernel_rfl) rfl ⟨?_, HF5.out.only, HF5.out.memo⟩
  rw [HV.out]; rfl

set_option maxHeartbeats 400000 in
theorem step_1 (p A : Option Addr) (cp : Nat) (xs : List Int) (n i c : Int) (fv : Value) (w : World) (h : Memo w p A cp xs) :
    Calls Tryz.prog 193 #[.pointer p, .agg #[.int .i64 n], .int .i64 2, .int .i64 i, .agg #[.int .i64 1], .int .i64 c, fv] w (Stepped p A cp ⟨2, doVal xs 2 (wc n i) ((c + 1) % 4294967296) 0, false, false, st xs (wc n i) ((c + 1) % 4294967296)⟩ w) := by
  have HF0 := Lib.hid (SF.start n 1 h)
  clear h
  go_enter Tryz.func193, Tryz.ntmps193
  go_wp2_with fail
  generalize (((w.alloc (.cells #[.int .i64 n] 49)).alloc (.cells #[.int .i64 1] 80)).alloc (.cells #[.int .i64 0] 80)).alloc (.cells #[.int .i64 0, .int .i64 0, .int .u32 0, .int .u32 0, .int .u32 0] 63) = w1 at *
  generalize w.heap.size = B at *
  have n1 : w1.cell? ⟨B, 0, none⟩ = some (.int .i64 n) := HF0.out.rm.cell_ (i := 0) rfl
  refine (setWatch_any p A cp xs n i ((c + 1) % 4294967296) _ HF0.out.memo).mono ?_
  obtain ⟨k', c', x', y', hv⟩ := doVal_form xs 2 (wc n i) ((c + 1) % 4294967296) 0
  generalize (if doOk xs 2 (wc n i) = true then wordAt xs (wc n i) else 0) = o' at hv
  rw [hv]
  rintro e w2 ⟨rfl, hO, hM⟩
  have HF1 := Lib.hid (HF0.out.call hO hM)
  have HV := Lib.hid hv
  clear hO hM hv
  have a0 : w2.cell? ⟨B + 1 + 1 + 1, 0, none⟩ = some (.int .i64 0) := HF1.out.ra.cell_ (i := 0) rfl
  have a1 : w2.cell? ⟨B + 1 + 1 + 1, 1, none⟩ = some (.int .i64 0) := HF1.out.ra.cell_ (i := 1) rfl
  have a2 : w2.cell? ⟨B + 1 + 1 + 1, 2, none⟩ = some (.int .u32 0) := HF1.out.ra.cell_ (i := 2) rfl
  have a3 : w2.cell? ⟨B + 1 + 1 + 1, 3, none⟩ = some (.int .u32 0) := HF1.out.ra.cell_ (i := 3) rfl
  have a4 : w2.cell? ⟨B + 1 + 1 + 1, 4, none⟩ = some (.int .u32 0) := HF1.out.ra.cell_ (i := 4) rfl
  have g0 : w2.frozen? ⟨B + 1 + 1 + 1, 0, none⟩ = false := HF1.out.ra.frozen 0
  have g1 : w2.frozen? ⟨B + 1 + 1 + 1, 1, none⟩ = false := HF1.out.ra.frozen 1
  have g2 : w2.frozen? ⟨B + 1 + 1 + 1, 2, none⟩ = false := HF1.out.ra.frozen 2
  have g3 : w2.frozen? ⟨B + 1 + 1 + 1, 3, none⟩ = false := HF1.out.ra.frozen 3
  have g4 : w2.frozen? ⟨B + 1 + 1 + 1, 4, none⟩ = false := HF1.out.ra.frozen 4
  have n0 : w2.cell? ⟨B + 1 + 1, 0, none⟩ = some (.int .i64 0) := HF1.out.rn.cell_ (i := 0) rfl
  have m0 : w2.frozen? ⟨B + 1 + 1, 0, none⟩ = false := HF1.out.rn.frozen 0
  go_wp2
  have HF5 := Lib.hid ((HF1.out.setN 2).setA (.int .i64 k') (.int .i64 c') (.int .u32 x') (.int .u32 y') (.int .u32 o'))
  refine post_two_tmps (P := Tryz.prog) Tryz.results193 (by rfl) HF5.out.rn Tryz.underlying80 rfl (by kernel_rfl) (by rfl) HF5.out.ra Tryz.underlying63 rfl (by kernel_rfl) rfl ⟨?_, HF5.out.only, HF5.out.memo⟩
  rw [HV.out]; rfl

set_option maxHeartbeats 400000 in
theorem step_4 (p A : Option Addr) (cp : Nat) (xs : List Int) (n i c : Int) (fv : Value) (w : World) (h : Memo w p A cp xs) :
    Calls Tryz.prog 193 #[.pointer p, .agg #[.int .i64 n], .int .i64 2, .int .i64 i, .agg #[.int .i64 4], .int .i64 c, fv] w (Stepped p A cp ⟨0, doVal xs 2 (wc n i) 0 0, false, true, st xs (wc n i) 0⟩ w) := by
  have HF0 := Lib.hid (SF.start n 4 h)
  clear h
  go_enter Tryz.func193, Tryz.ntmps193
  go_wp2_with fail
  generalize (((w.alloc (.cells #[.int .i64 n] 49)).alloc (.cells #[.int .i64 4] 80)).alloc (.cells #[.int .i64 0] 80)).alloc (.cells #[.int .i64 0, .int .i64 0, .int .u32 0, .int .u32 0, .int .u32 0] 63) = w1 at *
  generalize w.heap.size = B at *
  have n1 : w1.cell? ⟨B, 0, none⟩ = some (.int .i64 n) := HF0.out.rm.cell_ (i := 0) rfl
  refine (setWatch_any p A cp xs n i (0) _ HF0.out.memo).mono ?_
  obtain ⟨k', c', x', y', hv⟩ := doVal_form xs 2 (wc n i) (0) 0
  generalize (if doOk xs 2 (wc n i) = true then wordAt xs (wc n i) else 0) = o' at hv
  rw [hv]
  rintro e w2 ⟨rfl, hO, hM⟩
  have HF1 := Lib.hid (HF0.out.call hO hM)
  have HV := Lib.hid hv
  clear hO hM hv
  have a0 : w2.cell? ⟨B + 1 + 1 + 1, 0, none⟩ = some (.int .i64 0) := HF1.out.ra.cell_ (i := 0) rfl
  have a1 : w2.cell? ⟨B + 1 + 1 + 1, 1, none⟩ = some (.int .i64 0) := HF1.out.ra.cell_ (i := 1) rfl
  have a2 : w2.cell? ⟨B + 1 + 1 + 1, 2, none⟩ = some (.int .u32 0) := HF1.out.ra.cell_ (i := 2) rfl
  have a3 : w2.cell? ⟨B + 1 + 1 + 1, 3, none⟩ = some (.int .u32 0) := HF1.out.ra.cell_ (i := 3) rfl
  have a4 : w2.cell? ⟨B + 1 + 1 + 1, 4, none⟩ = some (.int .u32 0) := HF1.out.ra.cell_ (i := 4) rfl
  have g0 : w2.frozen? ⟨B + 1 + 1 + 1, 0, none⟩ = false := HF1.out.ra.frozen 0
  have g1 : w2.frozen? ⟨B + 1 + 1 + 1, 1, none⟩ = false := HF1.out.ra.frozen 1
  have g2 : w2.frozen? ⟨B + 1 + 1 + 1, 2, none⟩ = false := HF1.out.ra.frozen 2
  have g3 : w2.frozen? ⟨B + 1 + 1 + 1, 3, none⟩ = false := HF1.out.ra.frozen 3
  have g4 : w2.frozen? ⟨B + 1 + 1 + 1, 4, none⟩ = false := HF1.out.ra.frozen 4
  have n0 : w2.cell? ⟨B + 1 + 1, 0, none⟩ = some (.int .i64 0) := HF1.out.rn.cell_ (i := 0) rfl
  have m0 : w2.frozen? ⟨B + 1 + 1, 0, none⟩ = false := HF1.out.rn.frozen 0
  go_wp2
  have HF5 := Lib.hid ((HF1.out.setN 0).setA (.int .i64 k') (.int .i64 c') (.int .u32 x') (.int .u32 y') (.int .u32 o'))
  refine post_two_tmps (P := Tryz.prog) Tryz.results193 (by rfl) HF5.out.rn Tryz.underlying80 rfl (by kernel_rfl) (by rfl) HF5.out.ra Tryz.underlying63 rfl (by kernel_rfl) rfl ⟨?_, HF5.out.only, HF5.out.memo⟩
  rw [HV.out]; rfl

set_option maxHeartbeats 400000 in
theorem step_3 (p A : Option Addr) (cp : Nat) (xs : List Int) (n i c : Int) (fv : Value) (w : World) (h : Memo w p A cp xs) (m : Int) (hmm : (if hasP xs n i = true then (2 : Int) else 3) = m) :
    Calls Tryz.prog 193 #[.pointer p, .agg #[.int .i64 n], .int .i64 2, .int .i64 i, .agg #[.int .i64 3], .int .i64 c, fv] w (Stepped p A cp ⟨m, takeVal xs n i, false, false, st xs (pc n i) 0⟩ w) := by
  have HMM := Lib.hid hmm
  clear hmm
  have HF0 := Lib.hid (SF.start n 3 h)
  clear h
  go_enter Tryz.func193, Tryz.ntmps193
  go_wp2_with fail
  generalize (((w.alloc (.cells #[.int .i64 n] 49)).alloc (.cells #[.int .i64 3] 80)).alloc (.cells #[.int .i64 0] 80)).alloc (.cells #[.int .i64 0, .int .i64 0, .int .u32 0, .int .u32 0, .int .u32 0] 63) = w1 at *
  generalize w.heap.size = B at *
  refine (take_any p A cp xs n i _ HF0.out.memo).mono ?_
  obtain ⟨k', c', x', y', o', hv⟩ := takeVal_form xs n i
  rw [hv]
  rintro e w2 ⟨rfl, hO, hM⟩
  have HF1 := Lib.hid (HF0.out.call hO hM)
  have HV := Lib.hid hv
  clear hO hM hv
  generalize hasP xs n i = b at *
  have HF2 := Lib.hid (HF1.out.keep ((Only.refl Nil w2).alloc (.cells #[.int .i64 k', .int .i64 c', .int .u32 x', .int .u32 y', .int .u32 o'] 63)))
  have HN := Lib.hid (Row.new w2 63 #[.int .i64 k', .int .i64 c', .int .u32 x', .int .u32 y', .int .u32 o'])
  have HG := Lib.hid (show B + 1 + 1 + 1 < w2.heap.size from HF1.out.ra.lt)
  go_wp2_with fail
  generalize w2.alloc (.cells #[.int .i64 k', .int .i64 c', .int .u32 x', .int .u32 y', .int .u32 o'] 63) = w3 at *
  generalize w2.heap.size = g at *
  refine wp_region_held_drew (S := fun w' => Five w' g (.int .i64 k') (.int .i64 c') (.int .u32 x') (.int .u32 y') (.int .u32 o')) (by kernel_rfl) HN.out.five (fun hHeld => ?_)
  have HF3 := Lib.hid (HF2.out.keep (Only.refl Nil w3).drew)
  have HN3 := Lib.hid HN.out.drew
  clear HF2 HN
  generalize w3.drew = w4 at *
  refine zk 0 rfl ?_
  refine zk 2 rfl ?_
  refine mcl 1 rfl (by kernel_rfl) (by rfl) (fun K hK => ?_)
  go_simp
  refine (either_any b 2 3 _).mono ?_
  rw [HMM.out]
  rintro e w9 ⟨rfl, hO⟩
  have HF9 := Lib.hid (HF3.out.keep hO)
  have HN9 := Lib.hid (HN3.out.only hO id)
  refine hK.out _ _ HN9.out.five (fun hHeld9 => ?_)
  clear hK K hHeld hO HF3 HN3
  have n0 : w9.cell? ⟨B + 1 + 1, 0, none⟩ = some (.int .i64 0) := HF9.out.rn.cell_ (i := 0) rfl
  have m0 : w9.frozen? ⟨B + 1 + 1, 0, none⟩ = false := HF9.out.rn.frozen 0
  refine mcl 3 rfl (by kernel_rfl) (by rfl) (fun K hK => ?_)
  go_simp
  have HF4 := Lib.hid (HF9.out.setN m)
  have HN4 := Lib.hid (HN9.out.far (p := ⟨B + 1 + 1, 0, none⟩) (by have := HG.out; show g ≠ B + 1 + 1; omega) (.int .i64 m))
  refine hK.out _ _ HN4.out.five (fun hHeld2 => ?_)
  clear hK K hHeld9 n0 m0 HF9 HN9
  generalize w9.setCell ⟨B + 1 + 1, 0, none⟩ (.int .i64 m) = w5 at *
  have c0 : w5.cell? ⟨B + 1 + 1 + 1, 0, none⟩ = some (.int .i64 0) := HF4.out.ra.cell_ (i := 0) rfl
  have c1 : w5.cell? ⟨B + 1 + 1 + 1, 1, none⟩ = some (.int .i64 0) := HF4.out.ra.cell_ (i := 1) rfl
  have c2 : w5.cell? ⟨B + 1 + 1 + 1, 2, none⟩ = some (.int .u32 0) := HF4.out.ra.cell_ (i := 2) rfl
  have c3 : w5.cell? ⟨B + 1 + 1 + 1, 3, none⟩ = some (.int .u32 0) := HF4.out.ra.cell_ (i := 3) rfl
  have c4 : w5.cell? ⟨B + 1 + 1 + 1, 4, none⟩ = some (.int .u32 0) := HF4.out.ra.cell_ (i := 4) rfl
  have g0 : w5.frozen? ⟨B + 1 + 1 + 1, 0, none⟩ = false := HF4.out.ra.frozen 0
  have g1 : w5.frozen? ⟨B + 1 + 1 + 1, 1, none⟩ = false := HF4.out.ra.frozen 1
  have g2 : w5.frozen? ⟨B + 1 + 1 + 1, 2, none⟩ = false := HF4.out.ra.frozen 2
  have g3 : w5.frozen? ⟨B + 1 + 1 + 1, 3, none⟩ = false := HF4.out.ra.frozen 3
  have g4 : w5.frozen? ⟨B + 1 + 1 + 1, 4, none⟩ = false := HF4.out.ra.frozen 4
  refine mcl 4 rfl (by kernel_rfl) (by rfl) (fun K hK => ?_)
  go_simp
  have HF5 := Lib.hid (HF4.out.setA (.int .i64 k') (.int .i64 c') (.int .u32 x') (.int .u32 y') (.int .u32 o'))
  have HN5 := Lib.hid (five_far (g := B + 1 + 1 + 1) HN4.out (by have := HG.out; show g ≠ B + 1 + 1 + 1; omega) (.int .i64 k') (.int .i64 c') (.int .u32 x') (.int .u32 y') (.int .u32 o'))
  refine hK.out _ _ HN5.out.five (fun hHeld3 => ?_)
  clear hK K hHeld2 c0 c1 c2 c3 c4 g0 g1 g2 g3 g4 HF4 HN4
  generalize (((((w5.setCell ⟨B + 1 + 1 + 1, 0, none⟩ (.int .i64 k')).setCell ⟨B + 1 + 1 + 1, 1, none⟩ (.int .i64 c')).setCell ⟨B + 1 + 1 + 1, 2, none⟩ (.int .u32 x')).setCell ⟨B + 1 + 1 + 1, 3, none⟩ (.int .u32 y')).setCell ⟨B + 1 + 1 + 1, 4, none⟩ (.int .u32 o')) = w6 at *
  refine zk 5 rfl ?_
  refine zk 6 rfl ?_
  refine wpAnyH_done (by kernel_rfl) ?_ _
  clear hHeld3
  go_wp2
  refine post_two_tmps (P := Tryz.prog) Tryz.results193 (by rfl) HF5.out.rn Tryz.underlying80 rfl (by kernel_rfl) (by rfl) HF5.out.ra Tryz.underlying63 rfl (by kernel_rfl) rfl ⟨?_, HF5.out.only, HF5.out.memo⟩
  rw [HV.out]; rfl

/-- Any step. -/
theorem step_any (p A : Option Addr) (cp : Nat) (xs : List Int) (n mode i s c : Int) (fv : Value) (q : Int → Bool) (w : World) (h : Memo w p A cp xs) (hf : Holds A w fv q) (hx : Words xs) :
    Calls Tryz.prog 193 #[.pointer p, .agg #[.int .i64 n], .int .i64 mode, .int .i64 i, .agg #[.int .i64 s], .int .i64 c, fv] w (Stepped p A cp (stepI xs n mode i s c q) w) := by
  by_cases hm : mode = 2
  · subst hm
    by_cases h1 : s = 1
    · subst h1; exact step_1 p A cp xs n i c fv w h
    by_cases h2 : s = 2
    · subst h2; exact step_2 p A cp xs n i c fv q w h hf hx _ rfl
    by_cases h3 : s = 3
    · subst h3; exact step_3 p A cp xs n i c fv w h _ rfl
    by_cases h4 : s = 4
    · subst h4; exact step_4 p A cp xs n i c fv w h
    rw [stepI_0 h1 h2 h3 h4]
    exact step_0 p A cp xs n i s c fv q w h hf hx h1 h2 h3 h4 _ rfl
  · rw [stepI_spin hm]
    exact step_spin p A cp xs n mode i s c fv q w h hf hx hm
end Go.Proofs.YtigdbokfapedcaaGreat
/- A run's Wait, the program's. -/
set_option linter.unusedVariables false
set_option linter.unusedSimpArgs false
namespace Go.Proofs.YtigdbokfapedcaaGreat
open Go.RowKit

/-- What Wait's closure captures: from block g on, the run's pointer, the cell, the function, what was seen, whether it is done. -/
structure WB (w : World) (B : Nat) (p A : Option Addr) (cp : Nat) (nv : Value) (g : Nat) (c : Int) (fv : Value) (r : LS) (s3 s4 : Bool) : Prop where
  run : RunP w B p A cp nv r
  r0 : Row w g 99 #[.pointer (some ⟨B, 0, none⟩)]
  r1 : Row w (g + 1) 3 #[.int .i64 c]
  r2 : Row w (g + 2) 138 #[fv]
  r3 : Row w (g + 3) 4 #[.bool s3]
  r4 : Row w (g + 4) 4 #[.bool s4]

/-- What Wait may turn. -/
def Wd (B : Nat) (A : Option Addr) (g : Nat) : Nat → Prop := fun j => TurnB B A j ∨ j = g + 3 ∨ j = g + 4

theorem memo_not {w : World} {p A : Option Addr} {cp : Nat} {xs : List Int} {j : Nat} {t : TypeId} {cs : Array Value} (h : Memo w p A cp xs) (hr : Row w j t cs) (h1 : t ≠ 93) (h2 : t ≠ 22) : ¬ (At p j ∨ At A j) := fun hj => by
  obtain ⟨t', cs', hr', ht⟩ := memo_tag h hj
  have e := (hr.same hr').1
  rcases ht with rfl | rfl
  · exact h1 e
  · exact h2 e
theorem ownN_not {base : Nat} {w : World} {v : Value} {zs : List Nt} {i : Nat} {t : TypeId} {cs : Array Value} (h : OwnN base w v zs) (hr : Row w i t cs) (h1 : t ≠ 59) : v.ownBlock ≠ some i := fun hi => by
  obtain ⟨cur, hc⟩ := ownN_tag h hi
  exact h1 (hr.same hc).1
section
variable {w w' w0 : World} {B : Nat} {p A : Option Addr} {cp : Nat} {nv : Value} {g : Nat} {c : Int} {fv : Value} {r r' : LS} {s3 s4 : Bool} {ys : List Int} {S : Nat → Prop}
theorem WB.call (h : WB w B p A cp nv g c fv r s3 s4) (ho : Only (At A) w w') (hm : Memo w' p A cp ys) : WB w' B p A cp nv g c fv { r with xs := ys } s3 s4 :=
  ⟨h.run.call ho hm, h.r0.only ho (fun e => memo_not h.run.memo h.r0 (by decide) (by decide) (.inr e)), h.r1.only ho (fun e => memo_not h.run.memo h.r1 (by decide) (by decide) (.inr e)), h.r2.only ho (fun e => memo_not h.run.memo h.r2 (by decide) (by decide) (.inr e)), h.r3.only ho (fun e => memo_not h.run.memo h.r3 (by decide) (by decide) (.inr e)), h.r4.only ho (fun e => memo_not h.run.memo h.r4 (by decide) (by decide) (.inr e))⟩
theorem WB.keep (h : WB w B p A cp nv g c fv r s3 s4) (ho : Only Nil w w') : WB w' B p A cp nv g c fv r s3 s4 := h.call (ho.mono (fun _ _ h => h.elim)) (h.run.memo.keep ho)
theorem WB.turn (h : WB w B p A cp nv g c fv r s3 s4) (ho : Only (· = B) w w') (hr : RunP w' B p A cp nv r') : WB w' B p A cp nv g c fv r' s3 s4 :=
  ⟨hr, h.r0.only ho (row_ne h.r0 h.run.row (by decide)), h.r1.only ho (row_ne h.r1 h.run.row (by decide)), h.r2.only ho (row_ne h.r2 h.run.row (by decide)), h.r3.only ho (row_ne h.r3 h.run.row (by decide)), h.r4.only ho (row_ne h.r4 h.run.row (by decide))⟩
theorem WB.far (h : WB w B p A cp nv g c fv r s3 s4) {q : Nat} {t : TypeId} {cs : Array Value} (hq : Row w q t cs) (ho : Only (· = q) w w') (hB : B ≠ q) (hm : t ≠ 93) (hu : t ≠ 22) (hn : t ≠ 59) (h0 : ∀ i, i < 5 → q ≠ g + i) : WB w' B p A cp nv g c fv r s3 s4 :=
  ⟨h.run.apart ho hB (fun j hj e => by subst e; exact memo_not h.run.memo hq hm hu hj) (fun i hi e => by subst e; exact ownN_not h.run.notes hq hn hi),
    h.r0.only ho (fun e => h0 0 (by decide) e.symm), h.r1.only ho (fun e => h0 1 (by decide) e.symm), h.r2.only ho (fun e => h0 2 (by decide) e.symm), h.r3.only ho (fun e => h0 3 (by decide) e.symm), h.r4.only ho (fun e => h0 4 (by decide) e.symm)⟩
theorem WB.set3 (h : WB w B p A cp nv g c fv r s3 s4) (b : Bool) : WB (w.setCell ⟨g + 3, 0, none⟩ (.bool b)) B p A cp nv g c fv r b s4 := by
  have ho := (Only.refl (· = g + 3) w).setCell (p := ⟨g + 3, 0, none⟩) (.inr rfl) (.bool b)
  exact ⟨h.run.apart ho (row_ne h.run.row h.r3 (by decide)) (fun j hj e => by subst e; exact memo_not h.run.memo h.r3 (by decide) (by decide) hj) (fun i hi e => by subst e; exact ownN_not h.run.notes h.r3 (by decide) hi),
    h.r0.only ho (fun e => by omega), h.r1.only ho (fun e => by omega), h.r2.only ho (fun e => by omega), h.r3.set 0 _, h.r4.only ho (fun e => by omega)⟩
theorem WB.set4 (h : WB w B p A cp nv g c fv r s3 s4) (b : Bool) : WB (w.setCell ⟨g + 4, 0, none⟩ (.bool b)) B p A cp nv g c fv r s3 b := by
  have ho := (Only.refl (· = g + 4) w).setCell (p := ⟨g + 4, 0, none⟩) (.inr rfl) (.bool b)
  exact ⟨h.run.apart ho (row_ne h.run.row h.r4 (by decide)) (fun j hj e => by subst e; exact memo_not h.run.memo h.r4 (by decide) (by decide) hj) (fun i hi e => by subst e; exact ownN_not h.run.notes h.r4 (by decide) hi),
    h.r0.only ho (fun e => by omega), h.r1.only ho (fun e => by omega), h.r2.only ho (fun e => by omega), h.r3.only ho (fun e => by omega), h.r4.set 0 _⟩
theorem RunP.setS {w : World} {B : Nat} {p A : Option Addr} {cp : Nat} {nv : Value} {r : LS} (h : RunP w B p A cp nv r) (v : Int) : RunP (w.setCell ⟨B, 8, none⟩ (.int .i64 v)) B p A cp nv { r with s := v } :=
  h.turn ((Only.refl (· = B) w).setCell (p := ⟨B, 8, none⟩) (.inr rfl) _) (h.row.set 8 (.int .i64 v)) rfl rfl
theorem WB.setS (h : WB w B p A cp nv g c fv r s3 s4) (v : Int) : WB (w.setCell ⟨B, 8, none⟩ (.int .i64 v)) B p A cp nv g c fv { r with s := v } s3 s4 :=
  h.turn ((Only.refl (· = B) w).setCell (p := ⟨B, 8, none⟩) (.inr rfl) _) (h.run.setS v)
theorem WB.held (h : WB w B p A cp nv g c fv r s3 s4) : w.cell? ⟨g, 0, none⟩ = some (.pointer (some ⟨B, 0, none⟩)) ∧ w.cell? ⟨B, 0, none⟩ = some (.pointer p) ∧ w.cell? ⟨B, 1, none⟩ = some (.int .i64 r.n) ∧ w.cell? ⟨B, 2, none⟩ = some (.int .i64 r.mode) ∧ w.cell? ⟨B, 3, none⟩ = some (.int .i64 r.task) ∧ w.cell? ⟨B, 8, none⟩ = some (.int .i64 r.s) ∧ w.cell? ⟨g + 1, 0, none⟩ = some (.int .i64 c) ∧ w.cell? ⟨g + 2, 0, none⟩ = some fv :=
  ⟨h.r0.cell_ (i := 0) rfl, h.run.row.cell_ (i := 0) rfl, h.run.row.cell_ (i := 1) rfl, h.run.row.cell_ (i := 2) rfl, h.run.row.cell_ (i := 3) rfl, h.run.row.cell_ (i := 8) rfl, h.r1.cell_ (i := 0) rfl, h.r2.cell_ (i := 0) rfl⟩
end

theorem Row.at {w : World} {t : TypeId} {cs : Array Value} {k : Nat} (h : w.heap.size = k) : Row (w.alloc (.cells cs t)) k t cs := by subst h; exact Row.new w t cs
end Go.Proofs.YtigdbokfapedcaaGreat
/- wait.look with a function that keeps what it sees in a run's frame. -/
set_option linter.unusedVariables false
set_option linter.unusedSimpArgs false
namespace Go.Proofs.YtigdbokfapedcaaGreat
open Go.RowKit

/-- The first cells, or the others. -/
def kpt (b : Bool) (c1 c0 : Array Value) : Array Value := if b then c1 else c0
/-- A function of a word tells q of it, in each world that is as w0 but for the words; where that is true a run's cells are cs1 of it then. -/
def HoldsK (A : Option Addr) (R : Nat) (w0 : World) (fv : Value) (q : Int → Bool) (cs : Array Value) (cs1 : Int → Array Value) : Prop := ∀ (v : Int) (w : World), Only (At A) w0 w → Row w R 102 cs → 0 ≤ v → v < 4294967296 →
  Calls Tryz.prog 275 #[fv, .int .u32 v] w fun e w' => e = .returned (.bool (q v)) ∧ Only (· = R) w w' ∧ Row w' R 102 (kpt (q v) (cs1 v) cs)
theorem HoldsK.move {A : Option Addr} {R : Nat} {w0 w1 : World} {fv : Value} {q : Int → Bool} {cs : Array Value} {cs1 : Int → Array Value} (h : HoldsK A R w0 fv q cs cs1) (ho : Only (At A) w0 w1) : HoldsK A R w1 fv q cs cs1 := by
  intro v w hw
  exact h v w (Only.trans ho hw)
theorem HoldsK.move0 {A : Option Addr} {R : Nat} {w0 w1 : World} {fv : Value} {q : Int → Bool} {cs : Array Value} {cs1 : Int → Array Value} (h : HoldsK A R w0 fv q cs cs1) (ho : Only Nil w0 w1) : HoldsK A R w1 fv q cs cs1 := h.move (ho.mono (fun _ _ h => h.elim))

theorem lookK_any (p A : Option Addr) (cp R : Nat) (cs : Array Value) (cs1 : Int → Array Value) (xs : List Int) (c : Int) (fv : Value) (q : Int → Bool) (w : World) (h : Memo w p A cp xs) (hr : Row w R 102 cs) (hRA : ∀ j, At p j ∨ At A j → j ≠ R) (hf : HoldsK A R w fv q cs cs1) (hx : Words xs) :
    Calls Tryz.prog 247 #[.pointer p, .int .i64 c, fv] w fun e w' =>
      e = .returned (.tuple #[doVal xs 1 c 0 0, .bool (q (wordAt xs c))]) ∧ Only (TurnB R A) w w' ∧ Memo w' p A cp xs ∧ Row w' R 102 (kpt (q (wordAt xs c)) (cs1 (wordAt xs c)) cs) := by
  have hb := word_wf hx c
  have HB := Lib.hid hb
  have hst : doNew xs 1 c 0 0 = xs := doNew_load xs _ _ _
  have HH := Lib.hid h
  have HF := Lib.hid hf
  have ha : ∀ j, At p j ∨ At A j → j < w.heap.size := HH.out.lt
  have HRR := Lib.hid hr
  have HRA := Lib.hid hRA
  have HRL := Lib.hid hr.lt
  clear hr hRA
  have HA := Lib.hid ha
  clear h ha hf hb hx
  go_enter Tryz.func247, Tryz.ntmps247
  go_wp2_with fail
  have e0 := (Only.refl Nil w).alloc (Obj.cells #[Value.int IntKind.i64 0, Value.int IntKind.i64 0, Value.int IntKind.u32 0, Value.int IntKind.u32 0, Value.int IntKind.u32 0] 63)
  refine (do_memo p A cp xs 1 c 0 0 0 _ (HH.out.keep e0)).mono ?_
  obtain ⟨k', c', x', y', hv⟩ := doVal_form xs 1 c 0 0
  rw [oldAt xs 1 c rfl] at hv
  rw [hv, hst]
  rintro e w2 ⟨rfl, hO, hM⟩
  have hS : Only (At A) w w2 := (e0.mono (fun _ _ h => h.elim)).trans hO
  have HR2 := Lib.hid (((HRR.out.alloc (Obj.cells #[Value.int IntKind.i64 0, Value.int IntKind.i64 0, Value.int IntKind.u32 0, Value.int IntKind.u32 0, Value.int IntKind.u32 0] 63)).only hO (fun e => HRA.out _ (.inr e) rfl)).alloc (Obj.cells #[Value.int IntKind.i64 k', Value.int IntKind.i64 c', Value.int IntKind.u32 x', Value.int IntKind.u32 y', Value.int IntKind.u32 (wordAt xs c)] 63))
  have R8 : Row w2 w.heap.size 63 #[.int .i64 0, .int .i64 0, .int .u32 0, .int .u32 0, .int .u32 0] := (Row.new w _ _).only hO (fun h => by have := HA.out _ (.inr h); omega)
  have HR := Lib.hid (R8.alloc (Obj.cells #[Value.int IntKind.i64 k', Value.int IntKind.i64 c', Value.int IntKind.u32 x', Value.int IntKind.u32 y', Value.int IntKind.u32 (wordAt xs c)] 63))
  have HN := Lib.hid (Row.new w2 63 #[Value.int IntKind.i64 k', Value.int IntKind.i64 c', Value.int IntKind.u32 x', Value.int IntKind.u32 y', Value.int IntKind.u32 (wordAt xs c)])
  have HS := Lib.hid (hS.alloc (Obj.cells #[Value.int IntKind.i64 k', Value.int IntKind.i64 c', Value.int IntKind.u32 x', Value.int IntKind.u32 y', Value.int IntKind.u32 (wordAt xs c)] 63))
  have HM := Lib.hid (hM.keep ((Only.refl Nil w2).alloc (Obj.cells #[Value.int IntKind.i64 k', Value.int IntKind.i64 c', Value.int IntKind.u32 x', Value.int IntKind.u32 y', Value.int IntKind.u32 (wordAt xs c)] 63)))
  have HZ := Lib.hid R8.lt
  clear hO R8 hS hM e0 hst
  have HV := Lib.hid hv
  clear hv
  go_wp2_with fail
  generalize w2.alloc (.cells #[.int .i64 k', .int .i64 c', .int .u32 x', .int .u32 y', .int .u32 (wordAt xs c)] 63) = w3 at *
  generalize hg : w2.heap.size = g at *
  have HG := Lib.hid hg
  clear hg
  generalize hwd : wordAt xs c = v at *
  have HWD := Lib.hid hwd
  clear hwd
  have c0 : w3.cell? ⟨g, 0, none⟩ = some (.int .i64 k') := HN.out.cell_ (i := 0) rfl
  have c1 : w3.cell? ⟨g, 1, none⟩ = some (.int .i64 c') := HN.out.cell_ (i := 1) rfl
  have c2 : w3.cell? ⟨g, 2, none⟩ = some (.int .u32 x') := HN.out.cell_ (i := 2) rfl
  have c3 : w3.cell? ⟨g, 3, none⟩ = some (.int .u32 y') := HN.out.cell_ (i := 3) rfl
  have c4 : w3.cell? ⟨g, 4, none⟩ = some (.int .u32 v) := HN.out.cell_ (i := 4) rfl
  have hgg : ¬ g = w.heap.size := by have := HZ.out; omega
  have HGG := Lib.hid hgg
  clear hgg
  refine wp_region_held_drew (S := fun w' => w'.cell? ⟨g, 0, none⟩ = some (.int .i64 k') ∧ w'.cell? ⟨g, 1, none⟩ = some (.int .i64 c') ∧ w'.cell? ⟨g, 2, none⟩ = some (.int .u32 x') ∧ w'.cell? ⟨g, 3, none⟩ = some (.int .u32 y') ∧ w'.cell? ⟨g, 4, none⟩ = some (.int .u32 v)) (by kernel_rfl) ⟨c0, c1, c2, c3, c4⟩ (fun hHeld => ?_)
  refine zk 0 rfl ?_
  refine zk 1 rfl ?_
  refine zk 2 rfl ?_
  refine zk 3 rfl ?_
  refine mcl 4 rfl (by kernel_rfl) (by rfl) (fun K hK => ?_)
  go_simp
  have hgR : ¬ g = R := by have := HRL.out; have := HZ.out; omega
  refine (HF.out v _ HS.out.drew HR2.out.drew HB.out.1 HB.out.2).mono ?_
  rintro e w4 ⟨rfl, hO, hrow⟩
  have hO4 : Only (· = R) w3 w4 := (Only.refl (· = R) w3).drew.trans hO
  have HRW := Lib.hid (hrow.only (five_only (Only.refl (· = w.heap.size) w4) (.inr rfl) (.int .i64 k') (.int .i64 c') (.int .u32 x') (.int .u32 y') (.int .u32 v)) (by have := HRL.out; omega))
  have HMM := Lib.hid ((HM.out.far hO4 (fun j hj => HRA.out j hj)))
  clear hrow
  have HN4 := Lib.hid (HN.out.only hO4 hgR)
  have HR4 := Lib.hid (HR.out.only hO4 (by have := HRL.out; omega))
  have HO4 := Lib.hid hO4
  refine hK.out _ _ ⟨HN4.out.cell_ (i := 0) rfl, HN4.out.cell_ (i := 1) rfl, HN4.out.cell_ (i := 2) rfl, HN4.out.cell_ (i := 3) rfl, HN4.out.cell_ (i := 4) rfl⟩ (fun hHeld2 => ?_)
  clear hK K hHeld hO hO4 hgR c0 c1 c2 c3 c4
  have d0 : w4.cell? ⟨w.heap.size, 0, none⟩ = some (.int .i64 0) := HR4.out.cell_ (i := 0) rfl
  have d1 : w4.cell? ⟨w.heap.size, 1, none⟩ = some (.int .i64 0) := HR4.out.cell_ (i := 1) rfl
  have d2 : w4.cell? ⟨w.heap.size, 2, none⟩ = some (.int .u32 0) := HR4.out.cell_ (i := 2) rfl
  have d3 : w4.cell? ⟨w.heap.size, 3, none⟩ = some (.int .u32 0) := HR4.out.cell_ (i := 3) rfl
  have d4 : w4.cell? ⟨w.heap.size, 4, none⟩ = some (.int .u32 0) := HR4.out.cell_ (i := 4) rfl
  have f0 : w4.frozen? ⟨w.heap.size, 0, none⟩ = false := HR4.out.frozen 0
  have f1 : w4.frozen? ⟨w.heap.size, 1, none⟩ = false := HR4.out.frozen 1
  have f2 : w4.frozen? ⟨w.heap.size, 2, none⟩ = false := HR4.out.frozen 2
  have f3 : w4.frozen? ⟨w.heap.size, 3, none⟩ = false := HR4.out.frozen 3
  have f4 : w4.frozen? ⟨w.heap.size, 4, none⟩ = false := HR4.out.frozen 4
  refine mcl 5 rfl (by kernel_rfl) (by rfl) (fun K hK => ?_)
  go_simp
  have HN5 := Lib.hid (HN4.out.only (five_only (Only.refl (· = w.heap.size) w4) (.inr rfl) (.int .i64 k') (.int .i64 c') (.int .u32 x') (.int .u32 y') (.int .u32 v)) HGG.out)
  refine hK.out _ _ ⟨HN5.out.cell_ (i := 0) rfl, HN5.out.cell_ (i := 1) rfl, HN5.out.cell_ (i := 2) rfl, HN5.out.cell_ (i := 3) rfl, HN5.out.cell_ (i := 4) rfl⟩ (fun hHeld3 => ?_)
  clear hK K hHeld2 d0 d1 d2 d3 d4 f0 f1 f2 f3 f4
  refine zk 6 rfl ?_
  refine wpAnyH_done (by kernel_rfl) ?_ _
  go_wp2
  have ho9 := five_only ((HS.out.mono (T := TurnB R A) (fun _ _ e => .inr e)).trans (HO4.out.mono (T := TurnB R A) (fun _ _ e => .inl e))) (.inl (Nat.le_refl _)) (.int .i64 k') (.int .i64 c') (.int .u32 x') (.int .u32 y') (.int .u32 v)
  have hm9 := HMM.out.far (five_only (Only.refl (· = w.heap.size) w4) (.inr rfl) (.int .i64 k') (.int .i64 c') (.int .u32 x') (.int .u32 y') (.int .u32 v)) (fun j hj h => by have := HA.out j hj; omega)
  exact post_row_tmp (P := Tryz.prog) Tryz.results247 (t := 63) (g := w.heap.size) (cs := #[.int .i64 k', .int .i64 c', .int .u32 x', .int .u32 y', .int .u32 v]) rfl (five HR4.out _ _ _ _ _) Tryz.underlying63 rfl (by kernel_rfl) rfl ⟨by rw [HV.out, HWD.out]; rfl, ho9, hm9, by rw [HWD.out]; exact HRW.out⟩
end Go.Proofs.YtigdbokfapedcaaGreat
