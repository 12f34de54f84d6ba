/- KStep. -/
import Derived.Test.YtigdbokfapedcaaGreatB10
/- wait.Step with a function that keeps what it sees in a run's frame. -/
set_option linter.unusedVariables false
set_option linter.unusedSimpArgs false
namespace Go.Proofs.YtigdbokfapedcaaGreat
open Go.RowKit

/-- What a step's call leaves. -/
def SteppedK (p A : Option Addr) (cp R : Nat) (cs : Array Value) (cs1 : Int → Array Value) (r : StepR) (v : Int) (w : World) (e : Ending) (w' : World) : Prop :=
  e = .returned (.tuple #[.agg #[.int .i64 r.next], r.acc, .bool r.seen, .bool r.done]) ∧ Only (TurnB R A) w w' ∧ Memo w' p A cp r.xs ∧ Row w' R 102 (kpt r.seen (cs1 v) cs)

/-- A step's own blocks, and the run's. -/
structure SFK (w0 : World) (p A : Option Addr) (cp B R : Nat) (n s ns : Int) (acs csR : Array Value) (W : World) (xs : List Int) : Prop where
  only : Only (TurnB R A) w0 W
  memo : Memo W p A cp xs
  rm : Row W B 49 #[.int .i64 n]
  rs : Row W (B + 1) 80 #[.int .i64 s]
  rn : Row W (B + 1 + 1) 80 #[.int .i64 ns]
  ra : Row W (B + 1 + 1 + 1) 63 acs
  rr : Row W R 102 csR
  lt : ∀ j, At p j ∨ At A j → j < B
  hw : w0.heap.size ≤ B
  hR : R < B

section
variable {w0 W W' : World} {p A : Option Addr} {cp B R : Nat} {n s ns : Int} {acs csR csR' : Array Value} {xs ys : List Int}
theorem SFK.call (h : SFK w0 p A cp B R n s ns acs csR W xs) (ho : Only (TurnB R A) W W') (hm : Memo W' p A cp ys) (hr : Row W' R 102 csR') : SFK w0 p A cp B R n s ns acs csR' W' ys := by
  have hf : ∀ j, B ≤ j → ¬ TurnB R A j := fun j hj e => by
    rcases e with e | e
    · have := h.hR; omega
    · have := h.lt _ (.inr e); omega
  exact ⟨h.only.trans ho, hm, h.rm.only ho (hf _ (by omega)), h.rs.only ho (hf _ (by omega)), h.rn.only ho (hf _ (by omega)), h.ra.only ho (hf _ (by omega)), hr, h.lt, h.hw, h.hR⟩
theorem SFK.keep (h : SFK w0 p A cp B R n s ns acs csR W xs) (ho : Only Nil W W') : SFK w0 p A cp B R n s ns acs csR W' xs := h.call (ho.mono (fun _ _ h => h.elim)) (h.memo.keep ho) (h.rr.only ho id)
theorem SFK.setN (h : SFK w0 p A cp B R n s ns acs csR W xs) (m : Int) : SFK w0 p A cp B R n s m acs csR (W.setCell ⟨B + 1 + 1, 0, none⟩ (.int .i64 m)) xs := by
  have ho := (Only.refl (· = B + 1 + 1) W).setCell (p := ⟨B + 1 + 1, 0, none⟩) (.inr rfl) (.int .i64 m)
  exact ⟨h.only.setCell (.inl (by have := h.hw; show w0.heap.size ≤ B + 1 + 1; omega)) _, h.memo.far ho (fun j hj e => by have := h.lt j hj; omega), h.rm.only ho (fun e => by omega), h.rs.only ho (fun e => by omega), h.rn.set 0 _, h.ra.only ho (fun e => by omega), h.rr.only ho (fun e => by have := h.hR; omega), h.lt, h.hw, h.hR⟩
theorem SFK.setA {a0 a1 a2 a3 a4 : Value} (h : SFK w0 p A cp B R n s ns #[a0, a1, a2, a3, a4] csR W xs) (v0 v1 v2 v3 v4 : Value) :
    SFK w0 p A cp B R n s ns #[v0, v1, v2, v3, v4] csR (((((W.setCell ⟨B + 1 + 1 + 1, 0, none⟩ v0).setCell ⟨B + 1 + 1 + 1, 1, none⟩ v1).setCell ⟨B + 1 + 1 + 1, 2, none⟩ v2).setCell ⟨B + 1 + 1 + 1, 3, none⟩ v3).setCell ⟨B + 1 + 1 + 1, 4, none⟩ v4) xs := by
  have ho := five_only (Only.refl (· = B + 1 + 1 + 1) W) (g := B + 1 + 1 + 1) (.inr rfl) v0 v1 v2 v3 v4
  exact ⟨five_only h.only (.inl (by have := h.hw; omega)) _ _ _ _ _, h.memo.far ho (fun j hj e => by have := h.lt j hj; omega), h.rm.only ho (fun e => by omega), h.rs.only ho (fun e => by omega), h.rn.only ho (fun e => by omega), five h.ra _ _ _ _ _, h.rr.only ho (fun e => by have := h.hR; omega), h.lt, h.hw, h.hR⟩
theorem SFK.start {w : World} (n s : Int) (h : Memo w p A cp xs) (hr : Row w R 102 csR) :
    SFK w p A cp w.heap.size R n s 0 #[.int .i64 0, .int .i64 0, .int .u32 0, .int .u32 0, .int .u32 0] csR ((((w.alloc (.cells #[.int .i64 n] 49)).alloc (.cells #[.int .i64 s] 80)).alloc (.cells #[.int .i64 0] 80)).alloc (.cells #[.int .i64 0, .int .i64 0, .int .u32 0, .int .u32 0, .int .u32 0] 63)) xs := by
  have e := SF.start n s h
  exact ⟨e.only.mono (fun _ _ h => .inr h), e.memo, e.rm, e.rs, e.rn, e.ra, (((hr.alloc _).alloc _).alloc _).alloc _, e.lt, e.hw, hr.lt⟩
end


set_option maxHeartbeats 400000 in
theorem stepK_spin (p A : Option Addr) (cp R : Nat) (cs : Array Value) (cs1 : Int → Array Value) (xs : List Int) (n mode i s c : Int) (fv : Value) (q : Int → Bool) (w : World) (h : Memo w p A cp xs) (hr : Row w R 102 cs) (hRA : ∀ j, At p j ∨ At A j → j ≠ R) (hf : HoldsK A R w fv q cs cs1) (hx : Words xs) (hm : ¬ mode = 2) :
    Calls Tryz.prog 193 #[.pointer p, .agg #[.int .i64 n], .int .i64 mode, .int .i64 i, .agg #[.int .i64 s], .int .i64 c, fv] w (SteppedK p A cp R cs cs1 ⟨0, doVal xs 1 c 0 0, q (wordAt xs c), q (wordAt xs c), xs⟩ (wordAt xs c) w) := by
  have hm' : (mode != 2) = true := bne_iff_ne.2 hm
  have HF0 := Lib.hid (SFK.start n s h hr)
  have HF := Lib.hid (hf.move0 (((((Only.refl Nil w).alloc (.cells #[.int .i64 n] 49)).alloc (.cells #[.int .i64 s] 80)).alloc (.cells #[.int .i64 0] 80)).alloc (.cells #[.int .i64 0, .int .i64 0, .int .u32 0, .int .u32 0, .int .u32 0] 63)))
  have HX := Lib.hid hx
  have HRA := Lib.hid hRA
  clear h hf hx hr hRA
  go_enter Tryz.func193, Tryz.ntmps193
  go_wp2_with fail
  generalize (((w.alloc (.cells #[.int .i64 n] 49)).alloc (.cells #[.int .i64 s] 80)).alloc (.cells #[.int .i64 0] 80)).alloc (.cells #[.int .i64 0, .int .i64 0, .int .u32 0, .int .u32 0, .int .u32 0] 63) = w1 at *
  generalize w.heap.size = B at *
  refine (lookK_any p A cp R cs cs1 xs c fv q _ HF0.out.memo HF0.out.rr HRA.out HF.out HX.out).mono ?_
  obtain ⟨k', c', x', y', hv⟩ := doVal_form xs 1 c 0 0
  rw [oldAt xs 1 c rfl] at hv
  rw [hv]
  rintro e w2 ⟨rfl, hO, hM, hrr⟩
  have HF1 := Lib.hid (HF0.out.call hO hM hrr)
  have HV := Lib.hid hv
  clear hO hM hv hrr
  generalize hwd : wordAt xs c = o' at *
  have HWD := Lib.hid hwd
  clear hwd
  have a0 : w2.cell? ⟨B + 1 + 1 + 1, 0, none⟩ = some (.int .i64 0) := HF1.out.ra.cell_ (i := 0) rfl
  have a1 : w2.cell? ⟨B + 1 + 1 + 1, 1, none⟩ = some (.int .i64 0) := HF1.out.ra.cell_ (i := 1) rfl
  have a2 : w2.cell? ⟨B + 1 + 1 + 1, 2, none⟩ = some (.int .u32 0) := HF1.out.ra.cell_ (i := 2) rfl
  have a3 : w2.cell? ⟨B + 1 + 1 + 1, 3, none⟩ = some (.int .u32 0) := HF1.out.ra.cell_ (i := 3) rfl
  have a4 : w2.cell? ⟨B + 1 + 1 + 1, 4, none⟩ = some (.int .u32 0) := HF1.out.ra.cell_ (i := 4) rfl
  have g0 : w2.frozen? ⟨B + 1 + 1 + 1, 0, none⟩ = false := HF1.out.ra.frozen 0
  have g1 : w2.frozen? ⟨B + 1 + 1 + 1, 1, none⟩ = false := HF1.out.ra.frozen 1
  have g2 : w2.frozen? ⟨B + 1 + 1 + 1, 2, none⟩ = false := HF1.out.ra.frozen 2
  have g3 : w2.frozen? ⟨B + 1 + 1 + 1, 3, none⟩ = false := HF1.out.ra.frozen 3
  have g4 : w2.frozen? ⟨B + 1 + 1 + 1, 4, none⟩ = false := HF1.out.ra.frozen 4
  go_wp2_with fail
  have HF2 := Lib.hid (HF1.out.setA (.int .i64 k') (.int .i64 c') (.int .u32 x') (.int .u32 y') (.int .u32 o'))
  clear a0 a1 a2 a3 a4 g0 g1 g2 g3 g4 HF1
  generalize (((((w2.setCell ⟨B + 1 + 1 + 1, 0, none⟩ (.int .i64 k')).setCell ⟨B + 1 + 1 + 1, 1, none⟩ (.int .i64 c')).setCell ⟨B + 1 + 1 + 1, 2, none⟩ (.int .u32 x')).setCell ⟨B + 1 + 1 + 1, 3, none⟩ (.int .u32 y')).setCell ⟨B + 1 + 1 + 1, 4, none⟩ (.int .u32 o')) = w3 at *
  refine wp_region_held_drew (S := fun w' => Five w' (B + 1 + 1 + 1) (.int .i64 k') (.int .i64 c') (.int .u32 x') (.int .u32 y') (.int .u32 o')) (by kernel_rfl) HF2.out.ra.five (fun hHeld => ?_)
  have HF3 := Lib.hid (HF2.out.keep (Only.refl Nil w3).drew)
  clear HF2
  generalize w3.drew = w4 at *
  refine zk 0 rfl ?_
  refine zk 1 rfl ?_
  refine zk 2 rfl ?_
  refine zk 3 rfl ?_
  have n0 : w4.cell? ⟨B + 1 + 1, 0, none⟩ = some (.int .i64 0) := HF3.out.rn.cell_ (i := 0) rfl
  have m0 : w4.frozen? ⟨B + 1 + 1, 0, none⟩ = false := HF3.out.rn.frozen 0
  refine mcl 4 rfl (by kernel_rfl) (by rfl) (fun K hK => ?_)
  go_simp
  have HF4 := Lib.hid (HF3.out.setN (0))
  refine hK.out _ _ HF4.out.ra.five (fun hHeld2 => ?_)
  clear hK K hHeld n0 m0 HF3
  generalize w4.setCell ⟨B + 1 + 1, 0, none⟩ (.int .i64 (0)) = w5 at *
  have c0 : w5.cell? ⟨B + 1 + 1 + 1, 0, none⟩ = some (.int .i64 k') := HF4.out.ra.cell_ (i := 0) rfl
  have c1 : w5.cell? ⟨B + 1 + 1 + 1, 1, none⟩ = some (.int .i64 c') := HF4.out.ra.cell_ (i := 1) rfl
  have c2 : w5.cell? ⟨B + 1 + 1 + 1, 2, none⟩ = some (.int .u32 x') := HF4.out.ra.cell_ (i := 2) rfl
  have c3 : w5.cell? ⟨B + 1 + 1 + 1, 3, none⟩ = some (.int .u32 y') := HF4.out.ra.cell_ (i := 3) rfl
  have c4 : w5.cell? ⟨B + 1 + 1 + 1, 4, none⟩ = some (.int .u32 o') := HF4.out.ra.cell_ (i := 4) rfl
  have g0 : w5.frozen? ⟨B + 1 + 1 + 1, 0, none⟩ = false := HF4.out.ra.frozen 0
  have g1 : w5.frozen? ⟨B + 1 + 1 + 1, 1, none⟩ = false := HF4.out.ra.frozen 1
  have g2 : w5.frozen? ⟨B + 1 + 1 + 1, 2, none⟩ = false := HF4.out.ra.frozen 2
  have g3 : w5.frozen? ⟨B + 1 + 1 + 1, 3, none⟩ = false := HF4.out.ra.frozen 3
  have g4 : w5.frozen? ⟨B + 1 + 1 + 1, 4, none⟩ = false := HF4.out.ra.frozen 4
  refine mcl 5 rfl (by kernel_rfl) (by rfl) (fun K hK => ?_)
  go_simp
  have HF5 := Lib.hid (HF4.out.setA (.int .i64 k') (.int .i64 c') (.int .u32 x') (.int .u32 y') (.int .u32 o'))
  refine hK.out _ _ HF5.out.ra.five (fun hHeld3 => ?_)
  clear hK K hHeld2 c0 c1 c2 c3 c4 g0 g1 g2 g3 g4 HF4
  generalize (((((w5.setCell ⟨B + 1 + 1 + 1, 0, none⟩ (.int .i64 k')).setCell ⟨B + 1 + 1 + 1, 1, none⟩ (.int .i64 c')).setCell ⟨B + 1 + 1 + 1, 2, none⟩ (.int .u32 x')).setCell ⟨B + 1 + 1 + 1, 3, none⟩ (.int .u32 y')).setCell ⟨B + 1 + 1 + 1, 4, none⟩ (.int .u32 o')) = w6 at *
  refine zk 6 rfl ?_
  refine zk 7 rfl ?_
  refine wpAnyH_done (by kernel_rfl) ?_ _
  clear hHeld3
  go_wp2
  refine post_two_tmps (P := Tryz.prog) Tryz.results193 (by rfl) HF5.out.rn Tryz.underlying80 rfl (by kernel_rfl) (by rfl) HF5.out.ra Tryz.underlying63 rfl (by kernel_rfl) rfl ⟨?_, HF5.out.only, HF5.out.memo, HF5.out.rr⟩
  rw [HV.out]; rfl

set_option maxHeartbeats 400000 in
theorem stepK_0 (p A : Option Addr) (cp R : Nat) (cs : Array Value) (cs1 : Int → Array Value) (xs : List Int) (n i s c : Int) (fv : Value) (q : Int → Bool) (w : World) (h : Memo w p A cp xs) (hr : Row w R 102 cs) (hRA : ∀ j, At p j ∨ At A j → j ≠ R) (hf : HoldsK A R w fv q cs cs1) (hx : Words xs) (h1 : s ≠ 1) (h2 : s ≠ 2) (h3 : s ≠ 3) (h4 : s ≠ 4) (m : Int) (hmm : (if q (wordAt xs c) = true then (0 : Int) else 1) = m) :
    Calls Tryz.prog 193 #[.pointer p, .agg #[.int .i64 n], .int .i64 2, .int .i64 i, .agg #[.int .i64 s], .int .i64 c, fv] w (SteppedK p A cp R cs cs1 ⟨m, doVal xs 1 c 0 0, q (wordAt xs c), q (wordAt xs c), xs⟩ (wordAt xs c) w) := by
  have HMM := Lib.hid hmm
  clear hmm
  have h1' := beq_eq_false_iff_ne.2 h1
  have h2' := beq_eq_false_iff_ne.2 h2
  have h3' := beq_eq_false_iff_ne.2 h3
  have h4' := beq_eq_false_iff_ne.2 h4
  clear h1 h2 h3 h4
  have HF0 := Lib.hid (SFK.start n s h hr)
  have HF := Lib.hid (hf.move0 (((((Only.refl Nil w).alloc (.cells #[.int .i64 n] 49)).alloc (.cells #[.int .i64 s] 80)).alloc (.cells #[.int .i64 0] 80)).alloc (.cells #[.int .i64 0, .int .i64 0, .int .u32 0, .int .u32 0, .int .u32 0] 63)))
  have HX := Lib.hid hx
  have HRA := Lib.hid hRA
  clear h hf hx hr hRA
  go_enter Tryz.func193, Tryz.ntmps193
  go_wp2_with fail
  generalize (((w.alloc (.cells #[.int .i64 n] 49)).alloc (.cells #[.int .i64 s] 80)).alloc (.cells #[.int .i64 0] 80)).alloc (.cells #[.int .i64 0, .int .i64 0, .int .u32 0, .int .u32 0, .int .u32 0] 63) = w1 at *
  generalize w.heap.size = B at *
  refine (lookK_any p A cp R cs cs1 xs c fv q _ HF0.out.memo HF0.out.rr HRA.out HF.out HX.out).mono ?_
  obtain ⟨k', c', x', y', hv⟩ := doVal_form xs 1 c 0 0
  rw [oldAt xs 1 c rfl] at hv
  rw [hv]
  rintro e w2 ⟨rfl, hO, hM, hrr⟩
  have HF1 := Lib.hid (HF0.out.call hO hM hrr)
  have HV := Lib.hid hv
  clear hO hM hv hrr
  generalize hwd : wordAt xs c = o' at *
  have HWD := Lib.hid hwd
  clear hwd
  have a0 : w2.cell? ⟨B + 1 + 1 + 1, 0, none⟩ = some (.int .i64 0) := HF1.out.ra.cell_ (i := 0) rfl
  have a1 : w2.cell? ⟨B + 1 + 1 + 1, 1, none⟩ = some (.int .i64 0) := HF1.out.ra.cell_ (i := 1) rfl
  have a2 : w2.cell? ⟨B + 1 + 1 + 1, 2, none⟩ = some (.int .u32 0) := HF1.out.ra.cell_ (i := 2) rfl
  have a3 : w2.cell? ⟨B + 1 + 1 + 1, 3, none⟩ = some (.int .u32 0) := HF1.out.ra.cell_ (i := 3) rfl
  have a4 : w2.cell? ⟨B + 1 + 1 + 1, 4, none⟩ = some (.int .u32 0) := HF1.out.ra.cell_ (i := 4) rfl
  have g0 : w2.frozen? ⟨B + 1 + 1 + 1, 0, none⟩ = false := HF1.out.ra.frozen 0
  have g1 : w2.frozen? ⟨B + 1 + 1 + 1, 1, none⟩ = false := HF1.out.ra.frozen 1
  have g2 : w2.frozen? ⟨B + 1 + 1 + 1, 2, none⟩ = false := HF1.out.ra.frozen 2
  have g3 : w2.frozen? ⟨B + 1 + 1 + 1, 3, none⟩ = false := HF1.out.ra.frozen 3
  have g4 : w2.frozen? ⟨B + 1 + 1 + 1, 4, none⟩ = false := HF1.out.ra.frozen 4
  go_wp2_with fail
  have HF2 := Lib.hid (HF1.out.setA (.int .i64 k') (.int .i64 c') (.int .u32 x') (.int .u32 y') (.int .u32 o'))
  clear a0 a1 a2 a3 a4 g0 g1 g2 g3 g4 HF1
  generalize (((((w2.setCell ⟨B + 1 + 1 + 1, 0, none⟩ (.int .i64 k')).setCell ⟨B + 1 + 1 + 1, 1, none⟩ (.int .i64 c')).setCell ⟨B + 1 + 1 + 1, 2, none⟩ (.int .u32 x')).setCell ⟨B + 1 + 1 + 1, 3, none⟩ (.int .u32 y')).setCell ⟨B + 1 + 1 + 1, 4, none⟩ (.int .u32 o')) = w3 at *
  refine wp_region_held_drew (S := fun w' => Five w' (B + 1 + 1 + 1) (.int .i64 k') (.int .i64 c') (.int .u32 x') (.int .u32 y') (.int .u32 o')) (by kernel_rfl) HF2.out.ra.five (fun hHeld => ?_)
  have HF3 := Lib.hid (HF2.out.keep (Only.refl Nil w3).drew)
  clear HF2
  generalize w3.drew = w4 at *
  refine zk 0 rfl ?_
  refine zk 2 rfl ?_
  refine zk 3 rfl ?_
  refine zk 4 rfl ?_
  refine mcl 1 rfl (by kernel_rfl) (by rfl) (fun K hK => ?_)
  go_simp
  refine (either_any (q o') 0 1 _).mono ?_
  rw [HMM.out]
  rintro e w9 ⟨rfl, hO⟩
  have HF9 := Lib.hid (HF3.out.keep hO)
  refine hK.out _ _ HF9.out.ra.five (fun hHeld9 => ?_)
  clear hK K hHeld hO HF3
  have HF3 := HF9
  clear HF9
  have n0 : w9.cell? ⟨B + 1 + 1, 0, none⟩ = some (.int .i64 0) := HF3.out.rn.cell_ (i := 0) rfl
  have m0 : w9.frozen? ⟨B + 1 + 1, 0, none⟩ = false := HF3.out.rn.frozen 0
  refine mcl 5 rfl (by kernel_rfl) (by rfl) (fun K hK => ?_)
  go_simp
  have HF4 := Lib.hid (HF3.out.setN (m))
  refine hK.out _ _ HF4.out.ra.five (fun hHeld2 => ?_)
  clear hK K hHeld9 n0 m0 HF3
  generalize w9.setCell ⟨B + 1 + 1, 0, none⟩ (.int .i64 (m)) = w5 at *
  have c0 : w5.cell? ⟨B + 1 + 1 + 1, 0, none⟩ = some (.int .i64 k') := HF4.out.ra.cell_ (i := 0) rfl
  have c1 : w5.cell? ⟨B + 1 + 1 + 1, 1, none⟩ = some (.int .i64 c') := HF4.out.ra.cell_ (i := 1) rfl
  have c2 : w5.cell? ⟨B + 1 + 1 + 1, 2, none⟩ = some (.int .u32 x') := HF4.out.ra.cell_ (i := 2) rfl
  have c3 : w5.cell? ⟨B + 1 + 1 + 1, 3, none⟩ = some (.int .u32 y') := HF4.out.ra.cell_ (i := 3) rfl
  have c4 : w5.cell? ⟨B + 1 + 1 + 1, 4, none⟩ = some (.int .u32 o') := HF4.out.ra.cell_ (i := 4) rfl
  have g0 : w5.frozen? ⟨B + 1 + 1 + 1, 0, none⟩ = false := HF4.out.ra.frozen 0
  have g1 : w5.frozen? ⟨B + 1 + 1 + 1, 1, none⟩ = false := HF4.out.ra.frozen 1
  have g2 : w5.frozen? ⟨B + 1 + 1 + 1, 2, none⟩ = false := HF4.out.ra.frozen 2
  have g3 : w5.frozen? ⟨B + 1 + 1 + 1, 3, none⟩ = false := HF4.out.ra.frozen 3
  have g4 : w5.frozen? ⟨B + 1 + 1 + 1, 4, none⟩ = false := HF4.out.ra.frozen 4
  refine mcl 6 rfl (by kernel_rfl) (by rfl) (fun K hK => ?_)
  go_simp
  have HF5 := Lib.hid (HF4.out.setA (.int .i64 k') (.int .i64 c') (.int .u32 x') (.int .u32 y') (.int .u32 o'))
  refine hK.out _ _ HF5.out.ra.five (fun hHeld3 => ?_)
  clear hK K hHeld2 c0 c1 c2 c3 c4 g0 g1 g2 g3 g4 HF4
  generalize (((((w5.setCell ⟨B + 1 + 1 + 1, 0, none⟩ (.int .i64 k')).setCell ⟨B + 1 + 1 + 1, 1, none⟩ (.int .i64 c')).setCell ⟨B + 1 + 1 + 1, 2, none⟩ (.int .u32 x')).setCell ⟨B + 1 + 1 + 1, 3, none⟩ (.int .u32 y')).setCell ⟨B + 1 + 1 + 1, 4, none⟩ (.int .u32 o')) = w6 at *
  refine zk 7 rfl ?_
  refine zk 8 rfl ?_
  refine wpAnyH_done (by kernel_rfl) ?_ _
  clear hHeld3
  go_wp2
  refine post_two_tmps (P := Tryz.prog) Tryz.results193 (by rfl) HF5.out.rn Tryz.underlying80 rfl (by kernel_rfl) (by rfl) HF5.out.ra Tryz.underlying63 rfl (by kernel_rfl) rfl ⟨?_, HF5.out.only, HF5.out.memo, HF5.out.rr⟩
  rw [HV.out]; rfl

set_option maxHeartbeats 400000 in
theorem stepK_2 (p A : Option Addr) (cp R : Nat) (cs : Array Value) (cs1 : Int → Array Value) (xs : List Int) (n i c : Int) (fv : Value) (q : Int → Bool) (w : World) (h : Memo w p A cp xs) (hr : Row w R 102 cs) (hRA : ∀ j, At p j ∨ At A j → j ≠ R) (hf : HoldsK A R w fv q cs cs1) (hx : Words xs) (m : Int) (hmm : (if q (wordAt xs c) = true then (4 : Int) else 3) = m) :
    Calls Tryz.prog 193 #[.pointer p, .agg #[.int .i64 n], .int .i64 2, .int .i64 i, .agg #[.int .i64 2], .int .i64 c, fv] w (SteppedK p A cp R cs cs1 ⟨m, doVal xs 1 c 0 0, q (wordAt xs c), false, xs⟩ (wordAt xs c) w) := by
  have HMM := Lib.hid hmm
  clear hmm
  have HF0 := Lib.hid (SFK.start n 2 h hr)
  have HF := Lib.hid (hf.move0 (((((Only.refl Nil w).alloc (.cells #[.int .i64 n] 49)).alloc (.cells #[.int .i64 2] 80)).alloc (.cells #[.int .i64 0] 80)).alloc (.cells #[.int .i64 0, .int .i64 0, .int .u32 0, .int .u32 0, .int .u32 0] 63)))
  have HX := Lib.hid hx
  have HRA := Lib.hid hRA
  clear h hf hx hr hRA
  go_enter Tryz.func193, Tryz.ntmps193
  go_wp2_with fail
  generalize (((w.alloc (.cells #[.int .i64 n] 49)).alloc (.cells #[.int .i64 2] 80)).alloc (.cells #[.int .i64 0] 80)).alloc (.cells #[.int .i64 0, .int .i64 0, .int .u32 0, .int .u32 0, .int .u32 0] 63) = w1 at *
  generalize w.heap.size = B at *
  refine (lookK_any p A cp R cs cs1 xs c fv q _ HF0.out.memo HF0.out.rr HRA.out HF.out HX.out).mono ?_
  obtain ⟨k', c', x', y', hv⟩ := doVal_form xs 1 c 0 0
  rw [oldAt xs 1 c rfl] at hv
  rw [hv]
  rintro e w2 ⟨rfl, hO, hM, hrr⟩
  have HF1 := Lib.hid (HF0.out.call hO hM hrr)
  have HV := Lib.hid hv
  clear hO hM hv hrr
  generalize hwd : wordAt xs c = o' at *
  have HWD := Lib.hid hwd
  clear hwd
  have a0 : w2.cell? ⟨B + 1 + 1 + 1, 0, none⟩ = some (.int .i64 0) := HF1.out.ra.cell_ (i := 0) rfl
  have a1 : w2.cell? ⟨B + 1 + 1 + 1, 1, none⟩ = some (.int .i64 0) := HF1.out.ra.cell_ (i := 1) rfl
  have a2 : w2.cell? ⟨B + 1 + 1 + 1, 2, none⟩ = some (.int .u32 0) := HF1.out.ra.cell_ (i := 2) rfl
  have a3 : w2.cell? ⟨B + 1 + 1 + 1, 3, none⟩ = some (.int .u32 0) := HF1.out.ra.cell_ (i := 3) rfl
  have a4 : w2.cell? ⟨B + 1 + 1 + 1, 4, none⟩ = some (.int .u32 0) := HF1.out.ra.cell_ (i := 4) rfl
  have g0 : w2.frozen? ⟨B + 1 + 1 + 1, 0, none⟩ = false := HF1.out.ra.frozen 0
  have g1 : w2.frozen? ⟨B + 1 + 1 + 1, 1, none⟩ = false := HF1.out.ra.frozen 1
  have g2 : w2.frozen? ⟨B + 1 + 1 + 1, 2, none⟩ = false := HF1.out.ra.frozen 2
  have g3 : w2.frozen? ⟨B + 1 + 1 + 1, 3, none⟩ = false := HF1.out.ra.frozen 3
  have g4 : w2.frozen? ⟨B + 1 + 1 + 1, 4, none⟩ = false := HF1.out.ra.frozen 4
  go_wp2_with fail
  have HF2 := Lib.hid (HF1.out.setA (.int .i64 k') (.int .i64 c') (.int .u32 x') (.int .u32 y') (.int .u32 o'))
  clear a0 a1 a2 a3 a4 g0 g1 g2 g3 g4 HF1
  generalize (((((w2.setCell ⟨B + 1 + 1 + 1, 0, none⟩ (.int .i64 k')).setCell ⟨B + 1 + 1 + 1, 1, none⟩ (.int .i64 c')).setCell ⟨B + 1 + 1 + 1, 2, none⟩ (.int .u32 x')).setCell ⟨B + 1 + 1 + 1, 3, none⟩ (.int .u32 y')).setCell ⟨B + 1 + 1 + 1, 4, none⟩ (.int .u32 o')) = w3 at *
  refine wp_region_held_drew (S := fun w' => Five w' (B + 1 + 1 + 1) (.int .i64 k') (.int .i64 c') (.int .u32 x') (.int .u32 y') (.int .u32 o')) (by kernel_rfl) HF2.out.ra.five (fun hHeld => ?_)
  have HF3 := Lib.hid (HF2.out.keep (Only.refl Nil w3).drew)
  clear HF2
  generalize w3.drew = w4 at *
  refine zk 0 rfl ?_
  refine zk 2 rfl ?_
  refine zk 3 rfl ?_
  refine mcl 1 rfl (by kernel_rfl) (by rfl) (fun K hK => ?_)
  go_simp
  refine (either_any (q o') 4 3 _).mono ?_
  rw [HMM.out]
  rintro e w9 ⟨rfl, hO⟩
  have HF9 := Lib.hid (HF3.out.keep hO)
  refine hK.out _ _ HF9.out.ra.five (fun hHeld9 => ?_)
  clear hK K hHeld hO HF3
  have HF3 := HF9
  clear HF9
  have n0 : w9.cell? ⟨B + 1 + 1, 0, none⟩ = some (.int .i64 0) := HF3.out.rn.cell_ (i := 0) rfl
  have m0 : w9.frozen? ⟨B + 1 + 1, 0, none⟩ = false := HF3.out.rn.frozen 0
  refine mcl 4 rfl (by kernel_rfl) (by rfl) (fun K hK => ?_)
  go_simp
  have HF4 := Lib.hid (HF3.out.setN (m))
  refine hK.out _ _ HF4.out.ra.five (fun hHeld2 => ?_)
  clear hK K hHeld9 n0 m0 HF3
  generalize w9.setCell ⟨B + 1 + 1, 0, none⟩ (.int .i64 (m)) = w5 at *
  have c0 : w5.cell? ⟨B + 1 + 1 + 1, 0, none⟩ = some (.int .i64 k') := HF4.out.ra.cell_ (i := 0) rfl
  have c1 : w5.cell? ⟨B + 1 + 1 + 1, 1, none⟩ = some (.int .i64 c') := HF4.out.ra.cell_ (i := 1) rfl
  have c2 : w5.cell? ⟨B + 1 + 1 + 1, 2, none⟩ = some (.int .u32 x') := HF4.out.ra.cell_ (i := 2) rfl
  have c3 : w5.cell? ⟨B + 1 + 1 + 1, 3, none⟩ = some (.int .u32 y') := HF4.out.ra.cell_ (i := 3) rfl
  have c4 : w5.cell? ⟨B + 1 + 1 + 1, 4, none⟩ = some (.int .u32 o') := HF4.out.ra.cell_ (i := 4) rfl
  have g0 : w5.frozen? ⟨B + 1 + 1 + 1, 0, none⟩ = false := HF4.out.ra.frozen 0
  have g1 : w5.frozen? ⟨B + 1 + 1 + 1, 1, none⟩ = false := HF4.out.ra.frozen 1
  have g2 : w5.frozen? ⟨B + 1 + 1 + 1, 2, none⟩ = false := HF4.out.ra.frozen 2
  have g3 : w5.frozen? ⟨B + 1 + 1 + 1, 3, none⟩ = false := HF4.out.ra.frozen 3
  have g4 : w5.frozen? ⟨B + 1 + 1 + 1, 4, none⟩ = false := HF4.out.ra.frozen 4
  refine mcl 5 rfl (by kernel_rfl) (by rfl) (fun K hK => ?_)
  go_simp
  have HF5 := Lib.hid (HF4.out.setA (.int .i64 k') (.int .i64 c') (.int .u32 x') (.int .u32 y') (.int .u32 o'))
  refine hK.out _ _ HF5.out.ra.five (fun hHeld3 => ?_)
  clear hK K hHeld2 c0 c1 c2 c3 c4 g0 g1 g2 g3 g4 HF4
  generalize (((((w5.setCell ⟨B + 1 + 1 + 1, 0, none⟩ (.int .i64 k')).setCell ⟨B + 1 + 1 + 1, 1, none⟩ (.int .i64 c')).setCell ⟨B + 1 + 1 + 1, 2, none⟩ (.int .u32 x')).setCell ⟨B + 1 + 1 + 1, 3, none⟩ (.int .u32 y')).setCell ⟨B + 1 + 1 + 1, 4, none⟩ (.int .u32 o')) = w6 at *
  refine zk 6 rfl ?_
  refine zk 7 rfl ?_
  refine wpAnyH_done (by kernel_rfl) ?_ _
  clear hHeld3
  go_wp2
  refine post_two_tmps (P := Tryz.prog) Tryz.results193 (by rfl) HF5.out.rn Tryz.underlying80 rfl (by kernel_rfl) (by rfl) HF5.out.ra Tryz.underlying63 rfl (by kernel_rfl) rfl ⟨?_, HF5.out.only, HF5.out.memo, HF5.out.rr⟩
  rw [HV.out]; rfl

theorem steppedK_of {p A : Option Addr} {cp R : Nat} {cs : Array Value} {cs1 : Int → Array Value} {r : StepR} {v : Int} {w : World} (hs : r.seen = false) (hr : Row w R 102 cs) (hRA : ∀ j, At p j ∨ At A j → j ≠ R) {e : Ending} {w' : World} (h : Stepped p A cp r w e w') : SteppedK p A cp R cs cs1 r v w e w' :=
  ⟨h.1, h.2.1.mono (fun _ _ h => .inr h), h.2.2, by rw [hs]; exact hr.only h.2.1 (fun e => hRA _ (.inr e) rfl)⟩
/-- Any step. -/
theorem stepK_any (p A : Option Addr) (cp R : Nat) (cs : Array Value) (cs1 : Int → Array Value) (xs : List Int) (n mode i s c : Int) (fv : Value) (q : Int → Bool) (w : World) (h : Memo w p A cp xs) (hr : Row w R 102 cs) (hRA : ∀ j, At p j ∨ At A j → j ≠ R) (hf : HoldsK A R w fv q cs cs1) (hx : Words xs) :
    Calls Tryz.prog 193 #[.pointer p, .agg #[.int .i64 n], .int .i64 mode, .int .i64 i, .agg #[.int .i64 s], .int .i64 c, fv] w (SteppedK p A cp R cs cs1 (stepI xs n mode i s c q) (wordAt xs c) w) := by
  by_cases hm : mode = 2
  · subst hm
    by_cases h1 : s = 1
    · subst h1; exact (step_1 p A cp xs n i c fv w h).mono (fun _ _ k => steppedK_of rfl hr hRA k)
    by_cases h2 : s = 2
    · subst h2; exact stepK_2 p A cp R cs cs1 xs n i c fv q w h hr hRA hf hx _ rfl
    by_cases h3 : s = 3
    · subst h3; exact (step_3 p A cp xs n i c fv w h _ rfl).mono (fun _ _ k => steppedK_of rfl hr hRA k)
    by_cases h4 : s = 4
    · subst h4; exact (step_4 p A cp xs n i c fv w h).mono (fun _ _ k => steppedK_of rfl hr hRA k)
    rw [stepI_0 h1 h2 h3 h4]
    exact stepK_0 p A cp R cs cs1 xs n i s c fv q w h hr hRA hf hx h1 h2 h3 h4 _ rfl
  · rw [stepI_spin hm]
    exact stepK_spin p A cp R cs cs1 xs n mode i s c fv q w h hr hRA hf hx hm
end Go.Proofs.YtigdbokfapedcaaGreat
