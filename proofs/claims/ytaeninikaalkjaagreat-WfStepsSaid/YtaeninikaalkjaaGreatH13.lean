import Derived.Test.YtaeninikaalkjaaGreatH12
set_option linter.unusedVariables false
set_option linter.unusedSimpArgs false
namespace Go.Proofs.YtaeninikaalkjaaGreat
open Go.RowKit
def Stepped (p A : Option Addr) (cp : Nat) (r : StepR) (w : World) (e : Ending) (w' : World) : Prop :=
  e = .returned (.tuple #[.agg #[.int .i64 r.next], r.acc, .bool r.seen, .bool r.done]) ∧ Only (At A) w w' ∧ Memo w' p A cp r.xs
structure SF (w0 : World) (p A : Option Addr) (cp : Nat) (B : Nat) (n s ns : Int) (acs : Array Value) (W : World) (xs : List Int) : Prop where
  only : Only (At A) w0 W
  memo : Memo W p A cp xs
  rm : Row W B 37 #[.int .i64 n]
  rs : Row W (B + 1) 25 #[.int .i64 s]
  rn : Row W (B + 1 + 1) 25 #[.int .i64 ns]
  ra : Row W (B + 1 + 1 + 1) 39 acs
  lt : ∀ j, At p j ∨ At A j → j < B
  hw : w0.heap.size ≤ B
section
variable {w0 W W' : World} {p A : Option Addr} {cp B : Nat} {n s ns : Int} {acs : Array Value} {xs ys : List Int}
theorem SF.call (h : SF w0 p A cp B n s ns acs W xs) (ho : Only (At A) W W') (hm : Memo W' p A cp ys) : SF w0 p A cp B n s ns acs W' ys :=
  ⟨h.only.trans ho, hm, h.rm.only ho (fun e => by have := h.lt _ (.inr e); omega), h.rs.only ho (fun e => by have := h.lt _ (.inr e); omega), h.rn.only ho (fun e => by have := h.lt _ (.inr e); omega), h.ra.only ho (fun e => by have := h.lt _ (.inr e); omega), h.lt, h.hw⟩
theorem SF.keep (h : SF w0 p A cp B n s ns acs W xs) (ho : Only Nil W W') : SF w0 p A cp B n s ns acs W' xs := h.call (ho.mono (fun _ _ h => h.elim)) (h.memo.keep ho)
theorem SF.setN (h : SF w0 p A cp B n s ns acs W xs) (m : Int) : SF w0 p A cp B n s m acs (W.setCell ⟨B + 1 + 1, 0, none⟩ (.int .i64 m)) xs := by
  have ho := (Only.refl (· = B + 1 + 1) W).setCell (p := ⟨B + 1 + 1, 0, none⟩) (.inr rfl) (.int .i64 m)
  exact ⟨h.only.setCell (.inl (by have := h.hw; show w0.heap.size ≤ B + 1 + 1; omega)) _, h.memo.far ho (fun j hj e => by have := h.lt j hj; omega), h.rm.only ho (fun e => by omega), h.rs.only ho (fun e => by omega), h.rn.set 0 _, h.ra.only ho (fun e => by omega), h.lt, h.hw⟩
theorem SF.setA {a0 a1 a2 a3 a4 : Value} (h : SF w0 p A cp B n s ns #[a0, a1, a2, a3, a4] W xs) (v0 v1 v2 v3 v4 : Value) :
    SF w0 p A cp B n s ns #[v0, v1, v2, v3, v4] (((((W.setCell ⟨B + 1 + 1 + 1, 0, none⟩ v0).setCell ⟨B + 1 + 1 + 1, 1, none⟩ v1).setCell ⟨B + 1 + 1 + 1, 2, none⟩ v2).setCell ⟨B + 1 + 1 + 1, 3, none⟩ v3).setCell ⟨B + 1 + 1 + 1, 4, none⟩ v4) xs := by
  have ho := five_only (Only.refl (· = B + 1 + 1 + 1) W) (g := B + 1 + 1 + 1) (.inr rfl) v0 v1 v2 v3 v4
  exact ⟨five_only h.only (.inl (by have := h.hw; omega)) _ _ _ _ _, h.memo.far ho (fun j hj e => by have := h.lt j hj; omega), h.rm.only ho (fun e => by omega), h.rs.only ho (fun e => by omega), h.rn.only ho (fun e => by omega), five h.ra _ _ _ _ _, h.lt, h.hw⟩
theorem SF.start {w : World} {p A : Option Addr} {cp : Nat} {xs : List Int} (n s : Int) (h : Memo w p A cp xs) :
    SF w p A cp w.heap.size n s 0 #[.int .i64 0, .int .i64 0, .int .u32 0, .int .u32 0, .int .u32 0] ((((w.alloc (.cells #[.int .i64 n] 37)).alloc (.cells #[.int .i64 s] 25)).alloc (.cells #[.int .i64 0] 25)).alloc (.cells #[.int .i64 0, .int .i64 0, .int .u32 0, .int .u32 0, .int .u32 0] 39)) xs := by
  have e0 := ((((Only.refl Nil w).alloc (.cells #[.int .i64 n] 37)).alloc (.cells #[.int .i64 s] 25)).alloc (.cells #[.int .i64 0] 25)).alloc (.cells #[.int .i64 0, .int .i64 0, .int .u32 0, .int .u32 0, .int .u32 0] 39)
  refine ⟨e0.mono (fun _ _ h => h.elim), h.keep e0, (((Row.new w _ _).alloc _).alloc _).alloc _, ((Row.new2 w _ _ _).alloc _).alloc _, ?_, ?_, h.lt, Nat.le_refl _⟩
  · have e := (Row.new2 (w.alloc (.cells #[.int .i64 n] 37)) (.cells #[.int .i64 s] 25) 25 #[.int .i64 0]).alloc (.cells #[.int .i64 0, .int .i64 0, .int .u32 0, .int .u32 0, .int .u32 0] 39)
    rwa [show (w.alloc (.cells #[.int .i64 n] 37)).heap.size = w.heap.size + 1 by simp] at e
  · have e := Row.new2 ((w.alloc (.cells #[.int .i64 n] 37)).alloc (.cells #[.int .i64 s] 25)) (.cells #[.int .i64 0] 25) 39 #[.int .i64 0, .int .i64 0, .int .u32 0, .int .u32 0, .int .u32 0]
    rwa [show ((w.alloc (.cells #[.int .i64 n] 37)).alloc (.cells #[.int .i64 s] 25)).heap.size = w.heap.size + 1 + 1 by simp] at e
end
set_option maxHeartbeats 400000 in
theorem step_1 (p A : Option Addr) (cp : Nat) (xs : List Int) (n i c : Int) (fv : Value) (w : World) (h : Memo w p A cp xs) :
    Calls Tryz.prog 88 #[.pointer p, .agg #[.int .i64 n], .int .i64 2, .int .i64 i, .agg #[.int .i64 1], .int .i64 c, fv] w (Stepped p A cp ⟨2, doVal xs 2 (wc n i) ((c + 1) % 4294967296) 0, false, false, st xs (wc n i) ((c + 1) % 4294967296)⟩ w) := by
  have HF0 := Lib.hid (SF.start n 1 h)
  clear h
  go_enter Tryz.func88, Tryz.ntmps88
  go_wp2_with fail
  generalize (((w.alloc (.cells #[.int .i64 n] 37)).alloc (.cells #[.int .i64 1] 25)).alloc (.cells #[.int .i64 0] 25)).alloc (.cells #[.int .i64 0, .int .i64 0, .int .u32 0, .int .u32 0, .int .u32 0] 39) = w1 at *
  generalize w.heap.size = B at *
  have n1 : w1.cell? ⟨B, 0, none⟩ = some (.int .i64 n) := HF0.out.rm.cell_ (i := 0) rfl
  refine (setWatch_any p A cp xs n i ((c + 1) % 4294967296) _ HF0.out.memo).mono ?_
  obtain ⟨k', c', x', y', hv⟩ := doVal_form xs 2 (wc n i) ((c + 1) % 4294967296) 0
  generalize (if doOk xs 2 (wc n i) = true then wordAt xs (wc n i) else 0) = o' at hv
  rw [hv]
  rintro e w2 ⟨rfl, hO, hM⟩
  have HF1 := Lib.hid (HF0.out.call hO hM)
  have HV := Lib.hid hv
  clear hO hM hv
  have a0 : w2.cell? ⟨B + 1 + 1 + 1, 0, none⟩ = some (.int .i64 0) := HF1.out.ra.cell_ (i := 0) rfl
  have a1 : w2.cell? ⟨B + 1 + 1 + 1, 1, none⟩ = some (.int .i64 0) := HF1.out.ra.cell_ (i := 1) rfl
  have a2 : w2.cell? ⟨B + 1 + 1 + 1, 2, none⟩ = some (.int .u32 0) := HF1.out.ra.cell_ (i := 2) rfl
  have a3 : w2.cell? ⟨B + 1 + 1 + 1, 3, none⟩ = some (.int .u32 0) := HF1.out.ra.cell_ (i := 3) rfl
  have a4 : w2.cell? ⟨B + 1 + 1 + 1, 4, none⟩ = some (.int .u32 0) := HF1.out.ra.cell_ (i := 4) rfl
  have g0 : w2.frozen? ⟨B + 1 + 1 + 1, 0, none⟩ = false := HF1.out.ra.frozen 0
  have g1 : w2.frozen? ⟨B + 1 + 1 + 1, 1, none⟩ = false := HF1.out.ra.frozen 1
  have g2 : w2.frozen? ⟨B + 1 + 1 + 1, 2, none⟩ = false := HF1.out.ra.frozen 2
  have g3 : w2.frozen? ⟨B + 1 + 1 + 1, 3, none⟩ = false := HF1.out.ra.frozen 3
  have g4 : w2.frozen? ⟨B + 1 + 1 + 1, 4, none⟩ = false := HF1.out.ra.frozen 4
  have n0 : w2.cell? ⟨B + 1 + 1, 0, none⟩ = some (.int .i64 0) := HF1.out.rn.cell_ (i := 0) rfl
  have m0 : w2.frozen? ⟨B + 1 + 1, 0, none⟩ = false := HF1.out.rn.frozen 0
  go_wp2
  have HF5 := Lib.hid ((HF1.out.setN 2).setA (.int .i64 k') (.int .i64 c') (.int .u32 x') (.int .u32 y') (.int .u32 o'))
  refine post_two_tmps (P := Tryz.prog) Tryz.results88 (by rfl) HF5.out.rn Tryz.underlying25 rfl (by kernel_rfl) (by rfl) HF5.out.ra Tryz.underlying39 rfl (by kernel_rfl) rfl ⟨?_, HF5.out.only, HF5.out.memo⟩
  rw [HV.out]; rfl
set_option maxHeartbeats 400000 in
theorem step_4 (p A : Option Addr) (cp : Nat) (xs : List Int) (n i c : Int) (fv : Value) (w : World) (h : Memo w p A cp xs) :
    Calls Tryz.prog 88 #[.pointer p, .agg #[.int .i64 n], .int .i64 2, .int .i64 i, .agg #[.int .i64 4], .int .i64 c, fv] w (Stepped p A cp ⟨0, doVal xs 2 (wc n i) 0 0, false, true, st xs (wc n i) 0⟩ w) := by
  have HF0 := Lib.hid (SF.start n 4 h)
  clear h
  go_enter Tryz.func88, Tryz.ntmps88
  go_wp2_with fail
  generalize (((w.alloc (.cells #[.int .i64 n] 37)).alloc (.cells #[.int .i64 4] 25)).alloc (.cells #[.int .i64 0] 25)).alloc (.cells #[.int .i64 0, .int .i64 0, .int .u32 0, .int .u32 0, .int .u32 0] 39) = w1 at *
  generalize w.heap.size = B at *
  have n1 : w1.cell? ⟨B, 0, none⟩ = some (.int .i64 n) := HF0.out.rm.cell_ (i := 0) rfl
  refine (setWatch_any p A cp xs n i (0) _ HF0.out.memo).mono ?_
  obtain ⟨k', c', x', y', hv⟩ := doVal_form xs 2 (wc n i) (0) 0
  generalize (if doOk xs 2 (wc n i) = true then wordAt xs (wc n i) else 0) = o' at hv
  rw [hv]
  rintro e w2 ⟨rfl, hO, hM⟩
  have HF1 := Lib.hid (HF0.out.call hO hM)
  have HV := Lib.hid hv
  clear hO hM hv
  have a0 : w2.cell? ⟨B + 1 + 1 + 1, 0, none⟩ = some (.int .i64 0) := HF1.out.ra.cell_ (i := 0) rfl
  have a1 : w2.cell? ⟨B + 1 + 1 + 1, 1, none⟩ = some (.int .i64 0) := HF1.out.ra.cell_ (i := 1) rfl
  have a2 : w2.cell? ⟨B + 1 + 1 + 1, 2, none⟩ = some (.int .u32 0) := HF1.out.ra.cell_ (i := 2) rfl
  have a3 : w2.cell? ⟨B + 1 + 1 + 1, 3, none⟩ = some (.int .u32 0) := HF1.out.ra.cell_ (i := 3) rfl
  have a4 : w2.cell? ⟨B + 1 + 1 + 1, 4, none⟩ = some (.int .u32 0) := HF1.out.ra.cell_ (i := 4) rfl
  have g0 : w2.frozen? ⟨B + 1 + 1 + 1, 0, none⟩ = false := HF1.out.ra.frozen 0
  have g1 : w2.frozen? ⟨B + 1 + 1 + 1, 1, none⟩ = false := HF1.out.ra.frozen 1
  have g2 : w2.frozen? ⟨B + 1 + 1 + 1, 2, none⟩ = false := HF1.out.ra.frozen 2
  have g3 : w2.frozen? ⟨B + 1 + 1 + 1, 3, none⟩ = false := HF1.out.ra.frozen 3
  have g4 : w2.frozen? ⟨B + 1 + 1 + 1, 4, none⟩ = false := HF1.out.ra.frozen 4
  have n0 : w2.cell? ⟨B + 1 + 1, 0, none⟩ = some (.int .i64 0) := HF1.out.rn.cell_ (i := 0) rfl
  have m0 : w2.frozen? ⟨B + 1 + 1, 0, none⟩ = false := HF1.out.rn.frozen 0
  go_wp2
  have HF5 := Lib.hid ((HF1.out.setN 0).setA (.int .i64 k') (.int .i64 c') (.int .u32 x') (.int .u32 y') (.int .u32 o'))
  refine post_two_tmps (P := Tryz.prog) Tryz.results88 (by rfl) HF5.out.rn Tryz.underlying25 rfl (by kernel_rfl) (by rfl) HF5.out.ra Tryz.underlying39 rfl (by kernel_rfl) rfl ⟨?_, HF5.out.only, HF5.out.memo⟩
  rw [HV.out]; rfl
set_option maxHeartbeats 400000 in
theorem step_3 (p A : Option Addr) (cp : Nat) (xs : List Int) (n i c : Int) (fv : Value) (w : World) (h : Memo w p A cp xs) (m : Int) (hmm : (if hasP xs n i = true then (2 : Int) else 3) = m) :
    Calls Tryz.prog 88 #[.pointer p, .agg #[.int .i64 n], .int .i64 2, .int .i64 i, .agg #[.int .i64 3], .int .i64 c, fv] w (Stepped p A cp ⟨m, takeVal xs n i, false, false, st xs (pc n i) 0⟩ w) := by
  have HMM := Lib.hid hmm
  clear hmm
  have HF0 := Lib.hid (SF.start n 3 h)
  clear h
  go_enter Tryz.func88, Tryz.ntmps88
  go_wp2_with fail
  generalize (((w.alloc (.cells #[.int .i64 n] 37)).alloc (.cells #[.int .i64 3] 25)).alloc (.cells #[.int .i64 0] 25)).alloc (.cells #[.int .i64 0, .int .i64 0, .int .u32 0, .int .u32 0, .int .u32 0] 39) = w1 at *
  generalize w.heap.size = B at *
  refine (take_any p A cp xs n i _ HF0.out.memo).mono ?_
  obtain ⟨k', c', x', y', o', hv⟩ := takeVal_form xs n i
  rw [hv]
  rintro e w2 ⟨rfl, hO, hM⟩
  have HF1 := Lib.hid (HF0.out.call hO hM)
  have HV := Lib.hid hv
  clear hO hM hv
  generalize hasP xs n i = b at *
  have HF2 := Lib.hid (HF1.out.keep ((Only.refl Nil w2).alloc (.cells #[.int .i64 k', .int .i64 c', .int .u32 x', .int .u32 y', .int .u32 o'] 39)))
  have HN := Lib.hid (Row.new w2 39 #[.int .i64 k', .int .i64 c', .int .u32 x', .int .u32 y', .int .u32 o'])
  have HG := Lib.hid (show B + 1 + 1 + 1 < w2.heap.size from HF1.out.ra.lt)
  go_wp2_with fail
  generalize w2.alloc (.cells #[.int .i64 k', .int .i64 c', .int .u32 x', .int .u32 y', .int .u32 o'] 39) = w3 at *
  generalize w2.heap.size = g at *
  refine wp_region_held_drew (S := fun w' => Five w' g (.int .i64 k') (.int .i64 c') (.int .u32 x') (.int .u32 y') (.int .u32 o')) (by kernel_rfl) HN.out.five (fun hHeld => ?_)
  have HF3 := Lib.hid (HF2.out.keep (Only.refl Nil w3).drew)
  have HN3 := Lib.hid HN.out.drew
  clear HF2 HN
  generalize w3.drew = w4 at *
  refine zk 0 rfl ?_
  refine zk 2 rfl ?_
  refine mcl 1 rfl (by kernel_rfl) (by rfl) (fun K hK => ?_)
  go_simp
  refine (either_any b 2 3 _).mono ?_
  rw [HMM.out]
  rintro e w9 ⟨rfl, hO⟩
  have HF9 := Lib.hid (HF3.out.keep hO)
  have HN9 := Lib.hid (HN3.out.only hO id)
  refine hK.out _ _ HN9.out.five (fun hHeld9 => ?_)
  clear hK K hHeld hO HF3 HN3
  have n0 : w9.cell? ⟨B + 1 + 1, 0, none⟩ = some (.int .i64 0) := HF9.out.rn.cell_ (i := 0) rfl
  have m0 : w9.frozen? ⟨B + 1 + 1, 0, none⟩ = false := HF9.out.rn.frozen 0
  refine mcl 3 rfl (by kernel_rfl) (by rfl) (fun K hK => ?_)
  go_simp
  have HF4 := Lib.hid (HF9.out.setN m)
  have HN4 := Lib.hid (HN9.out.far (p := ⟨B + 1 + 1, 0, none⟩) (by have := HG.out; show g ≠ B + 1 + 1; omega) (.int .i64 m))
  refine hK.out _ _ HN4.out.five (fun hHeld2 => ?_)
  clear hK K hHeld9 n0 m0 HF9 HN9
  generalize w9.setCell ⟨B + 1 + 1, 0, none⟩ (.int .i64 m) = w5 at *
  have c0 : w5.cell? ⟨B + 1 + 1 + 1, 0, none⟩ = some (.int .i64 0) := HF4.out.ra.cell_ (i := 0) rfl
  have c1 : w5.cell? ⟨B + 1 + 1 + 1, 1, none⟩ = some (.int .i64 0) := HF4.out.ra.cell_ (i := 1) rfl
  have c2 : w5.cell? ⟨B + 1 + 1 + 1, 2, none⟩ = some (.int .u32 0) := HF4.out.ra.cell_ (i := 2) rfl
  have c3 : w5.cell? ⟨B + 1 + 1 + 1, 3, none⟩ = some (.int .u32 0) := HF4.out.ra.cell_ (i := 3) rfl
  have c4 : w5.cell? ⟨B + 1 + 1 + 1, 4, none⟩ = some (.int .u32 0) := HF4.out.ra.cell_ (i := 4) rfl
  have g0 : w5.frozen? ⟨B + 1 + 1 + 1, 0, none⟩ = false := HF4.out.ra.frozen 0
  have g1 : w5.frozen? ⟨B + 1 + 1 + 1, 1, none⟩ = false := HF4.out.ra.frozen 1
  have g2 : w5.frozen? ⟨B + 1 + 1 + 1, 2, none⟩ = false := HF4.out.ra.frozen 2
  have g3 : w5.frozen? ⟨B + 1 + 1 + 1, 3, none⟩ = false := HF4.out.ra.frozen 3
  have g4 : w5.frozen? ⟨B + 1 + 1 + 1, 4, none⟩ = false := HF4.out.ra.frozen 4
  refine mcl 4 rfl (by kernel_rfl) (by rfl) (fun K hK => ?_)
  go_simp
  have HF5 := Lib.hid (HF4.out.setA (.int .i64 k') (.int .i64 c') (.int .u32 x') (.int .u32 y') (.int .u32 o'))
  have HN5 := Lib.hid (five_far (g := B + 1 + 1 + 1) HN4.out (by have := HG.out; show g ≠ B + 1 + 1 + 1; omega) (.int .i64 k') (.int .i64 c') (.int .u32 x') (.int .u32 y') (.int .u32 o'))
  refine hK.out _ _ HN5.out.five (fun hHeld3 => ?_)
  clear hK K hHeld2 c0 c1 c2 c3 c4 g0 g1 g2 g3 g4 HF4 HN4
  generalize (((((w5.setCell ⟨B + 1 + 1 + 1, 0, none⟩ (.int .i64 k')).setCell ⟨B + 1 + 1 + 1, 1, none⟩ (.int .i64 c')).setCell ⟨B + 1 + 1 + 1, 2, none⟩ (.int .u32 x')).setCell ⟨B + 1 + 1 + 1, 3, none⟩ (.int .u32 y')).setCell ⟨B + 1 + 1 + 1, 4, none⟩ (.int .u32 o')) = w6 at *
  refine zk 5 rfl ?_
  refine zk 6 rfl ?_
  refine wpAnyH_done (by kernel_rfl) ?_ _
  clear hHeld3
  go_wp2
  refine post_two_tmps (P := Tryz.prog) Tryz.results88 (by rfl) HF5.out.rn Tryz.underlying25 rfl (by kernel_rfl) (by rfl) HF5.out.ra Tryz.underlying39 rfl (by kernel_rfl) rfl ⟨?_, HF5.out.only, HF5.out.memo⟩
  rw [HV.out]; rfl
end Go.Proofs.YtaeninikaalkjaaGreat
