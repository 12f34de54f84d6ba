/- LineW, LineWt, LineCP, LineL, LineRN, RHas, RTake. -/
import Derived.Laws.OwnMore
import Derived.Test.YtomgjamojeejbaaM3
import Derived.Test.YtomgjamojeejbaaM7
import Derived.Test.YtomgjamojeejbaaM6
import Derived.Test.YtomgjamojeejbaaM5
import Derived.Test.YtomgjamojeejbaaM1
/- A run's Wait, the program's. -/
set_option linter.unusedVariables false
set_option linter.unusedSimpArgs false
namespace Go.Proofs.Ytomgjamojeejbaa
open Go.RowKit

/-- What Wait's closure captures: from block g on, the run's pointer, the cell, the function, what was seen, whether it is done. -/
structure WB (w : World) (B : Nat) (p A : Option Addr) (cp : Nat) (nv : Value) (g : Nat) (c : Int) (fv : Value) (r : LS) (s3 s4 : Bool) : Prop where
  run : RunP w B p A cp nv r
  r0 : Row w g 36 #[.pointer (some ⟨B, 0, none⟩)]
  r1 : Row w (g + 1) 3 #[.int .i64 c]
  r2 : Row w (g + 2) 81 #[fv]
  r3 : Row w (g + 3) 4 #[.bool s3]
  r4 : Row w (g + 4) 4 #[.bool s4]

/-- What Wait may turn. -/
def Wd (B : Nat) (A : Option Addr) (g : Nat) : Nat → Prop := fun j => TurnB B A j ∨ j = g + 3 ∨ j = g + 4

theorem memo_not {w : World} {p A : Option Addr} {cp : Nat} {xs : List Int} {j : Nat} {t : TypeId} {cs : Array Value} (h : Memo w p A cp xs) (hr : Row w j t cs) (h1 : t ≠ 73) (h2 : t ≠ 23) : ¬ (At p j ∨ At A j) := fun hj => by
  obtain ⟨t', cs', hr', ht⟩ := memo_tag h hj
  have e := (hr.same hr').1
  rcases ht with rfl | rfl
  · exact h1 e
  · exact h2 e
theorem ownN_not {base : Nat} {w : World} {v : Value} {zs : List Nt} {i : Nat} {t : TypeId} {cs : Array Value} (h : OwnN base w v zs) (hr : Row w i t cs) (h1 : t ≠ 70) : v.ownBlock ≠ some i := fun hi => by
  obtain ⟨cur, hc⟩ := ownN_tag h hi
  exact h1 (hr.same hc).1
section
variable {w w' w0 : World} {B : Nat} {p A : Option Addr} {cp : Nat} {nv : Value} {g : Nat} {c : Int} {fv : Value} {r r' : LS} {s3 s4 : Bool} {ys : List Int} {S : Nat → Prop}
theorem WB.call (h : WB w B p A cp nv g c fv r s3 s4) (ho : Only (At A) w w') (hm : Memo w' p A cp ys) : WB w' B p A cp nv g c fv { r with xs := ys } s3 s4 :=
  ⟨h.run.call ho hm, h.r0.only ho (fun e => memo_not h.run.memo h.r0 (by decide) (by decide) (.inr e)), h.r1.only ho (fun e => memo_not h.run.memo h.r1 (by decide) (by decide) (.inr e)), h.r2.only ho (fun e => memo_not h.run.memo h.r2 (by decide) (by decide) (.inr e)), h.r3.only ho (fun e => memo_not h.run.memo h.r3 (by decide) (by decide) (.inr e)), h.r4.only ho (fun e => memo_not h.run.memo h.r4 (by decide) (by decide) (.inr e))⟩
theorem WB.keep (h : WB w B p A cp nv g c fv r s3 s4) (ho : Only Nil w w') : WB w' B p A cp nv g c fv r s3 s4 := h.call (ho.mono (fun _ _ h => h.elim)) (h.run.memo.keep ho)
theorem WB.turn (h : WB w B p A cp nv g c fv r s3 s4) (ho : Only (· = B) w w') (hr : RunP w' B p A cp nv r') : WB w' B p A cp nv g c fv r' s3 s4 :=
  ⟨hr, h.r0.only ho (row_ne h.r0 h.run.row (by decide)), h.r1.only ho (row_ne h.r1 h.run.row (by decide)), h.r2.only ho (row_ne h.r2 h.run.row (by decide)), h.r3.only ho (row_ne h.r3 h.run.row (by decide)), h.r4.only ho (row_ne h.r4 h.run.row (by decide))⟩
theorem WB.far (h : WB w B p A cp nv g c fv r s3 s4) {q : Nat} {t : TypeId} {cs : Array Value} (hq : Row w q t cs) (ho : Only (· = q) w w') (hB : B ≠ q) (hm : t ≠ 73) (hu : t ≠ 23) (hn : t ≠ 70) (h0 : ∀ i, i < 5 → q ≠ g + i) : WB w' B p A cp nv g c fv r s3 s4 :=
  ⟨h.run.apart ho hB (fun j hj e => by subst e; exact memo_not h.run.memo hq hm hu hj) (fun i hi e => by subst e; exact ownN_not h.run.notes hq hn hi),
    h.r0.only ho (fun e => h0 0 (by decide) e.symm), h.r1.only ho (fun e => h0 1 (by decide) e.symm), h.r2.only ho (fun e => h0 2 (by decide) e.symm), h.r3.only ho (fun e => h0 3 (by decide) e.symm), h.r4.only ho (fun e => h0 4 (by decide) e.symm)⟩
theorem WB.set3 (h : WB w B p A cp nv g c fv r s3 s4) (b : Bool) : WB (w.setCell ⟨g + 3, 0, none⟩ (.bool b)) B p A cp nv g c fv r b s4 := by
  have ho := (Only.refl (· = g + 3) w).setCell (p := ⟨g + 3, 0, none⟩) (.inr rfl) (.bool b)
  exact ⟨h.run.apart ho (row_ne h.run.row h.r3 (by decide)) (fun j hj e => by subst e; exact memo_not h.run.memo h.r3 (by decide) (by decide) hj) (fun i hi e => by subst e; exact ownN_not h.run.notes h.r3 (by decide) hi),
    h.r0.only ho (fun e => by omega), h.r1.only ho (fun e => by omega), h.r2.only ho (fun e => by omega), h.r3.set 0 _, h.r4.only ho (fun e => by omega)⟩
theorem WB.set4 (h : WB w B p A cp nv g c fv r s3 s4) (b : Bool) : WB (w.setCell ⟨g + 4, 0, none⟩ (.bool b)) B p A cp nv g c fv r s3 b := by
  have ho := (Only.refl (· = g + 4) w).setCell (p := ⟨g + 4, 0, none⟩) (.inr rfl) (.bool b)
  exact ⟨h.run.apart ho (row_ne h.run.row h.r4 (by decide)) (fun j hj e => by subst e; exact memo_not h.run.memo h.r4 (by decide) (by decide) hj) (fun i hi e => by subst e; exact ownN_not h.run.notes h.r4 (by decide) hi),
    h.r0.only ho (fun e => by omega), h.r1.only ho (fun e => by omega), h.r2.only ho (fun e => by omega), h.r3.only ho (fun e => by omega), h.r4.set 0 _⟩
theorem RunP.setS {w : World} {B : Nat} {p A : Option Addr} {cp : Nat} {nv : Value} {r : LS} (h : RunP w B p A cp nv r) (v : Int) : RunP (w.setCell ⟨B, 8, none⟩ (.int .i64 v)) B p A cp nv { r with s := v } :=
  h.turn ((Only.refl (· = B) w).setCell (p := ⟨B, 8, none⟩) (.inr rfl) _) (h.row.set 8 (.int .i64 v)) rfl rfl
theorem WB.setS (h : WB w B p A cp nv g c fv r s3 s4) (v : Int) : WB (w.setCell ⟨B, 8, none⟩ (.int .i64 v)) B p A cp nv g c fv { r with s := v } s3 s4 :=
  h.turn ((Only.refl (· = B) w).setCell (p := ⟨B, 8, none⟩) (.inr rfl) _) (h.run.setS v)
theorem WB.held (h : WB w B p A cp nv g c fv r s3 s4) : w.cell? ⟨g, 0, none⟩ = some (.pointer (some ⟨B, 0, none⟩)) ∧ w.cell? ⟨B, 0, none⟩ = some (.pointer p) ∧ w.cell? ⟨B, 1, none⟩ = some (.int .i64 r.n) ∧ w.cell? ⟨B, 2, none⟩ = some (.int .i64 r.mode) ∧ w.cell? ⟨B, 3, none⟩ = some (.int .i64 r.task) ∧ w.cell? ⟨B, 8, none⟩ = some (.int .i64 r.s) ∧ w.cell? ⟨g + 1, 0, none⟩ = some (.int .i64 c) ∧ w.cell? ⟨g + 2, 0, none⟩ = some fv :=
  ⟨h.r0.cell_ (i := 0) rfl, h.run.row.cell_ (i := 0) rfl, h.run.row.cell_ (i := 1) rfl, h.run.row.cell_ (i := 2) rfl, h.run.row.cell_ (i := 3) rfl, h.run.row.cell_ (i := 8) rfl, h.r1.cell_ (i := 0) rfl, h.r2.cell_ (i := 0) rfl⟩
end

/-- Behind the closure: the stage and the words are the step's, the access is told. -/
def Waited (w : World) (B : Nat) (p A : Option Addr) (cp : Nat) (nv : Value) (g : Nat) (c : Int) (fv : Value) (r : LS) (t : StepR) (e : Ending) (w' : World) : Prop :=
  e = .returned (ofV t.acc).v ∧ Only (Wd B A g) w w' ∧ WB w' B p A cp nv g c fv { r with s := t.next, xs := t.xs } t.seen t.done

set_option maxRecDepth 100000 in
set_option maxHeartbeats 2000000 in
theorem wait_closure (B : Nat) (p A : Option Addr) (cp : Nat) (nv : Value) (g : Nat) (c : Int) (fv : Value) (q : Int → Bool) (r : LS) (s3 s4 : Bool) (w : World) (h : WB w B p A cp nv g c fv r s3 s4) (hf : Holds fv q) (hx : Words r.xs) :
    Calls Try.prog 53 #[.pointer (some ⟨g, 0, none⟩), .pointer (some ⟨g + 1, 0, none⟩), .pointer (some ⟨g + 2, 0, none⟩), .pointer (some ⟨g + 3, 0, none⟩), .pointer (some ⟨g + 4, 0, none⟩)] w (Waited w B p A cp nv g c fv r (r.stepR c q)) := by
  have e0 := (Only.refl Nil w).alloc (.cells #[.int .i64 0, .int .i64 0, .int .u32 0, .int .u32 0, .int .u32 0] 40)
  have HP := Lib.hid (h.keep e0)
  have HR := Lib.hid (Row.new w 40 #[.int .i64 0, .int .i64 0, .int .u32 0, .int .u32 0, .int .u32 0])
  have HO := Lib.hid (e0.mono (T := Wd B A g) (fun _ _ h => h.elim))
  have hga : ∀ i, i < 5 → w.heap.size ≠ g + i := fun i hi e => by
    have h4 := h.r4.lt
    omega
  have HGA := Lib.hid hga
  have HBA := Lib.hid (show B ≠ w.heap.size from fun e => by have := h.run.row.lt; omega)
  have HF := Lib.hid hf
  have HX := Lib.hid hx
  have HW := Lib.hid (Nat.le_refl w.heap.size)
  clear h hf hx e0 hga
  have hacc := ofV_step r.xs r.n r.mode r.task r.s c q
  rw [show r.stepR c q = stepI r.xs r.n r.mode r.task r.s c q from rfl]
  generalize hst : stepI r.xs r.n r.mode r.task r.s c q = t at *
  obtain ⟨nx, ac, sn, dn, zs⟩ := t
  have HST := Lib.hid hst
  have HAC := Lib.hid (show ac = (ofV ac).v from hacc)
  clear hst hacc
  have HDE := Lib.hid (show Waited w B p A cp nv g c fv r ⟨nx, ac, sn, dn, zs⟩ = fun e w' => e = .returned (ofV ac).v ∧ Only (Wd B A g) w w' ∧ WB w' B p A cp nv g c fv { r with s := nx, xs := zs } sn dn from rfl)
  go_enter Try.func53, Try.ntmps53
  go_upto_region 1 with (fail)
  generalize w.alloc (.cells #[.int .i64 0, .int .i64 0, .int .u32 0, .int .u32 0, .int .u32 0] 40) = w1 at *
  generalize hgg : w.heap.size = ga at *
  have HG := Lib.hid hgg
  clear hgg
  refine wp_region_phase (n := 37) 33 (fun w => w.cell? ⟨g, 0, none⟩ = some (.pointer (some ⟨B, 0, none⟩)) ∧ w.cell? ⟨B, 0, none⟩ = some (.pointer p) ∧ w.cell? ⟨B, 1, none⟩ = some (.int .i64 r.n) ∧ w.cell? ⟨B, 2, none⟩ = some (.int .i64 r.mode) ∧ w.cell? ⟨B, 3, none⟩ = some (.int .i64 r.task) ∧ w.cell? ⟨B, 8, none⟩ = some (.int .i64 r.s) ∧ w.cell? ⟨g + 1, 0, none⟩ = some (.int .i64 c) ∧ w.cell? ⟨g + 2, 0, none⟩ = some fv) rfl (by kernel_rfl) HP.out.held (fun hHeld => ?_)
  have HP1 := Lib.hid (HP.out.keep (Only.refl Nil w1).drew)
  have HR1 := Lib.hid HR.out.drew
  have HO1 := Lib.hid HO.out.drew
  clear HP HR HO
  generalize w1.drew = w2 at *
  refine pt_0 rfl rfl 9 (.pointer (some ⟨B, 0, none⟩)) (by kernel_rfl) (by kernel_rfl) (by kernel_rfl) (by kernel_rfl) (by kernel_rfl) (fun _ _ _ h => h) (by rfl) (fun w hSw => ?_) (by assumption) ?_
  · (try dsimp only at hSw)
    go_split_ands
    go_simp
  (try simp only [Act.put, List.setIfInBounds_toArray, List.set_cons_zero, List.set_cons_succ])
  refine pt_1 rfl rfl 9 (.pointer (some ⟨B, 0, none⟩)) (by kernel_rfl) (by kernel_rfl) (by kernel_rfl) (by kernel_rfl) (by kernel_rfl) (fun _ _ _ h => h) (by rfl) (fun w hSw => ?_) (by assumption) ?_
  · (try dsimp only at hSw)
    go_split_ands
    go_simp
  (try simp only [Act.put, List.setIfInBounds_toArray, List.set_cons_zero, List.set_cons_succ])
  refine pa_2 rfl rfl (.pointer (some ⟨B, 0, none⟩)) (by kernel_rfl) (by kernel_rfl) (by kernel_rfl) (by decide) (by kernel_rfl) (fun _ _ _ h => h) (by rfl) (fun w => ?_) (by first | (right; assumption) | (left; kernel_rfl)) ?_
  · go_simp
  (try simp only [Act.put, List.setIfInBounds_toArray, List.set_cons_zero, List.set_cons_succ])
  refine pa_3 rfl rfl (.pointer (some ⟨B, 0, none⟩)) (by kernel_rfl) (by kernel_rfl) (by kernel_rfl) (by decide) (by kernel_rfl) (fun _ _ _ h => h) (by rfl) (fun w => ?_) (by first | (right; assumption) | (left; kernel_rfl)) ?_
  · go_simp
  (try simp only [Act.put, List.setIfInBounds_toArray, List.set_cons_zero, List.set_cons_succ])
  refine pt_4 rfl rfl 9 (.pointer p) (by kernel_rfl) (by kernel_rfl) (by kernel_rfl) (by kernel_rfl) (by kernel_rfl) (fun _ _ _ h => h) (by rfl) (fun w hSw => ?_) (by assumption) ?_
  · (try dsimp only at hSw)
    go_split_ands
    go_simp
  (try simp only [Act.put, List.setIfInBounds_toArray, List.set_cons_zero, List.set_cons_succ])
  refine pt_5 rfl rfl 9 (.pointer (some ⟨B, 0, none⟩)) (by kernel_rfl) (by kernel_rfl) (by kernel_rfl) (by kernel_rfl) (by kernel_rfl) (fun _ _ _ h => h) (by rfl) (fun w hSw => ?_) (by assumption) ?_
  · (try dsimp only at hSw)
    go_split_ands
    go_simp
  (try simp only [Act.put, List.setIfInBounds_toArray, List.set_cons_zero, List.set_cons_succ])
  refine pa_6 rfl rfl (.pointer (some ⟨B, 0, none⟩)) (by kernel_rfl) (by kernel_rfl) (by kernel_rfl) (by decide) (by kernel_rfl) (fun _ _ _ h => h) (by rfl) (fun w => ?_) (by first | (right; assumption) | (left; kernel_rfl)) ?_
  · go_simp
  (try simp only [Act.put, List.setIfInBounds_toArray, List.set_cons_zero, List.set_cons_succ])
  refine pa_7 rfl rfl (.pointer (some ⟨B, 1, none⟩)) (by kernel_rfl) (by kernel_rfl) (by kernel_rfl) (by decide) (by kernel_rfl) (fun _ _ _ h => h) (by rfl) (fun w => ?_) (by first | (right; assumption) | (left; kernel_rfl)) ?_
  · go_simp
  (try simp only [Act.put, List.setIfInBounds_toArray, List.set_cons_zero, List.set_cons_succ])
  refine pt_8 rfl rfl 9 (.agg #[.int .i64 r.n]) (by kernel_rfl) (by kernel_rfl) (by kernel_rfl) (by kernel_rfl) (by kernel_rfl) (fun _ _ _ h => h) (by rfl) (fun w hSw => ?_) (by assumption) ?_
  · (try dsimp only at hSw)
    go_split_ands
    go_simp
  (try simp only [Act.put, List.setIfInBounds_toArray, List.set_cons_zero, List.set_cons_succ])
  refine pt_9 rfl rfl 9 (.pointer (some ⟨B, 0, none⟩)) (by kernel_rfl) (by kernel_rfl) (by kernel_rfl) (by kernel_rfl) (by kernel_rfl) (fun _ _ _ h => h) (by rfl) (fun w hSw => ?_) (by assumption) ?_
  · (try dsimp only at hSw)
    go_split_ands
    go_simp
  (try simp only [Act.put, List.setIfInBounds_toArray, List.set_cons_zero, List.set_cons_succ])
  refine pa_10 rfl rfl (.pointer (some ⟨B, 0, none⟩)) (by kernel_rfl) (by kernel_rfl) (by kernel_rfl) (by decide) (by kernel_rfl) (fun _ _ _ h => h) (by rfl) (fun w => ?_) (by first | (right; assumption) | (left; kernel_rfl)) ?_
  · go_simp
  (try simp only [Act.put, List.setIfInBounds_toArray, List.set_cons_zero, List.set_cons_succ])
  refine pa_11 rfl rfl (.pointer (some ⟨B, 2, none⟩)) (by kernel_rfl) (by kernel_rfl) (by kernel_rfl) (by decide) (by kernel_rfl) (fun _ _ _ h => h) (by rfl) (fun w => ?_) (by first | (right; assumption) | (left; kernel_rfl)) ?_
  · go_simp
  (try simp only [Act.put, List.setIfInBounds_toArray, List.set_cons_zero, List.set_cons_succ])
  refine pt_12 rfl rfl 9 (.int .i64 r.mode) (by kernel_rfl) (by kernel_rfl) (by kernel_rfl) (by kernel_rfl) (by kernel_rfl) (fun _ _ _ h => h) (by rfl) (fun w hSw => ?_) (by assumption) ?_
  · (try dsimp only at hSw)
    go_split_ands
    go_simp
  (try simp only [Act.put, List.setIfInBounds_toArray, List.set_cons_zero, List.set_cons_succ])
  refine pt_13 rfl rfl 9 (.pointer (some ⟨B, 0, none⟩)) (by kernel_rfl) (by kernel_rfl) (by kernel_rfl) (by kernel_rfl) (by kernel_rfl) (fun _ _ _ h => h) (by rfl) (fun w hSw => ?_) (by assumption) ?_
  · (try dsimp only at hSw)
    go_split_ands
    go_simp
  (try simp only [Act.put, List.setIfInBounds_toArray, List.set_cons_zero, List.set_cons_succ])
  refine pa_14 rfl rfl (.pointer (some ⟨B, 0, none⟩)) (by kernel_rfl) (by kernel_rfl) (by kernel_rfl) (by decide) (by kernel_rfl) (fun _ _ _ h => h) (by rfl) (fun w => ?_) (by first | (right; assumption) | (left; kernel_rfl)) ?_
  · go_simp
  (try simp only [Act.put, List.setIfInBounds_toArray, List.set_cons_zero, List.set_cons_succ])
  refine pa_15 rfl rfl (.pointer (some ⟨B, 3, none⟩)) (by kernel_rfl) (by kernel_rfl) (by kernel_rfl) (by decide) (by kernel_rfl) (fun _ _ _ h => h) (by rfl) (fun w => ?_) (by first | (right; assumption) | (left; kernel_rfl)) ?_
  · go_simp
  (try simp only [Act.put, List.setIfInBounds_toArray, List.set_cons_zero, List.set_cons_succ])
  refine pt_16 rfl rfl 9 (.int .i64 r.task) (by kernel_rfl) (by kernel_rfl) (by kernel_rfl) (by kernel_rfl) (by kernel_rfl) (fun _ _ _ h => h) (by rfl) (fun w hSw => ?_) (by assumption) ?_
  · (try dsimp only at hSw)
    go_split_ands
    go_simp
  (try simp only [Act.put, List.setIfInBounds_toArray, List.set_cons_zero, List.set_cons_succ])
  refine pt_17 rfl rfl 9 (.pointer (some ⟨B, 0, none⟩)) (by kernel_rfl) (by kernel_rfl) (by kernel_rfl) (by kernel_rfl) (by kernel_rfl) (fun _ _ _ h => h) (by rfl) (fun w hSw => ?_) (by assumption) ?_
  · (try dsimp only at hSw)
    go_split_ands
    go_simp
  (try simp only [Act.put, List.setIfInBounds_toArray, List.set_cons_zero, List.set_cons_succ])
  refine pa_18 rfl rfl (.pointer (some ⟨B, 0, none⟩)) (by kernel_rfl) (by kernel_rfl) (by kernel_rfl) (by decide) (by kernel_rfl) (fun _ _ _ h => h) (by rfl) (fun w => ?_) (by first | (right; assumption) | (left; kernel_rfl)) ?_
  · go_simp
  (try simp only [Act.put, List.setIfInBounds_toArray, List.set_cons_zero, List.set_cons_succ])
  refine pa_19 rfl rfl (.pointer (some ⟨B, 4, none⟩)) (by kernel_rfl) (by kernel_rfl) (by kernel_rfl) (by decide) (by kernel_rfl) (fun _ _ _ h => h) (by rfl) (fun w => ?_) (by first | (right; assumption) | (left; kernel_rfl)) ?_
  · go_simp
  (try simp only [Act.put, List.setIfInBounds_toArray, List.set_cons_zero, List.set_cons_succ])
  refine pa_20 rfl rfl (.pointer (some ⟨B, 8, none⟩)) (by kernel_rfl) (by kernel_rfl) (by kernel_rfl) (by decide) (by kernel_rfl) (fun _ _ _ h => h) (by rfl) (fun w => ?_) (by first | (right; assumption) | (left; kernel_rfl)) ?_
  · go_simp
  (try simp only [Act.put, List.setIfInBounds_toArray, List.set_cons_zero, List.set_cons_succ])
  refine pt_21 rfl rfl 9 (.agg #[.int .i64 r.s]) (by kernel_rfl) (by kernel_rfl) (by kernel_rfl) (by kernel_rfl) (by kernel_rfl) (fun _ _ _ h => h) (by rfl) (fun w hSw => ?_) (by assumption) ?_
  · (try dsimp only at hSw)
    go_split_ands
    go_simp
  (try simp only [Act.put, List.setIfInBounds_toArray, List.set_cons_zero, List.set_cons_succ])
  refine pt_22 rfl rfl 9 (.int .i64 c) (by kernel_rfl) (by kernel_rfl) (by kernel_rfl) (by kernel_rfl) (by kernel_rfl) (fun _ _ _ h => h) (by rfl) (fun w hSw => ?_) (by assumption) ?_
  · (try dsimp only at hSw)
    go_split_ands
    go_simp
  (try simp only [Act.put, List.setIfInBounds_toArray, List.set_cons_zero, List.set_cons_succ])
  refine pt_23 rfl rfl 9 (fv) (by kernel_rfl) (by kernel_rfl) (by kernel_rfl) (by kernel_rfl) (by kernel_rfl) (fun _ _ _ h => h) (by rfl) (fun w hSw => ?_) (by assumption) ?_
  · (try dsimp only at hSw)
    go_split_ands
    go_simp
  (try simp only [Act.put, List.setIfInBounds_toArray, List.set_cons_zero, List.set_cons_succ])
  refine pc_24 rfl rfl (by kernel_rfl) (by rfl) (fun K hK => ?_)
  go_simp
  refine (step_any p A cp r.xs r.n r.mode r.task r.s c fv q _ HP1.out.run.memo HF.out HX.out).mono ?_
  rw [HST.out]
  intro e w3 hF
  obtain ⟨rfl, hO, hM⟩ := hF
  dsimp only at hM ⊢
  rw [HAC.out]
  clear HAC
  generalize ofV ac = a5 at *
  dsimp only [Acc5.v]
  have HP2 := Lib.hid (HP1.out.call hO hM)
  have HR2 := Lib.hid (HR1.out.only hO (fun e => memo_not HP1.out.run.memo HR1.out (by decide) (by decide) (.inr e)))
  have HO2 := Lib.hid (HO1.out.trans (hO.mono (T := Wd B A g) (fun _ _ e => .inl (.inr e))))
  refine hK.out _ _ (.inr HP2.out.held) ?_
  have hHeld2 := HP2.out.held
  clear hK K hHeld hO hM HP1 HR1 HO1
  (try simp only [Act.put, List.setIfInBounds_toArray, List.set_cons_zero, List.set_cons_succ])
  refine pa_25 rfl rfl (.tuple #[.agg #[.int .i64 nx], .agg #[.int .i64 a5.k, .int .i64 a5.c, .int .u32 a5.x, .int .u32 a5.y, .int .u32 a5.o], .bool sn, .bool dn]) (by kernel_rfl) (by kernel_rfl) (by kernel_rfl) (by decide) (by kernel_rfl) (fun _ _ _ h => h) (by rfl) (fun w => ?_) (by first | (right; assumption) | (left; kernel_rfl)) ?_
  · go_simp
  (try simp only [Act.put, List.setIfInBounds_toArray, List.set_cons_zero, List.set_cons_succ])
  refine pa_26 rfl rfl (.agg #[.int .i64 nx]) (by kernel_rfl) (by kernel_rfl) (by kernel_rfl) (by decide) (by kernel_rfl) (fun _ _ _ h => h) (by rfl) (fun w => ?_) (by first | (right; assumption) | (left; kernel_rfl)) ?_
  · go_simp
  (try simp only [Act.put, List.setIfInBounds_toArray, List.set_cons_zero, List.set_cons_succ])
  refine pa_27 rfl rfl (.agg #[.int .i64 a5.k, .int .i64 a5.c, .int .u32 a5.x, .int .u32 a5.y, .int .u32 a5.o]) (by kernel_rfl) (by kernel_rfl) (by kernel_rfl) (by decide) (by kernel_rfl) (fun _ _ _ h => h) (by rfl) (fun w => ?_) (by first | (right; assumption) | (left; kernel_rfl)) ?_
  · go_simp
  (try simp only [Act.put, List.setIfInBounds_toArray, List.set_cons_zero, List.set_cons_succ])
  refine pa_28 rfl rfl (.bool sn) (by kernel_rfl) (by kernel_rfl) (by kernel_rfl) (by decide) (by kernel_rfl) (fun _ _ _ h => h) (by rfl) (fun w => ?_) (by first | (right; assumption) | (left; kernel_rfl)) ?_
  · go_simp
  (try simp only [Act.put, List.setIfInBounds_toArray, List.set_cons_zero, List.set_cons_succ])
  refine pa_29 rfl rfl (.bool dn) (by kernel_rfl) (by kernel_rfl) (by kernel_rfl) (by decide) (by kernel_rfl) (fun _ _ _ h => h) (by rfl) (fun w => ?_) (by first | (right; assumption) | (left; kernel_rfl)) ?_
  · go_simp
  (try simp only [Act.put, List.setIfInBounds_toArray, List.set_cons_zero, List.set_cons_succ])
  refine pa_30 rfl rfl (.pointer (some ⟨B, 0, none⟩)) (by kernel_rfl) (by kernel_rfl) (by kernel_rfl) (by decide) (by kernel_rfl) (fun _ _ _ h => h) (by rfl) (fun w => ?_) (by first | (right; assumption) | (left; kernel_rfl)) ?_
  · go_simp
  (try simp only [Act.put, List.setIfInBounds_toArray, List.set_cons_zero, List.set_cons_succ])
  refine pa_31 rfl rfl (.pointer (some ⟨B, 4, none⟩)) (by kernel_rfl) (by kernel_rfl) (by kernel_rfl) (by decide) (by kernel_rfl) (fun _ _ _ h => h) (by rfl) (fun w => ?_) (by first | (right; assumption) | (left; kernel_rfl)) ?_
  · go_simp
  (try simp only [Act.put, List.setIfInBounds_toArray, List.set_cons_zero, List.set_cons_succ])
  refine pa_32 rfl rfl (.pointer (some ⟨B, 8, none⟩)) (by kernel_rfl) (by kernel_rfl) (by kernel_rfl) (by decide) (by kernel_rfl) (fun _ _ _ h => h) (by rfl) (fun w => ?_) (by first | (right; assumption) | (left; kernel_rfl)) ?_
  · go_simp
  (try simp only [Act.put, List.setIfInBounds_toArray, List.set_cons_zero, List.set_cons_succ])
  have c8 : w3.cell? ⟨B, 8, none⟩ = some (.int .i64 r.s) := HP2.out.run.row.cell_ (i := 8) rfl
  have f8 : w3.frozen? ⟨B, 8, none⟩ = false := HP2.out.run.row.frozen 8
  refine pc_33 rfl rfl (by kernel_rfl) (by rfl) (fun K hK => ?_)
  go_simp
  have HP3 := Lib.hid (HP2.out.setS nx)
  have HO3 := Lib.hid (HO2.out.setCell (p := ⟨B, 8, none⟩) (.inr (.inl (.inl rfl))) (.int .i64 nx))
  have HR3 := Lib.hid (HR2.out.far (p := ⟨B, 8, none⟩) (Ne.symm HBA.out) (.int .i64 nx))
  refine hK.out _ _ (.inl (by kernel_rfl)) ?_
  clear hK K hHeld2 c8 f8 HP2 HO2 HR2
  generalize w3.setCell ⟨B, 8, none⟩ (.int .i64 nx) = w4 at *
  (try simp only [Act.put, List.setIfInBounds_toArray, List.set_cons_zero, List.set_cons_succ])
  have a0 : w4.cell? ⟨ga, 0, none⟩ = some (.int .i64 0) := HR3.out.cell_ (i := 0) rfl
  have a1 : w4.cell? ⟨ga, 1, none⟩ = some (.int .i64 0) := HR3.out.cell_ (i := 1) rfl
  have a2 : w4.cell? ⟨ga, 2, none⟩ = some (.int .u32 0) := HR3.out.cell_ (i := 2) rfl
  have a3 : w4.cell? ⟨ga, 3, none⟩ = some (.int .u32 0) := HR3.out.cell_ (i := 3) rfl
  have a4 : w4.cell? ⟨ga, 4, none⟩ = some (.int .u32 0) := HR3.out.cell_ (i := 4) rfl
  have f0 : w4.frozen? ⟨ga, 0, none⟩ = false := HR3.out.frozen 0
  have f1 : w4.frozen? ⟨ga, 1, none⟩ = false := HR3.out.frozen 1
  have f2 : w4.frozen? ⟨ga, 2, none⟩ = false := HR3.out.frozen 2
  have f3 : w4.frozen? ⟨ga, 3, none⟩ = false := HR3.out.frozen 3
  have f4 : w4.frozen? ⟨ga, 4, none⟩ = false := HR3.out.frozen 4
  refine pc_34 rfl rfl (by kernel_rfl) (by rfl) (fun K hK => ?_)
  go_simp
  have ho5 := five_only (Only.refl (· = ga) w4) (g := ga) (.inr rfl) (.int .i64 a5.k) (.int .i64 a5.c) (.int .u32 a5.x) (.int .u32 a5.y) (.int .u32 a5.o)
  have HP4 := Lib.hid (HP3.out.far HR3.out ho5 HBA.out (by decide) (by decide) (by decide) HGA.out)
  have HO4 := Lib.hid (five_only HO3.out (g := ga) (.inl (by have := HG.out; omega)) (.int .i64 a5.k) (.int .i64 a5.c) (.int .u32 a5.x) (.int .u32 a5.y) (.int .u32 a5.o))
  have HR4 := Lib.hid (five HR3.out (.int .i64 a5.k) (.int .i64 a5.c) (.int .u32 a5.x) (.int .u32 a5.y) (.int .u32 a5.o))
  refine hK.out _ _ (.inl (by kernel_rfl)) ?_
  clear hK K ho5 a0 a1 a2 a3 a4 f0 f1 f2 f3 f4 HP3 HO3 HR3
  generalize (((((w4.setCell ⟨ga, 0, none⟩ (.int .i64 a5.k)).setCell ⟨ga, 1, none⟩ (.int .i64 a5.c)).setCell ⟨ga, 2, none⟩ (.int .u32 a5.x)).setCell ⟨ga, 3, none⟩ (.int .u32 a5.y)).setCell ⟨ga, 4, none⟩ (.int .u32 a5.o)) = w5 at *
  (try simp only [Act.put, List.setIfInBounds_toArray, List.set_cons_zero, List.set_cons_succ])
  have b3 : w5.cell? ⟨g + 3, 0, none⟩ = some (.bool s3) := HP4.out.r3.cell_ (i := 0) rfl
  have f3 : w5.frozen? ⟨g + 3, 0, none⟩ = false := HP4.out.r3.frozen 0
  refine pc_35 rfl rfl (by kernel_rfl) (by rfl) (fun K hK => ?_)
  go_simp
  have HP5 := Lib.hid (HP4.out.set3 sn)
  have HO5 := Lib.hid (HO4.out.setCell (p := ⟨g + 3, 0, none⟩) (.inr (.inr (.inl rfl))) (.bool sn))
  have HR5 := Lib.hid (HR4.out.far (p := ⟨g + 3, 0, none⟩) (HGA.out 3 (by decide)) (.bool sn))
  refine hK.out _ _ (.inl (by kernel_rfl)) ?_
  clear hK K b3 f3 HP4 HO4 HR4
  generalize w5.setCell ⟨g + 3, 0, none⟩ (.bool sn) = w6 at *
  (try simp only [Act.put, List.setIfInBounds_toArray, List.set_cons_zero, List.set_cons_succ])
  have b3 : w6.cell? ⟨g + 4, 0, none⟩ = some (.bool s4) := HP5.out.r4.cell_ (i := 0) rfl
  have f3 : w6.frozen? ⟨g + 4, 0, none⟩ = false := HP5.out.r4.frozen 0
  refine pc_36 rfl rfl (by kernel_rfl) (by rfl) (fun K hK => ?_)
  go_simp
  have HP6 := Lib.hid (HP5.out.set4 dn)
  have HO6 := Lib.hid (HO5.out.setCell (p := ⟨g + 4, 0, none⟩) (.inr (.inr (.inr rfl))) (.bool dn))
  have HR6 := Lib.hid (HR5.out.far (p := ⟨g + 4, 0, none⟩) (HGA.out 4 (by decide)) (.bool dn))
  refine hK.out _ _ (.inl (by kernel_rfl)) ?_
  clear hK K b3 f3 HP5 HO5 HR5
  generalize w6.setCell ⟨g + 4, 0, none⟩ (.bool dn) = w7 at *
  (try simp only [Act.put, List.setIfInBounds_toArray, List.set_cons_zero, List.set_cons_succ])
  refine wpAnyP_done (by kernel_rfl) ?_ _
  have a0 : w7.cell? ⟨ga, 0, none⟩ = some (.int .i64 a5.k) := HR6.out.cell_ (i := 0) rfl
  have a1 : w7.cell? ⟨ga, 1, none⟩ = some (.int .i64 a5.c) := HR6.out.cell_ (i := 1) rfl
  have a2 : w7.cell? ⟨ga, 2, none⟩ = some (.int .u32 a5.x) := HR6.out.cell_ (i := 2) rfl
  have a3 : w7.cell? ⟨ga, 3, none⟩ = some (.int .u32 a5.y) := HR6.out.cell_ (i := 3) rfl
  have a4 : w7.cell? ⟨ga, 4, none⟩ = some (.int .u32 a5.o) := HR6.out.cell_ (i := 4) rfl
  have f0 : w7.frozen? ⟨ga, 0, none⟩ = false := HR6.out.frozen 0
  have f1 : w7.frozen? ⟨ga, 1, none⟩ = false := HR6.out.frozen 1
  have f2 : w7.frozen? ⟨ga, 2, none⟩ = false := HR6.out.frozen 2
  have f3 : w7.frozen? ⟨ga, 3, none⟩ = false := HR6.out.frozen 3
  have f4 : w7.frozen? ⟨ga, 4, none⟩ = false := HR6.out.frozen 4
  have ho5 := five_only (Only.refl (· = ga) w7) (g := ga) (.inr rfl) (.int .i64 a5.k) (.int .i64 a5.c) (.int .u32 a5.x) (.int .u32 a5.y) (.int .u32 a5.o)
  have HP7 := Lib.hid (HP6.out.far HR6.out ho5 HBA.out (by decide) (by decide) (by decide) HGA.out)
  have HO7 := Lib.hid (five_only HO6.out (g := ga) (.inl (by have := HG.out; omega)) (.int .i64 a5.k) (.int .i64 a5.c) (.int .u32 a5.x) (.int .u32 a5.y) (.int .u32 a5.o))
  have HR7 := Lib.hid (five HR6.out (.int .i64 a5.k) (.int .i64 a5.c) (.int .u32 a5.x) (.int .u32 a5.y) (.int .u32 a5.o))
  clear ho5 HP6 HO6 HR6
  go_wp2
  exact post_row (P := Try.prog) Try.results53 (by rfl) HR7.out Try.underlying40 rfl (by kernel_rfl) rfl (by rw [HDE.out]; exact ⟨rfl, HO7.out, HP7.out⟩)

/-- What Wait's step leaves. -/
def WaitDone (w : World) (B : Nat) (p A : Option Addr) (cp : Nat) (nv : Value) (g : Nat) (c : Int) (fv : Value) (r : LS) (t : StepR) (e : Ending) (w' : World) : Prop :=
  e = .returned (.tuple #[]) ∧ Only (Wd B A g) w w' ∧ WB w' B p A cp nv g c fv { r with s := t.next, acc := ofV t.acc, xs := t.xs } t.seen t.done

set_option maxHeartbeats 1000000 in
theorem wait_do (B : Nat) (p A : Option Addr) (cp : Nat) (nv : Value) (g : Nat) (c : Int) (fv : Value) (q : Int → Bool) (r : LS) (s3 s4 : Bool) (w : World) (h : WB w B p A cp nv g c fv r s3 s4) (hf : Holds fv q) (hx : Words r.xs) :
    Calls Try.prog 33 #[.pointer (some ⟨B, 0, none⟩), .func (.func 53) #[] #[.pointer (some ⟨g, 0, none⟩), .pointer (some ⟨g + 1, 0, none⟩), .pointer (some ⟨g + 2, 0, none⟩), .pointer (some ⟨g + 3, 0, none⟩), .pointer (some ⟨g + 4, 0, none⟩)]] w (WaitDone w B p A cp nv g c fv r (r.stepR c q)) := by
  have HC := Lib.hid (wait_closure B p A cp nv g c fv q r s3 s4 w h hf hx)
  clear h hf hx
  go_enter Try.func33, Try.ntmps33
  go_wp2_with fail
  refine HC.out.mono ?_
  clear HC
  generalize r.stepR c q = t at *
  obtain ⟨nx, ac, sn, dn, zs⟩ := t
  intro e w1 hF
  obtain ⟨rfl, hO, hP⟩ := hF
  dsimp only at hP ⊢
  have HD := Lib.hid (show (⟨nx, ac, sn, dn, zs⟩ : StepR).acc = ac from rfl)
  have HDE := Lib.hid (show WaitDone w B p A cp nv g c fv r ⟨nx, ac, sn, dn, zs⟩ = fun e w' => e = .returned (.tuple #[]) ∧ Only (Wd B A g) w w' ∧ WB w' B p A cp nv g c fv { r with s := nx, acc := ofV ac, xs := zs } sn dn from rfl)
  generalize ofV ac = a5 at *
  dsimp only [Acc5.v]
  have HP := Lib.hid hP
  have HO := Lib.hid hO
  clear hP hO
  have a14 : w1.cell? ⟨B, 14, none⟩ = some (.int .i64 r.acc.k) := HP.out.run.row.cell_ (i := 14) rfl
  have a15 : w1.cell? ⟨B, 15, none⟩ = some (.int .i64 r.acc.c) := HP.out.run.row.cell_ (i := 15) rfl
  have a16 : w1.cell? ⟨B, 16, none⟩ = some (.int .u32 r.acc.x) := HP.out.run.row.cell_ (i := 16) rfl
  have a17 : w1.cell? ⟨B, 17, none⟩ = some (.int .u32 r.acc.y) := HP.out.run.row.cell_ (i := 17) rfl
  have a18 : w1.cell? ⟨B, 18, none⟩ = some (.int .u32 r.acc.o) := HP.out.run.row.cell_ (i := 18) rfl
  have f14 : w1.frozen? ⟨B, 14, none⟩ = false := HP.out.run.row.frozen 14
  have f15 : w1.frozen? ⟨B, 15, none⟩ = false := HP.out.run.row.frozen 15
  have f16 : w1.frozen? ⟨B, 16, none⟩ = false := HP.out.run.row.frozen 16
  have f17 : w1.frozen? ⟨B, 17, none⟩ = false := HP.out.run.row.frozen 17
  have f18 : w1.frozen? ⟨B, 18, none⟩ = false := HP.out.run.row.frozen 18
  go_wp2
  clear a14 a15 a16 a17 a18 f14 f15 f16 f17 f18
  go_returns
  rw [HDE.out]
  exact ⟨rfl, set_acc_only HO.out (B := B) (.inl (.inl rfl)) _ _ _ _ _, HP.out.turn (set_acc_only (Only.refl (· = B) w1) rfl _ _ _ _ _) (HP.out.run.setAcc a5)⟩
end Go.Proofs.Ytomgjamojeejbaa
/- A run's Wait, the program's, whole. -/
set_option linter.unusedVariables false
set_option linter.unusedSimpArgs false
namespace Go.Proofs.Ytomgjamojeejbaa
open Go.RowKit

theorem Row.at {w : World} {t : TypeId} {cs : Array Value} {k : Nat} (h : w.heap.size = k) : Row (w.alloc (.cells cs t)) k t cs := by subst h; exact Row.new w t cs

set_option maxRecDepth 100000 in
set_option maxHeartbeats 1000000 in
theorem wait_run (B : Nat) (p A : Option Addr) (cp : Nat) (nv : Value) (r : LS) (c : Int) (F : Fn) (f1 f2 : Array Value) (q : Int → Bool) (w : World) (h : RunP w B p A cp nv r) (hf : Holds (.func F f1 f2) q) (hx : Words r.xs) :
    Calls Try.prog 24 #[.pointer (some ⟨B, 0, none⟩), .int .i64 c, .func F f1 f2] w (Done B p A cp w (.tuple #[.bool (r.stepR c q).seen, .bool (r.stepR c q).done]) (r.wait c q)) := by
  have e0 := (((((Only.refl Nil w).alloc (.cells #[.pointer (some ⟨B, 0, none⟩)] 36)).alloc (.cells #[.int .i64 c] 3)).alloc (.cells #[.func F f1 f2] 81)).alloc (.cells #[.bool false] 4)).alloc (.cells #[.bool false] 4)
  have HP : Hid (WB _ B p A cp nv w.heap.size c (.func F f1 f2) r false false) := Lib.hid ⟨h.keep e0, ((((Row.new w 36 #[.pointer (some ⟨B, 0, none⟩)]).alloc _).alloc _).alloc _).alloc _,
    (((Row.at (t := 3) (cs := #[.int .i64 c]) (by simp)).alloc _).alloc _).alloc _, ((Row.at (t := 81) (cs := #[.func F f1 f2]) (by simp)).alloc _).alloc _, (Row.at (t := 4) (cs := #[.bool false]) (by simp)).alloc _, Row.at (by simp)⟩
  have HO := Lib.hid (e0.mono (T := TurnB B A) (fun _ _ h => h.elim))
  have HF := Lib.hid hf
  have HX := Lib.hid hx
  clear h hf hx e0
  rw [show r.wait c q = { r with s := (r.stepR c q).next, acc := ofV (r.stepR c q).acc, xs := (r.stepR c q).xs } from rfl]
  generalize hst : r.stepR c q = t at *
  have HST := Lib.hid hst
  clear hst
  obtain ⟨nx, ac, sn, dn, zs⟩ := t
  dsimp only
  generalize hr2 : ({ r with s := nx, acc := ofV ac, xs := zs } : LS) = r2 at *
  have HR2 := Lib.hid hr2
  clear hr2
  go_enter Try.func24, Try.ntmps24
  go_upto_region 1 with (fail)
  generalize ((((w.alloc (.cells #[.pointer (some ⟨B, 0, none⟩)] 36)).alloc (.cells #[.int .i64 c] 3)).alloc (.cells #[.func F f1 f2] 81)).alloc (.cells #[.bool false] 4)).alloc (.cells #[.bool false] 4) = w1 at *
  generalize hgg : w.heap.size = g at *
  have HG := Lib.hid hgg
  clear hgg
  have a0 : w1.cell? ⟨g, 0, none⟩ = some (.pointer (some ⟨B, 0, none⟩)) := HP.out.r0.cell_ (i := 0) rfl
  go_wp2_with fail
  clear a0
  refine (wait_do B p A cp nv g c (.func F f1 f2) q r false false _ HP.out HF.out HX.out).mono ?_
  rw [HST.out]
  intro e w2 hF
  obtain ⟨rfl, hO, hP⟩ := hF
  dsimp only at hP
  rw [HR2.out] at hP
  have HP2 := Lib.hid hP
  have HO2 := Lib.hid (HO.out.step hO (fun i hi hd => by
    rcases hd with hd | hd | hd
    · exact hd
    · have := HG.out; omega
    · have := HG.out; omega))
  clear hO hP HP HO
  go_upto_region 4 with (fail)
  refine wp_region_phase (n := 4) 3 (fun w => w.cell? ⟨g + 3, 0, none⟩ = some (.bool sn) ∧ w.cell? ⟨g + 4, 0, none⟩ = some (.bool dn)) rfl (by kernel_rfl) ⟨HP2.out.r3.cell_ (i := 0) rfl, HP2.out.r4.cell_ (i := 0) rfl⟩ (fun hHeld => ?_)
  have HP3 := Lib.hid (HP2.out.keep (Only.refl Nil w2).drew)
  have HO3 := Lib.hid HO2.out.drew
  clear HP2 HO2
  generalize w2.drew = w3 at *
  refine pt_0 rfl rfl 9 (.bool sn) (by kernel_rfl) (by kernel_rfl) (by kernel_rfl) (by kernel_rfl) (by kernel_rfl) (fun _ _ _ h => h) (by rfl) (fun w hSw => ?_) (by assumption) ?_
  · (try dsimp only at hSw)
    go_split_ands
    go_simp
  (try simp only [Act.put, List.setIfInBounds_toArray, List.set_cons_zero, List.set_cons_succ])
  refine pt_1 rfl rfl 9 (.bool dn) (by kernel_rfl) (by kernel_rfl) (by kernel_rfl) (by kernel_rfl) (by kernel_rfl) (fun _ _ _ h => h) (by rfl) (fun w hSw => ?_) (by assumption) ?_
  · (try dsimp only at hSw)
    go_split_ands
    go_simp
  (try simp only [Act.put, List.setIfInBounds_toArray, List.set_cons_zero, List.set_cons_succ])
  have b3 : w3.cell? ⟨g + 1 + 1 + 1, 0, none⟩ = some (.bool sn) := HP3.out.r3.cell_ (i := 0) rfl
  have f3 : w3.frozen? ⟨g + 1 + 1 + 1, 0, none⟩ = false := HP3.out.r3.frozen 0
  refine pc_2 rfl rfl (by kernel_rfl) (by rfl) (fun K hK => ?_)
  go_simp
  have HP4 : Hid (WB (w3.setCell ⟨g + 1 + 1 + 1, 0, none⟩ (.bool sn)) B p A cp nv g c (.func F f1 f2) r2 sn dn) := Lib.hid (HP3.out.set3 sn)
  have HO4 := Lib.hid (HO3.out.setCell (p := ⟨g + 1 + 1 + 1, 0, none⟩) (.inl (by have := HG.out; show w.heap.size ≤ g + 1 + 1 + 1; omega)) (.bool sn))
  refine hK.out _ _ (.inr ⟨HP4.out.r3.cell_ (i := 0) rfl, HP4.out.r4.cell_ (i := 0) rfl⟩) ?_
  clear hK K hHeld b3 f3 HP3 HO3
  generalize w3.setCell ⟨g + 1 + 1 + 1, 0, none⟩ (.bool sn) = w4 at *
  (try simp only [Act.put, List.setIfInBounds_toArray, List.set_cons_zero, List.set_cons_succ])
  have b3 : w4.cell? ⟨g + 1 + 1 + 1 + 1, 0, none⟩ = some (.bool dn) := HP4.out.r4.cell_ (i := 0) rfl
  have f3 : w4.frozen? ⟨g + 1 + 1 + 1 + 1, 0, none⟩ = false := HP4.out.r4.frozen 0
  refine pc_3 rfl rfl (by kernel_rfl) (by rfl) (fun K hK => ?_)
  go_simp
  have HP5 : Hid (WB (w4.setCell ⟨g + 1 + 1 + 1 + 1, 0, none⟩ (.bool dn)) B p A cp nv g c (.func F f1 f2) r2 sn dn) := Lib.hid (HP4.out.set4 dn)
  have HO5 := Lib.hid (HO4.out.setCell (p := ⟨g + 1 + 1 + 1 + 1, 0, none⟩) (.inl (by have := HG.out; show w.heap.size ≤ g + 1 + 1 + 1 + 1; omega)) (.bool dn))
  refine hK.out _ _ (.inl (by kernel_rfl)) ?_
  clear hK K b3 f3 HP4 HO4
  generalize w4.setCell ⟨g + 1 + 1 + 1 + 1, 0, none⟩ (.bool dn) = w5 at *
  (try simp only [Act.put, List.setIfInBounds_toArray, List.set_cons_zero, List.set_cons_succ])
  refine wpAnyP_done (by kernel_rfl) ?_ _
  have b3 : w5.cell? ⟨g + 1 + 1 + 1, 0, none⟩ = some (.bool sn) := HP5.out.r3.cell_ (i := 0) rfl
  have b4 : w5.cell? ⟨g + 1 + 1 + 1 + 1, 0, none⟩ = some (.bool dn) := HP5.out.r4.cell_ (i := 0) rfl
  go_wp2
  exact bodyPost_ret (v := .tuple #[.bool sn, .bool dn]) (by simp [results, Try.results24, go_sem, b3, b4]) rfl ⟨rfl, HO5.out, nv, HP5.out.run⟩
end Go.Proofs.Ytomgjamojeejbaa
/- The law's calls, on the program's run. -/
set_option linter.unusedVariables false
set_option linter.unusedSimpArgs false
namespace Go.Proofs.Ytomgjamojeejbaa
open Go.RowKit

/-- Behind k calls. -/
structure CP (w : World) (B : Nat) (p A : Option Addr) (cp : Nat) (r : LS) (l0 : List OpV) (k : Nat) (A3 : Option Addr) (n3 c3 : Nat) (W : World) : Prop where
  run : ∃ nv, RunP W B p A cp nv (r.opsI (l0.take k)).1
  own : Own W w.heap.size A3 c3 (r.opsI (l0.take k)).2
  len3 : n3 = (r.opsI (l0.take k)).2.length
  only : Only (TurnB B A) w W


set_option maxRecDepth 100000 in
set_option maxHeartbeats 8000000 in
theorem calls_run (B : Nat) (p A : Option Addr) (cp : Nat) (nv0 : Value) (r : LS) (AO : Option Addr) (m co : Nat) (l0 : List OpV) (N : Nat) (w : World) (h : RunP w B p A cp nv0 r) (hl : l0.length = m) (hm : m ≤ 10) (ho : OpsAt w N AO l0) (hwf : ∀ o ∈ l0, o.Wf) (hN : N ≤ w.heap.size) (hNB : N ≤ B) (hNA : ∀ j, At A j → N ≤ j)
    (hx : Words r.xs) (hns : r.ns.length ≤ 900) :
    Calls Try.prog 10 #[.pointer (some ⟨B, 0, none⟩), .slice AO m co] w fun e w' => ∃ A3 c3, e = .returned (.slice A3 (r.opsI l0).2.length c3) ∧ Own w' w.heap.size A3 c3 (r.opsI l0).2 ∧ Only (TurnB B A) w w' ∧ ∃ nv, RunP w' B p A cp nv (r.opsI l0).1 := by
  have HML := Lib.hid hl
  have HOS := Lib.hid ho
  have HWF := Lib.hid hwf
  have HK0 := Lib.hid (ops_keeps r l0 hwf)
  have HX0 := Lib.hid hx
  have HNS := Lib.hid hns
  have HA : Hid (∀ j, At p j ∨ At A j → j < w.heap.size) := Lib.hid h.memo.lt
  have HTS := Lib.hid (show ∀ j, j < N → ¬ TurnB B A j from fun j hj e => by
    rcases e with e | e
    · omega
    · have := hNA j e; omega)
  have H0 : Hid (CP w B p A cp r l0 0 none 0 0 w) := Lib.hid ⟨⟨nv0, h⟩, ⟨World.ownsRow_nil _ _ _ _, fun _ => ⟨rfl, rfl⟩, fun i ⟨a, ha, _⟩ => by cases ha⟩, rfl, Only.refl _ _⟩
  clear h hl ho hwf hx hns hNA
  go_enter Try.func10, Try.ntmps10
  go_wp2
  go_loopw [5, 6] (fun v i wr => ∃ k : Nat, ∃ (A3 : Option Addr) (n3 c3 : Nat), k ≤ m ∧ i = .int .i64 k ∧ v = .slice A3 n3 c3 ∧ Hid (CP w B p A cp r l0 k A3 n3 c3 wr)) (fun _ i _ => m - (intOf i).toNat)
  case atStart => exact ⟨0, none, 0, 0, Nat.zero_le _, rfl, rfl, H0⟩
  case round =>
    obtain ⟨k, A3, n3, c3, hk, rfl, rfl, HC⟩ := hrel
    clear H0
    by_cases hlt : k < m
    · obtain ⟨⟨ok, oc, on, ox, oy, uk, um, ux⟩, hok⟩ : ∃ o, l0[k]? = some o := ⟨_, List.getElem?_eq_getElem (by rw [HML.out]; exact hlt)⟩
      obtain ⟨hx0, hx1, hy0, hy1⟩ := HWF.out _ (List.mem_of_getElem? hok)
      dsimp only at hx0 hx1 hy0 hy1
      have HY := Lib.hid (⟨hy0, hy1⟩ : 0 ≤ oy ∧ oy < 4294967296)
      clear hy0 hy1
      obtain ⟨⟨hk1, hk2, hk3⟩⟩ : Nonempty ((r.Keeps (r.opsI (l0.take k)).1 ∧ (r.opsI (l0.take k)).1.ns.length ≤ r.ns.length + k) ∧ ((r.opsI (l0.take k)).2.length = 3 * k) ∧ True) := ⟨⟨(HK0.out k (by rw [HML.out]; exact hk)).1, (HK0.out k (by rw [HML.out]; exact hk)).2.1⟩, (HK0.out k (by rw [HML.out]; exact hk)).2.2, trivial⟩
      obtain ⟨hk1, hk4⟩ := hk1
      obtain ⟨⟨nv, hP⟩, hown, hlen, hO⟩ := HC.out
      clear HC
      generalize hkk : r.opsI (l0.take k) = pk at *
      obtain ⟨rk, outs⟩ := pk
      dsimp only at *
      have HOK := Lib.hid hok
      have HKK := Lib.hid hkk
      have HLE := Lib.hid hlen
      have HL1 := Lib.hid (show outs.length ≤ 1000 by omega)
      have HLN := Lib.hid (show rk.ns.length ≤ 1000 by have := HNS.out; omega)
      have HWK := Lib.hid (hk1.words HX0.out)
      have HP := Lib.hid hP
      have HW := Lib.hid hown
      have HO := Lib.hid hO
      obtain ⟨b, q, hAO, hb, h8⟩ := (HOS.out.only hO hN HTS.out) k _ hok
      obtain ⟨f0, f1, f2, f3, f4, f5, f6, f7⟩ := h8
      dsimp only at f0 f1 f2 f3 f4 f5 f6 f7
      subst hAO
      clear hok hkk hlen hP hown hO hk1 hk2 hk3 hk4 hb
      by_cases h0 : ok = 0
      · subst h0
        have HNX := Lib.hid (show r.opsI (l0.take (k + 1)) = (rk.doA 1 oc 0 0, outs ++ [wordAt rk.xs oc, bitI false, bitI false]) by rw [ops_next HOK.out, HKK.out]; rfl)
        have HP1 := Lib.hid (HP.out.keep ((Only.refl Nil wr).alloc (.cells #[.int .i64 0, .int .i64 oc, .int .i64 on, .int .u32 ox, .int .u32 oy, .int .i64 uk, .int .u32 um, .int .u32 ux] 80)))
        have HO1 := Lib.hid (HO.out.alloc (.cells #[.int .i64 0, .int .i64 oc, .int .i64 on, .int .u32 ox, .int .u32 oy, .int .i64 uk, .int .u32 um, .int .u32 ux] 80))
        have HW1 := Lib.hid (HW.out.only ((Only.refl Nil wr).alloc (.cells #[.int .i64 0, .int .i64 oc, .int .i64 on, .int .u32 ox, .int .u32 oy, .int .i64 uk, .int .u32 um, .int .u32 ux] 80)) (fun _ _ => id))
        go_wp2_with fail
        clear f0 f1 f2 f3 f4 f5 f6 f7
        refine (load_run B p A cp nv rk oc _ HP1.out).mono ?_
        intro e w3 hD
        obtain ⟨rfl, hO, nv2, hP⟩ := hD
        have HP2 := Lib.hid hP
        have HO2 := Lib.hid (HO1.out.trans hO)
        have HW2 := Lib.hid (HW1.out.away HP1.out.row (by decide) (fun j e => HA.out j (.inr e)) hO)
        clear hO hP
        go_wp2_with (first | (go_at_call 37; refine (bit_any _ _).mono ?_; rintro e w' ⟨rfl, rfl⟩) | (at_builtin; refine wp_app3 rfl (.tmp 103) (.tmp 109) rfl w.heap.size A3 n3 c3 outs rfl HLE.out (HW2.out.only ((Only.refl Nil _).alloc _) (fun _ _ => id)) _ (wordAt rk.xs oc) (bitI false) (bitI false) rfl (Row.new _ _ _) HL1.out (by have h1 := HO2.out.size; simp; omega) ?_))
        intro A' n' c' w9 hn' hown hO
        have HP3 := Lib.hid ((HP2.out.keep ((Only.refl Nil _).alloc _)).away (HW2.out.only ((Only.refl Nil _).alloc _) (fun _ _ => id)) HA.out hO)
        have HO3 := Lib.hid ((HO2.out.alloc _).step hO (fun i hi e => by have := HW2.out.base i e; omega))
        have HWN := Lib.hid hown
        have HN3 := Lib.hid hn'
        clear hn' hown hO
        go_wp2
        exact ⟨⟨k + 1, A', n', c', by omega, by go_num, rfl, Lib.hid ⟨⟨_, by rw [HNX.out]; exact HP3.out⟩, by rw [HNX.out]; exact HWN.out, by rw [HNX.out, HN3.out]; dsimp only; rw [List.length_append]; rfl, HO3.out⟩⟩, by simp [intOf]; omega⟩
      by_cases h1 : ok = 1
      · subst h1
        clear h0
        have HNX := Lib.hid (show r.opsI (l0.take (k + 1)) = (rk.doA 2 oc ox 0, outs ++ [0, bitI false, bitI false]) by rw [ops_next HOK.out, HKK.out]; rfl)
        have HP1 := Lib.hid (HP.out.keep ((Only.refl Nil wr).alloc (.cells #[.int .i64 1, .int .i64 oc, .int .i64 on, .int .u32 ox, .int .u32 oy, .int .i64 uk, .int .u32 um, .int .u32 ux] 80)))
        have HO1 := Lib.hid (HO.out.alloc (.cells #[.int .i64 1, .int .i64 oc, .int .i64 on, .int .u32 ox, .int .u32 oy, .int .i64 uk, .int .u32 um, .int .u32 ux] 80))
        have HW1 := Lib.hid (HW.out.only ((Only.refl Nil wr).alloc (.cells #[.int .i64 1, .int .i64 oc, .int .i64 on, .int .u32 ox, .int .u32 oy, .int .i64 uk, .int .u32 um, .int .u32 ux] 80)) (fun _ _ => id))
        go_wp2_with fail
        clear f0 f1 f2 f3 f4 f5 f6 f7
        refine (store_run B p A cp nv rk oc ox _ HP1.out).mono ?_
        intro e w3 hD
        obtain ⟨rfl, hO, nv2, hP⟩ := hD
        have HP2 := Lib.hid hP
        have HO2 := Lib.hid (HO1.out.trans hO)
        have HW2 := Lib.hid (HW1.out.away HP1.out.row (by decide) (fun j e => HA.out j (.inr e)) hO)
        clear hO hP
        go_wp2_with (first | (go_at_call 37; refine (bit_any _ _).mono ?_; rintro e w' ⟨rfl, rfl⟩) | (at_builtin; refine wp_app3 rfl (.tmp 103) (.tmp 109) rfl w.heap.size A3 n3 c3 outs rfl HLE.out (HW2.out.only ((Only.refl Nil _).alloc _) (fun _ _ => id)) _ (0) (bitI false) (bitI false) rfl (Row.new _ _ _) HL1.out (by have h1 := HO2.out.size; simp; omega) ?_))
        intro A' n' c' w9 hn' hown hO
        have HP3 := Lib.hid ((HP2.out.keep ((Only.refl Nil _).alloc _)).away (HW2.out.only ((Only.refl Nil _).alloc _) (fun _ _ => id)) HA.out hO)
        have HO3 := Lib.hid ((HO2.out.alloc _).step hO (fun i hi e => by have := HW2.out.base i e; omega))
        have HWN := Lib.hid hown
        have HN3 := Lib.hid hn'
        clear hn' hown hO
        go_wp2
        exact ⟨⟨k + 1, A', n', c', by omega, by go_num, rfl, Lib.hid ⟨⟨_, by rw [HNX.out]; exact HP3.out⟩, by rw [HNX.out]; exact HWN.out, by rw [HNX.out, HN3.out]; dsimp only; rw [List.length_append]; rfl, HO3.out⟩⟩, by simp [intOf]; omega⟩
      by_cases h2 : ok = 2
      · subst h2
        clear h0 h1
        have HNX := Lib.hid (show r.opsI (l0.take (k + 1)) = (rk.doA 3 oc ox 0, outs ++ [wordAt rk.xs oc, bitI false, bitI false]) by rw [ops_next HOK.out, HKK.out]; rfl)
        have HP1 := Lib.hid (HP.out.keep ((Only.refl Nil wr).alloc (.cells #[.int .i64 2, .int .i64 oc, .int .i64 on, .int .u32 ox, .int .u32 oy, .int .i64 uk, .int .u32 um, .int .u32 ux] 80)))
        have HO1 := Lib.hid (HO.out.alloc (.cells #[.int .i64 2, .int .i64 oc, .int .i64 on, .int .u32 ox, .int .u32 oy, .int .i64 uk, .int .u32 um, .int .u32 ux] 80))
        have HW1 := Lib.hid (HW.out.only ((Only.refl Nil wr).alloc (.cells #[.int .i64 2, .int .i64 oc, .int .i64 on, .int .u32 ox, .int .u32 oy, .int .i64 uk, .int .u32 um, .int .u32 ux] 80)) (fun _ _ => id))
        go_wp2_with fail
        clear f0 f1 f2 f3 f4 f5 f6 f7
        refine (add_run B p A cp nv rk oc ox _ HP1.out).mono ?_
        intro e w3 hD
        obtain ⟨rfl, hO, nv2, hP⟩ := hD
        have HP2 := Lib.hid hP
        have HO2 := Lib.hid (HO1.out.trans hO)
        have HW2 := Lib.hid (HW1.out.away HP1.out.row (by decide) (fun j e => HA.out j (.inr e)) hO)
        clear hO hP
        go_wp2_with (first | (go_at_call 37; refine (bit_any _ _).mono ?_; rintro e w' ⟨rfl, rfl⟩) | (at_builtin; refine wp_app3 rfl (.tmp 103) (.tmp 109) rfl w.heap.size A3 n3 c3 outs rfl HLE.out (HW2.out.only ((Only.refl Nil _).alloc _) (fun _ _ => id)) _ (wordAt rk.xs oc) (bitI false) (bitI false) rfl (Row.new _ _ _) HL1.out (by have h1 := HO2.out.size; simp; omega) ?_))
        intro A' n' c' w9 hn' hown hO
        have HP3 := Lib.hid ((HP2.out.keep ((Only.refl Nil _).alloc _)).away (HW2.out.only ((Only.refl Nil _).alloc _) (fun _ _ => id)) HA.out hO)
        have HO3 := Lib.hid ((HO2.out.alloc _).step hO (fun i hi e => by have := HW2.out.base i e; omega))
        have HWN := Lib.hid hown
        have HN3 := Lib.hid hn'
        clear hn' hown hO
        go_wp2
        exact ⟨⟨k + 1, A', n', c', by omega, by go_num, rfl, Lib.hid ⟨⟨_, by rw [HNX.out]; exact HP3.out⟩, by rw [HNX.out]; exact HWN.out, by rw [HNX.out, HN3.out]; dsimp only; rw [List.length_append]; rfl, HO3.out⟩⟩, by simp [intOf]; omega⟩
      by_cases h3 : ok = 3
      · subst h3
        clear h0 h1 h2
        have HNX := Lib.hid (show r.opsI (l0.take (k + 1)) = (rk.doA 4 oc ox 0, outs ++ [wordAt rk.xs oc, bitI false, bitI false]) by rw [ops_next HOK.out, HKK.out]; rfl)
        have HP1 := Lib.hid (HP.out.keep ((Only.refl Nil wr).alloc (.cells #[.int .i64 3, .int .i64 oc, .int .i64 on, .int .u32 ox, .int .u32 oy, .int .i64 uk, .int .u32 um, .int .u32 ux] 80)))
        have HO1 := Lib.hid (HO.out.alloc (.cells #[.int .i64 3, .int .i64 oc, .int .i64 on, .int .u32 ox, .int .u32 oy, .int .i64 uk, .int .u32 um, .int .u32 ux] 80))
        have HW1 := Lib.hid (HW.out.only ((Only.refl Nil wr).alloc (.cells #[.int .i64 3, .int .i64 oc, .int .i64 on, .int .u32 ox, .int .u32 oy, .int .i64 uk, .int .u32 um, .int .u32 ux] 80)) (fun _ _ => id))
        go_wp2_with fail
        clear f0 f1 f2 f3 f4 f5 f6 f7
        refine (swap_run B p A cp nv rk oc ox _ HP1.out).mono ?_
        intro e w3 hD
        obtain ⟨rfl, hO, nv2, hP⟩ := hD
        have HP2 := Lib.hid hP
        have HO2 := Lib.hid (HO1.out.trans hO)
        have HW2 := Lib.hid (HW1.out.away HP1.out.row (by decide) (fun j e => HA.out j (.inr e)) hO)
        clear hO hP
        go_wp2_with (first | (go_at_call 37; refine (bit_any _ _).mono ?_; rintro e w' ⟨rfl, rfl⟩) | (at_builtin; refine wp_app3 rfl (.tmp 103) (.tmp 109) rfl w.heap.size A3 n3 c3 outs rfl HLE.out (HW2.out.only ((Only.refl Nil _).alloc _) (fun _ _ => id)) _ (wordAt rk.xs oc) (bitI false) (bitI false) rfl (Row.new _ _ _) HL1.out (by have h1 := HO2.out.size; simp; omega) ?_))
        intro A' n' c' w9 hn' hown hO
        have HP3 := Lib.hid ((HP2.out.keep ((Only.refl Nil _).alloc _)).away (HW2.out.only ((Only.refl Nil _).alloc _) (fun _ _ => id)) HA.out hO)
        have HO3 := Lib.hid ((HO2.out.alloc _).step hO (fun i hi e => by have := HW2.out.base i e; omega))
        have HWN := Lib.hid hown
        have HN3 := Lib.hid hn'
        clear hn' hown hO
        go_wp2
        exact ⟨⟨k + 1, A', n', c', by omega, by go_num, rfl, Lib.hid ⟨⟨_, by rw [HNX.out]; exact HP3.out⟩, by rw [HNX.out]; exact HWN.out, by rw [HNX.out, HN3.out]; dsimp only; rw [List.length_append]; rfl, HO3.out⟩⟩, by simp [intOf]; omega⟩
      by_cases h4 : ok = 4
      · subst h4
        clear h0 h1 h2 h3
        have HNX := Lib.hid (show r.opsI (l0.take (k + 1)) = (rk.doA 5 oc ox oy, outs ++ [0, bitI (there rk.xs oc && (wordAt rk.xs oc == ox)), bitI false]) by rw [ops_next HOK.out, HKK.out]; rfl)
        have HP1 := Lib.hid (HP.out.keep ((Only.refl Nil wr).alloc (.cells #[.int .i64 4, .int .i64 oc, .int .i64 on, .int .u32 ox, .int .u32 oy, .int .i64 uk, .int .u32 um, .int .u32 ux] 80)))
        have HO1 := Lib.hid (HO.out.alloc (.cells #[.int .i64 4, .int .i64 oc, .int .i64 on, .int .u32 ox, .int .u32 oy, .int .i64 uk, .int .u32 um, .int .u32 ux] 80))
        have HW1 := Lib.hid (HW.out.only ((Only.refl Nil wr).alloc (.cells #[.int .i64 4, .int .i64 oc, .int .i64 on, .int .u32 ox, .int .u32 oy, .int .i64 uk, .int .u32 um, .int .u32 ux] 80)) (fun _ _ => id))
        go_wp2_with fail
        clear f0 f1 f2 f3 f4 f5 f6 f7
        refine (cas_run B p A cp nv rk oc ox oy _ HP1.out).mono ?_
        intro e w3 hD
        obtain ⟨rfl, hO, nv2, hP⟩ := hD
        have HP2 := Lib.hid hP
        have HO2 := Lib.hid (HO1.out.trans hO)
        have HW2 := Lib.hid (HW1.out.away HP1.out.row (by decide) (fun j e => HA.out j (.inr e)) hO)
        clear hO hP
        go_wp2_with (first | (go_at_call 37; refine (bit_any _ _).mono ?_; rintro e w' ⟨rfl, rfl⟩) | (at_builtin; refine wp_app3 rfl (.tmp 103) (.tmp 109) rfl w.heap.size A3 n3 c3 outs rfl HLE.out (HW2.out.only ((Only.refl Nil _).alloc _) (fun _ _ => id)) _ (0) (bitI (there rk.xs oc && (wordAt rk.xs oc == ox))) (bitI false) rfl (Row.new _ _ _) HL1.out (by have h1 := HO2.out.size; simp; omega) ?_))
        intro A' n' c' w9 hn' hown hO
        have HP3 := Lib.hid ((HP2.out.keep ((Only.refl Nil _).alloc _)).away (HW2.out.only ((Only.refl Nil _).alloc _) (fun _ _ => id)) HA.out hO)
        have HO3 := Lib.hid ((HO2.out.alloc _).step hO (fun i hi e => by have := HW2.out.base i e; omega))
        have HWN := Lib.hid hown
        have HN3 := Lib.hid hn'
        clear hn' hown hO
        go_wp2
        exact ⟨⟨k + 1, A', n', c', by omega, by go_num, rfl, Lib.hid ⟨⟨_, by rw [HNX.out]; exact HP3.out⟩, by rw [HNX.out]; exact HWN.out, by rw [HNX.out, HN3.out]; dsimp only; rw [List.length_append]; rfl, HO3.out⟩⟩, by simp [intOf]; omega⟩
      by_cases h5 : ok = 5
      · subst h5
        clear h0 h1 h2 h3 h4
        have HNX := Lib.hid (show r.opsI (l0.take (k + 1)) = (rk.wait oc (uIs uk um ux), outs ++ [0, bitI (rk.stepR oc (uIs uk um ux)).seen, bitI (rk.stepR oc (uIs uk um ux)).done]) by rw [ops_next HOK.out, HKK.out]; rfl)
        have HP1 := Lib.hid (HP.out.keep ((Only.refl Nil wr).alloc (.cells #[.int .i64 5, .int .i64 oc, .int .i64 on, .int .u32 ox, .int .u32 oy, .int .i64 uk, .int .u32 um, .int .u32 ux] 80)))
        have HO1 := Lib.hid (HO.out.alloc (.cells #[.int .i64 5, .int .i64 oc, .int .i64 on, .int .u32 ox, .int .u32 oy, .int .i64 uk, .int .u32 um, .int .u32 ux] 80))
        have HW1 := Lib.hid (HW.out.only ((Only.refl Nil wr).alloc (.cells #[.int .i64 5, .int .i64 oc, .int .i64 on, .int .u32 ox, .int .u32 oy, .int .i64 uk, .int .u32 um, .int .u32 ux] 80)) (fun _ _ => id))
        go_wp2_with fail
        clear f0 f1 f2 f3 f4 f5 f6 f7
        refine (wait_run B p A cp nv rk oc _ _ _ (uIs uk um ux) _ HP1.out (holds_until uk um ux) HWK.out).mono ?_
        intro e w3 hD
        obtain ⟨rfl, hO, nv2, hP⟩ := hD
        have HP2 := Lib.hid hP
        have HO2 := Lib.hid (HO1.out.trans hO)
        have HW2 := Lib.hid (HW1.out.away HP1.out.row (by decide) (fun j e => HA.out j (.inr e)) hO)
        clear hO hP
        go_wp2_with (first | (go_at_call 37; refine (bit_any _ _).mono ?_; rintro e w' ⟨rfl, rfl⟩) | (at_builtin; refine wp_app3 rfl (.tmp 103) (.tmp 109) rfl w.heap.size A3 n3 c3 outs rfl HLE.out (HW2.out.only ((Only.refl Nil _).alloc _) (fun _ _ => id)) _ (0) (bitI (rk.stepR oc (uIs uk um ux)).seen) (bitI (rk.stepR oc (uIs uk um ux)).done) rfl (Row.new _ _ _) HL1.out (by have h1 := HO2.out.size; simp; omega) ?_))
        intro A' n' c' w9 hn' hown hO
        have HP3 := Lib.hid ((HP2.out.keep ((Only.refl Nil _).alloc _)).away (HW2.out.only ((Only.refl Nil _).alloc _) (fun _ _ => id)) HA.out hO)
        have HO3 := Lib.hid ((HO2.out.alloc _).step hO (fun i hi e => by have := HW2.out.base i e; omega))
        have HWN := Lib.hid hown
        have HN3 := Lib.hid hn'
        clear hn' hown hO
        go_wp2
        exact ⟨⟨k + 1, A', n', c', by omega, by go_num, rfl, Lib.hid ⟨⟨_, by rw [HNX.out]; exact HP3.out⟩, by rw [HNX.out]; exact HWN.out, by rw [HNX.out, HN3.out]; dsimp only; rw [List.length_append]; rfl, HO3.out⟩⟩, by simp [intOf]; omega⟩
      by_cases h6 : ok = 6
      · subst h6
        clear h0 h1 h2 h3 h4 h5
        have HNX := Lib.hid (show r.opsI (l0.take (k + 1)) = (rk.note on oc, outs ++ [0, bitI false, bitI false]) by rw [ops_next HOK.out, HKK.out]; rfl)
        have HP1 := Lib.hid (HP.out.keep ((Only.refl Nil wr).alloc (.cells #[.int .i64 6, .int .i64 oc, .int .i64 on, .int .u32 ox, .int .u32 oy, .int .i64 uk, .int .u32 um, .int .u32 ux] 80)))
        have HO1 := Lib.hid (HO.out.alloc (.cells #[.int .i64 6, .int .i64 oc, .int .i64 on, .int .u32 ox, .int .u32 oy, .int .i64 uk, .int .u32 um, .int .u32 ux] 80))
        have HW1 := Lib.hid (HW.out.only ((Only.refl Nil wr).alloc (.cells #[.int .i64 6, .int .i64 oc, .int .i64 on, .int .u32 ox, .int .u32 oy, .int .i64 uk, .int .u32 um, .int .u32 ux] 80)) (fun _ _ => id))
        go_wp2_with fail
        clear f0 f1 f2 f3 f4 f5 f6 f7
        refine (note_run B p A cp nv rk on oc _ HP1.out HLN.out).mono ?_
        intro e w3 hD
        obtain ⟨rfl, hO, nv2, hP⟩ := hD
        have HP2 := Lib.hid hP
        have HO2 := Lib.hid (HO1.out.trans hO)
        have HW2 := Lib.hid (HW1.out.away HP1.out.row (by decide) (fun j e => HA.out j (.inr e)) hO)
        clear hO hP
        go_wp2_with (first | (go_at_call 37; refine (bit_any _ _).mono ?_; rintro e w' ⟨rfl, rfl⟩) | (at_builtin; refine wp_app3 rfl (.tmp 103) (.tmp 109) rfl w.heap.size A3 n3 c3 outs rfl HLE.out (HW2.out.only ((Only.refl Nil _).alloc _) (fun _ _ => id)) _ (0) (bitI false) (bitI false) rfl (Row.new _ _ _) HL1.out (by have h1 := HO2.out.size; simp; omega) ?_))
        intro A' n' c' w9 hn' hown hO
        have HP3 := Lib.hid ((HP2.out.keep ((Only.refl Nil _).alloc _)).away (HW2.out.only ((Only.refl Nil _).alloc _) (fun _ _ => id)) HA.out hO)
        have HO3 := Lib.hid ((HO2.out.alloc _).step hO (fun i hi e => by have := HW2.out.base i e; omega))
        have HWN := Lib.hid hown
        have HN3 := Lib.hid hn'
        clear hn' hown hO
        go_wp2
        exact ⟨⟨k + 1, A', n', c', by omega, by go_num, rfl, Lib.hid ⟨⟨_, by rw [HNX.out]; exact HP3.out⟩, by rw [HNX.out]; exact HWN.out, by rw [HNX.out, HN3.out]; dsimp only; rw [List.length_append]; rfl, HO3.out⟩⟩, by simp [intOf]; omega⟩
      by_cases h7 : ok = 7
      · subst h7
        clear h0 h1 h2 h3 h4 h5 h6
        have HNX := Lib.hid (show r.opsI (l0.take (k + 1)) = (rk.go on, outs ++ [0, bitI false, bitI false]) by rw [ops_next HOK.out, HKK.out]; rfl)
        have HP1 := Lib.hid (HP.out.keep ((Only.refl Nil wr).alloc (.cells #[.int .i64 7, .int .i64 oc, .int .i64 on, .int .u32 ox, .int .u32 oy, .int .i64 uk, .int .u32 um, .int .u32 ux] 80)))
        have HO1 := Lib.hid (HO.out.alloc (.cells #[.int .i64 7, .int .i64 oc, .int .i64 on, .int .u32 ox, .int .u32 oy, .int .i64 uk, .int .u32 um, .int .u32 ux] 80))
        have HW1 := Lib.hid (HW.out.only ((Only.refl Nil wr).alloc (.cells #[.int .i64 7, .int .i64 oc, .int .i64 on, .int .u32 ox, .int .u32 oy, .int .i64 uk, .int .u32 um, .int .u32 ux] 80)) (fun _ _ => id))
        go_wp2_with fail
        clear f0 f1 f2 f3 f4 f5 f6 f7
        refine (go_run B p A cp nv rk on _ HP1.out).mono ?_
        intro e w3 hD
        obtain ⟨rfl, hO, nv2, hP⟩ := hD
        have HP2 := Lib.hid hP
        have HO2 := Lib.hid (HO1.out.trans hO)
        have HW2 := Lib.hid (HW1.out.away HP1.out.row (by decide) (fun j e => HA.out j (.inr e)) hO)
        clear hO hP
        go_wp2_with (first | (go_at_call 37; refine (bit_any _ _).mono ?_; rintro e w' ⟨rfl, rfl⟩) | (at_builtin; refine wp_app3 rfl (.tmp 103) (.tmp 109) rfl w.heap.size A3 n3 c3 outs rfl HLE.out (HW2.out.only ((Only.refl Nil _).alloc _) (fun _ _ => id)) _ (0) (bitI false) (bitI false) rfl (Row.new _ _ _) HL1.out (by have h1 := HO2.out.size; simp; omega) ?_))
        intro A' n' c' w9 hn' hown hO
        have HP3 := Lib.hid ((HP2.out.keep ((Only.refl Nil _).alloc _)).away (HW2.out.only ((Only.refl Nil _).alloc _) (fun _ _ => id)) HA.out hO)
        have HO3 := Lib.hid ((HO2.out.alloc _).step hO (fun i hi e => by have := HW2.out.base i e; omega))
        have HWN := Lib.hid hown
        have HN3 := Lib.hid hn'
        clear hn' hown hO
        go_wp2
        exact ⟨⟨k + 1, A', n', c', by omega, by go_num, rfl, Lib.hid ⟨⟨_, by rw [HNX.out]; exact HP3.out⟩, by rw [HNX.out]; exact HWN.out, by rw [HNX.out, HN3.out]; dsimp only; rw [List.length_append]; rfl, HO3.out⟩⟩, by simp [intOf]; omega⟩
      by_cases h8 : ok = 8
      · subst h8
        clear h0 h1 h2 h3 h4 h5 h6 h7
        have HNX := Lib.hid (show r.opsI (l0.take (k + 1)) = (rk.fin (ox % 2 == 0), outs ++ [0, bitI false, bitI false]) by rw [ops_next HOK.out, HKK.out]; rfl)
        have HP1 := Lib.hid (HP.out.keep ((Only.refl Nil wr).alloc (.cells #[.int .i64 8, .int .i64 oc, .int .i64 on, .int .u32 ox, .int .u32 oy, .int .i64 uk, .int .u32 um, .int .u32 ux] 80)))
        have HO1 := Lib.hid (HO.out.alloc (.cells #[.int .i64 8, .int .i64 oc, .int .i64 on, .int .u32 ox, .int .u32 oy, .int .i64 uk, .int .u32 um, .int .u32 ux] 80))
        have HW1 := Lib.hid (HW.out.only ((Only.refl Nil wr).alloc (.cells #[.int .i64 8, .int .i64 oc, .int .i64 on, .int .u32 ox, .int .u32 oy, .int .i64 uk, .int .u32 um, .int .u32 ux] 80)) (fun _ _ => id))
        go_wp2_with fail
        clear f0 f1 f2 f3 f4 f5 f6 f7
        refine (end_run B p A cp nv rk _ _ HP1.out).mono ?_
        intro e w3 hD
        obtain ⟨rfl, hO, nv2, hP⟩ := hD
        have HP2 := Lib.hid hP
        have HO2 := Lib.hid (HO1.out.trans hO)
        have HW2 := Lib.hid (HW1.out.away HP1.out.row (by decide) (fun j e => HA.out j (.inr e)) hO)
        clear hO hP
        go_wp2_with (first | (go_at_call 37; refine (bit_any _ _).mono ?_; rintro e w' ⟨rfl, rfl⟩) | (at_builtin; refine wp_app3 rfl (.tmp 103) (.tmp 109) rfl w.heap.size A3 n3 c3 outs rfl HLE.out (HW2.out.only ((Only.refl Nil _).alloc _) (fun _ _ => id)) _ (0) (bitI false) (bitI false) rfl (Row.new _ _ _) HL1.out (by have h1 := HO2.out.size; simp; omega) ?_))
        intro A' n' c' w9 hn' hown hO
        have HP3 := Lib.hid ((HP2.out.keep ((Only.refl Nil _).alloc _)).away (HW2.out.only ((Only.refl Nil _).alloc _) (fun _ _ => id)) HA.out hO)
        have HO3 := Lib.hid ((HO2.out.alloc _).step hO (fun i hi e => by have := HW2.out.base i e; omega))
        have HWN := Lib.hid hown
        have HN3 := Lib.hid hn'
        clear hn' hown hO
        go_wp2
        exact ⟨⟨k + 1, A', n', c', by omega, by go_num, rfl, Lib.hid ⟨⟨_, by rw [HNX.out]; exact HP3.out⟩, by rw [HNX.out]; exact HWN.out, by rw [HNX.out, HN3.out]; dsimp only; rw [List.length_append]; rfl, HO3.out⟩⟩, by simp [intOf]; omega⟩
      by_cases h9 : ok = 9
      · subst h9
        clear h0 h1 h2 h3 h4 h5 h6 h7 h8
        have HNX := Lib.hid (show r.opsI (l0.take (k + 1)) = (rk.wake oc, outs ++ [0, bitI false, bitI false]) by rw [ops_next HOK.out, HKK.out]; rfl)
        have HP1 := Lib.hid (HP.out.keep ((Only.refl Nil wr).alloc (.cells #[.int .i64 9, .int .i64 oc, .int .i64 on, .int .u32 ox, .int .u32 oy, .int .i64 uk, .int .u32 um, .int .u32 ux] 80)))
        have HO1 := Lib.hid (HO.out.alloc (.cells #[.int .i64 9, .int .i64 oc, .int .i64 on, .int .u32 ox, .int .u32 oy, .int .i64 uk, .int .u32 um, .int .u32 ux] 80))
        have HW1 := Lib.hid (HW.out.only ((Only.refl Nil wr).alloc (.cells #[.int .i64 9, .int .i64 oc, .int .i64 on, .int .u32 ox, .int .u32 oy, .int .i64 uk, .int .u32 um, .int .u32 ux] 80)) (fun _ _ => id))
        go_wp2_with fail
        clear f0 f1 f2 f3 f4 f5 f6 f7
        refine (wake_run B p A cp nv rk oc _ HP1.out).mono ?_
        intro e w3 hD
        obtain ⟨rfl, hO, nv2, hP⟩ := hD
        have HP2 := Lib.hid hP
        have HO2 := Lib.hid (HO1.out.trans hO)
        have HW2 := Lib.hid (HW1.out.away HP1.out.row (by decide) (fun j e => HA.out j (.inr e)) hO)
        clear hO hP
        go_wp2_with (first | (go_at_call 37; refine (bit_any _ _).mono ?_; rintro e w' ⟨rfl, rfl⟩) | (at_builtin; refine wp_app3 rfl (.tmp 103) (.tmp 109) rfl w.heap.size A3 n3 c3 outs rfl HLE.out (HW2.out.only ((Only.refl Nil _).alloc _) (fun _ _ => id)) _ (0) (bitI false) (bitI false) rfl (Row.new _ _ _) HL1.out (by have h1 := HO2.out.size; simp; omega) ?_))
        intro A' n' c' w9 hn' hown hO
        have HP3 := Lib.hid ((HP2.out.keep ((Only.refl Nil _).alloc _)).away (HW2.out.only ((Only.refl Nil _).alloc _) (fun _ _ => id)) HA.out hO)
        have HO3 := Lib.hid ((HO2.out.alloc _).step hO (fun i hi e => by have := HW2.out.base i e; omega))
        have HWN := Lib.hid hown
        have HN3 := Lib.hid hn'
        clear hn' hown hO
        go_wp2
        exact ⟨⟨k + 1, A', n', c', by omega, by go_num, rfl, Lib.hid ⟨⟨_, by rw [HNX.out]; exact HP3.out⟩, by rw [HNX.out]; exact HWN.out, by rw [HNX.out, HN3.out]; dsimp only; rw [List.length_append]; rfl, HO3.out⟩⟩, by simp [intOf]; omega⟩
      have HNX := Lib.hid (show r.opsI (l0.take (k + 1)) = (rk, outs ++ [0, bitI false, bitI false]) by rw [ops_next HOK.out, HKK.out]; unfold opNext LS.opR OpR.out; dsimp only; rw [if_neg h0, if_neg h1, if_neg h2, if_neg h3, if_neg h4, if_neg h5, if_neg h6, if_neg h7, if_neg h8, if_neg h9])
      have b0 := beq_eq_false_iff_ne.2 h0
      have b1 := beq_eq_false_iff_ne.2 h1
      have b2 := beq_eq_false_iff_ne.2 h2
      have b3 := beq_eq_false_iff_ne.2 h3
      have b4 := beq_eq_false_iff_ne.2 h4
      have b5 := beq_eq_false_iff_ne.2 h5
      have b6 := beq_eq_false_iff_ne.2 h6
      have b7 := beq_eq_false_iff_ne.2 h7
      have b8 := beq_eq_false_iff_ne.2 h8
      have b9 := beq_eq_false_iff_ne.2 h9
      clear h0 h1 h2 h3 h4 h5 h6 h7 h8 h9
      have HP2 := Lib.hid (HP.out.keep ((Only.refl Nil wr).alloc (.cells #[.int .i64 ok, .int .i64 oc, .int .i64 on, .int .u32 ox, .int .u32 oy, .int .i64 uk, .int .u32 um, .int .u32 ux] 80)))
      have HO2 := Lib.hid (HO.out.alloc (.cells #[.int .i64 ok, .int .i64 oc, .int .i64 on, .int .u32 ox, .int .u32 oy, .int .i64 uk, .int .u32 um, .int .u32 ux] 80))
      have HW2 := Lib.hid (HW.out.only ((Only.refl Nil wr).alloc (.cells #[.int .i64 ok, .int .i64 oc, .int .i64 on, .int .u32 ox, .int .u32 oy, .int .i64 uk, .int .u32 um, .int .u32 ux] 80)) (fun _ _ => id))
      go_upto_region 28 with (fail)
      clear f0 f1 f2 f3 f4 f5 f6 f7 b0 b1 b2 b3 b4 b5 b6 b7 b8 b9
      generalize wr.alloc (.cells #[.int .i64 ok, .int .i64 oc, .int .i64 on, .int .u32 ox, .int .u32 oy, .int .i64 uk, .int .u32 um, .int .u32 ux] 80) = w3 at *
      go_wp2_with (first | (go_at_call 37; refine (bit_any _ _).mono ?_; rintro e w' ⟨rfl, rfl⟩) | (at_builtin; refine wp_app3 rfl (.tmp 103) (.tmp 109) rfl w.heap.size A3 n3 c3 outs rfl HLE.out (HW2.out.only ((Only.refl Nil _).alloc _) (fun _ _ => id)) _ (0) (bitI false) (bitI false) rfl (Row.new _ _ _) HL1.out (by have h1 := HO2.out.size; simp; omega) ?_))
      intro A' n' c' w9 hn' hown hO
      have HP3 := Lib.hid ((HP2.out.keep ((Only.refl Nil _).alloc _)).away (HW2.out.only ((Only.refl Nil _).alloc _) (fun _ _ => id)) HA.out hO)
      have HO3 := Lib.hid ((HO2.out.alloc _).step hO (fun i hi e => by have := HW2.out.base i e; omega))
      have HWN := Lib.hid hown
      have HN3 := Lib.hid hn'
      clear hn' hown hO
      go_wp2
      exact ⟨⟨k + 1, A', n', c', by omega, by go_num, rfl, Lib.hid ⟨⟨_, by rw [HNX.out]; exact HP3.out⟩, by rw [HNX.out]; exact HWN.out, by rw [HNX.out, HN3.out]; dsimp only; rw [List.length_append]; rfl, HO3.out⟩⟩, by simp [intOf]; omega⟩
    · obtain rfl : k = m := by omega
      have HE := Lib.hid (show l0.take k = l0 from List.take_of_length_le (by rw [HML.out]; exact Nat.le_refl _))
      clear hlt hk
      obtain ⟨⟨nv, hP⟩, hown, hlen, hO⟩ := HC.out
      rw [HE.out] at hP hown hlen
      subst hlen
      have HP := Lib.hid hP
      have HW := Lib.hid hown
      have HO := Lib.hid hO
      clear HC hP hown hO
      go_wp2
      go_ret
      exact ⟨A3, c3, rfl, HW.out, HO.out, nv, HP.out⟩
end Go.Proofs.Ytomgjamojeejbaa
/- The closure that a step of the law hands on. -/
set_option linter.unusedVariables false
set_option linter.unusedSimpArgs false
namespace Go.Proofs.Ytomgjamojeejbaa
open Go.RowKit

/-- What the closure needs. -/
structure StI (N Nr g11 g17 g18 : Nat) (SA : Option Addr) (sl sc i : Nat) (AO : Option Addr) (m co : Nat) (l0 : List OpV) (W : World) : Prop where
  hN : N ≤ W.heap.size
  hR : Nr ≤ W.heap.size
  r11 : Row W g11 30 #[.slice SA sl sc]
  r17 : Row W g17 3 #[.int .i64 i]
  r18 : Row W g18 22 #[.slice none 0 0]
  elem : ∃ b q, SA = some ⟨b, q, none⟩ ∧ W.cell? ⟨b, q + i, none⟩ = some (.slice AO m co)
  ops : OpsAt W N AO l0
/-- What it leaves. -/
def StY (Nr g18 : Nat) (outs : List Int) (W : World) : Prop := ∃ A3 c3, Row W g18 22 #[.slice A3 outs.length c3] ∧ Own W Nr A3 c3 outs

theorem steps_closure (B : Nat) (p A : Option Addr) (cp : Nat) (nv : Value) (r : LS) (N Nr g11 g17 g18 : Nat) (SA : Option Addr) (sl sc i : Nat) (AO : Option Addr) (m co : Nat) (l0 : List OpV) (w : World) (h : RunP w B p A cp nv r) (hI : StI N Nr g11 g17 g18 SA sl sc i AO m co l0 w)
    (hi : i < sl) (hl : l0.length = m) (hm : m ≤ 10) (hwf : ∀ o ∈ l0, o.Wf) (hNB : N ≤ B) (hNA : ∀ j, At A j → N ≤ j) (hx : Words r.xs) (hns : r.ns.length ≤ 900) :
    Calls Try.prog 9 #[.pointer (some ⟨B, 0, none⟩), .pointer (some ⟨g11, 0, none⟩), .pointer (some ⟨g17, 0, none⟩), .pointer (some ⟨g18, 0, none⟩)] w fun e w' => e = .returned (.tuple #[]) ∧ Only (fun j => TurnB B A j ∨ j = g18) w w' ∧ StY Nr g18 (r.opsI l0).2 w' ∧ ∃ nv', RunP w' B p A cp nv' (r.opsI l0).1 := by
  obtain ⟨hN, hR, r11, r17, r18, ⟨b, q, rfl, he⟩, hops⟩ := hI
  have HP := Lib.hid h
  have HR18 := Lib.hid r18
  have HC := Lib.hid (calls_run B p A cp nv r AO m co l0 N w h hl hm hops hwf hN hNB hNA hx hns)
  have HRR := Lib.hid hR
  have c11 : w.cell? ⟨g11, 0, none⟩ = some (.slice (some ⟨b, q, none⟩) sl sc) := r11.cell_ (i := 0) rfl
  have c17 : w.cell? ⟨g17, 0, none⟩ = some (.int .i64 i) := r17.cell_ (i := 0) rfl
  clear h hl hm hops hwf hN hNB hNA hx hns r11 r17 r18 hR
  generalize r.opsI l0 = pr at *
  go_enter Try.func9, Try.ntmps9
  go_wp2_with fail
  clear c11 c17 he
  refine HC.out.mono ?_
  rintro e w1 ⟨A3, c3, rfl, hown, hO, nv1, hP⟩
  have HP1 := Lib.hid hP
  have HO1 := Lib.hid hO
  have HW1 := Lib.hid (own_base hown.own HRR.out)
  have HW2 := Lib.hid hown
  have HRN := Lib.hid (HR18.out.only hO (fun e => by
    rcases e with e | e
    · exact row_ne HR18.out HP.out.row (by decide) e
    · exact memo_not HP.out.memo HR18.out (by decide) (by decide) (.inr e)))
  clear hown hO hP HC
  have c0 : w1.cell? ⟨g18, 0, none⟩ = some (.slice none 0 0) := HRN.out.cell_ (i := 0) rfl
  have f0 : w1.frozen? ⟨g18, 0, none⟩ = false := HRN.out.frozen 0
  have ho := (Only.refl (· = g18) w1).setCell (p := ⟨g18, 0, none⟩) (.inr rfl) (.slice A3 pr.2.length c3)
  have HP2 := Lib.hid (HP1.out.apart ho (row_ne HP1.out.row HRN.out (by decide)) (fun j hj e => by subst e; exact memo_not HP1.out.memo HRN.out (by decide) (by decide) hj) (fun i hi e => by subst e; exact ownN_not HP1.out.notes HRN.out (by decide) hi))
  have HY : Hid (StY Nr g18 pr.2 (w1.setCell ⟨g18, 0, none⟩ (.slice A3 pr.2.length c3))) := Lib.hid ⟨A3, c3, HRN.out.set 0 _, ⟨own_only HW1.out ho (fun i hi e => by
    subst e
    have hat : At A3 i := by
      cases A3 with
      | none => simp [Value.ownBlock] at hi
      | some a => simp only [Value.ownBlock, Option.some.injEq] at hi; exact ⟨a, rfl, hi⟩
    obtain ⟨cur, hc⟩ := own_tag HW2.out hat
    exact absurd (HRN.out.same hc).1 (by decide)), HW2.out.nil, fun j hj => Nat.le_trans HRR.out (HW2.out.base j hj)⟩⟩
  have HO2 := Lib.hid ((HO1.out.mono (T := fun j => TurnB B A j ∨ j = g18) (fun _ _ e => .inl e)).setCell (p := ⟨g18, 0, none⟩) (.inr (.inr rfl)) (.slice A3 pr.2.length c3))
  clear ho HP1 HO1 HW1 HW2 HRN
  generalize pr.2.length = n3 at *
  go_wp2
  go_returns
  exact ⟨rfl, HO2.out, HY.out, nv1, HP2.out⟩

theorem lined_steps (B : Nat) (p A : Option Addr) (cp : Nat) (r : LS) (N Nr g11 g17 g18 : Nat) (SA : Option Addr) (sl sc i : Nat) (AO : Option Addr) (m co : Nat) (l0 : List OpV)
    (hi : i < sl) (hl : l0.length = m) (hm : m ≤ 10) (hwf : ∀ o ∈ l0, o.Wf) (hNB : N ≤ B) (hNA : ∀ j, At A j → N ≤ j) (hx : Words r.xs) (hns : r.ns.length ≤ 900) :
    Lined B p A cp (.func (.func 9) #[] #[.pointer (some ⟨g11, 0, none⟩), .pointer (some ⟨g17, 0, none⟩), .pointer (some ⟨g18, 0, none⟩)]) r (r.opsI l0).1 (fun j => TurnB B A j ∨ j = g18) (StI N Nr g11 g17 g18 SA sl sc i AO m co l0) (StY Nr g18 (r.opsI l0).2) := by
  intro w nv hI h
  have hn := neq_fnL
  have HC := Lib.hid (steps_closure B p A cp nv r N Nr g11 g17 g18 SA sl sc i AO m co l0 w h hI hi hl hm hwf hNB hNA hx hns)
  clear h hI hi hl hm hwf hNB hNA hx hns
  generalize r.opsI l0 = pr at *
  go_enter_defers Try.func35, Try.ntmps35
  go_wp2_with fail
  refine HC.out.mono ?_
  rintro e w1 ⟨rfl, hO, hY, nv1, hP⟩
  have HP1 := Lib.hid hP
  have HO1 := Lib.hid hO
  have HY := Lib.hid hY
  clear hP hO hY HC
  go_wp2
  refine leaves_cons (f := 57) (args := #[]) (by simp) (by simp [go_sem]) ?_
  refine (rec_run _).mono ?_
  rintro e u' w'' ⟨rfl, rfl, rfl⟩
  exact ⟨_, by simp [results, Try.results35, go_sem], rfl, HO1.out, HY.out, nv1, HP1.out⟩
end Go.Proofs.Ytomgjamojeejbaa
/- A run's Note and Waking, the answer's. -/
set_option linter.unusedVariables false
set_option linter.unusedSimpArgs false
namespace Go.Proofs.Ytomgjamojeejbaa
open Go.RowKit

/-- append of a list to an empty list that was just made. -/
theorem run_append_copy (ty : TypeId) (g1 b : Nat) (v : Value) (zs : List Nt) (w : World) (hown : OwnN 0 w v zs) (hrow : Row w g1 70 #[]) (hb : b ≤ g1) (h1 : zs.length ≤ 1000) :
    ∃ A' c' w', (Builtin.append_ #[41, 41] ty #[.slice (some ⟨g1, 0, none⟩) 0 0, v]).run Try.prog w = .ok (.slice A' zs.length c') w' ∧ OwnN b w' (.slice A' zs.length c') zs ∧ Only Nil w w' := by
  obtain ⟨i0, hi, hz0, hz1, hz2⟩ := info_parts infoN
  have hlt := hrow.lt
  have hown1 : w.ownsRow b 70 4 (.slice (some ⟨g1, 0, none⟩) 0 0) 0 [] := ⟨rfl, .inr ⟨g1, 0, #[], rfl, hb, hrow, Nat.le_refl _, by decide, rfl, rfl⟩⟩
  rcases hown.2 with ⟨rfl, hn⟩ | ⟨q, cap, cur, rfl, _, hq, _⟩
  · obtain rfl := List.eq_nil_of_length_eq_zero hn
    have hr := run_append_owned_none (P := Try.prog) (w := w) b 41 ty 70 i0 4 Try.underlying41 hi _ 0 [] hown1
    exact ⟨_, _, w, hr, hown1, Only.refl _ _⟩
  · cases zs with
    | nil =>
      have hr := run_append_room (P := Try.prog) w 41 ty 70 i0 Try.underlying41 hi g1 0 0 #[] hrow ⟨q, 0, none⟩ 0 cap [] (by simp) (fun j u h => by simp at h) (fun u h => by simp at h) (by decide) (by simp)
      have ho : Only Nil w (w.setRow g1 #[]) := ⟨rfl, rfl, rfl, by simp, fun k hk _ => by
        by_cases e : k = g1
        · subst e
          rw [setRow_heap w k #[] _ 70 _ hrow]
          exact hrow.symm
        · exact setRow_other w g1 k _ e⟩
      refine ⟨some ⟨g1, 0, none⟩, 0, _, hr, own_only hown1 (S := Nil) ?_ (fun _ _ => id), ?_⟩
      · simpa using ho
      · simpa using ho
    | cons z zr =>
      have hl0 : 0 < (z :: zr).length := by simp
      generalize z :: zr = zs at *
      have hnews : ∀ j u, (flat zs)[j]? = some u → w.cell? ((⟨q, 0, none⟩ : Addr).add j) = some u := World.ownsRow.cells hown (g := q) rfl
      have hr := run_append_grow (P := Try.prog) w 41 ty 70 i0 _ Try.underlying41 hi hz0 ⟨g1, 0, none⟩ 0 0 [] (by simp) (fun j u h => by simp at h) ⟨q, 0, none⟩ zs.length cap (flat zs) (by rw [hz1]; exact flat_len zs) hnews (by omega) (by omega) (growslice_fits (by omega) (by rw [hz2]; omega))
      simp only [Nat.zero_add] at hr
      have hge := grownCap_ge w zs.length 0 70
      have hcm := grownCap_le_maxLen w zs.length 0 70 (by unfold maxLen; omega)
      refine ⟨_, _, _, hr, ⟨flat_len zs, .inr ⟨w.heap.size, _, _, rfl, by omega, heap_alloc_new w.drew _, hge, hcm, ?_, ?_⟩⟩, (Only.refl Nil w).drew.alloc _⟩
      · simp only [Array.size_append, List.size_toArray, size_zeroCells, flat_len, List.length_nil]
        show 0 + zs.length * 4 + _ * 4 = _
        omega
      · simp only [Array.toList_append, List.nil_append]
        rw [← flat_len]
        exact List.take_left

theorem wp_append_copy {o : Oper} {a : Act} {K : Act → World → Prop} {Q : Exit → Act → World → Prop} (s x : Operand) (ho : o.op = .call { callee := .builtin .append, args := #[s, x], argTypes := #[41, 41] })
    (g1 b : Nat) (v : Value) (zs : List Nt) (w : World) (hs : a.eval s = .slice (some ⟨g1, 0, none⟩) 0 0) (hx : a.eval x = v) (hown : OwnN 0 w v zs) (hrow : Row w g1 70 #[]) (hb : b ≤ g1) (h1 : zs.length ≤ 1000)
    (h : ∀ A' n' c' w', OwnN b w' (.slice A' n' c') zs → Only Nil w w' → K (a.put o.dst (.slice A' n' c')) w') : o.wp Try.prog a w K Q := by
  obtain ⟨A', c', w', hr, h2, h3⟩ := run_append_copy o.type g1 b v zs w hown hrow hb h1
  unfold Oper.wp execOp
  simp only [ho, resolve, invoke, builtin, Sem.run_bind, Sem.run_pure, Result.andThen_ok, List.map_toArray, List.map_cons, List.map_nil, hs, hx, hr]
  exact h _ _ _ w' h2 h3
theorem wp_append_note {o : Oper} {a : Act} {K : Act → World → Prop} {Q : Exit → Act → World → Prop} (s x : Operand) (ho : o.op = .call { callee := .builtin .append, args := #[s, x], argTypes := #[41, 41] })
    (b : Nat) (v : Value) (zs : List Nt) (w : World) (g : Nat) (n : Nt) (hs : a.eval s = v) (hx : a.eval x = .slice (some ⟨g, 0, none⟩) 1 1) (hown : OwnN b w v zs) (hrow : Row w g 70 #[.int .i64 n.t, .int .i64 n.w, .int .i64 n.o, .int .i64 n.a]) (hb : b ≤ w.heap.size) (h1 : zs.length ≤ 1000)
    (h : ∀ A' n' c' w', OwnN b w' (.slice A' n' c') (zs ++ [n]) → (∀ w0, Only Nil w0 w → w0.heap.size ≤ b → Only Nil w0 w') → K (a.put o.dst (.slice A' n' c')) w') : o.wp Try.prog a w K Q := by
  obtain ⟨i0, hi, hz0, hz1, hz2⟩ := info_parts infoN
  refine wp_append_own w s x 41 ho b 70 i0 (.agg #[.int .i64 0, .int .i64 0, .int .i64 0, .int .i64 0]) 4 32 Try.underlying41 hi hz0 hz1 hz2 rfl (by decide) v zs.length (flat zs) hs hown ⟨g, 0, none⟩ 1 1 (flat1 n) hx rfl (fun j u hj => ?_) (fun u hu => ?_) (by unfold maxLen; omega) (by omega) hb (fun v' w' hO hG _ => ?_)
  · rw [add_at, Nat.zero_add]
    exact hrow.cell_ (by rw [← hj]; simp [flat1])
  · unfold flat1 at hu
    simp only [List.mem_cons, List.not_mem_nil, or_false] at hu
    rcases hu with rfl | rfl | rfl | rfl <;> rfl
  · have hO' : OwnN b w' v' (zs ++ [n]) := by
      unfold OwnN
      rw [flat_app, List.length_append, show flat [n] = flat1 n from List.append_nil _]
      exact hO
    obtain ⟨A', c', rfl, _⟩ := own_form hO'
    exact h _ _ _ w' hO' (fun w0 h0 hb => h0.grown hG (fun k hk => .inl (by
      obtain ⟨hk1, _⟩ := World.ownsRow.lt hown k hk
      omega)))

set_option maxRecDepth 100000 in
set_option maxHeartbeats 1000000 in
theorem rnote_run (B base : Nat) (A : Option Addr) (l cp : Nat) (nv : Value) (r : LS) (what arg : Int) (w : World) (h : RunR w B base A l cp nv r) (hl : r.ns.length ≤ 1000) :
    Calls Try.prog 45 #[.pointer (some ⟨B, 0, none⟩), .int .i64 what, .int .i64 arg] w (DoneR B base A l cp w (.tuple #[]) (r.note what arg)) := by
  have m19 : w.cell? ⟨B, 19, none⟩ = some nv := h.row.cell_ (i := 19) rfl
  have m3 : w.cell? ⟨B, 3, none⟩ = some (.int .i64 r.task) := h.row.cell_ (i := 3) rfl
  have HP0 := Lib.hid h
  have HL := Lib.hid hl
  clear h hl
  go_enter Try.func45, Try.ntmps45
  refine wp_region_phase (n := 19) 15 (fun w => w.cell? ⟨B, 19, none⟩ = some nv ∧ w.cell? ⟨B, 3, none⟩ = some (.int .i64 r.task)) rfl (by kernel_rfl) ⟨m19, m3⟩ (fun hHeld => ?_)
  have HP := Lib.hid (HP0.out.keep (Only.refl Nil w).drew)
  have HO := Lib.hid ((Only.refl (TurnB B A) w).drew)
  clear m19 m3 HP0
  generalize w.drew = w2 at *
  have HN := Lib.hid (Only.refl Nil w2)
  obtain ⟨B0, HB0⟩ : ∃ B0, Hid (∀ W : World, W = w2 → W.heap.size = B0) := ⟨w2.heap.size, Lib.hid (fun W h => by rw [h])⟩
  refine pa_0 rfl rfl (.pointer (some ⟨B, 0, none⟩)) (by kernel_rfl) (by kernel_rfl) (by kernel_rfl) (by decide) (by kernel_rfl) (fun _ _ _ h => h) (by rfl) (fun w => ?_) (by first | (right; assumption) | (left; kernel_rfl)) ?_
  · go_simp
  (try simp only [Act.put, List.setIfInBounds_toArray, List.set_cons_zero, List.set_cons_succ])
  refine pa_2 rfl rfl (.pointer (some ⟨B, 0, none⟩)) (by kernel_rfl) (by kernel_rfl) (by kernel_rfl) (by decide) (by kernel_rfl) (fun _ _ _ h => h) (by rfl) (fun w => ?_) (by first | (right; assumption) | (left; kernel_rfl)) ?_
  · go_simp
  (try simp only [Act.put, List.setIfInBounds_toArray, List.set_cons_zero, List.set_cons_succ])
  refine pa_3 rfl rfl (.pointer (some ⟨B, 0, none⟩)) (by kernel_rfl) (by kernel_rfl) (by kernel_rfl) (by decide) (by kernel_rfl) (fun _ _ _ h => h) (by rfl) (fun w => ?_) (by first | (right; assumption) | (left; kernel_rfl)) ?_
  · go_simp
  (try simp only [Act.put, List.setIfInBounds_toArray, List.set_cons_zero, List.set_cons_succ])
  refine pa_4 rfl rfl (.pointer (some ⟨B, 19, none⟩)) (by kernel_rfl) (by kernel_rfl) (by kernel_rfl) (by decide) (by kernel_rfl) (fun _ _ _ h => h) (by rfl) (fun w => ?_) (by first | (right; assumption) | (left; kernel_rfl)) ?_
  · go_simp
  (try simp only [Act.put, List.setIfInBounds_toArray, List.set_cons_zero, List.set_cons_succ])
  refine pt_5 rfl rfl 9 (nv) (by kernel_rfl) (by kernel_rfl) (by kernel_rfl) (by kernel_rfl) (by kernel_rfl) (fun _ _ _ h => h) (by rfl) (fun w hSw => ?_) (by assumption) ?_
  · (try dsimp only at hSw)
    go_split_ands
    go_simp
  (try simp only [Act.put, List.setIfInBounds_toArray, List.set_cons_zero, List.set_cons_succ])
  refine pa_7 rfl rfl (.pointer (some ⟨B, 0, none⟩)) (by kernel_rfl) (by kernel_rfl) (by kernel_rfl) (by decide) (by kernel_rfl) (fun _ _ _ h => h) (by rfl) (fun w => ?_) (by first | (right; assumption) | (left; kernel_rfl)) ?_
  · go_simp
  (try simp only [Act.put, List.setIfInBounds_toArray, List.set_cons_zero, List.set_cons_succ])
  refine pa_8 rfl rfl (.pointer (some ⟨B, 0, none⟩)) (by kernel_rfl) (by kernel_rfl) (by kernel_rfl) (by decide) (by kernel_rfl) (fun _ _ _ h => h) (by rfl) (fun w => ?_) (by first | (right; assumption) | (left; kernel_rfl)) ?_
  · go_simp
  (try simp only [Act.put, List.setIfInBounds_toArray, List.set_cons_zero, List.set_cons_succ])
  refine pa_9 rfl rfl (.pointer (some ⟨B, 3, none⟩)) (by kernel_rfl) (by kernel_rfl) (by kernel_rfl) (by decide) (by kernel_rfl) (fun _ _ _ h => h) (by rfl) (fun w => ?_) (by first | (right; assumption) | (left; kernel_rfl)) ?_
  · go_simp
  (try simp only [Act.put, List.setIfInBounds_toArray, List.set_cons_zero, List.set_cons_succ])
  refine pt_10 rfl rfl 9 (.int .i64 r.task) (by kernel_rfl) (by kernel_rfl) (by kernel_rfl) (by kernel_rfl) (by kernel_rfl) (fun _ _ _ h => h) (by rfl) (fun w hSw => ?_) (by assumption) ?_
  · (try dsimp only at hSw)
    go_split_ands
    go_simp
  (try simp only [Act.put, List.setIfInBounds_toArray, List.set_cons_zero, List.set_cons_succ])
  refine pa_11 rfl rfl (.int .i64 what) (by kernel_rfl) (by kernel_rfl) (by kernel_rfl) (by decide) (by kernel_rfl) (fun _ _ _ h => h) (by rfl) (fun w => ?_) (by first | (right; assumption) | (left; kernel_rfl)) ?_
  · go_simp
  (try simp only [Act.put, List.setIfInBounds_toArray, List.set_cons_zero, List.set_cons_succ])
  refine pa_12 rfl rfl (.int .i64 arg) (by kernel_rfl) (by kernel_rfl) (by kernel_rfl) (by decide) (by kernel_rfl) (fun _ _ _ h => h) (by rfl) (fun w => ?_) (by first | (right; assumption) | (left; kernel_rfl)) ?_
  · go_simp
  (try simp only [Act.put, List.setIfInBounds_toArray, List.set_cons_zero, List.set_cons_succ])
  refine pa_13 rfl rfl (.agg #[.int .i64 r.task, .int .i64 what, .int .i64 0, .int .i64 arg]) (by kernel_rfl) (by kernel_rfl) (by kernel_rfl) (by decide) (by kernel_rfl) (fun _ _ _ h => h) (by rfl) (fun w => ?_) (by first | (right; assumption) | (left; kernel_rfl)) ?_
  · go_simp
  (try simp only [Act.put, List.setIfInBounds_toArray, List.set_cons_zero, List.set_cons_succ])
  refine pd_1_14 rfl rfl (by kernel_rfl) (by rfl) (fun K hK => ?_) (by rfl) (fun K hK => ?_)
  · go_simp
    have HN2 := Lib.hid (HN.out.alloc (.cells #[] 70))
    have H1 := Lib.hid (Row.new w2 70 #[])
    have HG1 := Lib.hid (show B0 ≤ w2.heap.size by rw [← HB0.out w2 rfl]; exact HN.out.size)
    have hHeld2 : (w2.alloc (.cells #[] 70)).cell? ⟨B, 19, none⟩ = some nv ∧ (w2.alloc (.cells #[] 70)).cell? ⟨B, 3, none⟩ = some (.int .i64 r.task) := ⟨(HP.out.keep HN2.out).row.cell_ (i := 19) rfl, (HP.out.keep HN2.out).row.cell_ (i := 3) rfl⟩
    refine hK.out _ _ (.inr hHeld2) ?_
    clear hK K hHeld HN
    generalize w2.alloc (.cells #[] 70) = w3 at *
    generalize w2.heap.size = g1 at *
    have HN := HN2
    have hHeld := hHeld2
    clear HN2 hHeld2
    (try simp only [Act.put, List.setIfInBounds_toArray, List.set_cons_zero, List.set_cons_succ])
    refine pd_6_14 rfl rfl (by kernel_rfl) (by rfl) (fun K hK => ?_) (by rfl) (fun K hK => ?_)
    · skip
      refine wp_append_copy (.tmp 7) (.tmp 11) rfl g1 B0 nv r.ns _ (by rfl) (by rfl) (HP.out.keep HN.out).notes H1.out HG1.out HL.out (fun A6 n6 c6 w4 h6 hO => ?_)
      have HN2 := Lib.hid (HN.out.trans hO)
      have H6 := Lib.hid h6
      have hHeld2 : w4.cell? ⟨B, 19, none⟩ = some nv ∧ w4.cell? ⟨B, 3, none⟩ = some (.int .i64 r.task) := ⟨(HP.out.keep HN2.out).row.cell_ (i := 19) rfl, (HP.out.keep HN2.out).row.cell_ (i := 3) rfl⟩
      refine hK.out _ _ (.inr hHeld2) ?_
      clear hK K hHeld HN h6 H1
      have HN := HN2
      have hHeld := hHeld2
      clear HN2 hHeld2
      (try simp only [Act.put, List.setIfInBounds_toArray, List.set_cons_zero, List.set_cons_succ])
      refine pc_14 rfl rfl (by kernel_rfl) (by rfl) (fun K hK => ?_)
      go_simp
      have HN2 := Lib.hid (HN.out.alloc (.cells #[.int .i64 r.task, .int .i64 what, .int .i64 0, .int .i64 arg] 70))
      have H14 := Lib.hid (Row.new w4 70 #[.int .i64 r.task, .int .i64 what, .int .i64 0, .int .i64 arg])
      have hHeld2 : (w4.alloc (.cells #[.int .i64 r.task, .int .i64 what, .int .i64 0, .int .i64 arg] 70)).cell? ⟨B, 19, none⟩ = some nv ∧ (w4.alloc (.cells #[.int .i64 r.task, .int .i64 what, .int .i64 0, .int .i64 arg] 70)).cell? ⟨B, 3, none⟩ = some (.int .i64 r.task) := ⟨(HP.out.keep HN2.out).row.cell_ (i := 19) rfl, (HP.out.keep HN2.out).row.cell_ (i := 3) rfl⟩
      refine hK.out _ _ (.inr hHeld2) ?_
      clear hK K hHeld HN
      have H62 := Lib.hid (H6.out.only ((Only.refl Nil w4).alloc (.cells #[.int .i64 r.task, .int .i64 what, .int .i64 0, .int .i64 arg] 70)))
      clear H6
      generalize w4.alloc (.cells #[.int .i64 r.task, .int .i64 what, .int .i64 0, .int .i64 arg] 70) = w5 at *
      generalize w4.heap.size = g14 at *
      have HN := HN2
      have hHeld := hHeld2
      clear HN2 hHeld2
      (try simp only [Act.put, List.setIfInBounds_toArray, List.set_cons_zero, List.set_cons_succ])
      have H6 := H62
      clear H62
      refine pc_15 rfl rfl (by kernel_rfl) (by rfl) (fun K hK => ?_)
      refine wp_append_note (.tmp 12) (.tmp 20) rfl B0 _ r.ns _ g14 ⟨r.task, what, 0, arg⟩ (by rfl) (by rfl) H6.out H14.out (by rw [← HB0.out w2 rfl]; exact HN.out.size) HL.out (fun A9 n9 c9 w6 hown hon => ?_)
      have HN2 := Lib.hid (hon w2 HN.out (Nat.le_of_eq (HB0.out w2 rfl)))
      have HP2 := Lib.hid (HP.out.keep HN2.out)
      have HO2 := Lib.hid (HO.out.trans (HN2.out.mono (T := TurnB B A) (fun _ _ h => h.elim)))
      have HV : Hid (OwnN 0 w6 _ _) := Lib.hid (own_base hown (Nat.zero_le _))
      refine hK.out _ _ (.inl (by kernel_rfl)) ?_
      clear hK K hHeld hown hon HN HP HO HN2
      (try simp only [Act.put, List.setIfInBounds_toArray, List.set_cons_zero, List.set_cons_succ])
      refine pa_16 rfl rfl (.pointer (some ⟨B, 0, none⟩)) (by kernel_rfl) (by kernel_rfl) (by kernel_rfl) (by decide) (by kernel_rfl) (fun _ _ _ h => h) (by rfl) (fun w => ?_) (by first | (right; assumption) | (left; kernel_rfl)) ?_
      · go_simp
      (try simp only [Act.put, List.setIfInBounds_toArray, List.set_cons_zero, List.set_cons_succ])
      refine pa_17 rfl rfl (.pointer (some ⟨B, 19, none⟩)) (by kernel_rfl) (by kernel_rfl) (by kernel_rfl) (by decide) (by kernel_rfl) (fun _ _ _ h => h) (by rfl) (fun w => ?_) (by first | (right; assumption) | (left; kernel_rfl)) ?_
      · go_simp
      (try simp only [Act.put, List.setIfInBounds_toArray, List.set_cons_zero, List.set_cons_succ])
      have c19 : w6.cell? ⟨B, 19, none⟩ = some nv := HP2.out.row.cell_ (i := 19) rfl
      have f19 : w6.frozen? ⟨B, 19, none⟩ = false := HP2.out.row.frozen 19
      refine pc_18 rfl rfl (by kernel_rfl) (by rfl) (fun K hK => ?_)
      go_simp
      refine hK.out _ _ (.inl (by kernel_rfl)) ?_
      clear hK K c19 f19
      (try simp only [Act.put, List.setIfInBounds_toArray, List.set_cons_zero, List.set_cons_succ])
      refine wpAnyP_done (by kernel_rfl) ?_ _
      go_wp2
      go_returns
      exact ⟨rfl, HO2.out.setCell (p := ⟨B, 19, none⟩) (.inr (.inl rfl)) _, _, HP2.out.setNotes HV.out⟩
    · go_simp
      have HN2 := Lib.hid (HN.out.alloc (.cells #[.int .i64 r.task, .int .i64 what, .int .i64 0, .int .i64 arg] 70))
      have H14 := Lib.hid (Row.new w3 70 #[.int .i64 r.task, .int .i64 what, .int .i64 0, .int .i64 arg])
      have hHeld2 : (w3.alloc (.cells #[.int .i64 r.task, .int .i64 what, .int .i64 0, .int .i64 arg] 70)).cell? ⟨B, 19, none⟩ = some nv ∧ (w3.alloc (.cells #[.int .i64 r.task, .int .i64 what, .int .i64 0, .int .i64 arg] 70)).cell? ⟨B, 3, none⟩ = some (.int .i64 r.task) := ⟨(HP.out.keep HN2.out).row.cell_ (i := 19) rfl, (HP.out.keep HN2.out).row.cell_ (i := 3) rfl⟩
      refine hK.out _ _ (.inr hHeld2) ?_
      clear hK K hHeld HN
      have H12 := Lib.hid (H1.out.alloc (.cells #[.int .i64 r.task, .int .i64 what, .int .i64 0, .int .i64 arg] 70))
      clear H1
      generalize w3.alloc (.cells #[.int .i64 r.task, .int .i64 what, .int .i64 0, .int .i64 arg] 70) = w4 at *
      generalize w3.heap.size = g14 at *
      have HN := HN2
      have hHeld := hHeld2
      clear HN2 hHeld2
      (try simp only [Act.put, List.setIfInBounds_toArray, List.set_cons_zero, List.set_cons_succ])
      have H1 := H12
      clear H12
      refine pc_6 rfl rfl (by kernel_rfl) (by rfl) (fun K hK => ?_)
      refine wp_append_copy (.tmp 7) (.tmp 11) rfl g1 B0 nv r.ns _ (by rfl) (by rfl) (HP.out.keep HN.out).notes H1.out HG1.out HL.out (fun A6 n6 c6 w5 h6 hO => ?_)
      have HN2 := Lib.hid (HN.out.trans hO)
      have H6 := Lib.hid h6
      have hHeld2 : w5.cell? ⟨B, 19, none⟩ = some nv ∧ w5.cell? ⟨B, 3, none⟩ = some (.int .i64 r.task) := ⟨(HP.out.keep HN2.out).row.cell_ (i := 19) rfl, (HP.out.keep HN2.out).row.cell_ (i := 3) rfl⟩
      refine hK.out _ _ (.inr hHeld2) ?_
      clear hK K hHeld HN h6 H1
      have H142 := Lib.hid (H14.out.only hO id)
      clear H14
      have H14 := H142
      clear H142
      have HN := HN2
      have hHeld := hHeld2
      clear HN2 hHeld2
      (try simp only [Act.put, List.setIfInBounds_toArray, List.set_cons_zero, List.set_cons_succ])
      refine pc_15 rfl rfl (by kernel_rfl) (by rfl) (fun K hK => ?_)
      refine wp_append_note (.tmp 12) (.tmp 20) rfl B0 _ r.ns _ g14 ⟨r.task, what, 0, arg⟩ (by rfl) (by rfl) H6.out H14.out (by rw [← HB0.out w2 rfl]; exact HN.out.size) HL.out (fun A9 n9 c9 w6 hown hon => ?_)
      have HN2 := Lib.hid (hon w2 HN.out (Nat.le_of_eq (HB0.out w2 rfl)))
      have HP2 := Lib.hid (HP.out.keep HN2.out)
      have HO2 := Lib.hid (HO.out.trans (HN2.out.mono (T := TurnB B A) (fun _ _ h => h.elim)))
      have HV : Hid (OwnN 0 w6 _ _) := Lib.hid (own_base hown (Nat.zero_le _))
      refine hK.out _ _ (.inl (by kernel_rfl)) ?_
      clear hK K hHeld hown hon HN HP HO HN2
      (try simp only [Act.put, List.setIfInBounds_toArray, List.set_cons_zero, List.set_cons_succ])
      refine pa_16 rfl rfl (.pointer (some ⟨B, 0, none⟩)) (by kernel_rfl) (by kernel_rfl) (by kernel_rfl) (by decide) (by kernel_rfl) (fun _ _ _ h => h) (by rfl) (fun w => ?_) (by first | (right; assumption) | (left; kernel_rfl)) ?_
      · go_simp
      (try simp only [Act.put, List.setIfInBounds_toArray, List.set_cons_zero, List.set_cons_succ])
      refine pa_17 rfl rfl (.pointer (some ⟨B, 19, none⟩)) (by kernel_rfl) (by kernel_rfl) (by kernel_rfl) (by decide) (by kernel_rfl) (fun _ _ _ h => h) (by rfl) (fun w => ?_) (by first | (right; assumption) | (left; kernel_rfl)) ?_
      · go_simp
      (try simp only [Act.put, List.setIfInBounds_toArray, List.set_cons_zero, List.set_cons_succ])
      have c19 : w6.cell? ⟨B, 19, none⟩ = some nv := HP2.out.row.cell_ (i := 19) rfl
      have f19 : w6.frozen? ⟨B, 19, none⟩ = false := HP2.out.row.frozen 19
      refine pc_18 rfl rfl (by kernel_rfl) (by rfl) (fun K hK => ?_)
      go_simp
      refine hK.out _ _ (.inl (by kernel_rfl)) ?_
      clear hK K c19 f19
      (try simp only [Act.put, List.setIfInBounds_toArray, List.set_cons_zero, List.set_cons_succ])
      refine wpAnyP_done (by kernel_rfl) ?_ _
      go_wp2
      go_returns
      exact ⟨rfl, HO2.out.setCell (p := ⟨B, 19, none⟩) (.inr (.inl rfl)) _, _, HP2.out.setNotes HV.out⟩
  · go_simp
    have HN2 := Lib.hid (HN.out.alloc (.cells #[.int .i64 r.task, .int .i64 what, .int .i64 0, .int .i64 arg] 70))
    have H14 := Lib.hid (Row.new w2 70 #[.int .i64 r.task, .int .i64 what, .int .i64 0, .int .i64 arg])
    have hHeld2 : (w2.alloc (.cells #[.int .i64 r.task, .int .i64 what, .int .i64 0, .int .i64 arg] 70)).cell? ⟨B, 19, none⟩ = some nv ∧ (w2.alloc (.cells #[.int .i64 r.task, .int .i64 what, .int .i64 0, .int .i64 arg] 70)).cell? ⟨B, 3, none⟩ = some (.int .i64 r.task) := ⟨(HP.out.keep HN2.out).row.cell_ (i := 19) rfl, (HP.out.keep HN2.out).row.cell_ (i := 3) rfl⟩
    refine hK.out _ _ (.inr hHeld2) ?_
    clear hK K hHeld HN
    generalize w2.alloc (.cells #[.int .i64 r.task, .int .i64 what, .int .i64 0, .int .i64 arg] 70) = w3 at *
    generalize w2.heap.size = g14 at *
    have HN := HN2
    have hHeld := hHeld2
    clear HN2 hHeld2
    (try simp only [Act.put, List.setIfInBounds_toArray, List.set_cons_zero, List.set_cons_succ])
    refine pc_1 rfl rfl (by kernel_rfl) (by rfl) (fun K hK => ?_)
    go_simp
    have HN2 := Lib.hid (HN.out.alloc (.cells #[] 70))
    have H1 := Lib.hid (Row.new w3 70 #[])
    have HG1 := Lib.hid (show B0 ≤ w3.heap.size by rw [← HB0.out w2 rfl]; exact HN.out.size)
    have hHeld2 : (w3.alloc (.cells #[] 70)).cell? ⟨B, 19, none⟩ = some nv ∧ (w3.alloc (.cells #[] 70)).cell? ⟨B, 3, none⟩ = some (.int .i64 r.task) := ⟨(HP.out.keep HN2.out).row.cell_ (i := 19) rfl, (HP.out.keep HN2.out).row.cell_ (i := 3) rfl⟩
    refine hK.out _ _ (.inr hHeld2) ?_
    clear hK K hHeld HN
    have H142 := Lib.hid (H14.out.alloc (.cells #[] 70))
    clear H14
    generalize w3.alloc (.cells #[] 70) = w4 at *
    generalize w3.heap.size = g1 at *
    have HN := HN2
    have hHeld := hHeld2
    clear HN2 hHeld2
    (try simp only [Act.put, List.setIfInBounds_toArray, List.set_cons_zero, List.set_cons_succ])
    have H14 := H142
    clear H142
    refine pc_6 rfl rfl (by kernel_rfl) (by rfl) (fun K hK => ?_)
    refine wp_append_copy (.tmp 7) (.tmp 11) rfl g1 B0 nv r.ns _ (by rfl) (by rfl) (HP.out.keep HN.out).notes H1.out HG1.out HL.out (fun A6 n6 c6 w5 h6 hO => ?_)
    have HN2 := Lib.hid (HN.out.trans hO)
    have H6 := Lib.hid h6
    have hHeld2 : w5.cell? ⟨B, 19, none⟩ = some nv ∧ w5.cell? ⟨B, 3, none⟩ = some (.int .i64 r.task) := ⟨(HP.out.keep HN2.out).row.cell_ (i := 19) rfl, (HP.out.keep HN2.out).row.cell_ (i := 3) rfl⟩
    refine hK.out _ _ (.inr hHeld2) ?_
    clear hK K hHeld HN h6 H1
    have H142 := Lib.hid (H14.out.only hO id)
    clear H14
    have H14 := H142
    clear H142
    have HN := HN2
    have hHeld := hHeld2
    clear HN2 hHeld2
    (try simp only [Act.put, List.setIfInBounds_toArray, List.set_cons_zero, List.set_cons_succ])
    refine pc_15 rfl rfl (by kernel_rfl) (by rfl) (fun K hK => ?_)
    refine wp_append_note (.tmp 12) (.tmp 20) rfl B0 _ r.ns _ g14 ⟨r.task, what, 0, arg⟩ (by rfl) (by rfl) H6.out H14.out (by rw [← HB0.out w2 rfl]; exact HN.out.size) HL.out (fun A9 n9 c9 w6 hown hon => ?_)
    have HN2 := Lib.hid (hon w2 HN.out (Nat.le_of_eq (HB0.out w2 rfl)))
    have HP2 := Lib.hid (HP.out.keep HN2.out)
    have HO2 := Lib.hid (HO.out.trans (HN2.out.mono (T := TurnB B A) (fun _ _ h => h.elim)))
    have HV : Hid (OwnN 0 w6 _ _) := Lib.hid (own_base hown (Nat.zero_le _))
    refine hK.out _ _ (.inl (by kernel_rfl)) ?_
    clear hK K hHeld hown hon HN HP HO HN2
    (try simp only [Act.put, List.setIfInBounds_toArray, List.set_cons_zero, List.set_cons_succ])
    refine pa_16 rfl rfl (.pointer (some ⟨B, 0, none⟩)) (by kernel_rfl) (by kernel_rfl) (by kernel_rfl) (by decide) (by kernel_rfl) (fun _ _ _ h => h) (by rfl) (fun w => ?_) (by first | (right; assumption) | (left; kernel_rfl)) ?_
    · go_simp
    (try simp only [Act.put, List.setIfInBounds_toArray, List.set_cons_zero, List.set_cons_succ])
    refine pa_17 rfl rfl (.pointer (some ⟨B, 19, none⟩)) (by kernel_rfl) (by kernel_rfl) (by kernel_rfl) (by decide) (by kernel_rfl) (fun _ _ _ h => h) (by rfl) (fun w => ?_) (by first | (right; assumption) | (left; kernel_rfl)) ?_
    · go_simp
    (try simp only [Act.put, List.setIfInBounds_toArray, List.set_cons_zero, List.set_cons_succ])
    have c19 : w6.cell? ⟨B, 19, none⟩ = some nv := HP2.out.row.cell_ (i := 19) rfl
    have f19 : w6.frozen? ⟨B, 19, none⟩ = false := HP2.out.row.frozen 19
    refine pc_18 rfl rfl (by kernel_rfl) (by rfl) (fun K hK => ?_)
    go_simp
    refine hK.out _ _ (.inl (by kernel_rfl)) ?_
    clear hK K c19 f19
    (try simp only [Act.put, List.setIfInBounds_toArray, List.set_cons_zero, List.set_cons_succ])
    refine wpAnyP_done (by kernel_rfl) ?_ _
    go_wp2
    go_returns
    exact ⟨rfl, HO2.out.setCell (p := ⟨B, 19, none⟩) (.inr (.inl rfl)) _, _, HP2.out.setNotes HV.out⟩
end Go.Proofs.Ytomgjamojeejbaa
/- The answer's There of a permit. -/
set_option linter.unusedVariables false
set_option linter.unusedSimpArgs false
namespace Go.Proofs.Ytomgjamojeejbaa
open Go.RowKit

theorem rhas_any (A : Option Addr) (l cp B : Nat) (xs : List Int) (n i : Int) (hn : xs.length = l) (w : World) (hx : Ints w B .u32 A xs) :
    Calls Try.prog 48 #[.slice A l cp, .int .i64 n, .int .i64 i] w fun e w' => e = .returned (.bool (hasP xs n i)) ∧ w = w' := by
  have HN := Lib.hid hn
  cases ht : there xs (pc n i)
  · have hp : hasP xs n i = false := by simp [hasP, wordAt, ht]
    rw [hp]
    have HT := Lib.hid ht
    clear ht hp hn hx
    go_enter Try.func48, Try.ntmps48
    go_wp2_with fail
    refine (rcell_any A l cp xs n i HN.out _).mono ?_
    rw [HT.out]
    rintro e w1 ⟨rfl, rfl⟩
    simp only [Bool.false_eq_true, if_false]
    go_wp2
    go_ret
    exact ⟨rfl, rfl⟩
  · have ht2 := ht
    simp only [there, decide_eq_true_eq] at ht2
    obtain ⟨q, hq⟩ := Int.eq_ofNat_of_zero_le ht2.1
    have hql : q < l := by omega
    obtain ⟨b, o, rfl, hb, hc⟩ := hx (by omega)
    have c0 : w.cell? ⟨b, o + q, none⟩ = some (.int .u32 (wordAt xs (pc n i))) := by
      rw [hc q (by omega), show wordAt xs (pc n i) = xs.getD q 0 by unfold wordAt; rw [ht, hq]; rfl]
    have hp : hasP xs n i = (wordAt xs (pc n i) != 0) := rfl
    have HP := Lib.hid hp
    have HT := Lib.hid ht
    have HQ := Lib.hid hq
    generalize hw : wordAt xs (pc n i) = v at *
    rw [HP.out]
    clear ht hp hn hx hc hw ht2 hq
    go_enter Try.func48, Try.ntmps48
    go_wp2_with fail
    refine (rcell_any (some ⟨b, o, none⟩) l cp xs n i HN.out _).mono ?_
    rw [HT.out, HQ.out]
    rintro e w1 ⟨rfl, rfl⟩
    simp only [if_true]
    go_wp2
    go_ret
    exact ⟨rfl, rfl⟩
end Go.Proofs.Ytomgjamojeejbaa
/- The answer's Take. -/
set_option linter.unusedVariables false
set_option linter.unusedSimpArgs false
namespace Go.Proofs.Ytomgjamojeejbaa
open Go.RowKit

theorem rtake_any (base : Nat) (A : Option Addr) (l cp : Nat) (xs : List Int) (n i : Int) (w : World) (h : Own w base A cp xs) (hn : xs.length = l) :
    Calls Try.prog 76 #[.slice A l cp, .int .i64 n, .int .i64 i] w fun e w' =>
      e = .returned (.tuple #[takeVal xs n i, .bool (hasP xs n i)]) ∧ Only (At A) w w' ∧ Own w' base A cp (st xs (pc n i) 0) := by
  have HN := Lib.hid hn
  have HW := Lib.hid h
  cases hp : hasP xs n i
  · have hv : takeVal xs n i = .agg #[.int .i64 0, .int .i64 0, .int .u32 0, .int .u32 0, .int .u32 0] := by simp [takeVal, hp, accOf]
    have hs : st xs (pc n i) 0 = xs := st_none hp
    rw [hv, hs]
    have HT := Lib.hid hp
    clear hp h hn hv hs
    go_enter Try.func76, Try.ntmps76
    go_wp2_with fail
    refine (rhas_any A l cp _ xs n i HN.out _ (((HW.out.only ((Only.refl Nil w).alloc _) (fun _ _ => id)).held_n HN.out).2.2)).mono ?_
    rw [HT.out]
    rintro e w1 ⟨rfl, rfl⟩
    go_wp2
    refine post_row_tmp (P := Try.prog) Try.results76 (t := 40) (g := w.heap.size) (cs := #[.int .i64 0, .int .i64 0, .int .u32 0, .int .u32 0, .int .u32 0]) rfl (Row.new _ _ _) Try.underlying40 rfl (by kernel_rfl) rfl ⟨rfl, (Only.refl _ w).alloc _, ?_⟩
    exact HW.out.only ((Only.refl Nil w).alloc _) (fun _ _ => id)
  · have ht := hasP_there hp
    have ht2 := ht
    simp only [there, decide_eq_true_eq] at ht2
    obtain ⟨q, hq⟩ := Int.eq_ofNat_of_zero_le ht2.1
    have hql : q < l := by omega
    obtain ⟨g, cur, rfl, hb, hr, hcell, hset⟩ := h.row (i := q) (by omega)
    have hwd : wordAt xs (pc n i) = xs.getD q 0 := by unfold wordAt; rw [ht, hq]; rfl
    have hv : takeVal xs n i = .agg #[.int .i64 4, .int .i64 q, .int .u32 0, .int .u32 0, .int .u32 (xs.getD q 0)] := by
      unfold takeVal
      rw [hp, hwd, hq]
      rfl
    have hs : st xs (pc n i) 0 = xs.set q 0 := by unfold st; rw [ht, hq]; rfl
    rw [hv, hs]
    generalize xs.getD q 0 = v at *
    have HT := Lib.hid ht
    have HP := Lib.hid hp
    have HQ := Lib.hid hq
    have HR := Lib.hid hr
    have HSET := Lib.hid hset
    have HC := Lib.hid hcell
    have hg := hr.lt
    clear ht h hn hv hs hq hwd ht2 hr hset hcell hp
    go_enter Try.func76, Try.ntmps76
    go_wp2_with fail
    refine (rhas_any _ l cp _ xs n i HN.out _ (((HW.out.only ((Only.refl Nil w).alloc _) (fun _ _ => id)).held_n HN.out).2.2)).mono ?_
    rw [HP.out]
    rintro e w1 ⟨rfl, rfl⟩
    go_wp2_with fail
    refine (rcell_any _ l cp xs n i HN.out _).mono ?_
    rw [HT.out, HQ.out]
    rintro e w1 ⟨rfl, rfl⟩
    have c0 := HR.out.cell_ HC.out
    have f0 := HR.out.frozen q
    simp only [if_true]
    go_wp2
    refine post_row_tmp (P := Try.prog) Try.results76 (t := 40) (g := w.heap.size) (cs := #[.int .i64 4, .int .i64 q, .int .u32 0, .int .u32 0, .int .u32 v]) rfl ?_ Try.underlying40 rfl (by kernel_rfl) rfl ⟨rfl, ?_, ?_⟩
    · have e2 := (Row.new (w.setCell ⟨g, q, none⟩ (.int .u32 0)) 40 #[.int .i64 4, .int .i64 q, .int .u32 0, .int .u32 0, .int .u32 v]).alloc (Obj.cells #[.int .i64 4, .int .i64 q, .int .u32 0, .int .u32 0, .int .u32 v] 40)
      simpa [World.setCell] using e2
    · exact (((Only.refl (At (some ⟨g, 0, none⟩)) w).setCell (p := ⟨g, q, none⟩) (.inr ⟨_, rfl, rfl⟩) (.int .u32 0)).alloc _).alloc _
    · exact HSET.out _ _ (((HR.out.set q (.int .u32 0)).alloc _).alloc _)
end Go.Proofs.Ytomgjamojeejbaa
