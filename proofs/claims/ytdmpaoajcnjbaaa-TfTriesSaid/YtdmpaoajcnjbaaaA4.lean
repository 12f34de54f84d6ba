/- LineW, LineWt, LineN, Ahead, RowsL, Boxes, TfC. -/
import Derived.Test.YtdmpaoajcnjbaaaProg
import Derived.IntWalk
import Derived.Test.YtdmpaoajcnjbaaaA3
import Derived.Test.YtdmpaoajcnjbaaaA1
import Derived.Test.YtdmpaoajcnjbaaaA2
/- A run's Wait, the program's. -/
set_option linter.unusedVariables false
set_option linter.unusedSimpArgs false
namespace Go.Proofs.Ytdmpaoajcnjbaaa
open Go.RowKit

/-- What Wait's closure captures: from block g on, the run's pointer, the cell, the function, what was seen, whether it is done. -/
structure WB (w : World) (B : Nat) (p A : Option Addr) (cp : Nat) (nv : Value) (g : Nat) (c : Int) (fv : Value) (r : LS) (s3 s4 : Bool) : Prop where
  run : RunP w B p A cp nv r
  r0 : Row w g 64 #[.pointer (some ⟨B, 0, none⟩)]
  r1 : Row w (g + 1) 3 #[.int .i64 c]
  r2 : Row w (g + 2) 111 #[fv]
  r3 : Row w (g + 3) 4 #[.bool s3]
  r4 : Row w (g + 4) 4 #[.bool s4]

/-- What Wait may turn. -/
def Wd (B : Nat) (A : Option Addr) (g : Nat) : Nat → Prop := fun j => TurnB B A j ∨ j = g + 3 ∨ j = g + 4

theorem memo_not {w : World} {p A : Option Addr} {cp : Nat} {xs : List Int} {j : Nat} {t : TypeId} {cs : Array Value} (h : Memo w p A cp xs) (hr : Row w j t cs) (h1 : t ≠ 75) (h2 : t ≠ 22) : ¬ (At p j ∨ At A j) := fun hj => by
  obtain ⟨t', cs', hr', ht⟩ := memo_tag h hj
  have e := (hr.same hr').1
  rcases ht with rfl | rfl
  · exact h1 e
  · exact h2 e
theorem ownN_not {base : Nat} {w : World} {v : Value} {zs : List Nt} {i : Nat} {t : TypeId} {cs : Array Value} (h : OwnN base w v zs) (hr : Row w i t cs) (h1 : t ≠ 117) : v.ownBlock ≠ some i := fun hi => by
  obtain ⟨cur, hc⟩ := ownN_tag h hi
  exact h1 (hr.same hc).1
section
variable {w w' w0 : World} {B : Nat} {p A : Option Addr} {cp : Nat} {nv : Value} {g : Nat} {c : Int} {fv : Value} {r r' : LS} {s3 s4 : Bool} {ys : List Int} {S : Nat → Prop}
theorem WB.call (h : WB w B p A cp nv g c fv r s3 s4) (ho : Only (At A) w w') (hm : Memo w' p A cp ys) : WB w' B p A cp nv g c fv { r with xs := ys } s3 s4 :=
  ⟨h.run.call ho hm, h.r0.only ho (fun e => memo_not h.run.memo h.r0 (by decide) (by decide) (.inr e)), h.r1.only ho (fun e => memo_not h.run.memo h.r1 (by decide) (by decide) (.inr e)), h.r2.only ho (fun e => memo_not h.run.memo h.r2 (by decide) (by decide) (.inr e)), h.r3.only ho (fun e => memo_not h.run.memo h.r3 (by decide) (by decide) (.inr e)), h.r4.only ho (fun e => memo_not h.run.memo h.r4 (by decide) (by decide) (.inr e))⟩
theorem WB.keep (h : WB w B p A cp nv g c fv r s3 s4) (ho : Only Nil w w') : WB w' B p A cp nv g c fv r s3 s4 := h.call (ho.mono (fun _ _ h => h.elim)) (h.run.memo.keep ho)
theorem WB.turn (h : WB w B p A cp nv g c fv r s3 s4) (ho : Only (· = B) w w') (hr : RunP w' B p A cp nv r') : WB w' B p A cp nv g c fv r' s3 s4 :=
  ⟨hr, h.r0.only ho (row_ne h.r0 h.run.row (by decide)), h.r1.only ho (row_ne h.r1 h.run.row (by decide)), h.r2.only ho (row_ne h.r2 h.run.row (by decide)), h.r3.only ho (row_ne h.r3 h.run.row (by decide)), h.r4.only ho (row_ne h.r4 h.run.row (by decide))⟩
theorem WB.far (h : WB w B p A cp nv g c fv r s3 s4) {q : Nat} {t : TypeId} {cs : Array Value} (hq : Row w q t cs) (ho : Only (· = q) w w') (hB : B ≠ q) (hm : t ≠ 75) (hu : t ≠ 22) (hn : t ≠ 117) (h0 : ∀ i, i < 5 → q ≠ g + i) : WB w' B p A cp nv g c fv r s3 s4 :=
  ⟨h.run.apart ho hB (fun j hj e => by subst e; exact memo_not h.run.memo hq hm hu hj) (fun i hi e => by subst e; exact ownN_not h.run.notes hq hn hi),
    h.r0.only ho (fun e => h0 0 (by decide) e.symm), h.r1.only ho (fun e => h0 1 (by decide) e.symm), h.r2.only ho (fun e => h0 2 (by decide) e.symm), h.r3.only ho (fun e => h0 3 (by decide) e.symm), h.r4.only ho (fun e => h0 4 (by decide) e.symm)⟩
theorem WB.set3 (h : WB w B p A cp nv g c fv r s3 s4) (b : Bool) : WB (w.setCell ⟨g + 3, 0, none⟩ (.bool b)) B p A cp nv g c fv r b s4 := by
  have ho := (Only.refl (· = g + 3) w).setCell (p := ⟨g + 3, 0, none⟩) (.inr rfl) (.bool b)
  exact ⟨h.run.apart ho (row_ne h.run.row h.r3 (by decide)) (fun j hj e => by subst e; exact memo_not h.run.memo h.r3 (by decide) (by decide) hj) (fun i hi e => by subst e; exact ownN_not h.run.notes h.r3 (by decide) hi),
    h.r0.only ho (fun e => by omega), h.r1.only ho (fun e => by omega), h.r2.only ho (fun e => by omega), h.r3.set 0 _, h.r4.only ho (fun e => by omega)⟩
theorem WB.set4 (h : WB w B p A cp nv g c fv r s3 s4) (b : Bool) : WB (w.setCell ⟨g + 4, 0, none⟩ (.bool b)) B p A cp nv g c fv r s3 b := by
  have ho := (Only.refl (· = g + 4) w).setCell (p := ⟨g + 4, 0, none⟩) (.inr rfl) (.bool b)
  exact ⟨h.run.apart ho (row_ne h.run.row h.r4 (by decide)) (fun j hj e => by subst e; exact memo_not h.run.memo h.r4 (by decide) (by decide) hj) (fun i hi e => by subst e; exact ownN_not h.run.notes h.r4 (by decide) hi),
    h.r0.only ho (fun e => by omega), h.r1.only ho (fun e => by omega), h.r2.only ho (fun e => by omega), h.r3.only ho (fun e => by omega), h.r4.set 0 _⟩
theorem RunP.setS {w : World} {B : Nat} {p A : Option Addr} {cp : Nat} {nv : Value} {r : LS} (h : RunP w B p A cp nv r) (v : Int) : RunP (w.setCell ⟨B, 8, none⟩ (.int .i64 v)) B p A cp nv { r with s := v } :=
  h.turn ((Only.refl (· = B) w).setCell (p := ⟨B, 8, none⟩) (.inr rfl) _) (h.row.set 8 (.int .i64 v)) rfl rfl
theorem WB.setS (h : WB w B p A cp nv g c fv r s3 s4) (v : Int) : WB (w.setCell ⟨B, 8, none⟩ (.int .i64 v)) B p A cp nv g c fv { r with s := v } s3 s4 :=
  h.turn ((Only.refl (· = B) w).setCell (p := ⟨B, 8, none⟩) (.inr rfl) _) (h.run.setS v)
theorem WB.held (h : WB w B p A cp nv g c fv r s3 s4) : w.cell? ⟨g, 0, none⟩ = some (.pointer (some ⟨B, 0, none⟩)) ∧ w.cell? ⟨B, 0, none⟩ = some (.pointer p) ∧ w.cell? ⟨B, 1, none⟩ = some (.int .i64 r.n) ∧ w.cell? ⟨B, 2, none⟩ = some (.int .i64 r.mode) ∧ w.cell? ⟨B, 3, none⟩ = some (.int .i64 r.task) ∧ w.cell? ⟨B, 8, none⟩ = some (.int .i64 r.s) ∧ w.cell? ⟨g + 1, 0, none⟩ = some (.int .i64 c) ∧ w.cell? ⟨g + 2, 0, none⟩ = some fv :=
  ⟨h.r0.cell_ (i := 0) rfl, h.run.row.cell_ (i := 0) rfl, h.run.row.cell_ (i := 1) rfl, h.run.row.cell_ (i := 2) rfl, h.run.row.cell_ (i := 3) rfl, h.run.row.cell_ (i := 8) rfl, h.r1.cell_ (i := 0) rfl, h.r2.cell_ (i := 0) rfl⟩
end

/-- Behind the closure: the stage and the words are the step's, the access is told. -/
def Waited (w : World) (B : Nat) (p A : Option Addr) (cp : Nat) (nv : Value) (g : Nat) (c : Int) (fv : Value) (r : LS) (t : StepR) (e : Ending) (w' : World) : Prop :=
  e = .returned (ofV t.acc).v ∧ Only (Wd B A g) w w' ∧ WB w' B p A cp nv g c fv { r with s := t.next, xs := t.xs } t.seen t.done

set_option maxRecDepth 100000 in
set_option maxHeartbeats 2000000 in
theorem wait_closure (B : Nat) (p A : Option Addr) (cp : Nat) (nv : Value) (g : Nat) (c : Int) (fv : Value) (q : Int → Bool) (r : LS) (s3 s4 : Bool) (w : World) (h : WB w B p A cp nv g c fv r s3 s4) (hf : Holds A w fv q) (hx : Words r.xs) :
    Calls Try.prog 82 #[.pointer (some ⟨g, 0, none⟩), .pointer (some ⟨g + 1, 0, none⟩), .pointer (some ⟨g + 2, 0, none⟩), .pointer (some ⟨g + 3, 0, none⟩), .pointer (some ⟨g + 4, 0, none⟩)] w (Waited w B p A cp nv g c fv r (r.stepR c q)) := by
  have e0 := (Only.refl Nil w).alloc (.cells #[.int .i64 0, .int .i64 0, .int .u32 0, .int .u32 0, .int .u32 0] 61)
  have HP := Lib.hid (h.keep e0)
  have HR := Lib.hid (Row.new w 61 #[.int .i64 0, .int .i64 0, .int .u32 0, .int .u32 0, .int .u32 0])
  have HO := Lib.hid (e0.mono (T := Wd B A g) (fun _ _ h => h.elim))
  have hga : ∀ i, i < 5 → w.heap.size ≠ g + i := fun i hi e => by
    have h4 := h.r4.lt
    omega
  have HGA := Lib.hid hga
  have HBA := Lib.hid (show B ≠ w.heap.size from fun e => by have := h.run.row.lt; omega)
  have HF := Lib.hid (hf.move0 e0.drew)
  have HX := Lib.hid hx
  have HW := Lib.hid (Nat.le_refl w.heap.size)
  clear h hf hx e0 hga
  have hacc := ofV_step r.xs r.n r.mode r.task r.s c q
  rw [show r.stepR c q = stepI r.xs r.n r.mode r.task r.s c q from rfl]
  generalize hst : stepI r.xs r.n r.mode r.task r.s c q = t at *
  obtain ⟨nx, ac, sn, dn, zs⟩ := t
  have HST := Lib.hid hst
  have HAC := Lib.hid (show ac = (ofV ac).v from hacc)
  clear hst hacc
  have HDE := Lib.hid (show Waited w B p A cp nv g c fv r ⟨nx, ac, sn, dn, zs⟩ = fun e w' => e = .returned (ofV ac).v ∧ Only (Wd B A g) w w' ∧ WB w' B p A cp nv g c fv { r with s := nx, xs := zs } sn dn from rfl)
  go_enter Try.func82, Try.ntmps82
  go_upto_region 1 with (fail)
  generalize w.alloc (.cells #[.int .i64 0, .int .i64 0, .int .u32 0, .int .u32 0, .int .u32 0] 61) = w1 at *
  generalize hgg : w.heap.size = ga at *
  have HG := Lib.hid hgg
  clear hgg
  refine wp_region_phase (n := 37) 33 (fun w => w.cell? ⟨g, 0, none⟩ = some (.pointer (some ⟨B, 0, none⟩)) ∧ w.cell? ⟨B, 0, none⟩ = some (.pointer p) ∧ w.cell? ⟨B, 1, none⟩ = some (.int .i64 r.n) ∧ w.cell? ⟨B, 2, none⟩ = some (.int .i64 r.mode) ∧ w.cell? ⟨B, 3, none⟩ = some (.int .i64 r.task) ∧ w.cell? ⟨B, 8, none⟩ = some (.int .i64 r.s) ∧ w.cell? ⟨g + 1, 0, none⟩ = some (.int .i64 c) ∧ w.cell? ⟨g + 2, 0, none⟩ = some fv) rfl (by kernel_rfl) HP.out.held (fun hHeld => ?_)
  have HP1 := Lib.hid (HP.out.keep (Only.refl Nil w1).drew)
  have HR1 := Lib.hid HR.out.drew
  have HO1 := Lib.hid HO.out.drew
  clear HP HR HO
  generalize w1.drew = w2 at *
  refine pt_0 rfl rfl 9 (.pointer (some ⟨B, 0, none⟩)) (by kernel_rfl) (by kernel_rfl) (by kernel_rfl) (by kernel_rfl) (by kernel_rfl) (fun _ _ _ h => h) (by rfl) (fun w hSw => ?_) (by assumption) ?_
  · (try dsimp only at hSw)
    go_split_ands
    go_simp
  (try simp only [Act.put, List.setIfInBounds_toArray, List.set_cons_zero, List.set_cons_succ])
  refine pt_1 rfl rfl 9 (.pointer (some ⟨B, 0, none⟩)) (by kernel_rfl) (by kernel_rfl) (by kernel_rfl) (by kernel_rfl) (by kernel_rfl) (fun _ _ _ h => h) (by rfl) (fun w hSw => ?_) (by assumption) ?_
  · (try dsimp only at hSw)
    go_split_ands
    go_simp
  (try simp only [Act.put, List.setIfInBounds_toArray, List.set_cons_zero, List.set_cons_succ])
  refine pa_2 rfl rfl (.pointer (some ⟨B, 0, none⟩)) (by kernel_rfl) (by kernel_rfl) (by kernel_rfl) (by decide) (by kernel_rfl) (fun _ _ _ h => h) (by rfl) (fun w => ?_) (by first | (right; assumption) | (left; kernel_rfl)) ?_
  · go_simp
  (try simp only [Act.put, List.setIfInBounds_toArray, List.set_cons_zero, List.set_cons_succ])
  refine pa_3 rfl rfl (.pointer (some ⟨B, 0, none⟩)) (by kernel_rfl) (by kernel_rfl) (by kernel_rfl) (by decide) (by kernel_rfl) (fun _ _ _ h => h) (by rfl) (fun w => ?_) (by first | (right; assumption) | (left; kernel_rfl)) ?_
  · go_simp
  (try simp only [Act.put, List.setIfInBounds_toArray, List.set_cons_zero, List.set_cons_succ])
  refine pt_4 rfl rfl 9 (.pointer p) (by kernel_rfl) (by kernel_rfl) (by kernel_rfl) (by kernel_rfl) (by kernel_rfl) (fun _ _ _ h => h) (by rfl) (fun w hSw => ?_) (by assumption) ?_
  · (try dsimp only at hSw)
    go_split_ands
    go_simp
  (try simp only [Act.put, List.setIfInBounds_toArray, List.set_cons_zero, List.set_cons_succ])
  refine pt_5 rfl rfl 9 (.pointer (some ⟨B, 0, none⟩)) (by kernel_rfl) (by kernel_rfl) (by kernel_rfl) (by kernel_rfl) (by kernel_rfl) (fun _ _ _ h => h) (by rfl) (fun w hSw => ?_) (by assumption) ?_
  · (try dsimp only at hSw)
    go_split_ands
    go_simp
  (try simp only [Act.put, List.setIfInBounds_toArray, List.set_cons_zero, List.set_cons_succ])
  refine pa_6 rfl rfl (.pointer (some ⟨B, 0, none⟩)) (by kernel_rfl) (by kernel_rfl) (by kernel_rfl) (by decide) (by kernel_rfl) (fun _ _ _ h => h) (by rfl) (fun w => ?_) (by first | (right; assumption) | (left; kernel_rfl)) ?_
  · go_simp
  (try simp only [Act.put, List.setIfInBounds_toArray, List.set_cons_zero, List.set_cons_succ])
  refine pa_7 rfl rfl (.pointer (some ⟨B, 1, none⟩)) (by kernel_rfl) (by kernel_rfl) (by kernel_rfl) (by decide) (by kernel_rfl) (fun _ _ _ h => h) (by rfl) (fun w => ?_) (by first | (right; assumption) | (left; kernel_rfl)) ?_
  · go_simp
  (try simp only [Act.put, List.setIfInBounds_toArray, List.set_cons_zero, List.set_cons_succ])
  refine pt_8 rfl rfl 9 (.agg #[.int .i64 r.n]) (by kernel_rfl) (by kernel_rfl) (by kernel_rfl) (by kernel_rfl) (by kernel_rfl) (fun _ _ _ h => h) (by rfl) (fun w hSw => ?_) (by assumption) ?_
  · (try dsimp only at hSw)
    go_split_ands
    go_simp
  (try simp only [Act.put, List.setIfInBounds_toArray, List.set_cons_zero, List.set_cons_succ])
  refine pt_9 rfl rfl 9 (.pointer (some ⟨B, 0, none⟩)) (by kernel_rfl) (by kernel_rfl) (by kernel_rfl) (by kernel_rfl) (by kernel_rfl) (fun _ _ _ h => h) (by rfl) (fun w hSw => ?_) (by assumption) ?_
  · (try dsimp only at hSw)
    go_split_ands
    go_simp
  (try simp only [Act.put, List.setIfInBounds_toArray, List.set_cons_zero, List.set_cons_succ])
  refine pa_10 rfl rfl (.pointer (some ⟨B, 0, none⟩)) (by kernel_rfl) (by kernel_rfl) (by kernel_rfl) (by decide) (by kernel_rfl) (fun _ _ _ h => h) (by rfl) (fun w => ?_) (by first | (right; assumption) | (left; kernel_rfl)) ?_
  · go_simp
  (try simp only [Act.put, List.setIfInBounds_toArray, List.set_cons_zero, List.set_cons_succ])
  refine pa_11 rfl rfl (.pointer (some ⟨B, 2, none⟩)) (by kernel_rfl) (by kernel_rfl) (by kernel_rfl) (by decide) (by kernel_rfl) (fun _ _ _ h => h) (by rfl) (fun w => ?_) (by first | (right; assumption) | (left; kernel_rfl)) ?_
  · go_simp
  (try simp only [Act.put, List.setIfInBounds_toArray, List.set_cons_zero, List.set_cons_succ])
  refine pt_12 rfl rfl 9 (.int .i64 r.mode) (by kernel_rfl) (by kernel_rfl) (by kernel_rfl) (by kernel_rfl) (by kernel_rfl) (fun _ _ _ h => h) (by rfl) (fun w hSw => ?_) (by assumption) ?_
  · (try dsimp only at hSw)
    go_split_ands
    go_simp
  (try simp only [Act.put, List.setIfInBounds_toArray, List.set_cons_zero, List.set_cons_succ])
  refine pt_13 rfl rfl 9 (.pointer (some ⟨B, 0, none⟩)) (by kernel_rfl) (by kernel_rfl) (by kernel_rfl) (by kernel_rfl) (by kernel_rfl) (fun _ _ _ h => h) (by rfl) (fun w hSw => ?_) (by assumption) ?_
  · (try dsimp only at hSw)
    go_split_ands
    go_simp
  (try simp only [Act.put, List.setIfInBounds_toArray, List.set_cons_zero, List.set_cons_succ])
  refine pa_14 rfl rfl (.pointer (some ⟨B, 0, none⟩)) (by kernel_rfl) (by kernel_rfl) (by kernel_rfl) (by decide) (by kernel_rfl) (fun _ _ _ h => h) (by rfl) (fun w => ?_) (by first | (right; assumption) | (left; kernel_rfl)) ?_
  · go_simp
  (try simp only [Act.put, List.setIfInBounds_toArray, List.set_cons_zero, List.set_cons_succ])
  refine pa_15 rfl rfl (.pointer (some ⟨B, 3, none⟩)) (by kernel_rfl) (by kernel_rfl) (by kernel_rfl) (by decide) (by kernel_rfl) (fun _ _ _ h => h) (by rfl) (fun w => ?_) (by first | (right; assumption) | (left; kernel_rfl)) ?_
  · go_simp
  (try simp only [Act.put, List.setIfInBounds_toArray, List.set_cons_zero, List.set_cons_succ])
  refine pt_16 rfl rfl 9 (.int .i64 r.task) (by kernel_rfl) (by kernel_rfl) (by kernel_rfl) (by kernel_rfl) (by kernel_rfl) (fun _ _ _ h => h) (by rfl) (fun w hSw => ?_) (by assumption) ?_
  · (try dsimp only at hSw)
    go_split_ands
    go_simp
  (try simp only [Act.put, List.setIfInBounds_toArray, List.set_cons_zero, List.set_cons_succ])
  refine pt_17 rfl rfl 9 (.pointer (some ⟨B, 0, none⟩)) (by kernel_rfl) (by kernel_rfl) (by kernel_rfl) (by kernel_rfl) (by kernel_rfl) (fun _ _ _ h => h) (by rfl) (fun w hSw => ?_) (by assumption) ?_
  · (try dsimp only at hSw)
    go_split_ands
    go_simp
  (try simp only [Act.put, List.setIfInBounds_toArray, List.set_cons_zero, List.set_cons_succ])
  refine pa_18 rfl rfl (.pointer (some ⟨B, 0, none⟩)) (by kernel_rfl) (by kernel_rfl) (by kernel_rfl) (by decide) (by kernel_rfl) (fun _ _ _ h => h) (by rfl) (fun w => ?_) (by first | (right; assumption) | (left; kernel_rfl)) ?_
  · go_simp
  (try simp only [Act.put, List.setIfInBounds_toArray, List.set_cons_zero, List.set_cons_succ])
  refine pa_19 rfl rfl (.pointer (some ⟨B, 4, none⟩)) (by kernel_rfl) (by kernel_rfl) (by kernel_rfl) (by decide) (by kernel_rfl) (fun _ _ _ h => h) (by rfl) (fun w => ?_) (by first | (right; assumption) | (left; kernel_rfl)) ?_
  · go_simp
  (try simp only [Act.put, List.setIfInBounds_toArray, List.set_cons_zero, List.set_cons_succ])
  refine pa_20 rfl rfl (.pointer (some ⟨B, 8, none⟩)) (by kernel_rfl) (by kernel_rfl) (by kernel_rfl) (by decide) (by kernel_rfl) (fun _ _ _ h => h) (by rfl) (fun w => ?_) (by first | (right; assumption) | (left; kernel_rfl)) ?_
  · go_simp
  (try simp only [Act.put, List.setIfInBounds_toArray, List.set_cons_zero, List.set_cons_succ])
  refine pt_21 rfl rfl 9 (.agg #[.int .i64 r.s]) (by kernel_rfl) (by kernel_rfl) (by kernel_rfl) (by kernel_rfl) (by kernel_rfl) (fun _ _ _ h => h) (by rfl) (fun w hSw => ?_) (by assumption) ?_
  · (try dsimp only at hSw)
    go_split_ands
    go_simp
  (try simp only [Act.put, List.setIfInBounds_toArray, List.set_cons_zero, List.set_cons_succ])
  refine pt_22 rfl rfl 9 (.int .i64 c) (by kernel_rfl) (by kernel_rfl) (by kernel_rfl) (by kernel_rfl) (by kernel_rfl) (fun _ _ _ h => h) (by rfl) (fun w hSw => ?_) (by assumption) ?_
  · (try dsimp only at hSw)
    go_split_ands
    go_simp
  (try simp only [Act.put, List.setIfInBounds_toArray, List.set_cons_zero, List.set_cons_succ])
  refine pt_23 rfl rfl 9 (fv) (by kernel_rfl) (by kernel_rfl) (by kernel_rfl) (by kernel_rfl) (by kernel_rfl) (fun _ _ _ h => h) (by rfl) (fun w hSw => ?_) (by assumption) ?_
  · (try dsimp only at hSw)
    go_split_ands
    go_simp
  (try simp only [Act.put, List.setIfInBounds_toArray, List.set_cons_zero, List.set_cons_succ])
  refine pc_24 rfl rfl (by kernel_rfl) (by rfl) (fun K hK => ?_)
  go_simp
  refine (step_any p A cp r.xs r.n r.mode r.task r.s c fv q _ HP1.out.run.memo HF.out HX.out).mono ?_
  rw [HST.out]
  intro e w3 hF
  obtain ⟨rfl, hO, hM⟩ := hF
  dsimp only at hM ⊢
  rw [HAC.out]
  clear HAC
  generalize ofV ac = a5 at *
  dsimp only [Acc5.v]
  have HP2 := Lib.hid (HP1.out.call hO hM)
  have HR2 := Lib.hid (HR1.out.only hO (fun e => memo_not HP1.out.run.memo HR1.out (by decide) (by decide) (.inr e)))
  have HO2 := Lib.hid (HO1.out.trans (hO.mono (T := Wd B A g) (fun _ _ e => .inl (.inr e))))
  refine hK.out _ _ (.inr HP2.out.held) ?_
  have hHeld2 := HP2.out.held
  clear hK K hHeld hO hM HP1 HR1 HO1
  (try simp only [Act.put, List.setIfInBounds_toArray, List.set_cons_zero, List.set_cons_succ])
  refine pa_25 rfl rfl (.tuple #[.agg #[.int .i64 nx], .agg #[.int .i64 a5.k, .int .i64 a5.c, .int .u32 a5.x, .int .u32 a5.y, .int .u32 a5.o], .bool sn, .bool dn]) (by kernel_rfl) (by kernel_rfl) (by kernel_rfl) (by decide) (by kernel_rfl) (fun _ _ _ h => h) (by rfl) (fun w => ?_) (by first | (right; assumption) | (left; kernel_rfl)) ?_
  · go_simp
  (try simp only [Act.put, List.setIfInBounds_toArray, List.set_cons_zero, List.set_cons_succ])
  refine pa_26 rfl rfl (.agg #[.int .i64 nx]) (by kernel_rfl) (by kernel_rfl) (by kernel_rfl) (by decide) (by kernel_rfl) (fun _ _ _ h => h) (by rfl) (fun w => ?_) (by first | (right; assumption) | (left; kernel_rfl)) ?_
  · go_simp
  (try simp only [Act.put, List.setIfInBounds_toArray, List.set_cons_zero, List.set_cons_succ])
  refine pa_27 rfl rfl (.agg #[.int .i64 a5.k, .int .i64 a5.c, .int .u32 a5.x, .int .u32 a5.y, .int .u32 a5.o]) (by kernel_rfl) (by kernel_rfl) (by kernel_rfl) (by decide) (by kernel_rfl) (fun _ _ _ h => h) (by rfl) (fun w => ?_) (by first | (right; assumption) | (left; kernel_rfl)) ?_
  · go_simp
  (try simp only [Act.put, List.setIfInBounds_toArray, List.set_cons_zero, List.set_cons_succ])
  refine pa_28 rfl rfl (.bool sn) (by kernel_rfl) (by kernel_rfl) (by kernel_rfl) (by decide) (by kernel_rfl) (fun _ _ _ h => h) (by rfl) (fun w => ?_) (by first | (right; assumption) | (left; kernel_rfl)) ?_
  · go_simp
  (try simp only [Act.put, List.setIfInBounds_toArray, List.set_cons_zero, List.set_cons_succ])
  refine pa_29 rfl rfl (.bool dn) (by kernel_rfl) (by kernel_rfl) (by kernel_rfl) (by decide) (by kernel_rfl) (fun _ _ _ h => h) (by rfl) (fun w => ?_) (by first | (right; assumption) | (left; kernel_rfl)) ?_
  · go_simp
  (try simp only [Act.put, List.setIfInBounds_toArray, List.set_cons_zero, List.set_cons_succ])
  refine pa_30 rfl rfl (.pointer (some ⟨B, 0, none⟩)) (by kernel_rfl) (by kernel_rfl) (by kernel_rfl) (by decide) (by kernel_rfl) (fun _ _ _ h => h) (by rfl) (fun w => ?_) (by first | (right; assumption) | (left; kernel_rfl)) ?_
  · go_simp
  (try simp only [Act.put, List.setIfInBounds_toArray, List.set_cons_zero, List.set_cons_succ])
  refine pa_31 rfl rfl (.pointer (some ⟨B, 4, none⟩)) (by kernel_rfl) (by kernel_rfl) (by kernel_rfl) (by decide) (by kernel_rfl) (fun _ _ _ h => h) (by rfl) (fun w => ?_) (by first | (right; assumption) | (left; kernel_rfl)) ?_
  · go_simp
  (try simp only [Act.put, List.setIfInBounds_toArray, List.set_cons_zero, List.set_cons_succ])
  refine pa_32 rfl rfl (.pointer (some ⟨B, 8, none⟩)) (by kernel_rfl) (by kernel_rfl) (by kernel_rfl) (by decide) (by kernel_rfl) (fun _ _ _ h => h) (by rfl) (fun w => ?_) (by first | (right; assumption) | (left; kernel_rfl)) ?_
  · go_simp
  (try simp only [Act.put, List.setIfInBounds_toArray, List.set_cons_zero, List.set_cons_succ])
  have c8 : w3.cell? ⟨B, 8, none⟩ = some (.int .i64 r.s) := HP2.out.run.row.cell_ (i := 8) rfl
  have f8 : w3.frozen? ⟨B, 8, none⟩ = false := HP2.out.run.row.frozen 8
  refine pc_33 rfl rfl (by kernel_rfl) (by rfl) (fun K hK => ?_)
  go_simp
  have HP3 := Lib.hid (HP2.out.setS nx)
  have HO3 := Lib.hid (HO2.out.setCell (p := ⟨B, 8, none⟩) (.inr (.inl (.inl rfl))) (.int .i64 nx))
  have HR3 := Lib.hid (HR2.out.far (p := ⟨B, 8, none⟩) (Ne.symm HBA.out) (.int .i64 nx))
  refine hK.out _ _ (.inl (by kernel_rfl)) ?_
  clear hK K hHeld2 c8 f8 HP2 HO2 HR2
  generalize w3.setCell ⟨B, 8, none⟩ (.int .i64 nx) = w4 at *
  (try simp only [Act.put, List.setIfInBounds_toArray, List.set_cons_zero, List.set_cons_succ])
  have a0 : w4.cell? ⟨ga, 0, none⟩ = some (.int .i64 0) := HR3.out.cell_ (i := 0) rfl
  have a1 : w4.cell? ⟨ga, 1, none⟩ = some (.int .i64 0) := HR3.out.cell_ (i := 1) rfl
  have a2 : w4.cell? ⟨ga, 2, none⟩ = some (.int .u32 0) := HR3.out.cell_ (i := 2) rfl
  have a3 : w4.cell? ⟨ga, 3, none⟩ = some (.int .u32 0) := HR3.out.cell_ (i := 3) rfl
  have a4 : w4.cell? ⟨ga, 4, none⟩ = some (.int .u32 0) := HR3.out.cell_ (i := 4) rfl
  have f0 : w4.frozen? ⟨ga, 0, none⟩ = false := HR3.out.frozen 0
  have f1 : w4.frozen? ⟨ga, 1, none⟩ = false := HR3.out.frozen 1
  have f2 : w4.frozen? ⟨ga, 2, none⟩ = false := HR3.out.frozen 2
  have f3 : w4.frozen? ⟨ga, 3, none⟩ = false := HR3.out.frozen 3
  have f4 : w4.frozen? ⟨ga, 4, none⟩ = false := HR3.out.frozen 4
  refine pc_34 rfl rfl (by kernel_rfl) (by rfl) (fun K hK => ?_)
  go_simp
  have ho5 := five_only (Only.refl (· = ga) w4) (g := ga) (.inr rfl) (.int .i64 a5.k) (.int .i64 a5.c) (.int .u32 a5.x) (.int .u32 a5.y) (.int .u32 a5.o)
  have HP4 := Lib.hid (HP3.out.far HR3.out ho5 HBA.out (by decide) (by decide) (by decide) HGA.out)
  have HO4 := Lib.hid (five_only HO3.out (g := ga) (.inl (by have := HG.out; omega)) (.int .i64 a5.k) (.int .i64 a5.c) (.int .u32 a5.x) (.int .u32 a5.y) (.int .u32 a5.o))
  have HR4 := Lib.hid (five HR3.out (.int .i64 a5.k) (.int .i64 a5.c) (.int .u32 a5.x) (.int .u32 a5.y) (.int .u32 a5.o))
  refine hK.out _ _ (.inl (by kernel_rfl)) ?_
  clear hK K ho5 a0 a1 a2 a3 a4 f0 f1 f2 f3 f4 HP3 HO3 HR3
  generalize (((((w4.setCell ⟨ga, 0, none⟩ (.int .i64 a5.k)).setCell ⟨ga, 1, none⟩ (.int .i64 a5.c)).setCell ⟨ga, 2, none⟩ (.int .u32 a5.x)).setCell ⟨ga, 3, none⟩ (.int .u32 a5.y)).setCell ⟨ga, 4, none⟩ (.int .u32 a5.o)) = w5 at *
  (try simp only [Act.put, List.setIfInBounds_toArray, List.set_cons_zero, List.set_cons_succ])
  have b3 : w5.cell? ⟨g + 3, 0, none⟩ = some (.bool s3) := HP4.out.r3.cell_ (i := 0) rfl
  have f3 : w5.frozen? ⟨g + 3, 0, none⟩ = false := HP4.out.r3.frozen 0
  refine pc_35 rfl rfl (by kernel_rfl) (by rfl) (fun K hK => ?_)
  go_simp
  have HP5 := Lib.hid (HP4.out.set3 sn)
  have HO5 := Lib.hid (HO4.out.setCell (p := ⟨g + 3, 0, none⟩) (.inr (.inr (.inl rfl))) (.bool sn))
  have HR5 := Lib.hid (HR4.out.far (p := ⟨g + 3, 0, none⟩) (HGA.out 3 (by decide)) (.bool sn))
  refine hK.out _ _ (.inl (by kernel_rfl)) ?_
  clear hK K b3 f3 HP4 HO4 HR4
  generalize w5.setCell ⟨g + 3, 0, none⟩ (.bool sn) = w6 at *
  (try simp only [Act.put, List.setIfInBounds_toArray, List.set_cons_zero, List.set_cons_succ])
  have b3 : w6.cell? ⟨g + 4, 0, none⟩ = some (.bool s4) := HP5.out.r4.cell_ (i := 0) rfl
  have f3 : w6.frozen? ⟨g + 4, 0, none⟩ = false := HP5.out.r4.frozen 0
  refine pc_36 rfl rfl (by kernel_rfl) (by rfl) (fun K hK => ?_)
  go_simp
  have HP6 := Lib.hid (HP5.out.set4 dn)
  have HO6 := Lib.hid (HO5.out.setCell (p := ⟨g + 4, 0, none⟩) (.inr (.inr (.inr rfl))) (.bool dn))
  have HR6 := Lib.hid (HR5.out.far (p := ⟨g + 4, 0, none⟩) (HGA.out 4 (by decide)) (.bool dn))
  refine hK.out _ _ (.inl (by kernel_rfl)) ?_
  clear hK K b3 f3 HP5 HO5 HR5
  generalize w6.setCell ⟨g + 4, 0, none⟩ (.bool dn) = w7 at *
  (try simp only [Act.put, List.setIfInBounds_toArray, List.set_cons_zero, List.set_cons_succ])
  refine wpAnyP_done (by kernel_rfl) ?_ _
  have a0 : w7.cell? ⟨ga, 0, none⟩ = some (.int .i64 a5.k) := HR6.out.cell_ (i := 0) rfl
  have a1 : w7.cell? ⟨ga, 1, none⟩ = some (.int .i64 a5.c) := HR6.out.cell_ (i := 1) rfl
  have a2 : w7.cell? ⟨ga, 2, none⟩ = some (.int .u32 a5.x) := HR6.out.cell_ (i := 2) rfl
  have a3 : w7.cell? ⟨ga, 3, none⟩ = some (.int .u32 a5.y) := HR6.out.cell_ (i := 3) rfl
  have a4 : w7.cell? ⟨ga, 4, none⟩ = some (.int .u32 a5.o) := HR6.out.cell_ (i := 4) rfl
  have f0 : w7.frozen? ⟨ga, 0, none⟩ = false := HR6.out.frozen 0
  have f1 : w7.frozen? ⟨ga, 1, none⟩ = false := HR6.out.frozen 1
  have f2 : w7.frozen? ⟨ga, 2, none⟩ = false := HR6.out.frozen 2
  have f3 : w7.frozen? ⟨ga, 3, none⟩ = false := HR6.out.frozen 3
  have f4 : w7.frozen? ⟨ga, 4, none⟩ = false := HR6.out.frozen 4
  have ho5 := five_only (Only.refl (· = ga) w7) (g := ga) (.inr rfl) (.int .i64 a5.k) (.int .i64 a5.c) (.int .u32 a5.x) (.int .u32 a5.y) (.int .u32 a5.o)
  have HP7 := Lib.hid (HP6.out.far HR6.out ho5 HBA.out (by decide) (by decide) (by decide) HGA.out)
  have HO7 := Lib.hid (five_only HO6.out (g := ga) (.inl (by have := HG.out; omega)) (.int .i64 a5.k) (.int .i64 a5.c) (.int .u32 a5.x) (.int .u32 a5.y) (.int .u32 a5.o))
  have HR7 := Lib.hid (five HR6.out (.int .i64 a5.k) (.int .i64 a5.c) (.int .u32 a5.x) (.int .u32 a5.y) (.int .u32 a5.o))
  clear ho5 HP6 HO6 HR6
  go_wp2
  exact post_row (P := Try.prog) Try.results82 (by rfl) HR7.out Try.underlying61 rfl (by kernel_rfl) rfl (by rw [HDE.out]; exact ⟨rfl, HO7.out, HP7.out⟩)

/-- What Wait's step leaves. -/
def WaitDone (w : World) (B : Nat) (p A : Option Addr) (cp : Nat) (nv : Value) (g : Nat) (c : Int) (fv : Value) (r : LS) (t : StepR) (e : Ending) (w' : World) : Prop :=
  e = .returned (.tuple #[]) ∧ Only (Wd B A g) w w' ∧ WB w' B p A cp nv g c fv { r with s := t.next, acc := ofV t.acc, xs := t.xs } t.seen t.done

set_option maxHeartbeats 1000000 in
theorem wait_do (B : Nat) (p A : Option Addr) (cp : Nat) (nv : Value) (g : Nat) (c : Int) (fv : Value) (q : Int → Bool) (r : LS) (s3 s4 : Bool) (w : World) (h : WB w B p A cp nv g c fv r s3 s4) (hf : Holds A w fv q) (hx : Words r.xs) :
    Calls Try.prog 31 #[.pointer (some ⟨B, 0, none⟩), .func (.func 82) #[] #[.pointer (some ⟨g, 0, none⟩), .pointer (some ⟨g + 1, 0, none⟩), .pointer (some ⟨g + 2, 0, none⟩), .pointer (some ⟨g + 3, 0, none⟩), .pointer (some ⟨g + 4, 0, none⟩)]] w (WaitDone w B p A cp nv g c fv r (r.stepR c q)) := by
  have HC := Lib.hid (wait_closure B p A cp nv g c fv q r s3 s4 w h hf hx)
  clear h hf hx
  go_enter Try.func31, Try.ntmps31
  go_wp2_with fail
  refine HC.out.mono ?_
  clear HC
  generalize r.stepR c q = t at *
  obtain ⟨nx, ac, sn, dn, zs⟩ := t
  intro e w1 hF
  obtain ⟨rfl, hO, hP⟩ := hF
  dsimp only at hP ⊢
  have HD := Lib.hid (show (⟨nx, ac, sn, dn, zs⟩ : StepR).acc = ac from rfl)
  have HDE := Lib.hid (show WaitDone w B p A cp nv g c fv r ⟨nx, ac, sn, dn, zs⟩ = fun e w' => e = .returned (.tuple #[]) ∧ Only (Wd B A g) w w' ∧ WB w' B p A cp nv g c fv { r with s := nx, acc := ofV ac, xs := zs } sn dn from rfl)
  generalize ofV ac = a5 at *
  dsimp only [Acc5.v]
  have HP := Lib.hid hP
  have HO := Lib.hid hO
  clear hP hO
  have a14 : w1.cell? ⟨B, 14, none⟩ = some (.int .i64 r.acc.k) := HP.out.run.row.cell_ (i := 14) rfl
  have a15 : w1.cell? ⟨B, 15, none⟩ = some (.int .i64 r.acc.c) := HP.out.run.row.cell_ (i := 15) rfl
  have a16 : w1.cell? ⟨B, 16, none⟩ = some (.int .u32 r.acc.x) := HP.out.run.row.cell_ (i := 16) rfl
  have a17 : w1.cell? ⟨B, 17, none⟩ = some (.int .u32 r.acc.y) := HP.out.run.row.cell_ (i := 17) rfl
  have a18 : w1.cell? ⟨B, 18, none⟩ = some (.int .u32 r.acc.o) := HP.out.run.row.cell_ (i := 18) rfl
  have f14 : w1.frozen? ⟨B, 14, none⟩ = false := HP.out.run.row.frozen 14
  have f15 : w1.frozen? ⟨B, 15, none⟩ = false := HP.out.run.row.frozen 15
  have f16 : w1.frozen? ⟨B, 16, none⟩ = false := HP.out.run.row.frozen 16
  have f17 : w1.frozen? ⟨B, 17, none⟩ = false := HP.out.run.row.frozen 17
  have f18 : w1.frozen? ⟨B, 18, none⟩ = false := HP.out.run.row.frozen 18
  go_wp2
  clear a14 a15 a16 a17 a18 f14 f15 f16 f17 f18
  go_returns
  rw [HDE.out]
  exact ⟨rfl, set_acc_only HO.out (B := B) (.inl (.inl rfl)) _ _ _ _ _, HP.out.turn (set_acc_only (Only.refl (· = B) w1) rfl _ _ _ _ _) (HP.out.run.setAcc a5)⟩
end Go.Proofs.Ytdmpaoajcnjbaaa
/- A run's Wait, the program's, whole. -/
set_option linter.unusedVariables false
set_option linter.unusedSimpArgs false
namespace Go.Proofs.Ytdmpaoajcnjbaaa
open Go.RowKit

theorem Row.at {w : World} {t : TypeId} {cs : Array Value} {k : Nat} (h : w.heap.size = k) : Row (w.alloc (.cells cs t)) k t cs := by subst h; exact Row.new w t cs

set_option maxRecDepth 100000 in
set_option maxHeartbeats 1000000 in
theorem wait_run (B : Nat) (p A : Option Addr) (cp : Nat) (nv : Value) (r : LS) (c : Int) (F : Fn) (f1 f2 : Array Value) (q : Int → Bool) (w : World) (h : RunP w B p A cp nv r) (hf : Holds A w (.func F f1 f2) q) (hx : Words r.xs) :
    Calls Try.prog 62 #[.pointer (some ⟨B, 0, none⟩), .int .i64 c, .func F f1 f2] w (Done B p A cp w (.tuple #[.bool (r.stepR c q).seen, .bool (r.stepR c q).done]) (r.wait c q)) := by
  have e0 := (((((Only.refl Nil w).alloc (.cells #[.pointer (some ⟨B, 0, none⟩)] 64)).alloc (.cells #[.int .i64 c] 3)).alloc (.cells #[.func F f1 f2] 111)).alloc (.cells #[.bool false] 4)).alloc (.cells #[.bool false] 4)
  have HP : Hid (WB _ B p A cp nv w.heap.size c (.func F f1 f2) r false false) := Lib.hid ⟨h.keep e0, ((((Row.new w 64 #[.pointer (some ⟨B, 0, none⟩)]).alloc _).alloc _).alloc _).alloc _,
    (((Row.at (t := 3) (cs := #[.int .i64 c]) (by simp)).alloc _).alloc _).alloc _, ((Row.at (t := 111) (cs := #[.func F f1 f2]) (by simp)).alloc _).alloc _, (Row.at (t := 4) (cs := #[.bool false]) (by simp)).alloc _, Row.at (by simp)⟩
  have HO := Lib.hid (e0.mono (T := TurnB B A) (fun _ _ h => h.elim))
  have HF := Lib.hid (hf.move0 e0)
  have HX := Lib.hid hx
  clear h hf hx e0
  rw [show r.wait c q = { r with s := (r.stepR c q).next, acc := ofV (r.stepR c q).acc, xs := (r.stepR c q).xs } from rfl]
  generalize hst : r.stepR c q = t at *
  have HST := Lib.hid hst
  clear hst
  obtain ⟨nx, ac, sn, dn, zs⟩ := t
  dsimp only
  generalize hr2 : ({ r with s := nx, acc := ofV ac, xs := zs } : LS) = r2 at *
  have HR2 := Lib.hid hr2
  clear hr2
  go_enter Try.func62, Try.ntmps62
  go_upto_region 1 with (fail)
  generalize ((((w.alloc (.cells #[.pointer (some ⟨B, 0, none⟩)] 64)).alloc (.cells #[.int .i64 c] 3)).alloc (.cells #[.func F f1 f2] 111)).alloc (.cells #[.bool false] 4)).alloc (.cells #[.bool false] 4) = w1 at *
  generalize hgg : w.heap.size = g at *
  have HG := Lib.hid hgg
  clear hgg
  have a0 : w1.cell? ⟨g, 0, none⟩ = some (.pointer (some ⟨B, 0, none⟩)) := HP.out.r0.cell_ (i := 0) rfl
  go_wp2_with fail
  clear a0
  refine (wait_do B p A cp nv g c (.func F f1 f2) q r false false _ HP.out HF.out HX.out).mono ?_
  rw [HST.out]
  intro e w2 hF
  obtain ⟨rfl, hO, hP⟩ := hF
  dsimp only at hP
  rw [HR2.out] at hP
  have HP2 := Lib.hid hP
  have HO2 := Lib.hid (HO.out.step hO (fun i hi hd => by
    rcases hd with hd | hd | hd
    · exact hd
    · have := HG.out; omega
    · have := HG.out; omega))
  clear hO hP HP HO
  go_upto_region 4 with (fail)
  refine wp_region_phase (n := 4) 3 (fun w => w.cell? ⟨g + 3, 0, none⟩ = some (.bool sn) ∧ w.cell? ⟨g + 4, 0, none⟩ = some (.bool dn)) rfl (by kernel_rfl) ⟨HP2.out.r3.cell_ (i := 0) rfl, HP2.out.r4.cell_ (i := 0) rfl⟩ (fun hHeld => ?_)
  have HP3 := Lib.hid (HP2.out.keep (Only.refl Nil w2).drew)
  have HO3 := Lib.hid HO2.out.drew
  clear HP2 HO2
  generalize w2.drew = w3 at *
  refine pt_0 rfl rfl 9 (.bool sn) (by kernel_rfl) (by kernel_rfl) (by kernel_rfl) (by kernel_rfl) (by kernel_rfl) (fun _ _ _ h => h) (by rfl) (fun w hSw => ?_) (by assumption) ?_
  · (try dsimp only at hSw)
    go_split_ands
    go_simp
  (try simp only [Act.put, List.setIfInBounds_toArray, List.set_cons_zero, List.set_cons_succ])
  refine pt_1 rfl rfl 9 (.bool dn) (by kernel_rfl) (by kernel_rfl) (by kernel_rfl) (by kernel_rfl) (by kernel_rfl) (fun _ _ _ h => h) (by rfl) (fun w hSw => ?_) (by assumption) ?_
  · (try dsimp only at hSw)
    go_split_ands
    go_simp
  (try simp only [Act.put, List.setIfInBounds_toArray, List.set_cons_zero, List.set_cons_succ])
  have b3 : w3.cell? ⟨g + 1 + 1 + 1, 0, none⟩ = some (.bool sn) := HP3.out.r3.cell_ (i := 0) rfl
  have f3 : w3.frozen? ⟨g + 1 + 1 + 1, 0, none⟩ = false := HP3.out.r3.frozen 0
  refine pc_2 rfl rfl (by kernel_rfl) (by rfl) (fun K hK => ?_)
  go_simp
  have HP4 : Hid (WB (w3.setCell ⟨g + 1 + 1 + 1, 0, none⟩ (.bool sn)) B p A cp nv g c (.func F f1 f2) r2 sn dn) := Lib.hid (HP3.out.set3 sn)
  have HO4 := Lib.hid (HO3.out.setCell (p := ⟨g + 1 + 1 + 1, 0, none⟩) (.inl (by have := HG.out; show w.heap.size ≤ g + 1 + 1 + 1; omega)) (.bool sn))
  refine hK.out _ _ (.inr ⟨HP4.out.r3.cell_ (i := 0) rfl, HP4.out.r4.cell_ (i := 0) rfl⟩) ?_
  clear hK K hHeld b3 f3 HP3 HO3
  generalize w3.setCell ⟨g + 1 + 1 + 1, 0, none⟩ (.bool sn) = w4 at *
  (try simp only [Act.put, List.setIfInBounds_toArray, List.set_cons_zero, List.set_cons_succ])
  have b3 : w4.cell? ⟨g + 1 + 1 + 1 + 1, 0, none⟩ = some (.bool dn) := HP4.out.r4.cell_ (i := 0) rfl
  have f3 : w4.frozen? ⟨g + 1 + 1 + 1 + 1, 0, none⟩ = false := HP4.out.r4.frozen 0
  refine pc_3 rfl rfl (by kernel_rfl) (by rfl) (fun K hK => ?_)
  go_simp
  have HP5 : Hid (WB (w4.setCell ⟨g + 1 + 1 + 1 + 1, 0, none⟩ (.bool dn)) B p A cp nv g c (.func F f1 f2) r2 sn dn) := Lib.hid (HP4.out.set4 dn)
  have HO5 := Lib.hid (HO4.out.setCell (p := ⟨g + 1 + 1 + 1 + 1, 0, none⟩) (.inl (by have := HG.out; show w.heap.size ≤ g + 1 + 1 + 1 + 1; omega)) (.bool dn))
  refine hK.out _ _ (.inl (by kernel_rfl)) ?_
  clear hK K b3 f3 HP4 HO4
  generalize w4.setCell ⟨g + 1 + 1 + 1 + 1, 0, none⟩ (.bool dn) = w5 at *
  (try simp only [Act.put, List.setIfInBounds_toArray, List.set_cons_zero, List.set_cons_succ])
  refine wpAnyP_done (by kernel_rfl) ?_ _
  have b3 : w5.cell? ⟨g + 1 + 1 + 1, 0, none⟩ = some (.bool sn) := HP5.out.r3.cell_ (i := 0) rfl
  have b4 : w5.cell? ⟨g + 1 + 1 + 1 + 1, 0, none⟩ = some (.bool dn) := HP5.out.r4.cell_ (i := 0) rfl
  go_wp2
  exact bodyPost_ret (v := .tuple #[.bool sn, .bool dn]) (by simp [results, Try.results62, go_sem, b3, b4]) rfl ⟨rfl, HO5.out, nv, HP5.out.run⟩
end Go.Proofs.Ytdmpaoajcnjbaaa
/- A run's Note, the program's. -/
set_option linter.unusedVariables false
set_option linter.unusedSimpArgs false
namespace Go.Proofs.Ytdmpaoajcnjbaaa
open Go.RowKit

theorem wp_append_cut {o : Oper} {a : Act} {K : Act → World → Prop} {Q : Exit → Act → World → Prop} (s x : Operand) (ho : o.op = .call { callee := .builtin .append, args := #[s, x], argTypes := #[32, 32] })
    (v : Value) (zs : List Nt) (w : World) (g : Nat) (n : Nt) (hs : a.eval s = cutV v) (hx : a.eval x = .slice (some ⟨g, 0, none⟩) 1 1) (hown : OwnN 0 w v zs) (hrow : Row w g 117 #[.int .i64 n.t, .int .i64 n.w, .int .i64 n.o, .int .i64 n.a]) (h1 : zs.length ≤ 1000)
    (h : ∀ A' n' c' w', OwnN 0 w' (.slice A' n' c') (zs ++ [n]) → Only Nil w w' → K (a.put o.dst (.slice A' n' c')) w') : o.wp Try.prog a w K Q := by
  obtain ⟨v', w', hr, h2, h3⟩ := run_append_cut o.type v zs w g n hown hrow h1
  unfold Oper.wp execOp
  simp only [ho, resolve, invoke, builtin, Sem.run_bind, Sem.run_pure, Result.andThen_ok, List.map_toArray, List.map_cons, List.map_nil, hs, hx, hr]
  obtain ⟨A', c', rfl, _⟩ := own_form h2
  exact h _ _ _ w' h2 h3

theorem RunP.setNotes {w : World} {B : Nat} {p A : Option Addr} {cp : Nat} {nv v : Value} {r : LS} {zs : List Nt} (h : RunP w B p A cp nv r) (hn : OwnN 0 w v zs) : RunP (w.setCell ⟨B, 19, none⟩ v) B p A cp v { r with ns := zs } := by
  have ho := (Only.refl (· = B) w).setCell (p := ⟨B, 19, none⟩) (.inr rfl) v
  refine ⟨h.row.set 19 v, own_only hn ho (fun i hi => ?_), h.memo.far ho (fun j hj => h.far hj)⟩
  rintro rfl
  obtain ⟨cur, hc⟩ := ownN_tag hn hi
  exact absurd (h.row.same hc).1 (by decide)

set_option maxRecDepth 100000 in
set_option maxHeartbeats 1000000 in
theorem note_run (B : Nat) (p A : Option Addr) (cp : Nat) (nv : Value) (r : LS) (what arg : Int) (w : World) (h : RunP w B p A cp nv r) (hl : r.ns.length ≤ 1000) :
    Calls Try.prog 49 #[.pointer (some ⟨B, 0, none⟩), .int .i64 what, .int .i64 arg] w (Done B p A cp w (.tuple #[]) (r.note what arg)) := by
  have m19 : w.cell? ⟨B, 19, none⟩ = some nv := h.row.cell_ (i := 19) rfl
  have m3 : w.cell? ⟨B, 3, none⟩ = some (.int .i64 r.task) := h.row.cell_ (i := 3) rfl
  have HP := Lib.hid h
  have HL := Lib.hid hl
  clear h hl
  go_enter Try.func49, Try.ntmps49
  go_upto_region 1 with (fail)
  refine wp_region_phase (n := 18) 14 (fun w => w.cell? ⟨B, 19, none⟩ = some nv ∧ w.cell? ⟨B, 3, none⟩ = some (.int .i64 r.task)) rfl (by kernel_rfl) ⟨m19, m3⟩ (fun hHeld => ?_)
  have HP1 := Lib.hid (HP.out.keep (Only.refl Nil w).drew)
  have HO1 := Lib.hid ((Only.refl (TurnB B A) w).drew)
  clear m19 m3 HP
  generalize w.drew = w2 at *
  refine pa_0 rfl rfl (.pointer (some ⟨B, 0, none⟩)) (by kernel_rfl) (by kernel_rfl) (by kernel_rfl) (by decide) (by kernel_rfl) (fun _ _ _ h => h) (by rfl) (fun w => ?_) (by first | (right; assumption) | (left; kernel_rfl)) ?_
  · go_simp
  (try simp only [Act.put, List.setIfInBounds_toArray, List.set_cons_zero, List.set_cons_succ])
  refine pa_1 rfl rfl (.pointer (some ⟨B, 0, none⟩)) (by kernel_rfl) (by kernel_rfl) (by kernel_rfl) (by decide) (by kernel_rfl) (fun _ _ _ h => h) (by rfl) (fun w => ?_) (by first | (right; assumption) | (left; kernel_rfl)) ?_
  · go_simp
  (try simp only [Act.put, List.setIfInBounds_toArray, List.set_cons_zero, List.set_cons_succ])
  refine pa_2 rfl rfl (.pointer (some ⟨B, 0, none⟩)) (by kernel_rfl) (by kernel_rfl) (by kernel_rfl) (by decide) (by kernel_rfl) (fun _ _ _ h => h) (by rfl) (fun w => ?_) (by first | (right; assumption) | (left; kernel_rfl)) ?_
  · go_simp
  (try simp only [Act.put, List.setIfInBounds_toArray, List.set_cons_zero, List.set_cons_succ])
  refine pa_3 rfl rfl (.pointer (some ⟨B, 19, none⟩)) (by kernel_rfl) (by kernel_rfl) (by kernel_rfl) (by decide) (by kernel_rfl) (fun _ _ _ h => h) (by rfl) (fun w => ?_) (by first | (right; assumption) | (left; kernel_rfl)) ?_
  · go_simp
  (try simp only [Act.put, List.setIfInBounds_toArray, List.set_cons_zero, List.set_cons_succ])
  refine pt_4 rfl rfl 9 (nv) (by kernel_rfl) (by kernel_rfl) (by kernel_rfl) (by kernel_rfl) (by kernel_rfl) (fun _ _ _ h => h) (by rfl) (fun w hSw => ?_) (by assumption) ?_
  · (try dsimp only at hSw)
    go_split_ands
    go_simp
  (try simp only [Act.put, List.setIfInBounds_toArray, List.set_cons_zero, List.set_cons_succ])
  refine pa_6 rfl rfl (.pointer (some ⟨B, 0, none⟩)) (by kernel_rfl) (by kernel_rfl) (by kernel_rfl) (by decide) (by kernel_rfl) (fun _ _ _ h => h) (by rfl) (fun w => ?_) (by first | (right; assumption) | (left; kernel_rfl)) ?_
  · go_simp
  (try simp only [Act.put, List.setIfInBounds_toArray, List.set_cons_zero, List.set_cons_succ])
  refine pa_7 rfl rfl (.pointer (some ⟨B, 0, none⟩)) (by kernel_rfl) (by kernel_rfl) (by kernel_rfl) (by decide) (by kernel_rfl) (fun _ _ _ h => h) (by rfl) (fun w => ?_) (by first | (right; assumption) | (left; kernel_rfl)) ?_
  · go_simp
  (try simp only [Act.put, List.setIfInBounds_toArray, List.set_cons_zero, List.set_cons_succ])
  refine pa_8 rfl rfl (.pointer (some ⟨B, 3, none⟩)) (by kernel_rfl) (by kernel_rfl) (by kernel_rfl) (by decide) (by kernel_rfl) (fun _ _ _ h => h) (by rfl) (fun w => ?_) (by first | (right; assumption) | (left; kernel_rfl)) ?_
  · go_simp
  (try simp only [Act.put, List.setIfInBounds_toArray, List.set_cons_zero, List.set_cons_succ])
  refine pt_9 rfl rfl 9 (.int .i64 r.task) (by kernel_rfl) (by kernel_rfl) (by kernel_rfl) (by kernel_rfl) (by kernel_rfl) (fun _ _ _ h => h) (by rfl) (fun w hSw => ?_) (by assumption) ?_
  · (try dsimp only at hSw)
    go_split_ands
    go_simp
  (try simp only [Act.put, List.setIfInBounds_toArray, List.set_cons_zero, List.set_cons_succ])
  refine pa_10 rfl rfl (.int .i64 what) (by kernel_rfl) (by kernel_rfl) (by kernel_rfl) (by decide) (by kernel_rfl) (fun _ _ _ h => h) (by rfl) (fun w => ?_) (by first | (right; assumption) | (left; kernel_rfl)) ?_
  · go_simp
  (try simp only [Act.put, List.setIfInBounds_toArray, List.set_cons_zero, List.set_cons_succ])
  refine pa_11 rfl rfl (.int .i64 arg) (by kernel_rfl) (by kernel_rfl) (by kernel_rfl) (by decide) (by kernel_rfl) (fun _ _ _ h => h) (by rfl) (fun w => ?_) (by first | (right; assumption) | (left; kernel_rfl)) ?_
  · go_simp
  (try simp only [Act.put, List.setIfInBounds_toArray, List.set_cons_zero, List.set_cons_succ])
  refine pa_12 rfl rfl (.agg #[.int .i64 r.task, .int .i64 what, .int .i64 0, .int .i64 arg]) (by kernel_rfl) (by kernel_rfl) (by kernel_rfl) (by decide) (by kernel_rfl) (fun _ _ _ h => h) (by rfl) (fun w => ?_) (by first | (right; assumption) | (left; kernel_rfl)) ?_
  · go_simp
  (try simp only [Act.put, List.setIfInBounds_toArray, List.set_cons_zero, List.set_cons_succ])
  refine pd_5_13 rfl rfl (by kernel_rfl) (by rfl) (fun K hK => ?_) (by rfl) (fun K hK => ?_)
  · go_simp
    refine (clip_any nv r.ns _ HP1.out.notes).mono ?_
    rintro e w4 ⟨rfl, rfl⟩
    refine hK.out _ _ (.inr hHeld) ?_
    clear hK K
    (try simp only [Act.put, List.setIfInBounds_toArray, List.set_cons_zero, List.set_cons_succ])
    refine pc_13 rfl rfl (by kernel_rfl) (by rfl) (fun K hK => ?_)
    go_simp
    have HP2 := Lib.hid (HP1.out.keep ((Only.refl Nil w2).alloc (.cells #[.int .i64 r.task, .int .i64 what, .int .i64 0, .int .i64 arg] 117)))
    have HO2 := Lib.hid (HO1.out.alloc (.cells #[.int .i64 r.task, .int .i64 what, .int .i64 0, .int .i64 arg] 117))
    have HN := Lib.hid (Row.new w2 117 #[.int .i64 r.task, .int .i64 what, .int .i64 0, .int .i64 arg])
    have hHeld2 : (w2.alloc (.cells #[.int .i64 r.task, .int .i64 what, .int .i64 0, .int .i64 arg] 117)).cell? ⟨B, 19, none⟩ = some nv ∧ (w2.alloc (.cells #[.int .i64 r.task, .int .i64 what, .int .i64 0, .int .i64 arg] 117)).cell? ⟨B, 3, none⟩ = some (.int .i64 r.task) := ⟨HP2.out.row.cell_ (i := 19) rfl, HP2.out.row.cell_ (i := 3) rfl⟩
    refine hK.out _ _ (.inr hHeld2) ?_
    clear hK K hHeld HP1 HO1
    generalize w2.alloc (.cells #[.int .i64 r.task, .int .i64 what, .int .i64 0, .int .i64 arg] 117) = w3 at *
    generalize w2.heap.size = g at *
    (try simp only [Act.put, List.setIfInBounds_toArray, List.set_cons_zero, List.set_cons_succ])
    refine pc_14 rfl rfl (by kernel_rfl) (by rfl) (fun K hK => ?_)
    refine wp_append_cut (.tmp 13) (.tmp 21) rfl nv r.ns _ g ⟨r.task, what, 0, arg⟩ (by rfl) (by rfl) HP2.out.notes HN.out HL.out (fun A9 n9 c9 w5 hown hO => ?_)
    have HP3 := Lib.hid (HP2.out.keep hO)
    have HO3 := Lib.hid (HO2.out.trans (hO.mono (T := TurnB B A) (fun _ _ h => h.elim)))
    have HV := Lib.hid hown
    refine hK.out _ _ (.inl (by kernel_rfl)) ?_
    clear hK K hHeld2 hO hown HP2 HO2 HN
    (try simp only [Act.put, List.setIfInBounds_toArray, List.set_cons_zero, List.set_cons_succ])
    refine pa_15 rfl rfl (.pointer (some ⟨B, 0, none⟩)) (by kernel_rfl) (by kernel_rfl) (by kernel_rfl) (by decide) (by kernel_rfl) (fun _ _ _ h => h) (by rfl) (fun w => ?_) (by first | (right; assumption) | (left; kernel_rfl)) ?_
    · go_simp
    (try simp only [Act.put, List.setIfInBounds_toArray, List.set_cons_zero, List.set_cons_succ])
    refine pa_16 rfl rfl (.pointer (some ⟨B, 19, none⟩)) (by kernel_rfl) (by kernel_rfl) (by kernel_rfl) (by decide) (by kernel_rfl) (fun _ _ _ h => h) (by rfl) (fun w => ?_) (by first | (right; assumption) | (left; kernel_rfl)) ?_
    · go_simp
    (try simp only [Act.put, List.setIfInBounds_toArray, List.set_cons_zero, List.set_cons_succ])
    have c19 : w5.cell? ⟨B, 19, none⟩ = some nv := HP3.out.row.cell_ (i := 19) rfl
    have f19 : w5.frozen? ⟨B, 19, none⟩ = false := HP3.out.row.frozen 19
    refine pc_17 rfl rfl (by kernel_rfl) (by rfl) (fun K hK => ?_)
    go_simp
    refine hK.out _ _ (.inl (by kernel_rfl)) ?_
    clear hK K c19 f19
    (try simp only [Act.put, List.setIfInBounds_toArray, List.set_cons_zero, List.set_cons_succ])
    refine wpAnyP_done (by kernel_rfl) ?_ _
    go_wp2
    go_returns
    exact ⟨rfl, HO3.out.setCell (p := ⟨B, 19, none⟩) (.inr (.inl rfl)) _, _, HP3.out.setNotes HV.out⟩
  · go_simp
    have HP2 := Lib.hid (HP1.out.keep ((Only.refl Nil w2).alloc (.cells #[.int .i64 r.task, .int .i64 what, .int .i64 0, .int .i64 arg] 117)))
    have HO2 := Lib.hid (HO1.out.alloc (.cells #[.int .i64 r.task, .int .i64 what, .int .i64 0, .int .i64 arg] 117))
    have HN := Lib.hid (Row.new w2 117 #[.int .i64 r.task, .int .i64 what, .int .i64 0, .int .i64 arg])
    have hHeld2 : (w2.alloc (.cells #[.int .i64 r.task, .int .i64 what, .int .i64 0, .int .i64 arg] 117)).cell? ⟨B, 19, none⟩ = some nv ∧ (w2.alloc (.cells #[.int .i64 r.task, .int .i64 what, .int .i64 0, .int .i64 arg] 117)).cell? ⟨B, 3, none⟩ = some (.int .i64 r.task) := ⟨HP2.out.row.cell_ (i := 19) rfl, HP2.out.row.cell_ (i := 3) rfl⟩
    refine hK.out _ _ (.inr hHeld2) ?_
    clear hK K hHeld HP1 HO1
    generalize w2.alloc (.cells #[.int .i64 r.task, .int .i64 what, .int .i64 0, .int .i64 arg] 117) = w3 at *
    generalize w2.heap.size = g at *
    (try simp only [Act.put, List.setIfInBounds_toArray, List.set_cons_zero, List.set_cons_succ])
    refine pc_5 rfl rfl (by kernel_rfl) (by rfl) (fun K hK => ?_)
    go_simp
    refine (clip_any nv r.ns _ HP2.out.notes).mono ?_
    rintro e w4 ⟨rfl, rfl⟩
    refine hK.out _ _ (.inr hHeld2) ?_
    clear hK K
    (try simp only [Act.put, List.setIfInBounds_toArray, List.set_cons_zero, List.set_cons_succ])
    refine pc_14 rfl rfl (by kernel_rfl) (by rfl) (fun K hK => ?_)
    refine wp_append_cut (.tmp 13) (.tmp 21) rfl nv r.ns _ g ⟨r.task, what, 0, arg⟩ (by rfl) (by rfl) HP2.out.notes HN.out HL.out (fun A9 n9 c9 w5 hown hO => ?_)
    have HP3 := Lib.hid (HP2.out.keep hO)
    have HO3 := Lib.hid (HO2.out.trans (hO.mono (T := TurnB B A) (fun _ _ h => h.elim)))
    have HV := Lib.hid hown
    refine hK.out _ _ (.inl (by kernel_rfl)) ?_
    clear hK K hHeld2 hO hown HP2 HO2 HN
    (try simp only [Act.put, List.setIfInBounds_toArray, List.set_cons_zero, List.set_cons_succ])
    refine pa_15 rfl rfl (.pointer (some ⟨B, 0, none⟩)) (by kernel_rfl) (by kernel_rfl) (by kernel_rfl) (by decide) (by kernel_rfl) (fun _ _ _ h => h) (by rfl) (fun w => ?_) (by first | (right; assumption) | (left; kernel_rfl)) ?_
    · go_simp
    (try simp only [Act.put, List.setIfInBounds_toArray, List.set_cons_zero, List.set_cons_succ])
    refine pa_16 rfl rfl (.pointer (some ⟨B, 19, none⟩)) (by kernel_rfl) (by kernel_rfl) (by kernel_rfl) (by decide) (by kernel_rfl) (fun _ _ _ h => h) (by rfl) (fun w => ?_) (by first | (right; assumption) | (left; kernel_rfl)) ?_
    · go_simp
    (try simp only [Act.put, List.setIfInBounds_toArray, List.set_cons_zero, List.set_cons_succ])
    have c19 : w5.cell? ⟨B, 19, none⟩ = some nv := HP3.out.row.cell_ (i := 19) rfl
    have f19 : w5.frozen? ⟨B, 19, none⟩ = false := HP3.out.row.frozen 19
    refine pc_17 rfl rfl (by kernel_rfl) (by rfl) (fun K hK => ?_)
    go_simp
    refine hK.out _ _ (.inl (by kernel_rfl)) ?_
    clear hK K c19 f19
    (try simp only [Act.put, List.setIfInBounds_toArray, List.set_cons_zero, List.set_cons_succ])
    refine wpAnyP_done (by kernel_rfl) ?_ _
    go_wp2
    go_returns
    exact ⟨rfl, HO3.out.setCell (p := ⟨B, 19, none⟩) (.inr (.inl rfl)) _, _, HP3.out.setNotes HV.out⟩
end Go.Proofs.Ytdmpaoajcnjbaaa
/- Contracts of Ahead, the program's and the answer's. -/
namespace Go.Proofs.Ytdmpaoajcnjbaaa
open Go.RowKit

theorem ahead_any (a b : Int) (w : World) :
    Calls Try.prog 71 #[.int .u32 a, .int .u32 b] w fun e w' => e = .returned (.int .i64 (aheadI a b)) ∧ w = w' := by
  go_enter Try.func71, Try.ntmps71
  go_wp2
  go_ret
  refine ⟨congrArg (fun x => Ending.returned (.int .i64 x)) ?_, rfl⟩
  simp only [wrap32, wrap64, aheadI]
  omega
end Go.Proofs.Ytdmpaoajcnjbaaa
/- Blocks that are known whole. -/
set_option linter.unusedVariables false
set_option linter.unusedSimpArgs false
namespace Go.Proofs.Ytdmpaoajcnjbaaa
open Go.RowKit

/-- Blocks that are known whole. -/
def RowsL (w : World) (L : List (Nat × TypeId × Array Value)) : Prop := ∀ x ∈ L, Row w x.1 x.2.1 x.2.2

theorem RowsL.keep {w w' : World} {L : List (Nat × TypeId × Array Value)} (h : RowsL w L) (ho : Only Nil w w') : RowsL w' L := fun x hx => (h x hx).only ho id

theorem RowsL.cons {w : World} {L : List (Nat × TypeId × Array Value)} {g : Nat} {t : TypeId} {cs : Array Value} (h : RowsL w L) (hr : Row w g t cs) : RowsL w ((g, t, cs) :: L) := fun x hx => by
  rcases List.mem_cons.1 hx with rfl | hx
  · exact hr
  · exact h x hx
end Go.Proofs.Ytdmpaoajcnjbaaa
/- Blocks beside a run, the program's: a call of the run's leaves them. -/
set_option linter.unusedVariables false
set_option linter.unusedSimpArgs false
namespace Go.Proofs.Ytdmpaoajcnjbaaa
open Go.RowKit

/-- Types of blocks that a run's calls leave alone. -/
def Aside (t : TypeId) : Prop := t ≠ 63 ∧ t ≠ 75 ∧ t ≠ 22
theorem RunP.aside {w w' : World} {B : Nat} {p A : Option Addr} {cp : Nat} {nv : Value} {r : LS} {g : Nat} {t : TypeId} {cs : Array Value} (h : RunP w B p A cp nv r) (hg : Row w g t cs) (ho : Only (TurnB B A) w w') (ht : Aside t) : Row w' g t cs :=
  hg.only ho (fun e => by
    rcases e with e | e
    · exact row_ne hg h.row ht.1 e
    · exact memo_not h.memo hg ht.2.1 ht.2.2 (.inr e))
theorem RowsL.turn {w w' : World} {B : Nat} {p A : Option Addr} {cp : Nat} {nv : Value} {r : LS} {L : List (Nat × TypeId × Array Value)} (h : RowsL w L) (hp : RunP w B p A cp nv r) (ho : Only (TurnB B A) w w') (ht : ∀ x ∈ L, Aside x.2.1) : RowsL w' L := fun x hx => hp.aside (h x hx) ho (ht x hx)
end Go.Proofs.Ytdmpaoajcnjbaaa
/- tf's lines, the program's: the closures that a step is made of. -/
set_option linter.unusedVariables false
set_option linter.unusedSimpArgs false
namespace Go.Proofs.Ytdmpaoajcnjbaaa
open Go.RowKit

/-- What makes a step: a closure of the function F, by which the run becomes r'. -/
def Clo (F : Nat) (B : Nat) (p A : Option Addr) (cp : Nat) (r' : LS) (w : World) (e : Ending) (w' : World) : Prop :=
  ∃ caps, e = .returned (.func (.func F) #[] caps) ∧ Only Nil w w' ∧ Calls Try.prog F caps w' (Done B p A cp w' (.tuple #[]) r')

section
variable {w : World} {B : Nat} {p A : Option Addr} {cp : Nat} {nv : Value} {r : LS}
theorem RunP.setA (h : RunP w B p A cp nv r) (v : Int) : RunP (w.setCell ⟨B, 6, none⟩ (.int .u32 v)) B p A cp nv (r.keepA v) :=
  h.turn ((Only.refl (· = B) w).setCell (p := ⟨B, 6, none⟩) (.inr rfl) _) (h.row.set 6 (.int .u32 v)) rfl rfl
theorem RunP.setB (h : RunP w B p A cp nv r) (v : Int) : RunP (w.setCell ⟨B, 7, none⟩ (.int .u32 v)) B p A cp nv (r.keepB v) :=
  h.turn ((Only.refl (· = B) w).setCell (p := ⟨B, 7, none⟩) (.inr rfl) _) (h.row.set 7 (.int .u32 v)) rfl rfl
end
theorem aside_p : Aside 64 := ⟨by decide, by decide, by decide⟩
theorem aside_i : Aside 3 := ⟨by decide, by decide, by decide⟩
theorem aside_1 {g0 B : Nat} : ∀ x ∈ [(g0, 64, #[Value.pointer (some ⟨B, 0, none⟩)])], Aside x.2.1 := by
  intro x hx
  simp only [List.mem_cons, List.not_mem_nil, or_false] at hx
  rcases hx with rfl
  exact aside_p
theorem aside_2 {g0 B g1 : Nat} {v : Value} : ∀ x ∈ [(g0, 64, #[Value.pointer (some ⟨B, 0, none⟩)]), (g1, 3, #[v])], Aside x.2.1 := by
  intro x hx
  simp only [List.mem_cons, List.not_mem_nil, or_false] at hx
  rcases hx with rfl | rfl
  · exact aside_p
  · exact aside_i
theorem aside_3 {g0 B g1 g2 : Nat} {v v' : Value} : ∀ x ∈ [(g0, 64, #[Value.pointer (some ⟨B, 0, none⟩)]), (g1, 3, #[v]), (g2, 3, #[v'])], Aside x.2.1 := by
  intro x hx
  simp only [List.mem_cons, List.not_mem_nil, or_false] at hx
  rcases hx with rfl | rfl | rfl
  · exact aside_p
  · exact aside_i
  · exact aside_i


theorem turn_clo (B : Nat) (p A : Option Addr) (cp : Nat) (nv : Value) (r : LS) (c what : Int) (g0 g1 g2 : Nat) (w : World) (h : RunP w B p A cp nv r) (hl : r.ns.length ≤ 900)
    (hb : RowsL w [(g0, 64, #[Value.pointer (some ⟨B, 0, none⟩)]), (g1, 3, #[.int .i64 c]), (g2, 3, #[.int .i64 what])]) :
    Calls Try.prog 64 #[.pointer (some ⟨g0, 0, none⟩), .pointer (some ⟨g1, 0, none⟩), .pointer (some ⟨g2, 0, none⟩)] w (Done B p A cp w (.tuple #[]) (r.turn c what)) := by
  have HP0 := Lib.hid h
  have HB0 := Lib.hid hb
  have HL := Lib.hid hl
  have HO0 := Lib.hid (Only.refl (TurnB B A) w)
  clear h hb hl
  have b0 : w.cell? ⟨g0, 0, none⟩ = some (Value.pointer (some ⟨B, 0, none⟩)) := (show Row w g0 64 #[Value.pointer (some ⟨B, 0, none⟩)] from HB0.out _ (.head _)).cell_ (i := 0) rfl
  have b1 : w.cell? ⟨g1, 0, none⟩ = some (.int .i64 c) := (show Row w g1 3 #[.int .i64 c] from HB0.out _ (.tail _ (.head _))).cell_ (i := 0) rfl
  go_enter Try.func64, Try.ntmps64
  go_wp2_with fail
  clear b0 b1
  refine (add_run B p A cp nv r c 1 _ HP0.out).mono ?_
  rintro e w1 ⟨rfl, hO, nv1, hP⟩
  have HO1 := Lib.hid (HO0.out.trans hO)
  have HB1 := Lib.hid (HB0.out.turn HP0.out hO aside_3)
  have HP1 := Lib.hid hP
  clear hO hP HP0 HO0 HB0
  have b0 : w1.cell? ⟨g0, 0, none⟩ = some (Value.pointer (some ⟨B, 0, none⟩)) := (show Row w1 g0 64 #[Value.pointer (some ⟨B, 0, none⟩)] from HB1.out _ (.head _)).cell_ (i := 0) rfl
  have b2 : w1.cell? ⟨g2, 0, none⟩ = some (.int .i64 what) := (show Row w1 g2 3 #[.int .i64 what] from HB1.out _ (.tail _ (.tail _ (.head _)))).cell_ (i := 0) rfl
  go_wp2_with fail
  clear b0 b2
  refine (note_run B p A cp nv1 _ what 0 _ HP1.out (show (r.doA 3 c 1 0).ns.length ≤ 1000 from Nat.le_trans HL.out (by decide))).mono ?_
  rintro e w2 ⟨rfl, hO, nv2, hP⟩
  have HO2 := Lib.hid (HO1.out.trans hO)
  have HB2 := Lib.hid (HB1.out.turn HP1.out hO aside_3)
  have HP2 := Lib.hid hP
  clear hO hP HP1 HO1 HB1
  have b0 : w2.cell? ⟨g0, 0, none⟩ = some (Value.pointer (some ⟨B, 0, none⟩)) := (show Row w2 g0 64 #[Value.pointer (some ⟨B, 0, none⟩)] from HB2.out _ (.head _)).cell_ (i := 0) rfl
  have b1 : w2.cell? ⟨g1, 0, none⟩ = some (.int .i64 c) := (show Row w2 g1 3 #[.int .i64 c] from HB2.out _ (.tail _ (.head _))).cell_ (i := 0) rfl
  go_wp2_with fail
  clear b0 b1
  refine (wake_run B p A cp nv2 _ c _ HP2.out).mono ?_
  rintro e w3 ⟨rfl, hO, nv3, hP⟩
  have HO3 := Lib.hid (HO2.out.trans hO)
  have HB3 := Lib.hid (HB2.out.turn HP2.out hO aside_3)
  have HP3 := Lib.hid hP
  clear hO hP HP2 HO2 HB2
  have b0 : w3.cell? ⟨g0, 0, none⟩ = some (Value.pointer (some ⟨B, 0, none⟩)) := (show Row w3 g0 64 #[Value.pointer (some ⟨B, 0, none⟩)] from HB3.out _ (.head _)).cell_ (i := 0) rfl
  go_wp2_with fail
  clear b0
  refine (end_run B p A cp nv3 _ _ true HP3.out).mono ?_
  rintro e w4 ⟨rfl, hO, nv4, hP⟩
  have HO4 := Lib.hid (HO3.out.trans hO)
  have HP4 := Lib.hid hP
  clear hO hP
  go_wp2
  go_returns
  exact ⟨rfl, HO4.out, nv4, HP4.out⟩

theorem turn_make (B : Nat) (p A : Option Addr) (cp : Nat) (nv : Value) (r : LS) (c what : Int) (w : World) (h : RunP w B p A cp nv r) (hl : r.ns.length ≤ 900) :
    Calls Try.prog 42 #[Value.pointer (some ⟨B, 0, none⟩), .int .i64 c, .int .i64 what] w (Clo 64 B p A cp (r.turn c what) w) := by
  have e0 := (((Only.refl Nil w).alloc (.cells #[Value.pointer (some ⟨B, 0, none⟩)] 64)).alloc (.cells #[.int .i64 c] 3)).alloc (.cells #[.int .i64 what] 3)
  have HC := Lib.hid (turn_clo B p A cp nv r c what w.heap.size (w.heap.size + 1) (w.heap.size + 1 + 1) _ (h.keep e0) hl (RowsL.cons (L := [_, _]) (RowsL.cons (L := [_]) (RowsL.cons (L := []) (fun _ h => by simp at h) (Row.at (by simp))) ((Row.at (by simp)).alloc _)) (((Row.new w 64 #[Value.pointer (some ⟨B, 0, none⟩)]).alloc _).alloc _)))
  have HE := Lib.hid e0
  clear h hl e0
  go_enter Try.func42, Try.ntmps42
  go_wp2
  go_ret
  exact ⟨_, rfl, HE.out, HC.out⟩

theorem leave_clo (B : Nat) (p A : Option Addr) (cp : Nat) (nv : Value) (r : LS) (g0 : Nat) (w : World) (h : RunP w B p A cp nv r) (hl : r.ns.length ≤ 900) (hb : RowsL w [(g0, 64, #[Value.pointer (some ⟨B, 0, none⟩)])]) :
    Calls Try.prog 67 #[.pointer (some ⟨g0, 0, none⟩)] w (Done B p A cp w (.tuple #[]) r.leave) := by
  have HP0 := Lib.hid h
  have HB0 := Lib.hid hb
  have HL := Lib.hid hl
  have HO0 := Lib.hid (Only.refl (TurnB B A) w)
  clear h hb hl
  have b0 : w.cell? ⟨g0, 0, none⟩ = some (Value.pointer (some ⟨B, 0, none⟩)) := (show Row w g0 64 #[Value.pointer (some ⟨B, 0, none⟩)] from HB0.out _ (.head _)).cell_ (i := 0) rfl
  go_enter Try.func67, Try.ntmps67
  go_wp2_with fail
  clear b0
  refine (add_run B p A cp nv r 1 1 _ HP0.out).mono ?_
  rintro e w1 ⟨rfl, hO, nv1, hP⟩
  have HO1 := Lib.hid (HO0.out.trans hO)
  have HB1 := Lib.hid (HB0.out.turn HP0.out hO aside_1)
  have HP1 := Lib.hid hP
  clear hO hP HP0 HO0 HB0
  have b0 : w1.cell? ⟨g0, 0, none⟩ = some (Value.pointer (some ⟨B, 0, none⟩)) := (show Row w1 g0 64 #[Value.pointer (some ⟨B, 0, none⟩)] from HB1.out _ (.head _)).cell_ (i := 0) rfl
  go_wp2_with fail
  clear b0
  refine (note_run B p A cp nv1 _ 7 0 _ HP1.out (show (r.doA 3 1 1 0).ns.length ≤ 1000 from Nat.le_trans HL.out (by decide))).mono ?_
  rintro e w2 ⟨rfl, hO, nv2, hP⟩
  have HO2 := Lib.hid (HO1.out.trans hO)
  have HB2 := Lib.hid (HB1.out.turn HP1.out hO aside_1)
  have HP2 := Lib.hid hP
  clear hO hP HP1 HO1 HB1
  have b0 : w2.cell? ⟨g0, 0, none⟩ = some (Value.pointer (some ⟨B, 0, none⟩)) := (show Row w2 g0 64 #[Value.pointer (some ⟨B, 0, none⟩)] from HB2.out _ (.head _)).cell_ (i := 0) rfl
  go_wp2_with fail
  clear b0
  refine (wake_run B p A cp nv2 _ 1 _ HP2.out).mono ?_
  rintro e w3 ⟨rfl, hO, nv3, hP⟩
  have HO3 := Lib.hid (HO2.out.trans hO)
  have HB3 := Lib.hid (HB2.out.turn HP2.out hO aside_1)
  have HP3 := Lib.hid hP
  clear hO hP HP2 HO2 HB2
  have b0 : w3.cell? ⟨g0, 0, none⟩ = some (Value.pointer (some ⟨B, 0, none⟩)) := (show Row w3 g0 64 #[Value.pointer (some ⟨B, 0, none⟩)] from HB3.out _ (.head _)).cell_ (i := 0) rfl
  go_wp2_with fail
  clear b0
  refine (go_run B p A cp nv3 _ 1 _ HP3.out).mono ?_
  rintro e w4 ⟨rfl, hO, nv4, hP⟩
  have HO4 := Lib.hid (HO3.out.trans hO)
  have HP4 := Lib.hid hP
  clear hO hP
  go_wp2
  go_returns
  exact ⟨rfl, HO4.out, nv4, HP4.out⟩

theorem leave_make (B : Nat) (p A : Option Addr) (cp : Nat) (nv : Value) (r : LS) (w : World) (h : RunP w B p A cp nv r) (hl : r.ns.length ≤ 900) :
    Calls Try.prog 44 #[Value.pointer (some ⟨B, 0, none⟩)] w (Clo 67 B p A cp r.leave w) := by
  have e0 := (Only.refl Nil w).alloc (.cells #[Value.pointer (some ⟨B, 0, none⟩)] 64)
  have HC := Lib.hid (leave_clo B p A cp nv r _ _ (h.keep e0) hl (RowsL.cons (L := []) (fun _ h => by simp at h) (Row.new w 64 #[Value.pointer (some ⟨B, 0, none⟩)])))
  have HE := Lib.hid e0
  clear h hl e0
  go_enter Try.func44, Try.ntmps44
  go_wp2
  go_ret
  exact ⟨_, rfl, HE.out, HC.out⟩

theorem back_clo (B : Nat) (p A : Option Addr) (cp : Nat) (nv : Value) (r : LS) (g0 : Nat) (w : World) (h : RunP w B p A cp nv r) (hl : r.ns.length ≤ 900) (hb : RowsL w [(g0, 64, #[Value.pointer (some ⟨B, 0, none⟩)])]) :
    Calls Try.prog 75 #[.pointer (some ⟨g0, 0, none⟩)] w (Done B p A cp w (.tuple #[]) r.giveBack) := by
  have HP0 := Lib.hid h
  have HB0 := Lib.hid hb
  have HL := Lib.hid hl
  have HO0 := Lib.hid (Only.refl (TurnB B A) w)
  clear h hb hl
  have b0 : w.cell? ⟨g0, 0, none⟩ = some (Value.pointer (some ⟨B, 0, none⟩)) := (show Row w g0 64 #[Value.pointer (some ⟨B, 0, none⟩)] from HB0.out _ (.head _)).cell_ (i := 0) rfl
  go_enter Try.func75, Try.ntmps75
  go_wp2_with fail
  clear b0
  refine (add_run B p A cp nv r 2 1 _ HP0.out).mono ?_
  rintro e w1 ⟨rfl, hO, nv1, hP⟩
  have HO1 := Lib.hid (HO0.out.trans hO)
  have HB1 := Lib.hid (HB0.out.turn HP0.out hO aside_1)
  have HP1 := Lib.hid hP
  clear hO hP HP0 HO0 HB0
  have b0 : w1.cell? ⟨g0, 0, none⟩ = some (Value.pointer (some ⟨B, 0, none⟩)) := (show Row w1 g0 64 #[Value.pointer (some ⟨B, 0, none⟩)] from HB1.out _ (.head _)).cell_ (i := 0) rfl
  go_wp2_with fail
  clear b0
  refine (end_run B p A cp nv1 _ _ true HP1.out).mono ?_
  rintro e w4 ⟨rfl, hO, nv4, hP⟩
  have HO4 := Lib.hid (HO1.out.trans hO)
  have HP4 := Lib.hid hP
  clear hO hP
  go_wp2
  go_returns
  exact ⟨rfl, HO4.out, nv4, HP4.out⟩
theorem back_make (B : Nat) (p A : Option Addr) (cp : Nat) (nv : Value) (r : LS) (w : World) (h : RunP w B p A cp nv r) (hl : r.ns.length ≤ 900) :
    Calls Try.prog 54 #[Value.pointer (some ⟨B, 0, none⟩)] w (Clo 75 B p A cp r.giveBack w) := by
  have e0 := (Only.refl Nil w).alloc (.cells #[Value.pointer (some ⟨B, 0, none⟩)] 64)
  have HC := Lib.hid (back_clo B p A cp nv r _ _ (h.keep e0) hl (RowsL.cons (L := []) (fun _ h => by simp at h) (Row.new w 64 #[Value.pointer (some ⟨B, 0, none⟩)])))
  have HE := Lib.hid e0
  clear h hl e0
  go_enter Try.func54, Try.ntmps54
  go_wp2
  go_ret
  exact ⟨_, rfl, HE.out, HC.out⟩

theorem then_1 (B : Nat) (p A : Option Addr) (cp : Nat) (nv : Value) (r : LS) (g0 : Nat) (w : World) (h : RunP w B p A cp nv r) (hl : r.ns.length ≤ 900) (hb : RowsL w [(g0, 64, #[Value.pointer (some ⟨B, 0, none⟩)])]) :
    Calls Try.prog 48 #[.pointer (some ⟨g0, 0, none⟩)] w (Done B p A cp w (.tuple #[]) ((r.note 2 1).go 3)) := by
  have HP0 := Lib.hid h
  have HB0 := Lib.hid hb
  have HL := Lib.hid hl
  have HO0 := Lib.hid (Only.refl (TurnB B A) w)
  clear h hb hl
  have b0 : w.cell? ⟨g0, 0, none⟩ = some (Value.pointer (some ⟨B, 0, none⟩)) := (show Row w g0 64 #[Value.pointer (some ⟨B, 0, none⟩)] from HB0.out _ (.head _)).cell_ (i := 0) rfl
  go_enter Try.func48, Try.ntmps48
  go_wp2_with fail
  clear b0
  refine (note_run B p A cp nv _ 2 1 _ HP0.out (Nat.le_trans HL.out (by decide))).mono ?_
  rintro e w1 ⟨rfl, hO, nv1, hP⟩
  have HO1 := Lib.hid (HO0.out.trans hO)
  have HB1 := Lib.hid (HB0.out.turn HP0.out hO aside_1)
  have HP1 := Lib.hid hP
  clear hO hP HP0 HO0 HB0
  have b0 : w1.cell? ⟨g0, 0, none⟩ = some (Value.pointer (some ⟨B, 0, none⟩)) := (show Row w1 g0 64 #[Value.pointer (some ⟨B, 0, none⟩)] from HB1.out _ (.head _)).cell_ (i := 0) rfl
  go_wp2_with fail
  clear b0
  refine (go_run B p A cp nv1 _ 3 _ HP1.out).mono ?_
  rintro e w4 ⟨rfl, hO, nv4, hP⟩
  have HO4 := Lib.hid (HO1.out.trans hO)
  have HP4 := Lib.hid hP
  clear hO hP
  go_wp2
  go_returns
  exact ⟨rfl, HO4.out, nv4, HP4.out⟩
theorem then_3 (B : Nat) (p A : Option Addr) (cp : Nat) (nv : Value) (r : LS) (g0 : Nat) (w : World) (h : RunP w B p A cp nv r) (hl : r.ns.length ≤ 900) (hb : RowsL w [(g0, 64, #[Value.pointer (some ⟨B, 0, none⟩)])]) :
    Calls Try.prog 53 #[.pointer (some ⟨g0, 0, none⟩)] w (Done B p A cp w (.tuple #[]) ((r.note 9 0).go 3)) := by
  have HP0 := Lib.hid h
  have HB0 := Lib.hid hb
  have HL := Lib.hid hl
  have HO0 := Lib.hid (Only.refl (TurnB B A) w)
  clear h hb hl
  have b0 : w.cell? ⟨g0, 0, none⟩ = some (Value.pointer (some ⟨B, 0, none⟩)) := (show Row w g0 64 #[Value.pointer (some ⟨B, 0, none⟩)] from HB0.out _ (.head _)).cell_ (i := 0) rfl
  go_enter Try.func53, Try.ntmps53
  go_wp2_with fail
  clear b0
  refine (note_run B p A cp nv _ 9 0 _ HP0.out (Nat.le_trans HL.out (by decide))).mono ?_
  rintro e w1 ⟨rfl, hO, nv1, hP⟩
  have HO1 := Lib.hid (HO0.out.trans hO)
  have HB1 := Lib.hid (HB0.out.turn HP0.out hO aside_1)
  have HP1 := Lib.hid hP
  clear hO hP HP0 HO0 HB0
  have b0 : w1.cell? ⟨g0, 0, none⟩ = some (Value.pointer (some ⟨B, 0, none⟩)) := (show Row w1 g0 64 #[Value.pointer (some ⟨B, 0, none⟩)] from HB1.out _ (.head _)).cell_ (i := 0) rfl
  go_wp2_with fail
  clear b0
  refine (go_run B p A cp nv1 _ 3 _ HP1.out).mono ?_
  rintro e w4 ⟨rfl, hO, nv4, hP⟩
  have HO4 := Lib.hid (HO1.out.trans hO)
  have HP4 := Lib.hid hP
  clear hO hP
  go_wp2
  go_returns
  exact ⟨rfl, HO4.out, nv4, HP4.out⟩
theorem then_2 (B : Nat) (p A : Option Addr) (cp : Nat) (nv : Value) (r : LS) (g0 : Nat) (w : World) (h : RunP w B p A cp nv r) (hl : r.ns.length ≤ 900) (hb : RowsL w [(g0, 64, #[Value.pointer (some ⟨B, 0, none⟩)])]) :
    Calls Try.prog 51 #[.pointer (some ⟨g0, 0, none⟩)] w (Done B p A cp w (.tuple #[]) (((r.note 2 2).note 4 0).fin true)) := by
  have HP0 := Lib.hid h
  have HB0 := Lib.hid hb
  have HL := Lib.hid hl
  have HO0 := Lib.hid (Only.refl (TurnB B A) w)
  clear h hb hl
  have b0 : w.cell? ⟨g0, 0, none⟩ = some (Value.pointer (some ⟨B, 0, none⟩)) := (show Row w g0 64 #[Value.pointer (some ⟨B, 0, none⟩)] from HB0.out _ (.head _)).cell_ (i := 0) rfl
  go_enter Try.func51, Try.ntmps51
  go_wp2_with fail
  clear b0
  refine (note_run B p A cp nv _ 2 2 _ HP0.out (Nat.le_trans HL.out (by decide))).mono ?_
  rintro e w1 ⟨rfl, hO, nv1, hP⟩
  have HO1 := Lib.hid (HO0.out.trans hO)
  have HB1 := Lib.hid (HB0.out.turn HP0.out hO aside_1)
  have HP1 := Lib.hid hP
  clear hO hP HP0 HO0 HB0
  have b0 : w1.cell? ⟨g0, 0, none⟩ = some (Value.pointer (some ⟨B, 0, none⟩)) := (show Row w1 g0 64 #[Value.pointer (some ⟨B, 0, none⟩)] from HB1.out _ (.head _)).cell_ (i := 0) rfl
  go_wp2_with fail
  clear b0
  refine (note_run B p A cp nv1 _ 4 0 _ HP1.out (by have := HL.out; simp only [LS.note, List.length_append, List.length_cons, List.length_nil]; omega)).mono ?_
  rintro e w2 ⟨rfl, hO, nv2, hP⟩
  have HO2 := Lib.hid (HO1.out.trans hO)
  have HB2 := Lib.hid (HB1.out.turn HP1.out hO aside_1)
  have HP2 := Lib.hid hP
  clear hO hP HP1 HO1 HB1
  have b0 : w2.cell? ⟨g0, 0, none⟩ = some (Value.pointer (some ⟨B, 0, none⟩)) := (show Row w2 g0 64 #[Value.pointer (some ⟨B, 0, none⟩)] from HB2.out _ (.head _)).cell_ (i := 0) rfl
  go_wp2_with fail
  clear b0
  refine (end_run B p A cp nv2 _ _ true HP2.out).mono ?_
  rintro e w4 ⟨rfl, hO, nv4, hP⟩
  have HO4 := Lib.hid (HO2.out.trans hO)
  have HP4 := Lib.hid hP
  clear hO hP
  go_wp2
  go_returns
  exact ⟨rfl, HO4.out, nv4, HP4.out⟩

set_option maxHeartbeats 1000000 in
theorem draw_clo (B : Nat) (p A : Option Addr) (cp : Nat) (nv : Value) (r : LS) (cl : Int) (g0 g1 : Nat) (w : World) (h : RunP w B p A cp nv r) (hl : r.ns.length ≤ 900)
    (hb : RowsL w [(g0, 64, #[Value.pointer (some ⟨B, 0, none⟩)]), (g1, 3, #[.int .i64 cl])]) :
    Calls Try.prog 59 #[.pointer (some ⟨g0, 0, none⟩), .pointer (some ⟨g1, 0, none⟩)] w (Done B p A cp w (.tuple #[]) (r.draw cl)) := by
  have HP0 := Lib.hid h
  have HB0 := Lib.hid hb
  have HL := Lib.hid hl
  have HO0 := Lib.hid (Only.refl (TurnB B A) w)
  clear h hb hl
  have b0 : w.cell? ⟨g0, 0, none⟩ = some (Value.pointer (some ⟨B, 0, none⟩)) := (show Row w g0 64 #[Value.pointer (some ⟨B, 0, none⟩)] from HB0.out _ (.head _)).cell_ (i := 0) rfl
  go_enter Try.func59, Try.ntmps59
  go_upto_region 0 with (fail)
  refine wp_region_phase (n := 7) 6 (fun w => w.cell? ⟨g0, 0, none⟩ = some (Value.pointer (some ⟨B, 0, none⟩))) rfl (by kernel_rfl) b0 (fun hHeld => ?_)
  clear b0
  have HP0b := Lib.hid (HP0.out.keep (Only.refl Nil w).drew)
  have HB0b := Lib.hid (HB0.out.keep (Only.refl Nil w).drew)
  have HO0b := Lib.hid HO0.out.drew
  clear HP0 HB0 HO0
  generalize w.drew = w0 at *
  refine pt_0 rfl rfl 9 (Value.pointer (some ⟨B, 0, none⟩)) (by kernel_rfl) (by kernel_rfl) (by kernel_rfl) (by kernel_rfl) (by kernel_rfl) (fun _ _ _ h => h) (by rfl) (fun w hSw => ?_) (by assumption) ?_
  · (try dsimp only at hSw)
    go_split_ands
    go_simp
  (try simp only [Act.put, List.setIfInBounds_toArray, List.set_cons_zero, List.set_cons_succ])
  refine pt_1 rfl rfl 9 (Value.pointer (some ⟨B, 0, none⟩)) (by kernel_rfl) (by kernel_rfl) (by kernel_rfl) (by kernel_rfl) (by kernel_rfl) (fun _ _ _ h => h) (by rfl) (fun w hSw => ?_) (by assumption) ?_
  · (try dsimp only at hSw)
    go_split_ands
    go_simp
  (try simp only [Act.put, List.setIfInBounds_toArray, List.set_cons_zero, List.set_cons_succ])
  refine pc_2 rfl rfl (by kernel_rfl) (by rfl) (fun K hK => ?_)
  go_simp
  refine (add_run B p A cp nv r 0 1 _ HP0b.out).mono ?_
  rintro e w1 ⟨rfl, hO, nv1, hP⟩
  have HO1 := Lib.hid (HO0b.out.trans hO)
  have HB1 := Lib.hid (HB0b.out.turn HP0b.out hO aside_2)
  have HP1 := Lib.hid hP
  clear hO hP HP0b HO0b HB0b
  have hHeld2 : w1.cell? ⟨g0, 0, none⟩ = some (Value.pointer (some ⟨B, 0, none⟩)) := (show Row w1 g0 64 #[Value.pointer (some ⟨B, 0, none⟩)] from HB1.out _ (.head _)).cell_ (i := 0) rfl
  refine hK.out _ _ (.inr hHeld2) ?_
  clear hK K hHeld
  (try simp only [Act.put, List.setIfInBounds_toArray, List.set_cons_zero, List.set_cons_succ])
  refine pa_3 rfl rfl (Value.pointer (some ⟨B, 0, none⟩)) (by kernel_rfl) (by kernel_rfl) (by kernel_rfl) (by decide) (by kernel_rfl) (fun _ _ _ h => h) (by rfl) (fun w => ?_) (by first | (right; assumption) | (left; kernel_rfl)) ?_
  · go_simp
  (try simp only [Act.put, List.setIfInBounds_toArray, List.set_cons_zero, List.set_cons_succ])
  refine pa_4 rfl rfl (.pointer (some ⟨B, 4, none⟩)) (by kernel_rfl) (by kernel_rfl) (by kernel_rfl) (by decide) (by kernel_rfl) (fun _ _ _ h => h) (by rfl) (fun w => ?_) (by first | (right; assumption) | (left; kernel_rfl)) ?_
  · go_simp
  (try simp only [Act.put, List.setIfInBounds_toArray, List.set_cons_zero, List.set_cons_succ])
  refine pa_5 rfl rfl (.pointer (some ⟨B, 6, none⟩)) (by kernel_rfl) (by kernel_rfl) (by kernel_rfl) (by decide) (by kernel_rfl) (fun _ _ _ h => h) (by rfl) (fun w => ?_) (by first | (right; assumption) | (left; kernel_rfl)) ?_
  · go_simp
  (try simp only [Act.put, List.setIfInBounds_toArray, List.set_cons_zero, List.set_cons_succ])
  have c6 : w1.cell? ⟨B, 6, none⟩ = some (.int .u32 (r.doA 3 0 1 0).a) := HP1.out.row.cell_ (i := 6) rfl
  have f6 : w1.frozen? ⟨B, 6, none⟩ = false := HP1.out.row.frozen 6
  refine pc_6 rfl rfl (by kernel_rfl) (by rfl) (fun K hK => ?_)
  go_simp
  have HP2 := Lib.hid (HP1.out.setA (wordAt r.xs 0))
  have HO2 := Lib.hid (HO1.out.setCell (p := ⟨B, 6, none⟩) (.inr (.inl rfl)) (.int .u32 (wordAt r.xs 0)))
  have HB2 := Lib.hid (HB1.out.turn HP1.out ((Only.refl (TurnB B A) w1).setCell (p := ⟨B, 6, none⟩) (.inr (.inl rfl)) (.int .u32 (wordAt r.xs 0))) aside_2)
  refine hK.out _ _ (.inl (by kernel_rfl)) ?_
  clear hK K hHeld2 c6 f6 HP1 HO1 HB1
  generalize w1.setCell ⟨B, 6, none⟩ (.int .u32 (wordAt r.xs 0)) = w2 at *
  (try simp only [Act.put, List.setIfInBounds_toArray, List.set_cons_zero, List.set_cons_succ])
  refine wpAnyP_done (by kernel_rfl) ?_ _
  have b0 : w2.cell? ⟨g0, 0, none⟩ = some (Value.pointer (some ⟨B, 0, none⟩)) := (show Row w2 g0 64 #[Value.pointer (some ⟨B, 0, none⟩)] from HB2.out _ (.head _)).cell_ (i := 0) rfl
  have b1 : w2.cell? ⟨g1, 0, none⟩ = some (.int .i64 cl) := (show Row w2 g1 3 #[.int .i64 cl] from HB2.out _ (.tail _ (.head _))).cell_ (i := 0) rfl
  go_wp2_with fail
  clear b0 b1
  refine (note_run B p A cp nv1 _ 2 cl _ HP2.out (show (r.doA 3 0 1 0).ns.length ≤ 1000 from Nat.le_trans HL.out (by decide))).mono ?_
  rintro e w3 ⟨rfl, hO, nv3, hP⟩
  have HO3 := Lib.hid (HO2.out.trans hO)
  have HB3 := Lib.hid (HB2.out.turn HP2.out hO aside_2)
  have HP3 := Lib.hid hP
  clear hO hP HP2 HO2 HB2
  have b0 : w3.cell? ⟨g0, 0, none⟩ = some (Value.pointer (some ⟨B, 0, none⟩)) := (show Row w3 g0 64 #[Value.pointer (some ⟨B, 0, none⟩)] from HB3.out _ (.head _)).cell_ (i := 0) rfl
  go_wp2_with fail
  clear b0
  refine (go_run B p A cp nv3 _ 1 _ HP3.out).mono ?_
  rintro e w4 ⟨rfl, hO, nv4, hP⟩
  have HO4 := Lib.hid (HO3.out.trans hO)
  have HP4 := Lib.hid hP
  clear hO hP
  go_wp2
  go_returns
  exact ⟨rfl, HO4.out, nv4, HP4.out⟩
theorem draw_make (B : Nat) (p A : Option Addr) (cp : Nat) (nv : Value) (r : LS) (cl : Int) (w : World) (h : RunP w B p A cp nv r) (hl : r.ns.length ≤ 900) :
    Calls Try.prog 40 #[Value.pointer (some ⟨B, 0, none⟩), .int .i64 cl] w (Clo 59 B p A cp (r.draw cl) w) := by
  have e0 := ((Only.refl Nil w).alloc (.cells #[Value.pointer (some ⟨B, 0, none⟩)] 64)).alloc (.cells #[.int .i64 cl] 3)
  have HC := Lib.hid (draw_clo B p A cp nv r cl w.heap.size (w.heap.size + 1) _ (h.keep e0) hl (RowsL.cons (L := [_]) (RowsL.cons (L := []) (fun _ h => by simp at h) (Row.at (by simp))) ((Row.new w 64 #[Value.pointer (some ⟨B, 0, none⟩)]).alloc _)))
  have HE := Lib.hid e0
  clear h hl e0
  go_enter Try.func40, Try.ntmps40
  go_wp2
  go_ret
  exact ⟨_, rfl, HE.out, HC.out⟩

set_option maxHeartbeats 1000000 in
theorem look_clo (B : Nat) (p A : Option Addr) (cp : Nat) (nv : Value) (r : LS) (g0 : Nat) (w : World) (h : RunP w B p A cp nv r) (hl : r.ns.length ≤ 900) (hb : RowsL w [(g0, 64, #[Value.pointer (some ⟨B, 0, none⟩)])]) :
    Calls Try.prog 68 #[.pointer (some ⟨g0, 0, none⟩)] w (Done B p A cp w (.tuple #[]) r.look) := by
  have HP0 := Lib.hid h
  have HB0 := Lib.hid hb
  have HL := Lib.hid hl
  have HO0 := Lib.hid (Only.refl (TurnB B A) w)
  clear h hb hl
  have b0 : w.cell? ⟨g0, 0, none⟩ = some (Value.pointer (some ⟨B, 0, none⟩)) := (show Row w g0 64 #[Value.pointer (some ⟨B, 0, none⟩)] from HB0.out _ (.head _)).cell_ (i := 0) rfl
  go_enter Try.func68, Try.ntmps68
  go_upto_region 0 with (fail)
  refine wp_region_phase (n := 7) 6 (fun w => w.cell? ⟨g0, 0, none⟩ = some (Value.pointer (some ⟨B, 0, none⟩))) rfl (by kernel_rfl) b0 (fun hHeld => ?_)
  clear b0
  have HP0b := Lib.hid (HP0.out.keep (Only.refl Nil w).drew)
  have HB0b := Lib.hid (HB0.out.keep (Only.refl Nil w).drew)
  have HO0b := Lib.hid HO0.out.drew
  clear HP0 HB0 HO0
  generalize w.drew = w0 at *
  refine pt_0 rfl rfl 9 (Value.pointer (some ⟨B, 0, none⟩)) (by kernel_rfl) (by kernel_rfl) (by kernel_rfl) (by kernel_rfl) (by kernel_rfl) (fun _ _ _ h => h) (by rfl) (fun w hSw => ?_) (by assumption) ?_
  · (try dsimp only at hSw)
    go_split_ands
    go_simp
  (try simp only [Act.put, List.setIfInBounds_toArray, List.set_cons_zero, List.set_cons_succ])
  refine pt_1 rfl rfl 9 (Value.pointer (some ⟨B, 0, none⟩)) (by kernel_rfl) (by kernel_rfl) (by kernel_rfl) (by kernel_rfl) (by kernel_rfl) (fun _ _ _ h => h) (by rfl) (fun w hSw => ?_) (by assumption) ?_
  · (try dsimp only at hSw)
    go_split_ands
    go_simp
  (try simp only [Act.put, List.setIfInBounds_toArray, List.set_cons_zero, List.set_cons_succ])
  refine pc_2 rfl rfl (by kernel_rfl) (by rfl) (fun K hK => ?_)
  go_simp
  refine (load_run B p A cp nv r 0 _ HP0b.out).mono ?_
  rintro e w1 ⟨rfl, hO, nv1, hP⟩
  have HO1 := Lib.hid (HO0b.out.trans hO)
  have HB1 := Lib.hid (HB0b.out.turn HP0b.out hO aside_1)
  have HP1 := Lib.hid hP
  clear hO hP HP0b HO0b HB0b
  have hHeld2 : w1.cell? ⟨g0, 0, none⟩ = some (Value.pointer (some ⟨B, 0, none⟩)) := (show Row w1 g0 64 #[Value.pointer (some ⟨B, 0, none⟩)] from HB1.out _ (.head _)).cell_ (i := 0) rfl
  refine hK.out _ _ (.inr hHeld2) ?_
  clear hK K hHeld
  (try simp only [Act.put, List.setIfInBounds_toArray, List.set_cons_zero, List.set_cons_succ])
  refine pa_3 rfl rfl (Value.pointer (some ⟨B, 0, none⟩)) (by kernel_rfl) (by kernel_rfl) (by kernel_rfl) (by decide) (by kernel_rfl) (fun _ _ _ h => h) (by rfl) (fun w => ?_) (by first | (right; assumption) | (left; kernel_rfl)) ?_
  · go_simp
  (try simp only [Act.put, List.setIfInBounds_toArray, List.set_cons_zero, List.set_cons_succ])
  refine pa_4 rfl rfl (.pointer (some ⟨B, 4, none⟩)) (by kernel_rfl) (by kernel_rfl) (by kernel_rfl) (by decide) (by kernel_rfl) (fun _ _ _ h => h) (by rfl) (fun w => ?_) (by first | (right; assumption) | (left; kernel_rfl)) ?_
  · go_simp
  (try simp only [Act.put, List.setIfInBounds_toArray, List.set_cons_zero, List.set_cons_succ])
  refine pa_5 rfl rfl (.pointer (some ⟨B, 6, none⟩)) (by kernel_rfl) (by kernel_rfl) (by kernel_rfl) (by decide) (by kernel_rfl) (fun _ _ _ h => h) (by rfl) (fun w => ?_) (by first | (right; assumption) | (left; kernel_rfl)) ?_
  · go_simp
  (try simp only [Act.put, List.setIfInBounds_toArray, List.set_cons_zero, List.set_cons_succ])
  have c6 : w1.cell? ⟨B, 6, none⟩ = some (.int .u32 (r.doA 1 0 0 0).a) := HP1.out.row.cell_ (i := 6) rfl
  have f6 : w1.frozen? ⟨B, 6, none⟩ = false := HP1.out.row.frozen 6
  refine pc_6 rfl rfl (by kernel_rfl) (by rfl) (fun K hK => ?_)
  go_simp
  have HP2 := Lib.hid (HP1.out.setA (wordAt r.xs 0))
  have HO2 := Lib.hid (HO1.out.setCell (p := ⟨B, 6, none⟩) (.inr (.inl rfl)) (.int .u32 (wordAt r.xs 0)))
  have HB2 := Lib.hid (HB1.out.turn HP1.out ((Only.refl (TurnB B A) w1).setCell (p := ⟨B, 6, none⟩) (.inr (.inl rfl)) (.int .u32 (wordAt r.xs 0))) aside_1)
  refine hK.out _ _ (.inl (by kernel_rfl)) ?_
  clear hK K hHeld2 c6 f6 HP1 HO1 HB1
  generalize w1.setCell ⟨B, 6, none⟩ (.int .u32 (wordAt r.xs 0)) = w2 at *
  (try simp only [Act.put, List.setIfInBounds_toArray, List.set_cons_zero, List.set_cons_succ])
  refine wpAnyP_done (by kernel_rfl) ?_ _
  have b0 : w2.cell? ⟨g0, 0, none⟩ = some (Value.pointer (some ⟨B, 0, none⟩)) := (show Row w2 g0 64 #[Value.pointer (some ⟨B, 0, none⟩)] from HB2.out _ (.head _)).cell_ (i := 0) rfl
  go_wp2_with fail
  clear b0
  refine (go_run B p A cp nv1 _ 1 _ HP2.out).mono ?_
  rintro e w4 ⟨rfl, hO, nv4, hP⟩
  have HO4 := Lib.hid (HO2.out.trans hO)
  have HP4 := Lib.hid hP
  clear hO hP
  go_wp2
  go_returns
  exact ⟨rfl, HO4.out, nv4, HP4.out⟩
theorem look_make (B : Nat) (p A : Option Addr) (cp : Nat) (nv : Value) (r : LS) (w : World) (h : RunP w B p A cp nv r) (hl : r.ns.length ≤ 900) :
    Calls Try.prog 45 #[Value.pointer (some ⟨B, 0, none⟩)] w (Clo 68 B p A cp r.look w) := by
  have e0 := (Only.refl Nil w).alloc (.cells #[Value.pointer (some ⟨B, 0, none⟩)] 64)
  have HC := Lib.hid (look_clo B p A cp nv r _ _ (h.keep e0) hl (RowsL.cons (L := []) (fun _ h => by simp at h) (Row.new w 64 #[Value.pointer (some ⟨B, 0, none⟩)])))
  have HE := Lib.hid e0
  clear h hl e0
  go_enter Try.func45, Try.ntmps45
  go_wp2
  go_ret
  exact ⟨_, rfl, HE.out, HC.out⟩
end Go.Proofs.Ytdmpaoajcnjbaaa
