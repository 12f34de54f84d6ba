import Derived.Test.YtkkldcggbekleaaGreatS8
import Derived.Test.YtkkldcggbekleaaGreatS14
import Derived.Test.YtkkldcggbekleaaGreatS7
import Derived.Test.YtkkldcggbekleaaGreatS6
set_option linter.unusedVariables false
set_option linter.unusedSimpArgs false
namespace Go.Proofs.YtkkldcggbekleaaGreat
open Go.RowKit
structure WB (w : World) (B : Nat) (p A : Option Addr) (cp : Nat) (nv : Value) (g : Nat) (c : Int) (fv : Value) (r : LS) (s3 s4 : Bool) : Prop where
  run : RunP w B p A cp nv r
  r0 : Row w g 35 #[.pointer (some ⟨B, 0, none⟩)]
  r1 : Row w (g + 1) 3 #[.int .i64 c]
  r2 : Row w (g + 2) 121 #[fv]
  r3 : Row w (g + 3) 4 #[.bool s3]
  r4 : Row w (g + 4) 4 #[.bool s4]
def Wd (B : Nat) (A : Option Addr) (g : Nat) : Nat → Prop := fun j => TurnB B A j ∨ j = g + 3 ∨ j = g + 4
theorem memo_not {w : World} {p A : Option Addr} {cp : Nat} {xs : List Int} {j : Nat} {t : TypeId} {cs : Array Value} (h : Memo w p A cp xs) (hr : Row w j t cs) (h1 : t ≠ 60) (h2 : t ≠ 23) : ¬ (At p j ∨ At A j) := fun hj => by
  obtain ⟨t', cs', hr', ht⟩ := memo_tag h hj
  have e := (hr.same hr').1
  rcases ht with rfl | rfl
  · exact h1 e
  · exact h2 e
theorem ownN_not {base : Nat} {w : World} {v : Value} {zs : List Nt} {i : Nat} {t : TypeId} {cs : Array Value} (h : OwnN base w v zs) (hr : Row w i t cs) (h1 : t ≠ 81) : v.ownBlock ≠ some i := fun hi => by
  obtain ⟨cur, hc⟩ := ownN_tag h hi
  exact h1 (hr.same hc).1
section
variable {w w' w0 : World} {B : Nat} {p A : Option Addr} {cp : Nat} {nv : Value} {g : Nat} {c : Int} {fv : Value} {r r' : LS} {s3 s4 : Bool} {ys : List Int} {S : Nat → Prop}
theorem WB.call (h : WB w B p A cp nv g c fv r s3 s4) (ho : Only (At A) w w') (hm : Memo w' p A cp ys) : WB w' B p A cp nv g c fv { r with xs := ys } s3 s4 :=
  ⟨h.run.call ho hm, h.r0.only ho (fun e => memo_not h.run.memo h.r0 (by decide) (by decide) (.inr e)), h.r1.only ho (fun e => memo_not h.run.memo h.r1 (by decide) (by decide) (.inr e)), h.r2.only ho (fun e => memo_not h.run.memo h.r2 (by decide) (by decide) (.inr e)), h.r3.only ho (fun e => memo_not h.run.memo h.r3 (by decide) (by decide) (.inr e)), h.r4.only ho (fun e => memo_not h.run.memo h.r4 (by decide) (by decide) (.inr e))⟩
theorem WB.keep (h : WB w B p A cp nv g c fv r s3 s4) (ho : Only Nil w w') : WB w' B p A cp nv g c fv r s3 s4 := h.call (ho.mono (fun _ _ h => h.elim)) (h.run.memo.keep ho)
theorem WB.turn (h : WB w B p A cp nv g c fv r s3 s4) (ho : Only (· = B) w w') (hr : RunP w' B p A cp nv r') : WB w' B p A cp nv g c fv r' s3 s4 :=
  ⟨hr, h.r0.only ho (row_ne h.r0 h.run.row (by decide)), h.r1.only ho (row_ne h.r1 h.run.row (by decide)), h.r2.only ho (row_ne h.r2 h.run.row (by decide)), h.r3.only ho (row_ne h.r3 h.run.row (by decide)), h.r4.only ho (row_ne h.r4 h.run.row (by decide))⟩
theorem WB.far (h : WB w B p A cp nv g c fv r s3 s4) {q : Nat} {t : TypeId} {cs : Array Value} (hq : Row w q t cs) (ho : Only (· = q) w w') (hB : B ≠ q) (hm : t ≠ 60) (hu : t ≠ 23) (hn : t ≠ 81) (h0 : ∀ i, i < 5 → q ≠ g + i) : WB w' B p A cp nv g c fv r s3 s4 :=
  ⟨h.run.apart ho hB (fun j hj e => by subst e; exact memo_not h.run.memo hq hm hu hj) (fun i hi e => by subst e; exact ownN_not h.run.notes hq hn hi),
    h.r0.only ho (fun e => h0 0 (by decide) e.symm), h.r1.only ho (fun e => h0 1 (by decide) e.symm), h.r2.only ho (fun e => h0 2 (by decide) e.symm), h.r3.only ho (fun e => h0 3 (by decide) e.symm), h.r4.only ho (fun e => h0 4 (by decide) e.symm)⟩
theorem WB.set3 (h : WB w B p A cp nv g c fv r s3 s4) (b : Bool) : WB (w.setCell ⟨g + 3, 0, none⟩ (.bool b)) B p A cp nv g c fv r b s4 := by
  have ho := (Only.refl (· = g + 3) w).setCell (p := ⟨g + 3, 0, none⟩) (.inr rfl) (.bool b)
  exact ⟨h.run.apart ho (row_ne h.run.row h.r3 (by decide)) (fun j hj e => by subst e; exact memo_not h.run.memo h.r3 (by decide) (by decide) hj) (fun i hi e => by subst e; exact ownN_not h.run.notes h.r3 (by decide) hi),
    h.r0.only ho (fun e => by omega), h.r1.only ho (fun e => by omega), h.r2.only ho (fun e => by omega), h.r3.set 0 _, h.r4.only ho (fun e => by omega)⟩
theorem WB.set4 (h : WB w B p A cp nv g c fv r s3 s4) (b : Bool) : WB (w.setCell ⟨g + 4, 0, none⟩ (.bool b)) B p A cp nv g c fv r s3 b := by
  have ho := (Only.refl (· = g + 4) w).setCell (p := ⟨g + 4, 0, none⟩) (.inr rfl) (.bool b)
  exact ⟨h.run.apart ho (row_ne h.run.row h.r4 (by decide)) (fun j hj e => by subst e; exact memo_not h.run.memo h.r4 (by decide) (by decide) hj) (fun i hi e => by subst e; exact ownN_not h.run.notes h.r4 (by decide) hi),
    h.r0.only ho (fun e => by omega), h.r1.only ho (fun e => by omega), h.r2.only ho (fun e => by omega), h.r3.only ho (fun e => by omega), h.r4.set 0 _⟩
theorem RunP.setS {w : World} {B : Nat} {p A : Option Addr} {cp : Nat} {nv : Value} {r : LS} (h : RunP w B p A cp nv r) (v : Int) : RunP (w.setCell ⟨B, 8, none⟩ (.int .i64 v)) B p A cp nv { r with s := v } :=
  h.turn ((Only.refl (· = B) w).setCell (p := ⟨B, 8, none⟩) (.inr rfl) _) (h.row.set 8 (.int .i64 v)) rfl rfl
theorem WB.setS (h : WB w B p A cp nv g c fv r s3 s4) (v : Int) : WB (w.setCell ⟨B, 8, none⟩ (.int .i64 v)) B p A cp nv g c fv { r with s := v } s3 s4 :=
  h.turn ((Only.refl (· = B) w).setCell (p := ⟨B, 8, none⟩) (.inr rfl) _) (h.run.setS v)
theorem WB.held (h : WB w B p A cp nv g c fv r s3 s4) : w.cell? ⟨g, 0, none⟩ = some (.pointer (some ⟨B, 0, none⟩)) ∧ w.cell? ⟨B, 0, none⟩ = some (.pointer p) ∧ w.cell? ⟨B, 1, none⟩ = some (.int .i64 r.n) ∧ w.cell? ⟨B, 2, none⟩ = some (.int .i64 r.mode) ∧ w.cell? ⟨B, 3, none⟩ = some (.int .i64 r.task) ∧ w.cell? ⟨B, 8, none⟩ = some (.int .i64 r.s) ∧ w.cell? ⟨g + 1, 0, none⟩ = some (.int .i64 c) ∧ w.cell? ⟨g + 2, 0, none⟩ = some fv :=
  ⟨h.r0.cell_ (i := 0) rfl, h.run.row.cell_ (i := 0) rfl, h.run.row.cell_ (i := 1) rfl, h.run.row.cell_ (i := 2) rfl, h.run.row.cell_ (i := 3) rfl, h.run.row.cell_ (i := 8) rfl, h.r1.cell_ (i := 0) rfl, h.r2.cell_ (i := 0) rfl⟩
end
def Waited (w : World) (B : Nat) (p A : Option Addr) (cp : Nat) (nv : Value) (g : Nat) (c : Int) (fv : Value) (r : LS) (t : StepR) (e : Ending) (w' : World) : Prop :=
  e = .returned (ofV t.acc).v ∧ Only (Wd B A g) w w' ∧ WB w' B p A cp nv g c fv { r with s := t.next, xs := t.xs } t.seen t.done
set_option maxRecDepth 100000 in
set_option maxHeartbeats 2000000 in
theorem wait_closure (B : Nat) (p A : Option Addr) (cp : Nat) (nv : Value) (g : Nat) (c : Int) (fv : Value) (q : Int → Bool) (r : LS) (s3 s4 : Bool) (w : World) (h : WB w B p A cp nv g c fv r s3 s4) (hf : Holds A w fv q) (hx : Words r.xs) :
    Calls Tryz.prog 113 #[.pointer (some ⟨g, 0, none⟩), .pointer (some ⟨g + 1, 0, none⟩), .pointer (some ⟨g + 2, 0, none⟩), .pointer (some ⟨g + 3, 0, none⟩), .pointer (some ⟨g + 4, 0, none⟩)] w (Waited w B p A cp nv g c fv r (r.stepR c q)) := by
  have e0 := (Only.refl Nil w).alloc (.cells #[.int .i64 0, .int .i64 0, .int .u32 0, .int .u32 0, .int .u32 0] 39)
  have HP := Lib.hid (h.keep e0)
  have HR := Lib.hid (Row.new w 39 #[.int .i64 0, .int .i64 0, .int .u32 0, .int .u32 0, .int .u32 0])
  have HO := Lib.hid (e0.mono (T := Wd B A g) (fun _ _ h => h.elim))
  have hga : ∀ i, i < 5 → w.heap.size ≠ g + i := fun i hi e => by
    have h4 := h.r4.lt
    omega
  have HGA := Lib.hid hga
  have HBA := Lib.hid (show B ≠ w.heap.size from fun e => by have := h.run.row.lt; omega)
  have HF := Lib.hid (hf.move0 e0.drew)
  have HX := Lib.hid hx
  have HW := Lib.hid (Nat.le_refl w.heap.size)
  clear h hf hx e0 hga
  have hacc := ofV_step r.xs r.n r.mode r.task r.s c q
  rw [show r.stepR c q = stepI r.xs r.n r.mode r.task r.s c q from rfl]
  generalize hst : stepI r.xs r.n r.mode r.task r.s c q = t at *
  obtain ⟨nx, ac, sn, dn, zs⟩ := t
  have HST := Lib.hid hst
  have HAC := Lib.hid (show ac = (ofV ac).v from hacc)
  clear hst hacc
  have HDE := Lib.hid (show Waited w B p A cp nv g c fv r ⟨nx, ac, sn, dn, zs⟩ = fun e w' => e = .returned (ofV ac).v ∧ Only (Wd B A g) w w' ∧ WB w' B p A cp nv g c fv { r with s := nx, xs := zs } sn dn from rfl)
  go_enter Tryz.func113, Tryz.ntmps113
  go_upto_region 1 with (fail)
  generalize w.alloc (.cells #[.int .i64 0, .int .i64 0, .int .u32 0, .int .u32 0, .int .u32 0] 39) = w1 at *
  generalize hgg : w.heap.size = ga at *
  have HG := Lib.hid hgg
  clear hgg
  refine wp_region_phase (n := 37) 33 (fun w => w.cell? ⟨g, 0, none⟩ = some (.pointer (some ⟨B, 0, none⟩)) ∧ w.cell? ⟨B, 0, none⟩ = some (.pointer p) ∧ w.cell? ⟨B, 1, none⟩ = some (.int .i64 r.n) ∧ w.cell? ⟨B, 2, none⟩ = some (.int .i64 r.mode) ∧ w.cell? ⟨B, 3, none⟩ = some (.int .i64 r.task) ∧ w.cell? ⟨B, 8, none⟩ = some (.int .i64 r.s) ∧ w.cell? ⟨g + 1, 0, none⟩ = some (.int .i64 c) ∧ w.cell? ⟨g + 2, 0, none⟩ = some fv) rfl (by kernel_rfl) HP.out.held (fun hHeld => ?_)
  have HP1 := Lib.hid (HP.out.keep (Only.refl Nil w1).drew)
  have HR1 := Lib.hid HR.out.drew
  have HO1 := Lib.hid HO.out.drew
  clear HP HR HO
  generalize w1.drew = w2 at *
  refine mpt 0 rfl (.pointer (some ⟨B, 0, none⟩)) (fun w hSw => ?_) ?_
  · (try dsimp only at hSw)
    go_split_ands
    go_simp
  (try simp only [Act.put, k1, k2, k3])
  refine mpt 1 rfl (.pointer (some ⟨B, 0, none⟩)) (fun w hSw => ?_) ?_
  · (try dsimp only at hSw)
    go_split_ands
    go_simp
  (try simp only [Act.put, k1, k2, k3])
  refine mpa 2 rfl (.pointer (some ⟨B, 0, none⟩)) (fun w => ?_) ?_
  · go_simp
  (try simp only [Act.put, k1, k2, k3])
  refine mpa 3 rfl (.pointer (some ⟨B, 0, none⟩)) (fun w => ?_) ?_
  · go_simp
  (try simp only [Act.put, k1, k2, k3])
  refine mpt 4 rfl (.pointer p) (fun w hSw => ?_) ?_
  · (try dsimp only at hSw)
    go_split_ands
    go_simp
  (try simp only [Act.put, k1, k2, k3])
  refine mpt 5 rfl (.pointer (some ⟨B, 0, none⟩)) (fun w hSw => ?_) ?_
  · (try dsimp only at hSw)
    go_split_ands
    go_simp
  (try simp only [Act.put, k1, k2, k3])
  refine mpa 6 rfl (.pointer (some ⟨B, 0, none⟩)) (fun w => ?_) ?_
  · go_simp
  (try simp only [Act.put, k1, k2, k3])
  refine mpa 7 rfl (.pointer (some ⟨B, 1, none⟩)) (fun w => ?_) ?_
  · go_simp
  (try simp only [Act.put, k1, k2, k3])
  refine mpt 8 rfl (.agg #[.int .i64 r.n]) (fun w hSw => ?_) ?_
  · (try dsimp only at hSw)
    go_split_ands
    go_simp
  (try simp only [Act.put, k1, k2, k3])
  refine mpt 9 rfl (.pointer (some ⟨B, 0, none⟩)) (fun w hSw => ?_) ?_
  · (try dsimp only at hSw)
    go_split_ands
    go_simp
  (try simp only [Act.put, k1, k2, k3])
  refine mpa 10 rfl (.pointer (some ⟨B, 0, none⟩)) (fun w => ?_) ?_
  · go_simp
  (try simp only [Act.put, k1, k2, k3])
  refine mpa 11 rfl (.pointer (some ⟨B, 2, none⟩)) (fun w => ?_) ?_
  · go_simp
  (try simp only [Act.put, k1, k2, k3])
  refine mpt 12 rfl (.int .i64 r.mode) (fun w hSw => ?_) ?_
  · (try dsimp only at hSw)
    go_split_ands
    go_simp
  (try simp only [Act.put, k1, k2, k3])
  refine mpt 13 rfl (.pointer (some ⟨B, 0, none⟩)) (fun w hSw => ?_) ?_
  · (try dsimp only at hSw)
    go_split_ands
    go_simp
  (try simp only [Act.put, k1, k2, k3])
  refine mpa 14 rfl (.pointer (some ⟨B, 0, none⟩)) (fun w => ?_) ?_
  · go_simp
  (try simp only [Act.put, k1, k2, k3])
  refine mpa 15 rfl (.pointer (some ⟨B, 3, none⟩)) (fun w => ?_) ?_
  · go_simp
  (try simp only [Act.put, k1, k2, k3])
  refine mpt 16 rfl (.int .i64 r.task) (fun w hSw => ?_) ?_
  · (try dsimp only at hSw)
    go_split_ands
    go_simp
  (try simp only [Act.put, k1, k2, k3])
  refine mpt 17 rfl (.pointer (some ⟨B, 0, none⟩)) (fun w hSw => ?_) ?_
  · (try dsimp only at hSw)
    go_split_ands
    go_simp
  (try simp only [Act.put, k1, k2, k3])
  refine mpa 18 rfl (.pointer (some ⟨B, 0, none⟩)) (fun w => ?_) ?_
  · go_simp
  (try simp only [Act.put, k1, k2, k3])
  refine mpa 19 rfl (.pointer (some ⟨B, 4, none⟩)) (fun w => ?_) ?_
  · go_simp
  (try simp only [Act.put, k1, k2, k3])
  refine mpa 20 rfl (.pointer (some ⟨B, 8, none⟩)) (fun w => ?_) ?_
  · go_simp
  (try simp only [Act.put, k1, k2, k3])
  refine mpt 21 rfl (.agg #[.int .i64 r.s]) (fun w hSw => ?_) ?_
  · (try dsimp only at hSw)
    go_split_ands
    go_simp
  (try simp only [Act.put, k1, k2, k3])
  refine mpt 22 rfl (.int .i64 c) (fun w hSw => ?_) ?_
  · (try dsimp only at hSw)
    go_split_ands
    go_simp
  (try simp only [Act.put, k1, k2, k3])
  refine mpt 23 rfl (fv) (fun w hSw => ?_) ?_
  · (try dsimp only at hSw)
    go_split_ands
    go_simp
  (try simp only [Act.put, k1, k2, k3])
  refine mpc 24 rfl (by kernel_rfl) (by rfl) (fun K hK => ?_)
  go_simp
  refine (step_any p A cp r.xs r.n r.mode r.task r.s c fv q _ HP1.out.run.memo HF.out HX.out).mono ?_
  rw [HST.out]
  intro e w3 hF
  obtain ⟨rfl, hO, hM⟩ := hF
  dsimp only at hM ⊢
  rw [HAC.out]
  clear HAC
  generalize ofV ac = a5 at *
  dsimp only [Acc5.v]
  have HP2 := Lib.hid (HP1.out.call hO hM)
  have HR2 := Lib.hid (HR1.out.only hO (fun e => memo_not HP1.out.run.memo HR1.out (by decide) (by decide) (.inr e)))
  have HO2 := Lib.hid (HO1.out.trans (hO.mono (T := Wd B A g) (fun _ _ e => .inl (.inr e))))
  refine hK.out _ _ (.inr HP2.out.held) ?_
  have hHeld2 := HP2.out.held
  clear hK K hHeld hO hM HP1 HR1 HO1
  (try simp only [Act.put, k1, k2, k3])
  refine mpa 25 rfl (.tuple #[.agg #[.int .i64 nx], .agg #[.int .i64 a5.k, .int .i64 a5.c, .int .u32 a5.x, .int .u32 a5.y, .int .u32 a5.o], .bool sn, .bool dn]) (fun w => ?_) ?_
  · go_simp
  (try simp only [Act.put, k1, k2, k3])
  refine mpa 26 rfl (.agg #[.int .i64 nx]) (fun w => ?_) ?_
  · go_simp
  (try simp only [Act.put, k1, k2, k3])
  refine mpa 27 rfl (.agg #[.int .i64 a5.k, .int .i64 a5.c, .int .u32 a5.x, .int .u32 a5.y, .int .u32 a5.o]) (fun w => ?_) ?_
  · go_simp
  (try simp only [Act.put, k1, k2, k3])
  refine mpa 28 rfl (.bool sn) (fun w => ?_) ?_
  · go_simp
  (try simp only [Act.put, k1, k2, k3])
  refine mpa 29 rfl (.bool dn) (fun w => ?_) ?_
  · go_simp
  (try simp only [Act.put, k1, k2, k3])
  refine mpa 30 rfl (.pointer (some ⟨B, 0, none⟩)) (fun w => ?_) ?_
  · go_simp
  (try simp only [Act.put, k1, k2, k3])
  refine mpa 31 rfl (.pointer (some ⟨B, 4, none⟩)) (fun w => ?_) ?_
  · go_simp
  (try simp only [Act.put, k1, k2, k3])
  refine mpa 32 rfl (.pointer (some ⟨B, 8, none⟩)) (fun w => ?_) ?_
  · go_simp
  (try simp only [Act.put, k1, k2, k3])
  have c8 : w3.cell? ⟨B, 8, none⟩ = some (.int .i64 r.s) := HP2.out.run.row.cell_ (i := 8) rfl
  have f8 : w3.frozen? ⟨B, 8, none⟩ = false := HP2.out.run.row.frozen 8
  refine mpc 33 rfl (by kernel_rfl) (by rfl) (fun K hK => ?_)
  go_simp
  have HP3 := Lib.hid (HP2.out.setS nx)
  have HO3 := Lib.hid (HO2.out.setCell (p := ⟨B, 8, none⟩) (.inr (.inl (.inl rfl))) (.int .i64 nx))
  have HR3 := Lib.hid (HR2.out.far (p := ⟨B, 8, none⟩) (Ne.symm HBA.out) (.int .i64 nx))
  refine hK.out _ _ (.inl (by kernel_rfl)) ?_
  clear hK K hHeld2 c8 f8 HP2 HO2 HR2
  generalize w3.setCell ⟨B, 8, none⟩ (.int .i64 nx) = w4 at *
  (try simp only [Act.put, k1, k2, k3])
  have a0 : w4.cell? ⟨ga, 0, none⟩ = some (.int .i64 0) := HR3.out.cell_ (i := 0) rfl
  have a1 : w4.cell? ⟨ga, 1, none⟩ = some (.int .i64 0) := HR3.out.cell_ (i := 1) rfl
  have a2 : w4.cell? ⟨ga, 2, none⟩ = some (.int .u32 0) := HR3.out.cell_ (i := 2) rfl
  have a3 : w4.cell? ⟨ga, 3, none⟩ = some (.int .u32 0) := HR3.out.cell_ (i := 3) rfl
  have a4 : w4.cell? ⟨ga, 4, none⟩ = some (.int .u32 0) := HR3.out.cell_ (i := 4) rfl
  have f0 : w4.frozen? ⟨ga, 0, none⟩ = false := HR3.out.frozen 0
  have f1 : w4.frozen? ⟨ga, 1, none⟩ = false := HR3.out.frozen 1
  have f2 : w4.frozen? ⟨ga, 2, none⟩ = false := HR3.out.frozen 2
  have f3 : w4.frozen? ⟨ga, 3, none⟩ = false := HR3.out.frozen 3
  have f4 : w4.frozen? ⟨ga, 4, none⟩ = false := HR3.out.frozen 4
  refine mpc 34 rfl (by kernel_rfl) (by rfl) (fun K hK => ?_)
  go_simp
  have ho5 := five_only (Only.refl (· = ga) w4) (g := ga) (.inr rfl) (.int .i64 a5.k) (.int .i64 a5.c) (.int .u32 a5.x) (.int .u32 a5.y) (.int .u32 a5.o)
  have HP4 := Lib.hid (HP3.out.far HR3.out ho5 HBA.out (by decide) (by decide) (by decide) HGA.out)
  have HO4 := Lib.hid (five_only HO3.out (g := ga) (.inl (by have := HG.out; omega)) (.int .i64 a5.k) (.int .i64 a5.c) (.int .u32 a5.x) (.int .u32 a5.y) (.int .u32 a5.o))
  have HR4 := Lib.hid (five HR3.out (.int .i64 a5.k) (.int .i64 a5.c) (.int .u32 a5.x) (.int .u32 a5.y) (.int .u32 a5.o))
  refine hK.out _ _ (.inl (by kernel_rfl)) ?_
  clear hK K ho5 a0 a1 a2 a3 a4 f0 f1 f2 f3 f4 HP3 HO3 HR3
  generalize (((((w4.setCell ⟨ga, 0, none⟩ (.int .i64 a5.k)).setCell ⟨ga, 1, none⟩ (.int .i64 a5.c)).setCell ⟨ga, 2, none⟩ (.int .u32 a5.x)).setCell ⟨ga, 3, none⟩ (.int .u32 a5.y)).setCell ⟨ga, 4, none⟩ (.int .u32 a5.o)) = w5 at *
  (try simp only [Act.put, k1, k2, k3])
  have b3 : w5.cell? ⟨g + 3, 0, none⟩ = some (.bool s3) := HP4.out.r3.cell_ (i := 0) rfl
  have f3 : w5.frozen? ⟨g + 3, 0, none⟩ = false := HP4.out.r3.frozen 0
  refine mpc 35 rfl (by kernel_rfl) (by rfl) (fun K hK => ?_)
  go_simp
  have HP5 := Lib.hid (HP4.out.set3 sn)
  have HO5 := Lib.hid (HO4.out.setCell (p := ⟨g + 3, 0, none⟩) (.inr (.inr (.inl rfl))) (.bool sn))
  have HR5 := Lib.hid (HR4.out.far (p := ⟨g + 3, 0, none⟩) (HGA.out 3 (by decide)) (.bool sn))
  refine hK.out _ _ (.inl (by kernel_rfl)) ?_
  clear hK K b3 f3 HP4 HO4 HR4
  generalize w5.setCell ⟨g + 3, 0, none⟩ (.bool sn) = w6 at *
  (try simp only [Act.put, k1, k2, k3])
  have b3 : w6.cell? ⟨g + 4, 0, none⟩ = some (.bool s4) := HP5.out.r4.cell_ (i := 0) rfl
  have f3 : w6.frozen? ⟨g + 4, 0, none⟩ = false := HP5.out.r4.frozen 0
  refine mpc 36 rfl (by kernel_rfl) (by rfl) (fun K hK => ?_)
  go_simp
  have HP6 := Lib.hid (HP5.out.set4 dn)
  have HO6 := Lib.hid (HO5.out.setCell (p := ⟨g + 4, 0, none⟩) (.inr (.inr (.inr rfl))) (.bool dn))
  have HR6 := Lib.hid (HR5.out.far (p := ⟨g + 4, 0, none⟩) (HGA.out 4 (by decide)) (.bool dn))
  refine hK.out _ _ (.inl (by kernel_rfl)) ?_
  clear hK K b3 f3 HP5 HO5 HR5
  generalize w6.setCell ⟨g + 4, 0, none⟩ (.bool dn) = w7 at *
  (try simp only [Act.put, k1, k2, k3])
  refine wpAnyP_done (by kernel_rfl) ?_ _
  have a0 : w7.cell? ⟨ga, 0, none⟩ = some (.int .i64 a5.k) := HR6.out.cell_ (i := 0) rfl
  have a1 : w7.cell? ⟨ga, 1, none⟩ = some (.int .i64 a5.c) := HR6.out.cell_ (i := 1) rfl
  have a2 : w7.cell? ⟨ga, 2, none⟩ = some (.int .u32 a5.x) := HR6.out.cell_ (i := 2) rfl
  have a3 : w7.cell? ⟨ga, 3, none⟩ = some (.int .u32 a5.y) := HR6.out.cell_ (i := 3) rfl
  have a4 : w7.cell? ⟨ga, 4, none⟩ = some (.int .u32 a5.o) := HR6.out.cell_ (i := 4) rfl
  have f0 : w7.frozen? ⟨ga, 0, none⟩ = false := HR6.out.frozen 0
  have f1 : w7.frozen? ⟨ga, 1, none⟩ = false := HR6.out.frozen 1
  have f2 : w7.frozen? ⟨ga, 2, none⟩ = false := HR6.out.frozen 2
  have f3 : w7.frozen? ⟨ga, 3, none⟩ = false := HR6.out.frozen 3
  have f4 : w7.frozen? ⟨ga, 4, none⟩ = false := HR6.out.frozen 4
  have ho5 := five_only (Only.refl (· = ga) w7) (g := ga) (.inr rfl) (.int .i64 a5.k) (.int .i64 a5.c) (.int .u32 a5.x) (.int .u32 a5.y) (.int .u32 a5.o)
  have HP7 := Lib.hid (HP6.out.far HR6.out ho5 HBA.out (by decide) (by decide) (by decide) HGA.out)
  have HO7 := Lib.hid (five_only HO6.out (g := ga) (.inl (by have := HG.out; omega)) (.int .i64 a5.k) (.int .i64 a5.c) (.int .u32 a5.x) (.int .u32 a5.y) (.int .u32 a5.o))
  have HR7 := Lib.hid (five HR6.out (.int .i64 a5.k) (.int .i64 a5.c) (.int .u32 a5.x) (.int .u32 a5.y) (.int .u32 a5.o))
  clear ho5 HP6 HO6 HR6
  go_wp2
  exact post_row (P := Tryz.prog) Tryz.results113 (by rfl) HR7.out Tryz.underlying39 rfl (by kernel_rfl) rfl (by rw [HDE.out]; exact ⟨rfl, HO7.out, HP7.out⟩)
def WaitDone (w : World) (B : Nat) (p A : Option Addr) (cp : Nat) (nv : Value) (g : Nat) (c : Int) (fv : Value) (r : LS) (t : StepR) (e : Ending) (w' : World) : Prop :=
  e = .returned (.tuple #[]) ∧ Only (Wd B A g) w w' ∧ WB w' B p A cp nv g c fv { r with s := t.next, acc := ofV t.acc, xs := t.xs } t.seen t.done
set_option maxHeartbeats 1000000 in
theorem wait_do (B : Nat) (p A : Option Addr) (cp : Nat) (nv : Value) (g : Nat) (c : Int) (fv : Value) (q : Int → Bool) (r : LS) (s3 s4 : Bool) (w : World) (h : WB w B p A cp nv g c fv r s3 s4) (hf : Holds A w fv q) (hx : Words r.xs) :
    Calls Tryz.prog 19 #[.pointer (some ⟨B, 0, none⟩), .func (.func 113) #[] #[.pointer (some ⟨g, 0, none⟩), .pointer (some ⟨g + 1, 0, none⟩), .pointer (some ⟨g + 2, 0, none⟩), .pointer (some ⟨g + 3, 0, none⟩), .pointer (some ⟨g + 4, 0, none⟩)]] w (WaitDone w B p A cp nv g c fv r (r.stepR c q)) := by
  have HC := Lib.hid (wait_closure B p A cp nv g c fv q r s3 s4 w h hf hx)
  clear h hf hx
  go_enter Tryz.func19, Tryz.ntmps19
  go_wp2_with fail
  refine HC.out.mono ?_
  clear HC
  generalize r.stepR c q = t at *
  obtain ⟨nx, ac, sn, dn, zs⟩ := t
  intro e w1 hF
  obtain ⟨rfl, hO, hP⟩ := hF
  dsimp only at hP ⊢
  have HD := Lib.hid (show (⟨nx, ac, sn, dn, zs⟩ : StepR).acc = ac from rfl)
  have HDE := Lib.hid (show WaitDone w B p A cp nv g c fv r ⟨nx, ac, sn, dn, zs⟩ = fun e w' => e = .returned (.tuple #[]) ∧ Only (Wd B A g) w w' ∧ WB w' B p A cp nv g c fv { r with s := nx, acc := ofV ac, xs := zs } sn dn from rfl)
  generalize ofV ac = a5 at *
  dsimp only [Acc5.v]
  have HP := Lib.hid hP
  have HO := Lib.hid hO
  clear hP hO
  have a14 : w1.cell? ⟨B, 14, none⟩ = some (.int .i64 r.acc.k) := HP.out.run.row.cell_ (i := 14) rfl
  have a15 : w1.cell? ⟨B, 15, none⟩ = some (.int .i64 r.acc.c) := HP.out.run.row.cell_ (i := 15) rfl
  have a16 : w1.cell? ⟨B, 16, none⟩ = some (.int .u32 r.acc.x) := HP.out.run.row.cell_ (i := 16) rfl
  have a17 : w1.cell? ⟨B, 17, none⟩ = some (.int .u32 r.acc.y) := HP.out.run.row.cell_ (i := 17) rfl
  have a18 : w1.cell? ⟨B, 18, none⟩ = some (.int .u32 r.acc.o) := HP.out.run.row.cell_ (i := 18) rfl
  have f14 : w1.frozen? ⟨B, 14, none⟩ = false := HP.out.run.row.frozen 14
  have f15 : w1.frozen? ⟨B, 15, none⟩ = false := HP.out.run.row.frozen 15
  have f16 : w1.frozen? ⟨B, 16, none⟩ = false := HP.out.run.row.frozen 16
  have f17 : w1.frozen? ⟨B, 17, none⟩ = false := HP.out.run.row.frozen 17
  have f18 : w1.frozen? ⟨B, 18, none⟩ = false := HP.out.run.row.frozen 18
  go_wp2
  clear a14 a15 a16 a17 a18 f14 f15 f16 f17 f18
  go_returns
  rw [HDE.out]
  exact ⟨rfl, set_acc_only HO.out (B := B) (.inl (.inl rfl)) _ _ _ _ _, HP.out.turn (set_acc_only (Only.refl (· = B) w1) rfl _ _ _ _ _) (HP.out.run.setAcc a5)⟩
end Go.Proofs.YtkkldcggbekleaaGreat
set_option linter.unusedVariables false
set_option linter.unusedSimpArgs false
namespace Go.Proofs.YtkkldcggbekleaaGreat
open Go.RowKit
theorem rbegin_any (mode c : Int) (w : World) : Calls Tryz.prog 64 #[.int .i64 mode, .int .i64 c] w fun e w' => e = .returned (beginI mode c).v ∧ Only Nil w w' := by
  by_cases hm : mode = 2
  · subst hm
    rw [beginI_2]
    go_enter Tryz.func64, Tryz.ntmps64
    go_wp2
    exact post_row (P := Tryz.prog) Tryz.results64 (t := 27) (by rfl) ((Row.new _ _ _).alloc _) Tryz.underlying27 rfl (by kernel_rfl) rfl ⟨rfl, ((Only.refl _ _).alloc _).alloc _⟩
  · rw [beginI_no hm]
    have h2 : (mode == 2) = false := beq_eq_false_iff_ne.2 hm
    clear hm
    go_enter Tryz.func64, Tryz.ntmps64
    go_wp2
    exact post_row (P := Tryz.prog) Tryz.results64 (t := 27) (by rfl) ((Row.new _ _ _).alloc _) Tryz.underlying27 rfl (by kernel_rfl) rfl ⟨rfl, ((Only.refl _ _).alloc _).alloc _⟩
end Go.Proofs.YtkkldcggbekleaaGreat
set_option linter.unusedVariables false
set_option linter.unusedSimpArgs false
namespace Go.Proofs.YtkkldcggbekleaaGreat
open Go.RowKit
theorem there_any (A : Option Addr) (n cap : Nat) (xs : List Int) (c : Int) (hn : xs.length = n) (w : World) :
    Calls Tryz.prog 90 #[.slice A n cap, .int .i64 c] w fun e w' => e = .returned (.bool (there xs c)) ∧ w' = w := by
  have HN := Lib.hid hn
  clear hn
  by_cases h0 : 0 ≤ c
  · go_enter Tryz.func90, Tryz.ntmps90
    go_wp2
    go_ret
    exact ⟨by simp [there, HN.out, h0], rfl⟩
  · go_enter Tryz.func90, Tryz.ntmps90
    go_wp2
    go_ret
    have hf : there xs c = false := by
      have : ¬ (0 ≤ c ∧ c < xs.length) := by omega
      simp [there, this]
    exact ⟨by simp [hf], rfl⟩
end Go.Proofs.YtkkldcggbekleaaGreat
