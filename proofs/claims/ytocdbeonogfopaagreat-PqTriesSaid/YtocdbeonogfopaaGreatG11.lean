import Derived.Test.YtocdbeonogfopaaGreatG5
import Derived.Test.YtocdbeonogfopaaGreatG10
import Derived.Test.YtocdbeonogfopaaGreatG8
import Derived.Test.YtocdbeonogfopaaGreatG2
set_option linter.unusedVariables false
set_option linter.unusedSimpArgs false
namespace Go.Proofs.YtocdbeonogfopaaGreat
open Go.RowKit
structure WB (w : World) (B : Nat) (p A : Option Addr) (cp : Nat) (nv : Value) (g : Nat) (c : Int) (fv : Value) (r : LS) (s3 s4 : Bool) : Prop where
  run : RunP w B p A cp nv r
  r0 : Row w g 62 #[.pointer (some ⟨B, 0, none⟩)]
  r1 : Row w (g + 1) 3 #[.int .i64 c]
  r2 : Row w (g + 2) 110 #[fv]
  r3 : Row w (g + 3) 4 #[.bool s3]
  r4 : Row w (g + 4) 4 #[.bool s4]
def Wd (B : Nat) (A : Option Addr) (g : Nat) : Nat → Prop := fun j => TurnB B A j ∨ j = g + 3 ∨ j = g + 4
theorem memo_not {w : World} {p A : Option Addr} {cp : Nat} {xs : List Int} {j : Nat} {t : TypeId} {cs : Array Value} (h : Memo w p A cp xs) (hr : Row w j t cs) (h1 : t ≠ 73) (h2 : t ≠ 22) : ¬ (At p j ∨ At A j) := fun hj => by
  obtain ⟨t', cs', hr', ht⟩ := memo_tag h hj
  have e := (hr.same hr').1
  rcases ht with rfl | rfl
  · exact h1 e
  · exact h2 e
theorem ownN_not {base : Nat} {w : World} {v : Value} {zs : List Nt} {i : Nat} {t : TypeId} {cs : Array Value} (h : OwnN base w v zs) (hr : Row w i t cs) (h1 : t ≠ 131) : v.ownBlock ≠ some i := fun hi => by
  obtain ⟨cur, hc⟩ := ownN_tag h hi
  exact h1 (hr.same hc).1
section
variable {w w' w0 : World} {B : Nat} {p A : Option Addr} {cp : Nat} {nv : Value} {g : Nat} {c : Int} {fv : Value} {r r' : LS} {s3 s4 : Bool} {ys : List Int} {S : Nat → Prop}
theorem WB.call (h : WB w B p A cp nv g c fv r s3 s4) (ho : Only (At A) w w') (hm : Memo w' p A cp ys) : WB w' B p A cp nv g c fv { r with xs := ys } s3 s4 :=
  ⟨h.run.call ho hm, h.r0.only ho (fun e => memo_not h.run.memo h.r0 (by decide) (by decide) (.inr e)), h.r1.only ho (fun e => memo_not h.run.memo h.r1 (by decide) (by decide) (.inr e)), h.r2.only ho (fun e => memo_not h.run.memo h.r2 (by decide) (by decide) (.inr e)), h.r3.only ho (fun e => memo_not h.run.memo h.r3 (by decide) (by decide) (.inr e)), h.r4.only ho (fun e => memo_not h.run.memo h.r4 (by decide) (by decide) (.inr e))⟩
theorem WB.keep (h : WB w B p A cp nv g c fv r s3 s4) (ho : Only Nil w w') : WB w' B p A cp nv g c fv r s3 s4 := h.call (ho.mono (fun _ _ h => h.elim)) (h.run.memo.keep ho)
theorem WB.turn (h : WB w B p A cp nv g c fv r s3 s4) (ho : Only (· = B) w w') (hr : RunP w' B p A cp nv r') : WB w' B p A cp nv g c fv r' s3 s4 :=
  ⟨hr, h.r0.only ho (row_ne h.r0 h.run.row (by decide)), h.r1.only ho (row_ne h.r1 h.run.row (by decide)), h.r2.only ho (row_ne h.r2 h.run.row (by decide)), h.r3.only ho (row_ne h.r3 h.run.row (by decide)), h.r4.only ho (row_ne h.r4 h.run.row (by decide))⟩
theorem WB.far (h : WB w B p A cp nv g c fv r s3 s4) {q : Nat} {t : TypeId} {cs : Array Value} (hq : Row w q t cs) (ho : Only (· = q) w w') (hB : B ≠ q) (hm : t ≠ 73) (hu : t ≠ 22) (hn : t ≠ 131) (h0 : ∀ i, i < 5 → q ≠ g + i) : WB w' B p A cp nv g c fv r s3 s4 :=
  ⟨h.run.apart ho hB (fun j hj e => by subst e; exact memo_not h.run.memo hq hm hu hj) (fun i hi e => by subst e; exact ownN_not h.run.notes hq hn hi),
    h.r0.only ho (fun e => h0 0 (by decide) e.symm), h.r1.only ho (fun e => h0 1 (by decide) e.symm), h.r2.only ho (fun e => h0 2 (by decide) e.symm), h.r3.only ho (fun e => h0 3 (by decide) e.symm), h.r4.only ho (fun e => h0 4 (by decide) e.symm)⟩
theorem WB.set3 (h : WB w B p A cp nv g c fv r s3 s4) (b : Bool) : WB (w.setCell ⟨g + 3, 0, none⟩ (.bool b)) B p A cp nv g c fv r b s4 := by
  have ho := (Only.refl (· = g + 3) w).setCell (p := ⟨g + 3, 0, none⟩) (.inr rfl) (.bool b)
  exact ⟨h.run.apart ho (row_ne h.run.row h.r3 (by decide)) (fun j hj e => by subst e; exact memo_not h.run.memo h.r3 (by decide) (by decide) hj) (fun i hi e => by subst e; exact ownN_not h.run.notes h.r3 (by decide) hi),
    h.r0.only ho (fun e => by omega), h.r1.only ho (fun e => by omega), h.r2.only ho (fun e => by omega), h.r3.set 0 _, h.r4.only ho (fun e => by omega)⟩
theorem WB.set4 (h : WB w B p A cp nv g c fv r s3 s4) (b : Bool) : WB (w.setCell ⟨g + 4, 0, none⟩ (.bool b)) B p A cp nv g c fv r s3 b := by
  have ho := (Only.refl (· = g + 4) w).setCell (p := ⟨g + 4, 0, none⟩) (.inr rfl) (.bool b)
  exact ⟨h.run.apart ho (row_ne h.run.row h.r4 (by decide)) (fun j hj e => by subst e; exact memo_not h.run.memo h.r4 (by decide) (by decide) hj) (fun i hi e => by subst e; exact ownN_not h.run.notes h.r4 (by decide) hi),
    h.r0.only ho (fun e => by omega), h.r1.only ho (fun e => by omega), h.r2.only ho (fun e => by omega), h.r3.only ho (fun e => by omega), h.r4.set 0 _⟩
theorem RunP.setS {w : World} {B : Nat} {p A : Option Addr} {cp : Nat} {nv : Value} {r : LS} (h : RunP w B p A cp nv r) (v : Int) : RunP (w.setCell ⟨B, 8, none⟩ (.int .i64 v)) B p A cp nv { r with s := v } :=
  h.turn ((Only.refl (· = B) w).setCell (p := ⟨B, 8, none⟩) (.inr rfl) _) (h.row.set 8 (.int .i64 v)) rfl rfl
theorem WB.setS (h : WB w B p A cp nv g c fv r s3 s4) (v : Int) : WB (w.setCell ⟨B, 8, none⟩ (.int .i64 v)) B p A cp nv g c fv { r with s := v } s3 s4 :=
  h.turn ((Only.refl (· = B) w).setCell (p := ⟨B, 8, none⟩) (.inr rfl) _) (h.run.setS v)
theorem WB.held (h : WB w B p A cp nv g c fv r s3 s4) : w.cell? ⟨g, 0, none⟩ = some (.pointer (some ⟨B, 0, none⟩)) ∧ w.cell? ⟨B, 0, none⟩ = some (.pointer p) ∧ w.cell? ⟨B, 1, none⟩ = some (.int .i64 r.n) ∧ w.cell? ⟨B, 2, none⟩ = some (.int .i64 r.mode) ∧ w.cell? ⟨B, 3, none⟩ = some (.int .i64 r.task) ∧ w.cell? ⟨B, 8, none⟩ = some (.int .i64 r.s) ∧ w.cell? ⟨g + 1, 0, none⟩ = some (.int .i64 c) ∧ w.cell? ⟨g + 2, 0, none⟩ = some fv :=
  ⟨h.r0.cell_ (i := 0) rfl, h.run.row.cell_ (i := 0) rfl, h.run.row.cell_ (i := 1) rfl, h.run.row.cell_ (i := 2) rfl, h.run.row.cell_ (i := 3) rfl, h.run.row.cell_ (i := 8) rfl, h.r1.cell_ (i := 0) rfl, h.r2.cell_ (i := 0) rfl⟩
end
def Waited (w : World) (B : Nat) (p A : Option Addr) (cp : Nat) (nv : Value) (g : Nat) (c : Int) (fv : Value) (r : LS) (t : StepR) (e : Ending) (w' : World) : Prop :=
  e = .returned (ofV t.acc).v ∧ Only (Wd B A g) w w' ∧ WB w' B p A cp nv g c fv { r with s := t.next, xs := t.xs } t.seen t.done
set_option maxRecDepth 100000 in
set_option maxHeartbeats 2000000 in
theorem wait_closure (B : Nat) (p A : Option Addr) (cp : Nat) (nv : Value) (g : Nat) (c : Int) (fv : Value) (q : Int → Bool) (r : LS) (s3 s4 : Bool) (w : World) (h : WB w B p A cp nv g c fv r s3 s4) (hf : Holds A w fv q) (hx : Words r.xs) :
    Calls Tryz.prog 107 #[.pointer (some ⟨g, 0, none⟩), .pointer (some ⟨g + 1, 0, none⟩), .pointer (some ⟨g + 2, 0, none⟩), .pointer (some ⟨g + 3, 0, none⟩), .pointer (some ⟨g + 4, 0, none⟩)] w (Waited w B p A cp nv g c fv r (r.stepR c q)) := by
  have e0 := (Only.refl Nil w).alloc (.cells #[.int .i64 0, .int .i64 0, .int .u32 0, .int .u32 0, .int .u32 0] 59)
  have HP := Lib.hid (h.keep e0)
  have HR := Lib.hid (Row.new w 59 #[.int .i64 0, .int .i64 0, .int .u32 0, .int .u32 0, .int .u32 0])
  have HO := Lib.hid (e0.mono (T := Wd B A g) (fun _ _ h => h.elim))
  have hga : ∀ i, i < 5 → w.heap.size ≠ g + i := fun i hi e => by
    have h4 := h.r4.lt
    omega
  have HGA := Lib.hid hga
  have HBA := Lib.hid (show B ≠ w.heap.size from fun e => by have := h.run.row.lt; omega)
  have HF := Lib.hid (hf.move0 e0.drew)
  have HX := Lib.hid hx
  have HW := Lib.hid (Nat.le_refl w.heap.size)
  clear h hf hx e0 hga
  have hacc := ofV_step r.xs r.n r.mode r.task r.s c q
  rw [show r.stepR c q = stepI r.xs r.n r.mode r.task r.s c q from rfl]
  generalize hst : stepI r.xs r.n r.mode r.task r.s c q = t at *
  obtain ⟨nx, ac, sn, dn, zs⟩ := t
  have HST := Lib.hid hst
  have HAC := Lib.hid (show ac = (ofV ac).v from hacc)
  clear hst hacc
  have HDE := Lib.hid (show Waited w B p A cp nv g c fv r ⟨nx, ac, sn, dn, zs⟩ = fun e w' => e = .returned (ofV ac).v ∧ Only (Wd B A g) w w' ∧ WB w' B p A cp nv g c fv { r with s := nx, xs := zs } sn dn from rfl)
  go_enter Tryz.func107, Tryz.ntmps107
  go_upto_region 1 with (fail)
  generalize w.alloc (.cells #[.int .i64 0, .int .i64 0, .int .u32 0, .int .u32 0, .int .u32 0] 59) = w1 at *
  generalize hgg : w.heap.size = ga at *
  have HG := Lib.hid hgg
  clear hgg
  refine wp_region_phase (n := 37) 33 (fun w => w.cell? ⟨g, 0, none⟩ = some (.pointer (some ⟨B, 0, none⟩)) ∧ w.cell? ⟨B, 0, none⟩ = some (.pointer p) ∧ w.cell? ⟨B, 1, none⟩ = some (.int .i64 r.n) ∧ w.cell? ⟨B, 2, none⟩ = some (.int .i64 r.mode) ∧ w.cell? ⟨B, 3, none⟩ = some (.int .i64 r.task) ∧ w.cell? ⟨B, 8, none⟩ = some (.int .i64 r.s) ∧ w.cell? ⟨g + 1, 0, none⟩ = some (.int .i64 c) ∧ w.cell? ⟨g + 2, 0, none⟩ = some fv) rfl (by kernel_rfl) HP.out.held (fun hHeld => ?_)
  have HP1 := Lib.hid (HP.out.keep (Only.refl Nil w1).drew)
  have HR1 := Lib.hid HR.out.drew
  have HO1 := Lib.hid HO.out.drew
  clear HP HR HO
  generalize w1.drew = w2 at *
  refine mpt 0 rfl (.pointer (some ⟨B, 0, none⟩)) (fun w hSw => ?_) ?_
  · (try dsimp only at hSw)
    go_split_ands
    go_simp
  (try simp only [Act.put, k1, k2, k3])
  refine mpt 1 rfl (.pointer (some ⟨B, 0, none⟩)) (fun w hSw => ?_) ?_
  · (try dsimp only at hSw)
    go_split_ands
    go_simp
  (try simp only [Act.put, k1, k2, k3])
  refine mpa 2 rfl (.pointer (some ⟨B, 0, none⟩)) (fun w => ?_) ?_
  · go_simp
  (try simp only [Act.put, k1, k2, k3])
  refine mpa 3 rfl (.pointer (some ⟨B, 0, none⟩)) (fun w => ?_) ?_
  · go_simp
  (try simp only [Act.put, k1, k2, k3])
  refine mpt 4 rfl (.pointer p) (fun w hSw => ?_) ?_
  · (try dsimp only at hSw)
    go_split_ands
    go_simp
  (try simp only [Act.put, k1, k2, k3])
  refine mpt 5 rfl (.pointer (some ⟨B, 0, none⟩)) (fun w hSw => ?_) ?_
  · (try dsimp only at hSw)
    go_split_ands
    go_simp
  (try simp only [Act.put, k1, k2, k3])
  refine mpa 6 rfl (.pointer (some ⟨B, 0, none⟩)) (fun w => ?_) ?_
  · go_simp
  (try simp only [Act.put, k1, k2, k3])
  refine mpa 7 rfl (.pointer (some ⟨B, 1, none⟩)) (fun w => ?_) ?_
  · go_simp
  (try simp only [Act.put, k1, k2, k3])
  refine mpt 8 rfl (.agg #[.int .i64 r.n]) (fun w hSw => ?_) ?_
  · (try dsimp only at hSw)
    go_split_ands
    go_simp
  (try simp only [Act.put, k1, k2, k3])
  refine mpt 9 rfl (.pointer (some ⟨B, 0, none⟩)) (fun w hSw => ?_) ?_
  · (try dsimp only at hSw)
    go_split_ands
    go_simp
  (try simp only [Act.put, k1, k2, k3])
  refine mpa 10 rfl (.pointer (some ⟨B, 0, none⟩)) (fun w => ?_) ?_
  · go_simp
  (try simp only [Act.put, k1, k2, k3])
  refine mpa 11 rfl (.pointer (some ⟨B, 2, none⟩)) (fun w => ?_) ?_
  · go_simp
  (try simp only [Act.put, k1, k2, k3])
  refine mpt 12 rfl (.int .i64 r.mode) (fun w hSw => ?_) ?_
  · (try dsimp only at hSw)
    go_split_ands
    go_simp
  (try simp only [Act.put, k1, k2, k3])
  refine mpt 13 rfl (.pointer (some ⟨B, 0, none⟩)) (fun w hSw => ?_) ?_
  · (try dsimp only at hSw)
    go_split_ands
    go_simp
  (try simp only [Act.put, k1, k2, k3])
  refine mpa 14 rfl (.pointer (some ⟨B, 0, none⟩)) (fun w => ?_) ?_
  · go_simp
  (try simp only [Act.put, k1, k2, k3])
  refine mpa 15 rfl (.pointer (some ⟨B, 3, none⟩)) (fun w => ?_) ?_
  · go_simp
  (try simp only [Act.put, k1, k2, k3])
  refine mpt 16 rfl (.int .i64 r.task) (fun w hSw => ?_) ?_
  · (try dsimp only at hSw)
    go_split_ands
    go_simp
  (try simp only [Act.put, k1, k2, k3])
  refine mpt 17 rfl (.pointer (some ⟨B, 0, none⟩)) (fun w hSw => ?_) ?_
  · (try dsimp only at hSw)
    go_split_ands
    go_simp
  (try simp only [Act.put, k1, k2, k3])
  refine mpa 18 rfl (.pointer (some ⟨B, 0, none⟩)) (fun w => ?_) ?_
  · go_simp
  (try simp only [Act.put, k1, k2, k3])
  refine mpa 19 rfl (.pointer (some ⟨B, 4, none⟩)) (fun w => ?_) ?_
  · go_simp
  (try simp only [Act.put, k1, k2, k3])
  refine mpa 20 rfl (.pointer (some ⟨B, 8, none⟩)) (fun w => ?_) ?_
  · go_simp
  (try simp only [Act.put, k1, k2, k3])
  refine mpt 21 rfl (.agg #[.int .i64 r.s]) (fun w hSw => ?_) ?_
  · (try dsimp only at hSw)
    go_split_ands
    go_simp
  (try simp only [Act.put, k1, k2, k3])
  refine mpt 22 rfl (.int .i64 c) (fun w hSw => ?_) ?_
  · (try dsimp only at hSw)
    go_split_ands
    go_simp
  (try simp only [Act.put, k1, k2, k3])
  refine mpt 23 rfl (fv) (fun w hSw => ?_) ?_
  · (try dsimp only at hSw)
    go_split_ands
    go_simp
  (try simp only [Act.put, k1, k2, k3])
  refine mpc 24 rfl (by kernel_rfl) (by rfl) (fun K hK => ?_)
  go_simp
  refine (step_any p A cp r.xs r.n r.mode r.task r.s c fv q _ HP1.out.run.memo HF.out HX.out).mono ?_
  rw [HST.out]
  intro e w3 hF
  obtain ⟨rfl, hO, hM⟩ := hF
  dsimp only at hM ⊢
  rw [HAC.out]
  clear HAC
  generalize ofV ac = a5 at *
  dsimp only [Acc5.v]
  have HP2 := Lib.hid (HP1.out.call hO hM)
  have HR2 := Lib.hid (HR1.out.only hO (fun e => memo_not HP1.out.run.memo HR1.out (by decide) (by decide) (.inr e)))
  have HO2 := Lib.hid (HO1.out.trans (hO.mono (T := Wd B A g) (fun _ _ e => .inl (.inr e))))
  refine hK.out _ _ (.inr HP2.out.held) ?_
  have hHeld2 := HP2.out.held
  clear hK K hHeld hO hM HP1 HR1 HO1
  (try simp only [Act.put, k1, k2, k3])
  refine mpa 25 rfl (.tuple #[.agg #[.int .i64 nx], .agg #[.int .i64 a5.k, .int .i64 a5.c, .int .u32 a5.x, .int .u32 a5.y, .int .u32 a5.o], .bool sn, .bool dn]) (fun w => ?_) ?_
  · go_simp
  (try simp only [Act.put, k1, k2, k3])
  refine mpa 26 rfl (.agg #[.int .i64 nx]) (fun w => ?_) ?_
  · go_simp
  (try simp only [Act.put, k1, k2, k3])
  refine mpa 27 rfl (.agg #[.int .i64 a5.k, .int .i64 a5.c, .int .u32 a5.x, .int .u32 a5.y, .int .u32 a5.o]) (fun w => ?_) ?_
  · go_simp
  (try simp only [Act.put, k1, k2, k3])
  refine mpa 28 rfl (.bool sn) (fun w => ?_) ?_
  · go_simp
  (try simp only [Act.put, k1, k2, k3])
  refine mpa 29 rfl (.bool dn) (fun w => ?_) ?_
  · go_simp
  (try simp only [Act.put, k1, k2, k3])
  refine mpa 30 rfl (.pointer (some ⟨B, 0, none⟩)) (fun w => ?_) ?_
  · go_simp
  (try simp only [Act.put, k1, k2, k3])
  refine mpa 31 rfl (.pointer (some ⟨B, 4, none⟩)) (fun w => ?_) ?_
  · go_simp
  (try simp only [Act.put, k1, k2, k3])
  refine mpa 32 rfl (.pointer (some ⟨B, 8, none⟩)) (fun w => ?_) ?_
  · go_simp
  (try simp only [Act.put, k1, k2, k3])
  have c8 : w3.cell? ⟨B, 8, none⟩ = some (.int .i64 r.s) := HP2.out.run.row.cell_ (i := 8) rfl
  have f8 : w3.frozen? ⟨B, 8, none⟩ = false := HP2.out.run.row.frozen 8
  refine mpc 33 rfl (by kernel_rfl) (by rfl) (fun K hK => ?_)
  go_simp
  have HP3 := Lib.hid (HP2.out.setS nx)
  have HO3 := Lib.hid (HO2.out.setCell (p := ⟨B, 8, none⟩) (.inr (.inl (.inl rfl))) (.int .i64 nx))
  have HR3 := Lib.hid (HR2.out.far (p := ⟨B, 8, none⟩) (Ne.symm HBA.out) (.int .i64 nx))
  refine hK.out _ _ (.inl (by kernel_rfl)) ?_
  clear hK K hHeld2 c8 f8 HP2 HO2 HR2
  generalize w3.setCell ⟨B, 8, none⟩ (.int .i64 nx) = w4 at *
  (try simp only [Act.put, k1, k2, k3])
  have a0 : w4.cell? ⟨ga, 0, none⟩ = some (.int .i64 0) := HR3.out.cell_ (i := 0) rfl
  have a1 : w4.cell? ⟨ga, 1, none⟩ = some (.int .i64 0) := HR3.out.cell_ (i := 1) rfl
  have a2 : w4.cell? ⟨ga, 2, none⟩ = some (.int .u32 0) := HR3.out.cell_ (i := 2) rfl
  have a3 : w4.cell? ⟨ga, 3, none⟩ = some (.int .u32 0) := HR3.out.cell_ (i := 3) rfl
  have a4 : w4.cell? ⟨ga, 4, none⟩ = some (.int .u32 0) := HR3.out.cell_ (i := 4) rfl
  have f0 : w4.frozen? ⟨ga, 0, none⟩ = false := HR3.out.frozen 0
  have f1 : w4.frozen? ⟨ga, 1, none⟩ = false := HR3.out.frozen 1
  have f2 : w4.frozen? ⟨ga, 2, none⟩ = false := HR3.out.frozen 2
  have f3 : w4.frozen? ⟨ga, 3, none⟩ = false := HR3.out.frozen 3
  have f4 : w4.frozen? ⟨ga, 4, none⟩ = false := HR3.out.frozen 4
  refine mpc 34 rfl (by kernel_rfl) (by rfl) (fun K hK => ?_)
  go_simp
  have ho5 := five_only (Only.refl (· = ga) w4) (g := ga) (.inr rfl) (.int .i64 a5.k) (.int .i64 a5.c) (.int .u32 a5.x) (.int .u32 a5.y) (.int .u32 a5.o)
  have HP4 := Lib.hid (HP3.out.far HR3.out ho5 HBA.out (by decide) (by decide) (by decide) HGA.out)
  have HO4 := Lib.hid (five_only HO3.out (g := ga) (.inl (by have := HG.out; omega)) (.int .i64 a5.k) (.int .i64 a5.c) (.int .u32 a5.x) (.int .u32 a5.y) (.int .u32 a5.o))
  have HR4 := Lib.hid (five HR3.out (.int .i64 a5.k) (.int .i64 a5.c) (.int .u32 a5.x) (.int .u32 a5.y) (.int .u32 a5.o))
  refine hK.out _ _ (.inl (by kernel_rfl)) ?_
  clear hK K ho5 a0 a1 a2 a3 a4 f0 f1 f2 f3 f4 HP3 HO3 HR3
  generalize (((((w4.setCell ⟨ga, 0, none⟩ (.int .i64 a5.k)).setCell ⟨ga, 1, none⟩ (.int .i64 a5.c)).setCell ⟨ga, 2, none⟩ (.int .u32 a5.x)).setCell ⟨ga, 3, none⟩ (.int .u32 a5.y)).setCell ⟨ga, 4, none⟩ (.int .u32 a5.o)) = w5 at *
  (try simp only [Act.put, k1, k2, k3])
  have b3 : w5.cell? ⟨g + 3, 0, none⟩ = some (.bool s3) := HP4.out.r3.cell_ (i := 0) rfl
  have f3 : w5.frozen? ⟨g + 3, 0, none⟩ = false := HP4.out.r3.frozen 0
  refine mpc 35 rfl (by kernel_rfl) (by rfl) (fun K hK => ?_)
  go_simp
  have HP5 := Lib.hid (HP4.out.set3 sn)
  have HO5 := Lib.hid (HO4.out.setCell (p := ⟨g + 3, 0, none⟩) (.inr (.inr (.inl rfl))) (.bool sn))
  have HR5 := Lib.hid (HR4.out.far (p := ⟨g + 3, 0, none⟩) (HGA.out 3 (by decide)) (.bool sn))
  refine hK.out _ _ (.inl (by kernel_rfl)) ?_
  clear hK K b3 f3 HP4 HO4 HR4
  generalize w5.setCell ⟨g + 3, 0, none⟩ (.bool sn) = w6 at *
  (try simp only [Act.put, k1, k2, k3])
  have b3 : w6.cell? ⟨g + 4, 0, none⟩ = some (.bool s4) := HP5.out.r4.cell_ (i := 0) rfl
  have f3 : w6.frozen? ⟨g + 4, 0, none⟩ = false := HP5.out.r4.frozen 0
  refine mpc 36 rfl (by kernel_rfl) (by rfl) (fun K hK => ?_)
  go_simp
  have HP6 := Lib.hid (HP5.out.set4 dn)
  have HO6 := Lib.hid (HO5.out.setCell (p := ⟨g + 4, 0, none⟩) (.inr (.inr (.inr rfl))) (.bool dn))
  have HR6 := Lib.hid (HR5.out.far (p := ⟨g + 4, 0, none⟩) (HGA.out 4 (by decide)) (.bool dn))
  refine hK.out _ _ (.inl (by kernel_rfl)) ?_
  clear hK K b3 f3 HP5 HO5 HR5
  generalize w6.setCell ⟨g + 4, 0, none⟩ (.bool dn) = w7 at *
  (try simp only [Act.put, k1, k2, k3])
  refine wpAnyP_done (by kernel_rfl) ?_ _
  have a0 : w7.cell? ⟨ga, 0, none⟩ = some (.int .i64 a5.k) := HR6.out.cell_ (i := 0) rfl
  have a1 : w7.cell? ⟨ga, 1, none⟩ = some (.int .i64 a5.c) := HR6.out.cell_ (i := 1) rfl
  have a2 : w7.cell? ⟨ga, 2, none⟩ = some (.int .u32 a5.x) := HR6.out.cell_ (i := 2) rfl
  have a3 : w7.cell? ⟨ga, 3, none⟩ = some (.int .u32 a5.y) := HR6.out.cell_ (i := 3) rfl
  have a4 : w7.cell? ⟨ga, 4, none⟩ = some (.int .u32 a5.o) := HR6.out.cell_ (i := 4) rfl
  have f0 : w7.frozen? ⟨ga, 0, none⟩ = false := HR6.out.frozen 0
  have f1 : w7.frozen? ⟨ga, 1, none⟩ = false := HR6.out.frozen 1
  have f2 : w7.frozen? ⟨ga, 2, none⟩ = false := HR6.out.frozen 2
  have f3 : w7.frozen? ⟨ga, 3, none⟩ = false := HR6.out.frozen 3
  have f4 : w7.frozen? ⟨ga, 4, none⟩ = false := HR6.out.frozen 4
  have ho5 := five_only (Only.refl (· = ga) w7) (g := ga) (.inr rfl) (.int .i64 a5.k) (.int .i64 a5.c) (.int .u32 a5.x) (.int .u32 a5.y) (.int .u32 a5.o)
  have HP7 := Lib.hid (HP6.out.far HR6.out ho5 HBA.out (by decide) (by decide) (by decide) HGA.out)
  have HO7 := Lib.hid (five_only HO6.out (g := ga) (.inl (by have := HG.out; omega)) (.int .i64 a5.k) (.int .i64 a5.c) (.int .u32 a5.x) (.int .u32 a5.y) (.int .u32 a5.o))
  have HR7 := Lib.hid (five HR6.out (.int .i64 a5.k) (.int .i64 a5.c) (.int .u32 a5.x) (.int .u32 a5.y) (.int .u32 a5.o))
  clear ho5 HP6 HO6 HR6
  go_wp2
  exact post_row (P := Tryz.prog) Tryz.results107 (by rfl) HR7.out Tryz.underlying59 rfl (by kernel_rfl) rfl (by rw [HDE.out]; exact ⟨rfl, HO7.out, HP7.out⟩)
def WaitDone (w : World) (B : Nat) (p A : Option Addr) (cp : Nat) (nv : Value) (g : Nat) (c : Int) (fv : Value) (r : LS) (t : StepR) (e : Ending) (w' : World) : Prop :=
  e = .returned (.tuple #[]) ∧ Only (Wd B A g) w w' ∧ WB w' B p A cp nv g c fv { r with s := t.next, acc := ofV t.acc, xs := t.xs } t.seen t.done
set_option maxHeartbeats 1000000 in
theorem wait_do (B : Nat) (p A : Option Addr) (cp : Nat) (nv : Value) (g : Nat) (c : Int) (fv : Value) (q : Int → Bool) (r : LS) (s3 s4 : Bool) (w : World) (h : WB w B p A cp nv g c fv r s3 s4) (hf : Holds A w fv q) (hx : Words r.xs) :
    Calls Tryz.prog 29 #[.pointer (some ⟨B, 0, none⟩), .func (.func 107) #[] #[.pointer (some ⟨g, 0, none⟩), .pointer (some ⟨g + 1, 0, none⟩), .pointer (some ⟨g + 2, 0, none⟩), .pointer (some ⟨g + 3, 0, none⟩), .pointer (some ⟨g + 4, 0, none⟩)]] w (WaitDone w B p A cp nv g c fv r (r.stepR c q)) := by
  have HC := Lib.hid (wait_closure B p A cp nv g c fv q r s3 s4 w h hf hx)
  clear h hf hx
  go_enter Tryz.func29, Tryz.ntmps29
  go_wp2_with fail
  refine HC.out.mono ?_
  clear HC
  generalize r.stepR c q = t at *
  obtain ⟨nx, ac, sn, dn, zs⟩ := t
  intro e w1 hF
  obtain ⟨rfl, hO, hP⟩ := hF
  dsimp only at hP ⊢
  have HD := Lib.hid (show (⟨nx, ac, sn, dn, zs⟩ : StepR).acc = ac from rfl)
  have HDE := Lib.hid (show WaitDone w B p A cp nv g c fv r ⟨nx, ac, sn, dn, zs⟩ = fun e w' => e = .returned (.tuple #[]) ∧ Only (Wd B A g) w w' ∧ WB w' B p A cp nv g c fv { r with s := nx, acc := ofV ac, xs := zs } sn dn from rfl)
  generalize ofV ac = a5 at *
  dsimp only [Acc5.v]
  have HP := Lib.hid hP
  have HO := Lib.hid hO
  clear hP hO
  have a14 : w1.cell? ⟨B, 14, none⟩ = some (.int .i64 r.acc.k) := HP.out.run.row.cell_ (i := 14) rfl
  have a15 : w1.cell? ⟨B, 15, none⟩ = some (.int .i64 r.acc.c) := HP.out.run.row.cell_ (i := 15) rfl
  have a16 : w1.cell? ⟨B, 16, none⟩ = some (.int .u32 r.acc.x) := HP.out.run.row.cell_ (i := 16) rfl
  have a17 : w1.cell? ⟨B, 17, none⟩ = some (.int .u32 r.acc.y) := HP.out.run.row.cell_ (i := 17) rfl
  have a18 : w1.cell? ⟨B, 18, none⟩ = some (.int .u32 r.acc.o) := HP.out.run.row.cell_ (i := 18) rfl
  have f14 : w1.frozen? ⟨B, 14, none⟩ = false := HP.out.run.row.frozen 14
  have f15 : w1.frozen? ⟨B, 15, none⟩ = false := HP.out.run.row.frozen 15
  have f16 : w1.frozen? ⟨B, 16, none⟩ = false := HP.out.run.row.frozen 16
  have f17 : w1.frozen? ⟨B, 17, none⟩ = false := HP.out.run.row.frozen 17
  have f18 : w1.frozen? ⟨B, 18, none⟩ = false := HP.out.run.row.frozen 18
  go_wp2
  clear a14 a15 a16 a17 a18 f14 f15 f16 f17 f18
  go_returns
  rw [HDE.out]
  exact ⟨rfl, set_acc_only HO.out (B := B) (.inl (.inl rfl)) _ _ _ _ _, HP.out.turn (set_acc_only (Only.refl (· = B) w1) rfl _ _ _ _ _) (HP.out.run.setAcc a5)⟩
end Go.Proofs.YtocdbeonogfopaaGreat
set_option linter.unusedVariables false
set_option linter.unusedSimpArgs false
namespace Go.Proofs.YtocdbeonogfopaaGreat
open Go.RowKit
def Aside (t : TypeId) : Prop := t ≠ 61 ∧ t ≠ 73 ∧ t ≠ 22
theorem RunP.aside {w w' : World} {B : Nat} {p A : Option Addr} {cp : Nat} {nv : Value} {r : LS} {g : Nat} {t : TypeId} {cs : Array Value} (h : RunP w B p A cp nv r) (hg : Row w g t cs) (ho : Only (TurnB B A) w w') (ht : Aside t) : Row w' g t cs :=
  hg.only ho (fun e => by
    rcases e with e | e
    · exact row_ne hg h.row ht.1 e
    · exact memo_not h.memo hg ht.2.1 ht.2.2 (.inr e))
theorem RowsL.turn {w w' : World} {B : Nat} {p A : Option Addr} {cp : Nat} {nv : Value} {r : LS} {L : List (Nat × TypeId × Array Value)} (h : RowsL w L) (hp : RunP w B p A cp nv r) (ho : Only (TurnB B A) w w') (ht : ∀ x ∈ L, Aside x.2.1) : RowsL w' L := fun x hx => hp.aside (h x hx) ho (ht x hx)
end Go.Proofs.YtocdbeonogfopaaGreat
set_option linter.unusedVariables false
set_option linter.unusedSimpArgs false
namespace Go.Proofs.YtocdbeonogfopaaGreat
open Go.RowKit
def LS.keepA (r : LS) (v : Int) : LS := { r with a := v }
def LS.keepB (r : LS) (v : Int) : LS := { r with b := v }
def LS.mine (r : LS) (v : Int) : Bool := v == r.a
def LS.noteIf (r : LS) (b : Bool) (what : Int) : LS := if b then r.note what 0 else r
end Go.Proofs.YtocdbeonogfopaaGreat
set_option linter.unusedVariables false
set_option linter.unusedSimpArgs false
namespace Go.Proofs.YtocdbeonogfopaaGreat
open Go.RowKit
theorem word_bd {xs : List Int} (h : Words xs) (c : Int) : 0 ≤ wordAt xs c ∧ wordAt xs c < 4294967296 := word_wf h c
theorem doNew_wordsK {xs : List Int} (h : Words xs) (k c x y : Int) (hl : 0 ≤ leftOf k x y (wordAt xs c) ∧ leftOf k x y (wordAt xs c) < 4294967296) : Words (doNew xs k c x y) := by
  unfold doNew
  split
  · intro n hn
    rcases List.mem_or_eq_of_mem_set hn with hn | rfl
    · exact h n hn
    · exact wf_mk hl.1 hl.2
  · exact h
theorem wake_wordsK {xs : List Int} (h : Words xs) (n : Int) (on : Bool) (c i : Int) (hit : Bool) : Words (wakeI xs n on c i hit).xs := by
  unfold wakeI giveI lookI restI
  repeat' split
  all_goals first | exact h | exact h.st _ (by omega) (by omega)
theorem wake_lenK (xs : List Int) (n : Int) (on : Bool) (c i : Int) (hit : Bool) : (wakeI xs n on c i hit).xs.length = xs.length := by
  unfold wakeI giveI lookI restI
  repeat' split
  all_goals first | rfl | exact st_len _ _ _
structure LS.Good (r r' : LS) (m : Nat) : Prop where
  n : r'.n = r.n
  mode : r'.mode = r.mode
  task : r'.task = r.task
  op : r'.op = r.op
  len : r'.xs.length = r.xs.length
  words : Words r.xs → Words r'.xs
  notes : r'.ns.length ≤ r.ns.length + m
section
variable {r : LS}
theorem good_refl (r : LS) : r.Good r 0 := ⟨rfl, rfl, rfl, rfl, rfl, id, Nat.le_refl _⟩
theorem LS.Good.trans {r r' r'' : LS} {m m' : Nat} (h : r.Good r' m) (k : r'.Good r'' m') : r.Good r'' (m + m') :=
  ⟨k.n.trans h.n, k.mode.trans h.mode, k.task.trans h.task, k.op.trans h.op, k.len.trans h.len, k.words ∘ h.words, by have := h.notes; have := k.notes; omega⟩
theorem LS.Good.le {r r' : LS} {m m' : Nat} (h : r.Good r' m) (hm : m ≤ m') : r.Good r' m' := ⟨h.n, h.mode, h.task, h.op, h.len, h.words, by have := h.notes; omega⟩
theorem good_do {k c x y : Int} (hl : Words r.xs → 0 ≤ leftOf k x y (wordAt r.xs c) ∧ leftOf k x y (wordAt r.xs c) < 4294967296) : r.Good (r.doA k c x y) 0 := ⟨rfl, rfl, rfl, rfl, doNew_len _ _ _ _ _, fun h => doNew_wordsK h _ _ _ _ (hl h), Nat.le_refl _⟩
theorem good_load (c : Int) : r.Good (r.doA 1 c 0 0) 0 := good_do (fun h => word_bd h c)
theorem good_add (c x : Int) : r.Good (r.doA 3 c x 0) 0 := good_do (fun h => by show 0 ≤ (x + wordAt r.xs c) % 4294967296 ∧ (x + wordAt r.xs c) % 4294967296 < 4294967296; omega)
theorem good_cas (c x y : Int) (hy : 0 ≤ y ∧ y < 4294967296) : r.Good (r.doA 5 c x y) 0 := good_do (fun h => by
  show 0 ≤ (if wordAt r.xs c = x then y else wordAt r.xs c) ∧ (if wordAt r.xs c = x then y else wordAt r.xs c) < 4294967296
  split
  · exact hy
  · exact word_bd h c)
theorem good_note (what arg : Int) : r.Good (r.note what arg) 1 := ⟨rfl, rfl, rfl, rfl, rfl, id, by simp [LS.note]⟩
theorem good_go (l : Int) : r.Good (r.go l) 0 := ⟨rfl, rfl, rfl, rfl, rfl, id, Nat.le_refl _⟩
theorem good_fin (b : Bool) : r.Good (r.fin b) 0 := ⟨rfl, rfl, rfl, rfl, rfl, id, Nat.le_refl _⟩
theorem good_wake (c : Int) : r.Good (r.wake c) 0 := ⟨rfl, rfl, rfl, rfl, rfl, id, Nat.le_refl _⟩
theorem good_keepA (v : Int) : r.Good (r.keepA v) 0 := ⟨rfl, rfl, rfl, rfl, rfl, id, Nat.le_refl _⟩
theorem good_keepB (v : Int) : r.Good (r.keepB v) 0 := ⟨rfl, rfl, rfl, rfl, rfl, id, Nat.le_refl _⟩
theorem good_wait (c : Int) (q : Int → Bool) : r.Good (r.wait c q) 0 := ⟨rfl, rfl, rfl, rfl, step_len _ _ _ _ _ _ _, fun h => Words.step h _ _ _ _ _ _, Nat.le_refl _⟩
theorem good_fresh : r.Good r.fresh 0 := ⟨rfl, rfl, rfl, rfl, rfl, id, Nat.zero_le _⟩
theorem good_waking : r.Good r.waking 0 := ⟨rfl, rfl, rfl, rfl, wake_lenK _ _ _ _ _ _, fun h => wake_wordsK h _ _ _ _ _, Nat.zero_le _⟩
theorem good_noteIf (b : Bool) (what : Int) : r.Good (r.noteIf b what) 1 := by
  cases b
  · exact (good_refl r).le (by decide)
  · exact good_note _ _
theorem good_next {L : LS → LS} (hL : ∀ r : LS, r.Good (L r) 2) (r : LS) : r.Good (r.next L) 2 ∧ (r.next L).ns.length ≤ 2 := by
  unfold LS.next
  split
  · exact ⟨good_waking.le (by decide), Nat.zero_le _⟩
  · exact ⟨(good_fresh.trans (hL r.fresh)).le (by decide), Nat.le_trans (hL r.fresh).notes (by simp [LS.fresh])⟩
end
end Go.Proofs.YtocdbeonogfopaaGreat
set_option linter.unusedVariables false
set_option linter.unusedSimpArgs false
namespace Go.Proofs.YtocdbeonogfopaaGreat
open Go.RowKit
def newR (k mode task op : Int) (xs : List Int) : LS := ⟨k, mode, task, op, 0, 0, 0, 0, wk0, 0, acc0, [], xs⟩
def newCells (p : Option Addr) (k mode task op : Int) : Array Value := #[.pointer p, .int .i64 k, .int .i64 mode, .int .i64 task, .int .i64 op, .int .i64 0, .int .u32 0, .int .u32 0, .int .i64 0, .bool false, .int .i64 0, .int .i64 0, .bool false, .int .i64 0, .int .i64 0, .int .i64 0, .int .u32 0, .int .u32 0, .int .u32 0, .slice none 0 0]
end Go.Proofs.YtocdbeonogfopaaGreat
set_option linter.unusedVariables false
set_option linter.unusedSimpArgs false
namespace Go.Proofs.YtocdbeonogfopaaGreat
open Go.RowKit
structure LS.WB (r : LS) : Prop where
  words : Words r.xs
  a : 0 ≤ r.a ∧ r.a < 4294967296
  b : 0 ≤ r.b ∧ r.b < 4294967296
theorem wb_new {k mode task op : Int} {xs : List Int} (h : Words xs) : (newR k mode task op xs).WB := ⟨h, ⟨Int.le_refl _, by show (0 : Int) < _; decide⟩, ⟨Int.le_refl _, by show (0 : Int) < _; decide⟩⟩
def LS.KeepsAB (r r' : LS) : Prop := (r'.a = r.a ∨ ∃ c, r'.a = wordAt r.xs c) ∧ (r'.b = r.b ∨ ∃ c, r'.b = wordAt r.xs c)
theorem wb_next {L : LS → LS} {m : Nat} (hL : ∀ r : LS, r.Good (L r) m) (hK : ∀ r : LS, r.KeepsAB (L r)) {r : LS} (h : r.WB) : (r.next L).WB := by
  unfold LS.next
  split
  · exact ⟨good_waking.words h.words, h.a, h.b⟩
  · refine ⟨(hL r.fresh).words h.words, ?_, ?_⟩
    · rcases (hK r.fresh).1 with e | ⟨c, e⟩
      · rw [e]; exact h.a
      · rw [e]; exact word_bd h.words c
    · rcases (hK r.fresh).2 with e | ⟨c, e⟩
      · rw [e]; exact h.b
      · rw [e]; exact word_bd h.words c
end Go.Proofs.YtocdbeonogfopaaGreat
set_option linter.unusedVariables false
set_option linter.unusedSimpArgs false
namespace Go.Proofs.YtocdbeonogfopaaGreat
open Go.RowKit
def LS.AB (r : LS) : Prop := (0 ≤ r.a ∧ r.a < 4294967296) ∧ (0 ≤ r.b ∧ r.b < 4294967296)
structure MatchP (L : List (Nat × TypeId × Array Value)) (w0 : World) (X GL GH : Nat) (B : Nat → Nat) (p A : Option Addr) (cp k : Nat) (m : MV) (W : World) : Prop where
  x : ∃ cl, Row W X 49 #[.slice (some ⟨GL, 0, none⟩) k cl, .slice (some ⟨GH, 0, none⟩) k k]
  l : ∃ cs, Row W GL 62 cs ∧ ∀ i, i < k → cs[i]? = some (.pointer (some ⟨B i, 0, none⟩))
  h : ∃ cs, Row W GH 3 cs ∧ ∀ i, i < k → cs[i]? = some (.int .i64 (m.hold i))
  run : ∀ i, i < k → ∃ nv, RunQ W (B i) p A cp nv (m.at i)
  inj : ∀ i j, i < k → j < k → B i = B j → i = j
  memo : Memo W p A cp m.xs
  words : Words m.xs
  only : Only Nil w0 W
  new : ∀ j, (j = GH ∨ At A j ∨ ∃ i, i < k ∧ j = B i) → w0.heap.size ≤ j
  side : RowsL W L
  sideT : ∀ x ∈ L, Aside x.2.1 ∧ x.2.1 ≠ 3
  ab : ∀ i, i < k → (m.rs i).AB
section
variable {L : List (Nat × TypeId × Array Value)} {w0 W W' : World} {X GL GH : Nat} {B : Nat → Nat} {p A : Option Addr} {cp k : Nat} {m : MV} {t : Nat} {r' : LS} {nv : Value} {v : Int}
theorem RunQ.aside {w w' : World} {b : Nat} {p A : Option Addr} {cp : Nat} {nv : Value} {r : LS} {g : Nat} {t : TypeId} {cs : Array Value} (h : RunQ w b p A cp nv r) (hg : Row w g t cs) (ho : Only (TurnB b A) w w') (ht : Aside t) : Row w' g t cs :=
  hg.only ho (fun e => by
    rcases e with e | e
    · exact row_ne hg h.row ht.1 e
    · exact memo_not h.memo hg ht.2.1 ht.2.2 (.inr e))
theorem aside_m : Aside 49 := ⟨by decide, by decide, by decide⟩
theorem aside_pp : Aside 62 := ⟨by decide, by decide, by decide⟩
theorem aside_ii : Aside 3 := ⟨by decide, by decide, by decide⟩
theorem MatchP.ran (h : MatchP L w0 X GL GH B p A cp k m W) (ht : t < k) (ho : Only (TurnB (B t) A) W W') (hq : RunQ W' (B t) p A cp nv r') (hw : Words r'.xs) (hab : r'.AB) : MatchP L w0 X GL GH B p A cp k (m.setR t r') W' := by
  obtain ⟨nv0, q0⟩ := h.run t ht
  refine ⟨?_, ?_, ?_, fun i hi => ?_, h.inj, hq.memo, hw, h.only.step ho (fun j hj e => ?_), h.new, fun x hx => q0.aside (h.side x hx) ho (h.sideT x hx).1, h.sideT, fun i hi => by
    show (upd m.rs t r' i).AB
    by_cases e : i = t
    · subst e; rw [upd_same]; exact hab
    · rw [upd_other _ _ e]; exact h.ab i hi⟩
  · obtain ⟨cl, e⟩ := h.x
    exact ⟨cl, q0.aside e ho aside_m⟩
  · obtain ⟨cs, e, e2⟩ := h.l
    exact ⟨cs, q0.aside e ho aside_pp, e2⟩
  · obtain ⟨cs, e, e2⟩ := h.h
    exact ⟨cs, q0.aside e ho aside_ii, e2⟩
  · by_cases e : i = t
    · subst e
      rw [at_setR]
      exact ⟨nv, hq⟩
    · obtain ⟨nvi, qi⟩ := h.run i hi
      rw [at_setR_other e]
      refine ⟨nvi, qi.row.only ho (fun e2 => ?_), hq.memo⟩
      rcases e2 with e2 | e2
      · exact e (h.inj i t hi ht e2)
      · exact qi.far (.inr e2) rfl
  · have := h.new j (by rcases e with e | e; exact .inr (.inr ⟨t, ht, e⟩); exact .inr (.inl e))
    omega
theorem MatchP.same (h : MatchP L w0 X GL GH B p A cp k m W) (ho : Only (At A) W W') (hm : Memo W' p A cp m.xs) : MatchP L w0 X GL GH B p A cp k m W' := by
  refine ⟨?_, ?_, ?_, fun i hi => ?_, h.inj, hm, h.words, h.only.step ho (fun j hj e => ?_), h.new, fun x hx => (h.side x hx).only ho (fun e2 => memo_not h.memo (h.side x hx) (h.sideT x hx).1.2.1 (h.sideT x hx).1.2.2 (.inr e2)), h.sideT, h.ab⟩
  · obtain ⟨cl, e⟩ := h.x
    exact ⟨cl, e.only ho (fun e2 => memo_not h.memo e aside_m.2.1 aside_m.2.2 (.inr e2))⟩
  · obtain ⟨cs, e, e2⟩ := h.l
    exact ⟨cs, e.only ho (fun e2 => memo_not h.memo e aside_pp.2.1 aside_pp.2.2 (.inr e2)), e2⟩
  · obtain ⟨cs, e, e2⟩ := h.h
    exact ⟨cs, e.only ho (fun e2 => memo_not h.memo e aside_ii.2.1 aside_ii.2.2 (.inr e2)), e2⟩
  · obtain ⟨nvi, qi⟩ := h.run i hi
    exact ⟨nvi, qi.row.only ho (fun e2 => qi.far (.inr e2) rfl), hm⟩
  · have := h.new j (.inr (.inl e))
    omega
theorem MatchP.keep (h : MatchP L w0 X GL GH B p A cp k m W) (ho : Only Nil W W') : MatchP L w0 X GL GH B p A cp k m W' := h.same (ho.mono (fun _ _ h => h.elim)) (h.memo.keep ho)
theorem MatchP.held (h : MatchP L w0 X GL GH B p A cp k m W) (ht : t < k) (v : Int) : MatchP L w0 X GL GH B p A cp k (m.setH t v) (W.setCell ⟨GH, t, none⟩ (.int .i64 v)) := by
  obtain ⟨cs, hh, hc⟩ := h.h
  have ho := (Only.refl (· = GH) W).setCell (p := ⟨GH, t, none⟩) (.inr rfl) (.int .i64 v)
  have hsz : t < cs.size := by have := hc t ht; exact (Array.getElem?_eq_some_iff.1 this).1
  refine ⟨?_, ?_, ⟨_, hh.set t (.int .i64 v), fun i hi => ?_⟩, fun i hi => ?_, h.inj, h.memo.far ho (fun j hj e => ?_), h.words, h.only.setCell (.inl (h.new GH (.inl rfl))) _, h.new, fun x hx => (h.side x hx).only ho (fun e2 => row_ne (h.side x hx) hh (h.sideT x hx).2 e2), h.sideT, h.ab⟩
  · obtain ⟨cl, e⟩ := h.x
    exact ⟨cl, e.only ho (fun e2 => row_ne e hh (by decide) e2)⟩
  · obtain ⟨cs', e, e2⟩ := h.l
    exact ⟨cs', e.only ho (fun e2 => row_ne e hh (by decide) e2), e2⟩
  · show (cs.setIfInBounds t _)[i]? = some (.int .i64 (upd m.hold t v i))
    by_cases e : i = t
    · subst e
      rw [upd_same, Array.getElem?_setIfInBounds_self]
      simp [hsz]
    · rw [upd_other _ _ e, Array.getElem?_setIfInBounds_ne (Ne.symm e)]
      exact hc i hi
  · obtain ⟨nvi, qi⟩ := h.run i hi
    exact ⟨nvi, qi.row.only ho (fun e2 => row_ne qi.row hh (by decide) e2), h.memo.far ho (fun j hj e => memo_not h.memo hh (by decide) (by decide) (by subst e; exact hj))⟩
  · exact memo_not h.memo hh (by decide) (by decide) (by subst e; exact hj)
theorem MatchP.beside {g : Nat} {ty : TypeId} {cs : Array Value} (h : MatchP L w0 X GL GH B p A cp k m W) (hr : Row W g ty cs) (h1 : Aside ty) (h2 : ty ≠ 3) : MatchP ((g, ty, cs) :: L) w0 X GL GH B p A cp k m W :=
  ⟨h.x, h.l, h.h, h.run, h.inj, h.memo, h.words, h.only, h.new, h.side.cons hr, fun x hx => by
    rcases List.mem_cons.1 hx with rfl | hx
    · exact ⟨h1, h2⟩
    · exact h.sideT x hx, h.ab⟩
def frameW (W : World) (b : Nat) (op : Int) : World :=
  (((((((((W.setCell ⟨b, 4, none⟩ (.int .i64 op)).setCell ⟨b, 5, none⟩ (.int .i64 0)).setCell ⟨b, 6, none⟩ (.int .u32 0)).setCell ⟨b, 7, none⟩ (.int .u32 0)).setCell ⟨b, 8, none⟩ (.int .i64 0)).setCell ⟨b, 9, none⟩ (.bool false)).setCell ⟨b, 10, none⟩ (.int .i64 0)).setCell ⟨b, 11, none⟩ (.int .i64 0)).setCell ⟨b, 12, none⟩ (.bool false)).setCell ⟨b, 13, none⟩ (.int .i64 0)
theorem frame_only (W : World) (b : Nat) (op : Int) : Only (· = b) W (frameW W b op) :=
  (((((((((((Only.refl (· = b) W).setCell (p := ⟨b, 4, none⟩) (.inr rfl) _).setCell (p := ⟨b, 5, none⟩) (.inr rfl) _).setCell (p := ⟨b, 6, none⟩) (.inr rfl) _).setCell (p := ⟨b, 7, none⟩) (.inr rfl) _).setCell (p := ⟨b, 8, none⟩) (.inr rfl) _).setCell (p := ⟨b, 9, none⟩) (.inr rfl) _).setCell (p := ⟨b, 10, none⟩) (.inr rfl) _).setCell (p := ⟨b, 11, none⟩) (.inr rfl) _).setCell (p := ⟨b, 12, none⟩) (.inr rfl) _).setCell (p := ⟨b, 13, none⟩) (.inr rfl) _)
theorem frame_row {b : Nat} {r : LS} {hv nv : Value} {ty : TypeId} (h : Row W b ty (r.cells hv nv)) (op : Int) : Row (frameW W b op) b ty ((zeroF r op).cells hv nv) := by
  have e1 : Row (((((W.setCell ⟨b, 4, none⟩ (.int .i64 op)).setCell ⟨b, 5, none⟩ (.int .i64 0)).setCell ⟨b, 6, none⟩ (.int .u32 0)).setCell ⟨b, 7, none⟩ (.int .u32 0)).setCell ⟨b, 8, none⟩ (.int .i64 0)) b ty (({ r with op := op, line := 0, a := 0, b := 0, s := 0 } : LS).cells hv nv) :=
    ((((h.set 4 (.int .i64 op)).set 5 (.int .i64 0)).set 6 (.int .u32 0)).set 7 (.int .u32 0)).set 8 (.int .i64 0)
  have e2 := (set_wake_row e1 wk0).set 13 (.int .i64 0)
  exact e2
theorem MatchP.framed (h : MatchP L w0 X GL GH B p A cp k m W) (ht : t < k) (op : Int) : MatchP L w0 X GL GH B p A cp k (m.setR t (zeroF (m.at t) op)) (frameW W (B t) op) := by
  obtain ⟨nv, q⟩ := h.run t ht
  exact h.ran ht ((frame_only W (B t) op).mono (fun _ _ e => .inl e)) ⟨frame_row q.row op, h.memo.far (frame_only W (B t) op) (fun j hj => q.far hj)⟩ h.words ⟨⟨Int.le_refl _, by show (0 : Int) < _; decide⟩, ⟨Int.le_refl _, by show (0 : Int) < _; decide⟩⟩
end
end Go.Proofs.YtocdbeonogfopaaGreat
set_option linter.unusedVariables false
set_option linter.unusedSimpArgs false
namespace Go.Proofs.YtocdbeonogfopaaGreat
open Go.RowKit
section
variable (B : Nat) (p A : Option Addr) (cp : Nat) (nv : Value) (r : LS) (c x y : Int) (w : World)
theorem RunP.setRet {w : World} {B : Nat} {p A : Option Addr} {cp : Nat} {nv : Value} {r : LS} (h : RunP w B p A cp nv r) (v : Int) : RunP (w.setCell ⟨B, 13, none⟩ (.int .i64 v)) B p A cp nv { r with ret := v } :=
  h.turn ((Only.refl (· = B) w).setCell (p := ⟨B, 13, none⟩) (.inr rfl) _) (h.row.set 13 (.int .i64 v)) rfl rfl
theorem end_run (ok : Bool) (h : RunP w B p A cp nv r) : Calls Tryz.prog 65 #[.pointer (some ⟨B, 0, none⟩), .bool ok] w (Done B p A cp w (.tuple #[]) (r.fin ok)) := by
  have c13 : w.cell? ⟨B, 13, none⟩ = some (.int .i64 r.ret) := h.row.cell_ (i := 13) rfl
  have f13 : w.frozen? ⟨B, 13, none⟩ = false := h.row.frozen 13
  have HP := Lib.hid h
  clear h
  cases ok
  · go_enter Tryz.func65, Tryz.ntmps65
    go_wp2
    go_returns
    exact ⟨rfl, (Only.refl (TurnB B A) w).setCell (p := ⟨B, 13, none⟩) (.inr (.inl rfl)) _, nv, HP.out.setRet 1⟩
  · go_enter Tryz.func65, Tryz.ntmps65
    go_wp2
    go_returns
    exact ⟨rfl, ((Only.refl (TurnB B A) w).setCell (p := ⟨B, 13, none⟩) (.inr (.inl rfl)) _).setCell (p := ⟨B, 13, none⟩) (.inr (.inl rfl)) _, nv, (HP.out.setRet 1).setRet 2⟩
end
end Go.Proofs.YtocdbeonogfopaaGreat
set_option linter.unusedVariables false
set_option linter.unusedSimpArgs false
namespace Go.Proofs.YtocdbeonogfopaaGreat
open Go.RowKit
section
variable (B : Nat) (p A : Option Addr) (cp : Nat) (nv : Value) (r : LS) (c x y : Int) (w : World)
theorem add_run (h : RunP w B p A cp nv r) : Calls Tryz.prog 59 #[.pointer (some ⟨B, 0, none⟩), .int .i64 c, .int .u32 x] w (Done B p A cp w (.int .u32 (wordAt r.xs c)) (r.doA 3 c x 0)) := by
  go_enter Tryz.func59, Tryz.ntmps59
  go_wp2_with fail
  refine (access_run B p A cp nv r 3 c x 0 0 _ h rfl).mono ?_
  rintro e w1 ⟨rfl, hO, hP⟩
  have HO := Lib.hid hO
  have HP := Lib.hid hP
  clear hO hP h
  go_wp2
  go_ret
  exact ⟨rfl, HO.out, nv, HP.out⟩
end
end Go.Proofs.YtocdbeonogfopaaGreat
set_option linter.unusedVariables false
set_option linter.unusedSimpArgs false
namespace Go.Proofs.YtocdbeonogfopaaGreat
open Go.RowKit
theorem Row.at {w : World} {t : TypeId} {cs : Array Value} {k : Nat} (h : w.heap.size = k) : Row (w.alloc (.cells cs t)) k t cs := by subst h; exact Row.new w t cs
set_option maxRecDepth 100000 in
set_option maxHeartbeats 1000000 in
theorem wait_run (B : Nat) (p A : Option Addr) (cp : Nat) (nv : Value) (r : LS) (c : Int) (F : Fn) (f1 f2 : Array Value) (q : Int → Bool) (w : World) (h : RunP w B p A cp nv r) (hf : Holds A w (.func F f1 f2) q) (hx : Words r.xs) :
    Calls Tryz.prog 63 #[.pointer (some ⟨B, 0, none⟩), .int .i64 c, .func F f1 f2] w (Done B p A cp w (.tuple #[.bool (r.stepR c q).seen, .bool (r.stepR c q).done]) (r.wait c q)) := by
  have e0 := (((((Only.refl Nil w).alloc (.cells #[.pointer (some ⟨B, 0, none⟩)] 62)).alloc (.cells #[.int .i64 c] 3)).alloc (.cells #[.func F f1 f2] 110)).alloc (.cells #[.bool false] 4)).alloc (.cells #[.bool false] 4)
  have HP : Hid (WB _ B p A cp nv w.heap.size c (.func F f1 f2) r false false) := Lib.hid ⟨h.keep e0, ((((Row.new w 62 #[.pointer (some ⟨B, 0, none⟩)]).alloc _).alloc _).alloc _).alloc _,
    (((Row.at (t := 3) (cs := #[.int .i64 c]) (by simp)).alloc _).alloc _).alloc _, ((Row.at (t := 110) (cs := #[.func F f1 f2]) (by simp)).alloc _).alloc _, (Row.at (t := 4) (cs := #[.bool false]) (by simp)).alloc _, Row.at (by simp)⟩
  have HO := Lib.hid (e0.mono (T := TurnB B A) (fun _ _ h => h.elim))
  have HF := Lib.hid (hf.move0 e0)
  have HX := Lib.hid hx
  clear h hf hx e0
  rw [show r.wait c q = { r with s := (r.stepR c q).next, acc := ofV (r.stepR c q).acc, xs := (r.stepR c q).xs } from rfl]
  generalize hst : r.stepR c q = t at *
  have HST := Lib.hid hst
  clear hst
  obtain ⟨nx, ac, sn, dn, zs⟩ := t
  dsimp only
  generalize hr2 : ({ r with s := nx, acc := ofV ac, xs := zs } : LS) = r2 at *
  have HR2 := Lib.hid hr2
  clear hr2
  go_enter Tryz.func63, Tryz.ntmps63
  go_upto_region 1 with (fail)
  generalize ((((w.alloc (.cells #[.pointer (some ⟨B, 0, none⟩)] 62)).alloc (.cells #[.int .i64 c] 3)).alloc (.cells #[.func F f1 f2] 110)).alloc (.cells #[.bool false] 4)).alloc (.cells #[.bool false] 4) = w1 at *
  generalize hgg : w.heap.size = g at *
  have HG := Lib.hid hgg
  clear hgg
  have a0 : w1.cell? ⟨g, 0, none⟩ = some (.pointer (some ⟨B, 0, none⟩)) := HP.out.r0.cell_ (i := 0) rfl
  go_wp2_with fail
  clear a0
  refine (wait_do B p A cp nv g c (.func F f1 f2) q r false false _ HP.out HF.out HX.out).mono ?_
  rw [HST.out]
  intro e w2 hF
  obtain ⟨rfl, hO, hP⟩ := hF
  dsimp only at hP
  rw [HR2.out] at hP
  have HP2 := Lib.hid hP
  have HO2 := Lib.hid (HO.out.step hO (fun i hi hd => by
    rcases hd with hd | hd | hd
    · exact hd
    · have := HG.out; omega
    · have := HG.out; omega))
  clear hO hP HP HO
  go_upto_region 4 with (fail)
  refine wp_region_phase (n := 4) 3 (fun w => w.cell? ⟨g + 3, 0, none⟩ = some (.bool sn) ∧ w.cell? ⟨g + 4, 0, none⟩ = some (.bool dn)) rfl (by kernel_rfl) ⟨HP2.out.r3.cell_ (i := 0) rfl, HP2.out.r4.cell_ (i := 0) rfl⟩ (fun hHeld => ?_)
  have HP3 := Lib.hid (HP2.out.keep (Only.refl Nil w2).drew)
  have HO3 := Lib.hid HO2.out.drew
  clear HP2 HO2
  generalize w2.drew = w3 at *
  refine mpt 0 rfl (.bool sn) (fun w hSw => ?_) ?_
  · (try dsimp only at hSw)
    go_split_ands
    go_simp
  (try simp only [Act.put, k1, k2, k3])
  refine mpt 1 rfl (.bool dn) (fun w hSw => ?_) ?_
  · (try dsimp only at hSw)
    go_split_ands
    go_simp
  (try simp only [Act.put, k1, k2, k3])
  have b3 : w3.cell? ⟨g + 1 + 1 + 1, 0, none⟩ = some (.bool sn) := HP3.out.r3.cell_ (i := 0) rfl
  have f3 : w3.frozen? ⟨g + 1 + 1 + 1, 0, none⟩ = false := HP3.out.r3.frozen 0
  refine mpc 2 rfl (by kernel_rfl) (by rfl) (fun K hK => ?_)
  go_simp
  have HP4 : Hid (WB (w3.setCell ⟨g + 1 + 1 + 1, 0, none⟩ (.bool sn)) B p A cp nv g c (.func F f1 f2) r2 sn dn) := Lib.hid (HP3.out.set3 sn)
  have HO4 := Lib.hid (HO3.out.setCell (p := ⟨g + 1 + 1 + 1, 0, none⟩) (.inl (by have := HG.out; show w.heap.size ≤ g + 1 + 1 + 1; omega)) (.bool sn))
  refine hK.out _ _ (.inr ⟨HP4.out.r3.cell_ (i := 0) rfl, HP4.out.r4.cell_ (i := 0) rfl⟩) ?_
  clear hK K hHeld b3 f3 HP3 HO3
  generalize w3.setCell ⟨g + 1 + 1 + 1, 0, none⟩ (.bool sn) = w4 at *
  (try simp only [Act.put, k1, k2, k3])
  have b3 : w4.cell? ⟨g + 1 + 1 + 1 + 1, 0, none⟩ = some (.bool dn) := HP4.out.r4.cell_ (i := 0) rfl
  have f3 : w4.frozen? ⟨g + 1 + 1 + 1 + 1, 0, none⟩ = false := HP4.out.r4.frozen 0
  refine mpc 3 rfl (by kernel_rfl) (by rfl) (fun K hK => ?_)
  go_simp
  have HP5 : Hid (WB (w4.setCell ⟨g + 1 + 1 + 1 + 1, 0, none⟩ (.bool dn)) B p A cp nv g c (.func F f1 f2) r2 sn dn) := Lib.hid (HP4.out.set4 dn)
  have HO5 := Lib.hid (HO4.out.setCell (p := ⟨g + 1 + 1 + 1 + 1, 0, none⟩) (.inl (by have := HG.out; show w.heap.size ≤ g + 1 + 1 + 1 + 1; omega)) (.bool dn))
  refine hK.out _ _ (.inl (by kernel_rfl)) ?_
  clear hK K b3 f3 HP4 HO4
  generalize w4.setCell ⟨g + 1 + 1 + 1 + 1, 0, none⟩ (.bool dn) = w5 at *
  (try simp only [Act.put, k1, k2, k3])
  refine wpAnyP_done (by kernel_rfl) ?_ _
  have b3 : w5.cell? ⟨g + 1 + 1 + 1, 0, none⟩ = some (.bool sn) := HP5.out.r3.cell_ (i := 0) rfl
  have b4 : w5.cell? ⟨g + 1 + 1 + 1 + 1, 0, none⟩ = some (.bool dn) := HP5.out.r4.cell_ (i := 0) rfl
  go_wp2
  exact bodyPost_ret (v := .tuple #[.bool sn, .bool dn]) (by simp [results, Tryz.results63, go_sem, b3, b4]) rfl ⟨rfl, HO5.out, nv, HP5.out.run⟩
end Go.Proofs.YtocdbeonogfopaaGreat
set_option linter.unusedVariables false
set_option linter.unusedSimpArgs false
namespace Go.Proofs.YtocdbeonogfopaaGreat
open Go.RowKit
theorem wp_append_cut {o : Oper} {a : Act} {K : Act → World → Prop} {Q : Exit → Act → World → Prop} (s x : Operand) (ho : o.op = .call { callee := .builtin .append, args := #[s, x], argTypes := #[32, 32] })
    (v : Value) (zs : List Nt) (w : World) (g : Nat) (n : Nt) (hs : a.eval s = cutV v) (hx : a.eval x = .slice (some ⟨g, 0, none⟩) 1 1) (hown : OwnN 0 w v zs) (hrow : Row w g 131 #[.int .i64 n.t, .int .i64 n.w, .int .i64 n.o, .int .i64 n.a]) (h1 : zs.length ≤ 1000)
    (h : ∀ A' n' c' w', OwnN 0 w' (.slice A' n' c') (zs ++ [n]) → Only Nil w w' → K (a.put o.dst (.slice A' n' c')) w') : o.wp Tryz.prog a w K Q := by
  obtain ⟨v', w', hr, h2, h3⟩ := run_append_cut o.type v zs w g n hown hrow h1
  unfold Oper.wp execOp
  simp only [ho, resolve, invoke, builtin, Sem.run_bind, Sem.run_pure, Result.andThen_ok, List.map_toArray, List.map_cons, List.map_nil, hs, hx, hr]
  obtain ⟨A', c', rfl, _⟩ := own_form h2
  exact h _ _ _ w' h2 h3
theorem RunP.setNotes {w : World} {B : Nat} {p A : Option Addr} {cp : Nat} {nv v : Value} {r : LS} {zs : List Nt} (h : RunP w B p A cp nv r) (hn : OwnN 0 w v zs) : RunP (w.setCell ⟨B, 19, none⟩ v) B p A cp v { r with ns := zs } := by
  have ho := (Only.refl (· = B) w).setCell (p := ⟨B, 19, none⟩) (.inr rfl) v
  refine ⟨h.row.set 19 v, own_only hn ho (fun i hi => ?_), h.memo.far ho (fun j hj => h.far hj)⟩
  rintro rfl
  obtain ⟨cur, hc⟩ := ownN_tag hn hi
  exact absurd (h.row.same hc).1 (by decide)
set_option maxRecDepth 100000 in
set_option maxHeartbeats 1000000 in
theorem note_run (B : Nat) (p A : Option Addr) (cp : Nat) (nv : Value) (r : LS) (what arg : Int) (w : World) (h : RunP w B p A cp nv r) (hl : r.ns.length ≤ 1000) :
    Calls Tryz.prog 61 #[.pointer (some ⟨B, 0, none⟩), .int .i64 what, .int .i64 arg] w (Done B p A cp w (.tuple #[]) (r.note what arg)) := by
  have m19 : w.cell? ⟨B, 19, none⟩ = some nv := h.row.cell_ (i := 19) rfl
  have m3 : w.cell? ⟨B, 3, none⟩ = some (.int .i64 r.task) := h.row.cell_ (i := 3) rfl
  have HP := Lib.hid h
  have HL := Lib.hid hl
  clear h hl
  go_enter Tryz.func61, Tryz.ntmps61
  go_upto_region 1 with (fail)
  refine wp_region_phase (n := 18) 14 (fun w => w.cell? ⟨B, 19, none⟩ = some nv ∧ w.cell? ⟨B, 3, none⟩ = some (.int .i64 r.task)) rfl (by kernel_rfl) ⟨m19, m3⟩ (fun hHeld => ?_)
  have HP1 := Lib.hid (HP.out.keep (Only.refl Nil w).drew)
  have HO1 := Lib.hid ((Only.refl (TurnB B A) w).drew)
  clear m19 m3 HP
  generalize w.drew = w2 at *
  refine mpa 0 rfl (.pointer (some ⟨B, 0, none⟩)) (fun w => ?_) ?_
  · go_simp
  (try simp only [Act.put, k1, k2, k3])
  refine mpa 1 rfl (.pointer (some ⟨B, 0, none⟩)) (fun w => ?_) ?_
  · go_simp
  (try simp only [Act.put, k1, k2, k3])
  refine mpa 2 rfl (.pointer (some ⟨B, 0, none⟩)) (fun w => ?_) ?_
  · go_simp
  (try simp only [Act.put, k1, k2, k3])
  refine mpa 3 rfl (.pointer (some ⟨B, 19, none⟩)) (fun w => ?_) ?_
  · go_simp
  (try simp only [Act.put, k1, k2, k3])
  refine mpt 4 rfl (nv) (fun w hSw => ?_) ?_
  · (try dsimp only at hSw)
    go_split_ands
    go_simp
  (try simp only [Act.put, k1, k2, k3])
  refine mpa 6 rfl (.pointer (some ⟨B, 0, none⟩)) (fun w => ?_) ?_
  · go_simp
  (try simp only [Act.put, k1, k2, k3])
  refine mpa 7 rfl (.pointer (some ⟨B, 0, none⟩)) (fun w => ?_) ?_
  · go_simp
  (try simp only [Act.put, k1, k2, k3])
  refine mpa 8 rfl (.pointer (some ⟨B, 3, none⟩)) (fun w => ?_) ?_
  · go_simp
  (try simp only [Act.put, k1, k2, k3])
  refine mpt 9 rfl (.int .i64 r.task) (fun w hSw => ?_) ?_
  · (try dsimp only at hSw)
    go_split_ands
    go_simp
  (try simp only [Act.put, k1, k2, k3])
  refine mpa 10 rfl (.int .i64 what) (fun w => ?_) ?_
  · go_simp
  (try simp only [Act.put, k1, k2, k3])
  refine mpa 11 rfl (.int .i64 arg) (fun w => ?_) ?_
  · go_simp
  (try simp only [Act.put, k1, k2, k3])
  refine mpa 12 rfl (.agg #[.int .i64 r.task, .int .i64 what, .int .i64 0, .int .i64 arg]) (fun w => ?_) ?_
  · go_simp
  (try simp only [Act.put, k1, k2, k3])
  refine pd_5_13 rfl rfl (by kernel_rfl) (by rfl) (fun K hK => ?_) (by rfl) (fun K hK => ?_)
  · go_simp
    refine (clip_any nv r.ns _ HP1.out.notes).mono ?_
    rintro e w4 ⟨rfl, rfl⟩
    refine hK.out _ _ (.inr hHeld) ?_
    clear hK K
    (try simp only [Act.put, k1, k2, k3])
    refine mpc 13 rfl (by kernel_rfl) (by rfl) (fun K hK => ?_)
    go_simp
    have HP2 := Lib.hid (HP1.out.keep ((Only.refl Nil w2).alloc (.cells #[.int .i64 r.task, .int .i64 what, .int .i64 0, .int .i64 arg] 131)))
    have HO2 := Lib.hid (HO1.out.alloc (.cells #[.int .i64 r.task, .int .i64 what, .int .i64 0, .int .i64 arg] 131))
    have HN := Lib.hid (Row.new w2 131 #[.int .i64 r.task, .int .i64 what, .int .i64 0, .int .i64 arg])
    have hHeld2 : (w2.alloc (.cells #[.int .i64 r.task, .int .i64 what, .int .i64 0, .int .i64 arg] 131)).cell? ⟨B, 19, none⟩ = some nv ∧ (w2.alloc (.cells #[.int .i64 r.task, .int .i64 what, .int .i64 0, .int .i64 arg] 131)).cell? ⟨B, 3, none⟩ = some (.int .i64 r.task) := ⟨HP2.out.row.cell_ (i := 19) rfl, HP2.out.row.cell_ (i := 3) rfl⟩
    refine hK.out _ _ (.inr hHeld2) ?_
    clear hK K hHeld HP1 HO1
    generalize w2.alloc (.cells #[.int .i64 r.task, .int .i64 what, .int .i64 0, .int .i64 arg] 131) = w3 at *
    generalize w2.heap.size = g at *
    (try simp only [Act.put, k1, k2, k3])
    refine mpc 14 rfl (by kernel_rfl) (by rfl) (fun K hK => ?_)
    refine wp_append_cut (.tmp 13) (.tmp 21) rfl nv r.ns _ g ⟨r.task, what, 0, arg⟩ (by rfl) (by rfl) HP2.out.notes HN.out HL.out (fun A9 n9 c9 w5 hown hO => ?_)
    have HP3 := Lib.hid (HP2.out.keep hO)
    have HO3 := Lib.hid (HO2.out.trans (hO.mono (T := TurnB B A) (fun _ _ h => h.elim)))
    have HV := Lib.hid hown
    refine hK.out _ _ (.inl (by kernel_rfl)) ?_
    clear hK K hHeld2 hO hown HP2 HO2 HN
    (try simp only [Act.put, k1, k2, k3])
    refine mpa 15 rfl (.pointer (some ⟨B, 0, none⟩)) (fun w => ?_) ?_
    · go_simp
    (try simp only [Act.put, k1, k2, k3])
    refine mpa 16 rfl (.pointer (some ⟨B, 19, none⟩)) (fun w => ?_) ?_
    · go_simp
    (try simp only [Act.put, k1, k2, k3])
    have c19 : w5.cell? ⟨B, 19, none⟩ = some nv := HP3.out.row.cell_ (i := 19) rfl
    have f19 : w5.frozen? ⟨B, 19, none⟩ = false := HP3.out.row.frozen 19
    refine mpc 17 rfl (by kernel_rfl) (by rfl) (fun K hK => ?_)
    go_simp
    refine hK.out _ _ (.inl (by kernel_rfl)) ?_
    clear hK K c19 f19
    (try simp only [Act.put, k1, k2, k3])
    refine wpAnyP_done (by kernel_rfl) ?_ _
    go_wp2
    go_returns
    exact ⟨rfl, HO3.out.setCell (p := ⟨B, 19, none⟩) (.inr (.inl rfl)) _, _, HP3.out.setNotes HV.out⟩
  · go_simp
    have HP2 := Lib.hid (HP1.out.keep ((Only.refl Nil w2).alloc (.cells #[.int .i64 r.task, .int .i64 what, .int .i64 0, .int .i64 arg] 131)))
    have HO2 := Lib.hid (HO1.out.alloc (.cells #[.int .i64 r.task, .int .i64 what, .int .i64 0, .int .i64 arg] 131))
    have HN := Lib.hid (Row.new w2 131 #[.int .i64 r.task, .int .i64 what, .int .i64 0, .int .i64 arg])
    have hHeld2 : (w2.alloc (.cells #[.int .i64 r.task, .int .i64 what, .int .i64 0, .int .i64 arg] 131)).cell? ⟨B, 19, none⟩ = some nv ∧ (w2.alloc (.cells #[.int .i64 r.task, .int .i64 what, .int .i64 0, .int .i64 arg] 131)).cell? ⟨B, 3, none⟩ = some (.int .i64 r.task) := ⟨HP2.out.row.cell_ (i := 19) rfl, HP2.out.row.cell_ (i := 3) rfl⟩
    refine hK.out _ _ (.inr hHeld2) ?_
    clear hK K hHeld HP1 HO1
    generalize w2.alloc (.cells #[.int .i64 r.task, .int .i64 what, .int .i64 0, .int .i64 arg] 131) = w3 at *
    generalize w2.heap.size = g at *
    (try simp only [Act.put, k1, k2, k3])
    refine mpc 5 rfl (by kernel_rfl) (by rfl) (fun K hK => ?_)
    go_simp
    refine (clip_any nv r.ns _ HP2.out.notes).mono ?_
    rintro e w4 ⟨rfl, rfl⟩
    refine hK.out _ _ (.inr hHeld2) ?_
    clear hK K
    (try simp only [Act.put, k1, k2, k3])
    refine mpc 14 rfl (by kernel_rfl) (by rfl) (fun K hK => ?_)
    refine wp_append_cut (.tmp 13) (.tmp 21) rfl nv r.ns _ g ⟨r.task, what, 0, arg⟩ (by rfl) (by rfl) HP2.out.notes HN.out HL.out (fun A9 n9 c9 w5 hown hO => ?_)
    have HP3 := Lib.hid (HP2.out.keep hO)
    have HO3 := Lib.hid (HO2.out.trans (hO.mono (T := TurnB B A) (fun _ _ h => h.elim)))
    have HV := Lib.hid hown
    refine hK.out _ _ (.inl (by kernel_rfl)) ?_
    clear hK K hHeld2 hO hown HP2 HO2 HN
    (try simp only [Act.put, k1, k2, k3])
    refine mpa 15 rfl (.pointer (some ⟨B, 0, none⟩)) (fun w => ?_) ?_
    · go_simp
    (try simp only [Act.put, k1, k2, k3])
    refine mpa 16 rfl (.pointer (some ⟨B, 19, none⟩)) (fun w => ?_) ?_
    · go_simp
    (try simp only [Act.put, k1, k2, k3])
    have c19 : w5.cell? ⟨B, 19, none⟩ = some nv := HP3.out.row.cell_ (i := 19) rfl
    have f19 : w5.frozen? ⟨B, 19, none⟩ = false := HP3.out.row.frozen 19
    refine mpc 17 rfl (by kernel_rfl) (by rfl) (fun K hK => ?_)
    go_simp
    refine hK.out _ _ (.inl (by kernel_rfl)) ?_
    clear hK K c19 f19
    (try simp only [Act.put, k1, k2, k3])
    refine wpAnyP_done (by kernel_rfl) ?_ _
    go_wp2
    go_returns
    exact ⟨rfl, HO3.out.setCell (p := ⟨B, 19, none⟩) (.inr (.inl rfl)) _, _, HP3.out.setNotes HV.out⟩
end Go.Proofs.YtocdbeonogfopaaGreat
set_option linter.unusedVariables false
set_option linter.unusedSimpArgs false
namespace Go.Proofs.YtocdbeonogfopaaGreat
open Go.RowKit
section
variable {w : World} {B : Nat} {p A : Option Addr} {cp : Nat} {nv : Value} {r : LS}
theorem RunP.setA (h : RunP w B p A cp nv r) (v : Int) : RunP (w.setCell ⟨B, 6, none⟩ (.int .u32 v)) B p A cp nv (r.keepA v) :=
  h.turn ((Only.refl (· = B) w).setCell (p := ⟨B, 6, none⟩) (.inr rfl) _) (h.row.set 6 (.int .u32 v)) rfl rfl
theorem RunP.setB (h : RunP w B p A cp nv r) (v : Int) : RunP (w.setCell ⟨B, 7, none⟩ (.int .u32 v)) B p A cp nv (r.keepB v) :=
  h.turn ((Only.refl (· = B) w).setCell (p := ⟨B, 7, none⟩) (.inr rfl) _) (h.row.set 7 (.int .u32 v)) rfl rfl
end
theorem aside_p : Aside 62 := ⟨by decide, by decide, by decide⟩
theorem aside_i : Aside 3 := ⟨by decide, by decide, by decide⟩
end Go.Proofs.YtocdbeonogfopaaGreat
