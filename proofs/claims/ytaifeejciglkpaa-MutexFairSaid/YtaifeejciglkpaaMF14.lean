import Derived.Test.YtaifeejciglkpaaMF8
import Derived.Test.YtaifeejciglkpaaMF13
import Derived.Test.YtaifeejciglkpaaMF11
import Derived.Test.YtaifeejciglkpaaMF5
set_option linter.unusedVariables false
set_option linter.unusedSimpArgs false
namespace Go.Proofs.Ytaifeejciglkpaa
open Go.RowKit
structure WB (w : World) (B : Nat) (p A : Option Addr) (cp : Nat) (nv : Value) (g : Nat) (c : Int) (fv : Value) (r : LS) (s3 s4 : Bool) : Prop where
  run : RunP w B p A cp nv r
  r0 : Row w g 36 #[.pointer (some ⟨B, 0, none⟩)]
  r1 : Row w (g + 1) 3 #[.int .i64 c]
  r2 : Row w (g + 2) 78 #[fv]
  r3 : Row w (g + 3) 4 #[.bool s3]
  r4 : Row w (g + 4) 4 #[.bool s4]
def Wd (B : Nat) (A : Option Addr) (g : Nat) : Nat → Prop := fun j => TurnB B A j ∨ j = g + 3 ∨ j = g + 4
theorem memo_not {w : World} {p A : Option Addr} {cp : Nat} {xs : List Int} {j : Nat} {t : TypeId} {cs : Array Value} (h : Memo w p A cp xs) (hr : Row w j t cs) (h1 : t ≠ 68) (h2 : t ≠ 23) : ¬ (At p j ∨ At A j) := fun hj => by
  obtain ⟨t', cs', hr', ht⟩ := memo_tag h hj
  have e := (hr.same hr').1
  rcases ht with rfl | rfl
  · exact h1 e
  · exact h2 e
theorem ownN_not {base : Nat} {w : World} {v : Value} {zs : List Nt} {i : Nat} {t : TypeId} {cs : Array Value} (h : OwnN base w v zs) (hr : Row w i t cs) (h1 : t ≠ 92) : v.ownBlock ≠ some i := fun hi => by
  obtain ⟨cur, hc⟩ := ownN_tag h hi
  exact h1 (hr.same hc).1
section
variable {w w' w0 : World} {B : Nat} {p A : Option Addr} {cp : Nat} {nv : Value} {g : Nat} {c : Int} {fv : Value} {r r' : LS} {s3 s4 : Bool} {ys : List Int} {S : Nat → Prop}
theorem WB.call (h : WB w B p A cp nv g c fv r s3 s4) (ho : Only (At A) w w') (hm : Memo w' p A cp ys) : WB w' B p A cp nv g c fv { r with xs := ys } s3 s4 :=
  ⟨h.run.call ho hm, h.r0.only ho (fun e => memo_not h.run.memo h.r0 (by decide) (by decide) (.inr e)), h.r1.only ho (fun e => memo_not h.run.memo h.r1 (by decide) (by decide) (.inr e)), h.r2.only ho (fun e => memo_not h.run.memo h.r2 (by decide) (by decide) (.inr e)), h.r3.only ho (fun e => memo_not h.run.memo h.r3 (by decide) (by decide) (.inr e)), h.r4.only ho (fun e => memo_not h.run.memo h.r4 (by decide) (by decide) (.inr e))⟩
theorem WB.keep (h : WB w B p A cp nv g c fv r s3 s4) (ho : Only Nil w w') : WB w' B p A cp nv g c fv r s3 s4 := h.call (ho.mono (fun _ _ h => h.elim)) (h.run.memo.keep ho)
theorem WB.turn (h : WB w B p A cp nv g c fv r s3 s4) (ho : Only (· = B) w w') (hr : RunP w' B p A cp nv r') : WB w' B p A cp nv g c fv r' s3 s4 :=
  ⟨hr, h.r0.only ho (row_ne h.r0 h.run.row (by decide)), h.r1.only ho (row_ne h.r1 h.run.row (by decide)), h.r2.only ho (row_ne h.r2 h.run.row (by decide)), h.r3.only ho (row_ne h.r3 h.run.row (by decide)), h.r4.only ho (row_ne h.r4 h.run.row (by decide))⟩
theorem WB.far (h : WB w B p A cp nv g c fv r s3 s4) {q : Nat} {t : TypeId} {cs : Array Value} (hq : Row w q t cs) (ho : Only (· = q) w w') (hB : B ≠ q) (hm : t ≠ 68) (hu : t ≠ 23) (hn : t ≠ 92) (h0 : ∀ i, i < 5 → q ≠ g + i) : WB w' B p A cp nv g c fv r s3 s4 :=
  ⟨h.run.apart ho hB (fun j hj e => by subst e; exact memo_not h.run.memo hq hm hu hj) (fun i hi e => by subst e; exact ownN_not h.run.notes hq hn hi),
    h.r0.only ho (fun e => h0 0 (by decide) e.symm), h.r1.only ho (fun e => h0 1 (by decide) e.symm), h.r2.only ho (fun e => h0 2 (by decide) e.symm), h.r3.only ho (fun e => h0 3 (by decide) e.symm), h.r4.only ho (fun e => h0 4 (by decide) e.symm)⟩
theorem WB.set3 (h : WB w B p A cp nv g c fv r s3 s4) (b : Bool) : WB (w.setCell ⟨g + 3, 0, none⟩ (.bool b)) B p A cp nv g c fv r b s4 := by
  have ho := (Only.refl (· = g + 3) w).setCell (p := ⟨g + 3, 0, none⟩) (.inr rfl) (.bool b)
  exact ⟨h.run.apart ho (row_ne h.run.row h.r3 (by decide)) (fun j hj e => by subst e; exact memo_not h.run.memo h.r3 (by decide) (by decide) hj) (fun i hi e => by subst e; exact ownN_not h.run.notes h.r3 (by decide) hi),
    h.r0.only ho (fun e => by omega), h.r1.only ho (fun e => by omega), h.r2.only ho (fun e => by omega), h.r3.set 0 _, h.r4.only ho (fun e => by omega)⟩
theorem WB.set4 (h : WB w B p A cp nv g c fv r s3 s4) (b : Bool) : WB (w.setCell ⟨g + 4, 0, none⟩ (.bool b)) B p A cp nv g c fv r s3 b := by
  have ho := (Only.refl (· = g + 4) w).setCell (p := ⟨g + 4, 0, none⟩) (.inr rfl) (.bool b)
  exact ⟨h.run.apart ho (row_ne h.run.row h.r4 (by decide)) (fun j hj e => by subst e; exact memo_not h.run.memo h.r4 (by decide) (by decide) hj) (fun i hi e => by subst e; exact ownN_not h.run.notes h.r4 (by decide) hi),
    h.r0.only ho (fun e => by omega), h.r1.only ho (fun e => by omega), h.r2.only ho (fun e => by omega), h.r3.only ho (fun e => by omega), h.r4.set 0 _⟩
theorem RunP.setS {w : World} {B : Nat} {p A : Option Addr} {cp : Nat} {nv : Value} {r : LS} (h : RunP w B p A cp nv r) (v : Int) : RunP (w.setCell ⟨B, 8, none⟩ (.int .i64 v)) B p A cp nv { r with s := v } :=
  h.turn ((Only.refl (· = B) w).setCell (p := ⟨B, 8, none⟩) (.inr rfl) _) (h.row.set 8 (.int .i64 v)) rfl rfl
theorem WB.setS (h : WB w B p A cp nv g c fv r s3 s4) (v : Int) : WB (w.setCell ⟨B, 8, none⟩ (.int .i64 v)) B p A cp nv g c fv { r with s := v } s3 s4 :=
  h.turn ((Only.refl (· = B) w).setCell (p := ⟨B, 8, none⟩) (.inr rfl) _) (h.run.setS v)
theorem WB.held (h : WB w B p A cp nv g c fv r s3 s4) : w.cell? ⟨g, 0, none⟩ = some (.pointer (some ⟨B, 0, none⟩)) ∧ w.cell? ⟨B, 0, none⟩ = some (.pointer p) ∧ w.cell? ⟨B, 1, none⟩ = some (.int .i64 r.n) ∧ w.cell? ⟨B, 2, none⟩ = some (.int .i64 r.mode) ∧ w.cell? ⟨B, 3, none⟩ = some (.int .i64 r.task) ∧ w.cell? ⟨B, 8, none⟩ = some (.int .i64 r.s) ∧ w.cell? ⟨g + 1, 0, none⟩ = some (.int .i64 c) ∧ w.cell? ⟨g + 2, 0, none⟩ = some fv :=
  ⟨h.r0.cell_ (i := 0) rfl, h.run.row.cell_ (i := 0) rfl, h.run.row.cell_ (i := 1) rfl, h.run.row.cell_ (i := 2) rfl, h.run.row.cell_ (i := 3) rfl, h.run.row.cell_ (i := 8) rfl, h.r1.cell_ (i := 0) rfl, h.r2.cell_ (i := 0) rfl⟩
end
def Waited (w : World) (B : Nat) (p A : Option Addr) (cp : Nat) (nv : Value) (g : Nat) (c : Int) (fv : Value) (r : LS) (t : StepR) (e : Ending) (w' : World) : Prop :=
  e = .returned (ofV t.acc).v ∧ Only (Wd B A g) w w' ∧ WB w' B p A cp nv g c fv { r with s := t.next, xs := t.xs } t.seen t.done
set_option maxRecDepth 100000 in
set_option maxHeartbeats 2000000 in
theorem wait_closure (B : Nat) (p A : Option Addr) (cp : Nat) (nv : Value) (g : Nat) (c : Int) (fv : Value) (q : Int → Bool) (r : LS) (s3 s4 : Bool) (w : World) (h : WB w B p A cp nv g c fv r s3 s4) (hf : Holds A w fv q) (hx : Words r.xs) :
    Calls Try.prog 62 #[.pointer (some ⟨g, 0, none⟩), .pointer (some ⟨g + 1, 0, none⟩), .pointer (some ⟨g + 2, 0, none⟩), .pointer (some ⟨g + 3, 0, none⟩), .pointer (some ⟨g + 4, 0, none⟩)] w (Waited w B p A cp nv g c fv r (r.stepR c q)) := by
  have e0 := (Only.refl Nil w).alloc (.cells #[.int .i64 0, .int .i64 0, .int .u32 0, .int .u32 0, .int .u32 0] 40)
  have HP := Lib.hid (h.keep e0)
  have HR := Lib.hid (Row.new w 40 #[.int .i64 0, .int .i64 0, .int .u32 0, .int .u32 0, .int .u32 0])
  have HO := Lib.hid (e0.mono (T := Wd B A g) (fun _ _ h => h.elim))
  have hga : ∀ i, i < 5 → w.heap.size ≠ g + i := fun i hi e => by
    have h4 := h.r4.lt
    omega
  have HGA := Lib.hid hga
  have HBA := Lib.hid (show B ≠ w.heap.size from fun e => by have := h.run.row.lt; omega)
  have HF := Lib.hid (hf.move0 e0.drew)
  have HX := Lib.hid hx
  have HW := Lib.hid (Nat.le_refl w.heap.size)
  clear h hf hx e0 hga
  have hacc := ofV_step r.xs r.n r.mode r.task r.s c q
  rw [show r.stepR c q = stepI r.xs r.n r.mode r.task r.s c q from rfl]
  generalize hst : stepI r.xs r.n r.mode r.task r.s c q = t at *
  obtain ⟨nx, ac, sn, dn, zs⟩ := t
  have HST := Lib.hid hst
  have HAC := Lib.hid (show ac = (ofV ac).v from hacc)
  clear hst hacc
  have HDE := Lib.hid (show Waited w B p A cp nv g c fv r ⟨nx, ac, sn, dn, zs⟩ = fun e w' => e = .returned (ofV ac).v ∧ Only (Wd B A g) w w' ∧ WB w' B p A cp nv g c fv { r with s := nx, xs := zs } sn dn from rfl)
  go_enter Try.func62, Try.ntmps62
  go_upto_region 1 with (fail)
  generalize w.alloc (.cells #[.int .i64 0, .int .i64 0, .int .u32 0, .int .u32 0, .int .u32 0] 40) = w1 at *
  generalize hgg : w.heap.size = ga at *
  have HG := Lib.hid hgg
  clear hgg
  refine wp_region_phase (n := 37) 33 (fun w => w.cell? ⟨g, 0, none⟩ = some (.pointer (some ⟨B, 0, none⟩)) ∧ w.cell? ⟨B, 0, none⟩ = some (.pointer p) ∧ w.cell? ⟨B, 1, none⟩ = some (.int .i64 r.n) ∧ w.cell? ⟨B, 2, none⟩ = some (.int .i64 r.mode) ∧ w.cell? ⟨B, 3, none⟩ = some (.int .i64 r.task) ∧ w.cell? ⟨B, 8, none⟩ = some (.int .i64 r.s) ∧ w.cell? ⟨g + 1, 0, none⟩ = some (.int .i64 c) ∧ w.cell? ⟨g + 2, 0, none⟩ = some fv) rfl (by kernel_rfl) HP.out.held (fun hHeld => ?_)
  have HP1 := Lib.hid (HP.out.keep (Only.refl Nil w1).drew)
  have HR1 := Lib.hid HR.out.drew
  have HO1 := Lib.hid HO.out.drew
  clear HP HR HO
  generalize w1.drew = w2 at *
  refine mpt 0 rfl (.pointer (some ⟨B, 0, none⟩)) (fun w hSw => ?_) ?_
  · (try dsimp only at hSw)
    go_split_ands
    go_simp
  (try simp only [Act.put, k1, k2, k3])
  refine mpt 1 rfl (.pointer (some ⟨B, 0, none⟩)) (fun w hSw => ?_) ?_
  · (try dsimp only at hSw)
    go_split_ands
    go_simp
  (try simp only [Act.put, k1, k2, k3])
  refine mpa 2 rfl (.pointer (some ⟨B, 0, none⟩)) (fun w => ?_) ?_
  · go_simp
  (try simp only [Act.put, k1, k2, k3])
  refine mpa 3 rfl (.pointer (some ⟨B, 0, none⟩)) (fun w => ?_) ?_
  · go_simp
  (try simp only [Act.put, k1, k2, k3])
  refine mpt 4 rfl (.pointer p) (fun w hSw => ?_) ?_
  · (try dsimp only at hSw)
    go_split_ands
    go_simp
  (try simp only [Act.put, k1, k2, k3])
  refine mpt 5 rfl (.pointer (some ⟨B, 0, none⟩)) (fun w hSw => ?_) ?_
  · (try dsimp only at hSw)
    go_split_ands
    go_simp
  (try simp only [Act.put, k1, k2, k3])
  refine mpa 6 rfl (.pointer (some ⟨B, 0, none⟩)) (fun w => ?_) ?_
  · go_simp
  (try simp only [Act.put, k1, k2, k3])
  refine mpa 7 rfl (.pointer (some ⟨B, 1, none⟩)) (fun w => ?_) ?_
  · go_simp
  (try simp only [Act.put, k1, k2, k3])
  refine mpt 8 rfl (.agg #[.int .i64 r.n]) (fun w hSw => ?_) ?_
  · (try dsimp only at hSw)
    go_split_ands
    go_simp
  (try simp only [Act.put, k1, k2, k3])
  refine mpt 9 rfl (.pointer (some ⟨B, 0, none⟩)) (fun w hSw => ?_) ?_
  · (try dsimp only at hSw)
    go_split_ands
    go_simp
  (try simp only [Act.put, k1, k2, k3])
  refine mpa 10 rfl (.pointer (some ⟨B, 0, none⟩)) (fun w => ?_) ?_
  · go_simp
  (try simp only [Act.put, k1, k2, k3])
  refine mpa 11 rfl (.pointer (some ⟨B, 2, none⟩)) (fun w => ?_) ?_
  · go_simp
  (try simp only [Act.put, k1, k2, k3])
  refine mpt 12 rfl (.int .i64 r.mode) (fun w hSw => ?_) ?_
  · (try dsimp only at hSw)
    go_split_ands
    go_simp
  (try simp only [Act.put, k1, k2, k3])
  refine mpt 13 rfl (.pointer (some ⟨B, 0, none⟩)) (fun w hSw => ?_) ?_
  · (try dsimp only at hSw)
    go_split_ands
    go_simp
  (try simp only [Act.put, k1, k2, k3])
  refine mpa 14 rfl (.pointer (some ⟨B, 0, none⟩)) (fun w => ?_) ?_
  · go_simp
  (try simp only [Act.put, k1, k2, k3])
  refine mpa 15 rfl (.pointer (some ⟨B, 3, none⟩)) (fun w => ?_) ?_
  · go_simp
  (try simp only [Act.put, k1, k2, k3])
  refine mpt 16 rfl (.int .i64 r.task) (fun w hSw => ?_) ?_
  · (try dsimp only at hSw)
    go_split_ands
    go_simp
  (try simp only [Act.put, k1, k2, k3])
  refine mpt 17 rfl (.pointer (some ⟨B, 0, none⟩)) (fun w hSw => ?_) ?_
  · (try dsimp only at hSw)
    go_split_ands
    go_simp
  (try simp only [Act.put, k1, k2, k3])
  refine mpa 18 rfl (.pointer (some ⟨B, 0, none⟩)) (fun w => ?_) ?_
  · go_simp
  (try simp only [Act.put, k1, k2, k3])
  refine mpa 19 rfl (.pointer (some ⟨B, 4, none⟩)) (fun w => ?_) ?_
  · go_simp
  (try simp only [Act.put, k1, k2, k3])
  refine mpa 20 rfl (.pointer (some ⟨B, 8, none⟩)) (fun w => ?_) ?_
  · go_simp
  (try simp only [Act.put, k1, k2, k3])
  refine mpt 21 rfl (.agg #[.int .i64 r.s]) (fun w hSw => ?_) ?_
  · (try dsimp only at hSw)
    go_split_ands
    go_simp
  (try simp only [Act.put, k1, k2, k3])
  refine mpt 22 rfl (.int .i64 c) (fun w hSw => ?_) ?_
  · (try dsimp only at hSw)
    go_split_ands
    go_simp
  (try simp only [Act.put, k1, k2, k3])
  refine mpt 23 rfl (fv) (fun w hSw => ?_) ?_
  · (try dsimp only at hSw)
    go_split_ands
    go_simp
  (try simp only [Act.put, k1, k2, k3])
  refine mpc 24 rfl (by kernel_rfl) (by rfl) (fun K hK => ?_)
  go_simp
  refine (step_any p A cp r.xs r.n r.mode r.task r.s c fv q _ HP1.out.run.memo HF.out HX.out).mono ?_
  rw [HST.out]
  intro e w3 hF
  obtain ⟨rfl, hO, hM⟩ := hF
  dsimp only at hM ⊢
  rw [HAC.out]
  clear HAC
  generalize ofV ac = a5 at *
  dsimp only [Acc5.v]
  have HP2 := Lib.hid (HP1.out.call hO hM)
  have HR2 := Lib.hid (HR1.out.only hO (fun e => memo_not HP1.out.run.memo HR1.out (by decide) (by decide) (.inr e)))
  have HO2 := Lib.hid (HO1.out.trans (hO.mono (T := Wd B A g) (fun _ _ e => .inl (.inr e))))
  refine hK.out _ _ (.inr HP2.out.held) ?_
  have hHeld2 := HP2.out.held
  clear hK K hHeld hO hM HP1 HR1 HO1
  (try simp only [Act.put, k1, k2, k3])
  refine mpa 25 rfl (.tuple #[.agg #[.int .i64 nx], .agg #[.int .i64 a5.k, .int .i64 a5.c, .int .u32 a5.x, .int .u32 a5.y, .int .u32 a5.o], .bool sn, .bool dn]) (fun w => ?_) ?_
  · go_simp
  (try simp only [Act.put, k1, k2, k3])
  refine mpa 26 rfl (.agg #[.int .i64 nx]) (fun w => ?_) ?_
  · go_simp
  (try simp only [Act.put, k1, k2, k3])
  refine mpa 27 rfl (.agg #[.int .i64 a5.k, .int .i64 a5.c, .int .u32 a5.x, .int .u32 a5.y, .int .u32 a5.o]) (fun w => ?_) ?_
  · go_simp
  (try simp only [Act.put, k1, k2, k3])
  refine mpa 28 rfl (.bool sn) (fun w => ?_) ?_
  · go_simp
  (try simp only [Act.put, k1, k2, k3])
  refine mpa 29 rfl (.bool dn) (fun w => ?_) ?_
  · go_simp
  (try simp only [Act.put, k1, k2, k3])
  refine mpa 30 rfl (.pointer (some ⟨B, 0, none⟩)) (fun w => ?_) ?_
  · go_simp
  (try simp only [Act.put, k1, k2, k3])
  refine mpa 31 rfl (.pointer (some ⟨B, 4, none⟩)) (fun w => ?_) ?_
  · go_simp
  (try simp only [Act.put, k1, k2, k3])
  refine mpa 32 rfl (.pointer (some ⟨B, 8, none⟩)) (fun w => ?_) ?_
  · go_simp
  (try simp only [Act.put, k1, k2, k3])
  have c8 : w3.cell? ⟨B, 8, none⟩ = some (.int .i64 r.s) := HP2.out.run.row.cell_ (i := 8) rfl
  have f8 : w3.frozen? ⟨B, 8, none⟩ = false := HP2.out.run.row.frozen 8
  refine mpc 33 rfl (by kernel_rfl) (by rfl) (fun K hK => ?_)
  go_simp
  have HP3 := Lib.hid (HP2.out.setS nx)
  have HO3 := Lib.hid (HO2.out.setCell (p := ⟨B, 8, none⟩) (.inr (.inl (.inl rfl))) (.int .i64 nx))
  have HR3 := Lib.hid (HR2.out.far (p := ⟨B, 8, none⟩) (Ne.symm HBA.out) (.int .i64 nx))
  refine hK.out _ _ (.inl (by kernel_rfl)) ?_
  clear hK K hHeld2 c8 f8 HP2 HO2 HR2
  generalize w3.setCell ⟨B, 8, none⟩ (.int .i64 nx) = w4 at *
  (try simp only [Act.put, k1, k2, k3])
  have a0 : w4.cell? ⟨ga, 0, none⟩ = some (.int .i64 0) := HR3.out.cell_ (i := 0) rfl
  have a1 : w4.cell? ⟨ga, 1, none⟩ = some (.int .i64 0) := HR3.out.cell_ (i := 1) rfl
  have a2 : w4.cell? ⟨ga, 2, none⟩ = some (.int .u32 0) := HR3.out.cell_ (i := 2) rfl
  have a3 : w4.cell? ⟨ga, 3, none⟩ = some (.int .u32 0) := HR3.out.cell_ (i := 3) rfl
  have a4 : w4.cell? ⟨ga, 4, none⟩ = some (.int .u32 0) := HR3.out.cell_ (i := 4) rfl
  have f0 : w4.frozen? ⟨ga, 0, none⟩ = false := HR3.out.frozen 0
  have f1 : w4.frozen? ⟨ga, 1, none⟩ = false := HR3.out.frozen 1
  have f2 : w4.frozen? ⟨ga, 2, none⟩ = false := HR3.out.frozen 2
  have f3 : w4.frozen? ⟨ga, 3, none⟩ = false := HR3.out.frozen 3
  have f4 : w4.frozen? ⟨ga, 4, none⟩ = false := HR3.out.frozen 4
  refine mpc 34 rfl (by kernel_rfl) (by rfl) (fun K hK => ?_)
  go_simp
  have ho5 := five_only (Only.refl (· = ga) w4) (g := ga) (.inr rfl) (.int .i64 a5.k) (.int .i64 a5.c) (.int .u32 a5.x) (.int .u32 a5.y) (.int .u32 a5.o)
  have HP4 := Lib.hid (HP3.out.far HR3.out ho5 HBA.out (by decide) (by decide) (by decide) HGA.out)
  have HO4 := Lib.hid (five_only HO3.out (g := ga) (.inl (by have := HG.out; omega)) (.int .i64 a5.k) (.int .i64 a5.c) (.int .u32 a5.x) (.int .u32 a5.y) (.int .u32 a5.o))
  have HR4 := Lib.hid (five HR3.out (.int .i64 a5.k) (.int .i64 a5.c) (.int .u32 a5.x) (.int .u32 a5.y) (.int .u32 a5.o))
  refine hK.out _ _ (.inl (by kernel_rfl)) ?_
  clear hK K ho5 a0 a1 a2 a3 a4 f0 f1 f2 f3 f4 HP3 HO3 HR3
  generalize (((((w4.setCell ⟨ga, 0, none⟩ (.int .i64 a5.k)).setCell ⟨ga, 1, none⟩ (.int .i64 a5.c)).setCell ⟨ga, 2, none⟩ (.int .u32 a5.x)).setCell ⟨ga, 3, none⟩ (.int .u32 a5.y)).setCell ⟨ga, 4, none⟩ (.int .u32 a5.o)) = w5 at *
  (try simp only [Act.put, k1, k2, k3])
  have b3 : w5.cell? ⟨g + 3, 0, none⟩ = some (.bool s3) := HP4.out.r3.cell_ (i := 0) rfl
  have f3 : w5.frozen? ⟨g + 3, 0, none⟩ = false := HP4.out.r3.frozen 0
  refine mpc 35 rfl (by kernel_rfl) (by rfl) (fun K hK => ?_)
  go_simp
  have HP5 := Lib.hid (HP4.out.set3 sn)
  have HO5 := Lib.hid (HO4.out.setCell (p := ⟨g + 3, 0, none⟩) (.inr (.inr (.inl rfl))) (.bool sn))
  have HR5 := Lib.hid (HR4.out.far (p := ⟨g + 3, 0, none⟩) (HGA.out 3 (by decide)) (.bool sn))
  refine hK.out _ _ (.inl (by kernel_rfl)) ?_
  clear hK K b3 f3 HP4 HO4 HR4
  generalize w5.setCell ⟨g + 3, 0, none⟩ (.bool sn) = w6 at *
  (try simp only [Act.put, k1, k2, k3])
  have b3 : w6.cell? ⟨g + 4, 0, none⟩ = some (.bool s4) := HP5.out.r4.cell_ (i := 0) rfl
  have f3 : w6.frozen? ⟨g + 4, 0, none⟩ = false := HP5.out.r4.frozen 0
  refine mpc 36 rfl (by kernel_rfl) (by rfl) (fun K hK => ?_)
  go_simp
  have HP6 := Lib.hid (HP5.out.set4 dn)
  have HO6 := Lib.hid (HO5.out.setCell (p := ⟨g + 4, 0, none⟩) (.inr (.inr (.inr rfl))) (.bool dn))
  have HR6 := Lib.hid (HR5.out.far (p := ⟨g + 4, 0, none⟩) (HGA.out 4 (by decide)) (.bool dn))
  refine hK.out _ _ (.inl (by kernel_rfl)) ?_
  clear hK K b3 f3 HP5 HO5 HR5
  generalize w6.setCell ⟨g + 4, 0, none⟩ (.bool dn) = w7 at *
  (try simp only [Act.put, k1, k2, k3])
  refine wpAnyP_done (by kernel_rfl) ?_ _
  have a0 : w7.cell? ⟨ga, 0, none⟩ = some (.int .i64 a5.k) := HR6.out.cell_ (i := 0) rfl
  have a1 : w7.cell? ⟨ga, 1, none⟩ = some (.int .i64 a5.c) := HR6.out.cell_ (i := 1) rfl
  have a2 : w7.cell? ⟨ga, 2, none⟩ = some (.int .u32 a5.x) := HR6.out.cell_ (i := 2) rfl
  have a3 : w7.cell? ⟨ga, 3, none⟩ = some (.int .u32 a5.y) := HR6.out.cell_ (i := 3) rfl
  have a4 : w7.cell? ⟨ga, 4, none⟩ = some (.int .u32 a5.o) := HR6.out.cell_ (i := 4) rfl
  have f0 : w7.frozen? ⟨ga, 0, none⟩ = false := HR6.out.frozen 0
  have f1 : w7.frozen? ⟨ga, 1, none⟩ = false := HR6.out.frozen 1
  have f2 : w7.frozen? ⟨ga, 2, none⟩ = false := HR6.out.frozen 2
  have f3 : w7.frozen? ⟨ga, 3, none⟩ = false := HR6.out.frozen 3
  have f4 : w7.frozen? ⟨ga, 4, none⟩ = false := HR6.out.frozen 4
  have ho5 := five_only (Only.refl (· = ga) w7) (g := ga) (.inr rfl) (.int .i64 a5.k) (.int .i64 a5.c) (.int .u32 a5.x) (.int .u32 a5.y) (.int .u32 a5.o)
  have HP7 := Lib.hid (HP6.out.far HR6.out ho5 HBA.out (by decide) (by decide) (by decide) HGA.out)
  have HO7 := Lib.hid (five_only HO6.out (g := ga) (.inl (by have := HG.out; omega)) (.int .i64 a5.k) (.int .i64 a5.c) (.int .u32 a5.x) (.int .u32 a5.y) (.int .u32 a5.o))
  have HR7 := Lib.hid (five HR6.out (.int .i64 a5.k) (.int .i64 a5.c) (.int .u32 a5.x) (.int .u32 a5.y) (.int .u32 a5.o))
  clear ho5 HP6 HO6 HR6
  go_wp2
  exact post_row (P := Try.prog) Try.results62 (by rfl) HR7.out Try.underlying40 rfl (by kernel_rfl) rfl (by rw [HDE.out]; exact ⟨rfl, HO7.out, HP7.out⟩)
def WaitDone (w : World) (B : Nat) (p A : Option Addr) (cp : Nat) (nv : Value) (g : Nat) (c : Int) (fv : Value) (r : LS) (t : StepR) (e : Ending) (w' : World) : Prop :=
  e = .returned (.tuple #[]) ∧ Only (Wd B A g) w w' ∧ WB w' B p A cp nv g c fv { r with s := t.next, acc := ofV t.acc, xs := t.xs } t.seen t.done
set_option maxHeartbeats 1000000 in
theorem wait_do (B : Nat) (p A : Option Addr) (cp : Nat) (nv : Value) (g : Nat) (c : Int) (fv : Value) (q : Int → Bool) (r : LS) (s3 s4 : Bool) (w : World) (h : WB w B p A cp nv g c fv r s3 s4) (hf : Holds A w fv q) (hx : Words r.xs) :
    Calls Try.prog 61 #[.pointer (some ⟨B, 0, none⟩), .func (.func 62) #[] #[.pointer (some ⟨g, 0, none⟩), .pointer (some ⟨g + 1, 0, none⟩), .pointer (some ⟨g + 2, 0, none⟩), .pointer (some ⟨g + 3, 0, none⟩), .pointer (some ⟨g + 4, 0, none⟩)]] w (WaitDone w B p A cp nv g c fv r (r.stepR c q)) := by
  have HC := Lib.hid (wait_closure B p A cp nv g c fv q r s3 s4 w h hf hx)
  clear h hf hx
  go_enter Try.func61, Try.ntmps61
  go_wp2_with fail
  refine HC.out.mono ?_
  clear HC
  generalize r.stepR c q = t at *
  obtain ⟨nx, ac, sn, dn, zs⟩ := t
  intro e w1 hF
  obtain ⟨rfl, hO, hP⟩ := hF
  dsimp only at hP ⊢
  have HD := Lib.hid (show (⟨nx, ac, sn, dn, zs⟩ : StepR).acc = ac from rfl)
  have HDE := Lib.hid (show WaitDone w B p A cp nv g c fv r ⟨nx, ac, sn, dn, zs⟩ = fun e w' => e = .returned (.tuple #[]) ∧ Only (Wd B A g) w w' ∧ WB w' B p A cp nv g c fv { r with s := nx, acc := ofV ac, xs := zs } sn dn from rfl)
  generalize ofV ac = a5 at *
  dsimp only [Acc5.v]
  have HP := Lib.hid hP
  have HO := Lib.hid hO
  clear hP hO
  have a14 : w1.cell? ⟨B, 14, none⟩ = some (.int .i64 r.acc.k) := HP.out.run.row.cell_ (i := 14) rfl
  have a15 : w1.cell? ⟨B, 15, none⟩ = some (.int .i64 r.acc.c) := HP.out.run.row.cell_ (i := 15) rfl
  have a16 : w1.cell? ⟨B, 16, none⟩ = some (.int .u32 r.acc.x) := HP.out.run.row.cell_ (i := 16) rfl
  have a17 : w1.cell? ⟨B, 17, none⟩ = some (.int .u32 r.acc.y) := HP.out.run.row.cell_ (i := 17) rfl
  have a18 : w1.cell? ⟨B, 18, none⟩ = some (.int .u32 r.acc.o) := HP.out.run.row.cell_ (i := 18) rfl
  have f14 : w1.frozen? ⟨B, 14, none⟩ = false := HP.out.run.row.frozen 14
  have f15 : w1.frozen? ⟨B, 15, none⟩ = false := HP.out.run.row.frozen 15
  have f16 : w1.frozen? ⟨B, 16, none⟩ = false := HP.out.run.row.frozen 16
  have f17 : w1.frozen? ⟨B, 17, none⟩ = false := HP.out.run.row.frozen 17
  have f18 : w1.frozen? ⟨B, 18, none⟩ = false := HP.out.run.row.frozen 18
  go_wp2
  clear a14 a15 a16 a17 a18 f14 f15 f16 f17 f18
  go_returns
  rw [HDE.out]
  exact ⟨rfl, set_acc_only HO.out (B := B) (.inl (.inl rfl)) _ _ _ _ _, HP.out.turn (set_acc_only (Only.refl (· = B) w1) rfl _ _ _ _ _) (HP.out.run.setAcc a5)⟩
end Go.Proofs.Ytaifeejciglkpaa
set_option linter.unusedVariables false
set_option linter.unusedSimpArgs false
namespace Go.Proofs.Ytaifeejciglkpaa
open Go.RowKit
def Aside (t : TypeId) : Prop := t ≠ 43 ∧ t ≠ 68 ∧ t ≠ 23
theorem RunP.aside {w w' : World} {B : Nat} {p A : Option Addr} {cp : Nat} {nv : Value} {r : LS} {g : Nat} {t : TypeId} {cs : Array Value} (h : RunP w B p A cp nv r) (hg : Row w g t cs) (ho : Only (TurnB B A) w w') (ht : Aside t) : Row w' g t cs :=
  hg.only ho (fun e => by
    rcases e with e | e
    · exact row_ne hg h.row ht.1 e
    · exact memo_not h.memo hg ht.2.1 ht.2.2 (.inr e))
theorem RowsL.turn {w w' : World} {B : Nat} {p A : Option Addr} {cp : Nat} {nv : Value} {r : LS} {L : List (Nat × TypeId × Array Value)} (h : RowsL w L) (hp : RunP w B p A cp nv r) (ho : Only (TurnB B A) w w') (ht : ∀ x ∈ L, Aside x.2.1) : RowsL w' L := fun x hx => hp.aside (h x hx) ho (ht x hx)
end Go.Proofs.Ytaifeejciglkpaa
set_option linter.unusedVariables false
set_option linter.unusedSimpArgs false
namespace Go.Proofs.Ytaifeejciglkpaa
open Go.RowKit
structure GameP (w0 : World) (GL GS ST TS : Nat) (B : Nat → Nat) (p A : Option Addr) (cp k : Nat) (AO : Option Addr) (cO : Nat) (g : GV) (W : World) : Prop where
  l : ∃ cs, Row W GL 36 cs ∧ ∀ i, i < k → cs[i]? = some (.pointer (some ⟨B i, 0, none⟩))
  s : Row W GS 30 #[.slice (some ⟨ST, 0, none⟩) k k]
  st : ∃ cs, Row W ST 3 cs ∧ ∀ i, i < k → cs[i]? = some (.int .i64 (g.stt i))
  tm : ∃ cs, Row W TS 3 cs ∧ ∀ i, i < k → cs[i]? = some (.int .i64 (g.times i))
  od : OrdL w0.heap.size W AO cO g.order
  run : ∀ i, i < k → ∃ nv, RunQ W (B i) p A cp nv (g.at i)
  inj : ∀ i j, i < k → j < k → B i = B j → i = j
  memo : Memo W p A cp g.xs
  words : Words g.xs
  ab : ∀ i, i < k → 0 ≤ (g.rs i).a ∧ (g.rs i).a < 4294967296
  only : Only Nil w0 W
  new : ∀ j, (j = ST ∨ j = TS ∨ At A j ∨ ∃ i, i < k ∧ j = B i) → w0.heap.size ≤ j
  ne : ST ≠ TS
  neO : ∀ j, At AO j → j ≠ ST ∧ j ≠ TS
section
variable {w0 W W' : World} {GL GS ST TS : Nat} {B : Nat → Nat} {p A : Option Addr} {cp k : Nat} {AO AO' : Option Addr} {cO cO' : Nat} {g : GV} {t : Nat} {S : Nat → Prop} {r' : LS} {nv : Value}
theorem asideP : Aside 36 := ⟨by decide, by decide, by decide⟩
theorem asideS : Aside 30 := ⟨by decide, by decide, by decide⟩
theorem asideI : Aside 3 := ⟨by decide, by decide, by decide⟩
structure Else (w0 : World) (GL GS ST TS : Nat) (B : Nat → Nat) (p A : Option Addr) (k : Nat) (AO : Option Addr) (j : Nat) : Prop where
  gl : j ≠ GL
  gs : j ≠ GS
  st : j ≠ ST
  ts : j ≠ TS
  b : ∀ i, i < k → j ≠ B i
  a : ¬ (At p j ∨ At A j)
  o : ¬ At AO j
  new : w0.heap.size ≤ j
theorem GameP.ran (h : GameP w0 GL GS ST TS B p A cp k AO cO g W) (ht : t < k) (ho : Only S W W') (hS : ∀ j, S j → TurnB (B t) A j ∨ Else w0 GL GS ST TS B p A k AO j) (hq : RunQ W' (B t) p A cp nv r') (hw : Words r'.xs) (ha : 0 ≤ r'.a ∧ r'.a < 4294967296) : GameP w0 GL GS ST TS B p A cp k AO cO { g with rs := upd g.rs t r', xs := r'.xs } W' := by
  obtain ⟨nv0, q0⟩ := h.run t ht
  have far : ∀ {j : Nat} {ty : TypeId} {cs : Array Value}, Row W j ty cs → Aside ty → ¬ Else w0 GL GS ST TS B p A k AO j → ¬ S j := fun hr ht he hs => by
    rcases hS _ hs with (e | e) | e
    · exact row_ne hr q0.row ht.1 e
    · exact memo_not q0.memo hr ht.2.1 ht.2.2 (.inr e)
    · exact he e
  obtain ⟨cl, hl, hl2⟩ := h.l
  obtain ⟨cs, hs, hs2⟩ := h.st
  obtain ⟨ct, htm, ht2⟩ := h.tm
  refine ⟨⟨cl, hl.only ho (far hl asideP (fun e => e.gl rfl)), hl2⟩, h.s.only ho (far h.s asideS (fun e => e.gs rfl)), ⟨cs, hs.only ho (far hs asideI (fun e => e.st rfl)), hs2⟩, ⟨ct, htm.only ho (far htm asideI (fun e => e.ts rfl)), ht2⟩,
    h.od.only ho (fun j hj hs => ?_), fun i hi => ?_, h.inj, hq.memo, hw, fun i hi => ?_, h.only.step ho (fun j hj e => ?_), h.new, h.ne, h.neO⟩
  · obtain ⟨_, cur, hr⟩ := h.od.tag hj
    exact far hr asideI (fun e => e.o hj) hs
  · by_cases e : i = t
    · subst e
      refine ⟨nv, ?_⟩
      rw [show ({ g with rs := upd g.rs i r', xs := r'.xs } : GV).at i = r' by show ({ upd g.rs i r' i with xs := r'.xs } : LS) = r'; rw [upd_same]]
      exact hq
    · obtain ⟨nvi, qi⟩ := h.run i hi
      rw [show ({ g with rs := upd g.rs t r', xs := r'.xs } : GV).at i = { g.rs i with xs := r'.xs } by show ({ upd g.rs t r' i with xs := r'.xs } : LS) = _; rw [upd_other _ _ e]]
      refine ⟨nvi, qi.row.only ho (fun e2 => ?_), hq.memo⟩
      rcases hS _ e2 with (e2 | e2) | e2
      · exact e (h.inj i t hi ht e2)
      · exact qi.far (.inr e2) rfl
      · exact e2.b i hi rfl
  · show 0 ≤ (upd g.rs t r' i).a ∧ (upd g.rs t r' i).a < 4294967296
    by_cases e : i = t
    · subst e; rw [upd_same]; exact ha
    · rw [upd_other _ _ e]; exact h.ab i hi
  · rcases hS j e with (e2 | e2) | e2
    · have := h.new j (.inr (.inr (.inr ⟨t, ht, e2⟩))); omega
    · have := h.new j (.inr (.inr (.inl e2))); omega
    · have := e2.new; omega
theorem GameP.aside (h : GameP w0 GL GS ST TS B p A cp k AO cO g W) (ho : Only S W W') (hS : ∀ j, S j → Else w0 GL GS ST TS B p A k AO j) : GameP w0 GL GS ST TS B p A cp k AO cO g W' := by
  have hm := h.memo.far ho (fun j hj e => (hS j e).a hj)
  obtain ⟨cl, hl, hl2⟩ := h.l
  obtain ⟨cs, hs, hs2⟩ := h.st
  obtain ⟨ct, htm, ht2⟩ := h.tm
  refine ⟨⟨cl, hl.only ho (fun e => (hS _ e).gl rfl), hl2⟩, h.s.only ho (fun e => (hS _ e).gs rfl), ⟨cs, hs.only ho (fun e => (hS _ e).st rfl), hs2⟩, ⟨ct, htm.only ho (fun e => (hS _ e).ts rfl), ht2⟩, h.od.only ho (fun j hj e => (hS _ e).o hj), fun i hi => ?_, h.inj, hm, h.words, h.ab, h.only.step ho (fun j hj e => by have := (hS j e).new; omega), h.new, h.ne, h.neO⟩
  obtain ⟨nvi, qi⟩ := h.run i hi
  exact ⟨nvi, qi.row.only ho (fun e => (hS _ e).b i hi rfl), hm⟩
theorem GameP.keep (h : GameP w0 GL GS ST TS B p A cp k AO cO g W) (ho : Only Nil W W') : GameP w0 GL GS ST TS B p A cp k AO cO g W' := h.aside ho (fun _ e => e.elim)
theorem GameP.fresh (h : GameP w0 GL GS ST TS B p A cp k AO cO g W) {j : Nat} (hj : W.heap.size ≤ j) : Else w0 GL GS ST TS B p A k AO j := by
  obtain ⟨cl, hl, hl2⟩ := h.l
  obtain ⟨cs, hs, hs2⟩ := h.st
  obtain ⟨ct, htm, ht2⟩ := h.tm
  refine ⟨?_, ?_, ?_, ?_, fun i hi e => ?_, fun e => ?_, fun e => ?_, ?_⟩
  · have := hl.lt; omega
  · have := h.s.lt; omega
  · have := hs.lt; omega
  · have := htm.lt; omega
  · obtain ⟨nvi, qi⟩ := h.run i hi
    have := qi.row.lt; omega
  · have := h.memo.lt j e; omega
  · obtain ⟨_, cur, hr⟩ := h.od.tag e
    have := hr.lt; omega
  · have := h.only.size; omega
theorem GameP.stated (h : GameP w0 GL GS ST TS B p A cp k AO cO g W) (ht : t < k) (v : Int) : GameP w0 GL GS ST TS B p A cp k AO cO { g with stt := upd g.stt t v } (W.setCell ⟨ST, t, none⟩ (.int .i64 v)) := by
  obtain ⟨cl, hl, hl2⟩ := h.l
  obtain ⟨cs, hs, hs2⟩ := h.st
  obtain ⟨ct, htm, ht2⟩ := h.tm
  have ho := (Only.refl (· = ST) W).setCell (p := ⟨ST, t, none⟩) (.inr rfl) (.int .i64 v)
  have hsz : t < cs.size := by have := hs2 t ht; exact (Array.getElem?_eq_some_iff.1 this).1
  have hm := h.memo.far ho (fun j hj e => memo_not h.memo hs (by decide) (by decide) (by subst e; exact hj))
  refine ⟨⟨cl, hl.only ho (row_ne hl hs (by decide)), hl2⟩, h.s.only ho (row_ne h.s hs (by decide)), ⟨_, hs.set t (.int .i64 v), fun i hi => ?_⟩, ⟨ct, htm.only ho (Ne.symm h.ne), ht2⟩, h.od.only ho (fun j hj e => (h.neO j hj).1 e), fun i hi => ?_, h.inj, hm, h.words, h.ab, h.only.setCell (.inl (h.new ST (.inl rfl))) _, h.new, h.ne, h.neO⟩
  · show (cs.setIfInBounds t _)[i]? = some (.int .i64 (upd g.stt t v i))
    by_cases e : i = t
    · subst e
      rw [upd_same, Array.getElem?_setIfInBounds_self]
      simp [hsz]
    · rw [upd_other _ _ e, Array.getElem?_setIfInBounds_ne (Ne.symm e)]
      exact hs2 i hi
  · obtain ⟨nvi, qi⟩ := h.run i hi
    exact ⟨nvi, qi.row.only ho (row_ne qi.row hs (by decide)), hm⟩
theorem GameP.timed (h : GameP w0 GL GS ST TS B p A cp k AO cO g W) (ht : t < k) (v : Int) : GameP w0 GL GS ST TS B p A cp k AO cO { g with times := upd g.times t v } (W.setCell ⟨TS, t, none⟩ (.int .i64 v)) := by
  obtain ⟨cl, hl, hl2⟩ := h.l
  obtain ⟨cs, hs, hs2⟩ := h.st
  obtain ⟨ct, htm, ht2⟩ := h.tm
  have ho := (Only.refl (· = TS) W).setCell (p := ⟨TS, t, none⟩) (.inr rfl) (.int .i64 v)
  have hsz : t < ct.size := by have := ht2 t ht; exact (Array.getElem?_eq_some_iff.1 this).1
  have hm := h.memo.far ho (fun j hj e => memo_not h.memo htm (by decide) (by decide) (by subst e; exact hj))
  refine ⟨⟨cl, hl.only ho (row_ne hl htm (by decide)), hl2⟩, h.s.only ho (row_ne h.s htm (by decide)), ⟨cs, hs.only ho h.ne, hs2⟩, ⟨_, htm.set t (.int .i64 v), fun i hi => ?_⟩, h.od.only ho (fun j hj e => (h.neO j hj).2 e), fun i hi => ?_, h.inj, hm, h.words, h.ab, h.only.setCell (.inl (h.new TS (.inr (.inl rfl)))) _, h.new, h.ne, h.neO⟩
  · show (ct.setIfInBounds t _)[i]? = some (.int .i64 (upd g.times t v i))
    by_cases e : i = t
    · subst e
      rw [upd_same, Array.getElem?_setIfInBounds_self]
      simp [hsz]
    · rw [upd_other _ _ e, Array.getElem?_setIfInBounds_ne (Ne.symm e)]
      exact ht2 i hi
  · obtain ⟨nvi, qi⟩ := h.run i hi
    exact ⟨nvi, qi.row.only ho (row_ne qi.row htm (by decide)), hm⟩
theorem GameP.ordered {l' : List Int} (h : GameP w0 GL GS ST TS B p A cp k AO cO g W) (ho : Only (At AO) W W') (hd : OrdL w0.heap.size W' AO' cO' l') (hA : ∀ j, At AO' j → At AO j ∨ W.heap.size ≤ j) : GameP w0 GL GS ST TS B p A cp k AO' cO' { g with order := l' } W' := by
  obtain ⟨cl, hl, hl2⟩ := h.l
  obtain ⟨cs, hs, hs2⟩ := h.st
  obtain ⟨ct, htm, ht2⟩ := h.tm
  have far : ∀ {j : Nat} {ty : TypeId} {cs : Array Value}, Row W j ty cs → ty ≠ 3 → ¬ At AO j := fun hr ht e => by
    obtain ⟨_, cur, hc⟩ := h.od.tag e
    exact row_ne hr hc ht rfl
  have hm := h.memo.far ho (fun j hj e => by
    obtain ⟨_, cur, hc⟩ := h.od.tag e
    exact memo_not h.memo hc (by decide) (by decide) hj)
  refine ⟨⟨cl, hl.only ho (far hl (by decide)), hl2⟩, h.s.only ho (far h.s (by decide)), ⟨cs, hs.only ho (fun e => (h.neO _ e).1 rfl), hs2⟩, ⟨ct, htm.only ho (fun e => (h.neO _ e).2 rfl), ht2⟩, hd, fun i hi => ?_, h.inj, hm, h.words, h.ab, h.only.step ho (fun j hj e => by have := (h.od.tag e).1; omega), h.new, h.ne, fun j hj => ?_⟩
  · obtain ⟨nvi, qi⟩ := h.run i hi
    exact ⟨nvi, qi.row.only ho (far qi.row (by decide)), hm⟩
  · rcases hA j hj with e | e
    · exact h.neO j e
    · have h1 := hs.lt
      have h2 := htm.lt
      exact ⟨by omega, by omega⟩
def frameL (W : World) (b : Nat) (line : Int) : World :=
  (((((((((W.setCell ⟨b, 4, none⟩ (.int .i64 0)).setCell ⟨b, 5, none⟩ (.int .i64 line)).setCell ⟨b, 6, none⟩ (.int .u32 0)).setCell ⟨b, 7, none⟩ (.int .u32 0)).setCell ⟨b, 8, none⟩ (.int .i64 0)).setCell ⟨b, 9, none⟩ (.bool false)).setCell ⟨b, 10, none⟩ (.int .i64 0)).setCell ⟨b, 11, none⟩ (.int .i64 0)).setCell ⟨b, 12, none⟩ (.bool false)).setCell ⟨b, 13, none⟩ (.int .i64 0)
theorem frameL_only (W : World) (b : Nat) (line : Int) : Only (· = b) W (frameL W b line) :=
  (((((((((((Only.refl (· = b) W).setCell (p := ⟨b, 4, none⟩) (.inr rfl) _).setCell (p := ⟨b, 5, none⟩) (.inr rfl) _).setCell (p := ⟨b, 6, none⟩) (.inr rfl) _).setCell (p := ⟨b, 7, none⟩) (.inr rfl) _).setCell (p := ⟨b, 8, none⟩) (.inr rfl) _).setCell (p := ⟨b, 9, none⟩) (.inr rfl) _).setCell (p := ⟨b, 10, none⟩) (.inr rfl) _).setCell (p := ⟨b, 11, none⟩) (.inr rfl) _).setCell (p := ⟨b, 12, none⟩) (.inr rfl) _).setCell (p := ⟨b, 13, none⟩) (.inr rfl) _)
theorem frameL_row {b : Nat} {r : LS} {hv nv : Value} {ty : TypeId} (h : Row W b ty (r.cells hv nv)) (line : Int) : Row (frameL W b line) b ty ((zeroL r line).cells hv nv) := by
  have e1 : Row (((((W.setCell ⟨b, 4, none⟩ (.int .i64 0)).setCell ⟨b, 5, none⟩ (.int .i64 line)).setCell ⟨b, 6, none⟩ (.int .u32 0)).setCell ⟨b, 7, none⟩ (.int .u32 0)).setCell ⟨b, 8, none⟩ (.int .i64 0)) b ty (({ r with op := 0, line := line, a := 0, b := 0, s := 0 } : LS).cells hv nv) :=
    ((((h.set 4 (.int .i64 0)).set 5 (.int .i64 line)).set 6 (.int .u32 0)).set 7 (.int .u32 0)).set 8 (.int .i64 0)
  have e2 := (set_wake_row e1 wk0).set 13 (.int .i64 0)
  exact e2
theorem GameP.framed (h : GameP w0 GL GS ST TS B p A cp k AO cO g W) (ht : t < k) (line : Int) : GameP w0 GL GS ST TS B p A cp k AO cO { g with rs := upd g.rs t (zeroL (g.rs t) line) } (frameL W (B t) line) := by
  obtain ⟨nv, q⟩ := h.run t ht
  have e := h.ran (r' := zeroL (g.at t) line) ht (S := TurnB (B t) A) ((frameL_only W (B t) line).mono (fun _ _ e => .inl e)) (fun j hj => .inl hj) ⟨frameL_row q.row line, h.memo.far (frameL_only W (B t) line) (fun j hj => q.far hj)⟩ h.words ⟨Int.le_refl _, by show (0 : Int) < _; decide⟩
  refine ⟨e.l, e.s, e.st, e.tm, e.od, fun i hi => ?_, e.inj, e.memo, e.words, fun i hi => ?_, e.only, e.new, e.ne, e.neO⟩
  · obtain ⟨nvi, qi⟩ := e.run i hi
    refine ⟨nvi, ?_⟩
    by_cases ei : i = t
    · subst ei
      have e1 : ({ g with rs := upd g.rs i (zeroL (g.at i) line), xs := (zeroL (g.at i) line).xs } : GV).at i = ({ g with rs := upd g.rs i (zeroL (g.rs i) line) } : GV).at i := by
        show ({ upd g.rs i (zeroL (g.at i) line) i with xs := g.xs } : LS) = { upd g.rs i (zeroL (g.rs i) line) i with xs := g.xs }
        rw [upd_same, upd_same]
        rfl
      rw [← e1]
      exact qi
    · have e1 : ({ g with rs := upd g.rs t (zeroL (g.at t) line), xs := (zeroL (g.at t) line).xs } : GV).at i = ({ g with rs := upd g.rs t (zeroL (g.rs t) line) } : GV).at i := by
        show ({ upd g.rs t (zeroL (g.at t) line) i with xs := g.xs } : LS) = { upd g.rs t (zeroL (g.rs t) line) i with xs := g.xs }
        rw [upd_other _ _ ei, upd_other _ _ ei]
      rw [← e1]
      exact qi
  · show 0 ≤ (upd g.rs t (zeroL (g.rs t) line) i).a ∧ (upd g.rs t (zeroL (g.rs t) line) i).a < 4294967296
    by_cases ei : i = t
    · subst ei
      rw [upd_same]
      exact ⟨Int.le_refl _, by show (0 : Int) < _; decide⟩
    · rw [upd_other _ _ ei]
      exact h.ab i hi
end
end Go.Proofs.Ytaifeejciglkpaa
set_option linter.unusedVariables false
set_option linter.unusedSimpArgs false
namespace Go.Proofs.Ytaifeejciglkpaa
open Go.RowKit
theorem Row.at {w : World} {t : TypeId} {cs : Array Value} {k : Nat} (h : w.heap.size = k) : Row (w.alloc (.cells cs t)) k t cs := by subst h; exact Row.new w t cs
set_option maxRecDepth 100000 in
set_option maxHeartbeats 1000000 in
theorem wait_run (B : Nat) (p A : Option Addr) (cp : Nat) (nv : Value) (r : LS) (c : Int) (F : Fn) (f1 f2 : Array Value) (q : Int → Bool) (w : World) (h : RunP w B p A cp nv r) (hf : Holds A w (.func F f1 f2) q) (hx : Words r.xs) :
    Calls Try.prog 31 #[.pointer (some ⟨B, 0, none⟩), .int .i64 c, .func F f1 f2] w (Done B p A cp w (.tuple #[.bool (r.stepR c q).seen, .bool (r.stepR c q).done]) (r.wait c q)) := by
  have e0 := (((((Only.refl Nil w).alloc (.cells #[.pointer (some ⟨B, 0, none⟩)] 36)).alloc (.cells #[.int .i64 c] 3)).alloc (.cells #[.func F f1 f2] 78)).alloc (.cells #[.bool false] 4)).alloc (.cells #[.bool false] 4)
  have HP : Hid (WB _ B p A cp nv w.heap.size c (.func F f1 f2) r false false) := Lib.hid ⟨h.keep e0, ((((Row.new w 36 #[.pointer (some ⟨B, 0, none⟩)]).alloc _).alloc _).alloc _).alloc _,
    (((Row.at (t := 3) (cs := #[.int .i64 c]) (by simp)).alloc _).alloc _).alloc _, ((Row.at (t := 78) (cs := #[.func F f1 f2]) (by simp)).alloc _).alloc _, (Row.at (t := 4) (cs := #[.bool false]) (by simp)).alloc _, Row.at (by simp)⟩
  have HO := Lib.hid (e0.mono (T := TurnB B A) (fun _ _ h => h.elim))
  have HF := Lib.hid (hf.move0 e0)
  have HX := Lib.hid hx
  clear h hf hx e0
  rw [show r.wait c q = { r with s := (r.stepR c q).next, acc := ofV (r.stepR c q).acc, xs := (r.stepR c q).xs } from rfl]
  generalize hst : r.stepR c q = t at *
  have HST := Lib.hid hst
  clear hst
  obtain ⟨nx, ac, sn, dn, zs⟩ := t
  dsimp only
  generalize hr2 : ({ r with s := nx, acc := ofV ac, xs := zs } : LS) = r2 at *
  have HR2 := Lib.hid hr2
  clear hr2
  go_enter Try.func31, Try.ntmps31
  go_upto_region 1 with (fail)
  generalize ((((w.alloc (.cells #[.pointer (some ⟨B, 0, none⟩)] 36)).alloc (.cells #[.int .i64 c] 3)).alloc (.cells #[.func F f1 f2] 78)).alloc (.cells #[.bool false] 4)).alloc (.cells #[.bool false] 4) = w1 at *
  generalize hgg : w.heap.size = g at *
  have HG := Lib.hid hgg
  clear hgg
  have a0 : w1.cell? ⟨g, 0, none⟩ = some (.pointer (some ⟨B, 0, none⟩)) := HP.out.r0.cell_ (i := 0) rfl
  go_wp2_with fail
  clear a0
  refine (wait_do B p A cp nv g c (.func F f1 f2) q r false false _ HP.out HF.out HX.out).mono ?_
  rw [HST.out]
  intro e w2 hF
  obtain ⟨rfl, hO, hP⟩ := hF
  dsimp only at hP
  rw [HR2.out] at hP
  have HP2 := Lib.hid hP
  have HO2 := Lib.hid (HO.out.step hO (fun i hi hd => by
    rcases hd with hd | hd | hd
    · exact hd
    · have := HG.out; omega
    · have := HG.out; omega))
  clear hO hP HP HO
  go_upto_region 4 with (fail)
  refine wp_region_phase (n := 4) 3 (fun w => w.cell? ⟨g + 3, 0, none⟩ = some (.bool sn) ∧ w.cell? ⟨g + 4, 0, none⟩ = some (.bool dn)) rfl (by kernel_rfl) ⟨HP2.out.r3.cell_ (i := 0) rfl, HP2.out.r4.cell_ (i := 0) rfl⟩ (fun hHeld => ?_)
  have HP3 := Lib.hid (HP2.out.keep (Only.refl Nil w2).drew)
  have HO3 := Lib.hid HO2.out.drew
  clear HP2 HO2
  generalize w2.drew = w3 at *
  refine mpt 0 rfl (.bool sn) (fun w hSw => ?_) ?_
  · (try dsimp only at hSw)
    go_split_ands
    go_simp
  (try simp only [Act.put, k1, k2, k3])
  refine mpt 1 rfl (.bool dn) (fun w hSw => ?_) ?_
  · (try dsimp only at hSw)
    go_split_ands
    go_simp
  (try simp only [Act.put, k1, k2, k3])
  have b3 : w3.cell? ⟨g + 1 + 1 + 1, 0, none⟩ = some (.bool sn) := HP3.out.r3.cell_ (i := 0) rfl
  have f3 : w3.frozen? ⟨g + 1 + 1 + 1, 0, none⟩ = false := HP3.out.r3.frozen 0
  refine mpc 2 rfl (by kernel_rfl) (by rfl) (fun K hK => ?_)
  go_simp
  have HP4 : Hid (WB (w3.setCell ⟨g + 1 + 1 + 1, 0, none⟩ (.bool sn)) B p A cp nv g c (.func F f1 f2) r2 sn dn) := Lib.hid (HP3.out.set3 sn)
  have HO4 := Lib.hid (HO3.out.setCell (p := ⟨g + 1 + 1 + 1, 0, none⟩) (.inl (by have := HG.out; show w.heap.size ≤ g + 1 + 1 + 1; omega)) (.bool sn))
  refine hK.out _ _ (.inr ⟨HP4.out.r3.cell_ (i := 0) rfl, HP4.out.r4.cell_ (i := 0) rfl⟩) ?_
  clear hK K hHeld b3 f3 HP3 HO3
  generalize w3.setCell ⟨g + 1 + 1 + 1, 0, none⟩ (.bool sn) = w4 at *
  (try simp only [Act.put, k1, k2, k3])
  have b3 : w4.cell? ⟨g + 1 + 1 + 1 + 1, 0, none⟩ = some (.bool dn) := HP4.out.r4.cell_ (i := 0) rfl
  have f3 : w4.frozen? ⟨g + 1 + 1 + 1 + 1, 0, none⟩ = false := HP4.out.r4.frozen 0
  refine mpc 3 rfl (by kernel_rfl) (by rfl) (fun K hK => ?_)
  go_simp
  have HP5 : Hid (WB (w4.setCell ⟨g + 1 + 1 + 1 + 1, 0, none⟩ (.bool dn)) B p A cp nv g c (.func F f1 f2) r2 sn dn) := Lib.hid (HP4.out.set4 dn)
  have HO5 := Lib.hid (HO4.out.setCell (p := ⟨g + 1 + 1 + 1 + 1, 0, none⟩) (.inl (by have := HG.out; show w.heap.size ≤ g + 1 + 1 + 1 + 1; omega)) (.bool dn))
  refine hK.out _ _ (.inl (by kernel_rfl)) ?_
  clear hK K b3 f3 HP4 HO4
  generalize w4.setCell ⟨g + 1 + 1 + 1 + 1, 0, none⟩ (.bool dn) = w5 at *
  (try simp only [Act.put, k1, k2, k3])
  refine wpAnyP_done (by kernel_rfl) ?_ _
  have b3 : w5.cell? ⟨g + 1 + 1 + 1, 0, none⟩ = some (.bool sn) := HP5.out.r3.cell_ (i := 0) rfl
  have b4 : w5.cell? ⟨g + 1 + 1 + 1 + 1, 0, none⟩ = some (.bool dn) := HP5.out.r4.cell_ (i := 0) rfl
  go_wp2
  exact bodyPost_ret (v := .tuple #[.bool sn, .bool dn]) (by simp [results, Try.results31, go_sem, b3, b4]) rfl ⟨rfl, HO5.out, nv, HP5.out.run⟩
end Go.Proofs.Ytaifeejciglkpaa
