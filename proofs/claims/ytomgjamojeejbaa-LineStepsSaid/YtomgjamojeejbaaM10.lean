/- LineRW, LineCR, LineRK, LineZ. -/
import Derived.Test.YtomgjamojeejbaaM6
import Derived.Test.YtomgjamojeejbaaM9
import Derived.Test.YtomgjamojeejbaaM8
/- A run's Wait, the answer's. -/
set_option linter.unusedVariables false
set_option linter.unusedSimpArgs false
namespace Go.Proofs.Ytomgjamojeejbaa
open Go.RowKit

/-- Blocks that are known whole. -/
def RowsL (w : World) (L : List (Nat × TypeId × Array Value)) : Prop := ∀ x ∈ L, Row w x.1 x.2.1 x.2.2
theorem RowsL.keep {w w' : World} {L : List (Nat × TypeId × Array Value)} (h : RowsL w L) (ho : Only Nil w w') : RowsL w' L := fun x hx => (h x hx).only ho id
theorem RowsL.call {w w' : World} {L : List (Nat × TypeId × Array Value)} {base : Nat} {A : Option Addr} {cp : Nat} {xs : List Int} (h : RowsL w L) (hm : Own w base A cp xs) (ho : Only (At A) w w') (ht : ∀ x ∈ L, x.2.1 ≠ 23) : RowsL w' L := fun x hx =>
  (h x hx).only ho (fun e => by
    obtain ⟨cur, hc⟩ := own_tag hm e
    exact ht x hx ((h x hx).same hc).1)
theorem RowsL.cons {w : World} {L : List (Nat × TypeId × Array Value)} {g : Nat} {t : TypeId} {cs : Array Value} (h : RowsL w L) (hr : Row w g t cs) : RowsL w ((g, t, cs) :: L) := fun x hx => by
  rcases List.mem_cons.1 hx with rfl | hx
  · exact hr
  · exact h x hx
theorem RunR.farRow {w w' : World} {B base : Nat} {A : Option Addr} {l cp : Nat} {nv : Value} {r : LS} {q : Nat} {t : TypeId} {cs : Array Value} (h : RunR w B base A l cp nv r) (hq : Row w q t cs) (ho : Only (· = q) w w')
    (h1 : t ≠ 47) (h2 : t ≠ 23) (h3 : t ≠ 70) : RunR w' B base A l cp nv r :=
  h.apart ho (fun e => h1 (by subst e; exact (hq.same h.row).1)) (fun j hj e => by
    subst e
    obtain ⟨cur, hc⟩ := own_tag h.own hj
    exact h2 (hq.same hc).1) (fun i hi e => by
    subst e
    obtain ⟨cur, hc⟩ := ownN_tag h.notes hi
    exact h3 (hq.same hc).1)
theorem RunR.held {w : World} {B base : Nat} {A : Option Addr} {l cp : Nat} {nv : Value} {r : LS} {gu : Nat} {k m x : Int} {L : List (Nat × TypeId × Array Value)} (h : RunR w B base A l cp nv r) (hx : RowsL w L) (hL : (gu, 78, #[.int .i64 k, .int .u32 m, .int .u32 x]) ∈ L) :
    w.cell? ⟨B, 0, none⟩ = some (.slice A l cp) ∧ w.cell? ⟨B, 1, none⟩ = some (.int .i64 r.n) ∧ w.cell? ⟨B, 2, none⟩ = some (.int .i64 r.mode) ∧ w.cell? ⟨B, 3, none⟩ = some (.int .i64 r.task) ∧ w.cell? ⟨B, 8, none⟩ = some (.int .i64 r.s) ∧ w.cell? ⟨gu, 0, none⟩ = some (.int .i64 k) ∧ w.cell? ⟨gu, 1, none⟩ = some (.int .u32 m) ∧ w.cell? ⟨gu, 2, none⟩ = some (.int .u32 x) :=
  ⟨h.row.cell_ (i := 0) rfl, h.row.cell_ (i := 1) rfl, h.row.cell_ (i := 2) rfl, h.row.cell_ (i := 3) rfl, h.row.cell_ (i := 8) rfl, (hx _ hL).cell_ (i := 0) rfl, (hx _ hL).cell_ (i := 1) rfl, (hx _ hL).cell_ (i := 2) rfl⟩

set_option maxRecDepth 100000 in
set_option maxHeartbeats 4000000 in
theorem rwait_run (B base : Nat) (A : Option Addr) (l cp : Nat) (nv : Value) (r : LS) (c k m x : Int) (w : World) (h : RunR w B base A l cp nv r) (hx : Words r.xs) :
    Calls Try.prog 44 #[.pointer (some ⟨B, 0, none⟩), .int .i64 c, .agg #[.int .i64 k, .int .u32 m, .int .u32 x]] w (DoneR B base A l cp w (.tuple #[.bool (r.stepR c (uIs k m x)).seen, .bool (r.stepR c (uIs k m x)).done]) (r.wait c (uIs k m x))) := by
  have e0 := (Only.refl Nil w).alloc (.cells #[.int .i64 k, .int .u32 m, .int .u32 x] 78)
  have HP0 := Lib.hid (h.keep e0)
  have HO0 := Lib.hid (e0.mono (T := TurnB B A) (fun _ _ h => h.elim))
  have HX0 : Hid (RowsL _ [(w.heap.size, 78, #[.int .i64 k, .int .u32 m, .int .u32 x])]) := Lib.hid (RowsL.cons (fun _ h => absurd h (by simp)) (Row.new w 78 #[.int .i64 k, .int .u32 m, .int .u32 x]))
  have HWF := Lib.hid hx
  have hacc := ofV_step r.xs r.n r.mode r.task r.s c (uIs k m x)
  have hzl := (step_len r.xs r.n r.mode r.task r.s c (uIs k m x)).trans h.len
  clear h hx e0
  rw [show r.wait c (uIs k m x) = { r with s := (r.stepR c (uIs k m x)).next, acc := ofV (r.stepR c (uIs k m x)).acc, xs := (r.stepR c (uIs k m x)).xs } from rfl]
  rw [show r.stepR c (uIs k m x) = stepI r.xs r.n r.mode r.task r.s c (uIs k m x) from rfl]
  generalize hst : stepI r.xs r.n r.mode r.task r.s c (uIs k m x) = t at *
  obtain ⟨nx, ac, sn, dn, zs⟩ := t
  dsimp only at hacc hzl ⊢
  generalize ha5 : ofV ac = a5 at *
  have HST := Lib.hid hst
  have HZL := Lib.hid hzl
  have HAC := Lib.hid hacc
  clear hst hacc hzl ha5
  go_enter Try.func44, Try.ntmps44
  go_upto_region 1 with (fail)
  generalize w.alloc (.cells #[.int .i64 k, .int .u32 m, .int .u32 x] 78) = w1 at *
  generalize w.heap.size = gu at *
  refine wp_region_phase (n := 35) 23 (fun w => w.cell? ⟨B, 0, none⟩ = some (.slice A l cp) ∧ w.cell? ⟨B, 1, none⟩ = some (.int .i64 r.n) ∧ w.cell? ⟨B, 2, none⟩ = some (.int .i64 r.mode) ∧ w.cell? ⟨B, 3, none⟩ = some (.int .i64 r.task) ∧ w.cell? ⟨B, 8, none⟩ = some (.int .i64 r.s) ∧ w.cell? ⟨gu, 0, none⟩ = some (.int .i64 k) ∧ w.cell? ⟨gu, 1, none⟩ = some (.int .u32 m) ∧ w.cell? ⟨gu, 2, none⟩ = some (.int .u32 x)) rfl (by kernel_rfl) (HP0.out.held HX0.out (by simp)) (fun hHeld => ?_)
  have HP := Lib.hid (HP0.out.keep (Only.refl Nil w1).drew)
  have HO := Lib.hid HO0.out.drew
  have HX := Lib.hid (HX0.out.keep (Only.refl Nil w1).drew)
  clear HP0 HO0 HX0
  generalize w1.drew = w2 at *
  refine pa_0 rfl rfl (.pointer (some ⟨B, 0, none⟩)) (by kernel_rfl) (by kernel_rfl) (by kernel_rfl) (by decide) (by kernel_rfl) (fun _ _ _ h => h) (by rfl) (fun w => ?_) (by first | (right; assumption) | (left; kernel_rfl)) ?_
  · go_simp
  (try simp only [Act.put, List.setIfInBounds_toArray, List.set_cons_zero, List.set_cons_succ])
  refine pa_1 rfl rfl (.pointer (some ⟨B, 0, none⟩)) (by kernel_rfl) (by kernel_rfl) (by kernel_rfl) (by decide) (by kernel_rfl) (fun _ _ _ h => h) (by rfl) (fun w => ?_) (by first | (right; assumption) | (left; kernel_rfl)) ?_
  · go_simp
  (try simp only [Act.put, List.setIfInBounds_toArray, List.set_cons_zero, List.set_cons_succ])
  refine pa_2 rfl rfl (.pointer (some ⟨B, 0, none⟩)) (by kernel_rfl) (by kernel_rfl) (by kernel_rfl) (by decide) (by kernel_rfl) (fun _ _ _ h => h) (by rfl) (fun w => ?_) (by first | (right; assumption) | (left; kernel_rfl)) ?_
  · go_simp
  (try simp only [Act.put, List.setIfInBounds_toArray, List.set_cons_zero, List.set_cons_succ])
  refine pt_3 rfl rfl 9 (.slice A l cp) (by kernel_rfl) (by kernel_rfl) (by kernel_rfl) (by kernel_rfl) (by kernel_rfl) (fun _ _ _ h => h) (by rfl) (fun w hSw => ?_) (by assumption) ?_
  · (try dsimp only at hSw)
    go_split_ands
    go_simp
  (try simp only [Act.put, List.setIfInBounds_toArray, List.set_cons_zero, List.set_cons_succ])
  refine pa_4 rfl rfl (.pointer (some ⟨B, 0, none⟩)) (by kernel_rfl) (by kernel_rfl) (by kernel_rfl) (by decide) (by kernel_rfl) (fun _ _ _ h => h) (by rfl) (fun w => ?_) (by first | (right; assumption) | (left; kernel_rfl)) ?_
  · go_simp
  (try simp only [Act.put, List.setIfInBounds_toArray, List.set_cons_zero, List.set_cons_succ])
  refine pa_5 rfl rfl (.pointer (some ⟨B, 0, none⟩)) (by kernel_rfl) (by kernel_rfl) (by kernel_rfl) (by decide) (by kernel_rfl) (fun _ _ _ h => h) (by rfl) (fun w => ?_) (by first | (right; assumption) | (left; kernel_rfl)) ?_
  · go_simp
  (try simp only [Act.put, List.setIfInBounds_toArray, List.set_cons_zero, List.set_cons_succ])
  refine pa_6 rfl rfl (.pointer (some ⟨B, 1, none⟩)) (by kernel_rfl) (by kernel_rfl) (by kernel_rfl) (by decide) (by kernel_rfl) (fun _ _ _ h => h) (by rfl) (fun w => ?_) (by first | (right; assumption) | (left; kernel_rfl)) ?_
  · go_simp
  (try simp only [Act.put, List.setIfInBounds_toArray, List.set_cons_zero, List.set_cons_succ])
  refine pt_7 rfl rfl 9 (.int .i64 r.n) (by kernel_rfl) (by kernel_rfl) (by kernel_rfl) (by kernel_rfl) (by kernel_rfl) (fun _ _ _ h => h) (by rfl) (fun w hSw => ?_) (by assumption) ?_
  · (try dsimp only at hSw)
    go_split_ands
    go_simp
  (try simp only [Act.put, List.setIfInBounds_toArray, List.set_cons_zero, List.set_cons_succ])
  refine pa_8 rfl rfl (.pointer (some ⟨B, 0, none⟩)) (by kernel_rfl) (by kernel_rfl) (by kernel_rfl) (by decide) (by kernel_rfl) (fun _ _ _ h => h) (by rfl) (fun w => ?_) (by first | (right; assumption) | (left; kernel_rfl)) ?_
  · go_simp
  (try simp only [Act.put, List.setIfInBounds_toArray, List.set_cons_zero, List.set_cons_succ])
  refine pa_9 rfl rfl (.pointer (some ⟨B, 0, none⟩)) (by kernel_rfl) (by kernel_rfl) (by kernel_rfl) (by decide) (by kernel_rfl) (fun _ _ _ h => h) (by rfl) (fun w => ?_) (by first | (right; assumption) | (left; kernel_rfl)) ?_
  · go_simp
  (try simp only [Act.put, List.setIfInBounds_toArray, List.set_cons_zero, List.set_cons_succ])
  refine pa_10 rfl rfl (.pointer (some ⟨B, 2, none⟩)) (by kernel_rfl) (by kernel_rfl) (by kernel_rfl) (by decide) (by kernel_rfl) (fun _ _ _ h => h) (by rfl) (fun w => ?_) (by first | (right; assumption) | (left; kernel_rfl)) ?_
  · go_simp
  (try simp only [Act.put, List.setIfInBounds_toArray, List.set_cons_zero, List.set_cons_succ])
  refine pt_11 rfl rfl 9 (.int .i64 r.mode) (by kernel_rfl) (by kernel_rfl) (by kernel_rfl) (by kernel_rfl) (by kernel_rfl) (fun _ _ _ h => h) (by rfl) (fun w hSw => ?_) (by assumption) ?_
  · (try dsimp only at hSw)
    go_split_ands
    go_simp
  (try simp only [Act.put, List.setIfInBounds_toArray, List.set_cons_zero, List.set_cons_succ])
  refine pa_12 rfl rfl (.pointer (some ⟨B, 0, none⟩)) (by kernel_rfl) (by kernel_rfl) (by kernel_rfl) (by decide) (by kernel_rfl) (fun _ _ _ h => h) (by rfl) (fun w => ?_) (by first | (right; assumption) | (left; kernel_rfl)) ?_
  · go_simp
  (try simp only [Act.put, List.setIfInBounds_toArray, List.set_cons_zero, List.set_cons_succ])
  refine pa_13 rfl rfl (.pointer (some ⟨B, 0, none⟩)) (by kernel_rfl) (by kernel_rfl) (by kernel_rfl) (by decide) (by kernel_rfl) (fun _ _ _ h => h) (by rfl) (fun w => ?_) (by first | (right; assumption) | (left; kernel_rfl)) ?_
  · go_simp
  (try simp only [Act.put, List.setIfInBounds_toArray, List.set_cons_zero, List.set_cons_succ])
  refine pa_14 rfl rfl (.pointer (some ⟨B, 3, none⟩)) (by kernel_rfl) (by kernel_rfl) (by kernel_rfl) (by decide) (by kernel_rfl) (fun _ _ _ h => h) (by rfl) (fun w => ?_) (by first | (right; assumption) | (left; kernel_rfl)) ?_
  · go_simp
  (try simp only [Act.put, List.setIfInBounds_toArray, List.set_cons_zero, List.set_cons_succ])
  refine pt_15 rfl rfl 9 (.int .i64 r.task) (by kernel_rfl) (by kernel_rfl) (by kernel_rfl) (by kernel_rfl) (by kernel_rfl) (fun _ _ _ h => h) (by rfl) (fun w hSw => ?_) (by assumption) ?_
  · (try dsimp only at hSw)
    go_split_ands
    go_simp
  (try simp only [Act.put, List.setIfInBounds_toArray, List.set_cons_zero, List.set_cons_succ])
  refine pa_16 rfl rfl (.pointer (some ⟨B, 0, none⟩)) (by kernel_rfl) (by kernel_rfl) (by kernel_rfl) (by decide) (by kernel_rfl) (fun _ _ _ h => h) (by rfl) (fun w => ?_) (by first | (right; assumption) | (left; kernel_rfl)) ?_
  · go_simp
  (try simp only [Act.put, List.setIfInBounds_toArray, List.set_cons_zero, List.set_cons_succ])
  refine pa_17 rfl rfl (.pointer (some ⟨B, 0, none⟩)) (by kernel_rfl) (by kernel_rfl) (by kernel_rfl) (by decide) (by kernel_rfl) (fun _ _ _ h => h) (by rfl) (fun w => ?_) (by first | (right; assumption) | (left; kernel_rfl)) ?_
  · go_simp
  (try simp only [Act.put, List.setIfInBounds_toArray, List.set_cons_zero, List.set_cons_succ])
  refine pa_18 rfl rfl (.pointer (some ⟨B, 4, none⟩)) (by kernel_rfl) (by kernel_rfl) (by kernel_rfl) (by decide) (by kernel_rfl) (fun _ _ _ h => h) (by rfl) (fun w => ?_) (by first | (right; assumption) | (left; kernel_rfl)) ?_
  · go_simp
  (try simp only [Act.put, List.setIfInBounds_toArray, List.set_cons_zero, List.set_cons_succ])
  refine pa_19 rfl rfl (.pointer (some ⟨B, 8, none⟩)) (by kernel_rfl) (by kernel_rfl) (by kernel_rfl) (by decide) (by kernel_rfl) (fun _ _ _ h => h) (by rfl) (fun w => ?_) (by first | (right; assumption) | (left; kernel_rfl)) ?_
  · go_simp
  (try simp only [Act.put, List.setIfInBounds_toArray, List.set_cons_zero, List.set_cons_succ])
  refine pt_20 rfl rfl 9 (.agg #[.int .i64 r.s]) (by kernel_rfl) (by kernel_rfl) (by kernel_rfl) (by kernel_rfl) (by kernel_rfl) (fun _ _ _ h => h) (by rfl) (fun w hSw => ?_) (by assumption) ?_
  · (try dsimp only at hSw)
    go_split_ands
    go_simp
  (try simp only [Act.put, List.setIfInBounds_toArray, List.set_cons_zero, List.set_cons_succ])
  refine pa_21 rfl rfl (.int .i64 c) (by kernel_rfl) (by kernel_rfl) (by kernel_rfl) (by decide) (by kernel_rfl) (fun _ _ _ h => h) (by rfl) (fun w => ?_) (by first | (right; assumption) | (left; kernel_rfl)) ?_
  · go_simp
  (try simp only [Act.put, List.setIfInBounds_toArray, List.set_cons_zero, List.set_cons_succ])
  refine pt_22 rfl rfl 9 (.agg #[.int .i64 k, .int .u32 m, .int .u32 x]) (by kernel_rfl) (by kernel_rfl) (by kernel_rfl) (by kernel_rfl) (by kernel_rfl) (fun _ _ _ h => h) (by rfl) (fun w hSw => ?_) (by assumption) ?_
  · (try dsimp only at hSw)
    go_split_ands
    go_simp
  (try simp only [Act.put, List.setIfInBounds_toArray, List.set_cons_zero, List.set_cons_succ])
  refine pe_23_29_30 rfl rfl (by kernel_rfl) (by rfl) (fun K hK => ?_) (by rfl) (fun K hK => ?_) (by rfl) (fun K hK => ?_)
  · go_simp
    refine (rstep_any base A l cp r.xs r.n r.mode r.task r.s c k m x _ HP.out.own HP.out.len HWF.out).mono ?_
    rw [HST.out]
    intro e w3 hF
    obtain ⟨rfl, hO, hM⟩ := hF
    dsimp only at hM ⊢
    rw [HAC.out]
    dsimp only [Acc5.v]
    have HP2 := Lib.hid (HP.out.call hO hM HZL.out)
    have HO2 := Lib.hid (HO.out.trans hO.turned2)
    have HX2 := Lib.hid (HX.out.call HP.out.own hO (by simp))
    refine hK.out _ _ (.inl (by kernel_rfl)) ?_
    clear hK K hO hM HP HO HX
    have HP := HP2
    have HO := HO2
    have HX := HX2
    clear HP2 HO2 HX2
    (try simp only [Act.put, List.setIfInBounds_toArray, List.set_cons_zero, List.set_cons_succ])
    refine pa_24 rfl rfl (.tuple #[.agg #[.int .i64 nx], .agg #[.int .i64 a5.k, .int .i64 a5.c, .int .u32 a5.x, .int .u32 a5.y, .int .u32 a5.o], .bool sn, .bool dn]) (by kernel_rfl) (by kernel_rfl) (by kernel_rfl) (by decide) (by kernel_rfl) (fun _ _ _ h => h) (by rfl) (fun w => ?_) (by first | (right; assumption) | (left; kernel_rfl)) ?_
    · go_simp
    (try simp only [Act.put, List.setIfInBounds_toArray, List.set_cons_zero, List.set_cons_succ])
    refine pa_25 rfl rfl (.agg #[.int .i64 nx]) (by kernel_rfl) (by kernel_rfl) (by kernel_rfl) (by decide) (by kernel_rfl) (fun _ _ _ h => h) (by rfl) (fun w => ?_) (by first | (right; assumption) | (left; kernel_rfl)) ?_
    · go_simp
    (try simp only [Act.put, List.setIfInBounds_toArray, List.set_cons_zero, List.set_cons_succ])
    refine pa_26 rfl rfl (.agg #[.int .i64 a5.k, .int .i64 a5.c, .int .u32 a5.x, .int .u32 a5.y, .int .u32 a5.o]) (by kernel_rfl) (by kernel_rfl) (by kernel_rfl) (by decide) (by kernel_rfl) (fun _ _ _ h => h) (by rfl) (fun w => ?_) (by first | (right; assumption) | (left; kernel_rfl)) ?_
    · go_simp
    (try simp only [Act.put, List.setIfInBounds_toArray, List.set_cons_zero, List.set_cons_succ])
    refine pa_27 rfl rfl (.bool sn) (by kernel_rfl) (by kernel_rfl) (by kernel_rfl) (by decide) (by kernel_rfl) (fun _ _ _ h => h) (by rfl) (fun w => ?_) (by first | (right; assumption) | (left; kernel_rfl)) ?_
    · go_simp
    (try simp only [Act.put, List.setIfInBounds_toArray, List.set_cons_zero, List.set_cons_succ])
    refine pa_28 rfl rfl (.bool dn) (by kernel_rfl) (by kernel_rfl) (by kernel_rfl) (by decide) (by kernel_rfl) (fun _ _ _ h => h) (by rfl) (fun w => ?_) (by first | (right; assumption) | (left; kernel_rfl)) ?_
    · go_simp
    (try simp only [Act.put, List.setIfInBounds_toArray, List.set_cons_zero, List.set_cons_succ])
    refine pd_29_30 rfl rfl (by kernel_rfl) (by rfl) (fun K hK => ?_) (by rfl) (fun K hK => ?_)
    · go_simp
      have e1 := (Only.refl Nil w3).alloc (.cells #[.int .i64 0] 25)
      have HP2 := Lib.hid (HP.out.keep e1)
      have HO2 := Lib.hid (HO.out.alloc (.cells #[.int .i64 0] 25))
      have HX2 := Lib.hid ((HX.out.keep e1).cons (Row.new w3 25 #[.int .i64 0]))
      have HG8 := Lib.hid HO.out.size
      refine hK.out _ _ (.inl (by kernel_rfl)) ?_
      clear hK K e1 HP HO HX
      generalize w3.alloc (.cells #[.int .i64 0] 25) = w4 at *
      generalize w3.heap.size = g8 at *
      have HP := HP2
      have HO := HO2
      have HX := HX2
      clear HP2 HO2 HX2
      (try simp only [Act.put, List.setIfInBounds_toArray, List.set_cons_zero, List.set_cons_succ])
      refine pc_30 rfl rfl (by kernel_rfl) (by rfl) (fun K hK => ?_)
      go_simp
      have e1 := (Only.refl Nil w4).alloc (.cells #[.int .i64 0, .int .i64 0, .int .u32 0, .int .u32 0, .int .u32 0] 40)
      have HP2 := Lib.hid (HP.out.keep e1)
      have HO2 := Lib.hid (HO.out.alloc (.cells #[.int .i64 0, .int .i64 0, .int .u32 0, .int .u32 0, .int .u32 0] 40))
      have HX2 := Lib.hid ((HX.out.keep e1).cons (Row.new w4 40 #[.int .i64 0, .int .i64 0, .int .u32 0, .int .u32 0, .int .u32 0]))
      have HG9 := Lib.hid HO.out.size
      refine hK.out _ _ (.inl (by kernel_rfl)) ?_
      clear hK K e1 HP HO HX
      generalize w4.alloc (.cells #[.int .i64 0, .int .i64 0, .int .u32 0, .int .u32 0, .int .u32 0] 40) = w5 at *
      generalize w4.heap.size = g9 at *
      have HP := HP2
      have HO := HO2
      have HX := HX2
      clear HP2 HO2 HX2
      (try simp only [Act.put, List.setIfInBounds_toArray, List.set_cons_zero, List.set_cons_succ])
      have H8 : Hid (Row w5 g8 25 #[.int .i64 0]) := Lib.hid (HX.out (g8, 25, #[.int .i64 0]) (by simp))
      have H9 : Hid (Row w5 g9 40 #[.int .i64 0, .int .i64 0, .int .u32 0, .int .u32 0, .int .u32 0]) := Lib.hid (HX.out (g9, 40, #[.int .i64 0, .int .i64 0, .int .u32 0, .int .u32 0, .int .u32 0]) (by simp))
      have H89 := Lib.hid (row_ne H8.out H9.out (by decide))
      have hb8 := row_ne H8.out HP.out.row (by decide)
      have hb9 := row_ne H9.out HP.out.row (by decide)
      have HB8 := Lib.hid hb8
      have HB9 := Lib.hid hb9
      clear HX hb8 hb9
      have c0 : w5.cell? ⟨g8, 0, none⟩ = some (.int .i64 0) := H8.out.cell_ (i := 0) rfl
      have f0 : w5.frozen? ⟨g8, 0, none⟩ = false := H8.out.frozen 0
      refine pc_31 rfl rfl (by kernel_rfl) (by rfl) (fun K hK => ?_)
      go_simp
      have ho := (Only.refl (· = g8) w5).setCell (p := ⟨g8, 0, none⟩) (.inr rfl) (.int .i64 nx)
      have HP2 := Lib.hid (HP.out.farRow H8.out ho (by decide) (by decide) (by decide))
      have HO2 := Lib.hid (HO.out.setCell (p := ⟨g8, 0, none⟩) (.inl (HG8.out)) (.int .i64 nx))
      have H82 := Lib.hid (H8.out.set 0 (.int .i64 nx))
      have H92 := Lib.hid (H9.out.only ho (Ne.symm H89.out))
      refine hK.out _ _ (.inl (by kernel_rfl)) ?_
      clear hK K ho c0 f0 HP HO H8 H9
      generalize w5.setCell ⟨g8, 0, none⟩ (.int .i64 nx) = w6 at *
      (try simp only [Act.put, List.setIfInBounds_toArray, List.set_cons_zero, List.set_cons_succ])
      have a0 : w6.cell? ⟨g9, 0, none⟩ = some (.int .i64 0) := H92.out.cell_ (i := 0) rfl
      have a1 : w6.cell? ⟨g9, 1, none⟩ = some (.int .i64 0) := H92.out.cell_ (i := 1) rfl
      have a2 : w6.cell? ⟨g9, 2, none⟩ = some (.int .u32 0) := H92.out.cell_ (i := 2) rfl
      have a3 : w6.cell? ⟨g9, 3, none⟩ = some (.int .u32 0) := H92.out.cell_ (i := 3) rfl
      have a4 : w6.cell? ⟨g9, 4, none⟩ = some (.int .u32 0) := H92.out.cell_ (i := 4) rfl
      have f0 : w6.frozen? ⟨g9, 0, none⟩ = false := H92.out.frozen 0
      have f1 : w6.frozen? ⟨g9, 1, none⟩ = false := H92.out.frozen 1
      have f2 : w6.frozen? ⟨g9, 2, none⟩ = false := H92.out.frozen 2
      have f3 : w6.frozen? ⟨g9, 3, none⟩ = false := H92.out.frozen 3
      have f4 : w6.frozen? ⟨g9, 4, none⟩ = false := H92.out.frozen 4
      refine pc_32 rfl rfl (by kernel_rfl) (by rfl) (fun K hK => ?_)
      go_simp
      have ho := five_only (Only.refl (· = g9) w6) (g := g9) (.inr rfl) (.int .i64 a5.k) (.int .i64 a5.c) (.int .u32 a5.x) (.int .u32 a5.y) (.int .u32 a5.o)
      have HP3 := Lib.hid (HP2.out.farRow H92.out ho (by decide) (by decide) (by decide))
      have HO3 := Lib.hid (five_only HO2.out (g := g9) (.inl HG9.out) (.int .i64 a5.k) (.int .i64 a5.c) (.int .u32 a5.x) (.int .u32 a5.y) (.int .u32 a5.o))
      have H83 := Lib.hid (H82.out.only ho H89.out)
      have H93 := Lib.hid (five H92.out (.int .i64 a5.k) (.int .i64 a5.c) (.int .u32 a5.x) (.int .u32 a5.y) (.int .u32 a5.o))
      refine hK.out _ _ (.inl (by kernel_rfl)) ?_
      clear hK K ho a0 a1 a2 a3 a4 f0 f1 f2 f3 f4 HP2 HO2 H82 H92
      generalize (((((w6.setCell ⟨g9, 0, none⟩ (.int .i64 a5.k)).setCell ⟨g9, 1, none⟩ (.int .i64 a5.c)).setCell ⟨g9, 2, none⟩ (.int .u32 a5.x)).setCell ⟨g9, 3, none⟩ (.int .u32 a5.y)).setCell ⟨g9, 4, none⟩ (.int .u32 a5.o)) = w7 at *
      (try simp only [Act.put, List.setIfInBounds_toArray, List.set_cons_zero, List.set_cons_succ])
      refine pa_33 rfl rfl (.bool sn) (by kernel_rfl) (by kernel_rfl) (by kernel_rfl) (by decide) (by kernel_rfl) (fun _ _ _ h => h) (by rfl) (fun w => ?_) (by first | (right; assumption) | (left; kernel_rfl)) ?_
      · go_simp
      (try simp only [Act.put, List.setIfInBounds_toArray, List.set_cons_zero, List.set_cons_succ])
      refine pa_34 rfl rfl (.bool dn) (by kernel_rfl) (by kernel_rfl) (by kernel_rfl) (by decide) (by kernel_rfl) (fun _ _ _ h => h) (by rfl) (fun w => ?_) (by first | (right; assumption) | (left; kernel_rfl)) ?_
      · go_simp
      (try simp only [Act.put, List.setIfInBounds_toArray, List.set_cons_zero, List.set_cons_succ])
      refine wpAnyP_done (by kernel_rfl) ?_ _
      have c0 : w7.cell? ⟨g8, 0, none⟩ = some (.int .i64 nx) := H83.out.cell_ (i := 0) rfl
      have c8 : w7.cell? ⟨B, 8, none⟩ = some (.int .i64 r.s) := HP3.out.row.cell_ (i := 8) rfl
      have f8 : w7.frozen? ⟨B, 8, none⟩ = false := HP3.out.row.frozen 8
      go_upto_region 3 with (fail)
      clear c0 c8 f8
      have ho := (Only.refl (· = B) w7).setCell (p := ⟨B, 8, none⟩) (.inr rfl) (.int .i64 nx)
      have HP4 := Lib.hid (HP3.out.setS nx)
      have HO4 := Lib.hid (HO3.out.setCell (p := ⟨B, 8, none⟩) (.inr (.inl rfl)) (.int .i64 nx))
      have H94 := Lib.hid (H93.out.only ho HB9.out)
      clear ho HP3 HO3 H83 H93
      generalize w7.setCell ⟨B, 8, none⟩ (.int .i64 nx) = w8 at *
      have a0 : w8.cell? ⟨g9, 0, none⟩ = some (.int .i64 a5.k) := H94.out.cell_ (i := 0) rfl
      have a1 : w8.cell? ⟨g9, 1, none⟩ = some (.int .i64 a5.c) := H94.out.cell_ (i := 1) rfl
      have a2 : w8.cell? ⟨g9, 2, none⟩ = some (.int .u32 a5.x) := H94.out.cell_ (i := 2) rfl
      have a3 : w8.cell? ⟨g9, 3, none⟩ = some (.int .u32 a5.y) := H94.out.cell_ (i := 3) rfl
      have a4 : w8.cell? ⟨g9, 4, none⟩ = some (.int .u32 a5.o) := H94.out.cell_ (i := 4) rfl
      have b14 : w8.cell? ⟨B, 14, none⟩ = some (.int .i64 r.acc.k) := HP4.out.row.cell_ (i := 14) rfl
      have b15 : w8.cell? ⟨B, 15, none⟩ = some (.int .i64 r.acc.c) := HP4.out.row.cell_ (i := 15) rfl
      have b16 : w8.cell? ⟨B, 16, none⟩ = some (.int .u32 r.acc.x) := HP4.out.row.cell_ (i := 16) rfl
      have b17 : w8.cell? ⟨B, 17, none⟩ = some (.int .u32 r.acc.y) := HP4.out.row.cell_ (i := 17) rfl
      have b18 : w8.cell? ⟨B, 18, none⟩ = some (.int .u32 r.acc.o) := HP4.out.row.cell_ (i := 18) rfl
      have f14 : w8.frozen? ⟨B, 14, none⟩ = false := HP4.out.row.frozen 14
      have f15 : w8.frozen? ⟨B, 15, none⟩ = false := HP4.out.row.frozen 15
      have f16 : w8.frozen? ⟨B, 16, none⟩ = false := HP4.out.row.frozen 16
      have f17 : w8.frozen? ⟨B, 17, none⟩ = false := HP4.out.row.frozen 17
      have f18 : w8.frozen? ⟨B, 18, none⟩ = false := HP4.out.row.frozen 18
      go_wp2
      clear a0 a1 a2 a3 a4 b14 b15 b16 b17 b18 f14 f15 f16 f17 f18
      go_ret2
      exact ⟨rfl, set_acc_only HO4.out (B := B) (.inl rfl) _ _ _ _ _, nv, HP4.out.setAcc a5⟩
    · go_simp
      have e1 := (Only.refl Nil w3).alloc (.cells #[.int .i64 0, .int .i64 0, .int .u32 0, .int .u32 0, .int .u32 0] 40)
      have HP2 := Lib.hid (HP.out.keep e1)
      have HO2 := Lib.hid (HO.out.alloc (.cells #[.int .i64 0, .int .i64 0, .int .u32 0, .int .u32 0, .int .u32 0] 40))
      have HX2 := Lib.hid ((HX.out.keep e1).cons (Row.new w3 40 #[.int .i64 0, .int .i64 0, .int .u32 0, .int .u32 0, .int .u32 0]))
      have HG9 := Lib.hid HO.out.size
      refine hK.out _ _ (.inl (by kernel_rfl)) ?_
      clear hK K e1 HP HO HX
      generalize w3.alloc (.cells #[.int .i64 0, .int .i64 0, .int .u32 0, .int .u32 0, .int .u32 0] 40) = w4 at *
      generalize w3.heap.size = g9 at *
      have HP := HP2
      have HO := HO2
      have HX := HX2
      clear HP2 HO2 HX2
      (try simp only [Act.put, List.setIfInBounds_toArray, List.set_cons_zero, List.set_cons_succ])
      refine pc_29 rfl rfl (by kernel_rfl) (by rfl) (fun K hK => ?_)
      go_simp
      have e1 := (Only.refl Nil w4).alloc (.cells #[.int .i64 0] 25)
      have HP2 := Lib.hid (HP.out.keep e1)
      have HO2 := Lib.hid (HO.out.alloc (.cells #[.int .i64 0] 25))
      have HX2 := Lib.hid ((HX.out.keep e1).cons (Row.new w4 25 #[.int .i64 0]))
      have HG8 := Lib.hid HO.out.size
      refine hK.out _ _ (.inl (by kernel_rfl)) ?_
      clear hK K e1 HP HO HX
      generalize w4.alloc (.cells #[.int .i64 0] 25) = w5 at *
      generalize w4.heap.size = g8 at *
      have HP := HP2
      have HO := HO2
      have HX := HX2
      clear HP2 HO2 HX2
      (try simp only [Act.put, List.setIfInBounds_toArray, List.set_cons_zero, List.set_cons_succ])
      have H8 : Hid (Row w5 g8 25 #[.int .i64 0]) := Lib.hid (HX.out (g8, 25, #[.int .i64 0]) (by simp))
      have H9 : Hid (Row w5 g9 40 #[.int .i64 0, .int .i64 0, .int .u32 0, .int .u32 0, .int .u32 0]) := Lib.hid (HX.out (g9, 40, #[.int .i64 0, .int .i64 0, .int .u32 0, .int .u32 0, .int .u32 0]) (by simp))
      have H89 := Lib.hid (row_ne H8.out H9.out (by decide))
      have hb8 := row_ne H8.out HP.out.row (by decide)
      have hb9 := row_ne H9.out HP.out.row (by decide)
      have HB8 := Lib.hid hb8
      have HB9 := Lib.hid hb9
      clear HX hb8 hb9
      have c0 : w5.cell? ⟨g8, 0, none⟩ = some (.int .i64 0) := H8.out.cell_ (i := 0) rfl
      have f0 : w5.frozen? ⟨g8, 0, none⟩ = false := H8.out.frozen 0
      refine pc_31 rfl rfl (by kernel_rfl) (by rfl) (fun K hK => ?_)
      go_simp
      have ho := (Only.refl (· = g8) w5).setCell (p := ⟨g8, 0, none⟩) (.inr rfl) (.int .i64 nx)
      have HP2 := Lib.hid (HP.out.farRow H8.out ho (by decide) (by decide) (by decide))
      have HO2 := Lib.hid (HO.out.setCell (p := ⟨g8, 0, none⟩) (.inl (HG8.out)) (.int .i64 nx))
      have H82 := Lib.hid (H8.out.set 0 (.int .i64 nx))
      have H92 := Lib.hid (H9.out.only ho (Ne.symm H89.out))
      refine hK.out _ _ (.inl (by kernel_rfl)) ?_
      clear hK K ho c0 f0 HP HO H8 H9
      generalize w5.setCell ⟨g8, 0, none⟩ (.int .i64 nx) = w6 at *
      (try simp only [Act.put, List.setIfInBounds_toArray, List.set_cons_zero, List.set_cons_succ])
      have a0 : w6.cell? ⟨g9, 0, none⟩ = some (.int .i64 0) := H92.out.cell_ (i := 0) rfl
      have a1 : w6.cell? ⟨g9, 1, none⟩ = some (.int .i64 0) := H92.out.cell_ (i := 1) rfl
      have a2 : w6.cell? ⟨g9, 2, none⟩ = some (.int .u32 0) := H92.out.cell_ (i := 2) rfl
      have a3 : w6.cell? ⟨g9, 3, none⟩ = some (.int .u32 0) := H92.out.cell_ (i := 3) rfl
      have a4 : w6.cell? ⟨g9, 4, none⟩ = some (.int .u32 0) := H92.out.cell_ (i := 4) rfl
      have f0 : w6.frozen? ⟨g9, 0, none⟩ = false := H92.out.frozen 0
      have f1 : w6.frozen? ⟨g9, 1, none⟩ = false := H92.out.frozen 1
      have f2 : w6.frozen? ⟨g9, 2, none⟩ = false := H92.out.frozen 2
      have f3 : w6.frozen? ⟨g9, 3, none⟩ = false := H92.out.frozen 3
      have f4 : w6.frozen? ⟨g9, 4, none⟩ = false := H92.out.frozen 4
      refine pc_32 rfl rfl (by kernel_rfl) (by rfl) (fun K hK => ?_)
      go_simp
      have ho := five_only (Only.refl (· = g9) w6) (g := g9) (.inr rfl) (.int .i64 a5.k) (.int .i64 a5.c) (.int .u32 a5.x) (.int .u32 a5.y) (.int .u32 a5.o)
      have HP3 := Lib.hid (HP2.out.farRow H92.out ho (by decide) (by decide) (by decide))
      have HO3 := Lib.hid (five_only HO2.out (g := g9) (.inl HG9.out) (.int .i64 a5.k) (.int .i64 a5.c) (.int .u32 a5.x) (.int .u32 a5.y) (.int .u32 a5.o))
      have H83 := Lib.hid (H82.out.only ho H89.out)
      have H93 := Lib.hid (five H92.out (.int .i64 a5.k) (.int .i64 a5.c) (.int .u32 a5.x) (.int .u32 a5.y) (.int .u32 a5.o))
      refine hK.out _ _ (.inl (by kernel_rfl)) ?_
      clear hK K ho a0 a1 a2 a3 a4 f0 f1 f2 f3 f4 HP2 HO2 H82 H92
      generalize (((((w6.setCell ⟨g9, 0, none⟩ (.int .i64 a5.k)).setCell ⟨g9, 1, none⟩ (.int .i64 a5.c)).setCell ⟨g9, 2, none⟩ (.int .u32 a5.x)).setCell ⟨g9, 3, none⟩ (.int .u32 a5.y)).setCell ⟨g9, 4, none⟩ (.int .u32 a5.o)) = w7 at *
      (try simp only [Act.put, List.setIfInBounds_toArray, List.set_cons_zero, List.set_cons_succ])
      refine pa_33 rfl rfl (.bool sn) (by kernel_rfl) (by kernel_rfl) (by kernel_rfl) (by decide) (by kernel_rfl) (fun _ _ _ h => h) (by rfl) (fun w => ?_) (by first | (right; assumption) | (left; kernel_rfl)) ?_
      · go_simp
      (try simp only [Act.put, List.setIfInBounds_toArray, List.set_cons_zero, List.set_cons_succ])
      refine pa_34 rfl rfl (.bool dn) (by kernel_rfl) (by kernel_rfl) (by kernel_rfl) (by decide) (by kernel_rfl) (fun _ _ _ h => h) (by rfl) (fun w => ?_) (by first | (right; assumption) | (left; kernel_rfl)) ?_
      · go_simp
      (try simp only [Act.put, List.setIfInBounds_toArray, List.set_cons_zero, List.set_cons_succ])
      refine wpAnyP_done (by kernel_rfl) ?_ _
      have c0 : w7.cell? ⟨g8, 0, none⟩ = some (.int .i64 nx) := H83.out.cell_ (i := 0) rfl
      have c8 : w7.cell? ⟨B, 8, none⟩ = some (.int .i64 r.s) := HP3.out.row.cell_ (i := 8) rfl
      have f8 : w7.frozen? ⟨B, 8, none⟩ = false := HP3.out.row.frozen 8
      go_upto_region 3 with (fail)
      clear c0 c8 f8
      have ho := (Only.refl (· = B) w7).setCell (p := ⟨B, 8, none⟩) (.inr rfl) (.int .i64 nx)
      have HP4 := Lib.hid (HP3.out.setS nx)
      have HO4 := Lib.hid (HO3.out.setCell (p := ⟨B, 8, none⟩) (.inr (.inl rfl)) (.int .i64 nx))
      have H94 := Lib.hid (H93.out.only ho HB9.out)
      clear ho HP3 HO3 H83 H93
      generalize w7.setCell ⟨B, 8, none⟩ (.int .i64 nx) = w8 at *
      have a0 : w8.cell? ⟨g9, 0, none⟩ = some (.int .i64 a5.k) := H94.out.cell_ (i := 0) rfl
      have a1 : w8.cell? ⟨g9, 1, none⟩ = some (.int .i64 a5.c) := H94.out.cell_ (i := 1) rfl
      have a2 : w8.cell? ⟨g9, 2, none⟩ = some (.int .u32 a5.x) := H94.out.cell_ (i := 2) rfl
      have a3 : w8.cell? ⟨g9, 3, none⟩ = some (.int .u32 a5.y) := H94.out.cell_ (i := 3) rfl
      have a4 : w8.cell? ⟨g9, 4, none⟩ = some (.int .u32 a5.o) := H94.out.cell_ (i := 4) rfl
      have b14 : w8.cell? ⟨B, 14, none⟩ = some (.int .i64 r.acc.k) := HP4.out.row.cell_ (i := 14) rfl
      have b15 : w8.cell? ⟨B, 15, none⟩ = some (.int .i64 r.acc.c) := HP4.out.row.cell_ (i := 15) rfl
      have b16 : w8.cell? ⟨B, 16, none⟩ = some (.int .u32 r.acc.x) := HP4.out.row.cell_ (i := 16) rfl
      have b17 : w8.cell? ⟨B, 17, none⟩ = some (.int .u32 r.acc.y) := HP4.out.row.cell_ (i := 17) rfl
      have b18 : w8.cell? ⟨B, 18, none⟩ = some (.int .u32 r.acc.o) := HP4.out.row.cell_ (i := 18) rfl
      have f14 : w8.frozen? ⟨B, 14, none⟩ = false := HP4.out.row.frozen 14
      have f15 : w8.frozen? ⟨B, 15, none⟩ = false := HP4.out.row.frozen 15
      have f16 : w8.frozen? ⟨B, 16, none⟩ = false := HP4.out.row.frozen 16
      have f17 : w8.frozen? ⟨B, 17, none⟩ = false := HP4.out.row.frozen 17
      have f18 : w8.frozen? ⟨B, 18, none⟩ = false := HP4.out.row.frozen 18
      go_wp2
      clear a0 a1 a2 a3 a4 b14 b15 b16 b17 b18 f14 f15 f16 f17 f18
      go_ret2
      exact ⟨rfl, set_acc_only HO4.out (B := B) (.inl rfl) _ _ _ _ _, nv, HP4.out.setAcc a5⟩
  · go_simp
    clear hHeld
    have e1 := (Only.refl Nil w2).alloc (.cells #[.int .i64 0] 25)
    have HP2 := Lib.hid (HP.out.keep e1)
    have HO2 := Lib.hid (HO.out.alloc (.cells #[.int .i64 0] 25))
    have HX2 := Lib.hid ((HX.out.keep e1).cons (Row.new w2 25 #[.int .i64 0]))
    have HG8 := Lib.hid HO.out.size
    refine hK.out _ _ (.inr (HP2.out.held HX2.out (by simp))) ?_
    clear hK K e1 HP HO HX
    generalize w2.alloc (.cells #[.int .i64 0] 25) = w3 at *
    generalize w2.heap.size = g8 at *
    have HP := HP2
    have HO := HO2
    have HX := HX2
    clear HP2 HO2 HX2
    (try simp only [Act.put, List.setIfInBounds_toArray, List.set_cons_zero, List.set_cons_succ])
    have hHeld := HP.out.held HX.out (gu := gu) (k := k) (m := m) (x := x) (by simp)
    refine pd_23_30 rfl rfl (by kernel_rfl) (by rfl) (fun K hK => ?_) (by rfl) (fun K hK => ?_)
    · go_simp
      refine (rstep_any base A l cp r.xs r.n r.mode r.task r.s c k m x _ HP.out.own HP.out.len HWF.out).mono ?_
      rw [HST.out]
      intro e w4 hF
      obtain ⟨rfl, hO, hM⟩ := hF
      dsimp only at hM ⊢
      rw [HAC.out]
      dsimp only [Acc5.v]
      have HP2 := Lib.hid (HP.out.call hO hM HZL.out)
      have HO2 := Lib.hid (HO.out.trans hO.turned2)
      have HX2 := Lib.hid (HX.out.call HP.out.own hO (by simp))
      refine hK.out _ _ (.inl (by kernel_rfl)) ?_
      clear hK K hO hM HP HO HX
      have HP := HP2
      have HO := HO2
      have HX := HX2
      clear HP2 HO2 HX2
      (try simp only [Act.put, List.setIfInBounds_toArray, List.set_cons_zero, List.set_cons_succ])
      refine pa_24 rfl rfl (.tuple #[.agg #[.int .i64 nx], .agg #[.int .i64 a5.k, .int .i64 a5.c, .int .u32 a5.x, .int .u32 a5.y, .int .u32 a5.o], .bool sn, .bool dn]) (by kernel_rfl) (by kernel_rfl) (by kernel_rfl) (by decide) (by kernel_rfl) (fun _ _ _ h => h) (by rfl) (fun w => ?_) (by first | (right; assumption) | (left; kernel_rfl)) ?_
      · go_simp
      (try simp only [Act.put, List.setIfInBounds_toArray, List.set_cons_zero, List.set_cons_succ])
      refine pa_25 rfl rfl (.agg #[.int .i64 nx]) (by kernel_rfl) (by kernel_rfl) (by kernel_rfl) (by decide) (by kernel_rfl) (fun _ _ _ h => h) (by rfl) (fun w => ?_) (by first | (right; assumption) | (left; kernel_rfl)) ?_
      · go_simp
      (try simp only [Act.put, List.setIfInBounds_toArray, List.set_cons_zero, List.set_cons_succ])
      refine pa_26 rfl rfl (.agg #[.int .i64 a5.k, .int .i64 a5.c, .int .u32 a5.x, .int .u32 a5.y, .int .u32 a5.o]) (by kernel_rfl) (by kernel_rfl) (by kernel_rfl) (by decide) (by kernel_rfl) (fun _ _ _ h => h) (by rfl) (fun w => ?_) (by first | (right; assumption) | (left; kernel_rfl)) ?_
      · go_simp
      (try simp only [Act.put, List.setIfInBounds_toArray, List.set_cons_zero, List.set_cons_succ])
      refine pa_27 rfl rfl (.bool sn) (by kernel_rfl) (by kernel_rfl) (by kernel_rfl) (by decide) (by kernel_rfl) (fun _ _ _ h => h) (by rfl) (fun w => ?_) (by first | (right; assumption) | (left; kernel_rfl)) ?_
      · go_simp
      (try simp only [Act.put, List.setIfInBounds_toArray, List.set_cons_zero, List.set_cons_succ])
      refine pa_28 rfl rfl (.bool dn) (by kernel_rfl) (by kernel_rfl) (by kernel_rfl) (by decide) (by kernel_rfl) (fun _ _ _ h => h) (by rfl) (fun w => ?_) (by first | (right; assumption) | (left; kernel_rfl)) ?_
      · go_simp
      (try simp only [Act.put, List.setIfInBounds_toArray, List.set_cons_zero, List.set_cons_succ])
      refine pc_30 rfl rfl (by kernel_rfl) (by rfl) (fun K hK => ?_)
      go_simp
      have e1 := (Only.refl Nil w4).alloc (.cells #[.int .i64 0, .int .i64 0, .int .u32 0, .int .u32 0, .int .u32 0] 40)
      have HP2 := Lib.hid (HP.out.keep e1)
      have HO2 := Lib.hid (HO.out.alloc (.cells #[.int .i64 0, .int .i64 0, .int .u32 0, .int .u32 0, .int .u32 0] 40))
      have HX2 := Lib.hid ((HX.out.keep e1).cons (Row.new w4 40 #[.int .i64 0, .int .i64 0, .int .u32 0, .int .u32 0, .int .u32 0]))
      have HG9 := Lib.hid HO.out.size
      refine hK.out _ _ (.inl (by kernel_rfl)) ?_
      clear hK K e1 HP HO HX
      generalize w4.alloc (.cells #[.int .i64 0, .int .i64 0, .int .u32 0, .int .u32 0, .int .u32 0] 40) = w5 at *
      generalize w4.heap.size = g9 at *
      have HP := HP2
      have HO := HO2
      have HX := HX2
      clear HP2 HO2 HX2
      (try simp only [Act.put, List.setIfInBounds_toArray, List.set_cons_zero, List.set_cons_succ])
      have H8 : Hid (Row w5 g8 25 #[.int .i64 0]) := Lib.hid (HX.out (g8, 25, #[.int .i64 0]) (by simp))
      have H9 : Hid (Row w5 g9 40 #[.int .i64 0, .int .i64 0, .int .u32 0, .int .u32 0, .int .u32 0]) := Lib.hid (HX.out (g9, 40, #[.int .i64 0, .int .i64 0, .int .u32 0, .int .u32 0, .int .u32 0]) (by simp))
      have H89 := Lib.hid (row_ne H8.out H9.out (by decide))
      have hb8 := row_ne H8.out HP.out.row (by decide)
      have hb9 := row_ne H9.out HP.out.row (by decide)
      have HB8 := Lib.hid hb8
      have HB9 := Lib.hid hb9
      clear HX hb8 hb9
      have c0 : w5.cell? ⟨g8, 0, none⟩ = some (.int .i64 0) := H8.out.cell_ (i := 0) rfl
      have f0 : w5.frozen? ⟨g8, 0, none⟩ = false := H8.out.frozen 0
      refine pc_31 rfl rfl (by kernel_rfl) (by rfl) (fun K hK => ?_)
      go_simp
      have ho := (Only.refl (· = g8) w5).setCell (p := ⟨g8, 0, none⟩) (.inr rfl) (.int .i64 nx)
      have HP2 := Lib.hid (HP.out.farRow H8.out ho (by decide) (by decide) (by decide))
      have HO2 := Lib.hid (HO.out.setCell (p := ⟨g8, 0, none⟩) (.inl (HG8.out)) (.int .i64 nx))
      have H82 := Lib.hid (H8.out.set 0 (.int .i64 nx))
      have H92 := Lib.hid (H9.out.only ho (Ne.symm H89.out))
      refine hK.out _ _ (.inl (by kernel_rfl)) ?_
      clear hK K ho c0 f0 HP HO H8 H9
      generalize w5.setCell ⟨g8, 0, none⟩ (.int .i64 nx) = w6 at *
      (try simp only [Act.put, List.setIfInBounds_toArray, List.set_cons_zero, List.set_cons_succ])
      have a0 : w6.cell? ⟨g9, 0, none⟩ = some (.int .i64 0) := H92.out.cell_ (i := 0) rfl
      have a1 : w6.cell? ⟨g9, 1, none⟩ = some (.int .i64 0) := H92.out.cell_ (i := 1) rfl
      have a2 : w6.cell? ⟨g9, 2, none⟩ = some (.int .u32 0) := H92.out.cell_ (i := 2) rfl
      have a3 : w6.cell? ⟨g9, 3, none⟩ = some (.int .u32 0) := H92.out.cell_ (i := 3) rfl
      have a4 : w6.cell? ⟨g9, 4, none⟩ = some (.int .u32 0) := H92.out.cell_ (i := 4) rfl
      have f0 : w6.frozen? ⟨g9, 0, none⟩ = false := H92.out.frozen 0
      have f1 : w6.frozen? ⟨g9, 1, none⟩ = false := H92.out.frozen 1
      have f2 : w6.frozen? ⟨g9, 2, none⟩ = false := H92.out.frozen 2
      have f3 : w6.frozen? ⟨g9, 3, none⟩ = false := H92.out.frozen 3
      have f4 : w6.frozen? ⟨g9, 4, none⟩ = false := H92.out.frozen 4
      refine pc_32 rfl rfl (by kernel_rfl) (by rfl) (fun K hK => ?_)
      go_simp
      have ho := five_only (Only.refl (· = g9) w6) (g := g9) (.inr rfl) (.int .i64 a5.k) (.int .i64 a5.c) (.int .u32 a5.x) (.int .u32 a5.y) (.int .u32 a5.o)
      have HP3 := Lib.hid (HP2.out.farRow H92.out ho (by decide) (by decide) (by decide))
      have HO3 := Lib.hid (five_only HO2.out (g := g9) (.inl HG9.out) (.int .i64 a5.k) (.int .i64 a5.c) (.int .u32 a5.x) (.int .u32 a5.y) (.int .u32 a5.o))
      have H83 := Lib.hid (H82.out.only ho H89.out)
      have H93 := Lib.hid (five H92.out (.int .i64 a5.k) (.int .i64 a5.c) (.int .u32 a5.x) (.int .u32 a5.y) (.int .u32 a5.o))
      refine hK.out _ _ (.inl (by kernel_rfl)) ?_
      clear hK K ho a0 a1 a2 a3 a4 f0 f1 f2 f3 f4 HP2 HO2 H82 H92
      generalize (((((w6.setCell ⟨g9, 0, none⟩ (.int .i64 a5.k)).setCell ⟨g9, 1, none⟩ (.int .i64 a5.c)).setCell ⟨g9, 2, none⟩ (.int .u32 a5.x)).setCell ⟨g9, 3, none⟩ (.int .u32 a5.y)).setCell ⟨g9, 4, none⟩ (.int .u32 a5.o)) = w7 at *
      (try simp only [Act.put, List.setIfInBounds_toArray, List.set_cons_zero, List.set_cons_succ])
      refine pa_33 rfl rfl (.bool sn) (by kernel_rfl) (by kernel_rfl) (by kernel_rfl) (by decide) (by kernel_rfl) (fun _ _ _ h => h) (by rfl) (fun w => ?_) (by first | (right; assumption) | (left; kernel_rfl)) ?_
      · go_simp
      (try simp only [Act.put, List.setIfInBounds_toArray, List.set_cons_zero, List.set_cons_succ])
      refine pa_34 rfl rfl (.bool dn) (by kernel_rfl) (by kernel_rfl) (by kernel_rfl) (by decide) (by kernel_rfl) (fun _ _ _ h => h) (by rfl) (fun w => ?_) (by first | (right; assumption) | (left; kernel_rfl)) ?_
      · go_simp
      (try simp only [Act.put, List.setIfInBounds_toArray, List.set_cons_zero, List.set_cons_succ])
      refine wpAnyP_done (by kernel_rfl) ?_ _
      have c0 : w7.cell? ⟨g8, 0, none⟩ = some (.int .i64 nx) := H83.out.cell_ (i := 0) rfl
      have c8 : w7.cell? ⟨B, 8, none⟩ = some (.int .i64 r.s) := HP3.out.row.cell_ (i := 8) rfl
      have f8 : w7.frozen? ⟨B, 8, none⟩ = false := HP3.out.row.frozen 8
      go_upto_region 3 with (fail)
      clear c0 c8 f8
      have ho := (Only.refl (· = B) w7).setCell (p := ⟨B, 8, none⟩) (.inr rfl) (.int .i64 nx)
      have HP4 := Lib.hid (HP3.out.setS nx)
      have HO4 := Lib.hid (HO3.out.setCell (p := ⟨B, 8, none⟩) (.inr (.inl rfl)) (.int .i64 nx))
      have H94 := Lib.hid (H93.out.only ho HB9.out)
      clear ho HP3 HO3 H83 H93
      generalize w7.setCell ⟨B, 8, none⟩ (.int .i64 nx) = w8 at *
      have a0 : w8.cell? ⟨g9, 0, none⟩ = some (.int .i64 a5.k) := H94.out.cell_ (i := 0) rfl
      have a1 : w8.cell? ⟨g9, 1, none⟩ = some (.int .i64 a5.c) := H94.out.cell_ (i := 1) rfl
      have a2 : w8.cell? ⟨g9, 2, none⟩ = some (.int .u32 a5.x) := H94.out.cell_ (i := 2) rfl
      have a3 : w8.cell? ⟨g9, 3, none⟩ = some (.int .u32 a5.y) := H94.out.cell_ (i := 3) rfl
      have a4 : w8.cell? ⟨g9, 4, none⟩ = some (.int .u32 a5.o) := H94.out.cell_ (i := 4) rfl
      have b14 : w8.cell? ⟨B, 14, none⟩ = some (.int .i64 r.acc.k) := HP4.out.row.cell_ (i := 14) rfl
      have b15 : w8.cell? ⟨B, 15, none⟩ = some (.int .i64 r.acc.c) := HP4.out.row.cell_ (i := 15) rfl
      have b16 : w8.cell? ⟨B, 16, none⟩ = some (.int .u32 r.acc.x) := HP4.out.row.cell_ (i := 16) rfl
      have b17 : w8.cell? ⟨B, 17, none⟩ = some (.int .u32 r.acc.y) := HP4.out.row.cell_ (i := 17) rfl
      have b18 : w8.cell? ⟨B, 18, none⟩ = some (.int .u32 r.acc.o) := HP4.out.row.cell_ (i := 18) rfl
      have f14 : w8.frozen? ⟨B, 14, none⟩ = false := HP4.out.row.frozen 14
      have f15 : w8.frozen? ⟨B, 15, none⟩ = false := HP4.out.row.frozen 15
      have f16 : w8.frozen? ⟨B, 16, none⟩ = false := HP4.out.row.frozen 16
      have f17 : w8.frozen? ⟨B, 17, none⟩ = false := HP4.out.row.frozen 17
      have f18 : w8.frozen? ⟨B, 18, none⟩ = false := HP4.out.row.frozen 18
      go_wp2
      clear a0 a1 a2 a3 a4 b14 b15 b16 b17 b18 f14 f15 f16 f17 f18
      go_ret2
      exact ⟨rfl, set_acc_only HO4.out (B := B) (.inl rfl) _ _ _ _ _, nv, HP4.out.setAcc a5⟩
    · go_simp
      clear hHeld
      have e1 := (Only.refl Nil w3).alloc (.cells #[.int .i64 0, .int .i64 0, .int .u32 0, .int .u32 0, .int .u32 0] 40)
      have HP2 := Lib.hid (HP.out.keep e1)
      have HO2 := Lib.hid (HO.out.alloc (.cells #[.int .i64 0, .int .i64 0, .int .u32 0, .int .u32 0, .int .u32 0] 40))
      have HX2 := Lib.hid ((HX.out.keep e1).cons (Row.new w3 40 #[.int .i64 0, .int .i64 0, .int .u32 0, .int .u32 0, .int .u32 0]))
      have HG9 := Lib.hid HO.out.size
      refine hK.out _ _ (.inr (HP2.out.held HX2.out (by simp))) ?_
      clear hK K e1 HP HO HX
      generalize w3.alloc (.cells #[.int .i64 0, .int .i64 0, .int .u32 0, .int .u32 0, .int .u32 0] 40) = w4 at *
      generalize w3.heap.size = g9 at *
      have HP := HP2
      have HO := HO2
      have HX := HX2
      clear HP2 HO2 HX2
      (try simp only [Act.put, List.setIfInBounds_toArray, List.set_cons_zero, List.set_cons_succ])
      have hHeld := HP.out.held HX.out (gu := gu) (k := k) (m := m) (x := x) (by simp)
      refine pc_23 rfl rfl (by kernel_rfl) (by rfl) (fun K hK => ?_)
      go_simp
      refine (rstep_any base A l cp r.xs r.n r.mode r.task r.s c k m x _ HP.out.own HP.out.len HWF.out).mono ?_
      rw [HST.out]
      intro e w5 hF
      obtain ⟨rfl, hO, hM⟩ := hF
      dsimp only at hM ⊢
      rw [HAC.out]
      dsimp only [Acc5.v]
      have HP2 := Lib.hid (HP.out.call hO hM HZL.out)
      have HO2 := Lib.hid (HO.out.trans hO.turned2)
      have HX2 := Lib.hid (HX.out.call HP.out.own hO (by simp))
      refine hK.out _ _ (.inl (by kernel_rfl)) ?_
      clear hK K hO hM HP HO HX
      have HP := HP2
      have HO := HO2
      have HX := HX2
      clear HP2 HO2 HX2
      (try simp only [Act.put, List.setIfInBounds_toArray, List.set_cons_zero, List.set_cons_succ])
      refine pa_24 rfl rfl (.tuple #[.agg #[.int .i64 nx], .agg #[.int .i64 a5.k, .int .i64 a5.c, .int .u32 a5.x, .int .u32 a5.y, .int .u32 a5.o], .bool sn, .bool dn]) (by kernel_rfl) (by kernel_rfl) (by kernel_rfl) (by decide) (by kernel_rfl) (fun _ _ _ h => h) (by rfl) (fun w => ?_) (by first | (right; assumption) | (left; kernel_rfl)) ?_
      · go_simp
      (try simp only [Act.put, List.setIfInBounds_toArray, List.set_cons_zero, List.set_cons_succ])
      refine pa_25 rfl rfl (.agg #[.int .i64 nx]) (by kernel_rfl) (by kernel_rfl) (by kernel_rfl) (by decide) (by kernel_rfl) (fun _ _ _ h => h) (by rfl) (fun w => ?_) (by first | (right; assumption) | (left; kernel_rfl)) ?_
      · go_simp
      (try simp only [Act.put, List.setIfInBounds_toArray, List.set_cons_zero, List.set_cons_succ])
      refine pa_26 rfl rfl (.agg #[.int .i64 a5.k, .int .i64 a5.c, .int .u32 a5.x, .int .u32 a5.y, .int .u32 a5.o]) (by kernel_rfl) (by kernel_rfl) (by kernel_rfl) (by decide) (by kernel_rfl) (fun _ _ _ h => h) (by rfl) (fun w => ?_) (by first | (right; assumption) | (left; kernel_rfl)) ?_
      · go_simp
      (try simp only [Act.put, List.setIfInBounds_toArray, List.set_cons_zero, List.set_cons_succ])
      refine pa_27 rfl rfl (.bool sn) (by kernel_rfl) (by kernel_rfl) (by kernel_rfl) (by decide) (by kernel_rfl) (fun _ _ _ h => h) (by rfl) (fun w => ?_) (by first | (right; assumption) | (left; kernel_rfl)) ?_
      · go_simp
      (try simp only [Act.put, List.setIfInBounds_toArray, List.set_cons_zero, List.set_cons_succ])
      refine pa_28 rfl rfl (.bool dn) (by kernel_rfl) (by kernel_rfl) (by kernel_rfl) (by decide) (by kernel_rfl) (fun _ _ _ h => h) (by rfl) (fun w => ?_) (by first | (right; assumption) | (left; kernel_rfl)) ?_
      · go_simp
      (try simp only [Act.put, List.setIfInBounds_toArray, List.set_cons_zero, List.set_cons_succ])
      have H8 : Hid (Row w5 g8 25 #[.int .i64 0]) := Lib.hid (HX.out (g8, 25, #[.int .i64 0]) (by simp))
      have H9 : Hid (Row w5 g9 40 #[.int .i64 0, .int .i64 0, .int .u32 0, .int .u32 0, .int .u32 0]) := Lib.hid (HX.out (g9, 40, #[.int .i64 0, .int .i64 0, .int .u32 0, .int .u32 0, .int .u32 0]) (by simp))
      have H89 := Lib.hid (row_ne H8.out H9.out (by decide))
      have hb8 := row_ne H8.out HP.out.row (by decide)
      have hb9 := row_ne H9.out HP.out.row (by decide)
      have HB8 := Lib.hid hb8
      have HB9 := Lib.hid hb9
      clear HX hb8 hb9
      have c0 : w5.cell? ⟨g8, 0, none⟩ = some (.int .i64 0) := H8.out.cell_ (i := 0) rfl
      have f0 : w5.frozen? ⟨g8, 0, none⟩ = false := H8.out.frozen 0
      refine pc_31 rfl rfl (by kernel_rfl) (by rfl) (fun K hK => ?_)
      go_simp
      have ho := (Only.refl (· = g8) w5).setCell (p := ⟨g8, 0, none⟩) (.inr rfl) (.int .i64 nx)
      have HP2 := Lib.hid (HP.out.farRow H8.out ho (by decide) (by decide) (by decide))
      have HO2 := Lib.hid (HO.out.setCell (p := ⟨g8, 0, none⟩) (.inl (HG8.out)) (.int .i64 nx))
      have H82 := Lib.hid (H8.out.set 0 (.int .i64 nx))
      have H92 := Lib.hid (H9.out.only ho (Ne.symm H89.out))
      refine hK.out _ _ (.inl (by kernel_rfl)) ?_
      clear hK K ho c0 f0 HP HO H8 H9
      generalize w5.setCell ⟨g8, 0, none⟩ (.int .i64 nx) = w6 at *
      (try simp only [Act.put, List.setIfInBounds_toArray, List.set_cons_zero, List.set_cons_succ])
      have a0 : w6.cell? ⟨g9, 0, none⟩ = some (.int .i64 0) := H92.out.cell_ (i := 0) rfl
      have a1 : w6.cell? ⟨g9, 1, none⟩ = some (.int .i64 0) := H92.out.cell_ (i := 1) rfl
      have a2 : w6.cell? ⟨g9, 2, none⟩ = some (.int .u32 0) := H92.out.cell_ (i := 2) rfl
      have a3 : w6.cell? ⟨g9, 3, none⟩ = some (.int .u32 0) := H92.out.cell_ (i := 3) rfl
      have a4 : w6.cell? ⟨g9, 4, none⟩ = some (.int .u32 0) := H92.out.cell_ (i := 4) rfl
      have f0 : w6.frozen? ⟨g9, 0, none⟩ = false := H92.out.frozen 0
      have f1 : w6.frozen? ⟨g9, 1, none⟩ = false := H92.out.frozen 1
      have f2 : w6.frozen? ⟨g9, 2, none⟩ = false := H92.out.frozen 2
      have f3 : w6.frozen? ⟨g9, 3, none⟩ = false := H92.out.frozen 3
      have f4 : w6.frozen? ⟨g9, 4, none⟩ = false := H92.out.frozen 4
      refine pc_32 rfl rfl (by kernel_rfl) (by rfl) (fun K hK => ?_)
      go_simp
      have ho := five_only (Only.refl (· = g9) w6) (g := g9) (.inr rfl) (.int .i64 a5.k) (.int .i64 a5.c) (.int .u32 a5.x) (.int .u32 a5.y) (.int .u32 a5.o)
      have HP3 := Lib.hid (HP2.out.farRow H92.out ho (by decide) (by decide) (by decide))
      have HO3 := Lib.hid (five_only HO2.out (g := g9) (.inl HG9.out) (.int .i64 a5.k) (.int .i64 a5.c) (.int .u32 a5.x) (.int .u32 a5.y) (.int .u32 a5.o))
      have H83 := Lib.hid (H82.out.only ho H89.out)
      have H93 := Lib.hid (five H92.out (.int .i64 a5.k) (.int .i64 a5.c) (.int .u32 a5.x) (.int .u32 a5.y) (.int .u32 a5.o))
      refine hK.out _ _ (.inl (by kernel_rfl)) ?_
      clear hK K ho a0 a1 a2 a3 a4 f0 f1 f2 f3 f4 HP2 HO2 H82 H92
      generalize (((((w6.setCell ⟨g9, 0, none⟩ (.int .i64 a5.k)).setCell ⟨g9, 1, none⟩ (.int .i64 a5.c)).setCell ⟨g9, 2, none⟩ (.int .u32 a5.x)).setCell ⟨g9, 3, none⟩ (.int .u32 a5.y)).setCell ⟨g9, 4, none⟩ (.int .u32 a5.o)) = w7 at *
      (try simp only [Act.put, List.setIfInBounds_toArray, List.set_cons_zero, List.set_cons_succ])
      refine pa_33 rfl rfl (.bool sn) (by kernel_rfl) (by kernel_rfl) (by kernel_rfl) (by decide) (by kernel_rfl) (fun _ _ _ h => h) (by rfl) (fun w => ?_) (by first | (right; assumption) | (left; kernel_rfl)) ?_
      · go_simp
      (try simp only [Act.put, List.setIfInBounds_toArray, List.set_cons_zero, List.set_cons_succ])
      refine pa_34 rfl rfl (.bool dn) (by kernel_rfl) (by kernel_rfl) (by kernel_rfl) (by decide) (by kernel_rfl) (fun _ _ _ h => h) (by rfl) (fun w => ?_) (by first | (right; assumption) | (left; kernel_rfl)) ?_
      · go_simp
      (try simp only [Act.put, List.setIfInBounds_toArray, List.set_cons_zero, List.set_cons_succ])
      refine wpAnyP_done (by kernel_rfl) ?_ _
      have c0 : w7.cell? ⟨g8, 0, none⟩ = some (.int .i64 nx) := H83.out.cell_ (i := 0) rfl
      have c8 : w7.cell? ⟨B, 8, none⟩ = some (.int .i64 r.s) := HP3.out.row.cell_ (i := 8) rfl
      have f8 : w7.frozen? ⟨B, 8, none⟩ = false := HP3.out.row.frozen 8
      go_upto_region 3 with (fail)
      clear c0 c8 f8
      have ho := (Only.refl (· = B) w7).setCell (p := ⟨B, 8, none⟩) (.inr rfl) (.int .i64 nx)
      have HP4 := Lib.hid (HP3.out.setS nx)
      have HO4 := Lib.hid (HO3.out.setCell (p := ⟨B, 8, none⟩) (.inr (.inl rfl)) (.int .i64 nx))
      have H94 := Lib.hid (H93.out.only ho HB9.out)
      clear ho HP3 HO3 H83 H93
      generalize w7.setCell ⟨B, 8, none⟩ (.int .i64 nx) = w8 at *
      have a0 : w8.cell? ⟨g9, 0, none⟩ = some (.int .i64 a5.k) := H94.out.cell_ (i := 0) rfl
      have a1 : w8.cell? ⟨g9, 1, none⟩ = some (.int .i64 a5.c) := H94.out.cell_ (i := 1) rfl
      have a2 : w8.cell? ⟨g9, 2, none⟩ = some (.int .u32 a5.x) := H94.out.cell_ (i := 2) rfl
      have a3 : w8.cell? ⟨g9, 3, none⟩ = some (.int .u32 a5.y) := H94.out.cell_ (i := 3) rfl
      have a4 : w8.cell? ⟨g9, 4, none⟩ = some (.int .u32 a5.o) := H94.out.cell_ (i := 4) rfl
      have b14 : w8.cell? ⟨B, 14, none⟩ = some (.int .i64 r.acc.k) := HP4.out.row.cell_ (i := 14) rfl
      have b15 : w8.cell? ⟨B, 15, none⟩ = some (.int .i64 r.acc.c) := HP4.out.row.cell_ (i := 15) rfl
      have b16 : w8.cell? ⟨B, 16, none⟩ = some (.int .u32 r.acc.x) := HP4.out.row.cell_ (i := 16) rfl
      have b17 : w8.cell? ⟨B, 17, none⟩ = some (.int .u32 r.acc.y) := HP4.out.row.cell_ (i := 17) rfl
      have b18 : w8.cell? ⟨B, 18, none⟩ = some (.int .u32 r.acc.o) := HP4.out.row.cell_ (i := 18) rfl
      have f14 : w8.frozen? ⟨B, 14, none⟩ = false := HP4.out.row.frozen 14
      have f15 : w8.frozen? ⟨B, 15, none⟩ = false := HP4.out.row.frozen 15
      have f16 : w8.frozen? ⟨B, 16, none⟩ = false := HP4.out.row.frozen 16
      have f17 : w8.frozen? ⟨B, 17, none⟩ = false := HP4.out.row.frozen 17
      have f18 : w8.frozen? ⟨B, 18, none⟩ = false := HP4.out.row.frozen 18
      go_wp2
      clear a0 a1 a2 a3 a4 b14 b15 b16 b17 b18 f14 f15 f16 f17 f18
      go_ret2
      exact ⟨rfl, set_acc_only HO4.out (B := B) (.inl rfl) _ _ _ _ _, nv, HP4.out.setAcc a5⟩
  · go_simp
    clear hHeld
    have e1 := (Only.refl Nil w2).alloc (.cells #[.int .i64 0, .int .i64 0, .int .u32 0, .int .u32 0, .int .u32 0] 40)
    have HP2 := Lib.hid (HP.out.keep e1)
    have HO2 := Lib.hid (HO.out.alloc (.cells #[.int .i64 0, .int .i64 0, .int .u32 0, .int .u32 0, .int .u32 0] 40))
    have HX2 := Lib.hid ((HX.out.keep e1).cons (Row.new w2 40 #[.int .i64 0, .int .i64 0, .int .u32 0, .int .u32 0, .int .u32 0]))
    have HG9 := Lib.hid HO.out.size
    refine hK.out _ _ (.inr (HP2.out.held HX2.out (by simp))) ?_
    clear hK K e1 HP HO HX
    generalize w2.alloc (.cells #[.int .i64 0, .int .i64 0, .int .u32 0, .int .u32 0, .int .u32 0] 40) = w3 at *
    generalize w2.heap.size = g9 at *
    have HP := HP2
    have HO := HO2
    have HX := HX2
    clear HP2 HO2 HX2
    (try simp only [Act.put, List.setIfInBounds_toArray, List.set_cons_zero, List.set_cons_succ])
    have hHeld := HP.out.held HX.out (gu := gu) (k := k) (m := m) (x := x) (by simp)
    refine pd_23_29 rfl rfl (by kernel_rfl) (by rfl) (fun K hK => ?_) (by rfl) (fun K hK => ?_)
    · go_simp
      refine (rstep_any base A l cp r.xs r.n r.mode r.task r.s c k m x _ HP.out.own HP.out.len HWF.out).mono ?_
      rw [HST.out]
      intro e w4 hF
      obtain ⟨rfl, hO, hM⟩ := hF
      dsimp only at hM ⊢
      rw [HAC.out]
      dsimp only [Acc5.v]
      have HP2 := Lib.hid (HP.out.call hO hM HZL.out)
      have HO2 := Lib.hid (HO.out.trans hO.turned2)
      have HX2 := Lib.hid (HX.out.call HP.out.own hO (by simp))
      refine hK.out _ _ (.inl (by kernel_rfl)) ?_
      clear hK K hO hM HP HO HX
      have HP := HP2
      have HO := HO2
      have HX := HX2
      clear HP2 HO2 HX2
      (try simp only [Act.put, List.setIfInBounds_toArray, List.set_cons_zero, List.set_cons_succ])
      refine pa_24 rfl rfl (.tuple #[.agg #[.int .i64 nx], .agg #[.int .i64 a5.k, .int .i64 a5.c, .int .u32 a5.x, .int .u32 a5.y, .int .u32 a5.o], .bool sn, .bool dn]) (by kernel_rfl) (by kernel_rfl) (by kernel_rfl) (by decide) (by kernel_rfl) (fun _ _ _ h => h) (by rfl) (fun w => ?_) (by first | (right; assumption) | (left; kernel_rfl)) ?_
      · go_simp
      (try simp only [Act.put, List.setIfInBounds_toArray, List.set_cons_zero, List.set_cons_succ])
      refine pa_25 rfl rfl (.agg #[.int .i64 nx]) (by kernel_rfl) (by kernel_rfl) (by kernel_rfl) (by decide) (by kernel_rfl) (fun _ _ _ h => h) (by rfl) (fun w => ?_) (by first | (right; assumption) | (left; kernel_rfl)) ?_
      · go_simp
      (try simp only [Act.put, List.setIfInBounds_toArray, List.set_cons_zero, List.set_cons_succ])
      refine pa_26 rfl rfl (.agg #[.int .i64 a5.k, .int .i64 a5.c, .int .u32 a5.x, .int .u32 a5.y, .int .u32 a5.o]) (by kernel_rfl) (by kernel_rfl) (by kernel_rfl) (by decide) (by kernel_rfl) (fun _ _ _ h => h) (by rfl) (fun w => ?_) (by first | (right; assumption) | (left; kernel_rfl)) ?_
      · go_simp
      (try simp only [Act.put, List.setIfInBounds_toArray, List.set_cons_zero, List.set_cons_succ])
      refine pa_27 rfl rfl (.bool sn) (by kernel_rfl) (by kernel_rfl) (by kernel_rfl) (by decide) (by kernel_rfl) (fun _ _ _ h => h) (by rfl) (fun w => ?_) (by first | (right; assumption) | (left; kernel_rfl)) ?_
      · go_simp
      (try simp only [Act.put, List.setIfInBounds_toArray, List.set_cons_zero, List.set_cons_succ])
      refine pa_28 rfl rfl (.bool dn) (by kernel_rfl) (by kernel_rfl) (by kernel_rfl) (by decide) (by kernel_rfl) (fun _ _ _ h => h) (by rfl) (fun w => ?_) (by first | (right; assumption) | (left; kernel_rfl)) ?_
      · go_simp
      (try simp only [Act.put, List.setIfInBounds_toArray, List.set_cons_zero, List.set_cons_succ])
      refine pc_29 rfl rfl (by kernel_rfl) (by rfl) (fun K hK => ?_)
      go_simp
      have e1 := (Only.refl Nil w4).alloc (.cells #[.int .i64 0] 25)
      have HP2 := Lib.hid (HP.out.keep e1)
      have HO2 := Lib.hid (HO.out.alloc (.cells #[.int .i64 0] 25))
      have HX2 := Lib.hid ((HX.out.keep e1).cons (Row.new w4 25 #[.int .i64 0]))
      have HG8 := Lib.hid HO.out.size
      refine hK.out _ _ (.inl (by kernel_rfl)) ?_
      clear hK K e1 HP HO HX
      generalize w4.alloc (.cells #[.int .i64 0] 25) = w5 at *
      generalize w4.heap.size = g8 at *
      have HP := HP2
      have HO := HO2
      have HX := HX2
      clear HP2 HO2 HX2
      (try simp only [Act.put, List.setIfInBounds_toArray, List.set_cons_zero, List.set_cons_succ])
      have H8 : Hid (Row w5 g8 25 #[.int .i64 0]) := Lib.hid (HX.out (g8, 25, #[.int .i64 0]) (by simp))
      have H9 : Hid (Row w5 g9 40 #[.int .i64 0, .int .i64 0, .int .u32 0, .int .u32 0, .int .u32 0]) := Lib.hid (HX.out (g9, 40, #[.int .i64 0, .int .i64 0, .int .u32 0, .int .u32 0, .int .u32 0]) (by simp))
      have H89 := Lib.hid (row_ne H8.out H9.out (by decide))
      have hb8 := row_ne H8.out HP.out.row (by decide)
      have hb9 := row_ne H9.out HP.out.row (by decide)
      have HB8 := Lib.hid hb8
      have HB9 := Lib.hid hb9
      clear HX hb8 hb9
      have c0 : w5.cell? ⟨g8, 0, none⟩ = some (.int .i64 0) := H8.out.cell_ (i := 0) rfl
      have f0 : w5.frozen? ⟨g8, 0, none⟩ = false := H8.out.frozen 0
      refine pc_31 rfl rfl (by kernel_rfl) (by rfl) (fun K hK => ?_)
      go_simp
      have ho := (Only.refl (· = g8) w5).setCell (p := ⟨g8, 0, none⟩) (.inr rfl) (.int .i64 nx)
      have HP2 := Lib.hid (HP.out.farRow H8.out ho (by decide) (by decide) (by decide))
      have HO2 := Lib.hid (HO.out.setCell (p := ⟨g8, 0, none⟩) (.inl (HG8.out)) (.int .i64 nx))
      have H82 := Lib.hid (H8.out.set 0 (.int .i64 nx))
      have H92 := Lib.hid (H9.out.only ho (Ne.symm H89.out))
      refine hK.out _ _ (.inl (by kernel_rfl)) ?_
      clear hK K ho c0 f0 HP HO H8 H9
      generalize w5.setCell ⟨g8, 0, none⟩ (.int .i64 nx) = w6 at *
      (try simp only [Act.put, List.setIfInBounds_toArray, List.set_cons_zero, List.set_cons_succ])
      have a0 : w6.cell? ⟨g9, 0, none⟩ = some (.int .i64 0) := H92.out.cell_ (i := 0) rfl
      have a1 : w6.cell? ⟨g9, 1, none⟩ = some (.int .i64 0) := H92.out.cell_ (i := 1) rfl
      have a2 : w6.cell? ⟨g9, 2, none⟩ = some (.int .u32 0) := H92.out.cell_ (i := 2) rfl
      have a3 : w6.cell? ⟨g9, 3, none⟩ = some (.int .u32 0) := H92.out.cell_ (i := 3) rfl
      have a4 : w6.cell? ⟨g9, 4, none⟩ = some (.int .u32 0) := H92.out.cell_ (i := 4) rfl
      have f0 : w6.frozen? ⟨g9, 0, none⟩ = false := H92.out.frozen 0
      have f1 : w6.frozen? ⟨g9, 1, none⟩ = false := H92.out.frozen 1
      have f2 : w6.frozen? ⟨g9, 2, none⟩ = false := H92.out.frozen 2
      have f3 : w6.frozen? ⟨g9, 3, none⟩ = false := H92.out.frozen 3
      have f4 : w6.frozen? ⟨g9, 4, none⟩ = false := H92.out.frozen 4
      refine pc_32 rfl rfl (by kernel_rfl) (by rfl) (fun K hK => ?_)
      go_simp
      have ho := five_only (Only.refl (· = g9) w6) (g := g9) (.inr rfl) (.int .i64 a5.k) (.int .i64 a5.c) (.int .u32 a5.x) (.int .u32 a5.y) (.int .u32 a5.o)
      have HP3 := Lib.hid (HP2.out.farRow H92.out ho (by decide) (by decide) (by decide))
      have HO3 := Lib.hid (five_only HO2.out (g := g9) (.inl HG9.out) (.int .i64 a5.k) (.int .i64 a5.c) (.int .u32 a5.x) (.int .u32 a5.y) (.int .u32 a5.o))
      have H83 := Lib.hid (H82.out.only ho H89.out)
      have H93 := Lib.hid (five H92.out (.int .i64 a5.k) (.int .i64 a5.c) (.int .u32 a5.x) (.int .u32 a5.y) (.int .u32 a5.o))
      refine hK.out _ _ (.inl (by kernel_rfl)) ?_
      clear hK K ho a0 a1 a2 a3 a4 f0 f1 f2 f3 f4 HP2 HO2 H82 H92
      generalize (((((w6.setCell ⟨g9, 0, none⟩ (.int .i64 a5.k)).setCell ⟨g9, 1, none⟩ (.int .i64 a5.c)).setCell ⟨g9, 2, none⟩ (.int .u32 a5.x)).setCell ⟨g9, 3, none⟩ (.int .u32 a5.y)).setCell ⟨g9, 4, none⟩ (.int .u32 a5.o)) = w7 at *
      (try simp only [Act.put, List.setIfInBounds_toArray, List.set_cons_zero, List.set_cons_succ])
      refine pa_33 rfl rfl (.bool sn) (by kernel_rfl) (by kernel_rfl) (by kernel_rfl) (by decide) (by kernel_rfl) (fun _ _ _ h => h) (by rfl) (fun w => ?_) (by first | (right; assumption) | (left; kernel_rfl)) ?_
      · go_simp
      (try simp only [Act.put, List.setIfInBounds_toArray, List.set_cons_zero, List.set_cons_succ])
      refine pa_34 rfl rfl (.bool dn) (by kernel_rfl) (by kernel_rfl) (by kernel_rfl) (by decide) (by kernel_rfl) (fun _ _ _ h => h) (by rfl) (fun w => ?_) (by first | (right; assumption) | (left; kernel_rfl)) ?_
      · go_simp
      (try simp only [Act.put, List.setIfInBounds_toArray, List.set_cons_zero, List.set_cons_succ])
      refine wpAnyP_done (by kernel_rfl) ?_ _
      have c0 : w7.cell? ⟨g8, 0, none⟩ = some (.int .i64 nx) := H83.out.cell_ (i := 0) rfl
      have c8 : w7.cell? ⟨B, 8, none⟩ = some (.int .i64 r.s) := HP3.out.row.cell_ (i := 8) rfl
      have f8 : w7.frozen? ⟨B, 8, none⟩ = false := HP3.out.row.frozen 8
      go_upto_region 3 with (fail)
      clear c0 c8 f8
      have ho := (Only.refl (· = B) w7).setCell (p := ⟨B, 8, none⟩) (.inr rfl) (.int .i64 nx)
      have HP4 := Lib.hid (HP3.out.setS nx)
      have HO4 := Lib.hid (HO3.out.setCell (p := ⟨B, 8, none⟩) (.inr (.inl rfl)) (.int .i64 nx))
      have H94 := Lib.hid (H93.out.only ho HB9.out)
      clear ho HP3 HO3 H83 H93
      generalize w7.setCell ⟨B, 8, none⟩ (.int .i64 nx) = w8 at *
      have a0 : w8.cell? ⟨g9, 0, none⟩ = some (.int .i64 a5.k) := H94.out.cell_ (i := 0) rfl
      have a1 : w8.cell? ⟨g9, 1, none⟩ = some (.int .i64 a5.c) := H94.out.cell_ (i := 1) rfl
      have a2 : w8.cell? ⟨g9, 2, none⟩ = some (.int .u32 a5.x) := H94.out.cell_ (i := 2) rfl
      have a3 : w8.cell? ⟨g9, 3, none⟩ = some (.int .u32 a5.y) := H94.out.cell_ (i := 3) rfl
      have a4 : w8.cell? ⟨g9, 4, none⟩ = some (.int .u32 a5.o) := H94.out.cell_ (i := 4) rfl
      have b14 : w8.cell? ⟨B, 14, none⟩ = some (.int .i64 r.acc.k) := HP4.out.row.cell_ (i := 14) rfl
      have b15 : w8.cell? ⟨B, 15, none⟩ = some (.int .i64 r.acc.c) := HP4.out.row.cell_ (i := 15) rfl
      have b16 : w8.cell? ⟨B, 16, none⟩ = some (.int .u32 r.acc.x) := HP4.out.row.cell_ (i := 16) rfl
      have b17 : w8.cell? ⟨B, 17, none⟩ = some (.int .u32 r.acc.y) := HP4.out.row.cell_ (i := 17) rfl
      have b18 : w8.cell? ⟨B, 18, none⟩ = some (.int .u32 r.acc.o) := HP4.out.row.cell_ (i := 18) rfl
      have f14 : w8.frozen? ⟨B, 14, none⟩ = false := HP4.out.row.frozen 14
      have f15 : w8.frozen? ⟨B, 15, none⟩ = false := HP4.out.row.frozen 15
      have f16 : w8.frozen? ⟨B, 16, none⟩ = false := HP4.out.row.frozen 16
      have f17 : w8.frozen? ⟨B, 17, none⟩ = false := HP4.out.row.frozen 17
      have f18 : w8.frozen? ⟨B, 18, none⟩ = false := HP4.out.row.frozen 18
      go_wp2
      clear a0 a1 a2 a3 a4 b14 b15 b16 b17 b18 f14 f15 f16 f17 f18
      go_ret2
      exact ⟨rfl, set_acc_only HO4.out (B := B) (.inl rfl) _ _ _ _ _, nv, HP4.out.setAcc a5⟩
    · go_simp
      clear hHeld
      have e1 := (Only.refl Nil w3).alloc (.cells #[.int .i64 0] 25)
      have HP2 := Lib.hid (HP.out.keep e1)
      have HO2 := Lib.hid (HO.out.alloc (.cells #[.int .i64 0] 25))
      have HX2 := Lib.hid ((HX.out.keep e1).cons (Row.new w3 25 #[.int .i64 0]))
      have HG8 := Lib.hid HO.out.size
      refine hK.out _ _ (.inr (HP2.out.held HX2.out (by simp))) ?_
      clear hK K e1 HP HO HX
      generalize w3.alloc (.cells #[.int .i64 0] 25) = w4 at *
      generalize w3.heap.size = g8 at *
      have HP := HP2
      have HO := HO2
      have HX := HX2
      clear HP2 HO2 HX2
      (try simp only [Act.put, List.setIfInBounds_toArray, List.set_cons_zero, List.set_cons_succ])
      have hHeld := HP.out.held HX.out (gu := gu) (k := k) (m := m) (x := x) (by simp)
      refine pc_23 rfl rfl (by kernel_rfl) (by rfl) (fun K hK => ?_)
      go_simp
      refine (rstep_any base A l cp r.xs r.n r.mode r.task r.s c k m x _ HP.out.own HP.out.len HWF.out).mono ?_
      rw [HST.out]
      intro e w5 hF
      obtain ⟨rfl, hO, hM⟩ := hF
      dsimp only at hM ⊢
      rw [HAC.out]
      dsimp only [Acc5.v]
      have HP2 := Lib.hid (HP.out.call hO hM HZL.out)
      have HO2 := Lib.hid (HO.out.trans hO.turned2)
      have HX2 := Lib.hid (HX.out.call HP.out.own hO (by simp))
      refine hK.out _ _ (.inl (by kernel_rfl)) ?_
      clear hK K hO hM HP HO HX
      have HP := HP2
      have HO := HO2
      have HX := HX2
      clear HP2 HO2 HX2
      (try simp only [Act.put, List.setIfInBounds_toArray, List.set_cons_zero, List.set_cons_succ])
      refine pa_24 rfl rfl (.tuple #[.agg #[.int .i64 nx], .agg #[.int .i64 a5.k, .int .i64 a5.c, .int .u32 a5.x, .int .u32 a5.y, .int .u32 a5.o], .bool sn, .bool dn]) (by kernel_rfl) (by kernel_rfl) (by kernel_rfl) (by decide) (by kernel_rfl) (fun _ _ _ h => h) (by rfl) (fun w => ?_) (by first | (right; assumption) | (left; kernel_rfl)) ?_
      · go_simp
      (try simp only [Act.put, List.setIfInBounds_toArray, List.set_cons_zero, List.set_cons_succ])
      refine pa_25 rfl rfl (.agg #[.int .i64 nx]) (by kernel_rfl) (by kernel_rfl) (by kernel_rfl) (by decide) (by kernel_rfl) (fun _ _ _ h => h) (by rfl) (fun w => ?_) (by first | (right; assumption) | (left; kernel_rfl)) ?_
      · go_simp
      (try simp only [Act.put, List.setIfInBounds_toArray, List.set_cons_zero, List.set_cons_succ])
      refine pa_26 rfl rfl (.agg #[.int .i64 a5.k, .int .i64 a5.c, .int .u32 a5.x, .int .u32 a5.y, .int .u32 a5.o]) (by kernel_rfl) (by kernel_rfl) (by kernel_rfl) (by decide) (by kernel_rfl) (fun _ _ _ h => h) (by rfl) (fun w => ?_) (by first | (right; assumption) | (left; kernel_rfl)) ?_
      · go_simp
      (try simp only [Act.put, List.setIfInBounds_toArray, List.set_cons_zero, List.set_cons_succ])
      refine pa_27 rfl rfl (.bool sn) (by kernel_rfl) (by kernel_rfl) (by kernel_rfl) (by decide) (by kernel_rfl) (fun _ _ _ h => h) (by rfl) (fun w => ?_) (by first | (right; assumption) | (left; kernel_rfl)) ?_
      · go_simp
      (try simp only [Act.put, List.setIfInBounds_toArray, List.set_cons_zero, List.set_cons_succ])
      refine pa_28 rfl rfl (.bool dn) (by kernel_rfl) (by kernel_rfl) (by kernel_rfl) (by decide) (by kernel_rfl) (fun _ _ _ h => h) (by rfl) (fun w => ?_) (by first | (right; assumption) | (left; kernel_rfl)) ?_
      · go_simp
      (try simp only [Act.put, List.setIfInBounds_toArray, List.set_cons_zero, List.set_cons_succ])
      have H8 : Hid (Row w5 g8 25 #[.int .i64 0]) := Lib.hid (HX.out (g8, 25, #[.int .i64 0]) (by simp))
      have H9 : Hid (Row w5 g9 40 #[.int .i64 0, .int .i64 0, .int .u32 0, .int .u32 0, .int .u32 0]) := Lib.hid (HX.out (g9, 40, #[.int .i64 0, .int .i64 0, .int .u32 0, .int .u32 0, .int .u32 0]) (by simp))
      have H89 := Lib.hid (row_ne H8.out H9.out (by decide))
      have hb8 := row_ne H8.out HP.out.row (by decide)
      have hb9 := row_ne H9.out HP.out.row (by decide)
      have HB8 := Lib.hid hb8
      have HB9 := Lib.hid hb9
      clear HX hb8 hb9
      have c0 : w5.cell? ⟨g8, 0, none⟩ = some (.int .i64 0) := H8.out.cell_ (i := 0) rfl
      have f0 : w5.frozen? ⟨g8, 0, none⟩ = false := H8.out.frozen 0
      refine pc_31 rfl rfl (by kernel_rfl) (by rfl) (fun K hK => ?_)
      go_simp
      have ho := (Only.refl (· = g8) w5).setCell (p := ⟨g8, 0, none⟩) (.inr rfl) (.int .i64 nx)
      have HP2 := Lib.hid (HP.out.farRow H8.out ho (by decide) (by decide) (by decide))
      have HO2 := Lib.hid (HO.out.setCell (p := ⟨g8, 0, none⟩) (.inl (HG8.out)) (.int .i64 nx))
      have H82 := Lib.hid (H8.out.set 0 (.int .i64 nx))
      have H92 := Lib.hid (H9.out.only ho (Ne.symm H89.out))
      refine hK.out _ _ (.inl (by kernel_rfl)) ?_
      clear hK K ho c0 f0 HP HO H8 H9
      generalize w5.setCell ⟨g8, 0, none⟩ (.int .i64 nx) = w6 at *
      (try simp only [Act.put, List.setIfInBounds_toArray, List.set_cons_zero, List.set_cons_succ])
      have a0 : w6.cell? ⟨g9, 0, none⟩ = some (.int .i64 0) := H92.out.cell_ (i := 0) rfl
      have a1 : w6.cell? ⟨g9, 1, none⟩ = some (.int .i64 0) := H92.out.cell_ (i := 1) rfl
      have a2 : w6.cell? ⟨g9, 2, none⟩ = some (.int .u32 0) := H92.out.cell_ (i := 2) rfl
      have a3 : w6.cell? ⟨g9, 3, none⟩ = some (.int .u32 0) := H92.out.cell_ (i := 3) rfl
      have a4 : w6.cell? ⟨g9, 4, none⟩ = some (.int .u32 0) := H92.out.cell_ (i := 4) rfl
      have f0 : w6.frozen? ⟨g9, 0, none⟩ = false := H92.out.frozen 0
      have f1 : w6.frozen? ⟨g9, 1, none⟩ = false := H92.out.frozen 1
      have f2 : w6.frozen? ⟨g9, 2, none⟩ = false := H92.out.frozen 2
      have f3 : w6.frozen? ⟨g9, 3, none⟩ = false := H92.out.frozen 3
      have f4 : w6.frozen? ⟨g9, 4, none⟩ = false := H92.out.frozen 4
      refine pc_32 rfl rfl (by kernel_rfl) (by rfl) (fun K hK => ?_)
      go_simp
      have ho := five_only (Only.refl (· = g9) w6) (g := g9) (.inr rfl) (.int .i64 a5.k) (.int .i64 a5.c) (.int .u32 a5.x) (.int .u32 a5.y) (.int .u32 a5.o)
      have HP3 := Lib.hid (HP2.out.farRow H92.out ho (by decide) (by decide) (by decide))
      have HO3 := Lib.hid (five_only HO2.out (g := g9) (.inl HG9.out) (.int .i64 a5.k) (.int .i64 a5.c) (.int .u32 a5.x) (.int .u32 a5.y) (.int .u32 a5.o))
      have H83 := Lib.hid (H82.out.only ho H89.out)
      have H93 := Lib.hid (five H92.out (.int .i64 a5.k) (.int .i64 a5.c) (.int .u32 a5.x) (.int .u32 a5.y) (.int .u32 a5.o))
      refine hK.out _ _ (.inl (by kernel_rfl)) ?_
      clear hK K ho a0 a1 a2 a3 a4 f0 f1 f2 f3 f4 HP2 HO2 H82 H92
      generalize (((((w6.setCell ⟨g9, 0, none⟩ (.int .i64 a5.k)).setCell ⟨g9, 1, none⟩ (.int .i64 a5.c)).setCell ⟨g9, 2, none⟩ (.int .u32 a5.x)).setCell ⟨g9, 3, none⟩ (.int .u32 a5.y)).setCell ⟨g9, 4, none⟩ (.int .u32 a5.o)) = w7 at *
      (try simp only [Act.put, List.setIfInBounds_toArray, List.set_cons_zero, List.set_cons_succ])
      refine pa_33 rfl rfl (.bool sn) (by kernel_rfl) (by kernel_rfl) (by kernel_rfl) (by decide) (by kernel_rfl) (fun _ _ _ h => h) (by rfl) (fun w => ?_) (by first | (right; assumption) | (left; kernel_rfl)) ?_
      · go_simp
      (try simp only [Act.put, List.setIfInBounds_toArray, List.set_cons_zero, List.set_cons_succ])
      refine pa_34 rfl rfl (.bool dn) (by kernel_rfl) (by kernel_rfl) (by kernel_rfl) (by decide) (by kernel_rfl) (fun _ _ _ h => h) (by rfl) (fun w => ?_) (by first | (right; assumption) | (left; kernel_rfl)) ?_
      · go_simp
      (try simp only [Act.put, List.setIfInBounds_toArray, List.set_cons_zero, List.set_cons_succ])
      refine wpAnyP_done (by kernel_rfl) ?_ _
      have c0 : w7.cell? ⟨g8, 0, none⟩ = some (.int .i64 nx) := H83.out.cell_ (i := 0) rfl
      have c8 : w7.cell? ⟨B, 8, none⟩ = some (.int .i64 r.s) := HP3.out.row.cell_ (i := 8) rfl
      have f8 : w7.frozen? ⟨B, 8, none⟩ = false := HP3.out.row.frozen 8
      go_upto_region 3 with (fail)
      clear c0 c8 f8
      have ho := (Only.refl (· = B) w7).setCell (p := ⟨B, 8, none⟩) (.inr rfl) (.int .i64 nx)
      have HP4 := Lib.hid (HP3.out.setS nx)
      have HO4 := Lib.hid (HO3.out.setCell (p := ⟨B, 8, none⟩) (.inr (.inl rfl)) (.int .i64 nx))
      have H94 := Lib.hid (H93.out.only ho HB9.out)
      clear ho HP3 HO3 H83 H93
      generalize w7.setCell ⟨B, 8, none⟩ (.int .i64 nx) = w8 at *
      have a0 : w8.cell? ⟨g9, 0, none⟩ = some (.int .i64 a5.k) := H94.out.cell_ (i := 0) rfl
      have a1 : w8.cell? ⟨g9, 1, none⟩ = some (.int .i64 a5.c) := H94.out.cell_ (i := 1) rfl
      have a2 : w8.cell? ⟨g9, 2, none⟩ = some (.int .u32 a5.x) := H94.out.cell_ (i := 2) rfl
      have a3 : w8.cell? ⟨g9, 3, none⟩ = some (.int .u32 a5.y) := H94.out.cell_ (i := 3) rfl
      have a4 : w8.cell? ⟨g9, 4, none⟩ = some (.int .u32 a5.o) := H94.out.cell_ (i := 4) rfl
      have b14 : w8.cell? ⟨B, 14, none⟩ = some (.int .i64 r.acc.k) := HP4.out.row.cell_ (i := 14) rfl
      have b15 : w8.cell? ⟨B, 15, none⟩ = some (.int .i64 r.acc.c) := HP4.out.row.cell_ (i := 15) rfl
      have b16 : w8.cell? ⟨B, 16, none⟩ = some (.int .u32 r.acc.x) := HP4.out.row.cell_ (i := 16) rfl
      have b17 : w8.cell? ⟨B, 17, none⟩ = some (.int .u32 r.acc.y) := HP4.out.row.cell_ (i := 17) rfl
      have b18 : w8.cell? ⟨B, 18, none⟩ = some (.int .u32 r.acc.o) := HP4.out.row.cell_ (i := 18) rfl
      have f14 : w8.frozen? ⟨B, 14, none⟩ = false := HP4.out.row.frozen 14
      have f15 : w8.frozen? ⟨B, 15, none⟩ = false := HP4.out.row.frozen 15
      have f16 : w8.frozen? ⟨B, 16, none⟩ = false := HP4.out.row.frozen 16
      have f17 : w8.frozen? ⟨B, 17, none⟩ = false := HP4.out.row.frozen 17
      have f18 : w8.frozen? ⟨B, 18, none⟩ = false := HP4.out.row.frozen 18
      go_wp2
      clear a0 a1 a2 a3 a4 b14 b15 b16 b17 b18 f14 f15 f16 f17 f18
      go_ret2
      exact ⟨rfl, set_acc_only HO4.out (B := B) (.inl rfl) _ _ _ _ _, nv, HP4.out.setAcc a5⟩
end Go.Proofs.Ytomgjamojeejbaa
/- The law's plain: the calls, on the answer's run. -/
set_option linter.unusedVariables false
set_option linter.unusedSimpArgs false
namespace Go.Proofs.Ytomgjamojeejbaa
open Go.RowKit

/-- Behind k calls. -/
structure CR (w : World) (B base : Nat) (A : Option Addr) (l cp : Nat) (r : LS) (l0 : List OpV) (k : Nat) (A3 : Option Addr) (n3 c3 : Nat) (W : World) : Prop where
  run : ∃ nv, RunR W B base A l cp nv (r.opsI (l0.take k)).1
  own : Own W w.heap.size A3 c3 (r.opsI (l0.take k)).2
  len3 : n3 = (r.opsI (l0.take k)).2.length
  only : Only (TurnB B A) w W


set_option maxRecDepth 100000 in
set_option maxHeartbeats 8000000 in
theorem plain_run (B base : Nat) (A : Option Addr) (l cp : Nat) (nv0 : Value) (r : LS) (AO : Option Addr) (m co : Nat) (l0 : List OpV) (N : Nat) (w : World) (h : RunR w B base A l cp nv0 r) (hl : l0.length = m) (hm : m ≤ 10) (ho : OpsAt w N AO l0) (hwf : ∀ o ∈ l0, o.Wf) (hN : N ≤ w.heap.size) (hNB : N ≤ B) (hNA : ∀ j, At A j → N ≤ j)
    (hx : Words r.xs) (hns : r.ns.length ≤ 900) :
    Calls Try.prog 12 #[.pointer (some ⟨B, 0, none⟩), .slice AO m co] w fun e w' => ∃ A3 c3, e = .returned (.slice A3 (r.opsI l0).2.length c3) ∧ Own w' w.heap.size A3 c3 (r.opsI l0).2 ∧ Only (TurnB B A) w w' ∧ ∃ nv, RunR w' B base A l cp nv (r.opsI l0).1 := by
  have HML := Lib.hid hl
  have HOS := Lib.hid ho
  have HWF := Lib.hid hwf
  have HK0 := Lib.hid (ops_keeps r l0 hwf)
  have HX0 := Lib.hid hx
  have HNS := Lib.hid hns
  have HA : Hid (∀ j, At A j → j < w.heap.size) := Lib.hid h.own.lt
  have HTS := Lib.hid (show ∀ j, j < N → ¬ TurnB B A j from fun j hj e => by
    rcases e with e | e
    · omega
    · have := hNA j e; omega)
  have H0 : Hid (CR w B base A l cp r l0 0 none 0 0 w) := Lib.hid ⟨⟨nv0, h⟩, ⟨World.ownsRow_nil _ _ _ _, fun _ => ⟨rfl, rfl⟩, fun i ⟨a, ha, _⟩ => by cases ha⟩, rfl, Only.refl _ _⟩
  clear h hl ho hwf hx hns hNA
  go_enter Try.func12, Try.ntmps12
  go_wp2
  go_loopw [5, 6] (fun v i wr => ∃ k : Nat, ∃ (A3 : Option Addr) (n3 c3 : Nat), k ≤ m ∧ i = .int .i64 k ∧ v = .slice A3 n3 c3 ∧ Hid (CR w B base A l cp r l0 k A3 n3 c3 wr)) (fun _ i _ => m - (intOf i).toNat)
  case atStart => exact ⟨0, none, 0, 0, Nat.zero_le _, rfl, rfl, H0⟩
  case round =>
    obtain ⟨k, A3, n3, c3, hk, rfl, rfl, HC⟩ := hrel
    clear H0
    by_cases hlt : k < m
    · obtain ⟨⟨ok, oc, on, ox, oy, uk, um, ux⟩, hok⟩ : ∃ o, l0[k]? = some o := ⟨_, List.getElem?_eq_getElem (by rw [HML.out]; exact hlt)⟩
      obtain ⟨hx0, hx1, hy0, hy1⟩ := HWF.out _ (List.mem_of_getElem? hok)
      dsimp only at hx0 hx1 hy0 hy1
      have HY := Lib.hid (⟨hy0, hy1⟩ : 0 ≤ oy ∧ oy < 4294967296)
      clear hy0 hy1
      obtain ⟨⟨hk1, hk2, hk3⟩⟩ : Nonempty ((r.Keeps (r.opsI (l0.take k)).1 ∧ (r.opsI (l0.take k)).1.ns.length ≤ r.ns.length + k) ∧ ((r.opsI (l0.take k)).2.length = 3 * k) ∧ True) := ⟨⟨(HK0.out k (by rw [HML.out]; exact hk)).1, (HK0.out k (by rw [HML.out]; exact hk)).2.1⟩, (HK0.out k (by rw [HML.out]; exact hk)).2.2, trivial⟩
      obtain ⟨hk1, hk4⟩ := hk1
      obtain ⟨⟨nv, hP⟩, hown, hlen, hO⟩ := HC.out
      clear HC
      generalize hkk : r.opsI (l0.take k) = pk at *
      obtain ⟨rk, outs⟩ := pk
      dsimp only at *
      have HOK := Lib.hid hok
      have HKK := Lib.hid hkk
      have HLE := Lib.hid hlen
      have HL1 := Lib.hid (show outs.length ≤ 1000 by omega)
      have HLN := Lib.hid (show rk.ns.length ≤ 1000 by have := HNS.out; omega)
      have HWK := Lib.hid (hk1.words HX0.out)
      have HP := Lib.hid hP
      have HW := Lib.hid hown
      have HO := Lib.hid hO
      obtain ⟨b, q, hAO, hb, h8⟩ := (HOS.out.only hO hN HTS.out) k _ hok
      obtain ⟨f0, f1, f2, f3, f4, f5, f6, f7⟩ := h8
      dsimp only at f0 f1 f2 f3 f4 f5 f6 f7
      subst hAO
      clear hok hkk hlen hP hown hO hk1 hk2 hk3 hk4 hb
      by_cases h0 : ok = 0
      · subst h0
        have HNX := Lib.hid (show r.opsI (l0.take (k + 1)) = (rk.doA 1 oc 0 0, outs ++ [wordAt rk.xs oc, bitI false, bitI false]) by rw [ops_next HOK.out, HKK.out]; rfl)
        have HP1 := Lib.hid (HP.out.keep ((Only.refl Nil wr).alloc (.cells #[.int .i64 0, .int .i64 oc, .int .i64 on, .int .u32 ox, .int .u32 oy, .int .i64 uk, .int .u32 um, .int .u32 ux] 80)))
        have HO1 := Lib.hid (HO.out.alloc (.cells #[.int .i64 0, .int .i64 oc, .int .i64 on, .int .u32 ox, .int .u32 oy, .int .i64 uk, .int .u32 um, .int .u32 ux] 80))
        have HW1 := Lib.hid (HW.out.only ((Only.refl Nil wr).alloc (.cells #[.int .i64 0, .int .i64 oc, .int .i64 on, .int .u32 ox, .int .u32 oy, .int .i64 uk, .int .u32 um, .int .u32 ux] 80)) (fun _ _ => id))
        go_wp2_with fail
        clear f0 f1 f2 f3 f4 f5 f6 f7
        refine (rload_run B base A l cp nv rk oc _ HP1.out).mono ?_
        intro e w3 hD
        obtain ⟨rfl, hO, nv2, hP⟩ := hD
        have HP2 := Lib.hid hP
        have HO2 := Lib.hid (HO1.out.trans hO)
        have HW2 := Lib.hid (HW1.out.away HP1.out.row (by decide) HA.out hO)
        clear hO hP
        go_wp2_with (first | (go_at_call 37; refine (bit_any _ _).mono ?_; rintro e w' ⟨rfl, rfl⟩) | (at_builtin; refine wp_app3 rfl (.tmp 104) (.tmp 110) rfl w.heap.size A3 n3 c3 outs rfl HLE.out (HW2.out.only ((Only.refl Nil _).alloc _) (fun _ _ => id)) _ (wordAt rk.xs oc) (bitI false) (bitI false) rfl (Row.new _ _ _) HL1.out (by have h1 := HO2.out.size; simp; omega) ?_))
        intro A' n' c' w9 hn' hown hO
        have HP3 := Lib.hid ((HP2.out.keep ((Only.refl Nil _).alloc _)).away (HW2.out.only ((Only.refl Nil _).alloc _) (fun _ _ => id)) HA.out hO)
        have HO3 := Lib.hid ((HO2.out.alloc _).step hO (fun i hi e => by have := HW2.out.base i e; omega))
        have HWN := Lib.hid hown
        have HN3 := Lib.hid hn'
        clear hn' hown hO
        go_wp2
        exact ⟨⟨k + 1, A', n', c', by omega, by go_num, rfl, Lib.hid ⟨⟨_, by rw [HNX.out]; exact HP3.out⟩, by rw [HNX.out]; exact HWN.out, by rw [HNX.out, HN3.out]; dsimp only; rw [List.length_append]; rfl, HO3.out⟩⟩, by simp [intOf]; omega⟩
      by_cases h1 : ok = 1
      · subst h1
        clear h0
        have HNX := Lib.hid (show r.opsI (l0.take (k + 1)) = (rk.doA 2 oc ox 0, outs ++ [0, bitI false, bitI false]) by rw [ops_next HOK.out, HKK.out]; rfl)
        have HP1 := Lib.hid (HP.out.keep ((Only.refl Nil wr).alloc (.cells #[.int .i64 1, .int .i64 oc, .int .i64 on, .int .u32 ox, .int .u32 oy, .int .i64 uk, .int .u32 um, .int .u32 ux] 80)))
        have HO1 := Lib.hid (HO.out.alloc (.cells #[.int .i64 1, .int .i64 oc, .int .i64 on, .int .u32 ox, .int .u32 oy, .int .i64 uk, .int .u32 um, .int .u32 ux] 80))
        have HW1 := Lib.hid (HW.out.only ((Only.refl Nil wr).alloc (.cells #[.int .i64 1, .int .i64 oc, .int .i64 on, .int .u32 ox, .int .u32 oy, .int .i64 uk, .int .u32 um, .int .u32 ux] 80)) (fun _ _ => id))
        go_wp2_with fail
        clear f0 f1 f2 f3 f4 f5 f6 f7
        refine (rstore_run B base A l cp nv rk oc ox _ HP1.out).mono ?_
        intro e w3 hD
        obtain ⟨rfl, hO, nv2, hP⟩ := hD
        have HP2 := Lib.hid hP
        have HO2 := Lib.hid (HO1.out.trans hO)
        have HW2 := Lib.hid (HW1.out.away HP1.out.row (by decide) HA.out hO)
        clear hO hP
        go_wp2_with (first | (go_at_call 37; refine (bit_any _ _).mono ?_; rintro e w' ⟨rfl, rfl⟩) | (at_builtin; refine wp_app3 rfl (.tmp 104) (.tmp 110) rfl w.heap.size A3 n3 c3 outs rfl HLE.out (HW2.out.only ((Only.refl Nil _).alloc _) (fun _ _ => id)) _ (0) (bitI false) (bitI false) rfl (Row.new _ _ _) HL1.out (by have h1 := HO2.out.size; simp; omega) ?_))
        intro A' n' c' w9 hn' hown hO
        have HP3 := Lib.hid ((HP2.out.keep ((Only.refl Nil _).alloc _)).away (HW2.out.only ((Only.refl Nil _).alloc _) (fun _ _ => id)) HA.out hO)
        have HO3 := Lib.hid ((HO2.out.alloc _).step hO (fun i hi e => by have := HW2.out.base i e; omega))
        have HWN := Lib.hid hown
        have HN3 := Lib.hid hn'
        clear hn' hown hO
        go_wp2
        exact ⟨⟨k + 1, A', n', c', by omega, by go_num, rfl, Lib.hid ⟨⟨_, by rw [HNX.out]; exact HP3.out⟩, by rw [HNX.out]; exact HWN.out, by rw [HNX.out, HN3.out]; dsimp only; rw [List.length_append]; rfl, HO3.out⟩⟩, by simp [intOf]; omega⟩
      by_cases h2 : ok = 2
      · subst h2
        clear h0 h1
        have HNX := Lib.hid (show r.opsI (l0.take (k + 1)) = (rk.doA 3 oc ox 0, outs ++ [wordAt rk.xs oc, bitI false, bitI false]) by rw [ops_next HOK.out, HKK.out]; rfl)
        have HP1 := Lib.hid (HP.out.keep ((Only.refl Nil wr).alloc (.cells #[.int .i64 2, .int .i64 oc, .int .i64 on, .int .u32 ox, .int .u32 oy, .int .i64 uk, .int .u32 um, .int .u32 ux] 80)))
        have HO1 := Lib.hid (HO.out.alloc (.cells #[.int .i64 2, .int .i64 oc, .int .i64 on, .int .u32 ox, .int .u32 oy, .int .i64 uk, .int .u32 um, .int .u32 ux] 80))
        have HW1 := Lib.hid (HW.out.only ((Only.refl Nil wr).alloc (.cells #[.int .i64 2, .int .i64 oc, .int .i64 on, .int .u32 ox, .int .u32 oy, .int .i64 uk, .int .u32 um, .int .u32 ux] 80)) (fun _ _ => id))
        go_wp2_with fail
        clear f0 f1 f2 f3 f4 f5 f6 f7
        refine (radd_run B base A l cp nv rk oc ox _ HP1.out).mono ?_
        intro e w3 hD
        obtain ⟨rfl, hO, nv2, hP⟩ := hD
        have HP2 := Lib.hid hP
        have HO2 := Lib.hid (HO1.out.trans hO)
        have HW2 := Lib.hid (HW1.out.away HP1.out.row (by decide) HA.out hO)
        clear hO hP
        go_wp2_with (first | (go_at_call 37; refine (bit_any _ _).mono ?_; rintro e w' ⟨rfl, rfl⟩) | (at_builtin; refine wp_app3 rfl (.tmp 104) (.tmp 110) rfl w.heap.size A3 n3 c3 outs rfl HLE.out (HW2.out.only ((Only.refl Nil _).alloc _) (fun _ _ => id)) _ (wordAt rk.xs oc) (bitI false) (bitI false) rfl (Row.new _ _ _) HL1.out (by have h1 := HO2.out.size; simp; omega) ?_))
        intro A' n' c' w9 hn' hown hO
        have HP3 := Lib.hid ((HP2.out.keep ((Only.refl Nil _).alloc _)).away (HW2.out.only ((Only.refl Nil _).alloc _) (fun _ _ => id)) HA.out hO)
        have HO3 := Lib.hid ((HO2.out.alloc _).step hO (fun i hi e => by have := HW2.out.base i e; omega))
        have HWN := Lib.hid hown
        have HN3 := Lib.hid hn'
        clear hn' hown hO
        go_wp2
        exact ⟨⟨k + 1, A', n', c', by omega, by go_num, rfl, Lib.hid ⟨⟨_, by rw [HNX.out]; exact HP3.out⟩, by rw [HNX.out]; exact HWN.out, by rw [HNX.out, HN3.out]; dsimp only; rw [List.length_append]; rfl, HO3.out⟩⟩, by simp [intOf]; omega⟩
      by_cases h3 : ok = 3
      · subst h3
        clear h0 h1 h2
        have HNX := Lib.hid (show r.opsI (l0.take (k + 1)) = (rk.doA 4 oc ox 0, outs ++ [wordAt rk.xs oc, bitI false, bitI false]) by rw [ops_next HOK.out, HKK.out]; rfl)
        have HP1 := Lib.hid (HP.out.keep ((Only.refl Nil wr).alloc (.cells #[.int .i64 3, .int .i64 oc, .int .i64 on, .int .u32 ox, .int .u32 oy, .int .i64 uk, .int .u32 um, .int .u32 ux] 80)))
        have HO1 := Lib.hid (HO.out.alloc (.cells #[.int .i64 3, .int .i64 oc, .int .i64 on, .int .u32 ox, .int .u32 oy, .int .i64 uk, .int .u32 um, .int .u32 ux] 80))
        have HW1 := Lib.hid (HW.out.only ((Only.refl Nil wr).alloc (.cells #[.int .i64 3, .int .i64 oc, .int .i64 on, .int .u32 ox, .int .u32 oy, .int .i64 uk, .int .u32 um, .int .u32 ux] 80)) (fun _ _ => id))
        go_wp2_with fail
        clear f0 f1 f2 f3 f4 f5 f6 f7
        refine (rswap_run B base A l cp nv rk oc ox _ HP1.out).mono ?_
        intro e w3 hD
        obtain ⟨rfl, hO, nv2, hP⟩ := hD
        have HP2 := Lib.hid hP
        have HO2 := Lib.hid (HO1.out.trans hO)
        have HW2 := Lib.hid (HW1.out.away HP1.out.row (by decide) HA.out hO)
        clear hO hP
        go_wp2_with (first | (go_at_call 37; refine (bit_any _ _).mono ?_; rintro e w' ⟨rfl, rfl⟩) | (at_builtin; refine wp_app3 rfl (.tmp 104) (.tmp 110) rfl w.heap.size A3 n3 c3 outs rfl HLE.out (HW2.out.only ((Only.refl Nil _).alloc _) (fun _ _ => id)) _ (wordAt rk.xs oc) (bitI false) (bitI false) rfl (Row.new _ _ _) HL1.out (by have h1 := HO2.out.size; simp; omega) ?_))
        intro A' n' c' w9 hn' hown hO
        have HP3 := Lib.hid ((HP2.out.keep ((Only.refl Nil _).alloc _)).away (HW2.out.only ((Only.refl Nil _).alloc _) (fun _ _ => id)) HA.out hO)
        have HO3 := Lib.hid ((HO2.out.alloc _).step hO (fun i hi e => by have := HW2.out.base i e; omega))
        have HWN := Lib.hid hown
        have HN3 := Lib.hid hn'
        clear hn' hown hO
        go_wp2
        exact ⟨⟨k + 1, A', n', c', by omega, by go_num, rfl, Lib.hid ⟨⟨_, by rw [HNX.out]; exact HP3.out⟩, by rw [HNX.out]; exact HWN.out, by rw [HNX.out, HN3.out]; dsimp only; rw [List.length_append]; rfl, HO3.out⟩⟩, by simp [intOf]; omega⟩
      by_cases h4 : ok = 4
      · subst h4
        clear h0 h1 h2 h3
        have HNX := Lib.hid (show r.opsI (l0.take (k + 1)) = (rk.doA 5 oc ox oy, outs ++ [0, bitI (there rk.xs oc && (wordAt rk.xs oc == ox)), bitI false]) by rw [ops_next HOK.out, HKK.out]; rfl)
        have HP1 := Lib.hid (HP.out.keep ((Only.refl Nil wr).alloc (.cells #[.int .i64 4, .int .i64 oc, .int .i64 on, .int .u32 ox, .int .u32 oy, .int .i64 uk, .int .u32 um, .int .u32 ux] 80)))
        have HO1 := Lib.hid (HO.out.alloc (.cells #[.int .i64 4, .int .i64 oc, .int .i64 on, .int .u32 ox, .int .u32 oy, .int .i64 uk, .int .u32 um, .int .u32 ux] 80))
        have HW1 := Lib.hid (HW.out.only ((Only.refl Nil wr).alloc (.cells #[.int .i64 4, .int .i64 oc, .int .i64 on, .int .u32 ox, .int .u32 oy, .int .i64 uk, .int .u32 um, .int .u32 ux] 80)) (fun _ _ => id))
        go_wp2_with fail
        clear f0 f1 f2 f3 f4 f5 f6 f7
        refine (rcas_run B base A l cp nv rk oc ox oy _ HP1.out).mono ?_
        intro e w3 hD
        obtain ⟨rfl, hO, nv2, hP⟩ := hD
        have HP2 := Lib.hid hP
        have HO2 := Lib.hid (HO1.out.trans hO)
        have HW2 := Lib.hid (HW1.out.away HP1.out.row (by decide) HA.out hO)
        clear hO hP
        go_wp2_with (first | (go_at_call 37; refine (bit_any _ _).mono ?_; rintro e w' ⟨rfl, rfl⟩) | (at_builtin; refine wp_app3 rfl (.tmp 104) (.tmp 110) rfl w.heap.size A3 n3 c3 outs rfl HLE.out (HW2.out.only ((Only.refl Nil _).alloc _) (fun _ _ => id)) _ (0) (bitI (there rk.xs oc && (wordAt rk.xs oc == ox))) (bitI false) rfl (Row.new _ _ _) HL1.out (by have h1 := HO2.out.size; simp; omega) ?_))
        intro A' n' c' w9 hn' hown hO
        have HP3 := Lib.hid ((HP2.out.keep ((Only.refl Nil _).alloc _)).away (HW2.out.only ((Only.refl Nil _).alloc _) (fun _ _ => id)) HA.out hO)
        have HO3 := Lib.hid ((HO2.out.alloc _).step hO (fun i hi e => by have := HW2.out.base i e; omega))
        have HWN := Lib.hid hown
        have HN3 := Lib.hid hn'
        clear hn' hown hO
        go_wp2
        exact ⟨⟨k + 1, A', n', c', by omega, by go_num, rfl, Lib.hid ⟨⟨_, by rw [HNX.out]; exact HP3.out⟩, by rw [HNX.out]; exact HWN.out, by rw [HNX.out, HN3.out]; dsimp only; rw [List.length_append]; rfl, HO3.out⟩⟩, by simp [intOf]; omega⟩
      by_cases h5 : ok = 5
      · subst h5
        clear h0 h1 h2 h3 h4
        have HNX := Lib.hid (show r.opsI (l0.take (k + 1)) = (rk.wait oc (uIs uk um ux), outs ++ [0, bitI (rk.stepR oc (uIs uk um ux)).seen, bitI (rk.stepR oc (uIs uk um ux)).done]) by rw [ops_next HOK.out, HKK.out]; rfl)
        have HP1 := Lib.hid (HP.out.keep ((Only.refl Nil wr).alloc (.cells #[.int .i64 5, .int .i64 oc, .int .i64 on, .int .u32 ox, .int .u32 oy, .int .i64 uk, .int .u32 um, .int .u32 ux] 80)))
        have HO1 := Lib.hid (HO.out.alloc (.cells #[.int .i64 5, .int .i64 oc, .int .i64 on, .int .u32 ox, .int .u32 oy, .int .i64 uk, .int .u32 um, .int .u32 ux] 80))
        have HW1 := Lib.hid (HW.out.only ((Only.refl Nil wr).alloc (.cells #[.int .i64 5, .int .i64 oc, .int .i64 on, .int .u32 ox, .int .u32 oy, .int .i64 uk, .int .u32 um, .int .u32 ux] 80)) (fun _ _ => id))
        go_wp2_with fail
        clear f0 f1 f2 f3 f4 f5 f6 f7
        refine (rwait_run B base A l cp nv rk oc uk um ux _ HP1.out HWK.out).mono ?_
        intro e w3 hD
        obtain ⟨rfl, hO, nv2, hP⟩ := hD
        have HP2 := Lib.hid hP
        have HO2 := Lib.hid (HO1.out.trans hO)
        have HW2 := Lib.hid (HW1.out.away HP1.out.row (by decide) HA.out hO)
        clear hO hP
        go_wp2_with (first | (go_at_call 37; refine (bit_any _ _).mono ?_; rintro e w' ⟨rfl, rfl⟩) | (at_builtin; refine wp_app3 rfl (.tmp 104) (.tmp 110) rfl w.heap.size A3 n3 c3 outs rfl HLE.out (HW2.out.only ((Only.refl Nil _).alloc _) (fun _ _ => id)) _ (0) (bitI (rk.stepR oc (uIs uk um ux)).seen) (bitI (rk.stepR oc (uIs uk um ux)).done) rfl (Row.new _ _ _) HL1.out (by have h1 := HO2.out.size; simp; omega) ?_))
        intro A' n' c' w9 hn' hown hO
        have HP3 := Lib.hid ((HP2.out.keep ((Only.refl Nil _).alloc _)).away (HW2.out.only ((Only.refl Nil _).alloc _) (fun _ _ => id)) HA.out hO)
        have HO3 := Lib.hid ((HO2.out.alloc _).step hO (fun i hi e => by have := HW2.out.base i e; omega))
        have HWN := Lib.hid hown
        have HN3 := Lib.hid hn'
        clear hn' hown hO
        go_wp2
        exact ⟨⟨k + 1, A', n', c', by omega, by go_num, rfl, Lib.hid ⟨⟨_, by rw [HNX.out]; exact HP3.out⟩, by rw [HNX.out]; exact HWN.out, by rw [HNX.out, HN3.out]; dsimp only; rw [List.length_append]; rfl, HO3.out⟩⟩, by simp [intOf]; omega⟩
      by_cases h6 : ok = 6
      · subst h6
        clear h0 h1 h2 h3 h4 h5
        have HNX := Lib.hid (show r.opsI (l0.take (k + 1)) = (rk.note on oc, outs ++ [0, bitI false, bitI false]) by rw [ops_next HOK.out, HKK.out]; rfl)
        have HP1 := Lib.hid (HP.out.keep ((Only.refl Nil wr).alloc (.cells #[.int .i64 6, .int .i64 oc, .int .i64 on, .int .u32 ox, .int .u32 oy, .int .i64 uk, .int .u32 um, .int .u32 ux] 80)))
        have HO1 := Lib.hid (HO.out.alloc (.cells #[.int .i64 6, .int .i64 oc, .int .i64 on, .int .u32 ox, .int .u32 oy, .int .i64 uk, .int .u32 um, .int .u32 ux] 80))
        have HW1 := Lib.hid (HW.out.only ((Only.refl Nil wr).alloc (.cells #[.int .i64 6, .int .i64 oc, .int .i64 on, .int .u32 ox, .int .u32 oy, .int .i64 uk, .int .u32 um, .int .u32 ux] 80)) (fun _ _ => id))
        go_wp2_with fail
        clear f0 f1 f2 f3 f4 f5 f6 f7
        refine (rnote_run B base A l cp nv rk on oc _ HP1.out HLN.out).mono ?_
        intro e w3 hD
        obtain ⟨rfl, hO, nv2, hP⟩ := hD
        have HP2 := Lib.hid hP
        have HO2 := Lib.hid (HO1.out.trans hO)
        have HW2 := Lib.hid (HW1.out.away HP1.out.row (by decide) HA.out hO)
        clear hO hP
        go_wp2_with (first | (go_at_call 37; refine (bit_any _ _).mono ?_; rintro e w' ⟨rfl, rfl⟩) | (at_builtin; refine wp_app3 rfl (.tmp 104) (.tmp 110) rfl w.heap.size A3 n3 c3 outs rfl HLE.out (HW2.out.only ((Only.refl Nil _).alloc _) (fun _ _ => id)) _ (0) (bitI false) (bitI false) rfl (Row.new _ _ _) HL1.out (by have h1 := HO2.out.size; simp; omega) ?_))
        intro A' n' c' w9 hn' hown hO
        have HP3 := Lib.hid ((HP2.out.keep ((Only.refl Nil _).alloc _)).away (HW2.out.only ((Only.refl Nil _).alloc _) (fun _ _ => id)) HA.out hO)
        have HO3 := Lib.hid ((HO2.out.alloc _).step hO (fun i hi e => by have := HW2.out.base i e; omega))
        have HWN := Lib.hid hown
        have HN3 := Lib.hid hn'
        clear hn' hown hO
        go_wp2
        exact ⟨⟨k + 1, A', n', c', by omega, by go_num, rfl, Lib.hid ⟨⟨_, by rw [HNX.out]; exact HP3.out⟩, by rw [HNX.out]; exact HWN.out, by rw [HNX.out, HN3.out]; dsimp only; rw [List.length_append]; rfl, HO3.out⟩⟩, by simp [intOf]; omega⟩
      by_cases h7 : ok = 7
      · subst h7
        clear h0 h1 h2 h3 h4 h5 h6
        have HNX := Lib.hid (show r.opsI (l0.take (k + 1)) = (rk.go on, outs ++ [0, bitI false, bitI false]) by rw [ops_next HOK.out, HKK.out]; rfl)
        have HP1 := Lib.hid (HP.out.keep ((Only.refl Nil wr).alloc (.cells #[.int .i64 7, .int .i64 oc, .int .i64 on, .int .u32 ox, .int .u32 oy, .int .i64 uk, .int .u32 um, .int .u32 ux] 80)))
        have HO1 := Lib.hid (HO.out.alloc (.cells #[.int .i64 7, .int .i64 oc, .int .i64 on, .int .u32 ox, .int .u32 oy, .int .i64 uk, .int .u32 um, .int .u32 ux] 80))
        have HW1 := Lib.hid (HW.out.only ((Only.refl Nil wr).alloc (.cells #[.int .i64 7, .int .i64 oc, .int .i64 on, .int .u32 ox, .int .u32 oy, .int .i64 uk, .int .u32 um, .int .u32 ux] 80)) (fun _ _ => id))
        have HP2 := Lib.hid (HP1.out.setLine on)
        have HO2 := Lib.hid (HO1.out.setCell (p := ⟨B, 5, none⟩) (.inr (.inl rfl)) (.int .i64 on))
        have HW2 := Lib.hid (HW1.out.away HP1.out.row (by decide) HA.out ((Only.refl (TurnB B A) _).setCell (p := ⟨B, 5, none⟩) (.inr (.inl rfl)) (.int .i64 on)))
        have d5 : (wr.alloc (.cells #[.int .i64 7, .int .i64 oc, .int .i64 on, .int .u32 ox, .int .u32 oy, .int .i64 uk, .int .u32 um, .int .u32 ux] 80)).cell? ⟨B, 5, none⟩ = some (.int .i64 rk.line) := HP1.out.row.cell_ (i := 5) rfl
        have e5 : (wr.alloc (.cells #[.int .i64 7, .int .i64 oc, .int .i64 on, .int .u32 ox, .int .u32 oy, .int .i64 uk, .int .u32 um, .int .u32 ux] 80)).frozen? ⟨B, 5, none⟩ = false := HP1.out.row.frozen 5
        go_upto_region 28 with (fail)
        clear d5 e5 f0 f1 f2 f3 f4 f5 f6 f7
        generalize ((wr.alloc (.cells #[.int .i64 7, .int .i64 oc, .int .i64 on, .int .u32 ox, .int .u32 oy, .int .i64 uk, .int .u32 um, .int .u32 ux] 80)).setCell ⟨B, 5, none⟩ (.int .i64 on)) = w3 at *
        go_wp2_with (first | (go_at_call 37; refine (bit_any _ _).mono ?_; rintro e w' ⟨rfl, rfl⟩) | (at_builtin; refine wp_app3 rfl (.tmp 104) (.tmp 110) rfl w.heap.size A3 n3 c3 outs rfl HLE.out (HW2.out.only ((Only.refl Nil _).alloc _) (fun _ _ => id)) _ (0) (bitI false) (bitI false) rfl (Row.new _ _ _) HL1.out (by have h1 := HO2.out.size; simp; omega) ?_))
        intro A' n' c' w9 hn' hown hO
        have HP3 := Lib.hid ((HP2.out.keep ((Only.refl Nil _).alloc _)).away (HW2.out.only ((Only.refl Nil _).alloc _) (fun _ _ => id)) HA.out hO)
        have HO3 := Lib.hid ((HO2.out.alloc _).step hO (fun i hi e => by have := HW2.out.base i e; omega))
        have HWN := Lib.hid hown
        have HN3 := Lib.hid hn'
        clear hn' hown hO
        go_wp2
        exact ⟨⟨k + 1, A', n', c', by omega, by go_num, rfl, Lib.hid ⟨⟨_, by rw [HNX.out]; exact HP3.out⟩, by rw [HNX.out]; exact HWN.out, by rw [HNX.out, HN3.out]; dsimp only; rw [List.length_append]; rfl, HO3.out⟩⟩, by simp [intOf]; omega⟩
      by_cases h8 : ok = 8
      · subst h8
        clear h0 h1 h2 h3 h4 h5 h6 h7
        have HNX := Lib.hid (show r.opsI (l0.take (k + 1)) = (rk.fin (ox % 2 == 0), outs ++ [0, bitI false, bitI false]) by rw [ops_next HOK.out, HKK.out]; rfl)
        have HP1 := Lib.hid (HP.out.keep ((Only.refl Nil wr).alloc (.cells #[.int .i64 8, .int .i64 oc, .int .i64 on, .int .u32 ox, .int .u32 oy, .int .i64 uk, .int .u32 um, .int .u32 ux] 80)))
        have HO1 := Lib.hid (HO.out.alloc (.cells #[.int .i64 8, .int .i64 oc, .int .i64 on, .int .u32 ox, .int .u32 oy, .int .i64 uk, .int .u32 um, .int .u32 ux] 80))
        have HW1 := Lib.hid (HW.out.only ((Only.refl Nil wr).alloc (.cells #[.int .i64 8, .int .i64 oc, .int .i64 on, .int .u32 ox, .int .u32 oy, .int .i64 uk, .int .u32 um, .int .u32 ux] 80)) (fun _ _ => id))
        go_wp2_with fail
        clear f0 f1 f2 f3 f4 f5 f6 f7
        refine (rend_run B base A l cp nv rk _ _ HP1.out).mono ?_
        intro e w3 hD
        obtain ⟨rfl, hO, nv2, hP⟩ := hD
        have HP2 := Lib.hid hP
        have HO2 := Lib.hid (HO1.out.trans hO)
        have HW2 := Lib.hid (HW1.out.away HP1.out.row (by decide) HA.out hO)
        clear hO hP
        go_wp2_with (first | (go_at_call 37; refine (bit_any _ _).mono ?_; rintro e w' ⟨rfl, rfl⟩) | (at_builtin; refine wp_app3 rfl (.tmp 104) (.tmp 110) rfl w.heap.size A3 n3 c3 outs rfl HLE.out (HW2.out.only ((Only.refl Nil _).alloc _) (fun _ _ => id)) _ (0) (bitI false) (bitI false) rfl (Row.new _ _ _) HL1.out (by have h1 := HO2.out.size; simp; omega) ?_))
        intro A' n' c' w9 hn' hown hO
        have HP3 := Lib.hid ((HP2.out.keep ((Only.refl Nil _).alloc _)).away (HW2.out.only ((Only.refl Nil _).alloc _) (fun _ _ => id)) HA.out hO)
        have HO3 := Lib.hid ((HO2.out.alloc _).step hO (fun i hi e => by have := HW2.out.base i e; omega))
        have HWN := Lib.hid hown
        have HN3 := Lib.hid hn'
        clear hn' hown hO
        go_wp2
        exact ⟨⟨k + 1, A', n', c', by omega, by go_num, rfl, Lib.hid ⟨⟨_, by rw [HNX.out]; exact HP3.out⟩, by rw [HNX.out]; exact HWN.out, by rw [HNX.out, HN3.out]; dsimp only; rw [List.length_append]; rfl, HO3.out⟩⟩, by simp [intOf]; omega⟩
      by_cases h9 : ok = 9
      · subst h9
        clear h0 h1 h2 h3 h4 h5 h6 h7 h8
        have HNX := Lib.hid (show r.opsI (l0.take (k + 1)) = (rk.wake oc, outs ++ [0, bitI false, bitI false]) by rw [ops_next HOK.out, HKK.out]; rfl)
        have HP1 := Lib.hid (HP.out.keep ((Only.refl Nil wr).alloc (.cells #[.int .i64 9, .int .i64 oc, .int .i64 on, .int .u32 ox, .int .u32 oy, .int .i64 uk, .int .u32 um, .int .u32 ux] 80)))
        have HO1 := Lib.hid (HO.out.alloc (.cells #[.int .i64 9, .int .i64 oc, .int .i64 on, .int .u32 ox, .int .u32 oy, .int .i64 uk, .int .u32 um, .int .u32 ux] 80))
        have HW1 := Lib.hid (HW.out.only ((Only.refl Nil wr).alloc (.cells #[.int .i64 9, .int .i64 oc, .int .i64 on, .int .u32 ox, .int .u32 oy, .int .i64 uk, .int .u32 um, .int .u32 ux] 80)) (fun _ _ => id))
        go_wp2_with fail
        clear f0 f1 f2 f3 f4 f5 f6 f7
        refine (rwake_run B base A l cp nv rk oc _ HP1.out).mono ?_
        intro e w3 hD
        obtain ⟨rfl, hO, nv2, hP⟩ := hD
        have HP2 := Lib.hid hP
        have HO2 := Lib.hid (HO1.out.trans hO)
        have HW2 := Lib.hid (HW1.out.away HP1.out.row (by decide) HA.out hO)
        clear hO hP
        go_wp2_with (first | (go_at_call 37; refine (bit_any _ _).mono ?_; rintro e w' ⟨rfl, rfl⟩) | (at_builtin; refine wp_app3 rfl (.tmp 104) (.tmp 110) rfl w.heap.size A3 n3 c3 outs rfl HLE.out (HW2.out.only ((Only.refl Nil _).alloc _) (fun _ _ => id)) _ (0) (bitI false) (bitI false) rfl (Row.new _ _ _) HL1.out (by have h1 := HO2.out.size; simp; omega) ?_))
        intro A' n' c' w9 hn' hown hO
        have HP3 := Lib.hid ((HP2.out.keep ((Only.refl Nil _).alloc _)).away (HW2.out.only ((Only.refl Nil _).alloc _) (fun _ _ => id)) HA.out hO)
        have HO3 := Lib.hid ((HO2.out.alloc _).step hO (fun i hi e => by have := HW2.out.base i e; omega))
        have HWN := Lib.hid hown
        have HN3 := Lib.hid hn'
        clear hn' hown hO
        go_wp2
        exact ⟨⟨k + 1, A', n', c', by omega, by go_num, rfl, Lib.hid ⟨⟨_, by rw [HNX.out]; exact HP3.out⟩, by rw [HNX.out]; exact HWN.out, by rw [HNX.out, HN3.out]; dsimp only; rw [List.length_append]; rfl, HO3.out⟩⟩, by simp [intOf]; omega⟩
      have HNX := Lib.hid (show r.opsI (l0.take (k + 1)) = (rk, outs ++ [0, bitI false, bitI false]) by rw [ops_next HOK.out, HKK.out]; unfold opNext LS.opR OpR.out; dsimp only; rw [if_neg h0, if_neg h1, if_neg h2, if_neg h3, if_neg h4, if_neg h5, if_neg h6, if_neg h7, if_neg h8, if_neg h9])
      have b0 := beq_eq_false_iff_ne.2 h0
      have b1 := beq_eq_false_iff_ne.2 h1
      have b2 := beq_eq_false_iff_ne.2 h2
      have b3 := beq_eq_false_iff_ne.2 h3
      have b4 := beq_eq_false_iff_ne.2 h4
      have b5 := beq_eq_false_iff_ne.2 h5
      have b6 := beq_eq_false_iff_ne.2 h6
      have b7 := beq_eq_false_iff_ne.2 h7
      have b8 := beq_eq_false_iff_ne.2 h8
      have b9 := beq_eq_false_iff_ne.2 h9
      clear h0 h1 h2 h3 h4 h5 h6 h7 h8 h9
      have HP2 := Lib.hid (HP.out.keep ((Only.refl Nil wr).alloc (.cells #[.int .i64 ok, .int .i64 oc, .int .i64 on, .int .u32 ox, .int .u32 oy, .int .i64 uk, .int .u32 um, .int .u32 ux] 80)))
      have HO2 := Lib.hid (HO.out.alloc (.cells #[.int .i64 ok, .int .i64 oc, .int .i64 on, .int .u32 ox, .int .u32 oy, .int .i64 uk, .int .u32 um, .int .u32 ux] 80))
      have HW2 := Lib.hid (HW.out.only ((Only.refl Nil wr).alloc (.cells #[.int .i64 ok, .int .i64 oc, .int .i64 on, .int .u32 ox, .int .u32 oy, .int .i64 uk, .int .u32 um, .int .u32 ux] 80)) (fun _ _ => id))
      go_upto_region 28 with (fail)
      clear f0 f1 f2 f3 f4 f5 f6 f7 b0 b1 b2 b3 b4 b5 b6 b7 b8 b9
      generalize wr.alloc (.cells #[.int .i64 ok, .int .i64 oc, .int .i64 on, .int .u32 ox, .int .u32 oy, .int .i64 uk, .int .u32 um, .int .u32 ux] 80) = w3 at *
      go_wp2_with (first | (go_at_call 37; refine (bit_any _ _).mono ?_; rintro e w' ⟨rfl, rfl⟩) | (at_builtin; refine wp_app3 rfl (.tmp 104) (.tmp 110) rfl w.heap.size A3 n3 c3 outs rfl HLE.out (HW2.out.only ((Only.refl Nil _).alloc _) (fun _ _ => id)) _ (0) (bitI false) (bitI false) rfl (Row.new _ _ _) HL1.out (by have h1 := HO2.out.size; simp; omega) ?_))
      intro A' n' c' w9 hn' hown hO
      have HP3 := Lib.hid ((HP2.out.keep ((Only.refl Nil _).alloc _)).away (HW2.out.only ((Only.refl Nil _).alloc _) (fun _ _ => id)) HA.out hO)
      have HO3 := Lib.hid ((HO2.out.alloc _).step hO (fun i hi e => by have := HW2.out.base i e; omega))
      have HWN := Lib.hid hown
      have HN3 := Lib.hid hn'
      clear hn' hown hO
      go_wp2
      exact ⟨⟨k + 1, A', n', c', by omega, by go_num, rfl, Lib.hid ⟨⟨_, by rw [HNX.out]; exact HP3.out⟩, by rw [HNX.out]; exact HWN.out, by rw [HNX.out, HN3.out]; dsimp only; rw [List.length_append]; rfl, HO3.out⟩⟩, by simp [intOf]; omega⟩
    · obtain rfl : k = m := by omega
      have HE := Lib.hid (show l0.take k = l0 from List.take_of_length_le (by rw [HML.out]; exact Nat.le_refl _))
      clear hlt hk
      obtain ⟨⟨nv, hP⟩, hown, hlen, hO⟩ := HC.out
      rw [HE.out] at hP hown hlen
      subst hlen
      have HP := Lib.hid hP
      have HW := Lib.hid hown
      have HO := Lib.hid hO
      clear HC hP hown hO
      go_wp2
      go_ret
      exact ⟨A3, c3, rfl, HW.out, HO.out, nv, HP.out⟩
end Go.Proofs.Ytomgjamojeejbaa
/- A run's Waking, the answer's. -/
set_option linter.unusedVariables false
set_option linter.unusedSimpArgs false
namespace Go.Proofs.Ytomgjamojeejbaa
open Go.RowKit

theorem RunR.reset {w : World} {B base : Nat} {A : Option Addr} {l cp : Nat} {nv : Value} {r : LS} (h : RunR w B base A l cp nv r) :
    RunR ((((((w.setCell ⟨B, 14, none⟩ (.int .i64 0)).setCell ⟨B, 15, none⟩ (.int .i64 0)).setCell ⟨B, 16, none⟩ (.int .u32 0)).setCell ⟨B, 17, none⟩ (.int .u32 0)).setCell ⟨B, 18, none⟩ (.int .u32 0)).setCell ⟨B, 19, none⟩ (.slice none 0 0)) B base A l cp (.slice none 0 0) r.fresh :=
  (h.setAcc acc0).setNotes (ownN_nil _ _)

theorem rwaking_off (B base : Nat) (A : Option Addr) (l cp : Nat) (nv : Value) (r : LS) (w : World) (h : RunR w B base A l cp nv r) (hon : r.k.on = false) :
    Calls Try.prog 11 #[.pointer (some ⟨B, 0, none⟩)] w (DoneR B base A l cp w (.bool false) r.fresh) := by
  have HON := Lib.hid hon
  have a14 : w.cell? ⟨B, 14, none⟩ = some (.int .i64 r.acc.k) := h.row.cell_ (i := 14) rfl
  have a15 : w.cell? ⟨B, 15, none⟩ = some (.int .i64 r.acc.c) := h.row.cell_ (i := 15) rfl
  have a16 : w.cell? ⟨B, 16, none⟩ = some (.int .u32 r.acc.x) := h.row.cell_ (i := 16) rfl
  have a17 : w.cell? ⟨B, 17, none⟩ = some (.int .u32 r.acc.y) := h.row.cell_ (i := 17) rfl
  have a18 : w.cell? ⟨B, 18, none⟩ = some (.int .u32 r.acc.o) := h.row.cell_ (i := 18) rfl
  have a19 : w.cell? ⟨B, 19, none⟩ = some (nv) := h.row.cell_ (i := 19) rfl
  have f14 : w.frozen? ⟨B, 14, none⟩ = false := h.row.frozen 14
  have f15 : w.frozen? ⟨B, 15, none⟩ = false := h.row.frozen 15
  have f16 : w.frozen? ⟨B, 16, none⟩ = false := h.row.frozen 16
  have f17 : w.frozen? ⟨B, 17, none⟩ = false := h.row.frozen 17
  have f18 : w.frozen? ⟨B, 18, none⟩ = false := h.row.frozen 18
  have f19 : w.frozen? ⟨B, 19, none⟩ = false := h.row.frozen 19
  have HP0 := Lib.hid h.reset
  have HO0 := Lib.hid (reset_only (Only.refl (TurnB B A) w) (B := B) (.inl rfl))
  clear h hon
  go_enter Try.func11, Try.ntmps11
  go_upto_region 3 with (fail)
  clear a14 a15 a16 a17 a18 a19 f14 f15 f16 f17 f18 f19
  generalize ((((((w.setCell ⟨B, 14, none⟩ (.int .i64 0)).setCell ⟨B, 15, none⟩ (.int .i64 0)).setCell ⟨B, 16, none⟩ (.int .u32 0)).setCell ⟨B, 17, none⟩ (.int .u32 0)).setCell ⟨B, 18, none⟩ (.int .u32 0)).setCell ⟨B, 19, none⟩ (.slice none 0 0)) = w1 at *
  have c9 : w1.cell? ⟨B, 9, none⟩ = some (.bool r.k.on) := HP0.out.row.cell_ (i := 9) rfl
  rw [HON.out] at c9
  go_wp2
  go_ret
  exact ⟨rfl, HO0.out, _, HP0.out⟩

set_option maxRecDepth 100000 in
set_option maxHeartbeats 1000000 in
theorem rwaking_on (B base : Nat) (A : Option Addr) (l cp : Nat) (nv : Value) (r : LS) (w : World) (h : RunR w B base A l cp nv r) (hon : r.k.on = true) :
    Calls Try.prog 11 #[.pointer (some ⟨B, 0, none⟩)] w (DoneR B base A l cp w (.bool true) r.waking) := by
  have hacc := ofV_wake r.xs r.n r.k.on r.k.c r.k.i r.k.hit
  rw [show r.waking = { r.fresh with acc := ofV (wakeI r.xs r.n r.k.on r.k.c r.k.i r.k.hit).acc, k := (wakeI r.xs r.n r.k.on r.k.c r.k.i r.k.hit).next, xs := (wakeI r.xs r.n r.k.on r.k.c r.k.i r.k.hit).xs } from rfl]
  have hzl : (wakeI r.xs r.n r.k.on r.k.c r.k.i r.k.hit).xs.length = l := by
    rw [← h.len]
    unfold wakeI giveI lookI restI
    repeat' split
    all_goals first | rfl | exact st_len _ _ _
  generalize hst : wakeI r.xs r.n r.k.on r.k.c r.k.i r.k.hit = t at *
  obtain ⟨nx, ac, zs⟩ := t
  dsimp only at hacc hzl ⊢
  generalize ha5 : ofV ac = a5 at *
  have HST := Lib.hid hst
  have HAC := Lib.hid hacc
  have HZL := Lib.hid hzl
  clear hst hacc hzl ha5
  have HON := Lib.hid hon
  have a14 : w.cell? ⟨B, 14, none⟩ = some (.int .i64 r.acc.k) := h.row.cell_ (i := 14) rfl
  have a15 : w.cell? ⟨B, 15, none⟩ = some (.int .i64 r.acc.c) := h.row.cell_ (i := 15) rfl
  have a16 : w.cell? ⟨B, 16, none⟩ = some (.int .u32 r.acc.x) := h.row.cell_ (i := 16) rfl
  have a17 : w.cell? ⟨B, 17, none⟩ = some (.int .u32 r.acc.y) := h.row.cell_ (i := 17) rfl
  have a18 : w.cell? ⟨B, 18, none⟩ = some (.int .u32 r.acc.o) := h.row.cell_ (i := 18) rfl
  have a19 : w.cell? ⟨B, 19, none⟩ = some (nv) := h.row.cell_ (i := 19) rfl
  have f14 : w.frozen? ⟨B, 14, none⟩ = false := h.row.frozen 14
  have f15 : w.frozen? ⟨B, 15, none⟩ = false := h.row.frozen 15
  have f16 : w.frozen? ⟨B, 16, none⟩ = false := h.row.frozen 16
  have f17 : w.frozen? ⟨B, 17, none⟩ = false := h.row.frozen 17
  have f18 : w.frozen? ⟨B, 18, none⟩ = false := h.row.frozen 18
  have f19 : w.frozen? ⟨B, 19, none⟩ = false := h.row.frozen 19
  have HP0 := Lib.hid h.reset
  have HO0 := Lib.hid (reset_only (Only.refl (TurnB B A) w) (B := B) (.inl rfl))
  clear h hon
  go_enter Try.func11, Try.ntmps11
  go_upto_region 3 with (fail)
  clear a14 a15 a16 a17 a18 a19 f14 f15 f16 f17 f18 f19
  generalize ((((((w.setCell ⟨B, 14, none⟩ (.int .i64 0)).setCell ⟨B, 15, none⟩ (.int .i64 0)).setCell ⟨B, 16, none⟩ (.int .u32 0)).setCell ⟨B, 17, none⟩ (.int .u32 0)).setCell ⟨B, 18, none⟩ (.int .u32 0)).setCell ⟨B, 19, none⟩ (.slice none 0 0)) = w1 at *
  have c9 : w1.cell? ⟨B, 9, none⟩ = some (.bool r.k.on) := HP0.out.row.cell_ (i := 9) rfl
  rw [HON.out] at c9
  go_upto_region 5 with (fail)
  clear c9
  have HQ : r.fresh.xs = r.xs ∧ r.fresh.n = r.n ∧ r.fresh.k = r.k := ⟨rfl, rfl, rfl⟩
  have HQ2 := Lib.hid HQ
  clear HQ
  refine wp_region_phase (n := 26) 15 (fun w => w.cell? ⟨B, 0, none⟩ = some (.slice A l cp) ∧ w.cell? ⟨B, 1, none⟩ = some (.int .i64 r.n) ∧ w.cell? ⟨B, 9, none⟩ = some (.bool r.k.on) ∧ w.cell? ⟨B, 10, none⟩ = some (.int .i64 r.k.c) ∧ w.cell? ⟨B, 11, none⟩ = some (.int .i64 r.k.i) ∧ w.cell? ⟨B, 12, none⟩ = some (.bool r.k.hit)) rfl (by kernel_rfl)
    ⟨HP0.out.row.cell_ (i := 0) rfl, HP0.out.row.cell_ (i := 1) rfl, HP0.out.row.cell_ (i := 9) rfl, HP0.out.row.cell_ (i := 10) rfl, HP0.out.row.cell_ (i := 11) rfl, HP0.out.row.cell_ (i := 12) rfl⟩ (fun hHeld => ?_)
  have HP1 := Lib.hid (HP0.out.keep (Only.refl Nil w1).drew)
  have HO1 := Lib.hid HO0.out.drew
  clear HP0 HO0
  generalize w1.drew = w2 at *
  refine pa_0 rfl rfl (.pointer (some ⟨B, 0, none⟩)) (by kernel_rfl) (by kernel_rfl) (by kernel_rfl) (by decide) (by kernel_rfl) (fun _ _ _ h => h) (by rfl) (fun w => ?_) (by first | (right; assumption) | (left; kernel_rfl)) ?_
  · go_simp
  (try simp only [Act.put, List.setIfInBounds_toArray, List.set_cons_zero, List.set_cons_succ])
  refine pa_1 rfl rfl (.pointer (some ⟨B, 0, none⟩)) (by kernel_rfl) (by kernel_rfl) (by kernel_rfl) (by decide) (by kernel_rfl) (fun _ _ _ h => h) (by rfl) (fun w => ?_) (by first | (right; assumption) | (left; kernel_rfl)) ?_
  · go_simp
  (try simp only [Act.put, List.setIfInBounds_toArray, List.set_cons_zero, List.set_cons_succ])
  refine pa_2 rfl rfl (.pointer (some ⟨B, 0, none⟩)) (by kernel_rfl) (by kernel_rfl) (by kernel_rfl) (by decide) (by kernel_rfl) (fun _ _ _ h => h) (by rfl) (fun w => ?_) (by first | (right; assumption) | (left; kernel_rfl)) ?_
  · go_simp
  (try simp only [Act.put, List.setIfInBounds_toArray, List.set_cons_zero, List.set_cons_succ])
  refine pa_3 rfl rfl (.pointer (some ⟨B, 0, none⟩)) (by kernel_rfl) (by kernel_rfl) (by kernel_rfl) (by decide) (by kernel_rfl) (fun _ _ _ h => h) (by rfl) (fun w => ?_) (by first | (right; assumption) | (left; kernel_rfl)) ?_
  · go_simp
  (try simp only [Act.put, List.setIfInBounds_toArray, List.set_cons_zero, List.set_cons_succ])
  refine pa_4 rfl rfl (.pointer (some ⟨B, 0, none⟩)) (by kernel_rfl) (by kernel_rfl) (by kernel_rfl) (by decide) (by kernel_rfl) (fun _ _ _ h => h) (by rfl) (fun w => ?_) (by first | (right; assumption) | (left; kernel_rfl)) ?_
  · go_simp
  (try simp only [Act.put, List.setIfInBounds_toArray, List.set_cons_zero, List.set_cons_succ])
  refine pt_5 rfl rfl 9 (.slice A l cp) (by kernel_rfl) (by kernel_rfl) (by kernel_rfl) (by kernel_rfl) (by kernel_rfl) (fun _ _ _ h => h) (by rfl) (fun w hSw => ?_) (by assumption) ?_
  · (try dsimp only at hSw)
    go_split_ands
    go_simp
  (try simp only [Act.put, List.setIfInBounds_toArray, List.set_cons_zero, List.set_cons_succ])
  refine pa_6 rfl rfl (.pointer (some ⟨B, 0, none⟩)) (by kernel_rfl) (by kernel_rfl) (by kernel_rfl) (by decide) (by kernel_rfl) (fun _ _ _ h => h) (by rfl) (fun w => ?_) (by first | (right; assumption) | (left; kernel_rfl)) ?_
  · go_simp
  (try simp only [Act.put, List.setIfInBounds_toArray, List.set_cons_zero, List.set_cons_succ])
  refine pa_7 rfl rfl (.pointer (some ⟨B, 0, none⟩)) (by kernel_rfl) (by kernel_rfl) (by kernel_rfl) (by decide) (by kernel_rfl) (fun _ _ _ h => h) (by rfl) (fun w => ?_) (by first | (right; assumption) | (left; kernel_rfl)) ?_
  · go_simp
  (try simp only [Act.put, List.setIfInBounds_toArray, List.set_cons_zero, List.set_cons_succ])
  refine pa_8 rfl rfl (.pointer (some ⟨B, 1, none⟩)) (by kernel_rfl) (by kernel_rfl) (by kernel_rfl) (by decide) (by kernel_rfl) (fun _ _ _ h => h) (by rfl) (fun w => ?_) (by first | (right; assumption) | (left; kernel_rfl)) ?_
  · go_simp
  (try simp only [Act.put, List.setIfInBounds_toArray, List.set_cons_zero, List.set_cons_succ])
  refine pt_9 rfl rfl 9 (.int .i64 r.n) (by kernel_rfl) (by kernel_rfl) (by kernel_rfl) (by kernel_rfl) (by kernel_rfl) (fun _ _ _ h => h) (by rfl) (fun w hSw => ?_) (by assumption) ?_
  · (try dsimp only at hSw)
    go_split_ands
    go_simp
  (try simp only [Act.put, List.setIfInBounds_toArray, List.set_cons_zero, List.set_cons_succ])
  refine pa_10 rfl rfl (.pointer (some ⟨B, 0, none⟩)) (by kernel_rfl) (by kernel_rfl) (by kernel_rfl) (by decide) (by kernel_rfl) (fun _ _ _ h => h) (by rfl) (fun w => ?_) (by first | (right; assumption) | (left; kernel_rfl)) ?_
  · go_simp
  (try simp only [Act.put, List.setIfInBounds_toArray, List.set_cons_zero, List.set_cons_succ])
  refine pa_11 rfl rfl (.pointer (some ⟨B, 0, none⟩)) (by kernel_rfl) (by kernel_rfl) (by kernel_rfl) (by decide) (by kernel_rfl) (fun _ _ _ h => h) (by rfl) (fun w => ?_) (by first | (right; assumption) | (left; kernel_rfl)) ?_
  · go_simp
  (try simp only [Act.put, List.setIfInBounds_toArray, List.set_cons_zero, List.set_cons_succ])
  refine pa_12 rfl rfl (.pointer (some ⟨B, 4, none⟩)) (by kernel_rfl) (by kernel_rfl) (by kernel_rfl) (by decide) (by kernel_rfl) (fun _ _ _ h => h) (by rfl) (fun w => ?_) (by first | (right; assumption) | (left; kernel_rfl)) ?_
  · go_simp
  (try simp only [Act.put, List.setIfInBounds_toArray, List.set_cons_zero, List.set_cons_succ])
  refine pa_13 rfl rfl (.pointer (some ⟨B, 9, none⟩)) (by kernel_rfl) (by kernel_rfl) (by kernel_rfl) (by decide) (by kernel_rfl) (fun _ _ _ h => h) (by rfl) (fun w => ?_) (by first | (right; assumption) | (left; kernel_rfl)) ?_
  · go_simp
  (try simp only [Act.put, List.setIfInBounds_toArray, List.set_cons_zero, List.set_cons_succ])
  refine pt_14 rfl rfl 9 (.agg #[.bool r.k.on, .int .i64 r.k.c, .int .i64 r.k.i, .bool r.k.hit]) (by kernel_rfl) (by kernel_rfl) (by kernel_rfl) (by kernel_rfl) (by kernel_rfl) (fun _ _ _ h => h) (by rfl) (fun w hSw => ?_) (by assumption) ?_
  · (try dsimp only at hSw)
    go_split_ands
    go_simp
  (try simp only [Act.put, List.setIfInBounds_toArray, List.set_cons_zero, List.set_cons_succ])
  refine pc_15 rfl rfl (by kernel_rfl) (by rfl) (fun K hK => ?_)
  go_simp
  refine (rwake_any base A l cp r.xs r.n r.k.on r.k.c r.k.i r.k.hit _ HP1.out.own HP1.out.len).mono ?_
  rw [HST.out]
  intro e w3 hF
  obtain ⟨rfl, hO, hM⟩ := hF
  dsimp only at hM ⊢
  rw [HAC.out]
  clear HAC
  dsimp only [Acc5.v, WkV.v]
  have HP2 := Lib.hid (HP1.out.call hO hM HZL.out)
  have HO2 := Lib.hid (HO1.out.trans hO.turned2)
  refine hK.out _ _ (.inl (by kernel_rfl)) ?_
  clear hK K hHeld hO hM HP1 HO1
  (try simp only [Act.put, List.setIfInBounds_toArray, List.set_cons_zero, List.set_cons_succ])
  refine pa_16 rfl rfl (.tuple #[.agg #[.bool nx.on, .int .i64 nx.c, .int .i64 nx.i, .bool nx.hit], .agg #[.int .i64 a5.k, .int .i64 a5.c, .int .u32 a5.x, .int .u32 a5.y, .int .u32 a5.o]]) (by kernel_rfl) (by kernel_rfl) (by kernel_rfl) (by decide) (by kernel_rfl) (fun _ _ _ h => h) (by rfl) (fun w => ?_) (by first | (right; assumption) | (left; kernel_rfl)) ?_
  · go_simp
  (try simp only [Act.put, List.setIfInBounds_toArray, List.set_cons_zero, List.set_cons_succ])
  refine pa_17 rfl rfl (.agg #[.bool nx.on, .int .i64 nx.c, .int .i64 nx.i, .bool nx.hit]) (by kernel_rfl) (by kernel_rfl) (by kernel_rfl) (by decide) (by kernel_rfl) (fun _ _ _ h => h) (by rfl) (fun w => ?_) (by first | (right; assumption) | (left; kernel_rfl)) ?_
  · go_simp
  (try simp only [Act.put, List.setIfInBounds_toArray, List.set_cons_zero, List.set_cons_succ])
  refine pa_18 rfl rfl (.agg #[.int .i64 a5.k, .int .i64 a5.c, .int .u32 a5.x, .int .u32 a5.y, .int .u32 a5.o]) (by kernel_rfl) (by kernel_rfl) (by kernel_rfl) (by decide) (by kernel_rfl) (fun _ _ _ h => h) (by rfl) (fun w => ?_) (by first | (right; assumption) | (left; kernel_rfl)) ?_
  · go_simp
  (try simp only [Act.put, List.setIfInBounds_toArray, List.set_cons_zero, List.set_cons_succ])
  refine pa_19 rfl rfl (.pointer (some ⟨B, 0, none⟩)) (by kernel_rfl) (by kernel_rfl) (by kernel_rfl) (by decide) (by kernel_rfl) (fun _ _ _ h => h) (by rfl) (fun w => ?_) (by first | (right; assumption) | (left; kernel_rfl)) ?_
  · go_simp
  (try simp only [Act.put, List.setIfInBounds_toArray, List.set_cons_zero, List.set_cons_succ])
  refine pa_20 rfl rfl (.pointer (some ⟨B, 4, none⟩)) (by kernel_rfl) (by kernel_rfl) (by kernel_rfl) (by decide) (by kernel_rfl) (fun _ _ _ h => h) (by rfl) (fun w => ?_) (by first | (right; assumption) | (left; kernel_rfl)) ?_
  · go_simp
  (try simp only [Act.put, List.setIfInBounds_toArray, List.set_cons_zero, List.set_cons_succ])
  refine pa_21 rfl rfl (.pointer (some ⟨B, 9, none⟩)) (by kernel_rfl) (by kernel_rfl) (by kernel_rfl) (by decide) (by kernel_rfl) (fun _ _ _ h => h) (by rfl) (fun w => ?_) (by first | (right; assumption) | (left; kernel_rfl)) ?_
  · go_simp
  (try simp only [Act.put, List.setIfInBounds_toArray, List.set_cons_zero, List.set_cons_succ])
  have a9 : w3.cell? ⟨B, 9, none⟩ = some (.bool r.k.on) := HP2.out.row.cell_ (i := 9) rfl
  have a10 : w3.cell? ⟨B, 10, none⟩ = some (.int .i64 r.k.c) := HP2.out.row.cell_ (i := 10) rfl
  have a11 : w3.cell? ⟨B, 11, none⟩ = some (.int .i64 r.k.i) := HP2.out.row.cell_ (i := 11) rfl
  have a12 : w3.cell? ⟨B, 12, none⟩ = some (.bool r.k.hit) := HP2.out.row.cell_ (i := 12) rfl
  have f9 : w3.frozen? ⟨B, 9, none⟩ = false := HP2.out.row.frozen 9
  have f10 : w3.frozen? ⟨B, 10, none⟩ = false := HP2.out.row.frozen 10
  have f11 : w3.frozen? ⟨B, 11, none⟩ = false := HP2.out.row.frozen 11
  have f12 : w3.frozen? ⟨B, 12, none⟩ = false := HP2.out.row.frozen 12
  refine pc_22 rfl rfl (by kernel_rfl) (by rfl) (fun K hK => ?_)
  go_simp
  have HP3 := Lib.hid (HP2.out.setWake nx)
  have HO3 := Lib.hid (set_wake_only HO2.out (B := B) (.inl rfl) (.bool nx.on) (.int .i64 nx.c) (.int .i64 nx.i) (.bool nx.hit))
  refine hK.out _ _ (.inl (by kernel_rfl)) ?_
  clear hK K a9 a10 a11 a12 f9 f10 f11 f12 HP2 HO2
  generalize (((w3.setCell ⟨B, 9, none⟩ (.bool nx.on)).setCell ⟨B, 10, none⟩ (.int .i64 nx.c)).setCell ⟨B, 11, none⟩ (.int .i64 nx.i)).setCell ⟨B, 12, none⟩ (.bool nx.hit) = w4 at *
  (try simp only [Act.put, List.setIfInBounds_toArray, List.set_cons_zero, List.set_cons_succ])
  refine pa_23 rfl rfl (.pointer (some ⟨B, 0, none⟩)) (by kernel_rfl) (by kernel_rfl) (by kernel_rfl) (by decide) (by kernel_rfl) (fun _ _ _ h => h) (by rfl) (fun w => ?_) (by first | (right; assumption) | (left; kernel_rfl)) ?_
  · go_simp
  (try simp only [Act.put, List.setIfInBounds_toArray, List.set_cons_zero, List.set_cons_succ])
  refine pa_24 rfl rfl (.pointer (some ⟨B, 14, none⟩)) (by kernel_rfl) (by kernel_rfl) (by kernel_rfl) (by decide) (by kernel_rfl) (fun _ _ _ h => h) (by rfl) (fun w => ?_) (by first | (right; assumption) | (left; kernel_rfl)) ?_
  · go_simp
  (try simp only [Act.put, List.setIfInBounds_toArray, List.set_cons_zero, List.set_cons_succ])
  have b14 : w4.cell? ⟨B, 14, none⟩ = some (.int .i64 0) := HP3.out.row.cell_ (i := 14) rfl
  have b15 : w4.cell? ⟨B, 15, none⟩ = some (.int .i64 0) := HP3.out.row.cell_ (i := 15) rfl
  have b16 : w4.cell? ⟨B, 16, none⟩ = some (.int .u32 0) := HP3.out.row.cell_ (i := 16) rfl
  have b17 : w4.cell? ⟨B, 17, none⟩ = some (.int .u32 0) := HP3.out.row.cell_ (i := 17) rfl
  have b18 : w4.cell? ⟨B, 18, none⟩ = some (.int .u32 0) := HP3.out.row.cell_ (i := 18) rfl
  have f14 : w4.frozen? ⟨B, 14, none⟩ = false := HP3.out.row.frozen 14
  have f15 : w4.frozen? ⟨B, 15, none⟩ = false := HP3.out.row.frozen 15
  have f16 : w4.frozen? ⟨B, 16, none⟩ = false := HP3.out.row.frozen 16
  have f17 : w4.frozen? ⟨B, 17, none⟩ = false := HP3.out.row.frozen 17
  have f18 : w4.frozen? ⟨B, 18, none⟩ = false := HP3.out.row.frozen 18
  refine pc_25 rfl rfl (by kernel_rfl) (by rfl) (fun K hK => ?_)
  go_simp
  have HP4 := Lib.hid (HP3.out.setAcc a5)
  have HO4 := Lib.hid (set_acc_only HO3.out (B := B) (.inl rfl) (.int .i64 a5.k) (.int .i64 a5.c) (.int .u32 a5.x) (.int .u32 a5.y) (.int .u32 a5.o))
  refine hK.out _ _ (.inl (by kernel_rfl)) ?_
  clear hK K b14 b15 b16 b17 b18 f14 f15 f16 f17 f18 HP3 HO3
  generalize ((((w4.setCell ⟨B, 14, none⟩ (.int .i64 a5.k)).setCell ⟨B, 15, none⟩ (.int .i64 a5.c)).setCell ⟨B, 16, none⟩ (.int .u32 a5.x)).setCell ⟨B, 17, none⟩ (.int .u32 a5.y)).setCell ⟨B, 18, none⟩ (.int .u32 a5.o) = w5 at *
  (try simp only [Act.put, List.setIfInBounds_toArray, List.set_cons_zero, List.set_cons_succ])
  refine wpAnyP_done (by kernel_rfl) ?_ _
  go_wp2
  go_ret
  exact ⟨rfl, HO4.out, _, HP4.out⟩
end Go.Proofs.Ytomgjamojeejbaa
/- The program's run and the answer's, side by side. -/
set_option linter.unusedVariables false
set_option linter.unusedSimpArgs false
namespace Go.Proofs.Ytomgjamojeejbaa
open Go.RowKit

/-- Both runs, made since w0. -/
structure Two (w0 : World) (B B' M : Nat) (p A A2 : Option Addr) (cp l c2 : Nat) (nvp nvr : Value) (rp rr : LS) (W : World) : Prop where
  hp : RunP W B p A cp nvp rp
  hr : RunR W B' M A2 l c2 nvr rr
  only : Only Nil w0 W
  bB : w0.heap.size ≤ B
  bR : w0.heap.size ≤ B'
  bA : ∀ j, At p j ∨ At A j → w0.heap.size ≤ j ∧ j < M
  bM : w0.heap.size ≤ M

section
variable {w0 W W' : World} {B B' M : Nat} {p A A2 : Option Addr} {cp l c2 : Nat} {nvp nvr nvp' nvr' : Value} {rp rr rp' rr' : LS} {q : Nat} {t : TypeId} {cs : Array Value} {L : List (Nat × TypeId × Array Value)}
theorem Two.keep (h : Two w0 B B' M p A A2 cp l c2 nvp nvr rp rr W) (ho : Only Nil W W') : Two w0 B B' M p A A2 cp l c2 nvp nvr rp rr W' :=
  ⟨h.hp.keep ho, h.hr.keep ho, h.only.trans ho, h.bB, h.bR, h.bA, h.bM⟩
theorem Two.prog (h : Two w0 B B' M p A A2 cp l c2 nvp nvr rp rr W) (hq : Row W q t cs) (ho : Only (fun j => TurnB B A j ∨ j = q) W W') (h1 : t ≠ 47) (h2 : t ≠ 23) (h3 : t ≠ 70) (hq0 : w0.heap.size ≤ q) (hP : RunP W' B p A cp nvp' rp') :
    Two w0 B B' M p A A2 cp l c2 nvp' nvr rp' rr W' := by
  refine ⟨hP, h.hr.apart ho (fun e => ?_) (fun j hj e => ?_) (fun i hi e => ?_), h.only.step ho (fun i hi e => ?_), h.bB, h.bR, h.bA, h.bM⟩
  · rcases e with (e | e) | e
    · exact row_ne h.hr.row h.hp.row (by decide) e
    · exact memo_not h.hp.memo h.hr.row (by decide) (by decide) (.inr e)
    · exact h1 (by subst e; exact (hq.same h.hr.row).1)
  · obtain ⟨cur, hc⟩ := own_tag h.hr.own hj
    rcases e with (e | e) | e
    · exact row_ne hc h.hp.row (by decide) e
    · have := (h.bA j (.inr e)).2; have := h.hr.own.base j hj; omega
    · exact h2 (by subst e; exact (hq.same hc).1)
  · obtain ⟨cur, hc⟩ := ownN_tag h.hr.notes hi
    rcases e with (e | e) | e
    · exact row_ne hc h.hp.row (by decide) e
    · exact memo_not h.hp.memo hc (by decide) (by decide) (.inr e)
    · exact h3 (by subst e; exact (hq.same hc).1)
  · rcases e with (e | e) | e
    · have := h.bB; omega
    · have := (h.bA i (.inr e)).1; omega
    · omega
theorem Two.answ (h : Two w0 B B' M p A A2 cp l c2 nvp nvr rp rr W) (ho : Only (TurnB B' A2) W W') (hR : RunR W' B' M A2 l c2 nvr' rr') : Two w0 B B' M p A A2 cp l c2 nvp nvr' rp rr' W' := by
  refine ⟨h.hp.apart ho (fun e => ?_) (fun j hj e => ?_) (fun i hi e => ?_), hR, h.only.step ho (fun i hi e => ?_), h.bB, h.bR, h.bA, h.bM⟩
  · rcases e with e | e
    · exact row_ne h.hp.row h.hr.row (by decide) e
    · obtain ⟨cur, hc⟩ := own_tag h.hr.own e
      exact absurd (hc.same h.hp.row).1 (by decide)
  · rcases e with e | e
    · subst e; exact memo_not h.hp.memo h.hr.row (by decide) (by decide) hj
    · have := (h.bA j hj).2; have := h.hr.own.base j e; omega
  · obtain ⟨cur, hc⟩ := ownN_tag h.hp.notes hi
    rcases e with e | e
    · exact row_ne hc h.hr.row (by decide) e
    · obtain ⟨cur', hc'⟩ := own_tag h.hr.own e
      exact absurd (hc.same hc').1 (by decide)
  · rcases e with e | e
    · have := h.bR; omega
    · have := h.hr.own.base i e; have := h.bM; omega
theorem Two.stuckd (h : Two w0 B B' M p A A2 cp l c2 nvp nvr rp rr W) (ho : Only (At A) W W') (hm : Memo W' p A cp rp.xs) : Two w0 B B' M p A A2 cp l c2 nvp nvr rp rr W' := by
  refine ⟨h.hp.call ho hm, h.hr.apart ho (fun e => memo_not h.hp.memo h.hr.row (by decide) (by decide) (.inr e)) (fun j hj e => ?_) (fun i hi e => ?_), h.only.step ho (fun i hi e => ?_), h.bB, h.bR, h.bA, h.bM⟩
  · have := (h.bA j (.inr e)).2; have := h.hr.own.base j hj; omega
  · obtain ⟨cur, hc⟩ := ownN_tag h.hr.notes hi
    exact memo_not h.hp.memo hc (by decide) (by decide) (.inr e)
  · have := (h.bA i (.inr e)).1; omega
theorem RowsL.prog (h : RowsL W L) (hp : RunP W B p A cp nvp rp) (hq : Row W q t cs) (ho : Only (fun j => TurnB B A j ∨ j = q) W W') (ht : ∀ x ∈ L, x.2.1 ≠ 43 ∧ x.2.1 ≠ 73 ∧ x.2.1 ≠ 23 ∧ x.2.1 ≠ t) : RowsL W' L := fun x hx =>
  (h x hx).only ho (fun e => by
    obtain ⟨h1, h2, h3, h4⟩ := ht x hx
    rcases e with (e | e) | e
    · exact row_ne (h x hx) hp.row h1 e
    · exact memo_not hp.memo (h x hx) h2 h3 (.inr e)
    · exact row_ne (h x hx) hq h4 e)
theorem RowsL.answ (h : RowsL W L) (hr : RunR W B' M A2 l c2 nvr rr) (ho : Only (TurnB B' A2) W W') (ht : ∀ x ∈ L, x.2.1 ≠ 47 ∧ x.2.1 ≠ 23) : RowsL W' L := fun x hx =>
  (h x hx).only ho (fun e => by
    obtain ⟨h1, h2⟩ := ht x hx
    rcases e with e | e
    · exact row_ne (h x hx) hr.row h1 e
    · obtain ⟨cur, hc⟩ := own_tag hr.own e
      exact h2 ((h x hx).same hc).1)
theorem RowsL.memo (h : RowsL W L) (hm : Memo W p A cp rp.xs) (ho : Only (At A) W W') (ht : ∀ x ∈ L, x.2.1 ≠ 73 ∧ x.2.1 ≠ 23) : RowsL W' L := fun x hx =>
  (h x hx).only ho (fun e => by
    obtain ⟨h1, h2⟩ := ht x hx
    exact memo_not hm (h x hx) h1 h2 (.inr e))
end

/-- What a round compares. -/
structure RD (w0 : World) (B B' M : Nat) (p A A2 : Option Addr) (cp l c2 : Nat) (nvp nvr : Value) (r : LS) (g11 g17 g18 : Nat) (SA : Option Addr) (sl sc k : Nat) (A3 : Option Addr) (n3 c3 : Nat) (A4 : Option Addr) (c4 : Nat) (outs : List Int) (Na Nb : Nat) (W : World) : Prop where
  two : Two w0 B B' M p A A2 cp l c2 nvp nvr r r W
  rows : RowsL W [(g11, 30, #[.slice SA sl sc]), (g17, 3, #[.int .i64 k]), (g18, 22, #[.slice A3 n3 c3])]
  a : Own W Na A3 c3 outs
  b : Own W Nb A4 c4 outs
  len : outs.length = n3
theorem RD.keep {w0 W W' : World} {B B' M : Nat} {p A A2 : Option Addr} {cp l c2 : Nat} {nvp nvr : Value} {r : LS} {g11 g17 g18 : Nat} {SA : Option Addr} {sl sc k : Nat} {A3 : Option Addr} {n3 c3 : Nat} {A4 : Option Addr} {c4 : Nat} {outs : List Int} {Na Nb : Nat}
    (h : RD w0 B B' M p A A2 cp l c2 nvp nvr r g11 g17 g18 SA sl sc k A3 n3 c3 A4 c4 outs Na Nb W) (ho : Only Nil W W') : RD w0 B B' M p A A2 cp l c2 nvp nvr r g11 g17 g18 SA sl sc k A3 n3 c3 A4 c4 outs Na Nb W' :=
  ⟨h.two.keep ho, h.rows.keep ho, h.a.only ho (fun _ _ => id), h.b.only ho (fun _ _ => id), h.len⟩

theorem own_nil (W : World) (N : Nat) : Own W N none 0 [] := ⟨World.ownsRow_nil _ _ _ _, fun _ => ⟨rfl, rfl⟩, fun i ⟨a, ha, _⟩ => by cases ha⟩

theorem wake_words {xs : List Int} (h : Words xs) (n : Int) (on : Bool) (c i : Int) (hit : Bool) : Words (wakeI xs n on c i hit).xs := by
  unfold wakeI giveI lookI restI
  repeat' split
  all_goals first | exact h | exact h.st _ (by decide) (by decide)
/-- A step of both: by a wake-up, or by the calls. -/
def LS.next (r : LS) (l0 : List OpV) : LS := if r.k.on then r.waking else (r.fresh.opsI l0).1
theorem next_keeps (r : LS) (l0 : List OpV) (hwf : ∀ o ∈ l0, o.Wf) (hm : l0.length ≤ 10) : (r.next l0).n = r.n ∧ (r.next l0).mode = r.mode ∧ (r.next l0).task = r.task ∧ (Words r.xs → Words (r.next l0).xs) ∧ (r.next l0).ns.length ≤ 10 := by
  unfold LS.next
  split
  · exact ⟨rfl, rfl, rfl, fun h => wake_words h _ _ _ _ _, Nat.zero_le _⟩
  · obtain ⟨h1, h2, _⟩ := ops_keeps r.fresh l0 hwf l0.length (Nat.le_refl _)
    rw [List.take_length] at h1 h2
    refine ⟨h1.n, h1.mode, h1.task, h1.words, ?_⟩
    have : r.fresh.ns.length = 0 := rfl
    omega
end Go.Proofs.Ytomgjamojeejbaa
