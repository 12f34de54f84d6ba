/- From, MkMem, OpLoad, LineAw, LineNone, LineN, Holds, Look, SetWatch, ParkTake, Step. -/
import Derived.Deep.OwnRows
import Derived.Deep.RegionHeld3
import Derived.Defers
import Derived.Recover
import Derived.Deep.Cut
import Derived.Test.YtomgjamojeejbaaM1
import Derived.Test.YtomgjamojeejbaaM5
import Derived.Test.YtomgjamojeejbaaM3
/- cells.From. -/
set_option linter.unusedVariables false
set_option linter.unusedSimpArgs false
namespace Go.Proofs.Ytomgjamojeejbaa
open Go.RowKit

/-- A new memory is handed back. -/
def Fresh (w : World) (xs : List Int) (e : Ending) (w' : World) : Prop := ∃ b A' c', e = .returned (.tuple #[.pointer (some ⟨b, 0, none⟩), .int .i64 0]) ∧ w.heap.size ≤ b ∧ (∀ i, At A' i → w.heap.size ≤ i) ∧ Mem w' b A' c' xs ∧ Only Nil w w'

theorem from_ok (A : Option Addr) (n cap : Nat) (xs : List Int) (w : World) (hm : n ≤ 1024) (h : Held w A n cap xs) :
    Calls Try.prog 6 #[.slice A n cap] w (Fresh w xs) := by
  have hl := h.1
  have hm' : (n : Int) ≤ 1024 := by omega
  have HH := Lib.hid h
  have HL := Lib.hid hl
  clear h hl
  go_enter Try.func6, Try.ntmps6
  go_wp2_with (go_at_call 32; refine (clone_held A n cap xs _ (by omega) HH.out).mono ?_; rintro e w1 ⟨A', c', rfl, ho, hO⟩)
  have HO := Lib.hid ho
  have HW := Lib.hid hO
  clear ho hO
  go_ret2
  refine ⟨w1.heap.size, A', c', rfl, HW.out.size, HO.out.base, ⟨Row.new w1 _ _, ?_, ?_⟩, HW.out.alloc _⟩
  · exact ⟨own_base (own_only HO.out.own ((Only.refl Nil w1).alloc _) (fun _ _ h => h)) (Nat.zero_le _), HO.out.nil, fun _ _ => Nat.zero_le _⟩
  · rw [HL.out]; exact hm

theorem from_not (A : Option Addr) (n cap : Nat) (w : World) (hm : 1024 < n) :
    Calls Try.prog 6 #[.slice A n cap] w fun e w' => e = .returned (.tuple #[.pointer none, .int .i64 2]) ∧ w' = w := by
  have hm' : 1024 < (n : Int) := by omega
  go_enter Try.func6, Try.ntmps6
  go_wp2
  go_ret2
  exact ⟨rfl, rfl⟩
end Go.Proofs.Ytomgjamojeejbaa
/- cells.New. -/
set_option linter.unusedVariables false
set_option linter.unusedSimpArgs false
namespace Go.Proofs.Ytomgjamojeejbaa
open Go.RowKit

theorem new_ok (n : Nat) (w : World) (hn : n ≤ 1024) :
    Calls Try.prog 29 #[.int .i64 n] w (Fresh w (List.replicate n 0)) := by
  have h1 : ¬ (n : Int) < 0 := by omega
  have h2 : (n : Int) ≤ 1024 := by omega
  have hmk := fun W => run_make_row' (P := Try.prog) 22 23 (.int .u32 0) 4 Try.underlying22 infoW rfl .i64 .i64 n (by omega) (by omega) W
  go_enter Try.func29, Try.ntmps29
  go_wp2
  go_ret2
  refine ⟨w.heap.size + 1, some ⟨w.heap.size, 0, none⟩, n, by simp, by omega, fun i ⟨a, ha, hi⟩ => by injection ha with ha; subst ha; subst hi; exact Nat.le_refl _, ⟨?_, ⟨?_, (by intro h; cases h), fun _ _ => Nat.zero_le _⟩, by simpa using hn⟩, ((Only.refl _ _).alloc _).alloc _⟩
  · have e := Row.new (w.alloc (.cells (madeCells #[.int .u32 0] n) 23)) 73 #[.slice (some ⟨w.heap.size, 0, none⟩) n n]
    simpa using e
  · rw [List.length_replicate, List.map_replicate]
    refine ⟨by simp, .inr ⟨w.heap.size, n, madeCells #[.int .u32 0] n, rfl, Nat.zero_le _, ?_, Nat.le_refl _, by unfold maxLen; omega, by rw [size_madeCells]; omega, ?_⟩⟩
    · exact (Row.new w 23 (madeCells #[.int .u32 0] n)).alloc _
    · rw [toList_madeCells_one]; simp

theorem new_not (n : Int) (w : World) (hn : n < 0 ∨ 1024 < n) :
    Calls Try.prog 29 #[.int .i64 n] w fun e w' => e = .returned (.tuple #[.pointer none, .int .i64 2]) ∧ w' = w := by
  by_cases h0 : n < 0
  · go_enter Try.func29, Try.ntmps29
    go_wp2
    go_ret2
    exact ⟨rfl, rfl⟩
  · have h1 : 1024 < n := by omega
    go_enter Try.func29, Try.ntmps29
    go_wp2
    go_ret2
    exact ⟨rfl, rfl⟩
end Go.Proofs.Ytomgjamojeejbaa
/- (*Memory).Load. -/
set_option linter.unusedVariables false
set_option linter.unusedSimpArgs false
namespace Go.Proofs.Ytomgjamojeejbaa
open Go.RowKit

theorem load_raw (b : Nat) (A : Option Addr) (cp : Nat) (xs : List Int) (c : Int) (w : World) (h : Mem w b A cp xs) :
    Calls Try.prog 31 #[.pointer (some ⟨b, 0, none⟩), .int .i64 c] w fun e w' => e = .returned (.int .u32 (wordAt xs c)) ∧ Only (At A) w w' ∧ Mem w' b A cp (doNew xs 1 c 0 0) := by
  have HH := Lib.hid h
  clear h
  go_enter Try.func31, Try.ntmps31
  go_wp2_with fail
  refine (do_any b A cp xs 1 c 0 0 0 _ HH.out).mono ?_
  obtain ⟨k', c', x', y', hv⟩ := doVal_form xs 1 c 0 0
  rw [oldAt xs 1 c rfl] at hv
  rintro e w1 ⟨rfl, hO, hM⟩
  rw [hv]
  have HO := Lib.hid hO
  have HM := Lib.hid hM
  clear hO hM hv
  go_wp2
  go_ret
  exact ⟨rfl, HO.out.alloc _, HM.out.only ((Only.refl Nil w1).alloc _) id (fun _ _ => id)⟩

theorem load_any (b : Nat) (A : Option Addr) (cp : Nat) (xs : List Int) (c : Int) (w : World) (h : Mem w b A cp xs) :
    Calls Try.prog 31 #[.pointer (some ⟨b, 0, none⟩), .int .i64 c] w fun e w' => e = .returned (.int .u32 (wordAt xs c)) ∧ Only (At A) w w' ∧ Mem w' b A cp xs :=
  (load_raw b A cp xs c w h).mono fun _ _ ⟨h1, h2, h3⟩ => ⟨h1, h2, by rw [doNew_load] at h3; exact h3⟩
end Go.Proofs.Ytomgjamojeejbaa
/- The law's example. -/
set_option linter.unusedVariables false
set_option linter.unusedSimpArgs false
namespace Go.Proofs.Ytomgjamojeejbaa
open Go.RowKit

/-- The example's run behind its lines. -/
def exR (r : LS) : LS := ((r.doA 2 0 7 0).fin true).wake 0
theorem ex_closure (B : Nat) (p A : Option Addr) (cp : Nat) (nv : Value) (r : LS) (w : World) (h : RunP w B p A cp nv r) :
    Calls Try.prog 30 #[.pointer (some ⟨B, 0, none⟩)] w (Done B p A cp w (.tuple #[]) (exR r)) := by
  have HP := Lib.hid h
  clear h
  go_enter Try.func30, Try.ntmps30
  go_wp2_with fail
  refine (store_run B p A cp nv r 0 7 _ HP.out).mono ?_
  intro e w1 hD
  obtain ⟨rfl, hO, nv1, hP⟩ := hD
  have HP1 := Lib.hid hP
  have HO1 := Lib.hid hO
  clear hP hO HP
  go_wp2_with fail
  refine (end_run B p A cp nv1 _ _ true HP1.out).mono ?_
  intro e w2 hD
  obtain ⟨rfl, hO, nv2, hP⟩ := hD
  have HP2 := Lib.hid hP
  have HO2 := Lib.hid (HO1.out.trans hO)
  clear hP hO HP1 HO1
  go_wp2_with fail
  refine (wake_run B p A cp nv2 _ 0 _ HP2.out).mono ?_
  intro e w3 hD
  obtain ⟨rfl, hO, nv3, hP⟩ := hD
  have HP3 := Lib.hid hP
  have HO3 := Lib.hid (HO2.out.trans hO)
  clear hP hO HP2 HO2
  go_wp2
  go_returns
  exact ⟨rfl, HO3.out, nv3, HP3.out⟩

theorem lined_ex (B : Nat) (p A : Option Addr) (cp : Nat) (r : LS) : Lined B p A cp (.func (.func 30) #[] #[]) r (exR r) (TurnB B A) (fun _ => True) (fun _ => True) := by
  intro w nv _ h
  have hn := neq_fnL
  have HP := Lib.hid h
  clear h
  go_enter_defers Try.func35, Try.ntmps35
  go_wp2_with fail
  refine (ex_closure B p A cp nv r _ HP.out).mono ?_
  intro e w1 hD
  obtain ⟨rfl, hO, nv1, hP⟩ := hD
  have HP1 := Lib.hid hP
  have HO1 := Lib.hid hO
  clear hP hO HP
  go_wp2
  refine leaves_cons (f := 57) (args := #[]) (by simp) (by simp [go_sem]) ?_
  refine (rec_run _).mono ?_
  rintro e u' w'' ⟨rfl, rfl, rfl⟩
  exact ⟨_, by simp [results, Try.results35, go_sem], rfl, HO1.out, trivial, nv1, HP1.out⟩

def exZ : LS := ⟨1, 1, 0, 0, 0, 0, 0, 0, wk0, 0, acc0, [], List.replicate 12 0⟩
set_option maxHeartbeats 1000000 in
theorem awake_any (w : World) : Calls Try.prog 5 #[] w fun e w' => e = .returned (.bool true) ∧ Only Nil w w' := by
  go_enter Try.func5, Try.ntmps5
  go_wp2_with fail
  refine (new_ok 12 _ (by decide)).mono ?_
  intro e w1 hF
  obtain ⟨b, A', c', rfl, hb, hA, hM, hO⟩ := hF
  have e0 := (Only.refl Nil w1).alloc (.cells #[.pointer (some ⟨b, 0, none⟩), .int .i64 1, .int .i64 1, .int .i64 0, .int .i64 0, .int .i64 0, .int .u32 0, .int .u32 0, .int .i64 0, .bool false, .int .i64 0, .int .i64 0, .bool false, .int .i64 0, .int .i64 0, .int .i64 0, .int .u32 0, .int .u32 0, .int .u32 0, .slice none 0 0] 43)
  have HP : Hid (RunP (w1.alloc (.cells #[.pointer (some ⟨b, 0, none⟩), .int .i64 1, .int .i64 1, .int .i64 0, .int .i64 0, .int .i64 0, .int .u32 0, .int .u32 0, .int .i64 0, .bool false, .int .i64 0, .int .i64 0, .bool false, .int .i64 0, .int .i64 0, .int .i64 0, .int .u32 0, .int .u32 0, .int .u32 0, .slice none 0 0] 43)) w1.heap.size (some ⟨b, 0, none⟩) A' c' (.slice none 0 0) exZ) :=
    Lib.hid ⟨Row.new w1 43 _, ownN_nil _ _, (Memo.of hM).keep e0⟩
  have HO := Lib.hid (hO.trans e0)
  have HT := Lib.hid (show ∀ i, i < w.heap.size → ¬ TurnB w1.heap.size A' i from fun i hi e => by
    rcases e with e | e
    · have := hO.size; omega
    · have := hA i e; omega)
  clear hb hA hM hO e0
  go_wp2_with fail
  generalize w1.alloc (.cells #[.pointer (some ⟨b, 0, none⟩), .int .i64 1, .int .i64 1, .int .i64 0, .int .i64 0, .int .i64 0, .int .u32 0, .int .u32 0, .int .i64 0, .bool false, .int .i64 0, .int .i64 0, .bool false, .int .i64 0, .int .i64 0, .int .i64 0, .int .u32 0, .int .u32 0, .int .u32 0, .slice none 0 0] 43) = w2 at *
  generalize w1.heap.size = B at *
  refine (step_lines B (some ⟨b, 0, none⟩) A' c' _ _ exZ _ _ _ _ _ HP.out rfl (lined_ex B _ A' c' exZ.fresh) (.inl rfl) (fun _ _ => trivial)).mono ?_
  intro e w3 hD
  obtain ⟨rfl, hO, _, nv3, hP⟩ := hD
  rw [show (exR exZ.fresh).over = true from by kernel_rfl]
  have HP3 := Lib.hid hP
  have HO3 := Lib.hid (HO.out.step hO (fun i hi e => HT.out i hi e))
  clear hO hP HP HO
  go_wp2_with fail
  refine (load_any b A' c' _ 0 _ HP3.out.memo.mem).mono ?_
  rw [show wordAt (exR exZ.fresh).xs 0 = 7 from by kernel_rfl]
  rintro e w4 ⟨rfl, hO, hM⟩
  have HP4 := Lib.hid (HP3.out.call hO (Memo.of hM))
  have HO4 := Lib.hid (HO3.out.step hO (fun i hi e => HT.out i hi (.inr e)))
  clear hO hM HP3 HO3
  have c13 : w4.cell? ⟨B, 13, none⟩ = some (.int .i64 2) := HP4.out.row.cell_ (i := 13) rfl
  go_wp2
  go_ret
  exact ⟨rfl, HO4.out⟩
end Go.Proofs.Ytomgjamojeejbaa
/- LineNone: a nil run; a step without lines. -/
set_option linter.unusedVariables false
set_option linter.unusedSimpArgs false
namespace Go.Proofs.Ytomgjamojeejbaa
open Go.RowKit

theorem memo_not9 {w : World} {p A : Option Addr} {cp : Nat} {xs : List Int} {j : Nat} {t : TypeId} {cs : Array Value} (h : Memo w p A cp xs) (hr : Row w j t cs) (h1 : t ≠ 73) (h2 : t ≠ 23) : ¬ (At p j ∨ At A j) := fun hj => by
  obtain ⟨t', cs', hr', ht⟩ := memo_tag h hj
  have e := (hr.same hr').1
  rcases ht with rfl | rfl
  · exact h1 e
  · exact h2 e
theorem access_none (k c x y o : Int) (w : World) : Calls Try.prog 50 #[.pointer none, .agg #[.int .i64 k, .int .i64 c, .int .u32 x, .int .u32 y, .int .u32 o]] w fun e w' => e = .returned (.tuple #[.int .u32 0, .bool false]) ∧ Only Nil w w' := by
  go_enter Try.func50, Try.ntmps50
  go_wp2
  go_ret2
  exact ⟨rfl, by (repeat' (first | (with_reducible exact Only.refl _ _) | (with_reducible assumption) | (with_reducible refine Only.setCell ?_ ?_ _) | (with_reducible refine Only.drewN ?_ _) | (with_reducible refine Only.drew ?_) | (with_reducible refine Only.alloc ?_ _) | (left; simp; done) | (left; simp; omega) | (right; rfl)))⟩
section
variable (c x y : Int) (w : World)
theorem load_none : Calls Try.prog 25 #[.pointer none, .int .i64 c] w fun e w' => e = .returned (.int .u32 0) ∧ Only Nil w w' := by
  go_enter Try.func25, Try.ntmps25
  go_wp2_with (go_at_call 50; refine (access_none _ _ _ _ _ _).mono ?_; rintro e w1 ⟨rfl, hO⟩; have HO := Lib.hid hO; clear hO)
  go_ret
  exact ⟨rfl, HO.out⟩
theorem store_none : Calls Try.prog 19 #[.pointer none, .int .i64 c, .int .u32 x] w fun e w' => e = .returned (.tuple #[]) ∧ Only Nil w w' := by
  go_enter Try.func19, Try.ntmps19
  go_wp2_with (go_at_call 50; refine (access_none _ _ _ _ _ _).mono ?_; rintro e w1 ⟨rfl, hO⟩; have HO := Lib.hid hO; clear hO)
  go_returns
  exact ⟨rfl, HO.out⟩
theorem add_none : Calls Try.prog 26 #[.pointer none, .int .i64 c, .int .u32 x] w fun e w' => e = .returned (.int .u32 0) ∧ Only Nil w w' := by
  go_enter Try.func26, Try.ntmps26
  go_wp2_with (go_at_call 50; refine (access_none _ _ _ _ _ _).mono ?_; rintro e w1 ⟨rfl, hO⟩; have HO := Lib.hid hO; clear hO)
  go_ret
  exact ⟨rfl, HO.out⟩
theorem swap_none : Calls Try.prog 27 #[.pointer none, .int .i64 c, .int .u32 x] w fun e w' => e = .returned (.int .u32 0) ∧ Only Nil w w' := by
  go_enter Try.func27, Try.ntmps27
  go_wp2_with (go_at_call 50; refine (access_none _ _ _ _ _ _).mono ?_; rintro e w1 ⟨rfl, hO⟩; have HO := Lib.hid hO; clear hO)
  go_ret
  exact ⟨rfl, HO.out⟩
theorem cas_none : Calls Try.prog 28 #[.pointer none, .int .i64 c, .int .u32 x, .int .u32 y] w fun e w' => e = .returned (.bool false) ∧ Only Nil w w' := by
  go_enter Try.func28, Try.ntmps28
  go_wp2_with (go_at_call 50; refine (access_none _ _ _ _ _ _).mono ?_; rintro e w1 ⟨rfl, hO⟩; have HO := Lib.hid hO; clear hO)
  go_ret
  exact ⟨rfl, HO.out⟩
theorem go_none : Calls Try.prog 21 #[.pointer none, .int .i64 c] w fun e w' => e = .returned (.tuple #[]) ∧ Only Nil w w' := by
  go_enter Try.func21, Try.ntmps21
  go_wp2
  go_returns
  exact ⟨rfl, Only.refl _ _⟩
theorem end_none (ok : Bool) : Calls Try.prog 22 #[.pointer none, .bool ok] w fun e w' => e = .returned (.tuple #[]) ∧ Only Nil w w' := by
  go_enter Try.func22, Try.ntmps22
  go_wp2
  go_returns
  exact ⟨rfl, Only.refl _ _⟩
theorem wake_none : Calls Try.prog 23 #[.pointer none, .int .i64 c] w fun e w' => e = .returned (.tuple #[]) ∧ Only Nil w w' := by
  go_enter Try.func23, Try.ntmps23
  go_wp2
  go_returns
  exact ⟨rfl, Only.refl _ _⟩
theorem note_none : Calls Try.prog 20 #[.pointer none, .int .i64 c, .int .i64 x] w fun e w' => e = .returned (.tuple #[]) ∧ Only Nil w w' := by
  go_enter Try.func20, Try.ntmps20
  go_wp2
  go_returns
  exact ⟨rfl, Only.refl _ _⟩
theorem step_none : Calls Try.prog 8 #[.pointer none, .nilFunc] w fun e w' => e = .returned (.bool false) ∧ Only Nil w w' := by
  go_enter Try.func8, Try.ntmps8
  go_wp2
  go_ret
  exact ⟨rfl, Only.refl _ _⟩
theorem wait_none : Calls Try.prog 24 #[.pointer none, .int .i64 c, .nilFunc] w fun e w' => e = .returned (.tuple #[.bool false, .bool false]) ∧ Only Nil w w' := by
  go_enter Try.func24, Try.ntmps24
  go_wp2
  exact bodyPost_ret (v := .tuple #[.bool false, .bool false]) (by simp [results, Try.results24, go_sem]) rfl ⟨rfl, by (repeat' (first | (with_reducible exact Only.refl _ _) | (with_reducible assumption) | (with_reducible refine Only.setCell ?_ ?_ _) | (with_reducible refine Only.drewN ?_ _) | (with_reducible refine Only.drew ?_) | (with_reducible refine Only.alloc ?_ _) | (left; simp; done) | (left; simp; omega) | (right; rfl)))⟩
end


set_option maxRecDepth 100000 in
set_option maxHeartbeats 4000000 in
theorem none_main (c x y op line a b s : Int) (on : Bool) (kc ki : Int) (hit : Bool) (ret : Int) (w : World) :
    Calls Try.prog 4 #[.int .i64 c, .int .u32 x, .int .u32 y, .agg #[.int .i64 op, .int .i64 line, .int .u32 a, .int .u32 b, .int .i64 s, .bool on, .int .i64 kc, .int .i64 ki, .bool hit, .int .i64 ret]] w fun e w' => e = .returned (.bool true) ∧ Only Nil w w' := by
  have HF0 := Lib.hid (Row.new w 29 #[.int .i64 op, .int .i64 line, .int .u32 a, .int .u32 b, .int .i64 s, .bool on, .int .i64 kc, .int .i64 ki, .bool hit, .int .i64 ret])
  have HO0 := Lib.hid ((Only.refl Nil w).alloc (.cells #[.int .i64 op, .int .i64 line, .int .u32 a, .int .u32 b, .int .i64 s, .bool on, .int .i64 kc, .int .i64 ki, .bool hit, .int .i64 ret] 29))
  have HL0 := Lib.hid (show w.heap.size < (w.alloc (.cells #[.int .i64 op, .int .i64 line, .int .u32 a, .int .u32 b, .int .i64 s, .bool on, .int .i64 kc, .int .i64 ki, .bool hit, .int .i64 ret] 29)).heap.size by simp)
  go_enter Try.func4, Try.ntmps4
  go_upto_region 1 with (fail)
  generalize w.alloc (.cells #[.int .i64 op, .int .i64 line, .int .u32 a, .int .u32 b, .int .i64 s, .bool on, .int .i64 kc, .int .i64 ki, .bool hit, .int .i64 ret] 29) = w0 at *
  have HGF : Hid (∀ W : World, W = w → W.heap.size = w.heap.size) := Lib.hid (fun W h => by rw [h])
  generalize w.heap.size = gf at *
  have HF := HF0
  have HO := HO0
  clear HF0 HO0
  go_wp2_with fail
  refine (store_none _ _ _).mono ?_
  rintro e w100 ⟨rfl, hO⟩
  have HO2 := Lib.hid (HO.out.trans hO)
  have HF2 := Lib.hid (HF.out.only hO id)
  clear HO HF hO
  have HO := HO2
  have HF := HF2
  clear HO2 HF2
  go_wp2_with fail
  refine (note_none _ _ _).mono ?_
  rintro e w101 ⟨rfl, hO⟩
  have HO2 := Lib.hid (HO.out.trans hO)
  have HF2 := Lib.hid (HF.out.only hO id)
  clear HO HF hO
  have HO := HO2
  have HF := HF2
  clear HO2 HF2
  go_wp2_with fail
  refine (go_none _ _).mono ?_
  rintro e w102 ⟨rfl, hO⟩
  have HO2 := Lib.hid (HO.out.trans hO)
  have HF2 := Lib.hid (HF.out.only hO id)
  clear HO HF hO
  have HO := HO2
  have HF := HF2
  clear HO2 HF2
  go_wp2_with fail
  refine (end_none _ _).mono ?_
  rintro e w103 ⟨rfl, hO⟩
  have HO2 := Lib.hid (HO.out.trans hO)
  have HF2 := Lib.hid (HF.out.only hO id)
  clear HO HF hO
  have HO := HO2
  have HF := HF2
  clear HO2 HF2
  go_wp2_with fail
  refine (wake_none _ _).mono ?_
  rintro e w104 ⟨rfl, hO⟩
  have HO2 := Lib.hid (HO.out.trans hO)
  have HF2 := Lib.hid (HF.out.only hO id)
  clear HO HF hO
  have HO := HO2
  have HF := HF2
  clear HO2 HF2
  go_wp2_with fail
  refine (wait_none _ _).mono ?_
  rintro e w105 ⟨rfl, hO⟩
  have HO2 := Lib.hid (HO.out.trans hO)
  have HF2 := Lib.hid (HF.out.only hO id)
  clear HO HF hO
  have HO := HO2
  have HF := HF2
  clear HO2 HF2
  go_wp2_with fail
  refine (load_none _ _).mono ?_
  rintro e w106 ⟨rfl, hO⟩
  have HO2 := Lib.hid (HO.out.trans hO)
  have HF2 := Lib.hid (HF.out.only hO id)
  clear HO HF hO
  have HO := HO2
  have HF := HF2
  clear HO2 HF2
  go_wp2_with fail
  refine (add_none _ _ _).mono ?_
  rintro e w107 ⟨rfl, hO⟩
  have HO2 := Lib.hid (HO.out.trans hO)
  have HF2 := Lib.hid (HF.out.only hO id)
  clear HO HF hO
  have HO := HO2
  have HF := HF2
  clear HO2 HF2
  go_wp2_with fail
  refine (swap_none _ _ _).mono ?_
  rintro e w108 ⟨rfl, hO⟩
  have HO2 := Lib.hid (HO.out.trans hO)
  have HF2 := Lib.hid (HF.out.only hO id)
  clear HO HF hO
  have HO := HO2
  have HF := HF2
  clear HO2 HF2
  go_wp2_with fail
  refine (cas_none _ _ _ _).mono ?_
  rintro e w109 ⟨rfl, hO⟩
  have HO2 := Lib.hid (HO.out.trans hO)
  have HF2 := Lib.hid (HF.out.only hO id)
  clear HO HF hO
  have HO := HO2
  have HF := HF2
  clear HO2 HF2
  go_wp2_with fail
  refine (step_none _).mono ?_
  rintro e w110 ⟨rfl, hO⟩
  have HO2 := Lib.hid (HO.out.trans hO)
  have HF2 := Lib.hid (HF.out.only hO id)
  clear HO HF hO
  have HO := HO2
  have HF := HF2
  clear HO2 HF2
  go_wp2_with fail
  refine (new_ok 12 _ (by decide)).mono ?_
  intro e w1 hF
  obtain ⟨bb, A', c', rfl, hb, hA, hM, hO⟩ := hF
  have HS := Lib.hid HO.out.size
  have HF2 := Lib.hid (HF.out.only hO id)
  have HO2 := Lib.hid (HO.out.trans hO)
  have HM := Lib.hid (Memo.of hM)
  have HA := Lib.hid (show ∀ i, At A' i → w.heap.size ≤ i from fun i hi => Nat.le_trans HS.out (hA i hi))
  clear HF HO hO hM hb hA HS
  have a0 : w1.cell? ⟨gf, 0, none⟩ = some (.int .i64 op) := HF2.out.cell_ (i := 0) rfl
  have a1 : w1.cell? ⟨gf, 1, none⟩ = some (.int .i64 line) := HF2.out.cell_ (i := 1) rfl
  have a2 : w1.cell? ⟨gf, 2, none⟩ = some (.int .u32 a) := HF2.out.cell_ (i := 2) rfl
  have a3 : w1.cell? ⟨gf, 3, none⟩ = some (.int .u32 b) := HF2.out.cell_ (i := 3) rfl
  have a4 : w1.cell? ⟨gf, 4, none⟩ = some (.int .i64 s) := HF2.out.cell_ (i := 4) rfl
  have a5 : w1.cell? ⟨gf, 5, none⟩ = some (.bool on) := HF2.out.cell_ (i := 5) rfl
  have a6 : w1.cell? ⟨gf, 6, none⟩ = some (.int .i64 kc) := HF2.out.cell_ (i := 6) rfl
  have a7 : w1.cell? ⟨gf, 7, none⟩ = some (.int .i64 ki) := HF2.out.cell_ (i := 7) rfl
  have a8 : w1.cell? ⟨gf, 8, none⟩ = some (.bool hit) := HF2.out.cell_ (i := 8) rfl
  have a9 : w1.cell? ⟨gf, 9, none⟩ = some (.int .i64 ret) := HF2.out.cell_ (i := 9) rfl
  have f5 : w1.frozen? ⟨gf, 5, none⟩ = false := HF2.out.frozen 5
  have f6 : w1.frozen? ⟨gf, 6, none⟩ = false := HF2.out.frozen 6
  have f7 : w1.frozen? ⟨gf, 7, none⟩ = false := HF2.out.frozen 7
  have f8 : w1.frozen? ⟨gf, 8, none⟩ = false := HF2.out.frozen 8
  go_upto_region 14 with (fail)
  clear a0 a1 a2 a3 a4 a5 a6 a7 a8 a9 f5 f6 f7 f8
  have HGE := Lib.hid (show w.heap.size ≤ gf by rw [HGF.out w rfl]; exact Nat.le_refl _)
  have hon := (((Only.refl (· = gf) w1).setCell (p := ⟨gf, 5, none⟩) (.inr rfl) (.bool false)).setCell (p := ⟨gf, 6, none⟩) (.inr rfl) (.int .i64 0)).setCell (p := ⟨gf, 7, none⟩) (.inr rfl) (.int .i64 0)
  have hon2 := hon.setCell (p := ⟨gf, 8, none⟩) (.inr rfl) (.bool false)
  have HF : Hid (Row ((((w1.setCell ⟨gf, 5, none⟩ (.bool false)).setCell ⟨gf, 6, none⟩ (.int .i64 0)).setCell ⟨gf, 7, none⟩ (.int .i64 0)).setCell ⟨gf, 8, none⟩ (.bool false)) gf 29 #[.int .i64 op, .int .i64 line, .int .u32 a, .int .u32 b, .int .i64 s, .bool false, .int .i64 0, .int .i64 0, .bool false, .int .i64 ret]) := Lib.hid ((((HF2.out.set 5 (.bool false)).set 6 (.int .i64 0)).set 7 (.int .i64 0)).set 8 (.bool false))
  have HM2 := Lib.hid (HM.out.far hon2 (fun j hj e => by
    subst e
    obtain ⟨t, cs, hr, ht⟩ := memo_tag HM.out hj
    have e := (HF2.out.same hr).1
    rcases ht with rfl | rfl <;> exact absurd e (by decide)))
  have HO := Lib.hid (HO2.out.step hon2 (fun i hi e => by have := HGE.out; omega))
  clear hon hon2 HF2 HM HO2
  generalize (((w1.setCell ⟨gf, 5, none⟩ (.bool false)).setCell ⟨gf, 6, none⟩ (.int .i64 0)).setCell ⟨gf, 7, none⟩ (.int .i64 0)).setCell ⟨gf, 8, none⟩ (.bool false) = w5 at *
  have a0 : w5.cell? ⟨gf, 0, none⟩ = some (.int .i64 op) := HF.out.cell_ (i := 0) rfl
  have a1 : w5.cell? ⟨gf, 1, none⟩ = some (.int .i64 line) := HF.out.cell_ (i := 1) rfl
  have a2 : w5.cell? ⟨gf, 2, none⟩ = some (.int .u32 a) := HF.out.cell_ (i := 2) rfl
  have a3 : w5.cell? ⟨gf, 3, none⟩ = some (.int .u32 b) := HF.out.cell_ (i := 3) rfl
  have a4 : w5.cell? ⟨gf, 4, none⟩ = some (.int .i64 s) := HF.out.cell_ (i := 4) rfl
  have a5 : w5.cell? ⟨gf, 5, none⟩ = some (.bool false) := HF.out.cell_ (i := 5) rfl
  have a6 : w5.cell? ⟨gf, 6, none⟩ = some (.int .i64 0) := HF.out.cell_ (i := 6) rfl
  have a7 : w5.cell? ⟨gf, 7, none⟩ = some (.int .i64 0) := HF.out.cell_ (i := 7) rfl
  have a8 : w5.cell? ⟨gf, 8, none⟩ = some (.bool false) := HF.out.cell_ (i := 8) rfl
  have a9 : w5.cell? ⟨gf, 9, none⟩ = some (.int .i64 ret) := HF.out.cell_ (i := 9) rfl
  have e1 := ((Only.refl Nil w5).alloc (.cells #[.int .i64 0, .int .i64 1, .int .i64 0, .int .i64 0] 70)).alloc (.cells #[.pointer (some ⟨bb, 0, none⟩), .int .i64 1, .int .i64 2, .int .i64 0, .int .i64 op, .int .i64 line, .int .u32 a, .int .u32 b, .int .i64 s, .bool false, .int .i64 0, .int .i64 0, .bool false, .int .i64 ret, .int .i64 0, .int .i64 0, .int .u32 0, .int .u32 0, .int .u32 0, .slice (some ⟨w5.heap.size, 0, none⟩) 1 1] 43)
  have HP : Hid (RunP ((w5.alloc (.cells #[.int .i64 0, .int .i64 1, .int .i64 0, .int .i64 0] 70)).alloc (.cells #[.pointer (some ⟨bb, 0, none⟩), .int .i64 1, .int .i64 2, .int .i64 0, .int .i64 op, .int .i64 line, .int .u32 a, .int .u32 b, .int .i64 s, .bool false, .int .i64 0, .int .i64 0, .bool false, .int .i64 ret, .int .i64 0, .int .i64 0, .int .u32 0, .int .u32 0, .int .u32 0, .slice (some ⟨w5.heap.size, 0, none⟩) 1 1] 43)) (w5.heap.size + 1) (some ⟨bb, 0, none⟩) A' c' (.slice (some ⟨w5.heap.size, 0, none⟩) 1 1) (⟨1, 2, 0, op, line, a, b, s, wk0, ret, acc0, [⟨0, 1, 0, 0⟩], List.replicate 12 0⟩ : LS)) :=
    Lib.hid ⟨Row.new2 w5 _ 43 _, ⟨rfl, .inr ⟨w5.heap.size, 1, #[.int .i64 0, .int .i64 1, .int .i64 0, .int .i64 0], rfl, Nat.zero_le _, (Row.new w5 70 #[.int .i64 0, .int .i64 1, .int .i64 0, .int .i64 0]).alloc _, Nat.le_refl _, by decide, rfl, rfl⟩⟩, HM2.out.keep e1⟩
  have HF3 := Lib.hid (HF.out.only e1 id)
  have HO3 := Lib.hid (HO.out.trans e1)
  have HT := Lib.hid (show ∀ i, i < w.heap.size → ¬ TurnB (w5.heap.size + 1) A' i from fun i hi e => by
    rcases e with e | e
    · have := HO.out.size; omega
    · have := HA.out i e; omega)
  clear HF HO e1 HM2 HA
  go_wp2_with fail
  clear a0 a1 a2 a3 a4 a5 a6 a7 a8 a9
  generalize (w5.alloc (.cells #[.int .i64 0, .int .i64 1, .int .i64 0, .int .i64 0] 70)).alloc (.cells #[.pointer (some ⟨bb, 0, none⟩), .int .i64 1, .int .i64 2, .int .i64 0, .int .i64 op, .int .i64 line, .int .u32 a, .int .u32 b, .int .i64 s, .bool false, .int .i64 0, .int .i64 0, .bool false, .int .i64 ret, .int .i64 0, .int .i64 0, .int .u32 0, .int .u32 0, .int .u32 0, .slice (some ⟨w5.heap.size, 0, none⟩) 1 1] 43) = w6 at *
  generalize w5.heap.size = gn at *
  generalize gn + 1 = B at *
  refine (step_lines B (some ⟨bb, 0, none⟩) A' c' _ .nilFunc _ _ _ _ _ _ HP.out rfl (lined_nil B _ A' c' _ (TurnB B A')) (.inl rfl) (fun _ _ => trivial)).mono ?_
  intro e w7 hD
  obtain ⟨rfl, hO, _, nv7, hP⟩ := hD
  have HFT := Lib.hid (HF3.out.only hO (fun e => by
    rcases e with e | e
    · exact row_ne HF3.out HP.out.row (by decide) e
    · exact memo_not9 HP.out.memo HF3.out (by decide) (by decide) (.inr e)))
  have HPT := Lib.hid hP
  have HOT := Lib.hid (HO3.out.step hO (fun i hi e => HT.out i hi e))
  obtain ⟨A9, c9, rfl⟩ : ∃ A9 c9, nv7 = .slice A9 0 c9 := by
    obtain ⟨A9, c9, h, _⟩ := own_form hP.notes
    exact ⟨A9, c9, h⟩
  clear hO hP HP HF3 HO3
  have HOV := Lib.hid (show LS.over (LS.fresh ⟨1, 2, 0, op, line, a, b, s, wk0, ret, acc0, [⟨0, 1, 0, 0⟩], List.replicate 12 0⟩) = !(ret == 0) from Bool.and_true _)
  rw [HOV.out]
  go_upto_region 16 with (fail)
  refine wp_region_phase (n := 33) 30 (fun w => w.cell? ⟨gf, 0, none⟩ = some (.int .i64 op) ∧ w.cell? ⟨gf, 1, none⟩ = some (.int .i64 line) ∧ w.cell? ⟨gf, 2, none⟩ = some (.int .u32 a) ∧ w.cell? ⟨gf, 3, none⟩ = some (.int .u32 b) ∧ w.cell? ⟨gf, 4, none⟩ = some (.int .i64 s) ∧ w.cell? ⟨gf, 5, none⟩ = some (.bool false) ∧ w.cell? ⟨gf, 6, none⟩ = some (.int .i64 0) ∧ w.cell? ⟨gf, 7, none⟩ = some (.int .i64 0) ∧ w.cell? ⟨gf, 8, none⟩ = some (.bool false) ∧ w.cell? ⟨gf, 9, none⟩ = some (.int .i64 ret) ∧ w.cell? ⟨B, 4, none⟩ = some (.int .i64 op) ∧ w.cell? ⟨B, 5, none⟩ = some (.int .i64 line) ∧ w.cell? ⟨B, 6, none⟩ = some (.int .u32 a) ∧ w.cell? ⟨B, 7, none⟩ = some (.int .u32 b) ∧ w.cell? ⟨B, 8, none⟩ = some (.int .i64 s) ∧ w.cell? ⟨B, 9, none⟩ = some (.bool false) ∧ w.cell? ⟨B, 10, none⟩ = some (.int .i64 0) ∧ w.cell? ⟨B, 11, none⟩ = some (.int .i64 0) ∧ w.cell? ⟨B, 12, none⟩ = some (.bool false) ∧ w.cell? ⟨B, 13, none⟩ = some (.int .i64 ret) ∧ w.cell? ⟨B, 14, none⟩ = some (.int .i64 0) ∧ w.cell? ⟨B, 15, none⟩ = some (.int .i64 0) ∧ w.cell? ⟨B, 16, none⟩ = some (.int .u32 0) ∧ w.cell? ⟨B, 17, none⟩ = some (.int .u32 0) ∧ w.cell? ⟨B, 18, none⟩ = some (.int .u32 0) ∧ w.cell? ⟨B, 19, none⟩ = some (.slice A9 0 c9)) rfl (by kernel_rfl) ⟨HFT.out.cell_ (i := 0) rfl, HFT.out.cell_ (i := 1) rfl, HFT.out.cell_ (i := 2) rfl, HFT.out.cell_ (i := 3) rfl, HFT.out.cell_ (i := 4) rfl, HFT.out.cell_ (i := 5) rfl, HFT.out.cell_ (i := 6) rfl, HFT.out.cell_ (i := 7) rfl, HFT.out.cell_ (i := 8) rfl, HFT.out.cell_ (i := 9) rfl, HPT.out.row.cell_ (i := 4) rfl, HPT.out.row.cell_ (i := 5) rfl, HPT.out.row.cell_ (i := 6) rfl, HPT.out.row.cell_ (i := 7) rfl, HPT.out.row.cell_ (i := 8) rfl, HPT.out.row.cell_ (i := 9) rfl, HPT.out.row.cell_ (i := 10) rfl, HPT.out.row.cell_ (i := 11) rfl, HPT.out.row.cell_ (i := 12) rfl, HPT.out.row.cell_ (i := 13) rfl, HPT.out.row.cell_ (i := 14) rfl, HPT.out.row.cell_ (i := 15) rfl, HPT.out.row.cell_ (i := 16) rfl, HPT.out.row.cell_ (i := 17) rfl, HPT.out.row.cell_ (i := 18) rfl, HPT.out.row.cell_ (i := 19) rfl⟩ (fun hHeld => ?_)
  have HPN := Lib.hid (HPT.out.keep (Only.refl Nil w7).drew)
  have HFN := Lib.hid HFT.out.drew
  have HON := Lib.hid HOT.out.drew
  clear HPT HFT HOT
  generalize w7.drew = w9 at *
  clear HOV
  by_cases hb : ret = 0
  · subst hb
    rw [show (!((0 : Int) == 0)) = false from rfl]
    refine pa_0 rfl rfl (.bool false) (by kernel_rfl) (by kernel_rfl) (by kernel_rfl) (by decide) (by kernel_rfl) (fun _ _ _ h => h) (by rfl) (fun w => ?_) (by first | (right; assumption) | (left; kernel_rfl)) ?_
    · go_simp
    (try simp only [Act.put, List.setIfInBounds_toArray, List.set_cons_zero, List.set_cons_succ])
    refine pa_1 rfl rfl (.pointer (some ⟨gf, 9, none⟩)) (by kernel_rfl) (by kernel_rfl) (by kernel_rfl) (by decide) (by kernel_rfl) (fun _ _ _ h => h) (by rfl) (fun w => ?_) (by first | (right; assumption) | (left; kernel_rfl)) ?_
    · go_simp
    (try simp only [Act.put, List.setIfInBounds_toArray, List.set_cons_zero, List.set_cons_succ])
    refine pt_2 rfl rfl 9 (.int .i64 0) (by kernel_rfl) (by kernel_rfl) (by kernel_rfl) (by kernel_rfl) (by kernel_rfl) (fun _ _ _ h => h) (by rfl) (fun w hSw => ?_) (by assumption) ?_
    · (try dsimp only at hSw)
      go_split_ands
      go_simp
    (try simp only [Act.put, List.setIfInBounds_toArray, List.set_cons_zero, List.set_cons_succ])
    refine pa_3 rfl rfl (.bool false) (by kernel_rfl) (by kernel_rfl) (by kernel_rfl) (by decide) (by kernel_rfl) (fun _ _ _ h => h) (by rfl) (fun w => ?_) (by first | (right; assumption) | (left; kernel_rfl)) ?_
    · go_simp
    (try simp only [Act.put, List.setIfInBounds_toArray, List.set_cons_zero, List.set_cons_succ])
    refine pa_4 rfl rfl (.bool true) (by kernel_rfl) (by kernel_rfl) (by kernel_rfl) (by decide) (by kernel_rfl) (fun _ _ _ h => h) (by rfl) (fun w => ?_) (by first | (right; assumption) | (left; kernel_rfl)) ?_
    · go_simp
    (try simp only [Act.put, List.setIfInBounds_toArray, List.set_cons_zero, List.set_cons_succ])
    refine pa_5 rfl rfl (.bool true) (by kernel_rfl) (by kernel_rfl) (by kernel_rfl) (by decide) (by kernel_rfl) (fun _ _ _ h => h) (by rfl) (fun w => ?_) (by first | (right; assumption) | (left; kernel_rfl)) ?_
    · go_simp
    (try simp only [Act.put, List.setIfInBounds_toArray, List.set_cons_zero, List.set_cons_succ])
    refine pa_6 rfl rfl (.pointer (some ⟨B, 0, none⟩)) (by kernel_rfl) (by kernel_rfl) (by kernel_rfl) (by decide) (by kernel_rfl) (fun _ _ _ h => h) (by rfl) (fun w => ?_) (by first | (right; assumption) | (left; kernel_rfl)) ?_
    · go_simp
    (try simp only [Act.put, List.setIfInBounds_toArray, List.set_cons_zero, List.set_cons_succ])
    refine pa_7 rfl rfl (.pointer (some ⟨B, 0, none⟩)) (by kernel_rfl) (by kernel_rfl) (by kernel_rfl) (by decide) (by kernel_rfl) (fun _ _ _ h => h) (by rfl) (fun w => ?_) (by first | (right; assumption) | (left; kernel_rfl)) ?_
    · go_simp
    (try simp only [Act.put, List.setIfInBounds_toArray, List.set_cons_zero, List.set_cons_succ])
    refine pa_8 rfl rfl (.pointer (some ⟨B, 4, none⟩)) (by kernel_rfl) (by kernel_rfl) (by kernel_rfl) (by decide) (by kernel_rfl) (fun _ _ _ h => h) (by rfl) (fun w => ?_) (by first | (right; assumption) | (left; kernel_rfl)) ?_
    · go_simp
    (try simp only [Act.put, List.setIfInBounds_toArray, List.set_cons_zero, List.set_cons_succ])
    refine pt_9 rfl rfl 9 (.agg #[.int .i64 op, .int .i64 line, .int .u32 a, .int .u32 b, .int .i64 s, .bool false, .int .i64 0, .int .i64 0, .bool false, .int .i64 0]) (by kernel_rfl) (by kernel_rfl) (by kernel_rfl) (by kernel_rfl) (by kernel_rfl) (fun _ _ _ h => h) (by rfl) (fun w hSw => ?_) (by assumption) ?_
    · (try dsimp only at hSw)
      go_split_ands
      go_simp
    (try simp only [Act.put, List.setIfInBounds_toArray, List.set_cons_zero, List.set_cons_succ])
    refine pt_10 rfl rfl 9 (.agg #[.int .i64 op, .int .i64 line, .int .u32 a, .int .u32 b, .int .i64 s, .bool false, .int .i64 0, .int .i64 0, .bool false, .int .i64 0]) (by kernel_rfl) (by kernel_rfl) (by kernel_rfl) (by kernel_rfl) (by kernel_rfl) (fun _ _ _ h => h) (by rfl) (fun w hSw => ?_) (by assumption) ?_
    · (try dsimp only at hSw)
      go_split_ands
      go_simp
    (try simp only [Act.put, List.setIfInBounds_toArray, List.set_cons_zero, List.set_cons_succ])
    refine pa_11 rfl rfl (.bool true) (by kernel_rfl) (by kernel_rfl) (by kernel_rfl) (by decide) (by kernel_rfl) (fun _ _ _ h => h) (by rfl) (fun w => ?_) (by first | (right; assumption) | (left; kernel_rfl)) ?_
    · go_simp
    (try simp only [Act.put, List.setIfInBounds_toArray, List.set_cons_zero, List.set_cons_succ])
    refine pa_12 rfl rfl (.bool true) (by kernel_rfl) (by kernel_rfl) (by kernel_rfl) (by decide) (by kernel_rfl) (fun _ _ _ h => h) (by rfl) (fun w => ?_) (by first | (right; assumption) | (left; kernel_rfl)) ?_
    · go_simp
    (try simp only [Act.put, List.setIfInBounds_toArray, List.set_cons_zero, List.set_cons_succ])
    refine pa_13 rfl rfl (.bool true) (by kernel_rfl) (by kernel_rfl) (by kernel_rfl) (by decide) (by kernel_rfl) (fun _ _ _ h => h) (by rfl) (fun w => ?_) (by first | (right; assumption) | (left; kernel_rfl)) ?_
    · go_simp
    (try simp only [Act.put, List.setIfInBounds_toArray, List.set_cons_zero, List.set_cons_succ])
    refine pa_14 rfl rfl (.pointer (some ⟨B, 0, none⟩)) (by kernel_rfl) (by kernel_rfl) (by kernel_rfl) (by decide) (by kernel_rfl) (fun _ _ _ h => h) (by rfl) (fun w => ?_) (by first | (right; assumption) | (left; kernel_rfl)) ?_
    · go_simp
    (try simp only [Act.put, List.setIfInBounds_toArray, List.set_cons_zero, List.set_cons_succ])
    refine pa_15 rfl rfl (.pointer (some ⟨B, 0, none⟩)) (by kernel_rfl) (by kernel_rfl) (by kernel_rfl) (by decide) (by kernel_rfl) (fun _ _ _ h => h) (by rfl) (fun w => ?_) (by first | (right; assumption) | (left; kernel_rfl)) ?_
    · go_simp
    (try simp only [Act.put, List.setIfInBounds_toArray, List.set_cons_zero, List.set_cons_succ])
    refine pa_16 rfl rfl (.pointer (some ⟨B, 19, none⟩)) (by kernel_rfl) (by kernel_rfl) (by kernel_rfl) (by decide) (by kernel_rfl) (fun _ _ _ h => h) (by rfl) (fun w => ?_) (by first | (right; assumption) | (left; kernel_rfl)) ?_
    · go_simp
    (try simp only [Act.put, List.setIfInBounds_toArray, List.set_cons_zero, List.set_cons_succ])
    refine pt_17 rfl rfl 9 (.slice A9 0 c9) (by kernel_rfl) (by kernel_rfl) (by kernel_rfl) (by kernel_rfl) (by kernel_rfl) (fun _ _ _ h => h) (by rfl) (fun w hSw => ?_) (by assumption) ?_
    · (try dsimp only at hSw)
      go_split_ands
      go_simp
    (try simp only [Act.put, List.setIfInBounds_toArray, List.set_cons_zero, List.set_cons_succ])
    refine pa_18 rfl rfl (.int .i64 0) (by kernel_rfl) (by kernel_rfl) (by kernel_rfl) (by decide) (by kernel_rfl) (fun _ _ _ h => h) (by rfl) (fun w => ?_) (by first | (right; assumption) | (left; kernel_rfl)) ?_
    · go_simp
    (try simp only [Act.put, List.setIfInBounds_toArray, List.set_cons_zero, List.set_cons_succ])
    refine pa_19 rfl rfl (.bool true) (by kernel_rfl) (by kernel_rfl) (by kernel_rfl) (by decide) (by kernel_rfl) (fun _ _ _ h => h) (by rfl) (fun w => ?_) (by first | (right; assumption) | (left; kernel_rfl)) ?_
    · go_simp
    (try simp only [Act.put, List.setIfInBounds_toArray, List.set_cons_zero, List.set_cons_succ])
    refine pa_20 rfl rfl (.bool true) (by kernel_rfl) (by kernel_rfl) (by kernel_rfl) (by decide) (by kernel_rfl) (fun _ _ _ h => h) (by rfl) (fun w => ?_) (by first | (right; assumption) | (left; kernel_rfl)) ?_
    · go_simp
    (try simp only [Act.put, List.setIfInBounds_toArray, List.set_cons_zero, List.set_cons_succ])
    refine pa_21 rfl rfl (.bool true) (by kernel_rfl) (by kernel_rfl) (by kernel_rfl) (by decide) (by kernel_rfl) (fun _ _ _ h => h) (by rfl) (fun w => ?_) (by first | (right; assumption) | (left; kernel_rfl)) ?_
    · go_simp
    (try simp only [Act.put, List.setIfInBounds_toArray, List.set_cons_zero, List.set_cons_succ])
    refine pa_22 rfl rfl (.pointer (some ⟨B, 0, none⟩)) (by kernel_rfl) (by kernel_rfl) (by kernel_rfl) (by decide) (by kernel_rfl) (fun _ _ _ h => h) (by rfl) (fun w => ?_) (by first | (right; assumption) | (left; kernel_rfl)) ?_
    · go_simp
    (try simp only [Act.put, List.setIfInBounds_toArray, List.set_cons_zero, List.set_cons_succ])
    refine pa_23 rfl rfl (.pointer (some ⟨B, 0, none⟩)) (by kernel_rfl) (by kernel_rfl) (by kernel_rfl) (by decide) (by kernel_rfl) (fun _ _ _ h => h) (by rfl) (fun w => ?_) (by first | (right; assumption) | (left; kernel_rfl)) ?_
    · go_simp
    (try simp only [Act.put, List.setIfInBounds_toArray, List.set_cons_zero, List.set_cons_succ])
    refine pa_24 rfl rfl (.pointer (some ⟨B, 14, none⟩)) (by kernel_rfl) (by kernel_rfl) (by kernel_rfl) (by decide) (by kernel_rfl) (fun _ _ _ h => h) (by rfl) (fun w => ?_) (by first | (right; assumption) | (left; kernel_rfl)) ?_
    · go_simp
    (try simp only [Act.put, List.setIfInBounds_toArray, List.set_cons_zero, List.set_cons_succ])
    refine pt_25 rfl rfl 9 (.agg #[.int .i64 0, .int .i64 0, .int .u32 0, .int .u32 0, .int .u32 0]) (by kernel_rfl) (by kernel_rfl) (by kernel_rfl) (by kernel_rfl) (by kernel_rfl) (fun _ _ _ h => h) (by rfl) (fun w hSw => ?_) (by assumption) ?_
    · (try dsimp only at hSw)
      go_split_ands
      go_simp
    (try simp only [Act.put, List.setIfInBounds_toArray, List.set_cons_zero, List.set_cons_succ])
    refine pa_26 rfl rfl (.agg #[.int .i64 0, .int .i64 0, .int .u32 0, .int .u32 0, .int .u32 0]) (by kernel_rfl) (by kernel_rfl) (by kernel_rfl) (by decide) (by kernel_rfl) (fun _ _ _ h => h) (by rfl) (fun w => ?_) (by first | (right; assumption) | (left; kernel_rfl)) ?_
    · go_simp
    (try simp only [Act.put, List.setIfInBounds_toArray, List.set_cons_zero, List.set_cons_succ])
    refine pa_27 rfl rfl (.bool true) (by kernel_rfl) (by kernel_rfl) (by kernel_rfl) (by decide) (by kernel_rfl) (fun _ _ _ h => h) (by rfl) (fun w => ?_) (by first | (right; assumption) | (left; kernel_rfl)) ?_
    · go_simp
    (try simp only [Act.put, List.setIfInBounds_toArray, List.set_cons_zero, List.set_cons_succ])
    refine pa_28 rfl rfl (.bool true) (by kernel_rfl) (by kernel_rfl) (by kernel_rfl) (by decide) (by kernel_rfl) (fun _ _ _ h => h) (by rfl) (fun w => ?_) (by first | (right; assumption) | (left; kernel_rfl)) ?_
    · go_simp
    (try simp only [Act.put, List.setIfInBounds_toArray, List.set_cons_zero, List.set_cons_succ])
    refine pa_29 rfl rfl (.bool true) (by kernel_rfl) (by kernel_rfl) (by kernel_rfl) (by decide) (by kernel_rfl) (fun _ _ _ h => h) (by rfl) (fun w => ?_) (by first | (right; assumption) | (left; kernel_rfl)) ?_
    · go_simp
    (try simp only [Act.put, List.setIfInBounds_toArray, List.set_cons_zero, List.set_cons_succ])
    refine pc_30 rfl rfl (by kernel_rfl) (by rfl) (fun K hK => ?_)
    go_simp
    refine (awake_any _).mono ?_
    rintro e w8 ⟨rfl, hO⟩
    have HPM := Lib.hid (HPN.out.keep hO)
    have HFM := Lib.hid (HFN.out.only hO id)
    have HOM := Lib.hid (HON.out.trans hO)
    refine hK.out _ _ (.inl (by kernel_rfl)) ?_
    clear hK K hHeld hO
    (try simp only [Act.put, List.setIfInBounds_toArray, List.set_cons_zero, List.set_cons_succ])
    refine pa_31 rfl rfl (.bool true) (by kernel_rfl) (by kernel_rfl) (by kernel_rfl) (by decide) (by kernel_rfl) (fun _ _ _ h => h) (by rfl) (fun w => ?_) (by first | (right; assumption) | (left; kernel_rfl)) ?_
    · go_simp
    (try simp only [Act.put, List.setIfInBounds_toArray, List.set_cons_zero, List.set_cons_succ])
    refine pa_32 rfl rfl (.bool true) (by kernel_rfl) (by kernel_rfl) (by kernel_rfl) (by decide) (by kernel_rfl) (fun _ _ _ h => h) (by rfl) (fun w => ?_) (by first | (right; assumption) | (left; kernel_rfl)) ?_
    · go_simp
    (try simp only [Act.put, List.setIfInBounds_toArray, List.set_cons_zero, List.set_cons_succ])
    refine wpAnyP_done (by kernel_rfl) ?_ _
    go_wp2
    go_ret
    exact ⟨rfl, HOM.out⟩
  · rw [show (!(ret == 0)) = true by simpa using hb]
    refine pa_0 rfl rfl (.bool true) (by kernel_rfl) (by kernel_rfl) (by kernel_rfl) (by decide) (by kernel_rfl) (fun _ _ _ h => h) (by rfl) (fun w => ?_) (by first | (right; assumption) | (left; kernel_rfl)) ?_
    · go_simp
    (try simp only [Act.put, List.setIfInBounds_toArray, List.set_cons_zero, List.set_cons_succ])
    refine pa_1 rfl rfl (.pointer (some ⟨gf, 9, none⟩)) (by kernel_rfl) (by kernel_rfl) (by kernel_rfl) (by decide) (by kernel_rfl) (fun _ _ _ h => h) (by rfl) (fun w => ?_) (by first | (right; assumption) | (left; kernel_rfl)) ?_
    · go_simp
    (try simp only [Act.put, List.setIfInBounds_toArray, List.set_cons_zero, List.set_cons_succ])
    refine pt_2 rfl rfl 9 (.int .i64 ret) (by kernel_rfl) (by kernel_rfl) (by kernel_rfl) (by kernel_rfl) (by kernel_rfl) (fun _ _ _ h => h) (by rfl) (fun w hSw => ?_) (by assumption) ?_
    · (try dsimp only at hSw)
      go_split_ands
      go_simp
    (try simp only [Act.put, List.setIfInBounds_toArray, List.set_cons_zero, List.set_cons_succ])
    refine pa_3 rfl rfl (.bool true) (by kernel_rfl) (by kernel_rfl) (by kernel_rfl) (by decide) (by kernel_rfl) (fun _ _ _ h => h) (by rfl) (fun w => ?_) (by first | (right; assumption) | (left; kernel_rfl)) ?_
    · go_simp
    (try simp only [Act.put, List.setIfInBounds_toArray, List.set_cons_zero, List.set_cons_succ])
    refine pa_4 rfl rfl (.bool true) (by kernel_rfl) (by kernel_rfl) (by kernel_rfl) (by decide) (by kernel_rfl) (fun _ _ _ h => h) (by rfl) (fun w => ?_) (by first | (right; assumption) | (left; kernel_rfl)) ?_
    · go_simp
    (try simp only [Act.put, List.setIfInBounds_toArray, List.set_cons_zero, List.set_cons_succ])
    refine pa_5 rfl rfl (.bool true) (by kernel_rfl) (by kernel_rfl) (by kernel_rfl) (by decide) (by kernel_rfl) (fun _ _ _ h => h) (by rfl) (fun w => ?_) (by first | (right; assumption) | (left; kernel_rfl)) ?_
    · go_simp
    (try simp only [Act.put, List.setIfInBounds_toArray, List.set_cons_zero, List.set_cons_succ])
    refine pa_6 rfl rfl (.pointer (some ⟨B, 0, none⟩)) (by kernel_rfl) (by kernel_rfl) (by kernel_rfl) (by decide) (by kernel_rfl) (fun _ _ _ h => h) (by rfl) (fun w => ?_) (by first | (right; assumption) | (left; kernel_rfl)) ?_
    · go_simp
    (try simp only [Act.put, List.setIfInBounds_toArray, List.set_cons_zero, List.set_cons_succ])
    refine pa_7 rfl rfl (.pointer (some ⟨B, 0, none⟩)) (by kernel_rfl) (by kernel_rfl) (by kernel_rfl) (by decide) (by kernel_rfl) (fun _ _ _ h => h) (by rfl) (fun w => ?_) (by first | (right; assumption) | (left; kernel_rfl)) ?_
    · go_simp
    (try simp only [Act.put, List.setIfInBounds_toArray, List.set_cons_zero, List.set_cons_succ])
    refine pa_8 rfl rfl (.pointer (some ⟨B, 4, none⟩)) (by kernel_rfl) (by kernel_rfl) (by kernel_rfl) (by decide) (by kernel_rfl) (fun _ _ _ h => h) (by rfl) (fun w => ?_) (by first | (right; assumption) | (left; kernel_rfl)) ?_
    · go_simp
    (try simp only [Act.put, List.setIfInBounds_toArray, List.set_cons_zero, List.set_cons_succ])
    refine pt_9 rfl rfl 9 (.agg #[.int .i64 op, .int .i64 line, .int .u32 a, .int .u32 b, .int .i64 s, .bool false, .int .i64 0, .int .i64 0, .bool false, .int .i64 ret]) (by kernel_rfl) (by kernel_rfl) (by kernel_rfl) (by kernel_rfl) (by kernel_rfl) (fun _ _ _ h => h) (by rfl) (fun w hSw => ?_) (by assumption) ?_
    · (try dsimp only at hSw)
      go_split_ands
      go_simp
    (try simp only [Act.put, List.setIfInBounds_toArray, List.set_cons_zero, List.set_cons_succ])
    refine pt_10 rfl rfl 9 (.agg #[.int .i64 op, .int .i64 line, .int .u32 a, .int .u32 b, .int .i64 s, .bool false, .int .i64 0, .int .i64 0, .bool false, .int .i64 ret]) (by kernel_rfl) (by kernel_rfl) (by kernel_rfl) (by kernel_rfl) (by kernel_rfl) (fun _ _ _ h => h) (by rfl) (fun w hSw => ?_) (by assumption) ?_
    · (try dsimp only at hSw)
      go_split_ands
      go_simp
    (try simp only [Act.put, List.setIfInBounds_toArray, List.set_cons_zero, List.set_cons_succ])
    refine pa_11 rfl rfl (.bool true) (by kernel_rfl) (by kernel_rfl) (by kernel_rfl) (by decide) (by kernel_rfl) (fun _ _ _ h => h) (by rfl) (fun w => ?_) (by first | (right; assumption) | (left; kernel_rfl)) ?_
    · go_simp
    (try simp only [Act.put, List.setIfInBounds_toArray, List.set_cons_zero, List.set_cons_succ])
    refine pa_12 rfl rfl (.bool true) (by kernel_rfl) (by kernel_rfl) (by kernel_rfl) (by decide) (by kernel_rfl) (fun _ _ _ h => h) (by rfl) (fun w => ?_) (by first | (right; assumption) | (left; kernel_rfl)) ?_
    · go_simp
    (try simp only [Act.put, List.setIfInBounds_toArray, List.set_cons_zero, List.set_cons_succ])
    refine pa_13 rfl rfl (.bool true) (by kernel_rfl) (by kernel_rfl) (by kernel_rfl) (by decide) (by kernel_rfl) (fun _ _ _ h => h) (by rfl) (fun w => ?_) (by first | (right; assumption) | (left; kernel_rfl)) ?_
    · go_simp
    (try simp only [Act.put, List.setIfInBounds_toArray, List.set_cons_zero, List.set_cons_succ])
    refine pa_14 rfl rfl (.pointer (some ⟨B, 0, none⟩)) (by kernel_rfl) (by kernel_rfl) (by kernel_rfl) (by decide) (by kernel_rfl) (fun _ _ _ h => h) (by rfl) (fun w => ?_) (by first | (right; assumption) | (left; kernel_rfl)) ?_
    · go_simp
    (try simp only [Act.put, List.setIfInBounds_toArray, List.set_cons_zero, List.set_cons_succ])
    refine pa_15 rfl rfl (.pointer (some ⟨B, 0, none⟩)) (by kernel_rfl) (by kernel_rfl) (by kernel_rfl) (by decide) (by kernel_rfl) (fun _ _ _ h => h) (by rfl) (fun w => ?_) (by first | (right; assumption) | (left; kernel_rfl)) ?_
    · go_simp
    (try simp only [Act.put, List.setIfInBounds_toArray, List.set_cons_zero, List.set_cons_succ])
    refine pa_16 rfl rfl (.pointer (some ⟨B, 19, none⟩)) (by kernel_rfl) (by kernel_rfl) (by kernel_rfl) (by decide) (by kernel_rfl) (fun _ _ _ h => h) (by rfl) (fun w => ?_) (by first | (right; assumption) | (left; kernel_rfl)) ?_
    · go_simp
    (try simp only [Act.put, List.setIfInBounds_toArray, List.set_cons_zero, List.set_cons_succ])
    refine pt_17 rfl rfl 9 (.slice A9 0 c9) (by kernel_rfl) (by kernel_rfl) (by kernel_rfl) (by kernel_rfl) (by kernel_rfl) (fun _ _ _ h => h) (by rfl) (fun w hSw => ?_) (by assumption) ?_
    · (try dsimp only at hSw)
      go_split_ands
      go_simp
    (try simp only [Act.put, List.setIfInBounds_toArray, List.set_cons_zero, List.set_cons_succ])
    refine pa_18 rfl rfl (.int .i64 0) (by kernel_rfl) (by kernel_rfl) (by kernel_rfl) (by decide) (by kernel_rfl) (fun _ _ _ h => h) (by rfl) (fun w => ?_) (by first | (right; assumption) | (left; kernel_rfl)) ?_
    · go_simp
    (try simp only [Act.put, List.setIfInBounds_toArray, List.set_cons_zero, List.set_cons_succ])
    refine pa_19 rfl rfl (.bool true) (by kernel_rfl) (by kernel_rfl) (by kernel_rfl) (by decide) (by kernel_rfl) (fun _ _ _ h => h) (by rfl) (fun w => ?_) (by first | (right; assumption) | (left; kernel_rfl)) ?_
    · go_simp
    (try simp only [Act.put, List.setIfInBounds_toArray, List.set_cons_zero, List.set_cons_succ])
    refine pa_20 rfl rfl (.bool true) (by kernel_rfl) (by kernel_rfl) (by kernel_rfl) (by decide) (by kernel_rfl) (fun _ _ _ h => h) (by rfl) (fun w => ?_) (by first | (right; assumption) | (left; kernel_rfl)) ?_
    · go_simp
    (try simp only [Act.put, List.setIfInBounds_toArray, List.set_cons_zero, List.set_cons_succ])
    refine pa_21 rfl rfl (.bool true) (by kernel_rfl) (by kernel_rfl) (by kernel_rfl) (by decide) (by kernel_rfl) (fun _ _ _ h => h) (by rfl) (fun w => ?_) (by first | (right; assumption) | (left; kernel_rfl)) ?_
    · go_simp
    (try simp only [Act.put, List.setIfInBounds_toArray, List.set_cons_zero, List.set_cons_succ])
    refine pa_22 rfl rfl (.pointer (some ⟨B, 0, none⟩)) (by kernel_rfl) (by kernel_rfl) (by kernel_rfl) (by decide) (by kernel_rfl) (fun _ _ _ h => h) (by rfl) (fun w => ?_) (by first | (right; assumption) | (left; kernel_rfl)) ?_
    · go_simp
    (try simp only [Act.put, List.setIfInBounds_toArray, List.set_cons_zero, List.set_cons_succ])
    refine pa_23 rfl rfl (.pointer (some ⟨B, 0, none⟩)) (by kernel_rfl) (by kernel_rfl) (by kernel_rfl) (by decide) (by kernel_rfl) (fun _ _ _ h => h) (by rfl) (fun w => ?_) (by first | (right; assumption) | (left; kernel_rfl)) ?_
    · go_simp
    (try simp only [Act.put, List.setIfInBounds_toArray, List.set_cons_zero, List.set_cons_succ])
    refine pa_24 rfl rfl (.pointer (some ⟨B, 14, none⟩)) (by kernel_rfl) (by kernel_rfl) (by kernel_rfl) (by decide) (by kernel_rfl) (fun _ _ _ h => h) (by rfl) (fun w => ?_) (by first | (right; assumption) | (left; kernel_rfl)) ?_
    · go_simp
    (try simp only [Act.put, List.setIfInBounds_toArray, List.set_cons_zero, List.set_cons_succ])
    refine pt_25 rfl rfl 9 (.agg #[.int .i64 0, .int .i64 0, .int .u32 0, .int .u32 0, .int .u32 0]) (by kernel_rfl) (by kernel_rfl) (by kernel_rfl) (by kernel_rfl) (by kernel_rfl) (fun _ _ _ h => h) (by rfl) (fun w hSw => ?_) (by assumption) ?_
    · (try dsimp only at hSw)
      go_split_ands
      go_simp
    (try simp only [Act.put, List.setIfInBounds_toArray, List.set_cons_zero, List.set_cons_succ])
    refine pa_26 rfl rfl (.agg #[.int .i64 0, .int .i64 0, .int .u32 0, .int .u32 0, .int .u32 0]) (by kernel_rfl) (by kernel_rfl) (by kernel_rfl) (by decide) (by kernel_rfl) (fun _ _ _ h => h) (by rfl) (fun w => ?_) (by first | (right; assumption) | (left; kernel_rfl)) ?_
    · go_simp
    (try simp only [Act.put, List.setIfInBounds_toArray, List.set_cons_zero, List.set_cons_succ])
    refine pa_27 rfl rfl (.bool true) (by kernel_rfl) (by kernel_rfl) (by kernel_rfl) (by decide) (by kernel_rfl) (fun _ _ _ h => h) (by rfl) (fun w => ?_) (by first | (right; assumption) | (left; kernel_rfl)) ?_
    · go_simp
    (try simp only [Act.put, List.setIfInBounds_toArray, List.set_cons_zero, List.set_cons_succ])
    refine pa_28 rfl rfl (.bool true) (by kernel_rfl) (by kernel_rfl) (by kernel_rfl) (by decide) (by kernel_rfl) (fun _ _ _ h => h) (by rfl) (fun w => ?_) (by first | (right; assumption) | (left; kernel_rfl)) ?_
    · go_simp
    (try simp only [Act.put, List.setIfInBounds_toArray, List.set_cons_zero, List.set_cons_succ])
    refine pa_29 rfl rfl (.bool true) (by kernel_rfl) (by kernel_rfl) (by kernel_rfl) (by decide) (by kernel_rfl) (fun _ _ _ h => h) (by rfl) (fun w => ?_) (by first | (right; assumption) | (left; kernel_rfl)) ?_
    · go_simp
    (try simp only [Act.put, List.setIfInBounds_toArray, List.set_cons_zero, List.set_cons_succ])
    refine pc_30 rfl rfl (by kernel_rfl) (by rfl) (fun K hK => ?_)
    go_simp
    refine (awake_any _).mono ?_
    rintro e w8 ⟨rfl, hO⟩
    have HPM := Lib.hid (HPN.out.keep hO)
    have HFM := Lib.hid (HFN.out.only hO id)
    have HOM := Lib.hid (HON.out.trans hO)
    refine hK.out _ _ (.inl (by kernel_rfl)) ?_
    clear hK K hHeld hO
    (try simp only [Act.put, List.setIfInBounds_toArray, List.set_cons_zero, List.set_cons_succ])
    refine pa_31 rfl rfl (.bool true) (by kernel_rfl) (by kernel_rfl) (by kernel_rfl) (by decide) (by kernel_rfl) (fun _ _ _ h => h) (by rfl) (fun w => ?_) (by first | (right; assumption) | (left; kernel_rfl)) ?_
    · go_simp
    (try simp only [Act.put, List.setIfInBounds_toArray, List.set_cons_zero, List.set_cons_succ])
    refine pa_32 rfl rfl (.bool true) (by kernel_rfl) (by kernel_rfl) (by kernel_rfl) (by decide) (by kernel_rfl) (fun _ _ _ h => h) (by rfl) (fun w => ?_) (by first | (right; assumption) | (left; kernel_rfl)) ?_
    · go_simp
    (try simp only [Act.put, List.setIfInBounds_toArray, List.set_cons_zero, List.set_cons_succ])
    refine wpAnyP_done (by kernel_rfl) ?_ _
    go_wp2
    go_ret
    exact ⟨rfl, HOM.out⟩

theorem walk_lineNone (a0 a1 a2 : Int) (u3x0 u3x1 u3x2 u3x3 u3x4 : Int) (u3x5 : Bool) (u3x6 u3x7 : Int) (u3x8 : Bool) (u3x9 : Int) (w : World) (w0 : (Lit.int .i64 a0).wf = true) (w1 : (Lit.int .u32 a1).wf = true) (w2 : (Lit.int .u32 a2).wf = true) (w3 : True) :
    Calls Try.prog 4 #[.int .i64 a0, .int .u32 a1, .int .u32 a2, .agg #[.int .i64 u3x0, .int .i64 u3x1, .int .u32 u3x2, .int .u32 u3x3, .int .i64 u3x4, .bool u3x5, .int .i64 u3x6, .int .i64 u3x7, .bool u3x8, .int .i64 u3x9]] w fun e w' => e = .returned (.bool true) ∧ Only Nil w w' :=
  none_main a0 a1 a2 u3x0 u3x1 u3x2 u3x3 u3x4 u3x5 u3x6 u3x7 u3x8 u3x9 w
end Go.Proofs.Ytomgjamojeejbaa
/- A run's Note, the program's. -/
set_option linter.unusedVariables false
set_option linter.unusedSimpArgs false
namespace Go.Proofs.Ytomgjamojeejbaa
open Go.RowKit

theorem wp_append_cut {o : Oper} {a : Act} {K : Act → World → Prop} {Q : Exit → Act → World → Prop} (s x : Operand) (ho : o.op = .call { callee := .builtin .append, args := #[s, x], argTypes := #[41, 41] })
    (v : Value) (zs : List Nt) (w : World) (g : Nat) (n : Nt) (hs : a.eval s = cutV v) (hx : a.eval x = .slice (some ⟨g, 0, none⟩) 1 1) (hown : OwnN 0 w v zs) (hrow : Row w g 70 #[.int .i64 n.t, .int .i64 n.w, .int .i64 n.o, .int .i64 n.a]) (h1 : zs.length ≤ 1000)
    (h : ∀ A' n' c' w', OwnN 0 w' (.slice A' n' c') (zs ++ [n]) → Only Nil w w' → K (a.put o.dst (.slice A' n' c')) w') : o.wp Try.prog a w K Q := by
  obtain ⟨v', w', hr, h2, h3⟩ := run_append_cut o.type v zs w g n hown hrow h1
  unfold Oper.wp execOp
  simp only [ho, resolve, invoke, builtin, Sem.run_bind, Sem.run_pure, Result.andThen_ok, List.map_toArray, List.map_cons, List.map_nil, hs, hx, hr]
  obtain ⟨A', c', rfl, _⟩ := own_form h2
  exact h _ _ _ w' h2 h3

theorem RunP.setNotes {w : World} {B : Nat} {p A : Option Addr} {cp : Nat} {nv v : Value} {r : LS} {zs : List Nt} (h : RunP w B p A cp nv r) (hn : OwnN 0 w v zs) : RunP (w.setCell ⟨B, 19, none⟩ v) B p A cp v { r with ns := zs } := by
  have ho := (Only.refl (· = B) w).setCell (p := ⟨B, 19, none⟩) (.inr rfl) v
  refine ⟨h.row.set 19 v, own_only hn ho (fun i hi => ?_), h.memo.far ho (fun j hj => h.far hj)⟩
  rintro rfl
  obtain ⟨cur, hc⟩ := ownN_tag hn hi
  exact absurd (h.row.same hc).1 (by decide)

set_option maxRecDepth 100000 in
set_option maxHeartbeats 1000000 in
theorem note_run (B : Nat) (p A : Option Addr) (cp : Nat) (nv : Value) (r : LS) (what arg : Int) (w : World) (h : RunP w B p A cp nv r) (hl : r.ns.length ≤ 1000) :
    Calls Try.prog 20 #[.pointer (some ⟨B, 0, none⟩), .int .i64 what, .int .i64 arg] w (Done B p A cp w (.tuple #[]) (r.note what arg)) := by
  have m19 : w.cell? ⟨B, 19, none⟩ = some nv := h.row.cell_ (i := 19) rfl
  have m3 : w.cell? ⟨B, 3, none⟩ = some (.int .i64 r.task) := h.row.cell_ (i := 3) rfl
  have HP := Lib.hid h
  have HL := Lib.hid hl
  clear h hl
  go_enter Try.func20, Try.ntmps20
  go_upto_region 1 with (fail)
  refine wp_region_phase (n := 18) 14 (fun w => w.cell? ⟨B, 19, none⟩ = some nv ∧ w.cell? ⟨B, 3, none⟩ = some (.int .i64 r.task)) rfl (by kernel_rfl) ⟨m19, m3⟩ (fun hHeld => ?_)
  have HP1 := Lib.hid (HP.out.keep (Only.refl Nil w).drew)
  have HO1 := Lib.hid ((Only.refl (TurnB B A) w).drew)
  clear m19 m3 HP
  generalize w.drew = w2 at *
  refine pa_0 rfl rfl (.pointer (some ⟨B, 0, none⟩)) (by kernel_rfl) (by kernel_rfl) (by kernel_rfl) (by decide) (by kernel_rfl) (fun _ _ _ h => h) (by rfl) (fun w => ?_) (by first | (right; assumption) | (left; kernel_rfl)) ?_
  · go_simp
  (try simp only [Act.put, List.setIfInBounds_toArray, List.set_cons_zero, List.set_cons_succ])
  refine pa_1 rfl rfl (.pointer (some ⟨B, 0, none⟩)) (by kernel_rfl) (by kernel_rfl) (by kernel_rfl) (by decide) (by kernel_rfl) (fun _ _ _ h => h) (by rfl) (fun w => ?_) (by first | (right; assumption) | (left; kernel_rfl)) ?_
  · go_simp
  (try simp only [Act.put, List.setIfInBounds_toArray, List.set_cons_zero, List.set_cons_succ])
  refine pa_2 rfl rfl (.pointer (some ⟨B, 0, none⟩)) (by kernel_rfl) (by kernel_rfl) (by kernel_rfl) (by decide) (by kernel_rfl) (fun _ _ _ h => h) (by rfl) (fun w => ?_) (by first | (right; assumption) | (left; kernel_rfl)) ?_
  · go_simp
  (try simp only [Act.put, List.setIfInBounds_toArray, List.set_cons_zero, List.set_cons_succ])
  refine pa_3 rfl rfl (.pointer (some ⟨B, 19, none⟩)) (by kernel_rfl) (by kernel_rfl) (by kernel_rfl) (by decide) (by kernel_rfl) (fun _ _ _ h => h) (by rfl) (fun w => ?_) (by first | (right; assumption) | (left; kernel_rfl)) ?_
  · go_simp
  (try simp only [Act.put, List.setIfInBounds_toArray, List.set_cons_zero, List.set_cons_succ])
  refine pt_4 rfl rfl 9 (nv) (by kernel_rfl) (by kernel_rfl) (by kernel_rfl) (by kernel_rfl) (by kernel_rfl) (fun _ _ _ h => h) (by rfl) (fun w hSw => ?_) (by assumption) ?_
  · (try dsimp only at hSw)
    go_split_ands
    go_simp
  (try simp only [Act.put, List.setIfInBounds_toArray, List.set_cons_zero, List.set_cons_succ])
  refine pa_6 rfl rfl (.pointer (some ⟨B, 0, none⟩)) (by kernel_rfl) (by kernel_rfl) (by kernel_rfl) (by decide) (by kernel_rfl) (fun _ _ _ h => h) (by rfl) (fun w => ?_) (by first | (right; assumption) | (left; kernel_rfl)) ?_
  · go_simp
  (try simp only [Act.put, List.setIfInBounds_toArray, List.set_cons_zero, List.set_cons_succ])
  refine pa_7 rfl rfl (.pointer (some ⟨B, 0, none⟩)) (by kernel_rfl) (by kernel_rfl) (by kernel_rfl) (by decide) (by kernel_rfl) (fun _ _ _ h => h) (by rfl) (fun w => ?_) (by first | (right; assumption) | (left; kernel_rfl)) ?_
  · go_simp
  (try simp only [Act.put, List.setIfInBounds_toArray, List.set_cons_zero, List.set_cons_succ])
  refine pa_8 rfl rfl (.pointer (some ⟨B, 3, none⟩)) (by kernel_rfl) (by kernel_rfl) (by kernel_rfl) (by decide) (by kernel_rfl) (fun _ _ _ h => h) (by rfl) (fun w => ?_) (by first | (right; assumption) | (left; kernel_rfl)) ?_
  · go_simp
  (try simp only [Act.put, List.setIfInBounds_toArray, List.set_cons_zero, List.set_cons_succ])
  refine pt_9 rfl rfl 9 (.int .i64 r.task) (by kernel_rfl) (by kernel_rfl) (by kernel_rfl) (by kernel_rfl) (by kernel_rfl) (fun _ _ _ h => h) (by rfl) (fun w hSw => ?_) (by assumption) ?_
  · (try dsimp only at hSw)
    go_split_ands
    go_simp
  (try simp only [Act.put, List.setIfInBounds_toArray, List.set_cons_zero, List.set_cons_succ])
  refine pa_10 rfl rfl (.int .i64 what) (by kernel_rfl) (by kernel_rfl) (by kernel_rfl) (by decide) (by kernel_rfl) (fun _ _ _ h => h) (by rfl) (fun w => ?_) (by first | (right; assumption) | (left; kernel_rfl)) ?_
  · go_simp
  (try simp only [Act.put, List.setIfInBounds_toArray, List.set_cons_zero, List.set_cons_succ])
  refine pa_11 rfl rfl (.int .i64 arg) (by kernel_rfl) (by kernel_rfl) (by kernel_rfl) (by decide) (by kernel_rfl) (fun _ _ _ h => h) (by rfl) (fun w => ?_) (by first | (right; assumption) | (left; kernel_rfl)) ?_
  · go_simp
  (try simp only [Act.put, List.setIfInBounds_toArray, List.set_cons_zero, List.set_cons_succ])
  refine pa_12 rfl rfl (.agg #[.int .i64 r.task, .int .i64 what, .int .i64 0, .int .i64 arg]) (by kernel_rfl) (by kernel_rfl) (by kernel_rfl) (by decide) (by kernel_rfl) (fun _ _ _ h => h) (by rfl) (fun w => ?_) (by first | (right; assumption) | (left; kernel_rfl)) ?_
  · go_simp
  (try simp only [Act.put, List.setIfInBounds_toArray, List.set_cons_zero, List.set_cons_succ])
  refine pd_5_13 rfl rfl (by kernel_rfl) (by rfl) (fun K hK => ?_) (by rfl) (fun K hK => ?_)
  · go_simp
    refine (clip_any nv r.ns _ HP1.out.notes).mono ?_
    rintro e w4 ⟨rfl, rfl⟩
    refine hK.out _ _ (.inr hHeld) ?_
    clear hK K
    (try simp only [Act.put, List.setIfInBounds_toArray, List.set_cons_zero, List.set_cons_succ])
    refine pc_13 rfl rfl (by kernel_rfl) (by rfl) (fun K hK => ?_)
    go_simp
    have HP2 := Lib.hid (HP1.out.keep ((Only.refl Nil w2).alloc (.cells #[.int .i64 r.task, .int .i64 what, .int .i64 0, .int .i64 arg] 70)))
    have HO2 := Lib.hid (HO1.out.alloc (.cells #[.int .i64 r.task, .int .i64 what, .int .i64 0, .int .i64 arg] 70))
    have HN := Lib.hid (Row.new w2 70 #[.int .i64 r.task, .int .i64 what, .int .i64 0, .int .i64 arg])
    have hHeld2 : (w2.alloc (.cells #[.int .i64 r.task, .int .i64 what, .int .i64 0, .int .i64 arg] 70)).cell? ⟨B, 19, none⟩ = some nv ∧ (w2.alloc (.cells #[.int .i64 r.task, .int .i64 what, .int .i64 0, .int .i64 arg] 70)).cell? ⟨B, 3, none⟩ = some (.int .i64 r.task) := ⟨HP2.out.row.cell_ (i := 19) rfl, HP2.out.row.cell_ (i := 3) rfl⟩
    refine hK.out _ _ (.inr hHeld2) ?_
    clear hK K hHeld HP1 HO1
    generalize w2.alloc (.cells #[.int .i64 r.task, .int .i64 what, .int .i64 0, .int .i64 arg] 70) = w3 at *
    generalize w2.heap.size = g at *
    (try simp only [Act.put, List.setIfInBounds_toArray, List.set_cons_zero, List.set_cons_succ])
    refine pc_14 rfl rfl (by kernel_rfl) (by rfl) (fun K hK => ?_)
    refine wp_append_cut (.tmp 13) (.tmp 21) rfl nv r.ns _ g ⟨r.task, what, 0, arg⟩ (by rfl) (by rfl) HP2.out.notes HN.out HL.out (fun A9 n9 c9 w5 hown hO => ?_)
    have HP3 := Lib.hid (HP2.out.keep hO)
    have HO3 := Lib.hid (HO2.out.trans (hO.mono (T := TurnB B A) (fun _ _ h => h.elim)))
    have HV := Lib.hid hown
    refine hK.out _ _ (.inl (by kernel_rfl)) ?_
    clear hK K hHeld2 hO hown HP2 HO2 HN
    (try simp only [Act.put, List.setIfInBounds_toArray, List.set_cons_zero, List.set_cons_succ])
    refine pa_15 rfl rfl (.pointer (some ⟨B, 0, none⟩)) (by kernel_rfl) (by kernel_rfl) (by kernel_rfl) (by decide) (by kernel_rfl) (fun _ _ _ h => h) (by rfl) (fun w => ?_) (by first | (right; assumption) | (left; kernel_rfl)) ?_
    · go_simp
    (try simp only [Act.put, List.setIfInBounds_toArray, List.set_cons_zero, List.set_cons_succ])
    refine pa_16 rfl rfl (.pointer (some ⟨B, 19, none⟩)) (by kernel_rfl) (by kernel_rfl) (by kernel_rfl) (by decide) (by kernel_rfl) (fun _ _ _ h => h) (by rfl) (fun w => ?_) (by first | (right; assumption) | (left; kernel_rfl)) ?_
    · go_simp
    (try simp only [Act.put, List.setIfInBounds_toArray, List.set_cons_zero, List.set_cons_succ])
    have c19 : w5.cell? ⟨B, 19, none⟩ = some nv := HP3.out.row.cell_ (i := 19) rfl
    have f19 : w5.frozen? ⟨B, 19, none⟩ = false := HP3.out.row.frozen 19
    refine pc_17 rfl rfl (by kernel_rfl) (by rfl) (fun K hK => ?_)
    go_simp
    refine hK.out _ _ (.inl (by kernel_rfl)) ?_
    clear hK K c19 f19
    (try simp only [Act.put, List.setIfInBounds_toArray, List.set_cons_zero, List.set_cons_succ])
    refine wpAnyP_done (by kernel_rfl) ?_ _
    go_wp2
    go_returns
    exact ⟨rfl, HO3.out.setCell (p := ⟨B, 19, none⟩) (.inr (.inl rfl)) _, _, HP3.out.setNotes HV.out⟩
  · go_simp
    have HP2 := Lib.hid (HP1.out.keep ((Only.refl Nil w2).alloc (.cells #[.int .i64 r.task, .int .i64 what, .int .i64 0, .int .i64 arg] 70)))
    have HO2 := Lib.hid (HO1.out.alloc (.cells #[.int .i64 r.task, .int .i64 what, .int .i64 0, .int .i64 arg] 70))
    have HN := Lib.hid (Row.new w2 70 #[.int .i64 r.task, .int .i64 what, .int .i64 0, .int .i64 arg])
    have hHeld2 : (w2.alloc (.cells #[.int .i64 r.task, .int .i64 what, .int .i64 0, .int .i64 arg] 70)).cell? ⟨B, 19, none⟩ = some nv ∧ (w2.alloc (.cells #[.int .i64 r.task, .int .i64 what, .int .i64 0, .int .i64 arg] 70)).cell? ⟨B, 3, none⟩ = some (.int .i64 r.task) := ⟨HP2.out.row.cell_ (i := 19) rfl, HP2.out.row.cell_ (i := 3) rfl⟩
    refine hK.out _ _ (.inr hHeld2) ?_
    clear hK K hHeld HP1 HO1
    generalize w2.alloc (.cells #[.int .i64 r.task, .int .i64 what, .int .i64 0, .int .i64 arg] 70) = w3 at *
    generalize w2.heap.size = g at *
    (try simp only [Act.put, List.setIfInBounds_toArray, List.set_cons_zero, List.set_cons_succ])
    refine pc_5 rfl rfl (by kernel_rfl) (by rfl) (fun K hK => ?_)
    go_simp
    refine (clip_any nv r.ns _ HP2.out.notes).mono ?_
    rintro e w4 ⟨rfl, rfl⟩
    refine hK.out _ _ (.inr hHeld2) ?_
    clear hK K
    (try simp only [Act.put, List.setIfInBounds_toArray, List.set_cons_zero, List.set_cons_succ])
    refine pc_14 rfl rfl (by kernel_rfl) (by rfl) (fun K hK => ?_)
    refine wp_append_cut (.tmp 13) (.tmp 21) rfl nv r.ns _ g ⟨r.task, what, 0, arg⟩ (by rfl) (by rfl) HP2.out.notes HN.out HL.out (fun A9 n9 c9 w5 hown hO => ?_)
    have HP3 := Lib.hid (HP2.out.keep hO)
    have HO3 := Lib.hid (HO2.out.trans (hO.mono (T := TurnB B A) (fun _ _ h => h.elim)))
    have HV := Lib.hid hown
    refine hK.out _ _ (.inl (by kernel_rfl)) ?_
    clear hK K hHeld2 hO hown HP2 HO2 HN
    (try simp only [Act.put, List.setIfInBounds_toArray, List.set_cons_zero, List.set_cons_succ])
    refine pa_15 rfl rfl (.pointer (some ⟨B, 0, none⟩)) (by kernel_rfl) (by kernel_rfl) (by kernel_rfl) (by decide) (by kernel_rfl) (fun _ _ _ h => h) (by rfl) (fun w => ?_) (by first | (right; assumption) | (left; kernel_rfl)) ?_
    · go_simp
    (try simp only [Act.put, List.setIfInBounds_toArray, List.set_cons_zero, List.set_cons_succ])
    refine pa_16 rfl rfl (.pointer (some ⟨B, 19, none⟩)) (by kernel_rfl) (by kernel_rfl) (by kernel_rfl) (by decide) (by kernel_rfl) (fun _ _ _ h => h) (by rfl) (fun w => ?_) (by first | (right; assumption) | (left; kernel_rfl)) ?_
    · go_simp
    (try simp only [Act.put, List.setIfInBounds_toArray, List.set_cons_zero, List.set_cons_succ])
    have c19 : w5.cell? ⟨B, 19, none⟩ = some nv := HP3.out.row.cell_ (i := 19) rfl
    have f19 : w5.frozen? ⟨B, 19, none⟩ = false := HP3.out.row.frozen 19
    refine pc_17 rfl rfl (by kernel_rfl) (by rfl) (fun K hK => ?_)
    go_simp
    refine hK.out _ _ (.inl (by kernel_rfl)) ?_
    clear hK K c19 f19
    (try simp only [Act.put, List.setIfInBounds_toArray, List.set_cons_zero, List.set_cons_succ])
    refine wpAnyP_done (by kernel_rfl) ?_ _
    go_wp2
    go_returns
    exact ⟨rfl, HO3.out.setCell (p := ⟨B, 19, none⟩) (.inr (.inl rfl)) _, _, HP3.out.setNotes HV.out⟩
end Go.Proofs.Ytomgjamojeejbaa
/- wait.holds: a function of a word is asked; a deferred call that recovers nothing. -/
set_option linter.unusedVariables false
set_option linter.unusedSimpArgs false
namespace Go.Proofs.Ytomgjamojeejbaa
open Go.RowKit

/-- What is handed in as a function of a word tells q of it. -/
def Holds (fv : Value) (q : Int → Bool) : Prop := ∀ (v : Int) (w : World), 0 ≤ v → v < 4294967296 →
  Calls Try.prog 78 #[fv, .int .u32 v] w fun e w' => e = .returned (.bool (q v)) ∧ Only Nil w w'

theorem rec_idle (w : World) :
    CallsD Try.prog 84 #[] .returning w fun e u' w' => e = .returned (.tuple #[]) ∧ u' = .returning ∧ w = w' := by
  refine callsD_of_wpS Try.func84 rfl fun c₀ cs hu => ?_
  apply wpS_region
  simp [wpOpsS, go_sem, recoverD, hu, Try.ntmps84, Exit.thenS]
  cases c₀
  simp_all [bodyPostS, results, Try.results84]

set_option maxRecDepth 100000 in
theorem neq_nil (w : World) : (binOp .neq 81 .nilFunc .nilFunc).run Try.prog w = .ok (.bool false) w := by
  first | rfl | kernel_rfl

set_option maxRecDepth 100000 in
theorem neq_fn (f : Fn) (first cap : Array Value) (w : World) : (binOp .neq 81 (.func f first cap) .nilFunc).run Try.prog w = .ok (.bool true) w := by
  first | rfl | kernel_rfl

theorem holds_nil : Holds .nilFunc (fun _ => false) := by
  intro v w h0 h1
  have hn := neq_nil
  go_enter_defers Try.func78, Try.ntmps78
  go_wp2
  refine leaves_cons (f := 84) (args := #[]) (by simp) (by simp [go_sem]) ?_
  refine (rec_idle _).mono ?_
  rintro e u' w'' ⟨rfl, rfl, rfl⟩
  exact ⟨_, results_tmp rfl _ _ _, rfl, Only.refl _ _⟩

theorem holds_until (k m x : Int) : Holds (.func (.func 36) #[.agg #[.int .i64 k, .int .u32 m, .int .u32 x]] #[]) (uIs k m x) := by
  intro v w h0 h1
  have hn := neq_fn
  go_enter_defers Try.func78, Try.ntmps78
  go_wp2_with fail
  refine (is_any k m x v _ h0 h1).mono ?_
  rintro e w1 ⟨rfl, hO⟩
  have HO := Lib.hid hO
  clear hO
  go_wp2
  refine leaves_cons (f := 84) (args := #[]) (by simp) (by simp [go_sem]) ?_
  refine (rec_idle _).mono ?_
  rintro e u' w'' ⟨rfl, rfl, rfl⟩
  exact ⟨_, results_tmp rfl _ _ _, rfl, HO.out⟩
end Go.Proofs.Ytomgjamojeejbaa
/- wait.look. -/
set_option linter.unusedVariables false
set_option linter.unusedSimpArgs false
namespace Go.Proofs.Ytomgjamojeejbaa
open Go.RowKit

theorem look_any (p A : Option Addr) (cp : Nat) (xs : List Int) (c : Int) (fv : Value) (q : Int → Bool) (w : World) (h : Memo w p A cp xs) (hf : Holds fv q) (hx : Words xs) :
    Calls Try.prog 67 #[.pointer p, .int .i64 c, fv] w fun e w' =>
      e = .returned (.tuple #[doVal xs 1 c 0 0, .bool (q (wordAt xs c))]) ∧ Only (At A) w w' ∧ Memo w' p A cp xs := by
  have hb := word_wf hx c
  have HB := Lib.hid hb
  have hst : doNew xs 1 c 0 0 = xs := doNew_load xs _ _ _
  have HH := Lib.hid h
  have HF := Lib.hid hf
  have ha : ∀ j, At p j ∨ At A j → j < w.heap.size := HH.out.lt
  have HA := Lib.hid ha
  clear h ha hf hb hx
  go_enter Try.func67, Try.ntmps67
  go_wp2_with fail
  have e0 := (Only.refl Nil w).alloc (Obj.cells #[Value.int IntKind.i64 0, Value.int IntKind.i64 0, Value.int IntKind.u32 0, Value.int IntKind.u32 0, Value.int IntKind.u32 0] 40)
  refine (do_memo p A cp xs 1 c 0 0 0 _ (HH.out.keep e0)).mono ?_
  obtain ⟨k', c', x', y', hv⟩ := doVal_form xs 1 c 0 0
  rw [oldAt xs 1 c rfl] at hv
  rw [hv, hst]
  rintro e w2 ⟨rfl, hO, hM⟩
  have hS : Only (At A) w w2 := (e0.mono (fun _ _ h => h.elim)).trans hO
  have R8 : Row w2 w.heap.size 40 #[.int .i64 0, .int .i64 0, .int .u32 0, .int .u32 0, .int .u32 0] := (Row.new w _ _).only hO (fun h => by have := HA.out _ (.inr h); omega)
  have HR := Lib.hid (R8.alloc (Obj.cells #[Value.int IntKind.i64 k', Value.int IntKind.i64 c', Value.int IntKind.u32 x', Value.int IntKind.u32 y', Value.int IntKind.u32 (wordAt xs c)] 40))
  have HN := Lib.hid (Row.new w2 40 #[Value.int IntKind.i64 k', Value.int IntKind.i64 c', Value.int IntKind.u32 x', Value.int IntKind.u32 y', Value.int IntKind.u32 (wordAt xs c)])
  have HS := Lib.hid (hS.alloc (Obj.cells #[Value.int IntKind.i64 k', Value.int IntKind.i64 c', Value.int IntKind.u32 x', Value.int IntKind.u32 y', Value.int IntKind.u32 (wordAt xs c)] 40))
  have HM := Lib.hid (hM.keep ((Only.refl Nil w2).alloc (Obj.cells #[Value.int IntKind.i64 k', Value.int IntKind.i64 c', Value.int IntKind.u32 x', Value.int IntKind.u32 y', Value.int IntKind.u32 (wordAt xs c)] 40)))
  have HZ := Lib.hid R8.lt
  clear hO R8 hS hM e0 hst
  have HV := Lib.hid hv
  clear hv
  go_wp2_with fail
  generalize w2.alloc (.cells #[.int .i64 k', .int .i64 c', .int .u32 x', .int .u32 y', .int .u32 (wordAt xs c)] 40) = w3 at *
  generalize hg : w2.heap.size = g at *
  have HG := Lib.hid hg
  clear hg
  generalize hwd : wordAt xs c = v at *
  have HWD := Lib.hid hwd
  clear hwd
  have c0 : w3.cell? ⟨g, 0, none⟩ = some (.int .i64 k') := HN.out.cell_ (i := 0) rfl
  have c1 : w3.cell? ⟨g, 1, none⟩ = some (.int .i64 c') := HN.out.cell_ (i := 1) rfl
  have c2 : w3.cell? ⟨g, 2, none⟩ = some (.int .u32 x') := HN.out.cell_ (i := 2) rfl
  have c3 : w3.cell? ⟨g, 3, none⟩ = some (.int .u32 y') := HN.out.cell_ (i := 3) rfl
  have c4 : w3.cell? ⟨g, 4, none⟩ = some (.int .u32 v) := HN.out.cell_ (i := 4) rfl
  have hgg : ¬ g = w.heap.size := by have := HZ.out; omega
  have HGG := Lib.hid hgg
  clear hgg
  refine wp_region_held_drew (S := fun w' => w'.cell? ⟨g, 0, none⟩ = some (.int .i64 k') ∧ w'.cell? ⟨g, 1, none⟩ = some (.int .i64 c') ∧ w'.cell? ⟨g, 2, none⟩ = some (.int .u32 x') ∧ w'.cell? ⟨g, 3, none⟩ = some (.int .u32 y') ∧ w'.cell? ⟨g, 4, none⟩ = some (.int .u32 v)) (by kernel_rfl) ⟨c0, c1, c2, c3, c4⟩ (fun hHeld => ?_)
  refine take_0 (.agg #[.int .i64 k', .int .i64 c', .int .u32 x', .int .u32 y', .int .u32 v]) (by kernel_rfl) (by kernel_rfl) (by kernel_rfl) (fun _ _ _ h => h) (by rfl) (fun w hSw => ?_) (by assumption) ?_
  · (try dsimp only at hSw)
    go_split_ands
    go_simp
  (try simp only [Act.put, List.setIfInBounds_toArray, List.set_cons_zero, List.set_cons_succ])
  refine take_1 (fv) (by kernel_rfl) (by kernel_rfl) (by kernel_rfl) (fun _ _ _ h => h) (by rfl) (fun w hSw => ?_) (by assumption) ?_
  · (try dsimp only at hSw)
    go_split_ands
    go_simp
  (try simp only [Act.put, List.setIfInBounds_toArray, List.set_cons_zero, List.set_cons_succ])
  refine take_2 (.pointer (some ⟨g, 4, none⟩)) (by kernel_rfl) (by kernel_rfl) (by kernel_rfl) (fun _ _ _ h => h) (by rfl) (fun w hSw => ?_) (by assumption) ?_
  · (try dsimp only at hSw)
    go_split_ands
    go_simp
  (try simp only [Act.put, List.setIfInBounds_toArray, List.set_cons_zero, List.set_cons_succ])
  refine take_3 (.int .u32 v) (by kernel_rfl) (by kernel_rfl) (by kernel_rfl) (fun _ _ _ h => h) (by rfl) (fun w hSw => ?_) (by assumption) ?_
  · (try dsimp only at hSw)
    go_split_ands
    go_simp
  (try simp only [Act.put, List.setIfInBounds_toArray, List.set_cons_zero, List.set_cons_succ])
  refine call_4 (by kernel_rfl) (by rfl) (fun K hK => ?_)
  go_simp
  refine (HF.out v _ HB.out.1 HB.out.2).mono ?_
  rintro e w4 ⟨rfl, hO⟩
  have hO4 : Only Nil w3 w4 := (Only.refl Nil w3).drew.trans hO
  have HN4 := Lib.hid (HN.out.only hO4 id)
  have HR4 := Lib.hid (HR.out.only hO4 id)
  have HO4 := Lib.hid hO4
  refine hK.out _ _ ⟨HN4.out.cell_ (i := 0) rfl, HN4.out.cell_ (i := 1) rfl, HN4.out.cell_ (i := 2) rfl, HN4.out.cell_ (i := 3) rfl, HN4.out.cell_ (i := 4) rfl⟩ (fun hHeld2 => ?_)
  clear hK K hHeld hO hO4 c0 c1 c2 c3 c4
  (try simp only [Act.put, List.setIfInBounds_toArray, List.set_cons_zero, List.set_cons_succ])
  have d0 : w4.cell? ⟨w.heap.size, 0, none⟩ = some (.int .i64 0) := HR4.out.cell_ (i := 0) rfl
  have d1 : w4.cell? ⟨w.heap.size, 1, none⟩ = some (.int .i64 0) := HR4.out.cell_ (i := 1) rfl
  have d2 : w4.cell? ⟨w.heap.size, 2, none⟩ = some (.int .u32 0) := HR4.out.cell_ (i := 2) rfl
  have d3 : w4.cell? ⟨w.heap.size, 3, none⟩ = some (.int .u32 0) := HR4.out.cell_ (i := 3) rfl
  have d4 : w4.cell? ⟨w.heap.size, 4, none⟩ = some (.int .u32 0) := HR4.out.cell_ (i := 4) rfl
  have f0 : w4.frozen? ⟨w.heap.size, 0, none⟩ = false := HR4.out.frozen 0
  have f1 : w4.frozen? ⟨w.heap.size, 1, none⟩ = false := HR4.out.frozen 1
  have f2 : w4.frozen? ⟨w.heap.size, 2, none⟩ = false := HR4.out.frozen 2
  have f3 : w4.frozen? ⟨w.heap.size, 3, none⟩ = false := HR4.out.frozen 3
  have f4 : w4.frozen? ⟨w.heap.size, 4, none⟩ = false := HR4.out.frozen 4
  refine call_5 (by kernel_rfl) (by rfl) (fun K hK => ?_)
  go_simp
  have HN5 := Lib.hid (HN4.out.only (five_only (Only.refl (· = w.heap.size) w4) (.inr rfl) (.int .i64 k') (.int .i64 c') (.int .u32 x') (.int .u32 y') (.int .u32 v)) HGG.out)
  refine hK.out _ _ ⟨HN5.out.cell_ (i := 0) rfl, HN5.out.cell_ (i := 1) rfl, HN5.out.cell_ (i := 2) rfl, HN5.out.cell_ (i := 3) rfl, HN5.out.cell_ (i := 4) rfl⟩ (fun hHeld3 => ?_)
  clear hK K hHeld2 d0 d1 d2 d3 d4 f0 f1 f2 f3 f4
  (try simp only [Act.put, List.setIfInBounds_toArray, List.set_cons_zero, List.set_cons_succ])
  refine take_6 (.bool (q v)) (by kernel_rfl) (by kernel_rfl) (by kernel_rfl) (fun _ _ _ h => h) (by rfl) (fun w hSw => ?_) (by assumption) ?_
  · (try dsimp only at hSw)
    go_split_ands
    go_simp
  (try simp only [Act.put, List.setIfInBounds_toArray, List.set_cons_zero, List.set_cons_succ])
  refine wpAnyH_done (by kernel_rfl) ?_ _
  go_wp2
  refine post_row_tmp (P := Try.prog) Try.results67 (t := 40) (g := w.heap.size) (cs := #[.int .i64 k', .int .i64 c', .int .u32 x', .int .u32 y', .int .u32 v]) rfl (five HR4.out _ _ _ _ _) Try.underlying40 rfl (by kernel_rfl) rfl ⟨?_, five_only (HS.out.trans (HO4.out.mono (fun _ _ h => h.elim))) (.inl (Nat.le_refl _)) _ _ _ _ _, ?_⟩
  · rw [HV.out, HWD.out]; rfl
  · exact (HM.out.keep HO4.out).far (five_only (Only.refl (· = w.heap.size) w4) (.inr rfl) _ _ _ _ _) (fun j hj h => by have := HA.out j hj; omega)
end Go.Proofs.Ytomgjamojeejbaa
/- wait.setWatch, wait.either. -/
set_option linter.unusedVariables false
set_option linter.unusedSimpArgs false
namespace Go.Proofs.Ytomgjamojeejbaa
open Go.RowKit

theorem either_any (b : Bool) (y z : Int) (w : World) :
    Calls Try.prog 69 #[.bool b, .int .i64 y, .int .i64 z] w fun e w' => e = .returned (.agg #[.int .i64 (if b then y else z)]) ∧ Only Nil w w' := by
  cases b
  all_goals
    simp only [Bool.false_eq_true, if_false, if_true]
    go_enter Try.func69, Try.ntmps69
    go_wp2
    exact post_row (P := Try.prog) Try.results69 (t := 25) (by rfl) (Row.new _ _ _) Try.underlying25 rfl (by kernel_rfl) rfl ⟨rfl, (Only.refl _ _).alloc _⟩

theorem setWatch_any (p A : Option Addr) (cp : Nat) (xs : List Int) (n i x : Int) (w : World) (h : Memo w p A cp xs) :
    Calls Try.prog 68 #[.pointer p, .agg #[.int .i64 n], .int .i64 i, .int .u32 x] w fun e w' =>
      e = .returned (doVal xs 2 (wc n i) x 0) ∧ Only (At A) w w' ∧ Memo w' p A cp (st xs (wc n i) x) := by
  have hst : doNew xs 2 (wc n i) x 0 = st xs (wc n i) x := by rw [doNew_st xs 2 _ x 0 rfl]; rfl
  have HST := Lib.hid hst
  have HH := Lib.hid h
  have ha : ∀ j, At p j ∨ At A j → j < w.heap.size := HH.out.lt
  have HA := Lib.hid ha
  clear h ha hst
  go_enter Try.func68, Try.ntmps68
  go_wp2_with fail
  refine (watch_any n i _).mono ?_
  rintro e w1 ⟨rfl, hO⟩
  have R8 : Row w1 (w.heap.size + 1) 40 #[.int .i64 0, .int .i64 0, .int .u32 0, .int .u32 0, .int .u32 0] := (Row.new2 w _ _ _).only hO id
  have hO1 : Only Nil w w1 := (((Only.refl Nil w).alloc _).alloc _).trans hO
  have HM1 := Lib.hid (HH.out.keep hO1)
  have HO1 := Lib.hid hO1
  have HR8 := Lib.hid R8
  clear hO R8 hO1
  show _
  have hpc : cellI n 2 i = wc n i := rfl
  rw [hpc]
  clear hpc
  go_wp2_with fail
  refine (do_memo p A cp xs 2 (wc n i) x 0 0 _ HM1.out).mono ?_
  obtain ⟨k', c', x', y', hv⟩ := doVal_form xs 2 (wc n i) x 0
  rw [oldAt xs 2 (wc n i) rfl] at hv
  rw [hv, HST.out]
  rintro e w2 ⟨rfl, hO, hM⟩
  have HS := Lib.hid ((HO1.out.mono (fun _ _ h => h.elim)).trans hO)
  have R8 := HR8.out.only hO (fun h => by have := HA.out _ (.inr h); omega)
  have HR9 := Lib.hid (R8.alloc (Obj.cells #[Value.int IntKind.i64 k', Value.int IntKind.i64 c', Value.int IntKind.u32 x', Value.int IntKind.u32 y', Value.int IntKind.u32 (wordAt xs (wc n i))] 40))
  have HN := Lib.hid (Row.new w2 40 #[Value.int IntKind.i64 k', Value.int IntKind.i64 c', Value.int IntKind.u32 x', Value.int IntKind.u32 y', Value.int IntKind.u32 (wordAt xs (wc n i))])
  have HS2 := Lib.hid (HS.out.alloc (Obj.cells #[Value.int IntKind.i64 k', Value.int IntKind.i64 c', Value.int IntKind.u32 x', Value.int IntKind.u32 y', Value.int IntKind.u32 (wordAt xs (wc n i))] 40))
  have HM2 := Lib.hid (hM.keep ((Only.refl Nil w2).alloc (Obj.cells #[Value.int IntKind.i64 k', Value.int IntKind.i64 c', Value.int IntKind.u32 x', Value.int IntKind.u32 y', Value.int IntKind.u32 (wordAt xs (wc n i))] 40)))
  have HV := Lib.hid hv
  have hlt := R8.lt
  have HLT := Lib.hid hlt
  clear hO R8 hM hv hlt HS
  generalize wordAt xs (wc n i) = o' at *
  generalize doOk xs 2 (wc n i) = ok at *
  go_upto_region 2 with (fail)
  generalize w2.alloc (.cells #[.int .i64 k', .int .i64 c', .int .u32 x', .int .u32 y', .int .u32 o'] 40) = w3 at *
  generalize w2.heap.size = g2 at *
  have c80 : w3.cell? ⟨w.heap.size + 1, 0, none⟩ = some (.int .i64 0) := HR9.out.cell_ (i := 0) rfl
  have c81 : w3.cell? ⟨w.heap.size + 1, 1, none⟩ = some (.int .i64 0) := HR9.out.cell_ (i := 1) rfl
  have c82 : w3.cell? ⟨w.heap.size + 1, 2, none⟩ = some (.int .u32 0) := HR9.out.cell_ (i := 2) rfl
  have c83 : w3.cell? ⟨w.heap.size + 1, 3, none⟩ = some (.int .u32 0) := HR9.out.cell_ (i := 3) rfl
  have c84 : w3.cell? ⟨w.heap.size + 1, 4, none⟩ = some (.int .u32 0) := HR9.out.cell_ (i := 4) rfl
  have f80 : w3.frozen? ⟨w.heap.size + 1, 0, none⟩ = false := HR9.out.frozen 0
  have f81 : w3.frozen? ⟨w.heap.size + 1, 1, none⟩ = false := HR9.out.frozen 1
  have f82 : w3.frozen? ⟨w.heap.size + 1, 2, none⟩ = false := HR9.out.frozen 2
  have f83 : w3.frozen? ⟨w.heap.size + 1, 3, none⟩ = false := HR9.out.frozen 3
  have f84 : w3.frozen? ⟨w.heap.size + 1, 4, none⟩ = false := HR9.out.frozen 4
  have c0 : w3.cell? ⟨g2, 0, none⟩ = some (.int .i64 k') := HN.out.cell_ (i := 0) rfl
  have c1 : w3.cell? ⟨g2, 1, none⟩ = some (.int .i64 c') := HN.out.cell_ (i := 1) rfl
  have c2 : w3.cell? ⟨g2, 2, none⟩ = some (.int .u32 x') := HN.out.cell_ (i := 2) rfl
  have c3 : w3.cell? ⟨g2, 3, none⟩ = some (.int .u32 y') := HN.out.cell_ (i := 3) rfl
  have c4 : w3.cell? ⟨g2, 4, none⟩ = some (.int .u32 o') := HN.out.cell_ (i := 4) rfl
  go_wp2
  refine post_row (P := Try.prog) Try.results68 (t := 40) (g := w.heap.size + 1) (cs := #[.int .i64 k', .int .i64 c', .int .u32 x', .int .u32 y', .int .u32 o']) rfl (five HR9.out _ _ _ _ _) Try.underlying40 rfl (by kernel_rfl) rfl ⟨?_, five_only HS2.out (.inl (by omega)) _ _ _ _ _, ?_⟩
  · rw [HV.out]
  · exact HM2.out.far (five_only (Only.refl (· = w.heap.size + 1) w3) (.inr rfl) _ _ _ _ _) (fun j hj h => by have := HA.out j hj; omega)
end Go.Proofs.Ytomgjamojeejbaa
/- park.Take. -/
set_option linter.unusedVariables false
set_option linter.unusedSimpArgs false
namespace Go.Proofs.Ytomgjamojeejbaa
open Go.RowKit

theorem take_any (p A : Option Addr) (cp : Nat) (xs : List Int) (n i : Int) (w : World) (h : Memo w p A cp xs) :
    Calls Try.prog 70 #[.pointer p, .agg #[.int .i64 n], .int .i64 i] w fun e w' =>
      e = .returned (.tuple #[takeVal xs n i, .bool (hasP xs n i)]) ∧ Only (At A) w w' ∧ Memo w' p A cp (st xs (pc n i) 0) := by
  have HH := Lib.hid h
  have ha : ∀ j, At p j ∨ At A j → j < w.heap.size := HH.out.lt
  have HA := Lib.hid ha
  clear h ha
  go_enter Try.func70, Try.ntmps70
  go_wp2_with fail
  have e0 := ((Only.refl Nil w).alloc (Obj.cells #[Value.int IntKind.i64 n] 38)).alloc (Obj.cells #[Value.int IntKind.i64 0, Value.int IntKind.i64 0, Value.int IntKind.u32 0, Value.int IntKind.u32 0, Value.int IntKind.u32 0] 40)
  refine (has_any p A cp xs n i _ (HH.out.keep e0)).mono ?_
  rintro e w2 ⟨rfl, hO, hM⟩
  have hS : Only (At A) w w2 := (e0.mono (fun _ _ h => h.elim)).trans hO
  have R4 : Row w2 w.heap.size 38 #[.int .i64 n] := ((Row.new w _ _).alloc _).only hO (fun h => by have := HA.out _ (.inr h); omega)
  have R8 : Row w2 (w.heap.size + 1) 40 #[.int .i64 0, .int .i64 0, .int .u32 0, .int .u32 0, .int .u32 0] := (Row.new2 w _ _ _).only hO (fun h => by have := HA.out _ (.inr h); omega)
  have c40 : w2.cell? ⟨w.heap.size, 0, none⟩ = some (.int .i64 n) := R4.cell_ (i := 0) rfl
  have HR9 := Lib.hid R8
  have HS := Lib.hid hS
  have HM2 := Lib.hid hM
  clear hO R8 hS hM e0 R4
  cases hp : hasP xs n i
  · have HP := Lib.hid hp
    have c80 : w2.cell? ⟨w.heap.size + 1, 0, none⟩ = some (.int .i64 0) := HR9.out.cell_ (i := 0) rfl
    have c81 : w2.cell? ⟨w.heap.size + 1, 1, none⟩ = some (.int .i64 0) := HR9.out.cell_ (i := 1) rfl
    have c82 : w2.cell? ⟨w.heap.size + 1, 2, none⟩ = some (.int .u32 0) := HR9.out.cell_ (i := 2) rfl
    have c83 : w2.cell? ⟨w.heap.size + 1, 3, none⟩ = some (.int .u32 0) := HR9.out.cell_ (i := 3) rfl
    have c84 : w2.cell? ⟨w.heap.size + 1, 4, none⟩ = some (.int .u32 0) := HR9.out.cell_ (i := 4) rfl
    have f80 : w2.frozen? ⟨w.heap.size + 1, 0, none⟩ = false := HR9.out.frozen 0
    have f81 : w2.frozen? ⟨w.heap.size + 1, 1, none⟩ = false := HR9.out.frozen 1
    have f82 : w2.frozen? ⟨w.heap.size + 1, 2, none⟩ = false := HR9.out.frozen 2
    have f83 : w2.frozen? ⟨w.heap.size + 1, 3, none⟩ = false := HR9.out.frozen 3
    have f84 : w2.frozen? ⟨w.heap.size + 1, 4, none⟩ = false := HR9.out.frozen 4
    clear hp
    go_wp2
    refine post_row_tmp (P := Try.prog) Try.results70 (t := 40) (g := w.heap.size + 1) (cs := #[.int .i64 0, .int .i64 0, .int .u32 0, .int .u32 0, .int .u32 0]) rfl (five HR9.out _ _ _ _ _) Try.underlying40 rfl (by kernel_rfl) rfl ⟨?_, five_only HS.out (.inl (by omega)) _ _ _ _ _, ?_⟩
    · simp only [takeVal, HP.out]; rfl
    · rw [st_none HP.out]
      exact HM2.out.far (five_only (Only.refl (· = w.heap.size + 1) w2) (.inr rfl) _ _ _ _ _) (fun j hj h => by have := HA.out j hj; omega)
  · have HP := Lib.hid hp
    have ht := hasP_there hp
    have hok0 : doOk xs 4 (pc n i) = true := by simp [doOk, isKind, ht]
    have hv : doVal xs 4 (pc n i) 0 0 = .agg #[.int .i64 4, .int .i64 (pc n i), .int .u32 0, .int .u32 0, .int .u32 (wordAt xs (pc n i))] := by simp [doVal, hok0, accOf]
    have hst : doNew xs 4 (pc n i) 0 0 = st xs (pc n i) 0 := by rw [doNew_st xs 4 _ 0 0 rfl]; rfl
    have HT := Lib.hid ht
    have HK := Lib.hid hok0
    have HV := Lib.hid hv
    have HST := Lib.hid hst
    clear hp ht hok0 hv hst
    go_wp2_with fail
    refine (on_any p A cp xs n i 4 0 0 0 0 _ HM2.out).mono ?_
    rw [HV.out, HK.out, HST.out]
    rintro e w3 ⟨rfl, hO, hM⟩
    have R8 : Row w3 (w.heap.size + 1) 40 #[.int .i64 0, .int .i64 0, .int .u32 0, .int .u32 0, .int .u32 0] := HR9.out.only hO (fun h => by have := HA.out _ (.inr h); omega)
    have c80 : w3.cell? ⟨w.heap.size + 1, 0, none⟩ = some (.int .i64 0) := R8.cell_ (i := 0) rfl
    have c81 : w3.cell? ⟨w.heap.size + 1, 1, none⟩ = some (.int .i64 0) := R8.cell_ (i := 1) rfl
    have c82 : w3.cell? ⟨w.heap.size + 1, 2, none⟩ = some (.int .u32 0) := R8.cell_ (i := 2) rfl
    have c83 : w3.cell? ⟨w.heap.size + 1, 3, none⟩ = some (.int .u32 0) := R8.cell_ (i := 3) rfl
    have c84 : w3.cell? ⟨w.heap.size + 1, 4, none⟩ = some (.int .u32 0) := R8.cell_ (i := 4) rfl
    have f80 : w3.frozen? ⟨w.heap.size + 1, 0, none⟩ = false := R8.frozen 0
    have f81 : w3.frozen? ⟨w.heap.size + 1, 1, none⟩ = false := R8.frozen 1
    have f82 : w3.frozen? ⟨w.heap.size + 1, 2, none⟩ = false := R8.frozen 2
    have f83 : w3.frozen? ⟨w.heap.size + 1, 3, none⟩ = false := R8.frozen 3
    have f84 : w3.frozen? ⟨w.heap.size + 1, 4, none⟩ = false := R8.frozen 4
    have HR3 := Lib.hid R8
    have HS3 := Lib.hid (HS.out.trans hO)
    have HM3 := Lib.hid hM
    clear hO R8 hM
    generalize hw : wordAt xs (pc n i) = v at *
    have HW := Lib.hid hw
    clear hw
    go_wp2
    refine post_row_tmp (P := Try.prog) Try.results70 (t := 40) (g := w.heap.size + 1) (cs := #[.int .i64 4, .int .i64 (pc n i), .int .u32 0, .int .u32 0, .int .u32 v]) rfl (five HR3.out _ _ _ _ _) Try.underlying40 rfl (by kernel_rfl) rfl ⟨?_, five_only HS3.out (.inl (by omega)) _ _ _ _ _, ?_⟩
    · simp only [takeVal, HP.out, HW.out]; rfl
    · exact HM3.out.far (five_only (Only.refl (· = w.heap.size + 1) w3) (.inr rfl) _ _ _ _ _) (fun j hj h => by have := HA.out j hj; omega)
end Go.Proofs.Ytomgjamojeejbaa
/- wait.Step. -/
set_option linter.unusedVariables false
set_option linter.unusedSimpArgs false
namespace Go.Proofs.Ytomgjamojeejbaa
open Go.RowKit

/-- What a step's call leaves. -/
def Stepped (p A : Option Addr) (cp : Nat) (r : StepR) (w : World) (e : Ending) (w' : World) : Prop :=
  e = .returned (.tuple #[.agg #[.int .i64 r.next], r.acc, .bool r.seen, .bool r.done]) ∧ Only (At A) w w' ∧ Memo w' p A cp r.xs

/-- A step's own blocks: the map, the stage, the results. -/
structure SF (w0 : World) (p A : Option Addr) (cp : Nat) (B : Nat) (n s ns : Int) (acs : Array Value) (W : World) (xs : List Int) : Prop where
  only : Only (At A) w0 W
  memo : Memo W p A cp xs
  rm : Row W B 38 #[.int .i64 n]
  rs : Row W (B + 1) 25 #[.int .i64 s]
  rn : Row W (B + 1 + 1) 25 #[.int .i64 ns]
  ra : Row W (B + 1 + 1 + 1) 40 acs
  lt : ∀ j, At p j ∨ At A j → j < B
  hw : w0.heap.size ≤ B

section
variable {w0 W W' : World} {p A : Option Addr} {cp B : Nat} {n s ns : Int} {acs : Array Value} {xs ys : List Int}
theorem SF.call (h : SF w0 p A cp B n s ns acs W xs) (ho : Only (At A) W W') (hm : Memo W' p A cp ys) : SF w0 p A cp B n s ns acs W' ys :=
  ⟨h.only.trans ho, hm, h.rm.only ho (fun e => by have := h.lt _ (.inr e); omega), h.rs.only ho (fun e => by have := h.lt _ (.inr e); omega), h.rn.only ho (fun e => by have := h.lt _ (.inr e); omega), h.ra.only ho (fun e => by have := h.lt _ (.inr e); omega), h.lt, h.hw⟩
theorem SF.keep (h : SF w0 p A cp B n s ns acs W xs) (ho : Only Nil W W') : SF w0 p A cp B n s ns acs W' xs := h.call (ho.mono (fun _ _ h => h.elim)) (h.memo.keep ho)
theorem SF.setN (h : SF w0 p A cp B n s ns acs W xs) (m : Int) : SF w0 p A cp B n s m acs (W.setCell ⟨B + 1 + 1, 0, none⟩ (.int .i64 m)) xs := by
  have ho := (Only.refl (· = B + 1 + 1) W).setCell (p := ⟨B + 1 + 1, 0, none⟩) (.inr rfl) (.int .i64 m)
  exact ⟨h.only.setCell (.inl (by have := h.hw; show w0.heap.size ≤ B + 1 + 1; omega)) _, h.memo.far ho (fun j hj e => by have := h.lt j hj; omega), h.rm.only ho (fun e => by omega), h.rs.only ho (fun e => by omega), h.rn.set 0 _, h.ra.only ho (fun e => by omega), h.lt, h.hw⟩
theorem SF.setA {a0 a1 a2 a3 a4 : Value} (h : SF w0 p A cp B n s ns #[a0, a1, a2, a3, a4] W xs) (v0 v1 v2 v3 v4 : Value) :
    SF w0 p A cp B n s ns #[v0, v1, v2, v3, v4] (((((W.setCell ⟨B + 1 + 1 + 1, 0, none⟩ v0).setCell ⟨B + 1 + 1 + 1, 1, none⟩ v1).setCell ⟨B + 1 + 1 + 1, 2, none⟩ v2).setCell ⟨B + 1 + 1 + 1, 3, none⟩ v3).setCell ⟨B + 1 + 1 + 1, 4, none⟩ v4) xs := by
  have ho := five_only (Only.refl (· = B + 1 + 1 + 1) W) (g := B + 1 + 1 + 1) (.inr rfl) v0 v1 v2 v3 v4
  exact ⟨five_only h.only (.inl (by have := h.hw; omega)) _ _ _ _ _, h.memo.far ho (fun j hj e => by have := h.lt j hj; omega), h.rm.only ho (fun e => by omega), h.rs.only ho (fun e => by omega), h.rn.only ho (fun e => by omega), five h.ra _ _ _ _ _, h.lt, h.hw⟩
theorem SF.start {w : World} {p A : Option Addr} {cp : Nat} {xs : List Int} (n s : Int) (h : Memo w p A cp xs) :
    SF w p A cp w.heap.size n s 0 #[.int .i64 0, .int .i64 0, .int .u32 0, .int .u32 0, .int .u32 0] ((((w.alloc (.cells #[.int .i64 n] 38)).alloc (.cells #[.int .i64 s] 25)).alloc (.cells #[.int .i64 0] 25)).alloc (.cells #[.int .i64 0, .int .i64 0, .int .u32 0, .int .u32 0, .int .u32 0] 40)) xs := by
  have e0 := ((((Only.refl Nil w).alloc (.cells #[.int .i64 n] 38)).alloc (.cells #[.int .i64 s] 25)).alloc (.cells #[.int .i64 0] 25)).alloc (.cells #[.int .i64 0, .int .i64 0, .int .u32 0, .int .u32 0, .int .u32 0] 40)
  refine ⟨e0.mono (fun _ _ h => h.elim), h.keep e0, (((Row.new w _ _).alloc _).alloc _).alloc _, ((Row.new2 w _ _ _).alloc _).alloc _, ?_, ?_, h.lt, Nat.le_refl _⟩
  · have e := (Row.new2 (w.alloc (.cells #[.int .i64 n] 38)) (.cells #[.int .i64 s] 25) 25 #[.int .i64 0]).alloc (.cells #[.int .i64 0, .int .i64 0, .int .u32 0, .int .u32 0, .int .u32 0] 40)
    rwa [show (w.alloc (.cells #[.int .i64 n] 38)).heap.size = w.heap.size + 1 by simp] at e
  · have e := Row.new2 ((w.alloc (.cells #[.int .i64 n] 38)).alloc (.cells #[.int .i64 s] 25)) (.cells #[.int .i64 0] 25) 40 #[.int .i64 0, .int .i64 0, .int .u32 0, .int .u32 0, .int .u32 0]
    rwa [show ((w.alloc (.cells #[.int .i64 n] 38)).alloc (.cells #[.int .i64 s] 25)).heap.size = w.heap.size + 1 + 1 by simp] at e
end


set_option maxHeartbeats 400000 in
theorem step_spin (p A : Option Addr) (cp : Nat) (xs : List Int) (n mode i s c : Int) (fv : Value) (q : Int → Bool) (w : World) (h : Memo w p A cp xs) (hf : Holds fv q) (hx : Words xs) (hm : ¬ mode = 2) :
    Calls Try.prog 54 #[.pointer p, .agg #[.int .i64 n], .int .i64 mode, .int .i64 i, .agg #[.int .i64 s], .int .i64 c, fv] w (Stepped p A cp ⟨0, doVal xs 1 c 0 0, q (wordAt xs c), q (wordAt xs c), xs⟩ w) := by
  have hm' : (mode != 2) = true := bne_iff_ne.2 hm
  have HF0 := Lib.hid (SF.start n s h)
  have HF := Lib.hid hf
  have HX := Lib.hid hx
  clear h hf hx
  go_enter Try.func54, Try.ntmps54
  go_wp2_with fail
  generalize (((w.alloc (.cells #[.int .i64 n] 38)).alloc (.cells #[.int .i64 s] 25)).alloc (.cells #[.int .i64 0] 25)).alloc (.cells #[.int .i64 0, .int .i64 0, .int .u32 0, .int .u32 0, .int .u32 0] 40) = w1 at *
  generalize w.heap.size = B at *
  refine (look_any p A cp xs c fv q _ HF0.out.memo HF.out HX.out).mono ?_
  obtain ⟨k', c', x', y', hv⟩ := doVal_form xs 1 c 0 0
  rw [oldAt xs 1 c rfl] at hv
  rw [hv]
  rintro e w2 ⟨rfl, hO, hM⟩
  have HF1 := Lib.hid (HF0.out.call hO hM)
  have HV := Lib.hid hv
  clear hO hM hv
  generalize hwd : wordAt xs c = o' at *
  have HWD := Lib.hid hwd
  clear hwd
  have a0 : w2.cell? ⟨B + 1 + 1 + 1, 0, none⟩ = some (.int .i64 0) := HF1.out.ra.cell_ (i := 0) rfl
  have a1 : w2.cell? ⟨B + 1 + 1 + 1, 1, none⟩ = some (.int .i64 0) := HF1.out.ra.cell_ (i := 1) rfl
  have a2 : w2.cell? ⟨B + 1 + 1 + 1, 2, none⟩ = some (.int .u32 0) := HF1.out.ra.cell_ (i := 2) rfl
  have a3 : w2.cell? ⟨B + 1 + 1 + 1, 3, none⟩ = some (.int .u32 0) := HF1.out.ra.cell_ (i := 3) rfl
  have a4 : w2.cell? ⟨B + 1 + 1 + 1, 4, none⟩ = some (.int .u32 0) := HF1.out.ra.cell_ (i := 4) rfl
  have g0 : w2.frozen? ⟨B + 1 + 1 + 1, 0, none⟩ = false := HF1.out.ra.frozen 0
  have g1 : w2.frozen? ⟨B + 1 + 1 + 1, 1, none⟩ = false := HF1.out.ra.frozen 1
  have g2 : w2.frozen? ⟨B + 1 + 1 + 1, 2, none⟩ = false := HF1.out.ra.frozen 2
  have g3 : w2.frozen? ⟨B + 1 + 1 + 1, 3, none⟩ = false := HF1.out.ra.frozen 3
  have g4 : w2.frozen? ⟨B + 1 + 1 + 1, 4, none⟩ = false := HF1.out.ra.frozen 4
  go_wp2_with fail
  have HF2 := Lib.hid (HF1.out.setA (.int .i64 k') (.int .i64 c') (.int .u32 x') (.int .u32 y') (.int .u32 o'))
  clear a0 a1 a2 a3 a4 g0 g1 g2 g3 g4 HF1
  generalize (((((w2.setCell ⟨B + 1 + 1 + 1, 0, none⟩ (.int .i64 k')).setCell ⟨B + 1 + 1 + 1, 1, none⟩ (.int .i64 c')).setCell ⟨B + 1 + 1 + 1, 2, none⟩ (.int .u32 x')).setCell ⟨B + 1 + 1 + 1, 3, none⟩ (.int .u32 y')).setCell ⟨B + 1 + 1 + 1, 4, none⟩ (.int .u32 o')) = w3 at *
  have c0 : w3.cell? ⟨B + 1 + 1 + 1, 0, none⟩ = some (.int .i64 k') := HF2.out.ra.cell_ (i := 0) rfl
  have c1 : w3.cell? ⟨B + 1 + 1 + 1, 1, none⟩ = some (.int .i64 c') := HF2.out.ra.cell_ (i := 1) rfl
  have c2 : w3.cell? ⟨B + 1 + 1 + 1, 2, none⟩ = some (.int .u32 x') := HF2.out.ra.cell_ (i := 2) rfl
  have c3 : w3.cell? ⟨B + 1 + 1 + 1, 3, none⟩ = some (.int .u32 y') := HF2.out.ra.cell_ (i := 3) rfl
  have c4 : w3.cell? ⟨B + 1 + 1 + 1, 4, none⟩ = some (.int .u32 o') := HF2.out.ra.cell_ (i := 4) rfl
  refine wp_region_held_drew (S := fun w' => w'.cell? ⟨B + 1 + 1 + 1, 0, none⟩ = some (.int .i64 k') ∧ w'.cell? ⟨B + 1 + 1 + 1, 1, none⟩ = some (.int .i64 c') ∧ w'.cell? ⟨B + 1 + 1 + 1, 2, none⟩ = some (.int .u32 x') ∧ w'.cell? ⟨B + 1 + 1 + 1, 3, none⟩ = some (.int .u32 y') ∧ w'.cell? ⟨B + 1 + 1 + 1, 4, none⟩ = some (.int .u32 o')) (by kernel_rfl) ⟨c0, c1, c2, c3, c4⟩ (fun hHeld => ?_)
  have HF3 := Lib.hid (HF2.out.keep (Only.refl Nil w3).drew)
  clear c0 c1 c2 c3 c4 HF2
  generalize w3.drew = w4 at *
  refine take_0 (.agg #[.int .i64 0]) (by kernel_rfl) (by kernel_rfl) (by kernel_rfl) (fun _ _ _ h => h) (by rfl) (fun w hSw => ?_) (by assumption) ?_
  · (try dsimp only at hSw)
    go_split_ands
    go_simp
  (try simp only [Act.put, List.setIfInBounds_toArray, List.set_cons_zero, List.set_cons_succ])
  refine take_1 (.agg #[.int .i64 k', .int .i64 c', .int .u32 x', .int .u32 y', .int .u32 o']) (by kernel_rfl) (by kernel_rfl) (by kernel_rfl) (fun _ _ _ h => h) (by rfl) (fun w hSw => ?_) (by assumption) ?_
  · (try dsimp only at hSw)
    go_split_ands
    go_simp
  (try simp only [Act.put, List.setIfInBounds_toArray, List.set_cons_zero, List.set_cons_succ])
  refine take_2 (.bool (q o')) (by kernel_rfl) (by kernel_rfl) (by kernel_rfl) (fun _ _ _ h => h) (by rfl) (fun w hSw => ?_) (by assumption) ?_
  · (try dsimp only at hSw)
    go_split_ands
    go_simp
  (try simp only [Act.put, List.setIfInBounds_toArray, List.set_cons_zero, List.set_cons_succ])
  refine take_3 (.bool (q o')) (by kernel_rfl) (by kernel_rfl) (by kernel_rfl) (fun _ _ _ h => h) (by rfl) (fun w hSw => ?_) (by assumption) ?_
  · (try dsimp only at hSw)
    go_split_ands
    go_simp
  (try simp only [Act.put, List.setIfInBounds_toArray, List.set_cons_zero, List.set_cons_succ])
  have n0 : w4.cell? ⟨B + 1 + 1, 0, none⟩ = some (.int .i64 0) := HF3.out.rn.cell_ (i := 0) rfl
  have m0 : w4.frozen? ⟨B + 1 + 1, 0, none⟩ = false := HF3.out.rn.frozen 0
  refine call_4 (by kernel_rfl) (by rfl) (fun K hK => ?_)
  go_simp
  have HF4 := Lib.hid (HF3.out.setN (0))
  refine hK.out _ _ ⟨HF4.out.ra.cell_ (i := 0) rfl, HF4.out.ra.cell_ (i := 1) rfl, HF4.out.ra.cell_ (i := 2) rfl, HF4.out.ra.cell_ (i := 3) rfl, HF4.out.ra.cell_ (i := 4) rfl⟩ (fun hHeld2 => ?_)
  clear hK K hHeld n0 m0 HF3
  (try simp only [Act.put, List.setIfInBounds_toArray, List.set_cons_zero, List.set_cons_succ])
  generalize w4.setCell ⟨B + 1 + 1, 0, none⟩ (.int .i64 (0)) = w5 at *
  have c0 : w5.cell? ⟨B + 1 + 1 + 1, 0, none⟩ = some (.int .i64 k') := HF4.out.ra.cell_ (i := 0) rfl
  have c1 : w5.cell? ⟨B + 1 + 1 + 1, 1, none⟩ = some (.int .i64 c') := HF4.out.ra.cell_ (i := 1) rfl
  have c2 : w5.cell? ⟨B + 1 + 1 + 1, 2, none⟩ = some (.int .u32 x') := HF4.out.ra.cell_ (i := 2) rfl
  have c3 : w5.cell? ⟨B + 1 + 1 + 1, 3, none⟩ = some (.int .u32 y') := HF4.out.ra.cell_ (i := 3) rfl
  have c4 : w5.cell? ⟨B + 1 + 1 + 1, 4, none⟩ = some (.int .u32 o') := HF4.out.ra.cell_ (i := 4) rfl
  have g0 : w5.frozen? ⟨B + 1 + 1 + 1, 0, none⟩ = false := HF4.out.ra.frozen 0
  have g1 : w5.frozen? ⟨B + 1 + 1 + 1, 1, none⟩ = false := HF4.out.ra.frozen 1
  have g2 : w5.frozen? ⟨B + 1 + 1 + 1, 2, none⟩ = false := HF4.out.ra.frozen 2
  have g3 : w5.frozen? ⟨B + 1 + 1 + 1, 3, none⟩ = false := HF4.out.ra.frozen 3
  have g4 : w5.frozen? ⟨B + 1 + 1 + 1, 4, none⟩ = false := HF4.out.ra.frozen 4
  refine call_5 (by kernel_rfl) (by rfl) (fun K hK => ?_)
  go_simp
  have HF5 := Lib.hid (HF4.out.setA (.int .i64 k') (.int .i64 c') (.int .u32 x') (.int .u32 y') (.int .u32 o'))
  refine hK.out _ _ ⟨HF5.out.ra.cell_ (i := 0) rfl, HF5.out.ra.cell_ (i := 1) rfl, HF5.out.ra.cell_ (i := 2) rfl, HF5.out.ra.cell_ (i := 3) rfl, HF5.out.ra.cell_ (i := 4) rfl⟩ (fun hHeld3 => ?_)
  clear hK K hHeld2 c0 c1 c2 c3 c4 g0 g1 g2 g3 g4 HF4
  (try simp only [Act.put, List.setIfInBounds_toArray, List.set_cons_zero, List.set_cons_succ])
  generalize (((((w5.setCell ⟨B + 1 + 1 + 1, 0, none⟩ (.int .i64 k')).setCell ⟨B + 1 + 1 + 1, 1, none⟩ (.int .i64 c')).setCell ⟨B + 1 + 1 + 1, 2, none⟩ (.int .u32 x')).setCell ⟨B + 1 + 1 + 1, 3, none⟩ (.int .u32 y')).setCell ⟨B + 1 + 1 + 1, 4, none⟩ (.int .u32 o')) = w6 at *
  refine take_6 (.bool (q o')) (by kernel_rfl) (by kernel_rfl) (by kernel_rfl) (fun _ _ _ h => h) (by rfl) (fun w hSw => ?_) (by assumption) ?_
  · (try dsimp only at hSw)
    go_split_ands
    go_simp
  (try simp only [Act.put, List.setIfInBounds_toArray, List.set_cons_zero, List.set_cons_succ])
  refine take_7 (.bool (q o')) (by kernel_rfl) (by kernel_rfl) (by kernel_rfl) (fun _ _ _ h => h) (by rfl) (fun w hSw => ?_) (by assumption) ?_
  · (try dsimp only at hSw)
    go_split_ands
    go_simp
  (try simp only [Act.put, List.setIfInBounds_toArray, List.set_cons_zero, List.set_cons_succ])
  refine wpAnyH_done (by kernel_rfl) ?_ _
  clear hHeld3
  go_wp2
  refine post_two_tmps (P := Try.prog) Try.results54 (by rfl) HF5.out.rn Try.underlying25 rfl (by kernel_rfl) (by rfl) HF5.out.ra Try.underlying40 rfl (by kernel_rfl) rfl ⟨?_, HF5.out.only, HF5.out.memo⟩
  rw [HV.out]; rfl

set_option maxHeartbeats 400000 in
theorem step_0 (p A : Option Addr) (cp : Nat) (xs : List Int) (n i s c : Int) (fv : Value) (q : Int → Bool) (w : World) (h : Memo w p A cp xs) (hf : Holds fv q) (hx : Words xs) (h1 : s ≠ 1) (h2 : s ≠ 2) (h3 : s ≠ 3) (h4 : s ≠ 4) (m : Int) (hmm : (if q (wordAt xs c) = true then (0 : Int) else 1) = m) :
    Calls Try.prog 54 #[.pointer p, .agg #[.int .i64 n], .int .i64 2, .int .i64 i, .agg #[.int .i64 s], .int .i64 c, fv] w (Stepped p A cp ⟨m, doVal xs 1 c 0 0, q (wordAt xs c), q (wordAt xs c), xs⟩ w) := by
  have HMM := Lib.hid hmm
  clear hmm
  have h1' := beq_eq_false_iff_ne.2 h1
  have h2' := beq_eq_false_iff_ne.2 h2
  have h3' := beq_eq_false_iff_ne.2 h3
  have h4' := beq_eq_false_iff_ne.2 h4
  clear h1 h2 h3 h4
  have HF0 := Lib.hid (SF.start n s h)
  have HF := Lib.hid hf
  have HX := Lib.hid hx
  clear h hf hx
  go_enter Try.func54, Try.ntmps54
  go_wp2_with fail
  generalize (((w.alloc (.cells #[.int .i64 n] 38)).alloc (.cells #[.int .i64 s] 25)).alloc (.cells #[.int .i64 0] 25)).alloc (.cells #[.int .i64 0, .int .i64 0, .int .u32 0, .int .u32 0, .int .u32 0] 40) = w1 at *
  generalize w.heap.size = B at *
  refine (look_any p A cp xs c fv q _ HF0.out.memo HF.out HX.out).mono ?_
  obtain ⟨k', c', x', y', hv⟩ := doVal_form xs 1 c 0 0
  rw [oldAt xs 1 c rfl] at hv
  rw [hv]
  rintro e w2 ⟨rfl, hO, hM⟩
  have HF1 := Lib.hid (HF0.out.call hO hM)
  have HV := Lib.hid hv
  clear hO hM hv
  generalize hwd : wordAt xs c = o' at *
  have HWD := Lib.hid hwd
  clear hwd
  have a0 : w2.cell? ⟨B + 1 + 1 + 1, 0, none⟩ = some (.int .i64 0) := HF1.out.ra.cell_ (i := 0) rfl
  have a1 : w2.cell? ⟨B + 1 + 1 + 1, 1, none⟩ = some (.int .i64 0) := HF1.out.ra.cell_ (i := 1) rfl
  have a2 : w2.cell? ⟨B + 1 + 1 + 1, 2, none⟩ = some (.int .u32 0) := HF1.out.ra.cell_ (i := 2) rfl
  have a3 : w2.cell? ⟨B + 1 + 1 + 1, 3, none⟩ = some (.int .u32 0) := HF1.out.ra.cell_ (i := 3) rfl
  have a4 : w2.cell? ⟨B + 1 + 1 + 1, 4, none⟩ = some (.int .u32 0) := HF1.out.ra.cell_ (i := 4) rfl
  have g0 : w2.frozen? ⟨B + 1 + 1 + 1, 0, none⟩ = false := HF1.out.ra.frozen 0
  have g1 : w2.frozen? ⟨B + 1 + 1 + 1, 1, none⟩ = false := HF1.out.ra.frozen 1
  have g2 : w2.frozen? ⟨B + 1 + 1 + 1, 2, none⟩ = false := HF1.out.ra.frozen 2
  have g3 : w2.frozen? ⟨B + 1 + 1 + 1, 3, none⟩ = false := HF1.out.ra.frozen 3
  have g4 : w2.frozen? ⟨B + 1 + 1 + 1, 4, none⟩ = false := HF1.out.ra.frozen 4
  go_wp2_with fail
  have HF2 := Lib.hid (HF1.out.setA (.int .i64 k') (.int .i64 c') (.int .u32 x') (.int .u32 y') (.int .u32 o'))
  clear a0 a1 a2 a3 a4 g0 g1 g2 g3 g4 HF1
  generalize (((((w2.setCell ⟨B + 1 + 1 + 1, 0, none⟩ (.int .i64 k')).setCell ⟨B + 1 + 1 + 1, 1, none⟩ (.int .i64 c')).setCell ⟨B + 1 + 1 + 1, 2, none⟩ (.int .u32 x')).setCell ⟨B + 1 + 1 + 1, 3, none⟩ (.int .u32 y')).setCell ⟨B + 1 + 1 + 1, 4, none⟩ (.int .u32 o')) = w3 at *
  have c0 : w3.cell? ⟨B + 1 + 1 + 1, 0, none⟩ = some (.int .i64 k') := HF2.out.ra.cell_ (i := 0) rfl
  have c1 : w3.cell? ⟨B + 1 + 1 + 1, 1, none⟩ = some (.int .i64 c') := HF2.out.ra.cell_ (i := 1) rfl
  have c2 : w3.cell? ⟨B + 1 + 1 + 1, 2, none⟩ = some (.int .u32 x') := HF2.out.ra.cell_ (i := 2) rfl
  have c3 : w3.cell? ⟨B + 1 + 1 + 1, 3, none⟩ = some (.int .u32 y') := HF2.out.ra.cell_ (i := 3) rfl
  have c4 : w3.cell? ⟨B + 1 + 1 + 1, 4, none⟩ = some (.int .u32 o') := HF2.out.ra.cell_ (i := 4) rfl
  refine wp_region_held_drew (S := fun w' => w'.cell? ⟨B + 1 + 1 + 1, 0, none⟩ = some (.int .i64 k') ∧ w'.cell? ⟨B + 1 + 1 + 1, 1, none⟩ = some (.int .i64 c') ∧ w'.cell? ⟨B + 1 + 1 + 1, 2, none⟩ = some (.int .u32 x') ∧ w'.cell? ⟨B + 1 + 1 + 1, 3, none⟩ = some (.int .u32 y') ∧ w'.cell? ⟨B + 1 + 1 + 1, 4, none⟩ = some (.int .u32 o')) (by kernel_rfl) ⟨c0, c1, c2, c3, c4⟩ (fun hHeld => ?_)
  have HF3 := Lib.hid (HF2.out.keep (Only.refl Nil w3).drew)
  clear c0 c1 c2 c3 c4 HF2
  generalize w3.drew = w4 at *
  refine take_0 (.bool (q o')) (by kernel_rfl) (by kernel_rfl) (by kernel_rfl) (fun _ _ _ h => h) (by rfl) (fun w hSw => ?_) (by assumption) ?_
  · (try dsimp only at hSw)
    go_split_ands
    go_simp
  (try simp only [Act.put, List.setIfInBounds_toArray, List.set_cons_zero, List.set_cons_succ])
  refine take_2 (.agg #[.int .i64 k', .int .i64 c', .int .u32 x', .int .u32 y', .int .u32 o']) (by kernel_rfl) (by kernel_rfl) (by kernel_rfl) (fun _ _ _ h => h) (by rfl) (fun w hSw => ?_) (by assumption) ?_
  · (try dsimp only at hSw)
    go_split_ands
    go_simp
  (try simp only [Act.put, List.setIfInBounds_toArray, List.set_cons_zero, List.set_cons_succ])
  refine take_3 (.bool (q o')) (by kernel_rfl) (by kernel_rfl) (by kernel_rfl) (fun _ _ _ h => h) (by rfl) (fun w hSw => ?_) (by assumption) ?_
  · (try dsimp only at hSw)
    go_split_ands
    go_simp
  (try simp only [Act.put, List.setIfInBounds_toArray, List.set_cons_zero, List.set_cons_succ])
  refine take_4 (.bool (q o')) (by kernel_rfl) (by kernel_rfl) (by kernel_rfl) (fun _ _ _ h => h) (by rfl) (fun w hSw => ?_) (by assumption) ?_
  · (try dsimp only at hSw)
    go_split_ands
    go_simp
  (try simp only [Act.put, List.setIfInBounds_toArray, List.set_cons_zero, List.set_cons_succ])
  refine call_1 (by kernel_rfl) (by rfl) (fun K hK => ?_)
  go_simp
  refine (either_any (q o') 0 1 _).mono ?_
  rw [HMM.out]
  rintro e w9 ⟨rfl, hO⟩
  have HF9 := Lib.hid (HF3.out.keep hO)
  refine hK.out _ _ ⟨HF9.out.ra.cell_ (i := 0) rfl, HF9.out.ra.cell_ (i := 1) rfl, HF9.out.ra.cell_ (i := 2) rfl, HF9.out.ra.cell_ (i := 3) rfl, HF9.out.ra.cell_ (i := 4) rfl⟩ (fun hHeld9 => ?_)
  clear hK K hHeld hO HF3
  have HF3 := HF9
  clear HF9
  (try simp only [Act.put, List.setIfInBounds_toArray, List.set_cons_zero, List.set_cons_succ])
  have n0 : w9.cell? ⟨B + 1 + 1, 0, none⟩ = some (.int .i64 0) := HF3.out.rn.cell_ (i := 0) rfl
  have m0 : w9.frozen? ⟨B + 1 + 1, 0, none⟩ = false := HF3.out.rn.frozen 0
  refine call_5 (by kernel_rfl) (by rfl) (fun K hK => ?_)
  go_simp
  have HF4 := Lib.hid (HF3.out.setN (m))
  refine hK.out _ _ ⟨HF4.out.ra.cell_ (i := 0) rfl, HF4.out.ra.cell_ (i := 1) rfl, HF4.out.ra.cell_ (i := 2) rfl, HF4.out.ra.cell_ (i := 3) rfl, HF4.out.ra.cell_ (i := 4) rfl⟩ (fun hHeld2 => ?_)
  clear hK K hHeld9 n0 m0 HF3
  (try simp only [Act.put, List.setIfInBounds_toArray, List.set_cons_zero, List.set_cons_succ])
  generalize w9.setCell ⟨B + 1 + 1, 0, none⟩ (.int .i64 (m)) = w5 at *
  have c0 : w5.cell? ⟨B + 1 + 1 + 1, 0, none⟩ = some (.int .i64 k') := HF4.out.ra.cell_ (i := 0) rfl
  have c1 : w5.cell? ⟨B + 1 + 1 + 1, 1, none⟩ = some (.int .i64 c') := HF4.out.ra.cell_ (i := 1) rfl
  have c2 : w5.cell? ⟨B + 1 + 1 + 1, 2, none⟩ = some (.int .u32 x') := HF4.out.ra.cell_ (i := 2) rfl
  have c3 : w5.cell? ⟨B + 1 + 1 + 1, 3, none⟩ = some (.int .u32 y') := HF4.out.ra.cell_ (i := 3) rfl
  have c4 : w5.cell? ⟨B + 1 + 1 + 1, 4, none⟩ = some (.int .u32 o') := HF4.out.ra.cell_ (i := 4) rfl
  have g0 : w5.frozen? ⟨B + 1 + 1 + 1, 0, none⟩ = false := HF4.out.ra.frozen 0
  have g1 : w5.frozen? ⟨B + 1 + 1 + 1, 1, none⟩ = false := HF4.out.ra.frozen 1
  have g2 : w5.frozen? ⟨B + 1 + 1 + 1, 2, none⟩ = false := HF4.out.ra.frozen 2
  have g3 : w5.frozen? ⟨B + 1 + 1 + 1, 3, none⟩ = false := HF4.out.ra.frozen 3
  have g4 : w5.frozen? ⟨B + 1 + 1 + 1, 4, none⟩ = false := HF4.out.ra.frozen 4
  refine call_6 (by kernel_rfl) (by rfl) (fun K hK => ?_)
  go_simp
  have HF5 := Lib.hid (HF4.out.setA (.int .i64 k') (.int .i64 c') (.int .u32 x') (.int .u32 y') (.int .u32 o'))
  refine hK.out _ _ ⟨HF5.out.ra.cell_ (i := 0) rfl, HF5.out.ra.cell_ (i := 1) rfl, HF5.out.ra.cell_ (i := 2) rfl, HF5.out.ra.cell_ (i := 3) rfl, HF5.out.ra.cell_ (i := 4) rfl⟩ (fun hHeld3 => ?_)
  clear hK K hHeld2 c0 c1 c2 c3 c4 g0 g1 g2 g3 g4 HF4
  (try simp only [Act.put, List.setIfInBounds_toArray, List.set_cons_zero, List.set_cons_succ])
  generalize (((((w5.setCell ⟨B + 1 + 1 + 1, 0, none⟩ (.int .i64 k')).setCell ⟨B + 1 + 1 + 1, 1, none⟩ (.int .i64 c')).setCell ⟨B + 1 + 1 + 1, 2, none⟩ (.int .u32 x')).setCell ⟨B + 1 + 1 + 1, 3, none⟩ (.int .u32 y')).setCell ⟨B + 1 + 1 + 1, 4, none⟩ (.int .u32 o')) = w6 at *
  refine take_7 (.bool (q o')) (by kernel_rfl) (by kernel_rfl) (by kernel_rfl) (fun _ _ _ h => h) (by rfl) (fun w hSw => ?_) (by assumption) ?_
  · (try dsimp only at hSw)
    go_split_ands
    go_simp
  (try simp only [Act.put, List.setIfInBounds_toArray, List.set_cons_zero, List.set_cons_succ])
  refine take_8 (.bool (q o')) (by kernel_rfl) (by kernel_rfl) (by kernel_rfl) (fun _ _ _ h => h) (by rfl) (fun w hSw => ?_) (by assumption) ?_
  · (try dsimp only at hSw)
    go_split_ands
    go_simp
  (try simp only [Act.put, List.setIfInBounds_toArray, List.set_cons_zero, List.set_cons_succ])
  refine wpAnyH_done (by kernel_rfl) ?_ _
  clear hHeld3
  go_wp2
  refine post_two_tmps (P := Try.prog) Try.results54 (by rfl) HF5.out.rn Try.underlying25 rfl (by kernel_rfl) (by rfl) HF5.out.ra Try.underlying40 rfl (by kernel_rfl) rfl ⟨?_, HF5.out.only, HF5.out.memo⟩
  rw [HV.out]; rfl

set_option maxHeartbeats 400000 in
theorem step_2 (p A : Option Addr) (cp : Nat) (xs : List Int) (n i c : Int) (fv : Value) (q : Int → Bool) (w : World) (h : Memo w p A cp xs) (hf : Holds fv q) (hx : Words xs) (m : Int) (hmm : (if q (wordAt xs c) = true then (4 : Int) else 3) = m) :
    Calls Try.prog 54 #[.pointer p, .agg #[.int .i64 n], .int .i64 2, .int .i64 i, .agg #[.int .i64 2], .int .i64 c, fv] w (Stepped p A cp ⟨m, doVal xs 1 c 0 0, q (wordAt xs c), false, xs⟩ w) := by
  have HMM := Lib.hid hmm
  clear hmm
  have HF0 := Lib.hid (SF.start n 2 h)
  have HF := Lib.hid hf
  have HX := Lib.hid hx
  clear h hf hx
  go_enter Try.func54, Try.ntmps54
  go_wp2_with fail
  generalize (((w.alloc (.cells #[.int .i64 n] 38)).alloc (.cells #[.int .i64 2] 25)).alloc (.cells #[.int .i64 0] 25)).alloc (.cells #[.int .i64 0, .int .i64 0, .int .u32 0, .int .u32 0, .int .u32 0] 40) = w1 at *
  generalize w.heap.size = B at *
  refine (look_any p A cp xs c fv q _ HF0.out.memo HF.out HX.out).mono ?_
  obtain ⟨k', c', x', y', hv⟩ := doVal_form xs 1 c 0 0
  rw [oldAt xs 1 c rfl] at hv
  rw [hv]
  rintro e w2 ⟨rfl, hO, hM⟩
  have HF1 := Lib.hid (HF0.out.call hO hM)
  have HV := Lib.hid hv
  clear hO hM hv
  generalize hwd : wordAt xs c = o' at *
  have HWD := Lib.hid hwd
  clear hwd
  have a0 : w2.cell? ⟨B + 1 + 1 + 1, 0, none⟩ = some (.int .i64 0) := HF1.out.ra.cell_ (i := 0) rfl
  have a1 : w2.cell? ⟨B + 1 + 1 + 1, 1, none⟩ = some (.int .i64 0) := HF1.out.ra.cell_ (i := 1) rfl
  have a2 : w2.cell? ⟨B + 1 + 1 + 1, 2, none⟩ = some (.int .u32 0) := HF1.out.ra.cell_ (i := 2) rfl
  have a3 : w2.cell? ⟨B + 1 + 1 + 1, 3, none⟩ = some (.int .u32 0) := HF1.out.ra.cell_ (i := 3) rfl
  have a4 : w2.cell? ⟨B + 1 + 1 + 1, 4, none⟩ = some (.int .u32 0) := HF1.out.ra.cell_ (i := 4) rfl
  have g0 : w2.frozen? ⟨B + 1 + 1 + 1, 0, none⟩ = false := HF1.out.ra.frozen 0
  have g1 : w2.frozen? ⟨B + 1 + 1 + 1, 1, none⟩ = false := HF1.out.ra.frozen 1
  have g2 : w2.frozen? ⟨B + 1 + 1 + 1, 2, none⟩ = false := HF1.out.ra.frozen 2
  have g3 : w2.frozen? ⟨B + 1 + 1 + 1, 3, none⟩ = false := HF1.out.ra.frozen 3
  have g4 : w2.frozen? ⟨B + 1 + 1 + 1, 4, none⟩ = false := HF1.out.ra.frozen 4
  go_wp2_with fail
  have HF2 := Lib.hid (HF1.out.setA (.int .i64 k') (.int .i64 c') (.int .u32 x') (.int .u32 y') (.int .u32 o'))
  clear a0 a1 a2 a3 a4 g0 g1 g2 g3 g4 HF1
  generalize (((((w2.setCell ⟨B + 1 + 1 + 1, 0, none⟩ (.int .i64 k')).setCell ⟨B + 1 + 1 + 1, 1, none⟩ (.int .i64 c')).setCell ⟨B + 1 + 1 + 1, 2, none⟩ (.int .u32 x')).setCell ⟨B + 1 + 1 + 1, 3, none⟩ (.int .u32 y')).setCell ⟨B + 1 + 1 + 1, 4, none⟩ (.int .u32 o')) = w3 at *
  have c0 : w3.cell? ⟨B + 1 + 1 + 1, 0, none⟩ = some (.int .i64 k') := HF2.out.ra.cell_ (i := 0) rfl
  have c1 : w3.cell? ⟨B + 1 + 1 + 1, 1, none⟩ = some (.int .i64 c') := HF2.out.ra.cell_ (i := 1) rfl
  have c2 : w3.cell? ⟨B + 1 + 1 + 1, 2, none⟩ = some (.int .u32 x') := HF2.out.ra.cell_ (i := 2) rfl
  have c3 : w3.cell? ⟨B + 1 + 1 + 1, 3, none⟩ = some (.int .u32 y') := HF2.out.ra.cell_ (i := 3) rfl
  have c4 : w3.cell? ⟨B + 1 + 1 + 1, 4, none⟩ = some (.int .u32 o') := HF2.out.ra.cell_ (i := 4) rfl
  refine wp_region_held_drew (S := fun w' => w'.cell? ⟨B + 1 + 1 + 1, 0, none⟩ = some (.int .i64 k') ∧ w'.cell? ⟨B + 1 + 1 + 1, 1, none⟩ = some (.int .i64 c') ∧ w'.cell? ⟨B + 1 + 1 + 1, 2, none⟩ = some (.int .u32 x') ∧ w'.cell? ⟨B + 1 + 1 + 1, 3, none⟩ = some (.int .u32 y') ∧ w'.cell? ⟨B + 1 + 1 + 1, 4, none⟩ = some (.int .u32 o')) (by kernel_rfl) ⟨c0, c1, c2, c3, c4⟩ (fun hHeld => ?_)
  have HF3 := Lib.hid (HF2.out.keep (Only.refl Nil w3).drew)
  clear c0 c1 c2 c3 c4 HF2
  generalize w3.drew = w4 at *
  refine take_0 (.bool (q o')) (by kernel_rfl) (by kernel_rfl) (by kernel_rfl) (fun _ _ _ h => h) (by rfl) (fun w hSw => ?_) (by assumption) ?_
  · (try dsimp only at hSw)
    go_split_ands
    go_simp
  (try simp only [Act.put, List.setIfInBounds_toArray, List.set_cons_zero, List.set_cons_succ])
  refine take_2 (.agg #[.int .i64 k', .int .i64 c', .int .u32 x', .int .u32 y', .int .u32 o']) (by kernel_rfl) (by kernel_rfl) (by kernel_rfl) (fun _ _ _ h => h) (by rfl) (fun w hSw => ?_) (by assumption) ?_
  · (try dsimp only at hSw)
    go_split_ands
    go_simp
  (try simp only [Act.put, List.setIfInBounds_toArray, List.set_cons_zero, List.set_cons_succ])
  refine take_3 (.bool (q o')) (by kernel_rfl) (by kernel_rfl) (by kernel_rfl) (fun _ _ _ h => h) (by rfl) (fun w hSw => ?_) (by assumption) ?_
  · (try dsimp only at hSw)
    go_split_ands
    go_simp
  (try simp only [Act.put, List.setIfInBounds_toArray, List.set_cons_zero, List.set_cons_succ])
  refine call_1 (by kernel_rfl) (by rfl) (fun K hK => ?_)
  go_simp
  refine (either_any (q o') 4 3 _).mono ?_
  rw [HMM.out]
  rintro e w9 ⟨rfl, hO⟩
  have HF9 := Lib.hid (HF3.out.keep hO)
  refine hK.out _ _ ⟨HF9.out.ra.cell_ (i := 0) rfl, HF9.out.ra.cell_ (i := 1) rfl, HF9.out.ra.cell_ (i := 2) rfl, HF9.out.ra.cell_ (i := 3) rfl, HF9.out.ra.cell_ (i := 4) rfl⟩ (fun hHeld9 => ?_)
  clear hK K hHeld hO HF3
  have HF3 := HF9
  clear HF9
  (try simp only [Act.put, List.setIfInBounds_toArray, List.set_cons_zero, List.set_cons_succ])
  have n0 : w9.cell? ⟨B + 1 + 1, 0, none⟩ = some (.int .i64 0) := HF3.out.rn.cell_ (i := 0) rfl
  have m0 : w9.frozen? ⟨B + 1 + 1, 0, none⟩ = false := HF3.out.rn.frozen 0
  refine call_4 (by kernel_rfl) (by rfl) (fun K hK => ?_)
  go_simp
  have HF4 := Lib.hid (HF3.out.setN (m))
  refine hK.out _ _ ⟨HF4.out.ra.cell_ (i := 0) rfl, HF4.out.ra.cell_ (i := 1) rfl, HF4.out.ra.cell_ (i := 2) rfl, HF4.out.ra.cell_ (i := 3) rfl, HF4.out.ra.cell_ (i := 4) rfl⟩ (fun hHeld2 => ?_)
  clear hK K hHeld9 n0 m0 HF3
  (try simp only [Act.put, List.setIfInBounds_toArray, List.set_cons_zero, List.set_cons_succ])
  generalize w9.setCell ⟨B + 1 + 1, 0, none⟩ (.int .i64 (m)) = w5 at *
  have c0 : w5.cell? ⟨B + 1 + 1 + 1, 0, none⟩ = some (.int .i64 k') := HF4.out.ra.cell_ (i := 0) rfl
  have c1 : w5.cell? ⟨B + 1 + 1 + 1, 1, none⟩ = some (.int .i64 c') := HF4.out.ra.cell_ (i := 1) rfl
  have c2 : w5.cell? ⟨B + 1 + 1 + 1, 2, none⟩ = some (.int .u32 x') := HF4.out.ra.cell_ (i := 2) rfl
  have c3 : w5.cell? ⟨B + 1 + 1 + 1, 3, none⟩ = some (.int .u32 y') := HF4.out.ra.cell_ (i := 3) rfl
  have c4 : w5.cell? ⟨B + 1 + 1 + 1, 4, none⟩ = some (.int .u32 o') := HF4.out.ra.cell_ (i := 4) rfl
  have g0 : w5.frozen? ⟨B + 1 + 1 + 1, 0, none⟩ = false := HF4.out.ra.frozen 0
  have g1 : w5.frozen? ⟨B + 1 + 1 + 1, 1, none⟩ = false := HF4.out.ra.frozen 1
  have g2 : w5.frozen? ⟨B + 1 + 1 + 1, 2, none⟩ = false := HF4.out.ra.frozen 2
  have g3 : w5.frozen? ⟨B + 1 + 1 + 1, 3, none⟩ = false := HF4.out.ra.frozen 3
  have g4 : w5.frozen? ⟨B + 1 + 1 + 1, 4, none⟩ = false := HF4.out.ra.frozen 4
  refine call_5 (by kernel_rfl) (by rfl) (fun K hK => ?_)
  go_simp
  have HF5 := Lib.hid (HF4.out.setA (.int .i64 k') (.int .i64 c') (.int .u32 x') (.int .u32 y') (.int .u32 o'))
  refine hK.out _ _ ⟨HF5.out.ra.cell_ (i := 0) rfl, HF5.out.ra.cell_ (i := 1) rfl, HF5.out.ra.cell_ (i := 2) rfl, HF5.out.ra.cell_ (i := 3) rfl, HF5.out.ra.cell_ (i := 4) rfl⟩ (fun hHeld3 => ?_)
  clear hK K hHeld2 c0 c1 c2 c3 c4 g0 g1 g2 g3 g4 HF4
  (try simp only [Act.put, List.setIfInBounds_toArray, List.set_cons_zero, List.set_cons_succ])
  generalize (((((w5.setCell ⟨B + 1 + 1 + 1, 0, none⟩ (.int .i64 k')).setCell ⟨B + 1 + 1 + 1, 1, none⟩ (.int .i64 c')).setCell ⟨B + 1 + 1 + 1, 2, none⟩ (.int .u32 x')).setCell ⟨B + 1 + 1 + 1, 3, none⟩ (.int .u32 y')).setCell ⟨B + 1 + 1 + 1, 4, none⟩ (.int .u32 o')) = w6 at *
  refine take_6 (.bool (q o')) (by kernel_rfl) (by kernel_rfl) (by kernel_rfl) (fun _ _ _ h => h) (by rfl) (fun w hSw => ?_) (by assumption) ?_
  · (try dsimp only at hSw)
    go_split_ands
    go_simp
  (try simp only [Act.put, List.setIfInBounds_toArray, List.set_cons_zero, List.set_cons_succ])
  refine take_7 (.bool false) (by kernel_rfl) (by kernel_rfl) (by kernel_rfl) (fun _ _ _ h => h) (by rfl) (fun w hSw => ?_) (by assumption) ?_
  · (try dsimp only at hSw)
    go_split_ands
    go_simp
  (try simp only [Act.put, List.setIfInBounds_toArray, List.set_cons_zero, List.set_cons_succ])
  refine wpAnyH_done (by kernel_rfl) ?_ _
  clear hHeld3
  go_wp2
  refine post_two_tmps (P := Try.prog) Try.results54 (by rfl) HF5.out.rn Try.underlying25 rfl (by kernel_rfl) (by rfl) HF5.out.ra Try.underlying40 rfl (by kernel_rfl) rfl ⟨?_, HF5.out.only, HF5.out.memo⟩
  rw [HV.out]; rfl

set_option maxHeartbeats 400000 in
theorem step_1 (p A : Option Addr) (cp : Nat) (xs : List Int) (n i c : Int) (fv : Value) (q : Int → Bool) (w : World) (h : Memo w p A cp xs) (hf : Holds fv q) (hx : Words xs) :
    Calls Try.prog 54 #[.pointer p, .agg #[.int .i64 n], .int .i64 2, .int .i64 i, .agg #[.int .i64 1], .int .i64 c, fv] w (Stepped p A cp ⟨2, doVal xs 2 (wc n i) ((c + 1) % 4294967296) 0, false, false, st xs (wc n i) ((c + 1) % 4294967296)⟩ w) := by
  have HF0 := Lib.hid (SF.start n 1 h)
  have HF := Lib.hid hf
  have HX := Lib.hid hx
  clear h hf hx
  go_enter Try.func54, Try.ntmps54
  go_wp2_with fail
  generalize (((w.alloc (.cells #[.int .i64 n] 38)).alloc (.cells #[.int .i64 1] 25)).alloc (.cells #[.int .i64 0] 25)).alloc (.cells #[.int .i64 0, .int .i64 0, .int .u32 0, .int .u32 0, .int .u32 0] 40) = w1 at *
  generalize w.heap.size = B at *
  have n1 : w1.cell? ⟨B, 0, none⟩ = some (.int .i64 n) := HF0.out.rm.cell_ (i := 0) rfl
  refine (setWatch_any p A cp xs n i ((c + 1) % 4294967296) _ HF0.out.memo).mono ?_
  obtain ⟨k', c', x', y', hv⟩ := doVal_form xs 2 (wc n i) ((c + 1) % 4294967296) 0
  generalize (if doOk xs 2 (wc n i) = true then wordAt xs (wc n i) else 0) = o' at hv
  rw [hv]
  rintro e w2 ⟨rfl, hO, hM⟩
  have HF1 := Lib.hid (HF0.out.call hO hM)
  have HV := Lib.hid hv
  clear hO hM hv
  have a0 : w2.cell? ⟨B + 1 + 1 + 1, 0, none⟩ = some (.int .i64 0) := HF1.out.ra.cell_ (i := 0) rfl
  have a1 : w2.cell? ⟨B + 1 + 1 + 1, 1, none⟩ = some (.int .i64 0) := HF1.out.ra.cell_ (i := 1) rfl
  have a2 : w2.cell? ⟨B + 1 + 1 + 1, 2, none⟩ = some (.int .u32 0) := HF1.out.ra.cell_ (i := 2) rfl
  have a3 : w2.cell? ⟨B + 1 + 1 + 1, 3, none⟩ = some (.int .u32 0) := HF1.out.ra.cell_ (i := 3) rfl
  have a4 : w2.cell? ⟨B + 1 + 1 + 1, 4, none⟩ = some (.int .u32 0) := HF1.out.ra.cell_ (i := 4) rfl
  have g0 : w2.frozen? ⟨B + 1 + 1 + 1, 0, none⟩ = false := HF1.out.ra.frozen 0
  have g1 : w2.frozen? ⟨B + 1 + 1 + 1, 1, none⟩ = false := HF1.out.ra.frozen 1
  have g2 : w2.frozen? ⟨B + 1 + 1 + 1, 2, none⟩ = false := HF1.out.ra.frozen 2
  have g3 : w2.frozen? ⟨B + 1 + 1 + 1, 3, none⟩ = false := HF1.out.ra.frozen 3
  have g4 : w2.frozen? ⟨B + 1 + 1 + 1, 4, none⟩ = false := HF1.out.ra.frozen 4
  have n0 : w2.cell? ⟨B + 1 + 1, 0, none⟩ = some (.int .i64 0) := HF1.out.rn.cell_ (i := 0) rfl
  have m0 : w2.frozen? ⟨B + 1 + 1, 0, none⟩ = false := HF1.out.rn.frozen 0
  go_wp2
  have HF5 := Lib.hid ((HF1.out.setN 2).setA (.int .i64 k') (.int .i64 c') (.int .u32 x') (.int .u32 y') (.int .u32 o'))
  refine post_two_tmps (P := Try.prog) Try.results54 (by rfl) HF5.out.rn Try.underlying25 rfl (by kernel_rfl) (by rfl) HF5.out.ra Try.underlying40 rfl (by kernel_rfl) rfl ⟨?_, HF5.out.only, HF5.out.memo⟩
  rw [HV.out]; rfl

set_option maxHeartbeats 400000 in
theorem step_4 (p A : Option Addr) (cp : Nat) (xs : List Int) (n i c : Int) (fv : Value) (q : Int → Bool) (w : World) (h : Memo w p A cp xs) (hf : Holds fv q) (hx : Words xs) :
    Calls Try.prog 54 #[.pointer p, .agg #[.int .i64 n], .int .i64 2, .int .i64 i, .agg #[.int .i64 4], .int .i64 c, fv] w (Stepped p A cp ⟨0, doVal xs 2 (wc n i) 0 0, false, true, st xs (wc n i) 0⟩ w) := by
  have HF0 := Lib.hid (SF.start n 4 h)
  have HF := Lib.hid hf
  have HX := Lib.hid hx
  clear h hf hx
  go_enter Try.func54, Try.ntmps54
  go_wp2_with fail
  generalize (((w.alloc (.cells #[.int .i64 n] 38)).alloc (.cells #[.int .i64 4] 25)).alloc (.cells #[.int .i64 0] 25)).alloc (.cells #[.int .i64 0, .int .i64 0, .int .u32 0, .int .u32 0, .int .u32 0] 40) = w1 at *
  generalize w.heap.size = B at *
  have n1 : w1.cell? ⟨B, 0, none⟩ = some (.int .i64 n) := HF0.out.rm.cell_ (i := 0) rfl
  refine (setWatch_any p A cp xs n i (0) _ HF0.out.memo).mono ?_
  obtain ⟨k', c', x', y', hv⟩ := doVal_form xs 2 (wc n i) (0) 0
  generalize (if doOk xs 2 (wc n i) = true then wordAt xs (wc n i) else 0) = o' at hv
  rw [hv]
  rintro e w2 ⟨rfl, hO, hM⟩
  have HF1 := Lib.hid (HF0.out.call hO hM)
  have HV := Lib.hid hv
  clear hO hM hv
  have a0 : w2.cell? ⟨B + 1 + 1 + 1, 0, none⟩ = some (.int .i64 0) := HF1.out.ra.cell_ (i := 0) rfl
  have a1 : w2.cell? ⟨B + 1 + 1 + 1, 1, none⟩ = some (.int .i64 0) := HF1.out.ra.cell_ (i := 1) rfl
  have a2 : w2.cell? ⟨B + 1 + 1 + 1, 2, none⟩ = some (.int .u32 0) := HF1.out.ra.cell_ (i := 2) rfl
  have a3 : w2.cell? ⟨B + 1 + 1 + 1, 3, none⟩ = some (.int .u32 0) := HF1.out.ra.cell_ (i := 3) rfl
  have a4 : w2.cell? ⟨B + 1 + 1 + 1, 4, none⟩ = some (.int .u32 0) := HF1.out.ra.cell_ (i := 4) rfl
  have g0 : w2.frozen? ⟨B + 1 + 1 + 1, 0, none⟩ = false := HF1.out.ra.frozen 0
  have g1 : w2.frozen? ⟨B + 1 + 1 + 1, 1, none⟩ = false := HF1.out.ra.frozen 1
  have g2 : w2.frozen? ⟨B + 1 + 1 + 1, 2, none⟩ = false := HF1.out.ra.frozen 2
  have g3 : w2.frozen? ⟨B + 1 + 1 + 1, 3, none⟩ = false := HF1.out.ra.frozen 3
  have g4 : w2.frozen? ⟨B + 1 + 1 + 1, 4, none⟩ = false := HF1.out.ra.frozen 4
  have n0 : w2.cell? ⟨B + 1 + 1, 0, none⟩ = some (.int .i64 0) := HF1.out.rn.cell_ (i := 0) rfl
  have m0 : w2.frozen? ⟨B + 1 + 1, 0, none⟩ = false := HF1.out.rn.frozen 0
  go_wp2
  have HF5 := Lib.hid ((HF1.out.setN 0).setA (.int .i64 k') (.int .i64 c') (.int .u32 x') (.int .u32 y') (.int .u32 o'))
  refine post_two_tmps (P := Try.prog) Try.results54 (by rfl) HF5.out.rn Try.underlying25 rfl (by kernel_rfl) (by rfl) HF5.out.ra Try.underlying40 rfl (by kernel_rfl) rfl ⟨?_, HF5.out.only, HF5.out.memo⟩
  rw [HV.out]; rfl

set_option maxHeartbeats 400000 in
theorem step_3 (p A : Option Addr) (cp : Nat) (xs : List Int) (n i c : Int) (fv : Value) (q : Int → Bool) (w : World) (h : Memo w p A cp xs) (hf : Holds fv q) (hx : Words xs) (m : Int) (hmm : (if hasP xs n i = true then (2 : Int) else 3) = m) :
    Calls Try.prog 54 #[.pointer p, .agg #[.int .i64 n], .int .i64 2, .int .i64 i, .agg #[.int .i64 3], .int .i64 c, fv] w (Stepped p A cp ⟨m, takeVal xs n i, false, false, st xs (pc n i) 0⟩ w) := by
  have HMM := Lib.hid hmm
  clear hmm
  have HF0 := Lib.hid (SF.start n 3 h)
  have HF := Lib.hid hf
  have HX := Lib.hid hx
  clear h hf hx
  go_enter Try.func54, Try.ntmps54
  go_wp2_with fail
  generalize (((w.alloc (.cells #[.int .i64 n] 38)).alloc (.cells #[.int .i64 3] 25)).alloc (.cells #[.int .i64 0] 25)).alloc (.cells #[.int .i64 0, .int .i64 0, .int .u32 0, .int .u32 0, .int .u32 0] 40) = w1 at *
  generalize w.heap.size = B at *
  refine (take_any p A cp xs n i _ HF0.out.memo).mono ?_
  obtain ⟨k', c', x', y', o', hv⟩ := takeVal_form xs n i
  rw [hv]
  rintro e w2 ⟨rfl, hO, hM⟩
  have HF1 := Lib.hid (HF0.out.call hO hM)
  have HV := Lib.hid hv
  clear hO hM hv
  generalize hasP xs n i = b at *
  have HF2 := Lib.hid (HF1.out.keep ((Only.refl Nil w2).alloc (.cells #[.int .i64 k', .int .i64 c', .int .u32 x', .int .u32 y', .int .u32 o'] 40)))
  have HN := Lib.hid (Row.new w2 40 #[.int .i64 k', .int .i64 c', .int .u32 x', .int .u32 y', .int .u32 o'])
  have HG := Lib.hid (show B + 1 + 1 + 1 < w2.heap.size from HF1.out.ra.lt)
  go_wp2_with fail
  generalize w2.alloc (.cells #[.int .i64 k', .int .i64 c', .int .u32 x', .int .u32 y', .int .u32 o'] 40) = w3 at *
  generalize w2.heap.size = g at *
  have c0 : w3.cell? ⟨g, 0, none⟩ = some (.int .i64 k') := HN.out.cell_ (i := 0) rfl
  have c1 : w3.cell? ⟨g, 1, none⟩ = some (.int .i64 c') := HN.out.cell_ (i := 1) rfl
  have c2 : w3.cell? ⟨g, 2, none⟩ = some (.int .u32 x') := HN.out.cell_ (i := 2) rfl
  have c3 : w3.cell? ⟨g, 3, none⟩ = some (.int .u32 y') := HN.out.cell_ (i := 3) rfl
  have c4 : w3.cell? ⟨g, 4, none⟩ = some (.int .u32 o') := HN.out.cell_ (i := 4) rfl
  refine wp_region_held_drew (S := fun w' => w'.cell? ⟨g, 0, none⟩ = some (.int .i64 k') ∧ w'.cell? ⟨g, 1, none⟩ = some (.int .i64 c') ∧ w'.cell? ⟨g, 2, none⟩ = some (.int .u32 x') ∧ w'.cell? ⟨g, 3, none⟩ = some (.int .u32 y') ∧ w'.cell? ⟨g, 4, none⟩ = some (.int .u32 o')) (by kernel_rfl) ⟨c0, c1, c2, c3, c4⟩ (fun hHeld => ?_)
  have HF3 := Lib.hid (HF2.out.keep (Only.refl Nil w3).drew)
  have HN3 := Lib.hid HN.out.drew
  clear c0 c1 c2 c3 c4 HF2 HN
  generalize w3.drew = w4 at *
  refine take_0 (.bool b) (by kernel_rfl) (by kernel_rfl) (by kernel_rfl) (fun _ _ _ h => h) (by rfl) (fun w hSw => ?_) (by assumption) ?_
  · (try dsimp only at hSw)
    go_split_ands
    go_simp
  (try simp only [Act.put, List.setIfInBounds_toArray, List.set_cons_zero, List.set_cons_succ])
  refine take_2 (.agg #[.int .i64 k', .int .i64 c', .int .u32 x', .int .u32 y', .int .u32 o']) (by kernel_rfl) (by kernel_rfl) (by kernel_rfl) (fun _ _ _ h => h) (by rfl) (fun w hSw => ?_) (by assumption) ?_
  · (try dsimp only at hSw)
    go_split_ands
    go_simp
  (try simp only [Act.put, List.setIfInBounds_toArray, List.set_cons_zero, List.set_cons_succ])
  refine call_1 (by kernel_rfl) (by rfl) (fun K hK => ?_)
  go_simp
  refine (either_any b 2 3 _).mono ?_
  rw [HMM.out]
  rintro e w9 ⟨rfl, hO⟩
  have HF9 := Lib.hid (HF3.out.keep hO)
  have HN9 := Lib.hid (HN3.out.only hO id)
  refine hK.out _ _ ⟨HN9.out.cell_ (i := 0) rfl, HN9.out.cell_ (i := 1) rfl, HN9.out.cell_ (i := 2) rfl, HN9.out.cell_ (i := 3) rfl, HN9.out.cell_ (i := 4) rfl⟩ (fun hHeld9 => ?_)
  clear hK K hHeld hO HF3 HN3
  (try simp only [Act.put, List.setIfInBounds_toArray, List.set_cons_zero, List.set_cons_succ])
  have n0 : w9.cell? ⟨B + 1 + 1, 0, none⟩ = some (.int .i64 0) := HF9.out.rn.cell_ (i := 0) rfl
  have m0 : w9.frozen? ⟨B + 1 + 1, 0, none⟩ = false := HF9.out.rn.frozen 0
  refine call_3 (by kernel_rfl) (by rfl) (fun K hK => ?_)
  go_simp
  have HF4 := Lib.hid (HF9.out.setN m)
  have HN4 := Lib.hid (HN9.out.far (p := ⟨B + 1 + 1, 0, none⟩) (by have := HG.out; show g ≠ B + 1 + 1; omega) (.int .i64 m))
  refine hK.out _ _ ⟨HN4.out.cell_ (i := 0) rfl, HN4.out.cell_ (i := 1) rfl, HN4.out.cell_ (i := 2) rfl, HN4.out.cell_ (i := 3) rfl, HN4.out.cell_ (i := 4) rfl⟩ (fun hHeld2 => ?_)
  clear hK K hHeld9 n0 m0 HF9 HN9
  (try simp only [Act.put, List.setIfInBounds_toArray, List.set_cons_zero, List.set_cons_succ])
  generalize w9.setCell ⟨B + 1 + 1, 0, none⟩ (.int .i64 m) = w5 at *
  have c0 : w5.cell? ⟨B + 1 + 1 + 1, 0, none⟩ = some (.int .i64 0) := HF4.out.ra.cell_ (i := 0) rfl
  have c1 : w5.cell? ⟨B + 1 + 1 + 1, 1, none⟩ = some (.int .i64 0) := HF4.out.ra.cell_ (i := 1) rfl
  have c2 : w5.cell? ⟨B + 1 + 1 + 1, 2, none⟩ = some (.int .u32 0) := HF4.out.ra.cell_ (i := 2) rfl
  have c3 : w5.cell? ⟨B + 1 + 1 + 1, 3, none⟩ = some (.int .u32 0) := HF4.out.ra.cell_ (i := 3) rfl
  have c4 : w5.cell? ⟨B + 1 + 1 + 1, 4, none⟩ = some (.int .u32 0) := HF4.out.ra.cell_ (i := 4) rfl
  have g0 : w5.frozen? ⟨B + 1 + 1 + 1, 0, none⟩ = false := HF4.out.ra.frozen 0
  have g1 : w5.frozen? ⟨B + 1 + 1 + 1, 1, none⟩ = false := HF4.out.ra.frozen 1
  have g2 : w5.frozen? ⟨B + 1 + 1 + 1, 2, none⟩ = false := HF4.out.ra.frozen 2
  have g3 : w5.frozen? ⟨B + 1 + 1 + 1, 3, none⟩ = false := HF4.out.ra.frozen 3
  have g4 : w5.frozen? ⟨B + 1 + 1 + 1, 4, none⟩ = false := HF4.out.ra.frozen 4
  refine call_4 (by kernel_rfl) (by rfl) (fun K hK => ?_)
  go_simp
  have HF5 := Lib.hid (HF4.out.setA (.int .i64 k') (.int .i64 c') (.int .u32 x') (.int .u32 y') (.int .u32 o'))
  have HN5 := Lib.hid (five_far (g := B + 1 + 1 + 1) HN4.out (by have := HG.out; show g ≠ B + 1 + 1 + 1; omega) (.int .i64 k') (.int .i64 c') (.int .u32 x') (.int .u32 y') (.int .u32 o'))
  refine hK.out _ _ ⟨HN5.out.cell_ (i := 0) rfl, HN5.out.cell_ (i := 1) rfl, HN5.out.cell_ (i := 2) rfl, HN5.out.cell_ (i := 3) rfl, HN5.out.cell_ (i := 4) rfl⟩ (fun hHeld3 => ?_)
  clear hK K hHeld2 c0 c1 c2 c3 c4 g0 g1 g2 g3 g4 HF4 HN4
  (try simp only [Act.put, List.setIfInBounds_toArray, List.set_cons_zero, List.set_cons_succ])
  generalize (((((w5.setCell ⟨B + 1 + 1 + 1, 0, none⟩ (.int .i64 k')).setCell ⟨B + 1 + 1 + 1, 1, none⟩ (.int .i64 c')).setCell ⟨B + 1 + 1 + 1, 2, none⟩ (.int .u32 x')).setCell ⟨B + 1 + 1 + 1, 3, none⟩ (.int .u32 y')).setCell ⟨B + 1 + 1 + 1, 4, none⟩ (.int .u32 o')) = w6 at *
  refine take_5 (.bool false) (by kernel_rfl) (by kernel_rfl) (by kernel_rfl) (fun _ _ _ h => h) (by rfl) (fun w hSw => ?_) (by assumption) ?_
  · (try dsimp only at hSw)
    go_split_ands
    go_simp
  (try simp only [Act.put, List.setIfInBounds_toArray, List.set_cons_zero, List.set_cons_succ])
  refine take_6 (.bool false) (by kernel_rfl) (by kernel_rfl) (by kernel_rfl) (fun _ _ _ h => h) (by rfl) (fun w hSw => ?_) (by assumption) ?_
  · (try dsimp only at hSw)
    go_split_ands
    go_simp
  (try simp only [Act.put, List.setIfInBounds_toArray, List.set_cons_zero, List.set_cons_succ])
  refine wpAnyH_done (by kernel_rfl) ?_ _
  clear hHeld3
  go_wp2
  refine post_two_tmps (P := Try.prog) Try.results54 (by rfl) HF5.out.rn Try.underlying25 rfl (by kernel_rfl) (by rfl) HF5.out.ra Try.underlying40 rfl (by kernel_rfl) rfl ⟨?_, HF5.out.only, HF5.out.memo⟩
  rw [HV.out]; rfl

/-- Any step. -/
theorem step_any (p A : Option Addr) (cp : Nat) (xs : List Int) (n mode i s c : Int) (fv : Value) (q : Int → Bool) (w : World) (h : Memo w p A cp xs) (hf : Holds fv q) (hx : Words xs) :
    Calls Try.prog 54 #[.pointer p, .agg #[.int .i64 n], .int .i64 mode, .int .i64 i, .agg #[.int .i64 s], .int .i64 c, fv] w (Stepped p A cp (stepI xs n mode i s c q) w) := by
  by_cases hm : mode = 2
  · subst hm
    by_cases h1 : s = 1
    · subst h1; exact step_1 p A cp xs n i c fv q w h hf hx
    by_cases h2 : s = 2
    · subst h2; exact step_2 p A cp xs n i c fv q w h hf hx _ rfl
    by_cases h3 : s = 3
    · subst h3; exact step_3 p A cp xs n i c fv q w h hf hx _ rfl
    by_cases h4 : s = 4
    · subst h4; exact step_4 p A cp xs n i c fv q w h hf hx
    rw [stepI_0 h1 h2 h3 h4]
    exact step_0 p A cp xs n i s c fv q w h hf hx h1 h2 h3 h4 _ rfl
  · rw [stepI_spin hm]
    exact step_spin p A cp xs n mode i s c fv q w h hf hx hm
end Go.Proofs.Ytomgjamojeejbaa
