/- Whether an access changes a word: the law's walk. -/
import Derived.Test.YtnfbdhbnaednmaaDoorAccW
import Derived.Test.YtnfbdhbnaednmaaDoorTake
import Derived.Laws.MakeOwn
import Derived.WalkLawsBesides
import Derived.Deep.OwnRows
namespace Go.Proofs.YtnfbdhbnaednmaaDoor
open Go.RowKit
theorem infoW : (Tryd.prog.info? 22).map (fun i => (i.zero, i.size, i.bytes)) = some (some (.int .u32 0), 1, 4) := by kernel_rfl
def oneAt (cc : Nat) (o : Int) : Array Value := (madeCells #[.int .u32 0] (cc + 1)).setIfInBounds cc (.int .u32 o)
theorem made_size (n : Nat) : (madeCells #[.int .u32 0] n).size = n := by simp [madeCells]
theorem made_at {n i : Nat} (h : i < n) : (madeCells #[.int .u32 0] n)[i]? = some (.int .u32 0) := by
  simp [madeCells, h, Nat.mod_one]
theorem oneAt_at (cc : Nat) (o : Int) : (oneAt cc o)[cc]? = some (.int .u32 o) := by
  unfold oneAt
  rw [Array.getElem?_setIfInBounds]
  simp [made_size]
/-- What Do leaves of a list whose cell cc holds o. -/
def Did (g cc : Nat) (k x y o : Int) (w : World) (e : Ending) (w' : World) : Prop := ∃ (k' c' x' y' o' v : Int) (cur : Array Value),
  e = .returned (.tuple #[.agg #[.int .i64 k', .int .i64 c', .int .u32 x', .int .u32 y', .int .u32 o'], .bool (isKind k)]) ∧ Row w' g 22 cur ∧ cur[cc]? = some (.int .u32 v) ∧ Only (· = g) w w' ∧ writesB k x y o = (isKind k && v != o)
theorem did_any (g S cc : Nat) (k x y o : Int) (cur : Array Value) (w : World) (hS : S = cc + 1) (f : Acc.Fits ⟨k, cc, x, y, o⟩) (hr : Row w g 22 cur) (hv : cur[cc]? = some (.int .u32 o)) :
    Calls Tryd.prog 14 #[.slice (some ⟨g, 0, none⟩) S S, .agg #[.int .i64 k, .int .i64 cc, .int .u32 x, .int .u32 y, .int .u32 o]] w (Did g cc k x y o w) := by
  have hn : (List.replicate cc (0 : Int) ++ [o]).length = S := by simp; omega
  have ht : there (List.replicate cc (0 : Int) ++ [o]) cc = true := by simp only [there, decide_eq_true_eq]; omega
  have hw : wordAt (List.replicate cc (0 : Int) ++ [o]) cc = o := by
    rw [wordAt, if_pos ht]
    simp [List.getD]
  have hl := writes_left (k := k) (y := y) f.x0 f.x1 f.o0 f.o1
  cases hk : isKind k with
  | true =>
    refine (refdo_ok g S S cur _ k cc x y o w hn hr ht hk (by rw [hw]; simpa using hv)).mono fun e w' ⟨he, ho, hr'⟩ => ?_
    rw [hw] at he hr'
    refine ⟨k, cc, x, y, o, leftOf k x y o, _, by rw [he, hk], hr', ?_, ho, hl⟩
    have hlt := (Array.getElem?_eq_some_iff.1 hv).1
    simp [Array.getElem?_setIfInBounds, hlt]
  | false =>
    refine (refdo_not _ S S _ k cc x y o w hn (by rw [doOk, hk, Bool.and_false])).mono fun e w' ⟨he, ho⟩ => ?_
    refine ⟨0, 0, 0, 0, 0, o, cur, by rw [he, hk], hr.only ho id, hv, ho.mono (fun _ _ h => absurd h id), ?_⟩
    rw [hl, hk, Bool.false_and, Bool.false_and]
theorem eql_bool (a b : Bool) (W : World) : (binOp .eql 4 (.bool a) (.bool b)).run Tryd.prog W = .ok (.bool (a == b)) W := by simp [go_sem]
theorem neq_u32 (a b : Int) (W : World) : (binOp .neq 22 (.int .u32 a) (.int .u32 b)).run Tryd.prog W = .ok (.bool (a != b)) W := by simp [go_sem]


set_option maxHeartbeats 1000000 in
theorem walk_in (k x y o : Int) (cc : Nat) (w : World) (hc : cc ≤ 100) (f : Acc.Fits ⟨k, cc, x, y, o⟩) (h : Lies w) :
    Calls Tryd.prog 6 #[.agg #[.int .i64 k, .int .i64 cc, .int .u32 x, .int .u32 y, .int .u32 o]] w fun e w' => e = .returned (.bool true) ∧ Only Nil w w' := by
  obtain ⟨S, hS⟩ : ∃ S : Nat, S = cc + 1 := ⟨_, rfl⟩
  have hSI : (cc : Int) + 1 = (S : Int) := by omega
  have hcS : cc < S := by omega
  have hc1 : ¬ (cc : Int) < 0 := by omega
  have hc2 : ¬ (100 : Int) < cc := by omega
  have hmk := fun W => run_make_row' (P := Tryd.prog) 35 22 (.int .u32 0) 4 Tryd.underlying35 infoW rfl .i64 .i64 S (by omega) (by omega) W
  have HF := Lib.hid f
  have hma : (madeCells #[Value.int .u32 0] S)[cc]? = some (.int .u32 0) := made_at hcS
  have hone : ((madeCells #[Value.int .u32 0] S).setIfInBounds cc (.int .u32 o))[cc]? = some (.int .u32 o) := by simp [Array.getElem?_setIfInBounds, made_size, hcS]
  have HONE := Lib.hid hone
  have HD := Lib.hid (fun (W : World) (g : Nat) (hr : Row W g 22 ((madeCells #[Value.int .u32 0] S).setIfInBounds cc (.int .u32 o))) => did_any g S cc k x y o _ W hS f hr hone)
  have hob := ((Only.refl Nil w).alloc (.cells #[.int .i64 k, .int .i64 cc, .int .u32 x, .int .u32 y, .int .u32 o] 24)).alloc (.cells ((madeCells #[Value.int .u32 0] S).setIfInBounds cc (.int .u32 o)) 22)
  have HLW := Lib.hid h
  have HO := Lib.hid hob
  have HB := Lib.hid ((Row.new w 24 #[.int .i64 k, .int .i64 cc, .int .u32 x, .int .u32 y, .int .u32 o]).alloc (.cells ((madeCells #[Value.int .u32 0] S).setIfInBounds cc (.int .u32 o)) 22))
  have HR := Lib.hid (Row.new2 w (.cells #[.int .i64 k, .int .i64 cc, .int .u32 x, .int .u32 y, .int .u32 o] 24) 22 ((madeCells #[Value.int .u32 0] S).setIfInBounds cc (.int .u32 o)))
  clear hS f h hob hone
  go_enter Tryd.func6, Tryd.ntmps6
  go_wp2_with fail
  generalize (w.alloc (.cells #[.int .i64 k, .int .i64 cc, .int .u32 x, .int .u32 y, .int .u32 o] 24)).alloc (.cells ((madeCells #[Value.int .u32 0] S).setIfInBounds cc (.int .u32 o)) 22) = w0 at *
  generalize hg : w.heap.size = g at *
  have HG := Lib.hid hg
  clear hg hma hmk
  refine (HD.out _ _ HR.out).mono ?_
  intro e w1 hD
  obtain ⟨k', c', x', y', o', v, cur, rfl, hr1, hv1, ho1, hwb⟩ := hD
  have HR1 := Lib.hid hr1
  have HB1 := Lib.hid (HB.out.only ho1 (by intro h; have : g = g + 1 := h; omega))
  have HO1 := Lib.hid (HO.out.step ho1 (fun i hi h => by have h' : i = g + 1 := h; have := HG.out; omega))
  have HV1 := Lib.hid hv1
  clear hr1 ho1
  have HWR := Lib.hid (fun W => writes_any k cc x y o W)
  generalize isKind k = ok at *
  generalize writesB k x y o = wb at *
  have HWB := Lib.hid hwb
  clear hv1 hwb
  go_wp2_with fail
  have HB2 := Lib.hid (HB1.out.alloc (.cells #[.int .i64 k', .int .i64 c', .int .u32 x', .int .u32 y', .int .u32 o'] 24))
  have HR2 := Lib.hid (HR1.out.alloc (.cells #[.int .i64 k', .int .i64 c', .int .u32 x', .int .u32 y', .int .u32 o'] 24))
  have HO2 := Lib.hid (HO1.out.alloc (.cells #[.int .i64 k', .int .i64 c', .int .u32 x', .int .u32 y', .int .u32 o'] 24))
  generalize w1.alloc (.cells #[.int .i64 k', .int .i64 c', .int .u32 x', .int .u32 y', .int .u32 o'] 24) = w2 at *
  have hl2 := HR2.out.cell_ HV1.out
  have c0 : w2.cell? ⟨g, 0, none⟩ = some (.int .i64 k) := HB2.out.cell_ (i := 0) rfl
  have c1 : w2.cell? ⟨g, 1, none⟩ = some (.int .i64 cc) := HB2.out.cell_ (i := 1) rfl
  have c2 : w2.cell? ⟨g, 2, none⟩ = some (.int .u32 x) := HB2.out.cell_ (i := 2) rfl
  have c3 : w2.cell? ⟨g, 3, none⟩ = some (.int .u32 y) := HB2.out.cell_ (i := 3) rfl
  have c4 : w2.cell? ⟨g, 4, none⟩ = some (.int .u32 o) := HB2.out.cell_ (i := 4) rfl
  have HAW := Lib.hid (fun (W : World) (hW : Only Nil w2 W) => awake_any W (HLW.out.only (HO2.out.trans hW)))
  cases ok
  · obtain rfl : wb = false := by rw [HWB.out]; rfl
    refine wp_region_held_drew (S := fun w' => w'.cell? ⟨g, 0, none⟩ = some (.int .i64 k) ∧ w'.cell? ⟨g, 1, none⟩ = some (.int .i64 cc) ∧ w'.cell? ⟨g, 2, none⟩ = some (.int .u32 x) ∧ w'.cell? ⟨g, 3, none⟩ = some (.int .u32 y) ∧ w'.cell? ⟨g, 4, none⟩ = some (.int .u32 o) ∧ Only Nil w2 w') (by kernel_rfl) ⟨c0, c1, c2, c3, c4, (Only.refl _ _).drew⟩ (fun hHeld => ?_)
    refine take_0 (.agg #[.int .i64 k, .int .i64 cc, .int .u32 x, .int .u32 y, .int .u32 o]) (by kernel_rfl) (by kernel_rfl) (by kernel_rfl) (fun _ _ _ h => h) (by rfl) (fun w hSw => ?_) (by assumption) ?_
    · (try dsimp only at hSw)
      go_split_ands
      go_simp
    (try simp only [Act.put, List.setIfInBounds_toArray, List.set_cons_zero, List.set_cons_succ])
    refine take_2 (.bool false) (by kernel_rfl) (by kernel_rfl) (by kernel_rfl) (fun _ _ _ h => h) (by rfl) (fun w hSw => ?_) (by assumption) ?_
    · (try dsimp only at hSw)
      go_split_ands
      go_simp
    (try simp only [Act.put, List.setIfInBounds_toArray, List.set_cons_zero, List.set_cons_succ])
    refine call_1 (by kernel_rfl) (by rfl) (fun K hK => ?_)
    go_simp
    refine (HWR.out _).mono ?_
    rintro e w3 ⟨rfl, hO⟩
    have hO3 : Only Nil w2 w3 := (Only.refl Nil w2).drew.trans hO
    refine hK.out _ _ ⟨(hO3.cell (World.block_lt_of_cell? _ _ c0) id).trans c0, (hO3.cell (World.block_lt_of_cell? _ _ c1) id).trans c1, (hO3.cell (World.block_lt_of_cell? _ _ c2) id).trans c2, (hO3.cell (World.block_lt_of_cell? _ _ c3) id).trans c3, (hO3.cell (World.block_lt_of_cell? _ _ c4) id).trans c4, hO3⟩ (fun hHeld2 => ?_)
    clear hK K hHeld hO
    (try simp only [Act.put, List.setIfInBounds_toArray, List.set_cons_zero, List.set_cons_succ])
    refine take_3 (.bool false) (by kernel_rfl) (by kernel_rfl) (by kernel_rfl) (fun _ _ _ h => h) (by rfl) (fun w hSw => ?_) (by assumption) ?_
    · (try dsimp only at hSw)
      go_split_ands
      go_simp
    (try simp only [Act.put, List.setIfInBounds_toArray, List.set_cons_zero, List.set_cons_succ])
    refine pass_4 (by kernel_rfl) (by kernel_rfl) (by kernel_rfl) (fun _ _ _ h => h) (by rfl) (by assumption) ?_
    (try simp only [Act.put, List.setIfInBounds_toArray, List.set_cons_zero, List.set_cons_succ])
    refine pass_5 (by kernel_rfl) (by kernel_rfl) (by kernel_rfl) (fun _ _ _ h => h) (by rfl) (by assumption) ?_
    (try simp only [Act.put, List.setIfInBounds_toArray, List.set_cons_zero, List.set_cons_succ])
    refine pass_6 (by kernel_rfl) (by kernel_rfl) (by kernel_rfl) (fun _ _ _ h => h) (by rfl) (by assumption) ?_
    (try simp only [Act.put, List.setIfInBounds_toArray, List.set_cons_zero, List.set_cons_succ])
    refine pass_7 (by kernel_rfl) (by kernel_rfl) (by kernel_rfl) (fun _ _ _ h => h) (by rfl) (by assumption) ?_
    (try simp only [Act.put, List.setIfInBounds_toArray, List.set_cons_zero, List.set_cons_succ])
    refine pass_8 (by kernel_rfl) (by kernel_rfl) (by kernel_rfl) (fun _ _ _ h => h) (by rfl) (by assumption) ?_
    (try simp only [Act.put, List.setIfInBounds_toArray, List.set_cons_zero, List.set_cons_succ])
    refine pass_9 (by kernel_rfl) (by kernel_rfl) (by kernel_rfl) (fun _ _ _ h => h) (by rfl) (by assumption) ?_
    (try simp only [Act.put, List.setIfInBounds_toArray, List.set_cons_zero, List.set_cons_succ])
    refine pass_10 (by kernel_rfl) (by kernel_rfl) (by kernel_rfl) (fun _ _ _ h => h) (by rfl) (by assumption) ?_
    (try simp only [Act.put, List.setIfInBounds_toArray, List.set_cons_zero, List.set_cons_succ])
    refine pass_11 (by kernel_rfl) (by kernel_rfl) (by kernel_rfl) (fun _ _ _ h => h) (by rfl) (by assumption) ?_
    (try simp only [Act.put, List.setIfInBounds_toArray, List.set_cons_zero, List.set_cons_succ])
    refine take_12 (.bool false) (by kernel_rfl) (by kernel_rfl) (by kernel_rfl) (fun _ _ _ h => h) (by rfl) (fun w hSw => ?_) (by assumption) ?_
    · (try dsimp only at hSw)
      go_split_ands
      go_simp
    (try simp only [Act.put, List.setIfInBounds_toArray, List.set_cons_zero, List.set_cons_succ])
    refine take_13 (.bool true) (by kernel_rfl) (by kernel_rfl) (by kernel_rfl) (fun _ _ _ h => h) (by rfl) (fun w hSw => ?_) (by assumption) ?_
    · (try dsimp only at hSw)
      go_split_ands
      go_simp
    (try simp only [Act.put, List.setIfInBounds_toArray, List.set_cons_zero, List.set_cons_succ])
    refine take_14 (.bool true) (by kernel_rfl) (by kernel_rfl) (by kernel_rfl) (fun _ _ _ h => h) (by rfl) (fun w hSw => ?_) (by assumption) ?_
    · (try dsimp only at hSw)
      go_split_ands
      go_simp
    (try simp only [Act.put, List.setIfInBounds_toArray, List.set_cons_zero, List.set_cons_succ])
    refine call_15 (by kernel_rfl) (by rfl) (fun K hK => ?_)
    go_simp
    refine (HAW.out _ hO3).mono ?_
    rintro e w4 ⟨rfl, hO⟩
    have hO4 : Only Nil w2 w4 := hO3.trans hO
    refine hK.out _ _ ⟨(hO4.cell (World.block_lt_of_cell? _ _ c0) id).trans c0, (hO4.cell (World.block_lt_of_cell? _ _ c1) id).trans c1, (hO4.cell (World.block_lt_of_cell? _ _ c2) id).trans c2, (hO4.cell (World.block_lt_of_cell? _ _ c3) id).trans c3, (hO4.cell (World.block_lt_of_cell? _ _ c4) id).trans c4, hO4⟩ (fun hHeld3 => ?_)
    clear hK K hHeld2 hO
    (try simp only [Act.put, List.setIfInBounds_toArray, List.set_cons_zero, List.set_cons_succ])
    refine take_16 (.bool true) (by kernel_rfl) (by kernel_rfl) (by kernel_rfl) (fun _ _ _ h => h) (by rfl) (fun w hSw => ?_) (by assumption) ?_
    · (try dsimp only at hSw)
      go_split_ands
      go_simp
    (try simp only [Act.put, List.setIfInBounds_toArray, List.set_cons_zero, List.set_cons_succ])
    refine take_17 (.bool true) (by kernel_rfl) (by kernel_rfl) (by kernel_rfl) (fun _ _ _ h => h) (by rfl) (fun w hSw => ?_) (by assumption) ?_
    · (try dsimp only at hSw)
      go_split_ands
      go_simp
    (try simp only [Act.put, List.setIfInBounds_toArray, List.set_cons_zero, List.set_cons_succ])
    refine wpAnyH_done (by kernel_rfl) ?_ _
    have HO4 := Lib.hid (HO2.out.trans hO4)
    clear hHeld3
    go_wp2
    go_ret
    exact ⟨rfl, HO4.out⟩
  · obtain rfl : (v != o) = wb := by rw [HWB.out]; simp
    refine wp_region_held_drew (S := fun w' => w'.cell? ⟨g, 0, none⟩ = some (.int .i64 k) ∧ w'.cell? ⟨g, 1, none⟩ = some (.int .i64 cc) ∧ w'.cell? ⟨g, 2, none⟩ = some (.int .u32 x) ∧ w'.cell? ⟨g, 3, none⟩ = some (.int .u32 y) ∧ w'.cell? ⟨g, 4, none⟩ = some (.int .u32 o) ∧ w'.cell? ⟨g + 1, cc, none⟩ = some (.int .u32 v) ∧ Only Nil w2 w') (by kernel_rfl) ⟨c0, c1, c2, c3, c4, hl2, (Only.refl _ _).drew⟩ (fun hHeld => ?_)
    refine take_0 (.agg #[.int .i64 k, .int .i64 cc, .int .u32 x, .int .u32 y, .int .u32 o]) (by kernel_rfl) (by kernel_rfl) (by kernel_rfl) (fun _ _ _ h => h) (by rfl) (fun w hSw => ?_) (by assumption) ?_
    · (try dsimp only at hSw)
      go_split_ands
      go_simp
    (try simp only [Act.put, List.setIfInBounds_toArray, List.set_cons_zero, List.set_cons_succ])
    refine take_2 (.bool true) (by kernel_rfl) (by kernel_rfl) (by kernel_rfl) (fun _ _ _ h => h) (by rfl) (fun w hSw => ?_) (by assumption) ?_
    · (try dsimp only at hSw)
      go_split_ands
      go_simp
    (try simp only [Act.put, List.setIfInBounds_toArray, List.set_cons_zero, List.set_cons_succ])
    refine call_1 (by kernel_rfl) (by rfl) (fun K hK => ?_)
    go_simp
    refine (HWR.out _).mono ?_
    rintro e w3 ⟨rfl, hO⟩
    have hO3 : Only Nil w2 w3 := (Only.refl Nil w2).drew.trans hO
    refine hK.out _ _ ⟨(hO3.cell (World.block_lt_of_cell? _ _ c0) id).trans c0, (hO3.cell (World.block_lt_of_cell? _ _ c1) id).trans c1, (hO3.cell (World.block_lt_of_cell? _ _ c2) id).trans c2, (hO3.cell (World.block_lt_of_cell? _ _ c3) id).trans c3, (hO3.cell (World.block_lt_of_cell? _ _ c4) id).trans c4, (hO3.cell (World.block_lt_of_cell? _ _ hl2) id).trans hl2, hO3⟩ (fun hHeld2 => ?_)
    clear hK K hHeld hO
    (try simp only [Act.put, List.setIfInBounds_toArray, List.set_cons_zero, List.set_cons_succ])
    refine take_3 (.bool true) (by kernel_rfl) (by kernel_rfl) (by kernel_rfl) (fun _ _ _ h => h) (by rfl) (fun w hSw => ?_) (by assumption) ?_
    · (try dsimp only at hSw)
      go_split_ands
      go_simp
    (try simp only [Act.put, List.setIfInBounds_toArray, List.set_cons_zero, List.set_cons_succ])
    refine take_4 (.slice (some ⟨g + 1, 0, none⟩) S S) (by kernel_rfl) (by kernel_rfl) (by kernel_rfl) (fun _ _ _ h => h) (by rfl) (fun w hSw => ?_) (by assumption) ?_
    · (try dsimp only at hSw)
      go_split_ands
      go_simp
    (try simp only [Act.put, List.setIfInBounds_toArray, List.set_cons_zero, List.set_cons_succ])
    refine take_5 (.pointer (some ⟨g, 1, none⟩)) (by kernel_rfl) (by kernel_rfl) (by kernel_rfl) (fun _ _ _ h => h) (by rfl) (fun w hSw => ?_) (by assumption) ?_
    · (try dsimp only at hSw)
      go_split_ands
      go_simp
    (try simp only [Act.put, List.setIfInBounds_toArray, List.set_cons_zero, List.set_cons_succ])
    refine take_6 (.int .i64 cc) (by kernel_rfl) (by kernel_rfl) (by kernel_rfl) (fun _ _ _ h => h) (by rfl) (fun w hSw => ?_) (by assumption) ?_
    · (try dsimp only at hSw)
      go_split_ands
      go_simp
    (try simp only [Act.put, List.setIfInBounds_toArray, List.set_cons_zero, List.set_cons_succ])
    refine take_7 (.pointer (some ⟨g + 1, cc, none⟩)) (by kernel_rfl) (by kernel_rfl) (by kernel_rfl) (fun _ _ _ h => h) (by rfl) (fun w hSw => ?_) (by assumption) ?_
    · (try dsimp only at hSw)
      go_split_ands
      go_simp
    (try simp only [Act.put, List.setIfInBounds_toArray, List.set_cons_zero, List.set_cons_succ])
    refine take_8 (.int .u32 v) (by kernel_rfl) (by kernel_rfl) (by kernel_rfl) (fun _ _ _ h => h) (by rfl) (fun w hSw => ?_) (by assumption) ?_
    · (try dsimp only at hSw)
      go_split_ands
      go_simp
    (try simp only [Act.put, List.setIfInBounds_toArray, List.set_cons_zero, List.set_cons_succ])
    refine take_9 (.pointer (some ⟨g, 4, none⟩)) (by kernel_rfl) (by kernel_rfl) (by kernel_rfl) (fun _ _ _ h => h) (by rfl) (fun w hSw => ?_) (by assumption) ?_
    · (try dsimp only at hSw)
      go_split_ands
      go_simp
    (try simp only [Act.put, List.setIfInBounds_toArray, List.set_cons_zero, List.set_cons_succ])
    refine take_10 (.int .u32 o) (by kernel_rfl) (by kernel_rfl) (by kernel_rfl) (fun _ _ _ h => h) (by rfl) (fun w hSw => ?_) (by assumption) ?_
    · (try dsimp only at hSw)
      go_split_ands
      go_simp
    (try simp only [Act.put, List.setIfInBounds_toArray, List.set_cons_zero, List.set_cons_succ])
    refine take_11 (.bool (v != o)) (by kernel_rfl) (by kernel_rfl) (by kernel_rfl) (fun _ _ _ h => h) (by rfl) (fun w hSw => ?_) (by assumption) ?_
    · (try dsimp only at hSw)
      go_split_ands
      go_simp
    (try simp only [Act.put, List.setIfInBounds_toArray, List.set_cons_zero, List.set_cons_succ])
    refine take_12 (.bool (v != o)) (by kernel_rfl) (by kernel_rfl) (by kernel_rfl) (fun _ _ _ h => h) (by rfl) (fun w hSw => ?_) (by assumption) ?_
    · (try dsimp only at hSw)
      go_split_ands
      go_simp
    (try simp only [Act.put, List.setIfInBounds_toArray, List.set_cons_zero, List.set_cons_succ])
    refine take_13 (.bool true) (by kernel_rfl) (by kernel_rfl) (by kernel_rfl) (fun _ _ _ h => h) (by rfl) (fun w hSw => ?_) (by assumption) ?_
    · (try dsimp only at hSw)
      go_split_ands
      go_simp
    (try simp only [Act.put, List.setIfInBounds_toArray, List.set_cons_zero, List.set_cons_succ])
    refine take_14 (.bool true) (by kernel_rfl) (by kernel_rfl) (by kernel_rfl) (fun _ _ _ h => h) (by rfl) (fun w hSw => ?_) (by assumption) ?_
    · (try dsimp only at hSw)
      go_split_ands
      go_simp
    (try simp only [Act.put, List.setIfInBounds_toArray, List.set_cons_zero, List.set_cons_succ])
    refine call_15 (by kernel_rfl) (by rfl) (fun K hK => ?_)
    go_simp
    refine (HAW.out _ hO3).mono ?_
    rintro e w4 ⟨rfl, hO⟩
    have hO4 : Only Nil w2 w4 := hO3.trans hO
    refine hK.out _ _ ⟨(hO4.cell (World.block_lt_of_cell? _ _ c0) id).trans c0, (hO4.cell (World.block_lt_of_cell? _ _ c1) id).trans c1, (hO4.cell (World.block_lt_of_cell? _ _ c2) id).trans c2, (hO4.cell (World.block_lt_of_cell? _ _ c3) id).trans c3, (hO4.cell (World.block_lt_of_cell? _ _ c4) id).trans c4, (hO4.cell (World.block_lt_of_cell? _ _ hl2) id).trans hl2, hO4⟩ (fun hHeld3 => ?_)
    clear hK K hHeld2 hO
    (try simp only [Act.put, List.setIfInBounds_toArray, List.set_cons_zero, List.set_cons_succ])
    refine take_16 (.bool true) (by kernel_rfl) (by kernel_rfl) (by kernel_rfl) (fun _ _ _ h => h) (by rfl) (fun w hSw => ?_) (by assumption) ?_
    · (try dsimp only at hSw)
      go_split_ands
      go_simp
    (try simp only [Act.put, List.setIfInBounds_toArray, List.set_cons_zero, List.set_cons_succ])
    refine take_17 (.bool true) (by kernel_rfl) (by kernel_rfl) (by kernel_rfl) (fun _ _ _ h => h) (by rfl) (fun w hSw => ?_) (by assumption) ?_
    · (try dsimp only at hSw)
      go_split_ands
      go_simp
    (try simp only [Act.put, List.setIfInBounds_toArray, List.set_cons_zero, List.set_cons_succ])
    refine wpAnyH_done (by kernel_rfl) ?_ _
    have HO4 := Lib.hid (HO2.out.trans hO4)
    clear hHeld3
    go_wp2
    go_ret
    exact ⟨rfl, HO4.out⟩

set_option maxHeartbeats 1000000 in
theorem walk_out (k c x y o : Int) (w : World) (hc : c < 0 ∨ 100 < c) (f : Acc.Fits ⟨k, c, x, y, o⟩) (h : Lies w) :
    Calls Tryd.prog 6 #[.agg #[.int .i64 k, .int .i64 c, .int .u32 x, .int .u32 y, .int .u32 o]] w fun e w' => e = .returned (.bool true) ∧ Only Nil w w' := by
  have hcc : c < 0 ∨ (¬ c < 0 ∧ 100 < c) := by omega
  have hmk : ∀ W, (Instr.makeSlice 35 (.int .i64 1) (.int .i64 1)).run Tryd.prog W = .ok (.slice (some ⟨W.heap.size, 0, none⟩) 1 1) (W.alloc (.cells #[Value.int .u32 0] 22)) := fun W => by
    have e := run_make_row' (P := Tryd.prog) 35 22 (.int .u32 0) 4 Tryd.underlying35 infoW rfl .i64 .i64 1 (by omega) (by omega) W
    rw [show madeCells #[Value.int .u32 0] 1 = #[Value.int .u32 0] by kernel_rfl] at e
    exact e
  have f0 : Acc.Fits ⟨k, ((0 : Nat) : Int), x, y, o⟩ := ⟨f.k0, f.k1, by simp, by simp, f.x0, f.x1, f.y0, f.y1, f.o0, f.o1⟩
  have HD : Hid (∀ (W : World) (g : Nat), Row W g 22 #[Value.int .u32 o] → Calls Tryd.prog 14 #[.slice (some ⟨g, 0, none⟩) 1 1, .agg #[.int .i64 k, .int .i64 0, .int .u32 x, .int .u32 y, .int .u32 o]] W (Did g 0 k x y o W)) :=
    Lib.hid (fun W g hr => did_any g 1 0 k x y o _ W rfl f0 hr rfl)
  have hob := ((Only.refl Nil w).alloc (.cells #[.int .i64 k, .int .i64 0, .int .u32 x, .int .u32 y, .int .u32 o] 24)).alloc (.cells #[Value.int .u32 o] 22)
  have HLW := Lib.hid h
  have HO := Lib.hid hob
  have HB := Lib.hid ((Row.new w 24 #[.int .i64 k, .int .i64 0, .int .u32 x, .int .u32 y, .int .u32 o]).alloc (.cells #[Value.int .u32 o] 22))
  have HR := Lib.hid (Row.new2 w (.cells #[.int .i64 k, .int .i64 0, .int .u32 x, .int .u32 y, .int .u32 o] 24) 22 #[Value.int .u32 o])
  clear hc f f0 h hob
  rcases hcc with h1 | ⟨h1, h2⟩
  · go_enter Tryd.func6, Tryd.ntmps6
    go_wp2_with fail
    generalize (w.alloc (.cells #[.int .i64 k, .int .i64 0, .int .u32 x, .int .u32 y, .int .u32 o] 24)).alloc (.cells #[Value.int .u32 o] 22) = w0 at *
    generalize hg : w.heap.size = g at *
    have HG := Lib.hid hg
    clear hg hmk
    refine (HD.out _ _ HR.out).mono ?_
    intro e w1 hD
    obtain ⟨k', c', x', y', o', v, cur, rfl, hr1, hv1, ho1, hwb⟩ := hD
    have HR1 := Lib.hid hr1
    have HB1 := Lib.hid (HB.out.only ho1 (by intro h; have : g = g + 1 := h; omega))
    have HO1 := Lib.hid (HO.out.step ho1 (fun i hi h => by have h' : i = g + 1 := h; have := HG.out; omega))
    have HV1 := Lib.hid hv1
    clear hr1 ho1
    have HWR := Lib.hid (fun W => writes_any k 0 x y o W)
    generalize isKind k = ok at *
    generalize writesB k x y o = wb at *
    have HWB := Lib.hid hwb
    clear hv1 hwb
    go_wp2_with fail
    have HB2 := Lib.hid (HB1.out.alloc (.cells #[.int .i64 k', .int .i64 c', .int .u32 x', .int .u32 y', .int .u32 o'] 24))
    have HR2 := Lib.hid (HR1.out.alloc (.cells #[.int .i64 k', .int .i64 c', .int .u32 x', .int .u32 y', .int .u32 o'] 24))
    have HO2 := Lib.hid (HO1.out.alloc (.cells #[.int .i64 k', .int .i64 c', .int .u32 x', .int .u32 y', .int .u32 o'] 24))
    generalize w1.alloc (.cells #[.int .i64 k', .int .i64 c', .int .u32 x', .int .u32 y', .int .u32 o'] 24) = w2 at *
    have hl2 := HR2.out.cell_ HV1.out
    have c0 : w2.cell? ⟨g, 0, none⟩ = some (.int .i64 k) := HB2.out.cell_ (i := 0) rfl
    have c1 : w2.cell? ⟨g, 1, none⟩ = some (.int .i64 0) := HB2.out.cell_ (i := 1) rfl
    have c2 : w2.cell? ⟨g, 2, none⟩ = some (.int .u32 x) := HB2.out.cell_ (i := 2) rfl
    have c3 : w2.cell? ⟨g, 3, none⟩ = some (.int .u32 y) := HB2.out.cell_ (i := 3) rfl
    have c4 : w2.cell? ⟨g, 4, none⟩ = some (.int .u32 o) := HB2.out.cell_ (i := 4) rfl
    have HAW := Lib.hid (fun (W : World) (hW : Only Nil w2 W) => awake_any W (HLW.out.only (HO2.out.trans hW)))
    cases ok
    · obtain rfl : wb = false := by rw [HWB.out]; rfl
      refine wp_region_held_drew (S := fun w' => w'.cell? ⟨g, 0, none⟩ = some (.int .i64 k) ∧ w'.cell? ⟨g, 1, none⟩ = some (.int .i64 0) ∧ w'.cell? ⟨g, 2, none⟩ = some (.int .u32 x) ∧ w'.cell? ⟨g, 3, none⟩ = some (.int .u32 y) ∧ w'.cell? ⟨g, 4, none⟩ = some (.int .u32 o) ∧ Only Nil w2 w') (by kernel_rfl) ⟨c0, c1, c2, c3, c4, (Only.refl _ _).drew⟩ (fun hHeld => ?_)
      refine take_0 (.agg #[.int .i64 k, .int .i64 0, .int .u32 x, .int .u32 y, .int .u32 o]) (by kernel_rfl) (by kernel_rfl) (by kernel_rfl) (fun _ _ _ h => h) (by rfl) (fun w hSw => ?_) (by assumption) ?_
      · (try dsimp only at hSw)
        go_split_ands
        go_simp
      (try simp only [Act.put, List.setIfInBounds_toArray, List.set_cons_zero, List.set_cons_succ])
      refine take_2 (.bool false) (by kernel_rfl) (by kernel_rfl) (by kernel_rfl) (fun _ _ _ h => h) (by rfl) (fun w hSw => ?_) (by assumption) ?_
      · (try dsimp only at hSw)
        go_split_ands
        go_simp
      (try simp only [Act.put, List.setIfInBounds_toArray, List.set_cons_zero, List.set_cons_succ])
      refine call_1 (by kernel_rfl) (by rfl) (fun K hK => ?_)
      go_simp
      refine (HWR.out _).mono ?_
      rintro e w3 ⟨rfl, hO⟩
      have hO3 : Only Nil w2 w3 := (Only.refl Nil w2).drew.trans hO
      refine hK.out _ _ ⟨(hO3.cell (World.block_lt_of_cell? _ _ c0) id).trans c0, (hO3.cell (World.block_lt_of_cell? _ _ c1) id).trans c1, (hO3.cell (World.block_lt_of_cell? _ _ c2) id).trans c2, (hO3.cell (World.block_lt_of_cell? _ _ c3) id).trans c3, (hO3.cell (World.block_lt_of_cell? _ _ c4) id).trans c4, hO3⟩ (fun hHeld2 => ?_)
      clear hK K hHeld hO
      (try simp only [Act.put, List.setIfInBounds_toArray, List.set_cons_zero, List.set_cons_succ])
      refine take_3 (.bool false) (by kernel_rfl) (by kernel_rfl) (by kernel_rfl) (fun _ _ _ h => h) (by rfl) (fun w hSw => ?_) (by assumption) ?_
      · (try dsimp only at hSw)
        go_split_ands
        go_simp
      (try simp only [Act.put, List.setIfInBounds_toArray, List.set_cons_zero, List.set_cons_succ])
      refine pass_4 (by kernel_rfl) (by kernel_rfl) (by kernel_rfl) (fun _ _ _ h => h) (by rfl) (by assumption) ?_
      (try simp only [Act.put, List.setIfInBounds_toArray, List.set_cons_zero, List.set_cons_succ])
      refine pass_5 (by kernel_rfl) (by kernel_rfl) (by kernel_rfl) (fun _ _ _ h => h) (by rfl) (by assumption) ?_
      (try simp only [Act.put, List.setIfInBounds_toArray, List.set_cons_zero, List.set_cons_succ])
      refine pass_6 (by kernel_rfl) (by kernel_rfl) (by kernel_rfl) (fun _ _ _ h => h) (by rfl) (by assumption) ?_
      (try simp only [Act.put, List.setIfInBounds_toArray, List.set_cons_zero, List.set_cons_succ])
      refine pass_7 (by kernel_rfl) (by kernel_rfl) (by kernel_rfl) (fun _ _ _ h => h) (by rfl) (by assumption) ?_
      (try simp only [Act.put, List.setIfInBounds_toArray, List.set_cons_zero, List.set_cons_succ])
      refine pass_8 (by kernel_rfl) (by kernel_rfl) (by kernel_rfl) (fun _ _ _ h => h) (by rfl) (by assumption) ?_
      (try simp only [Act.put, List.setIfInBounds_toArray, List.set_cons_zero, List.set_cons_succ])
      refine pass_9 (by kernel_rfl) (by kernel_rfl) (by kernel_rfl) (fun _ _ _ h => h) (by rfl) (by assumption) ?_
      (try simp only [Act.put, List.setIfInBounds_toArray, List.set_cons_zero, List.set_cons_succ])
      refine pass_10 (by kernel_rfl) (by kernel_rfl) (by kernel_rfl) (fun _ _ _ h => h) (by rfl) (by assumption) ?_
      (try simp only [Act.put, List.setIfInBounds_toArray, List.set_cons_zero, List.set_cons_succ])
      refine pass_11 (by kernel_rfl) (by kernel_rfl) (by kernel_rfl) (fun _ _ _ h => h) (by rfl) (by assumption) ?_
      (try simp only [Act.put, List.setIfInBounds_toArray, List.set_cons_zero, List.set_cons_succ])
      refine take_12 (.bool false) (by kernel_rfl) (by kernel_rfl) (by kernel_rfl) (fun _ _ _ h => h) (by rfl) (fun w hSw => ?_) (by assumption) ?_
      · (try dsimp only at hSw)
        go_split_ands
        go_simp
      (try simp only [Act.put, List.setIfInBounds_toArray, List.set_cons_zero, List.set_cons_succ])
      refine take_13 (.bool true) (by kernel_rfl) (by kernel_rfl) (by kernel_rfl) (fun _ _ _ h => h) (by rfl) (fun w hSw => ?_) (by assumption) ?_
      · (try dsimp only at hSw)
        go_split_ands
        go_simp
      (try simp only [Act.put, List.setIfInBounds_toArray, List.set_cons_zero, List.set_cons_succ])
      refine take_14 (.bool true) (by kernel_rfl) (by kernel_rfl) (by kernel_rfl) (fun _ _ _ h => h) (by rfl) (fun w hSw => ?_) (by assumption) ?_
      · (try dsimp only at hSw)
        go_split_ands
        go_simp
      (try simp only [Act.put, List.setIfInBounds_toArray, List.set_cons_zero, List.set_cons_succ])
      refine call_15 (by kernel_rfl) (by rfl) (fun K hK => ?_)
      go_simp
      refine (HAW.out _ hO3).mono ?_
      rintro e w4 ⟨rfl, hO⟩
      have hO4 : Only Nil w2 w4 := hO3.trans hO
      refine hK.out _ _ ⟨(hO4.cell (World.block_lt_of_cell? _ _ c0) id).trans c0, (hO4.cell (World.block_lt_of_cell? _ _ c1) id).trans c1, (hO4.cell (World.block_lt_of_cell? _ _ c2) id).trans c2, (hO4.cell (World.block_lt_of_cell? _ _ c3) id).trans c3, (hO4.cell (World.block_lt_of_cell? _ _ c4) id).trans c4, hO4⟩ (fun hHeld3 => ?_)
      clear hK K hHeld2 hO
      (try simp only [Act.put, List.setIfInBounds_toArray, List.set_cons_zero, List.set_cons_succ])
      refine take_16 (.bool true) (by kernel_rfl) (by kernel_rfl) (by kernel_rfl) (fun _ _ _ h => h) (by rfl) (fun w hSw => ?_) (by assumption) ?_
      · (try dsimp only at hSw)
        go_split_ands
        go_simp
      (try simp only [Act.put, List.setIfInBounds_toArray, List.set_cons_zero, List.set_cons_succ])
      refine take_17 (.bool true) (by kernel_rfl) (by kernel_rfl) (by kernel_rfl) (fun _ _ _ h => h) (by rfl) (fun w hSw => ?_) (by assumption) ?_
      · (try dsimp only at hSw)
        go_split_ands
        go_simp
      (try simp only [Act.put, List.setIfInBounds_toArray, List.set_cons_zero, List.set_cons_succ])
      refine wpAnyH_done (by kernel_rfl) ?_ _
      have HO4 := Lib.hid (HO2.out.trans hO4)
      clear hHeld3
      go_wp2
      go_ret
      exact ⟨rfl, HO4.out⟩
    · obtain rfl : (v != o) = wb := by rw [HWB.out]; simp
      refine wp_region_held_drew (S := fun w' => w'.cell? ⟨g, 0, none⟩ = some (.int .i64 k) ∧ w'.cell? ⟨g, 1, none⟩ = some (.int .i64 0) ∧ w'.cell? ⟨g, 2, none⟩ = some (.int .u32 x) ∧ w'.cell? ⟨g, 3, none⟩ = some (.int .u32 y) ∧ w'.cell? ⟨g, 4, none⟩ = some (.int .u32 o) ∧ w'.cell? ⟨g + 1, 0, none⟩ = some (.int .u32 v) ∧ Only Nil w2 w') (by kernel_rfl) ⟨c0, c1, c2, c3, c4, hl2, (Only.refl _ _).drew⟩ (fun hHeld => ?_)
      refine take_0 (.agg #[.int .i64 k, .int .i64 0, .int .u32 x, .int .u32 y, .int .u32 o]) (by kernel_rfl) (by kernel_rfl) (by kernel_rfl) (fun _ _ _ h => h) (by rfl) (fun w hSw => ?_) (by assumption) ?_
      · (try dsimp only at hSw)
        go_split_ands
        go_simp
      (try simp only [Act.put, List.setIfInBounds_toArray, List.set_cons_zero, List.set_cons_succ])
      refine take_2 (.bool true) (by kernel_rfl) (by kernel_rfl) (by kernel_rfl) (fun _ _ _ h => h) (by rfl) (fun w hSw => ?_) (by assumption) ?_
      · (try dsimp only at hSw)
        go_split_ands
        go_simp
      (try simp only [Act.put, List.setIfInBounds_toArray, List.set_cons_zero, List.set_cons_succ])
      refine call_1 (by kernel_rfl) (by rfl) (fun K hK => ?_)
      go_simp
      refine (HWR.out _).mono ?_
      rintro e w3 ⟨rfl, hO⟩
      have hO3 : Only Nil w2 w3 := (Only.refl Nil w2).drew.trans hO
      refine hK.out _ _ ⟨(hO3.cell (World.block_lt_of_cell? _ _ c0) id).trans c0, (hO3.cell (World.block_lt_of_cell? _ _ c1) id).trans c1, (hO3.cell (World.block_lt_of_cell? _ _ c2) id).trans c2, (hO3.cell (World.block_lt_of_cell? _ _ c3) id).trans c3, (hO3.cell (World.block_lt_of_cell? _ _ c4) id).trans c4, (hO3.cell (World.block_lt_of_cell? _ _ hl2) id).trans hl2, hO3⟩ (fun hHeld2 => ?_)
      clear hK K hHeld hO
      (try simp only [Act.put, List.setIfInBounds_toArray, List.set_cons_zero, List.set_cons_succ])
      refine take_3 (.bool true) (by kernel_rfl) (by kernel_rfl) (by kernel_rfl) (fun _ _ _ h => h) (by rfl) (fun w hSw => ?_) (by assumption) ?_
      · (try dsimp only at hSw)
        go_split_ands
        go_simp
      (try simp only [Act.put, List.setIfInBounds_toArray, List.set_cons_zero, List.set_cons_succ])
      refine take_4 (.slice (some ⟨g + 1, 0, none⟩) 1 1) (by kernel_rfl) (by kernel_rfl) (by kernel_rfl) (fun _ _ _ h => h) (by rfl) (fun w hSw => ?_) (by assumption) ?_
      · (try dsimp only at hSw)
        go_split_ands
        go_simp
      (try simp only [Act.put, List.setIfInBounds_toArray, List.set_cons_zero, List.set_cons_succ])
      refine take_5 (.pointer (some ⟨g, 1, none⟩)) (by kernel_rfl) (by kernel_rfl) (by kernel_rfl) (fun _ _ _ h => h) (by rfl) (fun w hSw => ?_) (by assumption) ?_
      · (try dsimp only at hSw)
        go_split_ands
        go_simp
      (try simp only [Act.put, List.setIfInBounds_toArray, List.set_cons_zero, List.set_cons_succ])
      refine take_6 (.int .i64 0) (by kernel_rfl) (by kernel_rfl) (by kernel_rfl) (fun _ _ _ h => h) (by rfl) (fun w hSw => ?_) (by assumption) ?_
      · (try dsimp only at hSw)
        go_split_ands
        go_simp
      (try simp only [Act.put, List.setIfInBounds_toArray, List.set_cons_zero, List.set_cons_succ])
      refine take_7 (.pointer (some ⟨g + 1, 0, none⟩)) (by kernel_rfl) (by kernel_rfl) (by kernel_rfl) (fun _ _ _ h => h) (by rfl) (fun w hSw => ?_) (by assumption) ?_
      · (try dsimp only at hSw)
        go_split_ands
        go_simp
      (try simp only [Act.put, List.setIfInBounds_toArray, List.set_cons_zero, List.set_cons_succ])
      refine take_8 (.int .u32 v) (by kernel_rfl) (by kernel_rfl) (by kernel_rfl) (fun _ _ _ h => h) (by rfl) (fun w hSw => ?_) (by assumption) ?_
      · (try dsimp only at hSw)
        go_split_ands
        go_simp
      (try simp only [Act.put, List.setIfInBounds_toArray, List.set_cons_zero, List.set_cons_succ])
      refine take_9 (.pointer (some ⟨g, 4, none⟩)) (by kernel_rfl) (by kernel_rfl) (by kernel_rfl) (fun _ _ _ h => h) (by rfl) (fun w hSw => ?_) (by assumption) ?_
      · (try dsimp only at hSw)
        go_split_ands
        go_simp
      (try simp only [Act.put, List.setIfInBounds_toArray, List.set_cons_zero, List.set_cons_succ])
      refine take_10 (.int .u32 o) (by kernel_rfl) (by kernel_rfl) (by kernel_rfl) (fun _ _ _ h => h) (by rfl) (fun w hSw => ?_) (by assumption) ?_
      · (try dsimp only at hSw)
        go_split_ands
        go_simp
      (try simp only [Act.put, List.setIfInBounds_toArray, List.set_cons_zero, List.set_cons_succ])
      refine take_11 (.bool (v != o)) (by kernel_rfl) (by kernel_rfl) (by kernel_rfl) (fun _ _ _ h => h) (by rfl) (fun w hSw => ?_) (by assumption) ?_
      · (try dsimp only at hSw)
        go_split_ands
        go_simp
      (try simp only [Act.put, List.setIfInBounds_toArray, List.set_cons_zero, List.set_cons_succ])
      refine take_12 (.bool (v != o)) (by kernel_rfl) (by kernel_rfl) (by kernel_rfl) (fun _ _ _ h => h) (by rfl) (fun w hSw => ?_) (by assumption) ?_
      · (try dsimp only at hSw)
        go_split_ands
        go_simp
      (try simp only [Act.put, List.setIfInBounds_toArray, List.set_cons_zero, List.set_cons_succ])
      refine take_13 (.bool true) (by kernel_rfl) (by kernel_rfl) (by kernel_rfl) (fun _ _ _ h => h) (by rfl) (fun w hSw => ?_) (by assumption) ?_
      · (try dsimp only at hSw)
        go_split_ands
        go_simp
      (try simp only [Act.put, List.setIfInBounds_toArray, List.set_cons_zero, List.set_cons_succ])
      refine take_14 (.bool true) (by kernel_rfl) (by kernel_rfl) (by kernel_rfl) (fun _ _ _ h => h) (by rfl) (fun w hSw => ?_) (by assumption) ?_
      · (try dsimp only at hSw)
        go_split_ands
        go_simp
      (try simp only [Act.put, List.setIfInBounds_toArray, List.set_cons_zero, List.set_cons_succ])
      refine call_15 (by kernel_rfl) (by rfl) (fun K hK => ?_)
      go_simp
      refine (HAW.out _ hO3).mono ?_
      rintro e w4 ⟨rfl, hO⟩
      have hO4 : Only Nil w2 w4 := hO3.trans hO
      refine hK.out _ _ ⟨(hO4.cell (World.block_lt_of_cell? _ _ c0) id).trans c0, (hO4.cell (World.block_lt_of_cell? _ _ c1) id).trans c1, (hO4.cell (World.block_lt_of_cell? _ _ c2) id).trans c2, (hO4.cell (World.block_lt_of_cell? _ _ c3) id).trans c3, (hO4.cell (World.block_lt_of_cell? _ _ c4) id).trans c4, (hO4.cell (World.block_lt_of_cell? _ _ hl2) id).trans hl2, hO4⟩ (fun hHeld3 => ?_)
      clear hK K hHeld2 hO
      (try simp only [Act.put, List.setIfInBounds_toArray, List.set_cons_zero, List.set_cons_succ])
      refine take_16 (.bool true) (by kernel_rfl) (by kernel_rfl) (by kernel_rfl) (fun _ _ _ h => h) (by rfl) (fun w hSw => ?_) (by assumption) ?_
      · (try dsimp only at hSw)
        go_split_ands
        go_simp
      (try simp only [Act.put, List.setIfInBounds_toArray, List.set_cons_zero, List.set_cons_succ])
      refine take_17 (.bool true) (by kernel_rfl) (by kernel_rfl) (by kernel_rfl) (fun _ _ _ h => h) (by rfl) (fun w hSw => ?_) (by assumption) ?_
      · (try dsimp only at hSw)
        go_split_ands
        go_simp
      (try simp only [Act.put, List.setIfInBounds_toArray, List.set_cons_zero, List.set_cons_succ])
      refine wpAnyH_done (by kernel_rfl) ?_ _
      have HO4 := Lib.hid (HO2.out.trans hO4)
      clear hHeld3
      go_wp2
      go_ret
      exact ⟨rfl, HO4.out⟩
  · go_enter Tryd.func6, Tryd.ntmps6
    go_wp2_with fail
    generalize (w.alloc (.cells #[.int .i64 k, .int .i64 0, .int .u32 x, .int .u32 y, .int .u32 o] 24)).alloc (.cells #[Value.int .u32 o] 22) = w0 at *
    generalize hg : w.heap.size = g at *
    have HG := Lib.hid hg
    clear hg hmk
    refine (HD.out _ _ HR.out).mono ?_
    intro e w1 hD
    obtain ⟨k', c', x', y', o', v, cur, rfl, hr1, hv1, ho1, hwb⟩ := hD
    have HR1 := Lib.hid hr1
    have HB1 := Lib.hid (HB.out.only ho1 (by intro h; have : g = g + 1 := h; omega))
    have HO1 := Lib.hid (HO.out.step ho1 (fun i hi h => by have h' : i = g + 1 := h; have := HG.out; omega))
    have HV1 := Lib.hid hv1
    clear hr1 ho1
    have HWR := Lib.hid (fun W => writes_any k 0 x y o W)
    generalize isKind k = ok at *
    generalize writesB k x y o = wb at *
    have HWB := Lib.hid hwb
    clear hv1 hwb
    go_wp2_with fail
    have HB2 := Lib.hid (HB1.out.alloc (.cells #[.int .i64 k', .int .i64 c', .int .u32 x', .int .u32 y', .int .u32 o'] 24))
    have HR2 := Lib.hid (HR1.out.alloc (.cells #[.int .i64 k', .int .i64 c', .int .u32 x', .int .u32 y', .int .u32 o'] 24))
    have HO2 := Lib.hid (HO1.out.alloc (.cells #[.int .i64 k', .int .i64 c', .int .u32 x', .int .u32 y', .int .u32 o'] 24))
    generalize w1.alloc (.cells #[.int .i64 k', .int .i64 c', .int .u32 x', .int .u32 y', .int .u32 o'] 24) = w2 at *
    have hl2 := HR2.out.cell_ HV1.out
    have c0 : w2.cell? ⟨g, 0, none⟩ = some (.int .i64 k) := HB2.out.cell_ (i := 0) rfl
    have c1 : w2.cell? ⟨g, 1, none⟩ = some (.int .i64 0) := HB2.out.cell_ (i := 1) rfl
    have c2 : w2.cell? ⟨g, 2, none⟩ = some (.int .u32 x) := HB2.out.cell_ (i := 2) rfl
    have c3 : w2.cell? ⟨g, 3, none⟩ = some (.int .u32 y) := HB2.out.cell_ (i := 3) rfl
    have c4 : w2.cell? ⟨g, 4, none⟩ = some (.int .u32 o) := HB2.out.cell_ (i := 4) rfl
    have HAW := Lib.hid (fun (W : World) (hW : Only Nil w2 W) => awake_any W (HLW.out.only (HO2.out.trans hW)))
    cases ok
    · obtain rfl : wb = false := by rw [HWB.out]; rfl
      refine wp_region_held_drew (S := fun w' => w'.cell? ⟨g, 0, none⟩ = some (.int .i64 k) ∧ w'.cell? ⟨g, 1, none⟩ = some (.int .i64 0) ∧ w'.cell? ⟨g, 2, none⟩ = some (.int .u32 x) ∧ w'.cell? ⟨g, 3, none⟩ = some (.int .u32 y) ∧ w'.cell? ⟨g, 4, none⟩ = some (.int .u32 o) ∧ Only Nil w2 w') (by kernel_rfl) ⟨c0, c1, c2, c3, c4, (Only.refl _ _).drew⟩ (fun hHeld => ?_)
      refine take_0 (.agg #[.int .i64 k, .int .i64 0, .int .u32 x, .int .u32 y, .int .u32 o]) (by kernel_rfl) (by kernel_rfl) (by kernel_rfl) (fun _ _ _ h => h) (by rfl) (fun w hSw => ?_) (by assumption) ?_
      · (try dsimp only at hSw)
        go_split_ands
        go_simp
      (try simp only [Act.put, List.setIfInBounds_toArray, List.set_cons_zero, List.set_cons_succ])
      refine take_2 (.bool false) (by kernel_rfl) (by kernel_rfl) (by kernel_rfl) (fun _ _ _ h => h) (by rfl) (fun w hSw => ?_) (by assumption) ?_
      · (try dsimp only at hSw)
        go_split_ands
        go_simp
      (try simp only [Act.put, List.setIfInBounds_toArray, List.set_cons_zero, List.set_cons_succ])
      refine call_1 (by kernel_rfl) (by rfl) (fun K hK => ?_)
      go_simp
      refine (HWR.out _).mono ?_
      rintro e w3 ⟨rfl, hO⟩
      have hO3 : Only Nil w2 w3 := (Only.refl Nil w2).drew.trans hO
      refine hK.out _ _ ⟨(hO3.cell (World.block_lt_of_cell? _ _ c0) id).trans c0, (hO3.cell (World.block_lt_of_cell? _ _ c1) id).trans c1, (hO3.cell (World.block_lt_of_cell? _ _ c2) id).trans c2, (hO3.cell (World.block_lt_of_cell? _ _ c3) id).trans c3, (hO3.cell (World.block_lt_of_cell? _ _ c4) id).trans c4, hO3⟩ (fun hHeld2 => ?_)
      clear hK K hHeld hO
      (try simp only [Act.put, List.setIfInBounds_toArray, List.set_cons_zero, List.set_cons_succ])
      refine take_3 (.bool false) (by kernel_rfl) (by kernel_rfl) (by kernel_rfl) (fun _ _ _ h => h) (by rfl) (fun w hSw => ?_) (by assumption) ?_
      · (try dsimp only at hSw)
        go_split_ands
        go_simp
      (try simp only [Act.put, List.setIfInBounds_toArray, List.set_cons_zero, List.set_cons_succ])
      refine pass_4 (by kernel_rfl) (by kernel_rfl) (by kernel_rfl) (fun _ _ _ h => h) (by rfl) (by assumption) ?_
      (try simp only [Act.put, List.setIfInBounds_toArray, List.set_cons_zero, List.set_cons_succ])
      refine pass_5 (by kernel_rfl) (by kernel_rfl) (by kernel_rfl) (fun _ _ _ h => h) (by rfl) (by assumption) ?_
      (try simp only [Act.put, List.setIfInBounds_toArray, List.set_cons_zero, List.set_cons_succ])
      refine pass_6 (by kernel_rfl) (by kernel_rfl) (by kernel_rfl) (fun _ _ _ h => h) (by rfl) (by assumption) ?_
      (try simp only [Act.put, List.setIfInBounds_toArray, List.set_cons_zero, List.set_cons_succ])
      refine pass_7 (by kernel_rfl) (by kernel_rfl) (by kernel_rfl) (fun _ _ _ h => h) (by rfl) (by assumption) ?_
      (try simp only [Act.put, List.setIfInBounds_toArray, List.set_cons_zero, List.set_cons_succ])
      refine pass_8 (by kernel_rfl) (by kernel_rfl) (by kernel_rfl) (fun _ _ _ h => h) (by rfl) (by assumption) ?_
      (try simp only [Act.put, List.setIfInBounds_toArray, List.set_cons_zero, List.set_cons_succ])
      refine pass_9 (by kernel_rfl) (by kernel_rfl) (by kernel_rfl) (fun _ _ _ h => h) (by rfl) (by assumption) ?_
      (try simp only [Act.put, List.setIfInBounds_toArray, List.set_cons_zero, List.set_cons_succ])
      refine pass_10 (by kernel_rfl) (by kernel_rfl) (by kernel_rfl) (fun _ _ _ h => h) (by rfl) (by assumption) ?_
      (try simp only [Act.put, List.setIfInBounds_toArray, List.set_cons_zero, List.set_cons_succ])
      refine pass_11 (by kernel_rfl) (by kernel_rfl) (by kernel_rfl) (fun _ _ _ h => h) (by rfl) (by assumption) ?_
      (try simp only [Act.put, List.setIfInBounds_toArray, List.set_cons_zero, List.set_cons_succ])
      refine take_12 (.bool false) (by kernel_rfl) (by kernel_rfl) (by kernel_rfl) (fun _ _ _ h => h) (by rfl) (fun w hSw => ?_) (by assumption) ?_
      · (try dsimp only at hSw)
        go_split_ands
        go_simp
      (try simp only [Act.put, List.setIfInBounds_toArray, List.set_cons_zero, List.set_cons_succ])
      refine take_13 (.bool true) (by kernel_rfl) (by kernel_rfl) (by kernel_rfl) (fun _ _ _ h => h) (by rfl) (fun w hSw => ?_) (by assumption) ?_
      · (try dsimp only at hSw)
        go_split_ands
        go_simp
      (try simp only [Act.put, List.setIfInBounds_toArray, List.set_cons_zero, List.set_cons_succ])
      refine take_14 (.bool true) (by kernel_rfl) (by kernel_rfl) (by kernel_rfl) (fun _ _ _ h => h) (by rfl) (fun w hSw => ?_) (by assumption) ?_
      · (try dsimp only at hSw)
        go_split_ands
        go_simp
      (try simp only [Act.put, List.setIfInBounds_toArray, List.set_cons_zero, List.set_cons_succ])
      refine call_15 (by kernel_rfl) (by rfl) (fun K hK => ?_)
      go_simp
      refine (HAW.out _ hO3).mono ?_
      rintro e w4 ⟨rfl, hO⟩
      have hO4 : Only Nil w2 w4 := hO3.trans hO
      refine hK.out _ _ ⟨(hO4.cell (World.block_lt_of_cell? _ _ c0) id).trans c0, (hO4.cell (World.block_lt_of_cell? _ _ c1) id).trans c1, (hO4.cell (World.block_lt_of_cell? _ _ c2) id).trans c2, (hO4.cell (World.block_lt_of_cell? _ _ c3) id).trans c3, (hO4.cell (World.block_lt_of_cell? _ _ c4) id).trans c4, hO4⟩ (fun hHeld3 => ?_)
      clear hK K hHeld2 hO
      (try simp only [Act.put, List.setIfInBounds_toArray, List.set_cons_zero, List.set_cons_succ])
      refine take_16 (.bool true) (by kernel_rfl) (by kernel_rfl) (by kernel_rfl) (fun _ _ _ h => h) (by rfl) (fun w hSw => ?_) (by assumption) ?_
      · (try dsimp only at hSw)
        go_split_ands
        go_simp
      (try simp only [Act.put, List.setIfInBounds_toArray, List.set_cons_zero, List.set_cons_succ])
      refine take_17 (.bool true) (by kernel_rfl) (by kernel_rfl) (by kernel_rfl) (fun _ _ _ h => h) (by rfl) (fun w hSw => ?_) (by assumption) ?_
      · (try dsimp only at hSw)
        go_split_ands
        go_simp
      (try simp only [Act.put, List.setIfInBounds_toArray, List.set_cons_zero, List.set_cons_succ])
      refine wpAnyH_done (by kernel_rfl) ?_ _
      have HO4 := Lib.hid (HO2.out.trans hO4)
      clear hHeld3
      go_wp2
      go_ret
      exact ⟨rfl, HO4.out⟩
    · obtain rfl : (v != o) = wb := by rw [HWB.out]; simp
      refine wp_region_held_drew (S := fun w' => w'.cell? ⟨g, 0, none⟩ = some (.int .i64 k) ∧ w'.cell? ⟨g, 1, none⟩ = some (.int .i64 0) ∧ w'.cell? ⟨g, 2, none⟩ = some (.int .u32 x) ∧ w'.cell? ⟨g, 3, none⟩ = some (.int .u32 y) ∧ w'.cell? ⟨g, 4, none⟩ = some (.int .u32 o) ∧ w'.cell? ⟨g + 1, 0, none⟩ = some (.int .u32 v) ∧ Only Nil w2 w') (by kernel_rfl) ⟨c0, c1, c2, c3, c4, hl2, (Only.refl _ _).drew⟩ (fun hHeld => ?_)
      refine take_0 (.agg #[.int .i64 k, .int .i64 0, .int .u32 x, .int .u32 y, .int .u32 o]) (by kernel_rfl) (by kernel_rfl) (by kernel_rfl) (fun _ _ _ h => h) (by rfl) (fun w hSw => ?_) (by assumption) ?_
      · (try dsimp only at hSw)
        go_split_ands
        go_simp
      (try simp only [Act.put, List.setIfInBounds_toArray, List.set_cons_zero, List.set_cons_succ])
      refine take_2 (.bool true) (by kernel_rfl) (by kernel_rfl) (by kernel_rfl) (fun _ _ _ h => h) (by rfl) (fun w hSw => ?_) (by assumption) ?_
      · (try dsimp only at hSw)
        go_split_ands
        go_simp
      (try simp only [Act.put, List.setIfInBounds_toArray, List.set_cons_zero, List.set_cons_succ])
      refine call_1 (by kernel_rfl) (by rfl) (fun K hK => ?_)
      go_simp
      refine (HWR.out _).mono ?_
      rintro e w3 ⟨rfl, hO⟩
      have hO3 : Only Nil w2 w3 := (Only.refl Nil w2).drew.trans hO
      refine hK.out _ _ ⟨(hO3.cell (World.block_lt_of_cell? _ _ c0) id).trans c0, (hO3.cell (World.block_lt_of_cell? _ _ c1) id).trans c1, (hO3.cell (World.block_lt_of_cell? _ _ c2) id).trans c2, (hO3.cell (World.block_lt_of_cell? _ _ c3) id).trans c3, (hO3.cell (World.block_lt_of_cell? _ _ c4) id).trans c4, (hO3.cell (World.block_lt_of_cell? _ _ hl2) id).trans hl2, hO3⟩ (fun hHeld2 => ?_)
      clear hK K hHeld hO
      (try simp only [Act.put, List.setIfInBounds_toArray, List.set_cons_zero, List.set_cons_succ])
      refine take_3 (.bool true) (by kernel_rfl) (by kernel_rfl) (by kernel_rfl) (fun _ _ _ h => h) (by rfl) (fun w hSw => ?_) (by assumption) ?_
      · (try dsimp only at hSw)
        go_split_ands
        go_simp
      (try simp only [Act.put, List.setIfInBounds_toArray, List.set_cons_zero, List.set_cons_succ])
      refine take_4 (.slice (some ⟨g + 1, 0, none⟩) 1 1) (by kernel_rfl) (by kernel_rfl) (by kernel_rfl) (fun _ _ _ h => h) (by rfl) (fun w hSw => ?_) (by assumption) ?_
      · (try dsimp only at hSw)
        go_split_ands
        go_simp
      (try simp only [Act.put, List.setIfInBounds_toArray, List.set_cons_zero, List.set_cons_succ])
      refine take_5 (.pointer (some ⟨g, 1, none⟩)) (by kernel_rfl) (by kernel_rfl) (by kernel_rfl) (fun _ _ _ h => h) (by rfl) (fun w hSw => ?_) (by assumption) ?_
      · (try dsimp only at hSw)
        go_split_ands
        go_simp
      (try simp only [Act.put, List.setIfInBounds_toArray, List.set_cons_zero, List.set_cons_succ])
      refine take_6 (.int .i64 0) (by kernel_rfl) (by kernel_rfl) (by kernel_rfl) (fun _ _ _ h => h) (by rfl) (fun w hSw => ?_) (by assumption) ?_
      · (try dsimp only at hSw)
        go_split_ands
        go_simp
      (try simp only [Act.put, List.setIfInBounds_toArray, List.set_cons_zero, List.set_cons_succ])
      refine take_7 (.pointer (some ⟨g + 1, 0, none⟩)) (by kernel_rfl) (by kernel_rfl) (by kernel_rfl) (fun _ _ _ h => h) (by rfl) (fun w hSw => ?_) (by assumption) ?_
      · (try dsimp only at hSw)
        go_split_ands
        go_simp
      (try simp only [Act.put, List.setIfInBounds_toArray, List.set_cons_zero, List.set_cons_succ])
      refine take_8 (.int .u32 v) (by kernel_rfl) (by kernel_rfl) (by kernel_rfl) (fun _ _ _ h => h) (by rfl) (fun w hSw => ?_) (by assumption) ?_
      · (try dsimp only at hSw)
        go_split_ands
        go_simp
      (try simp only [Act.put, List.setIfInBounds_toArray, List.set_cons_zero, List.set_cons_succ])
      refine take_9 (.pointer (some ⟨g, 4, none⟩)) (by kernel_rfl) (by kernel_rfl) (by kernel_rfl) (fun _ _ _ h => h) (by rfl) (fun w hSw => ?_) (by assumption) ?_
      · (try dsimp only at hSw)
        go_split_ands
        go_simp
      (try simp only [Act.put, List.setIfInBounds_toArray, List.set_cons_zero, List.set_cons_succ])
      refine take_10 (.int .u32 o) (by kernel_rfl) (by kernel_rfl) (by kernel_rfl) (fun _ _ _ h => h) (by rfl) (fun w hSw => ?_) (by assumption) ?_
      · (try dsimp only at hSw)
        go_split_ands
        go_simp
      (try simp only [Act.put, List.setIfInBounds_toArray, List.set_cons_zero, List.set_cons_succ])
      refine take_11 (.bool (v != o)) (by kernel_rfl) (by kernel_rfl) (by kernel_rfl) (fun _ _ _ h => h) (by rfl) (fun w hSw => ?_) (by assumption) ?_
      · (try dsimp only at hSw)
        go_split_ands
        go_simp
      (try simp only [Act.put, List.setIfInBounds_toArray, List.set_cons_zero, List.set_cons_succ])
      refine take_12 (.bool (v != o)) (by kernel_rfl) (by kernel_rfl) (by kernel_rfl) (fun _ _ _ h => h) (by rfl) (fun w hSw => ?_) (by assumption) ?_
      · (try dsimp only at hSw)
        go_split_ands
        go_simp
      (try simp only [Act.put, List.setIfInBounds_toArray, List.set_cons_zero, List.set_cons_succ])
      refine take_13 (.bool true) (by kernel_rfl) (by kernel_rfl) (by kernel_rfl) (fun _ _ _ h => h) (by rfl) (fun w hSw => ?_) (by assumption) ?_
      · (try dsimp only at hSw)
        go_split_ands
        go_simp
      (try simp only [Act.put, List.setIfInBounds_toArray, List.set_cons_zero, List.set_cons_succ])
      refine take_14 (.bool true) (by kernel_rfl) (by kernel_rfl) (by kernel_rfl) (fun _ _ _ h => h) (by rfl) (fun w hSw => ?_) (by assumption) ?_
      · (try dsimp only at hSw)
        go_split_ands
        go_simp
      (try simp only [Act.put, List.setIfInBounds_toArray, List.set_cons_zero, List.set_cons_succ])
      refine call_15 (by kernel_rfl) (by rfl) (fun K hK => ?_)
      go_simp
      refine (HAW.out _ hO3).mono ?_
      rintro e w4 ⟨rfl, hO⟩
      have hO4 : Only Nil w2 w4 := hO3.trans hO
      refine hK.out _ _ ⟨(hO4.cell (World.block_lt_of_cell? _ _ c0) id).trans c0, (hO4.cell (World.block_lt_of_cell? _ _ c1) id).trans c1, (hO4.cell (World.block_lt_of_cell? _ _ c2) id).trans c2, (hO4.cell (World.block_lt_of_cell? _ _ c3) id).trans c3, (hO4.cell (World.block_lt_of_cell? _ _ c4) id).trans c4, (hO4.cell (World.block_lt_of_cell? _ _ hl2) id).trans hl2, hO4⟩ (fun hHeld3 => ?_)
      clear hK K hHeld2 hO
      (try simp only [Act.put, List.setIfInBounds_toArray, List.set_cons_zero, List.set_cons_succ])
      refine take_16 (.bool true) (by kernel_rfl) (by kernel_rfl) (by kernel_rfl) (fun _ _ _ h => h) (by rfl) (fun w hSw => ?_) (by assumption) ?_
      · (try dsimp only at hSw)
        go_split_ands
        go_simp
      (try simp only [Act.put, List.setIfInBounds_toArray, List.set_cons_zero, List.set_cons_succ])
      refine take_17 (.bool true) (by kernel_rfl) (by kernel_rfl) (by kernel_rfl) (fun _ _ _ h => h) (by rfl) (fun w hSw => ?_) (by assumption) ?_
      · (try dsimp only at hSw)
        go_split_ands
        go_simp
      (try simp only [Act.put, List.setIfInBounds_toArray, List.set_cons_zero, List.set_cons_succ])
      refine wpAnyH_done (by kernel_rfl) ?_ _
      have HO4 := Lib.hid (HO2.out.trans hO4)
      clear hHeld3
      go_wp2
      go_ret
      exact ⟨rfl, HO4.out⟩
theorem walk_accWrites (k c x y o : Int) (w : World) (f : Acc.Fits ⟨k, c, x, y, o⟩) (h : Lies w) :
    Calls Tryd.prog 6 #[.agg #[.int .i64 k, .int .i64 c, .int .u32 x, .int .u32 y, .int .u32 o]] w fun e w' => e = .returned (.bool true) ∧ Only Nil w w' := by
  by_cases hc : c < 0 ∨ 100 < c
  · exact walk_out k c x y o w hc f h
  · obtain ⟨cc, rfl⟩ : ∃ cc : Nat, c = cc := ⟨c.toNat, by omega⟩
    exact walk_in k x y o cc w (by omega) f h
end Go.Proofs.YtnfbdhbnaednmaaDoor
