/- WaitSteps: the walk. -/
import Derived.Test.YtmhbidokpboomaaWaitTwo
import Derived.Test.YtmhbidokpboomaaWaitW
import Derived.Test.YtmhbidokpboomaaWaitAw
import Derived.Test.YtmhbidokpboomaaRStep
import Derived.Test.YtmhbidokpboomaaStuck
import Derived.Test.YtmhbidokpboomaaRStuck
import Derived.Test.YtmhbidokpboomaaAll
import Derived.Test.YtmhbidokpboomaaCopy
import Derived.Deep.Cut
set_option linter.unusedVariables false
set_option linter.unusedSimpArgs false
namespace Go.Proofs.Ytmhbidokpboomaa
open Go.RowKit

theorem steps_away (A : Option Addr) (l cap : Nat) (a1 a2 a3 s c k m x : Int) (w : World) (h : 1024 < l) :
    Calls Try.prog 3 #[.slice A l cap, .int .i64 a1, .int .i64 a2, .int .i64 a3, .agg #[.int .i64 s], .int .i64 c, .agg #[.int .i64 k, .int .u32 m, .int .u32 x]] w fun e w' => e = .returned (.bool true) ∧ Only Nil w w' := by
  have h' : (1024 : Int) < l := by omega
  have HO := Lib.hid (((Only.refl Nil w).alloc (.cells #[.int .i64 s] 24)).alloc (.cells #[.int .i64 k, .int .u32 m, .int .u32 x] 27))
  go_enter Try.func3, Try.ntmps3
  go_wp2_with fail
  refine (awake_any _).mono ?_
  rintro e w1 ⟨rfl, hO⟩
  have HO1 := Lib.hid (HO.out.trans hO)
  clear hO
  go_wp2
  go_ret
  exact ⟨rfl, HO1.out⟩

theorem neq_bool (a : Bool) (W : World) : (binOp .neq 4 (.bool a) (.bool a)).run Try.prog W = .ok (.bool false) W := by simp [go_sem]


/-- What a step tells, field by field. -/
theorem step_form (xs : List Int) (n mode i s c : Int) (q : Int → Bool) : ∃ ka ca xa ya oa : Int, (stepI xs n mode i s c q).acc = .agg #[.int .i64 ka, .int .i64 ca, .int .u32 xa, .int .u32 ya, .int .u32 oa] := by
  obtain ⟨ka, ca, xa, ya, oa, h, _⟩ := step_access xs n mode i s c q
  exact ⟨ka, ca, xa, ya, oa, h⟩

set_option maxRecDepth 100000 in
set_option maxHeartbeats 1600000 in
theorem steps_main (A : Option Addr) (l cap : Nat) (xs : List Int) (n mode i s c k m x : Int) (w : World) (hr : IsRow .u32 w A l cap xs) (hl : l ≤ 1024) :
    Calls Try.prog 3 #[.slice A l cap, .int .i64 n, .int .i64 mode, .int .i64 i, .agg #[.int .i64 s], .int .i64 c, .agg #[.int .i64 k, .int .u32 m, .int .u32 x]] w fun e w' => e = .returned (.bool true) ∧ Only Nil w w' := by
  have HR := Lib.hid hr
  have hl2 : (l : Int) ≤ 1024 := by omega
  have HO0 := Lib.hid (((Only.refl Nil w).alloc (.cells #[.int .i64 s] 24)).alloc (.cells #[.int .i64 k, .int .u32 m, .int .u32 x] 27))
  have HS0 := Lib.hid ((Row.new w 24 #[.int .i64 s]).alloc (.cells #[.int .i64 k, .int .u32 m, .int .u32 x] 27))
  have HU0 := Lib.hid (Row.new2 w (.cells #[.int .i64 s] 24) 27 #[.int .i64 k, .int .u32 m, .int .u32 x])
  clear hr
  go_enter Try.func3, Try.ntmps3
  go_wp2_with fail
  refine (from_ok A l cap xs _ hl ((isRow_held HR.out).only HO0.out (fun _ _ => id))).mono ?_
  intro e w1 hF
  obtain ⟨b, A', c', rfl, hb, hA, hM, hO⟩ := hF
  have HM0 : Hid (Memo w1 (some ⟨b, 0, none⟩) A' c' xs) := Lib.hid (Memo.of hM)
  have hlt : ∀ j, At (some (⟨b, 0, none⟩ : Addr)) j ∨ At A' j → w.heap.size + 1 + 1 ≤ j ∧ j < w1.heap.size := fun j hj => by
    refine ⟨?_, HM0.out.lt j hj⟩
    rcases hj with ⟨a, ha, rfl⟩ | hj
    · cases ha; simpa using hb
    · simpa using hA j hj
  have HLT := Lib.hid hlt
  have hbb := hlt b (.inl ⟨_, rfl, rfl⟩)
  have HBB := Lib.hid (show w.heap.size + 1 + 1 ≤ w1.heap.size by omega)
  have e1 := (Only.refl Nil w1).alloc (.cells #[.int .i64 n] 34)
  have HO1 := Lib.hid ((HO0.out.trans hO).trans e1)
  have HS1 := Lib.hid ((HS0.out.only hO id).alloc (.cells #[.int .i64 n] 34))
  have HU1 := Lib.hid ((HU0.out.only hO id).alloc (.cells #[.int .i64 n] 34))
  have HN1 := Lib.hid (Row.new w1 34 #[.int .i64 n])
  have HM1 := Lib.hid (HM0.out.keep e1)
  have HZ := Lib.hid (show (w1.alloc (.cells #[.int .i64 n] 34)).heap.size = w1.heap.size + 1 by simp)
  clear hM hO hA hb hlt HO0 HS0 HU0 e1 hbb HM0
  go_wp2_with fail
  generalize w1.alloc (.cells #[.int .i64 n] 34) = w2 at *
  generalize hgm : w1.heap.size = gm at *
  clear hgm w1
  generalize hgB : w.heap.size = B at *
  have HGB := Lib.hid hgB
  clear hgB
  refine (copy_n A l cap xs _ (by omega) ((isRow_held HR.out).only HO1.out (fun _ _ => id))).mono ?_
  intro e w3 hF
  obtain ⟨A2, cq, rfl, hOwn, hO⟩ := hF
  have HP : Hid (Pr w (B + 1 + 1) gm w2.heap.size w3.heap.size (some ⟨b, 0, none⟩) A' c' A2 cq w3 xs xs) :=
    Lib.hid ⟨HO1.out.trans hO, HM1.out.keep hO, hOwn, HLT.out, hOwn.lt, by have := HZ.out; omega, by have := HGB.out; omega, HBB.out⟩
  have HS2 := Lib.hid (HS1.out.only hO id)
  have HU2 := Lib.hid (HU1.out.only hO id)
  have HN2 := Lib.hid (HN1.out.only hO id)
  clear hO hOwn HO1 HM1 HS1 HU1 HN1
  go_wp2_with fail
  have s0 : w3.cell? ⟨B, 0, none⟩ = some (.int .i64 s) := HS2.out.cell_ (i := 0) rfl
  have n0 : w3.cell? ⟨gm, 0, none⟩ = some (.int .i64 n) := HN2.out.cell_ (i := 0) rfl
  generalize hsb : stuckB xs n mode i s = sb at *
  have HSB := Lib.hid hsb
  clear hsb
  have hneq := neq_bool sb
  refine wp_region_held_drew (S := fun w' => w'.cell? ⟨B, 0, none⟩ = some (.int .i64 s) ∧ w'.cell? ⟨gm, 0, none⟩ = some (.int .i64 n)) (by kernel_rfl) ⟨s0, n0⟩ (fun hHeld => ?_)
  have HP1 := Lib.hid (HP.out.keep (Only.refl Nil w3).drew)
  have HS3 := Lib.hid HS2.out.drew
  have HU3 := Lib.hid HU2.out.drew
  have HN3 := Lib.hid HN2.out.drew
  clear s0 n0 HP HS2 HU2 HN2
  have HZ4 := Lib.hid (show w3.heap.size ≤ w3.drew.heap.size from Nat.le_refl _)
  generalize w3.drew = w4 at *
  refine take_0 (.pointer (some ⟨b, 0, none⟩)) (by kernel_rfl) (by kernel_rfl) (by kernel_rfl) (fun _ _ _ h => h) (by rfl) (fun w hSw => ?_) (by assumption) ?_
  · (try dsimp only at hSw)
    go_split_ands
    go_simp
  (try simp only [Act.put, List.setIfInBounds_toArray, List.set_cons_zero, List.set_cons_succ])
  refine take_1 (.agg #[.int .i64 n]) (by kernel_rfl) (by kernel_rfl) (by kernel_rfl) (fun _ _ _ h => h) (by rfl) (fun w hSw => ?_) (by assumption) ?_
  · (try dsimp only at hSw)
    go_split_ands
    go_simp
  (try simp only [Act.put, List.setIfInBounds_toArray, List.set_cons_zero, List.set_cons_succ])
  refine take_2 (.int .i64 mode) (by kernel_rfl) (by kernel_rfl) (by kernel_rfl) (fun _ _ _ h => h) (by rfl) (fun w hSw => ?_) (by assumption) ?_
  · (try dsimp only at hSw)
    go_split_ands
    go_simp
  (try simp only [Act.put, List.setIfInBounds_toArray, List.set_cons_zero, List.set_cons_succ])
  refine take_3 (.int .i64 i) (by kernel_rfl) (by kernel_rfl) (by kernel_rfl) (fun _ _ _ h => h) (by rfl) (fun w hSw => ?_) (by assumption) ?_
  · (try dsimp only at hSw)
    go_split_ands
    go_simp
  (try simp only [Act.put, List.setIfInBounds_toArray, List.set_cons_zero, List.set_cons_succ])
  refine take_4 (.agg #[.int .i64 s]) (by kernel_rfl) (by kernel_rfl) (by kernel_rfl) (fun _ _ _ h => h) (by rfl) (fun w hSw => ?_) (by assumption) ?_
  · (try dsimp only at hSw)
    go_split_ands
    go_simp
  (try simp only [Act.put, List.setIfInBounds_toArray, List.set_cons_zero, List.set_cons_succ])
  refine take_6 (.slice A2 l cq) (by kernel_rfl) (by kernel_rfl) (by kernel_rfl) (fun _ _ _ h => h) (by rfl) (fun w hSw => ?_) (by assumption) ?_
  · (try dsimp only at hSw)
    go_split_ands
    go_simp
  (try simp only [Act.put, List.setIfInBounds_toArray, List.set_cons_zero, List.set_cons_succ])
  refine take_7 (.int .i64 n) (by kernel_rfl) (by kernel_rfl) (by kernel_rfl) (fun _ _ _ h => h) (by rfl) (fun w hSw => ?_) (by assumption) ?_
  · (try dsimp only at hSw)
    go_split_ands
    go_simp
  (try simp only [Act.put, List.setIfInBounds_toArray, List.set_cons_zero, List.set_cons_succ])
  refine take_8 (.int .i64 mode) (by kernel_rfl) (by kernel_rfl) (by kernel_rfl) (fun _ _ _ h => h) (by rfl) (fun w hSw => ?_) (by assumption) ?_
  · (try dsimp only at hSw)
    go_split_ands
    go_simp
  (try simp only [Act.put, List.setIfInBounds_toArray, List.set_cons_zero, List.set_cons_succ])
  refine take_9 (.int .i64 i) (by kernel_rfl) (by kernel_rfl) (by kernel_rfl) (fun _ _ _ h => h) (by rfl) (fun w hSw => ?_) (by assumption) ?_
  · (try dsimp only at hSw)
    go_split_ands
    go_simp
  (try simp only [Act.put, List.setIfInBounds_toArray, List.set_cons_zero, List.set_cons_succ])
  refine take_10 (.agg #[.int .i64 s]) (by kernel_rfl) (by kernel_rfl) (by kernel_rfl) (fun _ _ _ h => h) (by rfl) (fun w hSw => ?_) (by assumption) ?_
  · (try dsimp only at hSw)
    go_split_ands
    go_simp
  (try simp only [Act.put, List.setIfInBounds_toArray, List.set_cons_zero, List.set_cons_succ])
  refine call_5 (by kernel_rfl) (by rfl) (fun K hK => ?_)
  go_simp
  refine (stuck_any _ A' c' xs n mode i s _ HP1.out.memo).mono ?_
  rw [HSB.out]
  rintro e w5 ⟨rfl, hO, hM⟩
  have HP2 := Lib.hid (HP1.out.prog hO hM)
  have HZ5 := Lib.hid (Nat.le_trans HZ4.out hO.size)
  have HS4 := Lib.hid (HS3.out.only hO (HP1.out.far_prog (.inl (by omega))))
  have HU4 := Lib.hid (HU3.out.only hO (HP1.out.far_prog (.inl (by omega))))
  have HN4 := Lib.hid (HN3.out.only hO (HP1.out.far_prog (.inr (Nat.le_refl _))))
  refine hK.out _ _ ⟨HS4.out.cell_ (i := 0) rfl, HN4.out.cell_ (i := 0) rfl⟩ (fun hHeld2 => ?_)
  clear hK K hHeld hO hM HP1 HS3 HU3 HN3
  (try simp only [Act.put, List.setIfInBounds_toArray, List.set_cons_zero, List.set_cons_succ])
  refine call_11 (by kernel_rfl) (by rfl) (fun K hK => ?_)
  go_simp
  refine (rstuck_any A2 l cq xs n mode i s HR.out.len_ _ (HP2.out.own.held_n HR.out.len_).2.2).mono ?_
  rw [HSB.out]
  rintro e w6 ⟨rfl, hO⟩
  have HP3 := Lib.hid (HP2.out.keep hO)
  have HZ6 := Lib.hid (Nat.le_trans HZ5.out hO.size)
  have HS5 := Lib.hid (HS4.out.only hO id)
  have HU5 := Lib.hid (HU4.out.only hO id)
  have HN5 := Lib.hid (HN4.out.only hO id)
  refine hK.out _ _ ⟨HS5.out.cell_ (i := 0) rfl, HN5.out.cell_ (i := 0) rfl⟩ (fun hHeld3 => ?_)
  clear hK K hHeld2 hO HP2 HS4 HU4 HN4
  (try simp only [Act.put, List.setIfInBounds_toArray, List.set_cons_zero, List.set_cons_succ])
  refine take_12 (.bool false) (by kernel_rfl) (by kernel_rfl) (by kernel_rfl) (fun _ _ _ h => h) (by rfl) (fun w hSw => ?_) (by assumption) ?_
  · (try dsimp only at hSw)
    go_split_ands
    go_simp
  (try simp only [Act.put, List.setIfInBounds_toArray, List.set_cons_zero, List.set_cons_succ])
  refine wpAnyH_done (by kernel_rfl) ?_ _
  clear hHeld3 hneq
  have s0 : w6.cell? ⟨B, 0, none⟩ = some (.int .i64 s) := HS5.out.cell_ (i := 0) rfl
  have n0 : w6.cell? ⟨gm, 0, none⟩ = some (.int .i64 n) := HN5.out.cell_ (i := 0) rfl
  have u0 : w6.cell? ⟨B + 1, 0, none⟩ = some (.int .i64 k) := HU5.out.cell_ (i := 0) rfl
  have u1 : w6.cell? ⟨B + 1, 1, none⟩ = some (.int .u32 m) := HU5.out.cell_ (i := 1) rfl
  have u2 : w6.cell? ⟨B + 1, 2, none⟩ = some (.int .u32 x) := HU5.out.cell_ (i := 2) rfl
  go_wp2_with fail
  clear s0 n0 u0 u1 u2
  refine (step_any (some ⟨b, 0, none⟩) A' c' xs n mode i s c _ _ _ HP3.out.memo (holds_until k m x) HR.out.wf).mono ?_
  obtain ⟨ka, ca, xa, ya, oa, hacc⟩ := step_form xs n mode i s c (uIs k m x)
  have hzl := (step_len xs n mode i s c (uIs k m x)).trans HR.out.len_
  have hzw := Words.step HR.out.wf n mode i s c (uIs k m x)
  generalize hrr : stepI xs n mode i s c (uIs k m x) = r at *
  have HRR := Lib.hid hrr
  clear hrr
  obtain ⟨nx, ac, sn, dn, zs⟩ := r
  dsimp only at hacc hzl hzw
  subst hacc
  intro e w7 hF
  obtain ⟨rfl, hO, hM⟩ := hF
  dsimp only at hM ⊢
  have HZL := Lib.hid hzl
  have HZW := Lib.hid hzw
  have HP4 := Lib.hid (HP3.out.prog hO hM)
  have HZ7 := Lib.hid (Nat.le_trans HZ6.out hO.size)
  have HS6 := Lib.hid (HS5.out.only hO (HP3.out.far_prog (.inl (by omega))))
  have HU6 := Lib.hid (HU5.out.only hO (HP3.out.far_prog (.inl (by omega))))
  have HN6 := Lib.hid (HN5.out.only hO (HP3.out.far_prog (.inr (Nat.le_refl _))))
  clear hO hM HP3 HS5 HU5 HN5 hzl hzw
  have e7 := ((Only.refl Nil w7).alloc (.cells #[.int .i64 nx] 24)).alloc (.cells #[.int .i64 ka, .int .i64 ca, .int .u32 xa, .int .u32 ya, .int .u32 oa] 39)
  have HP5 := Lib.hid (HP4.out.keep e7)
  have HS7 := Lib.hid (HS6.out.only e7 id)
  have HU7 := Lib.hid (HU6.out.only e7 id)
  have HN7 := Lib.hid (HN6.out.only e7 id)
  have HR19 := Lib.hid ((Row.new w7 24 #[.int .i64 nx]).alloc (.cells #[.int .i64 ka, .int .i64 ca, .int .u32 xa, .int .u32 ya, .int .u32 oa] 39))
  have HR20 := Lib.hid (Row.new2 w7 (.cells #[.int .i64 nx] 24) 39 #[.int .i64 ka, .int .i64 ca, .int .u32 xa, .int .u32 ya, .int .u32 oa])
  have HG7 := Lib.hid (show gm < w7.heap.size from HN6.out.lt)
  clear e7 HP4 HS6 HU6 HN6
  go_upto_region 11 with (fail)
  generalize (w7.alloc (.cells #[.int .i64 nx] 24)).alloc (.cells #[.int .i64 ka, .int .i64 ca, .int .u32 xa, .int .u32 ya, .int .u32 oa] 39) = w8 at *
  generalize w7.heap.size = g7 at *
  have s0 : w8.cell? ⟨B, 0, none⟩ = some (.int .i64 s) := HS7.out.cell_ (i := 0) rfl
  have u0 : w8.cell? ⟨B + 1, 0, none⟩ = some (.int .i64 k) := HU7.out.cell_ (i := 0) rfl
  have u1 : w8.cell? ⟨B + 1, 1, none⟩ = some (.int .u32 m) := HU7.out.cell_ (i := 1) rfl
  have u2 : w8.cell? ⟨B + 1, 2, none⟩ = some (.int .u32 x) := HU7.out.cell_ (i := 2) rfl
  go_wp2_with fail
  clear s0 u0 u1 u2
  refine (rstep_any _ A2 l cq xs n mode i s c k m x _ HP5.out.own HR.out.len_ HR.out.wf).mono ?_
  rw [HRR.out]
  intro e w9 hF
  obtain ⟨rfl, hO, hM⟩ := hF
  dsimp only at hM ⊢
  have HP6 := Lib.hid (HP5.out.answ hO hM)
  have HS8 := Lib.hid (HS7.out.only hO (HP5.out.far_answ (.inl (by have := HZ.out; have := HBB.out; omega))))
  have HU8 := Lib.hid (HU7.out.only hO (HP5.out.far_answ (.inl (by have := HZ.out; have := HBB.out; omega))))
  have HN8 := Lib.hid (HN7.out.only hO (HP5.out.far_answ (.inl (by have := HZ.out; omega))))
  have HR19b := Lib.hid (HR19.out.only hO (HP5.out.far_answ (.inr HZ7.out)))
  have HR20b := Lib.hid (HR20.out.only hO (HP5.out.far_answ (.inr (Nat.le_succ_of_le HZ7.out))))
  clear hO hM HP5 HS7 HU7 HN7 HR19 HR20 HZ4 HZ5 HZ6
  have e7 := ((Only.refl Nil w9).alloc (.cells #[.int .i64 nx] 24)).alloc (.cells #[.int .i64 ka, .int .i64 ca, .int .u32 xa, .int .u32 ya, .int .u32 oa] 39)
  have HP7 := Lib.hid (HP6.out.keep e7)
  have HS9 := Lib.hid (HS8.out.only e7 id)
  have HN9 := Lib.hid (HN8.out.only e7 id)
  have HR19 := Lib.hid (HR19b.out.only e7 id)
  have HR20 := Lib.hid (HR20b.out.only e7 id)
  have HR23 := Lib.hid ((Row.new w9 24 #[.int .i64 nx]).alloc (.cells #[.int .i64 ka, .int .i64 ca, .int .u32 xa, .int .u32 ya, .int .u32 oa] 39))
  have HR24 := Lib.hid (Row.new2 w9 (.cells #[.int .i64 nx] 24) 39 #[.int .i64 ka, .int .i64 ca, .int .u32 xa, .int .u32 ya, .int .u32 oa])
  clear e7 HP6 HS8 HU8 HN8 HR19b HR20b
  go_upto_region 12 with (fail)
  generalize (w9.alloc (.cells #[.int .i64 nx] 24)).alloc (.cells #[.int .i64 ka, .int .i64 ca, .int .u32 xa, .int .u32 ya, .int .u32 oa] 39) = w10 at *
  generalize w9.heap.size = g9 at *
  have a0 : w10.cell? ⟨g7, 0, none⟩ = some (.int .i64 nx) := HR19.out.cell_ (i := 0) rfl
  have b0 : w10.cell? ⟨g9, 0, none⟩ = some (.int .i64 nx) := HR23.out.cell_ (i := 0) rfl
  have c0 : w10.cell? ⟨g7 + 1, 0, none⟩ = some (.int .i64 ka) := HR20.out.cell_ (i := 0) rfl
  have c1 : w10.cell? ⟨g7 + 1, 1, none⟩ = some (.int .i64 ca) := HR20.out.cell_ (i := 1) rfl
  have c2 : w10.cell? ⟨g7 + 1, 2, none⟩ = some (.int .u32 xa) := HR20.out.cell_ (i := 2) rfl
  have c3 : w10.cell? ⟨g7 + 1, 3, none⟩ = some (.int .u32 ya) := HR20.out.cell_ (i := 3) rfl
  have c4 : w10.cell? ⟨g7 + 1, 4, none⟩ = some (.int .u32 oa) := HR20.out.cell_ (i := 4) rfl
  have d0 : w10.cell? ⟨g9 + 1, 0, none⟩ = some (.int .i64 ka) := HR24.out.cell_ (i := 0) rfl
  have d1 : w10.cell? ⟨g9 + 1, 1, none⟩ = some (.int .i64 ca) := HR24.out.cell_ (i := 1) rfl
  have d2 : w10.cell? ⟨g9 + 1, 2, none⟩ = some (.int .u32 xa) := HR24.out.cell_ (i := 2) rfl
  have d3 : w10.cell? ⟨g9 + 1, 3, none⟩ = some (.int .u32 ya) := HR24.out.cell_ (i := 3) rfl
  have d4 : w10.cell? ⟨g9 + 1, 4, none⟩ = some (.int .u32 oa) := HR24.out.cell_ (i := 4) rfl
  have hn1 := neq_bool sn
  have hn2 := neq_bool dn
  go_wp2_with fail
  clear a0 b0 c0 c1 c2 c3 c4 d0 d1 d2 d3 d4 hn1 hn2
  refine (all_n b A' c' l zs _ HP7.out.memo.mem HZL.out).mono ?_
  intro e w11 hF
  obtain ⟨A6, c6, rfl, hOwn, hO⟩ := hF
  have HP8 := Lib.hid (HP7.out.keep hO)
  have HS10 := Lib.hid (HS9.out.only hO id)
  have HN10 := Lib.hid (HN9.out.only hO id)
  have HW6 := Lib.hid hOwn
  clear hO hOwn HP7 HS9 HN9
  go_wp2_with fail
  refine (same_n A6 A2 c6 cq l zs zs _ (HW6.out.held_n HZL.out) (HP8.out.own.held_n HZL.out) (by omega)).mono ?_
  rw [show decide (zs = zs) = true by simp]
  rintro e w12 ⟨rfl, hO⟩
  have HP9 := Lib.hid (HP8.out.keep hO)
  have HS11 := Lib.hid (HS10.out.only hO id)
  have HN11 := Lib.hid (HN10.out.only hO id)
  clear hO HP8 HS10 HN10
  have s0 : w12.cell? ⟨B, 0, none⟩ = some (.int .i64 s) := HS11.out.cell_ (i := 0) rfl
  have n0 : w12.cell? ⟨gm, 0, none⟩ = some (.int .i64 n) := HN11.out.cell_ (i := 0) rfl
  go_wp2_with fail
  clear s0 n0
  refine (step_any (some ⟨b, 0, none⟩) A' c' zs n mode i s c _ _ _ HP9.out.memo holds_nil HZW.out).mono ?_
  obtain ⟨kb, cb, xb, yb, ob, hacc⟩ := step_form zs n mode i s c (fun _ => false)
  have hsn := step_never zs n mode i s c
  generalize stepI zs n mode i s c (fun _ => false) = r at *
  obtain ⟨ny, ac, sn2, dn2, ws⟩ := r
  dsimp only at hacc hsn
  subst hacc hsn
  intro e w13 hF
  obtain ⟨rfl, hO, hM⟩ := hF
  dsimp only at hM ⊢
  have HP10 := Lib.hid (HP9.out.prog hO hM)
  clear hO hM HP9
  go_wp2_with fail
  refine (awake_any _).mono ?_
  rintro e w14 ⟨rfl, hO⟩
  have HO8 := Lib.hid (((HP10.out.only.alloc (.cells #[.int .i64 ny] 24)).alloc (.cells #[.int .i64 kb, .int .i64 cb, .int .u32 xb, .int .u32 yb, .int .u32 ob] 39)).trans hO)
  clear hO
  go_wp2
  go_ret
  exact ⟨rfl, HO8.out⟩

theorem walk_waitSteps (a0 : Option Addr) (len0 cap0 : Nat) (z0 : List Int) (a1 a2 a3 u4x0 a5 u6x0 u6x1 u6x2 : Int) (w : World) (w0 : IsRow .u32 w a0 len0 cap0 z0) (w1 : (Lit.int .i64 a1).wf = true) (w2 : (Lit.int .i64 a2).wf = true) (w3 : (Lit.int .i64 a3).wf = true) (w4 : (Lit.int .i64 u4x0).wf = true) (w5 : (Lit.int .i64 a5).wf = true) (w6 : (Lit.int .i64 u6x0).wf = true ∧ (Lit.int .u32 u6x1).wf = true ∧ (Lit.int .u32 u6x2).wf = true) :
    Calls Try.prog 3 #[.slice a0 len0 cap0, .int .i64 a1, .int .i64 a2, .int .i64 a3, .agg #[.int .i64 u4x0], .int .i64 a5, .agg #[.int .i64 u6x0, .int .u32 u6x1, .int .u32 u6x2]] w fun e w' => e = .returned (.bool true) ∧ Below w.heap.size w w' := by
  have fin : Calls Try.prog 3 #[.slice a0 len0 cap0, .int .i64 a1, .int .i64 a2, .int .i64 a3, .agg #[.int .i64 u4x0], .int .i64 a5, .agg #[.int .i64 u6x0, .int .u32 u6x1, .int .u32 u6x2]] w fun e w' => e = .returned (.bool true) ∧ Only Nil w w' := by
    by_cases h : len0 ≤ 1024
    · exact steps_main a0 len0 cap0 z0 a1 a2 a3 u4x0 a5 u6x0 u6x1 u6x2 w w0 h
    · exact steps_away a0 len0 cap0 a1 a2 a3 u4x0 a5 u6x0 u6x1 u6x2 w (by omega)
  exact fin.mono fun _ _ ⟨he, hO⟩ => ⟨he, hO.below (Nat.le_refl _) (fun _ _ h => h)⟩
end Go.Proofs.Ytmhbidokpboomaa
