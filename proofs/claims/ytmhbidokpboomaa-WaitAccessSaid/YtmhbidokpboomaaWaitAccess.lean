/- WaitAccess: the walk. -/
import Derived.Test.YtmhbidokpboomaaWaitTwo
import Derived.Test.YtmhbidokpboomaaWaitAw
import Derived.Test.YtmhbidokpboomaaRefDo
import Derived.Test.YtmhbidokpboomaaAll
import Derived.Test.YtmhbidokpboomaaCopy
set_option linter.unusedVariables false
set_option linter.unusedSimpArgs false
namespace Go.Proofs.Ytmhbidokpboomaa
open Go.RowKit

theorem access_away (A : Option Addr) (l cap : Nat) (a1 a2 a3 s c k m x : Int) (w : World) (h : 1024 < l) :
    Calls Try.prog 5 #[.slice A l cap, .int .u8 a1, .int .i64 a2, .int .i64 a3, .agg #[.int .i64 s], .int .i64 c, .agg #[.int .i64 k, .int .u32 m, .int .u32 x]] w fun e w' => e = .returned (.bool true) ∧ Only Nil w w' := by
  have h' : (1024 : Int) < l := by omega
  have HO := Lib.hid (((Only.refl Nil w).alloc (.cells #[.int .i64 s] 24)).alloc (.cells #[.int .i64 k, .int .u32 m, .int .u32 x] 27))
  go_enter Try.func5, Try.ntmps5
  go_wp2_with fail
  refine (awake_any _).mono ?_
  rintro e w1 ⟨rfl, hO⟩
  have HO1 := Lib.hid (HO.out.trans hO)
  clear hO
  go_wp2
  go_ret
  exact ⟨rfl, HO1.out⟩

set_option maxHeartbeats 1000000 in
theorem access_main (A : Option Addr) (l cap : Nat) (xs : List Int) (a1 mode i s c k m x : Int) (w : World) (hr : IsRow .u32 w A l cap xs) (hl : l ≤ 1024) (h1 : (Lit.int .u8 a1).wf = true) :
    Calls Try.prog 5 #[.slice A l cap, .int .u8 a1, .int .i64 mode, .int .i64 i, .agg #[.int .i64 s], .int .i64 c, .agg #[.int .i64 k, .int .u32 m, .int .u32 x]] w fun e w' => e = .returned (.bool true) ∧ Only Nil w w' := by
  have HR := Lib.hid hr
  have hl2 : (l : Int) ≤ 1024 := by omega
  obtain ⟨p1, p1'⟩ := wf_u8 h1
  have HO0 := Lib.hid (((Only.refl Nil w).alloc (.cells #[.int .i64 s] 24)).alloc (.cells #[.int .i64 k, .int .u32 m, .int .u32 x] 27))
  have HS0 := Lib.hid ((Row.new w 24 #[.int .i64 s]).alloc (.cells #[.int .i64 k, .int .u32 m, .int .u32 x] 27))
  have HU0 := Lib.hid (Row.new2 w (.cells #[.int .i64 s] 24) 27 #[.int .i64 k, .int .u32 m, .int .u32 x])
  clear hr h1
  go_enter Try.func5, Try.ntmps5
  go_wp2_with fail
  refine (from_ok A l cap xs _ hl ((isRow_held HR.out).only HO0.out (fun _ _ => id))).mono ?_
  intro e w1 hF
  obtain ⟨b, A', c', rfl, hb, hA, hM, hO⟩ := hF
  have HM0 : Hid (Memo w1 (some ⟨b, 0, none⟩) A' c' xs) := Lib.hid (Memo.of hM)
  have hlt : ∀ j, At (some (⟨b, 0, none⟩ : Addr)) j ∨ At A' j → w.heap.size + 1 + 1 ≤ j ∧ j < w1.heap.size := fun j hj => by
    refine ⟨?_, HM0.out.lt j hj⟩
    rcases hj with ⟨a, ha, rfl⟩ | hj
    · cases ha; simpa using hb
    · simpa using hA j hj
  have HLT := Lib.hid hlt
  have HO1 := Lib.hid (HO0.out.trans hO)
  have HS1 := Lib.hid (HS0.out.only hO id)
  have HU1 := Lib.hid (HU0.out.only hO id)
  clear hM hO hA hb hlt HO0 HS0 HU0
  have s0 : w1.cell? ⟨w.heap.size, 0, none⟩ = some (.int .i64 s) := HS1.out.cell_ (i := 0) rfl
  have u0 : w1.cell? ⟨w.heap.size + 1, 0, none⟩ = some (.int .i64 k) := HU1.out.cell_ (i := 0) rfl
  have u1 : w1.cell? ⟨w.heap.size + 1, 1, none⟩ = some (.int .u32 m) := HU1.out.cell_ (i := 1) rfl
  have u2 : w1.cell? ⟨w.heap.size + 1, 2, none⟩ = some (.int .u32 x) := HU1.out.cell_ (i := 2) rfl
  go_wp2_with fail
  generalize 1 + a1 % 64 = n at *
  clear s0 u0 u1 u2
  refine (step_any (some ⟨b, 0, none⟩) A' c' xs n mode i s c _ _ _ HM0.out (holds_until k m x) HR.out.wf).mono ?_
  obtain ⟨ka, ca, xa, ya, oa, hacc, hcase⟩ := step_access xs n mode i s c (uIs k m x)
  intro e w2 hF
  obtain ⟨rfl, hO, hM⟩ := hF
  rw [hacc]
  clear hacc
  generalize stepI xs n mode i s c (uIs k m x) = r at *
  obtain ⟨nx, ac, sn, dn, zs⟩ := r
  dsimp only at hcase hM ⊢
  have HM1 := Lib.hid hM
  have HO2 := Lib.hid (HO1.out.step hO (fun i hi h => by have := (HLT.out i (.inr h)).1; omega))
  have hz := hO.size
  have hb := (HLT.out b (.inl ⟨_, rfl, rfl⟩))
  have HC := Lib.hid hcase
  clear hM hO hcase HO1
  have HR0 := Lib.hid (Row.new2 w2 (.cells #[.int .i64 nx] 24) 39 #[.int .i64 ka, .int .i64 ca, .int .u32 xa, .int .u32 ya, .int .u32 oa])
  have e2 := ((Only.refl Nil w2).alloc (.cells #[.int .i64 nx] 24)).alloc (.cells #[.int .i64 ka, .int .i64 ca, .int .u32 xa, .int .u32 ya, .int .u32 oa] 39)
  have HO3 := Lib.hid (HO2.out.trans e2)
  have HM2 := Lib.hid (HM1.out.keep e2)
  have HZ := Lib.hid (show w1.heap.size ≤ w2.heap.size ∧ w.heap.size + 1 + 1 ≤ w1.heap.size ∧ ((w2.alloc (.cells #[.int .i64 nx] 24)).alloc (.cells #[.int .i64 ka, .int .i64 ca, .int .u32 xa, .int .u32 ya, .int .u32 oa] 39)).heap.size = w2.heap.size + 1 + 1 from ⟨hz, by omega, by simp⟩)
  clear e2 hz hb HO2 HM1 HM0
  go_wp2_with fail
  generalize (w2.alloc (.cells #[.int .i64 nx] 24)).alloc (.cells #[.int .i64 ka, .int .i64 ca, .int .u32 xa, .int .u32 ya, .int .u32 oa] 39) = w3 at *
  refine (copy_n A l cap xs _ (by omega) ((isRow_held HR.out).only HO3.out (fun _ _ => id))).mono ?_
  intro e w4 hF
  obtain ⟨A2, cq, rfl, hOwn, hO⟩ := hF
  have HP : Hid (Pr w (w.heap.size + 1 + 1) w1.heap.size w3.heap.size w4.heap.size (some ⟨b, 0, none⟩) A' c' A2 cq w4 zs xs) :=
    Lib.hid ⟨HO3.out.trans hO, HM2.out.keep hO, hOwn, HLT.out, hOwn.lt, by have := HZ.out; omega, by omega, HZ.out.2.1⟩
  have HR1 := Lib.hid (HR0.out.only hO id)
  clear hO hOwn HO3 HM2 HR0
  have HN2 := Lib.hid (HP.out.far_prog (g := w2.heap.size + 1) (.inr (by have := HZ.out; omega)))
  have HN3 := Lib.hid (HP.out.far_answ (g := w2.heap.size + 1) (.inl (by have := HZ.out; omega)))
  generalize w2.heap.size + 1 = g at *
  have c0 : w4.cell? ⟨g, 0, none⟩ = some (.int .i64 ka) := HR1.out.cell_ (i := 0) rfl
  have c1 : w4.cell? ⟨g, 1, none⟩ = some (.int .i64 ca) := HR1.out.cell_ (i := 1) rfl
  have c2 : w4.cell? ⟨g, 2, none⟩ = some (.int .u32 xa) := HR1.out.cell_ (i := 2) rfl
  have c3 : w4.cell? ⟨g, 3, none⟩ = some (.int .u32 ya) := HR1.out.cell_ (i := 3) rfl
  have c4 : w4.cell? ⟨g, 4, none⟩ = some (.int .u32 oa) := HR1.out.cell_ (i := 4) rfl
  go_wp2_with fail
  clear c0 c1 c2 c3 c4
  refine (refdo_any _ A2 l cq xs ka ca xa ya oa _ HP.out.own HR.out.len_).mono ?_
  rcases HC.out with ⟨rfl, rfl, rfl, rfl, rfl, rfl⟩ | ⟨h0, hv, hok, hnew, hcell⟩
  · rw [show doVal zs 0 0 0 0 = .agg #[.int .i64 0, .int .i64 0, .int .u32 0, .int .u32 0, .int .u32 0] by simp [doVal, doOk, isKind, accOf], show doNew zs 0 0 0 0 = zs by simp [doNew, doOk, isKind], show doOk zs 0 0 = false by simp [doOk, isKind]]
    rintro e w5 ⟨rfl, hO, hW⟩
    have HP1 := Lib.hid (HP.out.answ hO hW)
    have HR2 := Lib.hid (HR1.out.only hO HN3.out)
    have hg := HR2.out.lt
    clear hO hW HC HP HR1
    have c0 : w5.cell? ⟨g, 0, none⟩ = some (.int .i64 0) := HR2.out.cell_ (i := 0) rfl
    have c1 : w5.cell? ⟨g, 1, none⟩ = some (.int .i64 0) := HR2.out.cell_ (i := 1) rfl
    have c2 : w5.cell? ⟨g, 2, none⟩ = some (.int .u32 0) := HR2.out.cell_ (i := 2) rfl
    have c3 : w5.cell? ⟨g, 3, none⟩ = some (.int .u32 0) := HR2.out.cell_ (i := 3) rfl
    have c4 : w5.cell? ⟨g, 4, none⟩ = some (.int .u32 0) := HR2.out.cell_ (i := 4) rfl
    have HP2 := Lib.hid (HP1.out.keep ((Only.refl Nil w5).alloc (.cells #[.int .i64 0, .int .i64 0, .int .u32 0, .int .u32 0, .int .u32 0] 39)))
    go_wp2_with fail
    clear c0 c1 c2 c3 c4
    refine (all_n b A' c' l zs _ HP2.out.memo.mem HR.out.len_).mono ?_
    intro e w6 hF
    obtain ⟨A6, c6, rfl, hOwn, hO⟩ := hF
    have HP3 := Lib.hid (HP2.out.keep hO)
    have HW6 := Lib.hid hOwn
    clear hO hOwn
    go_wp2_with fail
    refine (same_n A6 A c6 cap l zs zs _ (HW6.out.held_n HR.out.len_) ((isRow_held HR.out).only HP3.out.only (fun _ _ => id)) (by omega)).mono ?_
    rw [show decide (zs = zs) = true by simp]
    rintro e w7 ⟨rfl, hO⟩
    have HO7 := Lib.hid (HP3.out.only.trans hO)
    clear hO
    go_wp2_with fail
    refine (awake_any _).mono ?_
    rintro e w8 ⟨rfl, hO⟩
    have HO8 := Lib.hid (HO7.out.trans hO)
    clear hO
    go_wp2
    go_ret
    exact ⟨rfl, HO8.out⟩
  · have HZL := Lib.hid (show zs.length = l by rw [← hnew, doNew_len]; exact HR.out.len_)
    rw [hv, hok, hnew]
    rintro e w5 ⟨rfl, hO, hW⟩
    have HP1 := Lib.hid (HP.out.answ hO hW)
    have HR2 := Lib.hid (HR1.out.only hO HN3.out)
    have hg := HR2.out.lt
    have HCELL := Lib.hid hcell
    have h0' := beq_eq_false_iff_ne.2 h0
    clear hO hW HC HP HR1 hv hok hnew hcell h0
    have c0 : w5.cell? ⟨g, 0, none⟩ = some (.int .i64 ka) := HR2.out.cell_ (i := 0) rfl
    have c1 : w5.cell? ⟨g, 1, none⟩ = some (.int .i64 ca) := HR2.out.cell_ (i := 1) rfl
    have c2 : w5.cell? ⟨g, 2, none⟩ = some (.int .u32 xa) := HR2.out.cell_ (i := 2) rfl
    have c3 : w5.cell? ⟨g, 3, none⟩ = some (.int .u32 ya) := HR2.out.cell_ (i := 3) rfl
    have c4 : w5.cell? ⟨g, 4, none⟩ = some (.int .u32 oa) := HR2.out.cell_ (i := 4) rfl
    have HP2 := Lib.hid (HP1.out.keep ((Only.refl Nil w5).alloc (.cells #[.int .i64 ka, .int .i64 ca, .int .u32 xa, .int .u32 ya, .int .u32 oa] 39)))
    go_wp2_with fail
    clear c0 c1 c2 c3 c4 h0'
    have HR3 := Lib.hid (HR2.out.alloc (.cells #[.int .i64 ka, .int .i64 ca, .int .u32 xa, .int .u32 ya, .int .u32 oa] 39))
    have HR23 := Lib.hid (Row.new w5 39 #[.int .i64 ka, .int .i64 ca, .int .u32 xa, .int .u32 ya, .int .u32 oa])
    clear HP1 HR2 hg
    generalize w5.alloc (.cells #[.int .i64 ka, .int .i64 ca, .int .u32 xa, .int .u32 ya, .int .u32 oa] 39) = w6 at *
    generalize w5.heap.size = g3 at *
    have c1 : w6.cell? ⟨g, 1, none⟩ = some (.int .i64 ca) := HR3.out.cell_ (i := 1) rfl
    by_cases e1 : ca = cellI n 2 i
    · have hd : (ca == cellI n 2 i) = true := beq_iff_eq.2 e1
      clear e1
      refine wp_region_held_drew (S := fun w' => w'.cell? ⟨g, 1, none⟩ = some (.int .i64 ca)) (by kernel_rfl) c1 (fun hHeld => ?_)
      have HP3 := Lib.hid (HP2.out.keep (Only.refl Nil w6).drew)
      have HR4 := Lib.hid HR3.out.drew
      have HR24 := Lib.hid HR23.out.drew
      clear c1 HR3 HR23 HP2
      generalize w6.drew = w7 at *
      refine take_0 (.pointer (some ⟨g, 1, none⟩)) (by kernel_rfl) (by kernel_rfl) (by kernel_rfl) (fun _ _ _ h => h) (by rfl) (fun w hSw => ?_) (by assumption) ?_
      · (try dsimp only at hSw)
        go_split_ands
        go_simp
      (try simp only [Act.put, List.setIfInBounds_toArray, List.set_cons_zero, List.set_cons_succ])
      refine take_1 (.int .i64 ca) (by kernel_rfl) (by kernel_rfl) (by kernel_rfl) (fun _ _ _ h => h) (by rfl) (fun w hSw => ?_) (by assumption) ?_
      · (try dsimp only at hSw)
        go_split_ands
        go_simp
      (try simp only [Act.put, List.setIfInBounds_toArray, List.set_cons_zero, List.set_cons_succ])
      refine take_2 (.int .i64 n) (by kernel_rfl) (by kernel_rfl) (by kernel_rfl) (fun _ _ _ h => h) (by rfl) (fun w hSw => ?_) (by assumption) ?_
      · (try dsimp only at hSw)
        go_split_ands
        go_simp
      (try simp only [Act.put, List.setIfInBounds_toArray, List.set_cons_zero, List.set_cons_succ])
      refine take_3 (.int .i64 i) (by kernel_rfl) (by kernel_rfl) (by kernel_rfl) (fun _ _ _ h => h) (by rfl) (fun w hSw => ?_) (by assumption) ?_
      · (try dsimp only at hSw)
        go_split_ands
        go_simp
      (try simp only [Act.put, List.setIfInBounds_toArray, List.set_cons_zero, List.set_cons_succ])
      refine call_4 (by kernel_rfl) (by rfl) (fun K hK => ?_)
      go_simp
      refine (refCell_any n 2 i _ (by omega)).mono ?_
      rintro e w9 ⟨rfl, rfl⟩
      refine hK.out _ _ hHeld (fun hHeld2 => ?_)
      clear hK K hHeld2
      (try simp only [Act.put, List.setIfInBounds_toArray, List.set_cons_zero, List.set_cons_succ])
      refine take_5 (.bool true) (by kernel_rfl) (by kernel_rfl) (by kernel_rfl) (fun _ _ _ h => h) (by rfl) (fun w hSw => ?_) (by assumption) ?_
      · (try dsimp only at hSw)
        go_split_ands
        go_simp
      (try simp only [Act.put, List.setIfInBounds_toArray, List.set_cons_zero, List.set_cons_succ])
      refine take_6 (.bool true) (by kernel_rfl) (by kernel_rfl) (by kernel_rfl) (fun _ _ _ h => h) (by rfl) (fun w hSw => ?_) (by assumption) ?_
      · (try dsimp only at hSw)
        go_split_ands
        go_simp
      (try simp only [Act.put, List.setIfInBounds_toArray, List.set_cons_zero, List.set_cons_succ])
      refine pass_7 (by kernel_rfl) (by kernel_rfl) (by kernel_rfl) (fun _ _ _ h => h) (by rfl) (by assumption) ?_
      (try simp only [Act.put, List.setIfInBounds_toArray, List.set_cons_zero, List.set_cons_succ])
      refine pass_8 (by kernel_rfl) (by kernel_rfl) (by kernel_rfl) (fun _ _ _ h => h) (by rfl) (by assumption) ?_
      (try simp only [Act.put, List.setIfInBounds_toArray, List.set_cons_zero, List.set_cons_succ])
      refine pass_9 (by kernel_rfl) (by kernel_rfl) (by kernel_rfl) (fun _ _ _ h => h) (by rfl) (by assumption) ?_
      (try simp only [Act.put, List.setIfInBounds_toArray, List.set_cons_zero, List.set_cons_succ])
      refine pass_10 (by kernel_rfl) (by kernel_rfl) (by kernel_rfl) (fun _ _ _ h => h) (by rfl) (by assumption) ?_
      (try simp only [Act.put, List.setIfInBounds_toArray, List.set_cons_zero, List.set_cons_succ])
      refine pass_11 (by kernel_rfl) (by kernel_rfl) (by kernel_rfl) (fun _ _ _ h => h) (by rfl) (by assumption) ?_
      (try simp only [Act.put, List.setIfInBounds_toArray, List.set_cons_zero, List.set_cons_succ])
      refine pass_12 (by kernel_rfl) (by kernel_rfl) (by kernel_rfl) (fun _ _ _ h => h) (by rfl) (by assumption) ?_
      (try simp only [Act.put, List.setIfInBounds_toArray, List.set_cons_zero, List.set_cons_succ])
      refine take_13 (.bool true) (by kernel_rfl) (by kernel_rfl) (by kernel_rfl) (fun _ _ _ h => h) (by rfl) (fun w hSw => ?_) (by assumption) ?_
      · (try dsimp only at hSw)
        go_split_ands
        go_simp
      (try simp only [Act.put, List.setIfInBounds_toArray, List.set_cons_zero, List.set_cons_succ])
      refine take_14 (.bool true) (by kernel_rfl) (by kernel_rfl) (by kernel_rfl) (fun _ _ _ h => h) (by rfl) (fun w hSw => ?_) (by assumption) ?_
      · (try dsimp only at hSw)
        go_split_ands
        go_simp
      (try simp only [Act.put, List.setIfInBounds_toArray, List.set_cons_zero, List.set_cons_succ])
      clear hd
      refine wpAnyH_done (by kernel_rfl) ?_ _
      clear hHeld
      have d0 : w7.cell? ⟨g, 0, none⟩ = some (.int .i64 ka) := HR4.out.cell_ (i := 0) rfl
      have d1 : w7.cell? ⟨g, 1, none⟩ = some (.int .i64 ca) := HR4.out.cell_ (i := 1) rfl
      have d2 : w7.cell? ⟨g, 2, none⟩ = some (.int .u32 xa) := HR4.out.cell_ (i := 2) rfl
      have d3 : w7.cell? ⟨g, 3, none⟩ = some (.int .u32 ya) := HR4.out.cell_ (i := 3) rfl
      have d4 : w7.cell? ⟨g, 4, none⟩ = some (.int .u32 oa) := HR4.out.cell_ (i := 4) rfl
      have f0 : w7.cell? ⟨g3, 0, none⟩ = some (.int .i64 ka) := HR24.out.cell_ (i := 0) rfl
      have f1 : w7.cell? ⟨g3, 1, none⟩ = some (.int .i64 ca) := HR24.out.cell_ (i := 1) rfl
      have f2 : w7.cell? ⟨g3, 2, none⟩ = some (.int .u32 xa) := HR24.out.cell_ (i := 2) rfl
      have f3 : w7.cell? ⟨g3, 3, none⟩ = some (.int .u32 ya) := HR24.out.cell_ (i := 3) rfl
      have f4 : w7.cell? ⟨g3, 4, none⟩ = some (.int .u32 oa) := HR24.out.cell_ (i := 4) rfl
      go_wp2_with fail
      clear d0 d1 d2 d3 d4 f0 f1 f2 f3 f4
      refine (all_n b A' c' l zs _ HP3.out.memo.mem HZL.out).mono ?_
      intro e w10 hF
      obtain ⟨A6, c6, rfl, hOwn, hO⟩ := hF
      have HP4 := Lib.hid (HP3.out.keep hO)
      have HR5 := Lib.hid (HR4.out.only hO id)
      have HW6 := Lib.hid hOwn
      clear hO hOwn
      go_wp2_with fail
      refine (same_n A6 A2 c6 cq l zs zs _ (HW6.out.held_n HZL.out) (HP4.out.own.held_n HZL.out) (by omega)).mono ?_
      rw [show decide (zs = zs) = true by simp]
      rintro e w11 ⟨rfl, hO⟩
      have HO7 := Lib.hid (HP4.out.only.trans hO)
      have HR6 := Lib.hid (HR5.out.only hO id)
      clear hO
      have i0 : w11.cell? ⟨g, 0, none⟩ = some (.int .i64 ka) := HR6.out.cell_ (i := 0) rfl
      have i1 : w11.cell? ⟨g, 1, none⟩ = some (.int .i64 ca) := HR6.out.cell_ (i := 1) rfl
      go_wp2_with fail
      refine (awake_any _).mono ?_
      rintro e w12 ⟨rfl, hO⟩
      have HO8 := Lib.hid (HO7.out.trans hO)
      clear hO
      go_wp2
      go_ret
      exact ⟨rfl, HO8.out⟩
    · have hd : (ca == cellI n 2 i) = false := beq_eq_false_iff_ne.2 e1
      by_cases e2 : ca = cellI n 3 i
      · have hd2 : (ca == cellI n 3 i) = true := beq_iff_eq.2 e2
        clear e1 e2
        refine wp_region_held_drew (S := fun w' => w'.cell? ⟨g, 1, none⟩ = some (.int .i64 ca)) (by kernel_rfl) c1 (fun hHeld => ?_)
        have HP3 := Lib.hid (HP2.out.keep (Only.refl Nil w6).drew)
        have HR4 := Lib.hid HR3.out.drew
        have HR24 := Lib.hid HR23.out.drew
        clear c1 HR3 HR23 HP2
        generalize w6.drew = w7 at *
        refine take_0 (.pointer (some ⟨g, 1, none⟩)) (by kernel_rfl) (by kernel_rfl) (by kernel_rfl) (fun _ _ _ h => h) (by rfl) (fun w hSw => ?_) (by assumption) ?_
        · (try dsimp only at hSw)
          go_split_ands
          go_simp
        (try simp only [Act.put, List.setIfInBounds_toArray, List.set_cons_zero, List.set_cons_succ])
        refine take_1 (.int .i64 ca) (by kernel_rfl) (by kernel_rfl) (by kernel_rfl) (fun _ _ _ h => h) (by rfl) (fun w hSw => ?_) (by assumption) ?_
        · (try dsimp only at hSw)
          go_split_ands
          go_simp
        (try simp only [Act.put, List.setIfInBounds_toArray, List.set_cons_zero, List.set_cons_succ])
        refine take_2 (.int .i64 n) (by kernel_rfl) (by kernel_rfl) (by kernel_rfl) (fun _ _ _ h => h) (by rfl) (fun w hSw => ?_) (by assumption) ?_
        · (try dsimp only at hSw)
          go_split_ands
          go_simp
        (try simp only [Act.put, List.setIfInBounds_toArray, List.set_cons_zero, List.set_cons_succ])
        refine take_3 (.int .i64 i) (by kernel_rfl) (by kernel_rfl) (by kernel_rfl) (fun _ _ _ h => h) (by rfl) (fun w hSw => ?_) (by assumption) ?_
        · (try dsimp only at hSw)
          go_split_ands
          go_simp
        (try simp only [Act.put, List.setIfInBounds_toArray, List.set_cons_zero, List.set_cons_succ])
        refine call_4 (by kernel_rfl) (by rfl) (fun K hK => ?_)
        go_simp
        refine (refCell_any n 2 i _ (by omega)).mono ?_
        rintro e w9 ⟨rfl, rfl⟩
        refine hK.out _ _ hHeld (fun hHeld2 => ?_)
        clear hK K hHeld2
        (try simp only [Act.put, List.setIfInBounds_toArray, List.set_cons_zero, List.set_cons_succ])
        refine take_5 (.bool false) (by kernel_rfl) (by kernel_rfl) (by kernel_rfl) (fun _ _ _ h => h) (by rfl) (fun w hSw => ?_) (by assumption) ?_
        · (try dsimp only at hSw)
          go_split_ands
          go_simp
        (try simp only [Act.put, List.setIfInBounds_toArray, List.set_cons_zero, List.set_cons_succ])
        refine take_6 (.bool false) (by kernel_rfl) (by kernel_rfl) (by kernel_rfl) (fun _ _ _ h => h) (by rfl) (fun w hSw => ?_) (by assumption) ?_
        · (try dsimp only at hSw)
          go_split_ands
          go_simp
        (try simp only [Act.put, List.setIfInBounds_toArray, List.set_cons_zero, List.set_cons_succ])
        refine take_7 (.pointer (some ⟨g, 1, none⟩)) (by kernel_rfl) (by kernel_rfl) (by kernel_rfl) (fun _ _ _ h => h) (by rfl) (fun w hSw => ?_) (by assumption) ?_
        · (try dsimp only at hSw)
          go_split_ands
          go_simp
        (try simp only [Act.put, List.setIfInBounds_toArray, List.set_cons_zero, List.set_cons_succ])
        refine take_8 (.int .i64 ca) (by kernel_rfl) (by kernel_rfl) (by kernel_rfl) (fun _ _ _ h => h) (by rfl) (fun w hSw => ?_) (by assumption) ?_
        · (try dsimp only at hSw)
          go_split_ands
          go_simp
        (try simp only [Act.put, List.setIfInBounds_toArray, List.set_cons_zero, List.set_cons_succ])
        refine take_9 (.int .i64 n) (by kernel_rfl) (by kernel_rfl) (by kernel_rfl) (fun _ _ _ h => h) (by rfl) (fun w hSw => ?_) (by assumption) ?_
        · (try dsimp only at hSw)
          go_split_ands
          go_simp
        (try simp only [Act.put, List.setIfInBounds_toArray, List.set_cons_zero, List.set_cons_succ])
        refine take_10 (.int .i64 i) (by kernel_rfl) (by kernel_rfl) (by kernel_rfl) (fun _ _ _ h => h) (by rfl) (fun w hSw => ?_) (by assumption) ?_
        · (try dsimp only at hSw)
          go_split_ands
          go_simp
        (try simp only [Act.put, List.setIfInBounds_toArray, List.set_cons_zero, List.set_cons_succ])
        refine call_11 (by kernel_rfl) (by rfl) (fun K hK => ?_)
        go_simp
        refine (refCell_any n 3 i _ (by omega)).mono ?_
        rintro e w9 ⟨rfl, rfl⟩
        refine hK.out _ _ hHeld (fun hHeld2 => ?_)
        clear hK K hHeld2
        (try simp only [Act.put, List.setIfInBounds_toArray, List.set_cons_zero, List.set_cons_succ])
        refine take_12 (.bool true) (by kernel_rfl) (by kernel_rfl) (by kernel_rfl) (fun _ _ _ h => h) (by rfl) (fun w hSw => ?_) (by assumption) ?_
        · (try dsimp only at hSw)
          go_split_ands
          go_simp
        (try simp only [Act.put, List.setIfInBounds_toArray, List.set_cons_zero, List.set_cons_succ])
        refine take_13 (.bool true) (by kernel_rfl) (by kernel_rfl) (by kernel_rfl) (fun _ _ _ h => h) (by rfl) (fun w hSw => ?_) (by assumption) ?_
        · (try dsimp only at hSw)
          go_split_ands
          go_simp
        (try simp only [Act.put, List.setIfInBounds_toArray, List.set_cons_zero, List.set_cons_succ])
        refine take_14 (.bool true) (by kernel_rfl) (by kernel_rfl) (by kernel_rfl) (fun _ _ _ h => h) (by rfl) (fun w hSw => ?_) (by assumption) ?_
        · (try dsimp only at hSw)
          go_split_ands
          go_simp
        (try simp only [Act.put, List.setIfInBounds_toArray, List.set_cons_zero, List.set_cons_succ])
        clear hd hd2
        refine wpAnyH_done (by kernel_rfl) ?_ _
        clear hHeld
        have d0 : w7.cell? ⟨g, 0, none⟩ = some (.int .i64 ka) := HR4.out.cell_ (i := 0) rfl
        have d1 : w7.cell? ⟨g, 1, none⟩ = some (.int .i64 ca) := HR4.out.cell_ (i := 1) rfl
        have d2 : w7.cell? ⟨g, 2, none⟩ = some (.int .u32 xa) := HR4.out.cell_ (i := 2) rfl
        have d3 : w7.cell? ⟨g, 3, none⟩ = some (.int .u32 ya) := HR4.out.cell_ (i := 3) rfl
        have d4 : w7.cell? ⟨g, 4, none⟩ = some (.int .u32 oa) := HR4.out.cell_ (i := 4) rfl
        have f0 : w7.cell? ⟨g3, 0, none⟩ = some (.int .i64 ka) := HR24.out.cell_ (i := 0) rfl
        have f1 : w7.cell? ⟨g3, 1, none⟩ = some (.int .i64 ca) := HR24.out.cell_ (i := 1) rfl
        have f2 : w7.cell? ⟨g3, 2, none⟩ = some (.int .u32 xa) := HR24.out.cell_ (i := 2) rfl
        have f3 : w7.cell? ⟨g3, 3, none⟩ = some (.int .u32 ya) := HR24.out.cell_ (i := 3) rfl
        have f4 : w7.cell? ⟨g3, 4, none⟩ = some (.int .u32 oa) := HR24.out.cell_ (i := 4) rfl
        go_wp2_with fail
        clear d0 d1 d2 d3 d4 f0 f1 f2 f3 f4
        refine (all_n b A' c' l zs _ HP3.out.memo.mem HZL.out).mono ?_
        intro e w10 hF
        obtain ⟨A6, c6, rfl, hOwn, hO⟩ := hF
        have HP4 := Lib.hid (HP3.out.keep hO)
        have HR5 := Lib.hid (HR4.out.only hO id)
        have HW6 := Lib.hid hOwn
        clear hO hOwn
        go_wp2_with fail
        refine (same_n A6 A2 c6 cq l zs zs _ (HW6.out.held_n HZL.out) (HP4.out.own.held_n HZL.out) (by omega)).mono ?_
        rw [show decide (zs = zs) = true by simp]
        rintro e w11 ⟨rfl, hO⟩
        have HO7 := Lib.hid (HP4.out.only.trans hO)
        have HR6 := Lib.hid (HR5.out.only hO id)
        clear hO
        have i0 : w11.cell? ⟨g, 0, none⟩ = some (.int .i64 ka) := HR6.out.cell_ (i := 0) rfl
        have i1 : w11.cell? ⟨g, 1, none⟩ = some (.int .i64 ca) := HR6.out.cell_ (i := 1) rfl
        go_wp2_with fail
        refine (awake_any _).mono ?_
        rintro e w12 ⟨rfl, hO⟩
        have HO8 := Lib.hid (HO7.out.trans hO)
        clear hO
        go_wp2
        go_ret
        exact ⟨rfl, HO8.out⟩
      · have hd2 : (ca == cellI n 3 i) = false := beq_eq_false_iff_ne.2 e2
        have e3 : ka = 1 ∧ ca = c := by
          rcases HCELL.out with h | h | h
          · exact absurd h e1
          · exact absurd h e2
          · exact h
        have hk1 : (ka == 1) = true := beq_iff_eq.2 e3.1
        have hcc : (ca == c) = true := beq_iff_eq.2 e3.2
        clear e1 e2 e3
        refine wp_region_held_drew (S := fun w' => w'.cell? ⟨g, 1, none⟩ = some (.int .i64 ca)) (by kernel_rfl) c1 (fun hHeld => ?_)
        have HP3 := Lib.hid (HP2.out.keep (Only.refl Nil w6).drew)
        have HR4 := Lib.hid HR3.out.drew
        have HR24 := Lib.hid HR23.out.drew
        clear c1 HR3 HR23 HP2
        generalize w6.drew = w7 at *
        refine take_0 (.pointer (some ⟨g, 1, none⟩)) (by kernel_rfl) (by kernel_rfl) (by kernel_rfl) (fun _ _ _ h => h) (by rfl) (fun w hSw => ?_) (by assumption) ?_
        · (try dsimp only at hSw)
          go_split_ands
          go_simp
        (try simp only [Act.put, List.setIfInBounds_toArray, List.set_cons_zero, List.set_cons_succ])
        refine take_1 (.int .i64 ca) (by kernel_rfl) (by kernel_rfl) (by kernel_rfl) (fun _ _ _ h => h) (by rfl) (fun w hSw => ?_) (by assumption) ?_
        · (try dsimp only at hSw)
          go_split_ands
          go_simp
        (try simp only [Act.put, List.setIfInBounds_toArray, List.set_cons_zero, List.set_cons_succ])
        refine take_2 (.int .i64 n) (by kernel_rfl) (by kernel_rfl) (by kernel_rfl) (fun _ _ _ h => h) (by rfl) (fun w hSw => ?_) (by assumption) ?_
        · (try dsimp only at hSw)
          go_split_ands
          go_simp
        (try simp only [Act.put, List.setIfInBounds_toArray, List.set_cons_zero, List.set_cons_succ])
        refine take_3 (.int .i64 i) (by kernel_rfl) (by kernel_rfl) (by kernel_rfl) (fun _ _ _ h => h) (by rfl) (fun w hSw => ?_) (by assumption) ?_
        · (try dsimp only at hSw)
          go_split_ands
          go_simp
        (try simp only [Act.put, List.setIfInBounds_toArray, List.set_cons_zero, List.set_cons_succ])
        refine call_4 (by kernel_rfl) (by rfl) (fun K hK => ?_)
        go_simp
        refine (refCell_any n 2 i _ (by omega)).mono ?_
        rintro e w9 ⟨rfl, rfl⟩
        refine hK.out _ _ hHeld (fun hHeld2 => ?_)
        clear hK K hHeld2
        (try simp only [Act.put, List.setIfInBounds_toArray, List.set_cons_zero, List.set_cons_succ])
        refine take_5 (.bool false) (by kernel_rfl) (by kernel_rfl) (by kernel_rfl) (fun _ _ _ h => h) (by rfl) (fun w hSw => ?_) (by assumption) ?_
        · (try dsimp only at hSw)
          go_split_ands
          go_simp
        (try simp only [Act.put, List.setIfInBounds_toArray, List.set_cons_zero, List.set_cons_succ])
        refine take_6 (.bool false) (by kernel_rfl) (by kernel_rfl) (by kernel_rfl) (fun _ _ _ h => h) (by rfl) (fun w hSw => ?_) (by assumption) ?_
        · (try dsimp only at hSw)
          go_split_ands
          go_simp
        (try simp only [Act.put, List.setIfInBounds_toArray, List.set_cons_zero, List.set_cons_succ])
        refine take_7 (.pointer (some ⟨g, 1, none⟩)) (by kernel_rfl) (by kernel_rfl) (by kernel_rfl) (fun _ _ _ h => h) (by rfl) (fun w hSw => ?_) (by assumption) ?_
        · (try dsimp only at hSw)
          go_split_ands
          go_simp
        (try simp only [Act.put, List.setIfInBounds_toArray, List.set_cons_zero, List.set_cons_succ])
        refine take_8 (.int .i64 ca) (by kernel_rfl) (by kernel_rfl) (by kernel_rfl) (fun _ _ _ h => h) (by rfl) (fun w hSw => ?_) (by assumption) ?_
        · (try dsimp only at hSw)
          go_split_ands
          go_simp
        (try simp only [Act.put, List.setIfInBounds_toArray, List.set_cons_zero, List.set_cons_succ])
        refine take_9 (.int .i64 n) (by kernel_rfl) (by kernel_rfl) (by kernel_rfl) (fun _ _ _ h => h) (by rfl) (fun w hSw => ?_) (by assumption) ?_
        · (try dsimp only at hSw)
          go_split_ands
          go_simp
        (try simp only [Act.put, List.setIfInBounds_toArray, List.set_cons_zero, List.set_cons_succ])
        refine take_10 (.int .i64 i) (by kernel_rfl) (by kernel_rfl) (by kernel_rfl) (fun _ _ _ h => h) (by rfl) (fun w hSw => ?_) (by assumption) ?_
        · (try dsimp only at hSw)
          go_split_ands
          go_simp
        (try simp only [Act.put, List.setIfInBounds_toArray, List.set_cons_zero, List.set_cons_succ])
        refine call_11 (by kernel_rfl) (by rfl) (fun K hK => ?_)
        go_simp
        refine (refCell_any n 3 i _ (by omega)).mono ?_
        rintro e w9 ⟨rfl, rfl⟩
        refine hK.out _ _ hHeld (fun hHeld2 => ?_)
        clear hK K hHeld2
        (try simp only [Act.put, List.setIfInBounds_toArray, List.set_cons_zero, List.set_cons_succ])
        refine take_12 (.bool false) (by kernel_rfl) (by kernel_rfl) (by kernel_rfl) (fun _ _ _ h => h) (by rfl) (fun w hSw => ?_) (by assumption) ?_
        · (try dsimp only at hSw)
          go_split_ands
          go_simp
        (try simp only [Act.put, List.setIfInBounds_toArray, List.set_cons_zero, List.set_cons_succ])
        refine take_13 (.bool false) (by kernel_rfl) (by kernel_rfl) (by kernel_rfl) (fun _ _ _ h => h) (by rfl) (fun w hSw => ?_) (by assumption) ?_
        · (try dsimp only at hSw)
          go_split_ands
          go_simp
        (try simp only [Act.put, List.setIfInBounds_toArray, List.set_cons_zero, List.set_cons_succ])
        refine take_14 (.bool false) (by kernel_rfl) (by kernel_rfl) (by kernel_rfl) (fun _ _ _ h => h) (by rfl) (fun w hSw => ?_) (by assumption) ?_
        · (try dsimp only at hSw)
          go_split_ands
          go_simp
        (try simp only [Act.put, List.setIfInBounds_toArray, List.set_cons_zero, List.set_cons_succ])
        clear hd hd2
        refine wpAnyH_done (by kernel_rfl) ?_ _
        clear hHeld
        have d0 : w7.cell? ⟨g, 0, none⟩ = some (.int .i64 ka) := HR4.out.cell_ (i := 0) rfl
        have d1 : w7.cell? ⟨g, 1, none⟩ = some (.int .i64 ca) := HR4.out.cell_ (i := 1) rfl
        have d2 : w7.cell? ⟨g, 2, none⟩ = some (.int .u32 xa) := HR4.out.cell_ (i := 2) rfl
        have d3 : w7.cell? ⟨g, 3, none⟩ = some (.int .u32 ya) := HR4.out.cell_ (i := 3) rfl
        have d4 : w7.cell? ⟨g, 4, none⟩ = some (.int .u32 oa) := HR4.out.cell_ (i := 4) rfl
        have f0 : w7.cell? ⟨g3, 0, none⟩ = some (.int .i64 ka) := HR24.out.cell_ (i := 0) rfl
        have f1 : w7.cell? ⟨g3, 1, none⟩ = some (.int .i64 ca) := HR24.out.cell_ (i := 1) rfl
        have f2 : w7.cell? ⟨g3, 2, none⟩ = some (.int .u32 xa) := HR24.out.cell_ (i := 2) rfl
        have f3 : w7.cell? ⟨g3, 3, none⟩ = some (.int .u32 ya) := HR24.out.cell_ (i := 3) rfl
        have f4 : w7.cell? ⟨g3, 4, none⟩ = some (.int .u32 oa) := HR24.out.cell_ (i := 4) rfl
        go_wp2_with fail
        clear d0 d1 d2 d3 d4 f0 f1 f2 f3 f4
        refine (all_n b A' c' l zs _ HP3.out.memo.mem HZL.out).mono ?_
        intro e w10 hF
        obtain ⟨A6, c6, rfl, hOwn, hO⟩ := hF
        have HP4 := Lib.hid (HP3.out.keep hO)
        have HR5 := Lib.hid (HR4.out.only hO id)
        have HW6 := Lib.hid hOwn
        clear hO hOwn
        go_wp2_with fail
        refine (same_n A6 A2 c6 cq l zs zs _ (HW6.out.held_n HZL.out) (HP4.out.own.held_n HZL.out) (by omega)).mono ?_
        rw [show decide (zs = zs) = true by simp]
        rintro e w11 ⟨rfl, hO⟩
        have HO7 := Lib.hid (HP4.out.only.trans hO)
        have HR6 := Lib.hid (HR5.out.only hO id)
        clear hO
        have i0 : w11.cell? ⟨g, 0, none⟩ = some (.int .i64 ka) := HR6.out.cell_ (i := 0) rfl
        have i1 : w11.cell? ⟨g, 1, none⟩ = some (.int .i64 ca) := HR6.out.cell_ (i := 1) rfl
        go_wp2_with fail
        refine (awake_any _).mono ?_
        rintro e w12 ⟨rfl, hO⟩
        have HO8 := Lib.hid (HO7.out.trans hO)
        clear hO
        go_wp2
        go_ret
        exact ⟨rfl, HO8.out⟩

theorem walk_waitAccess (a0 : Option Addr) (len0 cap0 : Nat) (z0 : List Int) (a1 a2 a3 u4x0 a5 u6x0 u6x1 u6x2 : Int) (w : World) (w0 : IsRow .u32 w a0 len0 cap0 z0) (w1 : (Lit.int .u8 a1).wf = true) (w2 : (Lit.int .i64 a2).wf = true) (w3 : (Lit.int .i64 a3).wf = true) (w4 : (Lit.int .i64 u4x0).wf = true) (w5 : (Lit.int .i64 a5).wf = true) (w6 : (Lit.int .i64 u6x0).wf = true ∧ (Lit.int .u32 u6x1).wf = true ∧ (Lit.int .u32 u6x2).wf = true) :
    Calls Try.prog 5 #[.slice a0 len0 cap0, .int .u8 a1, .int .i64 a2, .int .i64 a3, .agg #[.int .i64 u4x0], .int .i64 a5, .agg #[.int .i64 u6x0, .int .u32 u6x1, .int .u32 u6x2]] w fun e w' => e = .returned (.bool true) ∧ Below w.heap.size w w' := by
  have fin : Calls Try.prog 5 #[.slice a0 len0 cap0, .int .u8 a1, .int .i64 a2, .int .i64 a3, .agg #[.int .i64 u4x0], .int .i64 a5, .agg #[.int .i64 u6x0, .int .u32 u6x1, .int .u32 u6x2]] w fun e w' => e = .returned (.bool true) ∧ Only Nil w w' := by
    by_cases h : len0 ≤ 1024
    · exact access_main a0 len0 cap0 z0 a1 a2 a3 u4x0 a5 u6x0 u6x1 u6x2 w w0 h w1
    · exact access_away a0 len0 cap0 a1 a2 a3 u4x0 a5 u6x0 u6x1 u6x2 w (by omega)
  exact fin.mono fun _ _ ⟨he, hO⟩ => ⟨he, hO.below (Nat.le_refl _) (fun _ _ h => h)⟩
end Go.Proofs.Ytmhbidokpboomaa
