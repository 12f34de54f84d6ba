/- WakeSteps: the walk. -/
import Derived.Test.YtjdgniconbocnaaWaitTwo
import Derived.Test.YtjdgniconbocnaaWakeAw
import Derived.Test.YtjdgniconbocnaaRWake
import Derived.Test.YtjdgniconbocnaaAll
import Derived.Test.YtjdgniconbocnaaCopy
import Derived.Test.YtjdgniconbocnaaTake
import Derived.Deep.Cut
set_option linter.unusedVariables false
set_option linter.unusedSimpArgs false
namespace Go.Proofs.Ytjdgniconbocnaa
open Go.RowKit

theorem wsteps_away (A : Option Addr) (l cap : Nat) (n mode : Int) (on : Bool) (c i : Int) (hit : Bool) (w : World) (h : 1024 < l) :
    Calls Try.prog 3 #[.slice A l cap, .int .i64 n, .int .i64 mode, .agg #[.bool on, .int .i64 c, .int .i64 i, .bool hit]] w fun e w' => e = .returned (.bool true) ∧ Only Nil w w' := by
  have h' : (1024 : Int) < l := by omega
  have HO := Lib.hid ((Only.refl Nil w).alloc (.cells #[.bool on, .int .i64 c, .int .i64 i, .bool hit] 24))
  go_enter Try.func3, Try.ntmps3
  go_wp2_with fail
  refine (awake_any _).mono ?_
  rintro e w1 ⟨rfl, hO⟩
  have HO1 := Lib.hid (HO.out.trans hO)
  clear hO
  go_wp2
  go_ret
  exact ⟨rfl, HO1.out⟩

theorem wake_len (xs : List Int) (n : Int) (on : Bool) (c i : Int) (hit : Bool) : (wakeI xs n on c i hit).xs.length = xs.length := by
  unfold wakeI giveI lookI restI
  repeat' split
  all_goals first | rfl | exact st_len _ _ _

/-- The law's blocks: the wake-up, and what both told. -/
structure R9 (w : World) (B g7 g9 : Nat) (on : Bool) (c i : Int) (hit b0 : Bool) (c0 i0 : Int) (h0 : Bool) (ka ca xa ya oa : Int) : Prop where
  rs : Row w B 24 #[.bool on, .int .i64 c, .int .i64 i, .bool hit]
  r1 : Row w g7 24 #[.bool b0, .int .i64 c0, .int .i64 i0, .bool h0]
  r2 : Row w (g7 + 1) 33 #[.int .i64 ka, .int .i64 ca, .int .u32 xa, .int .u32 ya, .int .u32 oa]
  r3 : Row w g9 24 #[.bool b0, .int .i64 c0, .int .i64 i0, .bool h0]
  r4 : Row w (g9 + 1) 33 #[.int .i64 ka, .int .i64 ca, .int .u32 xa, .int .u32 ya, .int .u32 oa]

section
variable {w w' : World} {B g7 g9 : Nat} {on : Bool} {c i : Int} {hit b0 : Bool} {c0 i0 : Int} {h0 : Bool} {ka ca xa ya oa : Int}
theorem R9.keep (h : R9 w B g7 g9 on c i hit b0 c0 i0 h0 ka ca xa ya oa) (ho : Only Nil w w') : R9 w' B g7 g9 on c i hit b0 c0 i0 h0 ka ca xa ya oa :=
  ⟨h.rs.only ho id, h.r1.only ho id, h.r2.only ho id, h.r3.only ho id, h.r4.only ho id⟩
theorem R9.held (h : R9 w B g7 g9 on c i hit b0 c0 i0 h0 ka ca xa ya oa) :
    w.cell? ⟨B, 1, none⟩ = some (.int .i64 c) ∧
    (w.cell? ⟨g7, 0, none⟩ = some (.bool b0) ∧ w.cell? ⟨g7, 1, none⟩ = some (.int .i64 c0) ∧ w.cell? ⟨g7, 2, none⟩ = some (.int .i64 i0) ∧ w.cell? ⟨g7, 3, none⟩ = some (.bool h0)) ∧
    (w.cell? ⟨g7 + 1, 0, none⟩ = some (.int .i64 ka) ∧ w.cell? ⟨g7 + 1, 1, none⟩ = some (.int .i64 ca) ∧ w.cell? ⟨g7 + 1, 2, none⟩ = some (.int .u32 xa) ∧ w.cell? ⟨g7 + 1, 3, none⟩ = some (.int .u32 ya) ∧ w.cell? ⟨g7 + 1, 4, none⟩ = some (.int .u32 oa)) ∧
    (w.cell? ⟨g9, 0, none⟩ = some (.bool b0) ∧ w.cell? ⟨g9, 1, none⟩ = some (.int .i64 c0) ∧ w.cell? ⟨g9, 2, none⟩ = some (.int .i64 i0) ∧ w.cell? ⟨g9, 3, none⟩ = some (.bool h0)) ∧
    (w.cell? ⟨g9 + 1, 0, none⟩ = some (.int .i64 ka) ∧ w.cell? ⟨g9 + 1, 1, none⟩ = some (.int .i64 ca) ∧ w.cell? ⟨g9 + 1, 2, none⟩ = some (.int .u32 xa) ∧ w.cell? ⟨g9 + 1, 3, none⟩ = some (.int .u32 ya) ∧ w.cell? ⟨g9 + 1, 4, none⟩ = some (.int .u32 oa)) :=
  ⟨h.rs.cell_ (i := 1) rfl, ⟨h.r1.cell_ (i := 0) rfl, h.r1.cell_ (i := 1) rfl, h.r1.cell_ (i := 2) rfl, h.r1.cell_ (i := 3) rfl⟩,
    ⟨h.r2.cell_ (i := 0) rfl, h.r2.cell_ (i := 1) rfl, h.r2.cell_ (i := 2) rfl, h.r2.cell_ (i := 3) rfl, h.r2.cell_ (i := 4) rfl⟩,
    ⟨h.r3.cell_ (i := 0) rfl, h.r3.cell_ (i := 1) rfl, h.r3.cell_ (i := 2) rfl, h.r3.cell_ (i := 3) rfl⟩,
    ⟨h.r4.cell_ (i := 0) rfl, h.r4.cell_ (i := 1) rfl, h.r4.cell_ (i := 2) rfl, h.r4.cell_ (i := 3) rfl, h.r4.cell_ (i := 4) rfl⟩⟩
end

set_option maxRecDepth 100000 in
set_option maxHeartbeats 1600000 in
theorem wsteps_main (A : Option Addr) (l cap : Nat) (xs : List Int) (n mode : Int) (on : Bool) (c i : Int) (hit : Bool) (w : World) (hr : IsRow .u32 w A l cap xs) (hl : l ≤ 1024) :
    Calls Try.prog 3 #[.slice A l cap, .int .i64 n, .int .i64 mode, .agg #[.bool on, .int .i64 c, .int .i64 i, .bool hit]] w fun e w' => e = .returned (.bool true) ∧ Only Nil w w' := by
  have HR := Lib.hid hr
  have hl2 : (l : Int) ≤ 1024 := by omega
  have HO0 := Lib.hid ((Only.refl Nil w).alloc (.cells #[.bool on, .int .i64 c, .int .i64 i, .bool hit] 24))
  have HS0 := Lib.hid (Row.new w 24 #[.bool on, .int .i64 c, .int .i64 i, .bool hit])
  clear hr
  go_enter Try.func3, Try.ntmps3
  go_wp2_with fail
  refine (from_ok A l cap xs _ hl ((isRow_held HR.out).only HO0.out (fun _ _ => id))).mono ?_
  intro e w1 hF
  obtain ⟨b, A', c', rfl, hb, hA, hM, hO⟩ := hF
  have HM0 : Hid (Memo w1 (some ⟨b, 0, none⟩) A' c' xs) := Lib.hid (Memo.of hM)
  have hlt : ∀ j, At (some (⟨b, 0, none⟩ : Addr)) j ∨ At A' j → w.heap.size + 1 ≤ j ∧ j < w1.heap.size := fun j hj => by
    refine ⟨?_, HM0.out.lt j hj⟩
    rcases hj with ⟨a, ha, rfl⟩ | hj
    · cases ha; simpa using hb
    · simpa using hA j hj
  have HLT := Lib.hid hlt
  have hbb := hlt b (.inl ⟨_, rfl, rfl⟩)
  have HBB := Lib.hid (show w.heap.size + 1 ≤ w1.heap.size by omega)
  have HO1 := Lib.hid (HO0.out.trans hO)
  have HS1 := Lib.hid (HS0.out.only hO id)
  clear hM hO hA hb hlt HO0 HS0 hbb
  go_wp2_with fail
  generalize hgB : w.heap.size = B at *
  have HGB := Lib.hid hgB
  clear hgB
  refine (copy_n A l cap xs _ (by omega) ((isRow_held HR.out).only HO1.out (fun _ _ => id))).mono ?_
  intro e w3 hF
  obtain ⟨A2, cq, rfl, hOwn, hO⟩ := hF
  have HP : Hid (Pr w (B + 1) w1.heap.size w1.heap.size w3.heap.size (some ⟨b, 0, none⟩) A' c' A2 cq w3 xs xs) :=
    Lib.hid ⟨HO1.out.trans hO, HM0.out.keep hO, hOwn, HLT.out, hOwn.lt, Nat.le_refl _, by have := HGB.out; omega, HBB.out⟩
  have HS2 := Lib.hid (HS1.out.only hO id)
  clear hO hOwn HO1 HM0 HS1
  generalize hgm : w1.heap.size = gm at *
  clear hgm
  have s0 : w3.cell? ⟨B, 0, none⟩ = some (.bool on) := HS2.out.cell_ (i := 0) rfl
  have s1 : w3.cell? ⟨B, 1, none⟩ = some (.int .i64 c) := HS2.out.cell_ (i := 1) rfl
  have s2 : w3.cell? ⟨B, 2, none⟩ = some (.int .i64 i) := HS2.out.cell_ (i := 2) rfl
  have s3 : w3.cell? ⟨B, 3, none⟩ = some (.bool hit) := HS2.out.cell_ (i := 3) rfl
  go_wp2_with fail
  clear s0 s1 s2 s3
  refine (wstep_any (some ⟨b, 0, none⟩) A' c' xs n on c i hit _ HP.out.memo).mono ?_
  obtain ⟨ka, ca, xa, ya, oa, hacc⟩ := wake_form xs n on c i hit
  have hzl := (wake_len xs n on c i hit).trans HR.out.len_
  generalize hrr : wakeI xs n on c i hit = r at *
  have HRR := Lib.hid hrr
  clear hrr
  obtain ⟨⟨b0, c0, i0, h0⟩, ac, zs⟩ := r
  dsimp only at hacc hzl
  subst hacc
  intro e w7 hF
  obtain ⟨rfl, hO, hM⟩ := hF
  dsimp only [WkV.v] at hM ⊢
  have HZL := Lib.hid hzl
  have HP4 := Lib.hid (HP.out.prog hO hM)
  have HZ7 := Lib.hid hO.size
  have HS6 := Lib.hid (HS2.out.only hO (HP.out.far_prog (.inl (by omega))))
  clear hO hM HS2 hzl HP
  have e7 := ((Only.refl Nil w7).alloc (.cells #[.bool b0, .int .i64 c0, .int .i64 i0, .bool h0] 24)).alloc (.cells #[.int .i64 ka, .int .i64 ca, .int .u32 xa, .int .u32 ya, .int .u32 oa] 33)
  have HP5 := Lib.hid (HP4.out.keep e7)
  have HS7 := Lib.hid (HS6.out.only e7 id)
  have HR19 := Lib.hid ((Row.new w7 24 #[.bool b0, .int .i64 c0, .int .i64 i0, .bool h0]).alloc (.cells #[.int .i64 ka, .int .i64 ca, .int .u32 xa, .int .u32 ya, .int .u32 oa] 33))
  have HR20 := Lib.hid (Row.new2 w7 (.cells #[.bool b0, .int .i64 c0, .int .i64 i0, .bool h0] 24) 33 #[.int .i64 ka, .int .i64 ca, .int .u32 xa, .int .u32 ya, .int .u32 oa])
  clear e7 HP4 HS6
  go_upto_region 8 with (fail)
  generalize (w7.alloc (.cells #[.bool b0, .int .i64 c0, .int .i64 i0, .bool h0] 24)).alloc (.cells #[.int .i64 ka, .int .i64 ca, .int .u32 xa, .int .u32 ya, .int .u32 oa] 33) = w8 at *
  generalize w7.heap.size = g7 at *
  have s0 : w8.cell? ⟨B, 0, none⟩ = some (.bool on) := HS7.out.cell_ (i := 0) rfl
  have s1 : w8.cell? ⟨B, 1, none⟩ = some (.int .i64 c) := HS7.out.cell_ (i := 1) rfl
  have s2 : w8.cell? ⟨B, 2, none⟩ = some (.int .i64 i) := HS7.out.cell_ (i := 2) rfl
  have s3 : w8.cell? ⟨B, 3, none⟩ = some (.bool hit) := HS7.out.cell_ (i := 3) rfl
  go_wp2_with fail
  clear s0 s1 s2 s3
  refine (rwake_any _ A2 l cq xs n on c i hit _ HP5.out.own HR.out.len_).mono ?_
  rw [HRR.out]
  intro e w9 hF
  obtain ⟨rfl, hO, hM⟩ := hF
  dsimp only [WkV.v] at hM ⊢
  have HP6 := Lib.hid (HP5.out.answ hO hM)
  have HS8 := Lib.hid (HS7.out.only hO (HP5.out.far_answ (.inl (by have := HBB.out; omega))))
  have HR19b := Lib.hid (HR19.out.only hO (HP5.out.far_answ (.inr HZ7.out)))
  have HR20b := Lib.hid (HR20.out.only hO (HP5.out.far_answ (.inr (Nat.le_succ_of_le HZ7.out))))
  clear hO hM HP5 HS7 HR19 HR20
  have e7 := ((Only.refl Nil w9).alloc (.cells #[.bool b0, .int .i64 c0, .int .i64 i0, .bool h0] 24)).alloc (.cells #[.int .i64 ka, .int .i64 ca, .int .u32 xa, .int .u32 ya, .int .u32 oa] 33)
  have HP7 := Lib.hid (HP6.out.keep e7)
  have HQ0 : Hid (R9 _ B g7 w9.heap.size on c i hit b0 c0 i0 h0 ka ca xa ya oa) := Lib.hid ⟨HS8.out.only e7 id, HR19b.out.only e7 id, HR20b.out.only e7 id, (Row.new w9 24 #[.bool b0, .int .i64 c0, .int .i64 i0, .bool h0]).alloc (.cells #[.int .i64 ka, .int .i64 ca, .int .u32 xa, .int .u32 ya, .int .u32 oa] 33), Row.new2 w9 (.cells #[.bool b0, .int .i64 c0, .int .i64 i0, .bool h0] 24) 33 #[.int .i64 ka, .int .i64 ca, .int .u32 xa, .int .u32 ya, .int .u32 oa]⟩
  clear e7 HP6 HS8 HR19b HR20b
  go_upto_region 9 with (fail)
  generalize (w9.alloc (.cells #[.bool b0, .int .i64 c0, .int .i64 i0, .bool h0] 24)).alloc (.cells #[.int .i64 ka, .int .i64 ca, .int .u32 xa, .int .u32 ya, .int .u32 oa] 33) = w10 at *
  generalize w9.heap.size = g9 at *
  go_wp2_with fail
  refine wp_region_held_drew (S := fun w => w.cell? ⟨B, 1, none⟩ = some (.int .i64 c) ∧
    (w.cell? ⟨g7, 0, none⟩ = some (.bool b0) ∧ w.cell? ⟨g7, 1, none⟩ = some (.int .i64 c0) ∧ w.cell? ⟨g7, 2, none⟩ = some (.int .i64 i0) ∧ w.cell? ⟨g7, 3, none⟩ = some (.bool h0)) ∧
    (w.cell? ⟨g7 + 1, 0, none⟩ = some (.int .i64 ka) ∧ w.cell? ⟨g7 + 1, 1, none⟩ = some (.int .i64 ca) ∧ w.cell? ⟨g7 + 1, 2, none⟩ = some (.int .u32 xa) ∧ w.cell? ⟨g7 + 1, 3, none⟩ = some (.int .u32 ya) ∧ w.cell? ⟨g7 + 1, 4, none⟩ = some (.int .u32 oa)) ∧
    (w.cell? ⟨g9, 0, none⟩ = some (.bool b0) ∧ w.cell? ⟨g9, 1, none⟩ = some (.int .i64 c0) ∧ w.cell? ⟨g9, 2, none⟩ = some (.int .i64 i0) ∧ w.cell? ⟨g9, 3, none⟩ = some (.bool h0)) ∧
    (w.cell? ⟨g9 + 1, 0, none⟩ = some (.int .i64 ka) ∧ w.cell? ⟨g9 + 1, 1, none⟩ = some (.int .i64 ca) ∧ w.cell? ⟨g9 + 1, 2, none⟩ = some (.int .u32 xa) ∧ w.cell? ⟨g9 + 1, 3, none⟩ = some (.int .u32 ya) ∧ w.cell? ⟨g9 + 1, 4, none⟩ = some (.int .u32 oa))) (by kernel_rfl) HQ0.out.held (fun hHeld => ?_)
  have HP := Lib.hid (HP7.out.keep (Only.refl Nil w10).drew)
  have HQ := Lib.hid (HQ0.out.keep (Only.refl Nil w10).drew)
  clear HQ0 HP7
  generalize w10.drew = w11 at *
  refine take_0 (.agg #[.bool b0, .int .i64 c0, .int .i64 i0, .bool h0]) (by kernel_rfl) (by kernel_rfl) (by kernel_rfl) (fun _ _ _ h => h) (by rfl) (fun w hSw => ?_) (by assumption) ?_
  · (try dsimp only at hSw)
    go_split_ands
    go_simp
  (try simp only [Act.put, List.setIfInBounds_toArray, List.set_cons_zero, List.set_cons_succ])
  refine take_1 (.agg #[.bool b0, .int .i64 c0, .int .i64 i0, .bool h0]) (by kernel_rfl) (by kernel_rfl) (by kernel_rfl) (fun _ _ _ h => h) (by rfl) (fun w hSw => ?_) (by assumption) ?_
  · (try dsimp only at hSw)
    go_split_ands
    go_simp
  (try simp only [Act.put, List.setIfInBounds_toArray, List.set_cons_zero, List.set_cons_succ])
  refine take_2 (.bool true) (by kernel_rfl) (by kernel_rfl) (by kernel_rfl) (fun _ _ _ h => h) (by rfl) (fun w hSw => ?_) (by assumption) ?_
  · (try dsimp only at hSw)
    go_split_ands
    go_simp
  (try simp only [Act.put, List.setIfInBounds_toArray, List.set_cons_zero, List.set_cons_succ])
  refine take_3 (.bool true) (by kernel_rfl) (by kernel_rfl) (by kernel_rfl) (fun _ _ _ h => h) (by rfl) (fun w hSw => ?_) (by assumption) ?_
  · (try dsimp only at hSw)
    go_split_ands
    go_simp
  (try simp only [Act.put, List.setIfInBounds_toArray, List.set_cons_zero, List.set_cons_succ])
  refine take_4 (.agg #[.int .i64 ka, .int .i64 ca, .int .u32 xa, .int .u32 ya, .int .u32 oa]) (by kernel_rfl) (by kernel_rfl) (by kernel_rfl) (fun _ _ _ h => h) (by rfl) (fun w hSw => ?_) (by assumption) ?_
  · (try dsimp only at hSw)
    go_split_ands
    go_simp
  (try simp only [Act.put, List.setIfInBounds_toArray, List.set_cons_zero, List.set_cons_succ])
  refine take_5 (.agg #[.int .i64 ka, .int .i64 ca, .int .u32 xa, .int .u32 ya, .int .u32 oa]) (by kernel_rfl) (by kernel_rfl) (by kernel_rfl) (fun _ _ _ h => h) (by rfl) (fun w hSw => ?_) (by assumption) ?_
  · (try dsimp only at hSw)
    go_split_ands
    go_simp
  (try simp only [Act.put, List.setIfInBounds_toArray, List.set_cons_zero, List.set_cons_succ])
  refine take_6 (.bool true) (by kernel_rfl) (by kernel_rfl) (by kernel_rfl) (fun _ _ _ h => h) (by rfl) (fun w hSw => ?_) (by assumption) ?_
  · (try dsimp only at hSw)
    go_split_ands
    go_simp
  (try simp only [Act.put, List.setIfInBounds_toArray, List.set_cons_zero, List.set_cons_succ])
  refine take_7 (.bool true) (by kernel_rfl) (by kernel_rfl) (by kernel_rfl) (fun _ _ _ h => h) (by rfl) (fun w hSw => ?_) (by assumption) ?_
  · (try dsimp only at hSw)
    go_split_ands
    go_simp
  (try simp only [Act.put, List.setIfInBounds_toArray, List.set_cons_zero, List.set_cons_succ])
  refine take_8 (.bool true) (by kernel_rfl) (by kernel_rfl) (by kernel_rfl) (fun _ _ _ h => h) (by rfl) (fun w hSw => ?_) (by assumption) ?_
  · (try dsimp only at hSw)
    go_split_ands
    go_simp
  (try simp only [Act.put, List.setIfInBounds_toArray, List.set_cons_zero, List.set_cons_succ])
  refine take_9 (.pointer (some ⟨b, 0, none⟩)) (by kernel_rfl) (by kernel_rfl) (by kernel_rfl) (fun _ _ _ h => h) (by rfl) (fun w hSw => ?_) (by assumption) ?_
  · (try dsimp only at hSw)
    go_split_ands
    go_simp
  (try simp only [Act.put, List.setIfInBounds_toArray, List.set_cons_zero, List.set_cons_succ])
  refine take_11 (.slice A2 l cq) (by kernel_rfl) (by kernel_rfl) (by kernel_rfl) (fun _ _ _ h => h) (by rfl) (fun w hSw => ?_) (by assumption) ?_
  · (try dsimp only at hSw)
    go_split_ands
    go_simp
  (try simp only [Act.put, List.setIfInBounds_toArray, List.set_cons_zero, List.set_cons_succ])
  refine call_10 (by kernel_rfl) (by rfl) (fun K hK => ?_)
  go_simp
  refine (all_n b A' c' l zs _ HP.out.memo.mem HZL.out).mono ?_
  intro e w12 hF
  obtain ⟨A6, c6, rfl, hOwn, hO⟩ := hF
  have HW6 := Lib.hid hOwn
  clear hOwn
  have HQ2 := Lib.hid (HQ.out.keep hO)
  have HP2 := Lib.hid (HP.out.keep hO)
  refine hK.out _ _ HQ2.out.held (fun hHeld2 => ?_)
  clear hK K hHeld hO HQ HP
  have HQ := HQ2
  have HP := HP2
  have hHeld := hHeld2
  clear HQ2 HP2 hHeld2
  (try simp only [Act.put, List.setIfInBounds_toArray, List.set_cons_zero, List.set_cons_succ])
  refine call_12 (by kernel_rfl) (by rfl) (fun K hK => ?_)
  go_simp
  refine (same_n A6 A2 c6 cq l zs zs _ (HW6.out.held_n HZL.out) (HP.out.own.held_n HZL.out) (by omega)).mono ?_
  rw [show decide (zs = zs) = true by simp]
  rintro e w13 ⟨rfl, hO⟩
  have HQ2 := Lib.hid (HQ.out.keep hO)
  have HP2 := Lib.hid (HP.out.keep hO)
  refine hK.out _ _ HQ2.out.held (fun hHeld2 => ?_)
  clear hK K hHeld hO HQ HP
  have HQ := HQ2
  have HP := HP2
  have hHeld := hHeld2
  clear HQ2 HP2 hHeld2
  (try simp only [Act.put, List.setIfInBounds_toArray, List.set_cons_zero, List.set_cons_succ])
  refine take_13 (.bool true) (by kernel_rfl) (by kernel_rfl) (by kernel_rfl) (fun _ _ _ h => h) (by rfl) (fun w hSw => ?_) (by assumption) ?_
  · (try dsimp only at hSw)
    go_split_ands
    go_simp
  (try simp only [Act.put, List.setIfInBounds_toArray, List.set_cons_zero, List.set_cons_succ])
  refine take_14 (.bool true) (by kernel_rfl) (by kernel_rfl) (by kernel_rfl) (fun _ _ _ h => h) (by rfl) (fun w hSw => ?_) (by assumption) ?_
  · (try dsimp only at hSw)
    go_split_ands
    go_simp
  (try simp only [Act.put, List.setIfInBounds_toArray, List.set_cons_zero, List.set_cons_succ])
  refine take_15 (.int .i64 mode) (by kernel_rfl) (by kernel_rfl) (by kernel_rfl) (fun _ _ _ h => h) (by rfl) (fun w hSw => ?_) (by assumption) ?_
  · (try dsimp only at hSw)
    go_split_ands
    go_simp
  (try simp only [Act.put, List.setIfInBounds_toArray, List.set_cons_zero, List.set_cons_succ])
  refine take_16 (.pointer (some ⟨B, 1, none⟩)) (by kernel_rfl) (by kernel_rfl) (by kernel_rfl) (fun _ _ _ h => h) (by rfl) (fun w hSw => ?_) (by assumption) ?_
  · (try dsimp only at hSw)
    go_split_ands
    go_simp
  (try simp only [Act.put, List.setIfInBounds_toArray, List.set_cons_zero, List.set_cons_succ])
  refine take_17 (.int .i64 c) (by kernel_rfl) (by kernel_rfl) (by kernel_rfl) (fun _ _ _ h => h) (by rfl) (fun w hSw => ?_) (by assumption) ?_
  · (try dsimp only at hSw)
    go_split_ands
    go_simp
  (try simp only [Act.put, List.setIfInBounds_toArray, List.set_cons_zero, List.set_cons_succ])
  refine take_19 (.int .i64 mode) (by kernel_rfl) (by kernel_rfl) (by kernel_rfl) (fun _ _ _ h => h) (by rfl) (fun w hSw => ?_) (by assumption) ?_
  · (try dsimp only at hSw)
    go_split_ands
    go_simp
  (try simp only [Act.put, List.setIfInBounds_toArray, List.set_cons_zero, List.set_cons_succ])
  refine take_20 (.pointer (some ⟨B, 1, none⟩)) (by kernel_rfl) (by kernel_rfl) (by kernel_rfl) (fun _ _ _ h => h) (by rfl) (fun w hSw => ?_) (by assumption) ?_
  · (try dsimp only at hSw)
    go_split_ands
    go_simp
  (try simp only [Act.put, List.setIfInBounds_toArray, List.set_cons_zero, List.set_cons_succ])
  refine take_21 (.int .i64 c) (by kernel_rfl) (by kernel_rfl) (by kernel_rfl) (fun _ _ _ h => h) (by rfl) (fun w hSw => ?_) (by assumption) ?_
  · (try dsimp only at hSw)
    go_split_ands
    go_simp
  (try simp only [Act.put, List.setIfInBounds_toArray, List.set_cons_zero, List.set_cons_succ])
  refine call_18 (by kernel_rfl) (by rfl) (fun K hK => ?_)
  go_simp
  refine (begin_any mode c _).mono ?_
  rintro e w14 ⟨rfl, hO⟩
  dsimp only [WkV.v]
  have HQ2 := Lib.hid (HQ.out.keep hO)
  have HP2 := Lib.hid (HP.out.keep hO)
  refine hK.out _ _ HQ2.out.held (fun hHeld2 => ?_)
  clear hK K hHeld hO HQ HP
  have HQ := HQ2
  have HP := HP2
  have hHeld := hHeld2
  clear HQ2 HP2 hHeld2
  (try simp only [Act.put, List.setIfInBounds_toArray, List.set_cons_zero, List.set_cons_succ])
  refine call_22 (by kernel_rfl) (by rfl) (fun K hK => ?_)
  go_simp
  refine (rbegin_any mode c _).mono ?_
  rintro e w15 ⟨rfl, hO⟩
  dsimp only [WkV.v]
  have HQ2 := Lib.hid (HQ.out.keep hO)
  have HP2 := Lib.hid (HP.out.keep hO)
  refine hK.out _ _ HQ2.out.held (fun hHeld2 => ?_)
  clear hK K hHeld hO HQ HP
  have HQ := HQ2
  have HP := HP2
  have hHeld := hHeld2
  clear HQ2 HP2 hHeld2
  (try simp only [Act.put, List.setIfInBounds_toArray, List.set_cons_zero, List.set_cons_succ])
  generalize beginI mode c = kb at *
  obtain ⟨b2, c2, i2, h2⟩ := kb
  dsimp only
  refine take_23 (.bool true) (by kernel_rfl) (by kernel_rfl) (by kernel_rfl) (fun _ _ _ h => h) (by rfl) (fun w hSw => ?_) (by assumption) ?_
  · (try dsimp only at hSw)
    go_split_ands
    go_simp
  (try simp only [Act.put, List.setIfInBounds_toArray, List.set_cons_zero, List.set_cons_succ])
  refine take_24 (.bool true) (by kernel_rfl) (by kernel_rfl) (by kernel_rfl) (fun _ _ _ h => h) (by rfl) (fun w hSw => ?_) (by assumption) ?_
  · (try dsimp only at hSw)
    go_split_ands
    go_simp
  (try simp only [Act.put, List.setIfInBounds_toArray, List.set_cons_zero, List.set_cons_succ])
  refine take_25 (.bool true) (by kernel_rfl) (by kernel_rfl) (by kernel_rfl) (fun _ _ _ h => h) (by rfl) (fun w hSw => ?_) (by assumption) ?_
  · (try dsimp only at hSw)
    go_split_ands
    go_simp
  (try simp only [Act.put, List.setIfInBounds_toArray, List.set_cons_zero, List.set_cons_succ])
  refine call_26 (by kernel_rfl) (by rfl) (fun K hK => ?_)
  go_simp
  refine (awake_any _).mono ?_
  rintro e w16 ⟨rfl, hO⟩
  have HQ2 := Lib.hid (HQ.out.keep hO)
  have HP2 := Lib.hid (HP.out.keep hO)
  refine hK.out _ _ HQ2.out.held (fun hHeld2 => ?_)
  clear hK K hHeld hO HQ HP
  have HQ := HQ2
  have HP := HP2
  have hHeld := hHeld2
  clear HQ2 HP2 hHeld2
  (try simp only [Act.put, List.setIfInBounds_toArray, List.set_cons_zero, List.set_cons_succ])
  refine take_27 (.bool true) (by kernel_rfl) (by kernel_rfl) (by kernel_rfl) (fun _ _ _ h => h) (by rfl) (fun w hSw => ?_) (by assumption) ?_
  · (try dsimp only at hSw)
    go_split_ands
    go_simp
  (try simp only [Act.put, List.setIfInBounds_toArray, List.set_cons_zero, List.set_cons_succ])
  refine take_28 (.bool true) (by kernel_rfl) (by kernel_rfl) (by kernel_rfl) (fun _ _ _ h => h) (by rfl) (fun w hSw => ?_) (by assumption) ?_
  · (try dsimp only at hSw)
    go_split_ands
    go_simp
  (try simp only [Act.put, List.setIfInBounds_toArray, List.set_cons_zero, List.set_cons_succ])
  refine wpAnyH_done (by kernel_rfl) ?_ _
  clear hHeld
  go_wp2
  go_ret
  exact ⟨rfl, HP.out.only⟩

theorem walk_wakeSteps (a0 : Option Addr) (len0 cap0 : Nat) (z0 : List Int) (a1 a2 : Int) (b3 : Bool) (c3 i3 : Int) (h3 : Bool) (w : World) (w0 : IsRow .u32 w a0 len0 cap0 z0) (w1 : (Lit.int .i64 a1).wf = true) (w2 : (Lit.int .i64 a2).wf = true) (w3 : (Lit.int .i64 c3).wf = true ∧ (Lit.int .i64 i3).wf = true) :
    Calls Try.prog 3 #[.slice a0 len0 cap0, .int .i64 a1, .int .i64 a2, .agg #[.bool b3, .int .i64 c3, .int .i64 i3, .bool h3]] w fun e w' => e = .returned (.bool true) ∧ Below w.heap.size w w' := by
  have fin : Calls Try.prog 3 #[.slice a0 len0 cap0, .int .i64 a1, .int .i64 a2, .agg #[.bool b3, .int .i64 c3, .int .i64 i3, .bool h3]] w fun e w' => e = .returned (.bool true) ∧ Only Nil w w' := by
    by_cases h : len0 ≤ 1024
    · exact wsteps_main a0 len0 cap0 z0 a1 a2 b3 c3 i3 h3 w w0 h
    · exact wsteps_away a0 len0 cap0 a1 a2 b3 c3 i3 h3 w (by omega)
  exact fin.mono fun _ _ ⟨he, hO⟩ => ⟨he, hO.below (Nat.le_refl _) (fun _ _ h => h)⟩
end Go.Proofs.Ytjdgniconbocnaa
