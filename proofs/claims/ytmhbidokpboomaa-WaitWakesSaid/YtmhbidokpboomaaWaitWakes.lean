/- WaitWakes: the walk. -/
import Derived.Test.YtmhbidokpboomaaWaitWk
import Derived.Test.YtmhbidokpboomaaWaitTwo
import Derived.Test.YtmhbidokpboomaaWaitAw
import Derived.Test.YtmhbidokpboomaaStuck
import Derived.Test.YtmhbidokpboomaaFirst4
import Derived.Test.YtmhbidokpboomaaOpLoad
import Derived.Test.YtmhbidokpboomaaOpStore
import Derived.Test.YtmhbidokpboomaaParkGive
import Derived.Deep.Cut
set_option linter.unusedVariables false
set_option linter.unusedSimpArgs false
namespace Go.Proofs.Ytmhbidokpboomaa
open Go.RowKit

theorem wakes_away (A : Option Addr) (l cap : Nat) (k mk x : Int) (w : World) (h : 60 < l) :
    Calls Try.prog 4 #[.slice A l cap, .agg #[.int .i64 k, .int .u32 mk, .int .u32 x]] w fun e w' => e = .returned (.bool true) ∧ Only Nil w w' := by
  have h' : (60 : Int) < l := by omega
  have HO := Lib.hid ((Only.refl Nil w).alloc (.cells #[.int .i64 k, .int .u32 mk, .int .u32 x] 27))
  go_enter Try.func4, Try.ntmps4
  go_wp2_with fail
  refine (awake_any _).mono ?_
  rintro e w1 ⟨rfl, hO⟩
  have HO1 := Lib.hid (HO.out.trans hO)
  clear hO
  go_wp2
  go_ret
  exact ⟨rfl, HO1.out⟩



set_option maxRecDepth 100000 in
set_option maxHeartbeats 1600000 in
theorem wakes_main (A : Option Addr) (m cap : Nat) (k mk x : Int) (w : World) (ha : IsDeeds w A m) (hm : m ≤ 60) :
    Calls Try.prog 4 #[.slice A m cap, .agg #[.int .i64 k, .int .u32 mk, .int .u32 x]] w fun e w' => e = .returned (.bool true) ∧ Only Nil w w' := by
  have HA := Lib.hid ha
  have hm2 : (m : Int) ≤ 60 := by omega
  have HO0 := Lib.hid ((Only.refl Nil w).alloc (.cells #[.int .i64 k, .int .u32 mk, .int .u32 x] 27))
  have HU0 := Lib.hid (Row.new w 27 #[.int .i64 k, .int .u32 mk, .int .u32 x])
  clear ha
  go_enter Try.func4, Try.ntmps4
  go_wp2_with fail
  refine (first4 1 12 _ (by omega) (by decide)).mono ?_
  intro e w1 hF
  obtain ⟨g, rfl, hg, hH, hO, hgl⟩ := hF
  have HH := Lib.hid hH
  have HO1 := Lib.hid (HO0.out.trans hO)
  have HU1 := Lib.hid (HU0.out.only hO id)
  clear hH hO hg hgl HO0 HU0
  go_wp2_with fail
  refine (from_ok (some ⟨g, 0, none⟩) 12 12 (List.replicate 12 0) _ (by omega) HH.out).mono ?_
  intro e w2 hF
  obtain ⟨b, A', c', rfl, hb, hA, hM, hO⟩ := hF
  have HM0 : Hid (Memo w2 (some ⟨b, 0, none⟩) A' c' (V 0 0 0)) := Lib.hid (Memo.of hM)
  have hlt : ∀ j, At (some (⟨b, 0, none⟩ : Addr)) j ∨ At A' j → w1.heap.size ≤ j ∧ j < w2.heap.size := fun j hj => by
    refine ⟨?_, HM0.out.lt j hj⟩
    rcases hj with ⟨a, ha, rfl⟩ | hj
    · cases ha; exact hb
    · exact hA j hj
  have HLT := Lib.hid hlt
  have hbb := hlt b (.inl ⟨_, rfl, rfl⟩)
  have e2 := ((Only.refl Nil w2).alloc (.cells #[.int .i64 1] 34)).alloc (.cells #[.int .i64 0] 24)
  have HK0 : Hid (Wk w w.heap.size w1.heap.size w2.heap.size b A' c' k mk x 0 0 0 0 ((w2.alloc (.cells #[.int .i64 1] 34)).alloc (.cells #[.int .i64 0] 24))) :=
    Lib.hid ⟨(HO1.out.trans hO).trans e2, HM0.out.keep e2, (HU1.out.only hO id).only e2 id, (Row.new w2 _ _).alloc _, Row.new2 w2 _ _ _, HLT.out, Nat.le_refl _, HU1.out.lt, by omega⟩
  clear hM hO hA hb hlt HO1 HU1 e2 hbb HM0 HLT
  go_wp2
  generalize (w2.alloc (.cells #[.int .i64 1] 34)).alloc (.cells #[.int .i64 0] 24) = w3 at *
  generalize w2.heap.size = gm at *
  generalize w1.heap.size = L at *
  generalize hB : w.heap.size = B at *
  have HB := Lib.hid hB
  clear hB HH
  go_loopw [11] (fun i wr => ∃ (j : Nat) (s v t p : Int), j ≤ m ∧ i = .int .i64 j ∧ Inv (uIs k mk x) s v t p ∧ Wk w B L gm b A' c' k mk x s v t p wr) (fun i _ => m - (intOf i).toNat)
  case atStart => exact ⟨0, 0, 0, 0, 0, Nat.zero_le _, rfl, Inv.start, HK0.out⟩
  case round =>
    obtain ⟨j, s, v, t, p, hj, rfl, hi, hk⟩ := hrel
    have HI := Lib.hid hi
    have HK := Lib.hid hk
    clear hi hk HK0
    by_cases hlt : j < m
    · obtain ⟨bo, q0, kk, y, rfl, hp, f0, f1, y0, y1⟩ := HA.out j hlt
      have g0 := (HK.out.only.cell (p := ⟨bo, q0 + j * 2, none⟩) hp id).trans f0
      have g1 := (HK.out.only.cell (p := ⟨bo, q0 + j * 2 + 1, none⟩) hp id).trans f1
      have HY := Lib.hid (And.intro y0 y1)
      clear f0 f1 y0 y1
      by_cases hk0 : kk = 0
      · subst hk0
        have n0 : wr.cell? ⟨gm, 0, none⟩ = some (.int .i64 1) := HK.out.rm.cell_ (i := 0) rfl
        have r0 : wr.cell? ⟨gm + 1, 0, none⟩ = some (.int .i64 s) := HK.out.rs.cell_ (i := 0) rfl
        have u0 : wr.cell? ⟨B, 0, none⟩ = some (.int .i64 k) := HK.out.ru.cell_ (i := 0) rfl
        have u1 : wr.cell? ⟨B, 1, none⟩ = some (.int .u32 mk) := HK.out.ru.cell_ (i := 1) rfl
        have u2 : wr.cell? ⟨B, 2, none⟩ = some (.int .u32 x) := HK.out.ru.cell_ (i := 2) rfl
        go_wp2_with fail
        clear n0 r0 u0 u1 u2
        refine (step_any (some ⟨b, 0, none⟩) A' c' (V v t p) 1 2 0 s 0 _ _ _ HK.out.memo (holds_until k mk x) HI.out.words).mono ?_
        have hst := HI.out.step _ rfl
        obtain ⟨ka, ca, xa, ya, oa, hacc, -⟩ := step_access (V v t p) 1 2 0 s 0 (uIs k mk x)
        generalize stepI (V v t p) 1 2 0 s 0 (uIs k mk x) = r at *
        obtain ⟨nx, ac, sn, dn, zs⟩ := r
        dsimp only at hst hacc
        subst hacc
        intro e w3 hF
        obtain ⟨rfl, hO, hM⟩ := hF
        dsimp only at hM ⊢
        have e3 := ((Only.refl Nil w3).alloc (.cells #[.int .i64 nx] 24)).alloc (.cells #[.int .i64 ka, .int .i64 ca, .int .u32 xa, .int .u32 ya, .int .u32 oa] 39)
        have HR12 := Lib.hid ((Row.new w3 24 #[.int .i64 nx]).alloc (.cells #[.int .i64 ka, .int .i64 ca, .int .u32 xa, .int .u32 ya, .int .u32 oa] 39))
        have hgm := HK.out.rs.lt
        have HSZ := Lib.hid (show gm + 1 < w3.heap.size from by have := hO.size; omega)
        clear hgm
        rcases hst with ⟨rfl, p2, rfl⟩ | ⟨rfl, t2, p2, rfl, hi, hlf⟩
        · skip
          have HK1 := Lib.hid ((HK.out.call hO hM).keep e3)
          clear hO hM e3 HR12 HSZ
          go_upto_region 15 with (fail)
          generalize (w3.alloc (.cells #[.int .i64 nx] 24)).alloc (.cells #[.int .i64 ka, .int .i64 ca, .int .u32 xa, .int .u32 ya, .int .u32 oa] 39) = w4 at *
          have n0 : w4.cell? ⟨gm, 0, none⟩ = some (.int .i64 1) := HK1.out.rm.cell_ (i := 0) rfl
          go_wp2_with fail
          clear n0
          refine (watch_any 1 0 _).mono ?_
          rw [show cellI 1 2 0 = 10 by decide]
          rintro e w5 ⟨rfl, hO⟩
          have HK2 := Lib.hid (HK1.out.keep hO)
          clear hO HK1
          go_wp2_with fail
          refine (load_any b A' c' (V v 0 p2) 10 _ HK2.out.mem).mono ?_
          rw [V_at10]
          rintro e w6 ⟨rfl, hO, hM⟩
          have HK3 := Lib.hid (HK2.out.call hO (Memo.of hM))
          clear hO hM HK2
          go_wp2_with fail
          refine (awake_any _).mono ?_
          rintro e w7 ⟨rfl, hO⟩
          have HO7 := Lib.hid (HK3.out.only.trans hO)
          clear hO
          go_wp2
          go_ret
          exact ⟨rfl, HO7.out⟩
        · skip
          have HK1 := Lib.hid ((HK.out.call hO hM).keep e3)
          have HI2 := Lib.hid hi
          have HLF := Lib.hid hlf
          clear hO hM e3 hi hlf
          go_upto_region 15 with (fail)
          generalize (w3.alloc (.cells #[.int .i64 nx] 24)).alloc (.cells #[.int .i64 ka, .int .i64 ca, .int .u32 xa, .int .u32 ya, .int .u32 oa] 39) = w4 at *
          generalize w3.heap.size = g3 at *
          have r0 : w4.cell? ⟨gm + 1, 0, none⟩ = some (.int .i64 s) := HK1.out.rs.cell_ (i := 0) rfl
          have f0 : w4.frozen? ⟨gm + 1, 0, none⟩ = false := HK1.out.rs.frozen 0
          have d0 : w4.cell? ⟨g3, 0, none⟩ = some (.int .i64 nx) := HR12.out.cell_ (i := 0) rfl
          have HK2 := Lib.hid (HK1.out.set nx)
          clear HK1
          go_wp2_with fail
          clear r0 f0 d0 HLF g0 g1
          generalize w4.setCell ⟨gm + 1, 0, none⟩ (.int .i64 nx) = w5 at *
          cases hq : uIs k mk x v
          · have HQ := Lib.hid hq
            clear hq
            have n0 : w5.cell? ⟨gm, 0, none⟩ = some (.int .i64 1) := HK2.out.rm.cell_ (i := 0) rfl
            have r0 : w5.cell? ⟨gm + 1, 0, none⟩ = some (.int .i64 nx) := HK2.out.rs.cell_ (i := 0) rfl
            have u0 : w5.cell? ⟨B, 0, none⟩ = some (.int .i64 k) := HK2.out.ru.cell_ (i := 0) rfl
            have u1 : w5.cell? ⟨B, 1, none⟩ = some (.int .u32 mk) := HK2.out.ru.cell_ (i := 1) rfl
            have u2 : w5.cell? ⟨B, 2, none⟩ = some (.int .u32 x) := HK2.out.ru.cell_ (i := 2) rfl
            refine wp_region_held_drew (S := fun w' => w'.cell? ⟨B, 0, none⟩ = some (.int .i64 k) ∧ w'.cell? ⟨B, 1, none⟩ = some (.int .u32 mk) ∧ w'.cell? ⟨B, 2, none⟩ = some (.int .u32 x) ∧ w'.cell? ⟨gm, 0, none⟩ = some (.int .i64 1) ∧ w'.cell? ⟨gm + 1, 0, none⟩ = some (.int .i64 nx)) (by kernel_rfl) ⟨u0, u1, u2, n0, r0⟩ (fun hHeld => ?_)
            have HH1 := Lib.hid (HK2.out.keep (Only.refl Nil w5).drew)
            clear n0 r0 u0 u1 u2 HK2
            generalize w5.drew = y1 at *
            refine take_0 (.agg #[.int .i64 k, .int .u32 mk, .int .u32 x]) (by kernel_rfl) (by kernel_rfl) (by kernel_rfl) (fun _ _ _ h => h) (by rfl) (fun w hSw => ?_) (by assumption) ?_
            · (try dsimp only at hSw)
              go_split_ands
              go_simp
            (try simp only [Act.put, List.setIfInBounds_toArray, List.set_cons_zero, List.set_cons_succ])
            refine take_1 (.pointer (some ⟨b, 0, none⟩)) (by kernel_rfl) (by kernel_rfl) (by kernel_rfl) (fun _ _ _ h => h) (by rfl) (fun w hSw => ?_) (by assumption) ?_
            · (try dsimp only at hSw)
              go_split_ands
              go_simp
            (try simp only [Act.put, List.setIfInBounds_toArray, List.set_cons_zero, List.set_cons_succ])
            refine call_2 (by kernel_rfl) (by rfl) (fun K hK => ?_)
            go_simp
            refine (load_any b A' c' (V v t2 p2) 0 _ HH1.out.mem).mono ?_
            rw [V_at0]
            rintro e y2 ⟨rfl, hO, hM⟩
            have HH2 := Lib.hid (HH1.out.call hO (Memo.of hM))
            refine hK.out _ _ ⟨HH2.out.ru.cell_ (i := 0) rfl, HH2.out.ru.cell_ (i := 1) rfl, HH2.out.ru.cell_ (i := 2) rfl, HH2.out.rm.cell_ (i := 0) rfl, HH2.out.rs.cell_ (i := 0) rfl⟩ (fun hHeld2 => ?_)
            clear hK K hHeld hO hM HH1
            (try simp only [Act.put, List.setIfInBounds_toArray, List.set_cons_zero, List.set_cons_succ])
            refine call_3 (by kernel_rfl) (by rfl) (fun K hK => ?_)
            go_simp
            refine (is_any k mk x v _ HI2.out.1.1 HI2.out.1.2).mono ?_
            rw [HQ.out]
            rintro e y3 ⟨rfl, hO⟩
            have HH3 := Lib.hid (HH2.out.keep hO)
            refine hK.out _ _ ⟨HH3.out.ru.cell_ (i := 0) rfl, HH3.out.ru.cell_ (i := 1) rfl, HH3.out.ru.cell_ (i := 2) rfl, HH3.out.rm.cell_ (i := 0) rfl, HH3.out.rs.cell_ (i := 0) rfl⟩ (fun hHeld3 => ?_)
            clear hK K hHeld2 hO HH2
            (try simp only [Act.put, List.setIfInBounds_toArray, List.set_cons_zero, List.set_cons_succ])
            refine take_4 (.bool false) (by kernel_rfl) (by kernel_rfl) (by kernel_rfl) (fun _ _ _ h => h) (by rfl) (fun w hSw => ?_) (by assumption) ?_
            · (try dsimp only at hSw)
              go_split_ands
              go_simp
            (try simp only [Act.put, List.setIfInBounds_toArray, List.set_cons_zero, List.set_cons_succ])
            refine pass_5 (by kernel_rfl) (by kernel_rfl) (by kernel_rfl) (fun _ _ _ h => h) (by rfl) (by assumption) ?_
            (try simp only [Act.put, List.setIfInBounds_toArray, List.set_cons_zero, List.set_cons_succ])
            refine pass_6 (by kernel_rfl) (by kernel_rfl) (by kernel_rfl) (fun _ _ _ h => h) (by rfl) (by assumption) ?_
            (try simp only [Act.put, List.setIfInBounds_toArray, List.set_cons_zero, List.set_cons_succ])
            refine pass_7 (by kernel_rfl) (by kernel_rfl) (by kernel_rfl) (fun _ _ _ h => h) (by rfl) (by assumption) ?_
            (try simp only [Act.put, List.setIfInBounds_toArray, List.set_cons_zero, List.set_cons_succ])
            refine pass_8 (by kernel_rfl) (by kernel_rfl) (by kernel_rfl) (fun _ _ _ h => h) (by rfl) (by assumption) ?_
            (try simp only [Act.put, List.setIfInBounds_toArray, List.set_cons_zero, List.set_cons_succ])
            refine take_9 (.bool false) (by kernel_rfl) (by kernel_rfl) (by kernel_rfl) (fun _ _ _ h => h) (by rfl) (fun w hSw => ?_) (by assumption) ?_
            · (try dsimp only at hSw)
              go_split_ands
              go_simp
            (try simp only [Act.put, List.setIfInBounds_toArray, List.set_cons_zero, List.set_cons_succ])
            refine wpAnyH_done (by kernel_rfl) ?_ _
            clear hHeld3
            go_wp2
            exact ⟨⟨j + 1, nx, v, t2, p2, by omega, by go_num, HI2.out, HH3.out⟩, by simp [intOf]; omega⟩
          · have HQ := Lib.hid hq
            have HST := Lib.hid (HI2.out.stuck hq)
            clear hq
            have n0 : w5.cell? ⟨gm, 0, none⟩ = some (.int .i64 1) := HK2.out.rm.cell_ (i := 0) rfl
            have r0 : w5.cell? ⟨gm + 1, 0, none⟩ = some (.int .i64 nx) := HK2.out.rs.cell_ (i := 0) rfl
            have u0 : w5.cell? ⟨B, 0, none⟩ = some (.int .i64 k) := HK2.out.ru.cell_ (i := 0) rfl
            have u1 : w5.cell? ⟨B, 1, none⟩ = some (.int .u32 mk) := HK2.out.ru.cell_ (i := 1) rfl
            have u2 : w5.cell? ⟨B, 2, none⟩ = some (.int .u32 x) := HK2.out.ru.cell_ (i := 2) rfl
            refine wp_region_held_drew (S := fun w' => w'.cell? ⟨B, 0, none⟩ = some (.int .i64 k) ∧ w'.cell? ⟨B, 1, none⟩ = some (.int .u32 mk) ∧ w'.cell? ⟨B, 2, none⟩ = some (.int .u32 x) ∧ w'.cell? ⟨gm, 0, none⟩ = some (.int .i64 1) ∧ w'.cell? ⟨gm + 1, 0, none⟩ = some (.int .i64 nx)) (by kernel_rfl) ⟨u0, u1, u2, n0, r0⟩ (fun hHeld => ?_)
            have HH1 := Lib.hid (HK2.out.keep (Only.refl Nil w5).drew)
            clear n0 r0 u0 u1 u2 HK2
            generalize w5.drew = y1 at *
            refine take_0 (.agg #[.int .i64 k, .int .u32 mk, .int .u32 x]) (by kernel_rfl) (by kernel_rfl) (by kernel_rfl) (fun _ _ _ h => h) (by rfl) (fun w hSw => ?_) (by assumption) ?_
            · (try dsimp only at hSw)
              go_split_ands
              go_simp
            (try simp only [Act.put, List.setIfInBounds_toArray, List.set_cons_zero, List.set_cons_succ])
            refine take_1 (.pointer (some ⟨b, 0, none⟩)) (by kernel_rfl) (by kernel_rfl) (by kernel_rfl) (fun _ _ _ h => h) (by rfl) (fun w hSw => ?_) (by assumption) ?_
            · (try dsimp only at hSw)
              go_split_ands
              go_simp
            (try simp only [Act.put, List.setIfInBounds_toArray, List.set_cons_zero, List.set_cons_succ])
            refine call_2 (by kernel_rfl) (by rfl) (fun K hK => ?_)
            go_simp
            refine (load_any b A' c' (V v t2 p2) 0 _ HH1.out.mem).mono ?_
            rw [V_at0]
            rintro e y2 ⟨rfl, hO, hM⟩
            have HH2 := Lib.hid (HH1.out.call hO (Memo.of hM))
            refine hK.out _ _ ⟨HH2.out.ru.cell_ (i := 0) rfl, HH2.out.ru.cell_ (i := 1) rfl, HH2.out.ru.cell_ (i := 2) rfl, HH2.out.rm.cell_ (i := 0) rfl, HH2.out.rs.cell_ (i := 0) rfl⟩ (fun hHeld2 => ?_)
            clear hK K hHeld hO hM HH1
            (try simp only [Act.put, List.setIfInBounds_toArray, List.set_cons_zero, List.set_cons_succ])
            refine call_3 (by kernel_rfl) (by rfl) (fun K hK => ?_)
            go_simp
            refine (is_any k mk x v _ HI2.out.1.1 HI2.out.1.2).mono ?_
            rw [HQ.out]
            rintro e y3 ⟨rfl, hO⟩
            have HH3 := Lib.hid (HH2.out.keep hO)
            refine hK.out _ _ ⟨HH3.out.ru.cell_ (i := 0) rfl, HH3.out.ru.cell_ (i := 1) rfl, HH3.out.ru.cell_ (i := 2) rfl, HH3.out.rm.cell_ (i := 0) rfl, HH3.out.rs.cell_ (i := 0) rfl⟩ (fun hHeld3 => ?_)
            clear hK K hHeld2 hO HH2
            (try simp only [Act.put, List.setIfInBounds_toArray, List.set_cons_zero, List.set_cons_succ])
            refine take_4 (.bool true) (by kernel_rfl) (by kernel_rfl) (by kernel_rfl) (fun _ _ _ h => h) (by rfl) (fun w hSw => ?_) (by assumption) ?_
            · (try dsimp only at hSw)
              go_split_ands
              go_simp
            (try simp only [Act.put, List.setIfInBounds_toArray, List.set_cons_zero, List.set_cons_succ])
            refine take_5 (.pointer (some ⟨b, 0, none⟩)) (by kernel_rfl) (by kernel_rfl) (by kernel_rfl) (fun _ _ _ h => h) (by rfl) (fun w hSw => ?_) (by assumption) ?_
            · (try dsimp only at hSw)
              go_split_ands
              go_simp
            (try simp only [Act.put, List.setIfInBounds_toArray, List.set_cons_zero, List.set_cons_succ])
            refine take_6 (.agg #[.int .i64 1]) (by kernel_rfl) (by kernel_rfl) (by kernel_rfl) (fun _ _ _ h => h) (by rfl) (fun w hSw => ?_) (by assumption) ?_
            · (try dsimp only at hSw)
              go_split_ands
              go_simp
            (try simp only [Act.put, List.setIfInBounds_toArray, List.set_cons_zero, List.set_cons_succ])
            refine take_7 (.agg #[.int .i64 nx]) (by kernel_rfl) (by kernel_rfl) (by kernel_rfl) (fun _ _ _ h => h) (by rfl) (fun w hSw => ?_) (by assumption) ?_
            · (try dsimp only at hSw)
              go_split_ands
              go_simp
            (try simp only [Act.put, List.setIfInBounds_toArray, List.set_cons_zero, List.set_cons_succ])
            refine call_8 (by kernel_rfl) (by rfl) (fun K hK => ?_)
            go_simp
            refine (stuck_any (some ⟨b, 0, none⟩) A' c' (V v t2 p2) 1 2 0 nx _ HH3.out.memo).mono ?_
            rw [HST.out]
            rintro e y4 ⟨rfl, hO, hM⟩
            have HH4 := Lib.hid (HH3.out.call hO hM)
            refine hK.out _ _ ⟨HH4.out.ru.cell_ (i := 0) rfl, HH4.out.ru.cell_ (i := 1) rfl, HH4.out.ru.cell_ (i := 2) rfl, HH4.out.rm.cell_ (i := 0) rfl, HH4.out.rs.cell_ (i := 0) rfl⟩ (fun hHeld4 => ?_)
            clear hK K hHeld3 hO hM HH3
            (try simp only [Act.put, List.setIfInBounds_toArray, List.set_cons_zero, List.set_cons_succ])
            refine take_9 (.bool false) (by kernel_rfl) (by kernel_rfl) (by kernel_rfl) (fun _ _ _ h => h) (by rfl) (fun w hSw => ?_) (by assumption) ?_
            · (try dsimp only at hSw)
              go_split_ands
              go_simp
            (try simp only [Act.put, List.setIfInBounds_toArray, List.set_cons_zero, List.set_cons_succ])
            refine wpAnyH_done (by kernel_rfl) ?_ _
            clear hHeld4
            go_wp2
            exact ⟨⟨j + 1, nx, v, t2, p2, by omega, by go_num, HI2.out, HH4.out⟩, by simp [intOf]; omega⟩
      · by_cases hk2 : kk = 2
        · subst hk2
          rcases HI.out.watch with rfl | rfl
          · skip
            go_wp2_with fail
            clear g1
            refine (store_any b A' c' (V v 0 p) 0 y _ HK.out.mem).mono ?_
            rw [show doNew (V v 0 p) 2 0 y 0 = V y 0 p by rw [doNew_st _ 2 _ _ _ rfl]; rfl]
            rintro e w3 ⟨rfl, hO, hM⟩
            have HK1 := Lib.hid (HK.out.call hO (Memo.of hM))
            clear hO hM
            have n1 : w3.cell? ⟨gm, 0, none⟩ = some (.int .i64 1) := HK1.out.rm.cell_ (i := 0) rfl
            go_wp2_with fail
            clear n1
            refine (watch_any 1 0 _).mono ?_
            rw [show cellI 1 2 0 = 10 by decide]
            rintro e w4 ⟨rfl, hO⟩
            have HK2 := Lib.hid (HK1.out.keep hO)
            clear hO HK1
            go_wp2_with fail
            refine (load_any b A' c' (V y 0 p) 10 _ HK2.out.mem).mono ?_
            rw [V_at10]
            rintro e w5 ⟨rfl, hO, hM⟩
            have HK3 := Lib.hid (HK2.out.call hO (Memo.of hM))
            clear hO hM HK2
            have n1 : w5.cell? ⟨gm, 0, none⟩ = some (.int .i64 1) := HK3.out.rm.cell_ (i := 0) rfl
            have HI2 := Lib.hid (HI.out.store HY.out)
            go_wp2_with fail
            clear n1 g0
            cases hq : uIs k mk x y
            · have HQ := Lib.hid hq
              clear hq
              have n0 : w5.cell? ⟨gm, 0, none⟩ = some (.int .i64 1) := HK3.out.rm.cell_ (i := 0) rfl
              have r0 : w5.cell? ⟨gm + 1, 0, none⟩ = some (.int .i64 s) := HK3.out.rs.cell_ (i := 0) rfl
              have u0 : w5.cell? ⟨B, 0, none⟩ = some (.int .i64 k) := HK3.out.ru.cell_ (i := 0) rfl
              have u1 : w5.cell? ⟨B, 1, none⟩ = some (.int .u32 mk) := HK3.out.ru.cell_ (i := 1) rfl
              have u2 : w5.cell? ⟨B, 2, none⟩ = some (.int .u32 x) := HK3.out.ru.cell_ (i := 2) rfl
              refine wp_region_held_drew (S := fun w' => w'.cell? ⟨B, 0, none⟩ = some (.int .i64 k) ∧ w'.cell? ⟨B, 1, none⟩ = some (.int .u32 mk) ∧ w'.cell? ⟨B, 2, none⟩ = some (.int .u32 x) ∧ w'.cell? ⟨gm, 0, none⟩ = some (.int .i64 1) ∧ w'.cell? ⟨gm + 1, 0, none⟩ = some (.int .i64 s)) (by kernel_rfl) ⟨u0, u1, u2, n0, r0⟩ (fun hHeld => ?_)
              have HH1 := Lib.hid (HK3.out.keep (Only.refl Nil w5).drew)
              clear n0 r0 u0 u1 u2 HK3
              generalize w5.drew = y1 at *
              refine take_0 (.agg #[.int .i64 k, .int .u32 mk, .int .u32 x]) (by kernel_rfl) (by kernel_rfl) (by kernel_rfl) (fun _ _ _ h => h) (by rfl) (fun w hSw => ?_) (by assumption) ?_
              · (try dsimp only at hSw)
                go_split_ands
                go_simp
              (try simp only [Act.put, List.setIfInBounds_toArray, List.set_cons_zero, List.set_cons_succ])
              refine take_1 (.pointer (some ⟨b, 0, none⟩)) (by kernel_rfl) (by kernel_rfl) (by kernel_rfl) (fun _ _ _ h => h) (by rfl) (fun w hSw => ?_) (by assumption) ?_
              · (try dsimp only at hSw)
                go_split_ands
                go_simp
              (try simp only [Act.put, List.setIfInBounds_toArray, List.set_cons_zero, List.set_cons_succ])
              refine call_2 (by kernel_rfl) (by rfl) (fun K hK => ?_)
              go_simp
              refine (load_any b A' c' (V y 0 p) 0 _ HH1.out.mem).mono ?_
              rw [V_at0]
              rintro e y2 ⟨rfl, hO, hM⟩
              have HH2 := Lib.hid (HH1.out.call hO (Memo.of hM))
              refine hK.out _ _ ⟨HH2.out.ru.cell_ (i := 0) rfl, HH2.out.ru.cell_ (i := 1) rfl, HH2.out.ru.cell_ (i := 2) rfl, HH2.out.rm.cell_ (i := 0) rfl, HH2.out.rs.cell_ (i := 0) rfl⟩ (fun hHeld2 => ?_)
              clear hK K hHeld hO hM HH1
              (try simp only [Act.put, List.setIfInBounds_toArray, List.set_cons_zero, List.set_cons_succ])
              refine call_3 (by kernel_rfl) (by rfl) (fun K hK => ?_)
              go_simp
              refine (is_any k mk x y _ HI2.out.1.1 HI2.out.1.2).mono ?_
              rw [HQ.out]
              rintro e y3 ⟨rfl, hO⟩
              have HH3 := Lib.hid (HH2.out.keep hO)
              refine hK.out _ _ ⟨HH3.out.ru.cell_ (i := 0) rfl, HH3.out.ru.cell_ (i := 1) rfl, HH3.out.ru.cell_ (i := 2) rfl, HH3.out.rm.cell_ (i := 0) rfl, HH3.out.rs.cell_ (i := 0) rfl⟩ (fun hHeld3 => ?_)
              clear hK K hHeld2 hO HH2
              (try simp only [Act.put, List.setIfInBounds_toArray, List.set_cons_zero, List.set_cons_succ])
              refine take_4 (.bool false) (by kernel_rfl) (by kernel_rfl) (by kernel_rfl) (fun _ _ _ h => h) (by rfl) (fun w hSw => ?_) (by assumption) ?_
              · (try dsimp only at hSw)
                go_split_ands
                go_simp
              (try simp only [Act.put, List.setIfInBounds_toArray, List.set_cons_zero, List.set_cons_succ])
              refine pass_5 (by kernel_rfl) (by kernel_rfl) (by kernel_rfl) (fun _ _ _ h => h) (by rfl) (by assumption) ?_
              (try simp only [Act.put, List.setIfInBounds_toArray, List.set_cons_zero, List.set_cons_succ])
              refine pass_6 (by kernel_rfl) (by kernel_rfl) (by kernel_rfl) (fun _ _ _ h => h) (by rfl) (by assumption) ?_
              (try simp only [Act.put, List.setIfInBounds_toArray, List.set_cons_zero, List.set_cons_succ])
              refine pass_7 (by kernel_rfl) (by kernel_rfl) (by kernel_rfl) (fun _ _ _ h => h) (by rfl) (by assumption) ?_
              (try simp only [Act.put, List.setIfInBounds_toArray, List.set_cons_zero, List.set_cons_succ])
              refine pass_8 (by kernel_rfl) (by kernel_rfl) (by kernel_rfl) (fun _ _ _ h => h) (by rfl) (by assumption) ?_
              (try simp only [Act.put, List.setIfInBounds_toArray, List.set_cons_zero, List.set_cons_succ])
              refine take_9 (.bool false) (by kernel_rfl) (by kernel_rfl) (by kernel_rfl) (fun _ _ _ h => h) (by rfl) (fun w hSw => ?_) (by assumption) ?_
              · (try dsimp only at hSw)
                go_split_ands
                go_simp
              (try simp only [Act.put, List.setIfInBounds_toArray, List.set_cons_zero, List.set_cons_succ])
              refine wpAnyH_done (by kernel_rfl) ?_ _
              clear hHeld3
              go_wp2
              exact ⟨⟨j + 1, s, y, 0, p, by omega, by go_num, HI2.out, HH3.out⟩, by simp [intOf]; omega⟩
            · have HQ := Lib.hid hq
              have HST := Lib.hid (HI2.out.stuck hq)
              clear hq
              have n0 : w5.cell? ⟨gm, 0, none⟩ = some (.int .i64 1) := HK3.out.rm.cell_ (i := 0) rfl
              have r0 : w5.cell? ⟨gm + 1, 0, none⟩ = some (.int .i64 s) := HK3.out.rs.cell_ (i := 0) rfl
              have u0 : w5.cell? ⟨B, 0, none⟩ = some (.int .i64 k) := HK3.out.ru.cell_ (i := 0) rfl
              have u1 : w5.cell? ⟨B, 1, none⟩ = some (.int .u32 mk) := HK3.out.ru.cell_ (i := 1) rfl
              have u2 : w5.cell? ⟨B, 2, none⟩ = some (.int .u32 x) := HK3.out.ru.cell_ (i := 2) rfl
              refine wp_region_held_drew (S := fun w' => w'.cell? ⟨B, 0, none⟩ = some (.int .i64 k) ∧ w'.cell? ⟨B, 1, none⟩ = some (.int .u32 mk) ∧ w'.cell? ⟨B, 2, none⟩ = some (.int .u32 x) ∧ w'.cell? ⟨gm, 0, none⟩ = some (.int .i64 1) ∧ w'.cell? ⟨gm + 1, 0, none⟩ = some (.int .i64 s)) (by kernel_rfl) ⟨u0, u1, u2, n0, r0⟩ (fun hHeld => ?_)
              have HH1 := Lib.hid (HK3.out.keep (Only.refl Nil w5).drew)
              clear n0 r0 u0 u1 u2 HK3
              generalize w5.drew = y1 at *
              refine take_0 (.agg #[.int .i64 k, .int .u32 mk, .int .u32 x]) (by kernel_rfl) (by kernel_rfl) (by kernel_rfl) (fun _ _ _ h => h) (by rfl) (fun w hSw => ?_) (by assumption) ?_
              · (try dsimp only at hSw)
                go_split_ands
                go_simp
              (try simp only [Act.put, List.setIfInBounds_toArray, List.set_cons_zero, List.set_cons_succ])
              refine take_1 (.pointer (some ⟨b, 0, none⟩)) (by kernel_rfl) (by kernel_rfl) (by kernel_rfl) (fun _ _ _ h => h) (by rfl) (fun w hSw => ?_) (by assumption) ?_
              · (try dsimp only at hSw)
                go_split_ands
                go_simp
              (try simp only [Act.put, List.setIfInBounds_toArray, List.set_cons_zero, List.set_cons_succ])
              refine call_2 (by kernel_rfl) (by rfl) (fun K hK => ?_)
              go_simp
              refine (load_any b A' c' (V y 0 p) 0 _ HH1.out.mem).mono ?_
              rw [V_at0]
              rintro e y2 ⟨rfl, hO, hM⟩
              have HH2 := Lib.hid (HH1.out.call hO (Memo.of hM))
              refine hK.out _ _ ⟨HH2.out.ru.cell_ (i := 0) rfl, HH2.out.ru.cell_ (i := 1) rfl, HH2.out.ru.cell_ (i := 2) rfl, HH2.out.rm.cell_ (i := 0) rfl, HH2.out.rs.cell_ (i := 0) rfl⟩ (fun hHeld2 => ?_)
              clear hK K hHeld hO hM HH1
              (try simp only [Act.put, List.setIfInBounds_toArray, List.set_cons_zero, List.set_cons_succ])
              refine call_3 (by kernel_rfl) (by rfl) (fun K hK => ?_)
              go_simp
              refine (is_any k mk x y _ HI2.out.1.1 HI2.out.1.2).mono ?_
              rw [HQ.out]
              rintro e y3 ⟨rfl, hO⟩
              have HH3 := Lib.hid (HH2.out.keep hO)
              refine hK.out _ _ ⟨HH3.out.ru.cell_ (i := 0) rfl, HH3.out.ru.cell_ (i := 1) rfl, HH3.out.ru.cell_ (i := 2) rfl, HH3.out.rm.cell_ (i := 0) rfl, HH3.out.rs.cell_ (i := 0) rfl⟩ (fun hHeld3 => ?_)
              clear hK K hHeld2 hO HH2
              (try simp only [Act.put, List.setIfInBounds_toArray, List.set_cons_zero, List.set_cons_succ])
              refine take_4 (.bool true) (by kernel_rfl) (by kernel_rfl) (by kernel_rfl) (fun _ _ _ h => h) (by rfl) (fun w hSw => ?_) (by assumption) ?_
              · (try dsimp only at hSw)
                go_split_ands
                go_simp
              (try simp only [Act.put, List.setIfInBounds_toArray, List.set_cons_zero, List.set_cons_succ])
              refine take_5 (.pointer (some ⟨b, 0, none⟩)) (by kernel_rfl) (by kernel_rfl) (by kernel_rfl) (fun _ _ _ h => h) (by rfl) (fun w hSw => ?_) (by assumption) ?_
              · (try dsimp only at hSw)
                go_split_ands
                go_simp
              (try simp only [Act.put, List.setIfInBounds_toArray, List.set_cons_zero, List.set_cons_succ])
              refine take_6 (.agg #[.int .i64 1]) (by kernel_rfl) (by kernel_rfl) (by kernel_rfl) (fun _ _ _ h => h) (by rfl) (fun w hSw => ?_) (by assumption) ?_
              · (try dsimp only at hSw)
                go_split_ands
                go_simp
              (try simp only [Act.put, List.setIfInBounds_toArray, List.set_cons_zero, List.set_cons_succ])
              refine take_7 (.agg #[.int .i64 s]) (by kernel_rfl) (by kernel_rfl) (by kernel_rfl) (fun _ _ _ h => h) (by rfl) (fun w hSw => ?_) (by assumption) ?_
              · (try dsimp only at hSw)
                go_split_ands
                go_simp
              (try simp only [Act.put, List.setIfInBounds_toArray, List.set_cons_zero, List.set_cons_succ])
              refine call_8 (by kernel_rfl) (by rfl) (fun K hK => ?_)
              go_simp
              refine (stuck_any (some ⟨b, 0, none⟩) A' c' (V y 0 p) 1 2 0 s _ HH3.out.memo).mono ?_
              rw [HST.out]
              rintro e y4 ⟨rfl, hO, hM⟩
              have HH4 := Lib.hid (HH3.out.call hO hM)
              refine hK.out _ _ ⟨HH4.out.ru.cell_ (i := 0) rfl, HH4.out.ru.cell_ (i := 1) rfl, HH4.out.ru.cell_ (i := 2) rfl, HH4.out.rm.cell_ (i := 0) rfl, HH4.out.rs.cell_ (i := 0) rfl⟩ (fun hHeld4 => ?_)
              clear hK K hHeld3 hO hM HH3
              (try simp only [Act.put, List.setIfInBounds_toArray, List.set_cons_zero, List.set_cons_succ])
              refine take_9 (.bool false) (by kernel_rfl) (by kernel_rfl) (by kernel_rfl) (fun _ _ _ h => h) (by rfl) (fun w hSw => ?_) (by assumption) ?_
              · (try dsimp only at hSw)
                go_split_ands
                go_simp
              (try simp only [Act.put, List.setIfInBounds_toArray, List.set_cons_zero, List.set_cons_succ])
              refine wpAnyH_done (by kernel_rfl) ?_ _
              clear hHeld4
              go_wp2
              exact ⟨⟨j + 1, s, y, 0, p, by omega, by go_num, HI2.out, HH4.out⟩, by simp [intOf]; omega⟩
          · skip
            go_wp2_with fail
            clear g1
            refine (store_any b A' c' (V v 1 p) 0 y _ HK.out.mem).mono ?_
            rw [show doNew (V v 1 p) 2 0 y 0 = V y 1 p by rw [doNew_st _ 2 _ _ _ rfl]; rfl]
            rintro e w3 ⟨rfl, hO, hM⟩
            have HK1 := Lib.hid (HK.out.call hO (Memo.of hM))
            clear hO hM
            have n1 : w3.cell? ⟨gm, 0, none⟩ = some (.int .i64 1) := HK1.out.rm.cell_ (i := 0) rfl
            go_wp2_with fail
            clear n1
            refine (watch_any 1 0 _).mono ?_
            rw [show cellI 1 2 0 = 10 by decide]
            rintro e w4 ⟨rfl, hO⟩
            have HK2 := Lib.hid (HK1.out.keep hO)
            clear hO HK1
            go_wp2_with fail
            refine (load_any b A' c' (V y 1 p) 10 _ HK2.out.mem).mono ?_
            rw [V_at10]
            rintro e w5 ⟨rfl, hO, hM⟩
            have HK3 := Lib.hid (HK2.out.call hO (Memo.of hM))
            clear hO hM HK2
            have n1 : w5.cell? ⟨gm, 0, none⟩ = some (.int .i64 1) := HK3.out.rm.cell_ (i := 0) rfl
            have HI2 := Lib.hid (HI.out.stored HY.out)
            go_wp2_with fail
            clear n1
            refine (give_any (some ⟨b, 0, none⟩) A' c' (V y 1 p) 1 0 _ HK3.out.memo).mono ?_
            generalize doVal (V y 1 p) 2 (pc 1 0) 1 0 = dv
            generalize there (V y 1 p) (pc 1 0) = th
            rw [pc11]
            rintro e w6 ⟨rfl, hO, hM⟩
            rw [V_st11] at hM
            have HK4 := Lib.hid (HK3.out.call hO hM)
            clear hO hM HK3
            go_wp2_with fail
            clear g0
            cases hq : uIs k mk x y
            · have HQ := Lib.hid hq
              clear hq
              have n0 : w6.cell? ⟨gm, 0, none⟩ = some (.int .i64 1) := HK4.out.rm.cell_ (i := 0) rfl
              have r0 : w6.cell? ⟨gm + 1, 0, none⟩ = some (.int .i64 s) := HK4.out.rs.cell_ (i := 0) rfl
              have u0 : w6.cell? ⟨B, 0, none⟩ = some (.int .i64 k) := HK4.out.ru.cell_ (i := 0) rfl
              have u1 : w6.cell? ⟨B, 1, none⟩ = some (.int .u32 mk) := HK4.out.ru.cell_ (i := 1) rfl
              have u2 : w6.cell? ⟨B, 2, none⟩ = some (.int .u32 x) := HK4.out.ru.cell_ (i := 2) rfl
              refine wp_region_held_drew (S := fun w' => w'.cell? ⟨B, 0, none⟩ = some (.int .i64 k) ∧ w'.cell? ⟨B, 1, none⟩ = some (.int .u32 mk) ∧ w'.cell? ⟨B, 2, none⟩ = some (.int .u32 x) ∧ w'.cell? ⟨gm, 0, none⟩ = some (.int .i64 1) ∧ w'.cell? ⟨gm + 1, 0, none⟩ = some (.int .i64 s)) (by kernel_rfl) ⟨u0, u1, u2, n0, r0⟩ (fun hHeld => ?_)
              have HH1 := Lib.hid (HK4.out.keep (Only.refl Nil w6).drew)
              clear n0 r0 u0 u1 u2 HK4
              generalize w6.drew = y1 at *
              refine take_0 (.agg #[.int .i64 k, .int .u32 mk, .int .u32 x]) (by kernel_rfl) (by kernel_rfl) (by kernel_rfl) (fun _ _ _ h => h) (by rfl) (fun w hSw => ?_) (by assumption) ?_
              · (try dsimp only at hSw)
                go_split_ands
                go_simp
              (try simp only [Act.put, List.setIfInBounds_toArray, List.set_cons_zero, List.set_cons_succ])
              refine take_1 (.pointer (some ⟨b, 0, none⟩)) (by kernel_rfl) (by kernel_rfl) (by kernel_rfl) (fun _ _ _ h => h) (by rfl) (fun w hSw => ?_) (by assumption) ?_
              · (try dsimp only at hSw)
                go_split_ands
                go_simp
              (try simp only [Act.put, List.setIfInBounds_toArray, List.set_cons_zero, List.set_cons_succ])
              refine call_2 (by kernel_rfl) (by rfl) (fun K hK => ?_)
              go_simp
              refine (load_any b A' c' (V y 1 1) 0 _ HH1.out.mem).mono ?_
              rw [V_at0]
              rintro e y2 ⟨rfl, hO, hM⟩
              have HH2 := Lib.hid (HH1.out.call hO (Memo.of hM))
              refine hK.out _ _ ⟨HH2.out.ru.cell_ (i := 0) rfl, HH2.out.ru.cell_ (i := 1) rfl, HH2.out.ru.cell_ (i := 2) rfl, HH2.out.rm.cell_ (i := 0) rfl, HH2.out.rs.cell_ (i := 0) rfl⟩ (fun hHeld2 => ?_)
              clear hK K hHeld hO hM HH1
              (try simp only [Act.put, List.setIfInBounds_toArray, List.set_cons_zero, List.set_cons_succ])
              refine call_3 (by kernel_rfl) (by rfl) (fun K hK => ?_)
              go_simp
              refine (is_any k mk x y _ HI2.out.1.1 HI2.out.1.2).mono ?_
              rw [HQ.out]
              rintro e y3 ⟨rfl, hO⟩
              have HH3 := Lib.hid (HH2.out.keep hO)
              refine hK.out _ _ ⟨HH3.out.ru.cell_ (i := 0) rfl, HH3.out.ru.cell_ (i := 1) rfl, HH3.out.ru.cell_ (i := 2) rfl, HH3.out.rm.cell_ (i := 0) rfl, HH3.out.rs.cell_ (i := 0) rfl⟩ (fun hHeld3 => ?_)
              clear hK K hHeld2 hO HH2
              (try simp only [Act.put, List.setIfInBounds_toArray, List.set_cons_zero, List.set_cons_succ])
              refine take_4 (.bool false) (by kernel_rfl) (by kernel_rfl) (by kernel_rfl) (fun _ _ _ h => h) (by rfl) (fun w hSw => ?_) (by assumption) ?_
              · (try dsimp only at hSw)
                go_split_ands
                go_simp
              (try simp only [Act.put, List.setIfInBounds_toArray, List.set_cons_zero, List.set_cons_succ])
              refine pass_5 (by kernel_rfl) (by kernel_rfl) (by kernel_rfl) (fun _ _ _ h => h) (by rfl) (by assumption) ?_
              (try simp only [Act.put, List.setIfInBounds_toArray, List.set_cons_zero, List.set_cons_succ])
              refine pass_6 (by kernel_rfl) (by kernel_rfl) (by kernel_rfl) (fun _ _ _ h => h) (by rfl) (by assumption) ?_
              (try simp only [Act.put, List.setIfInBounds_toArray, List.set_cons_zero, List.set_cons_succ])
              refine pass_7 (by kernel_rfl) (by kernel_rfl) (by kernel_rfl) (fun _ _ _ h => h) (by rfl) (by assumption) ?_
              (try simp only [Act.put, List.setIfInBounds_toArray, List.set_cons_zero, List.set_cons_succ])
              refine pass_8 (by kernel_rfl) (by kernel_rfl) (by kernel_rfl) (fun _ _ _ h => h) (by rfl) (by assumption) ?_
              (try simp only [Act.put, List.setIfInBounds_toArray, List.set_cons_zero, List.set_cons_succ])
              refine take_9 (.bool false) (by kernel_rfl) (by kernel_rfl) (by kernel_rfl) (fun _ _ _ h => h) (by rfl) (fun w hSw => ?_) (by assumption) ?_
              · (try dsimp only at hSw)
                go_split_ands
                go_simp
              (try simp only [Act.put, List.setIfInBounds_toArray, List.set_cons_zero, List.set_cons_succ])
              refine wpAnyH_done (by kernel_rfl) ?_ _
              clear hHeld3
              go_wp2
              exact ⟨⟨j + 1, s, y, 1, 1, by omega, by go_num, HI2.out, HH3.out⟩, by simp [intOf]; omega⟩
            · have HQ := Lib.hid hq
              have HST := Lib.hid (HI2.out.stuck hq)
              clear hq
              have n0 : w6.cell? ⟨gm, 0, none⟩ = some (.int .i64 1) := HK4.out.rm.cell_ (i := 0) rfl
              have r0 : w6.cell? ⟨gm + 1, 0, none⟩ = some (.int .i64 s) := HK4.out.rs.cell_ (i := 0) rfl
              have u0 : w6.cell? ⟨B, 0, none⟩ = some (.int .i64 k) := HK4.out.ru.cell_ (i := 0) rfl
              have u1 : w6.cell? ⟨B, 1, none⟩ = some (.int .u32 mk) := HK4.out.ru.cell_ (i := 1) rfl
              have u2 : w6.cell? ⟨B, 2, none⟩ = some (.int .u32 x) := HK4.out.ru.cell_ (i := 2) rfl
              refine wp_region_held_drew (S := fun w' => w'.cell? ⟨B, 0, none⟩ = some (.int .i64 k) ∧ w'.cell? ⟨B, 1, none⟩ = some (.int .u32 mk) ∧ w'.cell? ⟨B, 2, none⟩ = some (.int .u32 x) ∧ w'.cell? ⟨gm, 0, none⟩ = some (.int .i64 1) ∧ w'.cell? ⟨gm + 1, 0, none⟩ = some (.int .i64 s)) (by kernel_rfl) ⟨u0, u1, u2, n0, r0⟩ (fun hHeld => ?_)
              have HH1 := Lib.hid (HK4.out.keep (Only.refl Nil w6).drew)
              clear n0 r0 u0 u1 u2 HK4
              generalize w6.drew = y1 at *
              refine take_0 (.agg #[.int .i64 k, .int .u32 mk, .int .u32 x]) (by kernel_rfl) (by kernel_rfl) (by kernel_rfl) (fun _ _ _ h => h) (by rfl) (fun w hSw => ?_) (by assumption) ?_
              · (try dsimp only at hSw)
                go_split_ands
                go_simp
              (try simp only [Act.put, List.setIfInBounds_toArray, List.set_cons_zero, List.set_cons_succ])
              refine take_1 (.pointer (some ⟨b, 0, none⟩)) (by kernel_rfl) (by kernel_rfl) (by kernel_rfl) (fun _ _ _ h => h) (by rfl) (fun w hSw => ?_) (by assumption) ?_
              · (try dsimp only at hSw)
                go_split_ands
                go_simp
              (try simp only [Act.put, List.setIfInBounds_toArray, List.set_cons_zero, List.set_cons_succ])
              refine call_2 (by kernel_rfl) (by rfl) (fun K hK => ?_)
              go_simp
              refine (load_any b A' c' (V y 1 1) 0 _ HH1.out.mem).mono ?_
              rw [V_at0]
              rintro e y2 ⟨rfl, hO, hM⟩
              have HH2 := Lib.hid (HH1.out.call hO (Memo.of hM))
              refine hK.out _ _ ⟨HH2.out.ru.cell_ (i := 0) rfl, HH2.out.ru.cell_ (i := 1) rfl, HH2.out.ru.cell_ (i := 2) rfl, HH2.out.rm.cell_ (i := 0) rfl, HH2.out.rs.cell_ (i := 0) rfl⟩ (fun hHeld2 => ?_)
              clear hK K hHeld hO hM HH1
              (try simp only [Act.put, List.setIfInBounds_toArray, List.set_cons_zero, List.set_cons_succ])
              refine call_3 (by kernel_rfl) (by rfl) (fun K hK => ?_)
              go_simp
              refine (is_any k mk x y _ HI2.out.1.1 HI2.out.1.2).mono ?_
              rw [HQ.out]
              rintro e y3 ⟨rfl, hO⟩
              have HH3 := Lib.hid (HH2.out.keep hO)
              refine hK.out _ _ ⟨HH3.out.ru.cell_ (i := 0) rfl, HH3.out.ru.cell_ (i := 1) rfl, HH3.out.ru.cell_ (i := 2) rfl, HH3.out.rm.cell_ (i := 0) rfl, HH3.out.rs.cell_ (i := 0) rfl⟩ (fun hHeld3 => ?_)
              clear hK K hHeld2 hO HH2
              (try simp only [Act.put, List.setIfInBounds_toArray, List.set_cons_zero, List.set_cons_succ])
              refine take_4 (.bool true) (by kernel_rfl) (by kernel_rfl) (by kernel_rfl) (fun _ _ _ h => h) (by rfl) (fun w hSw => ?_) (by assumption) ?_
              · (try dsimp only at hSw)
                go_split_ands
                go_simp
              (try simp only [Act.put, List.setIfInBounds_toArray, List.set_cons_zero, List.set_cons_succ])
              refine take_5 (.pointer (some ⟨b, 0, none⟩)) (by kernel_rfl) (by kernel_rfl) (by kernel_rfl) (fun _ _ _ h => h) (by rfl) (fun w hSw => ?_) (by assumption) ?_
              · (try dsimp only at hSw)
                go_split_ands
                go_simp
              (try simp only [Act.put, List.setIfInBounds_toArray, List.set_cons_zero, List.set_cons_succ])
              refine take_6 (.agg #[.int .i64 1]) (by kernel_rfl) (by kernel_rfl) (by kernel_rfl) (fun _ _ _ h => h) (by rfl) (fun w hSw => ?_) (by assumption) ?_
              · (try dsimp only at hSw)
                go_split_ands
                go_simp
              (try simp only [Act.put, List.setIfInBounds_toArray, List.set_cons_zero, List.set_cons_succ])
              refine take_7 (.agg #[.int .i64 s]) (by kernel_rfl) (by kernel_rfl) (by kernel_rfl) (fun _ _ _ h => h) (by rfl) (fun w hSw => ?_) (by assumption) ?_
              · (try dsimp only at hSw)
                go_split_ands
                go_simp
              (try simp only [Act.put, List.setIfInBounds_toArray, List.set_cons_zero, List.set_cons_succ])
              refine call_8 (by kernel_rfl) (by rfl) (fun K hK => ?_)
              go_simp
              refine (stuck_any (some ⟨b, 0, none⟩) A' c' (V y 1 1) 1 2 0 s _ HH3.out.memo).mono ?_
              rw [HST.out]
              rintro e y4 ⟨rfl, hO, hM⟩
              have HH4 := Lib.hid (HH3.out.call hO hM)
              refine hK.out _ _ ⟨HH4.out.ru.cell_ (i := 0) rfl, HH4.out.ru.cell_ (i := 1) rfl, HH4.out.ru.cell_ (i := 2) rfl, HH4.out.rm.cell_ (i := 0) rfl, HH4.out.rs.cell_ (i := 0) rfl⟩ (fun hHeld4 => ?_)
              clear hK K hHeld3 hO hM HH3
              (try simp only [Act.put, List.setIfInBounds_toArray, List.set_cons_zero, List.set_cons_succ])
              refine take_9 (.bool false) (by kernel_rfl) (by kernel_rfl) (by kernel_rfl) (fun _ _ _ h => h) (by rfl) (fun w hSw => ?_) (by assumption) ?_
              · (try dsimp only at hSw)
                go_split_ands
                go_simp
              (try simp only [Act.put, List.setIfInBounds_toArray, List.set_cons_zero, List.set_cons_succ])
              refine wpAnyH_done (by kernel_rfl) ?_ _
              clear hHeld4
              go_wp2
              exact ⟨⟨j + 1, s, y, 1, 1, by omega, by go_num, HI2.out, HH4.out⟩, by simp [intOf]; omega⟩
        · by_cases hk3 : kk = 3
          · subst hk3
            have n1 : wr.cell? ⟨gm, 0, none⟩ = some (.int .i64 1) := HK.out.rm.cell_ (i := 0) rfl
            have HI2 := Lib.hid HI.out.give
            go_wp2_with fail
            clear n1 g1
            refine (give_any (some ⟨b, 0, none⟩) A' c' (V v t p) 1 0 _ HK.out.memo).mono ?_
            generalize doVal (V v t p) 2 (pc 1 0) 1 0 = dv
            generalize there (V v t p) (pc 1 0) = th
            rw [pc11]
            rintro e w6 ⟨rfl, hO, hM⟩
            rw [V_st11] at hM
            have HK4 := Lib.hid (HK.out.call hO hM)
            clear hO hM
            go_wp2_with fail
            clear g0
            cases hq : uIs k mk x v
            · have HQ := Lib.hid hq
              clear hq
              have n0 : w6.cell? ⟨gm, 0, none⟩ = some (.int .i64 1) := HK4.out.rm.cell_ (i := 0) rfl
              have r0 : w6.cell? ⟨gm + 1, 0, none⟩ = some (.int .i64 s) := HK4.out.rs.cell_ (i := 0) rfl
              have u0 : w6.cell? ⟨B, 0, none⟩ = some (.int .i64 k) := HK4.out.ru.cell_ (i := 0) rfl
              have u1 : w6.cell? ⟨B, 1, none⟩ = some (.int .u32 mk) := HK4.out.ru.cell_ (i := 1) rfl
              have u2 : w6.cell? ⟨B, 2, none⟩ = some (.int .u32 x) := HK4.out.ru.cell_ (i := 2) rfl
              refine wp_region_held_drew (S := fun w' => w'.cell? ⟨B, 0, none⟩ = some (.int .i64 k) ∧ w'.cell? ⟨B, 1, none⟩ = some (.int .u32 mk) ∧ w'.cell? ⟨B, 2, none⟩ = some (.int .u32 x) ∧ w'.cell? ⟨gm, 0, none⟩ = some (.int .i64 1) ∧ w'.cell? ⟨gm + 1, 0, none⟩ = some (.int .i64 s)) (by kernel_rfl) ⟨u0, u1, u2, n0, r0⟩ (fun hHeld => ?_)
              have HH1 := Lib.hid (HK4.out.keep (Only.refl Nil w6).drew)
              clear n0 r0 u0 u1 u2 HK4
              generalize w6.drew = y1 at *
              refine take_0 (.agg #[.int .i64 k, .int .u32 mk, .int .u32 x]) (by kernel_rfl) (by kernel_rfl) (by kernel_rfl) (fun _ _ _ h => h) (by rfl) (fun w hSw => ?_) (by assumption) ?_
              · (try dsimp only at hSw)
                go_split_ands
                go_simp
              (try simp only [Act.put, List.setIfInBounds_toArray, List.set_cons_zero, List.set_cons_succ])
              refine take_1 (.pointer (some ⟨b, 0, none⟩)) (by kernel_rfl) (by kernel_rfl) (by kernel_rfl) (fun _ _ _ h => h) (by rfl) (fun w hSw => ?_) (by assumption) ?_
              · (try dsimp only at hSw)
                go_split_ands
                go_simp
              (try simp only [Act.put, List.setIfInBounds_toArray, List.set_cons_zero, List.set_cons_succ])
              refine call_2 (by kernel_rfl) (by rfl) (fun K hK => ?_)
              go_simp
              refine (load_any b A' c' (V v t 1) 0 _ HH1.out.mem).mono ?_
              rw [V_at0]
              rintro e y2 ⟨rfl, hO, hM⟩
              have HH2 := Lib.hid (HH1.out.call hO (Memo.of hM))
              refine hK.out _ _ ⟨HH2.out.ru.cell_ (i := 0) rfl, HH2.out.ru.cell_ (i := 1) rfl, HH2.out.ru.cell_ (i := 2) rfl, HH2.out.rm.cell_ (i := 0) rfl, HH2.out.rs.cell_ (i := 0) rfl⟩ (fun hHeld2 => ?_)
              clear hK K hHeld hO hM HH1
              (try simp only [Act.put, List.setIfInBounds_toArray, List.set_cons_zero, List.set_cons_succ])
              refine call_3 (by kernel_rfl) (by rfl) (fun K hK => ?_)
              go_simp
              refine (is_any k mk x v _ HI2.out.1.1 HI2.out.1.2).mono ?_
              rw [HQ.out]
              rintro e y3 ⟨rfl, hO⟩
              have HH3 := Lib.hid (HH2.out.keep hO)
              refine hK.out _ _ ⟨HH3.out.ru.cell_ (i := 0) rfl, HH3.out.ru.cell_ (i := 1) rfl, HH3.out.ru.cell_ (i := 2) rfl, HH3.out.rm.cell_ (i := 0) rfl, HH3.out.rs.cell_ (i := 0) rfl⟩ (fun hHeld3 => ?_)
              clear hK K hHeld2 hO HH2
              (try simp only [Act.put, List.setIfInBounds_toArray, List.set_cons_zero, List.set_cons_succ])
              refine take_4 (.bool false) (by kernel_rfl) (by kernel_rfl) (by kernel_rfl) (fun _ _ _ h => h) (by rfl) (fun w hSw => ?_) (by assumption) ?_
              · (try dsimp only at hSw)
                go_split_ands
                go_simp
              (try simp only [Act.put, List.setIfInBounds_toArray, List.set_cons_zero, List.set_cons_succ])
              refine pass_5 (by kernel_rfl) (by kernel_rfl) (by kernel_rfl) (fun _ _ _ h => h) (by rfl) (by assumption) ?_
              (try simp only [Act.put, List.setIfInBounds_toArray, List.set_cons_zero, List.set_cons_succ])
              refine pass_6 (by kernel_rfl) (by kernel_rfl) (by kernel_rfl) (fun _ _ _ h => h) (by rfl) (by assumption) ?_
              (try simp only [Act.put, List.setIfInBounds_toArray, List.set_cons_zero, List.set_cons_succ])
              refine pass_7 (by kernel_rfl) (by kernel_rfl) (by kernel_rfl) (fun _ _ _ h => h) (by rfl) (by assumption) ?_
              (try simp only [Act.put, List.setIfInBounds_toArray, List.set_cons_zero, List.set_cons_succ])
              refine pass_8 (by kernel_rfl) (by kernel_rfl) (by kernel_rfl) (fun _ _ _ h => h) (by rfl) (by assumption) ?_
              (try simp only [Act.put, List.setIfInBounds_toArray, List.set_cons_zero, List.set_cons_succ])
              refine take_9 (.bool false) (by kernel_rfl) (by kernel_rfl) (by kernel_rfl) (fun _ _ _ h => h) (by rfl) (fun w hSw => ?_) (by assumption) ?_
              · (try dsimp only at hSw)
                go_split_ands
                go_simp
              (try simp only [Act.put, List.setIfInBounds_toArray, List.set_cons_zero, List.set_cons_succ])
              refine wpAnyH_done (by kernel_rfl) ?_ _
              clear hHeld3
              go_wp2
              exact ⟨⟨j + 1, s, v, t, 1, by omega, by go_num, HI2.out, HH3.out⟩, by simp [intOf]; omega⟩
            · have HQ := Lib.hid hq
              have HST := Lib.hid (HI2.out.stuck hq)
              clear hq
              have n0 : w6.cell? ⟨gm, 0, none⟩ = some (.int .i64 1) := HK4.out.rm.cell_ (i := 0) rfl
              have r0 : w6.cell? ⟨gm + 1, 0, none⟩ = some (.int .i64 s) := HK4.out.rs.cell_ (i := 0) rfl
              have u0 : w6.cell? ⟨B, 0, none⟩ = some (.int .i64 k) := HK4.out.ru.cell_ (i := 0) rfl
              have u1 : w6.cell? ⟨B, 1, none⟩ = some (.int .u32 mk) := HK4.out.ru.cell_ (i := 1) rfl
              have u2 : w6.cell? ⟨B, 2, none⟩ = some (.int .u32 x) := HK4.out.ru.cell_ (i := 2) rfl
              refine wp_region_held_drew (S := fun w' => w'.cell? ⟨B, 0, none⟩ = some (.int .i64 k) ∧ w'.cell? ⟨B, 1, none⟩ = some (.int .u32 mk) ∧ w'.cell? ⟨B, 2, none⟩ = some (.int .u32 x) ∧ w'.cell? ⟨gm, 0, none⟩ = some (.int .i64 1) ∧ w'.cell? ⟨gm + 1, 0, none⟩ = some (.int .i64 s)) (by kernel_rfl) ⟨u0, u1, u2, n0, r0⟩ (fun hHeld => ?_)
              have HH1 := Lib.hid (HK4.out.keep (Only.refl Nil w6).drew)
              clear n0 r0 u0 u1 u2 HK4
              generalize w6.drew = y1 at *
              refine take_0 (.agg #[.int .i64 k, .int .u32 mk, .int .u32 x]) (by kernel_rfl) (by kernel_rfl) (by kernel_rfl) (fun _ _ _ h => h) (by rfl) (fun w hSw => ?_) (by assumption) ?_
              · (try dsimp only at hSw)
                go_split_ands
                go_simp
              (try simp only [Act.put, List.setIfInBounds_toArray, List.set_cons_zero, List.set_cons_succ])
              refine take_1 (.pointer (some ⟨b, 0, none⟩)) (by kernel_rfl) (by kernel_rfl) (by kernel_rfl) (fun _ _ _ h => h) (by rfl) (fun w hSw => ?_) (by assumption) ?_
              · (try dsimp only at hSw)
                go_split_ands
                go_simp
              (try simp only [Act.put, List.setIfInBounds_toArray, List.set_cons_zero, List.set_cons_succ])
              refine call_2 (by kernel_rfl) (by rfl) (fun K hK => ?_)
              go_simp
              refine (load_any b A' c' (V v t 1) 0 _ HH1.out.mem).mono ?_
              rw [V_at0]
              rintro e y2 ⟨rfl, hO, hM⟩
              have HH2 := Lib.hid (HH1.out.call hO (Memo.of hM))
              refine hK.out _ _ ⟨HH2.out.ru.cell_ (i := 0) rfl, HH2.out.ru.cell_ (i := 1) rfl, HH2.out.ru.cell_ (i := 2) rfl, HH2.out.rm.cell_ (i := 0) rfl, HH2.out.rs.cell_ (i := 0) rfl⟩ (fun hHeld2 => ?_)
              clear hK K hHeld hO hM HH1
              (try simp only [Act.put, List.setIfInBounds_toArray, List.set_cons_zero, List.set_cons_succ])
              refine call_3 (by kernel_rfl) (by rfl) (fun K hK => ?_)
              go_simp
              refine (is_any k mk x v _ HI2.out.1.1 HI2.out.1.2).mono ?_
              rw [HQ.out]
              rintro e y3 ⟨rfl, hO⟩
              have HH3 := Lib.hid (HH2.out.keep hO)
              refine hK.out _ _ ⟨HH3.out.ru.cell_ (i := 0) rfl, HH3.out.ru.cell_ (i := 1) rfl, HH3.out.ru.cell_ (i := 2) rfl, HH3.out.rm.cell_ (i := 0) rfl, HH3.out.rs.cell_ (i := 0) rfl⟩ (fun hHeld3 => ?_)
              clear hK K hHeld2 hO HH2
              (try simp only [Act.put, List.setIfInBounds_toArray, List.set_cons_zero, List.set_cons_succ])
              refine take_4 (.bool true) (by kernel_rfl) (by kernel_rfl) (by kernel_rfl) (fun _ _ _ h => h) (by rfl) (fun w hSw => ?_) (by assumption) ?_
              · (try dsimp only at hSw)
                go_split_ands
                go_simp
              (try simp only [Act.put, List.setIfInBounds_toArray, List.set_cons_zero, List.set_cons_succ])
              refine take_5 (.pointer (some ⟨b, 0, none⟩)) (by kernel_rfl) (by kernel_rfl) (by kernel_rfl) (fun _ _ _ h => h) (by rfl) (fun w hSw => ?_) (by assumption) ?_
              · (try dsimp only at hSw)
                go_split_ands
                go_simp
              (try simp only [Act.put, List.setIfInBounds_toArray, List.set_cons_zero, List.set_cons_succ])
              refine take_6 (.agg #[.int .i64 1]) (by kernel_rfl) (by kernel_rfl) (by kernel_rfl) (fun _ _ _ h => h) (by rfl) (fun w hSw => ?_) (by assumption) ?_
              · (try dsimp only at hSw)
                go_split_ands
                go_simp
              (try simp only [Act.put, List.setIfInBounds_toArray, List.set_cons_zero, List.set_cons_succ])
              refine take_7 (.agg #[.int .i64 s]) (by kernel_rfl) (by kernel_rfl) (by kernel_rfl) (fun _ _ _ h => h) (by rfl) (fun w hSw => ?_) (by assumption) ?_
              · (try dsimp only at hSw)
                go_split_ands
                go_simp
              (try simp only [Act.put, List.setIfInBounds_toArray, List.set_cons_zero, List.set_cons_succ])
              refine call_8 (by kernel_rfl) (by rfl) (fun K hK => ?_)
              go_simp
              refine (stuck_any (some ⟨b, 0, none⟩) A' c' (V v t 1) 1 2 0 s _ HH3.out.memo).mono ?_
              rw [HST.out]
              rintro e y4 ⟨rfl, hO, hM⟩
              have HH4 := Lib.hid (HH3.out.call hO hM)
              refine hK.out _ _ ⟨HH4.out.ru.cell_ (i := 0) rfl, HH4.out.ru.cell_ (i := 1) rfl, HH4.out.ru.cell_ (i := 2) rfl, HH4.out.rm.cell_ (i := 0) rfl, HH4.out.rs.cell_ (i := 0) rfl⟩ (fun hHeld4 => ?_)
              clear hK K hHeld3 hO hM HH3
              (try simp only [Act.put, List.setIfInBounds_toArray, List.set_cons_zero, List.set_cons_succ])
              refine take_9 (.bool false) (by kernel_rfl) (by kernel_rfl) (by kernel_rfl) (fun _ _ _ h => h) (by rfl) (fun w hSw => ?_) (by assumption) ?_
              · (try dsimp only at hSw)
                go_split_ands
                go_simp
              (try simp only [Act.put, List.setIfInBounds_toArray, List.set_cons_zero, List.set_cons_succ])
              refine wpAnyH_done (by kernel_rfl) ?_ _
              clear hHeld4
              go_wp2
              exact ⟨⟨j + 1, s, v, t, 1, by omega, by go_num, HI2.out, HH4.out⟩, by simp [intOf]; omega⟩
          · have h0' := beq_eq_false_iff_ne.2 hk0
            have h2' := beq_eq_false_iff_ne.2 hk2
            have h3' := beq_eq_false_iff_ne.2 hk3
            go_wp2_with fail
            clear g0 g1
            have HK5 := Lib.hid HK.out
            clear HK
            cases hq : uIs k mk x v
            · have HQ := Lib.hid hq
              clear hq
              have n0 : wr.cell? ⟨gm, 0, none⟩ = some (.int .i64 1) := HK5.out.rm.cell_ (i := 0) rfl
              have r0 : wr.cell? ⟨gm + 1, 0, none⟩ = some (.int .i64 s) := HK5.out.rs.cell_ (i := 0) rfl
              have u0 : wr.cell? ⟨B, 0, none⟩ = some (.int .i64 k) := HK5.out.ru.cell_ (i := 0) rfl
              have u1 : wr.cell? ⟨B, 1, none⟩ = some (.int .u32 mk) := HK5.out.ru.cell_ (i := 1) rfl
              have u2 : wr.cell? ⟨B, 2, none⟩ = some (.int .u32 x) := HK5.out.ru.cell_ (i := 2) rfl
              refine wp_region_held_drew (S := fun w' => w'.cell? ⟨B, 0, none⟩ = some (.int .i64 k) ∧ w'.cell? ⟨B, 1, none⟩ = some (.int .u32 mk) ∧ w'.cell? ⟨B, 2, none⟩ = some (.int .u32 x) ∧ w'.cell? ⟨gm, 0, none⟩ = some (.int .i64 1) ∧ w'.cell? ⟨gm + 1, 0, none⟩ = some (.int .i64 s)) (by kernel_rfl) ⟨u0, u1, u2, n0, r0⟩ (fun hHeld => ?_)
              have HH1 := Lib.hid (HK5.out.keep (Only.refl Nil wr).drew)
              clear n0 r0 u0 u1 u2 HK5
              generalize wr.drew = y1 at *
              refine take_0 (.agg #[.int .i64 k, .int .u32 mk, .int .u32 x]) (by kernel_rfl) (by kernel_rfl) (by kernel_rfl) (fun _ _ _ h => h) (by rfl) (fun w hSw => ?_) (by assumption) ?_
              · (try dsimp only at hSw)
                go_split_ands
                go_simp
              (try simp only [Act.put, List.setIfInBounds_toArray, List.set_cons_zero, List.set_cons_succ])
              refine take_1 (.pointer (some ⟨b, 0, none⟩)) (by kernel_rfl) (by kernel_rfl) (by kernel_rfl) (fun _ _ _ h => h) (by rfl) (fun w hSw => ?_) (by assumption) ?_
              · (try dsimp only at hSw)
                go_split_ands
                go_simp
              (try simp only [Act.put, List.setIfInBounds_toArray, List.set_cons_zero, List.set_cons_succ])
              refine call_2 (by kernel_rfl) (by rfl) (fun K hK => ?_)
              go_simp
              refine (load_any b A' c' (V v t p) 0 _ HH1.out.mem).mono ?_
              rw [V_at0]
              rintro e y2 ⟨rfl, hO, hM⟩
              have HH2 := Lib.hid (HH1.out.call hO (Memo.of hM))
              refine hK.out _ _ ⟨HH2.out.ru.cell_ (i := 0) rfl, HH2.out.ru.cell_ (i := 1) rfl, HH2.out.ru.cell_ (i := 2) rfl, HH2.out.rm.cell_ (i := 0) rfl, HH2.out.rs.cell_ (i := 0) rfl⟩ (fun hHeld2 => ?_)
              clear hK K hHeld hO hM HH1
              (try simp only [Act.put, List.setIfInBounds_toArray, List.set_cons_zero, List.set_cons_succ])
              refine call_3 (by kernel_rfl) (by rfl) (fun K hK => ?_)
              go_simp
              refine (is_any k mk x v _ HI.out.1.1 HI.out.1.2).mono ?_
              rw [HQ.out]
              rintro e y3 ⟨rfl, hO⟩
              have HH3 := Lib.hid (HH2.out.keep hO)
              refine hK.out _ _ ⟨HH3.out.ru.cell_ (i := 0) rfl, HH3.out.ru.cell_ (i := 1) rfl, HH3.out.ru.cell_ (i := 2) rfl, HH3.out.rm.cell_ (i := 0) rfl, HH3.out.rs.cell_ (i := 0) rfl⟩ (fun hHeld3 => ?_)
              clear hK K hHeld2 hO HH2
              (try simp only [Act.put, List.setIfInBounds_toArray, List.set_cons_zero, List.set_cons_succ])
              refine take_4 (.bool false) (by kernel_rfl) (by kernel_rfl) (by kernel_rfl) (fun _ _ _ h => h) (by rfl) (fun w hSw => ?_) (by assumption) ?_
              · (try dsimp only at hSw)
                go_split_ands
                go_simp
              (try simp only [Act.put, List.setIfInBounds_toArray, List.set_cons_zero, List.set_cons_succ])
              refine pass_5 (by kernel_rfl) (by kernel_rfl) (by kernel_rfl) (fun _ _ _ h => h) (by rfl) (by assumption) ?_
              (try simp only [Act.put, List.setIfInBounds_toArray, List.set_cons_zero, List.set_cons_succ])
              refine pass_6 (by kernel_rfl) (by kernel_rfl) (by kernel_rfl) (fun _ _ _ h => h) (by rfl) (by assumption) ?_
              (try simp only [Act.put, List.setIfInBounds_toArray, List.set_cons_zero, List.set_cons_succ])
              refine pass_7 (by kernel_rfl) (by kernel_rfl) (by kernel_rfl) (fun _ _ _ h => h) (by rfl) (by assumption) ?_
              (try simp only [Act.put, List.setIfInBounds_toArray, List.set_cons_zero, List.set_cons_succ])
              refine pass_8 (by kernel_rfl) (by kernel_rfl) (by kernel_rfl) (fun _ _ _ h => h) (by rfl) (by assumption) ?_
              (try simp only [Act.put, List.setIfInBounds_toArray, List.set_cons_zero, List.set_cons_succ])
              refine take_9 (.bool false) (by kernel_rfl) (by kernel_rfl) (by kernel_rfl) (fun _ _ _ h => h) (by rfl) (fun w hSw => ?_) (by assumption) ?_
              · (try dsimp only at hSw)
                go_split_ands
                go_simp
              (try simp only [Act.put, List.setIfInBounds_toArray, List.set_cons_zero, List.set_cons_succ])
              refine wpAnyH_done (by kernel_rfl) ?_ _
              clear hHeld3
              go_wp2
              exact ⟨⟨j + 1, s, v, t, p, by omega, by go_num, HI.out, HH3.out⟩, by simp [intOf]; omega⟩
            · have HQ := Lib.hid hq
              have HST := Lib.hid (HI.out.stuck hq)
              clear hq
              have n0 : wr.cell? ⟨gm, 0, none⟩ = some (.int .i64 1) := HK5.out.rm.cell_ (i := 0) rfl
              have r0 : wr.cell? ⟨gm + 1, 0, none⟩ = some (.int .i64 s) := HK5.out.rs.cell_ (i := 0) rfl
              have u0 : wr.cell? ⟨B, 0, none⟩ = some (.int .i64 k) := HK5.out.ru.cell_ (i := 0) rfl
              have u1 : wr.cell? ⟨B, 1, none⟩ = some (.int .u32 mk) := HK5.out.ru.cell_ (i := 1) rfl
              have u2 : wr.cell? ⟨B, 2, none⟩ = some (.int .u32 x) := HK5.out.ru.cell_ (i := 2) rfl
              refine wp_region_held_drew (S := fun w' => w'.cell? ⟨B, 0, none⟩ = some (.int .i64 k) ∧ w'.cell? ⟨B, 1, none⟩ = some (.int .u32 mk) ∧ w'.cell? ⟨B, 2, none⟩ = some (.int .u32 x) ∧ w'.cell? ⟨gm, 0, none⟩ = some (.int .i64 1) ∧ w'.cell? ⟨gm + 1, 0, none⟩ = some (.int .i64 s)) (by kernel_rfl) ⟨u0, u1, u2, n0, r0⟩ (fun hHeld => ?_)
              have HH1 := Lib.hid (HK5.out.keep (Only.refl Nil wr).drew)
              clear n0 r0 u0 u1 u2 HK5
              generalize wr.drew = y1 at *
              refine take_0 (.agg #[.int .i64 k, .int .u32 mk, .int .u32 x]) (by kernel_rfl) (by kernel_rfl) (by kernel_rfl) (fun _ _ _ h => h) (by rfl) (fun w hSw => ?_) (by assumption) ?_
              · (try dsimp only at hSw)
                go_split_ands
                go_simp
              (try simp only [Act.put, List.setIfInBounds_toArray, List.set_cons_zero, List.set_cons_succ])
              refine take_1 (.pointer (some ⟨b, 0, none⟩)) (by kernel_rfl) (by kernel_rfl) (by kernel_rfl) (fun _ _ _ h => h) (by rfl) (fun w hSw => ?_) (by assumption) ?_
              · (try dsimp only at hSw)
                go_split_ands
                go_simp
              (try simp only [Act.put, List.setIfInBounds_toArray, List.set_cons_zero, List.set_cons_succ])
              refine call_2 (by kernel_rfl) (by rfl) (fun K hK => ?_)
              go_simp
              refine (load_any b A' c' (V v t p) 0 _ HH1.out.mem).mono ?_
              rw [V_at0]
              rintro e y2 ⟨rfl, hO, hM⟩
              have HH2 := Lib.hid (HH1.out.call hO (Memo.of hM))
              refine hK.out _ _ ⟨HH2.out.ru.cell_ (i := 0) rfl, HH2.out.ru.cell_ (i := 1) rfl, HH2.out.ru.cell_ (i := 2) rfl, HH2.out.rm.cell_ (i := 0) rfl, HH2.out.rs.cell_ (i := 0) rfl⟩ (fun hHeld2 => ?_)
              clear hK K hHeld hO hM HH1
              (try simp only [Act.put, List.setIfInBounds_toArray, List.set_cons_zero, List.set_cons_succ])
              refine call_3 (by kernel_rfl) (by rfl) (fun K hK => ?_)
              go_simp
              refine (is_any k mk x v _ HI.out.1.1 HI.out.1.2).mono ?_
              rw [HQ.out]
              rintro e y3 ⟨rfl, hO⟩
              have HH3 := Lib.hid (HH2.out.keep hO)
              refine hK.out _ _ ⟨HH3.out.ru.cell_ (i := 0) rfl, HH3.out.ru.cell_ (i := 1) rfl, HH3.out.ru.cell_ (i := 2) rfl, HH3.out.rm.cell_ (i := 0) rfl, HH3.out.rs.cell_ (i := 0) rfl⟩ (fun hHeld3 => ?_)
              clear hK K hHeld2 hO HH2
              (try simp only [Act.put, List.setIfInBounds_toArray, List.set_cons_zero, List.set_cons_succ])
              refine take_4 (.bool true) (by kernel_rfl) (by kernel_rfl) (by kernel_rfl) (fun _ _ _ h => h) (by rfl) (fun w hSw => ?_) (by assumption) ?_
              · (try dsimp only at hSw)
                go_split_ands
                go_simp
              (try simp only [Act.put, List.setIfInBounds_toArray, List.set_cons_zero, List.set_cons_succ])
              refine take_5 (.pointer (some ⟨b, 0, none⟩)) (by kernel_rfl) (by kernel_rfl) (by kernel_rfl) (fun _ _ _ h => h) (by rfl) (fun w hSw => ?_) (by assumption) ?_
              · (try dsimp only at hSw)
                go_split_ands
                go_simp
              (try simp only [Act.put, List.setIfInBounds_toArray, List.set_cons_zero, List.set_cons_succ])
              refine take_6 (.agg #[.int .i64 1]) (by kernel_rfl) (by kernel_rfl) (by kernel_rfl) (fun _ _ _ h => h) (by rfl) (fun w hSw => ?_) (by assumption) ?_
              · (try dsimp only at hSw)
                go_split_ands
                go_simp
              (try simp only [Act.put, List.setIfInBounds_toArray, List.set_cons_zero, List.set_cons_succ])
              refine take_7 (.agg #[.int .i64 s]) (by kernel_rfl) (by kernel_rfl) (by kernel_rfl) (fun _ _ _ h => h) (by rfl) (fun w hSw => ?_) (by assumption) ?_
              · (try dsimp only at hSw)
                go_split_ands
                go_simp
              (try simp only [Act.put, List.setIfInBounds_toArray, List.set_cons_zero, List.set_cons_succ])
              refine call_8 (by kernel_rfl) (by rfl) (fun K hK => ?_)
              go_simp
              refine (stuck_any (some ⟨b, 0, none⟩) A' c' (V v t p) 1 2 0 s _ HH3.out.memo).mono ?_
              rw [HST.out]
              rintro e y4 ⟨rfl, hO, hM⟩
              have HH4 := Lib.hid (HH3.out.call hO hM)
              refine hK.out _ _ ⟨HH4.out.ru.cell_ (i := 0) rfl, HH4.out.ru.cell_ (i := 1) rfl, HH4.out.ru.cell_ (i := 2) rfl, HH4.out.rm.cell_ (i := 0) rfl, HH4.out.rs.cell_ (i := 0) rfl⟩ (fun hHeld4 => ?_)
              clear hK K hHeld3 hO hM HH3
              (try simp only [Act.put, List.setIfInBounds_toArray, List.set_cons_zero, List.set_cons_succ])
              refine take_9 (.bool false) (by kernel_rfl) (by kernel_rfl) (by kernel_rfl) (fun _ _ _ h => h) (by rfl) (fun w hSw => ?_) (by assumption) ?_
              · (try dsimp only at hSw)
                go_split_ands
                go_simp
              (try simp only [Act.put, List.setIfInBounds_toArray, List.set_cons_zero, List.set_cons_succ])
              refine wpAnyH_done (by kernel_rfl) ?_ _
              clear hHeld4
              go_wp2
              exact ⟨⟨j + 1, s, v, t, p, by omega, by go_num, HI.out, HH4.out⟩, by simp [intOf]; omega⟩
    · go_wp2_with fail
      cases hq : uIs k mk x v
      · have HQ := Lib.hid hq
        clear hq
        have HK5 := Lib.hid HK.out
        clear HK
        have n0 : wr.cell? ⟨gm, 0, none⟩ = some (.int .i64 1) := HK5.out.rm.cell_ (i := 0) rfl
        have r0 : wr.cell? ⟨gm + 1, 0, none⟩ = some (.int .i64 s) := HK5.out.rs.cell_ (i := 0) rfl
        have u0 : wr.cell? ⟨B, 0, none⟩ = some (.int .i64 k) := HK5.out.ru.cell_ (i := 0) rfl
        have u1 : wr.cell? ⟨B, 1, none⟩ = some (.int .u32 mk) := HK5.out.ru.cell_ (i := 1) rfl
        have u2 : wr.cell? ⟨B, 2, none⟩ = some (.int .u32 x) := HK5.out.ru.cell_ (i := 2) rfl
        refine wp_region_held_drew (S := fun w' => w'.cell? ⟨B, 0, none⟩ = some (.int .i64 k) ∧ w'.cell? ⟨B, 1, none⟩ = some (.int .u32 mk) ∧ w'.cell? ⟨B, 2, none⟩ = some (.int .u32 x) ∧ w'.cell? ⟨gm, 0, none⟩ = some (.int .i64 1) ∧ w'.cell? ⟨gm + 1, 0, none⟩ = some (.int .i64 s)) (by kernel_rfl) ⟨u0, u1, u2, n0, r0⟩ (fun hHeld => ?_)
        have HH1 := Lib.hid (HK5.out.keep (Only.refl Nil wr).drew)
        clear n0 r0 u0 u1 u2 HK5
        generalize wr.drew = y1 at *
        refine take_0 (.agg #[.int .i64 k, .int .u32 mk, .int .u32 x]) (by kernel_rfl) (by kernel_rfl) (by kernel_rfl) (fun _ _ _ h => h) (by rfl) (fun w hSw => ?_) (by assumption) ?_
        · (try dsimp only at hSw)
          go_split_ands
          go_simp
        (try simp only [Act.put, List.setIfInBounds_toArray, List.set_cons_zero, List.set_cons_succ])
        refine take_1 (.pointer (some ⟨b, 0, none⟩)) (by kernel_rfl) (by kernel_rfl) (by kernel_rfl) (fun _ _ _ h => h) (by rfl) (fun w hSw => ?_) (by assumption) ?_
        · (try dsimp only at hSw)
          go_split_ands
          go_simp
        (try simp only [Act.put, List.setIfInBounds_toArray, List.set_cons_zero, List.set_cons_succ])
        refine call_2 (by kernel_rfl) (by rfl) (fun K hK => ?_)
        go_simp
        refine (load_any b A' c' (V v t p) 0 _ HH1.out.mem).mono ?_
        rw [V_at0]
        rintro e y2 ⟨rfl, hO, hM⟩
        have HH2 := Lib.hid (HH1.out.call hO (Memo.of hM))
        refine hK.out _ _ ⟨HH2.out.ru.cell_ (i := 0) rfl, HH2.out.ru.cell_ (i := 1) rfl, HH2.out.ru.cell_ (i := 2) rfl, HH2.out.rm.cell_ (i := 0) rfl, HH2.out.rs.cell_ (i := 0) rfl⟩ (fun hHeld2 => ?_)
        clear hK K hHeld hO hM HH1
        (try simp only [Act.put, List.setIfInBounds_toArray, List.set_cons_zero, List.set_cons_succ])
        refine call_3 (by kernel_rfl) (by rfl) (fun K hK => ?_)
        go_simp
        refine (is_any k mk x v _ HI.out.1.1 HI.out.1.2).mono ?_
        rw [HQ.out]
        rintro e y3 ⟨rfl, hO⟩
        have HH3 := Lib.hid (HH2.out.keep hO)
        refine hK.out _ _ ⟨HH3.out.ru.cell_ (i := 0) rfl, HH3.out.ru.cell_ (i := 1) rfl, HH3.out.ru.cell_ (i := 2) rfl, HH3.out.rm.cell_ (i := 0) rfl, HH3.out.rs.cell_ (i := 0) rfl⟩ (fun hHeld3 => ?_)
        clear hK K hHeld2 hO HH2
        (try simp only [Act.put, List.setIfInBounds_toArray, List.set_cons_zero, List.set_cons_succ])
        refine take_4 (.bool true) (by kernel_rfl) (by kernel_rfl) (by kernel_rfl) (fun _ _ _ h => h) (by rfl) (fun w hSw => ?_) (by assumption) ?_
        · (try dsimp only at hSw)
          go_split_ands
          go_simp
        (try simp only [Act.put, List.setIfInBounds_toArray, List.set_cons_zero, List.set_cons_succ])
        refine wpAnyH_done (by kernel_rfl) ?_ _
        clear hHeld3
        go_wp2_with fail
        refine (awake_any _).mono ?_
        rintro e w7 ⟨rfl, hO⟩
        have HO7 := Lib.hid (HH3.out.only.trans hO)
        clear hO
        go_wp2
        go_ret
        exact ⟨rfl, HO7.out⟩
      · have HQ := Lib.hid hq
        clear hq
        have HK5 := Lib.hid HK.out
        clear HK
        have n0 : wr.cell? ⟨gm, 0, none⟩ = some (.int .i64 1) := HK5.out.rm.cell_ (i := 0) rfl
        have r0 : wr.cell? ⟨gm + 1, 0, none⟩ = some (.int .i64 s) := HK5.out.rs.cell_ (i := 0) rfl
        have u0 : wr.cell? ⟨B, 0, none⟩ = some (.int .i64 k) := HK5.out.ru.cell_ (i := 0) rfl
        have u1 : wr.cell? ⟨B, 1, none⟩ = some (.int .u32 mk) := HK5.out.ru.cell_ (i := 1) rfl
        have u2 : wr.cell? ⟨B, 2, none⟩ = some (.int .u32 x) := HK5.out.ru.cell_ (i := 2) rfl
        refine wp_region_held_drew (S := fun w' => w'.cell? ⟨B, 0, none⟩ = some (.int .i64 k) ∧ w'.cell? ⟨B, 1, none⟩ = some (.int .u32 mk) ∧ w'.cell? ⟨B, 2, none⟩ = some (.int .u32 x) ∧ w'.cell? ⟨gm, 0, none⟩ = some (.int .i64 1) ∧ w'.cell? ⟨gm + 1, 0, none⟩ = some (.int .i64 s)) (by kernel_rfl) ⟨u0, u1, u2, n0, r0⟩ (fun hHeld => ?_)
        have HH1 := Lib.hid (HK5.out.keep (Only.refl Nil wr).drew)
        clear n0 r0 u0 u1 u2 HK5
        generalize wr.drew = y1 at *
        refine take_0 (.agg #[.int .i64 k, .int .u32 mk, .int .u32 x]) (by kernel_rfl) (by kernel_rfl) (by kernel_rfl) (fun _ _ _ h => h) (by rfl) (fun w hSw => ?_) (by assumption) ?_
        · (try dsimp only at hSw)
          go_split_ands
          go_simp
        (try simp only [Act.put, List.setIfInBounds_toArray, List.set_cons_zero, List.set_cons_succ])
        refine take_1 (.pointer (some ⟨b, 0, none⟩)) (by kernel_rfl) (by kernel_rfl) (by kernel_rfl) (fun _ _ _ h => h) (by rfl) (fun w hSw => ?_) (by assumption) ?_
        · (try dsimp only at hSw)
          go_split_ands
          go_simp
        (try simp only [Act.put, List.setIfInBounds_toArray, List.set_cons_zero, List.set_cons_succ])
        refine call_2 (by kernel_rfl) (by rfl) (fun K hK => ?_)
        go_simp
        refine (load_any b A' c' (V v t p) 0 _ HH1.out.mem).mono ?_
        rw [V_at0]
        rintro e y2 ⟨rfl, hO, hM⟩
        have HH2 := Lib.hid (HH1.out.call hO (Memo.of hM))
        refine hK.out _ _ ⟨HH2.out.ru.cell_ (i := 0) rfl, HH2.out.ru.cell_ (i := 1) rfl, HH2.out.ru.cell_ (i := 2) rfl, HH2.out.rm.cell_ (i := 0) rfl, HH2.out.rs.cell_ (i := 0) rfl⟩ (fun hHeld2 => ?_)
        clear hK K hHeld hO hM HH1
        (try simp only [Act.put, List.setIfInBounds_toArray, List.set_cons_zero, List.set_cons_succ])
        refine call_3 (by kernel_rfl) (by rfl) (fun K hK => ?_)
        go_simp
        refine (is_any k mk x v _ HI.out.1.1 HI.out.1.2).mono ?_
        rw [HQ.out]
        rintro e y3 ⟨rfl, hO⟩
        have HH3 := Lib.hid (HH2.out.keep hO)
        refine hK.out _ _ ⟨HH3.out.ru.cell_ (i := 0) rfl, HH3.out.ru.cell_ (i := 1) rfl, HH3.out.ru.cell_ (i := 2) rfl, HH3.out.rm.cell_ (i := 0) rfl, HH3.out.rs.cell_ (i := 0) rfl⟩ (fun hHeld3 => ?_)
        clear hK K hHeld2 hO HH2
        (try simp only [Act.put, List.setIfInBounds_toArray, List.set_cons_zero, List.set_cons_succ])
        refine take_4 (.bool false) (by kernel_rfl) (by kernel_rfl) (by kernel_rfl) (fun _ _ _ h => h) (by rfl) (fun w hSw => ?_) (by assumption) ?_
        · (try dsimp only at hSw)
          go_split_ands
          go_simp
        (try simp only [Act.put, List.setIfInBounds_toArray, List.set_cons_zero, List.set_cons_succ])
        refine wpAnyH_done (by kernel_rfl) ?_ _
        clear hHeld3
        go_wp2
        go_loopw [16] (fun i wr => ∃ (j2 : Nat) (s t p : Int), i = .int .i64 j2 ∧ j2 + left s ≤ 8 ∧ Inv (uIs k mk x) s v t p ∧ Wk w B L gm b A' c' k mk x s v t p wr) (fun i _ => 8 - (intOf i).toNat)
        case atStart => exact ⟨0, s, t, p, rfl, by have := left_le s; omega, HI.out, HH3.out⟩
        case round =>
          clear HI HH3 s t p
          obtain ⟨j2, s, t, p, rfl, hl8, hi, hk⟩ := hrel
          have HI := Lib.hid hi
          have HK := Lib.hid hk
          clear hi hk
          have hj8 : (j2 : Int) < 8 := by have := left_pos s; omega
          have n0 : wr.cell? ⟨gm, 0, none⟩ = some (.int .i64 1) := HK.out.rm.cell_ (i := 0) rfl
          have r0 : wr.cell? ⟨gm + 1, 0, none⟩ = some (.int .i64 s) := HK.out.rs.cell_ (i := 0) rfl
          have u0 : wr.cell? ⟨B, 0, none⟩ = some (.int .i64 k) := HK.out.ru.cell_ (i := 0) rfl
          have u1 : wr.cell? ⟨B, 1, none⟩ = some (.int .u32 mk) := HK.out.ru.cell_ (i := 1) rfl
          have u2 : wr.cell? ⟨B, 2, none⟩ = some (.int .u32 x) := HK.out.ru.cell_ (i := 2) rfl
          go_wp2_with fail
          clear n0 r0 u0 u1 u2
          refine (step_any (some ⟨b, 0, none⟩) A' c' (V v t p) 1 2 0 s 0 _ _ _ HK.out.memo (holds_until k mk x) HI.out.words).mono ?_
          have hst := HI.out.step _ rfl
          obtain ⟨ka, ca, xa, ya, oa, hacc, -⟩ := step_access (V v t p) 1 2 0 s 0 (uIs k mk x)
          generalize stepI (V v t p) 1 2 0 s 0 (uIs k mk x) = r at *
          obtain ⟨nx, ac, sn, dn, zs⟩ := r
          dsimp only at hst hacc
          subst hacc
          intro e w3 hF
          obtain ⟨rfl, hO, hM⟩ := hF
          dsimp only at hM ⊢
          have e3 := ((Only.refl Nil w3).alloc (.cells #[.int .i64 nx] 24)).alloc (.cells #[.int .i64 ka, .int .i64 ca, .int .u32 xa, .int .u32 ya, .int .u32 oa] 39)
          have HR12 := Lib.hid ((Row.new w3 24 #[.int .i64 nx]).alloc (.cells #[.int .i64 ka, .int .i64 ca, .int .u32 xa, .int .u32 ya, .int .u32 oa] 39))
          have hgm := HK.out.rs.lt
          have HSZ := Lib.hid (show gm + 1 < w3.heap.size from by have := hO.size; omega)
          clear hgm
          rcases hst with ⟨rfl, p2, rfl⟩ | ⟨rfl, t2, p2, rfl, hi, hlf⟩
          · skip
            have HK1 := Lib.hid ((HK.out.call hO hM).keep e3)
            clear hO hM e3 HR12 HSZ
            go_upto_region 32 with (fail)
            generalize (w3.alloc (.cells #[.int .i64 nx] 24)).alloc (.cells #[.int .i64 ka, .int .i64 ca, .int .u32 xa, .int .u32 ya, .int .u32 oa] 39) = w4 at *
            have n0 : w4.cell? ⟨gm, 0, none⟩ = some (.int .i64 1) := HK1.out.rm.cell_ (i := 0) rfl
            go_wp2_with fail
            clear n0
            refine (watch_any 1 0 _).mono ?_
            rw [show cellI 1 2 0 = 10 by decide]
            rintro e w5 ⟨rfl, hO⟩
            have HK2 := Lib.hid (HK1.out.keep hO)
            clear hO HK1
            go_wp2_with fail
            refine (load_any b A' c' (V v 0 p2) 10 _ HK2.out.mem).mono ?_
            rw [V_at10]
            rintro e w6 ⟨rfl, hO, hM⟩
            have HK3 := Lib.hid (HK2.out.call hO (Memo.of hM))
            clear hO hM HK2
            go_wp2_with fail
            refine (awake_any _).mono ?_
            rintro e w7 ⟨rfl, hO⟩
            have HO7 := Lib.hid (HK3.out.only.trans hO)
            clear hO
            go_wp2
            go_ret
            exact ⟨rfl, HO7.out⟩
          · skip
            have HK1 := Lib.hid ((HK.out.call hO hM).keep e3)
            have HI2 := Lib.hid hi
            have HLF := Lib.hid hlf
            clear hO hM e3 hi hlf
            go_upto_region 32 with (fail)
            generalize (w3.alloc (.cells #[.int .i64 nx] 24)).alloc (.cells #[.int .i64 ka, .int .i64 ca, .int .u32 xa, .int .u32 ya, .int .u32 oa] 39) = w4 at *
            generalize w3.heap.size = g3 at *
            have r0 : w4.cell? ⟨gm + 1, 0, none⟩ = some (.int .i64 s) := HK1.out.rs.cell_ (i := 0) rfl
            have f0 : w4.frozen? ⟨gm + 1, 0, none⟩ = false := HK1.out.rs.frozen 0
            have d0 : w4.cell? ⟨g3, 0, none⟩ = some (.int .i64 nx) := HR12.out.cell_ (i := 0) rfl
            have HK2 := Lib.hid (HK1.out.set nx)
            clear HK1
            go_wp2
            exact ⟨⟨j2 + 1, nx, t2, p2, by go_num, by have := HLF.out HQ.out; omega, HI2.out, HK2.out⟩, by simp [intOf]; omega⟩

theorem walk_waitWakes (a0 : Option Addr) (len0 cap0 : Nat) (u1x0 u1x1 u1x2 : Int) (w : World) (w0 : IsDeeds w a0 len0) (w1 : (Lit.int .i64 u1x0).wf = true ∧ (Lit.int .u32 u1x1).wf = true ∧ (Lit.int .u32 u1x2).wf = true) :
    Calls Try.prog 4 #[.slice a0 len0 cap0, .agg #[.int .i64 u1x0, .int .u32 u1x1, .int .u32 u1x2]] w fun e w' => e = .returned (.bool true) ∧ Below w.heap.size w w' := by
  have fin : Calls Try.prog 4 #[.slice a0 len0 cap0, .agg #[.int .i64 u1x0, .int .u32 u1x1, .int .u32 u1x2]] w fun e w' => e = .returned (.bool true) ∧ Only Nil w w' := by
    by_cases h : len0 ≤ 60
    · exact wakes_main a0 len0 cap0 u1x0 u1x1 u1x2 w w0 h
    · exact wakes_away a0 len0 cap0 u1x0 u1x1 u1x2 w (by omega)
  exact fin.mono fun _ _ ⟨he, hO⟩ => ⟨he, hO.below (Nat.le_refl _) (fun _ _ h => h)⟩
end Go.Proofs.Ytmhbidokpboomaa
