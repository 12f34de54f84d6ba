import Derived.Laws.StructEq
import Derived.StillTailTactics
import Derived.Test.YtlepokgagickmaaGreatG44
import Derived.Test.YtlepokgagickmaaGreatG17
import Derived.Test.YtlepokgagickmaaGreatG16
set_option linter.unusedVariables false
set_option linter.unusedSimpArgs false
namespace Go.Proofs.YtlepokgagickmaaGreat
open Go.RowKit
set_option maxRecDepth 100000 in
set_option maxHeartbeats 4000000 in
theorem walk_worldSkips (a0 a1 a2 a3 : Int) (a4 : Option Addr) (len4 cap4 : Nat) (W : World) (w0 : (Lit.int .i64 a0).wf = true) (w1 : (Lit.int .i64 a1).wf = true) (w2 : (Lit.int .i64 a2).wf = true) (w3 : (Lit.int .u32 a3).wf = true) (w4 : IsPicks W a4 len4) :
    Calls Tryz.prog 4 #[.int .i64 a0, .int .i64 a1, .int .i64 a2, .int .u32 a3, .slice a4 len4 cap4] W fun e w' => e = .returned (.bool true) ∧ Only Nil W w' := by
  obtain ⟨l, hl, hp⟩ := picks_list w4
  have h3 : Wrd a3 := wf_u32 w3
  clear w0 w1 w2 w3 w4
  rcases wnew_case a0 a1 a2 a3 with ⟨er, her, hN⟩ | ⟨hk, hm, hn⟩
  · have HN := Lib.hid (hN W)
    clear hN h3 hp hl
    rcases her with rfl | rfl | rfl
    all_goals
      go_enter Tryz.func4, Tryz.ntmps4
      go_wp2_with fail
      refine HN.out.mono ?_
      rintro e v1 ⟨rfl, hO⟩
      have HO := Lib.hid hO
      clear hO HN
      go_wp2_with fail
      refine (awake_any _).mono ?_
      rintro e wz ⟨rfl, hz⟩
      have HZ := Lib.hid (HO.out.trans hz)
      clear hz
      go_wp2
      go_ret
      exact ⟨rfl, HZ.out⟩
  · obtain ⟨k, rfl⟩ : ∃ k : Nat, a2 = k := ⟨a2.toNat, by omega⟩
    have hk1 : 1 ≤ k ∧ k ≤ 64 := by omega
    have HN := Lib.hid (wnew_yes a0 a1 a3 k W hk hm hk1 h3)
    have HP := Lib.hid (And.intro hl hp)
    have HK := Lib.hid (And.intro hk (And.intro hk1 h3))
    clear hl hp hk hm hn hk1 h3
    by_cases h1000 : 1000 < len4
    · have q1 : (1000 : Int) < len4 := by omega
      clear h1000
      go_enter Tryz.func4, Tryz.ntmps4
      go_wp2_with fail
      refine HN.out.mono ?_
      intro e v1 hn
      obtain ⟨g, gt, b, A, cp, rfl, hw⟩ := wo_new HK.out.2.2 hn
      have HO := Lib.hid hw.only
      clear hn hw HN
      go_wp2_with fail
      refine (awake_any _).mono ?_
      rintro e wz ⟨rfl, hz⟩
      have HZ := Lib.hid (HO.out.trans hz)
      clear hz
      go_wp2
      go_ret
      exact ⟨rfl, HZ.out⟩
    · have q1 : ¬ (1000 : Int) < len4 := by omega
      have q0 : (len4 : Int) ≤ 9223372036854775806 := by omega
      clear h1000
      go_enter Tryz.func4, Tryz.ntmps4
      go_wp2_with fail
      refine HN.out.mono ?_
      intro e v1 hn
      obtain ⟨g, gt, b, A, cp, rfl, hw⟩ := wo_new HK.out.2.2 hn
      have HW := Lib.hid hw
      clear hn hw HN
      generalize mv0 a0 a1 k a3 = m0 at *
      go_wp2_with fail
      go_loopw [13] (fun iv wr => ∃ i : Nat, i ≤ len4 ∧ iv = .int .i64 i ∧ Wo W g gt b A cp a0 a1 k (runI (linesI a0) k m0 (l.take i)).1 wr) (fun iv _ => len4 - (intOf iv).toNat)
      case atStart => exact ⟨0, Nat.zero_le _, rfl, HW.out⟩
      case round =>
        obtain ⟨i, hi, rfl, hI⟩ := hrel
        clear HW
        by_cases hlt : i < len4
        · obtain ⟨p, hp⟩ : ∃ p, l[i]? = some p := ⟨_, List.getElem?_eq_getElem (by rw [HP.out.1]; exact hlt)⟩
          have HX := Lib.hid (congrArg Prod.fst (run_next (L := linesI a0) (k := k) (m := m0) hp))
          obtain ⟨pb, pq, rfl, c0, c1⟩ := HP.out.2 _ hI.only i p hp
          obtain ⟨t, o⟩ := p
          dsimp only at c0 c1
          have HLT := Lib.hid hlt
          have q2 : (i : Int) < len4 := by omega
          unfold runStep at HX
          dsimp only at HX
          generalize (runI (linesI a0) k m0 (l.take i)).1 = m at *
          have HI := Lib.hid hI
          clear hp hi hlt
          rcases skip_case (kind := a0) hI.inv t o with ⟨hev, hm⟩ | ⟨ht, hs, hc⟩
          · have HE := Lib.hid (And.intro hev hm)
            clear hev hm hI
            obtain ⟨st, hst⟩ : ∃ st, stkI m k t = st := ⟨_, rfl⟩
            have HST := Lib.hid hst
            clear hst
            have hth : t < 0 ∨ (0 ≤ t ∧ (k : Int) ≤ t) ∨ (0 ≤ t ∧ t < k) := by omega
            rcases hth with hth | ⟨hth, hth2⟩ | ⟨hth, hth2⟩
            · skip
              go_wp2_with fail
              have e1 := (Only.refl Nil wr).alloc (.cells #[.int .i64 t, .int .i64 o] 39)
              have HR1 := Lib.hid (Row.new wr 39 #[.int .i64 t, .int .i64 o])
              have HI1 := Lib.hid (HI.out.keep e1)
              clear e1 HI
              generalize wr.alloc _ = u1 at *
              generalize wr.heap.size = P at *
              refine (woStuck_all g gt b A cp a0 a1 k t m _ HI1.out.wd HI1.out.inv).mono ?_
              rintro e u2 ⟨rfl, hO, hW⟩
              rw [HST.out]
              have HI2 := Lib.hid (HI1.out.turn (hO.mono fun _ _ h => .inr h) hW HI1.out.inv)
              have HR2 := Lib.hid (HR1.out.only hO (fun hA => by
                obtain ⟨cur, hc⟩ := own_tag HI1.out.wd.mem.own hA
                exact row_ne HR1.out hc (by decide) rfl))
              clear hO hW HI1 HR1
              go_wp2_with fail
              refine (woState_any g gt b A cp a0 a1 k m _ HI2.out.wd HK.out.2.1).mono ?_
              rintro e u3 ⟨A3, c3, g3, ct3, rfl, hO3, hT3, hg3, hN3⟩
              obtain ⟨n, hn⟩ : ∃ n, m.xs.length = n := ⟨_, rfl⟩
              unfold stateCs
              rw [hn]
              have e3 := hN3.alloc (.cells (stateCs a0 a1 k A3 n c3 g3 ct3) 47)
              have HI3 := Lib.hid (HI2.out.keep e3)
              have HR3 := Lib.hid (HR2.out.only e3 id)
              have HS3 := Lib.hid (Row.new u3 47 (stateCs a0 a1 k A3 n c3 g3 ct3))
              have HQ3 := Lib.hid (And.intro (hO3.only ((Only.refl Nil u3).alloc (.cells (stateCs a0 a1 k A3 n c3 g3 ct3) 47)) (fun _ _ => id)) (And.intro (hT3.only ((Only.refl Nil u3).alloc (.cells (stateCs a0 a1 k A3 n c3 g3 ct3) 47)) id) (And.intro hn (And.intro hg3 HI2.out.wd.lt))))
              clear hO3 hT3 hg3 hN3 e3 hn HI2 HR2
              have p0 : (u3.alloc (.cells (stateCs a0 a1 k A3 n c3 g3 ct3) 47)).cell? ⟨P, 0, none⟩ = some (.int .i64 t) := HR3.out.cell_ (i := 0) rfl
              have p1 : (u3.alloc (.cells (stateCs a0 a1 k A3 n c3 g3 ct3) 47)).cell? ⟨P, 1, none⟩ = some (.int .i64 o) := HR3.out.cell_ (i := 1) rfl
              unfold stateCs at p0 p1
              go_wp2_with fail
              clear p0 p1
              unfold stateCs at *
              generalize u3.alloc _ = u4 at *
              generalize u3.heap.size = S1 at *
              refine (woPick_any g gt b A cp a0 a1 k t o m _ HI3.out.wd HI3.out.inv HK.out.1).mono ?_
              rw [HE.out.1, HE.out.2]
              rintro e u5 ⟨nv, rfl, hN, hO, hW⟩
              obtain ⟨Av, cv, rfl, _⟩ := hN.list
              rw [show ev0.ns.length = 0 from rfl]
              unfold evCs ev0 acc0
              dsimp only
              have HI5 := Lib.hid (HI3.out.turn hO hW HI3.out.inv)
              obtain ⟨ct, hct⟩ := HI3.out.wd.tasks.rowT
              have hgA : ∀ i t cs, Row u4 i t cs → t ≠ 59 → t ≠ 22 → ¬ TurnW gt A i := fun i t cs hi h1 h2 e => by
                rcases e with rfl | hA
                · exact row_ne hi hct h1 rfl
                · obtain ⟨cur, hc⟩ := own_tag HI3.out.wd.mem.own hA
                  exact row_ne hi hc h2 rfl
              have HS5 := Lib.hid (HS3.out.only hO (hgA _ _ _ HS3.out (by decide) (by decide)))
              have HQ5 := Lib.hid (And.intro (HQ3.out.1.only hO (fun j hj e => by
                have h1 := HQ3.out.1.base j hj
                rcases e with rfl | hA
                · have := HQ3.out.2.2.2.2.2.1; omega
                · have := HQ3.out.2.2.2.2.2.2.2 j hA; omega)) (HQ3.out.2.1.only hO (fun e => by
                have h1 := HQ3.out.2.2.2.1
                rcases e with e | hA
                · have := HQ3.out.2.2.2.2.2.1; omega
                · have := HQ3.out.2.2.2.2.2.2.2 _ hA; omega)))
              have HLN := Lib.hid HQ3.out.2.2.1
              clear hO hW hct hgA HI3 HS3 HQ3 HR3 c0 c1
              go_upto_region 16 with (fail)
              have e6 := (Only.refl Nil u5).alloc (.cells #[.bool false, .int .i64 0, .int .i64 0, .int .u32 0, .int .u32 0, .int .u32 0, .slice Av 0 cv] 36)
              have HI6 := Lib.hid (HI5.out.keep e6)
              have HS6 := Lib.hid (HS5.out.only e6 id)
              have HQ6 := Lib.hid (And.intro (HQ5.out.1.only e6 (fun _ _ => id)) (HQ5.out.2.only e6 id))
              have HE6 := Lib.hid (Row.new u5 36 #[.bool false, .int .i64 0, .int .i64 0, .int .u32 0, .int .u32 0, .int .u32 0, .slice Av 0 cv])
              clear e6 HI5 HS5 HQ5
              generalize u5.alloc _ = u6 at *
              generalize u5.heap.size = E at *
              go_wp2_with fail
              refine (woState_any g gt b A cp a0 a1 k m _ HI6.out.wd HK.out.2.1).mono ?_
              rintro e u7 ⟨A7, c7, g7, ct7, rfl, hO7, hT7, hg7, hN7⟩
              unfold stateCs
              rw [HLN.out]
              have e7 := hN7.alloc (.cells #[.int .i64 a0, .int .i64 a1, .int .i64 k, .slice A7 n c7, .slice (some ⟨g7, 0, none⟩) k ct7] 47)
              have e8 := (Only.refl Nil u7).alloc (.cells #[.int .i64 a0, .int .i64 a1, .int .i64 k, .slice A7 n c7, .slice (some ⟨g7, 0, none⟩) k ct7] 47)
              have HI8 := Lib.hid (HI6.out.keep e7)
              have HS8 := Lib.hid (HS6.out.only e7 id)
              have HE8 := Lib.hid (HE6.out.only e7 id)
              have HQ8 := Lib.hid (And.intro (HQ6.out.1.only e7 (fun _ _ => id)) (HQ6.out.2.only e7 id))
              have HT8 := Lib.hid (Row.new u7 47 #[.int .i64 a0, .int .i64 a1, .int .i64 k, .slice A7 n c7, .slice (some ⟨g7, 0, none⟩) k ct7])
              have HU8 := Lib.hid (And.intro (hO7.only e8 (fun _ _ => id)) (hT7.only e8 id))
              clear hO7 hT7 hg7 hN7 e7 e8 HI6 HS6 HE6 HQ6
              go_upto_region 17 with (fail)
              generalize u7.alloc _ = u8 at *
              generalize u7.heap.size = S2 at *
              have s3 : u8.cell? ⟨S1, 3, none⟩ = some (.slice A3 n c3) := HS8.out.cell_ (i := 3) rfl
              have s4 : u8.cell? ⟨S1, 4, none⟩ = some (.slice (some ⟨g3, 0, none⟩) k ct3) := HS8.out.cell_ (i := 4) rfl
              have r3 : u8.cell? ⟨S2, 3, none⟩ = some (.slice A7 n c7) := HT8.out.cell_ (i := 3) rfl
              have r4 : u8.cell? ⟨S2, 4, none⟩ = some (.slice (some ⟨g7, 0, none⟩) k ct7) := HT8.out.cell_ (i := 4) rfl
              go_wp2_with fail
              clear s3 s4 r3 r4
              refine (same_n A3 A7 c3 c7 n m.xs m.xs _ (held_n HQ8.out.1 HLN.out) (held_n HU8.out.1 HLN.out) (by have h1 := HI8.out.inv.len; have h2 := HLN.out; have h3 := HK.out.2.1; omega)).mono ?_
              rw [decide_eq_true rfl]
              rintro e u9 ⟨rfl, hO⟩
              have HI9 := Lib.hid (HI8.out.keep hO)
              have HQ9 := Lib.hid (And.intro (HQ8.out.2.only hO id) (HU8.out.2.only hO id))
              have HS9 := Lib.hid (HS8.out.only hO id)
              have HT9 := Lib.hid (HT8.out.only hO id)
              have HE9 := Lib.hid (HE8.out.only hO id)
              clear hO HI8 HQ8 HU8 HS8 HT8 HE8
              have s4 : u9.cell? ⟨S1, 4, none⟩ = some (.slice (some ⟨g3, 0, none⟩) k ct3) := HS9.out.cell_ (i := 4) rfl
              have r4 : u9.cell? ⟨S2, 4, none⟩ = some (.slice (some ⟨g7, 0, none⟩) k ct7) := HT9.out.cell_ (i := 4) rfl
              have d1 : u9.cell? ⟨E, 1, none⟩ = some (.int .i64 0) := HE9.out.cell_ (i := 1) rfl
              have d2 : u9.cell? ⟨E, 2, none⟩ = some (.int .i64 0) := HE9.out.cell_ (i := 2) rfl
              have d3 : u9.cell? ⟨E, 3, none⟩ = some (.int .u32 0) := HE9.out.cell_ (i := 3) rfl
              have d4 : u9.cell? ⟨E, 4, none⟩ = some (.int .u32 0) := HE9.out.cell_ (i := 4) rfl
              have d5 : u9.cell? ⟨E, 5, none⟩ = some (.int .u32 0) := HE9.out.cell_ (i := 5) rfl
              go_wp2_with fail
              clear s4 r4 d1 d2 d3 d4 d5
              go_loopw [21] (fun jv wq => ∃ j : Nat, j ≤ k ∧ jv = .int .i64 j ∧ Hid (Drew u9 wq)) (fun jv _ => k - (intOf jv).toNat)
              case atStart => exact ⟨0, Nat.zero_le _, rfl, Lib.hid (Drew.refl _)⟩
              case round =>
                obtain ⟨j, hj, rfl, HD⟩ := hrel
                have s4 : wr.cell? ⟨S1, 4, none⟩ = some (.slice (some ⟨g3, 0, none⟩) k ct3) := (HD.out.cell _).trans (HS9.out.cell_ (i := 4) rfl)
                have r4 : wr.cell? ⟨S2, 4, none⟩ = some (.slice (some ⟨g7, 0, none⟩) k ct7) := (HD.out.cell _).trans (HT9.out.cell_ (i := 4) rfl)
                by_cases hjk : j < k
                · have HJK := Lib.hid hjk
                  have q5 : (j : Int) < k := by omega
                  have q6 : (0 : Int) ≤ j := by omega
                  have q7 : (j : Int).toNat = j := rfl
                  have q8 : (k : Int) ≤ 64 := by have := HK.out.2.1; omega
                  have XX0 : wr.cell? ⟨g3, j * 11, none⟩ = some (.int .i64 (m.hold j)) := (HD.out.cell _).trans (HQ9.out.1.cell hjk 0 rfl)
                  have XX1 : wr.cell? ⟨g3, j * 11 + 1, none⟩ = some (.int .i64 (m.rs j).op) := (HD.out.cell _).trans (HQ9.out.1.cell hjk 1 rfl)
                  have XX2 : wr.cell? ⟨g3, j * 11 + 2, none⟩ = some (.int .i64 (m.rs j).line) := (HD.out.cell _).trans (HQ9.out.1.cell hjk 2 rfl)
                  have XX3 : wr.cell? ⟨g3, j * 11 + 3, none⟩ = some (.int .u32 (m.rs j).a) := (HD.out.cell _).trans (HQ9.out.1.cell hjk 3 rfl)
                  have XX4 : wr.cell? ⟨g3, j * 11 + 4, none⟩ = some (.int .u32 (m.rs j).b) := (HD.out.cell _).trans (HQ9.out.1.cell hjk 4 rfl)
                  have XX5 : wr.cell? ⟨g3, j * 11 + 5, none⟩ = some (.int .i64 (m.rs j).s) := (HD.out.cell _).trans (HQ9.out.1.cell hjk 5 rfl)
                  have XX6 : wr.cell? ⟨g3, j * 11 + 6, none⟩ = some (.bool (m.rs j).k.on) := (HD.out.cell _).trans (HQ9.out.1.cell hjk 6 rfl)
                  have XX7 : wr.cell? ⟨g3, j * 11 + 7, none⟩ = some (.int .i64 (m.rs j).k.c) := (HD.out.cell _).trans (HQ9.out.1.cell hjk 7 rfl)
                  have XX8 : wr.cell? ⟨g3, j * 11 + 8, none⟩ = some (.int .i64 (m.rs j).k.i) := (HD.out.cell _).trans (HQ9.out.1.cell hjk 8 rfl)
                  have XX9 : wr.cell? ⟨g3, j * 11 + 9, none⟩ = some (.bool (m.rs j).k.hit) := (HD.out.cell _).trans (HQ9.out.1.cell hjk 9 rfl)
                  have XX10 : wr.cell? ⟨g3, j * 11 + 10, none⟩ = some (.int .i64 (m.rs j).ret) := (HD.out.cell _).trans (HQ9.out.1.cell hjk 10 rfl)
                  have XX0 : wr.cell? ⟨g7, j * 11, none⟩ = some (.int .i64 (m.hold j)) := (HD.out.cell _).trans (HQ9.out.2.cell hjk 0 rfl)
                  have XX1 : wr.cell? ⟨g7, j * 11 + 1, none⟩ = some (.int .i64 (m.rs j).op) := (HD.out.cell _).trans (HQ9.out.2.cell hjk 1 rfl)
                  have XX2 : wr.cell? ⟨g7, j * 11 + 2, none⟩ = some (.int .i64 (m.rs j).line) := (HD.out.cell _).trans (HQ9.out.2.cell hjk 2 rfl)
                  have XX3 : wr.cell? ⟨g7, j * 11 + 3, none⟩ = some (.int .u32 (m.rs j).a) := (HD.out.cell _).trans (HQ9.out.2.cell hjk 3 rfl)
                  have XX4 : wr.cell? ⟨g7, j * 11 + 4, none⟩ = some (.int .u32 (m.rs j).b) := (HD.out.cell _).trans (HQ9.out.2.cell hjk 4 rfl)
                  have XX5 : wr.cell? ⟨g7, j * 11 + 5, none⟩ = some (.int .i64 (m.rs j).s) := (HD.out.cell _).trans (HQ9.out.2.cell hjk 5 rfl)
                  have XX6 : wr.cell? ⟨g7, j * 11 + 6, none⟩ = some (.bool (m.rs j).k.on) := (HD.out.cell _).trans (HQ9.out.2.cell hjk 6 rfl)
                  have XX7 : wr.cell? ⟨g7, j * 11 + 7, none⟩ = some (.int .i64 (m.rs j).k.c) := (HD.out.cell _).trans (HQ9.out.2.cell hjk 7 rfl)
                  have XX8 : wr.cell? ⟨g7, j * 11 + 8, none⟩ = some (.int .i64 (m.rs j).k.i) := (HD.out.cell _).trans (HQ9.out.2.cell hjk 8 rfl)
                  have XX9 : wr.cell? ⟨g7, j * 11 + 9, none⟩ = some (.bool (m.rs j).k.hit) := (HD.out.cell _).trans (HQ9.out.2.cell hjk 9 rfl)
                  have XX10 : wr.cell? ⟨g7, j * 11 + 10, none⟩ = some (.int .i64 (m.rs j).ret) := (HD.out.cell _).trans (HQ9.out.2.cell hjk 10 rfl)
                  clear hj
                  go_upto_region 22 with (fail)
                  go_still_tail 10, (by kernel_rfl)
                  go_wp2_with fail
                  exact ⟨⟨j + 1, by have := HJK.out; omega, by go_num, Lib.hid (HD.out.trans ⟨1, rfl⟩)⟩, by have := HJK.out; simp [intOf]; omega⟩
                · obtain rfl : j = k := by omega
                  have HI10 := Lib.hid (HI9.out.keep HD.out.only)
                  clear hj hjk
                  go_wp2
                  go_roundw
                  case rel => exact ⟨i + 1, by have := HLT.out; omega, by go_num, by rw [HX.out, HE.out.2]; exact HI10.out⟩
                  case measure => have := HLT.out; simp [intOf]; omega
            · skip
              go_wp2_with fail
              have e1 := (Only.refl Nil wr).alloc (.cells #[.int .i64 t, .int .i64 o] 39)
              have HR1 := Lib.hid (Row.new wr 39 #[.int .i64 t, .int .i64 o])
              have HI1 := Lib.hid (HI.out.keep e1)
              clear e1 HI
              generalize wr.alloc _ = u1 at *
              generalize wr.heap.size = P at *
              refine (woStuck_all g gt b A cp a0 a1 k t m _ HI1.out.wd HI1.out.inv).mono ?_
              rintro e u2 ⟨rfl, hO, hW⟩
              rw [HST.out]
              have HI2 := Lib.hid (HI1.out.turn (hO.mono fun _ _ h => .inr h) hW HI1.out.inv)
              have HR2 := Lib.hid (HR1.out.only hO (fun hA => by
                obtain ⟨cur, hc⟩ := own_tag HI1.out.wd.mem.own hA
                exact row_ne HR1.out hc (by decide) rfl))
              clear hO hW HI1 HR1
              go_wp2_with fail
              refine (woState_any g gt b A cp a0 a1 k m _ HI2.out.wd HK.out.2.1).mono ?_
              rintro e u3 ⟨A3, c3, g3, ct3, rfl, hO3, hT3, hg3, hN3⟩
              obtain ⟨n, hn⟩ : ∃ n, m.xs.length = n := ⟨_, rfl⟩
              unfold stateCs
              rw [hn]
              have e3 := hN3.alloc (.cells (stateCs a0 a1 k A3 n c3 g3 ct3) 47)
              have HI3 := Lib.hid (HI2.out.keep e3)
              have HR3 := Lib.hid (HR2.out.only e3 id)
              have HS3 := Lib.hid (Row.new u3 47 (stateCs a0 a1 k A3 n c3 g3 ct3))
              have HQ3 := Lib.hid (And.intro (hO3.only ((Only.refl Nil u3).alloc (.cells (stateCs a0 a1 k A3 n c3 g3 ct3) 47)) (fun _ _ => id)) (And.intro (hT3.only ((Only.refl Nil u3).alloc (.cells (stateCs a0 a1 k A3 n c3 g3 ct3) 47)) id) (And.intro hn (And.intro hg3 HI2.out.wd.lt))))
              clear hO3 hT3 hg3 hN3 e3 hn HI2 HR2
              have p0 : (u3.alloc (.cells (stateCs a0 a1 k A3 n c3 g3 ct3) 47)).cell? ⟨P, 0, none⟩ = some (.int .i64 t) := HR3.out.cell_ (i := 0) rfl
              have p1 : (u3.alloc (.cells (stateCs a0 a1 k A3 n c3 g3 ct3) 47)).cell? ⟨P, 1, none⟩ = some (.int .i64 o) := HR3.out.cell_ (i := 1) rfl
              unfold stateCs at p0 p1
              go_wp2_with fail
              clear p0 p1
              unfold stateCs at *
              generalize u3.alloc _ = u4 at *
              generalize u3.heap.size = S1 at *
              refine (woPick_any g gt b A cp a0 a1 k t o m _ HI3.out.wd HI3.out.inv HK.out.1).mono ?_
              rw [HE.out.1, HE.out.2]
              rintro e u5 ⟨nv, rfl, hN, hO, hW⟩
              obtain ⟨Av, cv, rfl, _⟩ := hN.list
              rw [show ev0.ns.length = 0 from rfl]
              unfold evCs ev0 acc0
              dsimp only
              have HI5 := Lib.hid (HI3.out.turn hO hW HI3.out.inv)
              obtain ⟨ct, hct⟩ := HI3.out.wd.tasks.rowT
              have hgA : ∀ i t cs, Row u4 i t cs → t ≠ 59 → t ≠ 22 → ¬ TurnW gt A i := fun i t cs hi h1 h2 e => by
                rcases e with rfl | hA
                · exact row_ne hi hct h1 rfl
                · obtain ⟨cur, hc⟩ := own_tag HI3.out.wd.mem.own hA
                  exact row_ne hi hc h2 rfl
              have HS5 := Lib.hid (HS3.out.only hO (hgA _ _ _ HS3.out (by decide) (by decide)))
              have HQ5 := Lib.hid (And.intro (HQ3.out.1.only hO (fun j hj e => by
                have h1 := HQ3.out.1.base j hj
                rcases e with rfl | hA
                · have := HQ3.out.2.2.2.2.2.1; omega
                · have := HQ3.out.2.2.2.2.2.2.2 j hA; omega)) (HQ3.out.2.1.only hO (fun e => by
                have h1 := HQ3.out.2.2.2.1
                rcases e with e | hA
                · have := HQ3.out.2.2.2.2.2.1; omega
                · have := HQ3.out.2.2.2.2.2.2.2 _ hA; omega)))
              have HLN := Lib.hid HQ3.out.2.2.1
              clear hO hW hct hgA HI3 HS3 HQ3 HR3 c0 c1
              go_upto_region 16 with (fail)
              have e6 := (Only.refl Nil u5).alloc (.cells #[.bool false, .int .i64 0, .int .i64 0, .int .u32 0, .int .u32 0, .int .u32 0, .slice Av 0 cv] 36)
              have HI6 := Lib.hid (HI5.out.keep e6)
              have HS6 := Lib.hid (HS5.out.only e6 id)
              have HQ6 := Lib.hid (And.intro (HQ5.out.1.only e6 (fun _ _ => id)) (HQ5.out.2.only e6 id))
              have HE6 := Lib.hid (Row.new u5 36 #[.bool false, .int .i64 0, .int .i64 0, .int .u32 0, .int .u32 0, .int .u32 0, .slice Av 0 cv])
              clear e6 HI5 HS5 HQ5
              generalize u5.alloc _ = u6 at *
              generalize u5.heap.size = E at *
              go_wp2_with fail
              refine (woState_any g gt b A cp a0 a1 k m _ HI6.out.wd HK.out.2.1).mono ?_
              rintro e u7 ⟨A7, c7, g7, ct7, rfl, hO7, hT7, hg7, hN7⟩
              unfold stateCs
              rw [HLN.out]
              have e7 := hN7.alloc (.cells #[.int .i64 a0, .int .i64 a1, .int .i64 k, .slice A7 n c7, .slice (some ⟨g7, 0, none⟩) k ct7] 47)
              have e8 := (Only.refl Nil u7).alloc (.cells #[.int .i64 a0, .int .i64 a1, .int .i64 k, .slice A7 n c7, .slice (some ⟨g7, 0, none⟩) k ct7] 47)
              have HI8 := Lib.hid (HI6.out.keep e7)
              have HS8 := Lib.hid (HS6.out.only e7 id)
              have HE8 := Lib.hid (HE6.out.only e7 id)
              have HQ8 := Lib.hid (And.intro (HQ6.out.1.only e7 (fun _ _ => id)) (HQ6.out.2.only e7 id))
              have HT8 := Lib.hid (Row.new u7 47 #[.int .i64 a0, .int .i64 a1, .int .i64 k, .slice A7 n c7, .slice (some ⟨g7, 0, none⟩) k ct7])
              have HU8 := Lib.hid (And.intro (hO7.only e8 (fun _ _ => id)) (hT7.only e8 id))
              clear hO7 hT7 hg7 hN7 e7 e8 HI6 HS6 HE6 HQ6
              go_upto_region 17 with (fail)
              generalize u7.alloc _ = u8 at *
              generalize u7.heap.size = S2 at *
              have s3 : u8.cell? ⟨S1, 3, none⟩ = some (.slice A3 n c3) := HS8.out.cell_ (i := 3) rfl
              have s4 : u8.cell? ⟨S1, 4, none⟩ = some (.slice (some ⟨g3, 0, none⟩) k ct3) := HS8.out.cell_ (i := 4) rfl
              have r3 : u8.cell? ⟨S2, 3, none⟩ = some (.slice A7 n c7) := HT8.out.cell_ (i := 3) rfl
              have r4 : u8.cell? ⟨S2, 4, none⟩ = some (.slice (some ⟨g7, 0, none⟩) k ct7) := HT8.out.cell_ (i := 4) rfl
              go_wp2_with fail
              clear s3 s4 r3 r4
              refine (same_n A3 A7 c3 c7 n m.xs m.xs _ (held_n HQ8.out.1 HLN.out) (held_n HU8.out.1 HLN.out) (by have h1 := HI8.out.inv.len; have h2 := HLN.out; have h3 := HK.out.2.1; omega)).mono ?_
              rw [decide_eq_true rfl]
              rintro e u9 ⟨rfl, hO⟩
              have HI9 := Lib.hid (HI8.out.keep hO)
              have HQ9 := Lib.hid (And.intro (HQ8.out.2.only hO id) (HU8.out.2.only hO id))
              have HS9 := Lib.hid (HS8.out.only hO id)
              have HT9 := Lib.hid (HT8.out.only hO id)
              have HE9 := Lib.hid (HE8.out.only hO id)
              clear hO HI8 HQ8 HU8 HS8 HT8 HE8
              have s4 : u9.cell? ⟨S1, 4, none⟩ = some (.slice (some ⟨g3, 0, none⟩) k ct3) := HS9.out.cell_ (i := 4) rfl
              have r4 : u9.cell? ⟨S2, 4, none⟩ = some (.slice (some ⟨g7, 0, none⟩) k ct7) := HT9.out.cell_ (i := 4) rfl
              have d1 : u9.cell? ⟨E, 1, none⟩ = some (.int .i64 0) := HE9.out.cell_ (i := 1) rfl
              have d2 : u9.cell? ⟨E, 2, none⟩ = some (.int .i64 0) := HE9.out.cell_ (i := 2) rfl
              have d3 : u9.cell? ⟨E, 3, none⟩ = some (.int .u32 0) := HE9.out.cell_ (i := 3) rfl
              have d4 : u9.cell? ⟨E, 4, none⟩ = some (.int .u32 0) := HE9.out.cell_ (i := 4) rfl
              have d5 : u9.cell? ⟨E, 5, none⟩ = some (.int .u32 0) := HE9.out.cell_ (i := 5) rfl
              go_wp2_with fail
              clear s4 r4 d1 d2 d3 d4 d5
              go_loopw [21] (fun jv wq => ∃ j : Nat, j ≤ k ∧ jv = .int .i64 j ∧ Hid (Drew u9 wq)) (fun jv _ => k - (intOf jv).toNat)
              case atStart => exact ⟨0, Nat.zero_le _, rfl, Lib.hid (Drew.refl _)⟩
              case round =>
                obtain ⟨j, hj, rfl, HD⟩ := hrel
                have s4 : wr.cell? ⟨S1, 4, none⟩ = some (.slice (some ⟨g3, 0, none⟩) k ct3) := (HD.out.cell _).trans (HS9.out.cell_ (i := 4) rfl)
                have r4 : wr.cell? ⟨S2, 4, none⟩ = some (.slice (some ⟨g7, 0, none⟩) k ct7) := (HD.out.cell _).trans (HT9.out.cell_ (i := 4) rfl)
                by_cases hjk : j < k
                · have HJK := Lib.hid hjk
                  have q5 : (j : Int) < k := by omega
                  have q6 : (0 : Int) ≤ j := by omega
                  have q7 : (j : Int).toNat = j := rfl
                  have q8 : (k : Int) ≤ 64 := by have := HK.out.2.1; omega
                  have XX0 : wr.cell? ⟨g3, j * 11, none⟩ = some (.int .i64 (m.hold j)) := (HD.out.cell _).trans (HQ9.out.1.cell hjk 0 rfl)
                  have XX1 : wr.cell? ⟨g3, j * 11 + 1, none⟩ = some (.int .i64 (m.rs j).op) := (HD.out.cell _).trans (HQ9.out.1.cell hjk 1 rfl)
                  have XX2 : wr.cell? ⟨g3, j * 11 + 2, none⟩ = some (.int .i64 (m.rs j).line) := (HD.out.cell _).trans (HQ9.out.1.cell hjk 2 rfl)
                  have XX3 : wr.cell? ⟨g3, j * 11 + 3, none⟩ = some (.int .u32 (m.rs j).a) := (HD.out.cell _).trans (HQ9.out.1.cell hjk 3 rfl)
                  have XX4 : wr.cell? ⟨g3, j * 11 + 4, none⟩ = some (.int .u32 (m.rs j).b) := (HD.out.cell _).trans (HQ9.out.1.cell hjk 4 rfl)
                  have XX5 : wr.cell? ⟨g3, j * 11 + 5, none⟩ = some (.int .i64 (m.rs j).s) := (HD.out.cell _).trans (HQ9.out.1.cell hjk 5 rfl)
                  have XX6 : wr.cell? ⟨g3, j * 11 + 6, none⟩ = some (.bool (m.rs j).k.on) := (HD.out.cell _).trans (HQ9.out.1.cell hjk 6 rfl)
                  have XX7 : wr.cell? ⟨g3, j * 11 + 7, none⟩ = some (.int .i64 (m.rs j).k.c) := (HD.out.cell _).trans (HQ9.out.1.cell hjk 7 rfl)
                  have XX8 : wr.cell? ⟨g3, j * 11 + 8, none⟩ = some (.int .i64 (m.rs j).k.i) := (HD.out.cell _).trans (HQ9.out.1.cell hjk 8 rfl)
                  have XX9 : wr.cell? ⟨g3, j * 11 + 9, none⟩ = some (.bool (m.rs j).k.hit) := (HD.out.cell _).trans (HQ9.out.1.cell hjk 9 rfl)
                  have XX10 : wr.cell? ⟨g3, j * 11 + 10, none⟩ = some (.int .i64 (m.rs j).ret) := (HD.out.cell _).trans (HQ9.out.1.cell hjk 10 rfl)
                  have XX0 : wr.cell? ⟨g7, j * 11, none⟩ = some (.int .i64 (m.hold j)) := (HD.out.cell _).trans (HQ9.out.2.cell hjk 0 rfl)
                  have XX1 : wr.cell? ⟨g7, j * 11 + 1, none⟩ = some (.int .i64 (m.rs j).op) := (HD.out.cell _).trans (HQ9.out.2.cell hjk 1 rfl)
                  have XX2 : wr.cell? ⟨g7, j * 11 + 2, none⟩ = some (.int .i64 (m.rs j).line) := (HD.out.cell _).trans (HQ9.out.2.cell hjk 2 rfl)
                  have XX3 : wr.cell? ⟨g7, j * 11 + 3, none⟩ = some (.int .u32 (m.rs j).a) := (HD.out.cell _).trans (HQ9.out.2.cell hjk 3 rfl)
                  have XX4 : wr.cell? ⟨g7, j * 11 + 4, none⟩ = some (.int .u32 (m.rs j).b) := (HD.out.cell _).trans (HQ9.out.2.cell hjk 4 rfl)
                  have XX5 : wr.cell? ⟨g7, j * 11 + 5, none⟩ = some (.int .i64 (m.rs j).s) := (HD.out.cell _).trans (HQ9.out.2.cell hjk 5 rfl)
                  have XX6 : wr.cell? ⟨g7, j * 11 + 6, none⟩ = some (.bool (m.rs j).k.on) := (HD.out.cell _).trans (HQ9.out.2.cell hjk 6 rfl)
                  have XX7 : wr.cell? ⟨g7, j * 11 + 7, none⟩ = some (.int .i64 (m.rs j).k.c) := (HD.out.cell _).trans (HQ9.out.2.cell hjk 7 rfl)
                  have XX8 : wr.cell? ⟨g7, j * 11 + 8, none⟩ = some (.int .i64 (m.rs j).k.i) := (HD.out.cell _).trans (HQ9.out.2.cell hjk 8 rfl)
                  have XX9 : wr.cell? ⟨g7, j * 11 + 9, none⟩ = some (.bool (m.rs j).k.hit) := (HD.out.cell _).trans (HQ9.out.2.cell hjk 9 rfl)
                  have XX10 : wr.cell? ⟨g7, j * 11 + 10, none⟩ = some (.int .i64 (m.rs j).ret) := (HD.out.cell _).trans (HQ9.out.2.cell hjk 10 rfl)
                  clear hj
                  go_upto_region 22 with (fail)
                  go_still_tail 10, (by kernel_rfl)
                  go_wp2_with fail
                  exact ⟨⟨j + 1, by have := HJK.out; omega, by go_num, Lib.hid (HD.out.trans ⟨1, rfl⟩)⟩, by have := HJK.out; simp [intOf]; omega⟩
                · obtain rfl : j = k := by omega
                  have HI10 := Lib.hid (HI9.out.keep HD.out.only)
                  clear hj hjk
                  go_wp2
                  go_roundw
                  case rel => exact ⟨i + 1, by have := HLT.out; omega, by go_num, by rw [HX.out, HE.out.2]; exact HI10.out⟩
                  case measure => have := HLT.out; simp [intOf]; omega
            · skip
              go_wp2_with fail
              have e1 := (Only.refl Nil wr).alloc (.cells #[.int .i64 t, .int .i64 o] 39)
              have HR1 := Lib.hid (Row.new wr 39 #[.int .i64 t, .int .i64 o])
              have HI1 := Lib.hid (HI.out.keep e1)
              clear e1 HI
              generalize wr.alloc _ = u1 at *
              generalize wr.heap.size = P at *
              refine (woStuck_all g gt b A cp a0 a1 k t m _ HI1.out.wd HI1.out.inv).mono ?_
              rintro e u2 ⟨rfl, hO, hW⟩
              rw [HST.out]
              have HI2 := Lib.hid (HI1.out.turn (hO.mono fun _ _ h => .inr h) hW HI1.out.inv)
              have HR2 := Lib.hid (HR1.out.only hO (fun hA => by
                obtain ⟨cur, hc⟩ := own_tag HI1.out.wd.mem.own hA
                exact row_ne HR1.out hc (by decide) rfl))
              clear hO hW HI1 HR1
              go_wp2_with fail
              refine (woState_any g gt b A cp a0 a1 k m _ HI2.out.wd HK.out.2.1).mono ?_
              rintro e u3 ⟨A3, c3, g3, ct3, rfl, hO3, hT3, hg3, hN3⟩
              obtain ⟨n, hn⟩ : ∃ n, m.xs.length = n := ⟨_, rfl⟩
              unfold stateCs
              rw [hn]
              have e3 := hN3.alloc (.cells (stateCs a0 a1 k A3 n c3 g3 ct3) 47)
              have HI3 := Lib.hid (HI2.out.keep e3)
              have HR3 := Lib.hid (HR2.out.only e3 id)
              have HS3 := Lib.hid (Row.new u3 47 (stateCs a0 a1 k A3 n c3 g3 ct3))
              have HQ3 := Lib.hid (And.intro (hO3.only ((Only.refl Nil u3).alloc (.cells (stateCs a0 a1 k A3 n c3 g3 ct3) 47)) (fun _ _ => id)) (And.intro (hT3.only ((Only.refl Nil u3).alloc (.cells (stateCs a0 a1 k A3 n c3 g3 ct3) 47)) id) (And.intro hn (And.intro hg3 HI2.out.wd.lt))))
              clear hO3 hT3 hg3 hN3 e3 hn HI2 HR2
              have p0 : (u3.alloc (.cells (stateCs a0 a1 k A3 n c3 g3 ct3) 47)).cell? ⟨P, 0, none⟩ = some (.int .i64 t) := HR3.out.cell_ (i := 0) rfl
              have p1 : (u3.alloc (.cells (stateCs a0 a1 k A3 n c3 g3 ct3) 47)).cell? ⟨P, 1, none⟩ = some (.int .i64 o) := HR3.out.cell_ (i := 1) rfl
              unfold stateCs at p0 p1
              go_wp2_with fail
              clear p0 p1
              unfold stateCs at *
              generalize u3.alloc _ = u4 at *
              generalize u3.heap.size = S1 at *
              refine (woPick_any g gt b A cp a0 a1 k t o m _ HI3.out.wd HI3.out.inv HK.out.1).mono ?_
              rw [HE.out.1, HE.out.2]
              rintro e u5 ⟨nv, rfl, hN, hO, hW⟩
              obtain ⟨Av, cv, rfl, _⟩ := hN.list
              rw [show ev0.ns.length = 0 from rfl]
              unfold evCs ev0 acc0
              dsimp only
              have HI5 := Lib.hid (HI3.out.turn hO hW HI3.out.inv)
              obtain ⟨ct, hct⟩ := HI3.out.wd.tasks.rowT
              have hgA : ∀ i t cs, Row u4 i t cs → t ≠ 59 → t ≠ 22 → ¬ TurnW gt A i := fun i t cs hi h1 h2 e => by
                rcases e with rfl | hA
                · exact row_ne hi hct h1 rfl
                · obtain ⟨cur, hc⟩ := own_tag HI3.out.wd.mem.own hA
                  exact row_ne hi hc h2 rfl
              have HS5 := Lib.hid (HS3.out.only hO (hgA _ _ _ HS3.out (by decide) (by decide)))
              have HQ5 := Lib.hid (And.intro (HQ3.out.1.only hO (fun j hj e => by
                have h1 := HQ3.out.1.base j hj
                rcases e with rfl | hA
                · have := HQ3.out.2.2.2.2.2.1; omega
                · have := HQ3.out.2.2.2.2.2.2.2 j hA; omega)) (HQ3.out.2.1.only hO (fun e => by
                have h1 := HQ3.out.2.2.2.1
                rcases e with e | hA
                · have := HQ3.out.2.2.2.2.2.1; omega
                · have := HQ3.out.2.2.2.2.2.2.2 _ hA; omega)))
              have HLN := Lib.hid HQ3.out.2.2.1
              clear hO hW hct hgA HI3 HS3 HQ3 HR3 c0 c1
              go_upto_region 16 with (fail)
              have e6 := (Only.refl Nil u5).alloc (.cells #[.bool false, .int .i64 0, .int .i64 0, .int .u32 0, .int .u32 0, .int .u32 0, .slice Av 0 cv] 36)
              have HI6 := Lib.hid (HI5.out.keep e6)
              have HS6 := Lib.hid (HS5.out.only e6 id)
              have HQ6 := Lib.hid (And.intro (HQ5.out.1.only e6 (fun _ _ => id)) (HQ5.out.2.only e6 id))
              have HE6 := Lib.hid (Row.new u5 36 #[.bool false, .int .i64 0, .int .i64 0, .int .u32 0, .int .u32 0, .int .u32 0, .slice Av 0 cv])
              clear e6 HI5 HS5 HQ5
              generalize u5.alloc _ = u6 at *
              generalize u5.heap.size = E at *
              go_wp2_with fail
              refine (woState_any g gt b A cp a0 a1 k m _ HI6.out.wd HK.out.2.1).mono ?_
              rintro e u7 ⟨A7, c7, g7, ct7, rfl, hO7, hT7, hg7, hN7⟩
              unfold stateCs
              rw [HLN.out]
              have e7 := hN7.alloc (.cells #[.int .i64 a0, .int .i64 a1, .int .i64 k, .slice A7 n c7, .slice (some ⟨g7, 0, none⟩) k ct7] 47)
              have e8 := (Only.refl Nil u7).alloc (.cells #[.int .i64 a0, .int .i64 a1, .int .i64 k, .slice A7 n c7, .slice (some ⟨g7, 0, none⟩) k ct7] 47)
              have HI8 := Lib.hid (HI6.out.keep e7)
              have HS8 := Lib.hid (HS6.out.only e7 id)
              have HE8 := Lib.hid (HE6.out.only e7 id)
              have HQ8 := Lib.hid (And.intro (HQ6.out.1.only e7 (fun _ _ => id)) (HQ6.out.2.only e7 id))
              have HT8 := Lib.hid (Row.new u7 47 #[.int .i64 a0, .int .i64 a1, .int .i64 k, .slice A7 n c7, .slice (some ⟨g7, 0, none⟩) k ct7])
              have HU8 := Lib.hid (And.intro (hO7.only e8 (fun _ _ => id)) (hT7.only e8 id))
              clear hO7 hT7 hg7 hN7 e7 e8 HI6 HS6 HE6 HQ6
              go_upto_region 17 with (fail)
              generalize u7.alloc _ = u8 at *
              generalize u7.heap.size = S2 at *
              have s3 : u8.cell? ⟨S1, 3, none⟩ = some (.slice A3 n c3) := HS8.out.cell_ (i := 3) rfl
              have s4 : u8.cell? ⟨S1, 4, none⟩ = some (.slice (some ⟨g3, 0, none⟩) k ct3) := HS8.out.cell_ (i := 4) rfl
              have r3 : u8.cell? ⟨S2, 3, none⟩ = some (.slice A7 n c7) := HT8.out.cell_ (i := 3) rfl
              have r4 : u8.cell? ⟨S2, 4, none⟩ = some (.slice (some ⟨g7, 0, none⟩) k ct7) := HT8.out.cell_ (i := 4) rfl
              go_wp2_with fail
              clear s3 s4 r3 r4
              refine (same_n A3 A7 c3 c7 n m.xs m.xs _ (held_n HQ8.out.1 HLN.out) (held_n HU8.out.1 HLN.out) (by have h1 := HI8.out.inv.len; have h2 := HLN.out; have h3 := HK.out.2.1; omega)).mono ?_
              rw [decide_eq_true rfl]
              rintro e u9 ⟨rfl, hO⟩
              have HI9 := Lib.hid (HI8.out.keep hO)
              have HQ9 := Lib.hid (And.intro (HQ8.out.2.only hO id) (HU8.out.2.only hO id))
              have HS9 := Lib.hid (HS8.out.only hO id)
              have HT9 := Lib.hid (HT8.out.only hO id)
              have HE9 := Lib.hid (HE8.out.only hO id)
              clear hO HI8 HQ8 HU8 HS8 HT8 HE8
              have s4 : u9.cell? ⟨S1, 4, none⟩ = some (.slice (some ⟨g3, 0, none⟩) k ct3) := HS9.out.cell_ (i := 4) rfl
              have r4 : u9.cell? ⟨S2, 4, none⟩ = some (.slice (some ⟨g7, 0, none⟩) k ct7) := HT9.out.cell_ (i := 4) rfl
              have d1 : u9.cell? ⟨E, 1, none⟩ = some (.int .i64 0) := HE9.out.cell_ (i := 1) rfl
              have d2 : u9.cell? ⟨E, 2, none⟩ = some (.int .i64 0) := HE9.out.cell_ (i := 2) rfl
              have d3 : u9.cell? ⟨E, 3, none⟩ = some (.int .u32 0) := HE9.out.cell_ (i := 3) rfl
              have d4 : u9.cell? ⟨E, 4, none⟩ = some (.int .u32 0) := HE9.out.cell_ (i := 4) rfl
              have d5 : u9.cell? ⟨E, 5, none⟩ = some (.int .u32 0) := HE9.out.cell_ (i := 5) rfl
              go_wp2_with fail
              clear s4 r4 d1 d2 d3 d4 d5
              go_loopw [21] (fun jv wq => ∃ j : Nat, j ≤ k ∧ jv = .int .i64 j ∧ Hid (Drew u9 wq)) (fun jv _ => k - (intOf jv).toNat)
              case atStart => exact ⟨0, Nat.zero_le _, rfl, Lib.hid (Drew.refl _)⟩
              case round =>
                obtain ⟨j, hj, rfl, HD⟩ := hrel
                have s4 : wr.cell? ⟨S1, 4, none⟩ = some (.slice (some ⟨g3, 0, none⟩) k ct3) := (HD.out.cell _).trans (HS9.out.cell_ (i := 4) rfl)
                have r4 : wr.cell? ⟨S2, 4, none⟩ = some (.slice (some ⟨g7, 0, none⟩) k ct7) := (HD.out.cell _).trans (HT9.out.cell_ (i := 4) rfl)
                by_cases hjk : j < k
                · have HJK := Lib.hid hjk
                  have q5 : (j : Int) < k := by omega
                  have q6 : (0 : Int) ≤ j := by omega
                  have q7 : (j : Int).toNat = j := rfl
                  have q8 : (k : Int) ≤ 64 := by have := HK.out.2.1; omega
                  have XX0 : wr.cell? ⟨g3, j * 11, none⟩ = some (.int .i64 (m.hold j)) := (HD.out.cell _).trans (HQ9.out.1.cell hjk 0 rfl)
                  have XX1 : wr.cell? ⟨g3, j * 11 + 1, none⟩ = some (.int .i64 (m.rs j).op) := (HD.out.cell _).trans (HQ9.out.1.cell hjk 1 rfl)
                  have XX2 : wr.cell? ⟨g3, j * 11 + 2, none⟩ = some (.int .i64 (m.rs j).line) := (HD.out.cell _).trans (HQ9.out.1.cell hjk 2 rfl)
                  have XX3 : wr.cell? ⟨g3, j * 11 + 3, none⟩ = some (.int .u32 (m.rs j).a) := (HD.out.cell _).trans (HQ9.out.1.cell hjk 3 rfl)
                  have XX4 : wr.cell? ⟨g3, j * 11 + 4, none⟩ = some (.int .u32 (m.rs j).b) := (HD.out.cell _).trans (HQ9.out.1.cell hjk 4 rfl)
                  have XX5 : wr.cell? ⟨g3, j * 11 + 5, none⟩ = some (.int .i64 (m.rs j).s) := (HD.out.cell _).trans (HQ9.out.1.cell hjk 5 rfl)
                  have XX6 : wr.cell? ⟨g3, j * 11 + 6, none⟩ = some (.bool (m.rs j).k.on) := (HD.out.cell _).trans (HQ9.out.1.cell hjk 6 rfl)
                  have XX7 : wr.cell? ⟨g3, j * 11 + 7, none⟩ = some (.int .i64 (m.rs j).k.c) := (HD.out.cell _).trans (HQ9.out.1.cell hjk 7 rfl)
                  have XX8 : wr.cell? ⟨g3, j * 11 + 8, none⟩ = some (.int .i64 (m.rs j).k.i) := (HD.out.cell _).trans (HQ9.out.1.cell hjk 8 rfl)
                  have XX9 : wr.cell? ⟨g3, j * 11 + 9, none⟩ = some (.bool (m.rs j).k.hit) := (HD.out.cell _).trans (HQ9.out.1.cell hjk 9 rfl)
                  have XX10 : wr.cell? ⟨g3, j * 11 + 10, none⟩ = some (.int .i64 (m.rs j).ret) := (HD.out.cell _).trans (HQ9.out.1.cell hjk 10 rfl)
                  have XX0 : wr.cell? ⟨g7, j * 11, none⟩ = some (.int .i64 (m.hold j)) := (HD.out.cell _).trans (HQ9.out.2.cell hjk 0 rfl)
                  have XX1 : wr.cell? ⟨g7, j * 11 + 1, none⟩ = some (.int .i64 (m.rs j).op) := (HD.out.cell _).trans (HQ9.out.2.cell hjk 1 rfl)
                  have XX2 : wr.cell? ⟨g7, j * 11 + 2, none⟩ = some (.int .i64 (m.rs j).line) := (HD.out.cell _).trans (HQ9.out.2.cell hjk 2 rfl)
                  have XX3 : wr.cell? ⟨g7, j * 11 + 3, none⟩ = some (.int .u32 (m.rs j).a) := (HD.out.cell _).trans (HQ9.out.2.cell hjk 3 rfl)
                  have XX4 : wr.cell? ⟨g7, j * 11 + 4, none⟩ = some (.int .u32 (m.rs j).b) := (HD.out.cell _).trans (HQ9.out.2.cell hjk 4 rfl)
                  have XX5 : wr.cell? ⟨g7, j * 11 + 5, none⟩ = some (.int .i64 (m.rs j).s) := (HD.out.cell _).trans (HQ9.out.2.cell hjk 5 rfl)
                  have XX6 : wr.cell? ⟨g7, j * 11 + 6, none⟩ = some (.bool (m.rs j).k.on) := (HD.out.cell _).trans (HQ9.out.2.cell hjk 6 rfl)
                  have XX7 : wr.cell? ⟨g7, j * 11 + 7, none⟩ = some (.int .i64 (m.rs j).k.c) := (HD.out.cell _).trans (HQ9.out.2.cell hjk 7 rfl)
                  have XX8 : wr.cell? ⟨g7, j * 11 + 8, none⟩ = some (.int .i64 (m.rs j).k.i) := (HD.out.cell _).trans (HQ9.out.2.cell hjk 8 rfl)
                  have XX9 : wr.cell? ⟨g7, j * 11 + 9, none⟩ = some (.bool (m.rs j).k.hit) := (HD.out.cell _).trans (HQ9.out.2.cell hjk 9 rfl)
                  have XX10 : wr.cell? ⟨g7, j * 11 + 10, none⟩ = some (.int .i64 (m.rs j).ret) := (HD.out.cell _).trans (HQ9.out.2.cell hjk 10 rfl)
                  clear hj
                  go_upto_region 22 with (fail)
                  go_still_tail 10, (by kernel_rfl)
                  go_wp2_with fail
                  exact ⟨⟨j + 1, by have := HJK.out; omega, by go_num, Lib.hid (HD.out.trans ⟨1, rfl⟩)⟩, by have := HJK.out; simp [intOf]; omega⟩
                · obtain rfl : j = k := by omega
                  have HI10 := Lib.hid (HI9.out.keep HD.out.only)
                  clear hj hjk
                  go_wp2
                  go_roundw
                  case rel => exact ⟨i + 1, by have := HLT.out; omega, by go_num, by rw [HX.out, HE.out.2]; exact HI10.out⟩
                  case measure => have := HLT.out; simp [intOf]; omega
          · obtain ⟨hth, hth2⟩ := ht
            have HST := Lib.hid (show stkI m k t = false by unfold stkI; rw [if_pos ⟨hth, hth2⟩]; exact hs)
            rcases hc with ⟨n1, n2, hev, ha3, hm⟩ | ⟨hran, hns⟩
            · have HE := Lib.hid (And.intro hev hm)
              have HN3 := Lib.hid ha3
              clear hev hm hI hs ha3
              go_wp2_with fail
              have e1 := (Only.refl Nil wr).alloc (.cells #[.int .i64 t, .int .i64 o] 39)
              have HR1 := Lib.hid (Row.new wr 39 #[.int .i64 t, .int .i64 o])
              have HI1 := Lib.hid (HI.out.keep e1)
              clear e1 HI
              generalize wr.alloc _ = u1 at *
              generalize wr.heap.size = P at *
              refine (woStuck_all g gt b A cp a0 a1 k t m _ HI1.out.wd HI1.out.inv).mono ?_
              rintro e u2 ⟨rfl, hO, hW⟩
              rw [HST.out]
              have HI2 := Lib.hid (HI1.out.turn (hO.mono fun _ _ h => .inr h) hW HI1.out.inv)
              have HR2 := Lib.hid (HR1.out.only hO (fun hA => by
                obtain ⟨cur, hc⟩ := own_tag HI1.out.wd.mem.own hA
                exact row_ne HR1.out hc (by decide) rfl))
              clear hO hW HI1 HR1
              go_wp2_with fail
              refine (woState_any g gt b A cp a0 a1 k m _ HI2.out.wd HK.out.2.1).mono ?_
              rintro e u3 ⟨A3, c3, g3, ct3, rfl, hO3, hT3, hg3, hN3⟩
              obtain ⟨n, hn⟩ : ∃ n, m.xs.length = n := ⟨_, rfl⟩
              unfold stateCs
              rw [hn]
              have e3 := hN3.alloc (.cells (stateCs a0 a1 k A3 n c3 g3 ct3) 47)
              have HI3 := Lib.hid (HI2.out.keep e3)
              have HR3 := Lib.hid (HR2.out.only e3 id)
              have HS3 := Lib.hid (Row.new u3 47 (stateCs a0 a1 k A3 n c3 g3 ct3))
              have HQ3 := Lib.hid (And.intro (hO3.only ((Only.refl Nil u3).alloc (.cells (stateCs a0 a1 k A3 n c3 g3 ct3) 47)) (fun _ _ => id)) (And.intro (hT3.only ((Only.refl Nil u3).alloc (.cells (stateCs a0 a1 k A3 n c3 g3 ct3) 47)) id) (And.intro hn (And.intro hg3 HI2.out.wd.lt))))
              clear hO3 hT3 hg3 hN3 e3 hn HI2 HR2
              have p0 : (u3.alloc (.cells (stateCs a0 a1 k A3 n c3 g3 ct3) 47)).cell? ⟨P, 0, none⟩ = some (.int .i64 t) := HR3.out.cell_ (i := 0) rfl
              have p1 : (u3.alloc (.cells (stateCs a0 a1 k A3 n c3 g3 ct3) 47)).cell? ⟨P, 1, none⟩ = some (.int .i64 o) := HR3.out.cell_ (i := 1) rfl
              unfold stateCs at p0 p1
              go_wp2_with fail
              clear p0 p1
              unfold stateCs at *
              generalize u3.alloc _ = u4 at *
              generalize u3.heap.size = S1 at *
              refine (woPick_any g gt b A cp a0 a1 k t o m _ HI3.out.wd HI3.out.inv HK.out.1).mono ?_
              rw [HE.out.1, HE.out.2]
              rintro e u5 ⟨nv, rfl, hN, hO, hW⟩
              rcases hN.2 with ⟨_, h0⟩ | ⟨G, cv, cur, rfl, _⟩
              · simp at h0
              have hc7 : u5.cell? ⟨G, 7, none⟩ = some (.int .i64 3) := by
                have := World.ownsRow.cells hN (g := G) rfl 7 (.int .i64 n2.a) rfl
                rw [HN3.out, add_at, Nat.zero_add] at this
                exact this
              rw [show ([n1, n2] : List Nt).length = 2 from rfl]
              unfold evCs acc0
              dsimp only
              have HI5 := Lib.hid (HI3.out.turn hO hW HI3.out.inv)
              obtain ⟨ct, hct⟩ := HI3.out.wd.tasks.rowT
              have hgA : ∀ i t cs, Row u4 i t cs → t ≠ 59 → t ≠ 22 → ¬ TurnW gt A i := fun i t cs hi h1 h2 e => by
                rcases e with rfl | hA
                · exact row_ne hi hct h1 rfl
                · obtain ⟨cur, hc⟩ := own_tag HI3.out.wd.mem.own hA
                  exact row_ne hi hc h2 rfl
              have HS5 := Lib.hid (HS3.out.only hO (hgA _ _ _ HS3.out (by decide) (by decide)))
              have HQ5 := Lib.hid (And.intro (HQ3.out.1.only hO (fun j hj e => by
                have h1 := HQ3.out.1.base j hj
                rcases e with rfl | hA
                · have := HQ3.out.2.2.2.2.2.1; omega
                · have := HQ3.out.2.2.2.2.2.2.2 j hA; omega)) (HQ3.out.2.1.only hO (fun e => by
                have h1 := HQ3.out.2.2.2.1
                rcases e with e | hA
                · have := HQ3.out.2.2.2.2.2.1; omega
                · have := HQ3.out.2.2.2.2.2.2.2 _ hA; omega)))
              have HLN := Lib.hid HQ3.out.2.2.1
              clear hO hW hct hgA HI3 HS3 HQ3 HR3 c0 c1
              have hc8 : (u5.alloc (.cells #[.bool true, .int .i64 0, .int .i64 0, .int .u32 0, .int .u32 0, .int .u32 0, .slice (some ⟨G, 0, none⟩) 2 cv] 36)).cell? ⟨G, 7, none⟩ = some (.int .i64 3) := (World.cell?_alloc_lt u5 _ ⟨G, 7, none⟩ (World.block_lt_of_cell? u5 _ hc7)).trans hc7
              go_upto_region 16 with (fail)
              have e6 := (Only.refl Nil u5).alloc (.cells #[.bool true, .int .i64 0, .int .i64 0, .int .u32 0, .int .u32 0, .int .u32 0, .slice (some ⟨G, 0, none⟩) 2 cv] 36)
              have HI6 := Lib.hid (HI5.out.keep e6)
              have HS6 := Lib.hid (HS5.out.only e6 id)
              have HQ6 := Lib.hid (And.intro (HQ5.out.1.only e6 (fun _ _ => id)) (HQ5.out.2.only e6 id))
              have HE6 := Lib.hid (Row.new u5 36 #[.bool true, .int .i64 0, .int .i64 0, .int .u32 0, .int .u32 0, .int .u32 0, .slice (some ⟨G, 0, none⟩) 2 cv])
              clear e6 HI5 HS5 HQ5
              generalize u5.alloc _ = u6 at *
              generalize u5.heap.size = E at *
              go_wp2_with fail
              refine (woState_any g gt b A cp a0 a1 k m _ HI6.out.wd HK.out.2.1).mono ?_
              rintro e u7 ⟨A7, c7, g7, ct7, rfl, hO7, hT7, hg7, hN7⟩
              unfold stateCs
              rw [HLN.out]
              have e7 := hN7.alloc (.cells #[.int .i64 a0, .int .i64 a1, .int .i64 k, .slice A7 n c7, .slice (some ⟨g7, 0, none⟩) k ct7] 47)
              have e8 := (Only.refl Nil u7).alloc (.cells #[.int .i64 a0, .int .i64 a1, .int .i64 k, .slice A7 n c7, .slice (some ⟨g7, 0, none⟩) k ct7] 47)
              have HI8 := Lib.hid (HI6.out.keep e7)
              have HS8 := Lib.hid (HS6.out.only e7 id)
              have HE8 := Lib.hid (HE6.out.only e7 id)
              have HQ8 := Lib.hid (And.intro (HQ6.out.1.only e7 (fun _ _ => id)) (HQ6.out.2.only e7 id))
              have HT8 := Lib.hid (Row.new u7 47 #[.int .i64 a0, .int .i64 a1, .int .i64 k, .slice A7 n c7, .slice (some ⟨g7, 0, none⟩) k ct7])
              have HU8 := Lib.hid (And.intro (hO7.only e8 (fun _ _ => id)) (hT7.only e8 id))
              clear hO7 hT7 hg7 hN7 e7 e8 HI6 HS6 HE6 HQ6
              go_upto_region 17 with (fail)
              generalize u7.alloc _ = u8 at *
              generalize u7.heap.size = S2 at *
              have s3 : u8.cell? ⟨S1, 3, none⟩ = some (.slice A3 n c3) := HS8.out.cell_ (i := 3) rfl
              have s4 : u8.cell? ⟨S1, 4, none⟩ = some (.slice (some ⟨g3, 0, none⟩) k ct3) := HS8.out.cell_ (i := 4) rfl
              have r3 : u8.cell? ⟨S2, 3, none⟩ = some (.slice A7 n c7) := HT8.out.cell_ (i := 3) rfl
              have r4 : u8.cell? ⟨S2, 4, none⟩ = some (.slice (some ⟨g7, 0, none⟩) k ct7) := HT8.out.cell_ (i := 4) rfl
              go_wp2_with fail
              clear s3 s4 r3 r4
              refine (same_n A3 A7 c3 c7 n m.xs m.xs _ (held_n HQ8.out.1 HLN.out) (held_n HU8.out.1 HLN.out) (by have h1 := HI8.out.inv.len; have h2 := HLN.out; have h3 := HK.out.2.1; omega)).mono ?_
              rw [decide_eq_true rfl]
              rintro e u9 ⟨rfl, hO⟩
              have HI9 := Lib.hid (HI8.out.keep hO)
              have HQ9 := Lib.hid (And.intro (HQ8.out.2.only hO id) (HU8.out.2.only hO id))
              have HS9 := Lib.hid (HS8.out.only hO id)
              have HT9 := Lib.hid (HT8.out.only hO id)
              have HE9 := Lib.hid (HE8.out.only hO id)
              clear hO HI8 HQ8 HU8 HS8 HT8 HE8
              have s4 : u9.cell? ⟨S1, 4, none⟩ = some (.slice (some ⟨g3, 0, none⟩) k ct3) := HS9.out.cell_ (i := 4) rfl
              have r4 : u9.cell? ⟨S2, 4, none⟩ = some (.slice (some ⟨g7, 0, none⟩) k ct7) := HT9.out.cell_ (i := 4) rfl
              have d1 : u9.cell? ⟨E, 1, none⟩ = some (.int .i64 0) := HE9.out.cell_ (i := 1) rfl
              have d2 : u9.cell? ⟨E, 2, none⟩ = some (.int .i64 0) := HE9.out.cell_ (i := 2) rfl
              have d3 : u9.cell? ⟨E, 3, none⟩ = some (.int .u32 0) := HE9.out.cell_ (i := 3) rfl
              have d4 : u9.cell? ⟨E, 4, none⟩ = some (.int .u32 0) := HE9.out.cell_ (i := 4) rfl
              have d5 : u9.cell? ⟨E, 5, none⟩ = some (.int .u32 0) := HE9.out.cell_ (i := 5) rfl
              go_wp2_with fail
              clear s4 r4 d1 d2 d3 d4 d5
              go_loopw [21] (fun jv wq => ∃ j : Nat, j ≤ k ∧ jv = .int .i64 j ∧ Hid (Drew u9 wq)) (fun jv _ => k - (intOf jv).toNat)
              case atStart => exact ⟨0, Nat.zero_le _, rfl, Lib.hid (Drew.refl _)⟩
              case round =>
                obtain ⟨j, hj, rfl, HD⟩ := hrel
                have s4 : wr.cell? ⟨S1, 4, none⟩ = some (.slice (some ⟨g3, 0, none⟩) k ct3) := (HD.out.cell _).trans (HS9.out.cell_ (i := 4) rfl)
                have r4 : wr.cell? ⟨S2, 4, none⟩ = some (.slice (some ⟨g7, 0, none⟩) k ct7) := (HD.out.cell _).trans (HT9.out.cell_ (i := 4) rfl)
                by_cases hjk : j < k
                · have HJK := Lib.hid hjk
                  have q5 : (j : Int) < k := by omega
                  have q6 : (0 : Int) ≤ j := by omega
                  have q7 : (j : Int).toNat = j := rfl
                  have q8 : (k : Int) ≤ 64 := by have := HK.out.2.1; omega
                  have XX0 : wr.cell? ⟨g3, j * 11, none⟩ = some (.int .i64 (m.hold j)) := (HD.out.cell _).trans (HQ9.out.1.cell hjk 0 rfl)
                  have XX1 : wr.cell? ⟨g3, j * 11 + 1, none⟩ = some (.int .i64 (m.rs j).op) := (HD.out.cell _).trans (HQ9.out.1.cell hjk 1 rfl)
                  have XX2 : wr.cell? ⟨g3, j * 11 + 2, none⟩ = some (.int .i64 (m.rs j).line) := (HD.out.cell _).trans (HQ9.out.1.cell hjk 2 rfl)
                  have XX3 : wr.cell? ⟨g3, j * 11 + 3, none⟩ = some (.int .u32 (m.rs j).a) := (HD.out.cell _).trans (HQ9.out.1.cell hjk 3 rfl)
                  have XX4 : wr.cell? ⟨g3, j * 11 + 4, none⟩ = some (.int .u32 (m.rs j).b) := (HD.out.cell _).trans (HQ9.out.1.cell hjk 4 rfl)
                  have XX5 : wr.cell? ⟨g3, j * 11 + 5, none⟩ = some (.int .i64 (m.rs j).s) := (HD.out.cell _).trans (HQ9.out.1.cell hjk 5 rfl)
                  have XX6 : wr.cell? ⟨g3, j * 11 + 6, none⟩ = some (.bool (m.rs j).k.on) := (HD.out.cell _).trans (HQ9.out.1.cell hjk 6 rfl)
                  have XX7 : wr.cell? ⟨g3, j * 11 + 7, none⟩ = some (.int .i64 (m.rs j).k.c) := (HD.out.cell _).trans (HQ9.out.1.cell hjk 7 rfl)
                  have XX8 : wr.cell? ⟨g3, j * 11 + 8, none⟩ = some (.int .i64 (m.rs j).k.i) := (HD.out.cell _).trans (HQ9.out.1.cell hjk 8 rfl)
                  have XX9 : wr.cell? ⟨g3, j * 11 + 9, none⟩ = some (.bool (m.rs j).k.hit) := (HD.out.cell _).trans (HQ9.out.1.cell hjk 9 rfl)
                  have XX10 : wr.cell? ⟨g3, j * 11 + 10, none⟩ = some (.int .i64 (m.rs j).ret) := (HD.out.cell _).trans (HQ9.out.1.cell hjk 10 rfl)
                  have XX0 : wr.cell? ⟨g7, j * 11, none⟩ = some (.int .i64 (m.hold j)) := (HD.out.cell _).trans (HQ9.out.2.cell hjk 0 rfl)
                  have XX1 : wr.cell? ⟨g7, j * 11 + 1, none⟩ = some (.int .i64 (m.rs j).op) := (HD.out.cell _).trans (HQ9.out.2.cell hjk 1 rfl)
                  have XX2 : wr.cell? ⟨g7, j * 11 + 2, none⟩ = some (.int .i64 (m.rs j).line) := (HD.out.cell _).trans (HQ9.out.2.cell hjk 2 rfl)
                  have XX3 : wr.cell? ⟨g7, j * 11 + 3, none⟩ = some (.int .u32 (m.rs j).a) := (HD.out.cell _).trans (HQ9.out.2.cell hjk 3 rfl)
                  have XX4 : wr.cell? ⟨g7, j * 11 + 4, none⟩ = some (.int .u32 (m.rs j).b) := (HD.out.cell _).trans (HQ9.out.2.cell hjk 4 rfl)
                  have XX5 : wr.cell? ⟨g7, j * 11 + 5, none⟩ = some (.int .i64 (m.rs j).s) := (HD.out.cell _).trans (HQ9.out.2.cell hjk 5 rfl)
                  have XX6 : wr.cell? ⟨g7, j * 11 + 6, none⟩ = some (.bool (m.rs j).k.on) := (HD.out.cell _).trans (HQ9.out.2.cell hjk 6 rfl)
                  have XX7 : wr.cell? ⟨g7, j * 11 + 7, none⟩ = some (.int .i64 (m.rs j).k.c) := (HD.out.cell _).trans (HQ9.out.2.cell hjk 7 rfl)
                  have XX8 : wr.cell? ⟨g7, j * 11 + 8, none⟩ = some (.int .i64 (m.rs j).k.i) := (HD.out.cell _).trans (HQ9.out.2.cell hjk 8 rfl)
                  have XX9 : wr.cell? ⟨g7, j * 11 + 9, none⟩ = some (.bool (m.rs j).k.hit) := (HD.out.cell _).trans (HQ9.out.2.cell hjk 9 rfl)
                  have XX10 : wr.cell? ⟨g7, j * 11 + 10, none⟩ = some (.int .i64 (m.rs j).ret) := (HD.out.cell _).trans (HQ9.out.2.cell hjk 10 rfl)
                  clear hj
                  go_upto_region 22 with (fail)
                  go_still_tail 10, (by kernel_rfl)
                  go_wp2_with fail
                  exact ⟨⟨j + 1, by have := HJK.out; omega, by go_num, Lib.hid (HD.out.trans ⟨1, rfl⟩)⟩, by have := HJK.out; simp [intOf]; omega⟩
                · obtain rfl : j = k := by omega
                  have HI10 := Lib.hid (HI9.out.keep HD.out.only)
                  clear hj hjk
                  go_wp2
                  go_roundw
                  case rel => exact ⟨i + 1, by have := HLT.out; omega, by go_num, by rw [HX.out, HE.out.2]; exact HI10.out⟩
                  case measure => have := HLT.out; simp [intOf]; omega
            · have HM := Lib.hid (hI.inv.pick (kind := a0) t o)
              have HE := Lib.hid (And.intro hran hns)
              clear hI hs hran hns
              go_wp2_with fail
              have e1 := (Only.refl Nil wr).alloc (.cells #[.int .i64 t, .int .i64 o] 39)
              have HR1 := Lib.hid (Row.new wr 39 #[.int .i64 t, .int .i64 o])
              have HI1 := Lib.hid (HI.out.keep e1)
              clear e1 HI
              generalize wr.alloc _ = u1 at *
              generalize wr.heap.size = P at *
              refine (woStuck_all g gt b A cp a0 a1 k t m _ HI1.out.wd HI1.out.inv).mono ?_
              rintro e u2 ⟨rfl, hO, hW⟩
              rw [HST.out]
              have HI2 := Lib.hid (HI1.out.turn (hO.mono fun _ _ h => .inr h) hW HI1.out.inv)
              have HR2 := Lib.hid (HR1.out.only hO (fun hA => by
                obtain ⟨cur, hc⟩ := own_tag HI1.out.wd.mem.own hA
                exact row_ne HR1.out hc (by decide) rfl))
              clear hO hW HI1 HR1
              go_wp2_with fail
              refine (woState_any g gt b A cp a0 a1 k m _ HI2.out.wd HK.out.2.1).mono ?_
              rintro e u3 ⟨A3, c3, g3, ct3, rfl, hO3, hT3, hg3, hN3⟩
              obtain ⟨n, hn⟩ : ∃ n, m.xs.length = n := ⟨_, rfl⟩
              unfold stateCs
              rw [hn]
              have e3 := hN3.alloc (.cells (stateCs a0 a1 k A3 n c3 g3 ct3) 47)
              have HI3 := Lib.hid (HI2.out.keep e3)
              have HR3 := Lib.hid (HR2.out.only e3 id)
              have HS3 := Lib.hid (Row.new u3 47 (stateCs a0 a1 k A3 n c3 g3 ct3))
              have HQ3 := Lib.hid (And.intro (hO3.only ((Only.refl Nil u3).alloc (.cells (stateCs a0 a1 k A3 n c3 g3 ct3) 47)) (fun _ _ => id)) (And.intro (hT3.only ((Only.refl Nil u3).alloc (.cells (stateCs a0 a1 k A3 n c3 g3 ct3) 47)) id) (And.intro hn (And.intro hg3 HI2.out.wd.lt))))
              clear hO3 hT3 hg3 hN3 e3 hn HI2 HR2
              have p0 : (u3.alloc (.cells (stateCs a0 a1 k A3 n c3 g3 ct3) 47)).cell? ⟨P, 0, none⟩ = some (.int .i64 t) := HR3.out.cell_ (i := 0) rfl
              have p1 : (u3.alloc (.cells (stateCs a0 a1 k A3 n c3 g3 ct3) 47)).cell? ⟨P, 1, none⟩ = some (.int .i64 o) := HR3.out.cell_ (i := 1) rfl
              unfold stateCs at p0 p1
              go_wp2_with fail
              clear p0 p1
              unfold stateCs at *
              generalize u3.alloc _ = u4 at *
              generalize u3.heap.size = S1 at *
              refine (woPick_any g gt b A cp a0 a1 k t o m _ HI3.out.wd HI3.out.inv HK.out.1).mono ?_
              generalize eventW (linesI a0) k m t o = ev at *
              generalize pickW (linesI a0) k m t o = m' at *
              obtain ⟨ran, ac, ns⟩ := ev
              obtain ⟨ak, ac, ax, ay, ao⟩ := ac
              obtain rfl : ran = true := HE.out.1
              rintro e u5 ⟨nv, rfl, hN, hO, hW⟩
              have HI5 := Lib.hid (HI3.out.turn hO hW HM.out)
              unfold evCs
              dsimp only
              clear hO hW HI3 HS3 HQ3 HR3 c0 c1
              by_cases h2 : ns.length = 2
              · obtain ⟨n1, n2, rfl⟩ : ∃ n1 n2, ns = [n1, n2] := by
                  match ns, h2 with
                  | [x, y], _ => exact ⟨x, y, rfl⟩
                have hne : (n2.a == 3) = false := beq_eq_false_iff_ne.2 (HE.out.2 n2 (by simp))
                rcases hN.2 with ⟨_, h0⟩ | ⟨G, cv, cur, rfl, _⟩
                · simp at h0
                have hc7 : u5.cell? ⟨G, 7, none⟩ = some (.int .i64 n2.a) := by
                  have := World.ownsRow.cells hN (g := G) rfl 7 (.int .i64 n2.a) rfl
                  rw [add_at, Nat.zero_add] at this
                  exact this
                have hc8 : (u5.alloc (.cells #[.bool true, .int .i64 ak, .int .i64 ac, .int .u32 ax, .int .u32 ay, .int .u32 ao, .slice (some ⟨G, 0, none⟩) 2 cv] 36)).cell? ⟨G, 7, none⟩ = some (.int .i64 n2.a) := (World.cell?_alloc_lt u5 _ ⟨G, 7, none⟩ (World.block_lt_of_cell? u5 _ hc7)).trans hc7
                rw [show ([n1, n2] : List Nt).length = 2 from rfl]
                have HI6 := Lib.hid (HI5.out.keep ((Only.refl Nil u5).alloc (.cells #[.bool true, .int .i64 ak, .int .i64 ac, .int .u32 ax, .int .u32 ay, .int .u32 ao, .slice (some ⟨G, 0, none⟩) 2 cv] 36)))
                clear HI5 hN h2
                go_wp2
                go_roundw
                case rel => exact ⟨i + 1, by have := HLT.out; omega, by go_num, by rw [HX.out]; exact HI6.out⟩
                case measure => have := HLT.out; simp [intOf]; omega
              · obtain ⟨Av, cv, rfl, _⟩ := hN.list
                have hn2 : ((ns.length : Int) == 2) = false := beq_eq_false_iff_ne.2 (by omega)
                obtain ⟨nn, hnn⟩ : ∃ nn, ns.length = nn := ⟨_, rfl⟩
                rw [hnn] at hn2 ⊢
                have HI6 := Lib.hid (HI5.out.keep ((Only.refl Nil u5).alloc (.cells #[.bool true, .int .i64 ak, .int .i64 ac, .int .u32 ax, .int .u32 ay, .int .u32 ao, .slice Av nn cv] 36)))
                clear HI5 hN h2 hnn
                go_wp2
                go_roundw
                case rel => exact ⟨i + 1, by have := HLT.out; omega, by go_num, by rw [HX.out]; exact HI6.out⟩
                case measure => have := HLT.out; simp [intOf]; omega
        · obtain rfl : i = len4 := by omega
          have HO := Lib.hid hI.only
          clear hI hlt hi
          go_wp2_with fail
          refine (awake_any _).mono ?_
          rintro e wz ⟨rfl, hz⟩
          have HZ := Lib.hid (HO.out.trans hz)
          clear hz
          go_wp2
          go_ret
          exact ⟨rfl, HZ.out⟩
end Go.Proofs.YtlepokgagickmaaGreat
