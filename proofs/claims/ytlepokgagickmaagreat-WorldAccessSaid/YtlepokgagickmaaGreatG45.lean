import Derived.Laws.StructEq
import Derived.Test.YtlepokgagickmaaGreatG44
import Derived.Test.YtlepokgagickmaaGreatG16
import Derived.Test.YtlepokgagickmaaGreatG17
set_option linter.unusedVariables false
set_option linter.unusedSimpArgs false
namespace Go.Proofs.YtlepokgagickmaaGreat
open Go.RowKit
structure AccI (W : World) (g gt b : Nat) (A : Option Addr) (cp : Nat) (kind mode : Int) (k n : Nat) (m : MV) (sv : Value) (w : World) : Prop where
  wo : Wo W g gt b A cp kind mode k m w
  was : ∃ A' c', sv = .slice A' n c' ∧ Own w W.heap.size A' c' m.xs ∧ m.xs.length = n ∧ ∀ j, At A' j → ¬ At A j
set_option maxRecDepth 100000 in
set_option maxHeartbeats 4000000 in
theorem walk_worldAccess (a0 a1 a2 a3 : Int) (a4 : Option Addr) (len4 cap4 : Nat) (W : World) (w0 : (Lit.int .i64 a0).wf = true) (w1 : (Lit.int .i64 a1).wf = true) (w2 : (Lit.int .i64 a2).wf = true) (w3 : (Lit.int .u32 a3).wf = true) (w4 : IsPicks W a4 len4) :
    Calls Tryz.prog 5 #[.int .i64 a0, .int .i64 a1, .int .i64 a2, .int .u32 a3, .slice a4 len4 cap4] W fun e w' => e = .returned (.bool true) ∧ Only Nil W w' := by
  obtain ⟨l, hl, hp⟩ := picks_list w4
  have h3 : Wrd a3 := wf_u32 w3
  clear w0 w1 w2 w3 w4
  rcases wnew_case a0 a1 a2 a3 with ⟨er, her, hN⟩ | ⟨hk, hm, hn⟩
  · have HN := Lib.hid (hN W)
    clear hN h3 hp hl
    rcases her with rfl | rfl | rfl
    all_goals
      go_enter Tryz.func5, Tryz.ntmps5
      go_wp2_with fail
      refine HN.out.mono ?_
      rintro e v1 ⟨rfl, hO⟩
      have HO := Lib.hid hO
      clear hO HN
      go_wp2_with fail
      refine (awake_any _).mono ?_
      rintro e wz ⟨rfl, hz⟩
      have HZ := Lib.hid (HO.out.trans hz)
      clear hz
      go_wp2
      go_ret
      exact ⟨rfl, HZ.out⟩
  · obtain ⟨k, rfl⟩ : ∃ k : Nat, a2 = k := ⟨a2.toNat, by omega⟩
    have hk1 : 1 ≤ k ∧ k ≤ 64 := by omega
    have HN := Lib.hid (wnew_yes a0 a1 a3 k W hk hm hk1 h3)
    have HP := Lib.hid (And.intro hl hp)
    have HK := Lib.hid (And.intro hk (And.intro hk1 h3))
    clear hl hp hk hm hn hk1 h3
    by_cases h1000 : 1000 < len4
    · have q1 : (1000 : Int) < len4 := by omega
      clear h1000
      go_enter Tryz.func5, Tryz.ntmps5
      go_wp2_with fail
      refine HN.out.mono ?_
      intro e v1 hn
      obtain ⟨g, gt, b, A, cp, rfl, hw⟩ := wo_new HK.out.2.2 hn
      have HO := Lib.hid hw.only
      clear hn hw HN
      go_wp2_with fail
      refine (awake_any _).mono ?_
      rintro e wz ⟨rfl, hz⟩
      have HZ := Lib.hid (HO.out.trans hz)
      clear hz
      go_wp2
      go_ret
      exact ⟨rfl, HZ.out⟩
    · have q1 : ¬ (1000 : Int) < len4 := by omega
      have q0 : (len4 : Int) ≤ 9223372036854775806 := by omega
      clear h1000
      go_enter Tryz.func5, Tryz.ntmps5
      go_wp2_with fail
      refine HN.out.mono ?_
      intro e v1 hn
      obtain ⟨g, gt, b, A, cp, rfl, hw⟩ := wo_new HK.out.2.2 hn
      have HW := Lib.hid hw
      clear hn hw HN
      generalize mv0 a0 a1 k a3 = m0 at *
      have hf := st_cells
      go_wp2_with fail
      refine (woState_any g gt b A cp a0 a1 k m0 _ HW.out.wd HK.out.2.1).mono ?_
      rintro e v2 ⟨A2, c2, g2, ct2, rfl, hO2, _, _, hN2⟩
      obtain ⟨n, hn⟩ : ∃ n, m0.xs.length = n := ⟨_, rfl⟩
      unfold stateCs
      rw [hn]
      have HA2 := Lib.hid (AccI.mk (W := W) (HW.out.keep hN2) ⟨A2, c2, rfl, own_base' hO2 HW.out.only.size, hn, fun j hj hA => by have := hO2.base j hj; have := HW.out.wd.lt.2.2.2 j hA; omega⟩)
      clear hO2 hN2 hn HW
      go_wp2_with fail
      go_loopw [13, 14] (fun sv iv wr => ∃ i : Nat, i ≤ len4 ∧ iv = .int .i64 i ∧ AccI W g gt b A cp a0 a1 k n (runI (linesI a0) k m0 (l.take i)).1 sv wr) (fun _ iv _ => len4 - (intOf iv).toNat)
      case atStart => exact ⟨0, Nat.zero_le _, rfl, HA2.out⟩
      case round =>
        obtain ⟨i, hi, rfl, hI⟩ := hrel
        clear HA2
        by_cases hlt : i < len4
        · obtain ⟨p, hp⟩ : ∃ p, l[i]? = some p := ⟨_, List.getElem?_eq_getElem (by rw [HP.out.1]; exact hlt)⟩
          have HX := Lib.hid (congrArg Prod.fst (run_next (L := linesI a0) (k := k) (m := m0) hp))
          obtain ⟨pb, pq, rfl, c0, c1⟩ := HP.out.2 _ hI.wo.only i p hp
          obtain ⟨t, o⟩ := p
          dsimp only at c0 c1
          have HLT := Lib.hid hlt
          have q2 : (i : Int) < len4 := by omega
          unfold runStep at HX
          dsimp only at HX
          generalize (runI (linesI a0) k m0 (l.take i)).1 = m at *
          obtain ⟨A3, c3, rfl, hown, hlen, hfar⟩ := hI.was
          have HI := Lib.hid hI
          clear hp hi hlt hI
          have HA := Lib.hid (acc_case (pick_acc (kind := a0) HI.out.wo.inv t o))
          have HM := Lib.hid (HI.out.wo.inv.pick (kind := a0) t o)
          have HOW := Lib.hid (And.intro hown (And.intro hlen hfar))
          clear hown hlen hfar
          go_wp2_with fail
          refine (woPick_any g gt b A cp a0 a1 k t o m _ HI.out.wo.wd HI.out.wo.inv HK.out.1).mono ?_
          generalize eventW (linesI a0) k m t o = ev at *
          generalize pickW (linesI a0) k m t o = m' at *
          obtain ⟨ran, ac, ns⟩ := ev
          obtain ⟨ak, ac, ax, ay, ao⟩ := ac
          rintro e u1 ⟨nv, rfl, hN, hO, hW⟩
          obtain ⟨Av, nn, cv, rfl⟩ := ownN_form hN
          have e1 := (Only.refl Nil u1).alloc (.cells #[.bool ran, .int .i64 ak, .int .i64 ac, .int .u32 ax, .int .u32 ay, .int .u32 ao, .slice Av nn cv] 36)
          have HW2 := Lib.hid ((HI.out.wo.turn hO hW HM.out).keep e1)
          have HOW2 := Lib.hid ((HOW.out.1.only hO (fun j hj e => by
            rcases e with rfl | hA
            · obtain ⟨ct, hr⟩ := HI.out.wo.wd.tasks.rowT
              obtain ⟨cur, hc⟩ := own_tag HOW.out.1 hj
              exact row_ne hc hr (by decide) rfl
            · exact HOW.out.2.2 j hj hA)).only e1 (fun _ _ => id))
          have HE2 := Lib.hid (Row.new u1 36 #[.bool ran, .int .i64 ak, .int .i64 ac, .int .u32 ax, .int .u32 ay, .int .u32 ao, .slice Av nn cv])
          clear hN hO hW c0 c1
          unfold evCs
          dsimp only
          go_wp2_with fail
          clear e1
          generalize u1.alloc _ = u2 at *
          generalize u1.heap.size = E at *
          refine (woState_any g gt b A cp a0 a1 k m' _ HW2.out.wd HK.out.2.1).mono ?_
          rintro e u3 ⟨A5, c5, g5, ct5, rfl, hO5, _, _, hN5⟩
          have hl5 : m'.xs.length = n := HM.out.len.trans (HI.out.wo.inv.len.symm.trans HOW.out.2.1)
          unfold stateCs
          rw [hl5]
          have HW3 := Lib.hid (HW2.out.keep hN5)
          have HO3 := Lib.hid (HOW2.out.only hN5 (fun _ _ => id))
          have HE3 := Lib.hid (HE2.out.only hN5 id)
          have HN3 := Lib.hid (And.intro (own_base' hO5 HW2.out.only.size) (And.intro hl5 (show ∀ j, At A5 j → ¬ At A j from fun j hj hA => by have := hO5.base j hj; have := HW2.out.wd.lt.2.2.2 j hA; omega)))
          have HF3 := Lib.hid (show ∀ j, At A3 j → ¬ At A5 j from fun j hj hA => by have := hO5.base j hA; have := HOW2.out.lt j hj; omega)
          clear hO5 hN5 hl5 HW2 HOW2 HE2
          have d1 : u3.cell? ⟨E, 1, none⟩ = some (.int .i64 ak) := HE3.out.cell_ (i := 1) rfl
          have d2 : u3.cell? ⟨E, 2, none⟩ = some (.int .i64 ac) := HE3.out.cell_ (i := 2) rfl
          have d3 : u3.cell? ⟨E, 3, none⟩ = some (.int .u32 ax) := HE3.out.cell_ (i := 3) rfl
          have d4 : u3.cell? ⟨E, 4, none⟩ = some (.int .u32 ay) := HE3.out.cell_ (i := 4) rfl
          have d5 : u3.cell? ⟨E, 5, none⟩ = some (.int .u32 ao) := HE3.out.cell_ (i := 5) rfl
          rcases HA.out with ⟨hz, hx⟩ | ⟨kd, c, x, y, h1, hd, ha, hx⟩
          · have HXX := Lib.hid hx
            injection hz with z1 z2 z3 z4 z5
            subst z1 z2 z3 z4 z5
            clear hx HA
            go_wp2_with fail
            have HOU := Lib.hid (show Own u3 W.heap.size A3 c3 m'.xs by rw [HXX.out]; exact HO3.out)
            have HNU := Lib.hid HN3.out.1
            have HWU := HW3
            clear d1 d2 d3 d4 d5
            refine (same_n A3 A5 c3 c5 n m'.xs m'.xs _ (held_n HOU.out HN3.out.2.1) (held_n HNU.out HN3.out.2.1) (by have h1 := HM.out.len; have h2 := HN3.out.2.1; have h3 := HK.out.2.1; omega)).mono ?_
            rw [decide_eq_true rfl]
            rintro e u9 ⟨rfl, hO⟩
            have HI2 := Lib.hid (AccI.mk (W := W) (HWU.out.keep hO) ⟨A5, c5, rfl, HNU.out.only hO (fun _ _ => id), HN3.out.2.1, HN3.out.2.2⟩)
            clear hO
            go_wp2
            go_roundw
            case rel => exact ⟨i + 1, by have := HLT.out; omega, by go_num, by rw [HX.out]; exact HI2.out⟩
            case measure => have := HLT.out; simp [intOf]; omega
          · injection ha with z1 z2 z3 z4 z5
            have HXX := Lib.hid (And.intro hd (And.intro hx z5))
            subst z1 z2 z3 z4
            have hk0 : (ak == 0) = false := beq_eq_false_iff_ne.2 (by omega)
            clear hx hd HA z5 h1
            go_wp2_with fail
            refine (refdo_any W.heap.size A3 n c3 m.xs ak ac ax ay ao _ HO3.out HOW.out.2.1).mono ?_
            rw [show doVal m.xs ak ac ax ay = .agg #[.int .i64 ak, .int .i64 ac, .int .u32 ax, .int .u32 ay, .int .u32 ao] by unfold doVal accOf; rw [HXX.out.1, HXX.out.2.2]; rfl, HXX.out.1]
            rintro e u4 ⟨rfl, hO, hW⟩
            have hg : ∀ i t cs, Row u3 i t cs → t ≠ 22 → ¬ At A3 i := fun i t cs hi ht hA => by
              obtain ⟨cur, hc⟩ := own_tag HO3.out hA
              exact ht (hi.same hc).1
            obtain ⟨ct, hct⟩ := HW3.out.wd.tasks.rowT
            have hWd : WdP u4 g gt b A cp a0 a1 k m' := ⟨HW3.out.wd.row.only hO (hg _ _ _ HW3.out.wd.row (by decide)), HW3.out.wd.mem.only hO (hg _ _ _ HW3.out.wd.mem.hdr (by decide)) (fun j hj hA => HOW.out.2.2 j hA hj), HW3.out.wd.tasks.only hO (hg _ _ _ hct (by decide))⟩
            have HW4 := Lib.hid (show Wo W g gt b A cp a0 a1 k m' u4 from ⟨HW3.out.only.step hO (fun i hi e => by have := HO3.out.base i e; omega), hWd, HM.out, HW3.out.gn⟩)
            have HN4 := Lib.hid (HN3.out.1.only hO (fun j hj hA => HF3.out j hA hj))
            have HO4 := Lib.hid (show Own u4 W.heap.size A3 c3 m'.xs by rw [HXX.out.2.1]; exact hW)
            have HE4 := Lib.hid (HE3.out.only hO (hg _ _ _ HE3.out (by decide)))
            clear hO hW hg hWd hct d1 d2 d3 d4 d5 HW3 HO3 HE3
            have d1 : u4.cell? ⟨E, 1, none⟩ = some (.int .i64 ak) := HE4.out.cell_ (i := 1) rfl
            have d2 : u4.cell? ⟨E, 2, none⟩ = some (.int .i64 ac) := HE4.out.cell_ (i := 2) rfl
            have d3 : u4.cell? ⟨E, 3, none⟩ = some (.int .u32 ax) := HE4.out.cell_ (i := 3) rfl
            have d4 : u4.cell? ⟨E, 4, none⟩ = some (.int .u32 ay) := HE4.out.cell_ (i := 4) rfl
            have d5 : u4.cell? ⟨E, 5, none⟩ = some (.int .u32 ao) := HE4.out.cell_ (i := 5) rfl
            have dl : E < u4.heap.size := HE4.out.lt
            go_wp2_with fail
            have e5 := (Only.refl Nil u4).alloc (.cells #[.int .i64 ak, .int .i64 ac, .int .u32 ax, .int .u32 ay, .int .u32 ao] 33)
            have HOU := Lib.hid (HO4.out.only e5 (fun _ _ => id))
            have HNU := Lib.hid (HN4.out.only e5 (fun _ _ => id))
            have HWU := Lib.hid (HW4.out.keep e5)
            clear e5 d1 d2 d3 d4 d5 dl
            refine (same_n A3 A5 c3 c5 n m'.xs m'.xs _ (held_n HOU.out HN3.out.2.1) (held_n HNU.out HN3.out.2.1) (by have h1 := HM.out.len; have h2 := HN3.out.2.1; have h3 := HK.out.2.1; omega)).mono ?_
            rw [decide_eq_true rfl]
            rintro e u9 ⟨rfl, hO⟩
            have HI2 := Lib.hid (AccI.mk (W := W) (HWU.out.keep hO) ⟨A5, c5, rfl, HNU.out.only hO (fun _ _ => id), HN3.out.2.1, HN3.out.2.2⟩)
            clear hO
            go_wp2
            go_roundw
            case rel => exact ⟨i + 1, by have := HLT.out; omega, by go_num, by rw [HX.out]; exact HI2.out⟩
            case measure => have := HLT.out; simp [intOf]; omega
        · obtain rfl : i = len4 := by omega
          have HO := Lib.hid hI.wo.only
          clear hI hlt hi
          go_wp2_with fail
          refine (awake_any _).mono ?_
          rintro e wz ⟨rfl, hz⟩
          have HZ := Lib.hid (HO.out.trans hz)
          clear hz
          go_wp2
          go_ret
          exact ⟨rfl, HZ.out⟩
end Go.Proofs.YtlepokgagickmaaGreat
