import Derived.Laws.StructEq
import Derived.StillTailTactics
import Derived.Test.YtlepokgagickmaaGreatG46
import Derived.Test.YtlepokgagickmaaGreatG16
import Derived.Test.YtlepokgagickmaaGreatG17
set_option linter.unusedVariables false
set_option linter.unusedSimpArgs false
namespace Go.Proofs.YtlepokgagickmaaGreat
open Go.RowKit
set_option maxRecDepth 100000 in
theorem ev_ran (r : Bool) (a0 a1 a2 a3 a4 : Int) (A : Option Addr) (n cp : Nat) (w : World) : (Instr.field 36 (.agg #[.bool r, .int .i64 a0, .int .i64 a1, .int .u32 a2, .int .u32 a3, .int .u32 a4, .slice A n cp]) 0).run Tryz.prog w = .ok (.bool r) w := by
  first | rfl | kernel_rfl
set_option maxRecDepth 100000 in
theorem st_nil (w : World) : (Instr.field 47 (.agg #[.int .i64 0, .int .i64 0, .int .i64 0, .slice none 0 0, .slice none 0 0]) 3).run Tryz.prog w = .ok (.slice none 0 0) w := by
  first | rfl | kernel_rfl
theorem Wo.far {W w w' : World} {g gt b cp k : Nat} {A : Option Addr} {kind mode : Int} {m : MV} {S : Nat → Prop} (h : Wo W g gt b A cp kind mode k m w) (ho : Only S w w') (hS : ∀ i, (i = g ∨ i = gt ∨ i = b ∨ At A i) → ¬ S i) (hw : Only Nil W w') : Wo W g gt b A cp kind mode k m w' :=
  ⟨hw, ⟨h.wd.row.only ho (hS _ (.inl rfl)), h.wd.mem.only ho (hS _ (.inr (.inr (.inl rfl)))) (fun i hi => hS i (.inr (.inr (.inr hi)))), h.wd.tasks.only ho (hS _ (.inr (.inl rfl)))⟩, h.inv, h.gn⟩
theorem wo_two {W w1 w2 : World} {g gt b cp k g2 gt2 b2 cp2 : Nat} {A A2 : Option Addr} {kind mode : Int} {m : MV} (h1 : Wo W g gt b A cp kind mode k m w1) (h2 : Wo w1 g2 gt2 b2 A2 cp2 kind mode k m w2) :
    Wo W g gt b A cp kind mode k m w2 ∧ Wo W g2 gt2 b2 A2 cp2 kind mode k m w2 ∧ ∀ i, (i = g ∨ i = gt ∨ i = b ∨ At A i) → ¬ (i = g2 ∨ i = gt2 ∨ i = b2 ∨ At A2 i) := by
  have hl := h1.wd.lt
  have hn := h2.gn
  have hs := h1.only.size
  refine ⟨h1.keep h2.only, ⟨h1.only.trans h2.only, h2.wd, h2.inv, by omega, by omega, by omega, fun j hj => Nat.le_trans hs (hn.2.2.2 j hj)⟩, fun i hi hi2 => ?_⟩
  have h1' : i < w1.heap.size := by
    rcases hi with rfl | rfl | rfl | hA
    · exact hl.1
    · exact hl.2.1
    · exact hl.2.2.1
    · exact hl.2.2.2 i hA
  rcases hi2 with rfl | rfl | rfl | hA
  · omega
  · omega
  · omega
  · have := hn.2.2.2 i hA; omega
set_option maxRecDepth 100000 in
set_option maxHeartbeats 4000000 in
theorem walk_worldRuns (a0 a1 a2 a3 : Int) (a4 : Option Addr) (len4 cap4 : Nat) (W : World) (w0 : (Lit.int .i64 a0).wf = true) (w1 : (Lit.int .i64 a1).wf = true) (w2 : (Lit.int .i64 a2).wf = true) (w3 : (Lit.int .u32 a3).wf = true) (w4 : IsPicksL W a4 len4) :
    Calls Tryz.prog 6 #[.int .i64 a0, .int .i64 a1, .int .i64 a2, .int .u32 a3, .slice a4 len4 cap4] W fun e w' => e = .returned (.bool true) ∧ Only Nil W w' := by
  obtain ⟨l, hl, hp⟩ := picks_list w4.2
  have HP := Lib.hid (And.intro hl (And.intro w4.1 hp))
  have h3 : Wrd a3 := wf_u32 w3
  have hfr := ev_ran
  have hfs := st_nil
  clear w0 w1 w2 w3 w4 hl hp
  rcases wnew_case a0 a1 a2 a3 with ⟨er, her, hN⟩ | ⟨hk, hm, hn⟩
  · have HN := Lib.hid hN
    clear hN h3
    rcases her with rfl | rfl | rfl
    all_goals
      go_enter Tryz.func6, Tryz.ntmps6
      go_wp2_with fail
      refine (HN.out _).mono ?_
      rintro e v1 ⟨rfl, hO⟩
      have HOA := Lib.hid hO
      clear hO
      go_wp2_with fail
      refine (HN.out _).mono ?_
      rintro e v2 ⟨rfl, hO⟩
      have HO := Lib.hid (HOA.out.trans hO)
      clear hO HN HOA
      go_wp2_with fail
      refine (woN_nil _).mono ?_
      rintro e z1 ⟨rfl, rfl⟩
      go_wp2_with fail
      refine (woHold_nil _ _).mono ?_
      rintro e z1 ⟨rfl, rfl⟩
      go_wp2_with fail
      refine (woBusy_nil _ _).mono ?_
      rintro e z1 ⟨rfl, rfl⟩
      go_wp2_with fail
      refine (woStuck_out _ _ _ (woHas_nil _ _)).mono ?_
      rintro e z1 ⟨rfl, rfl⟩
      go_wp2_with fail
      refine (woPick_nil _ _ _).mono ?_
      rintro e z1 ⟨rfl, hO⟩
      have HO1 := Lib.hid (HO.out.trans hO)
      have HOP := Lib.hid hO
      clear hO
      go_wp2_with fail
      refine (woRuns_nil a4 len4 cap4 l _ HP.out.1 HP.out.2.1 (fun w' ho => HP.out.2.2 w' (HO1.out.trans ho))).mono ?_
      rintro e z2 ⟨Az, cz, rfl, hO⟩
      have HO2 := Lib.hid (HO1.out.trans hO)
      have HOZ := Lib.hid hO
      clear hO
      go_wp2_with fail
      refine (woState_nil _).mono ?_
      rintro e z3 ⟨rfl, hO⟩
      have HO3 := Lib.hid (HO2.out.trans hO)
      have HOL := HO3
      clear hO
      go_wp2_with fail
      refine (awake_any _).mono ?_
      rintro e wz ⟨rfl, hz⟩
      have HZ := Lib.hid (HOL.out.trans hz)
      clear hz
      go_wp2
      go_ret
      exact ⟨rfl, HZ.out⟩
  · obtain ⟨k, rfl⟩ : ∃ k : Nat, a2 = k := ⟨a2.toNat, by omega⟩
    have hk1 : 1 ≤ k ∧ k ≤ 64 := by omega
    have HN := Lib.hid (fun W => wnew_yes a0 a1 a3 k W hk hm hk1 h3)
    have HK := Lib.hid (And.intro hk (And.intro hk1 h3))
    clear hk hm hn hk1 h3
    by_cases h1000 : 1000 < len4
    · have q1 : (1000 : Int) < len4 := by omega
      clear h1000
      go_enter Tryz.func6, Tryz.ntmps6
      go_wp2_with fail
      refine (HN.out _).mono ?_
      intro e v1 hn
      obtain ⟨g, gt, b, A, cp, rfl, hw⟩ := wo_new HK.out.2.2 hn
      have HW1 := Lib.hid hw
      clear hn hw
      go_wp2_with fail
      refine (HN.out _).mono ?_
      intro e v2 hn
      obtain ⟨g2, gt2, b2, A2, cp2, rfl, hw⟩ := wo_new HK.out.2.2 hn
      have H12 := Lib.hid (wo_two HW1.out hw)
      have HO := Lib.hid H12.out.1.only
      have mv0i := Lib.hid H12.out.1.inv
      clear hn hw HN HW1
      generalize mv0 a0 a1 k a3 = m0 at *
      go_wp2_with fail
      refine (woN_nil _).mono ?_
      rintro e z1 ⟨rfl, rfl⟩
      go_wp2_with fail
      refine (woHold_nil _ _).mono ?_
      rintro e z1 ⟨rfl, rfl⟩
      go_wp2_with fail
      refine (woBusy_nil _ _).mono ?_
      rintro e z1 ⟨rfl, rfl⟩
      go_wp2_with fail
      refine (woStuck_out _ _ _ (woHas_nil _ _)).mono ?_
      rintro e z1 ⟨rfl, rfl⟩
      go_wp2_with fail
      refine (woPick_nil _ _ _).mono ?_
      rintro e z1 ⟨rfl, hO⟩
      have HO1 := Lib.hid (HO.out.trans hO)
      have HOP := Lib.hid hO
      clear hO
      go_wp2_with fail
      refine (woRuns_nil a4 len4 cap4 l _ HP.out.1 HP.out.2.1 (fun w' ho => HP.out.2.2 w' (HO1.out.trans ho))).mono ?_
      rintro e z2 ⟨Az, cz, rfl, hO⟩
      have HO2 := Lib.hid (HO1.out.trans hO)
      have HOZ := Lib.hid hO
      clear hO
      go_wp2_with fail
      refine (woState_nil _).mono ?_
      rintro e z3 ⟨rfl, hO⟩
      have HO3 := Lib.hid (HO2.out.trans hO)
      have HOL := HO3
      clear hO
      go_wp2_with fail
      refine (awake_any _).mono ?_
      rintro e wz ⟨rfl, hz⟩
      have HZ := Lib.hid (HOL.out.trans hz)
      clear hz
      go_wp2
      go_ret
      exact ⟨rfl, HZ.out⟩
    · have q1 : ¬ (1000 : Int) < len4 := by omega
      have q0 : (len4 : Int) ≤ 9223372036854775806 := by omega
      have HM := Lib.hid (show len4 ≤ 1000 by omega)
      clear h1000
      go_enter Tryz.func6, Tryz.ntmps6
      go_wp2_with fail
      refine (HN.out _).mono ?_
      intro e v1 hn
      obtain ⟨g, gt, b, A, cp, rfl, hw⟩ := wo_new HK.out.2.2 hn
      have HW1 := Lib.hid hw
      clear hn hw
      go_wp2_with fail
      refine (HN.out _).mono ?_
      intro e v2 hn
      obtain ⟨g2, gt2, b2, A2, cp2, rfl, hw⟩ := wo_new HK.out.2.2 hn
      have H12 := Lib.hid (wo_two HW1.out hw)
      have HO := Lib.hid H12.out.1.only
      have mv0i := Lib.hid H12.out.1.inv
      clear hn hw HN HW1
      generalize mv0 a0 a1 k a3 = m0 at *
      go_wp2_with fail
      refine (woN_nil _).mono ?_
      rintro e z1 ⟨rfl, rfl⟩
      go_wp2_with fail
      refine (woHold_nil _ _).mono ?_
      rintro e z1 ⟨rfl, rfl⟩
      go_wp2_with fail
      refine (woBusy_nil _ _).mono ?_
      rintro e z1 ⟨rfl, rfl⟩
      go_wp2_with fail
      refine (woStuck_out _ _ _ (woHas_nil _ _)).mono ?_
      rintro e z1 ⟨rfl, rfl⟩
      go_wp2_with fail
      refine (woPick_nil _ _ _).mono ?_
      rintro e z1 ⟨rfl, hO⟩
      have HO1 := Lib.hid (HO.out.trans hO)
      have HOP := Lib.hid hO
      clear hO
      go_wp2_with fail
      refine (woRuns_nil a4 len4 cap4 l _ HP.out.1 HP.out.2.1 (fun w' ho => HP.out.2.2 w' (HO1.out.trans ho))).mono ?_
      rintro e z2 ⟨Az, cz, rfl, hO⟩
      have HO2 := Lib.hid (HO1.out.trans hO)
      have HOZ := Lib.hid hO
      clear hO
      go_wp2_with fail
      refine (woState_nil _).mono ?_
      rintro e z3 ⟨rfl, hO⟩
      have HO3 := Lib.hid (HO2.out.trans hO)
      have hoz := (HOP.out.trans HOZ.out).trans hO
      have H1 := Lib.hid (H12.out.1.keep hoz)
      have H2 := Lib.hid (H12.out.2.1.keep hoz)
      have HD := Lib.hid H12.out.2.2
      clear hO hoz HO HO1 HO2 HOP HOZ H12
      go_wp2_with fail
      refine (woRuns_any g gt b A cp a0 a1 k m0 a4 len4 cap4 l _ H1.out.wd H1.out.inv HK.out.1 HP.out.1 HM.out (fun w' ho => HP.out.2.2 w' (H1.out.only.step ho (fun i hi e => by
        rcases e with rfl | hA
        · have := H1.out.gn.2.1; omega
        · have := H1.out.gn.2.2.2 i hA; omega)))).mono ?_
      rintro e y1 ⟨nv, rfl, hN, hO, hW⟩
      obtain ⟨Aa, na, ca, rfl⟩ := ownN_form hN
      have hru := run_ok (kind := a0) H1.out.inv l len4 (Nat.le_of_eq HP.out.1.symm)
      have hru1 := hru.1
      have hru2 := hru.2
      rw [show l.take len4 = l by rw [← HP.out.1]; exact List.take_length] at hru1 hru2
      have G1 := Lib.hid (H1.out.turn hO hW hru1)
      have G2 := Lib.hid (H2.out.far hO (fun i hi e => by
        refine HD.out i ?_ hi
        rcases e with e | e
        · exact .inr (.inl e)
        · exact .inr (.inr (.inr e))) G1.out.only)
      have GN := Lib.hid (own_base hN (Nat.zero_le _))
      have GL := Lib.hid hru2
      clear hN hO hW hru hru1 hru2 H1 H2 HO3
      have hf := ev_notes
      go_wp2_with fail
      go_loopw [17, 18] (fun ov iv wr => ∃ i : Nat, i ≤ len4 ∧ iv = .int .i64 i ∧ OwnN y1.heap.size wr ov (runI (linesI a0) k m0 (l.take i)).2 ∧ Only (TurnW gt2 A2) y1 wr ∧ Wo W g2 gt2 b2 A2 cp2 a0 a1 k (runI (linesI a0) k m0 (l.take i)).1 wr) (fun _ iv _ => len4 - (intOf iv).toNat)
      case atStart => exact ⟨0, Nat.zero_le _, rfl, ownN_nil _ _, Only.refl _ _, G2.out⟩
      case round =>
        obtain ⟨i, hi, rfl, hN, hO, hW⟩ := hrel
        obtain ⟨A1, n1, c1, rfl⟩ := ownN_form hN
        have HR := Lib.hid (And.intro hN (And.intro hO hW))
        clear hN hO hW
        by_cases hlt : i < len4
        · obtain ⟨p, hp⟩ : ∃ p, l[i]? = some p := ⟨_, List.getElem?_eq_getElem (by rw [HP.out.1]; exact hlt)⟩
          have HX := Lib.hid (run_next (L := linesI a0) (k := k) (m := m0) hp)
          have HQ := Lib.hid (run_ok (kind := a0) (mv0i.out) l i (by rw [HP.out.1]; exact hi))
          obtain ⟨pb, pq, rfl, c0, c1⟩ := HP.out.2.2 _ HR.out.2.2.only i p hp
          obtain ⟨t, o⟩ := p
          dsimp only at c0 c1
          have HLT := Lib.hid hlt
          have q2 : (i : Int) < len4 := by omega
          clear hp hi
          generalize runI (linesI a0) k m0 (l.take i) = s at *
          go_wp2_with fail
          refine (woPick_any g2 gt2 b2 A2 cp2 a0 a1 k t o s.1 _ HR.out.2.2.wd HQ.out.1 HK.out.1).mono ?_
          rintro e w2 ⟨nv, rfl, hN2, hO2, hW2⟩
          obtain ⟨A9, n9, c9, rfl⟩ := ownN_form hN2
          have HL := Lib.hid (event_len (kind := a0) HQ.out.1 t o)
          have HN1 := Lib.hid (own_only HR.out.1 hO2 (fun j hj e => by
            obtain ⟨cur, hc⟩ := ownN_tag HR.out.1 hj
            obtain ⟨ct, hr⟩ := HR.out.2.2.wd.tasks.rowT
            rcases e with rfl | hA
            · exact row_ne hc hr (by decide) rfl
            · obtain ⟨cu, hcu⟩ := own_tag HR.out.2.2.wd.mem.own hA
              exact row_ne hc hcu (by decide) rfl))
          have HO2 := Lib.hid (HR.out.2.1.trans hO2)
          have HW2 := Lib.hid (HR.out.2.2.turn hO2 hW2 (HQ.out.1.pick t o))
          have HN2 := Lib.hid hN2
          clear hN2 hO2 hW2 HR c0 c1
          unfold evCs
          go_wp2_with (at_builtin; refine wp_appNs rfl (.tmp 130) (.tmp 137) rfl y1.heap.size _ s.2 rfl HN1.out _ (eventW (linesI a0) k s.1 t o).ns rfl HN2.out (by have h1 := HQ.out.2; have h2 := HM.out; have h3 := HLT.out; omega) (by have h1 := HL.out; omega) HO2.out.size ?_)
          intro v' w3 hv ho
          have HYS := Lib.hid G1.out.only.size
          have HV := Lib.hid (And.intro hv (And.intro (HO2.out.step ho (fun i hi e => by have := (HN1.out.lt i e).1; omega)) (Wo.mk (W := W) (HW2.out.only.step ho (fun i hi e => by have := (HN1.out.lt i e).1; have := HYS.out; omega)) (HW2.out.wd.apartN HN1.out ho) HW2.out.inv HW2.out.gn)))
          clear hv ho
          go_wp2
          go_roundw
          case rel => exact ⟨i + 1, by have := HLT.out; omega, by go_num, by rw [HX.out]; exact HV.out.1, HV.out.2.1, by rw [HX.out]; exact HV.out.2.2⟩
          case measure => have := HLT.out; simp [intOf]; omega
        · obtain rfl : i = len4 := by omega
          rw [show l.take i = l by rw [← HP.out.1]; exact List.take_length] at HR
          have hfst := st_cells
          have K1 := Lib.hid (G1.out.far HR.out.2.1 (fun i hi e => by
            refine HD.out i hi ?_
            rcases e with e | e
            · exact .inr (.inl e)
            · exact .inr (.inr (.inr e))) HR.out.2.2.only)
          have K2 := Lib.hid HR.out.2.2
          have KA := Lib.hid (own_only GN.out HR.out.2.1 (fun j hj e => by
            obtain ⟨cur, hc⟩ := ownN_tag GN.out hj
            rcases e with e | hA
            · obtain ⟨ct, hr⟩ := G2.out.wd.tasks.rowT
              exact row_ne hc hr (by decide) e
            · obtain ⟨cu, hcu⟩ := own_tag G2.out.wd.mem.own hA
              exact row_ne hc hcu (by decide) rfl))
          have KO := Lib.hid (own_base HR.out.1 (Nat.zero_le _))
          clear HR G1 G2 GN hi hlt hf
          generalize (runI (linesI a0) k m0 l).1 = m at *
          generalize (runI (linesI a0) k m0 l).2 = ns at *
          go_wp2_with fail
          refine (woState_any g gt b A cp a0 a1 k m _ K1.out.wd HK.out.2.1).mono ?_
          rintro e u3 ⟨A3, c3, g3, ct3, rfl, hO3, hT3, hg3, hN3⟩
          obtain ⟨n, hn⟩ : ∃ n, m.xs.length = n := ⟨_, rfl⟩
          unfold stateCs
          rw [hn]
          have hnl : n = 8 + 4 * k := hn.symm.trans K1.out.inv.len
          obtain ⟨G3, cur3, rfl, hb3, hr3, hx3⟩ : ∃ G cur, A3 = some ⟨G, 0, none⟩ ∧ wr.heap.size ≤ G ∧ Row u3 G 22 cur ∧ ∀ i, i < n → ∃ x, cur[i]? = some (.int .u32 x) := by
            rcases hO3.own.2 with ⟨_, h0⟩ | ⟨G, cap, cur, hv, hb, hg, _, _, _, ht⟩
            · omega
            · injection hv with h1
              refine ⟨G, cur, h1, hb, hg, fun i hi => ?_⟩
              have hi' : i < m.xs.length := by rw [hn]; exact hi
              refine ⟨m.xs[i]'hi', ?_⟩
              have e1 : (cur.toList.take (m.xs.length * 1))[i]? = (m.xs.map (Value.int .u32))[i]? := by rw [ht]
              rw [List.getElem?_take, if_pos (by omega), List.getElem?_map, List.getElem?_eq_getElem hi', Array.getElem?_toList] at e1
              exact e1
          obtain ⟨cut, hrt, hxt⟩ := hT3.row
          have e4 := (Only.refl Nil u3).alloc (.cells (stateCs a0 a1 k (some ⟨G3, 0, none⟩) n c3 g3 ct3) 47)
          have HS4 := Lib.hid (Row.new u3 47 (stateCs a0 a1 k (some ⟨G3, 0, none⟩) n c3 g3 ct3))
          have HR4 := Lib.hid (And.intro (hr3.only e4 id) hx3)
          have HT4 := Lib.hid (And.intro (hrt.only e4 id) (fun i (hi : i < k) => hxt i hi 0 _ rfl))
          have HK1 := Lib.hid (K1.out.keep (hN3.trans e4))
          have HK2 := Lib.hid (K2.out.keep (hN3.trans e4))
          have HKA := Lib.hid (OwnN.only KA.out (hN3.trans e4))
          have HKO := Lib.hid (OwnN.only KO.out (hN3.trans e4))
          have HL4 := Lib.hid (And.intro hb3 (And.intro hg3 (And.intro K1.out.wd.lt K2.out.wd.lt)))
          have HNN := Lib.hid (And.intro hn hnl)
          have HLS := Lib.hid (K1.out.only.size)
          clear hb3 hr3 hx3 hrt hxt e4 hO3 hT3 hg3 hN3 hn hnl K1 K2 KA KO
          unfold stateCs at HS4 HR4 HT4 HK1 HK2 HKA HKO
          go_upto_region 15 with (fail)
          generalize u3.alloc _ = u4 at *
          generalize u3.heap.size = S3 at *
          go_wp2_with fail
          have q3 : (n : Int) ≤ 9223372036854775806 := by have h1 := HNN.out.2; have h2 := HK.out.2.1; omega
          go_loopw [20] (fun jv wq => ∃ j : Nat, j ≤ n ∧ jv = .int .i64 j ∧ Only (· = G3) u4 wq ∧ ∃ cur, Row wq G3 22 cur ∧ ∀ i, i < n → ∃ x, cur[i]? = some (.int .u32 x)) (fun jv _ => n - (intOf jv).toNat)
          case atStart => exact ⟨0, Nat.zero_le _, rfl, Only.refl _ _, _, HR4.out.1, HR4.out.2⟩
          case round =>
            obtain ⟨j, hj, rfl, hO, cur, hrow, hcur⟩ := hrel
            have HO := Lib.hid hO
            have HRW := Lib.hid (And.intro hrow hcur)
            have s3 : wr.cell? ⟨S3, 3, none⟩ = some (.slice (some ⟨G3, 0, none⟩) n c3) := (HS4.out.only hO (row_ne HS4.out HR4.out.1 (by decide))).cell_ (i := 3) rfl
            clear hO hrow hcur
            by_cases hjn : j < n
            · have HJN := Lib.hid hjn
              obtain ⟨x, hx⟩ := HRW.out.2 j hjn
              have d0 : wr.cell? ⟨G3, j, none⟩ = some (.int .u32 x) := HRW.out.1.cell_ hx
              have d1 : wr.frozen? ⟨G3, j, none⟩ = false := HRW.out.1.frozen j
              have hsz : j < cur.size := (Array.getElem?_eq_some_iff.1 hx).1
              have HSZ := Lib.hid hsz
              have q5 : (j : Int) < n := by omega
              have q6 : (0 : Int) ≤ j := by omega
              have q7 : (j : Int).toNat = j := rfl
              clear hj hx hsz
              go_wp2
              go_roundw
              case rel => exact ⟨j + 1, by have := HJN.out; omega, by go_num, HO.out.setCell (p := ⟨G3, j, none⟩) (.inr rfl) _, _, HRW.out.1.set j _, fun i hi => by
                rw [Array.getElem?_setIfInBounds]
                by_cases e : j = i
                · rw [if_pos e, if_pos HSZ.out]; exact ⟨_, rfl⟩
                · rw [if_neg e]; exact HRW.out.2 i hi⟩
              case measure => have := HJN.out; simp [intOf]; omega
            · obtain rfl : n = j := by omega
              have hlt : ∀ i, i < G3 → ¬ (i = G3) := fun i h e => by omega
              have HL5 := HL4
              have M1 := Lib.hid (HK1.out.far HO.out (fun i hi e => by
                have := HL5.out.1
                rcases hi with h | h | h | h
                · have := HL5.out.2.2.1.1; omega
                · have := HL5.out.2.2.1.2.1; omega
                · have := HL5.out.2.2.1.2.2.1; omega
                · have := HL5.out.2.2.1.2.2.2 i h; omega) (HK1.out.only.step HO.out (fun i hi e => by have := HL5.out.1; have := HK1.out.only.size; have := HLS.out; omega)))
              have M2 := Lib.hid (HK2.out.far HO.out (fun i hi e => by
                have := HL5.out.1
                rcases hi with h | h | h | h
                · have := HL5.out.2.2.2.1; omega
                · have := HL5.out.2.2.2.2.1; omega
                · have := HL5.out.2.2.2.2.2.1; omega
                · have := HL5.out.2.2.2.2.2.2 i h; omega) M1.out.only)
              have MA := Lib.hid (own_only HKA.out HO.out (fun i hi e => by
                obtain ⟨cu, hc⟩ := ownN_tag HKA.out hi
                exact row_ne hc HR4.out.1 (by decide) e))
              have MO := Lib.hid (own_only HKO.out HO.out (fun i hi e => by
                obtain ⟨cu, hc⟩ := ownN_tag HKO.out hi
                exact row_ne hc HR4.out.1 (by decide) e))
              have MS := Lib.hid (HS4.out.only HO.out (row_ne HS4.out HR4.out.1 (by decide)))
              have MT := Lib.hid (And.intro (HT4.out.1.only HO.out (row_ne HT4.out.1 HR4.out.1 (by decide))) HT4.out.2)
              clear hlt HK1 HK2 HKA HKO HS4 HR4 HT4 HO HRW hj hjn
              go_wp2_with fail
              have q8 : (k : Int) ≤ 64 := by have h2 := HK.out.2.1; omega
              clear s3
              generalize wr = u5 at *
              go_loopw [21] (fun jv wq => ∃ j : Nat, j ≤ k ∧ jv = .int .i64 j ∧ Only (· = g3) u5 wq ∧ ∃ cur, Row wq g3 59 cur ∧ ∀ i, i < k → ∃ v, cur[i * 11]? = some v) (fun jv _ => k - (intOf jv).toNat)
              case atStart => exact ⟨0, Nat.zero_le _, rfl, Only.refl _ _, _, MT.out.1, fun i hi => ⟨_, MT.out.2 i hi⟩⟩
              case round =>
                obtain ⟨j, hj, rfl, hO, cur, hrow, hcur⟩ := hrel
                have HO := Lib.hid hO
                have HRW := Lib.hid (And.intro hrow hcur)
                have s4 : wr.cell? ⟨S3, 4, none⟩ = some (.slice (some ⟨g3, 0, none⟩) k ct3) := (MS.out.only hO (row_ne MS.out MT.out.1 (by decide))).cell_ (i := 4) rfl
                clear hO hrow hcur
                by_cases hjn : j < k
                · have HJN := Lib.hid hjn
                  obtain ⟨x, hx⟩ := HRW.out.2 j hjn
                  have d0 : wr.cell? ⟨g3, j * 11, none⟩ = some x := HRW.out.1.cell_ hx
                  have d1 : wr.frozen? ⟨g3, j * 11, none⟩ = false := HRW.out.1.frozen _
                  have hsz : j * 11 < cur.size := (Array.getElem?_eq_some_iff.1 hx).1
                  have HSZ := Lib.hid hsz
                  have q5 : (j : Int) < k := by omega
                  have q6 : (0 : Int) ≤ j := by omega
                  have q7 : (j : Int).toNat = j := rfl
                  clear hj hx hsz
                  go_wp2
                  go_roundw
                  case rel => exact ⟨j + 1, by have := HJN.out; omega, by go_num, HO.out.setCell (p := ⟨g3, j * 11, none⟩) (.inr rfl) _, _, HRW.out.1.set (j * 11) _, fun i hi => by
                    rw [Array.getElem?_setIfInBounds]
                    by_cases e : j * 11 = i * 11
                    · rw [if_pos e, if_pos HSZ.out]; exact ⟨_, rfl⟩
                    · rw [if_neg e]; exact HRW.out.2 i hi⟩
                  case measure => have := HJN.out; simp [intOf]; omega
                · obtain rfl : k = j := by omega
                  have N1 := Lib.hid (M1.out.far HO.out (fun i hi e => by
                    have := HL5.out.2.1
                    rcases hi with h | h | h | h
                    · have := HL5.out.2.2.1.1; omega
                    · have := HL5.out.2.2.1.2.1; omega
                    · have := HL5.out.2.2.1.2.2.1; omega
                    · have := HL5.out.2.2.1.2.2.2 i h; omega) (M1.out.only.step HO.out (fun i hi e => by have := HL5.out.2.1; have := HLS.out; omega)))
                  have N2 := Lib.hid (M2.out.far HO.out (fun i hi e => by
                    have := HL5.out.2.1
                    rcases hi with h | h | h | h
                    · have := HL5.out.2.2.2.1; omega
                    · have := HL5.out.2.2.2.2.1; omega
                    · have := HL5.out.2.2.2.2.2.1; omega
                    · have := HL5.out.2.2.2.2.2.2 i h; omega) N1.out.only)
                  have NA := Lib.hid (own_only MA.out HO.out (fun i hi e => by
                    obtain ⟨cu, hc⟩ := ownN_tag MA.out hi
                    exact row_ne hc MT.out.1 (by decide) e))
                  have NO := Lib.hid (own_only MO.out HO.out (fun i hi e => by
                    obtain ⟨cu, hc⟩ := ownN_tag MO.out hi
                    exact row_ne hc MT.out.1 (by decide) e))
                  clear M1 M2 MA MO MS MT HO HRW hj hjn
                  go_wp2_with fail
                  clear s4
                  generalize wr = u6 at *
                  refine (woState_any g gt b A cp a0 a1 k m _ N1.out.wd HK.out.2.1).mono ?_
                  rintro e u7 ⟨A7, c7, g7, ct7, rfl, hO7, hT7, hg7, hN7⟩
                  unfold stateCs
                  rw [HNN.out.1]
                  have P1 := Lib.hid (And.intro hO7 hT7)
                  have P2 := Lib.hid (N2.out.keep hN7)
                  have PA := Lib.hid (OwnN.only NA.out hN7)
                  have PO := Lib.hid (OwnN.only NO.out hN7)
                  clear hO7 hT7 hg7 hN7 N1 N2 NA NO
                  go_wp2_with fail
                  refine (woState_any g2 gt2 b2 A2 cp2 a0 a1 k m _ P2.out.wd HK.out.2.1).mono ?_
                  rintro e u8 ⟨A8, c8, g8, ct8, rfl, hO8, hT8, hg8, hN8⟩
                  unfold stateCs
                  rw [HNN.out.1]
                  have R1 := Lib.hid (And.intro (P1.out.1.only hN8 (fun _ _ => id)) (P1.out.2.only hN8 id))
                  have R2 := Lib.hid (And.intro hO8 hT8)
                  have RO := Lib.hid (P2.out.only.trans hN8)
                  have RA := Lib.hid (And.intro (OwnN.only PA.out hN8) (OwnN.only PO.out hN8))
                  clear hO8 hT8 hg8 hN8 P1 P2 PA PO
                  go_upto_region 24 with (first | refine wp_storeR rfl 47 (.tmp 22) (.tmp 168) rfl (by rfl) (by rfl) ((Row.new u8 _ _).alloc _) (by kernel_rfl) (Nat.le_refl 5) (by kernel_rfl) ?_ | refine wp_storeR rfl 47 (.tmp 23) (.tmp 170) rfl (by rfl) (by rfl) ((Row.new2 u8 _ _ _).only ((Only.refl (· = u8.heap.size) _).setRow (.inr rfl) _) (Nat.succ_ne_self _)) (by kernel_rfl) (Nat.le_refl 5) (by kernel_rfl) ?_)
                  rw [putL_all (by rfl), putL_all (by rfl)]
                  have eW := ((((Only.refl Nil u8).alloc (.cells #[.int .i64 0, .int .i64 0, .int .i64 0, .slice none 0 0, .slice none 0 0] 47)).alloc (.cells #[.int .i64 0, .int .i64 0, .int .i64 0, .slice none 0 0, .slice none 0 0] 47)).setRow (g := u8.heap.size) (.inl (Nat.le_refl _)) (stateCs a0 a1 k A7 n c7 g7 ct7)).setRow (g := u8.heap.size + 1) (.inl (Nat.le_succ _)) (stateCs a0 a1 k A8 n c8 g8 ct8)
                  have T5 := Lib.hid ((((Row.new u8 47 #[.int .i64 0, .int .i64 0, .int .i64 0, .slice none 0 0, .slice none 0 0]).alloc (.cells #[.int .i64 0, .int .i64 0, .int .i64 0, .slice none 0 0, .slice none 0 0] 47)).setRow (stateCs a0 a1 k A7 n c7 g7 ct7)).only ((Only.refl (· = u8.heap.size + 1) _).setRow (g := u8.heap.size + 1) (.inr rfl) (stateCs a0 a1 k A8 n c8 g8 ct8)) (Nat.ne_of_lt (Nat.lt_succ_self _)))
                  have T6 := Lib.hid (((Row.new2 u8 (.cells #[.int .i64 0, .int .i64 0, .int .i64 0, .slice none 0 0, .slice none 0 0] 47) 47 #[.int .i64 0, .int .i64 0, .int .i64 0, .slice none 0 0, .slice none 0 0]).only ((Only.refl (· = u8.heap.size) _).setRow (g := u8.heap.size) (.inr rfl) (stateCs a0 a1 k A7 n c7 g7 ct7)) (Nat.succ_ne_self _)).setRow (stateCs a0 a1 k A8 n c8 g8 ct8))
                  have U1 := Lib.hid (And.intro (R1.out.1.only eW (fun _ _ => id)) (R1.out.2.only eW id))
                  have U2 := Lib.hid (And.intro (R2.out.1.only eW (fun _ _ => id)) (R2.out.2.only eW id))
                  have UO := Lib.hid (RO.out.trans eW)
                  have UA := Lib.hid (And.intro (OwnN.only RA.out.1 eW).list (OwnN.only RA.out.2 eW).list)
                  clear eW R1 R2 RO RA
                  unfold stateCs at T5 T6 U1 U2 UO UA
                  generalize World.setRow (World.setRow _ _ _) _ _ = u9 at *
                  generalize u8.heap.size + 1 = S6 at *
                  generalize u8.heap.size = S5 at *
                  have x3 : u9.cell? ⟨S5, 3, none⟩ = some (.slice A7 n c7) := T5.out.cell_ (i := 3) rfl
                  have x4 : u9.cell? ⟨S5, 4, none⟩ = some (.slice (some ⟨g7, 0, none⟩) k ct7) := T5.out.cell_ (i := 4) rfl
                  have y3 : u9.cell? ⟨S6, 3, none⟩ = some (.slice A8 n c8) := T6.out.cell_ (i := 3) rfl
                  have y4 : u9.cell? ⟨S6, 4, none⟩ = some (.slice (some ⟨g8, 0, none⟩) k ct8) := T6.out.cell_ (i := 4) rfl
                  go_wp2_with fail
                  clear x3 x4 y3 y4
                  refine (same_notes _ _ ns _ UA.out.1 UA.out.2 (by have := GL.out; have := HM.out; omega)).mono ?_
                  rintro e q1 ⟨rfl, hO⟩
                  have x3 : q1.cell? ⟨S5, 3, none⟩ = some (.slice A7 n c7) := (T5.out.only hO id).cell_ (i := 3) rfl
                  have x4 : q1.cell? ⟨S5, 4, none⟩ = some (.slice (some ⟨g7, 0, none⟩) k ct7) := (T5.out.only hO id).cell_ (i := 4) rfl
                  have y3 : q1.cell? ⟨S6, 3, none⟩ = some (.slice A8 n c8) := (T6.out.only hO id).cell_ (i := 3) rfl
                  have y4 : q1.cell? ⟨S6, 4, none⟩ = some (.slice (some ⟨g8, 0, none⟩) k ct8) := (T6.out.only hO id).cell_ (i := 4) rfl
                  have HQ1 := Lib.hid hO
                  clear hO
                  go_wp2_with fail
                  clear x3 x4 y3 y4
                  refine (same_n A7 A8 c7 c8 n m.xs m.xs _ (held_n (U1.out.1.only HQ1.out (fun _ _ => id)) HNN.out.1) (held_n (U2.out.1.only HQ1.out (fun _ _ => id)) HNN.out.1) (by have h1 := HNN.out.2; have h2 := HK.out.2.1; omega)).mono ?_
                  rw [decide_eq_true rfl]
                  rintro e q2 ⟨rfl, hO⟩
                  have HQ2 := Lib.hid (HQ1.out.trans hO)
                  clear hO HQ1
                  have HS9 := Lib.hid (T5.out.only HQ2.out id)
                  have HT9 := Lib.hid (T6.out.only HQ2.out id)
                  have HQ9 := Lib.hid (And.intro (U1.out.2.only HQ2.out id) (U2.out.2.only HQ2.out id))
                  have HI9 := Lib.hid (UO.out.trans HQ2.out)
                  clear T5 T6 U1 U2 UO UA HQ2
                  have s4 : q2.cell? ⟨S5, 4, none⟩ = some (.slice (some ⟨g7, 0, none⟩) k ct7) := HS9.out.cell_ (i := 4) rfl
                  have r4 : q2.cell? ⟨S6, 4, none⟩ = some (.slice (some ⟨g8, 0, none⟩) k ct8) := HT9.out.cell_ (i := 4) rfl
                  go_wp2_with fail
                  clear s4 r4
                  go_loopw [24] (fun jv wq => ∃ j : Nat, j ≤ k ∧ jv = .int .i64 j ∧ Hid (Drew q2 wq)) (fun jv _ => k - (intOf jv).toNat)
                  case atStart => exact ⟨0, Nat.zero_le _, rfl, Lib.hid (Drew.refl _)⟩
                  case round =>
                    obtain ⟨j, hj, rfl, HD⟩ := hrel
                    have s4 : wr.cell? ⟨S5, 4, none⟩ = some (.slice (some ⟨g7, 0, none⟩) k ct7) := (HD.out.cell _).trans (HS9.out.cell_ (i := 4) rfl)
                    have r4 : wr.cell? ⟨S6, 4, none⟩ = some (.slice (some ⟨g8, 0, none⟩) k ct8) := (HD.out.cell _).trans (HT9.out.cell_ (i := 4) rfl)
                    by_cases hjk : j < k
                    · have HJK := Lib.hid hjk
                      have q5 : (j : Int) < k := by omega
                      have q6 : (0 : Int) ≤ j := by omega
                      have q7 : (j : Int).toNat = j := rfl
                      have XX0 : wr.cell? ⟨g7, j * 11, none⟩ = some (.int .i64 (m.hold j)) := (HD.out.cell _).trans (HQ9.out.1.cell hjk 0 rfl)
                      have XX1 : wr.cell? ⟨g7, j * 11 + 1, none⟩ = some (.int .i64 (m.rs j).op) := (HD.out.cell _).trans (HQ9.out.1.cell hjk 1 rfl)
                      have XX2 : wr.cell? ⟨g7, j * 11 + 2, none⟩ = some (.int .i64 (m.rs j).line) := (HD.out.cell _).trans (HQ9.out.1.cell hjk 2 rfl)
                      have XX3 : wr.cell? ⟨g7, j * 11 + 3, none⟩ = some (.int .u32 (m.rs j).a) := (HD.out.cell _).trans (HQ9.out.1.cell hjk 3 rfl)
                      have XX4 : wr.cell? ⟨g7, j * 11 + 4, none⟩ = some (.int .u32 (m.rs j).b) := (HD.out.cell _).trans (HQ9.out.1.cell hjk 4 rfl)
                      have XX5 : wr.cell? ⟨g7, j * 11 + 5, none⟩ = some (.int .i64 (m.rs j).s) := (HD.out.cell _).trans (HQ9.out.1.cell hjk 5 rfl)
                      have XX6 : wr.cell? ⟨g7, j * 11 + 6, none⟩ = some (.bool (m.rs j).k.on) := (HD.out.cell _).trans (HQ9.out.1.cell hjk 6 rfl)
                      have XX7 : wr.cell? ⟨g7, j * 11 + 7, none⟩ = some (.int .i64 (m.rs j).k.c) := (HD.out.cell _).trans (HQ9.out.1.cell hjk 7 rfl)
                      have XX8 : wr.cell? ⟨g7, j * 11 + 8, none⟩ = some (.int .i64 (m.rs j).k.i) := (HD.out.cell _).trans (HQ9.out.1.cell hjk 8 rfl)
                      have XX9 : wr.cell? ⟨g7, j * 11 + 9, none⟩ = some (.bool (m.rs j).k.hit) := (HD.out.cell _).trans (HQ9.out.1.cell hjk 9 rfl)
                      have XX10 : wr.cell? ⟨g7, j * 11 + 10, none⟩ = some (.int .i64 (m.rs j).ret) := (HD.out.cell _).trans (HQ9.out.1.cell hjk 10 rfl)
                      have XX0 : wr.cell? ⟨g8, j * 11, none⟩ = some (.int .i64 (m.hold j)) := (HD.out.cell _).trans (HQ9.out.2.cell hjk 0 rfl)
                      have XX1 : wr.cell? ⟨g8, j * 11 + 1, none⟩ = some (.int .i64 (m.rs j).op) := (HD.out.cell _).trans (HQ9.out.2.cell hjk 1 rfl)
                      have XX2 : wr.cell? ⟨g8, j * 11 + 2, none⟩ = some (.int .i64 (m.rs j).line) := (HD.out.cell _).trans (HQ9.out.2.cell hjk 2 rfl)
                      have XX3 : wr.cell? ⟨g8, j * 11 + 3, none⟩ = some (.int .u32 (m.rs j).a) := (HD.out.cell _).trans (HQ9.out.2.cell hjk 3 rfl)
                      have XX4 : wr.cell? ⟨g8, j * 11 + 4, none⟩ = some (.int .u32 (m.rs j).b) := (HD.out.cell _).trans (HQ9.out.2.cell hjk 4 rfl)
                      have XX5 : wr.cell? ⟨g8, j * 11 + 5, none⟩ = some (.int .i64 (m.rs j).s) := (HD.out.cell _).trans (HQ9.out.2.cell hjk 5 rfl)
                      have XX6 : wr.cell? ⟨g8, j * 11 + 6, none⟩ = some (.bool (m.rs j).k.on) := (HD.out.cell _).trans (HQ9.out.2.cell hjk 6 rfl)
                      have XX7 : wr.cell? ⟨g8, j * 11 + 7, none⟩ = some (.int .i64 (m.rs j).k.c) := (HD.out.cell _).trans (HQ9.out.2.cell hjk 7 rfl)
                      have XX8 : wr.cell? ⟨g8, j * 11 + 8, none⟩ = some (.int .i64 (m.rs j).k.i) := (HD.out.cell _).trans (HQ9.out.2.cell hjk 8 rfl)
                      have XX9 : wr.cell? ⟨g8, j * 11 + 9, none⟩ = some (.bool (m.rs j).k.hit) := (HD.out.cell _).trans (HQ9.out.2.cell hjk 9 rfl)
                      have XX10 : wr.cell? ⟨g8, j * 11 + 10, none⟩ = some (.int .i64 (m.rs j).ret) := (HD.out.cell _).trans (HQ9.out.2.cell hjk 10 rfl)
                      clear hj
                      go_upto_region 29 with (fail)
                      go_still_tail 10, (by kernel_rfl)
                      go_wp2_with fail
                      exact ⟨⟨j + 1, by have := HJK.out; omega, by go_num, Lib.hid (HD.out.trans ⟨1, rfl⟩)⟩, by have := HJK.out; simp [intOf]; omega⟩
                    · obtain rfl : k = j := by omega
                      have HOL := Lib.hid (HI9.out.trans HD.out.only)
                      clear hj hjk
                      go_wp2_with fail
                      refine (awake_any _).mono ?_
                      rintro e wz ⟨rfl, hz⟩
                      have HZ := Lib.hid (HOL.out.trans hz)
                      clear hz
                      go_wp2
                      go_ret
                      exact ⟨rfl, HZ.out⟩
end Go.Proofs.YtlepokgagickmaaGreat
