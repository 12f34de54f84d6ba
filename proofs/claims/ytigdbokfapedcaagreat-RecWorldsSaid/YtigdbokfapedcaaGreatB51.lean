/- RecWorlds. -/
import Derived.BigQuiet
import Derived.Test.YtigdbokfapedcaaGreatB50
import Derived.Test.YtigdbokfapedcaaGreatB16
import Derived.Test.YtigdbokfapedcaaGreatB18
import Derived.Test.YtigdbokfapedcaaGreatB20
import Derived.Test.YtigdbokfapedcaaGreatB21
import Derived.Test.YtigdbokfapedcaaGreatB23
import Derived.Test.YtigdbokfapedcaaGreatB6
/- RecWorlds: the walk. -/
set_option linter.unusedVariables false
set_option linter.unusedSimpArgs false
namespace Go.Proofs.YtigdbokfapedcaaGreat
open Go.RowKit
theorem over_apart {c d : Cal} (h : 0 ≤ d.g ∧ d.g < c.f) : overB c d = false := by
  unfold overB aheadB
  rw [decide_eq_true h.1, decide_eq_true h.2]
  simp
theorem pair_at {R : Cal → Cal → Prop} {cs : List Cal} (hp : cs.Pairwise R) {i k : Nat} {c d : Cal} (hk : k < i) (h : cs[i]? = some c) (h2 : cs[k]? = some d) : R d c := by
  obtain ⟨h1, e1⟩ := List.getElem?_eq_some_iff.1 h
  obtain ⟨h3, e3⟩ := List.getElem?_eq_some_iff.1 h2
  have := List.pairwise_iff_getElem.1 hp k i h3 h1 hk
  rwa [e1, e3] at this
set_option maxRecDepth 100000 in
set_option maxHeartbeats 4000000 in
theorem walk_recWorlds (a0 a1 a2 a3 : Int) (a4 : Option Addr) (len4 cap4 : Nat) (W : World) (w0 : (Lit.int .i64 a0).wf = true) (w1 : (Lit.int .i64 a1).wf = true) (w2 : (Lit.int .i64 a2).wf = true) (w3 : (Lit.int .u32 a3).wf = true) (w4 : IsPicks W a4 len4) :
    Calls Tryz.prog 3 #[.int .i64 a0, .int .i64 a1, .int .i64 a2, .int .u32 a3, .slice a4 len4 cap4] W fun e w' => e = .returned (.bool true) ∧ Only Nil W w' := by
  obtain ⟨l, hl, hp⟩ := picks_list w4
  have HP := Lib.hid (And.intro hl hp)
  have h3 : Wrd a3 := wf_u32 w3
  clear w0 w1 w2 w3 w4 hl hp
  rcases wnew_case a0 a1 a2 a3 with ⟨er, her, hN⟩ | ⟨hk, hm, hn⟩
  · have HN := Lib.hid hN
    clear hN h3
    rcases her with rfl | rfl | rfl
    all_goals
      go_enter Tryz.func3, Tryz.ntmps3
      go_wp2_with fail
      refine (HN.out _).mono ?_
      rintro e v1 ⟨rfl, hO⟩
      have HOL := Lib.hid hO
      clear hO
      go_wp2_with fail
      refine (awake_any _).mono ?_
      rintro e wz ⟨rfl, hz⟩
      have HZZ := Lib.hid (HOL.out.trans hz)
      clear hz
      go_wp2
      go_ret
      exact ⟨rfl, HZZ.out⟩
  · obtain ⟨k, rfl⟩ : ∃ k : Nat, a2 = k := ⟨a2.toNat, by omega⟩
    have hk1 : 1 ≤ k ∧ k ≤ 64 := by omega
    have HN := Lib.hid (fun W => wnew_yes a0 a1 a3 k W hk hm hk1 h3)
    have HK := Lib.hid (And.intro hk (And.intro hk1 h3))
    clear hk hm hn hk1 h3
    by_cases h400 : 400 < len4
    · have q1 : (400 : Int) < len4 := by omega
      clear h400
      go_enter Tryz.func3, Tryz.ntmps3
      go_wp2_with fail
      refine (HN.out _).mono ?_
      intro e v1 hn
      obtain ⟨g, gt, b, A, cp, rfl, hw⟩ := wo_new HK.out.2.2 hn
      have HOL := Lib.hid hw.only
      clear hn hw HN
      go_wp2_with fail
      refine (awake_any _).mono ?_
      rintro e wz ⟨rfl, hz⟩
      have HZZ := Lib.hid (HOL.out.trans hz)
      clear hz
      go_wp2
      go_ret
      exact ⟨rfl, HZZ.out⟩
    · have q1 : ¬ (400 : Int) < len4 := by omega
      have HM := Lib.hid (show len4 ≤ 400 by omega)
      clear h400
      go_enter Tryz.func3, Tryz.ntmps3
      go_wp2_with fail
      refine (HN.out _).mono ?_
      intro e v1 hn
      obtain ⟨g, gt, b, A, cp, rfl, hw⟩ := wo_new HK.out.2.2 hn
      have H1 := Lib.hid hw
      clear hn hw HN
      go_wp2_with fail
      refine (woRuns_any g gt b A cp a0 a1 k (mv0 a0 a1 k a3) a4 len4 cap4 l v1 H1.out.wd H1.out.inv HK.out.1 HP.out.1 (by have := HM.out; omega) (fun w' ho i p hp => by
        have h0 := HP.out.2 w' (H1.out.only.step ho (fun i hi e => by
          rcases e with rfl | hA
          · have := H1.out.gn.2.1; omega
          · have := H1.out.gn.2.2.2 i hA; omega))
        exact h0 i p hp)).mono ?_
      rintro e v2 ⟨nv, rfl, hN, hO, hW⟩
      have hru := run_ok (kind := a0) H1.out.inv l len4 (Nat.le_of_eq HP.out.1.symm)
      have hru1 := hru.1
      have hru2 := hru.2
      rw [show l.take len4 = l by rw [← HP.out.1]; exact List.take_length] at hru1 hru2
      have hhw := hw_run (kind := a0) (mode := a1) HK.out.2.2 HK.out.2.1.2 l
      have H2 := Lib.hid (H1.out.turn hO hW hru1)
      have HH := Lib.hid hhw
      have HLEN := Lib.hid (show (runI (linesI a0) k (mv0 a0 a1 k a3) l).2.length ≤ 1600 by have := HM.out; omega)
      have HNO := Lib.hid hN.list
      clear hN hO hW hru hru1 hru2 hhw H1
      generalize (runI (linesI a0) k (mv0 a0 a1 k a3) l).1 = m at *
      generalize (runI (linesI a0) k (mv0 a0 a1 k a3) l).2 = hh at *
      obtain ⟨An, cn, hnv, hnn⟩ := HNO.out
      subst hnv
      have HNN := Lib.hid hnn
      have HWF := Lib.hid (fun x (hx : x ∈ hh) => (wfI (by have := hist_wf HH.out.h x hx; omega) : (Lit.int .i64 x.t).wf = true))
      clear hnn HNO
      go_wp2_with fail
      refine (rcheck_any k An hh.length cn hh v2 rfl HNN.out HWF.out (by have := HLEN.out; omega)).mono ?_
      rw [HH.out.h.chk]
      rintro e v3 ⟨rfl, hO⟩
      have H3 := Lib.hid (H2.out.keep hO)
      have HN3 := Lib.hid (HNN.out.only hO)
      clear hO H2 HNN
      go_wp2_with fail
      refine (rcCalls_any An hh.length cn hh v3 rfl HN3.out HWF.out (by have := HLEN.out; omega)).mono ?_
      rintro e v4 ⟨cv, rfl, hc, hO⟩
      have H4 := Lib.hid (H3.out.keep hO)
      have HN4 := Lib.hid (HN3.out.only hO)
      have HC4 := Lib.hid hc
      have HPW := Lib.hid (calls_apart hh [] 0 (Int.le_refl 0) HH.out.h)
      have HCLN := Lib.hid (callsF_len hh 0)
      clear hO hc H3 HN3
      generalize callsF 0 hh = cs at *
      obtain ⟨Ac, kc, hcv, hcat⟩ := HC4.out
      subst hcv
      have HCA := Lib.hid hcat
      clear hcat HC4
      generalize hCN : cs.length = CN at *
      have HCN := Lib.hid hCN
      clear hCN
      have q2 : (CN : Int) ≤ 1600 := by have h1 := HCLN.out; have h2 := HLEN.out; omega
      generalize hHN : hh.length = HL at *
      have HHN := Lib.hid hHN
      clear hHN
      go_wp2
      go_loopw [17] (fun iv wq => ∃ i : Nat, i ≤ CN ∧ iv = .int .i64 i ∧ Hid (Only Nil v4 wq)) (fun iv _ => CN - (intOf iv).toNat)
      case atStart => exact ⟨0, Nat.zero_le _, rfl, Lib.hid (Only.refl _ _)⟩
      case round =>
        obtain ⟨i, hi, rfl, HO⟩ := hrel
        by_cases hic : i < CN
        · have z5 : (i : Int) < CN := by omega
          have z6 : (0 : Int) ≤ i := by omega
          have z7 : (i : Int).toNat = i := rfl
          have HIC := Lib.hid hic
          clear hi hic
          generalize wr = wo at *
          go_upto_region 13 with (fail)
          go_loopw [18] (fun jv wq => ∃ j : Nat, j ≤ i ∧ jv = .int .i64 j ∧ Hid (Only Nil v4 wq)) (fun jv _ => i - (intOf jv).toNat)
          case atStart => exact ⟨0, Nat.zero_le _, rfl, HO⟩
          case round =>
            clear HO
            obtain ⟨j, hj, rfl, HO⟩ := hrel
            by_cases hji : j < i
            · obtain ⟨c, hc⟩ : ∃ c, cs[i]? = some c := ⟨_, List.getElem?_eq_getElem (by rw [HCN.out]; exact HIC.out)⟩
              obtain ⟨d, hd⟩ : ∃ d, cs[j]? = some d := ⟨_, List.getElem?_eq_getElem (by rw [HCN.out]; have := HIC.out; omega)⟩
              have hap := pair_at HPW.out hji hc hd
              obtain ⟨bc, qc, rfl, hbc, hcc⟩ := HCA.out i c hc
              obtain ⟨bd, qd, e', hbd, hdd⟩ := HCA.out j d hd
              injection e' with e'
              injection e' with e1 e2
              subst e1 e2
              obtain ⟨p0, p1, p2, p3, p4, A5, k5, p5, _⟩ := hcc.only HO.out hbc
              obtain ⟨s0, s1, s2, s3, s4, B5, j5, s5, _⟩ := hdd.only HO.out hbd
              generalize c.ps.length = L5 at *
              generalize d.ps.length = M5 at *
              have HJ := Lib.hid (show j + 1 ≤ i by omega)
              have y5 : (j : Int) < CN := by omega
              have y6 : (0 : Int) ≤ j := by omega
              have y7 : (j : Int).toNat = j := rfl
              have y8 : (j : Int) < i := by omega
              have HBB := Lib.hid (show bc < wr.heap.size from Nat.lt_of_lt_of_le hbc HO.out.size)
              clear hc hd hcc hdd hbd hj hji hbc
              by_cases ht : c.t = d.t
              · have ht1 : (c.t == d.t) = true := by simpa using ht
                have hov := over_apart (hap ht.symm)
                have HOV := Lib.hid (fun W => overlap_any c d (.slice A5 L5 k5) (.slice B5 M5 j5) W)
                rw [hov] at HOV
                clear hov hap ht
                have hS := Lib.hid (fun (WX : World) (ho : Only Nil wr WX) => (⟨(ho.cell (p := ⟨bc, qc + i * 6, none⟩) HBB.out id).trans p0, (ho.cell (p := ⟨bc, qc + i * 6 + 1, none⟩) HBB.out id).trans p1, (ho.cell (p := ⟨bc, qc + i * 6 + 2, none⟩) HBB.out id).trans p2, (ho.cell (p := ⟨bc, qc + i * 6 + 3, none⟩) HBB.out id).trans p3, (ho.cell (p := ⟨bc, qc + i * 6 + 4, none⟩) HBB.out id).trans p4, (ho.cell (p := ⟨bc, qc + i * 6 + 5, none⟩) HBB.out id).trans p5, (ho.cell (p := ⟨bc, qc + j * 6, none⟩) HBB.out id).trans s0, (ho.cell (p := ⟨bc, qc + j * 6 + 1, none⟩) HBB.out id).trans s1, (ho.cell (p := ⟨bc, qc + j * 6 + 2, none⟩) HBB.out id).trans s2, (ho.cell (p := ⟨bc, qc + j * 6 + 3, none⟩) HBB.out id).trans s3, (ho.cell (p := ⟨bc, qc + j * 6 + 4, none⟩) HBB.out id).trans s4, (ho.cell (p := ⟨bc, qc + j * 6 + 5, none⟩) HBB.out id).trans s5⟩ :
                  WX.cell? ⟨bc, qc + i * 6, none⟩ = some (.int .i64 c.t) ∧ WX.cell? ⟨bc, qc + i * 6 + 1, none⟩ = some (.int .i64 c.o) ∧ WX.cell? ⟨bc, qc + i * 6 + 2, none⟩ = some (.int .i64 c.f) ∧ WX.cell? ⟨bc, qc + i * 6 + 3, none⟩ = some (.int .i64 c.g) ∧ WX.cell? ⟨bc, qc + i * 6 + 4, none⟩ = some (.int .i64 c.r) ∧ WX.cell? ⟨bc, qc + i * 6 + 5, none⟩ = some (.slice A5 L5 k5) ∧ WX.cell? ⟨bc, qc + j * 6, none⟩ = some (.int .i64 d.t) ∧ WX.cell? ⟨bc, qc + j * 6 + 1, none⟩ = some (.int .i64 d.o) ∧ WX.cell? ⟨bc, qc + j * 6 + 2, none⟩ = some (.int .i64 d.f) ∧ WX.cell? ⟨bc, qc + j * 6 + 3, none⟩ = some (.int .i64 d.g) ∧ WX.cell? ⟨bc, qc + j * 6 + 4, none⟩ = some (.int .i64 d.r) ∧ WX.cell? ⟨bc, qc + j * 6 + 5, none⟩ = some (.slice B5 M5 j5)))
                go_upto_region 15 with (fail)
                clear p0 p1 p2 p3 p4 p5 s0 s1 s2 s3 s4 s5
                refine wp_region_held_drew (S := fun WX => WX.cell? ⟨bc, qc + i * 6, none⟩ = some (.int .i64 c.t) ∧ WX.cell? ⟨bc, qc + i * 6 + 1, none⟩ = some (.int .i64 c.o) ∧ WX.cell? ⟨bc, qc + i * 6 + 2, none⟩ = some (.int .i64 c.f) ∧ WX.cell? ⟨bc, qc + i * 6 + 3, none⟩ = some (.int .i64 c.g) ∧ WX.cell? ⟨bc, qc + i * 6 + 4, none⟩ = some (.int .i64 c.r) ∧ WX.cell? ⟨bc, qc + i * 6 + 5, none⟩ = some (.slice A5 L5 k5) ∧ WX.cell? ⟨bc, qc + j * 6, none⟩ = some (.int .i64 d.t) ∧ WX.cell? ⟨bc, qc + j * 6 + 1, none⟩ = some (.int .i64 d.o) ∧ WX.cell? ⟨bc, qc + j * 6 + 2, none⟩ = some (.int .i64 d.f) ∧ WX.cell? ⟨bc, qc + j * 6 + 3, none⟩ = some (.int .i64 d.g) ∧ WX.cell? ⟨bc, qc + j * 6 + 4, none⟩ = some (.int .i64 d.r) ∧ WX.cell? ⟨bc, qc + j * 6 + 5, none⟩ = some (.slice B5 M5 j5)) (by kernel_rfl) (hS.out _ ((Only.refl Nil wr).drew)) (fun hHeld => ?_)
                refine zk 0 rfl (hw := by kernel_rfl) ?_
                refine zk 1 rfl (hw := by kernel_rfl) ?_
                refine zk 2 rfl (hw := by kernel_rfl) ?_
                refine zk 3 rfl (hw := by kernel_rfl) ?_
                refine zk 4 rfl (hw := by kernel_rfl) ?_
                refine zk 5 rfl (hw := by kernel_rfl) ?_
                refine zk 6 rfl (hw := by kernel_rfl) ?_
                refine zk 7 rfl (hw := by kernel_rfl) ?_
                refine zk 8 rfl (hw := by kernel_rfl) ?_
                refine zk 9 rfl (hw := by kernel_rfl) ?_
                refine zk 10 rfl (hw := by kernel_rfl) ?_
                refine zk 11 rfl (hw := by kernel_rfl) ?_
                refine zk 12 rfl (hw := by kernel_rfl) ?_
                refine zk 13 rfl (hw := by kernel_rfl) ?_
                refine zk 14 rfl (hw := by kernel_rfl) ?_
                refine zk 15 rfl (hw := by kernel_rfl) ?_
                refine zk 16 rfl (hw := by kernel_rfl) ?_
                refine zk 17 rfl (hw := by kernel_rfl) ?_
                refine zk 18 rfl (hw := by kernel_rfl) ?_
                refine zk 19 rfl (hw := by kernel_rfl) ?_
                refine mcl 20 rfl (by kernel_rfl) (by kernel_rfl) (fun K hK => ?_)
                go_simp
                refine (HOV.out _).mono ?_
                rintro e w9 ⟨rfl, hO9⟩
                have HO9 := Lib.hid (((Only.refl Nil wr).drew).trans hO9)
                refine hK.out _ _ (hS.out _ HO9.out) (fun hHeld2 => ?_)
                clear hK K hO9
                refine zk 21 rfl (hw := by kernel_rfl) ?_
                refine wpAnyH_done (by kernel_rfl) ?_ _
                have HOE := Lib.hid (HO.out.trans HO9.out)
                clear hHeld hHeld2 HO HO9 hS HOV
                go_wp2
                go_roundw
                case rel => exact ⟨j + 1, HJ.out, by go_num, HOE⟩
                case measure => have := HJ.out; simp [intOf]; omega
              · have ht1 : (c.t == d.t) = false := by simpa using ht
                clear hap ht
                go_upto_region 15 with (fail)
                go_quiet (fail)
                have HOE := Lib.hid (fun n => HO.out.trans ((Only.refl Nil wr).drewN n))
                clear HO p0 p1 p2 p3 p4 p5 s0 s1 s2 s3 s4 s5
                go_wp2
                go_roundw
                case rel => exact ⟨j + 1, HJ.out, by go_num, Lib.hid (HOE.out _)⟩
                case measure => have := HJ.out; simp [intOf]; omega
            · obtain rfl : i = j := by omega
              have HLT := Lib.hid (show i + 1 ≤ CN from HIC.out)
              clear hj hji
              go_wp2
              exact ⟨⟨i + 1, HLT.out, by go_num, HO⟩, by have := HLT.out; simp [intOf]; omega⟩
        · obtain rfl : CN = i := by omega
          have H5 := Lib.hid (H4.out.keep HO.out)
          have HN5 := Lib.hid (HN4.out.only HO.out)
          clear hi hic HO H4 HN4 HCA
          go_wp2_with fail
          refine (rpending_any An HL cn hh wr HHN.out HN5.out HWF.out (by have := HLEN.out; omega)).mono ?_
          rintro e v6 ⟨pv, rfl, hpv, hO⟩
          have H6 := Lib.hid (H5.out.keep hO)
          rw [← HH.out.pend] at hpv
          obtain ⟨Ap, kp, rfl, hI⟩ := ownI_form hpv
          have HI := Lib.hid hI
          clear hO hpv hI H5 HN5
          have z9 : (k : Int) ≤ 64 := by have := HK.out.2.1.2; omega
          generalize hPN : (busyL m k).length = PN at *
          have HPN := Lib.hid hPN
          clear hPN
          go_wp2
          go_loopw [20, 21] (fun cv iv wq => ∃ i : Nat, i ≤ k ∧ iv = .int .i64 i ∧ cv = .int .i64 ((busyL m i).length : Nat) ∧ Hid (v6 = wq)) (fun _ iv _ => k - (intOf iv).toNat)
          case atStart => exact ⟨0, Nat.zero_le _, rfl, rfl, Lib.hid rfl⟩
          case round =>
            rename_i cv iv
            obtain ⟨i, hi, rfl, rfl, HE⟩ := hrel
            have hE := HE.out
            subst hE
            clear HE
            by_cases hik : i < k
            · have z5 : (i : Int) < k := by omega
              have HIK := Lib.hid hik
              have HSU := Lib.hid (busyL_succ m i)
              have HSP := Lib.hid (busyL_split m (i := i) (n := k) hi)
              have hbl : (busyL m i).length ≤ PN := by
                obtain ⟨r, h1, _⟩ := HSP.out
                rw [← HPN.out, h1, List.length_append]; omega
              clear hi
              go_wp2_with fail
              refine (woBusy_any g gt b A cp a0 a1 k m i v6 H6.out.wd).mono ?_
              rw [if_pos (show 0 ≤ (i : Int) ∧ (i : Int) < k by omega), show (i : Int).toNat = i from rfl]
              rintro e u1 ⟨rfl, rfl⟩
              generalize hbi : (busyL m i).length = BI at *
              have HBI := Lib.hid hbi
              clear hbi
              by_cases h0 : (m.rs i).op = 0
              · have HB1 := Lib.hid (show (busyL m (i + 1)).length = BI by rw [HSU.out, if_neg (fun h => h h0), List.append_nil]; exact HBI.out)
                rw [h0]
                clear h0 hik
                go_wp2
                exact ⟨⟨i + 1, HIK.out, by go_num, by rw [HB1.out], Lib.hid (by first | rfl | trivial)⟩, by have := HIK.out; simp [intOf]; omega⟩
              · have HB1 := Lib.hid (show (busyL m (i + 1)).length = BI + 1 by rw [HSU.out, if_pos h0, List.length_append, HBI.out]; rfl)
                obtain ⟨r, hr1, hr2⟩ := HSP.out
                obtain ⟨rq, hr3⟩ := hr2 h0 hik
                have hlt : BI < PN := by rw [← HPN.out, hr1, hr3, List.length_append, List.length_cons, HBI.out]; omega
                have hgd : (busyL m k).getD BI 0 = i := by
                  rw [hr1, hr3, List.getD_eq_getElem?_getD, List.getElem?_append_right (by rw [HBI.out]; exact Nat.le_refl _), HBI.out, Nat.sub_self]; rfl
                obtain ⟨bp, op, rfl, hbp, hcell⟩ := HI.out (by rw [HPN.out]; omega)
                have d0 := hcell BI (by rw [HPN.out]; exact hlt)
                rw [hgd] at d0
                have y5 : (BI : Int) < PN := by omega
                have y6 : (0 : Int) ≤ BI := by omega
                have y7 : (BI : Int).toNat = BI := rfl
                have y9 : (BI : Int) ≤ 1000 := by
                  have h9 : (busyL m i).length ≤ i := by
                    unfold busyL
                    rw [List.length_map]
                    exact Nat.le_trans (List.length_filter_le _ _) (by simp)
                  have h8 := HBI.out
                  have h7 := HK.out.2.1
                  omega
                have b0 : ((m.rs i).op != 0) = true := by simpa using h0
                clear hcell hgd hlt hr1 hr2 hr3 hik h0 hbl hbp
                generalize (m.rs i).op = oo at *
                go_wp2
                exact ⟨⟨i + 1, HIK.out, by go_num, by rw [HB1.out]; go_num, Lib.hid (by first | rfl | trivial)⟩, by have := HIK.out; simp [intOf]; omega⟩
            · obtain rfl : k = i := by omega
              rw [HPN.out]
              have HOL := Lib.hid H6.out.only
              clear hi hik
              go_wp2_with fail
              refine (awake_any _).mono ?_
              rintro e wz ⟨rfl, hz⟩
              have HZZ := Lib.hid (HOL.out.trans hz)
              clear hz
              go_wp2
              go_ret
              exact ⟨rfl, HZZ.out⟩
end Go.Proofs.YtigdbokfapedcaaGreat
