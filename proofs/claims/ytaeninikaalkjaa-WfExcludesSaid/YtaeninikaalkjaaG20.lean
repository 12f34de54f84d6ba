import Derived.Test.YtaeninikaalkjaaG13
import Derived.Test.YtaeninikaalkjaaG16
import Derived.Test.YtaeninikaalkjaaG19
import Derived.Test.YtaeninikaalkjaaG1
set_option linter.unusedVariables false
set_option linter.unusedSimpArgs false
namespace Go.Proofs.Ytaeninikaalkjaa
open Go.RowKit
theorem wf_first0 {k : Nat} (hk : 1 ≤ k ∧ k ≤ 64) (b mode : Int) : WfInv (b % 256) k mode ⟨fun i => newR k mode i 0 (wfXs k b), fun _ => 0, wfXs k b⟩ := wf_first hk b mode
def Rnd (b : Int) (k : Nat) (mode : Int) (j : Nat) (m : MV) : Prop := WfInv b k mode m ∧ (AtRest k m ∨ FQ (worthG k) k m + j ≤ k * (22 * k + 20))
set_option maxRecDepth 100000 in
set_option maxHeartbeats 4000000 in
theorem walk_wfExcludes (a0 a1 a2 : Int) (A0 : Option Addr) (len0 cap0 : Nat) (w : World) (h0 : (Lit.int .u8 a0).wf = true) (h1 : (Lit.int .u8 a1).wf = true) (h2 : (Lit.int .u32 a2).wf = true) (h3 : IsTurns w A0 len0) :
    Calls Try.prog 5 #[.int .u8 a0, .int .u8 a1, .int .u32 a2, .slice A0 len0 cap0] w fun e w' => e = .returned (.bool true) ∧ Only Nil w w' := by
  have HBD := Lib.hid (wf_u32 h2)
  obtain ⟨n0, n1⟩ := wf_u8 h0
  obtain ⟨n2, n3⟩ := wf_u8 h1
  have HT := Lib.hid h3
  obtain ⟨k, hkk⟩ : ∃ k : Nat, 1 + a0 % 6 = (k : Int) := ⟨(1 + a0 % 6).toNat, by omega⟩
  obtain ⟨mode, hmm⟩ : ∃ mode : Int, 1 + a1 % 2 = mode := ⟨_, rfl⟩
  have HK := Lib.hid (show 1 ≤ k ∧ k ≤ 6 by omega)
  have HKK := Lib.hid hkk
  have HMM := Lib.hid hmm
  clear h0 h1 h2 h3 hkk hmm
  go_enter Try.func5, Try.ntmps5
  go_wp2_with fail
  rw [HKK.out, HMM.out]
  refine (begun_any k mode a2 _ (by have := HK.out; omega) HBD.out).mono ?_
  have HFST := Lib.hid (wf_first0 (k := k) (by have := HK.out; omega) a2 mode)
  generalize hm0 : (⟨fun i => newR k mode i 0 (wfXs k a2), fun _ => 0, wfXs k a2⟩ : MV) = m0 at *
  clear hm0
  rintro e w1 ⟨X, GL, GH, B, p, A, cp, rfl, hM⟩
  have HM1 := Lib.hid hM
  clear hM n0 n1 n2 n3
  have hk1 : (1 : Int) ≤ k := by have := HK.out; omega
  have hk2 : (k : Int) ≤ 6 := by have := HK.out; omega
  by_cases hlen : len0 ≤ 500
  · have hl500 : ¬ (500 : Int) < len0 := by omega
    go_wp2_with fail
    clear hl500
    go_loopw [11] (fun iv wr => ∃ i : Nat, i ≤ len0 ∧ iv = .int .i64 i ∧ ∃ m, MatchP [] w X GL GH B p A cp k m wr ∧ WfInv (a2 % 256) k mode m) (fun iv _ => len0 - (intOf iv).toNat)
    case atStart => exact ⟨0, Nat.zero_le _, rfl, m0, HM1.out, HFST.out⟩
    case round =>
      obtain ⟨i, hi, rfl, m, hM, hI⟩ := hrel
      clear HM1 HFST
      have HM := Lib.hid hM
      have HI := Lib.hid hI
      clear hM hI
      by_cases hlt : i < len0
      · have hlt' : (i : Int) < len0 := by omega
        obtain ⟨bt, q, va, vc, rfl, hb, hc0, hc1, hva, hvc⟩ := HT.out i hlt
        have c0 : wr.cell? ⟨bt, q + i * 2, none⟩ = some (.int .u8 va) := (HM.out.only.cell (p := ⟨bt, q + i * 2, none⟩) hb id).trans hc0
        have c1 : wr.cell? ⟨bt, q + i * 2 + 1, none⟩ = some (.int .u8 vc) := (HM.out.only.cell (p := ⟨bt, q + i * 2 + 1, none⟩) hb id).trans hc1
        clear hb hc0 hc1
        obtain ⟨hv0, hv1⟩ := hva
        obtain ⟨hw0, hw1⟩ := hvc
        obtain ⟨t, htt⟩ : ∃ t : Nat, va % (k : Int) = (t : Int) := ⟨(va % (k : Int)).toNat, by have := Int.emod_nonneg va (show (k : Int) ≠ 0 by omega); omega⟩
        have HTK := Lib.hid (show t < k by have := Int.emod_lt_of_pos va (show (0 : Int) < k by omega); omega)
        have hkn : ¬ (k : Int) = 0 := by omega
        have htm : va.tmod (k : Int) = (t : Int) := by rw [Int.tmod_eq_emod_of_nonneg hv0]; exact htt
        have htw : IntKind.i64.wrap (t : Int) = (t : Int) := IntWalk.i64_in _ (by have := HTK.out; omega)
        have hqw : IntKind.i64.wrap (va.tdiv (k : Int)) = va.tdiv (k : Int) := IntWalk.i64_in _ (by have := Int.tdiv_nonneg hv0 (show (0 : Int) ≤ k by omega); have := Int.tdiv_le_self (k : Int) hv0; omega)
        clear htt
        have hvaw : IntKind.i64.wrap va = va := IntWalk.i64_in _ (by omega)
        have hvcw : IntKind.i64.wrap vc = vc := IntWalk.i64_in _ (by omega)
        have hkn2 : ¬ k = 0 := by omega
        have ht9 : vc.tmod 9 = vc % 9 := Int.tmod_eq_emod_of_nonneg hw0
        go_upto_region 10 with (fail)
        refine wp_region_phase (n := 17) 16 (fun w => w.cell? ⟨bt, q + i * 2, none⟩ = some (.int .u8 va) ∧ w.cell? ⟨bt, q + i * 2 + 1, none⟩ = some (.int .u8 vc)) rfl (by kernel_rfl) ⟨c0, c1⟩ (fun hHeld => ?_)
        have HM2 := Lib.hid (HM.out.keep (Only.refl Nil wr).drew)
        clear c0 c1 HM
        generalize wr.drew = w2 at *
        refine za 0 rfl ?_
        refine za 1 rfl ?_
        refine za 2 rfl ?_
        refine za 3 rfl ?_
        refine za 4 rfl ?_
        refine zt 5 rfl ?_
        refine za 6 rfl ?_
        refine za 7 rfl ?_
        refine za 8 rfl ?_
        refine za 9 rfl ?_
        refine za 10 rfl ?_
        refine za 11 rfl ?_
        refine za 12 rfl ?_
        refine zt 13 rfl ?_
        refine za 14 rfl ?_
        refine za 15 rfl ?_
        refine mpc 16 rfl (by kernel_rfl) (by rfl) (fun K hK => ?_)
        go_simp
        refine (play_any [] w X GL GH B p A cp k m t (vc % 9) _ HM2.out HTK.out).mono ?_
        rintro e w3 ⟨rfl, hM⟩
        have HM3 := Lib.hid hM
        have HI3 := Lib.hid ((wf_ok (by have := HK.out; omega) (a2 % 256) mode 1).play (p := 0) HI.out (by omega) HTK.out (vc % 9))
        clear hM HI
        generalize playI LS.wf m t (vc % 9) = m3 at *
        refine hK.out _ _ (.inl (by kernel_rfl)) ?_
        clear hK K hHeld HM2 htm htw hqw hkn hv0 hv1 hw0 hw1 hvaw hvcw hkn2 ht9
        refine wpAnyP_done (by kernel_rfl) ?_ _
        go_wp2_with fail
        refine (many_any [] w X GL GH B p A cp k m3 2 _ HM3.out (by have := HK.out; omega)).mono ?_
        have hex := excl_many (m := m3) (k := k) (fun t ht h2 i hi hn => wf_alone HI3.out ht h2 i hi hn)
        rcases hex with hex | ⟨hex, hex2⟩
        · rw [hex, show ((0 : Nat) : Int) = 0 from rfl]
          rintro e w4 ⟨rfl, rfl⟩
          clear hex
          go_wp2
          go_roundw
          case rel => exact ⟨i + 1, by omega, by go_num, m3, HM3.out, HI3.out⟩
          case measure => simp [intOf]; omega
        · have HEX2 := Lib.hid hex2
          rw [hex, show ((1 : Nat) : Int) = 1 from rfl]
          rintro e w4 ⟨rfl, rfl⟩
          clear hex hex2
          go_wp2_with fail
          refine (many_any [] w X GL GH B p A cp k m3 1 _ HM3.out (by have := HK.out; omega)).mono ?_
          rw [HEX2.out, show ((0 : Nat) : Int) = 0 from rfl]
          rintro e w5 ⟨rfl, rfl⟩
          go_wp2
          go_roundw
          case rel => exact ⟨i + 1, by omega, by go_num, m3, HM3.out, HI3.out⟩
          case measure => simp [intOf]; omega
      · obtain rfl : i = len0 := by omega
        have HR0 : Hid (Rnd (a2 % 256) k mode 0 m) := Lib.hid ⟨HI.out, .inr (by rw [Nat.add_zero]; exact wf_bound HI.out)⟩
        clear HI
        obtain ⟨N, hN⟩ : ∃ N : Nat, 2 * k * (8 * k + 40) = N := ⟨_, rfl⟩
        have hN0 : k * (22 * k + 20) < N := by
          rw [← hN, Nat.mul_comm 2 k, Nat.mul_assoc]
          exact Nat.mul_lt_mul_of_pos_left (by have := HK.out; omega) (by have := HK.out; omega)
        have hN1 : N ≤ 1056 := by
          rw [← hN]
          exact Nat.le_trans (Nat.mul_le_mul (show 2 * k ≤ 12 by have := HK.out; omega) (show 8 * k + 40 ≤ 88 by have := HK.out; omega)) (by decide)
        have hNI : 2 * (k : Int) * (8 * (k : Int) + 40) = (N : Int) := by rw [← hN]; push_cast; rfl
        have hNI2 : IntKind.i64.wrap (2 * (k : Int) * (8 * (k : Int) + 40)) = (N : Int) := by rw [hNI]; exact IntWalk.i64_in _ (by omega)
        have HN0 := Lib.hid hN0
        have HN1 := Lib.hid hN1
        have HNI := Lib.hid (And.intro hNI hNI2)
        clear hN hN0 hN1 hNI hNI2
        go_wp2_with fail
        go_loopw [13] (fun jv wq => ∃ j : Nat, j ≤ N ∧ jv = .int .i64 j ∧ ∃ m, MatchP [] w X GL GH B p A cp k m wq ∧ Rnd (a2 % 256) k mode j m) (fun jv _ => N - (intOf jv).toNat)
        case atStart => exact ⟨0, Nat.zero_le _, rfl, m, HM.out, HR0.out⟩
        case round =>
          obtain ⟨j, hj, rfl, m, hM, hR⟩ := hrel
          clear HM HR0
          have HM := Lib.hid hM
          have HR := Lib.hid hR
          clear hM hR
          obtain ⟨hNI, hNI2⟩ := HNI.out
          have hN1 := HN1.out
          by_cases hlt : j < N
          · have hlt' : (j : Int) < N := by omega
            go_wp2_with fail
            clear hlt' hNI hNI2
            go_loopw [14] (fun tv wq => ∃ t : Nat, t ≤ k ∧ tv = .int .i64 t ∧ MatchP [] w X GL GH B p A cp k (roundN LS.wf m t) wq) (fun tv _ => k - (intOf tv).toNat)
            case atStart => exact ⟨0, Nat.zero_le _, rfl, HM.out⟩
            case round =>
              obtain ⟨t, ht, rfl, hM⟩ := hrel
              clear HM
              have HM := Lib.hid hM
              clear hM
              by_cases hlt : t < k
              · have hlt' : (t : Int) < k := by omega
                have HIt := Lib.hid (((wf_ok (by have := HK.out; omega) (a2 % 256) mode k).round (p := 0) HR.out.1 (by omega) t (by omega)).1)
                obtain ⟨cl, hx0⟩ := HM.out.x
                obtain ⟨csh, hh0, hh1⟩ := HM.out.h
                have x1 : wr.cell? ⟨X, 1, none⟩ = some (.slice (some ⟨GH, 0, none⟩) k k) := hx0.cell_ (i := 1) rfl
                have gh : wr.cell? ⟨GH, t, none⟩ = some (.int .i64 ((roundN LS.wf m t).hold t)) := hh0.cell_ (hh1 t hlt)
                clear hx0 hh0 hh1
                have HNX := Lib.hid (show roundN LS.wf m (t + 1) = playI LS.wf (roundN LS.wf m t) t (2 * (roundN LS.wf m t).hold t) from rfl)
                have hhv := (wf_ok (k := k) (by have := HK.out; omega) (a2 % 256) mode k).holds 0 _ HIt.out t hlt
                generalize hmt : roundN LS.wf m t = mt at *
                generalize hhd : mt.hold t = hd at *
                have hd0 : 0 ≤ hd ∧ hd ≤ 2 := by omega
                obtain ⟨hd1, hd2⟩ := hd0
                have HHD := Lib.hid hhd
                clear hmt hhv hhd
                go_wp2_with fail
                clear x1 gh hlt'
                refine (play_any [] w X GL GH B p A cp k mt t (2 * hd) _ HM.out hlt).mono ?_
                rintro e w5 ⟨rfl, hM⟩
                have HM5 := Lib.hid (show MatchP [] w X GL GH B p A cp k (roundN LS.wf m (t + 1)) w5 by rw [HNX.out]; exact hM)
                clear hM HM hd1 hd2
                go_wp2
                go_roundw
                case rel => exact ⟨t + 1, by omega, by go_num, HM5.out⟩
                case measure => simp [intOf]; omega
              · obtain rfl : t = k := by omega
                have HW := Lib.hid ((wf_ok (k := t) (by have := HK.out; omega) (a2 % 256) mode t).whole (p := 0) HR.out.1 (by omega) HR.out.2)
                have HR2 : Hid (Rnd (a2 % 256) t mode (j + 1) (roundN LS.wf m t)) := Lib.hid ⟨HW.out.1, HW.out.2⟩
                go_wp2
                go_roundw
                case rel => exact ⟨j + 1, by omega, by go_num, _, HM.out, HR2.out⟩
                case measure => simp [intOf]; omega
          · obtain rfl : j = N := by omega
            have HD : Hid (AtRest k m) := Lib.hid (by
              rcases HR.out.2 with e | e
              · exact e
              · have := HN0.out; omega)
            go_wp2_with fail
            clear hNI hNI2
            go_loopw [15] (fun tv wq => ∃ t : Nat, t ≤ k ∧ tv = .int .i64 t ∧ MatchP [] w X GL GH B p A cp k m wq) (fun tv _ => k - (intOf tv).toNat)
            case atStart => exact ⟨0, Nat.zero_le _, rfl, HM.out⟩
            case round =>
              obtain ⟨t, ht, rfl, hM⟩ := hrel
              clear HM
              have HM := Lib.hid hM
              clear hM
              by_cases hlt : t < k
              · have hlt' : (t : Int) < k := by omega
                obtain ⟨d1, d2⟩ := HD.out t hlt
                obtain ⟨b, hb⟩ : ∃ b, B t = b := ⟨_, rfl⟩
                obtain ⟨cl, hx0⟩ := HM.out.x
                obtain ⟨csl, hl0, hl1⟩ := HM.out.l
                obtain ⟨csh, hh0, hh1⟩ := HM.out.h
                obtain ⟨nv, hq⟩ := HM.out.run t hlt
                have x0 : wr.cell? ⟨X, 0, none⟩ = some (.slice (some ⟨GL, 0, none⟩) k cl) := hx0.cell_ (i := 0) rfl
                have x1 : wr.cell? ⟨X, 1, none⟩ = some (.slice (some ⟨GH, 0, none⟩) k k) := hx0.cell_ (i := 1) rfl
                have gl : wr.cell? ⟨GL, t, none⟩ = some (.pointer (some ⟨b, 0, none⟩)) := by have e := hl0.cell_ (hl1 t hlt); rw [hb] at e; exact e
                have gh : wr.cell? ⟨GH, t, none⟩ = some (.int .i64 0) := by have e := hh0.cell_ (hh1 t hlt); rw [d2] at e; exact e
                have c4 : wr.cell? ⟨b, 4, none⟩ = some (.int .i64 0) := by
                  rw [hb] at hq
                  have e : wr.cell? ⟨b, 4, none⟩ = some (.int .i64 (m.at t).op) := hq.row.cell_ (i := 4) rfl
                  rw [show (m.at t).op = 0 from d1] at e; exact e
                clear hx0 hl0 hl1 hh0 hh1 hq d1 d2
                go_wp2
                clear x0 x1 gl gh c4
                go_roundw
                case rel => exact ⟨t + 1, by omega, by go_num, HM.out⟩
                case measure => simp [intOf]; omega
              · obtain rfl : t = k := by omega
                go_wp2_with fail
                refine (awake_any _).mono ?_
                rintro e w9 ⟨rfl, hO⟩
                have HO9 := Lib.hid (HM.out.only.trans hO)
                clear hO
                go_wp2
                go_ret
                exact ⟨rfl, HO9.out⟩
  · have hl500 : (500 : Int) < len0 := by omega
    go_wp2_with fail
    refine (awake_any _).mono ?_
    rintro e w9 ⟨rfl, hO⟩
    have HO9 := Lib.hid (HM1.out.only.trans hO)
    clear hO
    go_wp2
    go_ret
    exact ⟨rfl, HO9.out⟩
end Go.Proofs.Ytaeninikaalkjaa
set_option linter.unusedVariables false
set_option linter.unusedSimpArgs false
namespace Go.Proofs.Ytaeninikaalkjaa
open Go.RowKit
def ListsAt (W : World) (gL : Nat) (ls : List (List Int)) : Prop := ∀ (i : Nat) (l : List Int), ls[i]? = some l → ∃ g, W.cell? ⟨gL, i, none⟩ = some (.slice (some ⟨g, 0, none⟩) l.length l.length) ∧ ∀ (j : Nat) (op : Int), l[j]? = some op → W.cell? ⟨g, j, none⟩ = some (.int .i64 op)
theorem cell_keep {W W' : World} {p : Addr} {v : Value} (h : W.cell? p = some v) (ho : Only Nil W W') : W'.cell? p = some v := (ho.cell (World.block_lt_of_cell? W p h) id).trans h
theorem ListsAt.only {W W' : World} {gL : Nat} {ls : List (List Int)} (h : ListsAt W gL ls) (ho : Only Nil W W') : ListsAt W' gL ls := fun i l hi => by
  obtain ⟨g, hc, hj⟩ := h i l hi
  exact ⟨g, cell_keep hc ho, fun j op e => cell_keep (hj j op e) ho⟩
theorem Row.op {W : World} {g : Nat} {t : TypeId} {l : List Int} (h : Row W g t ((l.map (Value.int .i64)).toArray)) : ∀ (j : Nat) (op : Int), l[j]? = some op → W.cell? ⟨g, j, none⟩ = some (.int .i64 op) := fun j op e => h.cell_ (by simp [e])
end Go.Proofs.Ytaeninikaalkjaa
set_option linter.unusedVariables false
set_option linter.unusedSimpArgs false
namespace Go.Proofs.Ytaeninikaalkjaa
open Go.RowKit
theorem lists_made (w : World) : ListsAt ((((((((w.alloc (.cells #[.int .i64 1, .int .i64 2] 3)).alloc (.cells #[.int .i64 3, .int .i64 4] 3)).alloc (.cells #[.int .i64 5, .int .i64 2] 3)).alloc (.cells #[.int .i64 6, .int .i64 4] 3)).alloc (.cells #[.int .i64 3, .int .i64 8, .int .i64 2] 3)).alloc (.cells #[.int .i64 1, .int .i64 7, .int .i64 4] 3)).alloc (.cells #[.int .i64 6, .int .i64 8, .int .i64 7, .int .i64 4] 3)).alloc (.cells #[.slice (some ⟨w.heap.size, 0, none⟩) 2 2, .slice (some ⟨w.heap.size + 1, 0, none⟩) 2 2, .slice (some ⟨w.heap.size + 1 + 1, 0, none⟩) 2 2, .slice (some ⟨w.heap.size + 1 + 1 + 1, 0, none⟩) 2 2, .slice (some ⟨w.heap.size + 1 + 1 + 1 + 1, 0, none⟩) 3 3, .slice (some ⟨w.heap.size + 1 + 1 + 1 + 1 + 1, 0, none⟩) 3 3, .slice (some ⟨w.heap.size + 1 + 1 + 1 + 1 + 1 + 1, 0, none⟩) 4 4] 23)) (w.heap.size + 1 + 1 + 1 + 1 + 1 + 1 + 1) opsS := by
  have r0 : Row ((((((((w.alloc (.cells #[.int .i64 1, .int .i64 2] 3)).alloc (.cells #[.int .i64 3, .int .i64 4] 3)).alloc (.cells #[.int .i64 5, .int .i64 2] 3)).alloc (.cells #[.int .i64 6, .int .i64 4] 3)).alloc (.cells #[.int .i64 3, .int .i64 8, .int .i64 2] 3)).alloc (.cells #[.int .i64 1, .int .i64 7, .int .i64 4] 3)).alloc (.cells #[.int .i64 6, .int .i64 8, .int .i64 7, .int .i64 4] 3)).alloc (.cells #[.slice (some ⟨w.heap.size, 0, none⟩) 2 2, .slice (some ⟨w.heap.size + 1, 0, none⟩) 2 2, .slice (some ⟨w.heap.size + 1 + 1, 0, none⟩) 2 2, .slice (some ⟨w.heap.size + 1 + 1 + 1, 0, none⟩) 2 2, .slice (some ⟨w.heap.size + 1 + 1 + 1 + 1, 0, none⟩) 3 3, .slice (some ⟨w.heap.size + 1 + 1 + 1 + 1 + 1, 0, none⟩) 3 3, .slice (some ⟨w.heap.size + 1 + 1 + 1 + 1 + 1 + 1, 0, none⟩) 4 4] 23)) (w.heap.size) 3 #[.int .i64 1, .int .i64 2] := ((((((((Row.new w 3 _).alloc _).alloc _).alloc _).alloc _).alloc _).alloc _).alloc _)
  have r1 : Row ((((((((w.alloc (.cells #[.int .i64 1, .int .i64 2] 3)).alloc (.cells #[.int .i64 3, .int .i64 4] 3)).alloc (.cells #[.int .i64 5, .int .i64 2] 3)).alloc (.cells #[.int .i64 6, .int .i64 4] 3)).alloc (.cells #[.int .i64 3, .int .i64 8, .int .i64 2] 3)).alloc (.cells #[.int .i64 1, .int .i64 7, .int .i64 4] 3)).alloc (.cells #[.int .i64 6, .int .i64 8, .int .i64 7, .int .i64 4] 3)).alloc (.cells #[.slice (some ⟨w.heap.size, 0, none⟩) 2 2, .slice (some ⟨w.heap.size + 1, 0, none⟩) 2 2, .slice (some ⟨w.heap.size + 1 + 1, 0, none⟩) 2 2, .slice (some ⟨w.heap.size + 1 + 1 + 1, 0, none⟩) 2 2, .slice (some ⟨w.heap.size + 1 + 1 + 1 + 1, 0, none⟩) 3 3, .slice (some ⟨w.heap.size + 1 + 1 + 1 + 1 + 1, 0, none⟩) 3 3, .slice (some ⟨w.heap.size + 1 + 1 + 1 + 1 + 1 + 1, 0, none⟩) 4 4] 23)) (w.heap.size + 1) 3 #[.int .i64 3, .int .i64 4] := (((((((Row.at (by simp)).alloc _).alloc _).alloc _).alloc _).alloc _).alloc _)
  have r2 : Row ((((((((w.alloc (.cells #[.int .i64 1, .int .i64 2] 3)).alloc (.cells #[.int .i64 3, .int .i64 4] 3)).alloc (.cells #[.int .i64 5, .int .i64 2] 3)).alloc (.cells #[.int .i64 6, .int .i64 4] 3)).alloc (.cells #[.int .i64 3, .int .i64 8, .int .i64 2] 3)).alloc (.cells #[.int .i64 1, .int .i64 7, .int .i64 4] 3)).alloc (.cells #[.int .i64 6, .int .i64 8, .int .i64 7, .int .i64 4] 3)).alloc (.cells #[.slice (some ⟨w.heap.size, 0, none⟩) 2 2, .slice (some ⟨w.heap.size + 1, 0, none⟩) 2 2, .slice (some ⟨w.heap.size + 1 + 1, 0, none⟩) 2 2, .slice (some ⟨w.heap.size + 1 + 1 + 1, 0, none⟩) 2 2, .slice (some ⟨w.heap.size + 1 + 1 + 1 + 1, 0, none⟩) 3 3, .slice (some ⟨w.heap.size + 1 + 1 + 1 + 1 + 1, 0, none⟩) 3 3, .slice (some ⟨w.heap.size + 1 + 1 + 1 + 1 + 1 + 1, 0, none⟩) 4 4] 23)) (w.heap.size + 1 + 1) 3 #[.int .i64 5, .int .i64 2] := ((((((Row.at (by simp)).alloc _).alloc _).alloc _).alloc _).alloc _)
  have r3 : Row ((((((((w.alloc (.cells #[.int .i64 1, .int .i64 2] 3)).alloc (.cells #[.int .i64 3, .int .i64 4] 3)).alloc (.cells #[.int .i64 5, .int .i64 2] 3)).alloc (.cells #[.int .i64 6, .int .i64 4] 3)).alloc (.cells #[.int .i64 3, .int .i64 8, .int .i64 2] 3)).alloc (.cells #[.int .i64 1, .int .i64 7, .int .i64 4] 3)).alloc (.cells #[.int .i64 6, .int .i64 8, .int .i64 7, .int .i64 4] 3)).alloc (.cells #[.slice (some ⟨w.heap.size, 0, none⟩) 2 2, .slice (some ⟨w.heap.size + 1, 0, none⟩) 2 2, .slice (some ⟨w.heap.size + 1 + 1, 0, none⟩) 2 2, .slice (some ⟨w.heap.size + 1 + 1 + 1, 0, none⟩) 2 2, .slice (some ⟨w.heap.size + 1 + 1 + 1 + 1, 0, none⟩) 3 3, .slice (some ⟨w.heap.size + 1 + 1 + 1 + 1 + 1, 0, none⟩) 3 3, .slice (some ⟨w.heap.size + 1 + 1 + 1 + 1 + 1 + 1, 0, none⟩) 4 4] 23)) (w.heap.size + 1 + 1 + 1) 3 #[.int .i64 6, .int .i64 4] := (((((Row.at (by simp)).alloc _).alloc _).alloc _).alloc _)
  have r4 : Row ((((((((w.alloc (.cells #[.int .i64 1, .int .i64 2] 3)).alloc (.cells #[.int .i64 3, .int .i64 4] 3)).alloc (.cells #[.int .i64 5, .int .i64 2] 3)).alloc (.cells #[.int .i64 6, .int .i64 4] 3)).alloc (.cells #[.int .i64 3, .int .i64 8, .int .i64 2] 3)).alloc (.cells #[.int .i64 1, .int .i64 7, .int .i64 4] 3)).alloc (.cells #[.int .i64 6, .int .i64 8, .int .i64 7, .int .i64 4] 3)).alloc (.cells #[.slice (some ⟨w.heap.size, 0, none⟩) 2 2, .slice (some ⟨w.heap.size + 1, 0, none⟩) 2 2, .slice (some ⟨w.heap.size + 1 + 1, 0, none⟩) 2 2, .slice (some ⟨w.heap.size + 1 + 1 + 1, 0, none⟩) 2 2, .slice (some ⟨w.heap.size + 1 + 1 + 1 + 1, 0, none⟩) 3 3, .slice (some ⟨w.heap.size + 1 + 1 + 1 + 1 + 1, 0, none⟩) 3 3, .slice (some ⟨w.heap.size + 1 + 1 + 1 + 1 + 1 + 1, 0, none⟩) 4 4] 23)) (w.heap.size + 1 + 1 + 1 + 1) 3 #[.int .i64 3, .int .i64 8, .int .i64 2] := ((((Row.at (by simp)).alloc _).alloc _).alloc _)
  have r5 : Row ((((((((w.alloc (.cells #[.int .i64 1, .int .i64 2] 3)).alloc (.cells #[.int .i64 3, .int .i64 4] 3)).alloc (.cells #[.int .i64 5, .int .i64 2] 3)).alloc (.cells #[.int .i64 6, .int .i64 4] 3)).alloc (.cells #[.int .i64 3, .int .i64 8, .int .i64 2] 3)).alloc (.cells #[.int .i64 1, .int .i64 7, .int .i64 4] 3)).alloc (.cells #[.int .i64 6, .int .i64 8, .int .i64 7, .int .i64 4] 3)).alloc (.cells #[.slice (some ⟨w.heap.size, 0, none⟩) 2 2, .slice (some ⟨w.heap.size + 1, 0, none⟩) 2 2, .slice (some ⟨w.heap.size + 1 + 1, 0, none⟩) 2 2, .slice (some ⟨w.heap.size + 1 + 1 + 1, 0, none⟩) 2 2, .slice (some ⟨w.heap.size + 1 + 1 + 1 + 1, 0, none⟩) 3 3, .slice (some ⟨w.heap.size + 1 + 1 + 1 + 1 + 1, 0, none⟩) 3 3, .slice (some ⟨w.heap.size + 1 + 1 + 1 + 1 + 1 + 1, 0, none⟩) 4 4] 23)) (w.heap.size + 1 + 1 + 1 + 1 + 1) 3 #[.int .i64 1, .int .i64 7, .int .i64 4] := (((Row.at (by simp)).alloc _).alloc _)
  have r6 : Row ((((((((w.alloc (.cells #[.int .i64 1, .int .i64 2] 3)).alloc (.cells #[.int .i64 3, .int .i64 4] 3)).alloc (.cells #[.int .i64 5, .int .i64 2] 3)).alloc (.cells #[.int .i64 6, .int .i64 4] 3)).alloc (.cells #[.int .i64 3, .int .i64 8, .int .i64 2] 3)).alloc (.cells #[.int .i64 1, .int .i64 7, .int .i64 4] 3)).alloc (.cells #[.int .i64 6, .int .i64 8, .int .i64 7, .int .i64 4] 3)).alloc (.cells #[.slice (some ⟨w.heap.size, 0, none⟩) 2 2, .slice (some ⟨w.heap.size + 1, 0, none⟩) 2 2, .slice (some ⟨w.heap.size + 1 + 1, 0, none⟩) 2 2, .slice (some ⟨w.heap.size + 1 + 1 + 1, 0, none⟩) 2 2, .slice (some ⟨w.heap.size + 1 + 1 + 1 + 1, 0, none⟩) 3 3, .slice (some ⟨w.heap.size + 1 + 1 + 1 + 1 + 1, 0, none⟩) 3 3, .slice (some ⟨w.heap.size + 1 + 1 + 1 + 1 + 1 + 1, 0, none⟩) 4 4] 23)) (w.heap.size + 1 + 1 + 1 + 1 + 1 + 1) 3 #[.int .i64 6, .int .i64 8, .int .i64 7, .int .i64 4] := ((Row.at (by simp)).alloc _)
  have r7 : Row ((((((((w.alloc (.cells #[.int .i64 1, .int .i64 2] 3)).alloc (.cells #[.int .i64 3, .int .i64 4] 3)).alloc (.cells #[.int .i64 5, .int .i64 2] 3)).alloc (.cells #[.int .i64 6, .int .i64 4] 3)).alloc (.cells #[.int .i64 3, .int .i64 8, .int .i64 2] 3)).alloc (.cells #[.int .i64 1, .int .i64 7, .int .i64 4] 3)).alloc (.cells #[.int .i64 6, .int .i64 8, .int .i64 7, .int .i64 4] 3)).alloc (.cells #[.slice (some ⟨w.heap.size, 0, none⟩) 2 2, .slice (some ⟨w.heap.size + 1, 0, none⟩) 2 2, .slice (some ⟨w.heap.size + 1 + 1, 0, none⟩) 2 2, .slice (some ⟨w.heap.size + 1 + 1 + 1, 0, none⟩) 2 2, .slice (some ⟨w.heap.size + 1 + 1 + 1 + 1, 0, none⟩) 3 3, .slice (some ⟨w.heap.size + 1 + 1 + 1 + 1 + 1, 0, none⟩) 3 3, .slice (some ⟨w.heap.size + 1 + 1 + 1 + 1 + 1 + 1, 0, none⟩) 4 4] 23)) (w.heap.size + 1 + 1 + 1 + 1 + 1 + 1 + 1) 23 #[.slice (some ⟨w.heap.size, 0, none⟩) 2 2, .slice (some ⟨w.heap.size + 1, 0, none⟩) 2 2, .slice (some ⟨w.heap.size + 1 + 1, 0, none⟩) 2 2, .slice (some ⟨w.heap.size + 1 + 1 + 1, 0, none⟩) 2 2, .slice (some ⟨w.heap.size + 1 + 1 + 1 + 1, 0, none⟩) 3 3, .slice (some ⟨w.heap.size + 1 + 1 + 1 + 1 + 1, 0, none⟩) 3 3, .slice (some ⟨w.heap.size + 1 + 1 + 1 + 1 + 1 + 1, 0, none⟩) 4 4] := Row.at (by simp)
  intro i l hi
  match i, hi with
  | 0, hi => obtain rfl := Option.some.inj hi; exact ⟨_, r7.cell_ (i := 0) rfl, Row.op (l := [1, 2]) r0⟩
  | 1, hi => obtain rfl := Option.some.inj hi; exact ⟨_, r7.cell_ (i := 1) rfl, Row.op (l := [3, 4]) r1⟩
  | 2, hi => obtain rfl := Option.some.inj hi; exact ⟨_, r7.cell_ (i := 2) rfl, Row.op (l := [5, 2]) r2⟩
  | 3, hi => obtain rfl := Option.some.inj hi; exact ⟨_, r7.cell_ (i := 3) rfl, Row.op (l := [6, 4]) r3⟩
  | 4, hi => obtain rfl := Option.some.inj hi; exact ⟨_, r7.cell_ (i := 4) rfl, Row.op (l := [3, 8, 2]) r4⟩
  | 5, hi => obtain rfl := Option.some.inj hi; exact ⟨_, r7.cell_ (i := 5) rfl, Row.op (l := [1, 7, 4]) r5⟩
  | 6, hi => obtain rfl := Option.some.inj hi; exact ⟨_, r7.cell_ (i := 6) rfl, Row.op (l := [6, 8, 7, 4]) r6⟩
  | i + 7, hi => simp [opsS] at hi
theorem foldF_step {k : Nat} {mode op b : Int} {l : List Int} {j : Nat} (hk : 1 ≤ k ∧ k ≤ 64) (hl : l ∈ opsS) (h : l[j]? = some op) : aloneL LS.wf (40 + 8 * k) (newR k mode 0 op (foldF k mode (l.take j) (wfXs k b))) = (2, foldF k mode (l.take (j + 1)) (wfXs k b)) := by
  rw [foldF_next h]
  exact Prod.ext ((opsF_ok (mode := mode) hk (stf_first hk.2 b) l hl).2 j op h) rfl
set_option maxRecDepth 100000 in
set_option maxHeartbeats 2000000 in
theorem walk_wfAlone (a0 a1 a2 : Int) (w : World) (h0 : (Lit.int .u32 a0).wf = true) (h1 : (Lit.int .u8 a1).wf = true) (h2 : (Lit.int .i64 a2).wf = true) :
    Calls Try.prog 3 #[.int .u32 a0, .int .u8 a1, .int .i64 a2] w fun e w' => e = .returned (.bool true) ∧ Only Nil w w' := by
  have HBD := Lib.hid (wf_u32 h0)
  obtain ⟨n0, n1⟩ := wf_u8 h1
  obtain ⟨k, hkk⟩ : ∃ k : Nat, 1 + a1 % 64 = (k : Int) := ⟨(1 + a1 % 64).toNat, by omega⟩
  have HK := Lib.hid (show 1 ≤ k ∧ k ≤ 64 by omega)
  have HKK := Lib.hid hkk
  have HLS := Lib.hid (lists_made w)
  have HO := Lib.hid (((((((((Only.refl Nil w).alloc (.cells #[.int .i64 1, .int .i64 2] 3)).alloc (.cells #[.int .i64 3, .int .i64 4] 3)).alloc (.cells #[.int .i64 5, .int .i64 2] 3)).alloc (.cells #[.int .i64 6, .int .i64 4] 3)).alloc (.cells #[.int .i64 3, .int .i64 8, .int .i64 2] 3)).alloc (.cells #[.int .i64 1, .int .i64 7, .int .i64 4] 3)).alloc (.cells #[.int .i64 6, .int .i64 8, .int .i64 7, .int .i64 4] 3)).alloc (.cells #[.slice (some ⟨w.heap.size, 0, none⟩) 2 2, .slice (some ⟨w.heap.size + 1, 0, none⟩) 2 2, .slice (some ⟨w.heap.size + 1 + 1, 0, none⟩) 2 2, .slice (some ⟨w.heap.size + 1 + 1 + 1, 0, none⟩) 2 2, .slice (some ⟨w.heap.size + 1 + 1 + 1 + 1, 0, none⟩) 3 3, .slice (some ⟨w.heap.size + 1 + 1 + 1 + 1 + 1, 0, none⟩) 3 3, .slice (some ⟨w.heap.size + 1 + 1 + 1 + 1 + 1 + 1, 0, none⟩) 4 4] 23))
  clear h0 h1 h2 hkk
  go_enter Try.func3, Try.ntmps3
  go_upto_region 3 with (fail)
  rw [HKK.out]
  generalize ((((((((w.alloc (.cells #[.int .i64 1, .int .i64 2] 3)).alloc (.cells #[.int .i64 3, .int .i64 4] 3)).alloc (.cells #[.int .i64 5, .int .i64 2] 3)).alloc (.cells #[.int .i64 6, .int .i64 4] 3)).alloc (.cells #[.int .i64 3, .int .i64 8, .int .i64 2] 3)).alloc (.cells #[.int .i64 1, .int .i64 7, .int .i64 4] 3)).alloc (.cells #[.int .i64 6, .int .i64 8, .int .i64 7, .int .i64 4] 3)).alloc (.cells #[.slice (some ⟨w.heap.size, 0, none⟩) 2 2, .slice (some ⟨w.heap.size + 1, 0, none⟩) 2 2, .slice (some ⟨w.heap.size + 1 + 1, 0, none⟩) 2 2, .slice (some ⟨w.heap.size + 1 + 1 + 1, 0, none⟩) 2 2, .slice (some ⟨w.heap.size + 1 + 1 + 1 + 1, 0, none⟩) 3 3, .slice (some ⟨w.heap.size + 1 + 1 + 1 + 1 + 1, 0, none⟩) 3 3, .slice (some ⟨w.heap.size + 1 + 1 + 1 + 1 + 1 + 1, 0, none⟩) 4 4] 23)) = w1 at *
  generalize w.heap.size + 1 + 1 + 1 + 1 + 1 + 1 + 1 = gL at *
  clear HKK n0 n1
  have hk1 : (1 : Int) ≤ k := by have := HK.out; omega
  have hk2 : (k : Int) ≤ 64 := by have := HK.out; omega
  go_loopw [31] (fun iv wr => ∃ i : Nat, i ≤ 7 ∧ iv = .int .i64 i ∧ Only Nil w1 wr) (fun iv _ => 7 - (intOf iv).toNat)
  case atStart => exact ⟨0, Nat.zero_le _, rfl, Only.refl _ _⟩
  case round =>
    obtain ⟨i, hi, rfl, hOr⟩ := hrel
    have HOR := Lib.hid hOr
    clear hOr
    by_cases hlt : i < 7
    · obtain ⟨l, hl⟩ : ∃ l, opsS[i]? = some l := ⟨_, List.getElem?_eq_getElem (show i < opsS.length from hlt)⟩
      obtain ⟨g, hc1, hops⟩ := HLS.out i l hl
      have hc := cell_keep hc1 HOR.out
      clear hc1
      have HL := Lib.hid (List.mem_of_getElem? hl)
      have HOPS := Lib.hid hops
      clear hops hl
      generalize hlen : l.length = m at *
      have HLEN := Lib.hid hlen
      have hm9 : m ≤ 4 := by
        have h := HL.out
        simp only [opsS, List.mem_cons, List.not_mem_nil, or_false] at h
        rcases h with rfl | rfl | rfl | rfl | rfl | rfl | rfl <;> simp at hlen <;> omega
      clear hlen
      go_wp2_with fail
      clear hc
      refine (first_wf k a0 _ HK.out HBD.out).mono ?_
      rintro e w2 ⟨gf, rfl, hg, hH, hO⟩
      have HH := Lib.hid hH
      have HO2 := Lib.hid hO
      clear hg hH hO
      go_wp2_with fail
      refine (from_ok _ _ _ _ _ (by omega) HH.out).mono ?_
      rintro e w3 ⟨b, A', c', rfl, hb, hA, hM, hO⟩
      have HM0 : Hid (Made w1 b A' c' (foldF k a2 (l.take 0) (wfXs k a0)) w3) := Lib.hid ⟨hM, fun j hj => Nat.le_trans (HOR.out.trans HO2.out).size (hA j hj), (HOR.out.trans HO2.out).trans hO⟩
      have HW0 : Hid (Words (foldF k a2 (l.take 0) (wfXs k a0))) := Lib.hid (wf_words HBD.out.1)
      clear hb hA hM hO HO2 HH
      go_wp2_with fail
      go_loopw [14] (fun jv wq => ∃ j : Nat, j ≤ m ∧ jv = .int .i64 j ∧ Made w1 b A' c' (foldF k a2 (l.take j) (wfXs k a0)) wq ∧ Words (foldF k a2 (l.take j) (wfXs k a0))) (fun jv _ => m - (intOf jv).toNat)
      case atStart => exact ⟨0, Nat.zero_le _, rfl, HM0.out, HW0.out⟩
      case round =>
        obtain ⟨j, hj, rfl, hM, hW⟩ := hrel
        clear HM0 HW0
        have HM := Lib.hid hM
        have HW := Lib.hid hW
        clear hM hW
        by_cases hjm : j < m
        · obtain ⟨op, hop⟩ : ∃ op, l[j]? = some op := ⟨_, List.getElem?_eq_getElem (by rw [HLEN.out]; exact hjm)⟩
          have c63 : wr.cell? ⟨g, j, none⟩ = some (.int .i64 op) := cell_keep (HOPS.out j op hop) HM.out.only
          have HAL := Lib.hid (foldF_step (mode := a2) (b := a0) HK.out HL.out hop)
          clear hop
          generalize foldF k a2 (l.take j) (wfXs k a0) = X0 at *
          generalize hX1 : foldF k a2 (l.take (j + 1)) (wfXs k a0) = X1 at *
          have HX1 := Lib.hid hX1
          clear hX1
          go_wp2_with fail
          clear c63
          rw [show (40 : Int) + 8 * (k : Int) = ((40 + 8 * k : Nat) : Int) by push_cast; rfl]
          refine (alone_any (some ⟨b, 0, none⟩) A' c' k a2 op (40 + 8 * k) _ _ (Memo.of HM.out.mem) HW.out (by omega)).mono ?_
          rw [HAL.out]
          rintro e w5 ⟨nv, rfl, hO, hM, hW⟩
          have HM5 := Lib.hid (HM.out.call hO hM.mem)
          have HW5 := Lib.hid hW
          clear hO hM hW HM HW
          go_wp2
          go_roundw
          case rel => exact ⟨j + 1, by omega, by go_num, by rw [HX1.out]; exact HM5.out, by rw [HX1.out]; exact HW5.out⟩
          case measure => simp [intOf]; omega
        · obtain rfl : j = m := by omega
          obtain ⟨v, hv0, hv1, hv2, hv3, hv4⟩ := StF.free ((opsF_ok (mode := a2) HK.out (stf_first HK.out.2 a0) l HL.out).1)
          have HV0 := Lib.hid hv0
          have HV := Lib.hid (And.intro hv1 (And.intro hv2 (And.intro hv3 hv4)))
          clear hv0 hv1 hv2 hv3 hv4
          have HXS := Lib.hid (show l.take j = l by rw [← HLEN.out, List.take_length])
          have HM4 : Hid (Made w1 b A' c' (foldF k a2 l (wfXs k a0)) wr) := Lib.hid (by have h := HM.out; rw [HXS.out] at h; exact h)
          clear HM HW
          go_wp2_with fail
          refine (load_any b A' c' _ 0 _ HM4.out.mem).mono ?_
          rw [HV0.out]
          rintro e w5 ⟨rfl, hO, hM⟩
          have HM5 := Lib.hid (HM4.out.call hO hM)
          clear hO hM HM4
          have hw0 := HV.out.1
          have hw1 := HV.out.2.1
          have hv3 := HV.out.2.2.1
          have hv4 := HV.out.2.2.2
          go_wp2
          go_roundw
          case rel => exact ⟨i + 1, by omega, by go_num, HM5.out.only⟩
          case measure => simp [intOf]; omega
    · obtain rfl : i = 7 := by omega
      go_wp2_with fail
      refine (awake_any _).mono ?_
      rintro e w9 ⟨rfl, hO⟩
      have HO9 := Lib.hid ((HO.out.trans HOR.out).trans hO)
      clear hO
      go_wp2
      go_ret
      exact ⟨rfl, HO9.out⟩
end Go.Proofs.Ytaeninikaalkjaa
set_option linter.unusedVariables false
set_option linter.unusedSimpArgs false
namespace Go.Proofs.Ytaeninikaalkjaa
open Go.RowKit
def TriesR (k m : Nat) (mode b p q v z : Int) : Prop := ∃ x1 x2 x3 x4 : List Int, aloneL LS.wf m (newR k mode 0 p (wfXs k b)) = (2, x1) ∧ aloneL LS.wf m (newR k mode 0 q x1) = (v, x2) ∧ aloneL LS.wf m (newR k mode 0 z x2) = (2, x3) ∧ (v = 1 → aloneL LS.wf m (newR k mode 0 6 x3) = (2, x4))
theorem run_st {k : Nat} {mode b op : Int} {xs : List Int} (hk : 1 ≤ k ∧ k ≤ 64) {s s' : Nat} {ret : Int} (h : nextS s op = some (ret, s')) (hx : StF k (b % 256) s xs) : ∃ ys, aloneL LS.wf (40 + 8 * k) (newR k mode 0 op xs) = (ret, ys) ∧ StF k (b % 256) s' ys :=
  alone_wfG (mode := mode) chk_n hk (m := 40 + 8 * k) (by omega) h hx
theorem tries_of {k : Nat} {mode b p q v z : Int} (hk : 1 ≤ k ∧ k ≤ 64) {s1 s2 s3 : Nat} (h1 : nextS 0 p = some (2, s1)) (h2 : nextS s1 q = some (v, s2)) (h3 : nextS s2 z = some (2, s3)) (h4 : v = 1 → s3 = 0) : TriesR k (40 + 8 * k) mode b p q v z := by
  obtain ⟨x1, e1, g1⟩ := run_st (mode := mode) hk h1 (stf_first hk.2 b)
  obtain ⟨x2, e2, g2⟩ := run_st (mode := mode) hk h2 g1
  obtain ⟨x3, e3, g3⟩ := run_st (mode := mode) hk h3 g2
  by_cases hv : v = 1
  · have h := h4 hv
    subst h
    obtain ⟨x4, e4, _⟩ := run_st (mode := mode) hk (show nextS 0 6 = some (2, 2) from rfl) g3
    exact ⟨x1, x2, x3, x4, e1, e2, e3, fun _ => e4⟩
  · exact ⟨x1, x2, x3, [], e1, e2, e3, fun h => absurd h hv⟩
theorem tries_ok {k : Nat} {mode b : Int} (hk : 1 ≤ k ∧ k ≤ 64) : TriesR k (40 + 8 * k) mode b 3 5 1 4 ∧ TriesR k (40 + 8 * k) mode b 3 6 1 4 ∧ TriesR k (40 + 8 * k) mode b 1 6 1 2 ∧ TriesR k (40 + 8 * k) mode b 1 5 2 2 :=
  ⟨tries_of hk rfl rfl rfl (fun _ => rfl), tries_of hk rfl rfl rfl (fun _ => rfl), tries_of hk rfl rfl rfl (fun _ => rfl), tries_of hk rfl rfl rfl (fun h => absurd h (by decide))⟩
set_option maxRecDepth 100000 in
set_option maxHeartbeats 2000000 in
theorem walk_wfTries (a0 a1 a2 : Int) (w : World) (h0 : (Lit.int .u32 a0).wf = true) (h1 : (Lit.int .u8 a1).wf = true) (h2 : (Lit.int .i64 a2).wf = true) :
    Calls Try.prog 4 #[.int .u32 a0, .int .u8 a1, .int .i64 a2] w fun e w' => e = .returned (.bool true) ∧ Only Nil w w' := by
  have HBD := Lib.hid (wf_u32 h0)
  obtain ⟨n0, n1⟩ := wf_u8 h1
  obtain ⟨k, hkk⟩ : ∃ k : Nat, 1 + a1 % 64 = (k : Int) := ⟨(1 + a1 % 64).toNat, by omega⟩
  have HK := Lib.hid (show 1 ≤ k ∧ k ≤ 64 by omega)
  have HKK := Lib.hid hkk
  have HR := Lib.hid (Row.new w 38 #[.int .i64 3, .int .i64 5, .int .i64 1, .int .i64 4, .int .i64 3, .int .i64 6, .int .i64 1, .int .i64 4, .int .i64 1, .int .i64 6, .int .i64 1, .int .i64 2, .int .i64 1, .int .i64 5, .int .i64 2, .int .i64 2])
  have HO := Lib.hid ((Only.refl Nil w).alloc (.cells #[.int .i64 3, .int .i64 5, .int .i64 1, .int .i64 4, .int .i64 3, .int .i64 6, .int .i64 1, .int .i64 4, .int .i64 1, .int .i64 6, .int .i64 1, .int .i64 2, .int .i64 1, .int .i64 5, .int .i64 2, .int .i64 2] 38))
  clear h0 h1 h2 hkk
  go_enter Try.func4, Try.ntmps4
  go_upto_region 3 with (fail)
  rw [HKK.out]
  generalize w.alloc (.cells #[.int .i64 3, .int .i64 5, .int .i64 1, .int .i64 4, .int .i64 3, .int .i64 6, .int .i64 1, .int .i64 4, .int .i64 1, .int .i64 6, .int .i64 1, .int .i64 2, .int .i64 1, .int .i64 5, .int .i64 2, .int .i64 2] 38) = w1 at *
  generalize w.heap.size = gL at *
  clear HKK n0 n1
  have hk1 : (1 : Int) ≤ k := by have := HK.out; omega
  have hk2 : (k : Int) ≤ 64 := by have := HK.out; omega
  go_loopw [32] (fun iv wr => ∃ i : Nat, i ≤ 4 ∧ iv = .int .i64 i ∧ Only Nil w1 wr) (fun iv _ => 4 - (intOf iv).toNat)
  case atStart => exact ⟨0, Nat.zero_le _, rfl, Only.refl _ _⟩
  case round =>
    obtain ⟨i, hi, rfl, hOr⟩ := hrel
    have HOR := Lib.hid hOr
    clear hOr
    by_cases hlt : i < 4
    · have h4 : i = 0 ∨ i = 1 ∨ i = 2 ∨ i = 3 := by omega
      have HRR := Lib.hid (HR.out.only HOR.out id)
      have hbT := tries_ok (k := k) (mode := a2) (b := a0) HK.out
      obtain ⟨t1, t2, t3, t4⟩ := hbT
      have T1 := Lib.hid t1
      have T2 := Lib.hid t2
      have T3' := Lib.hid t3
      have T4 := Lib.hid t4
      clear t1 t2 t3 t4
      rcases h4 with rfl | rfl | rfl | rfl
      · have HTR := T1
        rw [show (((0 : Nat) : Int)) = 0 from rfl]
        have c0 : wr.cell? ⟨gL, 0, none⟩ = some (.int .i64 3) := HRR.out.cell_ (i := 0) rfl
        have c1 : wr.cell? ⟨gL, 1, none⟩ = some (.int .i64 5) := HRR.out.cell_ (i := 1) rfl
        have c2 : wr.cell? ⟨gL, 2, none⟩ = some (.int .i64 1) := HRR.out.cell_ (i := 2) rfl
        have c3 : wr.cell? ⟨gL, 3, none⟩ = some (.int .i64 4) := HRR.out.cell_ (i := 3) rfl
        have HX0 := Lib.hid (Row.new wr 38 #[.int .i64 3, .int .i64 5, .int .i64 1, .int .i64 4])
        have HO0 := Lib.hid ((Only.refl Nil wr).alloc (.cells #[.int .i64 3, .int .i64 5, .int .i64 1, .int .i64 4] 38))
        go_upto_region 5 with (fail)
        clear c0 c1 c2 c3
        generalize wr.alloc (.cells #[.int .i64 3, .int .i64 5, .int .i64 1, .int .i64 4] 38) = w2 at *
        generalize wr.heap.size = gx at *
        go_wp2_with fail
        refine (first_wf k a0 _ HK.out HBD.out).mono ?_
        rintro e w3 ⟨gf, rfl, hg, hH, hO⟩
        have HH := Lib.hid hH
        have HO3 := Lib.hid hO
        clear hg hH hO
        go_wp2_with fail
        refine (from_ok _ _ _ _ _ (by omega) HH.out).mono ?_
        rintro e w4 ⟨b, A', c', rfl, hb, hA, hM, hO⟩
        have HM0 : Hid (Made w2 b A' c' (wfXs k a0) w4) := Lib.hid ⟨hM, fun j hj => Nat.le_trans HO3.out.size (hA j hj), HO3.out.trans hO⟩
        have HW0 : Hid (Words (wfXs k a0)) := Lib.hid (wf_words HBD.out.1)
        clear hb hA hM hO HO3 HH
        obtain ⟨x1, x2, x3, x4, t1, t2, t3, t4⟩ := HTR.out
        have HT1 := Lib.hid t1
        have HT2 := Lib.hid t2
        have HT3 := Lib.hid t3
        have HT4 := Lib.hid t4
        clear t1 t2 t3 t4
        have d0 : w4.cell? ⟨gx, 0, none⟩ = some (.int .i64 3) := (HX0.out.only HM0.out.only id).cell_ (i := 0) rfl
        go_wp2_with fail
        clear d0
        rw [show (40 : Int) + 8 * (k : Int) = ((40 + 8 * k : Nat) : Int) by push_cast; rfl]
        refine (alone_any (some ⟨b, 0, none⟩) A' c' k a2 3 (40 + 8 * k) _ _ (Memo.of HM0.out.mem) HW0.out (by omega)).mono ?_
        rw [HT1.out]
        rintro e w5 ⟨nv1, rfl, hO, hM, hW⟩
        have HM1 := Lib.hid (HM0.out.call hO hM.mem)
        have HW1 := Lib.hid hW
        clear hO hM hW HM0 HW0
        have d1 : w5.cell? ⟨gx, 1, none⟩ = some (.int .i64 5) := (HX0.out.only HM1.out.only id).cell_ (i := 1) rfl
        go_wp2_with fail
        clear d1
        rw [show (40 : Int) + 8 * (k : Int) = ((40 + 8 * k : Nat) : Int) by push_cast; rfl]
        refine (alone_any (some ⟨b, 0, none⟩) A' c' k a2 5 (40 + 8 * k) _ _ (Memo.of HM1.out.mem) HW1.out (by omega)).mono ?_
        rw [HT2.out]
        rintro e w6 ⟨nv2, rfl, hO, hM, hW⟩
        have HM2 := Lib.hid (HM1.out.call hO hM.mem)
        have HW2 := Lib.hid hW
        clear hO hM hW HM1 HW1
        have d3 : w6.cell? ⟨gx, 3, none⟩ = some (.int .i64 4) := (HX0.out.only HM2.out.only id).cell_ (i := 3) rfl
        go_wp2_with fail
        clear d3
        rw [show (40 : Int) + 8 * (k : Int) = ((40 + 8 * k : Nat) : Int) by push_cast; rfl]
        refine (alone_any (some ⟨b, 0, none⟩) A' c' k a2 4 (40 + 8 * k) _ _ (Memo.of HM2.out.mem) HW2.out (by omega)).mono ?_
        rw [HT3.out]
        rintro e w7 ⟨nv3, rfl, hO, hM, hW⟩
        have HM3 := Lib.hid (HM2.out.call hO hM.mem)
        have HW3 := Lib.hid hW
        clear hO hM hW HM2 HW2
        have d2 : w7.cell? ⟨gx, 2, none⟩ = some (.int .i64 1) := (HX0.out.only HM3.out.only id).cell_ (i := 2) rfl
        have HT5 := Lib.hid (HT4.out (by first | rfl | trivial))
        go_wp2_with fail
        clear d2
        rw [show (40 : Int) + 8 * (k : Int) = ((40 + 8 * k : Nat) : Int) by push_cast; rfl]
        refine (alone_any (some ⟨b, 0, none⟩) A' c' k a2 6 (40 + 8 * k) _ _ (Memo.of HM3.out.mem) HW3.out (by omega)).mono ?_
        rw [HT5.out]
        rintro e w8 ⟨nv4, rfl, hO, hM, hW⟩
        have HM4 := Lib.hid (HM3.out.call hO hM.mem)
        have HW4 := Lib.hid hW
        clear hO hM hW HM3 HW3
        have HOF := Lib.hid ((HOR.out.trans HO0.out).trans HM4.out.only)
        go_wp2
        go_roundw
        case rel => exact ⟨0 + 1, by omega, rfl, HOF.out⟩
        case measure => simp [intOf]
      · have HTR := T2
        rw [show (((1 : Nat) : Int)) = 1 from rfl]
        have c4 : wr.cell? ⟨gL, 4, none⟩ = some (.int .i64 3) := HRR.out.cell_ (i := 4) rfl
        have c5 : wr.cell? ⟨gL, 5, none⟩ = some (.int .i64 6) := HRR.out.cell_ (i := 5) rfl
        have c6 : wr.cell? ⟨gL, 6, none⟩ = some (.int .i64 1) := HRR.out.cell_ (i := 6) rfl
        have c7 : wr.cell? ⟨gL, 7, none⟩ = some (.int .i64 4) := HRR.out.cell_ (i := 7) rfl
        have HX0 := Lib.hid (Row.new wr 38 #[.int .i64 3, .int .i64 6, .int .i64 1, .int .i64 4])
        have HO0 := Lib.hid ((Only.refl Nil wr).alloc (.cells #[.int .i64 3, .int .i64 6, .int .i64 1, .int .i64 4] 38))
        go_upto_region 5 with (fail)
        clear c4 c5 c6 c7
        generalize wr.alloc (.cells #[.int .i64 3, .int .i64 6, .int .i64 1, .int .i64 4] 38) = w2 at *
        generalize wr.heap.size = gx at *
        go_wp2_with fail
        refine (first_wf k a0 _ HK.out HBD.out).mono ?_
        rintro e w3 ⟨gf, rfl, hg, hH, hO⟩
        have HH := Lib.hid hH
        have HO3 := Lib.hid hO
        clear hg hH hO
        go_wp2_with fail
        refine (from_ok _ _ _ _ _ (by omega) HH.out).mono ?_
        rintro e w4 ⟨b, A', c', rfl, hb, hA, hM, hO⟩
        have HM0 : Hid (Made w2 b A' c' (wfXs k a0) w4) := Lib.hid ⟨hM, fun j hj => Nat.le_trans HO3.out.size (hA j hj), HO3.out.trans hO⟩
        have HW0 : Hid (Words (wfXs k a0)) := Lib.hid (wf_words HBD.out.1)
        clear hb hA hM hO HO3 HH
        obtain ⟨x1, x2, x3, x4, t1, t2, t3, t4⟩ := HTR.out
        have HT1 := Lib.hid t1
        have HT2 := Lib.hid t2
        have HT3 := Lib.hid t3
        have HT4 := Lib.hid t4
        clear t1 t2 t3 t4
        have d0 : w4.cell? ⟨gx, 0, none⟩ = some (.int .i64 3) := (HX0.out.only HM0.out.only id).cell_ (i := 0) rfl
        go_wp2_with fail
        clear d0
        rw [show (40 : Int) + 8 * (k : Int) = ((40 + 8 * k : Nat) : Int) by push_cast; rfl]
        refine (alone_any (some ⟨b, 0, none⟩) A' c' k a2 3 (40 + 8 * k) _ _ (Memo.of HM0.out.mem) HW0.out (by omega)).mono ?_
        rw [HT1.out]
        rintro e w5 ⟨nv1, rfl, hO, hM, hW⟩
        have HM1 := Lib.hid (HM0.out.call hO hM.mem)
        have HW1 := Lib.hid hW
        clear hO hM hW HM0 HW0
        have d1 : w5.cell? ⟨gx, 1, none⟩ = some (.int .i64 6) := (HX0.out.only HM1.out.only id).cell_ (i := 1) rfl
        go_wp2_with fail
        clear d1
        rw [show (40 : Int) + 8 * (k : Int) = ((40 + 8 * k : Nat) : Int) by push_cast; rfl]
        refine (alone_any (some ⟨b, 0, none⟩) A' c' k a2 6 (40 + 8 * k) _ _ (Memo.of HM1.out.mem) HW1.out (by omega)).mono ?_
        rw [HT2.out]
        rintro e w6 ⟨nv2, rfl, hO, hM, hW⟩
        have HM2 := Lib.hid (HM1.out.call hO hM.mem)
        have HW2 := Lib.hid hW
        clear hO hM hW HM1 HW1
        have d3 : w6.cell? ⟨gx, 3, none⟩ = some (.int .i64 4) := (HX0.out.only HM2.out.only id).cell_ (i := 3) rfl
        go_wp2_with fail
        clear d3
        rw [show (40 : Int) + 8 * (k : Int) = ((40 + 8 * k : Nat) : Int) by push_cast; rfl]
        refine (alone_any (some ⟨b, 0, none⟩) A' c' k a2 4 (40 + 8 * k) _ _ (Memo.of HM2.out.mem) HW2.out (by omega)).mono ?_
        rw [HT3.out]
        rintro e w7 ⟨nv3, rfl, hO, hM, hW⟩
        have HM3 := Lib.hid (HM2.out.call hO hM.mem)
        have HW3 := Lib.hid hW
        clear hO hM hW HM2 HW2
        have d2 : w7.cell? ⟨gx, 2, none⟩ = some (.int .i64 1) := (HX0.out.only HM3.out.only id).cell_ (i := 2) rfl
        have HT5 := Lib.hid (HT4.out (by first | rfl | trivial))
        go_wp2_with fail
        clear d2
        rw [show (40 : Int) + 8 * (k : Int) = ((40 + 8 * k : Nat) : Int) by push_cast; rfl]
        refine (alone_any (some ⟨b, 0, none⟩) A' c' k a2 6 (40 + 8 * k) _ _ (Memo.of HM3.out.mem) HW3.out (by omega)).mono ?_
        rw [HT5.out]
        rintro e w8 ⟨nv4, rfl, hO, hM, hW⟩
        have HM4 := Lib.hid (HM3.out.call hO hM.mem)
        have HW4 := Lib.hid hW
        clear hO hM hW HM3 HW3
        have HOF := Lib.hid ((HOR.out.trans HO0.out).trans HM4.out.only)
        go_wp2
        go_roundw
        case rel => exact ⟨1 + 1, by omega, rfl, HOF.out⟩
        case measure => simp [intOf]
      · have HTR := T3'
        rw [show (((2 : Nat) : Int)) = 2 from rfl]
        have c8 : wr.cell? ⟨gL, 8, none⟩ = some (.int .i64 1) := HRR.out.cell_ (i := 8) rfl
        have c9 : wr.cell? ⟨gL, 9, none⟩ = some (.int .i64 6) := HRR.out.cell_ (i := 9) rfl
        have c10 : wr.cell? ⟨gL, 10, none⟩ = some (.int .i64 1) := HRR.out.cell_ (i := 10) rfl
        have c11 : wr.cell? ⟨gL, 11, none⟩ = some (.int .i64 2) := HRR.out.cell_ (i := 11) rfl
        have HX0 := Lib.hid (Row.new wr 38 #[.int .i64 1, .int .i64 6, .int .i64 1, .int .i64 2])
        have HO0 := Lib.hid ((Only.refl Nil wr).alloc (.cells #[.int .i64 1, .int .i64 6, .int .i64 1, .int .i64 2] 38))
        go_upto_region 5 with (fail)
        clear c8 c9 c10 c11
        generalize wr.alloc (.cells #[.int .i64 1, .int .i64 6, .int .i64 1, .int .i64 2] 38) = w2 at *
        generalize wr.heap.size = gx at *
        go_wp2_with fail
        refine (first_wf k a0 _ HK.out HBD.out).mono ?_
        rintro e w3 ⟨gf, rfl, hg, hH, hO⟩
        have HH := Lib.hid hH
        have HO3 := Lib.hid hO
        clear hg hH hO
        go_wp2_with fail
        refine (from_ok _ _ _ _ _ (by omega) HH.out).mono ?_
        rintro e w4 ⟨b, A', c', rfl, hb, hA, hM, hO⟩
        have HM0 : Hid (Made w2 b A' c' (wfXs k a0) w4) := Lib.hid ⟨hM, fun j hj => Nat.le_trans HO3.out.size (hA j hj), HO3.out.trans hO⟩
        have HW0 : Hid (Words (wfXs k a0)) := Lib.hid (wf_words HBD.out.1)
        clear hb hA hM hO HO3 HH
        obtain ⟨x1, x2, x3, x4, t1, t2, t3, t4⟩ := HTR.out
        have HT1 := Lib.hid t1
        have HT2 := Lib.hid t2
        have HT3 := Lib.hid t3
        have HT4 := Lib.hid t4
        clear t1 t2 t3 t4
        have d0 : w4.cell? ⟨gx, 0, none⟩ = some (.int .i64 1) := (HX0.out.only HM0.out.only id).cell_ (i := 0) rfl
        go_wp2_with fail
        clear d0
        rw [show (40 : Int) + 8 * (k : Int) = ((40 + 8 * k : Nat) : Int) by push_cast; rfl]
        refine (alone_any (some ⟨b, 0, none⟩) A' c' k a2 1 (40 + 8 * k) _ _ (Memo.of HM0.out.mem) HW0.out (by omega)).mono ?_
        rw [HT1.out]
        rintro e w5 ⟨nv1, rfl, hO, hM, hW⟩
        have HM1 := Lib.hid (HM0.out.call hO hM.mem)
        have HW1 := Lib.hid hW
        clear hO hM hW HM0 HW0
        have d1 : w5.cell? ⟨gx, 1, none⟩ = some (.int .i64 6) := (HX0.out.only HM1.out.only id).cell_ (i := 1) rfl
        go_wp2_with fail
        clear d1
        rw [show (40 : Int) + 8 * (k : Int) = ((40 + 8 * k : Nat) : Int) by push_cast; rfl]
        refine (alone_any (some ⟨b, 0, none⟩) A' c' k a2 6 (40 + 8 * k) _ _ (Memo.of HM1.out.mem) HW1.out (by omega)).mono ?_
        rw [HT2.out]
        rintro e w6 ⟨nv2, rfl, hO, hM, hW⟩
        have HM2 := Lib.hid (HM1.out.call hO hM.mem)
        have HW2 := Lib.hid hW
        clear hO hM hW HM1 HW1
        have d3 : w6.cell? ⟨gx, 3, none⟩ = some (.int .i64 2) := (HX0.out.only HM2.out.only id).cell_ (i := 3) rfl
        go_wp2_with fail
        clear d3
        rw [show (40 : Int) + 8 * (k : Int) = ((40 + 8 * k : Nat) : Int) by push_cast; rfl]
        refine (alone_any (some ⟨b, 0, none⟩) A' c' k a2 2 (40 + 8 * k) _ _ (Memo.of HM2.out.mem) HW2.out (by omega)).mono ?_
        rw [HT3.out]
        rintro e w7 ⟨nv3, rfl, hO, hM, hW⟩
        have HM3 := Lib.hid (HM2.out.call hO hM.mem)
        have HW3 := Lib.hid hW
        clear hO hM hW HM2 HW2
        have d2 : w7.cell? ⟨gx, 2, none⟩ = some (.int .i64 1) := (HX0.out.only HM3.out.only id).cell_ (i := 2) rfl
        have HT5 := Lib.hid (HT4.out (by first | rfl | trivial))
        go_wp2_with fail
        clear d2
        rw [show (40 : Int) + 8 * (k : Int) = ((40 + 8 * k : Nat) : Int) by push_cast; rfl]
        refine (alone_any (some ⟨b, 0, none⟩) A' c' k a2 6 (40 + 8 * k) _ _ (Memo.of HM3.out.mem) HW3.out (by omega)).mono ?_
        rw [HT5.out]
        rintro e w8 ⟨nv4, rfl, hO, hM, hW⟩
        have HM4 := Lib.hid (HM3.out.call hO hM.mem)
        have HW4 := Lib.hid hW
        clear hO hM hW HM3 HW3
        have HOF := Lib.hid ((HOR.out.trans HO0.out).trans HM4.out.only)
        go_wp2
        go_roundw
        case rel => exact ⟨2 + 1, by omega, rfl, HOF.out⟩
        case measure => simp [intOf]
      · have HTR := T4
        rw [show (((3 : Nat) : Int)) = 3 from rfl]
        have c12 : wr.cell? ⟨gL, 12, none⟩ = some (.int .i64 1) := HRR.out.cell_ (i := 12) rfl
        have c13 : wr.cell? ⟨gL, 13, none⟩ = some (.int .i64 5) := HRR.out.cell_ (i := 13) rfl
        have c14 : wr.cell? ⟨gL, 14, none⟩ = some (.int .i64 2) := HRR.out.cell_ (i := 14) rfl
        have c15 : wr.cell? ⟨gL, 15, none⟩ = some (.int .i64 2) := HRR.out.cell_ (i := 15) rfl
        have HX0 := Lib.hid (Row.new wr 38 #[.int .i64 1, .int .i64 5, .int .i64 2, .int .i64 2])
        have HO0 := Lib.hid ((Only.refl Nil wr).alloc (.cells #[.int .i64 1, .int .i64 5, .int .i64 2, .int .i64 2] 38))
        go_upto_region 5 with (fail)
        clear c12 c13 c14 c15
        generalize wr.alloc (.cells #[.int .i64 1, .int .i64 5, .int .i64 2, .int .i64 2] 38) = w2 at *
        generalize wr.heap.size = gx at *
        go_wp2_with fail
        refine (first_wf k a0 _ HK.out HBD.out).mono ?_
        rintro e w3 ⟨gf, rfl, hg, hH, hO⟩
        have HH := Lib.hid hH
        have HO3 := Lib.hid hO
        clear hg hH hO
        go_wp2_with fail
        refine (from_ok _ _ _ _ _ (by omega) HH.out).mono ?_
        rintro e w4 ⟨b, A', c', rfl, hb, hA, hM, hO⟩
        have HM0 : Hid (Made w2 b A' c' (wfXs k a0) w4) := Lib.hid ⟨hM, fun j hj => Nat.le_trans HO3.out.size (hA j hj), HO3.out.trans hO⟩
        have HW0 : Hid (Words (wfXs k a0)) := Lib.hid (wf_words HBD.out.1)
        clear hb hA hM hO HO3 HH
        obtain ⟨x1, x2, x3, x4, t1, t2, t3, t4⟩ := HTR.out
        have HT1 := Lib.hid t1
        have HT2 := Lib.hid t2
        have HT3 := Lib.hid t3
        have HT4 := Lib.hid t4
        clear t1 t2 t3 t4
        have d0 : w4.cell? ⟨gx, 0, none⟩ = some (.int .i64 1) := (HX0.out.only HM0.out.only id).cell_ (i := 0) rfl
        go_wp2_with fail
        clear d0
        rw [show (40 : Int) + 8 * (k : Int) = ((40 + 8 * k : Nat) : Int) by push_cast; rfl]
        refine (alone_any (some ⟨b, 0, none⟩) A' c' k a2 1 (40 + 8 * k) _ _ (Memo.of HM0.out.mem) HW0.out (by omega)).mono ?_
        rw [HT1.out]
        rintro e w5 ⟨nv1, rfl, hO, hM, hW⟩
        have HM1 := Lib.hid (HM0.out.call hO hM.mem)
        have HW1 := Lib.hid hW
        clear hO hM hW HM0 HW0
        have d1 : w5.cell? ⟨gx, 1, none⟩ = some (.int .i64 5) := (HX0.out.only HM1.out.only id).cell_ (i := 1) rfl
        go_wp2_with fail
        clear d1
        rw [show (40 : Int) + 8 * (k : Int) = ((40 + 8 * k : Nat) : Int) by push_cast; rfl]
        refine (alone_any (some ⟨b, 0, none⟩) A' c' k a2 5 (40 + 8 * k) _ _ (Memo.of HM1.out.mem) HW1.out (by omega)).mono ?_
        rw [HT2.out]
        rintro e w6 ⟨nv2, rfl, hO, hM, hW⟩
        have HM2 := Lib.hid (HM1.out.call hO hM.mem)
        have HW2 := Lib.hid hW
        clear hO hM hW HM1 HW1
        have d3 : w6.cell? ⟨gx, 3, none⟩ = some (.int .i64 2) := (HX0.out.only HM2.out.only id).cell_ (i := 3) rfl
        go_wp2_with fail
        clear d3
        rw [show (40 : Int) + 8 * (k : Int) = ((40 + 8 * k : Nat) : Int) by push_cast; rfl]
        refine (alone_any (some ⟨b, 0, none⟩) A' c' k a2 2 (40 + 8 * k) _ _ (Memo.of HM2.out.mem) HW2.out (by omega)).mono ?_
        rw [HT3.out]
        rintro e w7 ⟨nv3, rfl, hO, hM, hW⟩
        have HM3 := Lib.hid (HM2.out.call hO hM.mem)
        have HW3 := Lib.hid hW
        clear hO hM hW HM2 HW2
        have d2 : w7.cell? ⟨gx, 2, none⟩ = some (.int .i64 2) := (HX0.out.only HM3.out.only id).cell_ (i := 2) rfl
        have HOF := Lib.hid ((HOR.out.trans HO0.out).trans HM3.out.only)
        go_wp2
        go_roundw
        case rel => exact ⟨3 + 1, by omega, rfl, HOF.out⟩
        case measure => simp [intOf]
    · obtain rfl : i = 4 := by omega
      go_wp2_with fail
      refine (awake_any _).mono ?_
      rintro e w9 ⟨rfl, hO⟩
      have HO9 := Lib.hid ((HO.out.trans HOR.out).trans hO)
      clear hO
      go_wp2
      go_ret
      exact ⟨rfl, HO9.out⟩
end Go.Proofs.Ytaeninikaalkjaa
