import Derived.Test.YtkkldcggbekleaaG27
import Derived.Test.YtkkldcggbekleaaG28
import Derived.Test.YtkkldcggbekleaaG30
set_option linter.unusedVariables false
set_option linter.unusedSimpArgs false
namespace Go.Proofs.Ytkkldcggbekleaa
open Go.RowKit
theorem fq_first0 {k : Nat} (hk : 1 ≤ k ∧ k ≤ 64) (mode : Int) : FqInv k mode ⟨fun i => newR k mode i 0 (fqXs k), fun _ => 0, fqXs k⟩ := fq_first hk mode (fq_len k) (fq_zero k)
def Rnd (k : Nat) (mode : Int) (j : Nat) (m : MV) : Prop := FqInv k mode m ∧ (AtRest k m ∨ FQ (worthQ k) k m + j ≤ k * (20 * k + 26))
set_option maxRecDepth 100000 in
set_option maxHeartbeats 4000000 in
theorem walk_fqExcludes (a0 a1 a2 : Int) (A0 : Option Addr) (len0 cap0 : Nat) (w : World) (h0 : (Lit.int .u8 a0).wf = true) (h1 : (Lit.int .u8 a1).wf = true) (h2 : (Lit.int .u32 a2).wf = true) (h3 : IsTurns w A0 len0) :
    Calls Try.prog 5 #[.int .u8 a0, .int .u8 a1, .int .u32 a2, .slice A0 len0 cap0] w fun e w' => e = .returned (.bool true) ∧ Only Nil w w' := by
  have HBD := Lib.hid (wf_u32 h2)
  obtain ⟨n0, n1⟩ := wf_u8 h0
  obtain ⟨n2, n3⟩ := wf_u8 h1
  have HT := Lib.hid h3
  obtain ⟨k, hkk⟩ : ∃ k : Nat, 1 + a0 % 6 = (k : Int) := ⟨(1 + a0 % 6).toNat, by omega⟩
  obtain ⟨mode, hmm⟩ : ∃ mode : Int, 1 + a1 % 2 = mode := ⟨_, rfl⟩
  have HK := Lib.hid (show 1 ≤ k ∧ k ≤ 6 by omega)
  have HKK := Lib.hid hkk
  have HMM := Lib.hid hmm
  clear h0 h1 h2 h3 hkk hmm
  go_enter Try.func5, Try.ntmps5
  go_wp2_with fail
  rw [HKK.out, HMM.out]
  refine (begun_any k mode a2 _ (by have := HK.out; omega) HBD.out).mono ?_
  have HFST := Lib.hid (fq_first0 (k := k) (by have := HK.out; omega) mode)
  generalize hm0 : (⟨fun i => newR k mode i 0 (fqXs k), fun _ => 0, fqXs k⟩ : MV) = m0 at *
  clear hm0
  rintro e w1 ⟨X, GL, GH, B, p, A, cp, rfl, hM⟩
  have HM1 := Lib.hid hM
  clear hM n0 n1 n2 n3
  have hk1 : (1 : Int) ≤ k := by have := HK.out; omega
  have hk2 : (k : Int) ≤ 6 := by have := HK.out; omega
  by_cases hlen : len0 ≤ 500
  · have hl500 : ¬ (500 : Int) < len0 := by omega
    go_wp2_with fail
    clear hl500
    go_loopw [11] (fun iv wr => ∃ i : Nat, i ≤ len0 ∧ iv = .int .i64 i ∧ ∃ m, MatchP [] w X GL GH B p A cp k m wr ∧ FqInv k mode m) (fun iv _ => len0 - (intOf iv).toNat)
    case atStart => exact ⟨0, Nat.zero_le _, rfl, m0, HM1.out, HFST.out⟩
    case round =>
      obtain ⟨i, hi, rfl, m, hM, hI⟩ := hrel
      clear HM1 HFST
      have HM := Lib.hid hM
      have HI := Lib.hid hI
      clear hM hI
      by_cases hlt : i < len0
      · have hlt' : (i : Int) < len0 := by omega
        obtain ⟨bt, q, va, vc, rfl, hb, hc0, hc1, hva, hvc⟩ := HT.out i hlt
        have c0 : wr.cell? ⟨bt, q + i * 2, none⟩ = some (.int .u8 va) := (HM.out.only.cell (p := ⟨bt, q + i * 2, none⟩) hb id).trans hc0
        have c1 : wr.cell? ⟨bt, q + i * 2 + 1, none⟩ = some (.int .u8 vc) := (HM.out.only.cell (p := ⟨bt, q + i * 2 + 1, none⟩) hb id).trans hc1
        clear hb hc0 hc1
        obtain ⟨hv0, hv1⟩ := hva
        obtain ⟨hw0, hw1⟩ := hvc
        obtain ⟨t, htt⟩ : ∃ t : Nat, va % (k : Int) = (t : Int) := ⟨(va % (k : Int)).toNat, by have := Int.emod_nonneg va (show (k : Int) ≠ 0 by omega); omega⟩
        have HTK := Lib.hid (show t < k by have := Int.emod_lt_of_pos va (show (0 : Int) < k by omega); omega)
        have hkn : ¬ (k : Int) = 0 := by omega
        have htm : va.tmod (k : Int) = (t : Int) := by rw [Int.tmod_eq_emod_of_nonneg hv0]; exact htt
        have htw : IntKind.i64.wrap (t : Int) = (t : Int) := IntWalk.i64_in _ (by have := HTK.out; omega)
        have hqw : IntKind.i64.wrap (va.tdiv (k : Int)) = va.tdiv (k : Int) := IntWalk.i64_in _ (by have := Int.tdiv_nonneg hv0 (show (0 : Int) ≤ k by omega); have := Int.tdiv_le_self (k : Int) hv0; omega)
        clear htt
        have hvaw : IntKind.i64.wrap va = va := IntWalk.i64_in _ (by omega)
        have hvcw : IntKind.i64.wrap vc = vc := IntWalk.i64_in _ (by omega)
        have hkn2 : ¬ k = 0 := by omega
        have ht9 : vc.tmod 9 = vc % 9 := Int.tmod_eq_emod_of_nonneg hw0
        go_upto_region 10 with (fail)
        refine wp_region_phase (n := 17) 16 (fun w => w.cell? ⟨bt, q + i * 2, none⟩ = some (.int .u8 va) ∧ w.cell? ⟨bt, q + i * 2 + 1, none⟩ = some (.int .u8 vc)) rfl (by kernel_rfl) ⟨c0, c1⟩ (fun hHeld => ?_)
        have HM2 := Lib.hid (HM.out.keep (Only.refl Nil wr).drew)
        clear c0 c1 HM
        generalize wr.drew = w2 at *
        refine mpa 0 rfl (Value.pointer (some ⟨X, 0, none⟩)) (fun w => ?_) ?_
        · go_simp
        (try simp only [Act.put, k1, k2, k3])
        refine mpa 1 rfl (.slice (some ⟨bt, q, none⟩) len0 cap0) (fun w => ?_) ?_
        · go_simp
        (try simp only [Act.put, k1, k2, k3])
        refine mpa 2 rfl (.int .i64 i) (fun w => ?_) ?_
        · go_simp
        (try simp only [Act.put, k1, k2, k3])
        refine mpa 3 rfl (.pointer (some ⟨bt, q + i * 2, none⟩)) (fun w => ?_) ?_
        · go_simp
        (try simp only [Act.put, k1, k2, k3])
        refine mpa 4 rfl (.pointer (some ⟨bt, q + i * 2, none⟩)) (fun w => ?_) ?_
        · go_simp
        (try simp only [Act.put, k1, k2, k3])
        refine mpt 5 rfl (.int .u8 va) (fun w hSw => ?_) ?_
        · (try dsimp only at hSw)
          go_split_ands
          go_simp
        (try simp only [Act.put, k1, k2, k3])
        refine mpa 6 rfl (.int .i64 va) (fun w => ?_) ?_
        · go_simp
        (try simp only [Act.put, k1, k2, k3])
        refine mpa 7 rfl (.int .i64 k) (fun w => ?_) ?_
        · go_simp
        (try simp only [Act.put, k1, k2, k3])
        refine mpa 8 rfl (.int .i64 t) (fun w => ?_) ?_
        · go_simp
        (try simp only [Act.put, k1, k2, k3])
        refine mpa 9 rfl (.slice (some ⟨bt, q, none⟩) len0 cap0) (fun w => ?_) ?_
        · go_simp
        (try simp only [Act.put, k1, k2, k3])
        refine mpa 10 rfl (.int .i64 i) (fun w => ?_) ?_
        · go_simp
        (try simp only [Act.put, k1, k2, k3])
        refine mpa 11 rfl (.pointer (some ⟨bt, q + i * 2, none⟩)) (fun w => ?_) ?_
        · go_simp
        (try simp only [Act.put, k1, k2, k3])
        refine mpa 12 rfl (.pointer (some ⟨bt, q + i * 2 + 1, none⟩)) (fun w => ?_) ?_
        · go_simp
        (try simp only [Act.put, k1, k2, k3])
        refine mpt 13 rfl (.int .u8 vc) (fun w hSw => ?_) ?_
        · (try dsimp only at hSw)
          go_split_ands
          go_simp
        (try simp only [Act.put, k1, k2, k3])
        refine mpa 14 rfl (.int .i64 vc) (fun w => ?_) ?_
        · go_simp
        (try simp only [Act.put, k1, k2, k3])
        refine mpa 15 rfl (.int .i64 (vc % 9)) (fun w => ?_) ?_
        · go_simp
        (try simp only [Act.put, k1, k2, k3])
        refine mpc 16 rfl (by kernel_rfl) (by rfl) (fun K hK => ?_)
        go_simp
        refine (play_any [] w X GL GH B p A cp k m t (vc % 9) _ HM2.out HTK.out).mono ?_
        rintro e w3 ⟨rfl, hM⟩
        have HM3 := Lib.hid hM
        have HI3 := Lib.hid ((fq_ok (by have := HK.out; omega) mode 1).play (p := 0) HI.out (by omega) HTK.out (vc % 9))
        clear hM HI
        generalize playI LS.fq m t (vc % 9) = m3 at *
        refine hK.out _ _ (.inl (by kernel_rfl)) ?_
        clear hK K hHeld HM2 htm htw hqw hkn hv0 hv1 hw0 hw1 hvaw hvcw hkn2 ht9
        (try simp only [Act.put, k1, k2, k3])
        refine wpAnyP_done (by kernel_rfl) ?_ _
        go_wp2_with fail
        refine (many_any [] w X GL GH B p A cp k m3 2 _ HM3.out (by have := HK.out; omega)).mono ?_
        have hex := excl_many (m := m3) (k := k) (fun t ht h2 i hi hn => fq_alone HI3.out ht h2 i hi hn)
        rcases hex with hex | ⟨hex, hex2⟩
        · rw [hex, show ((0 : Nat) : Int) = 0 from rfl]
          rintro e w4 ⟨rfl, rfl⟩
          clear hex
          go_wp2
          go_roundw
          case rel => exact ⟨i + 1, by omega, by go_num, m3, HM3.out, HI3.out⟩
          case measure => simp [intOf]; omega
        · have HEX2 := Lib.hid hex2
          rw [hex, show ((1 : Nat) : Int) = 1 from rfl]
          rintro e w4 ⟨rfl, rfl⟩
          clear hex hex2
          go_wp2_with fail
          refine (many_any [] w X GL GH B p A cp k m3 1 _ HM3.out (by have := HK.out; omega)).mono ?_
          rw [HEX2.out, show ((0 : Nat) : Int) = 0 from rfl]
          rintro e w5 ⟨rfl, rfl⟩
          go_wp2
          go_roundw
          case rel => exact ⟨i + 1, by omega, by go_num, m3, HM3.out, HI3.out⟩
          case measure => simp [intOf]; omega
      · obtain rfl : i = len0 := by omega
        have HR0 : Hid (Rnd k mode 0 m) := Lib.hid ⟨HI.out, .inr (by rw [Nat.add_zero]; exact fq_bound HI.out)⟩
        clear HI
        obtain ⟨N, hN⟩ : ∃ N : Nat, 2 * k * (8 * k + 40) = N := ⟨_, rfl⟩
        have hN0 : k * (20 * k + 26) < N := by
          rw [← hN, Nat.mul_comm 2 k, Nat.mul_assoc]
          exact Nat.mul_lt_mul_of_pos_left (by have := HK.out; omega) (by have := HK.out; omega)
        have hN1 : N ≤ 1056 := by
          rw [← hN]
          exact Nat.le_trans (Nat.mul_le_mul (show 2 * k ≤ 12 by have := HK.out; omega) (show 8 * k + 40 ≤ 88 by have := HK.out; omega)) (by decide)
        have hNI : 2 * (k : Int) * (8 * (k : Int) + 40) = (N : Int) := by rw [← hN]; push_cast; rfl
        have hNI2 : IntKind.i64.wrap (2 * (k : Int) * (8 * (k : Int) + 40)) = (N : Int) := by rw [hNI]; exact IntWalk.i64_in _ (by omega)
        have HN0 := Lib.hid hN0
        have HN1 := Lib.hid hN1
        have HNI := Lib.hid (And.intro hNI hNI2)
        clear hN hN0 hN1 hNI hNI2
        go_wp2_with fail
        go_loopw [13] (fun jv wq => ∃ j : Nat, j ≤ N ∧ jv = .int .i64 j ∧ ∃ m, MatchP [] w X GL GH B p A cp k m wq ∧ Rnd k mode j m) (fun jv _ => N - (intOf jv).toNat)
        case atStart => exact ⟨0, Nat.zero_le _, rfl, m, HM.out, HR0.out⟩
        case round =>
          obtain ⟨j, hj, rfl, m, hM, hR⟩ := hrel
          clear HM HR0
          have HM := Lib.hid hM
          have HR := Lib.hid hR
          clear hM hR
          obtain ⟨hNI, hNI2⟩ := HNI.out
          have hN1 := HN1.out
          by_cases hlt : j < N
          · have hlt' : (j : Int) < N := by omega
            go_wp2_with fail
            clear hlt' hNI hNI2
            go_loopw [14] (fun tv wq => ∃ t : Nat, t ≤ k ∧ tv = .int .i64 t ∧ MatchP [] w X GL GH B p A cp k (roundN LS.fq m t) wq) (fun tv _ => k - (intOf tv).toNat)
            case atStart => exact ⟨0, Nat.zero_le _, rfl, HM.out⟩
            case round =>
              obtain ⟨t, ht, rfl, hM⟩ := hrel
              clear HM
              have HM := Lib.hid hM
              clear hM
              by_cases hlt : t < k
              · have hlt' : (t : Int) < k := by omega
                have HIt := Lib.hid (((fq_ok (by have := HK.out; omega) mode k).round (p := 0) HR.out.1 (by omega) t (by omega)).1)
                obtain ⟨cl, hx0⟩ := HM.out.x
                obtain ⟨csh, hh0, hh1⟩ := HM.out.h
                have x1 : wr.cell? ⟨X, 1, none⟩ = some (.slice (some ⟨GH, 0, none⟩) k k) := hx0.cell_ (i := 1) rfl
                have gh : wr.cell? ⟨GH, t, none⟩ = some (.int .i64 ((roundN LS.fq m t).hold t)) := hh0.cell_ (hh1 t hlt)
                clear hx0 hh0 hh1
                have HNX := Lib.hid (show roundN LS.fq m (t + 1) = playI LS.fq (roundN LS.fq m t) t (2 * (roundN LS.fq m t).hold t) from rfl)
                have hhv := (fq_ok (k := k) (by have := HK.out; omega) mode k).holds 0 _ HIt.out t hlt
                generalize hmt : roundN LS.fq m t = mt at *
                generalize hhd : mt.hold t = hd at *
                have hd0 : 0 ≤ hd ∧ hd ≤ 2 := by omega
                obtain ⟨hd1, hd2⟩ := hd0
                have HHD := Lib.hid hhd
                clear hmt hhv hhd
                go_wp2_with fail
                clear x1 gh hlt'
                refine (play_any [] w X GL GH B p A cp k mt t (2 * hd) _ HM.out hlt).mono ?_
                rintro e w5 ⟨rfl, hM⟩
                have HM5 := Lib.hid (show MatchP [] w X GL GH B p A cp k (roundN LS.fq m (t + 1)) w5 by rw [HNX.out]; exact hM)
                clear hM HM hd1 hd2
                go_wp2
                go_roundw
                case rel => exact ⟨t + 1, by omega, by go_num, HM5.out⟩
                case measure => simp [intOf]; omega
              · obtain rfl : t = k := by omega
                have HW := Lib.hid ((fq_ok (k := t) (by have := HK.out; omega) mode t).whole (p := 0) HR.out.1 (by omega) HR.out.2)
                have HR2 : Hid (Rnd t mode (j + 1) (roundN LS.fq m t)) := Lib.hid ⟨HW.out.1, HW.out.2⟩
                go_wp2
                go_roundw
                case rel => exact ⟨j + 1, by omega, by go_num, _, HM.out, HR2.out⟩
                case measure => simp [intOf]; omega
          · obtain rfl : j = N := by omega
            have HD : Hid (AtRest k m) := Lib.hid (by
              rcases HR.out.2 with e | e
              · exact e
              · have := HN0.out; omega)
            go_wp2_with fail
            clear hNI hNI2
            go_loopw [15] (fun tv wq => ∃ t : Nat, t ≤ k ∧ tv = .int .i64 t ∧ MatchP [] w X GL GH B p A cp k m wq) (fun tv _ => k - (intOf tv).toNat)
            case atStart => exact ⟨0, Nat.zero_le _, rfl, HM.out⟩
            case round =>
              obtain ⟨t, ht, rfl, hM⟩ := hrel
              clear HM
              have HM := Lib.hid hM
              clear hM
              by_cases hlt : t < k
              · have hlt' : (t : Int) < k := by omega
                obtain ⟨d1, d2⟩ := HD.out t hlt
                obtain ⟨b, hb⟩ : ∃ b, B t = b := ⟨_, rfl⟩
                obtain ⟨cl, hx0⟩ := HM.out.x
                obtain ⟨csl, hl0, hl1⟩ := HM.out.l
                obtain ⟨csh, hh0, hh1⟩ := HM.out.h
                obtain ⟨nv, hq⟩ := HM.out.run t hlt
                have x0 : wr.cell? ⟨X, 0, none⟩ = some (.slice (some ⟨GL, 0, none⟩) k cl) := hx0.cell_ (i := 0) rfl
                have x1 : wr.cell? ⟨X, 1, none⟩ = some (.slice (some ⟨GH, 0, none⟩) k k) := hx0.cell_ (i := 1) rfl
                have gl : wr.cell? ⟨GL, t, none⟩ = some (.pointer (some ⟨b, 0, none⟩)) := by have e := hl0.cell_ (hl1 t hlt); rw [hb] at e; exact e
                have gh : wr.cell? ⟨GH, t, none⟩ = some (.int .i64 0) := by have e := hh0.cell_ (hh1 t hlt); rw [d2] at e; exact e
                have c4 : wr.cell? ⟨b, 4, none⟩ = some (.int .i64 0) := by
                  rw [hb] at hq
                  have e : wr.cell? ⟨b, 4, none⟩ = some (.int .i64 (m.at t).op) := hq.row.cell_ (i := 4) rfl
                  rw [show (m.at t).op = 0 from d1] at e; exact e
                clear hx0 hl0 hl1 hh0 hh1 hq d1 d2
                go_wp2
                clear x0 x1 gl gh c4
                go_roundw
                case rel => exact ⟨t + 1, by omega, by go_num, HM.out⟩
                case measure => simp [intOf]; omega
              · obtain rfl : t = k := by omega
                go_wp2_with fail
                refine (awake_any _).mono ?_
                rintro e w9 ⟨rfl, hO⟩
                have HO9 := Lib.hid (HM.out.only.trans hO)
                clear hO
                go_wp2
                go_ret
                exact ⟨rfl, HO9.out⟩
  · have hl500 : (500 : Int) < len0 := by omega
    go_wp2_with fail
    refine (awake_any _).mono ?_
    rintro e w9 ⟨rfl, hO⟩
    have HO9 := Lib.hid (HM1.out.only.trans hO)
    clear hO
    go_wp2
    go_ret
    exact ⟨rfl, HO9.out⟩
end Go.Proofs.Ytkkldcggbekleaa
