/- Accesses read from texts: the answer's, kind 0. -/
import Derived.Test.YtlccmhlbkgojlaaDoorRefSt
namespace Go.Proofs.YtlccmhlbkgojlaaDoor
open Go.RowKit
set_option linter.unusedVariables false
set_option linter.unusedSimpArgs false
set_option maxHeartbeats 4000000 in
set_option maxRecDepth 100000 in
theorem parse_ref0 (s : ByteArray) (w : World) (hs : s.size ≤ 900) (W0 : Bs) (hw0 : (cut s.data.toList)[0]? = some W0) (hkk : kindL W0 = 0) : Calls Tryd.prog 13 #[.string s] w fun e w' => ParsedAs s.data.toList e ∧ Only Nil w w' := by
  have hob := (Only.refl Nil w).alloc (.cells #[.int .i64 0, .int .i64 0, .int .u32 0, .int .u32 0, .int .u32 0] 24)
  have HOB := Lib.hid hob
  have HWS := Lib.hid (words_ref s (w.alloc (.cells #[.int .i64 0, .int .i64 0, .int .u32 0, .int .u32 0, .int .u32 0] 24)) hs)
  have HRG := Lib.hid (Row.new w 24 #[.int .i64 0, .int .i64 0, .int .u32 0, .int .u32 0, .int .u32 0])
  have HSZ := Lib.hid (show ∀ (j : Nat) (X : Bs), (cut s.data.toList)[j]? = some X → (bs X).size ≤ 900 from fun j X hj => by
    have := cut_mem s.data.toList X (List.mem_of_getElem? hj)
    rw [size_list] at this; rw [bs_size]; omega)
  have HLN := Lib.hid (show (cut s.data.toList).length ≤ 901 by have := cut_len s.data.toList; rw [size_list] at this; omega)
  have HG1 := Lib.hid (show (w.alloc (.cells #[.int .i64 0, .int .i64 0, .int .u32 0, .int .u32 0, .int .u32 0] 24)).heap.size = w.heap.size + 1 by simp)
  clear hob hs
  go_enter Tryd.func13, Tryd.ntmps13
  go_wp2_with fail
  refine HWS.out.mono ?_
  rintro e w1 ⟨v, rfl, hown, hO⟩
  obtain ⟨gp, cp, rfl, hlt, hge, hcp, hcell⟩ := hown.form (by simpa using cut_ne s.data.toList)
  rw [List.length_map] at *
  have HST := Lib.hid (show St w w.heap.size gp w1.heap.size (cut s.data.toList) (w1.alloc (.cells #[.int .i64 0, .int .i64 0, .int .u32 0, .int .u32 0, .int .u32 0] 24)) 0 0 0 0 0 from
    ⟨⟨Nat.le_refl _, by have := HG1.out; omega, hlt⟩, (HOB.out.trans hO).alloc _, (HRG.out.only hO id).alloc _, Row.new w1 _ _, fun j X hj => by
      rw [World.cell?_alloc_lt w1 _ _ hlt]
      have := hcell j (bs X) (by rw [List.getElem?_map, hj]; rfl)
      rwa [Nat.zero_add] at this⟩)
  have HCP := Lib.hid hcp
  clear hown hO hlt hge hcp hcell HOB HWS HRG HG1
  have hW0 := Lib.hid hw0
  clear hw0
  have HN0 := Lib.hid (show 0 < (cut s.data.toList).length from List.length_pos_iff.2 (cut_ne _))
  have HLL := Lib.hid (show (cut s.data.toList).length = (cut s.data.toList).length from rfl)
  generalize hL : cut s.data.toList = L at *
  have HCUT := Lib.hid hL
  clear hL
  generalize hn : L.length = n at *
  have HN := Lib.hid hn
  clear hn HLL
  have HK := Lib.hid (kindL_le W0)
  have HKW := Lib.hid (fun k (h : 1 ≤ k) (h5 : k ≤ 5) => (⟨fun e => by rw [e]; exact (kindL_word h h5).symm, fun e => kindL_is h e.symm⟩ : W0 = wordL k ↔ k = kindL W0))
  generalize hkl : kindL W0 = K at *
  have HKL := Lib.hid hkl
  have HKK := Lib.hid hkk
  clear hkl hkk
  go_wp2
  generalize w1.alloc (.cells #[.int .i64 0, .int .i64 0, .int .u32 0, .int .u32 0, .int .u32 0] 24) = w2 at *
  generalize w1.heap.size = g5 at *
  generalize hg : w.heap.size = g at *
  have HG := Lib.hid hg
  clear hg
  go_loopw [6] (fun i wr => ∃ k : Nat, 1 ≤ k ∧ k ≤ 6 ∧ i = .int .i64 k ∧ St w g gp g5 L wr (kdU K k) 0 0 0 0) (fun i _ => 6 - (intOf i).toNat)
  case atStart => exact ⟨1, by omega, by omega, rfl, by have h0 := HK.out; rw [show kdU K 1 = 0 by unfold kdU; split <;> omega]; exact HST.out⟩
  case round =>
    obtain ⟨k, hk1, hk6, rfl, hst⟩ := hrel
    have HS := Lib.hid hst
    have c0 := hst.2.2.2.2 0 W0 hW0.out
    have h0 := HN0.out
    have d0 : wr.cell? ⟨g5, 0, none⟩ = some (.int .i64 (kdU K k)) := hst.2.2.2.1.cell_ (i := 0) rfl
    have f0 := hst.2.2.2.1.frozen 0
    clear hst
    by_cases hlt : k < 6
    · have hwc := fun W => word_ref (k : Int) W
      have hpos : 1 ≤ (k : Int) := by omega
      by_cases hkK : (k : Int) = K
      · have heq : ((bs W0).toList == (bs (wordL k)).toList) = true := by
          rw [beq_str]
          exact decide_eq_true (by rw [(HKW.out k (by omega) (by omega)).2 hkK])
        have HE := Lib.hid (show kdU K (k + 1) = k by unfold kdU; rw [if_pos (by omega), hkK])
        generalize bs (wordL k) = Y at *
        generalize bs W0 = X at *
        generalize kdU K k = kk at *
        clear hkK
        go_wp2_with (go_quiet ((go_at_call 22; exact Calls.quiet_of_same ((hwc _).mono fun _ _ h => ⟨h.1, h.2.symm⟩))))
        exact ⟨⟨k + 1, by omega, by omega, by go_num, HE.out.symm ▸ (HS.out.drewN _).set 0 _ rfl⟩, by simp [intOf]; omega⟩
      · have heq : ((bs W0).toList == (bs (wordL k)).toList) = false := by
          rw [beq_str]
          exact decide_eq_false (fun e => hkK ((HKW.out k (by omega) (by omega)).1 (bs_inj e)))
        have HE := Lib.hid (show kdU K (k + 1) = kdU K k by unfold kdU; by_cases h : K < k; · rw [if_pos h, if_pos (by omega)]
                                                            · rw [if_neg h, if_neg (by omega)])
        generalize bs (wordL k) = Y at *
        generalize bs W0 = X at *
        generalize kdU K k = kk at *
        clear hkK
        go_wp2_with (go_quiet ((go_at_call 22; exact Calls.quiet_of_same ((hwc _).mono fun _ _ h => ⟨h.1, h.2.symm⟩))))
        exact ⟨⟨k + 1, by omega, by omega, by go_num, HE.out.symm ▸ HS.out.drewN _⟩, by simp [intOf]; omega⟩
    · obtain rfl : k = 6 := by omega
      have HS6 := Lib.hid (show St w g gp g5 L wr K 0 0 0 0 by have := HS.out; rwa [show kdU K 6 = K by have := HK.out; unfold kdU; rw [if_pos (by omega)]] at this)
      clear HS c0 d0 f0 HST hk1 hk6 hlt
      rw [show ((6 : Nat) : Int) = 6 from rfl]
      obtain ⟨kn, rfl⟩ : ∃ kn : Nat, K = kn := ⟨K.toNat, by have := HK.out; omega⟩
      have HM := Lib.hid (HS6.out.alloc (.cells #[.int .i64 0, .int .i64 4, .int .i64 5, .int .i64 5, .int .i64 5, .int .i64 6] 3))
      have HT := Row.new wr 3 #[.int .i64 0, .int .i64 4, .int .i64 5, .int .i64 5, .int .i64 5, .int .i64 6]
      have e0 := HM.out.2.2.2.1.cell_ (i := 0) rfl
      have HFB := Lib.hid (fun b (hb : Has s.data.toList b) => (show b.k = kn ∧ n = cnt kn from by
        have h1 := has_facts hb
        rw [HCUT.out] at h1
        obtain ⟨⟨W, hW, hk⟩, h2, _⟩ := h1
        rw [hW0.out] at hW
        injection hW with hW
        rw [← hW, HKL.out] at hk
        exact ⟨hk.symm, by rw [hk, ← h2, HN.out]⟩))
      clear HKW HS6
      obtain rfl : kn = 0 := by have := HKK.out; omega
      clear HKK
      have HNO := Lib.hid (show ∀ b, ¬ Has s.data.toList b from fun b hb => by have := (HFB.out b hb).1; have := hb.2.1.k1; omega)
      clear HT
      have z0 : (wr.alloc (.cells #[.int .i64 0, .int .i64 4, .int .i64 5, .int .i64 5, .int .i64 5, .int .i64 6] 3)).cell? ⟨g, 0, none⟩ = some (.int .i64 0) := HM.out.2.2.1.cell_ (i := 0) rfl
      have z1 : (wr.alloc (.cells #[.int .i64 0, .int .i64 4, .int .i64 5, .int .i64 5, .int .i64 5, .int .i64 6] 3)).cell? ⟨g, 1, none⟩ = some (.int .i64 0) := HM.out.2.2.1.cell_ (i := 1) rfl
      have z2 : (wr.alloc (.cells #[.int .i64 0, .int .i64 4, .int .i64 5, .int .i64 5, .int .i64 5, .int .i64 6] 3)).cell? ⟨g, 2, none⟩ = some (.int .u32 0) := HM.out.2.2.1.cell_ (i := 2) rfl
      have z3 : (wr.alloc (.cells #[.int .i64 0, .int .i64 4, .int .i64 5, .int .i64 5, .int .i64 5, .int .i64 6] 3)).cell? ⟨g, 3, none⟩ = some (.int .u32 0) := HM.out.2.2.1.cell_ (i := 3) rfl
      have z4 : (wr.alloc (.cells #[.int .i64 0, .int .i64 4, .int .i64 5, .int .i64 5, .int .i64 5, .int .i64 6] 3)).cell? ⟨g, 4, none⟩ = some (.int .u32 0) := HM.out.2.2.1.cell_ (i := 4) rfl
      have f0 : (wr.alloc (.cells #[.int .i64 0, .int .i64 4, .int .i64 5, .int .i64 5, .int .i64 5, .int .i64 6] 3)).frozen? ⟨g, 0, none⟩ = false := HM.out.2.2.1.frozen 0
      have f1 : (wr.alloc (.cells #[.int .i64 0, .int .i64 4, .int .i64 5, .int .i64 5, .int .i64 5, .int .i64 6] 3)).frozen? ⟨g, 1, none⟩ = false := HM.out.2.2.1.frozen 1
      have f2 : (wr.alloc (.cells #[.int .i64 0, .int .i64 4, .int .i64 5, .int .i64 5, .int .i64 5, .int .i64 6] 3)).frozen? ⟨g, 2, none⟩ = false := HM.out.2.2.1.frozen 2
      have f3 : (wr.alloc (.cells #[.int .i64 0, .int .i64 4, .int .i64 5, .int .i64 5, .int .i64 5, .int .i64 6] 3)).frozen? ⟨g, 3, none⟩ = false := HM.out.2.2.1.frozen 3
      have f4 : (wr.alloc (.cells #[.int .i64 0, .int .i64 4, .int .i64 5, .int .i64 5, .int .i64 5, .int .i64 6] 3)).frozen? ⟨g, 4, none⟩ = false := HM.out.2.2.1.frozen 4
      go_wp2
      refine post_row_tmp Tryd.results13 (by rfl) (((((HM.out.2.2.1.set 0 _).set 1 _).set 2 _).set 3 _).set 4 _) Tryd.underlying24 rfl (by kernel_rfl) rfl ⟨.inr ⟨HNO.out, rfl⟩, ?_⟩
      have hgw := HM.out.1.1
      have hO := HM.out.2.1
      (repeat' (first | (with_reducible exact Only.refl _ _) | (with_reducible assumption) | (with_reducible refine Only.setCell ?_ ?_ _) | (with_reducible refine Only.drewN ?_ _) | (with_reducible refine Only.drew ?_) | (with_reducible refine Only.alloc ?_ _) | (left; simp; done) | (left; simp; omega) | (right; rfl)))
end Go.Proofs.YtlccmhlbkgojlaaDoor
