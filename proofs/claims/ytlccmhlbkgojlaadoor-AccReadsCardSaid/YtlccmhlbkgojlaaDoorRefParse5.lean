/- Accesses read from texts: the answer's, kind 5. -/
import Derived.Test.YtlccmhlbkgojlaaDoorRefSt
namespace Go.Proofs.YtlccmhlbkgojlaaDoor
open Go.RowKit
set_option linter.unusedVariables false
set_option linter.unusedSimpArgs false
set_option maxHeartbeats 4000000 in
set_option maxRecDepth 100000 in
theorem parse_ref5 (s : ByteArray) (w : World) (hs : s.size ≤ 900) (W0 : Bs) (hw0 : (cut s.data.toList)[0]? = some W0) (hkk : kindL W0 = 5) : Calls Tryd.prog 13 #[.string s] w fun e w' => ParsedAs s.data.toList e ∧ Only Nil w w' := by
  have hob := (Only.refl Nil w).alloc (.cells #[.int .i64 0, .int .i64 0, .int .u32 0, .int .u32 0, .int .u32 0] 24)
  have HOB := Lib.hid hob
  have HWS := Lib.hid (words_ref s (w.alloc (.cells #[.int .i64 0, .int .i64 0, .int .u32 0, .int .u32 0, .int .u32 0] 24)) hs)
  have HRG := Lib.hid (Row.new w 24 #[.int .i64 0, .int .i64 0, .int .u32 0, .int .u32 0, .int .u32 0])
  have HSZ := Lib.hid (show ∀ (j : Nat) (X : Bs), (cut s.data.toList)[j]? = some X → (bs X).size ≤ 900 from fun j X hj => by
    have := cut_mem s.data.toList X (List.mem_of_getElem? hj)
    rw [size_list] at this; rw [bs_size]; omega)
  have HLN := Lib.hid (show (cut s.data.toList).length ≤ 901 by have := cut_len s.data.toList; rw [size_list] at this; omega)
  have HG1 := Lib.hid (show (w.alloc (.cells #[.int .i64 0, .int .i64 0, .int .u32 0, .int .u32 0, .int .u32 0] 24)).heap.size = w.heap.size + 1 by simp)
  clear hob hs
  go_enter Tryd.func13, Tryd.ntmps13
  go_wp2_with fail
  refine HWS.out.mono ?_
  rintro e w1 ⟨v, rfl, hown, hO⟩
  obtain ⟨gp, cp, rfl, hlt, hge, hcp, hcell⟩ := hown.form (by simpa using cut_ne s.data.toList)
  rw [List.length_map] at *
  have HST := Lib.hid (show St w w.heap.size gp w1.heap.size (cut s.data.toList) (w1.alloc (.cells #[.int .i64 0, .int .i64 0, .int .u32 0, .int .u32 0, .int .u32 0] 24)) 0 0 0 0 0 from
    ⟨⟨Nat.le_refl _, by have := HG1.out; omega, hlt⟩, (HOB.out.trans hO).alloc _, (HRG.out.only hO id).alloc _, Row.new w1 _ _, fun j X hj => by
      rw [World.cell?_alloc_lt w1 _ _ hlt]
      have := hcell j (bs X) (by rw [List.getElem?_map, hj]; rfl)
      rwa [Nat.zero_add] at this⟩)
  have HCP := Lib.hid hcp
  clear hown hO hlt hge hcp hcell HOB HWS HRG HG1
  have hW0 := Lib.hid hw0
  clear hw0
  have HN0 := Lib.hid (show 0 < (cut s.data.toList).length from List.length_pos_iff.2 (cut_ne _))
  have HLL := Lib.hid (show (cut s.data.toList).length = (cut s.data.toList).length from rfl)
  generalize hL : cut s.data.toList = L at *
  have HCUT := Lib.hid hL
  clear hL
  generalize hn : L.length = n at *
  have HN := Lib.hid hn
  clear hn HLL
  have HK := Lib.hid (kindL_le W0)
  have HKW := Lib.hid (fun k (h : 1 ≤ k) (h5 : k ≤ 5) => (⟨fun e => by rw [e]; exact (kindL_word h h5).symm, fun e => kindL_is h e.symm⟩ : W0 = wordL k ↔ k = kindL W0))
  generalize hkl : kindL W0 = K at *
  have HKL := Lib.hid hkl
  have HKK := Lib.hid hkk
  clear hkl hkk
  go_wp2
  generalize w1.alloc (.cells #[.int .i64 0, .int .i64 0, .int .u32 0, .int .u32 0, .int .u32 0] 24) = w2 at *
  generalize w1.heap.size = g5 at *
  generalize hg : w.heap.size = g at *
  have HG := Lib.hid hg
  clear hg
  go_loopw [6] (fun i wr => ∃ k : Nat, 1 ≤ k ∧ k ≤ 6 ∧ i = .int .i64 k ∧ St w g gp g5 L wr (kdU K k) 0 0 0 0) (fun i _ => 6 - (intOf i).toNat)
  case atStart => exact ⟨1, by omega, by omega, rfl, by have h0 := HK.out; rw [show kdU K 1 = 0 by unfold kdU; split <;> omega]; exact HST.out⟩
  case round =>
    obtain ⟨k, hk1, hk6, rfl, hst⟩ := hrel
    have HS := Lib.hid hst
    have c0 := hst.2.2.2.2 0 W0 hW0.out
    have h0 := HN0.out
    have d0 : wr.cell? ⟨g5, 0, none⟩ = some (.int .i64 (kdU K k)) := hst.2.2.2.1.cell_ (i := 0) rfl
    have f0 := hst.2.2.2.1.frozen 0
    clear hst
    by_cases hlt : k < 6
    · have hwc := fun W => word_ref (k : Int) W
      have hpos : 1 ≤ (k : Int) := by omega
      by_cases hkK : (k : Int) = K
      · have heq : ((bs W0).toList == (bs (wordL k)).toList) = true := by
          rw [beq_str]
          exact decide_eq_true (by rw [(HKW.out k (by omega) (by omega)).2 hkK])
        have HE := Lib.hid (show kdU K (k + 1) = k by unfold kdU; rw [if_pos (by omega), hkK])
        generalize bs (wordL k) = Y at *
        generalize bs W0 = X at *
        generalize kdU K k = kk at *
        clear hkK
        go_wp2_with (go_quiet ((go_at_call 22; exact Calls.quiet_of_same ((hwc _).mono fun _ _ h => ⟨h.1, h.2.symm⟩))))
        exact ⟨⟨k + 1, by omega, by omega, by go_num, HE.out.symm ▸ (HS.out.drewN _).set 0 _ rfl⟩, by simp [intOf]; omega⟩
      · have heq : ((bs W0).toList == (bs (wordL k)).toList) = false := by
          rw [beq_str]
          exact decide_eq_false (fun e => hkK ((HKW.out k (by omega) (by omega)).1 (bs_inj e)))
        have HE := Lib.hid (show kdU K (k + 1) = kdU K k by unfold kdU; by_cases h : K < k; · rw [if_pos h, if_pos (by omega)]
                                                            · rw [if_neg h, if_neg (by omega)])
        generalize bs (wordL k) = Y at *
        generalize bs W0 = X at *
        generalize kdU K k = kk at *
        clear hkK
        go_wp2_with (go_quiet ((go_at_call 22; exact Calls.quiet_of_same ((hwc _).mono fun _ _ h => ⟨h.1, h.2.symm⟩))))
        exact ⟨⟨k + 1, by omega, by omega, by go_num, HE.out.symm ▸ HS.out.drewN _⟩, by simp [intOf]; omega⟩
    · obtain rfl : k = 6 := by omega
      have HS6 := Lib.hid (show St w g gp g5 L wr K 0 0 0 0 by have := HS.out; rwa [show kdU K 6 = K by have := HK.out; unfold kdU; rw [if_pos (by omega)]] at this)
      clear HS c0 d0 f0 HST hk1 hk6 hlt
      rw [show ((6 : Nat) : Int) = 6 from rfl]
      obtain ⟨kn, rfl⟩ : ∃ kn : Nat, K = kn := ⟨K.toNat, by have := HK.out; omega⟩
      have HM := Lib.hid (HS6.out.alloc (.cells #[.int .i64 0, .int .i64 4, .int .i64 5, .int .i64 5, .int .i64 5, .int .i64 6] 3))
      have HT := Row.new wr 3 #[.int .i64 0, .int .i64 4, .int .i64 5, .int .i64 5, .int .i64 5, .int .i64 6]
      have e0 := HM.out.2.2.2.1.cell_ (i := 0) rfl
      have HFB := Lib.hid (fun b (hb : Has s.data.toList b) => (show b.k = kn ∧ n = cnt kn from by
        have h1 := has_facts hb
        rw [HCUT.out] at h1
        obtain ⟨⟨W, hW, hk⟩, h2, _⟩ := h1
        rw [hW0.out] at hW
        injection hW with hW
        rw [← hW, HKL.out] at hk
        exact ⟨hk.symm, by rw [hk, ← h2, HN.out]⟩))
      clear HKW HS6
      obtain rfl : kn = 5 := by have := HKK.out; omega
      clear HKK
      have m0 := HT.cell_ (i := 5) rfl
      have HCN := Lib.hid (show cnt 5 = 6 from rfl)
      by_cases hn : n = 6
      · subst hn
        obtain ⟨X1, HX1⟩ : ∃ x, Hid (L[1]? = some x) := ⟨_, Lib.hid (List.getElem?_eq_getElem (by rw [HN.out]; decide))⟩
        obtain ⟨XW, HXW⟩ : ∃ x, Hid (L[4]? = some x) := ⟨_, Lib.hid (List.getElem?_eq_getElem (by rw [HN.out]; decide))⟩
        have e1 := HM.out.2.2.2.2 1 X1 HX1.out
        have ew := HM.out.2.2.2.2 4 XW HXW.out
        have HS1 := Lib.hid (HSZ.out 1 X1 HX1.out)
        by_cases hwas : XW = wasL
        · have hwb := was_yes hwas
          have hwc := beq_iff_eq.1 hwb
          have HWL := Lib.hid hwas
          clear hwas
          generalize bs XW = SW at *
          by_cases hl4 : X1.length ≤ 4
          · have hs4 : ((bs X1).size : Int) ≤ 4 := by rw [bs_size]; omega
            have hs4' : (bs X1).size ≤ 4 := by rw [bs_size]; omega
            generalize hS : bs X1 = S at *
            have HXS := Lib.hid (show S.data.toList = X1 by rw [← hS]; rfl)
            clear hS hl4
            go_wp2
            have HM3 := Lib.hid (show St w g gp g5 L (wr.alloc (.cells #[.int .i64 0, .int .i64 4, .int .i64 5, .int .i64 5, .int .i64 5, .int .i64 6] 3)) 5 0 0 0 0 from HM.out)
            have HFC := Lib.hid (show ∀ b, Has s.data.toList b → b.k = 5 from fun b hb => (HFB.out b hb).1)
            clear HM HFB HT m0 e0 e1 ew hwb hwc
            generalize wr.alloc (.cells #[.int .i64 0, .int .i64 4, .int .i64 5, .int .i64 5, .int .i64 5, .int .i64 6] 3) = w3 at *
            generalize wr.heap.size = gt at *
            go_loopw [8] (fun i wq => ∃ j : Nat, j ≤ S.size ∧ i = .int .i64 j ∧ St w g gp g5 L wq 5 (dval (S.data.toList.take j) : Int) 0 0 0 ∧ Hid (∀ c ∈ S.data.toList.take j, 48 ≤ c.toNat ∧ c.toNat ≤ 57)) (fun i _ => S.size - (intOf i).toNat)
            case atStart => exact ⟨0, Nat.zero_le _, rfl, HM3.out, Lib.hid (by simp)⟩
            case round =>
              obtain ⟨j, hj, rfl, hst, HD⟩ := hrel
              have HS := Lib.hid hst
              have e1 := hst.2.2.2.2 1 X1 HX1.out
              rw [show bs X1 = S by rw [← HXS.out]; rfl] at e1
              have e5 : wr.cell? ⟨g5, 1, none⟩ = some (.int .i64 (dval (S.data.toList.take j))) := hst.2.2.2.1.cell_ (i := 1) rfl
              have f5 := hst.2.2.2.1.frozen 1
              clear hst
              by_cases hlt : j < S.size
              · by_cases hdig : 48 ≤ S[j].toNat ∧ S[j].toNat ≤ 57
                · have HN1 := Lib.hid (show dval (S.data.toList.take (j + 1)) = dval (S.data.toList.take j) * 10 + (S[j].toNat - 48) by rw [take_byte S j hlt, dval_snoc])
                  have HD1 := Lib.hid (show ∀ c ∈ S.data.toList.take (j + 1), 48 ≤ c.toNat ∧ c.toNat ≤ 57 by
                    rw [take_byte S j hlt]
                    intro c hc
                    rw [List.mem_append] at hc
                    rcases hc with hc | hc
                    · exact HD.out c hc
                    · rw [List.mem_singleton] at hc; rw [hc]; exact hdig)
                  have hd1 : (dval (S.data.toList.take j) : Int) ≤ 100000 := by
                    have := dval_le (l := S.data.toList.take j) (by rw [List.length_take]; omega) HD.out
                    omega
                  generalize dval (S.data.toList.take j) = d at *
                  have hb1 : 48 ≤ (S[j].toNat : Int) := by omega
                  have hb2 : (S[j].toNat : Int) ≤ 57 := by omega
                  obtain ⟨hb3, hb4⟩ := hdig
                  go_wp2
                  go_region
                  all_goals go_wp2
                  refine ⟨⟨j + 1, by omega, by go_num, ?_, HD1⟩, by simp [intOf]; omega⟩
                  rw [HN1.out, show ((d * 10 + (S[j].toNat - 48) : Nat) : Int) = (d : Int) * 10 + S[j].toNat - 48 by omega]
                  exact (HS.out.set 1 _ rfl).only (Only.refl Nil _).drew
                · have HNO := Lib.hid (show ∀ b, ¬ Has s.data.toList b from fun b hb => hdig (by
                    have h1 := (has_facts hb).2.2.2.1
                    rw [HCUT.out, HX1.out] at h1
                    injection h1 with h1
                    exact dec_mem b.c.toNat S[j] (by have := mem_byte S j hlt; rw [HXS.out, h1] at this; exact this)))
                  have hcase : S[j].toNat < 48 ∨ 57 < S[j].toNat := by omega
                  clear hdig
                  generalize dval (S.data.toList.take j) = d at *
                  rcases hcase with hb | hb
                  · have hb0 : (S[j].toNat : Int) < 48 := by omega
                    have z0 : wr.cell? ⟨g, 0, none⟩ = some (.int .i64 0) := HS.out.2.2.1.cell_ (i := 0) rfl
                    have z1 : wr.cell? ⟨g, 1, none⟩ = some (.int .i64 0) := HS.out.2.2.1.cell_ (i := 1) rfl
                    have z2 : wr.cell? ⟨g, 2, none⟩ = some (.int .u32 0) := HS.out.2.2.1.cell_ (i := 2) rfl
                    have z3 : wr.cell? ⟨g, 3, none⟩ = some (.int .u32 0) := HS.out.2.2.1.cell_ (i := 3) rfl
                    have z4 : wr.cell? ⟨g, 4, none⟩ = some (.int .u32 0) := HS.out.2.2.1.cell_ (i := 4) rfl
                    have f0 : wr.frozen? ⟨g, 0, none⟩ = false := HS.out.2.2.1.frozen 0
                    have f1 : wr.frozen? ⟨g, 1, none⟩ = false := HS.out.2.2.1.frozen 1
                    have f2 : wr.frozen? ⟨g, 2, none⟩ = false := HS.out.2.2.1.frozen 2
                    have f3 : wr.frozen? ⟨g, 3, none⟩ = false := HS.out.2.2.1.frozen 3
                    have f4 : wr.frozen? ⟨g, 4, none⟩ = false := HS.out.2.2.1.frozen 4
                    go_wp2
                    refine post_row_tmp Tryd.results13 (by rfl) (((((HS.out.2.2.1.set 0 _).set 1 _).set 2 _).set 3 _).set 4 _) Tryd.underlying24 rfl (by kernel_rfl) rfl ⟨.inr ⟨HNO.out, rfl⟩, ?_⟩
                    have hgw := HS.out.1.1
                    have hO := HS.out.2.1
                    (repeat' (first | (with_reducible exact Only.refl _ _) | (with_reducible assumption) | (with_reducible refine Only.setCell ?_ ?_ _) | (with_reducible refine Only.drewN ?_ _) | (with_reducible refine Only.drew ?_) | (with_reducible refine Only.alloc ?_ _) | (left; simp; done) | (left; simp; omega) | (right; rfl)))
                  · have hb' : ¬ S[j].toNat < 48 := by omega
                    have z0 : wr.cell? ⟨g, 0, none⟩ = some (.int .i64 0) := HS.out.2.2.1.cell_ (i := 0) rfl
                    have z1 : wr.cell? ⟨g, 1, none⟩ = some (.int .i64 0) := HS.out.2.2.1.cell_ (i := 1) rfl
                    have z2 : wr.cell? ⟨g, 2, none⟩ = some (.int .u32 0) := HS.out.2.2.1.cell_ (i := 2) rfl
                    have z3 : wr.cell? ⟨g, 3, none⟩ = some (.int .u32 0) := HS.out.2.2.1.cell_ (i := 3) rfl
                    have z4 : wr.cell? ⟨g, 4, none⟩ = some (.int .u32 0) := HS.out.2.2.1.cell_ (i := 4) rfl
                    have f0 : wr.frozen? ⟨g, 0, none⟩ = false := HS.out.2.2.1.frozen 0
                    have f1 : wr.frozen? ⟨g, 1, none⟩ = false := HS.out.2.2.1.frozen 1
                    have f2 : wr.frozen? ⟨g, 2, none⟩ = false := HS.out.2.2.1.frozen 2
                    have f3 : wr.frozen? ⟨g, 3, none⟩ = false := HS.out.2.2.1.frozen 3
                    have f4 : wr.frozen? ⟨g, 4, none⟩ = false := HS.out.2.2.1.frozen 4
                    go_wp2
                    refine post_row_tmp Tryd.results13 (by rfl) (((((HS.out.2.2.1.set 0 _).set 1 _).set 2 _).set 3 _).set 4 _) Tryd.underlying24 rfl (by kernel_rfl) rfl ⟨.inr ⟨HNO.out, rfl⟩, ?_⟩
                    have hgw := HS.out.1.1
                    have hO := HS.out.2.1
                    (repeat' (first | (with_reducible exact Only.refl _ _) | (with_reducible assumption) | (with_reducible refine Only.setCell ?_ ?_ _) | (with_reducible refine Only.drewN ?_ _) | (with_reducible refine Only.drew ?_) | (with_reducible refine Only.alloc ?_ _) | (left; simp; done) | (left; simp; omega) | (right; rfl)))
              · obtain rfl : j = S.size := by omega
                have HD1 := Lib.hid (show ∀ c ∈ S.data.toList, 48 ≤ c.toNat ∧ c.toNat ≤ 57 by have := HD.out; rwa [List.take_of_length_le (by rw [size_list]; exact Nat.le_refl _)] at this)
                rw [List.take_of_length_le (by rw [size_list]; exact Nat.le_refl _)] at HS e5
                have HDV := Lib.hid (show ∀ b, Has s.data.toList b → S.data.toList = decL b.c ∧ (dval S.data.toList : Int) = b.c ∧ b.c ≤ 1023 from fun b hb => by
                  have h1 := (has_facts hb).2.2.2.1
                  rw [HCUT.out, HX1.out] at h1
                  injection h1 with h1
                  rw [HXS.out, h1]
                  exact ⟨rfl, by unfold decL; rw [dval_dec]; have := hb.2.1.c0; omega, hb.2.1.c1⟩)
                have hd4 : dval S.data.toList < 10000 := by have := dval_le (l := S.data.toList) hs4' HD1.out; omega
                have HT3 := Lib.hid (fun W => dec_ref (dval S.data.toList) W hd4)
                have HDB := Lib.hid (show S.data.toList = Lib.decDigits (dval S.data.toList) ↔ decB (dval S.data.toList) = S from
                  ⟨fun e => by unfold decB; rw [← e]; rfl, fun e => by
                    have := congrArg (fun B : ByteArray => B.data.toList) e
                    exact this.symm⟩)
                generalize dval S.data.toList = d at *
                clear HD hlt hd4 f5 hj
                generalize decB d = D at *
                by_cases hDS : D = S
                · subst hDS
                  have HXD := Lib.hid (HDB.out.2 rfl)
                  by_cases hbig : (1023 : Int) < d
                  · have HNO := Lib.hid (show ∀ b, ¬ Has s.data.toList b from fun b hb => by
                      obtain ⟨_, h2, h3⟩ := HDV.out b hb
                      omega)
                    go_wp2
                    refine wp_region_held_drew (S := fun w' => w'.cell? ⟨g5, 1, none⟩ = some (.int .i64 d) ∧ w'.cell? ⟨gp, 1, none⟩ = some (.string D) ∧ Only Nil wr w') (by kernel_rfl) ⟨e5, e1, (Only.refl _ _).drew⟩ (fun hHeld => ?_)
                    refine take_0 (.pointer (some ⟨g5, 1, none⟩)) (by kernel_rfl) (by kernel_rfl) (by kernel_rfl) (fun _ _ _ h => h) (by rfl) (fun w hSw => ?_) (by assumption) ?_
                    · (try dsimp only at hSw)
                      go_split_ands
                      go_simp
                    (try simp only [Act.put, List.setIfInBounds_toArray, List.set_cons_zero, List.set_cons_succ])
                    refine take_1 (.int .i64 d) (by kernel_rfl) (by kernel_rfl) (by kernel_rfl) (fun _ _ _ h => h) (by rfl) (fun w hSw => ?_) (by assumption) ?_
                    · (try dsimp only at hSw)
                      go_split_ands
                      go_simp
                    (try simp only [Act.put, List.setIfInBounds_toArray, List.set_cons_zero, List.set_cons_succ])
                    refine take_3 (.slice (some ⟨gp, 0, none⟩) 6 cp) (by kernel_rfl) (by kernel_rfl) (by kernel_rfl) (fun _ _ _ h => h) (by rfl) (fun w hSw => ?_) (by assumption) ?_
                    · (try dsimp only at hSw)
                      go_split_ands
                      go_simp
                    (try simp only [Act.put, List.setIfInBounds_toArray, List.set_cons_zero, List.set_cons_succ])
                    refine take_4 (.pointer (some ⟨gp, 1, none⟩)) (by kernel_rfl) (by kernel_rfl) (by kernel_rfl) (fun _ _ _ h => h) (by rfl) (fun w hSw => ?_) (by assumption) ?_
                    · (try dsimp only at hSw)
                      go_split_ands
                      go_simp
                    (try simp only [Act.put, List.setIfInBounds_toArray, List.set_cons_zero, List.set_cons_succ])
                    refine take_5 (.string D) (by kernel_rfl) (by kernel_rfl) (by kernel_rfl) (fun _ _ _ h => h) (by rfl) (fun w hSw => ?_) (by assumption) ?_
                    · (try dsimp only at hSw)
                      go_split_ands
                      go_simp
                    (try simp only [Act.put, List.setIfInBounds_toArray, List.set_cons_zero, List.set_cons_succ])
                    refine call_2 (by kernel_rfl) (by rfl) (fun K hK => ?_)
                    go_simp
                    refine (HT3.out _).mono ?_
                    rintro e w4 ⟨rfl, hO⟩
                    have hO4 : Only Nil wr w4 := (Only.refl Nil wr).drew.trans hO
                    refine hK.out _ _ ⟨(hO4.cell (World.block_lt_of_cell? _ _ e5) id).trans e5, (hO4.cell (World.block_lt_of_cell? _ _ e1) id).trans e1, hO4⟩ (fun hHeld2 => ?_)
                    clear hK K hHeld hO
                    (try simp only [Act.put, List.setIfInBounds_toArray, List.set_cons_zero, List.set_cons_succ])
                    refine take_6 (.bool false) (by kernel_rfl) (by kernel_rfl) (by kernel_rfl) (fun _ _ _ h => h) (by rfl) (fun w hSw => ?_) (by assumption) ?_
                    · (try dsimp only at hSw)
                      go_split_ands
                      go_simp
                    (try simp only [Act.put, List.setIfInBounds_toArray, List.set_cons_zero, List.set_cons_succ])
                    refine take_7 (.bool false) (by kernel_rfl) (by kernel_rfl) (by kernel_rfl) (fun _ _ _ h => h) (by rfl) (fun w hSw => ?_) (by assumption) ?_
                    · (try dsimp only at hSw)
                      go_split_ands
                      go_simp
                    (try simp only [Act.put, List.setIfInBounds_toArray, List.set_cons_zero, List.set_cons_succ])
                    refine take_8 (.pointer (some ⟨g5, 1, none⟩)) (by kernel_rfl) (by kernel_rfl) (by kernel_rfl) (fun _ _ _ h => h) (by rfl) (fun w hSw => ?_) (by assumption) ?_
                    · (try dsimp only at hSw)
                      go_split_ands
                      go_simp
                    (try simp only [Act.put, List.setIfInBounds_toArray, List.set_cons_zero, List.set_cons_succ])
                    refine take_9 (.int .i64 d) (by kernel_rfl) (by kernel_rfl) (by kernel_rfl) (fun _ _ _ h => h) (by rfl) (fun w hSw => ?_) (by assumption) ?_
                    · (try dsimp only at hSw)
                      go_split_ands
                      go_simp
                    (try simp only [Act.put, List.setIfInBounds_toArray, List.set_cons_zero, List.set_cons_succ])
                    refine take_10 (.bool true) (by kernel_rfl) (by kernel_rfl) (by kernel_rfl) (fun _ _ _ h => h) (by rfl) (fun w hSw => ?_) (by assumption) ?_
                    · (try dsimp only at hSw)
                      go_split_ands
                      go_simp
                    (try simp only [Act.put, List.setIfInBounds_toArray, List.set_cons_zero, List.set_cons_succ])
                    refine take_11 (.bool true) (by kernel_rfl) (by kernel_rfl) (by kernel_rfl) (fun _ _ _ h => h) (by rfl) (fun w hSw => ?_) (by assumption) ?_
                    · (try dsimp only at hSw)
                      go_split_ands
                      go_simp
                    (try simp only [Act.put, List.setIfInBounds_toArray, List.set_cons_zero, List.set_cons_succ])
                    refine wpAnyH_done (by kernel_rfl) ?_ _
                    have HX4 := Lib.hid (HS.out.only hO4)
                    clear hHeld2 hO4 e1 e5
                    have z0 : w4.cell? ⟨g, 0, none⟩ = some (.int .i64 0) := HX4.out.2.2.1.cell_ (i := 0) rfl
                    have z1 : w4.cell? ⟨g, 1, none⟩ = some (.int .i64 0) := HX4.out.2.2.1.cell_ (i := 1) rfl
                    have z2 : w4.cell? ⟨g, 2, none⟩ = some (.int .u32 0) := HX4.out.2.2.1.cell_ (i := 2) rfl
                    have z3 : w4.cell? ⟨g, 3, none⟩ = some (.int .u32 0) := HX4.out.2.2.1.cell_ (i := 3) rfl
                    have z4 : w4.cell? ⟨g, 4, none⟩ = some (.int .u32 0) := HX4.out.2.2.1.cell_ (i := 4) rfl
                    have f0 : w4.frozen? ⟨g, 0, none⟩ = false := HX4.out.2.2.1.frozen 0
                    have f1 : w4.frozen? ⟨g, 1, none⟩ = false := HX4.out.2.2.1.frozen 1
                    have f2 : w4.frozen? ⟨g, 2, none⟩ = false := HX4.out.2.2.1.frozen 2
                    have f3 : w4.frozen? ⟨g, 3, none⟩ = false := HX4.out.2.2.1.frozen 3
                    have f4 : w4.frozen? ⟨g, 4, none⟩ = false := HX4.out.2.2.1.frozen 4
                    go_wp2
                    refine post_row_tmp Tryd.results13 (by rfl) (((((HX4.out.2.2.1.set 0 _).set 1 _).set 2 _).set 3 _).set 4 _) Tryd.underlying24 rfl (by kernel_rfl) rfl ⟨.inr ⟨HNO.out, rfl⟩, ?_⟩
                    have hgw := HX4.out.1.1
                    have hO := HX4.out.2.1
                    (repeat' (first | (with_reducible exact Only.refl _ _) | (with_reducible assumption) | (with_reducible refine Only.setCell ?_ ?_ _) | (with_reducible refine Only.drewN ?_ _) | (with_reducible refine Only.drew ?_) | (with_reducible refine Only.alloc ?_ _) | (left; simp; done) | (left; simp; omega) | (right; rfl)))
                  · go_wp2
                    refine wp_region_held_drew (S := fun w' => w'.cell? ⟨g5, 1, none⟩ = some (.int .i64 d) ∧ w'.cell? ⟨gp, 1, none⟩ = some (.string D) ∧ Only Nil wr w') (by kernel_rfl) ⟨e5, e1, (Only.refl _ _).drew⟩ (fun hHeld => ?_)
                    refine take_0 (.pointer (some ⟨g5, 1, none⟩)) (by kernel_rfl) (by kernel_rfl) (by kernel_rfl) (fun _ _ _ h => h) (by rfl) (fun w hSw => ?_) (by assumption) ?_
                    · (try dsimp only at hSw)
                      go_split_ands
                      go_simp
                    (try simp only [Act.put, List.setIfInBounds_toArray, List.set_cons_zero, List.set_cons_succ])
                    refine take_1 (.int .i64 d) (by kernel_rfl) (by kernel_rfl) (by kernel_rfl) (fun _ _ _ h => h) (by rfl) (fun w hSw => ?_) (by assumption) ?_
                    · (try dsimp only at hSw)
                      go_split_ands
                      go_simp
                    (try simp only [Act.put, List.setIfInBounds_toArray, List.set_cons_zero, List.set_cons_succ])
                    refine take_3 (.slice (some ⟨gp, 0, none⟩) 6 cp) (by kernel_rfl) (by kernel_rfl) (by kernel_rfl) (fun _ _ _ h => h) (by rfl) (fun w hSw => ?_) (by assumption) ?_
                    · (try dsimp only at hSw)
                      go_split_ands
                      go_simp
                    (try simp only [Act.put, List.setIfInBounds_toArray, List.set_cons_zero, List.set_cons_succ])
                    refine take_4 (.pointer (some ⟨gp, 1, none⟩)) (by kernel_rfl) (by kernel_rfl) (by kernel_rfl) (fun _ _ _ h => h) (by rfl) (fun w hSw => ?_) (by assumption) ?_
                    · (try dsimp only at hSw)
                      go_split_ands
                      go_simp
                    (try simp only [Act.put, List.setIfInBounds_toArray, List.set_cons_zero, List.set_cons_succ])
                    refine take_5 (.string D) (by kernel_rfl) (by kernel_rfl) (by kernel_rfl) (fun _ _ _ h => h) (by rfl) (fun w hSw => ?_) (by assumption) ?_
                    · (try dsimp only at hSw)
                      go_split_ands
                      go_simp
                    (try simp only [Act.put, List.setIfInBounds_toArray, List.set_cons_zero, List.set_cons_succ])
                    refine call_2 (by kernel_rfl) (by rfl) (fun K hK => ?_)
                    go_simp
                    refine (HT3.out _).mono ?_
                    rintro e w4 ⟨rfl, hO⟩
                    have hO4 : Only Nil wr w4 := (Only.refl Nil wr).drew.trans hO
                    refine hK.out _ _ ⟨(hO4.cell (World.block_lt_of_cell? _ _ e5) id).trans e5, (hO4.cell (World.block_lt_of_cell? _ _ e1) id).trans e1, hO4⟩ (fun hHeld2 => ?_)
                    clear hK K hHeld hO
                    (try simp only [Act.put, List.setIfInBounds_toArray, List.set_cons_zero, List.set_cons_succ])
                    refine take_6 (.bool false) (by kernel_rfl) (by kernel_rfl) (by kernel_rfl) (fun _ _ _ h => h) (by rfl) (fun w hSw => ?_) (by assumption) ?_
                    · (try dsimp only at hSw)
                      go_split_ands
                      go_simp
                    (try simp only [Act.put, List.setIfInBounds_toArray, List.set_cons_zero, List.set_cons_succ])
                    refine take_7 (.bool false) (by kernel_rfl) (by kernel_rfl) (by kernel_rfl) (fun _ _ _ h => h) (by rfl) (fun w hSw => ?_) (by assumption) ?_
                    · (try dsimp only at hSw)
                      go_split_ands
                      go_simp
                    (try simp only [Act.put, List.setIfInBounds_toArray, List.set_cons_zero, List.set_cons_succ])
                    refine take_8 (.pointer (some ⟨g5, 1, none⟩)) (by kernel_rfl) (by kernel_rfl) (by kernel_rfl) (fun _ _ _ h => h) (by rfl) (fun w hSw => ?_) (by assumption) ?_
                    · (try dsimp only at hSw)
                      go_split_ands
                      go_simp
                    (try simp only [Act.put, List.setIfInBounds_toArray, List.set_cons_zero, List.set_cons_succ])
                    refine take_9 (.int .i64 d) (by kernel_rfl) (by kernel_rfl) (by kernel_rfl) (fun _ _ _ h => h) (by rfl) (fun w hSw => ?_) (by assumption) ?_
                    · (try dsimp only at hSw)
                      go_split_ands
                      go_simp
                    (try simp only [Act.put, List.setIfInBounds_toArray, List.set_cons_zero, List.set_cons_succ])
                    refine take_10 (.bool false) (by kernel_rfl) (by kernel_rfl) (by kernel_rfl) (fun _ _ _ h => h) (by rfl) (fun w hSw => ?_) (by assumption) ?_
                    · (try dsimp only at hSw)
                      go_split_ands
                      go_simp
                    (try simp only [Act.put, List.setIfInBounds_toArray, List.set_cons_zero, List.set_cons_succ])
                    refine take_11 (.bool false) (by kernel_rfl) (by kernel_rfl) (by kernel_rfl) (fun _ _ _ h => h) (by rfl) (fun w hSw => ?_) (by assumption) ?_
                    · (try dsimp only at hSw)
                      go_split_ands
                      go_simp
                    (try simp only [Act.put, List.setIfInBounds_toArray, List.set_cons_zero, List.set_cons_succ])
                    refine wpAnyH_done (by kernel_rfl) ?_ _
                    have HX4 := Lib.hid (HS.out.only hO4)
                    clear hHeld2 hO4 e1 e5
                    obtain ⟨XO, HXO⟩ : ∃ x, Hid (L[5]? = some x) := ⟨_, Lib.hid (List.getElem?_eq_getElem (by rw [HN.out]; decide))⟩
                    have eo := HX4.out.2.2.2.2 5 XO HXO.out
                    have hsj := HSZ.out 5 XO HXO.out
                    generalize hS : bs XO = SO at *
                    have HSLO := Lib.hid (show SO.data.toList = XO by rw [← hS]; rfl)
                    have HSJO := Lib.hid (Nat.le_trans hsj (by decide : 900 ≤ 65536))
                    clear hS hsj
                    obtain ⟨X2, HX2⟩ : ∃ x, Hid (L[2]? = some x) := ⟨_, Lib.hid (List.getElem?_eq_getElem (by rw [HN.out]; decide))⟩
                    have e2 := HX4.out.2.2.2.2 2 X2 HX2.out
                    have hsj := HSZ.out 2 X2 HX2.out
                    generalize hS : bs X2 = S2 at *
                    have HSL2 := Lib.hid (show S2.data.toList = X2 by rw [← hS]; rfl)
                    have HSJ2 := Lib.hid (Nat.le_trans hsj (by decide : 900 ≤ 65536))
                    clear hS hsj
                    obtain ⟨X3, HX3⟩ : ∃ x, Hid (L[3]? = some x) := ⟨_, Lib.hid (List.getElem?_eq_getElem (by rw [HN.out]; decide))⟩
                    have e3 := HX4.out.2.2.2.2 3 X3 HX3.out
                    have hsj := HSZ.out 3 X3 HX3.out
                    generalize hS : bs X3 = S3 at *
                    have HSL3 := Lib.hid (show S3.data.toList = X3 by rw [← hS]; rfl)
                    have HSJ3 := Lib.hid (Nat.le_trans hsj (by decide : 900 ≤ 65536))
                    clear hS hsj
                    go_wp2_with fail
                    refine (hex_ref SO w4 HSJO.out).mono ?_
                    rintro e w' ⟨vo, ok, rfl, rfl, lo, hi, hyes, hno⟩
                    have HBO := Lib.hid (And.intro lo hi)
                    cases ok
                    · have HNO := Lib.hid (show ∀ b, ¬ Has s.data.toList b from fun b hb => hno rfl b.o hb.1.o0 hb.1.o1 (by
                        have h1 : L[5]? = some (hex8 b.o) := by have h1 := (has_facts hb).2.2.2.2.1; rw [HCUT.out] at h1; rw [HFC.out b hb, HCN.out] at h1; exact h1
                        rw [HXO.out] at h1
                        injection h1 with h1
                        rw [HSLO.out, h1]))
                      clear hyes hno lo hi
                      have c0 : w4.cell? ⟨g5, 0, none⟩ = some (.int .i64 5) := HX4.out.2.2.2.1.cell_ (i := 0) rfl
                      have c1 : w4.cell? ⟨g5, 1, none⟩ = some (.int .i64 d) := HX4.out.2.2.2.1.cell_ (i := 1) rfl
                      have c2 : w4.cell? ⟨g5, 2, none⟩ = some (.int .u32 0) := HX4.out.2.2.2.1.cell_ (i := 2) rfl
                      have c3 : w4.cell? ⟨g5, 3, none⟩ = some (.int .u32 0) := HX4.out.2.2.2.1.cell_ (i := 3) rfl
                      have c4 : w4.cell? ⟨g5, 4, none⟩ = some (.int .u32 0) := HX4.out.2.2.2.1.cell_ (i := 4) rfl
                      have f5 := HX4.out.2.2.2.1.frozen 4
                      have hne1 : ¬ g = g5 := by have := HX4.out.1; omega
                      have hne2 : ¬ g5 = g := by have := HX4.out.1; omega
                      have hne3 : ¬ gp = g5 := by have := HX4.out.1; omega
                      have hne4 : ¬ g5 = gp := by have := HX4.out.1; omega
                      have z0 : w4.cell? ⟨g, 0, none⟩ = some (.int .i64 0) := HX4.out.2.2.1.cell_ (i := 0) rfl
                      have z1 : w4.cell? ⟨g, 1, none⟩ = some (.int .i64 0) := HX4.out.2.2.1.cell_ (i := 1) rfl
                      have z2 : w4.cell? ⟨g, 2, none⟩ = some (.int .u32 0) := HX4.out.2.2.1.cell_ (i := 2) rfl
                      have z3 : w4.cell? ⟨g, 3, none⟩ = some (.int .u32 0) := HX4.out.2.2.1.cell_ (i := 3) rfl
                      have z4 : w4.cell? ⟨g, 4, none⟩ = some (.int .u32 0) := HX4.out.2.2.1.cell_ (i := 4) rfl
                      have f0 : w4.frozen? ⟨g, 0, none⟩ = false := HX4.out.2.2.1.frozen 0
                      have f1 : w4.frozen? ⟨g, 1, none⟩ = false := HX4.out.2.2.1.frozen 1
                      have f2 : w4.frozen? ⟨g, 2, none⟩ = false := HX4.out.2.2.1.frozen 2
                      have f3 : w4.frozen? ⟨g, 3, none⟩ = false := HX4.out.2.2.1.frozen 3
                      have f4 : w4.frozen? ⟨g, 4, none⟩ = false := HX4.out.2.2.1.frozen 4
                      go_wp2
                      refine post_row_tmp Tryd.results13 (by rfl) ((((((HX4.out.2.2.1.far (p := ⟨g5, 4, none⟩) hne1 _).set 0 _).set 1 _).set 2 _).set 3 _).set 4 _) Tryd.underlying24 rfl (by kernel_rfl) rfl ⟨.inr ⟨HNO.out, rfl⟩, ?_⟩
                      obtain ⟨hgw1, hgw2, hgw3⟩ := HX4.out.1
                      have hO := HX4.out.2.1
                      (repeat' (first | (with_reducible exact Only.refl _ _) | (with_reducible assumption) | (with_reducible refine Only.setCell ?_ ?_ _) | (with_reducible refine Only.drewN ?_ _) | (with_reducible refine Only.drew ?_) | (with_reducible refine Only.alloc ?_ _) | (left; simp; done) | (left; simp; omega) | (right; rfl)))
                    · have HYO := Lib.hid (show L[5]? = some (hex8 vo) by rw [HXO.out, ← HSLO.out, hyes rfl])
                      clear hyes hno lo hi
                      have c0 : w4.cell? ⟨g5, 0, none⟩ = some (.int .i64 5) := HX4.out.2.2.2.1.cell_ (i := 0) rfl
                      have c1 : w4.cell? ⟨g5, 1, none⟩ = some (.int .i64 d) := HX4.out.2.2.2.1.cell_ (i := 1) rfl
                      have c2 : w4.cell? ⟨g5, 2, none⟩ = some (.int .u32 0) := HX4.out.2.2.2.1.cell_ (i := 2) rfl
                      have c3 : w4.cell? ⟨g5, 3, none⟩ = some (.int .u32 0) := HX4.out.2.2.2.1.cell_ (i := 3) rfl
                      have c4 : w4.cell? ⟨g5, 4, none⟩ = some (.int .u32 0) := HX4.out.2.2.2.1.cell_ (i := 4) rfl
                      have f5 := HX4.out.2.2.2.1.frozen 4
                      have hne1 : ¬ g = g5 := by have := HX4.out.1; omega
                      have hne2 : ¬ g5 = g := by have := HX4.out.1; omega
                      have hne3 : ¬ gp = g5 := by have := HX4.out.1; omega
                      have hne4 : ¬ g5 = gp := by have := HX4.out.1; omega
                      go_wp2_with fail
                      have HX5 := Lib.hid (HX4.out.set 4 (.int .u32 vo) rfl)
                      clear c0 c1 c2 c3 c4 f5
                      generalize w4.setCell ⟨g5, 4, none⟩ (.int .u32 vo) = w5 at *
                      have e4 := HX5.out.2.2.2.2 3 X3 HX3.out
                      rw [show bs X3 = S3 by rw [← HSL3.out]; rfl] at e4
                      refine (hex_ref S2 w5 HSJ2.out).mono ?_
                      rintro e w' ⟨vx, ok, rfl, rfl, lo, hi, hyes, hno⟩
                      have HBX := Lib.hid (And.intro lo hi)
                      cases ok
                      · have HNO := Lib.hid (show ∀ b, ¬ Has s.data.toList b from fun b hb => hno rfl b.x hb.1.x0 hb.1.x1 (by
                          have h1 : L[2]? = some (hex8 b.x) := by have h1 := (has_facts hb).2.2.2.2.2.1 (by rw [HFC.out b hb]; omega); rw [HCUT.out] at h1; exact h1
                          rw [HX2.out] at h1
                          injection h1 with h1
                          rw [HSL2.out, h1]))
                        clear hyes hno lo hi
                        have c0 : w5.cell? ⟨g5, 0, none⟩ = some (.int .i64 5) := HX5.out.2.2.2.1.cell_ (i := 0) rfl
                        have c1 : w5.cell? ⟨g5, 1, none⟩ = some (.int .i64 d) := HX5.out.2.2.2.1.cell_ (i := 1) rfl
                        have c2 : w5.cell? ⟨g5, 2, none⟩ = some (.int .u32 0) := HX5.out.2.2.2.1.cell_ (i := 2) rfl
                        have c3 : w5.cell? ⟨g5, 3, none⟩ = some (.int .u32 0) := HX5.out.2.2.2.1.cell_ (i := 3) rfl
                        have c4 : w5.cell? ⟨g5, 4, none⟩ = some (.int .u32 vo) := HX5.out.2.2.2.1.cell_ (i := 4) rfl
                        have f5 := HX5.out.2.2.2.1.frozen 2
                        have hne1 : ¬ g = g5 := by have := HX5.out.1; omega
                        have hne2 : ¬ g5 = g := by have := HX5.out.1; omega
                        have hne3 : ¬ gp = g5 := by have := HX5.out.1; omega
                        have hne4 : ¬ g5 = gp := by have := HX5.out.1; omega
                        have z0 : w5.cell? ⟨g, 0, none⟩ = some (.int .i64 0) := HX5.out.2.2.1.cell_ (i := 0) rfl
                        have z1 : w5.cell? ⟨g, 1, none⟩ = some (.int .i64 0) := HX5.out.2.2.1.cell_ (i := 1) rfl
                        have z2 : w5.cell? ⟨g, 2, none⟩ = some (.int .u32 0) := HX5.out.2.2.1.cell_ (i := 2) rfl
                        have z3 : w5.cell? ⟨g, 3, none⟩ = some (.int .u32 0) := HX5.out.2.2.1.cell_ (i := 3) rfl
                        have z4 : w5.cell? ⟨g, 4, none⟩ = some (.int .u32 0) := HX5.out.2.2.1.cell_ (i := 4) rfl
                        have f0 : w5.frozen? ⟨g, 0, none⟩ = false := HX5.out.2.2.1.frozen 0
                        have f1 : w5.frozen? ⟨g, 1, none⟩ = false := HX5.out.2.2.1.frozen 1
                        have f2 : w5.frozen? ⟨g, 2, none⟩ = false := HX5.out.2.2.1.frozen 2
                        have f3 : w5.frozen? ⟨g, 3, none⟩ = false := HX5.out.2.2.1.frozen 3
                        have f4 : w5.frozen? ⟨g, 4, none⟩ = false := HX5.out.2.2.1.frozen 4
                        go_wp2
                        refine post_row_tmp Tryd.results13 (by rfl) ((((((HX5.out.2.2.1.far (p := ⟨g5, 2, none⟩) hne1 _).set 0 _).set 1 _).set 2 _).set 3 _).set 4 _) Tryd.underlying24 rfl (by kernel_rfl) rfl ⟨.inr ⟨HNO.out, rfl⟩, ?_⟩
                        obtain ⟨hgw1, hgw2, hgw3⟩ := HX5.out.1
                        have hO := HX5.out.2.1
                        (repeat' (first | (with_reducible exact Only.refl _ _) | (with_reducible assumption) | (with_reducible refine Only.setCell ?_ ?_ _) | (with_reducible refine Only.drewN ?_ _) | (with_reducible refine Only.drew ?_) | (with_reducible refine Only.alloc ?_ _) | (left; simp; done) | (left; simp; omega) | (right; rfl)))
                      · have HYX := Lib.hid (show L[2]? = some (hex8 vx) by rw [HX2.out, ← HSL2.out, hyes rfl])
                        clear hyes hno lo hi
                        have c0 : w5.cell? ⟨g5, 0, none⟩ = some (.int .i64 5) := HX5.out.2.2.2.1.cell_ (i := 0) rfl
                        have c1 : w5.cell? ⟨g5, 1, none⟩ = some (.int .i64 d) := HX5.out.2.2.2.1.cell_ (i := 1) rfl
                        have c2 : w5.cell? ⟨g5, 2, none⟩ = some (.int .u32 0) := HX5.out.2.2.2.1.cell_ (i := 2) rfl
                        have c3 : w5.cell? ⟨g5, 3, none⟩ = some (.int .u32 0) := HX5.out.2.2.2.1.cell_ (i := 3) rfl
                        have c4 : w5.cell? ⟨g5, 4, none⟩ = some (.int .u32 vo) := HX5.out.2.2.2.1.cell_ (i := 4) rfl
                        have f5 := HX5.out.2.2.2.1.frozen 2
                        have hne1 : ¬ g = g5 := by have := HX5.out.1; omega
                        have hne2 : ¬ g5 = g := by have := HX5.out.1; omega
                        have hne3 : ¬ gp = g5 := by have := HX5.out.1; omega
                        have hne4 : ¬ g5 = gp := by have := HX5.out.1; omega
                        go_wp2_with fail
                        have HX6 := Lib.hid (HX5.out.set 2 (.int .u32 vx) rfl)
                        clear c0 c1 c2 c3 c4 f5
                        generalize w5.setCell ⟨g5, 2, none⟩ (.int .u32 vx) = w6 at *
                        refine (hex_ref S3 w6 HSJ3.out).mono ?_
                        rintro e w' ⟨vy, ok, rfl, rfl, lo, hi, hyes, hno⟩
                        have HBY := Lib.hid (And.intro lo hi)
                        cases ok
                        · have HNO := Lib.hid (show ∀ b, ¬ Has s.data.toList b from fun b hb => hno rfl b.y hb.1.y0 hb.1.y1 (by
                            have h1 : L[3]? = some (hex8 b.y) := by have h1 := (has_facts hb).2.2.2.2.2.2 (HFC.out b hb); rw [HCUT.out] at h1; exact h1
                            rw [HX3.out] at h1
                            injection h1 with h1
                            rw [HSL3.out, h1]))
                          clear hyes hno lo hi
                          have c0 : w6.cell? ⟨g5, 0, none⟩ = some (.int .i64 5) := HX6.out.2.2.2.1.cell_ (i := 0) rfl
                          have c1 : w6.cell? ⟨g5, 1, none⟩ = some (.int .i64 d) := HX6.out.2.2.2.1.cell_ (i := 1) rfl
                          have c2 : w6.cell? ⟨g5, 2, none⟩ = some (.int .u32 vx) := HX6.out.2.2.2.1.cell_ (i := 2) rfl
                          have c3 : w6.cell? ⟨g5, 3, none⟩ = some (.int .u32 0) := HX6.out.2.2.2.1.cell_ (i := 3) rfl
                          have c4 : w6.cell? ⟨g5, 4, none⟩ = some (.int .u32 vo) := HX6.out.2.2.2.1.cell_ (i := 4) rfl
                          have f5 := HX6.out.2.2.2.1.frozen 3
                          have hne1 : ¬ g = g5 := by have := HX6.out.1; omega
                          have hne2 : ¬ g5 = g := by have := HX6.out.1; omega
                          have hne3 : ¬ gp = g5 := by have := HX6.out.1; omega
                          have hne4 : ¬ g5 = gp := by have := HX6.out.1; omega
                          have z0 : w6.cell? ⟨g, 0, none⟩ = some (.int .i64 0) := HX6.out.2.2.1.cell_ (i := 0) rfl
                          have z1 : w6.cell? ⟨g, 1, none⟩ = some (.int .i64 0) := HX6.out.2.2.1.cell_ (i := 1) rfl
                          have z2 : w6.cell? ⟨g, 2, none⟩ = some (.int .u32 0) := HX6.out.2.2.1.cell_ (i := 2) rfl
                          have z3 : w6.cell? ⟨g, 3, none⟩ = some (.int .u32 0) := HX6.out.2.2.1.cell_ (i := 3) rfl
                          have z4 : w6.cell? ⟨g, 4, none⟩ = some (.int .u32 0) := HX6.out.2.2.1.cell_ (i := 4) rfl
                          have f0 : w6.frozen? ⟨g, 0, none⟩ = false := HX6.out.2.2.1.frozen 0
                          have f1 : w6.frozen? ⟨g, 1, none⟩ = false := HX6.out.2.2.1.frozen 1
                          have f2 : w6.frozen? ⟨g, 2, none⟩ = false := HX6.out.2.2.1.frozen 2
                          have f3 : w6.frozen? ⟨g, 3, none⟩ = false := HX6.out.2.2.1.frozen 3
                          have f4 : w6.frozen? ⟨g, 4, none⟩ = false := HX6.out.2.2.1.frozen 4
                          go_wp2
                          refine post_row_tmp Tryd.results13 (by rfl) ((((((HX6.out.2.2.1.far (p := ⟨g5, 3, none⟩) hne1 _).set 0 _).set 1 _).set 2 _).set 3 _).set 4 _) Tryd.underlying24 rfl (by kernel_rfl) rfl ⟨.inr ⟨HNO.out, rfl⟩, ?_⟩
                          obtain ⟨hgw1, hgw2, hgw3⟩ := HX6.out.1
                          have hO := HX6.out.2.1
                          (repeat' (first | (with_reducible exact Only.refl _ _) | (with_reducible assumption) | (with_reducible refine Only.setCell ?_ ?_ _) | (with_reducible refine Only.drewN ?_ _) | (with_reducible refine Only.drew ?_) | (with_reducible refine Only.alloc ?_ _) | (left; simp; done) | (left; simp; omega) | (right; rfl)))
                        · have HYY := Lib.hid (show L[3]? = some (hex8 vy) by rw [HX3.out, ← HSL3.out, hyes rfl])
                          clear hyes hno lo hi
                          have c0 : w6.cell? ⟨g5, 0, none⟩ = some (.int .i64 5) := HX6.out.2.2.2.1.cell_ (i := 0) rfl
                          have c1 : w6.cell? ⟨g5, 1, none⟩ = some (.int .i64 d) := HX6.out.2.2.2.1.cell_ (i := 1) rfl
                          have c2 : w6.cell? ⟨g5, 2, none⟩ = some (.int .u32 vx) := HX6.out.2.2.2.1.cell_ (i := 2) rfl
                          have c3 : w6.cell? ⟨g5, 3, none⟩ = some (.int .u32 0) := HX6.out.2.2.2.1.cell_ (i := 3) rfl
                          have c4 : w6.cell? ⟨g5, 4, none⟩ = some (.int .u32 vo) := HX6.out.2.2.2.1.cell_ (i := 4) rfl
                          have f5 := HX6.out.2.2.2.1.frozen 3
                          have hne1 : ¬ g = g5 := by have := HX6.out.1; omega
                          have hne2 : ¬ g5 = g := by have := HX6.out.1; omega
                          have hne3 : ¬ gp = g5 := by have := HX6.out.1; omega
                          have hne4 : ¬ g5 = gp := by have := HX6.out.1; omega
                          have z0 : w6.cell? ⟨g, 0, none⟩ = some (.int .i64 0) := HX6.out.2.2.1.cell_ (i := 0) rfl
                          have z1 : w6.cell? ⟨g, 1, none⟩ = some (.int .i64 0) := HX6.out.2.2.1.cell_ (i := 1) rfl
                          have z2 : w6.cell? ⟨g, 2, none⟩ = some (.int .u32 0) := HX6.out.2.2.1.cell_ (i := 2) rfl
                          have z3 : w6.cell? ⟨g, 3, none⟩ = some (.int .u32 0) := HX6.out.2.2.1.cell_ (i := 3) rfl
                          have z4 : w6.cell? ⟨g, 4, none⟩ = some (.int .u32 0) := HX6.out.2.2.1.cell_ (i := 4) rfl
                          have f0 : w6.frozen? ⟨g, 0, none⟩ = false := HX6.out.2.2.1.frozen 0
                          have f1 : w6.frozen? ⟨g, 1, none⟩ = false := HX6.out.2.2.1.frozen 1
                          have f2 : w6.frozen? ⟨g, 2, none⟩ = false := HX6.out.2.2.1.frozen 2
                          have f3 : w6.frozen? ⟨g, 3, none⟩ = false := HX6.out.2.2.1.frozen 3
                          have f4 : w6.frozen? ⟨g, 4, none⟩ = false := HX6.out.2.2.1.frozen 4
                          have HAS := Lib.hid (show Has s.data.toList ⟨5, d, vx, vy, vo⟩ from has_done (W0 := W0) (XW := XW) (X1 := X1) HCUT.out (by omega) (by omega) (by rw [HCN.out, HN.out]) hW0.out HKL.out (by rw [HX1.out, ← HXS.out, HXD.out]; rfl) (by omega) (by omega) (by rw [HCN.out, ← HWL.out]; exact HXW.out) (by rw [HCN.out]; exact HYO.out) HBO.out (.inr ⟨by omega, HYX.out, HBX.out⟩) (.inr ⟨by omega, HYY.out, HBY.out⟩))
                          go_wp2
                          refine post_row_tmp Tryd.results13 (by rfl) ((((((HX6.out.2.2.1.far (p := ⟨g5, 3, none⟩) hne1 _).set 0 _).set 1 _).set 2 _).set 3 _).set 4 _) Tryd.underlying24 rfl (by kernel_rfl) rfl ⟨.inl ⟨⟨5, d, vx, vy, vo⟩, HAS.out, rfl⟩, ?_⟩
                          obtain ⟨hgw1, hgw2, hgw3⟩ := HX6.out.1
                          have hO := HX6.out.2.1
                          (repeat' (first | (with_reducible exact Only.refl _ _) | (with_reducible assumption) | (with_reducible refine Only.setCell ?_ ?_ _) | (with_reducible refine Only.drewN ?_ _) | (with_reducible refine Only.drew ?_) | (with_reducible refine Only.alloc ?_ _) | (left; simp; done) | (left; simp; omega) | (right; rfl)))
                · have HNO := Lib.hid (show ∀ b, ¬ Has s.data.toList b from fun b hb => hDS (HDB.out.1 (by
                    obtain ⟨h1, h2, h3⟩ := HDV.out b hb
                    rw [h1]
                    unfold decL
                    rw [show b.c.toNat = d by omega])))
                  have hq : (D.toList == S.toList) = false := by rw [beq_str]; exact decide_eq_false hDS
                  clear hDS
                  go_wp2
                  refine wp_region_held_drew (S := fun w' => w'.cell? ⟨g5, 1, none⟩ = some (.int .i64 d) ∧ w'.cell? ⟨gp, 1, none⟩ = some (.string S) ∧ Only Nil wr w') (by kernel_rfl) ⟨e5, e1, (Only.refl _ _).drew⟩ (fun hHeld => ?_)
                  refine take_0 (.pointer (some ⟨g5, 1, none⟩)) (by kernel_rfl) (by kernel_rfl) (by kernel_rfl) (fun _ _ _ h => h) (by rfl) (fun w hSw => ?_) (by assumption) ?_
                  · (try dsimp only at hSw)
                    go_split_ands
                    go_simp
                  (try simp only [Act.put, List.setIfInBounds_toArray, List.set_cons_zero, List.set_cons_succ])
                  refine take_1 (.int .i64 d) (by kernel_rfl) (by kernel_rfl) (by kernel_rfl) (fun _ _ _ h => h) (by rfl) (fun w hSw => ?_) (by assumption) ?_
                  · (try dsimp only at hSw)
                    go_split_ands
                    go_simp
                  (try simp only [Act.put, List.setIfInBounds_toArray, List.set_cons_zero, List.set_cons_succ])
                  refine take_3 (.slice (some ⟨gp, 0, none⟩) 6 cp) (by kernel_rfl) (by kernel_rfl) (by kernel_rfl) (fun _ _ _ h => h) (by rfl) (fun w hSw => ?_) (by assumption) ?_
                  · (try dsimp only at hSw)
                    go_split_ands
                    go_simp
                  (try simp only [Act.put, List.setIfInBounds_toArray, List.set_cons_zero, List.set_cons_succ])
                  refine take_4 (.pointer (some ⟨gp, 1, none⟩)) (by kernel_rfl) (by kernel_rfl) (by kernel_rfl) (fun _ _ _ h => h) (by rfl) (fun w hSw => ?_) (by assumption) ?_
                  · (try dsimp only at hSw)
                    go_split_ands
                    go_simp
                  (try simp only [Act.put, List.setIfInBounds_toArray, List.set_cons_zero, List.set_cons_succ])
                  refine take_5 (.string S) (by kernel_rfl) (by kernel_rfl) (by kernel_rfl) (fun _ _ _ h => h) (by rfl) (fun w hSw => ?_) (by assumption) ?_
                  · (try dsimp only at hSw)
                    go_split_ands
                    go_simp
                  (try simp only [Act.put, List.setIfInBounds_toArray, List.set_cons_zero, List.set_cons_succ])
                  refine call_2 (by kernel_rfl) (by rfl) (fun K hK => ?_)
                  go_simp
                  refine (HT3.out _).mono ?_
                  rintro e w4 ⟨rfl, hO⟩
                  have hO4 : Only Nil wr w4 := (Only.refl Nil wr).drew.trans hO
                  refine hK.out _ _ ⟨(hO4.cell (World.block_lt_of_cell? _ _ e5) id).trans e5, (hO4.cell (World.block_lt_of_cell? _ _ e1) id).trans e1, hO4⟩ (fun hHeld2 => ?_)
                  clear hK K hHeld hO
                  (try simp only [Act.put, List.setIfInBounds_toArray, List.set_cons_zero, List.set_cons_succ])
                  refine take_6 (.bool true) (by kernel_rfl) (by kernel_rfl) (by kernel_rfl) (fun _ _ _ h => h) (by rfl) (fun w hSw => ?_) (by assumption) ?_
                  · (try dsimp only at hSw)
                    go_split_ands
                    go_simp
                  (try simp only [Act.put, List.setIfInBounds_toArray, List.set_cons_zero, List.set_cons_succ])
                  refine take_7 (.bool true) (by kernel_rfl) (by kernel_rfl) (by kernel_rfl) (fun _ _ _ h => h) (by rfl) (fun w hSw => ?_) (by assumption) ?_
                  · (try dsimp only at hSw)
                    go_split_ands
                    go_simp
                  (try simp only [Act.put, List.setIfInBounds_toArray, List.set_cons_zero, List.set_cons_succ])
                  refine pass_8 (by kernel_rfl) (by kernel_rfl) (by kernel_rfl) (fun _ _ _ h => h) (by rfl) (by assumption) ?_
                  (try simp only [Act.put, List.setIfInBounds_toArray, List.set_cons_zero, List.set_cons_succ])
                  refine pass_9 (by kernel_rfl) (by kernel_rfl) (by kernel_rfl) (fun _ _ _ h => h) (by rfl) (by assumption) ?_
                  (try simp only [Act.put, List.setIfInBounds_toArray, List.set_cons_zero, List.set_cons_succ])
                  refine pass_10 (by kernel_rfl) (by kernel_rfl) (by kernel_rfl) (fun _ _ _ h => h) (by rfl) (by assumption) ?_
                  (try simp only [Act.put, List.setIfInBounds_toArray, List.set_cons_zero, List.set_cons_succ])
                  refine take_11 (.bool true) (by kernel_rfl) (by kernel_rfl) (by kernel_rfl) (fun _ _ _ h => h) (by rfl) (fun w hSw => ?_) (by assumption) ?_
                  · (try dsimp only at hSw)
                    go_split_ands
                    go_simp
                  (try simp only [Act.put, List.setIfInBounds_toArray, List.set_cons_zero, List.set_cons_succ])
                  refine wpAnyH_done (by kernel_rfl) ?_ _
                  have HX4 := Lib.hid (HS.out.only hO4)
                  clear hHeld2 hO4 e1 e5
                  have z0 : w4.cell? ⟨g, 0, none⟩ = some (.int .i64 0) := HX4.out.2.2.1.cell_ (i := 0) rfl
                  have z1 : w4.cell? ⟨g, 1, none⟩ = some (.int .i64 0) := HX4.out.2.2.1.cell_ (i := 1) rfl
                  have z2 : w4.cell? ⟨g, 2, none⟩ = some (.int .u32 0) := HX4.out.2.2.1.cell_ (i := 2) rfl
                  have z3 : w4.cell? ⟨g, 3, none⟩ = some (.int .u32 0) := HX4.out.2.2.1.cell_ (i := 3) rfl
                  have z4 : w4.cell? ⟨g, 4, none⟩ = some (.int .u32 0) := HX4.out.2.2.1.cell_ (i := 4) rfl
                  have f0 : w4.frozen? ⟨g, 0, none⟩ = false := HX4.out.2.2.1.frozen 0
                  have f1 : w4.frozen? ⟨g, 1, none⟩ = false := HX4.out.2.2.1.frozen 1
                  have f2 : w4.frozen? ⟨g, 2, none⟩ = false := HX4.out.2.2.1.frozen 2
                  have f3 : w4.frozen? ⟨g, 3, none⟩ = false := HX4.out.2.2.1.frozen 3
                  have f4 : w4.frozen? ⟨g, 4, none⟩ = false := HX4.out.2.2.1.frozen 4
                  go_wp2
                  refine post_row_tmp Tryd.results13 (by rfl) (((((HX4.out.2.2.1.set 0 _).set 1 _).set 2 _).set 3 _).set 4 _) Tryd.underlying24 rfl (by kernel_rfl) rfl ⟨.inr ⟨HNO.out, rfl⟩, ?_⟩
                  have hgw := HX4.out.1.1
                  have hO := HX4.out.2.1
                  (repeat' (first | (with_reducible exact Only.refl _ _) | (with_reducible assumption) | (with_reducible refine Only.setCell ?_ ?_ _) | (with_reducible refine Only.drewN ?_ _) | (with_reducible refine Only.drew ?_) | (with_reducible refine Only.alloc ?_ _) | (left; simp; done) | (left; simp; omega) | (right; rfl)))
          · have HNO := Lib.hid (show ∀ b, ¬ Has s.data.toList b from fun b hb => hl4 (by
              have h1 := (has_facts hb).2.2.2.1
              rw [HCUT.out, HX1.out] at h1
              injection h1 with h1
              rw [h1]
              exact dec_len (k := 4) (by omega) (by have := hb.2.1.c1; have := hb.2.1.c0; omega)))
            have hs4 : ¬ ((bs X1).size : Int) ≤ 4 := by rw [bs_size]; omega
            clear hl4
            generalize bs X1 = S at *
            have z0 : (wr.alloc (.cells #[.int .i64 0, .int .i64 4, .int .i64 5, .int .i64 5, .int .i64 5, .int .i64 6] 3)).cell? ⟨g, 0, none⟩ = some (.int .i64 0) := HM.out.2.2.1.cell_ (i := 0) rfl
            have z1 : (wr.alloc (.cells #[.int .i64 0, .int .i64 4, .int .i64 5, .int .i64 5, .int .i64 5, .int .i64 6] 3)).cell? ⟨g, 1, none⟩ = some (.int .i64 0) := HM.out.2.2.1.cell_ (i := 1) rfl
            have z2 : (wr.alloc (.cells #[.int .i64 0, .int .i64 4, .int .i64 5, .int .i64 5, .int .i64 5, .int .i64 6] 3)).cell? ⟨g, 2, none⟩ = some (.int .u32 0) := HM.out.2.2.1.cell_ (i := 2) rfl
            have z3 : (wr.alloc (.cells #[.int .i64 0, .int .i64 4, .int .i64 5, .int .i64 5, .int .i64 5, .int .i64 6] 3)).cell? ⟨g, 3, none⟩ = some (.int .u32 0) := HM.out.2.2.1.cell_ (i := 3) rfl
            have z4 : (wr.alloc (.cells #[.int .i64 0, .int .i64 4, .int .i64 5, .int .i64 5, .int .i64 5, .int .i64 6] 3)).cell? ⟨g, 4, none⟩ = some (.int .u32 0) := HM.out.2.2.1.cell_ (i := 4) rfl
            have f0 : (wr.alloc (.cells #[.int .i64 0, .int .i64 4, .int .i64 5, .int .i64 5, .int .i64 5, .int .i64 6] 3)).frozen? ⟨g, 0, none⟩ = false := HM.out.2.2.1.frozen 0
            have f1 : (wr.alloc (.cells #[.int .i64 0, .int .i64 4, .int .i64 5, .int .i64 5, .int .i64 5, .int .i64 6] 3)).frozen? ⟨g, 1, none⟩ = false := HM.out.2.2.1.frozen 1
            have f2 : (wr.alloc (.cells #[.int .i64 0, .int .i64 4, .int .i64 5, .int .i64 5, .int .i64 5, .int .i64 6] 3)).frozen? ⟨g, 2, none⟩ = false := HM.out.2.2.1.frozen 2
            have f3 : (wr.alloc (.cells #[.int .i64 0, .int .i64 4, .int .i64 5, .int .i64 5, .int .i64 5, .int .i64 6] 3)).frozen? ⟨g, 3, none⟩ = false := HM.out.2.2.1.frozen 3
            have f4 : (wr.alloc (.cells #[.int .i64 0, .int .i64 4, .int .i64 5, .int .i64 5, .int .i64 5, .int .i64 6] 3)).frozen? ⟨g, 4, none⟩ = false := HM.out.2.2.1.frozen 4
            go_wp2
            refine post_row_tmp Tryd.results13 (by rfl) (((((HM.out.2.2.1.set 0 _).set 1 _).set 2 _).set 3 _).set 4 _) Tryd.underlying24 rfl (by kernel_rfl) rfl ⟨.inr ⟨HNO.out, rfl⟩, ?_⟩
            have hgw := HM.out.1.1
            have hO := HM.out.2.1
            (repeat' (first | (with_reducible exact Only.refl _ _) | (with_reducible assumption) | (with_reducible refine Only.setCell ?_ ?_ _) | (with_reducible refine Only.drewN ?_ _) | (with_reducible refine Only.drew ?_) | (with_reducible refine Only.alloc ?_ _) | (left; simp; done) | (left; simp; omega) | (right; rfl)))
        · have HNO := Lib.hid (show ∀ b, ¬ Has s.data.toList b from fun b hb => hwas (by
            have h1 := has_facts hb
            rw [HCUT.out] at h1
            have hc : cnt b.k = 6 := by rw [← h1.2.1, HN.out]
            have h2 := h1.2.2.1
            rw [hc, HXW.out] at h2
            injection h2))
          have hwb := was_no hwas
          have hwc := beq_eq_false_iff_ne.1 hwb
          clear hwas
          generalize bs XW = SW at *
          generalize bs X1 = S at *
          have z0 : (wr.alloc (.cells #[.int .i64 0, .int .i64 4, .int .i64 5, .int .i64 5, .int .i64 5, .int .i64 6] 3)).cell? ⟨g, 0, none⟩ = some (.int .i64 0) := HM.out.2.2.1.cell_ (i := 0) rfl
          have z1 : (wr.alloc (.cells #[.int .i64 0, .int .i64 4, .int .i64 5, .int .i64 5, .int .i64 5, .int .i64 6] 3)).cell? ⟨g, 1, none⟩ = some (.int .i64 0) := HM.out.2.2.1.cell_ (i := 1) rfl
          have z2 : (wr.alloc (.cells #[.int .i64 0, .int .i64 4, .int .i64 5, .int .i64 5, .int .i64 5, .int .i64 6] 3)).cell? ⟨g, 2, none⟩ = some (.int .u32 0) := HM.out.2.2.1.cell_ (i := 2) rfl
          have z3 : (wr.alloc (.cells #[.int .i64 0, .int .i64 4, .int .i64 5, .int .i64 5, .int .i64 5, .int .i64 6] 3)).cell? ⟨g, 3, none⟩ = some (.int .u32 0) := HM.out.2.2.1.cell_ (i := 3) rfl
          have z4 : (wr.alloc (.cells #[.int .i64 0, .int .i64 4, .int .i64 5, .int .i64 5, .int .i64 5, .int .i64 6] 3)).cell? ⟨g, 4, none⟩ = some (.int .u32 0) := HM.out.2.2.1.cell_ (i := 4) rfl
          have f0 : (wr.alloc (.cells #[.int .i64 0, .int .i64 4, .int .i64 5, .int .i64 5, .int .i64 5, .int .i64 6] 3)).frozen? ⟨g, 0, none⟩ = false := HM.out.2.2.1.frozen 0
          have f1 : (wr.alloc (.cells #[.int .i64 0, .int .i64 4, .int .i64 5, .int .i64 5, .int .i64 5, .int .i64 6] 3)).frozen? ⟨g, 1, none⟩ = false := HM.out.2.2.1.frozen 1
          have f2 : (wr.alloc (.cells #[.int .i64 0, .int .i64 4, .int .i64 5, .int .i64 5, .int .i64 5, .int .i64 6] 3)).frozen? ⟨g, 2, none⟩ = false := HM.out.2.2.1.frozen 2
          have f3 : (wr.alloc (.cells #[.int .i64 0, .int .i64 4, .int .i64 5, .int .i64 5, .int .i64 5, .int .i64 6] 3)).frozen? ⟨g, 3, none⟩ = false := HM.out.2.2.1.frozen 3
          have f4 : (wr.alloc (.cells #[.int .i64 0, .int .i64 4, .int .i64 5, .int .i64 5, .int .i64 5, .int .i64 6] 3)).frozen? ⟨g, 4, none⟩ = false := HM.out.2.2.1.frozen 4
          go_wp2
          refine post_row_tmp Tryd.results13 (by rfl) (((((HM.out.2.2.1.set 0 _).set 1 _).set 2 _).set 3 _).set 4 _) Tryd.underlying24 rfl (by kernel_rfl) rfl ⟨.inr ⟨HNO.out, rfl⟩, ?_⟩
          have hgw := HM.out.1.1
          have hO := HM.out.2.1
          (repeat' (first | (with_reducible exact Only.refl _ _) | (with_reducible assumption) | (with_reducible refine Only.setCell ?_ ?_ _) | (with_reducible refine Only.drewN ?_ _) | (with_reducible refine Only.drew ?_) | (with_reducible refine Only.alloc ?_ _) | (left; simp; done) | (left; simp; omega) | (right; rfl)))
      · have hnb : ((n : Int) == 6) = false := by simp; omega
        have HNO := Lib.hid (show ∀ b, ¬ Has s.data.toList b from fun b hb => hn ((HFB.out b hb).2.trans HCN.out))
        clear HT
        have z0 : (wr.alloc (.cells #[.int .i64 0, .int .i64 4, .int .i64 5, .int .i64 5, .int .i64 5, .int .i64 6] 3)).cell? ⟨g, 0, none⟩ = some (.int .i64 0) := HM.out.2.2.1.cell_ (i := 0) rfl
        have z1 : (wr.alloc (.cells #[.int .i64 0, .int .i64 4, .int .i64 5, .int .i64 5, .int .i64 5, .int .i64 6] 3)).cell? ⟨g, 1, none⟩ = some (.int .i64 0) := HM.out.2.2.1.cell_ (i := 1) rfl
        have z2 : (wr.alloc (.cells #[.int .i64 0, .int .i64 4, .int .i64 5, .int .i64 5, .int .i64 5, .int .i64 6] 3)).cell? ⟨g, 2, none⟩ = some (.int .u32 0) := HM.out.2.2.1.cell_ (i := 2) rfl
        have z3 : (wr.alloc (.cells #[.int .i64 0, .int .i64 4, .int .i64 5, .int .i64 5, .int .i64 5, .int .i64 6] 3)).cell? ⟨g, 3, none⟩ = some (.int .u32 0) := HM.out.2.2.1.cell_ (i := 3) rfl
        have z4 : (wr.alloc (.cells #[.int .i64 0, .int .i64 4, .int .i64 5, .int .i64 5, .int .i64 5, .int .i64 6] 3)).cell? ⟨g, 4, none⟩ = some (.int .u32 0) := HM.out.2.2.1.cell_ (i := 4) rfl
        have f0 : (wr.alloc (.cells #[.int .i64 0, .int .i64 4, .int .i64 5, .int .i64 5, .int .i64 5, .int .i64 6] 3)).frozen? ⟨g, 0, none⟩ = false := HM.out.2.2.1.frozen 0
        have f1 : (wr.alloc (.cells #[.int .i64 0, .int .i64 4, .int .i64 5, .int .i64 5, .int .i64 5, .int .i64 6] 3)).frozen? ⟨g, 1, none⟩ = false := HM.out.2.2.1.frozen 1
        have f2 : (wr.alloc (.cells #[.int .i64 0, .int .i64 4, .int .i64 5, .int .i64 5, .int .i64 5, .int .i64 6] 3)).frozen? ⟨g, 2, none⟩ = false := HM.out.2.2.1.frozen 2
        have f3 : (wr.alloc (.cells #[.int .i64 0, .int .i64 4, .int .i64 5, .int .i64 5, .int .i64 5, .int .i64 6] 3)).frozen? ⟨g, 3, none⟩ = false := HM.out.2.2.1.frozen 3
        have f4 : (wr.alloc (.cells #[.int .i64 0, .int .i64 4, .int .i64 5, .int .i64 5, .int .i64 5, .int .i64 6] 3)).frozen? ⟨g, 4, none⟩ = false := HM.out.2.2.1.frozen 4
        go_wp2
        refine post_row_tmp Tryd.results13 (by rfl) (((((HM.out.2.2.1.set 0 _).set 1 _).set 2 _).set 3 _).set 4 _) Tryd.underlying24 rfl (by kernel_rfl) rfl ⟨.inr ⟨HNO.out, rfl⟩, ?_⟩
        have hgw := HM.out.1.1
        have hO := HM.out.2.1
        (repeat' (first | (with_reducible exact Only.refl _ _) | (with_reducible assumption) | (with_reducible refine Only.setCell ?_ ?_ _) | (with_reducible refine Only.drewN ?_ _) | (with_reducible refine Only.drew ?_) | (with_reducible refine Only.alloc ?_ _) | (left; simp; done) | (left; simp; omega) | (right; rfl)))
end Go.Proofs.YtlccmhlbkgojlaaDoor
