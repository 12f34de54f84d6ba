/- ParkOnce: the walk. -/
import Derived.Test.YtcdndaobdhbplaaParkAw
import Derived.Test.YtcdndaobdhbplaaRefC
set_option linter.unusedVariables false
set_option linter.unusedSimpArgs false
namespace Go.Proofs.Ytcdndaobdhbplaa
open Go.RowKit

/-- The words when the permit was given so often. -/
def given (S : Nat) (k a : Int) (j : Nat) : List Int := if j = 0 then List.replicate S 0 else st (List.replicate S 0) (pc k a) 1
theorem word_zeros (S : Nat) (c : Int) : wordAt (List.replicate S 0) c = 0 := by
  unfold wordAt
  split
  · simp only [List.getD, List.getElem?_replicate]; split <;> rfl
  · rfl
theorem hasP_zeros (S : Nat) (k a : Int) : hasP (List.replicate S 0) k a = false := by unfold hasP; rw [word_zeros]; rfl
theorem there_zeros {S : Nat} {k a : Int} (hk : 1 ≤ k ∧ k ≤ 64) (hS : 8 + 4 * k = S) (ha : 0 ≤ a ∧ a < k) : there (List.replicate S 0) (pc k a) = true := by
  rw [pc_of hk ha]
  simp only [there, List.length_replicate, decide_eq_true_eq]
  omega
theorem given_len (S : Nat) (k a : Int) (j : Nat) : (given S k a j).length = S := by
  unfold given
  split
  · simp
  · rw [st_len]; simp
theorem given_there {S : Nat} {k a : Int} (hk : 1 ≤ k ∧ k ≤ 64) (hS : 8 + 4 * k = S) (ha : 0 ≤ a ∧ a < k) (j : Nat) : there (given S k a j) (pc k a) = true := by
  unfold given
  split
  · exact there_zeros hk hS ha
  · rw [there_st]; exact there_zeros hk hS ha
theorem given_next (S : Nat) (k a : Int) (j : Nat) : st (given S k a j) (pc k a) 1 = given S k a (j + 1) := by
  have h2 : given S k a (j + 1) = st (List.replicate S 0) (pc k a) 1 := if_neg (by omega)
  rw [h2]
  unfold given
  split
  · rfl
  · rw [st_st]
theorem given_has {S : Nat} {k a : Int} (hk : 1 ≤ k ∧ k ≤ 64) (hS : 8 + 4 * k = S) (ha : 0 ≤ a ∧ a < k) (j : Nat) : hasP (given S k a j) k a = decide ((0 : Int) < j) := by
  unfold given
  split
  · rename_i h; subst h; rw [hasP_zeros]; rfl
  · rename_i h
    rw [hasP_st 1 (there_zeros hk hS ha)]
    have : (0 : Int) < j := by omega
    rw [decide_eq_true this]; rfl
theorem given_far {S : Nat} {k a b : Int} (hk : 1 ≤ k ∧ k ≤ 64) (ha : 0 ≤ a ∧ a < k) (hb : 0 ≤ b ∧ b < k) (hab : a ≠ b) (j : Nat) : hasP (given S k a j) k b = false := by
  unfold given
  split
  · exact hasP_zeros S k b
  · rw [hasP_far 1 (by rw [pc_of hk ha, pc_of hk hb]; omega)]; exact hasP_zeros S k b
theorem given_back {S : Nat} {k a : Int} (j : Nat) : st (given S k a j) (pc k a) 0 = List.replicate S 0 := by
  have h0 : st (List.replicate S 0) (pc k a) 0 = List.replicate S 0 := st_none (hasP_zeros S k a)
  unfold given
  split
  · exact h0
  · rw [st_st, h0]

set_option maxRecDepth 100000 in
set_option maxHeartbeats 1600000 in
theorem walk_parkOnce (a0 a1 a2 a3 : Int) (w : World) (w0 : (Lit.int .u8 a0).wf = true) (w1 : (Lit.int .u8 a1).wf = true) (w2 : (Lit.int .u8 a2).wf = true) (w3 : (Lit.int .u8 a3).wf = true) :
    Calls Try.prog 4 #[.int .u8 a0, .int .u8 a1, .int .u8 a2, .int .u8 a3] w fun e w' => e = .returned (.bool true) ∧ Below w.heap.size w w' := by
  have q0 := wf_u8 w0
  have q1 := wf_u8 w1
  have q2 := wf_u8 w2
  have q3 := wf_u8 w3
  clear w0 w1 w2 w3
  obtain ⟨p0, p0'⟩ := q0
  obtain ⟨p1, p1'⟩ := q1
  obtain ⟨p2, p2'⟩ := q2
  obtain ⟨p3, p3'⟩ := q3
  go_enter Try.func4, Try.ntmps4
  go_wp2_with fail
  have hk : 1 ≤ 1 + a0 % 64 ∧ 1 + a0 % 64 ≤ 64 := by omega
  generalize 1 + a0 % 64 = k at *
  have hk0 : ¬ k = 0 := by omega
  obtain ⟨k1, k2⟩ := hk
  obtain ⟨S, hS⟩ : ∃ S : Nat, 8 + 4 * k = S := ⟨(8 + 4 * k).toNat, by omega⟩
  have HK := Lib.hid (show 1 ≤ k ∧ k ≤ 64 from ⟨k1, k2⟩)
  have HS := Lib.hid hS
  have hz : sizeI k = S := by rw [← hS]; exact if_pos ⟨k1, k2⟩
  have hsl : S ≤ 264 := by omega
  refine (first4 k S _ ⟨k1, k2⟩ hz).mono ?_
  clear hS hz
  intro e w1 hF
  obtain ⟨g, rfl, hg, hH, hO, hgl⟩ := hF
  have HH := Lib.hid hH
  have HO1 := Lib.hid hO
  clear hH hO hg hgl
  go_wp2_with fail
  refine (from_ok (some ⟨g, 0, none⟩) S S (List.replicate S 0) _ (by omega) HH.out).mono ?_
  intro e w2 hF
  obtain ⟨b, A', c', rfl, hb, hA, hM, hO⟩ := hF
  have HM0 : Hid (Memo w2 (some ⟨b, 0, none⟩) A' c' (List.replicate S 0)) := Lib.hid (Memo.of hM)
  have hl : ∀ j, At (some (⟨b, 0, none⟩ : Addr)) j ∨ At A' j → w1.heap.size ≤ j ∧ j < w2.heap.size := fun j hj => by
    refine ⟨?_, HM0.out.lt j hj⟩
    rcases hj with ⟨a, ha, rfl⟩ | hj
    · cases ha; exact hb
    · exact hA j hj
  have HL := Lib.hid hl
  have HO2 : Hid (Only Nil w1 w2) := Lib.hid hO
  clear hM hO hA hb hl
  have HK0 : Hid (Lk w1 w2.heap.size (some ⟨b, 0, none⟩) A' c' k (w2.alloc (Obj.cells #[Value.int IntKind.i64 k] 30)) (List.replicate S 0)) :=
    Lib.hid ⟨HO2.out.alloc _, HM0.out.keep ((Only.refl Nil _).alloc _), Row.new _ _ _, HL.out⟩
  go_wp2
  go_quiet (fail)
  go_wp2
  have ha : 0 ≤ a1 % k ∧ a1 % k < k := ⟨Int.emod_nonneg _ hk0, Int.emod_lt_of_pos _ (by omega)⟩
  have hc : 0 ≤ a2 % k ∧ a2 % k < k := ⟨Int.emod_nonneg _ hk0, Int.emod_lt_of_pos _ (by omega)⟩
  generalize a1 % k = a at *
  generalize a2 % k = c at *
  have HA := Lib.hid ha
  have HC := Lib.hid hc
  have hm : 0 ≤ a3 % 20 ∧ a3 % 20 < 20 := by omega
  obtain ⟨m1, m2⟩ := hm
  have HK1 : Hid (Lk w1 w2.heap.size (some ⟨b, 0, none⟩) A' c' k ((w2.alloc (Obj.cells #[Value.int IntKind.i64 k] 30)).drewN nq) (List.replicate S 0)) := Lib.hid (HK0.out.keep ((Only.refl Nil _).drewN _))
  clear ha hc
  generalize hB : w2.heap.size = B at *
  clear hB
  go_loopw [17] (fun i wr => ∃ j : Nat, (j : Int) ≤ a3 % 20 ∧ i = .int .i64 j ∧ Lk w1 B (some ⟨b, 0, none⟩) A' c' k wr (given S k a j)) (fun i _ => (a3 % 20).toNat - (intOf i).toNat)
  case atStart => exact ⟨0, by omega, rfl, HK1.out⟩
  case round =>
    obtain ⟨j, hj, rfl, hl⟩ := hrel
    have HL2 := Lib.hid hl
    have c0 := hl.map.cell_ (i := 0) rfl
    have l0 := hl.map.lt
    clear hl
    by_cases hlt : (j : Int) < a3 % 20
    · go_wp2_with fail
      refine (give_any (some ⟨b, 0, none⟩) A' c' (given S k a j) k a _ HL2.out.memo).mono ?_
      obtain ⟨k', c1, x', y', hv⟩ := doVal_form (given S k a j) 2 (pc k a) 1 0
      rw [hv, given_there HK.out HS.out HA.out j, given_next]
      generalize (if doOk (given S k a j) 2 (pc k a) then wordAt (given S k a j) (pc k a) else 0) = o'
      rintro e w4 ⟨rfl, hO, hM⟩
      have HL3 := Lib.hid (HL2.out.call hO hM)
      clear hO hM hv c0 l0
      go_wp2
      exact ⟨⟨j + 1, by omega, by go_num, HL3.out.alloc _⟩, by simp [intOf]; omega⟩
    · have hjm : (j : Int) = a3 % 20 := by omega
      have hh : Hid (hasP (given S k a j) k a = decide (0 < a3 % 20)) := Lib.hid (by rw [given_has HK.out HS.out HA.out j, hjm])
      have HT := Lib.hid (given_back (S := S) (k := k) (a := a) j)
      have HZ := Lib.hid (hasP_zeros S k a)
      have HTZ := Lib.hid (st_none (hasP_zeros S k a))
      have hd : Hid (a ≠ c → hasP (given S k a j) k c = false) := Lib.hid fun h => given_far HK.out HA.out HC.out h j
      have htv : Hid (∃ k' c' x' y' o', takeVal (given S k a j) k a = .agg #[.int .i64 k', .int .i64 c', .int .u32 x', .int .u32 y', .int .u32 o']) := Lib.hid (by unfold takeVal accOf; split; exact ⟨_, _, _, _, _, rfl⟩; exact ⟨_, _, _, _, _, rfl⟩)
      have htz : Hid (takeVal (List.replicate S 0) k a = .agg #[.int .i64 0, .int .i64 0, .int .u32 0, .int .u32 0, .int .u32 0]) := Lib.hid (by unfold takeVal; rw [HZ.out]; rfl)
      generalize given S k a j = zs at *
      by_cases hac : a = c
      · subst hac
        go_wp2_with fail
        refine (has_any (some ⟨b, 0, none⟩) A' c' zs k a _ HL2.out.memo).mono ?_
        generalize decide (0 < a3 % 20) = t at *
        rw [hh.out]
        rintro e w4 ⟨rfl, hO, hM⟩
        have HL4 := Lib.hid (HL2.out.call hO hM)
        have c4 : w4.cell? ⟨B, 0, none⟩ = some (.int .i64 k) := HL4.out.map.cell_ (i := 0) rfl
        have l4 := HL4.out.map.lt
        clear hO hM c0 l0
        go_wp2_with fail
        refine (take_any (some ⟨b, 0, none⟩) A' c' zs k a _ HL4.out.memo).mono ?_
        obtain ⟨k', c1, x', y', o', hv⟩ := htv.out
        rw [hv, hh.out, HT.out]
        rintro e w5 ⟨rfl, hO, hM⟩
        have HL5 := Lib.hid (HL4.out.call hO hM)
        have c5 : w5.cell? ⟨B, 0, none⟩ = some (.int .i64 k) := HL5.out.map.cell_ (i := 0) rfl
        have l5 := HL5.out.map.lt
        clear hO hM hv c4 l4
        go_wp2_with fail
        refine (take_any (some ⟨b, 0, none⟩) A' c' (List.replicate S 0) k a _ (HL5.out.alloc _).memo).mono ?_
        rw [htz.out, HZ.out, HTZ.out]
        rintro e w6 ⟨rfl, hO, hM⟩
        have HL6 := Lib.hid ((HL5.out.alloc _).call hO hM)
        have c6 : w6.cell? ⟨B, 0, none⟩ = some (.int .i64 k) := HL6.out.map.cell_ (i := 0) rfl
        have l6 := HL6.out.map.lt
        clear hO hM c5 l5
        go_wp2_with fail
        refine (has_any (some ⟨b, 0, none⟩) A' c' (List.replicate S 0) k a _ (HL6.out.alloc _).memo).mono ?_
        rw [HZ.out]
        rintro e w7 ⟨rfl, hO, hM⟩
        have HL7 := Lib.hid ((HL6.out.alloc _).call hO hM)
        clear hO hM c6 l6
        go_wp2_with fail
        refine (all_n b A' c' S (List.replicate S 0) _ HL7.out.memo.mem (by simp)).mono ?_
        intro e w8 hF
        obtain ⟨A8, c8, rfl, hOwn, hO⟩ := hF
        have HW8 := Lib.hid hOwn
        have HO8 := Lib.hid hO
        clear hO hOwn
        go_wp2_with fail
        refine (same_n A8 (some ⟨g, 0, none⟩) c8 S S _ _ _ (HW8.out.held_n (by simp)) (HH.out.only (HL7.out.only.trans HO8.out) (fun _ _ => id)) (by omega)).mono ?_
        rw [show decide (List.replicate S (0 : Int) = List.replicate S 0) = true by simp]
        rintro e w9 ⟨rfl, hO⟩
        have HO9 := Lib.hid (HO8.out.trans hO)
        clear hO
        go_wp2_with fail
        refine (awake_any _).mono ?_
        rintro e w10 ⟨rfl, hO⟩
        have HO10 := Lib.hid (HO9.out.trans hO)
        clear hO
        go_wp2
        go_ret
        exact ⟨rfl, (HO1.out.trans (HL7.out.only.trans HO10.out)).below (Nat.le_refl _) (fun _ _ h => h)⟩
      · have hac2 : (a != c) = true := bne_iff_ne.2 hac
        go_wp2_with fail
        refine (has_any (some ⟨b, 0, none⟩) A' c' zs k a _ HL2.out.memo).mono ?_
        generalize decide (0 < a3 % 20) = t at *
        rw [hh.out]
        rintro e w4 ⟨rfl, hO, hM⟩
        have HL3 := Lib.hid (HL2.out.call hO hM)
        have c4 : w4.cell? ⟨B, 0, none⟩ = some (.int .i64 k) := HL3.out.map.cell_ (i := 0) rfl
        have l4 := HL3.out.map.lt
        clear hO hM c0 l0
        go_wp2_with fail
        refine (has_any (some ⟨b, 0, none⟩) A' c' zs k c _ HL3.out.memo).mono ?_
        rw [hd.out hac]
        rintro e w14 ⟨rfl, hO, hM⟩
        have HL4 := Lib.hid (HL3.out.call hO hM)
        clear c4 l4
        have c4 : w14.cell? ⟨B, 0, none⟩ = some (.int .i64 k) := HL4.out.map.cell_ (i := 0) rfl
        have l4 := HL4.out.map.lt
        clear hO hM
        go_wp2_with fail
        refine (take_any (some ⟨b, 0, none⟩) A' c' zs k a _ HL4.out.memo).mono ?_
        obtain ⟨k', c1, x', y', o', hv⟩ := htv.out
        rw [hv, hh.out, HT.out]
        rintro e w5 ⟨rfl, hO, hM⟩
        have HL5 := Lib.hid (HL4.out.call hO hM)
        have c5 : w5.cell? ⟨B, 0, none⟩ = some (.int .i64 k) := HL5.out.map.cell_ (i := 0) rfl
        have l5 := HL5.out.map.lt
        clear hO hM hv c4 l4
        go_wp2_with fail
        refine (take_any (some ⟨b, 0, none⟩) A' c' (List.replicate S 0) k a _ (HL5.out.alloc _).memo).mono ?_
        rw [htz.out, HZ.out, HTZ.out]
        rintro e w6 ⟨rfl, hO, hM⟩
        have HL6 := Lib.hid ((HL5.out.alloc _).call hO hM)
        have c6 : w6.cell? ⟨B, 0, none⟩ = some (.int .i64 k) := HL6.out.map.cell_ (i := 0) rfl
        have l6 := HL6.out.map.lt
        clear hO hM c5 l5
        go_wp2_with fail
        refine (has_any (some ⟨b, 0, none⟩) A' c' (List.replicate S 0) k a _ (HL6.out.alloc _).memo).mono ?_
        rw [HZ.out]
        rintro e w7 ⟨rfl, hO, hM⟩
        have HL7 := Lib.hid ((HL6.out.alloc _).call hO hM)
        clear hO hM c6 l6
        go_wp2_with fail
        refine (all_n b A' c' S (List.replicate S 0) _ HL7.out.memo.mem (by simp)).mono ?_
        intro e w8 hF
        obtain ⟨A8, c8, rfl, hOwn, hO⟩ := hF
        have HW8 := Lib.hid hOwn
        have HO8 := Lib.hid hO
        clear hO hOwn
        go_wp2_with fail
        refine (same_n A8 (some ⟨g, 0, none⟩) c8 S S _ _ _ (HW8.out.held_n (by simp)) (HH.out.only (HL7.out.only.trans HO8.out) (fun _ _ => id)) (by omega)).mono ?_
        rw [show decide (List.replicate S (0 : Int) = List.replicate S 0) = true by simp]
        rintro e w9 ⟨rfl, hO⟩
        have HO9 := Lib.hid (HO8.out.trans hO)
        clear hO
        go_wp2_with fail
        refine (awake_any _).mono ?_
        rintro e w10 ⟨rfl, hO⟩
        have HO10 := Lib.hid (HO9.out.trans hO)
        clear hO
        go_wp2
        go_ret
        exact ⟨rfl, (HO1.out.trans (HL7.out.only.trans HO10.out)).below (Nat.le_refl _) (fun _ _ h => h)⟩
end Go.Proofs.Ytcdndaobdhbplaa
