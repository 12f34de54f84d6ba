/- script's pick of a line. -/
import Derived.Test.YtdneicbbnbbffaaDoorScCut
namespace Go.Proofs.YtdneicbbnbbffaaDoor
open Go.RowKit
set_option linter.unusedVariables false
set_option linter.unusedSimpArgs false
theorem sitoa_any (c : Nat) (w : World) (hc : c ≤ 1048576) (h : LiesS w) :
    Calls Tryd.prog 24 #[.int .i64 c] w fun e w' => e = .returned (.string (bs (Lib.decDigits c))) ∧ Only Nil w w' := by
  refine (Tryd.strconv_Itoa c (by omega) (by omega) w h.pow).mono fun e w' ⟨he, k, os, hw⟩ => ⟨?_, ?_⟩
  · rw [he, Lib.itoa, if_neg (by omega)]; rfl
  · rw [hw]; exact ((Only.refl Nil w).drewN k).trans (grow_only _ os)
theorem has_any (v : Int) (w : World) : Calls Tryd.prog 36 #[.int .i64 v] w fun e w' => e = .returned (.bool (decide (0 ≤ v ∧ v ≤ 999))) ∧ w = w' := by
  by_cases h0 : 0 ≤ v
  · by_cases h1 : v ≤ 999
    · rw [decide_eq_true ⟨h0, h1⟩]
      go_enter Tryd.func36, Tryd.ntmps36
      go_wp2
      go_ret
      exact ⟨rfl, rfl⟩
    · rw [decide_eq_false (fun h => h1 h.2)]
      go_enter Tryd.func36, Tryd.ntmps36
      go_wp2
      go_ret
      exact ⟨rfl, rfl⟩
  · rw [decide_eq_false (fun h => h0 h.1)]
    go_enter Tryd.func36, Tryd.ntmps36
    go_wp2
    go_ret
    exact ⟨rfl, rfl⟩
theorem task_some {w : Bs} {t : Nat} (h : taskN w = some t) : w = Lib.decDigits t ∧ t ≤ 999 := by
  unfold taskN at h
  split at h
  · rename_i h'
    obtain rfl := Option.some.inj h
    refine ⟨h'.2.symm, ?_⟩
    have hm := dec_mem (dval w)
    rw [h'.2] at hm
    have hb := digs_lt _ w rfl hm
    have h3 : 10 ^ w.length ≤ 10 ^ 3 := Nat.pow_le_pow_right (by omega) h'.1
    have h4 : (10 : Nat) ^ 3 = 1000 := by decide
    omega
  · cases h
theorem task_of {t : Nat} (h : t ≤ 999) : taskN (Lib.decDigits t) = some t := by
  unfold taskN
  rw [dval_dec, if_pos ⟨dec_len (by omega) (by omega), rfl⟩]
/-- What taskOf tells. -/
def taskV (w : Bs) : Value := match taskN w with
  | none => .tuple #[.int .i64 0, .bool false]
  | some t => .tuple #[.int .i64 t, .bool true]
theorem task_any (l : Bs) (w : World) (hs : l.length ≤ 100000) (h : LiesS w) : Calls Tryd.prog 34 #[.string (bs l)] w fun e w' => e = .returned (taskV l) ∧ Only Nil w w' := by
  have HA := Lib.hid (atoi_gen (bs l) w (by rw [bs_size]; omega) h.n.syn h.n.rng)
  have H := Lib.hid h
  clear h hs
  go_enter Tryd.func34, Tryd.ntmps34
  go_wp2_with fail
  refine HA.out.mono ?_
  rintro e w1 ⟨v, er, rfl, hO, h1, h2, hv⟩
  have HV := Lib.hid hv
  have HO := Lib.hid hO
  clear hv hO HA
  go_wp2_with fail
  refine (has_any v _).mono ?_
  rintro e w2 ⟨rfl, rfl⟩
  by_cases hr : 0 ≤ v ∧ v ≤ 999
  · rw [decide_eq_true hr]
    obtain ⟨c, rfl⟩ : ∃ c : Nat, v = c := ⟨v.toNat, by omega⟩
    have HI := Lib.hid (sitoa_any c w1 (by omega) (H.out.only HO.out))
    have hq := beq_str (bs (Lib.decDigits c)) (bs l)
    have HR := Lib.hid hr
    clear hr h1 h2
    go_wp2_with fail
    refine HI.out.mono ?_
    rintro e w3 ⟨rfl, hO3⟩
    have HO3 := Lib.hid (HO.out.trans hO3)
    clear hO3 HI
    by_cases he : bs (Lib.decDigits c) = bs l
    · rw [decide_eq_true he] at hq
      have hl : l = Lib.decDigits c := (bs_inj he).symm
      go_wp2
      go_ret2
      refine ⟨?_, HO3.out⟩
      unfold taskV; rw [hl, task_of (by have := HR.out; omega)]; rfl
    · rw [decide_eq_false he] at hq
      have hn : taskN l = none := by
        cases ht : taskN l with
        | none => rfl
        | some t =>
          obtain ⟨e1, e2⟩ := task_some ht
          have := HV.out t (by omega) e1
          exact absurd (by rw [e1, show c = t by omega]) he
      go_wp2
      go_ret2
      refine ⟨?_, HO3.out⟩
      unfold taskV; rw [hn]; rfl
  · rw [decide_eq_false hr]
    have hn : taskN l = none := by
      cases ht : taskN l with
      | none => rfl
      | some t =>
        obtain ⟨e1, e2⟩ := task_some ht
        have := HV.out t (by omega) e1
        exact absurd (by omega) hr
    go_wp2
    go_ret2
    refine ⟨?_, HO.out⟩
    unfold taskV; rw [hn]; rfl
theorem num_nil : numI opWs [] = 0 := by decide
theorem line_quiet {l : Bs} (h : quietB l = true) : lineR l = .quiet := by
  unfold quietB at h
  by_cases h1 : fw l = []
  · rw [lineR, (words_none h1).1]; rfl
  · rw [decide_eq_false h1, Bool.false_or, decide_eq_true_eq] at h
    rw [lineR, words_some h1, sayL, if_pos h]
/-- What pick tells. -/
def pickV : LR → Value
  | .pick t o => .tuple #[.agg #[.int .i64 t, .int .i64 o], .int .i64 0]
  | .bad e => .tuple #[.agg #[.int .i64 0, .int .i64 0], .int .i64 e]
  | .quiet => .tuple #[.agg #[.int .i64 0, .int .i64 0], .int .i64 0]
theorem line_not {l : Bs} (h : quietB l = false) : fw l ≠ [] ∧ ¬ (fw l).head? = some 35 := by
  unfold quietB at h
  rw [Bool.or_eq_false_iff] at h
  exact ⟨of_decide_eq_false h.1, of_decide_eq_false h.2⟩
theorem line_form {l : Bs} (h : quietB l = false) : lineR l = match taskN (fw l) with
    | none => .bad 4
    | some t => if numI opWs (fw (bh l)) = 0 ∧ fw (bh l) ≠ [] then .bad 5 else if fw (bh (bh l)) = [] then .pick t (numI opWs (fw (bh l))) else .bad 4 := by
  obtain ⟨h1, h2⟩ := line_not h
  rw [lineR, words_some h1, sayL, if_neg h2]
  cases taskN (fw l) with
  | none => rfl
  | some t =>
    simp only
    by_cases h3 : fw (bh l) = []
    · obtain ⟨e1, e2⟩ := words_none h3
      rw [e1, e2, h3, if_neg (fun h => h.2 rfl), if_pos (by rfl), num_nil]
    · rw [words_some h3]
      simp only
      by_cases h4 : numI opWs (fw (bh l)) = 0
      · rw [if_pos h4, if_pos ⟨h4, h3⟩]
      · rw [if_neg h4]
        rw [if_neg (fun h : _ ∧ _ => h4 h.1)]
        by_cases h5 : fw (bh (bh l)) = []
        · rw [(words_none h5).1, if_pos rfl, if_pos h5]
        · rw [words_some h5, if_neg (by simp), if_neg h5]
set_option maxHeartbeats 1000000 in
theorem pick_any (l : Bs) (w : World) (hs : l.length ≤ 100000) (hq : quietB l = false) (h : LiesS w) : Calls Tryd.prog 18 #[.string (bs l)] w fun e w' => e = .returned (pickV (lineR l)) ∧ Only Nil w w' := by
  have ho0 : Only Nil w (w.alloc (.cells #[.int .i64 0, .int .i64 0] 42)) := (Only.refl _ _).alloc _
  have l1 := bh_len l
  have l2 := bh_len (bh l)
  have HC1 := Lib.hid (fun W (ho : Only Nil w W) => cut_any l W hs (h.only ho))
  have HC2 := Lib.hid (fun W (ho : Only Nil w W) => cut_any (bh l) W (by omega) (h.only ho))
  have HC3 := Lib.hid (fun W (ho : Only Nil w W) => cut_any (bh (bh l)) W (by omega) (h.only ho))
  have HT := Lib.hid (fun W (ho : Only Nil w W) => task_any (fw l) W (by have := fw_len l; omega) (h.only ho))
  have HN := Lib.hid (fun W => number_note (bs (fw (bh l))) W)
  have HR := Lib.hid (Row.new w 42 #[.int .i64 0, .int .i64 0])
  have HO := Lib.hid ho0
  have hF := line_form hq
  clear hs hq h l1 l2 ho0
  generalize lineR l = R at *
  generalize fw l = x1 at *
  generalize bh l = r1 at *
  generalize fw r1 = x2 at *
  generalize bh r1 = r2 at *
  generalize fw r2 = x3 at *
  generalize bh r2 = r3 at *
  cases ht : taskN x1 with
  | none =>
    have e1 : taskV x1 = .tuple #[.int .i64 0, .bool false] := by unfold taskV; rw [ht]
    rw [ht] at hF
    rw [hF, show pickV (LR.bad 4) = .tuple #[.agg #[.int .i64 0, .int .i64 0], .int .i64 4] from rfl]
    rw [e1] at HT
    clear hF ht e1
    go_enter Tryd.func18, Tryd.ntmps18
    go_wp2_with fail
    refine (HC1.out _ HO.out).mono ?_
    rintro e w2 ⟨rfl, hO⟩
    have HO1 := Lib.hid (HO.out.trans hO)
    have HR1 := Lib.hid (HR.out.only hO id)
    clear hO HO HR
    go_wp2_with fail
    refine (HT.out _ HO1.out).mono ?_
    rintro e w3 ⟨rfl, hO⟩
    have HO2 := Lib.hid (HO1.out.trans hO)
    have HR2 := Lib.hid (HR1.out.only hO id)
    clear hO HO1 HR1
    have F0 := HR2.out
    have c0 : w3.cell? ⟨w.heap.size, 0, none⟩ = some (.int .i64 0) := F0.cell_ (i := 0) rfl
    have c1 : w3.cell? ⟨w.heap.size, 1, none⟩ = some (.int .i64 0) := F0.cell_ (i := 1) rfl
    have e0 : w3.frozen? ⟨w.heap.size, 0, none⟩ = false := F0.frozen 0
    have e1 : w3.frozen? ⟨w.heap.size, 1, none⟩ = false := F0.frozen 1
    clear F0
    go_wp2
    exact post_row_tmp (P := Tryd.prog) Tryd.results18 (t := 42) (g := w.heap.size) (cs := #[.int .i64 0, .int .i64 0]) rfl ((HR2.out.set 0 (.int .i64 0)).set 1 (.int .i64 0)) Tryd.underlying42 rfl (by kernel_rfl) rfl ⟨rfl, (HO2.out.setCell (.inl (Nat.le_refl _)) _).setCell (.inl (Nat.le_refl _)) _⟩
  | some t =>
    have e1 : taskV x1 = .tuple #[.int .i64 t, .bool true] := by unfold taskV; rw [ht]
    rw [ht] at hF
    simp only at hF
    rw [e1] at HT
    clear ht e1
    by_cases hb : numI opWs x2 = 0 ∧ x2 ≠ []
    · rw [if_pos hb] at hF
      rw [hF, show pickV (LR.bad 5) = .tuple #[.agg #[.int .i64 0, .int .i64 0], .int .i64 5] from rfl]
      obtain ⟨hb1, hb2⟩ := hb
      obtain ⟨q1, q2⟩ := em_no hb2
      clear hb2 hF
      go_enter Tryd.func18, Tryd.ntmps18
      go_wp2_with fail
      refine (HC1.out _ HO.out).mono ?_
      rintro e w2 ⟨rfl, hO⟩
      have HO1 := Lib.hid (HO.out.trans hO)
      have HR1 := Lib.hid (HR.out.only hO id)
      clear hO HO HR
      go_wp2_with fail
      refine (HT.out _ HO1.out).mono ?_
      rintro e w3 ⟨rfl, hO⟩
      have HO2 := Lib.hid (HO1.out.trans hO)
      have HR2 := Lib.hid (HR1.out.only hO id)
      clear hO HO1 HR1
      go_wp2_with fail
      refine (HC2.out _ HO2.out).mono ?_
      rintro e w4 ⟨rfl, hO⟩
      have HO3 := Lib.hid (HO2.out.trans hO)
      have HR3 := Lib.hid (HR2.out.only hO id)
      clear hO HO2 HR2
      go_wp2_with fail
      refine (HN.out _).mono ?_
      rintro e w5 ⟨rfl, hO⟩
      have HO4 := Lib.hid (HO3.out.trans hO)
      have HR4 := Lib.hid (HR3.out.only hO id)
      clear hO HO3 HR3
      rw [show (bs x2).data.toList = x2 from rfl]
      rw [hb1]
      have F0 := HR4.out
      have c0 : w5.cell? ⟨w.heap.size, 0, none⟩ = some (.int .i64 0) := F0.cell_ (i := 0) rfl
      have c1 : w5.cell? ⟨w.heap.size, 1, none⟩ = some (.int .i64 0) := F0.cell_ (i := 1) rfl
      have e0 : w5.frozen? ⟨w.heap.size, 0, none⟩ = false := F0.frozen 0
      have e1 : w5.frozen? ⟨w.heap.size, 1, none⟩ = false := F0.frozen 1
      clear F0
      go_wp2
      exact post_row_tmp (P := Tryd.prog) Tryd.results18 (t := 42) (g := w.heap.size) (cs := #[.int .i64 0, .int .i64 0]) rfl ((HR4.out.set 0 (.int .i64 0)).set 1 (.int .i64 0)) Tryd.underlying42 rfl (by kernel_rfl) rfl ⟨rfl, (HO4.out.setCell (.inl (Nat.le_refl _)) _).setCell (.inl (Nat.le_refl _)) _⟩
    · rw [if_neg hb] at hF
      have hg : numI opWs x2 = 0 → x2 = [] := fun h0 => Classical.byContradiction fun h => hb ⟨h0, h⟩
      obtain ⟨o, ho⟩ : ∃ o, o = numI opWs x2 := ⟨_, rfl⟩
      rw [← ho] at hF hg
      have HOO := Lib.hid ho
      clear hb ho
      by_cases h3 : x3 = []
      · rw [if_pos h3] at hF
        rw [hF, show pickV (LR.pick t o) = .tuple #[.agg #[.int .i64 t, .int .i64 o], .int .i64 0] from rfl]
        obtain ⟨p1, p2⟩ := em_yes h3
        clear h3 hF
        by_cases h0 : o = 0
        · obtain ⟨q1, q2⟩ := em_yes (hg h0)
          subst h0
          clear hg
          go_enter Tryd.func18, Tryd.ntmps18
          go_wp2_with fail
          refine (HC1.out _ HO.out).mono ?_
          rintro e w2 ⟨rfl, hO⟩
          have HO1 := Lib.hid (HO.out.trans hO)
          have HR1 := Lib.hid (HR.out.only hO id)
          clear hO HO HR
          go_wp2_with fail
          refine (HT.out _ HO1.out).mono ?_
          rintro e w3 ⟨rfl, hO⟩
          have HO2 := Lib.hid (HO1.out.trans hO)
          have HR2 := Lib.hid (HR1.out.only hO id)
          clear hO HO1 HR1
          go_wp2_with fail
          refine (HC2.out _ HO2.out).mono ?_
          rintro e w4 ⟨rfl, hO⟩
          have HO3 := Lib.hid (HO2.out.trans hO)
          have HR3 := Lib.hid (HR2.out.only hO id)
          clear hO HO2 HR2
          go_wp2_with fail
          refine (HN.out _).mono ?_
          rintro e w5 ⟨rfl, hO⟩
          have HO4 := Lib.hid (HO3.out.trans hO)
          have HR4 := Lib.hid (HR3.out.only hO id)
          clear hO HO3 HR3
          rw [show (bs x2).data.toList = x2 from rfl]
          rw [← HOO.out]
          go_wp2_with fail
          refine (HC3.out _ HO4.out).mono ?_
          rintro e w6 ⟨rfl, hO⟩
          have HO5 := Lib.hid (HO4.out.trans hO)
          have HR5 := Lib.hid (HR4.out.only hO id)
          clear hO HO4 HR4
          have F0 := HR5.out
          have c0 : w6.cell? ⟨w.heap.size, 0, none⟩ = some (.int .i64 0) := F0.cell_ (i := 0) rfl
          have c1 : w6.cell? ⟨w.heap.size, 1, none⟩ = some (.int .i64 0) := F0.cell_ (i := 1) rfl
          have e0 : w6.frozen? ⟨w.heap.size, 0, none⟩ = false := F0.frozen 0
          have e1 : w6.frozen? ⟨w.heap.size, 1, none⟩ = false := F0.frozen 1
          clear F0
          go_wp2
          exact post_row_tmp (P := Tryd.prog) Tryd.results18 (t := 42) (g := w.heap.size) (cs := #[.int .i64 t, .int .i64 0]) rfl ((HR5.out.set 0 (.int .i64 t)).set 1 (.int .i64 0)) Tryd.underlying42 rfl (by kernel_rfl) rfl ⟨rfl, (HO5.out.setCell (.inl (Nat.le_refl _)) _).setCell (.inl (Nat.le_refl _)) _⟩
        · clear hg
          go_enter Tryd.func18, Tryd.ntmps18
          go_wp2_with fail
          refine (HC1.out _ HO.out).mono ?_
          rintro e w2 ⟨rfl, hO⟩
          have HO1 := Lib.hid (HO.out.trans hO)
          have HR1 := Lib.hid (HR.out.only hO id)
          clear hO HO HR
          go_wp2_with fail
          refine (HT.out _ HO1.out).mono ?_
          rintro e w3 ⟨rfl, hO⟩
          have HO2 := Lib.hid (HO1.out.trans hO)
          have HR2 := Lib.hid (HR1.out.only hO id)
          clear hO HO1 HR1
          go_wp2_with fail
          refine (HC2.out _ HO2.out).mono ?_
          rintro e w4 ⟨rfl, hO⟩
          have HO3 := Lib.hid (HO2.out.trans hO)
          have HR3 := Lib.hid (HR2.out.only hO id)
          clear hO HO2 HR2
          go_wp2_with fail
          refine (HN.out _).mono ?_
          rintro e w5 ⟨rfl, hO⟩
          have HO4 := Lib.hid (HO3.out.trans hO)
          have HR4 := Lib.hid (HR3.out.only hO id)
          clear hO HO3 HR3
          rw [show (bs x2).data.toList = x2 from rfl]
          rw [← HOO.out]
          go_wp2_with fail
          refine (HC3.out _ HO4.out).mono ?_
          rintro e w6 ⟨rfl, hO⟩
          have HO5 := Lib.hid (HO4.out.trans hO)
          have HR5 := Lib.hid (HR4.out.only hO id)
          clear hO HO4 HR4
          have F0 := HR5.out
          have c0 : w6.cell? ⟨w.heap.size, 0, none⟩ = some (.int .i64 0) := F0.cell_ (i := 0) rfl
          have c1 : w6.cell? ⟨w.heap.size, 1, none⟩ = some (.int .i64 0) := F0.cell_ (i := 1) rfl
          have e0 : w6.frozen? ⟨w.heap.size, 0, none⟩ = false := F0.frozen 0
          have e1 : w6.frozen? ⟨w.heap.size, 1, none⟩ = false := F0.frozen 1
          clear F0
          go_wp2
          exact post_row_tmp (P := Tryd.prog) Tryd.results18 (t := 42) (g := w.heap.size) (cs := #[.int .i64 t, .int .i64 o]) rfl ((HR5.out.set 0 (.int .i64 t)).set 1 (.int .i64 o)) Tryd.underlying42 rfl (by kernel_rfl) rfl ⟨rfl, (HO5.out.setCell (.inl (Nat.le_refl _)) _).setCell (.inl (Nat.le_refl _)) _⟩
      · rw [if_neg h3] at hF
        rw [hF, show pickV (LR.bad 4) = .tuple #[.agg #[.int .i64 0, .int .i64 0], .int .i64 4] from rfl]
        obtain ⟨p1, p2⟩ := em_no h3
        clear h3 hF
        by_cases h0 : o = 0
        · obtain ⟨q1, q2⟩ := em_yes (hg h0)
          subst h0
          clear hg
          go_enter Tryd.func18, Tryd.ntmps18
          go_wp2_with fail
          refine (HC1.out _ HO.out).mono ?_
          rintro e w2 ⟨rfl, hO⟩
          have HO1 := Lib.hid (HO.out.trans hO)
          have HR1 := Lib.hid (HR.out.only hO id)
          clear hO HO HR
          go_wp2_with fail
          refine (HT.out _ HO1.out).mono ?_
          rintro e w3 ⟨rfl, hO⟩
          have HO2 := Lib.hid (HO1.out.trans hO)
          have HR2 := Lib.hid (HR1.out.only hO id)
          clear hO HO1 HR1
          go_wp2_with fail
          refine (HC2.out _ HO2.out).mono ?_
          rintro e w4 ⟨rfl, hO⟩
          have HO3 := Lib.hid (HO2.out.trans hO)
          have HR3 := Lib.hid (HR2.out.only hO id)
          clear hO HO2 HR2
          go_wp2_with fail
          refine (HN.out _).mono ?_
          rintro e w5 ⟨rfl, hO⟩
          have HO4 := Lib.hid (HO3.out.trans hO)
          have HR4 := Lib.hid (HR3.out.only hO id)
          clear hO HO3 HR3
          rw [show (bs x2).data.toList = x2 from rfl]
          rw [← HOO.out]
          go_wp2_with fail
          refine (HC3.out _ HO4.out).mono ?_
          rintro e w6 ⟨rfl, hO⟩
          have HO5 := Lib.hid (HO4.out.trans hO)
          have HR5 := Lib.hid (HR4.out.only hO id)
          clear hO HO4 HR4
          have F0 := HR5.out
          have c0 : w6.cell? ⟨w.heap.size, 0, none⟩ = some (.int .i64 0) := F0.cell_ (i := 0) rfl
          have c1 : w6.cell? ⟨w.heap.size, 1, none⟩ = some (.int .i64 0) := F0.cell_ (i := 1) rfl
          have e0 : w6.frozen? ⟨w.heap.size, 0, none⟩ = false := F0.frozen 0
          have e1 : w6.frozen? ⟨w.heap.size, 1, none⟩ = false := F0.frozen 1
          clear F0
          go_wp2
          exact post_row_tmp (P := Tryd.prog) Tryd.results18 (t := 42) (g := w.heap.size) (cs := #[.int .i64 0, .int .i64 0]) rfl ((HR5.out.set 0 (.int .i64 0)).set 1 (.int .i64 0)) Tryd.underlying42 rfl (by kernel_rfl) rfl ⟨rfl, (HO5.out.setCell (.inl (Nat.le_refl _)) _).setCell (.inl (Nat.le_refl _)) _⟩
        · clear hg
          go_enter Tryd.func18, Tryd.ntmps18
          go_wp2_with fail
          refine (HC1.out _ HO.out).mono ?_
          rintro e w2 ⟨rfl, hO⟩
          have HO1 := Lib.hid (HO.out.trans hO)
          have HR1 := Lib.hid (HR.out.only hO id)
          clear hO HO HR
          go_wp2_with fail
          refine (HT.out _ HO1.out).mono ?_
          rintro e w3 ⟨rfl, hO⟩
          have HO2 := Lib.hid (HO1.out.trans hO)
          have HR2 := Lib.hid (HR1.out.only hO id)
          clear hO HO1 HR1
          go_wp2_with fail
          refine (HC2.out _ HO2.out).mono ?_
          rintro e w4 ⟨rfl, hO⟩
          have HO3 := Lib.hid (HO2.out.trans hO)
          have HR3 := Lib.hid (HR2.out.only hO id)
          clear hO HO2 HR2
          go_wp2_with fail
          refine (HN.out _).mono ?_
          rintro e w5 ⟨rfl, hO⟩
          have HO4 := Lib.hid (HO3.out.trans hO)
          have HR4 := Lib.hid (HR3.out.only hO id)
          clear hO HO3 HR3
          rw [show (bs x2).data.toList = x2 from rfl]
          rw [← HOO.out]
          go_wp2_with fail
          refine (HC3.out _ HO4.out).mono ?_
          rintro e w6 ⟨rfl, hO⟩
          have HO5 := Lib.hid (HO4.out.trans hO)
          have HR5 := Lib.hid (HR4.out.only hO id)
          clear hO HO4 HR4
          have F0 := HR5.out
          have c0 : w6.cell? ⟨w.heap.size, 0, none⟩ = some (.int .i64 0) := F0.cell_ (i := 0) rfl
          have c1 : w6.cell? ⟨w.heap.size, 1, none⟩ = some (.int .i64 0) := F0.cell_ (i := 1) rfl
          have e0 : w6.frozen? ⟨w.heap.size, 0, none⟩ = false := F0.frozen 0
          have e1 : w6.frozen? ⟨w.heap.size, 1, none⟩ = false := F0.frozen 1
          clear F0
          go_wp2
          exact post_row_tmp (P := Tryd.prog) Tryd.results18 (t := 42) (g := w.heap.size) (cs := #[.int .i64 0, .int .i64 0]) rfl ((HR5.out.set 0 (.int .i64 0)).set 1 (.int .i64 0)) Tryd.underlying42 rfl (by kernel_rfl) rfl ⟨rfl, (HO5.out.setCell (.inl (Nat.le_refl _)) _).setCell (.inl (Nat.le_refl _)) _⟩
end Go.Proofs.YtdneicbbnbbffaaDoor
