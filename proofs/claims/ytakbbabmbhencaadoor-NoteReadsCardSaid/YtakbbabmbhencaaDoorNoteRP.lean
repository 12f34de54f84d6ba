/- Notes read from texts: the answer's. -/
import Derived.Test.YtakbbabmbhencaaDoorNoteParse
import Derived.Test.YtakbbabmbhencaaDoorNoteRT
import Derived.Laws.Strings2
import Derived.BigQuiet
import Derived.Deep.RegionHeld3
namespace Go.Proofs.YtakbbabmbhencaaDoor
open Go.RowKit
set_option linter.unusedVariables false
set_option linter.unusedSimpArgs false
/-- What stands behind the task's number. -/
def tailL (w o a : Int) : Bs := 32 :: glue (restL w o a)
theorem text_tail {t w o a : Int} (h : tripB w o a = true) : textN ⟨t, w, o, a⟩ = decL t ++ tailL w o a := by
  obtain ⟨_, g2, _⟩ := good h
  rw [textN, partsN_cons, glue_cons _ g2]; rfl
theorem dec_zero : decL 0 = [48] := by unfold decL; rw [show (0 : Int).toNat = 0 from rfl, Lib.decDigits_one (by decide)]; rfl
theorem piece (L : Bs) (i : Nat) : (bs L).extract i (bs L).size = bs (L.drop i) := by
  unfold bs
  rw [ByteArray.extract_mk]
  congr 2
  exact List.take_of_length_le (by rw [List.length_drop]; exact Nat.le_refl _)
theorem front (L : Bs) (i : Nat) : (bs L).extract 0 i = bs (L.take i) := by
  unfold bs
  rw [ByteArray.extract_mk]; rfl
/-- What a text of a note has, of these three. -/
theorem has_forth {l : Bs} {t w o a : Int} (h : HasN l ⟨t, w, o, a⟩) : ∃ k : Nat, (l.length : Int) - (textN ⟨0, w, o, a⟩).length + 1 = k ∧ 1 ≤ k ∧ k ≤ 2 ∧ (bs l).extract k (bs l).size = (bs (textN ⟨0, w, o, a⟩)).extract 1 (bs (textN ⟨0, w, o, a⟩)).size ∧ (bs l).extract 0 k = bs (decL t) := by
  obtain ⟨hr, rfl⟩ := h
  obtain ⟨t0, t1, h3⟩ := right_in hr
  have e0 := text_tail (t := 0) h3
  have e1 := text_tail (t := t) h3
  rw [dec_zero] at e0
  have hl : (decL t).length ≤ 2 := dec_len (by omega) (by simp only at t0 t1; omega)
  have hl1 : 1 ≤ (decL t).length := List.length_pos_iff.2 (dec_some _)
  rw [e0, e1]
  refine ⟨(decL t).length, by rw [List.length_append, List.length_append]; simp; omega, hl1, hl, ?_, ?_⟩
  · rw [piece, piece]; simp
  · rw [front]; simp
theorem has_back {l : Bs} {t w o a : Int} {k : Nat} (ht : tripB w o a = true) (t0 : 0 ≤ t) (t1 : t < 64) (h1 : (bs l).extract k (bs l).size = (bs (textN ⟨0, w, o, a⟩)).extract 1 (bs (textN ⟨0, w, o, a⟩)).size) (h2 : (bs l).extract 0 k = bs (decL t)) : HasN l ⟨t, w, o, a⟩ := by
  refine ⟨?_, ?_⟩
  · unfold rightN
    simp only [ht, Bool.and_true]
    rw [decide_eq_true t0, decide_eq_true t1]; rfl
  · rw [text_tail ht]
    rw [text_tail ht, dec_zero, piece, piece] at h1
    rw [front] at h2
    have e1 := bs_inj h1
    have e2 := bs_inj h2
    rw [← e2, show tailL w o a = l.drop k from e1.symm, List.take_append_drop]
theorem right_trip {w o a : Int} : rightN 0 w o a = tripB w o a := rfl
/-- No note of these three has the text. -/
def No3 (l : Bs) (w o a : Int) : Prop := ∀ t, ¬ HasN l ⟨t, w, o, a⟩
theorem no_trip {l : Bs} {w o a : Int} (h : tripB w o a = false) : No3 l w o a := fun t ht => by
  have := (right_in ht.1).2.2
  simp only at this
  rw [h] at this; cases this
theorem no_range {l : Bs} {w o a : Int} (h : ¬ (1 ≤ w ∧ w < 12 ∧ 0 ≤ o ∧ o < 9 ∧ 0 ≤ a ∧ a < 4)) : No3 l w o a := fun t ht => by
  have h3 := (right_in ht.1).2.2
  simp only at h3
  obtain ⟨⟨w0, w1⟩, ⟨o0, o1⟩, a0, a1⟩ := trip_in h3
  by_cases hw : w = 0
  · subst hw
    revert h3
    unfold tripB
    rw [show fitB whWs 0 = false from by decide]
    simp
  · exact h ⟨by omega, w1, o0, o1, a0, a1⟩
theorem short_text {w o a : Int} (h : tripB w o a = true) : (textN ⟨0, w, o, a⟩).length ≤ 40 ∧ 1 ≤ (textN ⟨0, w, o, a⟩).length :=
  ⟨text_len (t := 0) (by rw [right_trip]; exact h), List.length_pos_iff.2 (textN_ne (by show rightN 0 w o a = true; rw [right_trip]; exact h))⟩
set_option maxRecDepth 100000 in
set_option maxHeartbeats 2000000 in
theorem parse_ref (s : ByteArray) (w : World) (hs : s.size ≤ 100) : Calls Tryd.prog 17 #[.string s] w fun e w' => ParsedN s.data.toList e ∧ Only Nil w w' := by
  have HG := Lib.hid (Row.new w 23 #[.int .i64 0, .int .i64 0, .int .i64 0, .int .i64 0])
  have HO0 := Lib.hid ((Only.refl Nil w).alloc (.cells #[.int .i64 0, .int .i64 0, .int .i64 0, .int .i64 0] 23))
  have HT : Hid (∀ (i : Nat), i < 64 → ∀ W, Calls Tryd.prog 32 #[.int .i64 i] W fun e w' => e = .returned (.string (bs (decL i))) ∧ Only Nil W w') := Lib.hid (fun i hi W => text_small i W (by omega))
  generalize hl : s.data.toList = l at *
  have HSL := Lib.hid (show s = bs l by rw [← hl]; rfl)
  clear hl
  go_enter Tryd.func17, Tryd.ntmps17
  go_wp2
  generalize w.alloc (.cells #[.int .i64 0, .int .i64 0, .int .i64 0, .int .i64 0] 23) = w0 at *
  generalize hgw : w.heap.size = g at *
  have HGW := Lib.hid hgw
  clear hgw
  go_loopw [4] (fun i wr => ∃ q : Nat, 1 ≤ q ∧ q ≤ 12 ∧ i = .int .i64 q ∧ Hid (∀ q' o a : Int, q' < q → No3 l q' o a) ∧ Hid (Only Nil w0 wr)) (fun i _ => 12 - (intOf i).toNat)
  case atStart => exact ⟨1, by omega, by omega, rfl, Lib.hid (fun q' o a h => no_range (by omega)), Lib.hid (Only.refl _ _)⟩
  case round =>
    obtain ⟨q, hq1, hq12, rfl, HQ, HO⟩ := hrel
    by_cases hq : q < 12
    · go_wp2
      rw [decide_eq_true (show (q : Int) ≤ 11 by omega)]
      go_loopw [5] (fun i wq => ∃ o : Nat, o ≤ 9 ∧ i = .int .i64 o ∧ Hid (∀ o' a : Int, o' < o → No3 l q o' a) ∧ Hid (Only Nil w0 wq)) (fun i _ => 9 - (intOf i).toNat)
      case atStart => exact ⟨0, by omega, rfl, Lib.hid (fun o' a h => no_range (by omega)), HO⟩
      case round =>
        obtain ⟨o, ho9, rfl, HOO, HO1⟩ := hrel
        by_cases ho : o < 9
        · go_wp2
          rw [decide_eq_true (show (o : Int) ≤ 8 by omega)]
          go_loopw [6] (fun i wq => ∃ a : Nat, a ≤ 4 ∧ i = .int .i64 a ∧ Hid (∀ a' : Int, a' < a → No3 l q o a') ∧ Hid (Only Nil w0 wq)) (fun i _ => 4 - (intOf i).toNat)
          case atStart => exact ⟨0, by omega, rfl, Lib.hid (fun a' h => no_range (by omega)), HO1⟩
          case round =>
            obtain ⟨a, ha4, rfl, HA, HO2⟩ := hrel
            by_cases ha : a < 4
            · have HAN := Lib.hid (show No3 l q o a → ∀ a' : Int, a' < (a + 1 : Nat) → No3 l q o a' from fun h a' ha' => by
                by_cases he : a' < a
                · exact HA.out a' he
                · rw [show a' = a by omega]; exact h)
              have HO3 := Lib.hid (HO2.out.alloc (.cells #[.int .i64 0, .int .i64 q, .int .i64 o, .int .i64 a] 23))
              have HR3 := Lib.hid (Row.new wr 23 #[.int .i64 0, .int .i64 q, .int .i64 o, .int .i64 a])
              have HGN := Lib.hid (show g < wr.heap.size from (HG.out.only HO2.out id).lt)
              go_wp2_with fail
              generalize wr.alloc (.cells #[.int .i64 0, .int .i64 q, .int .i64 o, .int .i64 a] 23) = w3 at *
              generalize wr.heap.size = g7 at *
              refine (right_ref 0 q o a w3).mono ?_
              rintro e w4 ⟨rfl, hO⟩
              have HO4 := Lib.hid (HO3.out.trans hO)
              have HR4 := Lib.hid (HR3.out.only hO id)
              clear hO HO3 HR3
              rw [right_trip]
              cases htr : tripB q o a
              · have HN := Lib.hid (HAN.out (no_trip htr))
                clear htr
                go_wp2
                exact ⟨⟨a + 1, by omega, by go_num, HN, HO4⟩, by simp [intOf]; omega⟩
              · have HTR := Lib.hid htr
                clear htr
                have c0 : w4.cell? ⟨g7, 0, none⟩ = some (.int .i64 0) := HR4.out.cell_ (i := 0) rfl
                have c1 : w4.cell? ⟨g7, 1, none⟩ = some (.int .i64 q) := HR4.out.cell_ (i := 1) rfl
                have c2 : w4.cell? ⟨g7, 2, none⟩ = some (.int .i64 o) := HR4.out.cell_ (i := 2) rfl
                have c3 : w4.cell? ⟨g7, 3, none⟩ = some (.int .i64 a) := HR4.out.cell_ (i := 3) rfl
                go_wp2_with fail
                clear c0 c1 c2 c3
                refine (refText_any 0 q o a w4).mono ?_
                rintro e w5 ⟨rfl, hO⟩
                have HO5 := Lib.hid (HO4.out.trans hO)
                have HR5 := Lib.hid (HR4.out.only hO id)
                clear hO HO4 HR4
                rw [show txB 0 q o a = bs (textN ⟨0, q, o, a⟩) from txB_yes (by rw [right_trip]; exact HTR.out)]
                have HFO := Lib.hid (fun t (h : HasN l ⟨t, q, o, a⟩) => has_forth h)
                have HBA := Lib.hid (fun t k t0 t1 => has_back (l := l) (t := t) (k := k) HTR.out t0 t1)
                have HSZ := Lib.hid (show (bs (textN ⟨0, q, o, a⟩)).size ≤ 40 ∧ 1 ≤ (bs (textN ⟨0, q, o, a⟩)).size from short_text HTR.out)
                rw [← HSL.out, ← bs_size, ← bs_size, ← HSL.out] at HFO
                rw [← HSL.out] at HBA
                generalize bs (textN ⟨0, q, o, a⟩) = T at *
                obtain ⟨sz1, sz2⟩ := HSZ.out
                by_cases d1 : (s.size : Int) - T.size + 1 < 1
                · have HN := Lib.hid (HAN.out (fun t ht => by obtain ⟨k, e, h1, _⟩ := HFO.out t ht; omega))
                  go_wp2
                  go_quiet (fail)
                  go_wp2
                  exact ⟨⟨a + 1, by omega, by go_num, HN, Lib.hid (HO5.out.drewN _)⟩, by simp [intOf]; omega⟩
                · by_cases d2 : 2 < (s.size : Int) - T.size + 1
                  · have HN := Lib.hid (HAN.out (fun t ht => by obtain ⟨k, e, h1, h2, _⟩ := HFO.out t ht; omega))
                    go_wp2
                    go_quiet (fail)
                    go_wp2
                    exact ⟨⟨a + 1, by omega, by go_num, HN, Lib.hid (HO5.out.drewN _)⟩, by simp [intOf]; omega⟩
                  · obtain ⟨k, hk⟩ : ∃ k : Nat, (s.size : Int) - T.size + 1 = k := ⟨((s.size : Int) - T.size + 1).toNat, by omega⟩
                    have hk1 : 1 ≤ k := by omega
                    have hk2 : k ≤ 2 := by omega
                    have hks : k ≤ s.size := by omega
                    have HKK := Lib.hid hk
                    go_wp2
                    have e1 : decide ((k : Int) < 1) = false := decide_eq_false (by omega)
                    have e2 : decide ((2 : Int) < k) = false := decide_eq_false (by omega)
                    have e3 : (k : Int) ≤ s.size := by omega
                    have e4 : (1 : Int) ≤ T.size := by omega
                    have e5 : (0 : Int) ≤ k := by omega
                    clear hk d1 d2
                    by_cases heq : s.extract k s.size = T.extract 1 T.size
                    · have hq1 : ((s.extract k s.size).toList == (T.extract 1 T.size).toList) = true := by rw [beq_str]; exact decide_eq_true heq
                      have HEQ := Lib.hid heq
                      clear heq
                      go_quiet (fail)
                      have HO6 := Lib.hid (HO5.out.drewN nq)
                      have HR6 := Lib.hid (HR5.out.drewN nq)
                      clear HO5 HR5 hq1
                      generalize w5.drewN nq = w6 at *
                      go_wp2
                      go_loopw [10] (fun i wq => ∃ t : Nat, t ≤ 64 ∧ i = .int .i64 t ∧ Hid (∀ t' : Int, t' < t → ¬ HasN l ⟨t', q, o, a⟩) ∧ Hid (Row wq g7 23 #[.int .i64 0, .int .i64 q, .int .i64 o, .int .i64 a]) ∧ Hid (Only Nil w0 wq)) (fun i _ => 64 - (intOf i).toNat)
                      case atStart => exact ⟨0, by omega, rfl, Lib.hid (fun t' h ht => by have := (right_in ht.1).1; simp only at this; omega), HR6, HO6⟩
                      case round =>
                        obtain ⟨t, ht64, rfl, HTT, HR7, HO7⟩ := hrel
                        by_cases ht : t < 64
                        · have HDT := Lib.hid (fun W => HT.out t ht W)
                          by_cases heq : bs (decL t) = s.extract 0 k
                          · have HAS := Lib.hid (HBA.out t k (by omega) (by omega) HEQ.out heq.symm)
                            have hq2 : ((bs (decL t)).toList == (s.extract 0 k).toList) = true := by rw [beq_str]; exact decide_eq_true heq
                            clear heq
                            generalize bs (decL t) = D at *
                            go_wp2_with fail
                            go_region_held3 (fun w' => Only Nil wr w')
                              (first
                                | exact (Only.refl _ _).drew
                                | (go_keep; done)
                                | exact Only.trans (by assumption) hO)
                              ((first
                                | (go_at_call 32; refine (HDT.out _).mono ?_; rintro e w' ⟨rfl, hO⟩)))
                            rename_i hH
                            have HR8 := Lib.hid (HR7.out.only hH id)
                            have HO8 := Lib.hid (HO7.out.trans hH)
                            clear hH hO
                            have HGR := Lib.hid (HG.out.only HO8.out id)
                            obtain ⟨hne1, hne2⟩ : ¬ g = g7 ∧ ¬ g7 = g := by have := HGN.out; omega
                            have c0 : w'.cell? ⟨g7, 0, none⟩ = some (.int .i64 0) := HR8.out.cell_ (i := 0) rfl
                            have c1 : w'.cell? ⟨g7, 1, none⟩ = some (.int .i64 q) := HR8.out.cell_ (i := 1) rfl
                            have c2 : w'.cell? ⟨g7, 2, none⟩ = some (.int .i64 o) := HR8.out.cell_ (i := 2) rfl
                            have c3 : w'.cell? ⟨g7, 3, none⟩ = some (.int .i64 a) := HR8.out.cell_ (i := 3) rfl
                            have z0 : w'.cell? ⟨g, 0, none⟩ = some (.int .i64 0) := HGR.out.cell_ (i := 0) rfl
                            have z1 : w'.cell? ⟨g, 1, none⟩ = some (.int .i64 0) := HGR.out.cell_ (i := 1) rfl
                            have z2 : w'.cell? ⟨g, 2, none⟩ = some (.int .i64 0) := HGR.out.cell_ (i := 2) rfl
                            have z3 : w'.cell? ⟨g, 3, none⟩ = some (.int .i64 0) := HGR.out.cell_ (i := 3) rfl
                            have f7 := HR8.out.frozen 0
                            have f0 : w'.frozen? ⟨g, 0, none⟩ = false := HGR.out.frozen 0
                            have f1 : w'.frozen? ⟨g, 1, none⟩ = false := HGR.out.frozen 1
                            have f2 : w'.frozen? ⟨g, 2, none⟩ = false := HGR.out.frozen 2
                            have f3 : w'.frozen? ⟨g, 3, none⟩ = false := HGR.out.frozen 3
                            go_wp2
                            refine post_row_tmp Tryd.results17 (by rfl) (((((HGR.out.far (p := ⟨g7, 0, none⟩) hne1 _).set 0 _).set 1 _).set 2 _).set 3 _) Tryd.underlying23 rfl (by kernel_rfl) rfl ⟨.inl ⟨⟨t, q, o, a⟩, HAS.out, rfl⟩, ?_⟩
                            have hgw := HGW.out
                            have hg7 := HGN.out
                            have hO := HO0.out.trans HO8.out
                            (repeat' (first | (with_reducible exact Only.refl _ _) | (with_reducible assumption) | (with_reducible refine Only.setCell ?_ ?_ _) | (with_reducible refine Only.drewN ?_ _) | (with_reducible refine Only.drew ?_) | (with_reducible refine Only.alloc ?_ _) | (left; simp; done) | (left; simp; omega) | (right; rfl)))
                          · have hq2 : ((bs (decL t)).toList == (s.extract 0 k).toList) = false := by rw [beq_str]; exact decide_eq_false heq
                            have HN := Lib.hid (show ∀ t' : Int, t' < (t + 1 : Nat) → ¬ HasN l ⟨t', q, o, a⟩ from fun t' ht' hh => by
                              by_cases he : t' < t
                              · exact HTT.out t' he hh
                              · obtain rfl : t' = t := by omega
                                obtain ⟨k', e, h1, h2, h3, h4⟩ := HFO.out _ hh
                                have hkk := HKK.out
                                obtain rfl : k' = k := by omega
                                exact heq h4.symm)
                            clear heq
                            generalize bs (decL t) = D at *
                            go_wp2_with fail
                            go_region_held3 (fun w' => Only Nil wr w')
                              (first
                                | exact (Only.refl _ _).drew
                                | (go_keep; done)
                                | exact Only.trans (by assumption) hO)
                              ((first
                                | (go_at_call 32; refine (HDT.out _).mono ?_; rintro e w' ⟨rfl, hO⟩)))
                            rename_i hH
                            have HR8 := Lib.hid (HR7.out.only hH id)
                            have HO8 := Lib.hid (HO7.out.trans hH)
                            clear hH hO
                            go_wp2
                            exact ⟨⟨t + 1, by omega, by go_num, HN, HR8, HO8⟩, by simp [intOf]; omega⟩
                        · obtain rfl : t = 64 := by omega
                          have HN := Lib.hid (HAN.out (fun t hh => by
                            by_cases h64 : t < 64
                            · exact HTT.out t h64 hh
                            · have := (right_in hh.1).2.1
                              simp only at this
                              omega))
                          clear ht ht64
                          go_wp2
                          exact ⟨⟨a + 1, by omega, by go_num, HN, HO7⟩, by simp [intOf]; omega⟩
                    · have hq1 : ((s.extract k s.size).toList == (T.extract 1 T.size).toList) = false := by rw [beq_str]; exact decide_eq_false heq
                      have HN := Lib.hid (HAN.out (fun t ht => by
                        obtain ⟨k', e, h1, h2, h3, _⟩ := HFO.out t ht
                        have hkk := HKK.out
                        obtain rfl : k' = k := by omega
                        exact heq h3))
                      clear heq
                      go_quiet (fail)
                      go_wp2
                      exact ⟨⟨a + 1, by omega, by go_num, HN, Lib.hid (HO5.out.drewN _)⟩, by simp [intOf]; omega⟩
            · obtain rfl : a = 4 := by omega
              have HO' := Lib.hid (show ∀ o' a : Int, o' < (o + 1 : Nat) → No3 l q o' a from fun o' a h => by
                by_cases he : o' < o
                · exact HOO.out o' a he
                · rw [show o' = o by omega]
                  by_cases h4 : a < 4
                  · exact HA.out a h4
                  · exact no_range (by omega))
              clear ha ha4
              go_wp2
              exact ⟨⟨o + 1, by omega, by go_num, HO', HO2⟩, by simp [intOf]; omega⟩
        · obtain rfl : o = 9 := by omega
          have HQ' := Lib.hid (show ∀ q' o a : Int, q' < (q + 1 : Nat) → No3 l q' o a from fun q' o a h => by
            by_cases he : q' < q
            · exact HQ.out q' o a he
            · rw [show q' = q by omega]
              by_cases h4 : o < 9
              · exact HOO.out o a h4
              · exact no_range (by omega))
          clear ho ho9
          go_wp2
          exact ⟨⟨q + 1, by omega, by omega, by go_num, HQ', HO1⟩, by simp [intOf]; omega⟩
    · obtain rfl : q = 12 := by omega
      have HNO := Lib.hid (show ∀ b, ¬ HasN l b from fun b hb => by
        by_cases h : b.w < 12
        · exact HQ.out b.w b.o b.a h b.t hb
        · exact no_range (l := l) (w := b.w) (o := b.o) (a := b.a) (by omega) b.t hb)
      have HR := Lib.hid (HG.out.only HO.out id)
      clear hq hq1 hq12
      have z0 : wr.cell? ⟨g, 0, none⟩ = some (.int .i64 0) := HR.out.cell_ (i := 0) rfl
      have z1 : wr.cell? ⟨g, 1, none⟩ = some (.int .i64 0) := HR.out.cell_ (i := 1) rfl
      have z2 : wr.cell? ⟨g, 2, none⟩ = some (.int .i64 0) := HR.out.cell_ (i := 2) rfl
      have z3 : wr.cell? ⟨g, 3, none⟩ = some (.int .i64 0) := HR.out.cell_ (i := 3) rfl
      have f0 : wr.frozen? ⟨g, 0, none⟩ = false := HR.out.frozen 0
      have f1 : wr.frozen? ⟨g, 1, none⟩ = false := HR.out.frozen 1
      have f2 : wr.frozen? ⟨g, 2, none⟩ = false := HR.out.frozen 2
      have f3 : wr.frozen? ⟨g, 3, none⟩ = false := HR.out.frozen 3
      go_wp2
      refine post_row_tmp Tryd.results17 (by rfl) ((((HR.out.set 0 _).set 1 _).set 2 _).set 3 _) Tryd.underlying23 rfl (by kernel_rfl) rfl ⟨.inr ⟨HNO.out, rfl⟩, ?_⟩
      have hgw := HGW.out
      have hO := HO0.out.trans HO.out
      (repeat' (first | (with_reducible exact Only.refl _ _) | (with_reducible assumption) | (with_reducible refine Only.setCell ?_ ?_ _) | (with_reducible refine Only.drewN ?_ _) | (with_reducible refine Only.drew ?_) | (with_reducible refine Only.alloc ?_ _) | (left; simp; done) | (left; simp; omega) | (right; rfl)))
end Go.Proofs.YtakbbabmbhencaaDoor
