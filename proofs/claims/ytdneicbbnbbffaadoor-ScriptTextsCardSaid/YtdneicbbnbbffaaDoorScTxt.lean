/- Picks as a text, in plain mathematics; script's Text. -/
import Derived.Test.YtdneicbbnbbffaaDoorScBd
import Derived.Test.YtdneicbbnbbffaaDoorScPick
import Derived.Test.YtdneicbbnbbffaaDoorNoteNum
import Derived.Deep.Cut
namespace Go.Proofs.YtdneicbbnbbffaaDoor
open Go.RowKit
set_option linter.unusedVariables false
set_option linter.unusedSimpArgs false
def faultI (t o : Int) : Int := if 0 ≤ t ∧ t ≤ 999 then (if o ≠ 0 ∧ wordI opWs o = [] then 5 else 0) else 2
def midP (o : Int) : Bs := if o = 0 then [] else 32 :: wordI opWs o
def lineP (p : Int × Int) : Bs := Lib.decDigits p.1.toNat ++ midP p.2 ++ [10]
def textP (ps : List (Int × Int)) : Bs := ps.flatMap lineP
theorem textP_app (ps : List (Int × Int)) (p : Int × Int) : textP (ps ++ [p]) = textP ps ++ lineP p := by simp [textP]
abbrev TR := Bs × Int × Int
/-- From place k on, behind this text. -/
def txtL : List (Int × Int) → Nat → Bs → TR
  | [], _, l => (l, 0, 0)
  | p :: ps, k, l => if faultI p.1 p.2 = 0 then txtL ps (k + 1) (l ++ lineP p) else ([], k, faultI p.1 p.2)
def txtT (ps : List (Int × Int)) : TR := txtL ps 0 []
def Fine (ps : List (Int × Int)) : Prop := ∀ p ∈ ps, faultI p.1 p.2 = 0
theorem txtL_app : ∀ (pre ps : List (Int × Int)) (k : Nat) (l : Bs), Fine pre → txtL (pre ++ ps) k l = txtL ps (k + pre.length) (l ++ textP pre)
  | [], ps, k, l, _ => by simp [textP]
  | p :: pre, ps, k, l, h => by
    rw [List.cons_append, txtL, if_pos (h p (by simp)), txtL_app pre ps _ _ (fun q hq => h q (List.mem_cons_of_mem _ hq)), List.length_cons, show k + 1 + pre.length = k + (pre.length + 1) by omega]
    simp [textP]
theorem txtT_good {ps : List (Int × Int)} (h : Fine ps) : txtT ps = (textP ps, 0, 0) := by
  have e := txtL_app ps [] 0 [] h
  rw [List.append_nil] at e
  rw [txtT, e]; rfl
theorem txtT_bad {ini suf : List (Int × Int)} {p : Int × Int} (h : Fine ini) (hp : faultI p.1 p.2 ≠ 0) : txtT (ini ++ p :: suf) = ([], (ini.length : Int), faultI p.1 p.2) := by
  rw [txtT, txtL_app ini _ 0 [] h, txtL, if_neg hp, Nat.zero_add]
theorem fine_app {ps : List (Int × Int)} {p : Int × Int} (h : Fine ps) (hp : faultI p.1 p.2 = 0) : Fine (ps ++ [p]) := fun q hq => by
  rcases List.mem_append.1 hq with h' | h'
  · exact h q h'
  · rw [List.mem_singleton.1 h']; exact hp
theorem word_len (o : Int) : (wordI opWs o).length ≤ 12 := by
  unfold wordI
  split
  · simp
  · rw [List.getD_eq_getElem?_getD]
    cases hg : opWs[o.toNat]? with
    | none => simp
    | some l => exact (show ∀ l ∈ opWs, l.length ≤ 12 by decide) l (List.mem_of_getElem? hg)
theorem fault_num {t o : Int} (h : faultI t o = 0) : (0 ≤ t ∧ t ≤ 999) ∧ (o ≠ 0 → wordI opWs o ≠ []) := by
  unfold faultI at h
  split at h
  · rename_i h1
    refine ⟨h1, fun h0 hw => ?_⟩
    rw [if_pos ⟨h0, hw⟩] at h; cases h
  · cases h
theorem lineP_len {p : Int × Int} (h : faultI p.1 p.2 = 0) : (lineP p).length ≤ 20 := by
  obtain ⟨⟨h1, h2⟩, _⟩ := fault_num h
  have h3 := dec_len (u := p.1.toNat) (k := 3) (by omega) (by omega)
  have h4 := word_len p.2
  unfold lineP midP
  split <;> simp <;> omega
theorem textP_len : ∀ {ps : List (Int × Int)}, Fine ps → (textP ps).length ≤ ps.length * 20
  | [], _ => by simp [textP]
  | p :: ps, h => by
    have h1 := lineP_len (h p (by simp))
    have h2 := textP_len (ps := ps) (fun q hq => h q (List.mem_cons_of_mem _ hq))
    unfold textP at h2 ⊢
    rw [List.flatMap_cons, List.length_append, List.length_cons]; omega
theorem op_bs (o : Int) (w : World) : Calls Tryd.prog 25 #[.int .i64 o] w fun e w' => e = .returned (.string (bs (wordI opWs o))) ∧ Only Nil w w' := op_note o w
theorem fault_any (t o : Int) (w : World) : Calls Tryd.prog 22 #[.agg #[.int .i64 t, .int .i64 o]] w fun e w' => e = .returned (.int .i64 (faultI t o)) ∧ Only Nil w w' := by
  have HR := Lib.hid (Row.new w 42 #[.int .i64 t, .int .i64 o])
  have HO := Lib.hid ((Only.refl Nil w).alloc (.cells #[.int .i64 t, .int .i64 o] 42))
  have HH := Lib.hid (fun W => has_any t W)
  have HP := Lib.hid (fun W => op_bs o W)
  by_cases ht : 0 ≤ t ∧ t ≤ 999
  · rw [decide_eq_true ht] at HH
    rw [show faultI t o = if o ≠ 0 ∧ wordI opWs o = [] then 5 else 0 from if_pos ht]
    clear ht
    by_cases h0 : o = 0
    · subst h0
      rw [if_neg (fun h => h.1 rfl)]
      go_enter Tryd.func22, Tryd.ntmps22
      go_wp2_with fail
      refine (HH.out _).mono ?_
      rintro e w2 ⟨rfl, rfl⟩
      go_wp2
      go_ret
      exact ⟨rfl, HO.out⟩
    · by_cases hw : wordI opWs o = []
      · rw [if_pos ⟨h0, hw⟩]
        obtain ⟨q1, q2⟩ := em_yes hw
        clear hw
        go_enter Tryd.func22, Tryd.ntmps22
        go_wp2_with fail
        refine (HH.out _).mono ?_
        rintro e w2 ⟨rfl, rfl⟩
        go_wp2_with fail
        refine (HP.out _).mono ?_
        rintro e w3 ⟨rfl, hO⟩
        have HO3 := Lib.hid (HO.out.trans hO)
        clear hO
        go_wp2
        go_ret
        exact ⟨rfl, HO3.out⟩
      · rw [if_neg (fun h => hw h.2)]
        obtain ⟨q1, q2⟩ := em_no hw
        clear hw
        go_enter Tryd.func22, Tryd.ntmps22
        go_wp2_with fail
        refine (HH.out _).mono ?_
        rintro e w2 ⟨rfl, rfl⟩
        go_wp2_with fail
        refine (HP.out _).mono ?_
        rintro e w3 ⟨rfl, hO⟩
        have HO3 := Lib.hid (HO.out.trans hO)
        clear hO
        go_wp2
        go_ret
        exact ⟨rfl, HO3.out⟩
  · rw [decide_eq_false ht] at HH
    rw [show faultI t o = 2 from if_neg ht]
    clear ht
    go_enter Tryd.func22, Tryd.ntmps22
    go_wp2_with fail
    refine (HH.out _).mono ?_
    rintro e w2 ⟨rfl, rfl⟩
    go_wp2
    go_ret
    exact ⟨rfl, HO.out⟩
theorem row_others {w w' : World} {i b : Nat} {t : TypeId} {cs : Array Value} (h : Row w i t cs) (ho : Lib.OthersKept 5 (some b) w w') (hi : i ≠ b) (ht : t ≠ 5) : Row w' i t cs :=
  ho i _ h (fun e => hi (by cases e; rfl)) (fun c fz e => ht (by cases e; rfl))
theorem Only.thenB {w w1 w2 : World} (h : Only Nil w w1) (hb : Below w.heap.size w1 w2) : Only Nil w w2 :=
  Only.of_below ((h.below (Nat.le_refl _) (fun _ _ => id)).trans hb) (fun k h1 h2 => absurd h1 (by omega))
/-- What Text tells. -/
def Texted (r : TR) (w : World) (e : Ending) (w' : World) : Prop := e = .returned (.tuple #[.string (bs r.1), .int .i64 r.2.1, .int .i64 r.2.2]) ∧ Only Nil w w'
set_option maxRecDepth 100000 in
set_option maxHeartbeats 2000000 in
theorem stext_any (v : Value) (ps : List (Int × Int)) (w : World) (h : PkAt w v ps) (hm : ps.length ≤ 100) (hL : LiesS w) : Calls Tryd.prog 11 #[v] w (Texted (txtT ps) w) := by
  obtain ⟨A, c, rfl, hat⟩ := h
  have HAT := Lib.hid hat
  have HL := Lib.hid hL
  obtain ⟨n, hn⟩ : ∃ n, n = ps.length := ⟨_, rfl⟩
  rw [← hn] at hm ⊢
  have HN := Lib.hid hn
  have hm' : (n : Int) ≤ 100 := by omega
  have HB0 := Lib.hid (bd_new w)
  have HO0 := Lib.hid ((Only.refl Nil w).alloc (.cells #[.pointer none, .slice none 0 0] 55))
  clear hat hL hn
  go_enter Tryd.func11, Tryd.ntmps11
  go_wp2
  generalize w.alloc _ = w0 at *
  go_loopw [11] (fun i wr => ∃ k : Nat, k ≤ n ∧ i = .int .i64 k ∧ Hid (Bd w.heap.size w.heap.size (textP (ps.take k)) wr) ∧ Hid (Fine (ps.take k)) ∧ Hid (Only Nil w wr)) (fun i _ => n - (intOf i).toNat)
  case atStart => exact ⟨0, Nat.zero_le _, rfl, HB0, Lib.hid (fun p hp => by simp at hp), HO0⟩
  case round =>
    clear HB0 HO0
    obtain ⟨k, hk, rfl, HB, HF, HO⟩ := hrel
    by_cases hlt : k < n
    · obtain ⟨p, hp⟩ : ∃ p, ps[k]? = some p := ⟨_, List.getElem?_eq_getElem (by rw [← HN.out]; exact hlt)⟩
      obtain ⟨b, q, rfl, hb, x0, x1⟩ := HAT.out k p hp
      have f0 := (HO.out.cell (p := ⟨b, q + k * 2, none⟩) hb id).trans x0
      have f1 := (HO.out.cell (p := ⟨b, q + k * 2 + 1, none⟩) hb id).trans x1
      have HTK := Lib.hid (show ps.take (k + 1) = ps.take k ++ [p] by rw [List.take_add_one, hp]; rfl)
      have HSP := Lib.hid (show ps = ps.take k ++ p :: ps.drop (k + 1) by
        have h := (List.take_append_drop k ps).symm
        rw [List.drop_eq_getElem_cons (by rw [← HN.out]; exact hlt)] at h
        rw [(List.getElem?_eq_some_iff.1 hp).2] at h
        exact h)
      clear x0 x1 hp
      obtain ⟨t, o⟩ := p
      dsimp only at f0 f1
      have HFA := Lib.hid (fun W => fault_any t o W)
      have e1 := (Only.refl Nil wr).alloc (.cells #[.int .i64 t, .int .i64 o] 42)
      have HB1 := Lib.hid (HB.out.only e1)
      have HO1 := Lib.hid (HO.out.trans e1)
      have HR1 := Lib.hid (Row.new wr 42 #[.int .i64 t, .int .i64 o])
      have HPB : Hid (wr.heap.size ≠ w.heap.size) := Lib.hid (by
        have h1 := HB.out
        have : w.heap.size < wr.heap.size := by
          rcases h1 with h | h
          · exact h.lt
          · exact h.lt
        omega)
      go_upto_region 5 with (fail)
      generalize wr.alloc _ = w1 at *
      generalize wr.heap.size = P at *
      have c0 : w1.cell? ⟨P, 0, none⟩ = some (.int .i64 t) := HR1.out.cell_ (i := 0) rfl
      have c1 : w1.cell? ⟨P, 1, none⟩ = some (.int .i64 o) := HR1.out.cell_ (i := 1) rfl
      clear e1 HB HO
      go_wp2_with fail
      refine (HFA.out _).mono ?_
      rintro e w2 ⟨rfl, hO⟩
      have HB2 := Lib.hid (HB1.out.only hO)
      have HO2 := Lib.hid (HO1.out.trans hO)
      have HR2 := Lib.hid (HR1.out.only hO id)
      clear hO HB1 HO1 HR1 HFA c0 c1
      by_cases hf : faultI t o = 0
      · rw [hf]
        obtain ⟨⟨t0, t1⟩, hw⟩ := fault_num hf
        obtain ⟨d, rfl⟩ : ∃ d : Nat, t = d := ⟨t.toNat, by omega⟩
        have HD := Lib.hid (show d ≤ 999 by omega)
        have HLP := Lib.hid (lineP_len (p := ((d : Int), o)) hf)
        have HFF := Lib.hid (show faultI ((d : Int), o).1 ((d : Int), o).2 = 0 from hf)
        have HTL := Lib.hid (textP_len HF.out)
        have HKL := Lib.hid (show (ps.take k).length ≤ 100 by rw [List.length_take]; omega)
        have HDL := Lib.hid (dec_len (u := d) (k := 3) (by omega) (by omega))
        have HWL := Lib.hid (word_len o)
        have c0 : w2.cell? ⟨P, 0, none⟩ = some (.int .i64 d) := HR2.out.cell_ (i := 0) rfl
        clear hf hw t0 t1
        go_wp2_with fail
        clear c0
        refine (sitoa_any d w2 (by have := HD.out; omega) (HL.out.only HO2.out)).mono ?_
        rintro e w3 ⟨rfl, hO⟩
        have HB3 := Lib.hid (HB2.out.only hO)
        have HO3 := Lib.hid (HO2.out.trans hO)
        have HR3 := Lib.hid (HR2.out.only hO id)
        clear hO HB2 HO2 HR2
        go_wp2_with fail
        refine (write_any _ _ _ _ w3 HB3.out (by have h1 := HTL.out; have h2 := HKL.out; have h3 := HDL.out; omega) HO3.out.size).mono ?_
        rintro e w4 ⟨⟨v4, rfl⟩, hB, hb4, hk4⟩
        have HB4 := Lib.hid hB
        have HO4 := Lib.hid (HO3.out.thenB hb4)
        have HR4 := Lib.hid (row_others HR3.out hk4 HPB.out (by decide))
        clear hB hb4 hk4 HB3 HO3 HR3
        have c1 : w4.cell? ⟨P, 1, none⟩ = some (.int .i64 o) := HR4.out.cell_ (i := 1) rfl
        by_cases h0 : o = 0
        · have HLN := Lib.hid (show textP (ps.take (k + 1)) = textP (ps.take k) ++ Lib.decDigits d ++ [10] by
            rw [HTK.out, textP_app, show lineP ((d : Int), o) = Lib.decDigits d ++ [10] by unfold lineP midP; rw [if_pos h0, List.append_nil]; rfl, List.append_assoc])
          subst h0
          go_wp2_with fail
          clear c1
          refine (write_any _ _ _ [10] w4 HB4.out (by have h1 := HTL.out; have h2 := HKL.out; have h3 := HDL.out; simp; omega) HO4.out.size).mono ?_
          rintro e w7 ⟨⟨v7, rfl⟩, hB, hb7, hk7⟩
          have HB7 := Lib.hid (show Bd w.heap.size w.heap.size (textP (ps.take (k + 1))) w7 by rw [HLN.out]; exact hB)
          have HO7 := Lib.hid (HO4.out.thenB hb7)
          have HF7 := Lib.hid (show Fine (ps.take (k + 1)) by rw [HTK.out]; exact fine_app HF.out HFF.out)
          clear hB hb7 hk7
          go_wp2
          exact ⟨⟨k + 1, by omega, by go_num, HB7, HF7, HO7⟩, by simp [intOf]; omega⟩
        · have HOP := Lib.hid (fun W => op_bs o W)
          have HLN := Lib.hid (show textP (ps.take (k + 1)) = textP (ps.take k) ++ Lib.decDigits d ++ (32 :: wordI opWs o) ++ [10] by
            rw [HTK.out, textP_app, show lineP ((d : Int), o) = Lib.decDigits d ++ (32 :: wordI opWs o) ++ [10] by unfold lineP midP; rw [if_neg h0]; rfl]
            simp only [List.append_assoc])
          have HCC := Lib.hid (show (⟨#[32]⟩ : ByteArray) ++ bs (wordI opWs o) = bs (32 :: wordI opWs o) from bs_app [32] _)
          have hws : (bs (wordI opWs o)).size ≤ 12 := word_len o
          have HWR := Lib.hid (fun W (h : Bd w.heap.size w.heap.size (textP (ps.take k) ++ Lib.decDigits d) W) (hB : w.heap.size ≤ W.heap.size) => write_any _ _ _ (32 :: wordI opWs o) W h (by have h1 := HTL.out; have h2 := HKL.out; have h3 := HDL.out; have h4 := HWL.out; simp; omega) hB)
          rw [← HCC.out] at HWR
          generalize bs (wordI opWs o) = X at *
          go_wp2_with fail
          clear c1
          refine (HOP.out _).mono ?_
          rintro e w5 ⟨rfl, hO⟩
          have HB5 := Lib.hid (HB4.out.only hO)
          have HO5 := Lib.hid (HO4.out.trans hO)
          clear hO HB4 HO4 HR4
          go_wp2_with fail
          refine (HWR.out _ HB5.out HO5.out.size).mono ?_
          rintro e w6 ⟨⟨v6, rfl⟩, hB, hb6, hk6⟩
          have HB6 := Lib.hid hB
          have HO6 := Lib.hid (HO5.out.thenB hb6)
          clear hB hb6 hk6 HB5 HO5
          go_wp2_with fail
          refine (write_any _ _ _ [10] w6 HB6.out (by have h1 := HTL.out; have h2 := HKL.out; have h3 := HDL.out; have h4 := HWL.out; simp; omega) HO6.out.size).mono ?_
          rintro e w7 ⟨⟨v7, rfl⟩, hB, hb7, hk7⟩
          have HB7 := Lib.hid (show Bd w.heap.size w.heap.size (textP (ps.take (k + 1))) w7 by rw [HLN.out]; exact hB)
          have HO7 := Lib.hid (HO6.out.thenB hb7)
          have HF7 := Lib.hid (show Fine (ps.take (k + 1)) by rw [HTK.out]; exact fine_app HF.out HFF.out)
          clear hB hb7 hk7
          go_wp2
          exact ⟨⟨k + 1, by omega, by go_num, HB7, HF7, HO7⟩, by simp [intOf]; omega⟩
      · have HE := Lib.hid (txtT_bad (suf := ps.drop (k + 1)) HF.out (show faultI (t, o).1 (t, o).2 ≠ 0 from hf))
        rw [← HSP.out] at HE
        generalize faultI t o = ft at *
        go_wp2
        go_ret3
        refine ⟨?_, HO2.out⟩
        rw [HE.out, List.length_take, Nat.min_eq_left (by have := HN.out; omega)]
        rfl
    · have hkk : k = n := by omega
      have htk : ps.take k = ps := List.take_of_length_le (by rw [← HN.out]; omega)
      rw [htk] at HB HF
      have HE := Lib.hid (txtT_good HF.out)
      have HS := Lib.hid (str_any _ _ _ wr HB.out HO.out.size)
      subst hkk
      clear htk
      go_wp2_with fail
      refine HS.out.mono ?_
      rintro e w2 ⟨rfl, hb⟩
      have HO2 := Lib.hid (HO.out.thenB hb)
      clear hb
      go_wp2
      go_ret3
      exact ⟨by rw [HE.out]; rfl, HO2.out⟩
end Go.Proofs.YtdneicbbnbbffaaDoor
