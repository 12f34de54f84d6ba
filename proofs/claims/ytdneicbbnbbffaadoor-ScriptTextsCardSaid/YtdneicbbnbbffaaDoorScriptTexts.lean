/- Any picks have the text that the document says, or none; what has one is read from it again. -/
import Derived.Test.YtdneicbbnbbffaaDoorScAw
import Derived.Test.YtdneicbbnbbffaaDoorScRT
import Derived.Test.YtdneicbbnbbffaaDoorPkArg
set_option linter.unusedVariables false
set_option linter.unusedSimpArgs false
namespace Go.Proofs.YtdneicbbnbbffaaDoor
open Go.RowKit
/-- The picks that came in, as a list. -/
theorem pkAt_in {w : World} {A : Option Addr} {len cap : Nat} (h : IsPicks w A len) : ∃ l : List (Int × Int), l.length = len ∧ PkAt w (.slice A len cap) l := by
  have h' : ∀ i, ∃ p : Int × Int, i < len → ∃ b q, A = some ⟨b, q, none⟩ ∧ b < w.heap.size ∧ w.cell? ⟨b, q + i * 2, none⟩ = some (.int .i64 p.1) ∧ w.cell? ⟨b, q + i * 2 + 1, none⟩ = some (.int .i64 p.2) := fun i => by
    by_cases hi : i < len
    · obtain ⟨b, q, t, o, h1, h2, h3, h4⟩ := h i hi
      exact ⟨(t, o), fun _ => ⟨b, q, h1, h2, h3, h4⟩⟩
    · exact ⟨(0, 0), fun h => absurd h hi⟩
  refine ⟨(List.range len).map fun i => Classical.choose (h' i), by simp, A, cap, by simp, fun j p hj => ?_⟩
  rw [List.getElem?_map] at hj
  obtain ⟨i, hi, rfl⟩ := Option.map_eq_some_iff.1 hj
  have hlt : j < len := by
    have := (List.getElem?_eq_some_iff.1 hi).1
    simpa using this
  rw [List.getElem?_range hlt] at hi
  obtain rfl := Option.some.inj hi
  exact Classical.choose_spec (h' j) hlt
theorem word_num : ∀ k : Fin 9, 0 < k.val → numI opWs (wordI opWs (k.val : Nat)) = (k.val : Nat) := by decide +kernel
theorem word_plain : ∀ l ∈ opWs, (32 : UInt8) ∉ l ∧ (10 : UInt8) ∉ l := by decide
theorem word_in {o : Int} (h : wordI opWs o ≠ []) : wordI opWs o ∈ opWs ∧ 0 < o ∧ o < 9 := by
  by_cases h1 : o < 0 ∨ (opWs.length : Int) ≤ o
  · exact absurd (word_out h1) h
  · have hl : (opWs.length : Int) = 9 := rfl
    obtain ⟨k, rfl⟩ : ∃ k : Nat, o = k := ⟨o.toNat, by omega⟩
    have hk : k < opWs.length := by omega
    have hk0 : k ≠ 0 := fun e => h (by rw [e]; rfl)
    refine ⟨?_, by omega, by omega⟩
    exact List.mem_of_getElem? (word_at hk)
theorem dec_not10 (u : Nat) : (10 : UInt8) ∉ Lib.decDigits u := fun h => by
  have := dec_mem u 10 h
  exact absurd this.1 (by decide)
theorem dec_ne (u : Nat) : Lib.decDigits u ≠ [] := fun h => by
  have := dval_dec u
  rw [h] at this
  obtain rfl : 0 = u := this
  rw [Lib.decDigits_one (by decide)] at h
  cases h
theorem dec_hash (u : Nat) : ¬ (Lib.decDigits u).head? = some 35 := fun h => by
  obtain ⟨c, hc⟩ : ∃ c, c = (35 : UInt8) := ⟨_, rfl⟩
  have hm : (35 : UInt8) ∈ Lib.decDigits u := List.mem_of_mem_head? (by rw [h]; rfl)
  have := dec_mem u 35 hm
  exact absurd this.1 (by decide)
theorem mid_not10 (o : Int) (h : o ≠ 0 → wordI opWs o ≠ []) : (10 : UInt8) ∉ midP o := by
  unfold midP
  by_cases h0 : o = 0
  · rw [if_pos h0]; simp
  · rw [if_neg h0]
    simp only [List.mem_cons, not_or]
    exact ⟨by decide, (word_plain _ (word_in (h h0)).1).2⟩
/-- A pick's line says the pick. -/
theorem line_back {p : Int × Int} (h : faultI p.1 p.2 = 0) : lineR (Lib.decDigits p.1.toNat ++ midP p.2) = .pick p.1 p.2 := by
  obtain ⟨⟨h1, h2⟩, h3⟩ := fault_num h
  have ht : taskN (Lib.decDigits p.1.toNat) = some p.1.toNat := task_of (by omega)
  by_cases h0 : p.2 = 0
  · have hm : midP p.2 = [] := by unfold midP; rw [if_pos h0]
    have hw : wordsL (Lib.decDigits p.1.toNat) = [Lib.decDigits p.1.toNat] := by
      unfold wordsL
      rw [cut_word _ (dec_blank _)]
      simp [dec_ne]
    rw [hm, List.append_nil, lineR, hw, sayL, if_neg (dec_hash _), ht]
    show LR.pick ((p.1.toNat : Nat) : Int) 0 = _
    rw [h0, show ((p.1.toNat : Nat) : Int) = p.1 by omega]
  · obtain ⟨m1, m2, m3⟩ := word_in (h3 h0)
    have hm : midP p.2 = 32 :: wordI opWs p.2 := by unfold midP; rw [if_neg h0]
    have hw : wordsL (Lib.decDigits p.1.toNat ++ 32 :: wordI opWs p.2) = [Lib.decDigits p.1.toNat, wordI opWs p.2] := by
      unfold wordsL
      rw [cut_more _ _ (dec_blank _), cut_word _ (word_plain _ m1).1]
      simp [dec_ne, h3 h0]
    have hn : numI opWs (wordI opWs p.2) = p.2 := by
      obtain ⟨k, hk⟩ : ∃ k : Nat, p.2 = k := ⟨p.2.toNat, by omega⟩
      have := word_num ⟨k, by omega⟩ (by show 0 < k; omega)
      rw [hk]; exact this
    rw [hm, lineR, hw, sayL, if_neg (dec_hash _), ht]
    show (if numI opWs (wordI opWs p.2) = 0 then LR.bad 5 else if ([] : List Bs) = [] then LR.pick ((p.1.toNat : Nat) : Int) (numI opWs (wordI opWs p.2)) else LR.bad 4) = _
    rw [hn, if_neg h0, if_pos rfl, show ((p.1.toNat : Nat) : Int) = p.1 by omega]
theorem lines_back : ∀ {ps : List (Int × Int)}, Fine ps → lineL (textP ps) = ps.map fun p => Lib.decDigits p.1.toNat ++ midP p.2
  | [], _ => rfl
  | p :: ps, h => by
    have hp := h p (by simp)
    obtain ⟨_, h3⟩ := fault_num hp
    have ih := lines_back (ps := ps) (fun q hq => h q (List.mem_cons_of_mem _ hq))
    have hn : (10 : UInt8) ∉ Lib.decDigits p.1.toNat ++ midP p.2 := by
      simp only [List.mem_append, not_or]; exact ⟨dec_not10 _, mid_not10 _ h3⟩
    have e : textP (p :: ps) = (Lib.decDigits p.1.toNat ++ midP p.2) ++ 10 :: textP ps := by simp [textP, lineP]
    obtain ⟨e1, e2⟩ := tw_hit (l := Lib.decDigits p.1.toNat ++ midP p.2) (r := textP ps) hn
    rw [e, lineL_step (by simp), e1, e2, ih]; rfl
theorem text_back {ps : List (Int × Int)} (h : Fine ps) : prsT (textP ps) = (ps, 0, 0) := by
  have hl := lines_back h
  have hg : Good (lineL (textP ps)) := fun l hm e => by
    rw [hl] at hm
    obtain ⟨p, hp, rfl⟩ := List.mem_map.1 hm
    rw [line_back (h p hp)]; intro hb; cases hb
  have hp : ∀ qs : List (Int × Int), Fine qs → picksOf (qs.map fun p => Lib.decDigits p.1.toNat ++ midP p.2) = qs := by
    intro qs
    induction qs with
    | nil => intro _; rfl
    | cons q qs ih =>
      intro hq
      have := ih (fun x hx => hq x (List.mem_cons_of_mem _ hx))
      unfold picksOf at this ⊢
      rw [List.map_cons, List.flatMap_cons, this, line_back (hq q (by simp))]; rfl
  rw [prsT_good hg, hl, hp ps h]
theorem txt_wrong : ∀ (ps : List (Int × Int)) (k : Nat) (l : Bs), ¬ Fine ps → (txtL ps k l).2.2 ≠ 0
  | [], _, _, h => absurd (fun p hp => by simp at hp) h
  | p :: ps, k, l, h => by
    rw [txtL]
    by_cases hp : faultI p.1 p.2 = 0
    · rw [if_pos hp]
      exact txt_wrong ps _ _ (fun hf => h (fun q hq => by
        rcases List.mem_cons.1 hq with rfl | hq
        · exact hp
        · exact hf q hq))
    · rw [if_neg hp]; exact hp
set_option maxRecDepth 100000 in
set_option maxHeartbeats 1000000 in
theorem walk_scriptTexts (A : Option Addr) (len cap : Nat) (W : World) (hin : IsPicks W A len) (hL : LiesS W) : Calls Tryd.prog 4 #[.slice A len cap] W fun e W' => e = .returned (.bool true) ∧ Only Nil W W' := by
  have HAW := Lib.hid (fun W' (ho : Only Nil W W') => awake_s W' (hL.only ho))
  by_cases hb : len ≤ 100
  · have hb' : (len : Int) ≤ 100 := by omega
    obtain ⟨ps, hps, hat⟩ := pkAt_in (cap := cap) hin
    have HAT := Lib.hid hat
    have HP := Lib.hid (stext_any _ ps W hat (by omega) hL)
    have HR := Lib.hid (fun W' (ho : Only Nil W W') => rtext_any _ ps W' (hat.only ho) (by omega))
    unfold Texted at HP HR
    have HPA := Lib.hid (fun (hf : Fine ps) W' (ho : Only Nil W W') => parse_any (textP ps) W' (by have := textP_len hf; omega) (hL.only ho))
    have HS := Lib.hid (fun v1 v2 W' h1 h2 => same_pk v1 v2 ps W' h1 h2 (by omega))
    clear hin hL hat hb
    by_cases hf : Fine ps
    · have HPB := Lib.hid (HPA.out hf)
      rw [txtT_good hf] at HP HR
      rw [text_back hf] at HPB
      have hq : ((bs (textP ps)).toList == (bs (textP ps)).toList) = true := beq_self_eq_true _
      clear HPA hps hf
      dsimp only at HP HR
      have HPC : Hid (∀ W', Only Nil W W' → ∀ S, S = bs (textP ps) → Calls Tryd.prog 8 #[.string S] W' (Parsed (ps, 0, 0) W')) := Lib.hid fun W' ho S hS => by rw [hS]; exact HPB.out W' ho
      generalize hX : bs (textP ps) = X at *
      have HX := Lib.hid hX
      clear hX HPB
      go_enter Tryd.func4, Tryd.ntmps4
      go_wp2_with fail
      refine HP.out.mono ?_
      rintro e w1 ⟨rfl, hO⟩
      have HO1 := Lib.hid hO
      clear hO HP
      go_wp2_with fail
      refine (HR.out _ HO1.out).mono ?_
      rintro e w2 ⟨rfl, hO⟩
      have HO2 := Lib.hid (HO1.out.trans hO)
      clear hO HR HO1
      go_wp2_with fail
      refine (HPC.out _ HO2.out X rfl).mono ?_
      rintro e w3 ⟨v, rfl, hown, hO⟩
      have HA := Lib.hid hown.at
      have HAT3 := Lib.hid ((HAT.out.only HO2.out).only hO)
      have HO3 := Lib.hid (HO2.out.trans hO)
      clear hown hO HO2
      go_wp2_with fail
      refine (HS.out _ _ _ HAT3.out HA.out).mono ?_
      rintro e w4 ⟨rfl, hO⟩
      have HOX := Lib.hid (HO3.out.trans hO)
      clear hO HO3
      go_wp2_with fail
      refine (HAW.out _ HOX.out).mono ?_
      rintro e wz ⟨rfl, hO⟩
      have HZ := Lib.hid (HOX.out.trans hO)
      clear hO
      go_wp2
      go_ret
      exact ⟨rfl, HZ.out⟩
    · have hne : ¬ (txtT ps).2.2 = 0 := txt_wrong ps 0 [] hf
      have hq : ((bs (txtT ps).1).toList == (bs (txtT ps).1).toList) = true := beq_self_eq_true _
      clear HPA hps hf
      generalize bs (txtT ps).1 = X at *
      generalize (txtT ps).2.1 = at0 at *
      generalize (txtT ps).2.2 = er at *
      go_enter Tryd.func4, Tryd.ntmps4
      go_wp2_with fail
      refine HP.out.mono ?_
      rintro e w1 ⟨rfl, hO⟩
      have HO1 := Lib.hid hO
      clear hO HP
      go_wp2_with fail
      refine (HR.out _ HO1.out).mono ?_
      rintro e w2 ⟨rfl, hO⟩
      have HO2 := Lib.hid (HO1.out.trans hO)
      clear hO HR HO1
      have HOX := Lib.hid HO2.out
      go_wp2_with fail
      refine (HAW.out _ HOX.out).mono ?_
      rintro e wz ⟨rfl, hO⟩
      have HZ := Lib.hid (HOX.out.trans hO)
      clear hO
      go_wp2
      go_ret
      exact ⟨rfl, HZ.out⟩
  · have hb' : (100 : Int) < (len : Int) := by omega
    have HOX := Lib.hid (Only.refl Nil W)
    clear hb hL hin
    go_enter Tryd.func4, Tryd.ntmps4
    go_wp2_with fail
    refine (HAW.out _ HOX.out).mono ?_
    rintro e wz ⟨rfl, hO⟩
    have HZ := Lib.hid (HOX.out.trans hO)
    clear hO
    go_wp2
    go_ret
    exact ⟨rfl, HZ.out⟩
end Go.Proofs.YtdneicbbnbbffaaDoor
