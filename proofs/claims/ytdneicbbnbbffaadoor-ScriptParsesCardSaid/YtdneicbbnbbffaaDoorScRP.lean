/- The answer's Parse. -/
import Derived.Test.YtdneicbbnbbffaaDoorScRW
import Derived.Test.YtdneicbbnbbffaaDoorScRL
import Derived.Test.YtdneicbbnbbffaaDoorScTx
import Derived.Test.YtdneicbbnbbffaaDoorScParse
import Derived.Test.YtdneicbbnbbffaaDoorNoteRN
set_option linter.unusedVariables false
set_option linter.unusedSimpArgs false
namespace Go.Proofs.YtdneicbbnbbffaaDoor
open Go.RowKit
/-- What a line's words say, by the answer's tests. -/
theorem say_forms (ws : List Bs) : (ws = [] ∧ sayL ws = .quiet) ∨ ∃ x r, ws = x :: r ∧ ((x.head? = some 35 ∧ sayL ws = .quiet) ∨ (¬ x.head? = some 35 ∧ ((taskI x < 0 ∧ taskI x = -1 ∧ sayL ws = .bad 4) ∨ (0 ≤ taskI x ∧ taskI x ≤ 999 ∧ ((r = [] ∧ sayL ws = .pick (taskI x) 0) ∨ ∃ y r', r = y :: r' ∧
    ((numI opWs y = 0 ∧ sayL ws = .bad 5) ∨ (¬ numI opWs y = 0 ∧ ((r' = [] ∧ sayL ws = .pick (taskI x) (numI opWs y)) ∨ ∃ z r'', r' = z :: r'' ∧ sayL ws = .bad 4)))))))) := by
  cases ws with
  | nil => exact .inl ⟨rfl, rfl⟩
  | cons x r =>
    refine .inr ⟨x, r, rfl, ?_⟩
    by_cases h1 : x.head? = some 35
    · exact .inl ⟨h1, by rw [sayL, if_pos h1]⟩
    · refine .inr ⟨h1, ?_⟩
      rw [sayL, if_neg h1]
      cases ht : taskN x with
      | none =>
        have e : taskI x = -1 := by unfold taskI; rw [ht]
        exact .inl ⟨by rw [e]; decide, e, rfl⟩
      | some t =>
        have e : taskI x = t := by unfold taskI; rw [ht]
        have hb := (task_some ht).2
        refine .inr ⟨by omega, by omega, ?_⟩
        rw [e]
        cases r with
        | nil => exact .inl ⟨rfl, rfl⟩
        | cons y r' =>
          refine .inr ⟨y, r', rfl, ?_⟩
          simp only
          by_cases h2 : numI opWs y = 0
          · exact .inl ⟨h2, by rw [if_pos h2]⟩
          · refine .inr ⟨h2, ?_⟩
            rw [if_neg h2]
            cases r' with
            | nil => exact .inl ⟨rfl, by rw [if_pos rfl]⟩
            | cons z r'' => exact .inr ⟨z, r'', rfl, by rw [if_neg (by simp)]⟩
/-- A list of these texts, that lies there. -/
def TxAt (w : World) (v : Value) (ls : List Bs) : Prop := ∃ A c, v = .slice A ls.length c ∧ ∀ j x, ls[j]? = some x → ∃ b, A = some ⟨b, 0, none⟩ ∧ b < w.heap.size ∧ w.cell? ⟨b, j, none⟩ = some (.string (bs x))
theorem TxAt.only {w w' : World} {v : Value} {ls : List Bs} (h : TxAt w v ls) (ho : Only Nil w w') : TxAt w' v ls := by
  obtain ⟨A, c, hv, hat⟩ := h
  refine ⟨A, c, hv, fun j x hj => ?_⟩
  obtain ⟨b, hA, hb, hc⟩ := hat j x hj
  exact ⟨b, hA, Nat.lt_of_lt_of_le hb ho.size, (ho.cell (p := ⟨b, j, none⟩) hb id).trans hc⟩
theorem txAt_of {base : Nat} {w : World} {v : Value} {ls : List Bs} (h : OwnS base w v (ls.map bs)) : TxAt w v ls := by
  by_cases h0 : ls = []
  · subst h0
    rcases h.2 with ⟨rfl, _⟩ | ⟨g, cap, cur, rfl, _⟩
    · exact ⟨none, 0, rfl, fun j x hj => by simp at hj⟩
    · exact ⟨_, _, rfl, fun j x hj => by simp at hj⟩
  · obtain ⟨g, c, hv, hg, _, _, hat⟩ := h.form (by simpa using h0)
    rw [List.length_map] at hv
    refine ⟨_, c, hv, fun j x hj => ⟨g, rfl, hg, ?_⟩⟩
    have := hat j (bs x) (by rw [List.getElem?_map, hj]; rfl)
    rwa [Nat.zero_add] at this
theorem words_ne (l : Bs) : ∀ w ∈ wordsL l, w ≠ [] := fun w hw => by
  have := (List.mem_filter.1 hw).2
  simpa using this
theorem cut_len : ∀ l : Bs, (cut l).length ≤ l.length + 1
  | [] => Nat.le_refl _
  | b :: l => by
    have ih := cut_len l
    unfold cut
    split
    · simp; omega
    · split
      · rename_i h; rw [h] at ih; simp at ih ⊢; omega
      · simp
theorem words_len (l : Bs) : (wordsL l).length ≤ l.length + 1 := Nat.le_trans (List.length_filter_le _ _) (cut_len l)
set_option maxRecDepth 100000 in
set_option maxHeartbeats 2000000 in
theorem rparse_any (t : Bs) (w : World) (ht : t.length ≤ 100000) : Calls Tryd.prog 9 #[.string (bs t)] w (Parsed (prsT t) w) := by
  have HL := Lib.hid (fun W => lines_s (bs t) W (by rw [bs_size]; exact ht))
  have HN := Lib.hid (lineL_len t)
  have HT := Lib.hid ht
  have HSH := Lib.hid (lineL_short t)
  have HPG := Lib.hid (fun h => prsT_good (t := t) h)
  have HPB := Lib.hid (fun ini suf y er h1 h2 h3 => prsT_bad (t := t) (ini := ini) (suf := suf) (y := y) (er := er) h1 h2 h3)
  go_enter Tryd.func9, Tryd.ntmps9
  go_wp2_with fail
  refine (HL.out _).mono ?_
  rintro e w1 ⟨lv, rfl, hown, hO⟩
  have HLA := Lib.hid (txAt_of hown)
  have HO1 := Lib.hid hO
  clear hown hO HL ht
  rw [show (bs t).data.toList = t from rfl] at HLA
  obtain ⟨LA, lc, rfl, hat⟩ := HLA.out
  have HAT := Lib.hid hat
  clear hat HLA
  generalize hls : lineL t = ls at *
  have HLS := Lib.hid hls
  clear hls
  have hn100 : (ls.length : Int) ≤ 100000 := by have := HN.out; have := HT.out; omega
  go_wp2
  go_loopw [5, 7] (fun out i wr => ∃ k : Nat, k ≤ ls.length ∧ i = .int .i64 k ∧ OwnK w1.heap.size wr out (picksOf (ls.take k)) ∧ Hid (Good (ls.take k)) ∧ Hid (Only Nil w1 wr)) (fun _ i _ => ls.length - (intOf i).toNat)
  case atStart => exact ⟨0, Nat.zero_le _, rfl, ownK_nil _ _, Lib.hid (fun l hl => by simp at hl), Lib.hid (Only.refl _ _)⟩
  case round =>
    obtain ⟨k, hk, rfl, hown, HG, HO⟩ := hrel
    have HOWN := Lib.hid hown
    clear hown
    by_cases hlt : k < ls.length
    · obtain ⟨y, hy⟩ : ∃ y, ls[k]? = some y := ⟨_, List.getElem?_eq_getElem hlt⟩
      obtain ⟨lb, rfl, hlb, hc⟩ := HAT.out k y hy
      have hc' := (HO.out.cell (p := ⟨lb, k, none⟩) hlb id).trans hc
      have HYL := Lib.hid (Nat.le_trans (HSH.out y (List.mem_of_getElem? hy)) HT.out)
      have HTK := Lib.hid (show ls.take (k + 1) = ls.take k ++ [y] by rw [List.take_add_one, hy]; rfl)
      have HSP := Lib.hid (show ls = ls.take k ++ y :: ls.drop (k + 1) by
        have h := (List.take_append_drop k ls).symm
        rw [List.drop_eq_getElem_cons hlt] at h
        rw [(List.getElem?_eq_some_iff.1 hy).2] at h
        exact h)
      have HW := Lib.hid (fun W => words_s (bs y) W (by rw [bs_size]; exact HYL.out))
      clear hc hy
      go_wp2_with fail
      refine (HW.out _).mono ?_
      rintro e w2 ⟨wv, rfl, hwo, hO⟩
      have HWA := Lib.hid (txAt_of hwo)
      have HO2 := Lib.hid (HO.out.trans hO)
      have HOWN2 := Lib.hid (HOWN.out.keep hO)
      clear hwo hO HW HO HOWN hc'
      rw [show (bs y).data.toList = y from rfl] at HWA
      have HSAY : Hid (lineR y = sayL (wordsL y)) := Lib.hid rfl
      obtain ⟨WA, wc, rfl, hwat⟩ := HWA.out
      have HWAT := Lib.hid hwat
      have hcase := say_forms (wordsL y)
      have hne := words_ne y
      have hwl : ((wordsL y).length : Int) ≤ 200000 := by have := words_len y; have := HYL.out; omega
      clear hwat HWA
      generalize wordsL y = ws at *
      rcases hcase with ⟨rfl, hs⟩ | ⟨x, r, rfl, hcase⟩
      · have HLR := Lib.hid (HSAY.out.trans hs)
        clear hs hne hwl HWAT
        go_wp2
        exact ⟨⟨k + 1, by omega, by go_num, by rw [HTK.out, picksOf_app, HLR.out]; simpa [pkOf] using HOWN2.out, Lib.hid (by rw [HTK.out]; exact good_app HG.out (fun e h => by rw [HLR.out] at h; cases h)), HO2⟩, by simp [intOf]; omega⟩
      · obtain ⟨wb, rfl, hwb, hx0⟩ := HWAT.out 0 x rfl
        obtain ⟨c, x', hx⟩ : ∃ c x', x = c :: x' := by
          cases x with
          | nil => exact absurd rfl (hne [] (by simp))
          | cons c x' => exact ⟨c, x', rfl⟩
        have hsz : 0 < (bs x).size := by rw [bs_size, hx]; simp
        have hb0 : (bs x)[0] = c := by
          have : (bs x).data.toList[0]'(by rw [hx]; simp [bs]) = (bs x)[0] := getElem_list (bs x) 0 hsz
          rw [← this]; simp [hx, bs]
        have hw1 : ¬ ((x :: r).length : Int) = 0 := by simp; omega
        have HTX := Lib.hid (fun W => task_s (bs x) W)
        rw [show (bs x).data.toList = x from rfl] at HTX
        have HWL := Lib.hid hwl
        rcases hcase with ⟨h35, hs⟩ | ⟨h35, hcase⟩
        · have h35' : ((bs x)[0]).toNat = 35 := by rw [hb0]; rw [hx] at h35; simp at h35; rw [h35]; rfl
          have HLR := Lib.hid (HSAY.out.trans hs)
          clear hs hne hx hb0 h35 HTX hwl
          generalize bs x = X at *
          generalize (x :: r).length = wn at *
          go_wp2
          exact ⟨⟨k + 1, by omega, by go_num, by rw [HTK.out, picksOf_app, HLR.out]; simpa [pkOf] using HOWN2.out, Lib.hid (by rw [HTK.out]; exact good_app HG.out (fun e h => by rw [HLR.out] at h; cases h)), HO2⟩, by simp [intOf]; omega⟩
        · have h35' : ¬ ((bs x)[0]).toNat = 35 := by
            rw [hb0]; rw [hx] at h35
            exact fun h => h35 (by simp; exact UInt8.toNat_inj.1 (h.trans rfl))
          have h36 : (((bs x)[0].toNat : Int) == 35) = false := by simp; omega
          clear hb0 h35 hx
          rcases hcase with ⟨t0, _, hs⟩ | ⟨t0, t1, hcase⟩
          · have HLR := Lib.hid (HSAY.out.trans hs)
            clear hs hne hwl HWAT
            generalize taskI x = tk at *
            generalize bs x = X at *
            generalize (x :: r).length = wn at *
            go_wp2_with fail
            refine (HTX.out _).mono ?_
            rintro e w3 ⟨rfl, hO3⟩
            have HO3 := Lib.hid (HO2.out.trans hO3)
            have HOWN3 := Lib.hid (HOWN2.out.keep hO3)
            have HE := Lib.hid (HPB.out _ _ y 4 HSP.out HG.out HLR.out)
            go_wp2
            go_ret3
            rw [HE.out]
            refine ⟨_, ?_, World.ownsRow_nil _ _ _ _, HO1.out.trans HO3.out⟩
            rw [List.length_take, Nat.min_eq_left hk]
            exact congrArg (fun z => Ending.returned (.tuple #[.slice none 0 0, .int .i64 z, .int .i64 4])) (by show (k : Int) + 1 = ((1 + k : Nat) : Int); omega)
          · have t2 : ¬ taskI x < 0 := by omega
            have hpl : ((picksOf (ls.take k)).length : Int) ≤ 100000 := by
              have := picksOf_len (ls.take k); rw [List.length_take] at this; omega
            have HPL := Lib.hid hpl
            obtain ⟨z0, hz⟩ : ∃ z : Int, (picksOf (ls.take k)).length = z.toNat ∧ 0 ≤ z ∧ z ≤ 100000 := ⟨_, (Int.toNat_natCast _).symm, by omega, hpl⟩
            obtain ⟨hz, hz0, hz1⟩ := hz
            have hzz : (z0.toNat : Int) = z0 := Int.toNat_of_nonneg hz0
            have HZ := Lib.hid hz
            clear hpl hz
            rcases hcase with ⟨rfl, hs⟩ | ⟨z, r', rfl, hcase⟩
            · have HLR := Lib.hid (HSAY.out.trans hs)
              clear hs hne hwl HWAT
              generalize taskI x = tk at *
              generalize bs x = X at *
              rw [show [x].length = 1 from rfl] at hw1 ⊢
              go_wp2_with fail
              refine (HTX.out _).mono ?_
              rintro e w3 ⟨rfl, hO3⟩
              have HO3 := Lib.hid (HO2.out.trans hO3)
              have HOWN3 := Lib.hid (HOWN2.out.keep hO3)
              obtain ⟨av, cv, rfl⟩ := HOWN3.out.shape
              rw [HZ.out] at HOWN3 ⊢
              go_wp2_with (at_builtin; refine wp_appK rfl (.tmp 63) (.tmp 67) rfl w1.heap.size _ _ rfl (HOWN3.out.keep ((Only.refl _ _).alloc _)) _ (tk, 0) rfl (Row.new _ _ _) (by have := HPL.out; omega) (by have := HO3.out.size; simp; omega) ?_)
              intro v5 w5 hown hon
              have HO5 := Lib.hid (hon w1 (HO3.out.alloc _) (Nat.le_refl _))
              have HOWN5 := Lib.hid hown
              clear hown hon
              go_wp2
              exact ⟨⟨k + 1, by omega, by go_num, by rw [HTK.out, picksOf_app, HLR.out]; exact HOWN5.out, Lib.hid (by rw [HTK.out]; exact good_app HG.out (fun e h => by rw [HLR.out] at h; cases h)), HO5⟩, by simp [intOf]; omega⟩
            · obtain ⟨_, e1, _, hx1⟩ := HWAT.out 1 z rfl
              obtain rfl : wb = _ := by simpa using e1
              have HNR := Lib.hid (fun W => number_ref (bs z) W)
              rw [show (bs z).data.toList = z from rfl] at HNR
              rcases hcase with ⟨n0, hs⟩ | ⟨n0, ⟨rfl, hs⟩ | ⟨z2, r'', rfl, hs⟩⟩
              · have HLR := Lib.hid (HSAY.out.trans hs)
                clear hs hne HWAT
                have hw2 : (1 : Int) < ((x :: z :: r').length : Int) := by simp; omega
                rw [n0] at HNR
                generalize taskI x = tk at *
                generalize bs x = X at *
                generalize bs z = Z at *
                generalize (x :: z :: r').length = wn at *
                go_wp2_with fail
                refine (HTX.out _).mono ?_
                rintro e w3 ⟨rfl, hO3⟩
                have HO3 := Lib.hid (HO2.out.trans hO3)
                have HOWN3 := Lib.hid (HOWN2.out.keep hO3)
                have hx1' := (hO3.cell (p := ⟨wb, 1, none⟩) hwb id).trans hx1
                go_wp2_with fail
                refine (HNR.out _).mono ?_
                rintro e w4 ⟨rfl, hO4⟩
                have HO4 := Lib.hid (HO3.out.trans hO4)
                have HOWN4 := Lib.hid (HOWN3.out.keep hO4)
                clear hO4 hO3 hx1 hx1' hx0
                have HE := Lib.hid (HPB.out _ _ y 5 HSP.out HG.out HLR.out)
                go_wp2
                go_ret3
                rw [HE.out]
                refine ⟨_, ?_, World.ownsRow_nil _ _ _ _, HO1.out.trans HO4.out⟩
                rw [List.length_take, Nat.min_eq_left hk]
                exact congrArg (fun z => Ending.returned (.tuple #[.slice none 0 0, .int .i64 z, .int .i64 5])) (by show (k : Int) + 1 = ((1 + k : Nat) : Int); omega)
              · have HLR := Lib.hid (HSAY.out.trans hs)
                clear hs hne HWAT
                generalize taskI x = tk at *
                generalize numI opWs z = o at *
                generalize bs x = X at *
                generalize bs z = Z at *
                have hw2 : (1 : Int) < (([x, z] : List Bs).length : Int) := by simp
                have hw3 : ¬ (2 : Int) < (([x, z] : List Bs).length : Int) := by simp
                generalize ([x, z] : List Bs).length = wn at *
                go_wp2_with fail
                refine (HTX.out _).mono ?_
                rintro e w3 ⟨rfl, hO3⟩
                have HO3 := Lib.hid (HO2.out.trans hO3)
                have HOWN3 := Lib.hid (HOWN2.out.keep hO3)
                have hx1' := (hO3.cell (p := ⟨wb, 1, none⟩) hwb id).trans hx1
                go_wp2_with fail
                refine (HNR.out _).mono ?_
                rintro e w4 ⟨rfl, hO4⟩
                have HO4 := Lib.hid (HO3.out.trans hO4)
                have HOWN4 := Lib.hid (HOWN3.out.keep hO4)
                clear hO4 hO3 hx1 hx1' hx0
                obtain ⟨av, cv, rfl⟩ := HOWN4.out.shape
                rw [HZ.out] at HOWN4 ⊢
                go_wp2_with (at_builtin; refine wp_appK rfl (.tmp 63) (.tmp 67) rfl w1.heap.size _ _ rfl (HOWN4.out.keep ((Only.refl _ _).alloc _)) _ (tk, o) rfl (Row.new _ _ _) (by have := HPL.out; omega) (by have := HO4.out.size; simp; omega) ?_)
                intro v5 w5 hown hon
                have HO5 := Lib.hid (hon w1 (HO4.out.alloc _) (Nat.le_refl _))
                have HOWN5 := Lib.hid hown
                clear hown hon
                go_wp2
                exact ⟨⟨k + 1, by omega, by go_num, by rw [HTK.out, picksOf_app, HLR.out]; exact HOWN5.out, Lib.hid (by rw [HTK.out]; exact good_app HG.out (fun e h => by rw [HLR.out] at h; cases h)), HO5⟩, by simp [intOf]; omega⟩
              · have HLR := Lib.hid (HSAY.out.trans hs)
                clear hs hne HWAT
                have hw2 : (1 : Int) < ((x :: z :: z2 :: r'').length : Int) := by simp; omega
                have hw3 : (2 : Int) < ((x :: z :: z2 :: r'').length : Int) := by simp; omega
                generalize taskI x = tk at *
                generalize numI opWs z = o at *
                generalize bs x = X at *
                generalize bs z = Z at *
                generalize (x :: z :: z2 :: r'').length = wn at *
                go_wp2_with fail
                refine (HTX.out _).mono ?_
                rintro e w3 ⟨rfl, hO3⟩
                have HO3 := Lib.hid (HO2.out.trans hO3)
                have HOWN3 := Lib.hid (HOWN2.out.keep hO3)
                have hx1' := (hO3.cell (p := ⟨wb, 1, none⟩) hwb id).trans hx1
                go_wp2_with fail
                refine (HNR.out _).mono ?_
                rintro e w4 ⟨rfl, hO4⟩
                have HO4 := Lib.hid (HO3.out.trans hO4)
                have HOWN4 := Lib.hid (HOWN3.out.keep hO4)
                clear hO4 hO3 hx1 hx1' hx0
                have HE := Lib.hid (HPB.out _ _ y 4 HSP.out HG.out HLR.out)
                go_wp2
                go_ret3
                rw [HE.out]
                refine ⟨_, ?_, World.ownsRow_nil _ _ _ _, HO1.out.trans HO4.out⟩
                rw [List.length_take, Nat.min_eq_left hk]
                exact congrArg (fun z => Ending.returned (.tuple #[.slice none 0 0, .int .i64 z, .int .i64 4])) (by show (k : Int) + 1 = ((1 + k : Nat) : Int); omega)
    · have hkk : k = ls.length := by omega
      have htk : ls.take k = ls := List.take_of_length_le (by omega)
      rw [htk] at HG HOWN
      have HE := Lib.hid (HPG.out HG.out)
      subst hkk
      clear htk HPG HPB
      go_wp2
      go_ret3
      rw [HE.out]
      exact ⟨_, rfl, HOWN.out.mono HO1.out.size, HO1.out.trans HO.out⟩
end Go.Proofs.YtdneicbbnbbffaaDoor
