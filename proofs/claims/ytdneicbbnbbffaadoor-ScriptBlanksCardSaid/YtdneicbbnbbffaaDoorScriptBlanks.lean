/- More blanks, empty lines and lines with a # change nothing but the lines' numbers. -/
import Derived.Test.YtdneicbbnbbffaaDoorScAw
import Derived.Test.YtdneicbbnbbffaaDoorScRL
import Derived.Laws.AppendOwnNone
import Derived.BigFrame
set_option linter.unusedVariables false
set_option linter.unusedSimpArgs false
namespace Go.Proofs.YtdneicbbnbbffaaDoor
open Go.RowKit
/-- A line that says nothing. -/
def piece : Nat → Bs
  | 0 => []
  | 1 => [32, 32, 32]
  | _ => [32, 35, 32, 51, 32, 114, 108, 111, 99, 107]
def btw : Nat → Bs
  | 0 => [10]
  | i + 1 => btw i ++ (piece (i % 3) ++ [10])
def quietsL (m : Nat) : List Bs := (List.range m).map fun i => piece (i % 3)
theorem piece_plain (i : Nat) : (10 : UInt8) ∉ piece (i % 3) := by
  have : i % 3 = 0 ∨ i % 3 = 1 ∨ i % 3 = 2 := by omega
  rcases this with h | h | h <;> rw [h] <;> decide
theorem piece_quiet (i : Nat) : lineR (piece (i % 3)) = .quiet := by
  have : i % 3 = 0 ∨ i % 3 = 1 ∨ i % 3 = 2 := by omega
  rcases this with h | h | h <;> rw [h]
  · rfl
  · rfl
  · exact line_quiet (by decide)
theorem lines_btw (A : Bs) : ∀ (m : Nat) (r : Bs), lineL (A ++ btw m ++ r) = lineL (A ++ [10]) ++ quietsL m ++ lineL r
  | 0, r => by
    have := lineL_app A r
    simpa [btw, quietsL] using this
  | m + 1, r => by
    have ih := lines_btw A m (piece (m % 3) ++ 10 :: r)
    rw [lineL_pre _ _ (piece_plain m)] at ih
    rw [show A ++ btw (m + 1) ++ r = A ++ btw m ++ (piece (m % 3) ++ 10 :: r) by simp [btw], ih]
    simp [quietsL, List.range_succ]
theorem quiets_good (m : Nat) : Good (quietsL m) ∧ picksOf (quietsL m) = [] := by
  refine ⟨fun l hl e => ?_, ?_⟩
  · obtain ⟨i, _, rfl⟩ := List.mem_map.1 hl
    rw [piece_quiet]; intro h; cases h
  · unfold picksOf quietsL
    rw [List.flatMap_eq_nil_iff]
    intro l hl
    obtain ⟨i, _, rfl⟩ := List.mem_map.1 hl
    rw [piece_quiet]; rfl
theorem end_good {A : Bs} (h : Good (lineL A)) : Good (lineL (A ++ [10])) ∧ picksOf (lineL (A ++ [10])) = picksOf (lineL A) := by
  rcases lineL_end A with e | e
  · rw [e]; exact ⟨h, rfl⟩
  · rw [e]
    have hq : lineR [] = .quiet := rfl
    exact ⟨good_app h (by rw [hq]; intro e h; cases h), by rw [picksOf_app, hq]; simp [pkOf]⟩
theorem good_apps {a b : List Bs} (ha : Good a) (hb : Good b) : Good (a ++ b) := fun l hl => (List.mem_append.1 hl).elim (ha l) (hb l)
theorem prsL_wrong : ∀ (ls : List Bs) (k : Nat) (out : List (Int × Int)), ¬ Good ls → (prsL ls k out).1 = [] ∧ (prsL ls k out).2.2 ≠ 0
  | [], _, _, h => absurd (fun l hl => by simp at hl) h
  | l :: ls, k, out, h => by
    rw [prsL]
    cases e : lineR l with
    | bad b =>
      refine ⟨rfl, ?_⟩
      rcases bad_err e with rfl | rfl
      · show (4 : Int) ≠ 0; decide
      · show (5 : Int) ≠ 0; decide
    | quiet => exact prsL_wrong ls _ _ (fun hg => h (fun x hx => (List.mem_cons.1 hx).elim (fun h => by rw [h, e]; intro a b; cases b) (hg x)))
    | pick a b => exact prsL_wrong ls _ _ (fun hg => h (fun x hx => (List.mem_cons.1 hx).elim (fun h => by rw [h, e]; intro a b; cases b) (hg x)))
theorem prsL_shift : ∀ (ls : List Bs) (k d : Nat) (out out' : List (Int × Int)), ¬ Good ls → prsL ls (k + d) out' = ([], (prsL ls k out).2.1 + d, (prsL ls k out).2.2)
  | [], _, _, _, _, h => absurd (fun l hl => by simp at hl) h
  | l :: ls, k, d, out, out', h => by
    rw [prsL, prsL]
    cases e : lineR l with
    | bad b => simp
    | quiet =>
      simp only
      rw [show k + d + 1 = k + 1 + d by omega]
      exact prsL_shift ls _ _ _ _ (fun hg => h (fun x hx => (List.mem_cons.1 hx).elim (fun h => by rw [h, e]; intro a b; cases b) (hg x)))
    | pick a b =>
      simp only
      rw [show k + d + 1 = k + 1 + d by omega]
      exact prsL_shift ls _ _ _ _ (fun hg => h (fun x hx => (List.mem_cons.1 hx).elim (fun h => by rw [h, e]; intro a b; cases b) (hg x)))
theorem prsL_line : ∀ (ls : List Bs) (k : Nat) (out : List (Int × Int)), 0 ≤ (prsL ls k out).2.1 ∧ (prsL ls k out).2.1 ≤ ((k + ls.length : Nat) : Int)
  | [], k, out => by
    rw [prsL]
    exact ⟨Int.le_refl _, by show (0 : Int) ≤ _; omega⟩
  | l :: ls, k, out => by
    rw [prsL, List.length_cons]
    cases e : lineR l with
    | bad b =>
      dsimp only
      omega
    | quiet =>
      have h := prsL_line ls (k + 1) out
      dsimp only
      omega
    | pick a b =>
      have h := prsL_line ls (k + 1) (out ++ [(a, b)])
      dsimp only
      omega
theorem both_good {A B : Bs} (m : Nat) (hA : Good (lineL A)) (hB : Good (lineL B)) : prsT (A ++ btw m ++ B) = (picksOf (lineL A) ++ picksOf (lineL B), 0, 0) := by
  obtain ⟨h1, h2⟩ := end_good hA
  obtain ⟨h3, h4⟩ := quiets_good m
  have hl := lines_btw A m B
  rw [prsT_good (by rw [hl]; exact good_apps (good_apps h1 h3) hB), hl]
  unfold picksOf at *
  rw [List.flatMap_append, List.flatMap_append, h2, h4, List.append_nil]
theorem both_bad {A B : Bs} (m : Nat) (hA : Good (lineL A)) (hB : ¬ Good (lineL B)) : prsT (A ++ btw m ++ B) = ([], (prsT B).2.1 + (((lineL (A ++ [10])).length + m : Nat) : Int), (prsT B).2.2) := by
  obtain ⟨h1, h2⟩ := end_good hA
  obtain ⟨h3, h4⟩ := quiets_good m
  rw [prsT, lines_btw A m B, prsL_app _ _ _ _ (good_apps h1 h3)]
  have hq : (lineL (A ++ [10]) ++ quietsL m).length = (lineL (A ++ [10])).length + m := by rw [List.length_append]; simp [quietsL]
  rw [hq]
  exact prsL_shift _ 1 _ [] _ hB
theorem wp_appKs {w : World} {ops : Array Oper} {rest : List Oper} {o : Oper} {a : Act} {Q : Exit → Act → World → Prop} (s x : Operand) (hw : Region.wanted o (yielded ops a.tmps) = true)
    (ho : o.op = .call { callee := .builtin .append, args := #[s, x], argTypes := #[23, 23] })
    (base b2 : Nat) (v v2 : Value) (ps qs : List (Int × Int)) (hs : a.eval s = v) (hown : OwnK base w v ps) (hx : a.eval x = v2) (hown2 : OwnK b2 w v2 qs)
    (h1 : ps.length ≤ 1000000) (h2 : qs.length ≤ 1000000) (hbase : base ≤ w.heap.size)
    (h : ∀ v' w', OwnK base w' v' (ps ++ qs) → w.grownBy w' v.ownBlock → wpList Tryd.prog ops Q rest (a.put o.dst v') w') : wpList Tryd.prog ops Q (o :: rest) a w := by
  obtain ⟨i0, hi, hz0, hz1, hz2⟩ := info_parts infoPk
  refine BigFrame.wpList_want hw fun K hK => ?_
  rcases hown2.2 with ⟨rfl, h0⟩ | ⟨g, cap, cur, rfl, _⟩
  · have hq : qs = [] := List.eq_nil_of_length_eq_zero h0
    subst hq
    have hrun := run_append_owned_none (P := Tryd.prog) (w := w) base 23 o.type 42 i0 2 Tryd.underlying23 hi v ps.length (flatP ps) hown
    unfold Oper.wp
    simp [execOp, ho, resolve, invoke, builtin, hs, hx, hrun, Result.andThen]
    exact hK _ _ (h _ _ (by rw [List.append_nil]; exact hown) ⟨rfl, rfl, rfl, Nat.le_refl _, fun _ _ _ => rfl⟩)
  · obtain ⟨v', w', hrun, r1, r2, _⟩ := run_append_own (P := Tryd.prog) (w := w) base 23 o.type 42 i0 (.agg #[.int .i64 0, .int .i64 0]) 2 16 Tryd.underlying23 hi hz0 hz1 hz2 rfl (by decide) v ps.length (flatP ps) hown ⟨g, 0, none⟩ qs.length cap (flatP qs) (by have := hown2.1; omega) (fun j u hj => World.ownsRow.cells hown2 (g := g) rfl j u hj) (fun u hu => by
      unfold flatP at hu
      obtain ⟨p, _, hp⟩ := List.mem_flatMap.1 hu
      simp only [List.mem_cons, List.not_mem_nil, or_false] at hp
      rcases hp with rfl | rfl <;> rfl) (by unfold maxLen; omega) (by omega) hbase
    unfold Oper.wp
    simp [execOp, ho, resolve, invoke, builtin, hs, hx, hrun, Result.andThen]
    exact hK _ _ (h _ _ (by unfold OwnK; rw [List.length_append, flatP_apps]; exact r1) r2)
theorem ownS_shape {base : Nat} {w : World} {v : Value} {xs : List ByteArray} (h : OwnS base w v xs) : ∃ a c, v = .slice a xs.length c := by
  rcases h.2 with ⟨rfl, h0⟩ | ⟨g, cap, cur, rfl, _⟩
  · exact ⟨none, 0, by rw [h0]⟩
  · exact ⟨_, _, rfl⟩
theorem btw_len : ∀ i, (btw i).length ≤ 1 + 11 * i
  | 0 => Nat.le_refl _
  | i + 1 => by
    have ih := btw_len i
    have hp : (piece (i % 3)).length ≤ 10 := by
      have : i % 3 = 0 ∨ i % 3 = 1 ∨ i % 3 = 2 := by omega
      rcases this with h | h | h <;> rw [h] <;> decide
    rw [btw, List.length_append, List.length_append, List.length_singleton]; omega
set_option maxRecDepth 100000 in
set_option maxHeartbeats 2000000 in
theorem walk_scriptBlanks (a0 b0 : ByteArray) (n : Int) (W : World) (w0 : a0.size ≤ maxLen) (w1 : b0.size ≤ maxLen) (w2 : (Lit.int .u8 n).wf = true) (hL : LiesS W) : Calls Tryd.prog 6 #[.string a0, .string b0, .int .u8 n] W fun e W' => e = .returned (.bool true) ∧ Only Nil W W' := by
  obtain ⟨n0, n1⟩ := wf_u8 w2
  have HAW := Lib.hid (fun W' (ho : Only Nil W W') => awake_s W' (hL.only ho))
  clear w0 w1 w2
  have HOX := Lib.hid (Only.refl Nil W)
  by_cases ha : a0.size ≤ 1000
  · have ha' : ¬ (1000 : Int) < (a0.size : Int) := by omega
    by_cases hb : b0.size ≤ 1000
    · have hb' : ¬ (1000 : Int) < (b0.size : Int) := by omega
      clear HOX
      obtain ⟨A, rfl⟩ : ∃ A, a0 = bs A := ⟨a0.data.toList, (bs_data _).symm⟩
      obtain ⟨B, rfl⟩ : ∃ B, b0 = bs B := ⟨b0.data.toList, (bs_data _).symm⟩
      rw [bs_size] at ha hb
      have HP1 := Lib.hid (parse_any A W (by omega) hL)
      have HP2 := Lib.hid (fun W' (ho : Only Nil W W') => parse_any B W' (by omega) (hL.only ho))
      by_cases hA : Good (lineL A)
      · obtain ⟨M, hM⟩ : ∃ M : Nat, n % 5 = M := ⟨(n % 5).toNat, by omega⟩
        have hM2 : n.tmod 5 = M := by rw [Int.tmod_eq_emod_of_nonneg n0]; exact hM
        have hM4 : M ≤ 4 := by omega
        have HLN : Hid (∀ W', Calls Tryd.prog 15 #[.string (bs A ++ ⟨#[10]⟩)] W' (GotS (lineL (A ++ [10])) W')) := Lib.hid fun W' => by
          have e : bs A ++ (⟨#[10]⟩ : ByteArray) = bs (A ++ [10]) := bs_app A [10]
          rw [e]
          exact lines_s (bs (A ++ [10])) W' (by rw [bs_size, List.length_append, List.length_singleton]; omega)
        have HP3 : Hid (∀ W', Only Nil W W' → Calls Tryd.prog 8 #[.string (bs A ++ bs (btw M) ++ bs B)] W' (Parsed (prsT (A ++ btw M ++ B)) W')) := Lib.hid fun W' ho => by
          rw [bs_app, bs_app]
          exact parse_any _ W' (by have := btw_len M; rw [List.length_append, List.length_append]; omega) (hL.only ho)
        have hbl : (bs (btw M)).size ≤ 60 := by have := btw_len M; rw [bs_size]; omega
        have HLL := Lib.hid (show (lineL (A ++ [10])).length ≤ 1001 by have := lineL_len (A ++ [10]); rw [List.length_append, List.length_singleton] at this; omega)
        rw [prsT_good hA] at HP1
        have HPA := Lib.hid (Nat.le_trans (picksOf_len (lineL A)) (lineL_len A))
        have HPB := Lib.hid (Nat.le_trans (picksOf_len (lineL B)) (lineL_len B))
        have HAB := Lib.hid (And.intro ha hb)
        by_cases hB : Good (lineL B)
        · rw [both_good M hA hB] at HP3
          rw [prsT_good hB] at HP2
          have HS := Lib.hid (fun v1 v2 W' h1 h2 => same_pk v1 v2 (picksOf (lineL A) ++ picksOf (lineL B)) W' h1 h2 (by have h3 := HPA.out; have h4 := HPB.out; rw [List.length_append]; omega))
          have hSA : (bs A).size ≤ 1000 := by rw [bs_size]; exact ha
          have hSB : (bs B).size ≤ 1000 := by rw [bs_size]; exact hb
          clear hL hA hB ha hb
          generalize bs A = SA at *
          generalize bs B = SB at *
          generalize picksOf (lineL A) = pa at *
          generalize picksOf (lineL B) = pb at *
          go_enter Tryd.func6, Tryd.ntmps6
          go_wp2_with fail
          refine HP1.out.mono ?_
          rintro e w1 ⟨v1, rfl, hown, hO⟩
          have HV1 := Lib.hid hown
          have HO1 := Lib.hid hO
          clear hown hO HP1
          go_wp2_with fail
          refine (HP2.out _ HO1.out).mono ?_
          rintro e w2 ⟨v2, rfl, hown, hO⟩
          have HV2 := Lib.hid hown
          have HV1b := Lib.hid (HV1.out.keep hO)
          have HO2 := Lib.hid (HO1.out.trans hO)
          clear hown hO HP2 HO1
          go_wp2_with fail
          refine (HLN.out _).mono ?_
          rintro e w3 ⟨lv, rfl, hown, hO⟩
          obtain ⟨la, lc, rfl⟩ := ownS_shape hown
          rw [List.length_map]
          have HV1c := Lib.hid (HV1b.out.keep hO)
          have HV2c := Lib.hid (HV2.out.keep hO)
          have HO3 := Lib.hid (HO2.out.trans hO)
          clear hown hO HO2 HLN HV1b
          generalize (lineL (A ++ [10])).length = N0 at *
          go_wp2
          go_loopw [13, 14, 15] (fun bv lv iv wr => ∃ i : Nat, i ≤ M ∧ iv = .int .i64 i ∧ bv = .string (bs (btw i)) ∧ lv = .int .i64 ((N0 + i : Nat) : Int) ∧ Hid (Only Nil w3 wr)) (fun _ _ iv _ => M - (intOf iv).toNat)
          case atStart => exact ⟨0, Nat.zero_le _, rfl, rfl, rfl, Lib.hid (Only.refl _ _)⟩
          case round =>
            obtain ⟨i, hi, rfl, rfl, rfl, HO⟩ := hrel
            by_cases hlt : i < M
            · rcases (show i = 0 ∨ i = 1 ∨ i = 2 ∨ i = 3 by omega) with rfl | rfl | rfl | rfl
              · skip
                have hX : (bs (btw 0)).size ≤ 60 := by have := btw_len 0; rw [bs_size]; omega
                have HE : Hid (bs (btw 0) ++ bs (piece (0 % 3) ++ [10]) = bs (btw (0 + 1))) := Lib.hid (bs_app _ _)
                generalize bs (btw 0) = X at *
                have hnn : N0 ≤ 1001 := HLL.out
                go_wp2
                exact ⟨⟨0 + 1, by omega, rfl, by rw [← HE.out]; rfl, congrArg (Value.int .i64) (by omega), Lib.hid (HO.out.alloc _)⟩, by simp only [intOf]; omega⟩
              · skip
                have hX : (bs (btw 1)).size ≤ 60 := by have := btw_len 1; rw [bs_size]; omega
                have HE : Hid (bs (btw 1) ++ bs (piece (1 % 3) ++ [10]) = bs (btw (1 + 1))) := Lib.hid (bs_app _ _)
                generalize bs (btw 1) = X at *
                have hnn : N0 ≤ 1001 := HLL.out
                go_wp2
                exact ⟨⟨1 + 1, by omega, rfl, by rw [← HE.out]; rfl, congrArg (Value.int .i64) (by omega), Lib.hid (HO.out.alloc _)⟩, by simp only [intOf]; omega⟩
              · skip
                have hX : (bs (btw 2)).size ≤ 60 := by have := btw_len 2; rw [bs_size]; omega
                have HE : Hid (bs (btw 2) ++ bs (piece (2 % 3) ++ [10]) = bs (btw (2 + 1))) := Lib.hid (bs_app _ _)
                generalize bs (btw 2) = X at *
                have hnn : N0 ≤ 1001 := HLL.out
                go_wp2
                exact ⟨⟨2 + 1, by omega, rfl, by rw [← HE.out]; rfl, congrArg (Value.int .i64) (by omega), Lib.hid (HO.out.alloc _)⟩, by simp only [intOf]; omega⟩
              · skip
                have hX : (bs (btw 3)).size ≤ 60 := by have := btw_len 3; rw [bs_size]; omega
                have HE : Hid (bs (btw 3) ++ bs (piece (3 % 3) ++ [10]) = bs (btw (3 + 1))) := Lib.hid (bs_app _ _)
                generalize bs (btw 3) = X at *
                have hnn : N0 ≤ 1001 := HLL.out
                go_wp2
                exact ⟨⟨3 + 1, by omega, rfl, by rw [← HE.out]; rfl, congrArg (Value.int .i64) (by omega), Lib.hid (HO.out.alloc _)⟩, by simp only [intOf]; omega⟩
            · obtain rfl : i = M := by omega
              have HO4 := Lib.hid (HO3.out.trans HO.out)
              have HV1d := Lib.hid (HV1c.out.keep HO.out)
              have HV2d := Lib.hid (HV2c.out.keep HO.out)
              clear HO3 HO HV1c HV2c
              generalize hX : bs (btw i) = X at *
              go_wp2_with fail
              refine (HP3.out _ HO4.out).mono ?_
              rintro e w5 ⟨v3, rfl, hown, hO⟩
              have HV3 := Lib.hid hown
              have HL1 := Lib.hid (fun j hj => World.ownsRow.lt HV1d.out j hj)
              have HV1e := Lib.hid (HV1d.out.keep hO)
              have HV2e := Lib.hid (HV2d.out.keep hO)
              have HO5 := Lib.hid (HO4.out.trans hO)
              clear hown hO HO4 HV1d HV2d HP3
              go_wp2_with (at_builtin; refine wp_appKs (.tmp 102) (.tmp 103) (by kernel_rfl) rfl W.heap.size w1.heap.size _ _ pa pb rfl HV1e.out rfl HV2e.out (by have h3 := HPA.out; have h4 := HAB.out; omega) (by have h3 := HPB.out; have h4 := HAB.out; omega) HO5.out.size ?_)
              intro v4 w6 hown hgrow
              have HA4 := Lib.hid hown.at
              have HO6 := Lib.hid (HO5.out.grown hgrow (fun j hj => .inl (HL1.out j hj).1))
              have HA3 := Lib.hid (show PkAt w6 v3 (pa ++ pb) from OwnK.at (World.ownsRow.kept HV3.out hgrow (by
                rcases HV3.out.2 with ⟨h, _⟩ | ⟨g, cap, cur, h, hg, _⟩
                · exact .inl (by rw [h]; rfl)
                · refine .inr fun e => ?_
                  rw [h] at e
                  have h1 := (HL1.out g e.symm).2
                  omega)))
              clear hown hgrow HV1e HV2e HV3 HO5
              go_wp2_with fail
              refine (HS.out _ _ _ HA3.out HA4.out).mono ?_
              rintro e w7 ⟨rfl, hO⟩
              have HOX := Lib.hid (HO6.out.trans hO)
              clear hO HO6
              go_wp2_with fail
              refine (HAW.out _ HOX.out).mono ?_
              rintro e wz ⟨rfl, hO⟩
              have HZ := Lib.hid (HOX.out.trans hO)
              clear hO
              go_wp2
              go_ret
              exact ⟨rfl, HZ.out⟩
        · rw [both_bad M hA hB] at HP3
          obtain ⟨h1, h2⟩ := prsL_wrong _ 1 [] hB
          rw [show prsL (lineL B) 1 [] = prsT B from rfl] at h1 h2
          have hkb : 0 ≤ (prsT B).2.1 ∧ (prsT B).2.1 ≤ 100000 := by
            have h3 := prsL_line (lineL B) 1 []
            have h4 := lineL_len B
            unfold prsT
            omega
          generalize prsT B = r at *
          obtain ⟨rp, rk, re⟩ := r
          dsimp only at h1 h2 HP3 hkb
          subst h1
          have hSA : (bs A).size ≤ 1000 := by rw [bs_size]; exact ha
          have hSB : (bs B).size ≤ 1000 := by rw [bs_size]; exact hb
          clear hL hA hB ha hb
          generalize bs A = SA at *
          generalize bs B = SB at *
          generalize picksOf (lineL A) = pa at *
          go_enter Tryd.func6, Tryd.ntmps6
          go_wp2_with fail
          refine HP1.out.mono ?_
          rintro e w1 ⟨v1, rfl, hown, hO⟩
          have HV1 := Lib.hid hown
          have HO1 := Lib.hid hO
          clear hown hO HP1
          go_wp2_with fail
          refine (HP2.out _ HO1.out).mono ?_
          rintro e w2 ⟨v2, rfl, hown, hO⟩
          have HV2 := Lib.hid hown
          have HV1b := Lib.hid (HV1.out.keep hO)
          have HO2 := Lib.hid (HO1.out.trans hO)
          clear hown hO HP2 HO1
          go_wp2_with fail
          refine (HLN.out _).mono ?_
          rintro e w3 ⟨lv, rfl, hown, hO⟩
          obtain ⟨la, lc, rfl⟩ := ownS_shape hown
          rw [List.length_map]
          have HV1c := Lib.hid (HV1b.out.keep hO)
          have HV2c := Lib.hid (HV2.out.keep hO)
          have HO3 := Lib.hid (HO2.out.trans hO)
          clear hown hO HO2 HLN HV1b
          generalize (lineL (A ++ [10])).length = N0 at *
          go_wp2
          go_loopw [13, 14, 15] (fun bv lv iv wr => ∃ i : Nat, i ≤ M ∧ iv = .int .i64 i ∧ bv = .string (bs (btw i)) ∧ lv = .int .i64 ((N0 + i : Nat) : Int) ∧ Hid (Only Nil w3 wr)) (fun _ _ iv _ => M - (intOf iv).toNat)
          case atStart => exact ⟨0, Nat.zero_le _, rfl, rfl, rfl, Lib.hid (Only.refl _ _)⟩
          case round =>
            obtain ⟨i, hi, rfl, rfl, rfl, HO⟩ := hrel
            by_cases hlt : i < M
            · rcases (show i = 0 ∨ i = 1 ∨ i = 2 ∨ i = 3 by omega) with rfl | rfl | rfl | rfl
              · skip
                have hX : (bs (btw 0)).size ≤ 60 := by have := btw_len 0; rw [bs_size]; omega
                have HE : Hid (bs (btw 0) ++ bs (piece (0 % 3) ++ [10]) = bs (btw (0 + 1))) := Lib.hid (bs_app _ _)
                generalize bs (btw 0) = X at *
                have hnn : N0 ≤ 1001 := HLL.out
                go_wp2
                exact ⟨⟨0 + 1, by omega, rfl, by rw [← HE.out]; rfl, congrArg (Value.int .i64) (by omega), Lib.hid (HO.out.alloc _)⟩, by simp only [intOf]; omega⟩
              · skip
                have hX : (bs (btw 1)).size ≤ 60 := by have := btw_len 1; rw [bs_size]; omega
                have HE : Hid (bs (btw 1) ++ bs (piece (1 % 3) ++ [10]) = bs (btw (1 + 1))) := Lib.hid (bs_app _ _)
                generalize bs (btw 1) = X at *
                have hnn : N0 ≤ 1001 := HLL.out
                go_wp2
                exact ⟨⟨1 + 1, by omega, rfl, by rw [← HE.out]; rfl, congrArg (Value.int .i64) (by omega), Lib.hid (HO.out.alloc _)⟩, by simp only [intOf]; omega⟩
              · skip
                have hX : (bs (btw 2)).size ≤ 60 := by have := btw_len 2; rw [bs_size]; omega
                have HE : Hid (bs (btw 2) ++ bs (piece (2 % 3) ++ [10]) = bs (btw (2 + 1))) := Lib.hid (bs_app _ _)
                generalize bs (btw 2) = X at *
                have hnn : N0 ≤ 1001 := HLL.out
                go_wp2
                exact ⟨⟨2 + 1, by omega, rfl, by rw [← HE.out]; rfl, congrArg (Value.int .i64) (by omega), Lib.hid (HO.out.alloc _)⟩, by simp only [intOf]; omega⟩
              · skip
                have hX : (bs (btw 3)).size ≤ 60 := by have := btw_len 3; rw [bs_size]; omega
                have HE : Hid (bs (btw 3) ++ bs (piece (3 % 3) ++ [10]) = bs (btw (3 + 1))) := Lib.hid (bs_app _ _)
                generalize bs (btw 3) = X at *
                have hnn : N0 ≤ 1001 := HLL.out
                go_wp2
                exact ⟨⟨3 + 1, by omega, rfl, by rw [← HE.out]; rfl, congrArg (Value.int .i64) (by omega), Lib.hid (HO.out.alloc _)⟩, by simp only [intOf]; omega⟩
            · obtain rfl : i = M := by omega
              have HO4 := Lib.hid (HO3.out.trans HO.out)
              have hnn : N0 ≤ 1001 := HLL.out
              clear HO3 HO HV1c HV2c
              generalize hX : bs (btw i) = X at *
              go_wp2_with fail
              refine (HP3.out _ HO4.out).mono ?_
              rintro e w5 ⟨v3, rfl, hown, hO⟩
              obtain ⟨av, cv, rfl⟩ := hown.shape
              have HOX := Lib.hid (HO4.out.trans hO)
              clear hown hO HO4 HP3
              dsimp only
              go_wp2_with fail
              refine (HAW.out _ HOX.out).mono ?_
              rintro e wz ⟨rfl, hO⟩
              have HZ := Lib.hid (HOX.out.trans hO)
              clear hO
              go_wp2
              go_ret
              exact ⟨rfl, HZ.out⟩
      · obtain ⟨h1, h2⟩ := prsL_wrong _ 1 [] hA
        rw [show prsL (lineL A) 1 [] = prsT A from rfl] at h1 h2
        generalize prsT A = r at *
        obtain ⟨rp, rk, re⟩ := r
        dsimp only at h1 h2
        subst h1
        clear hA hL
        generalize prsT B = rb at *
        obtain ⟨bp, bk, be⟩ := rb
        generalize bs A = SA at *
        generalize bs B = SB at *
        go_enter Tryd.func6, Tryd.ntmps6
        go_wp2_with fail
        refine HP1.out.mono ?_
        rintro e w1 ⟨v1, rfl, hown, hO⟩
        have HV1 := Lib.hid hown
        have HO1 := Lib.hid hO
        clear hown hO HP1
        go_wp2_with fail
        refine (HP2.out _ HO1.out).mono ?_
        rintro e w2 ⟨v2, rfl, hown, hO⟩
        have HV2 := Lib.hid hown
        have HV1b := Lib.hid (HV1.out.keep hO)
        have HO2 := Lib.hid (HO1.out.trans hO)
        clear hown hO HP2 HO1
        obtain ⟨av, cv, rfl⟩ := HV1b.out.shape
        have HOX := Lib.hid HO2.out
        go_wp2_with fail
        refine (HAW.out _ HOX.out).mono ?_
        rintro e wz ⟨rfl, hO⟩
        have HZ := Lib.hid (HOX.out.trans hO)
        clear hO
        go_wp2
        go_ret
        exact ⟨rfl, HZ.out⟩
    · have hb' : (1000 : Int) < (b0.size : Int) := by omega
      clear hb hL
      go_enter Tryd.func6, Tryd.ntmps6
      go_wp2_with fail
      refine (HAW.out _ HOX.out).mono ?_
      rintro e wz ⟨rfl, hO⟩
      have HZ := Lib.hid (HOX.out.trans hO)
      clear hO
      go_wp2
      go_ret
      exact ⟨rfl, HZ.out⟩
  · have ha' : (1000 : Int) < (a0.size : Int) := by omega
    clear ha hL
    go_enter Tryd.func6, Tryd.ntmps6
    go_wp2_with fail
    refine (HAW.out _ HOX.out).mono ?_
    rintro e wz ⟨rfl, hO⟩
    have HZ := Lib.hid (HOX.out.trans hO)
    clear hO
    go_wp2
    go_ret
    exact ⟨rfl, HZ.out⟩
end Go.Proofs.YtdneicbbnbbffaaDoor
