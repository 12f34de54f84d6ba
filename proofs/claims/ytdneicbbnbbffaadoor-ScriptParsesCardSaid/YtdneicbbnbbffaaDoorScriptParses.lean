/- Any text is the picks that the document says, or wrong as it says. -/
import Derived.Test.YtdneicbbnbbffaaDoorScAw
import Derived.Test.YtdneicbbnbbffaaDoorScRP
set_option linter.unusedVariables false
set_option linter.unusedSimpArgs false
namespace Go.Proofs.YtdneicbbnbbffaaDoor
open Go.RowKit
theorem picks_le (t : Bs) : (prsT t).1.length ≤ t.length := by
  by_cases h : Good (lineL t)
  · rw [prsT_good h]; exact Nat.le_trans (picksOf_len _) (lineL_len t)
  · have key : ∀ (ls : List Bs) (k : Nat) (out : List (Int × Int)), ¬ Good ls → (prsL ls k out).1 = [] := by
      intro ls
      induction ls with
      | nil => intro k out h; exact absurd (fun l hl => by simp at hl) h
      | cons l ls ih =>
        intro k out hb
        rw [prsL]
        cases e : lineR l with
        | bad b => rfl
        | quiet => exact ih _ _ (fun hg => hb (fun x hx => (List.mem_cons.1 hx).elim (fun h => by rw [h, e]; intro a b; cases b) (hg x)))
        | pick a b => exact ih _ _ (fun hg => hb (fun x hx => (List.mem_cons.1 hx).elim (fun h => by rw [h, e]; intro a b; cases b) (hg x)))
    rw [prsT, key _ _ _ h]; exact Nat.zero_le _
set_option maxRecDepth 100000 in
theorem walk_scriptParses (s : ByteArray) (W : World) (hs : s.size ≤ maxLen) (hL : LiesS W) : Calls Tryd.prog 3 #[.string s] W fun e W' => e = .returned (.bool true) ∧ Only Nil W W' := by
  have HAW := Lib.hid (fun W' (ho : Only Nil W W') => awake_s W' (hL.only ho))
  by_cases hb : s.size ≤ 2000
  · have hb' : (s.size : Int) ≤ 2000 := by omega
    have ht : s.data.toList.length ≤ 100000 := by rw [size_list]; omega
    have HP := Lib.hid (parse_any s.data.toList W ht hL)
    have HR := Lib.hid (fun W' => rparse_any s.data.toList W' ht)
    rw [bs_data] at HP HR
    have hpl := picks_le s.data.toList
    rw [size_list] at hpl
    generalize prsT s.data.toList = r at *
    obtain ⟨ps, at0, er⟩ := r
    have HS := Lib.hid (fun v1 v2 W' h1 h2 => same_pk v1 v2 ps W' h1 h2 (by show ps.length ≤ _; simp only at hpl; omega))
    clear hpl hL hs hb ht
    go_enter Tryd.func3, Tryd.ntmps3
    go_wp2_with fail
    refine HP.out.mono ?_
    rintro e w1 ⟨v1, rfl, hown, hO⟩
    have HA1 := Lib.hid hown.at
    have HO1 := Lib.hid hO
    clear hown hO HP
    go_wp2_with fail
    refine (HR.out _).mono ?_
    rintro e w2 ⟨v2, rfl, hown, hO⟩
    have HA2 := Lib.hid hown.at
    have HA1' := Lib.hid (HA1.out.only hO)
    have HO2 := Lib.hid (HO1.out.trans hO)
    clear hown hO HR HA1 HO1
    go_wp2_with fail
    refine (HS.out _ _ _ HA1'.out HA2.out).mono ?_
    rintro e w3 ⟨rfl, hO⟩
    have HO3 := Lib.hid (HO2.out.trans hO)
    clear hO HO2 HS
    go_wp2_with fail
    refine (HAW.out _ HO3.out).mono ?_
    rintro e w4 ⟨rfl, hO⟩
    have HO4 := Lib.hid (HO3.out.trans hO)
    clear hO
    go_wp2
    go_ret
    exact ⟨rfl, HO4.out⟩
  · have hb' : (2000 : Int) < (s.size : Int) := by omega
    clear hb hL hs
    go_enter Tryd.func3, Tryd.ntmps3
    go_wp2_with fail
    refine (HAW.out _ (Only.refl _ _)).mono ?_
    rintro e w4 ⟨rfl, hO⟩
    have HO4 := Lib.hid hO
    clear hO
    go_wp2
    go_ret
    exact ⟨rfl, HO4.out⟩
end Go.Proofs.YtdneicbbnbbffaaDoor
