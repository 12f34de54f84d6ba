/- Accesses as texts: the answer's word, Right and Text. -/
import Derived.Test.YtlccmhlbkgojlaaDoorRefHex
import Derived.Test.YtlccmhlbkgojlaaDoorAcc
import Derived.Test.YtlccmhlbkgojlaaDoorAccT
import Derived.Test.YtlccmhlbkgojlaaDoorText
import Derived.Deep.RegionHeld3
namespace Go.Proofs.YtlccmhlbkgojlaaDoor
open Go.RowKit

theorem word_ref (k : Int) (w : World) : Calls Tryd.prog 22 #[.int .i64 k] w fun e w' => e = .returned (.string (bs (wordL k))) ∧ w = w' := by
  by_cases h : 1 ≤ k ∧ k ≤ 5
  · rcases kinds h.1 h.2 with rfl | rfl | rfl | rfl | rfl
    all_goals
      clear h
      go_enter Tryd.func22, Tryd.ntmps22
      go_wp2
      go_ret
      exact ⟨rfl, rfl⟩
  · have h1 : ¬ k = 1 := by omega
    have h2 : ¬ k = 2 := by omega
    have h3 : ¬ k = 3 := by omega
    have h4 : ¬ k = 4 := by omega
    have h5 : ¬ k = 5 := by omega
    have e : wordL k = [] := by unfold wordL; rw [if_neg h1, if_neg h2, if_neg h3, if_neg h4, if_neg h5]
    rw [e]
    clear h e
    go_enter Tryd.func22, Tryd.ntmps22
    go_wp2
    go_ret
    exact ⟨rfl, rfl⟩
theorem word_some {k : Int} (h1 : 1 ≤ k) (h5 : k ≤ 5) : ¬ (bs (wordL k)).toList = [] ∧ (bs (wordL k)).toList.isEmpty = false := by
  have h : ∀ l : Bs, l ≠ [] → ¬ (bs l).toList = [] ∧ (bs l).toList.isEmpty = false := fun l hl => by
    have e : ¬ (bs l).toList = [] := by rw [ByteArray.toList_eq]; exact hl
    exact ⟨e, by simpa using e⟩
  refine h _ ?_
  rcases kinds h1 h5 with rfl | rfl | rfl | rfl | rfl <;> decide
theorem word_none {k : Int} (h : ¬ (1 ≤ k ∧ k ≤ 5)) : wordL k = [] := by
  unfold wordL
  rw [if_neg (by omega), if_neg (by omega), if_neg (by omega), if_neg (by omega), if_neg (by omega)]
theorem rightB_eq (k c x y o : Int) : rightB k c x y o = decide (1 ≤ k ∧ k ≤ 5 ∧ 0 ≤ c ∧ c ≤ 1023 ∧ (k = 1 → x = 0) ∧ (k ≠ 5 → y = 0)) := by
  rw [Bool.eq_iff_iff, rightB_iff, decide_eq_true_eq]
  exact ⟨fun h => ⟨h.k1, h.k5, h.c0, h.c1, h.x, h.y⟩, fun ⟨h1, h2, h3, h4, h5, h6⟩ => ⟨h1, h2, h3, h4, h5, h6⟩⟩

theorem right_ref (k c x y o : Int) (w : World) : Calls Tryd.prog 9 #[.agg #[.int .i64 k, .int .i64 c, .int .u32 x, .int .u32 y, .int .u32 o]] w fun e w' => e = .returned (.bool (rightB k c x y o)) ∧ Only Nil w w' := by
  have HW := Lib.hid (fun W => word_ref k W)
  by_cases hk : 1 ≤ k ∧ k ≤ 5
  · obtain ⟨hk1, hk5⟩ := hk
    obtain ⟨hx1, hx2⟩ := word_some hk1 hk5
    generalize bs (wordL k) = X at *
    by_cases hc0 : c < 0
    · rw [show rightB k c x y o = false by rw [rightB_eq]; exact decide_eq_false (by omega)]
      clear hk1 hk5
      go_enter Tryd.func9, Tryd.ntmps9
      go_wp2_with (go_at_call 22; refine (HW.out _).mono ?_; rintro e w' ⟨rfl, rfl⟩)
      go_ret
      exact ⟨rfl, by (repeat' (first | (with_reducible exact Only.refl _ _) | (with_reducible assumption) | (with_reducible refine Only.setCell ?_ ?_ _) | (with_reducible refine Only.drewN ?_ _) | (with_reducible refine Only.drew ?_) | (with_reducible refine Only.alloc ?_ _) | (left; simp; done) | (left; simp; omega) | (right; rfl)))⟩
    · by_cases hc1 : 1023 < c
      · rw [show rightB k c x y o = false by rw [rightB_eq]; exact decide_eq_false (by omega)]
        clear hk1 hk5
        go_enter Tryd.func9, Tryd.ntmps9
        go_wp2_with (go_at_call 22; refine (HW.out _).mono ?_; rintro e w' ⟨rfl, rfl⟩)
        go_ret
        exact ⟨rfl, by (repeat' (first | (with_reducible exact Only.refl _ _) | (with_reducible assumption) | (with_reducible refine Only.setCell ?_ ?_ _) | (with_reducible refine Only.drewN ?_ _) | (with_reducible refine Only.drew ?_) | (with_reducible refine Only.alloc ?_ _) | (left; simp; done) | (left; simp; omega) | (right; rfl)))⟩
      · by_cases h1 : k = 1
        · subst h1
          clear hk1 hk5
          by_cases hx : x = 0
          · subst hx
            by_cases hy : y = 0
            · subst hy
              rw [show rightB 1 c 0 0 o = true by rw [rightB_eq]; exact decide_eq_true (by omega)]
              go_enter Tryd.func9, Tryd.ntmps9
              go_wp2_with (go_at_call 22; refine (HW.out _).mono ?_; rintro e w' ⟨rfl, rfl⟩)
              go_ret
              exact ⟨rfl, by (repeat' (first | (with_reducible exact Only.refl _ _) | (with_reducible assumption) | (with_reducible refine Only.setCell ?_ ?_ _) | (with_reducible refine Only.drewN ?_ _) | (with_reducible refine Only.drew ?_) | (with_reducible refine Only.alloc ?_ _) | (left; simp; done) | (left; simp; omega) | (right; rfl)))⟩
            · have hyb : (y == 0) = false := by simpa using hy
              rw [show rightB 1 c 0 y o = false by rw [rightB_eq]; exact decide_eq_false (by omega)]
              go_enter Tryd.func9, Tryd.ntmps9
              go_wp2_with (go_at_call 22; refine (HW.out _).mono ?_; rintro e w' ⟨rfl, rfl⟩)
              go_ret
              exact ⟨rfl, by (repeat' (first | (with_reducible exact Only.refl _ _) | (with_reducible assumption) | (with_reducible refine Only.setCell ?_ ?_ _) | (with_reducible refine Only.drewN ?_ _) | (with_reducible refine Only.drew ?_) | (with_reducible refine Only.alloc ?_ _) | (left; simp; done) | (left; simp; omega) | (right; rfl)))⟩
          · have hxb : (x == 0) = false := by simpa using hx
            rw [show rightB 1 c x y o = false by rw [rightB_eq]; exact decide_eq_false (by omega)]
            go_enter Tryd.func9, Tryd.ntmps9
            go_wp2_with (go_at_call 22; refine (HW.out _).mono ?_; rintro e w' ⟨rfl, rfl⟩)
            go_ret
            exact ⟨rfl, by (repeat' (first | (with_reducible exact Only.refl _ _) | (with_reducible assumption) | (with_reducible refine Only.setCell ?_ ?_ _) | (with_reducible refine Only.drewN ?_ _) | (with_reducible refine Only.drew ?_) | (with_reducible refine Only.alloc ?_ _) | (left; simp; done) | (left; simp; omega) | (right; rfl)))⟩
        · by_cases h5 : k = 5
          · subst h5
            rw [show rightB 5 c x y o = true by rw [rightB_eq]; exact decide_eq_true (by omega)]
            clear hk1 hk5
            go_enter Tryd.func9, Tryd.ntmps9
            go_wp2_with (go_at_call 22; refine (HW.out _).mono ?_; rintro e w' ⟨rfl, rfl⟩)
            go_ret
            exact ⟨rfl, by (repeat' (first | (with_reducible exact Only.refl _ _) | (with_reducible assumption) | (with_reducible refine Only.setCell ?_ ?_ _) | (with_reducible refine Only.drewN ?_ _) | (with_reducible refine Only.drew ?_) | (with_reducible refine Only.alloc ?_ _) | (left; simp; done) | (left; simp; omega) | (right; rfl)))⟩
          · by_cases hy : y = 0
            · subst hy
              rw [show rightB k c x 0 o = true by rw [rightB_eq]; exact decide_eq_true (by omega)]
              clear hk1 hk5
              go_enter Tryd.func9, Tryd.ntmps9
              go_wp2_with (go_at_call 22; refine (HW.out _).mono ?_; rintro e w' ⟨rfl, rfl⟩)
              go_ret
              exact ⟨rfl, by (repeat' (first | (with_reducible exact Only.refl _ _) | (with_reducible assumption) | (with_reducible refine Only.setCell ?_ ?_ _) | (with_reducible refine Only.drewN ?_ _) | (with_reducible refine Only.drew ?_) | (with_reducible refine Only.alloc ?_ _) | (left; simp; done) | (left; simp; omega) | (right; rfl)))⟩
            · have hyb : (y == 0) = false := by simpa using hy
              have h5b : (k == 5) = false := by simpa using h5
              rw [show rightB k c x y o = false by rw [rightB_eq]; exact decide_eq_false (by omega)]
              clear hk1 hk5
              go_enter Tryd.func9, Tryd.ntmps9
              go_wp2_with (go_at_call 22; refine (HW.out _).mono ?_; rintro e w' ⟨rfl, rfl⟩)
              go_ret
              exact ⟨rfl, by (repeat' (first | (with_reducible exact Only.refl _ _) | (with_reducible assumption) | (with_reducible refine Only.setCell ?_ ?_ _) | (with_reducible refine Only.drewN ?_ _) | (with_reducible refine Only.drew ?_) | (with_reducible refine Only.alloc ?_ _) | (left; simp; done) | (left; simp; omega) | (right; rfl)))⟩
  · rw [show rightB k c x y o = false by rw [rightB_eq]; exact decide_eq_false (by omega)]
    rw [word_none hk, show bs [] = ⟨#[]⟩ from rfl] at HW
    clear hk
    go_enter Tryd.func9, Tryd.ntmps9
    go_wp2_with (go_at_call 22; refine (HW.out _).mono ?_; rintro e w' ⟨rfl, rfl⟩)
    go_ret
    exact ⟨rfl, by (repeat' (first | (with_reducible exact Only.refl _ _) | (with_reducible assumption) | (with_reducible refine Only.setCell ?_ ?_ _) | (with_reducible refine Only.drewN ?_ _) | (with_reducible refine Only.drew ?_) | (with_reducible refine Only.alloc ?_ _) | (left; simp; done) | (left; simp; omega) | (right; rfl)))⟩

theorem str_one (d : Nat) (h : d < 256) : strOfNums [(d : Int)] = bs [UInt8.ofNat d] := by
  unfold strOfNums bs
  simp

/-- A number's digits: the answer's. -/
theorem dec_ref (i : Nat) (w : World) (hi : i < 10000) :
    Calls Tryd.prog 23 #[.int .i64 i] w fun e w' => e = .returned (.string (decB i)) ∧ Only Nil w w' := by
  have h0 : decide ((i : Int) < 0) = false := by simp
  have hc := conv_one
  have hs := oneB_size
  have HL := Lib.hid (dec_len (k := 4) (by omega) hi)
  have HI := Lib.hid hi
  clear hi
  go_enter Tryd.func23, Tryd.ntmps23
  go_wp2
  go_loopw [0, 3] (fun n s wr => ∃ (m : Nat) (l : Bs), n = .int .i64 m ∧ s = .string (bs l) ∧ m ≤ i ∧ Hid (Lib.decDigits i = Lib.decDigits m ++ l) ∧ Only Nil w wr) (fun n _ _ => (intOf n).toNat)
  case atStart => exact ⟨i, [], rfl, rfl, Nat.le_refl _, Lib.hid (by simp), Only.refl _ _⟩
  case round =>
    obtain ⟨m, l, rfl, rfl, hm, HH, hO⟩ := hrel
    have HO := Lib.hid hO
    have hmI : (m : Int) ≤ 9223372036854775807 := by have := HI.out; omega
    have hl6 : (bs l).size ≤ 4 := by
      have h1 := HL.out
      rw [HH.out, List.length_append] at h1
      rw [bs_size]; omega
    clear hO
    by_cases hlt : m < 10
    · have hlt' : (m : Int) < 10 := by omega
      have hcD := fun W => hc W (48 + (m : Int))
      have hsD := hs (48 + (m : Int))
      have HD := Lib.hid (show oneB (48 + (m : Int)) ++ bs l = decB i by
        unfold oneB
        rw [show (48 + (m : Int)) = ((48 + m : Nat) : Int) by omega, str_one _ (by omega), bs_app, decB, HH.out, Lib.decDigits_one hlt])
      generalize oneB (48 + (m : Int)) = D at *
      generalize bs l = B at *
      clear hlt hm hc hs
      go_wp2
      go_ret
      exact ⟨by rw [← HD.out]; rfl, HO.out.alloc _⟩
    · have hge : ¬ (m : Int) < 10 := by omega
      have HN := Lib.hid (show Lib.decDigits i = Lib.decDigits (m / 10) ++ (UInt8.ofNat (48 + m % 10) :: l) by rw [HH.out, dec_big hlt]; simp)
      have hcD := fun W => hc W (48 + (m : Int) % 10)
      have hsD := hs (48 + (m : Int) % 10)
      have HD := Lib.hid (show oneB (48 + (m : Int) % 10) ++ bs l = bs (UInt8.ofNat (48 + m % 10) :: l) by
        unfold oneB
        rw [show (48 + (m : Int) % 10) = ((48 + m % 10 : Nat) : Int) by omega, str_one _ (by omega), bs_app]; rfl)
      have HQ := Lib.hid (show m / 10 < m ∧ m / 10 ≤ i by omega)
      generalize oneB (48 + (m : Int) % 10) = D at *
      generalize hB : bs l = B at *
      clear hlt hm hc hs hB
      go_wp2
      exact ⟨⟨m / 10, UInt8.ofNat (48 + m % 10) :: l, by go_num, by rw [← HD.out], HQ.out.2, HN, HO.out.alloc _⟩, by have := HQ.out.1; simp [intOf]; omega⟩

theorem refText_no (k c x y o : Int) (w : World) (h : rightB k c x y o = false) : Calls Tryd.prog 10 #[.agg #[.int .i64 k, .int .i64 c, .int .u32 x, .int .u32 y, .int .u32 o]] w fun e w' => e = .returned (.string (bs [])) ∧ Only Nil w w' := by
  have HR := Lib.hid (right_ref k c x y o)
  have HB := Lib.hid h
  have HO0 := Lib.hid ((Only.refl Nil w).alloc (.cells #[.int .i64 k, .int .i64 c, .int .u32 x, .int .u32 y, .int .u32 o] 24))
  clear h
  go_enter Tryd.func10, Tryd.ntmps10
  go_wp2_with fail
  refine (HR.out _).mono ?_
  rw [HB.out]
  rintro e w1 ⟨rfl, hO⟩
  have HO := Lib.hid (HO0.out.trans hO)
  clear hO
  go_wp2
  go_ret
  exact ⟨rfl, HO.out⟩

set_option maxHeartbeats 1000000 in
set_option maxRecDepth 100000 in
theorem refText_yes (k c : Nat) (x y o : Int) (w : World) (f : Acc.Fits ⟨k, c, x, y, o⟩) (r : Acc.Right ⟨k, c, x, y, o⟩) : Calls Tryd.prog 10 #[.agg #[.int .i64 k, .int .i64 c, .int .u32 x, .int .u32 y, .int .u32 o]] w fun e w' => e = .returned (.string (bs (textL ⟨k, c, x, y, o⟩))) ∧ Only Nil w w' := by
  have HR := Lib.hid (right_ref k c x y o)
  have HB := Lib.hid (rightB_iff.2 r)
  have hob := (Only.refl Nil w).alloc (.cells #[.int .i64 k, .int .i64 c, .int .u32 x, .int .u32 y, .int .u32 o] 24)
  have HOB := Lib.hid hob
  have HR0 := Lib.hid (Row.new w 24 #[.int .i64 k, .int .i64 c, .int .u32 x, .int .u32 y, .int .u32 o])
  have HW := Lib.hid (fun W => word_ref k W)
  have hc9 : c < 10000 := by have := r.c1; simp only at this; omega
  have HT := Lib.hid (fun W => dec_ref c W hc9)
  have HHX := Lib.hid (fun W => hexT_ref x W f.x0 f.x1)
  have HHY := Lib.hid (fun W => hexT_ref y W f.y0 f.y1)
  have HHO := Lib.hid (fun W => hexT_ref o W f.o0 f.o1)
  have sx := hexB_size x
  have sy := hexB_size y
  have so := hexB_size o
  have sw : (bs (wordL k)).size ≤ 5 := by rw [bs_size]; exact word_len k
  have sd : (decB c).size ≤ 4 := by rw [decB, bs_size]; exact dec_len (by omega) hc9
  have h1 := r.k1
  have h5 := r.k5
  simp only at h1 h5
  have HTX : Hid (textL ⟨k, c, x, y, o⟩ = glue (partsL ⟨k, c, x, y, o⟩)) := Lib.hid rfl
  have HK := Lib.hid (show ((k : Int) = 1) ∨ (¬ (k : Int) = 1 ∧ ¬ (k : Int) = 5) ∨ (k : Int) = 5 by omega)
  clear f r hob hc9
  go_enter Tryd.func10, Tryd.ntmps10
  go_wp2_with fail
  generalize w.alloc (.cells #[.int .i64 k, .int .i64 c, .int .u32 x, .int .u32 y, .int .u32 o] 24) = wb at *
  generalize w.heap.size = g at *
  refine (HR.out _).mono ?_
  rw [HB.out]
  rintro e w1 ⟨rfl, hO⟩
  have HO1 := Lib.hid hO
  clear hO
  go_wp2_with fail
  have hb0 : w1.cell? ⟨g, 0, none⟩ = some (.int .i64 k) := (HR0.out.only HO1.out id).cell_ (i := 0) rfl
  have hb1 : w1.cell? ⟨g, 1, none⟩ = some (.int .i64 c) := (HR0.out.only HO1.out id).cell_ (i := 1) rfl
  have HX := Lib.hid (show bs (wordL k) ++ ⟨#[32]⟩ = bs (wordL k ++ [32]) from bs_app _ [32])
  have s1 : ¬ 9223372036854775807 < (bs (wordL k)).size + 1 := by omega
  have s2 : ¬ 9223372036854775807 < (bs (wordL k)).size + 1 + (decB c).size := by omega
  go_region_held3 (fun w' => w'.cell? ⟨g, 0, none⟩ = some (.int .i64 k) ∧ w'.cell? ⟨g, 1, none⟩ = some (.int .i64 c) ∧ Only Nil w1 w')
    (first
      | exact ⟨hb0, hb1, (Only.refl _ _).drew⟩
      | (go_keep; done)
      | (go_split_ands
         refine ⟨?_, ?_, ?_⟩
         · rw [hO.cell (World.block_lt_of_cell? _ _ (by assumption)) id]; assumption
         · rw [hO.cell (World.block_lt_of_cell? _ _ (by assumption)) id]; assumption
         · exact Only.trans (by assumption) hO))
    ((first
      | (go_at_call 22; refine (HW.out _).mono ?_; rintro e w' ⟨rfl, rfl⟩)
      | (go_at_call 23; refine (HT.out _).mono ?_; rintro e w' ⟨rfl, hO⟩)))
  rename_i hH
  have HO2 := Lib.hid (HOB.out.trans (HO1.out.trans hH.2.2))
  have HR2 := Lib.hid (HR0.out.only (HO1.out.trans hH.2.2) id)
  have HS : Hid (bs (wordL k) ++ ⟨#[32]⟩ ++ decB c = bs (wordL k ++ [32] ++ decL c)) := Lib.hid (by rw [HX.out]; exact bs_app _ _)
  have ss : (bs (wordL k) ++ ⟨#[32]⟩ ++ decB c).size ≤ 10 := by rw [HX.out, decB, bs_app, bs_size, List.length_append, List.length_append]; rw [bs_size] at sw; rw [decB, bs_size] at sd; simp only [List.length_singleton]; omega
  clear hH hO hb0 hb1 s1 s2 sw sd HX
  have c0 : w'.cell? ⟨g, 0, none⟩ = some (.int .i64 k) := HR2.out.cell_ (i := 0) rfl
  have c1 : w'.cell? ⟨g, 1, none⟩ = some (.int .i64 c) := HR2.out.cell_ (i := 1) rfl
  have c2 : w'.cell? ⟨g, 2, none⟩ = some (.int .u32 x) := HR2.out.cell_ (i := 2) rfl
  have c3 : w'.cell? ⟨g, 3, none⟩ = some (.int .u32 y) := HR2.out.cell_ (i := 3) rfl
  have c4 : w'.cell? ⟨g, 4, none⟩ = some (.int .u32 o) := HR2.out.cell_ (i := 4) rfl
  generalize bs (wordL k) ++ ⟨#[32]⟩ ++ decB c = S at *
  have ex : hexB x = bs (hex8 x) := rfl
  have ey : hexB y = bs (hex8 y) := rfl
  have eo : hexB o = bs (hex8 o) := rfl
  have HEX := Lib.hid ex
  have HEY := Lib.hid ey
  have HEO := Lib.hid eo
  clear ex ey eo
  rcases HK.out with hk | ⟨hk, hk'⟩ | hk
  · have HE : Hid (S ++ ⟨#[32, 119, 97, 115, 32]⟩ ++ hexB o = bs (textL ⟨k, c, x, y, o⟩)) := Lib.hid (by
      rw [HTX.out, partsL, if_pos hk, HS.out, HEO.out, show (⟨#[32, 119, 97, 115, 32]⟩ : ByteArray) = bs [32, 119, 97, 115, 32] from rfl, bs_app, bs_app]
      simp [glue, wasL])
    generalize hexB x = X at *
    generalize hexB y = Y at *
    generalize hexB o = O at *
    have hk5 : ¬ (k : Int) = 5 := by omega
    go_wp2_with (first
      | (go_at_call_of 24 (Value.int .u32 x); refine (HHX.out _).mono ?_; rintro e w' ⟨rfl, rfl⟩)
      | (go_at_call_of 24 (Value.int .u32 y); refine (HHY.out _).mono ?_; rintro e w' ⟨rfl, rfl⟩)
      | (go_at_call_of 24 (Value.int .u32 o); refine (HHO.out _).mono ?_; rintro e w' ⟨rfl, rfl⟩))
    go_ret
    exact ⟨by rw [← HE.out]; rfl, HO2.out⟩
  · have HE : Hid (S ++ ⟨#[32]⟩ ++ hexB x ++ ⟨#[32, 119, 97, 115, 32]⟩ ++ hexB o = bs (textL ⟨k, c, x, y, o⟩)) := Lib.hid (by
      rw [HTX.out, partsL, if_neg hk, if_neg hk', HS.out, HEO.out, HEX.out, show (⟨#[32, 119, 97, 115, 32]⟩ : ByteArray) = bs [32, 119, 97, 115, 32] from rfl, show (⟨#[32]⟩ : ByteArray) = bs [32] from rfl, bs_app, bs_app, bs_app, bs_app]
      simp [glue, wasL])
    generalize hexB x = X at *
    generalize hexB y = Y at *
    generalize hexB o = O at *
    go_wp2_with (first
      | (go_at_call_of 24 (Value.int .u32 x); refine (HHX.out _).mono ?_; rintro e w' ⟨rfl, rfl⟩)
      | (go_at_call_of 24 (Value.int .u32 y); refine (HHY.out _).mono ?_; rintro e w' ⟨rfl, rfl⟩)
      | (go_at_call_of 24 (Value.int .u32 o); refine (HHO.out _).mono ?_; rintro e w' ⟨rfl, rfl⟩))
    go_ret
    exact ⟨by rw [← HE.out]; rfl, HO2.out⟩
  · have HE : Hid (S ++ ⟨#[32]⟩ ++ hexB x ++ ⟨#[32]⟩ ++ hexB y ++ ⟨#[32, 119, 97, 115, 32]⟩ ++ hexB o = bs (textL ⟨k, c, x, y, o⟩)) := Lib.hid (by
      rw [HTX.out, partsL, if_neg (by simp only; omega), if_pos hk, HS.out, HEO.out, HEX.out, HEY.out, show (⟨#[32, 119, 97, 115, 32]⟩ : ByteArray) = bs [32, 119, 97, 115, 32] from rfl, show (⟨#[32]⟩ : ByteArray) = bs [32] from rfl, bs_app, bs_app, bs_app, bs_app, bs_app, bs_app]
      simp [glue, wasL])
    generalize hexB x = X at *
    generalize hexB y = Y at *
    generalize hexB o = O at *
    have hk1 : ¬ (k : Int) = 1 := by omega
    go_wp2_with (first
      | (go_at_call_of 24 (Value.int .u32 x); refine (HHX.out _).mono ?_; rintro e w' ⟨rfl, rfl⟩)
      | (go_at_call_of 24 (Value.int .u32 y); refine (HHY.out _).mono ?_; rintro e w' ⟨rfl, rfl⟩)
      | (go_at_call_of 24 (Value.int .u32 o); refine (HHO.out _).mono ?_; rintro e w' ⟨rfl, rfl⟩))
    go_ret
    exact ⟨by rw [← HE.out]; rfl, HO2.out⟩
theorem refText_any (k c x y o : Int) (w : World) (f : Acc.Fits ⟨k, c, x, y, o⟩) : Calls Tryd.prog 10 #[.agg #[.int .i64 k, .int .i64 c, .int .u32 x, .int .u32 y, .int .u32 o]] w fun e w' => e = .returned (.string (bs (if rightB k c x y o then textL ⟨k, c, x, y, o⟩ else []))) ∧ Only Nil w w' := by
  cases hr : rightB k c x y o with
  | false => exact refText_no k c x y o w hr
  | true =>
    have r := rightB_iff.1 hr
    obtain ⟨kk, rfl⟩ : ∃ kk : Nat, k = kk := ⟨k.toNat, by have := r.k1; simp only at this; omega⟩
    obtain ⟨cc, rfl⟩ : ∃ cc : Nat, c = cc := ⟨c.toNat, by have := r.c0; simp only at this; omega⟩
    exact refText_yes kk cc x y o w f r
end Go.Proofs.YtlccmhlbkgojlaaDoor
