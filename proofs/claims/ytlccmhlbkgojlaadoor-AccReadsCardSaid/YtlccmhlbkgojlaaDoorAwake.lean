/- Accesses as texts: Text of any access; the document's example. -/
import Derived.Test.YtlccmhlbkgojlaaDoorAccT
namespace Go.Proofs.YtlccmhlbkgojlaaDoor
open Go.RowKit
/-- The text of any access. -/
def textB (k c x y o : Int) : ByteArray := bs (if rightB k c x y o then textL ⟨k, c, x, y, o⟩ else [])
theorem textB_yes {k c x y o : Int} (h : rightB k c x y o = true) : textB k c x y o = bs (textL ⟨k, c, x, y, o⟩) := by unfold textB; rw [if_pos h]
theorem textB_no {k c x y o : Int} (h : rightB k c x y o = false) : textB k c x y o = bs [] := by unfold textB; rw [if_neg (by rw [h]; simp)]
theorem textB_size (k c x y o : Int) : (textB k c x y o).size ≤ 60 := by
  cases h : rightB k c x y o with
  | true => rw [textB_yes h, bs_size]; exact text_len (rightB_iff.1 h)
  | false => rw [textB_no h]; decide
theorem text_any (k c x y o : Int) (w : World) (h : Lies w) (f : Acc.Fits ⟨k, c, x, y, o⟩) : Calls Tryd.prog 7 #[.agg #[.int .i64 k, .int .i64 c, .int .u32 x, .int .u32 y, .int .u32 o]] w fun e w' => e = .returned (.string (textB k c x y o)) ∧ Only Nil w w' := by
  cases hr : rightB k c x y o with
  | false => rw [textB_no hr]; exact text_no k c x y o w hr
  | true =>
    rw [textB_yes hr]
    have r := rightB_iff.1 hr
    obtain ⟨kk, rfl⟩ : ∃ kk : Nat, k = kk := ⟨k.toNat, by have := r.k1; simp only at this; omega⟩
    obtain ⟨cc, rfl⟩ : ∃ cc : Nat, c = cc := ⟨c.toNat, by have := r.c0; simp only at this; omega⟩
    exact text_yes kk cc x y o w h f r
theorem textB_example : textB 3 0 1 0 4294967295 = ⟨#[97, 100, 100, 32, 48, 32, 48, 48, 48, 48, 48, 48, 48, 49, 32, 119, 97, 115, 32, 102, 102, 102, 102, 102, 102, 102, 102]⟩ := by
  rw [textB_yes (by decide)]
  have e : textL ⟨3, 0, 1, 0, 4294967295⟩ = [97, 100, 100, 32, 48, 32, 48, 48, 48, 48, 48, 48, 48, 49, 32, 119, 97, 115, 32, 102, 102, 102, 102, 102, 102, 102, 102] := by
    unfold textL partsL decL
    rw [if_neg (by decide), if_neg (by decide), show (0 : Int).toNat = 0 from rfl, Lib.decDigits_one (by decide)]
    decide
  rw [e]; rfl
theorem awake_any (w : World) (h : Lies w) : Calls Tryd.prog 12 #[] w fun e w' => e = .returned (.bool true) ∧ Only Nil w w' := by
  have HT := Lib.hid (text_any 3 0 1 0 4294967295 w h (by constructor <;> decide))
  have HE := Lib.hid textB_example
  clear h
  go_enter Tryd.func12, Tryd.ntmps12
  go_wp2_with fail
  refine HT.out.mono ?_
  rw [HE.out]
  rintro e w1 ⟨rfl, hO⟩
  have HO := Lib.hid hO
  clear hO
  go_wp2
  go_ret
  exact ⟨rfl, HO.out⟩
end Go.Proofs.YtlccmhlbkgojlaaDoor
