/- The library's Cut, TrimLeft and HasPrefix at one byte, by their lists. -/
import Derived.Test.YtdneicbbnbbffaaDoorScM
import Derived.Test.YtdneicbbnbbffaaDoorStr
import Derived.Lib.SplitLaws
import Derived.Lib.IndexBytes
import Derived.Lib.IndexMore
import Derived.Lib.TrimByte
import Derived.Lib.Strings
namespace Go.Proofs.YtdneicbbnbbffaaDoor
open Go Go.RowKit
theorem lib_cut (c : UInt8) (l : Bs) : (Lib.cut l [c]).1 = tw c l ∧ (Lib.cut l [c]).2.1 = dw c l := by
  have hge := Lib.index_ge l [c]
  unfold Lib.cut
  by_cases hm : Lib.index l [c] = -1
  · rw [if_neg (by omega)]
    rw [Lib.index_one] at hm
    have hn := Lib.indexByte_none hm
    have : c ∉ l := fun hmem => by
      obtain ⟨i, hi, he⟩ := List.getElem_of_mem hmem
      exact hn i (by rw [List.getElem?_eq_getElem hi, he])
    obtain ⟨e1, e2⟩ := tw_all this
    exact ⟨e1.symm, e2.symm⟩
  · obtain ⟨i, hi⟩ : ∃ i : Nat, Lib.index l [c] = i := ⟨(Lib.index l [c]).toNat, by omega⟩
    have hi' := hi
    rw [Lib.index_one] at hi'
    obtain ⟨h1, h2⟩ := Lib.indexByte_some hi'
    have hlt : i < l.length := (List.getElem?_eq_some_iff.1 h1).1
    have hget : l[i] = c := (List.getElem?_eq_some_iff.1 h1).2
    have hpre : c ∉ l.take i := fun hmem => by
      obtain ⟨j, hj, he⟩ := List.getElem_of_mem hmem
      rw [List.length_take] at hj
      rw [List.getElem_take] at he
      exact h2 j (by omega) (by rw [List.getElem?_eq_getElem (by omega), he])
    have hl : l = l.take i ++ c :: l.drop (i + 1) := by
      rw [← hget, ← List.drop_eq_getElem_cons hlt, List.take_append_drop]
    obtain ⟨e1, e2⟩ := tw_hit (l := l.take i) (r := l.drop (i + 1)) hpre
    rw [← hl] at e1 e2
    rw [if_pos (by omega), hi, e1, e2]
    exact ⟨rfl, rfl⟩
theorem lib_trim : ∀ l : Bs, Lib.trimLeftB l 32 = skipB l
  | [] => rfl
  | b :: l => by
    have ih := lib_trim l
    unfold Lib.trimLeftB at ih ⊢
    unfold skipB
    by_cases hb : b = 32
    · rw [if_pos hb, List.dropWhile_cons_of_pos (by simp [hb]), ih]
    · rw [if_neg hb, List.dropWhile_cons_of_neg (by simp [hb])]
theorem lib_hash (l : Bs) : Lib.hasPrefix l [35] = decide (l.head? = some 35) := by
  cases l with
  | nil => rfl
  | cons b r =>
    simp only [Lib.hasPrefix, List.isPrefixOf, List.head?_cons, Option.some.injEq, Bool.and_true]
    by_cases h : b = 35
    · simp [h]
    · have : ¬ (35 : UInt8) = b := fun e => h e.symm
      simp [h, this]
/-- Of an empty text; of another one: as the walk asks. -/
theorem em_yes {l : Bs} (h : l = []) : (bs l).toList = [] ∧ (bs l).toList.isEmpty = true := by
  subst h; exact ⟨by rw [ByteArray.toList_eq]; rfl, by rw [ByteArray.toList_eq]; rfl⟩
theorem em_no {l : Bs} (h : ¬ l = []) : ¬ (bs l).toList = [] ∧ (bs l).toList.isEmpty = false := by
  rw [ByteArray.toList_eq]
  refine ⟨h, ?_⟩
  cases l with
  | nil => exact absurd rfl h
  | cons b r => rfl
end Go.Proofs.YtdneicbbnbbffaaDoor
