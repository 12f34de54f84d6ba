/- What stands between blanks: the library's Split. -/
import Derived.Test.YtakbbabmbhencaaDoorKit
import Derived.Test.YtakbbabmbhencaaDoorChecked
import Derived.Test.YtakbbabmbhencaaDoorStr
import Derived.Test.YtakbbabmbhencaaDoorAtoi
import Derived.Lib.SplitLaws
import Derived.Lib.IndexBytes
namespace Go.Proofs.YtakbbabmbhencaaDoor
open Go.RowKit
theorem splitK_cut : ∀ (k : Nat) (l : Bs), l.count 32 = k → Lib.splitK [32] 0 k l = cut l
  | 0, l, h => by
    rw [cut_word l (List.count_eq_zero.1 h)]; rfl
  | k + 1, l, h => by
    have hge := Lib.index_ge l [32]
    by_cases hm : Lib.index l [32] = -1
    · rw [Lib.index_one] at hm
      have hn := Lib.indexByte_none hm
      have : (32 : UInt8) ∉ l := fun hmem => by
        obtain ⟨i, hi, he⟩ := List.getElem_of_mem hmem
        exact hn i (by rw [List.getElem?_eq_getElem hi, he])
      rw [List.count_eq_zero.2 this] at h
      omega
    · obtain ⟨i, hi⟩ : ∃ i : Nat, Lib.index l [32] = i := ⟨(Lib.index l [32]).toNat, by omega⟩
      have hi' := hi
      rw [Lib.index_one] at hi'
      obtain ⟨h1, h2⟩ := Lib.indexByte_some hi'
      have hlt : i < l.length := (List.getElem?_eq_some_iff.1 h1).1
      have hget : l[i] = 32 := (List.getElem?_eq_some_iff.1 h1).2
      have hpre : (32 : UInt8) ∉ l.take i := fun hmem => by
        obtain ⟨j, hj, he⟩ := List.getElem_of_mem hmem
        rw [List.length_take] at hj
        rw [List.getElem_take] at he
        exact h2 j (by omega) (by rw [List.getElem?_eq_getElem (by omega), he])
      have hl : l = l.take i ++ 32 :: l.drop (i + 1) := by
        rw [← hget, ← List.drop_eq_getElem_cons hlt, List.take_append_drop]
      have hc : (l.drop (i + 1)).count 32 = k := by
        rw [hl, List.count_append, List.count_cons_self, List.count_eq_zero.2 hpre] at h
        omega
      unfold Lib.splitK
      rw [if_neg (by simp [hi]), hi, Int.toNat_natCast, Nat.add_zero, List.length_singleton, splitK_cut k _ hc]
      exact (by rw [← cut_more _ _ hpre, ← hl])
theorem split_cut (s : ByteArray) : Lib.splitB ⟨#[32]⟩ 0 (Lib.countB s ⟨#[32]⟩) s = (cut s.data.toList).map bs := by
  have h := Lib.splitB_data ⟨#[32]⟩ 0 (Lib.countB s ⟨#[32]⟩) s
  have hc : s.data.toList.count 32 = Lib.countB s ⟨#[32]⟩ := (Lib.count_one 32 s.data.toList).symm
  have e : Lib.splitK (⟨#[32]⟩ : ByteArray).data.toList 0 (Lib.countB s ⟨#[32]⟩) s.data.toList = cut s.data.toList := splitK_cut _ _ hc
  rw [e] at h
  rw [← h, List.map_map]
  exact (List.map_id' _).symm
theorem split_len (s : ByteArray) : Lib.countB s ⟨#[32]⟩ + 1 = (cut s.data.toList).length := by
  rw [← Lib.splitB_all ⟨#[32]⟩ (by decide) 0 _ s rfl, split_cut, List.length_map]
theorem split_any (s : ByteArray) (w : World) (hs : s.size ≤ 900) (hm : ∃ m, w.cell? ⟨1, 0, none⟩ = some (.int .i64 m)) :
    Calls Tryd.prog 36 #[.string s, .string ⟨#[32]⟩] w fun e w' => e = .returned (.slice (some ⟨w.heap.size, 0, none⟩) (cut s.data.toList).length (cut s.data.toList).length) ∧
      w' = w.alloc (.cells (((cut s.data.toList).map bs).map Value.string).toArray 9) := by
  obtain ⟨m, hm⟩ := hm
  refine (Tryd.strings_Split s ⟨#[32]⟩ m w (by omega) hm (by decide)).mono fun e w' ⟨he, hw⟩ => ?_
  rw [split_cut] at hw
  rw [split_len] at he
  exact ⟨he, hw⟩
end Go.Proofs.YtakbbabmbhencaaDoor
