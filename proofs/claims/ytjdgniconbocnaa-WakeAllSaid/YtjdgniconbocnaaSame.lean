/- The answer's Same, at lists of numbers that lie somewhere (Ref.same_any in words that ask less). -/
import Derived.Test.YtjdgniconbocnaaKit
import Derived.Test.YtjdgniconbocnaaChecked
namespace Go.Proofs.Ytjdgniconbocnaa
open Go.RowKit

theorem takeI_next {xs ys : List Int} {k : Nat} (hx : k < xs.length) (hy : k < ys.length) (h : xs.take k = ys.take k) (e : xs.getD k 0 = ys.getD k 0) : xs.take (k + 1) = ys.take (k + 1) := by
  rw [List.take_succ_eq_append_getElem hx, List.take_succ_eq_append_getElem hy, h]
  simp only [List.getD, List.getElem?_eq_getElem hx, List.getElem?_eq_getElem hy, Option.getD_some] at e
  rw [e]

theorem takeI_not {xs ys : List Int} {k : Nat} (e : xs.getD k 0 ≠ ys.getD k 0) : xs ≠ ys := by
  rintro rfl; exact e rfl

theorem sameI_len (A B : Option Addr) (n m c d : Nat) (xs ys : List Int) (w : World) (hx : xs.length = n) (hy : ys.length = m) (hl : n ≠ m) :
    Calls Try.prog 10 #[.slice A n c, .slice B m d] w fun e w' => e = .returned (.bool (decide (xs = ys))) ∧ Drew w w' := by
  have hne : xs ≠ ys := fun h => hl (by rw [← hx, ← hy, h])
  have hl' : ((n : Int) == (m : Int)) = false := by simpa [Int.natCast_inj] using hl
  have HN := Lib.hid hne
  clear hne hx hy
  go_enter Try.func10, Try.ntmps10
  go_wp2
  go_ret
  exact ⟨by simp [HN.out], Drew.refl _⟩

theorem sameI_any (A B : Option Addr) (n m c d : Nat) (xs ys : List Int) (w : World) (hnx : xs.length = n) (hny : ys.length = m) (hx3 : Ints w w.heap.size .u32 A xs) (hy3 : Ints w w.heap.size .u32 B ys) (hm : n ≤ 1048576) :
    Calls Try.prog 10 #[.slice A n c, .slice B m d] w fun e w' => e = .returned (.bool (decide (xs = ys))) ∧ Drew w w' := by
  by_cases hl : n = m
  · subst hl
    have HX := Lib.hid hx3
    have HY := Lib.hid hy3
    have HNX := Lib.hid hnx
    have HNY := Lib.hid hny
    clear hx3 hy3 hnx hny
    go_enter Try.func10, Try.ntmps10
    go_wp2
    go_loopw [5] (fun i wr => ∃ k : Nat, k ≤ n ∧ i = .int .i64 k ∧ xs.take k = ys.take k ∧ ∃ m, wr = w.drewN m) (fun i _ => n - (intOf i).toNat)
    case atStart => exact ⟨0, Nat.zero_le _, rfl, rfl, 0, rfl⟩
    case round =>
      obtain ⟨k, hk, rfl, ht, m, rfl⟩ := hrel
      have HT := Lib.hid ht
      clear ht
      by_cases hlt : k < n
      · obtain ⟨b1, o1, hA, _, hc1⟩ := HX.out (by rw [HNX.out]; omega)
        obtain ⟨b2, o2, hB, _, hc2⟩ := HY.out (by rw [HNY.out]; omega)
        subst hA hB
        have c1 := hc1 k (by rw [HNX.out]; omega)
        have c2 := hc2 k (by rw [HNY.out]; omega)
        clear hc1 hc2
        generalize h1 : xs.getD k 0 = x at *
        generalize h2 : ys.getD k 0 = y at *
        have H1 := Lib.hid h1
        have H2 := Lib.hid h2
        clear h1 h2
        go_wp2
        go_quiet (fail)
        go_wp2
        · have hxy : x ≠ y := by have h : (x != y) = true := by assumption
                                 simpa using h
          have hne : xs ≠ ys := takeI_not (k := k) (by rw [H1.out, H2.out]; exact hxy)
          go_ret
          exact ⟨by simp [hne], ((Drew.n _ _).trans (Drew.n _ _))⟩
        · have hxy : x = y := by have h : (x != y) = false := by assumption
                                 simpa using h
          exact ⟨⟨k + 1, by omega, by go_num, takeI_next (by rw [HNX.out]; omega) (by rw [HNY.out]; omega) HT.out (by rw [H1.out, H2.out]; exact hxy), _, rfl⟩, by simp [intOf]; omega⟩
      · have hkn : k = n := by omega
        subst hkn
        have heq : xs = ys := by
          have e := HT.out
          rwa [List.take_of_length_le (by rw [HNX.out]; omega), List.take_of_length_le (by rw [HNY.out]; omega)] at e
        have HE := Lib.hid heq
        clear heq
        go_wp2
        go_ret
        exact ⟨by simp [HE.out], Drew.n _ _⟩
  · exact sameI_len A B n m c d xs ys w hnx hny hl

/-- What a block that is known whole holds, as a list. -/
theorem Row.ints {w : World} {g : Nat} {t : TypeId} {k : IntKind} {xs : List Int} (h : Row w g t ((xs.map (Value.int k)).toArray)) : Ints w w.heap.size k (some ⟨g, 0, none⟩) xs := fun _ => by
  refine ⟨g, 0, rfl, h.lt, fun i hi => ?_⟩
  rw [Nat.zero_add]
  refine h.cell_ ?_
  simp [List.getD, List.getElem?_eq_getElem hi]
theorem ints_nil {w : World} {B : Nat} {k : IntKind} : Ints w B k none [] := fun h => absurd h (by simp)
end Go.Proofs.Ytjdgniconbocnaa
