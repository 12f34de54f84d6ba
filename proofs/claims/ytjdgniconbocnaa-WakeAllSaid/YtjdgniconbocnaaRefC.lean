/- Contracts of the answer's There, Copy and Same. -/
import Derived.Test.YtjdgniconbocnaaDoAny
namespace Go.Proofs.Ytjdgniconbocnaa
open Go.RowKit

theorem take_next {xs ys : List Int} {k : Nat} (hx : k < xs.length) (hy : k < ys.length) (h : xs.take k = ys.take k) (e : xs.getD k 0 = ys.getD k 0) : xs.take (k + 1) = ys.take (k + 1) := by
  rw [List.take_succ_eq_append_getElem hx, List.take_succ_eq_append_getElem hy, h]
  simp only [List.getD, List.getElem?_eq_getElem hx, List.getElem?_eq_getElem hy, Option.getD_some] at e
  rw [e]

theorem take_not {xs ys : List Int} {k : Nat} (e : xs.getD k 0 ≠ ys.getD k 0) : xs ≠ ys := by
  rintro rfl; exact e rfl

theorem same_len (A B : Option Addr) (c d : Nat) (xs ys : List Int) (w : World) (hl : xs.length ≠ ys.length) :
    Calls Try.prog 10 #[.slice A xs.length c, .slice B ys.length d] w fun e w' => e = .returned (.bool (decide (xs = ys))) ∧ Only Nil w w' := by
  have hne : xs ≠ ys := fun h => hl (by rw [h])
  have hl' : ((xs.length : Int) == (ys.length : Int)) = false := by simpa [Int.natCast_inj] using hl
  have HN := Lib.hid hne
  clear hne
  go_enter Try.func10, Try.ntmps10
  go_wp2
  go_ret
  exact ⟨by simp [HN.out], Only.refl _ _⟩

theorem same_any (A B : Option Addr) (c d : Nat) (xs ys : List Int) (w : World) (hx : Held w A xs.length c xs) (hy : Held w B ys.length d ys) (hm : xs.length ≤ 1048576) :
    Calls Try.prog 10 #[.slice A xs.length c, .slice B ys.length d] w fun e w' => e = .returned (.bool (decide (xs = ys))) ∧ Only Nil w w' := by
  by_cases hl : xs.length = ys.length
  · have hx3 := hx.2.2
    have hy3 := hy.2.2
    clear hx hy
    generalize hnx : xs.length = n at *
    have hny : ys.length = n := hl.symm
    rw [← hl]
    have HX := Lib.hid hx3
    have HY := Lib.hid hy3
    have HNX := Lib.hid hnx
    have HNY := Lib.hid hny
    clear hx3 hy3 hnx hny hl
    go_enter Try.func10, Try.ntmps10
    go_wp2
    go_loopw [5] (fun i wr => ∃ k : Nat, k ≤ n ∧ i = .int .i64 k ∧ xs.take k = ys.take k ∧ ∃ m, wr = w.drewN m) (fun i _ => n - (intOf i).toNat)
    case atStart => exact ⟨0, Nat.zero_le _, rfl, rfl, 0, rfl⟩
    case round =>
      obtain ⟨k, hk, rfl, ht, m, rfl⟩ := hrel
      have HT := Lib.hid ht
      clear ht
      by_cases hlt : k < n
      · obtain ⟨b1, o1, hA, _, hc1⟩ := HX.out (by rw [HNX.out]; omega)
        obtain ⟨b2, o2, hB, _, hc2⟩ := HY.out (by rw [HNY.out]; omega)
        subst hA hB
        have c1 := hc1 k (by rw [HNX.out]; omega)
        have c2 := hc2 k (by rw [HNY.out]; omega)
        clear hc1 hc2
        generalize h1 : xs.getD k 0 = x at *
        generalize h2 : ys.getD k 0 = y at *
        have H1 := Lib.hid h1
        have H2 := Lib.hid h2
        clear h1 h2
        go_wp2
        go_quiet (fail)
        go_wp2
        · have hxy : x ≠ y := by have h : (x != y) = true := by assumption
                                 simpa using h
          have hne : xs ≠ ys := take_not (k := k) (by rw [H1.out, H2.out]; exact hxy)
          go_ret
          exact ⟨by simp [hne], (((Only.refl _ _).drewN _).drewN _)⟩
        · have hxy : x = y := by have h : (x != y) = false := by assumption
                                 simpa using h
          exact ⟨⟨k + 1, by omega, by go_num, take_next (by rw [HNX.out]; omega) (by rw [HNY.out]; omega) HT.out (by rw [H1.out, H2.out]; exact hxy), _, rfl⟩, by simp [intOf]; omega⟩
      · have hkn : k = n := by omega
        subst hkn
        have heq : xs = ys := by
          have e := HT.out
          rwa [List.take_of_length_le (by rw [HNX.out]; omega), List.take_of_length_le (by rw [HNY.out]; omega)] at e
        have HE := Lib.hid heq
        clear heq
        go_wp2
        go_ret
        exact ⟨by simp [HE.out], (Only.refl _ _).drewN _⟩
  · exact same_len A B c d xs ys w hl

theorem same_n (A B : Option Addr) (c d n : Nat) (xs ys : List Int) (w : World) (hx : Held w A n c xs) (hy : Held w B n d ys) (hm : n ≤ 1048576) :
    Calls Try.prog 10 #[.slice A n c, .slice B n d] w fun e w' => e = .returned (.bool (decide (xs = ys))) ∧ Only Nil w w' := by
  have e1 := hx.1
  have e2 := hy.1
  have q := same_any A B c d xs ys w (by rw [e1]; exact hx) (by rw [e2]; exact hy) (by omega)
  rw [e1, e2] at q
  exact q

theorem Own.held_n {w : World} {base : Nat} {A : Option Addr} {c n : Nat} {xs : List Int} (h : Own w base A c xs) (hn : xs.length = n) : Held w A n c xs := by
  subst hn; exact h.held
end Go.Proofs.Ytjdgniconbocnaa
