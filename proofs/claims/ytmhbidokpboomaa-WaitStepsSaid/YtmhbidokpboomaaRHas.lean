/- The answer's There of a permit. -/
import Derived.Test.YtmhbidokpboomaaRPermit
import Derived.Test.YtmhbidokpboomaaRefC
set_option linter.unusedVariables false
set_option linter.unusedSimpArgs false
namespace Go.Proofs.Ytmhbidokpboomaa
open Go.RowKit

theorem rhas_any (A : Option Addr) (l cp B : Nat) (xs : List Int) (n i : Int) (hn : xs.length = l) (w : World) (hx : Ints w B .u32 A xs) :
    Calls Try.prog 26 #[.slice A l cp, .int .i64 n, .int .i64 i] w fun e w' => e = .returned (.bool (hasP xs n i)) ∧ w = w' := by
  have HN := Lib.hid hn
  cases ht : there xs (pc n i)
  · have hp : hasP xs n i = false := by simp [hasP, wordAt, ht]
    rw [hp]
    have HT := Lib.hid ht
    clear ht hp hn hx
    go_enter Try.func26, Try.ntmps26
    go_wp2_with fail
    refine (rcell_any A l cp xs n i HN.out _).mono ?_
    rw [HT.out]
    rintro e w1 ⟨rfl, rfl⟩
    simp only [Bool.false_eq_true, if_false]
    go_wp2
    go_ret
    exact ⟨rfl, rfl⟩
  · have ht2 := ht
    simp only [there, decide_eq_true_eq] at ht2
    obtain ⟨q, hq⟩ := Int.eq_ofNat_of_zero_le ht2.1
    have hql : q < l := by omega
    obtain ⟨b, o, rfl, hb, hc⟩ := hx (by omega)
    have c0 : w.cell? ⟨b, o + q, none⟩ = some (.int .u32 (wordAt xs (pc n i))) := by
      rw [hc q (by omega), show wordAt xs (pc n i) = xs.getD q 0 by unfold wordAt; rw [ht, hq]; rfl]
    have hp : hasP xs n i = (wordAt xs (pc n i) != 0) := rfl
    have HP := Lib.hid hp
    have HT := Lib.hid ht
    have HQ := Lib.hid hq
    generalize hw : wordAt xs (pc n i) = v at *
    rw [HP.out]
    clear ht hp hn hx hc hw ht2 hq
    go_enter Try.func26, Try.ntmps26
    go_wp2_with fail
    refine (rcell_any (some ⟨b, o, none⟩) l cp xs n i HN.out _).mono ?_
    rw [HT.out, HQ.out]
    rintro e w1 ⟨rfl, rfl⟩
    simp only [if_true]
    go_wp2
    go_ret
    exact ⟨rfl, rfl⟩
end Go.Proofs.Ytmhbidokpboomaa
