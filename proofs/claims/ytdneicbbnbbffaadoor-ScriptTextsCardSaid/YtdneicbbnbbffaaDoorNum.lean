/- A number's digits read: the library's Atoi. -/
import Derived.Test.YtdneicbbnbbffaaDoorStr
import Derived.Test.YtdneicbbnbbffaaDoorAtoi
import Derived.Lib.AtoiAllCases
namespace Go.Proofs.YtdneicbbnbbffaaDoor
open Go.RowKit
theorem parse10_dig : ∀ (l : Bs) (acc n : Nat), (∀ c ∈ l, 48 ≤ c.toNat ∧ c.toNat ≤ 57) → l.length + n ≤ 10 → acc < 10 ^ n → Lib.parseUint10 acc l = .ok (l.foldl (fun v c => v * 10 + (c.toNat - 48)) acc)
  | [], acc, _, _, _, _ => rfl
  | c :: r, acc, n, h, hn, ha => by
    have hc := h c (by simp)
    have h10 : 10 ^ n ≤ 10 ^ 10 := Nat.pow_le_pow_right (by omega) (by simp at hn; omega)
    have h11 : (10 : Nat) ^ 10 = 10000000000 := by decide
    rw [Lib.parseUint10, if_pos hc, if_neg (by omega), if_neg (by omega)]
    rw [parse10_dig r _ (n + 1) (fun d hd => h d (by simp [hd])) (by simp at hn; omega) (by rw [Nat.pow_succ]; omega)]
    rfl
theorem atoi_dec (c : Nat) (hc : c ≤ 1023) : Lib.atoiAll (Lib.decDigits c) = .ok (c : Int) := by
  have hm := dec_mem c
  have hl := dec_len (u := c) (k := 4) (by omega) (by omega)
  have hp : Lib.parseUint10 0 (Lib.decDigits c) = .ok c := by
    have e := parse10_dig (Lib.decDigits c) 0 0 hm (by omega) (by decide)
    rw [e]
    show Lib.NumEnd.ok (dval (Lib.decDigits c)) = _
    rw [dval_dec]
  cases h : Lib.decDigits c with
  | nil => rw [h] at hp; simp only [Lib.parseUint10, Lib.NumEnd.ok.injEq] at hp; subst hp; rw [Lib.decDigits_one (by omega)] at h; cases h
  | cons b r =>
    rw [h] at hp
    have hb := hm b (by rw [h]; simp)
    rw [Lib.atoiAll_plain b r (by omega) (by omega), Lib.parseMag, if_neg (by simp), hp]
    simp only [Lib.signless]
    rw [if_neg (by omega)]
/-- Some number; that of the digits. -/
def AtoiRes (l : Bs) (w : World) (e : Ending) (w' : World) : Prop := ∃ (v : Int) (er : Value), e = .returned (.tuple #[.int .i64 v, er]) ∧ Only Nil w w' ∧ -9223372036854775808 ≤ v ∧ v < 9223372036854775808 ∧ ∀ c : Nat, c ≤ 1023 → l = Lib.decDigits c → v = c
theorem atoi_gen (s : ByteArray) (w : World) (hs : s.size ≤ 1000000) (hsyn : ∃ tp p, w.var? Tryd.prog "strconv.ErrSyntax" = some #[.iface tp p]) (hrng : ∃ tp p, w.var? Tryd.prog "strconv.ErrRange" = some #[.iface tp p]) : Calls Tryd.prog 44 #[.string s] w (AtoiRes s.data.toList w) := by
  have hbl : ∀ w', Below w.heap.size w w' → Only Nil w w' := fun w' hb => Only.of_below hb (fun k h1 h2 => absurd h1 (by omega))
  have hno : ∀ r, Lib.atoiAll s.data.toList = r → (∀ v, r ≠ .ok v) → ∀ c : Nat, c ≤ 1023 → s.data.toList = Lib.decDigits c → False := fun r hr hv c hc hl => by
    rw [hl, atoi_dec c hc] at hr
    exact hv _ hr.symm
  rcases hp : Lib.atoiAll s.data.toList with v | _ | _
  · obtain ⟨b1, b2⟩ := Lib.atoiAll_bounds hp
    refine (Tryd.strconv_Atoi_ok s (by omega) v hp w).mono fun e w' ⟨he, hw⟩ => ⟨v, .nilIface, he, ?_, b1, by omega, fun c hc hl => ?_⟩
    · rcases hw with rfl | ⟨t, rfl⟩
      · exact Only.refl _ _
      · exact hbl _ (Lib.bytesWorld_below _ _ _)
    · rw [hl, atoi_dec c hc] at hp
      injection hp with hp
      exact hp.symm
  · obtain ⟨tp, p, hv⟩ := hsyn
    refine (Tryd.strconv_Atoi_syntax_var s (by omega) hp tp p w hv).mono fun e w' ⟨N, he, _, _, hb⟩ => ⟨0, _, he, hbl _ hb, by omega, by omega, fun c hc hl => (hno _ hp (fun v h => by cases h) c hc hl).elim⟩
  · obtain ⟨tp, p, hv⟩ := hrng
    obtain ⟨b1, b2⟩ := Lib.atoiSat_bounds s.data.toList
    refine (Tryd.strconv_Atoi_range_var s (by omega) hp tp p w hv).mono fun e w' ⟨N, he, _, _, hb⟩ => ⟨_, _, he, hbl _ hb, b1, by omega, fun c hc hl => (hno _ hp (fun v h => by cases h) c hc hl).elim⟩
end Go.Proofs.YtdneicbbnbbffaaDoor
