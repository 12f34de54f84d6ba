/- Words that go round, and parts of words: the plain mathematics. Nothing here speaks of a program. -/
import Derived.Laws.BitsAllLaws
import Derived.Laws.BitsLemmas
namespace Go.Proofs.Yteigkgfmmcaieaa

/-- How far a is ahead of b, round the word. -/
def aheadI (a b : Int) : Int := (a - b + 2147483648) % 4294967296 - 2147483648
def isF (s n : Int) : Bool := decide (0 ≤ s ∧ s ≤ 31 ∧ 1 ≤ n ∧ n ≤ 32 ∧ s + n ≤ 32)
def pw (n : Int) : Int := 2 ^ n.toNat
def fieldOf (v s n : Int) : Int := v / pw s % pw n
def getI (v s n : Int) : Int := if isF s n then fieldOf v s n else 0
def putIn (v s n x : Int) : Int := v + (x % pw n - fieldOf v s n) * pw s
def putI (v s n x : Int) : Int := if isF s n then putIn v s n x else v
def bumpI (v s n : Int) : Int := (putI v s n ((getI v s n + 1) % 4294967296) - v) % 4294967296
/-- What lies in the field is taken out. -/
def holed (v s n : Int) : Int := v - fieldOf v s n * pw s

theorem isF_iff {s n : Int} : isF s n = true ↔ 0 ≤ s ∧ s ≤ 31 ∧ 1 ≤ n ∧ n ≤ 32 ∧ s + n ≤ 32 := by simp [isF]
theorem pw_pos (n : Int) : 0 < pw n := Int.pow_pos (by decide)
theorem pw_nat (s : Nat) : pw (s : Int) = ((2 ^ s : Nat) : Int) := by simp [pw]
theorem pw_add {s n : Int} (hs : 0 ≤ s) (hn : 0 ≤ n) : pw (s + n) = pw s * pw n := by
  unfold pw; rw [Int.toNat_add hs hn, Int.pow_add]
theorem pw_le {s n : Int} (h : s ≤ n) : pw s ≤ pw n := by
  have h1 : s.toNat ≤ n.toNat := by omega
  have h2 : 2 ^ s.toNat ≤ 2 ^ n.toNat := Nat.pow_le_pow_right (by decide) h1
  unfold pw; exact_mod_cast h2
theorem pw_32 : pw 32 = 4294967296 := rfl
theorem pw_8 : pw 8 = 256 := rfl
theorem pw_0 : pw 0 = 1 := rfl
theorem pw_le32 {n : Int} (h : n ≤ 32) : pw n ≤ 4294967296 := by have := pw_le h; rwa [pw_32] at this
theorem pw_succ {n : Int} (h : 0 ≤ n) : pw (n + 1) = pw n * 2 := by rw [pw_add h (by decide)]; rfl

theorem field_bd (v s n : Int) : 0 ≤ fieldOf v s n ∧ fieldOf v s n < pw n := ⟨Int.emod_nonneg _ (by have := pw_pos n; omega), Int.emod_lt_of_pos _ (pw_pos n)⟩
theorem field_lt32 {v s n : Int} (h : isF s n = true) : fieldOf v s n < 4294967296 := by
  have := (field_bd v s n).2; have := pw_le32 (isF_iff.1 h).2.2.2.1; omega

/-- A word is what lies above the field, the field, and what lies below it. -/
theorem parts {v s n : Int} (hs : 0 ≤ s) (hn : 0 ≤ n) : v = v / pw (s + n) * pw (s + n) + fieldOf v s n * pw s + v % pw s := by
  have h1 : v / pw (s + n) = v / pw s / pw n := by rw [pw_add hs hn, Int.ediv_ediv_of_nonneg (by have := pw_pos s; omega)]
  have h2 := Int.ediv_mul_add_emod v (pw s)
  have h3 := Int.ediv_mul_add_emod (v / pw s) (pw n)
  rw [h1, pw_add hs hn, fieldOf]
  calc v = v / pw s * pw s + v % pw s := h2.symm
    _ = (v / pw s / pw n * pw n + v / pw s % pw n) * pw s + v % pw s := by rw [h3]
    _ = _ := by rw [Int.add_mul, Int.mul_assoc, Int.mul_comm (pw n) (pw s)]

theorem below_bd (v s : Int) : 0 ≤ v % pw s ∧ v % pw s < pw s := ⟨Int.emod_nonneg _ (by have := pw_pos s; omega), Int.emod_lt_of_pos _ (pw_pos s)⟩
theorem put_parts {v s n : Int} (x : Int) (hs : 0 ≤ s) (hn : 0 ≤ n) : putIn v s n x = v / pw (s + n) * pw (s + n) + (x % pw n * pw s + v % pw s) := by
  have h := parts (v := v) hs hn
  unfold putIn
  rw [Int.sub_mul]
  omega
theorem mod_bd (x n : Int) : 0 ≤ x % pw n ∧ x % pw n < pw n := ⟨Int.emod_nonneg _ (by have := pw_pos n; omega), Int.emod_lt_of_pos _ (pw_pos n)⟩
theorem low_bd {v s n : Int} (x : Int) (hs : 0 ≤ s) (hn : 0 ≤ n) : 0 ≤ x % pw n * pw s + v % pw s ∧ x % pw n * pw s + v % pw s < pw (s + n) := by
  have h1 := mod_bd x n
  have h2 := below_bd v s
  have h3 : x % pw n * pw s ≤ (pw n - 1) * pw s := Int.mul_le_mul_of_nonneg_right (by omega) (by have := pw_pos s; omega)
  have h4 : 0 ≤ x % pw n * pw s := Int.mul_nonneg h1.1 (by have := pw_pos s; omega)
  rw [pw_add hs hn, Int.mul_comm (pw s)]
  rw [Int.sub_mul] at h3
  omega
theorem put_bd {v s n : Int} (x : Int) (h : isF s n = true) (hv : 0 ≤ v ∧ v < 4294967296) : 0 ≤ putIn v s n x ∧ putIn v s n x < 4294967296 := by
  obtain ⟨hs, _, hn, _, hsn⟩ := isF_iff.1 h
  have h1 := low_bd (v := v) x hs (by omega : 0 ≤ n)
  rw [put_parts x hs (by omega)]
  have hp := pw_pos (s + n)
  have hk : pw (s + n) * pw (32 - (s + n)) = 4294967296 := by rw [← pw_add (by omega) (by omega), show s + n + (32 - (s + n)) = 32 by omega, pw_32]
  generalize hq : v / pw (s + n) = q
  have h2 : 0 ≤ q := by rw [← hq]; exact Int.ediv_nonneg hv.1 (by omega)
  have h3 : q < pw (32 - (s + n)) := by
    rw [← hq]; exact Int.ediv_lt_of_lt_mul hp (by rw [Int.mul_comm, hk]; exact hv.2)
  have h4 : q * pw (s + n) ≤ (pw (32 - (s + n)) - 1) * pw (s + n) := Int.mul_le_mul_of_nonneg_right (by omega) (by omega)
  have h5 : 0 ≤ q * pw (s + n) := Int.mul_nonneg h2 (by omega)
  rw [Int.sub_mul, Int.mul_comm (pw (32 - (s + n))), hk] at h4
  omega
theorem put_move {v s n : Int} (x : Int) (h : isF s n = true) : -4294967296 ≤ (x % pw n - fieldOf v s n) * pw s ∧ (x % pw n - fieldOf v s n) * pw s ≤ 4294967296 := by
  obtain ⟨hs, _, hn, _, hsn⟩ := isF_iff.1 h
  have h1 := mod_bd x n
  have h2 := field_bd v s n
  have hp := pw_pos s
  have h3 : pw n * pw s ≤ 4294967296 := by rw [← pw_add (by omega) hs, ← pw_32]; exact pw_le (by omega)
  have h4 : (x % pw n - fieldOf v s n) * pw s ≤ pw n * pw s := Int.mul_le_mul_of_nonneg_right (by omega) (by omega)
  have h5 : -pw n * pw s ≤ (x % pw n - fieldOf v s n) * pw s := Int.mul_le_mul_of_nonneg_right (by omega) (by omega)
  rw [Int.neg_mul] at h5
  omega
theorem put_div {v s n : Int} (x : Int) (hs : 0 ≤ s) (hn : 0 ≤ n) : putIn v s n x / pw (s + n) = v / pw (s + n) := by
  have h1 := low_bd (v := v) x hs hn
  rw [put_parts x hs hn, Int.add_comm, Int.add_mul_ediv_right _ _ (by have := pw_pos (s + n); omega), Int.ediv_eq_zero_of_lt h1.1 h1.2, Int.zero_add]
theorem put_field {v s n : Int} (x : Int) (hs : 0 ≤ s) (hn : 0 ≤ n) : fieldOf (putIn v s n x) s n = x % pw n := by
  have h2 := below_bd v s
  have hp := pw_pos s
  rw [put_parts x hs hn, pw_add hs hn, fieldOf]
  have e : v / (pw s * pw n) * (pw s * pw n) + (x % pw n * pw s + v % pw s) = v % pw s + (v / (pw s * pw n) * pw n + x % pw n) * pw s := by
    rw [Int.add_mul, Int.mul_assoc, Int.mul_comm (pw n) (pw s)]; omega
  rw [e, Int.add_mul_ediv_right _ _ (by omega), Int.ediv_eq_zero_of_lt h2.1 h2.2, Int.zero_add, Int.add_comm, Int.add_mul_emod_self_right, Int.emod_emod]
theorem put_below {v s n : Int} (x : Int) : putIn v s n x % pw s = v % pw s := by
  rw [putIn, Int.add_mul_emod_self_right]
/-- Put twice is put once. -/
theorem put_put {v s n : Int} (x y : Int) (hs : 0 ≤ s) (hn : 0 ≤ n) : putIn (putIn v s n x) s n y = putIn v s n y := by
  rw [put_parts y hs hn, put_div x hs hn, put_below x, put_parts y hs hn]
theorem put_same {v s n : Int} (x : Int) (h : x % pw n = fieldOf v s n) : putIn v s n x = v := by
  unfold putIn; rw [h]; simp
theorem put_mod {v s n : Int} (x y : Int) (h : x % pw n = y % pw n) : putIn v s n x = putIn v s n y := by unfold putIn; rw [h]
/-- A field above is as it was. -/
theorem put_above {v s n t m : Int} (x : Int) (hs : 0 ≤ s) (hn : 0 ≤ n) (ht : s + n ≤ t) : fieldOf (putIn v s n x) t m = fieldOf v t m := by
  have e : ∀ u : Int, u / pw t = u / pw (s + n) / pw (t - (s + n)) := fun u => by
    rw [Int.ediv_ediv_of_nonneg (by have := pw_pos (s + n); omega), ← pw_add (by omega) (by omega), show s + n + (t - (s + n)) = t by omega]
  unfold fieldOf
  rw [e, put_div x hs hn, ← e]
/-- A field below is as it was. -/
theorem put_under {v s n t m : Int} (x : Int) (ht : 0 ≤ t) (hm : 0 ≤ m) (h : t + m ≤ s) : fieldOf (putIn v s n x) t m = fieldOf v t m := by
  have e : pw s = pw (s - (t + m)) * pw m * pw t := by
    rw [← pw_add (by omega) hm, ← pw_add (by omega) ht, show s - (t + m) + m + t = s by omega]
  unfold fieldOf putIn
  rw [e, ← Int.mul_assoc, Int.add_mul_ediv_right _ _ (by have := pw_pos t; omega), ← Int.mul_assoc, Int.add_mul_emod_self_right]

/-! ## The bits -/
theorem nat_holed {v s n : Nat} (hv : v < 2 ^ 32) (h : s + n ≤ 32) : v &&& (4294967295 - (2 ^ n - 1) * 2 ^ s) = (v / 2 ^ (s + n)) * 2 ^ (s + n) ||| v % 2 ^ s := by
  have hm : (2 ^ n - 1) * 2 ^ s < 2 ^ 32 := by
    have h1 : (2 ^ n - 1) * 2 ^ s < 2 ^ n * 2 ^ s := Nat.mul_lt_mul_of_pos_right (by have := Nat.two_pow_pos n; omega) (Nat.two_pow_pos s)
    rw [← Nat.pow_add] at h1
    exact Nat.lt_of_lt_of_le h1 (Nat.pow_le_pow_right (by decide) (by omega))
  have e1 : 4294967295 - (2 ^ n - 1) * 2 ^ s = 2 ^ 32 - ((2 ^ n - 1) * 2 ^ s + 1) := by omega
  rw [e1]
  apply Nat.eq_of_testBit_eq
  intro i
  rw [Nat.testBit_and, Nat.testBit_two_pow_sub_succ hm, Nat.testBit_or, ← Nat.shiftLeft_eq, ← Nat.shiftLeft_eq, ← Nat.shiftRight_eq_div_pow, Nat.testBit_shiftLeft, Nat.testBit_shiftLeft, Nat.testBit_shiftRight, Nat.testBit_mod_two_pow, Nat.testBit_two_pow_sub_one]
  by_cases h1 : i < s
  · have a1 : ¬ s ≤ i := by omega
    have a2 : ¬ s + n ≤ i := by omega
    have a3 : i < 32 := by omega
    simp [h1, a1, a2, a3]
  · by_cases h2 : s + n ≤ i
    · have e2 : s + n + (i - (s + n)) = i := by omega
      have a1 : ¬ i - s < n := by omega
      rw [e2]
      by_cases h3 : i < 32
      · simp [h1, h2, h3, a1]
      · have : v.testBit i = false := Nat.testBit_lt_two_pow (Nat.lt_of_lt_of_le hv (Nat.pow_le_pow_right (by decide) (by omega)))
        simp [this]
    · have a1 : i - s < n := by omega
      have a2 : s ≤ i := by omega
      simp [h1, h2, a1, a2]

theorem nat_put {v s n y : Nat} (hv : v < 2 ^ 32) (h : s + n ≤ 32) (hy : y < 2 ^ n) :
    (v &&& (4294967295 - (2 ^ n - 1) * 2 ^ s)) ||| (y * 2 ^ s) = (v / 2 ^ (s + n)) * 2 ^ (s + n) + (y * 2 ^ s + v % 2 ^ s) := by
  have hl : v % 2 ^ s < 2 ^ s := Nat.mod_lt _ (Nat.two_pow_pos s)
  rw [nat_holed hv h, Nat.or_assoc, Nat.or_comm (v % 2 ^ s), nat_join s _ _ (Nat.mul_mod_left _ _) hl, nat_join (s + n) _ _ (Nat.mul_mod_left _ _) ?_]
  have h1 : y * 2 ^ s ≤ (2 ^ n - 1) * 2 ^ s := Nat.mul_le_mul_right _ (by omega)
  rw [Nat.sub_mul, ← Nat.pow_add, Nat.add_comm n s] at h1
  have h2 : 2 ^ s ≤ 2 ^ (s + n) := Nat.pow_le_pow_right (by decide) (by omega)
  omega

theorem ones_shr {n : Int} (h : 1 ≤ n ∧ n ≤ 32) : (4294967295 : Int) / 2 ^ (32 - n).toNat = pw n - 1 := by
  have e2 : pw n * pw (32 - n) = 4294967296 := by rw [← pw_add (by omega) (by omega), show n + (32 - n) = 32 by omega, pw_32]
  show 4294967295 / pw (32 - n) = pw n - 1
  have hp := pw_pos (32 - n)
  have e3 : (4294967295 : Int) = (pw (32 - n) - 1) + (pw n - 1) * pw (32 - n) := by rw [Int.sub_mul, e2]; omega
  rw [e3, Int.add_mul_ediv_right _ _ (by omega), Int.ediv_eq_zero_of_lt (by omega) (by omega), Int.zero_add]

theorem and_low {x n : Int} (hx : 0 ≤ x ∧ x < 4294967296) (hn : 0 ≤ n ∧ n ≤ 32) : bits .and .u32 x (pw n - 1) = x % pw n := by
  obtain ⟨m, rfl⟩ := Int.eq_ofNat_of_zero_le hn.1
  have := bits_mask .u32 32 (by decide) (fun k h0 h1 => by rw [IntKind.wrap_u32']; omega) m (by omega) x hx.1 (by simpa using hx.2)
  simpa [pw] using this

theorem put_bits {v s n x : Int} (h : isF s n = true) (hv : 0 ≤ v ∧ v < 4294967296) :
    bits .or .u32 (bits .andNot .u32 v ((pw n - 1) * pw s % 4294967296)) (x % pw n * pw s % 4294967296) = putIn v s n x := by
  obtain ⟨hs, hs1, hn, hn1, hsn⟩ := isF_iff.1 h
  have hn0 : 0 ≤ n := by omega
  rw [put_parts x hs hn0]
  have k1 := low_bd (v := 0) x hs hn0
  have k2 := pw_le32 hsn
  have k4 : 0 ≤ x % pw n * pw s := Int.mul_nonneg (mod_bd x n).1 (by have := pw_pos s; omega)
  have k3 : (x % pw n * pw s) % 4294967296 = x % pw n * pw s := by
    rw [Int.zero_emod, Int.add_zero] at k1; exact Int.emod_eq_of_lt k1.1 (by omega)
  have k5 : (pw n - 1) * pw s % 4294967296 = (pw n - 1) * pw s := by
    have e : (pw n - 1) * pw s = pw (s + n) - pw s := by rw [Int.sub_mul, Int.one_mul, pw_add hs hn0, Int.mul_comm]
    have := pw_pos s
    have := pw_le (show s ≤ s + n by omega)
    rw [e]; exact Int.emod_eq_of_lt (by omega) (by omega)
  rw [k3, k5]
  obtain ⟨V, rfl⟩ := Int.eq_ofNat_of_zero_le hv.1
  obtain ⟨S, rfl⟩ := Int.eq_ofNat_of_zero_le hs
  obtain ⟨N, rfl⟩ := Int.eq_ofNat_of_zero_le hn0
  obtain ⟨Y, hY⟩ := Int.eq_ofNat_of_zero_le (mod_bd x (N : Int)).1
  have hYb := (mod_bd x (N : Int)).2
  rw [hY, pw_nat] at hYb
  have hYb' : Y < 2 ^ N := by exact_mod_cast hYb
  have hV : V < 2 ^ 32 := by omega
  rw [hY, ← Int.natCast_add, pw_nat, pw_nat, pw_nat]
  have e1 : (((2 ^ N : Nat) : Int) - 1) * ((2 ^ S : Nat) : Int) = (((2 ^ N - 1) * 2 ^ S : Nat) : Int) := by
    have := Nat.two_pow_pos N
    rw [Int.natCast_mul, Int.natCast_sub this]; rfl
  have hm : (2 ^ N - 1) * 2 ^ S < 2 ^ 32 := by
    have h1 : (2 ^ N - 1) * 2 ^ S < 2 ^ N * 2 ^ S := Nat.mul_lt_mul_of_pos_right (by have := Nat.two_pow_pos N; omega) (Nat.two_pow_pos S)
    rw [← Nat.pow_add] at h1
    exact Nat.lt_of_lt_of_le h1 (Nat.pow_le_pow_right (by decide) (by omega))
  have hy : Y * 2 ^ S < 2 ^ 32 := by
    have h1 : Y * 2 ^ S < 2 ^ N * 2 ^ S := Nat.mul_lt_mul_of_pos_right hYb' (Nat.two_pow_pos S)
    rw [← Nat.pow_add] at h1
    exact Nat.lt_of_lt_of_le h1 (Nat.pow_le_pow_right (by decide) (by omega))
  rw [e1, u32_andNot_nat V _ (by omega) hm, ← Int.natCast_mul, u32_or_nat _ _ (Nat.lt_of_le_of_lt Nat.and_le_left hV) hy, nat_put hV (by omega) hYb']
  simp
theorem get_bits {v s n : Int} (h : isF s n = true) (hv : 0 ≤ v ∧ v < 4294967296) : bits .and .u32 (v / pw s) (pw n - 1) = fieldOf v s n := by
  obtain ⟨hs, hs1, hn, hn1, hsn⟩ := isF_iff.1 h
  have hp := pw_pos s
  refine and_low ⟨Int.ediv_nonneg hv.1 (by omega), Int.lt_of_le_of_lt (Int.ediv_le_self _ hv.1) hv.2⟩ ⟨by omega, hn1⟩
end Go.Proofs.Yteigkgfmmcaieaa
