/- Accesses as texts, in plain mathematics: words between blanks, digits, the text of an access. Nothing here speaks of a program. -/
import Derived.Lib.ItoaNum
namespace Go.Proofs.YtdneicbbnbbffaaDoor
open Go

abbrev Bs := List UInt8
/-- What stands between blanks. -/
def cut : Bs → List Bs
  | [] => [[]]
  | b :: l => if b = 32 then [] :: cut l else match cut l with
    | h :: t => (b :: h) :: t
    | [] => [[b]]
/-- Words, one blank between. -/
def glue : List Bs → Bs
  | [] => []
  | [x] => x
  | x :: y :: r => x ++ 32 :: glue (y :: r)
theorem cut_ne : ∀ l, cut l ≠ []
  | [] => by simp [cut]
  | b :: l => by
    unfold cut
    split
    · simp
    · split <;> simp
theorem cut_word : ∀ l : Bs, (32 : UInt8) ∉ l → cut l = [l]
  | [], _ => rfl
  | b :: l, h => by
    have h1 : ¬ b = 32 := fun e => h (by simp [e])
    have h2 : (32 : UInt8) ∉ l := fun e => h (List.mem_cons_of_mem _ e)
    rw [cut, if_neg h1, cut_word l h2]
theorem cut_more : ∀ (l r : Bs), (32 : UInt8) ∉ l → cut (l ++ 32 :: r) = l :: cut r
  | [], r, _ => by simp [cut]
  | b :: l, r, h => by
    have h1 : ¬ b = 32 := fun e => h (by simp [e])
    have h2 : (32 : UInt8) ∉ l := fun e => h (List.mem_cons_of_mem _ e)
    rw [List.cons_append, cut, if_neg h1, cut_more l r h2]
theorem glue_cons (x : Bs) {r : List Bs} (h : r ≠ []) : glue (x :: r) = x ++ 32 :: glue r := by
  cases r with
  | nil => exact absurd rfl h
  | cons y r => rfl
theorem glue_cut : ∀ l : Bs, glue (cut l) = l
  | [] => rfl
  | b :: l => by
    have ih := glue_cut l
    by_cases hb : b = 32
    · subst hb
      rw [cut, if_pos rfl, glue_cons _ (cut_ne l), ih]; rfl
    · rw [cut, if_neg hb]
      cases h : cut l with
      | nil => exact absurd h (cut_ne l)
      | cons x t =>
        rw [h] at ih
        simp only
        cases t with
        | nil => simp only [glue] at ih ⊢; rw [ih]
        | cons y r => simp only [glue] at ih ⊢; rw [← ih]; rfl
theorem cut_glue : ∀ ws : List Bs, ws ≠ [] → (∀ w ∈ ws, (32 : UInt8) ∉ w) → cut (glue ws) = ws
  | [], h, _ => absurd rfl h
  | [x], _, h => cut_word x (h x (by simp))
  | x :: y :: r, _, h => by
    rw [glue_cons x (by simp), cut_more x _ (h x (by simp)), cut_glue (y :: r) (by simp) (fun w hw => h w (List.mem_cons_of_mem _ hw))]

/-! Digits. -/
def dval (l : Bs) : Nat := l.foldl (fun v c => v * 10 + (c.toNat - 48)) 0
theorem dval_snoc (l : Bs) (c : UInt8) : dval (l ++ [c]) = dval l * 10 + (c.toNat - 48) := by simp [dval]
theorem dig_nat (d : Nat) (h : d < 10) : (UInt8.ofNat (48 + d)).toNat = 48 + d := by
  simp only [UInt8.toNat_ofNat']
  omega
theorem dval_dec (u : Nat) : dval (Lib.decDigits u) = u := by
  induction u using Nat.strongRecOn with
  | _ u ih =>
    by_cases h : u < 10
    · rw [Lib.decDigits_one h]
      simp only [dval, List.foldl_cons, List.foldl_nil, dig_nat u h]
      omega
    · rw [Lib.decDigits, dif_neg h, dval_snoc, ih (u / 10) (by omega), dig_nat _ (by omega)]
      omega
theorem dec_inj {u v : Nat} (h : Lib.decDigits u = Lib.decDigits v) : u = v := by rw [← dval_dec u, h, dval_dec v]
theorem dec_mem (u : Nat) : ∀ c ∈ Lib.decDigits u, 48 ≤ c.toNat ∧ c.toNat ≤ 57 := by
  induction u using Nat.strongRecOn with
  | _ u ih =>
    by_cases h : u < 10
    · rw [Lib.decDigits_one h]
      intro c hc
      rw [List.mem_singleton] at hc
      rw [hc, dig_nat u h]; omega
    · rw [Lib.decDigits, dif_neg h]
      intro c hc
      rw [List.mem_append] at hc
      rcases hc with hc | hc
      · exact ih (u / 10) (by omega) c hc
      · rw [List.mem_singleton] at hc
        rw [hc, dig_nat _ (by omega)]; omega
theorem dec_big {u : Nat} (h : ¬ u < 10) : Lib.decDigits u = Lib.decDigits (u / 10) ++ [UInt8.ofNat (48 + u % 10)] := by rw [Lib.decDigits, dif_neg h]
theorem nDigits_le {u k : Nat} (hk : 0 < k) (h : u < 10 ^ k) : Lib.nDigits u ≤ k := by
  induction u using Nat.strongRecOn generalizing k with
  | _ u ih =>
    by_cases h1 : u < 10
    · rw [Lib.nDigits_small h1]; omega
    · rw [Lib.nDigits_big h1]
      obtain ⟨j, rfl⟩ : ∃ j, k = j + 1 := ⟨k - 1, by omega⟩
      rw [Nat.pow_succ] at h
      have hj : 0 < j := by
        rcases Nat.eq_zero_or_pos j with rfl | hj
        · simp at h; omega
        · exact hj
      have := ih (u / 10) (by omega) hj (by omega)
      omega
theorem dec_len {u k : Nat} (hk : 0 < k) (h : u < 10 ^ k) : (Lib.decDigits u).length ≤ k := by
  rw [Lib.decDigits_length]; exact nDigits_le hk h

/-! Hexadecimal digits. -/
def hexD (d : Nat) : UInt8 := UInt8.ofNat (if d < 10 then 48 + d else 87 + d)
def hexN : Nat → Nat → Bs
  | 0, _ => []
  | n + 1, v => hexN n (v / 16) ++ [hexD (v % 16)]
def hex8 (v : Int) : Bs := hexN 8 v.toNat
def hval (c : UInt8) : Nat := if 48 ≤ c.toNat ∧ c.toNat ≤ 57 then c.toNat - 48 else if 97 ≤ c.toNat ∧ c.toNat ≤ 102 then c.toNat - 87 else 16
def hnum (l : Bs) : Nat := l.foldl (fun v c => v * 16 + hval c) 0
theorem hnum_snoc (l : Bs) (c : UInt8) : hnum (l ++ [c]) = hnum l * 16 + hval c := by simp [hnum]
theorem hexD_nat (d : Nat) (h : d < 16) : (hexD d).toNat = if d < 10 then 48 + d else 87 + d := by
  unfold hexD
  simp only [UInt8.toNat_ofNat']
  split <;> omega
theorem hval_hexD (d : Nat) (h : d < 16) : hval (hexD d) = d := by
  unfold hval
  rw [hexD_nat d h]
  by_cases h1 : d < 10
  · simp only [h1, if_true]; rw [if_pos (by omega)]; omega
  · simp only [h1, if_false]; rw [if_neg (by omega), if_pos (by omega)]; omega
theorem hexD_hval (c : UInt8) (h : hval c < 16) : hexD (hval c) = c := by
  apply UInt8.toNat_inj.1
  rw [hexD_nat _ h]
  unfold hval at h ⊢
  split at h
  · rename_i h1
    rw [if_pos h1, if_pos (by omega)]; omega
  · rename_i h1
    split at h
    · rename_i h2
      rw [if_neg h1, if_pos h2, if_neg (by omega)]; omega
    · omega
theorem hexN_len : ∀ n v, (hexN n v).length = n
  | 0, _ => rfl
  | n + 1, v => by rw [hexN, List.length_append, hexN_len n]; rfl
theorem hexN_mem : ∀ n v, ∀ c ∈ hexN n v, hval c < 16 ∧ 48 ≤ c.toNat
  | 0, _, c, h => by simp [hexN] at h
  | n + 1, v, c, h => by
    rw [hexN, List.mem_append] at h
    rcases h with h | h
    · exact hexN_mem n _ c h
    · rw [List.mem_singleton] at h
      have hd : v % 16 < 16 := by omega
      rw [h, hval_hexD _ hd, hexD_nat _ hd]
      refine ⟨hd, ?_⟩
      split <;> omega
theorem hnum_hexN : ∀ n v, v < 16 ^ n → hnum (hexN n v) = v
  | 0, v, h => by simp at h; subst h; rfl
  | n + 1, v, h => by
    rw [hexN, hnum_snoc, hnum_hexN n (v / 16) (by rw [Nat.pow_succ] at h; omega), hval_hexD _ (by omega)]
    omega
theorem snoc_of {n : Nat} {l : Bs} (h : l.length = n + 1) : ∃ r c, l = r ++ [c] ∧ r.length = n := by
  refine ⟨l.dropLast, l.getLast (by intro e; simp [e] at h), (List.dropLast_concat_getLast _).symm, by simp [h]⟩
theorem hexN_hnum : ∀ n (l : Bs), l.length = n → (∀ c ∈ l, hval c < 16) → hexN n (hnum l) = l
  | 0, l, h, _ => by
    have : l = [] := List.eq_nil_of_length_eq_zero h
    subst this; rfl
  | n + 1, l, h, hc => by
    obtain ⟨r, c, rfl, hr⟩ := snoc_of h
    have h1 : hval c < 16 := hc c (by simp)
    rw [hexN, hnum_snoc]
    rw [show (hnum r * 16 + hval c) / 16 = hnum r by omega, show (hnum r * 16 + hval c) % 16 = hval c by omega, hexN_hnum n r hr (fun d hd => hc d (by simp [hd])), hexD_hval c h1]
theorem hnum_lt : ∀ n (l : Bs), l.length = n → (∀ c ∈ l, hval c < 16) → hnum l < 16 ^ n
  | 0, l, h, _ => by
    have : l = [] := List.eq_nil_of_length_eq_zero h
    subst this; decide
  | n + 1, l, h, hc => by
    obtain ⟨r, c, rfl, hr⟩ := snoc_of h
    have h1 : hval c < 16 := hc c (by simp)
    have h2 := hnum_lt n r hr (fun d hd => hc d (by simp [hd]))
    rw [hnum_snoc, Nat.pow_succ]; omega
theorem hnum_hex8 {v : Int} (h0 : 0 ≤ v) (h : v < 4294967296) : (hnum (hex8 v) : Int) = v := by
  unfold hex8
  rw [hnum_hexN 8 _ (by omega)]; omega
theorem hex8_inj {u v : Int} (h0 : 0 ≤ u) (h1 : u < 4294967296) (h2 : 0 ≤ v) (h3 : v < 4294967296) (h : hex8 u = hex8 v) : u = v := by
  rw [← hnum_hex8 h0 h1, h, hnum_hex8 h2 h3]
theorem hex8_len (v : Int) : (hex8 v).length = 8 := hexN_len 8 _
theorem hex8_hnum {l : Bs} (h : l.length = 8) (hc : ∀ c ∈ l, hval c < 16) : hex8 (hnum l) = l := hexN_hnum 8 l h hc
theorem hnum_lt8 {l : Bs} (h : l.length = 8) (hc : ∀ c ∈ l, hval c < 16) : hnum l < 4294967296 := hnum_lt 8 l h hc

theorem hexN_front : ∀ n v, hexN (n + 1) v = hexD (v / 16 ^ n % 16) :: hexN n v
  | 0, v => by simp [hexN]
  | n + 1, v => by
    rw [hexN, hexN_front n (v / 16), Nat.div_div_eq_div_mul, List.cons_append, show hexN n (v / 16) ++ [hexD (v % 16)] = hexN (n + 1) v from rfl]
    rw [show 16 * 16 ^ n = 16 ^ (n + 1) by rw [Nat.pow_succ, Nat.mul_comm]]
/-- Words, w ahead of the first one. -/
def ahead (w : Bs) : List Bs → List Bs
  | h :: t => (w ++ h) :: t
  | [] => [w]
theorem ahead_nil (l : Bs) : ahead [] (cut l) = cut l := by
  cases h : cut l with
  | nil => exact absurd h (cut_ne l)
  | cons x t => rfl
theorem ahead_blank (w l : Bs) : ahead w (cut (32 :: l)) = [w] ++ cut l := by
  rw [cut, if_pos rfl]; simp [ahead]
theorem ahead_more (w : Bs) {c : UInt8} (l : Bs) (h : c ≠ 32) : ahead w (cut (c :: l)) = ahead (w ++ [c]) (cut l) := by
  rw [cut, if_neg h]
  cases hc : cut l with
  | nil => exact absurd hc (cut_ne l)
  | cons x t => simp [ahead]
theorem ahead_end (w : Bs) : ahead w (cut []) = [w] := by simp [cut, ahead]

/-! The digits without zeros ahead. -/
def hexMin (u : Nat) : Bs := if h : u < 16 then [hexD u] else hexMin (u / 16) ++ [hexD (u % 16)]
termination_by u
decreasing_by omega
theorem hexMin_one {u : Nat} (h : u < 16) : hexMin u = [hexD u] := by rw [hexMin, dif_pos h]
theorem hexMin_more {u : Nat} (h : ¬ u < 16) : hexMin u = hexMin (u / 16) ++ [hexD (u % 16)] := by rw [hexMin, dif_neg h]
theorem hexMin_pos (u : Nat) : 1 ≤ (hexMin u).length := by
  by_cases h : u < 16
  · rw [hexMin_one h]; exact Nat.le_refl _
  · rw [hexMin_more h, List.length_append]; simp
theorem hexN_zero : ∀ n, hexN n 0 = List.replicate n 48
  | 0 => rfl
  | n + 1 => by rw [hexN, Nat.zero_div, hexN_zero n, List.replicate_succ']; rfl
theorem hexN_min : ∀ n v, 0 < n → v < 16 ^ n → (hexMin v).length ≤ n ∧ hexN n v = List.replicate (n - (hexMin v).length) 48 ++ hexMin v
  | 0, v, h, _ => absurd h (by omega)
  | n + 1, v, _, h => by
    by_cases hv : v < 16
    · rw [hexMin_one hv, hexN, Nat.div_eq_of_lt hv, Nat.mod_eq_of_lt hv, hexN_zero]
      exact ⟨by simp, by simp⟩
    · have hn : 0 < n := by
        rcases Nat.eq_zero_or_pos n with rfl | h0
        · simp at h; omega
        · exact h0
      obtain ⟨h1, h2⟩ := hexN_min n (v / 16) hn (by rw [Nat.pow_succ] at h; omega)
      rw [hexMin_more hv, hexN, h2, List.length_append]
      refine ⟨by simp; omega, ?_⟩
      rw [List.length_singleton, show n + 1 - ((hexMin (v / 16)).length + 1) = n - (hexMin (v / 16)).length by omega, List.append_assoc]
theorem hex8_min {v : Nat} (h : v < 4294967296) : (hexMin v).length ≤ 8 ∧ hex8 v = List.replicate (8 - (hexMin v).length) 48 ++ hexMin v := by
  unfold hex8
  exact hexN_min 8 _ (by omega) (by simpa using h)

/-! Accesses. -/
structure Acc where
  k : Int
  c : Int
  x : Int
  y : Int
  o : Int
theorem Acc.ext_ {a b : Acc} (h1 : a.k = b.k) (h2 : a.c = b.c) (h3 : a.x = b.x) (h4 : a.y = b.y) (h5 : a.o = b.o) : a = b := by
  cases a; cases b; simp_all
/-- Each number is one of its kind. -/
structure Acc.Fits (a : Acc) : Prop where
  k0 : -9223372036854775808 ≤ a.k
  k1 : a.k < 9223372036854775808
  c0 : -9223372036854775808 ≤ a.c
  c1 : a.c < 9223372036854775808
  x0 : 0 ≤ a.x
  x1 : a.x < 4294967296
  y0 : 0 ≤ a.y
  y1 : a.y < 4294967296
  o0 : 0 ≤ a.o
  o1 : a.o < 4294967296
/-- It is right. -/
structure Acc.Right (a : Acc) : Prop where
  k1 : 1 ≤ a.k
  k5 : a.k ≤ 5
  c0 : 0 ≤ a.c
  c1 : a.c ≤ 1023
  x : a.k = 1 → a.x = 0
  y : a.k ≠ 5 → a.y = 0
instance (a : Acc) : Decidable a.Right := decidable_of_iff (1 ≤ a.k ∧ a.k ≤ 5 ∧ 0 ≤ a.c ∧ a.c ≤ 1023 ∧ (a.k = 1 → a.x = 0) ∧ (a.k ≠ 5 → a.y = 0))
  ⟨fun ⟨h1, h2, h3, h4, h5, h6⟩ => ⟨h1, h2, h3, h4, h5, h6⟩, fun h => ⟨h.k1, h.k5, h.c0, h.c1, h.x, h.y⟩⟩
def wordL (k : Int) : Bs := if k = 1 then [108, 111, 97, 100] else if k = 2 then [115, 116, 111, 114, 101] else if k = 3 then [97, 100, 100] else if k = 4 then [115, 119, 97, 112] else if k = 5 then [99, 97, 115] else []
def wasL : Bs := [119, 97, 115]
def decL (c : Int) : Bs := Lib.decDigits c.toNat
def partsL (a : Acc) : List Bs :=
  if a.k = 1 then [wordL a.k, decL a.c, wasL, hex8 a.o] else if a.k = 5 then [wordL a.k, decL a.c, hex8 a.x, hex8 a.y, wasL, hex8 a.o] else [wordL a.k, decL a.c, hex8 a.x, wasL, hex8 a.o]
def textL (a : Acc) : Bs := glue (partsL a)
theorem kinds {k : Int} (h1 : 1 ≤ k) (h5 : k ≤ 5) : k = 1 ∨ k = 2 ∨ k = 3 ∨ k = 4 ∨ k = 5 := by omega
theorem word_inj {k j : Int} (h1 : 1 ≤ k) (h5 : k ≤ 5) (h2 : 1 ≤ j) (h6 : j ≤ 5) (h : wordL k = wordL j) : k = j := by
  rcases kinds h1 h5 with rfl | rfl | rfl | rfl | rfl <;> rcases kinds h2 h6 with rfl | rfl | rfl | rfl | rfl <;> first | rfl | (revert h; decide)
theorem word_blank (k : Int) : (32 : UInt8) ∉ wordL k := by
  unfold wordL
  split
  · decide
  · split
    · decide
    · split
      · decide
      · split
        · decide
        · split <;> decide
theorem dec_blank (u : Nat) : (32 : UInt8) ∉ Lib.decDigits u := fun h => by
  have h1 := (dec_mem u _ h).1
  have h2 : (32 : UInt8).toNat = 32 := rfl
  omega
theorem hex8_blank (v : Int) : (32 : UInt8) ∉ hex8 v := fun h => by
  have h1 := (hexN_mem 8 _ _ h).2
  have h2 : (32 : UInt8).toNat = 32 := rfl
  omega
theorem parts_blank (a : Acc) : ∀ w ∈ partsL a, (32 : UInt8) ∉ w := by
  have h1 := word_blank a.k
  have h2 := dec_blank a.c.toNat
  have h3 := hex8_blank a.x
  have h4 := hex8_blank a.y
  have h5 := hex8_blank a.o
  have h6 : (32 : UInt8) ∉ wasL := by decide
  unfold partsL decL
  split
  · simp only [List.forall_mem_cons]; exact ⟨h1, h2, h6, h5, by simp⟩
  · split
    · simp only [List.forall_mem_cons]; exact ⟨h1, h2, h3, h4, h6, h5, by simp⟩
    · simp only [List.forall_mem_cons]; exact ⟨h1, h2, h3, h6, h5, by simp⟩
theorem parts_ne (a : Acc) : partsL a ≠ [] := by
  unfold partsL
  split
  · simp
  · split <;> simp
theorem cut_text (a : Acc) : cut (textL a) = partsL a := cut_glue _ (parts_ne a) (parts_blank a)
theorem parts_head (a : Acc) : (partsL a)[0]? = some (wordL a.k) := by
  unfold partsL
  split
  · rfl
  · split <;> rfl
theorem parts_inj {a b : Acc} (fa : a.Fits) (fb : b.Fits) (ra : a.Right) (rb : b.Right) (h : partsL a = partsL b) : a = b := by
  have h0 : a.k = b.k := by
    have e := congrArg (·[0]?) h
    simp only [parts_head, Option.some.injEq] at e
    exact word_inj ra.k1 ra.k5 rb.k1 rb.k5 e
  have hd : ∀ {u v : Int}, 0 ≤ u → 0 ≤ v → decL u = decL v → u = v := fun h1 h2 h => by
    have := dec_inj h
    omega
  unfold partsL at h
  rw [← h0] at h
  by_cases h1 : a.k = 1
  · rw [if_pos h1, if_pos h1] at h
    simp only [List.cons.injEq, and_true, true_and] at h
    exact Acc.ext_ h0 (hd ra.c0 rb.c0 h.1) ((ra.x h1).trans (rb.x (h0 ▸ h1)).symm) ((ra.y (by omega)).trans (rb.y (by omega)).symm) (hex8_inj fa.o0 fa.o1 fb.o0 fb.o1 h.2)
  · rw [if_neg h1, if_neg h1] at h
    by_cases h5 : a.k = 5
    · rw [if_pos h5, if_pos h5] at h
      simp only [List.cons.injEq, and_true, true_and] at h
      exact Acc.ext_ h0 (hd ra.c0 rb.c0 h.1) (hex8_inj fa.x0 fa.x1 fb.x0 fb.x1 h.2.1) (hex8_inj fa.y0 fa.y1 fb.y0 fb.y1 h.2.2.1) (hex8_inj fa.o0 fa.o1 fb.o0 fb.o1 h.2.2.2)
    · rw [if_neg h5, if_neg h5] at h
      simp only [List.cons.injEq, and_true, true_and] at h
      exact Acc.ext_ h0 (hd ra.c0 rb.c0 h.1) (hex8_inj fa.x0 fa.x1 fb.x0 fb.x1 h.2.1) ((ra.y h5).trans (rb.y (by omega)).symm) (hex8_inj fa.o0 fa.o1 fb.o0 fb.o1 h.2.2)
theorem text_inj {a b : Acc} (fa : a.Fits) (fb : b.Fits) (ra : a.Right) (rb : b.Right) (h : textL a = textL b) : a = b :=
  parts_inj fa fb ra rb (by rw [← cut_text, ← cut_text, h])
/-- The right access whose text is s. -/
def Has (s : Bs) (a : Acc) : Prop := a.Fits ∧ a.Right ∧ cut s = partsL a
open Classical in
noncomputable def parseL (s : Bs) : Option Acc := if h : ∃ a, Has s a then some h.choose else none
theorem Has.inj {s : Bs} {a b : Acc} (h : Has s a) (k : Has s b) : a = b := parts_inj h.1 k.1 h.2.1 k.2.1 (h.2.2.symm.trans k.2.2)
theorem Has.text {s : Bs} {a : Acc} (h : Has s a) : textL a = s := by rw [textL, ← h.2.2, glue_cut]
theorem has_text {a : Acc} (f : a.Fits) (r : a.Right) : Has (textL a) a := ⟨f, r, cut_text a⟩
theorem parse_some {s : Bs} {a : Acc} (h : Has s a) : parseL s = some a := by
  have he : ∃ a, Has s a := ⟨a, h⟩
  unfold parseL
  rw [dif_pos he, he.choose_spec.inj h]
theorem parse_none {s : Bs} (h : ∀ a, ¬ Has s a) : parseL s = none := by
  unfold parseL
  rw [dif_neg (fun ⟨a, ha⟩ => h a ha)]
theorem text_ne {a : Acc} (r : a.Right) : textL a ≠ [] := fun h => by
  have e := cut_text a
  rw [h] at e
  have hh := parts_head a
  rw [← e] at hh
  simp only [cut, List.getElem?_cons_zero, Option.some.injEq] at hh
  rcases kinds r.k1 r.k5 with h | h | h | h | h <;> rw [h] at hh <;> revert hh <;> decide
end Go.Proofs.YtdneicbbnbbffaaDoor
