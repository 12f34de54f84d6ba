/- AccM, Kit, NoteNt, NoteM, RecM. -/
import Derived.Lib.ItoaNum
import Derived.WalkKit
import Derived.ProofKit
import Derived.Handy
import Derived.Outline
import Derived.Deep.QuietTactic
import Derived.BigQuiet
import Derived.BigRegion
import Derived.WalkLawsBesides
import Derived.Lib.Hide
import Derived.Deep.Draws
import Derived.WalkSpells
/- Accesses as texts, in plain mathematics: words between blanks, digits, the text of an access. Nothing here speaks of a program. -/
set_option linter.unusedVariables false
namespace Go.Proofs.YtigdbokfapedcaaGreat
open Go

abbrev Bs := List UInt8
/-- What stands between blanks. -/
def cut : Bs → List Bs
  | [] => [[]]
  | b :: l => if b = 32 then [] :: cut l else match cut l with
    | h :: t => (b :: h) :: t
    | [] => [[b]]
/-- Words, one blank between. -/
def glue : List Bs → Bs
  | [] => []
  | [x] => x
  | x :: y :: r => x ++ 32 :: glue (y :: r)
theorem cut_ne : ∀ l, cut l ≠ []
  | [] => by simp [cut]
  | b :: l => by
    unfold cut
    split
    · simp
    · split <;> simp
theorem cut_word : ∀ l : Bs, (32 : UInt8) ∉ l → cut l = [l]
  | [], _ => rfl
  | b :: l, h => by
    have h1 : ¬ b = 32 := fun e => h (by simp [e])
    have h2 : (32 : UInt8) ∉ l := fun e => h (List.mem_cons_of_mem _ e)
    rw [cut, if_neg h1, cut_word l h2]
theorem cut_more : ∀ (l r : Bs), (32 : UInt8) ∉ l → cut (l ++ 32 :: r) = l :: cut r
  | [], r, _ => by simp [cut]
  | b :: l, r, h => by
    have h1 : ¬ b = 32 := fun e => h (by simp [e])
    have h2 : (32 : UInt8) ∉ l := fun e => h (List.mem_cons_of_mem _ e)
    rw [List.cons_append, cut, if_neg h1, cut_more l r h2]
theorem glue_cons (x : Bs) {r : List Bs} (h : r ≠ []) : glue (x :: r) = x ++ 32 :: glue r := by
  cases r with
  | nil => exact absurd rfl h
  | cons y r => rfl
theorem glue_cut : ∀ l : Bs, glue (cut l) = l
  | [] => rfl
  | b :: l => by
    have ih := glue_cut l
    by_cases hb : b = 32
    · subst hb
      rw [cut, if_pos rfl, glue_cons _ (cut_ne l), ih]; rfl
    · rw [cut, if_neg hb]
      cases h : cut l with
      | nil => exact absurd h (cut_ne l)
      | cons x t =>
        rw [h] at ih
        simp only
        cases t with
        | nil => simp only [glue] at ih ⊢; rw [ih]
        | cons y r => simp only [glue] at ih ⊢; rw [← ih]; rfl
theorem cut_glue : ∀ ws : List Bs, ws ≠ [] → (∀ w ∈ ws, (32 : UInt8) ∉ w) → cut (glue ws) = ws
  | [], h, _ => absurd rfl h
  | [x], _, h => cut_word x (h x (by simp))
  | x :: y :: r, _, h => by
    rw [glue_cons x (by simp), cut_more x _ (h x (by simp)), cut_glue (y :: r) (by simp) (fun w hw => h w (List.mem_cons_of_mem _ hw))]

/-! Digits. -/
def dval (l : Bs) : Nat := l.foldl (fun v c => v * 10 + (c.toNat - 48)) 0
theorem dval_snoc (l : Bs) (c : UInt8) : dval (l ++ [c]) = dval l * 10 + (c.toNat - 48) := by simp [dval]
theorem dig_nat (d : Nat) (h : d < 10) : (UInt8.ofNat (48 + d)).toNat = 48 + d := by
  simp only [UInt8.toNat_ofNat']
  omega
theorem dval_dec (u : Nat) : dval (Lib.decDigits u) = u := by
  induction u using Nat.strongRecOn with
  | _ u ih =>
    by_cases h : u < 10
    · rw [Lib.decDigits_one h]
      simp only [dval, List.foldl_cons, List.foldl_nil, dig_nat u h]
      omega
    · rw [Lib.decDigits, dif_neg h, dval_snoc, ih (u / 10) (by omega), dig_nat _ (by omega)]
      omega
theorem dec_inj {u v : Nat} (h : Lib.decDigits u = Lib.decDigits v) : u = v := by rw [← dval_dec u, h, dval_dec v]
theorem dec_mem (u : Nat) : ∀ c ∈ Lib.decDigits u, 48 ≤ c.toNat ∧ c.toNat ≤ 57 := by
  induction u using Nat.strongRecOn with
  | _ u ih =>
    by_cases h : u < 10
    · rw [Lib.decDigits_one h]
      intro c hc
      rw [List.mem_singleton] at hc
      rw [hc, dig_nat u h]; omega
    · rw [Lib.decDigits, dif_neg h]
      intro c hc
      rw [List.mem_append] at hc
      rcases hc with hc | hc
      · exact ih (u / 10) (by omega) c hc
      · rw [List.mem_singleton] at hc
        rw [hc, dig_nat _ (by omega)]; omega
theorem dec_big {u : Nat} (h : ¬ u < 10) : Lib.decDigits u = Lib.decDigits (u / 10) ++ [UInt8.ofNat (48 + u % 10)] := by rw [Lib.decDigits, dif_neg h]
theorem nDigits_le {u k : Nat} (hk : 0 < k) (h : u < 10 ^ k) : Lib.nDigits u ≤ k := by
  induction u using Nat.strongRecOn generalizing k with
  | _ u ih =>
    by_cases h1 : u < 10
    · rw [Lib.nDigits_small h1]; omega
    · rw [Lib.nDigits_big h1]
      obtain ⟨j, rfl⟩ : ∃ j, k = j + 1 := ⟨k - 1, by omega⟩
      rw [Nat.pow_succ] at h
      have hj : 0 < j := by
        rcases Nat.eq_zero_or_pos j with rfl | hj
        · simp at h; omega
        · exact hj
      have := ih (u / 10) (by omega) hj (by omega)
      omega
theorem dec_len {u k : Nat} (hk : 0 < k) (h : u < 10 ^ k) : (Lib.decDigits u).length ≤ k := by
  rw [Lib.decDigits_length]; exact nDigits_le hk h

/-! Hexadecimal digits. -/
def hexD (d : Nat) : UInt8 := UInt8.ofNat (if d < 10 then 48 + d else 87 + d)
def hexN : Nat → Nat → Bs
  | 0, _ => []
  | n + 1, v => hexN n (v / 16) ++ [hexD (v % 16)]
def hex8 (v : Int) : Bs := hexN 8 v.toNat
def hval (c : UInt8) : Nat := if 48 ≤ c.toNat ∧ c.toNat ≤ 57 then c.toNat - 48 else if 97 ≤ c.toNat ∧ c.toNat ≤ 102 then c.toNat - 87 else 16
def hnum (l : Bs) : Nat := l.foldl (fun v c => v * 16 + hval c) 0
theorem hnum_snoc (l : Bs) (c : UInt8) : hnum (l ++ [c]) = hnum l * 16 + hval c := by simp [hnum]
theorem hexD_nat (d : Nat) (h : d < 16) : (hexD d).toNat = if d < 10 then 48 + d else 87 + d := by
  unfold hexD
  simp only [UInt8.toNat_ofNat']
  split <;> omega
theorem hval_hexD (d : Nat) (h : d < 16) : hval (hexD d) = d := by
  unfold hval
  rw [hexD_nat d h]
  by_cases h1 : d < 10
  · simp only [h1, if_true]; rw [if_pos (by omega)]; omega
  · simp only [h1, if_false]; rw [if_neg (by omega), if_pos (by omega)]; omega
theorem hexD_hval (c : UInt8) (h : hval c < 16) : hexD (hval c) = c := by
  apply UInt8.toNat_inj.1
  rw [hexD_nat _ h]
  unfold hval at h ⊢
  split at h
  · rename_i h1
    rw [if_pos h1, if_pos (by omega)]; omega
  · rename_i h1
    split at h
    · rename_i h2
      rw [if_neg h1, if_pos h2, if_neg (by omega)]; omega
    · omega
theorem hexN_len : ∀ n v, (hexN n v).length = n
  | 0, _ => rfl
  | n + 1, v => by rw [hexN, List.length_append, hexN_len n]; rfl
theorem hexN_mem : ∀ n v, ∀ c ∈ hexN n v, hval c < 16 ∧ 48 ≤ c.toNat
  | 0, _, c, h => by simp [hexN] at h
  | n + 1, v, c, h => by
    rw [hexN, List.mem_append] at h
    rcases h with h | h
    · exact hexN_mem n _ c h
    · rw [List.mem_singleton] at h
      have hd : v % 16 < 16 := by omega
      rw [h, hval_hexD _ hd, hexD_nat _ hd]
      refine ⟨hd, ?_⟩
      split <;> omega
theorem hnum_hexN : ∀ n v, v < 16 ^ n → hnum (hexN n v) = v
  | 0, v, h => by simp at h; subst h; rfl
  | n + 1, v, h => by
    rw [hexN, hnum_snoc, hnum_hexN n (v / 16) (by rw [Nat.pow_succ] at h; omega), hval_hexD _ (by omega)]
    omega
theorem snoc_of {n : Nat} {l : Bs} (h : l.length = n + 1) : ∃ r c, l = r ++ [c] ∧ r.length = n := by
  refine ⟨l.dropLast, l.getLast (by intro e; simp [e] at h), (List.dropLast_concat_getLast _).symm, by simp [h]⟩
theorem hexN_hnum : ∀ n (l : Bs), l.length = n → (∀ c ∈ l, hval c < 16) → hexN n (hnum l) = l
  | 0, l, h, _ => by
    have : l = [] := List.eq_nil_of_length_eq_zero h
    subst this; rfl
  | n + 1, l, h, hc => by
    obtain ⟨r, c, rfl, hr⟩ := snoc_of h
    have h1 : hval c < 16 := hc c (by simp)
    rw [hexN, hnum_snoc]
    rw [show (hnum r * 16 + hval c) / 16 = hnum r by omega, show (hnum r * 16 + hval c) % 16 = hval c by omega, hexN_hnum n r hr (fun d hd => hc d (by simp [hd])), hexD_hval c h1]
theorem hnum_lt : ∀ n (l : Bs), l.length = n → (∀ c ∈ l, hval c < 16) → hnum l < 16 ^ n
  | 0, l, h, _ => by
    have : l = [] := List.eq_nil_of_length_eq_zero h
    subst this; decide
  | n + 1, l, h, hc => by
    obtain ⟨r, c, rfl, hr⟩ := snoc_of h
    have h1 : hval c < 16 := hc c (by simp)
    have h2 := hnum_lt n r hr (fun d hd => hc d (by simp [hd]))
    rw [hnum_snoc, Nat.pow_succ]; omega
theorem hnum_hex8 {v : Int} (h0 : 0 ≤ v) (h : v < 4294967296) : (hnum (hex8 v) : Int) = v := by
  unfold hex8
  rw [hnum_hexN 8 _ (by omega)]; omega
theorem hex8_inj {u v : Int} (h0 : 0 ≤ u) (h1 : u < 4294967296) (h2 : 0 ≤ v) (h3 : v < 4294967296) (h : hex8 u = hex8 v) : u = v := by
  rw [← hnum_hex8 h0 h1, h, hnum_hex8 h2 h3]
theorem hex8_len (v : Int) : (hex8 v).length = 8 := hexN_len 8 _
theorem hex8_hnum {l : Bs} (h : l.length = 8) (hc : ∀ c ∈ l, hval c < 16) : hex8 (hnum l) = l := hexN_hnum 8 l h hc
theorem hnum_lt8 {l : Bs} (h : l.length = 8) (hc : ∀ c ∈ l, hval c < 16) : hnum l < 4294967296 := hnum_lt 8 l h hc

theorem hexN_front : ∀ n v, hexN (n + 1) v = hexD (v / 16 ^ n % 16) :: hexN n v
  | 0, v => by simp [hexN]
  | n + 1, v => by
    rw [hexN, hexN_front n (v / 16), Nat.div_div_eq_div_mul, List.cons_append, show hexN n (v / 16) ++ [hexD (v % 16)] = hexN (n + 1) v from rfl]
    rw [show 16 * 16 ^ n = 16 ^ (n + 1) by rw [Nat.pow_succ, Nat.mul_comm]]
/-- Words, w ahead of the first one. -/
def ahead (w : Bs) : List Bs → List Bs
  | h :: t => (w ++ h) :: t
  | [] => [w]
theorem ahead_nil (l : Bs) : ahead [] (cut l) = cut l := by
  cases h : cut l with
  | nil => exact absurd h (cut_ne l)
  | cons x t => rfl
theorem ahead_blank (w l : Bs) : ahead w (cut (32 :: l)) = [w] ++ cut l := by
  rw [cut, if_pos rfl]; simp [ahead]
theorem ahead_more (w : Bs) {c : UInt8} (l : Bs) (h : c ≠ 32) : ahead w (cut (c :: l)) = ahead (w ++ [c]) (cut l) := by
  rw [cut, if_neg h]
  cases hc : cut l with
  | nil => exact absurd hc (cut_ne l)
  | cons x t => simp [ahead]
theorem ahead_end (w : Bs) : ahead w (cut []) = [w] := by simp [cut, ahead]

/-! The digits without zeros ahead. -/
def hexMin (u : Nat) : Bs := if h : u < 16 then [hexD u] else hexMin (u / 16) ++ [hexD (u % 16)]
termination_by u
decreasing_by omega
theorem hexMin_one {u : Nat} (h : u < 16) : hexMin u = [hexD u] := by rw [hexMin, dif_pos h]
theorem hexMin_more {u : Nat} (h : ¬ u < 16) : hexMin u = hexMin (u / 16) ++ [hexD (u % 16)] := by rw [hexMin, dif_neg h]
theorem hexMin_pos (u : Nat) : 1 ≤ (hexMin u).length := by
  by_cases h : u < 16
  · rw [hexMin_one h]; exact Nat.le_refl _
  · rw [hexMin_more h, List.length_append]; simp
theorem hexN_zero : ∀ n, hexN n 0 = List.replicate n 48
  | 0 => rfl
  | n + 1 => by rw [hexN, Nat.zero_div, hexN_zero n, List.replicate_succ']; rfl
theorem hexN_min : ∀ n v, 0 < n → v < 16 ^ n → (hexMin v).length ≤ n ∧ hexN n v = List.replicate (n - (hexMin v).length) 48 ++ hexMin v
  | 0, v, h, _ => absurd h (by omega)
  | n + 1, v, _, h => by
    by_cases hv : v < 16
    · rw [hexMin_one hv, hexN, Nat.div_eq_of_lt hv, Nat.mod_eq_of_lt hv, hexN_zero]
      exact ⟨by simp, by simp⟩
    · have hn : 0 < n := by
        rcases Nat.eq_zero_or_pos n with rfl | h0
        · simp at h; omega
        · exact h0
      obtain ⟨h1, h2⟩ := hexN_min n (v / 16) hn (by rw [Nat.pow_succ] at h; omega)
      rw [hexMin_more hv, hexN, h2, List.length_append]
      refine ⟨by simp; omega, ?_⟩
      rw [List.length_singleton, show n + 1 - ((hexMin (v / 16)).length + 1) = n - (hexMin (v / 16)).length by omega, List.append_assoc]
theorem hex8_min {v : Nat} (h : v < 4294967296) : (hexMin v).length ≤ 8 ∧ hex8 v = List.replicate (8 - (hexMin v).length) 48 ++ hexMin v := by
  unfold hex8
  exact hexN_min 8 _ (by omega) (by simpa using h)

/-! Accesses. -/
structure Acc where
  k : Int
  c : Int
  x : Int
  y : Int
  o : Int
theorem Acc.ext_ {a b : Acc} (h1 : a.k = b.k) (h2 : a.c = b.c) (h3 : a.x = b.x) (h4 : a.y = b.y) (h5 : a.o = b.o) : a = b := by
  cases a; cases b; simp_all
/-- Each number is one of its kind. -/
structure Acc.Fits (a : Acc) : Prop where
  k0 : -9223372036854775808 ≤ a.k
  k1 : a.k < 9223372036854775808
  c0 : -9223372036854775808 ≤ a.c
  c1 : a.c < 9223372036854775808
  x0 : 0 ≤ a.x
  x1 : a.x < 4294967296
  y0 : 0 ≤ a.y
  y1 : a.y < 4294967296
  o0 : 0 ≤ a.o
  o1 : a.o < 4294967296
/-- It is right. -/
structure Acc.Right (a : Acc) : Prop where
  k1 : 1 ≤ a.k
  k5 : a.k ≤ 5
  c0 : 0 ≤ a.c
  c1 : a.c ≤ 1023
  x : a.k = 1 → a.x = 0
  y : a.k ≠ 5 → a.y = 0
instance (a : Acc) : Decidable a.Right := decidable_of_iff (1 ≤ a.k ∧ a.k ≤ 5 ∧ 0 ≤ a.c ∧ a.c ≤ 1023 ∧ (a.k = 1 → a.x = 0) ∧ (a.k ≠ 5 → a.y = 0))
  ⟨fun ⟨h1, h2, h3, h4, h5, h6⟩ => ⟨h1, h2, h3, h4, h5, h6⟩, fun h => ⟨h.k1, h.k5, h.c0, h.c1, h.x, h.y⟩⟩
def wordL (k : Int) : Bs := if k = 1 then [108, 111, 97, 100] else if k = 2 then [115, 116, 111, 114, 101] else if k = 3 then [97, 100, 100] else if k = 4 then [115, 119, 97, 112] else if k = 5 then [99, 97, 115] else []
def wasL : Bs := [119, 97, 115]
def decL (c : Int) : Bs := Lib.decDigits c.toNat
def partsL (a : Acc) : List Bs :=
  if a.k = 1 then [wordL a.k, decL a.c, wasL, hex8 a.o] else if a.k = 5 then [wordL a.k, decL a.c, hex8 a.x, hex8 a.y, wasL, hex8 a.o] else [wordL a.k, decL a.c, hex8 a.x, wasL, hex8 a.o]
def textL (a : Acc) : Bs := glue (partsL a)
theorem kinds5 {k : Int} (h1 : 1 ≤ k) (h5 : k ≤ 5) : k = 1 ∨ k = 2 ∨ k = 3 ∨ k = 4 ∨ k = 5 := by omega
theorem word_inj {k j : Int} (h1 : 1 ≤ k) (h5 : k ≤ 5) (h2 : 1 ≤ j) (h6 : j ≤ 5) (h : wordL k = wordL j) : k = j := by
  rcases kinds5 h1 h5 with rfl | rfl | rfl | rfl | rfl <;> rcases kinds5 h2 h6 with rfl | rfl | rfl | rfl | rfl <;> first | rfl | (revert h; decide)
theorem word_blank (k : Int) : (32 : UInt8) ∉ wordL k := by
  unfold wordL
  split
  · decide
  · split
    · decide
    · split
      · decide
      · split
        · decide
        · split <;> decide
theorem dec_blank (u : Nat) : (32 : UInt8) ∉ Lib.decDigits u := fun h => by
  have h1 := (dec_mem u _ h).1
  have h2 : (32 : UInt8).toNat = 32 := rfl
  omega
theorem hex8_blank (v : Int) : (32 : UInt8) ∉ hex8 v := fun h => by
  have h1 := (hexN_mem 8 _ _ h).2
  have h2 : (32 : UInt8).toNat = 32 := rfl
  omega
theorem parts_blank (a : Acc) : ∀ w ∈ partsL a, (32 : UInt8) ∉ w := by
  have h1 := word_blank a.k
  have h2 := dec_blank a.c.toNat
  have h3 := hex8_blank a.x
  have h4 := hex8_blank a.y
  have h5 := hex8_blank a.o
  have h6 : (32 : UInt8) ∉ wasL := by decide
  unfold partsL decL
  split
  · simp only [List.forall_mem_cons]; exact ⟨h1, h2, h6, h5, by simp⟩
  · split
    · simp only [List.forall_mem_cons]; exact ⟨h1, h2, h3, h4, h6, h5, by simp⟩
    · simp only [List.forall_mem_cons]; exact ⟨h1, h2, h3, h6, h5, by simp⟩
theorem parts_ne (a : Acc) : partsL a ≠ [] := by
  unfold partsL
  split
  · simp
  · split <;> simp
theorem cut_text (a : Acc) : cut (textL a) = partsL a := cut_glue _ (parts_ne a) (parts_blank a)
theorem parts_head (a : Acc) : (partsL a)[0]? = some (wordL a.k) := by
  unfold partsL
  split
  · rfl
  · split <;> rfl
theorem parts_inj {a b : Acc} (fa : a.Fits) (fb : b.Fits) (ra : a.Right) (rb : b.Right) (h : partsL a = partsL b) : a = b := by
  have h0 : a.k = b.k := by
    have e := congrArg (·[0]?) h
    simp only [parts_head, Option.some.injEq] at e
    exact word_inj ra.k1 ra.k5 rb.k1 rb.k5 e
  have hd : ∀ {u v : Int}, 0 ≤ u → 0 ≤ v → decL u = decL v → u = v := fun h1 h2 h => by
    have := dec_inj h
    omega
  unfold partsL at h
  rw [← h0] at h
  by_cases h1 : a.k = 1
  · rw [if_pos h1, if_pos h1] at h
    simp only [List.cons.injEq, and_true, true_and] at h
    exact Acc.ext_ h0 (hd ra.c0 rb.c0 h.1) ((ra.x h1).trans (rb.x (h0 ▸ h1)).symm) ((ra.y (by omega)).trans (rb.y (by omega)).symm) (hex8_inj fa.o0 fa.o1 fb.o0 fb.o1 h.2)
  · rw [if_neg h1, if_neg h1] at h
    by_cases h5 : a.k = 5
    · rw [if_pos h5, if_pos h5] at h
      simp only [List.cons.injEq, and_true, true_and] at h
      exact Acc.ext_ h0 (hd ra.c0 rb.c0 h.1) (hex8_inj fa.x0 fa.x1 fb.x0 fb.x1 h.2.1) (hex8_inj fa.y0 fa.y1 fb.y0 fb.y1 h.2.2.1) (hex8_inj fa.o0 fa.o1 fb.o0 fb.o1 h.2.2.2)
    · rw [if_neg h5, if_neg h5] at h
      simp only [List.cons.injEq, and_true, true_and] at h
      exact Acc.ext_ h0 (hd ra.c0 rb.c0 h.1) (hex8_inj fa.x0 fa.x1 fb.x0 fb.x1 h.2.1) ((ra.y h5).trans (rb.y (by omega)).symm) (hex8_inj fa.o0 fa.o1 fb.o0 fb.o1 h.2.2)
theorem text_inj {a b : Acc} (fa : a.Fits) (fb : b.Fits) (ra : a.Right) (rb : b.Right) (h : textL a = textL b) : a = b :=
  parts_inj fa fb ra rb (by rw [← cut_text, ← cut_text, h])
/-- The right access whose text is s. -/
def Has (s : Bs) (a : Acc) : Prop := a.Fits ∧ a.Right ∧ cut s = partsL a
open Classical in
noncomputable def parseL (s : Bs) : Option Acc := if h : ∃ a, Has s a then some h.choose else none
theorem Has.inj {s : Bs} {a b : Acc} (h : Has s a) (k : Has s b) : a = b := parts_inj h.1 k.1 h.2.1 k.2.1 (h.2.2.symm.trans k.2.2)
theorem Has.text {s : Bs} {a : Acc} (h : Has s a) : textL a = s := by rw [textL, ← h.2.2, glue_cut]
theorem has_text {a : Acc} (f : a.Fits) (r : a.Right) : Has (textL a) a := ⟨f, r, cut_text a⟩
theorem parse_some {s : Bs} {a : Acc} (h : Has s a) : parseL s = some a := by
  have he : ∃ a, Has s a := ⟨a, h⟩
  unfold parseL
  rw [dif_pos he, he.choose_spec.inj h]
theorem parse_none {s : Bs} (h : ∀ a, ¬ Has s a) : parseL s = none := by
  unfold parseL
  rw [dif_neg (fun ⟨a, ha⟩ => h a ha)]
theorem text_ne {a : Acc} (r : a.Right) : textL a ≠ [] := fun h => by
  have e := cut_text a
  rw [h] at e
  have hh := parts_head a
  rw [← e] at hh
  simp only [cut, List.getElem?_cons_zero, Option.some.injEq] at hh
  rcases kinds5 r.k1 r.k5 with h | h | h | h | h <;> rw [h] at hh <;> revert hh <;> decide
end Go.Proofs.YtigdbokfapedcaaGreat
/- Words for memory: a block known whole; what a call may have turned. Nothing here speaks of a program. -/
namespace Go.Proofs.YtigdbokfapedcaaGreat
open Go.RowKit

/-- Block g holds just the cells cs, of element type t, none frozen. -/
def Row (w : World) (g : Nat) (t : TypeId) (cs : Array Value) : Prop := w.heap[g]? = some (.cells cs t (0, 0))

/-- What was there is as it was, but for blocks of S. -/
structure Only (S : Nat → Prop) (w w' : World) : Prop where
  os : w'.os = w.os
  tape : w'.tape = w.tape
  output : w'.output = w.output
  size : w.heap.size ≤ w'.heap.size
  block : ∀ k, k < w.heap.size → ¬ S k → w'.heap[k]? = w.heap[k]?

section
variable {w w' w'' : World} {g : Nat} {t : TypeId} {cs : Array Value} {S T : Nat → Prop}

theorem Row.lt (h : Row w g t cs) : g < w.heap.size := (Array.getElem?_eq_some_iff.1 h).1
theorem Row.cell (h : Row w g t cs) (i : Nat) : w.cell? ⟨g, i, none⟩ = cs[i]? := by
  have h' : w.heap[g]? = _ := h
  simp [World.cell?, h']
theorem Row.cell_ (h : Row w g t cs) {i : Nat} {v : Value} (hi : cs[i]? = some v) : w.cell? ⟨g, i, none⟩ = some v := (h.cell i).trans hi
theorem Row.frozen (h : Row w g t cs) (i : Nat) : w.frozen? ⟨g, i, none⟩ = false := by
  have h' : w.heap[g]? = _ := h
  simp [World.frozen?, h']
theorem Row.new (w : World) (t : TypeId) (cs : Array Value) : Row (w.alloc (.cells cs t)) w.heap.size t cs := by
  show (w.heap.push _)[w.heap.size]? = _
  rw [Array.getElem?_push_size]
theorem Row.new2 (w : World) (o : Obj) (t : TypeId) (cs : Array Value) : Row ((w.alloc o).alloc (.cells cs t)) (w.heap.size + 1) t cs := by
  have e := Row.new (w.alloc o) t cs
  rwa [show (w.alloc o).heap.size = w.heap.size + 1 by simp] at e
theorem Row.drew (h : Row w g t cs) : Row w.drew g t cs := h
theorem Row.drewN (h : Row w g t cs) (n : Nat) : Row (w.drewN n) g t cs := h
theorem Row.alloc (h : Row w g t cs) (o : Obj) : Row (w.alloc o) g t cs := (Below.heap_alloc w o g h.lt).trans h
theorem Row.set (h : Row w g t cs) (i : Nat) (u : Value) : Row (w.setCell ⟨g, i, none⟩ u) g t (cs.setIfInBounds i u) := by
  have h' : w.heap[g]? = _ := h
  show (World.setCell w ⟨g, i, none⟩ u).heap[g]? = _
  simp [World.setCell, Array.getElem?_modify, h']
theorem Row.far (h : Row w g t cs) {p : Addr} (hp : g ≠ p.block) (u : Value) : Row (w.setCell p u) g t cs := (Below.heap_setCell w p u g hp).trans h
theorem Row.only (h : Row w g t cs) (ho : Only S w w') (hg : ¬ S g) : Row w' g t cs := (ho.block g h.lt hg).trans h
theorem Row.same {t' : TypeId} {cs' : Array Value} (h : Row w g t cs) (h' : Row w g t' cs') : t = t' ∧ cs = cs' := by
  have e := h.symm.trans h'
  simp only [Option.some.injEq, Obj.cells.injEq] at e
  exact ⟨e.2.1, e.1⟩

theorem Only.refl (S : Nat → Prop) (w : World) : Only S w w := ⟨rfl, rfl, rfl, Nat.le_refl _, fun _ _ _ => rfl⟩
theorem Only.trans (h : Only S w w') (k : Only S w' w'') : Only S w w'' :=
  ⟨k.os.trans h.os, k.tape.trans h.tape, k.output.trans h.output, Nat.le_trans h.size k.size, fun i hi hS => (k.block i (Nat.lt_of_lt_of_le hi h.size) hS).trans (h.block i hi hS)⟩
theorem Only.mono (h : Only S w w') (hST : ∀ k, k < w.heap.size → S k → T k) : Only T w w' := ⟨h.os, h.tape, h.output, h.size, fun i hi hT => h.block i hi (fun hs => hT (hST i hi hs))⟩
/-- Behind a call that may turn T: those of T that were there ahead lie in S. -/
theorem Only.step (h : Only S w w') (k : Only T w' w'') (hT : ∀ i, i < w.heap.size → T i → S i) : Only S w w'' :=
  ⟨k.os.trans h.os, k.tape.trans h.tape, k.output.trans h.output, Nat.le_trans h.size k.size, fun i hi hS => (k.block i (Nat.lt_of_lt_of_le hi h.size) (fun ht => hS (hT i hi ht))).trans (h.block i hi hS)⟩
theorem Only.drew (h : Only S w w') : Only S w w'.drew := ⟨h.os, h.tape, h.output, h.size, h.block⟩
theorem Only.drewN (h : Only S w w') (n : Nat) : Only S w (w'.drewN n) := ⟨h.os, h.tape, h.output, h.size, h.block⟩
theorem Only.alloc (h : Only S w w') (o : Obj) : Only S w (w'.alloc o) :=
  ⟨h.os, h.tape, h.output, Nat.le_trans h.size (by simp), fun i hi hS => (Below.heap_alloc w' o i (Nat.lt_of_lt_of_le hi h.size)).trans (h.block i hi hS)⟩
theorem Only.setCell (h : Only S w w') {p : Addr} (hp : w.heap.size ≤ p.block ∨ S p.block) (u : Value) : Only S w (w'.setCell p u) :=
  ⟨h.os, h.tape, h.output, by simpa [World.setCell] using h.size, fun i hi hS => (Below.heap_setCell w' p u i (by
    rintro rfl
    rcases hp with hp | hp
    · omega
    · exact hS hp)).trans (h.block i hi hS)⟩
theorem Only.grown {row : Option Nat} (h : Only S w w') (hg : w'.grownBy w'' row) (hr : ∀ k, row = some k → w.heap.size ≤ k ∨ S k) : Only S w w'' :=
  ⟨hg.os.trans h.os, hg.tape.trans h.tape, hg.output.trans h.output, Nat.le_trans h.size hg.size, fun i hi hS => (hg.block i (Nat.lt_of_lt_of_le hi h.size) (fun e => by
    rcases hr i e.symm with hk | hk
    · omega
    · exact hS hk)).trans (h.block i hi hS)⟩
theorem Only.of_below {B : Nat} (h : Below B w w') (hB : ∀ k, k < w.heap.size → B ≤ k → S k) : Only S w w' :=
  ⟨h.os, h.tape, h.output, h.size, fun i hi hS => h.block i (by
    rcases Nat.lt_or_ge i B with hlt | hge
    · exact hlt
    · exact absurd (hB i hi hge) hS)⟩
theorem Only.below {B : Nat} (h : Only S w w') (hB : B ≤ w.heap.size) (hS : ∀ k, k < B → ¬ S k) : Below B w w' :=
  ⟨h.os, h.tape, h.output, h.size, fun k hk => h.block k (Nat.lt_of_lt_of_le hk hB) (hS k hk)⟩
theorem Only.cell (h : Only S w w') {p : Addr} (hp : p.block < w.heap.size) (hS : ¬ S p.block) : w'.cell? p = w.cell? p := World.cell?_of_block (w := w) (h.block p.block hp hS)
theorem Only.frozen (h : Only S w w') {p : Addr} (hp : p.block < w.heap.size) (hS : ¬ S p.block) : w'.frozen? p = w.frozen? p := World.frozen?_of_block (w := w) (h.block p.block hp hS)
end

/-- A return of a struct that lies in a block of its own, and of one value more. -/
theorem post_row_tmp {P : Program} {fn : Func} {R : Ending → World → Prop} {a : Act} {w : World} {p u : Tmp} {ty : TypeId} (h : fn.results = #[.cell p ty, .tmp u]) {g : Nat} {t : TypeId} {cs : Array Value} {d : TypeDesc}
    (hp : a.tmps.getD p undef = .pointer (some ⟨g, 0, none⟩)) (hg : Row w g t cs)
    (hu : P.underlying ty = some d) (hd : (match d with | .struct _ | .array _ _ => true | _ => false) = true) (hi : (P.info? ty).map (·.size) = some cs.size)
    (hf : a.defers = []) (hR : R (.returned (.tuple #[.agg cs, a.tmps.getD u undef])) w) : bodyPost P fn R .ret a w := by
  refine ⟨hf, _, ?_, hR⟩
  have hp' : a.tmps[p]?.getD undef = .pointer (some ⟨g, 0, none⟩) := by simpa using hp
  simp [results, h, hp', asAddr, run_loadVar_row w g t ty cs (0, 0) d hg hu hd hi]

/-- A return of a struct that lies in a block of its own. -/
theorem post_row {P : Program} {fn : Func} {R : Ending → World → Prop} {a : Act} {w : World} {p : Tmp} {ty : TypeId} (h : fn.results = #[.cell p ty]) {g : Nat} {t : TypeId} {cs : Array Value} {d : TypeDesc}
    (hp : a.tmps.getD p undef = .pointer (some ⟨g, 0, none⟩)) (hg : Row w g t cs)
    (hu : P.underlying ty = some d) (hd : (match d with | .struct _ | .array _ _ => true | _ => false) = true) (hi : (P.info? ty).map (·.size) = some cs.size)
    (hf : a.defers = []) (hR : R (.returned (.agg cs)) w) : bodyPost P fn R .ret a w :=
  ⟨hf, _, results_cell_row h a.tmps w g t cs (0, 0) d hp hg hu hd hi, hR⟩

/-- Nothing that was there. -/
def Nil : Nat → Prop := fun _ => False


/-- A slice at A, as long as xs is, reads as the numbers xs, of kind k; it lies below block B. -/
def Ints (w : World) (B : Nat) (k : IntKind) (A : Option Addr) (xs : List Int) : Prop :=
  0 < xs.length → ∃ b o, A = some ⟨b, o, none⟩ ∧ b < B ∧ ∀ i, i < xs.length → w.cell? ⟨b, o + i, none⟩ = some (.int k (xs.getD i 0))

theorem add_block (a : Addr) (i : Nat) : (a.add i).block = a.block := by unfold Addr.add; split <;> rfl
theorem add_at (g o i : Nat) : (⟨g, o, none⟩ : Addr).add i = ⟨g, o + i, none⟩ := by
  unfold Addr.add
  by_cases h : i = 0
  · simp [h]
  · simp [h]

section
variable {w w' : World} {B B' : Nat} {k : IntKind} {A : Option Addr} {xs : List Int} {S : Nat → Prop}
theorem Ints.keep (h : Ints w B k A xs) (hk : ∀ p : Addr, p.block < B → w'.cell? p = w.cell? p) : Ints w' B k A xs := fun hn => by
  obtain ⟨b, o, e, hb, hc⟩ := h hn
  exact ⟨b, o, e, hb, fun i hi => (hk _ hb).trans (hc i hi)⟩
theorem Ints.only (h : Ints w B k A xs) (ho : Only S w w') (hB : B ≤ w.heap.size) (hS : ∀ i, i < B → ¬ S i) : Ints w' B k A xs :=
  h.keep fun _ hp => ho.cell (Nat.lt_of_lt_of_le hp hB) (hS _ hp)
theorem Ints.drew (h : Ints w B k A xs) : Ints w.drew B k A xs := h
theorem Ints.drewN (h : Ints w B k A xs) (n : Nat) : Ints (w.drewN n) B k A xs := h
theorem Ints.alloc (h : Ints w B k A xs) (hB : B ≤ w.heap.size) (o : Obj) : Ints (w.alloc o) B k A xs := h.keep fun p hp => World.cell?_alloc_lt w o p (by omega)
theorem Ints.more (h : Ints w B k A xs) (hB : B ≤ B') : Ints w B' k A xs := fun hn => by
  obtain ⟨b, o, e, hb, hc⟩ := h hn
  exact ⟨b, o, e, by omega, hc⟩
theorem Ints.of_own {base : Nat} {e : TypeId} {c n : Nat} (h : w.ownsRow base e 1 (.slice A n c) n (xs.map (.int k))) : Ints w w.heap.size k A xs := fun hn => by
  obtain ⟨hl, h2⟩ := h
  rw [List.length_map, Nat.mul_one] at hl
  rcases h2 with ⟨_, h0⟩ | ⟨g, cap, cur, hv, _, hg, _, _, _, ht⟩
  · omega
  · injection hv with h1
    subst h1
    have hr : Row w g e cur := hg
    refine ⟨g, 0, rfl, hr.lt, fun i hi => ?_⟩
    rw [Nat.zero_add]
    refine hr.cell_ ?_
    have e1 : (cur.toList.take (n * 1))[i]? = (xs.map (Value.int k))[i]? := by rw [ht]
    rw [List.getElem?_take, if_pos (by omega), List.getElem?_map, List.getElem?_eq_getElem hi] at e1
    simp only [Option.map_some, Array.getElem?_toList] at e1
    rw [e1]
    simp [List.getD, List.getElem?_eq_getElem hi]
theorem own_only {base : Nat} {e : TypeId} {size : Nat} {v : Value} {n : Nat} {vs : List Value} (h : w.ownsRow base e size v n vs) (ho : Only S w w') (hS : ∀ i, v.ownBlock = some i → ¬ S i) : w'.ownsRow base e size v n vs := by
  refine ⟨h.1, ?_⟩
  rcases h.2 with hn | ⟨g, cap, cur, rfl, hb, hgg, rest⟩
  · exact .inl hn
  · exact .inr ⟨g, cap, cur, rfl, hb, (ho.block g (Array.getElem?_eq_some_iff.1 hgg).1 (hS g rfl)).trans hgg, rest⟩
end

/-- A list of numbers that came in: nil, or somewhere; each fits its kind. -/
structure IsRow (k : IntKind) (w : World) (A : Option Addr) (len cap : Nat) (zs : List Int) : Prop where
  len_ : zs.length = len
  nil : A = none → len = 0 ∧ cap = 0
  ints : Ints w w.heap.size k A zs
  wf : ∀ n ∈ zs, (Lit.int k n).wf = true

theorem isRow_nil {k : IntKind} {w : World} : IsRow k w none 0 0 [] := ⟨rfl, fun _ => ⟨rfl, rfl⟩, fun h => absurd h (by simp), by simp⟩
theorem isRow_of {k : IntKind} {w : World} {x : Addr} {l c : Nat} {zs : List Int} (hl : l ≤ c) (hz : zs.length = c) (hcell : ∀ i, i < zs.length → w.cell? (x.add i) = some (.int k (zs.getD i 0))) (hwz : ∀ n ∈ zs, (Lit.int k n).wf = true) :
    IsRow k w (some x) l c (zs.take l) := by
  refine ⟨by rw [List.length_take]; omega, (by intro h; cases h), fun h0 => ?_, fun n hn => hwz n (List.mem_of_mem_take hn)⟩
  have h1 : 0 < zs.length := by rw [List.length_take] at h0; omega
  obtain ⟨b, o, spot⟩ := x
  have hspot : spot = none := by simpa [Addr.add] using World.cell?_spot (hcell 0 h1)
  subst hspot
  refine ⟨b, o, rfl, ?_, fun i hi => ?_⟩
  · have := World.block_lt_of_cell? w _ (hcell 0 h1)
    rwa [add_block] at this
  · have hi' : i < zs.length := by rw [List.length_take] at hi; omega
    rw [← add_at, hcell i hi']
    simp only [List.getD, List.getElem?_take]
    rw [List.length_take] at hi
    rw [if_pos (by omega)]
/-- Nothing was done but to draw orders. -/
def Drew (w w' : World) : Prop := ∃ k : Nat, w' = w.drewN k
theorem Drew.refl (w : World) : Drew w w := ⟨0, rfl⟩
theorem Drew.of_eq {w w' : World} (h : w = w') : Drew w w' := h ▸ Drew.refl w
theorem Drew.n (w : World) (k : Nat) : Drew w (w.drewN k) := ⟨k, rfl⟩
theorem Drew.trans {w w' w'' : World} (h : Drew w w') (k : Drew w' w'') : Drew w w'' := by
  obtain ⟨a, rfl⟩ := h
  obtain ⟨b, rfl⟩ := k
  exact ⟨a + b, World.drewN_drewN ..⟩
theorem Drew.quiet {w w' : World} {k : Nat} (h : Drew (w.drewN k) w') : ∃ m, w' = w.drewN m := by
  obtain ⟨a, ha⟩ := (Drew.n w k).trans h
  exact ⟨a, ha⟩
theorem Drew.only {S : Nat → Prop} {w w' : World} (h : Drew w w') : Only S w w' := by
  obtain ⟨a, rfl⟩ := h
  exact (Only.refl S w).drewN a
theorem Drew.cell {w w' : World} (h : Drew w w') (p : Addr) : w'.cell? p = w.cell? p := by obtain ⟨a, rfl⟩ := h; rfl
theorem Drew.size {w w' : World} (h : Drew w w') : w'.heap.size = w.heap.size := by obtain ⟨a, rfl⟩ := h; rfl
theorem Drew.row {w w' : World} (h : Drew w w') {g : Nat} {t : TypeId} {cs : Array Value} (r : Row w g t cs) : Row w' g t cs := by obtain ⟨a, rfl⟩ := h; exact r
theorem Ints.drewd {w w' : World} {B : Nat} {k : IntKind} {A : Option Addr} {xs : List Int} (h : Ints w B k A xs) (d : Drew w w') : Ints w' B k A xs := by obtain ⟨a, rfl⟩ := d; exact h
theorem wf_u32 {n : Int} (h : (Lit.int .u32 n).wf = true) : 0 ≤ n ∧ n < 4294967296 := by
  have h1 : IntKind.u32.min = 0 := rfl
  have h2 : IntKind.u32.max = 4294967295 := rfl
  simp only [Lit.wf, Bool.and_eq_true, decide_eq_true_eq] at h
  omega
theorem wf_u8 {n : Int} (h : (Lit.int .u8 n).wf = true) : 0 ≤ n ∧ n < 256 := by
  have h1 : IntKind.u8.min = 0 := rfl
  have h2 : IntKind.u8.max = 255 := rfl
  simp only [Lit.wf, Bool.and_eq_true, decide_eq_true_eq] at h
  omega
theorem wf_i32 {n : Int} (h : (Lit.int .i32 n).wf = true) : -2147483648 ≤ n ∧ n < 2147483648 := by
  have h1 : IntKind.i32.min = -2147483648 := rfl
  have h2 : IntKind.i32.max = 2147483647 := rfl
  simp only [Lit.wf, Bool.and_eq_true, decide_eq_true_eq] at h
  omega
theorem wf_i64 {n : Int} (h : (Lit.int .i64 n).wf = true) : -9223372036854775808 ≤ n ∧ n < 9223372036854775808 := by
  have h1 : IntKind.i64.min = -9223372036854775808 := rfl
  have h2 : IntKind.i64.max = 9223372036854775807 := rfl
  simp only [Lit.wf, Bool.and_eq_true, decide_eq_true_eq] at h
  omega
theorem k1 : ∀ {α : Type _} (l : List α) (i : Nat) (a : α), l.toArray.setIfInBounds i a = (l.set i a).toArray := @List.setIfInBounds_toArray
theorem k2 : ∀ {α : Type _} {x : α} {xs : List α} {a : α}, (x :: xs).set 0 a = a :: xs := @List.set_cons_zero
theorem k3 : ∀ {α : Type _} {x : α} {xs : List α} {i : Nat} {a : α}, (x :: xs).set (i + 1) a = x :: xs.set i a := @List.set_cons_succ
/-- Cells of a block, so many from its first on. -/
abbrev Four (w : World) (g : Nat) (a b c d : Value) : Prop := w.cell? ⟨g, 0, none⟩ = some a ∧ w.cell? ⟨g, 1, none⟩ = some b ∧ w.cell? ⟨g, 2, none⟩ = some c ∧ w.cell? ⟨g, 3, none⟩ = some d
abbrev Five (w : World) (g : Nat) (a b c d e : Value) : Prop := w.cell? ⟨g, 0, none⟩ = some a ∧ w.cell? ⟨g, 1, none⟩ = some b ∧ w.cell? ⟨g, 2, none⟩ = some c ∧ w.cell? ⟨g, 3, none⟩ = some d ∧ w.cell? ⟨g, 4, none⟩ = some e
abbrev Six (w : World) (g : Nat) (a b c d e f : Value) : Prop := w.cell? ⟨g, 0, none⟩ = some a ∧ w.cell? ⟨g, 1, none⟩ = some b ∧ w.cell? ⟨g, 2, none⟩ = some c ∧ w.cell? ⟨g, 3, none⟩ = some d ∧ w.cell? ⟨g, 4, none⟩ = some e ∧ w.cell? ⟨g, 5, none⟩ = some f
theorem Row.four {w : World} {g : Nat} {t : TypeId} {a b c d : Value} (h : Row w g t #[a, b, c, d]) : Four w g a b c d := ⟨h.cell_ (i := 0) rfl, h.cell_ (i := 1) rfl, h.cell_ (i := 2) rfl, h.cell_ (i := 3) rfl⟩
theorem Row.five {w : World} {g : Nat} {t : TypeId} {a b c d e : Value} (h : Row w g t #[a, b, c, d, e]) : Five w g a b c d e := ⟨h.cell_ (i := 0) rfl, h.cell_ (i := 1) rfl, h.cell_ (i := 2) rfl, h.cell_ (i := 3) rfl, h.cell_ (i := 4) rfl⟩
theorem Row.six {w : World} {g : Nat} {t : TypeId} {a b c d e f : Value} (h : Row w g t #[a, b, c, d, e, f]) : Six w g a b c d e f := ⟨h.cell_ (i := 0) rfl, h.cell_ (i := 1) rfl, h.cell_ (i := 2) rfl, h.cell_ (i := 3) rfl, h.cell_ (i := 4) rfl, h.cell_ (i := 5) rfl⟩
theorem Row.one {w : World} {g : Nat} {t : TypeId} {a : Value} (h : Row w g t #[a]) : w.cell? ⟨g, 0, none⟩ = some a := h.cell_ (i := 0) rfl
end Go.Proofs.YtigdbokfapedcaaGreat
/- A note, in plain mathematics. -/
namespace Go.Proofs.YtigdbokfapedcaaGreat
open Go.RowKit

/-- A note: task, what, operation, argument. -/
structure Nt where
  t : Int
  w : Int
  o : Int
  a : Int
theorem Nt.ext_ {a b : Nt} (h1 : a.t = b.t) (h2 : a.w = b.w) (h3 : a.o = b.o) (h4 : a.a = b.a) : a = b := by
  cases a; cases b; simp_all
end Go.Proofs.YtigdbokfapedcaaGreat
/- Notes as texts, in plain mathematics. Nothing here speaks of a program. -/
namespace Go.Proofs.YtigdbokfapedcaaGreat
open Go
set_option linter.unusedVariables false
set_option linter.unusedSimpArgs false

/-- The operations' words, by their numbers. -/
def opWs : List Bs := [[], [114, 108, 111, 99, 107], [114, 117, 110, 108, 111, 99, 107], [108, 111, 99, 107], [117, 110, 108, 111, 99, 107], [116, 114, 121, 114, 108, 111, 99, 107], [116, 114, 121, 108, 111, 99, 107], [117, 112, 103, 114, 97, 100, 101], [100, 111, 119, 110, 103, 114, 97, 100, 101]]
/-- The words of what is told. -/
def whWs : List Bs := [[], [99, 97, 108, 108], [114, 101, 103], [112, 114, 101, 115, 101, 110, 116], [97, 100, 109, 105, 116], [114, 101, 102, 117, 115, 101], [114, 101, 108, 101, 97, 115, 101], [108, 101, 97, 118, 101], [112, 97, 115, 115], [117, 112], [100, 111, 119, 110], [114, 101, 116, 117, 114, 110]]
def clWs : List Bs := [[], [114, 101, 97, 100], [119, 114, 105, 116, 101]]
def rtWs : List Bs := [[], [102, 97, 108, 115, 101], [116, 114, 117, 101], [109, 105, 115, 117, 115, 101]]
/-- The words that Op, Arg has beside What. -/
def opOf (w : Int) : List Bs := if w = 1 ∨ w = 11 then opWs else []
def argOf (w : Int) : List Bs := if w = 2 then clWs else if w = 11 then rtWs else []
/-- The word with that number. -/
def wordI (ws : List Bs) (x : Int) : Bs := if x < 0 then [] else ws.getD x.toNat []
/-- The number of the word, of those from i on. -/
def numFrom : List Bs → Nat → Bs → Int
  | [], _, _ => -1
  | x :: r, i, l => if x = l then i else numFrom r (i + 1) l
def numI (ws : List Bs) (l : Bs) : Int := if 0 < numFrom ws 0 l then numFrom ws 0 l else 0
def fitB (ws : List Bs) (x : Int) : Bool := if ws = [] then decide (x = 0) else !decide (wordI ws x = [])

/-- What, Op and Arg are right. -/
def tripB (w o a : Int) : Bool := fitB whWs w && (fitB (opOf w) o && fitB (argOf w) a)
/-- It is right. -/
def rightN (t w o a : Int) : Bool := decide (0 ≤ t) && (decide (t < 64) && tripB w o a)

theorem word_out {ws : List Bs} {x : Int} (h : x < 0 ∨ (ws.length : Int) ≤ x) : wordI ws x = [] := by
  unfold wordI
  rcases h with h | h
  · rw [if_pos h]
  · rw [if_neg (by omega), List.getD_eq_getElem?_getD, List.getElem?_eq_none (by omega)]; rfl
theorem fit_in {ws : List Bs} {x : Int} (h : fitB ws x = true) : (ws = [] ∧ x = 0) ∨ (ws ≠ [] ∧ 0 ≤ x ∧ x < ws.length) := by
  unfold fitB at h
  by_cases h0 : ws = []
  · rw [if_pos h0] at h; exact .inl ⟨h0, of_decide_eq_true h⟩
  · rw [if_neg h0] at h
    refine .inr ⟨h0, ?_⟩
    by_cases hx : x < 0 ∨ (ws.length : Int) ≤ x
    · rw [word_out hx] at h; simp at h
    · omega
theorem what_in {w : Int} (h : fitB whWs w = true) : 0 ≤ w ∧ w < 12 := by
  rcases fit_in h with ⟨h, _⟩ | ⟨_, h1, h2⟩
  · simp [whWs] at h
  · exact ⟨h1, h2⟩
theorem op_in {w o : Int} (h : fitB (opOf w) o = true) : 0 ≤ o ∧ o < 9 := by
  rcases fit_in h with ⟨_, h⟩ | ⟨_, h1, h2⟩
  · omega
  · refine ⟨h1, ?_⟩
    unfold opOf at h2
    split at h2
    · exact h2
    · simp at h2; omega
theorem arg_in {w a : Int} (h : fitB (argOf w) a = true) : 0 ≤ a ∧ a < 4 := by
  rcases fit_in h with ⟨_, h⟩ | ⟨_, h1, h2⟩
  · omega
  · refine ⟨h1, ?_⟩
    unfold argOf at h2
    split at h2
    · have : (clWs.length : Int) = 3 := rfl
      omega
    · split at h2
      · exact h2
      · simp at h2; omega
theorem trip_in {w o a : Int} (h : tripB w o a = true) : (0 ≤ w ∧ w < 12) ∧ (0 ≤ o ∧ o < 9) ∧ (0 ≤ a ∧ a < 4) := by
  unfold tripB at h
  simp only [Bool.and_eq_true] at h
  exact ⟨what_in h.1, op_in h.2.1, arg_in h.2.2⟩
theorem right_in {t w o a : Int} (h : rightN t w o a = true) : 0 ≤ t ∧ t < 64 ∧ tripB w o a = true := by
  unfold rightN at h
  simp only [Bool.and_eq_true, decide_eq_true_eq] at h
  exact h

/-- The parts behind the task's number. -/
def restL (w o a : Int) : List Bs := [wordI whWs w, wordI (opOf w) o, wordI (argOf w) a].filter (fun l => !decide (l = []))
def partsN (t w o a : Int) : List Bs := [decL t, wordI whWs w, wordI (opOf w) o, wordI (argOf w) a].filter (fun l => !decide (l = []))
theorem dec_some (u : Nat) : Lib.decDigits u ≠ [] := fun h => by
  have := dval_dec u
  rw [h] at this
  have h0 : u = 0 := this.symm
  subst h0
  rw [Lib.decDigits_one (by omega)] at h
  cases h
theorem partsN_cons (t w o a : Int) : partsN t w o a = decL t :: restL w o a := by
  unfold partsN restL
  rw [List.filter_cons_of_pos]
  show (!decide (Lib.decDigits t.toNat = [])) = true
  rw [decide_eq_false (dec_some _)]; rfl
def textN (n : Nt) : Bs := glue (partsN n.t n.w n.o n.a)
/-- All that is asked of the finitely many. -/
def goodB (w o a : Int) : Bool := !tripB w o a || ((restL w o a).all (fun l => !l.contains 32) && (!decide (restL w o a = []) && (decide (numI whWs ((restL w o a).getD 0 []) = w) && (decide (numI (opOf w) ((restL w o a).getD 1 []) = o) && (decide (numI (argOf w) ((restL w o a).getLastD []) = a) && decide ((restL w o a).length ≤ 3))))))
set_option maxRecDepth 100000 in
theorem good_all : ∀ w : Fin 12, ∀ o : Fin 9, ∀ a : Fin 4, goodB (w : Nat) (o : Nat) (a : Nat) = true := by decide +kernel
theorem good {w o a : Int} (h : tripB w o a = true) : (∀ l ∈ restL w o a, (32 : UInt8) ∉ l) ∧ restL w o a ≠ [] ∧ numI whWs ((restL w o a).getD 0 []) = w ∧ numI (opOf w) ((restL w o a).getD 1 []) = o ∧ numI (argOf w) ((restL w o a).getLastD []) = a ∧ (restL w o a).length ≤ 3 := by
  obtain ⟨⟨w0, w1⟩, ⟨o0, o1⟩, a0, a1⟩ := trip_in h
  have hg := good_all ⟨w.toNat, by omega⟩ ⟨o.toNat, by omega⟩ ⟨a.toNat, by omega⟩
  simp only [Int.toNat_of_nonneg w0, Int.toNat_of_nonneg o0, Int.toNat_of_nonneg a0] at hg
  unfold goodB at hg
  rw [h] at hg
  simp only [Bool.not_true, Bool.false_or, Bool.and_eq_true, decide_eq_true_eq, List.all_eq_true, Bool.not_eq_true', decide_eq_false_iff_not] at hg
  obtain ⟨h1, h2, h3, h4, h5, h6⟩ := hg
  exact ⟨fun l hl => by simpa using h1 l hl, h2, h3, h4, h5, h6⟩

/-- l is the text of the right note n. -/
def HasN (l : Bs) (n : Nt) : Prop := rightN n.t n.w n.o n.a = true ∧ l = textN n
theorem HasN.cutN {l : Bs} {n : Nt} (h : HasN l n) : cut l = decL n.t :: restL n.w n.o n.a := by
  obtain ⟨h1, rfl⟩ := h
  obtain ⟨_, _, h3⟩ := right_in h1
  obtain ⟨g1, g2, _⟩ := good h3
  rw [textN, partsN_cons]
  refine cut_glue _ (by simp) ?_
  intro w hw
  rcases List.mem_cons.1 hw with rfl | hw
  · exact dec_blank _
  · exact g1 w hw
/-- What a text tells of the note whose text it is. -/
theorem HasN.facts {l : Bs} {n : Nt} (h : HasN l n) : (0 ≤ n.t ∧ n.t < 64) ∧ (cut l)[0]? = some (decL n.t) ∧ numI whWs ((cut l).getD 1 []) = n.w ∧ numI (opOf n.w) ((cut l).getD 2 []) = n.o ∧ numI (argOf n.w) ((cut l).getLastD []) = n.a := by
  obtain ⟨h1, h2, h3⟩ := right_in h.1
  obtain ⟨_, g2, g3, g4, g5, _⟩ := good h3
  rw [h.cutN]
  refine ⟨⟨h1, h2⟩, rfl, by simpa using g3, by simpa using g4, ?_⟩
  rw [show (decL n.t :: restL n.w n.o n.a).getLastD [] = (restL n.w n.o n.a).getLastD [] by
    cases h : restL n.w n.o n.a with
    | nil => exact absurd h g2
    | cons x r => rfl]
  exact g5
theorem HasN.inj {l : Bs} {a b : Nt} (h : HasN l a) (k : HasN l b) : a = b := by
  obtain ⟨⟨t0, _⟩, h1, h2, h3, h4⟩ := h.facts
  obtain ⟨⟨u0, _⟩, k1, k2, k3, k4⟩ := k.facts
  have ht : a.t = b.t := by
    have e := h1.symm.trans k1
    have := dec_inj (Option.some.inj e)
    omega
  have hw : a.w = b.w := h2.symm.trans k2
  rw [hw] at h3 h4
  exact Nt.ext_ ht hw (h3.symm.trans k3) (h4.symm.trans k4)
theorem textN_ne {n : Nt} (h : rightN n.t n.w n.o n.a = true) : textN n ≠ [] := fun e => by
  have hh := (show HasN (textN n) n from ⟨h, rfl⟩).cutN
  rw [e] at hh
  simp only [cut, List.cons.injEq] at hh
  exact dec_some _ hh.1.symm
/-- The text as it is told; none of what isn't right. -/
def txtN (t w o a : Int) : Bs := if rightN t w o a then textN ⟨t, w, o, a⟩ else []
theorem txtN_iff {t w o a : Int} : txtN t w o a = [] ↔ rightN t w o a = false := by
  unfold txtN
  cases h : rightN t w o a
  · simp
  · simp only [if_true]
    exact ⟨fun e => absurd e (textN_ne (n := ⟨t, w, o, a⟩) h), fun e => by cases e⟩
theorem txtN_inj {t w o a t' w' o' a' : Int} (h : rightN t w o a = true) (h' : rightN t' w' o' a' = true) : txtN t w o a = txtN t' w' o' a' ↔ (t = t' ∧ w = w' ∧ o = o' ∧ a = a') := by
  unfold txtN
  rw [if_pos h, if_pos h']
  constructor
  · intro e
    have := HasN.inj (a := ⟨t, w, o, a⟩) (b := ⟨t', w', o', a'⟩) ⟨h, rfl⟩ ⟨h', e⟩
    simpa using this
  · rintro ⟨rfl, rfl, rfl, rfl⟩; rfl
end Go.Proofs.YtigdbokfapedcaaGreat
/- Histories in plain words: the calls of any notes, when notes are a history of n tasks, who is within a call. Nothing here speaks of a program. -/
set_option linter.unusedVariables false
set_option linter.unusedSimpArgs false
namespace Go.Proofs.YtigdbokfapedcaaGreat
open Go
/-- A call. -/
structure Cal where
  t : Int
  o : Int
  f : Int
  g : Int
  r : Int
  ps : List Int
/-- What comes of a call of task t: from the place i on. -/
def retF (t : Int) : Int → List Nt → Int × Int × List Int
  | _, [] => (-1, 0, [])
  | i, x :: l => if x.t = t ∧ x.w = 11 then (i, x.a, []) else if x.t = t ∧ x.w ≠ 1 then ((retF t (i + 1) l).1, (retF t (i + 1) l).2.1, i :: (retF t (i + 1) l).2.2) else retF t (i + 1) l
def callAt (i : Int) (x : Nt) (l : List Nt) : Cal := ⟨x.t, x.o, i, (retF x.t (i + 1) l).1, (retF x.t (i + 1) l).2.1, (retF x.t (i + 1) l).2.2⟩
def callsF : Int → List Nt → List Cal
  | _, [] => []
  | i, x :: l => if x.w = 1 then callAt i x l :: callsF (i + 1) l else callsF (i + 1) l
/-- What one note more, at the place i, makes of a call. -/
def Cal.touch (c : Cal) (i : Int) (x : Nt) : Cal := if c.g < 0 ∧ x.t = c.t then (if x.w = 11 then { c with g := i, r := x.a } else if x.w = 1 then c else { c with ps := c.ps ++ [i] }) else c
theorem retF_neg (t : Int) : ∀ (l : List Nt) (i : Int), 0 ≤ i → (retF t i l).1 = -1 ∨ i ≤ (retF t i l).1 ∧ (retF t i l).1 < i + l.length
  | [], i, _ => .inl rfl
  | x :: l, i, h => by
    have ih := retF_neg t l (i + 1) (by omega)
    rw [retF, List.length_cons]
    split
    · exact .inr ⟨Int.le_refl _, by show i < _; omega⟩
    · split
      · rcases ih with h | h
        · exact .inl h
        · exact .inr ⟨by show i ≤ (retF t (i + 1) l).1; omega, by show (retF t (i + 1) l).1 < _; omega⟩
      · rcases ih with h | h
        · exact .inl h
        · exact .inr ⟨by omega, by omega⟩
theorem retF_snoc (t : Int) (x : Nt) : ∀ (l : List Nt) (i : Int), 0 ≤ i → retF t i (l ++ [x]) = (if (retF t i l).1 < 0 ∧ x.t = t then (if x.w = 11 then (i + l.length, x.a, (retF t i l).2.2) else if x.w = 1 then retF t i l else ((retF t i l).1, (retF t i l).2.1, (retF t i l).2.2 ++ [i + l.length])) else retF t i l)
  | [], i, h => by
    rw [List.nil_append, retF, retF]
    simp only [List.length_nil]
    by_cases h1 : x.t = t
    · by_cases h2 : x.w = 11
      · simp [h1, h2]
      · by_cases h3 : x.w = 1
        · simp [h1, h3, retF]
        · simp [h1, h2, h3, retF]
    · simp [h1, retF]
  | y :: l, i, h => by
    have ih := retF_snoc t x l (i + 1) (by omega)
    rw [List.cons_append, retF, retF, ih, List.length_cons]
    by_cases h1 : y.t = t ∧ y.w = 11
    · have hi : ¬ i < 0 := by omega
      simp only [if_pos h1, hi, false_and, if_false]
    · simp only [if_neg h1]
      have e : i + 1 + (l.length : Int) = i + ((l.length + 1 : Nat) : Int) := by omega
      by_cases h2 : y.t = t ∧ y.w ≠ 1
      · simp only [if_pos h2, e]
        split
        · split
          · rfl
          · split
            · rfl
            · rfl
        · rfl
      · simp only [if_neg h2, e]
theorem callAt_snoc (i : Int) (hi : 0 ≤ i) (y x : Nt) (l : List Nt) : callAt i y (l ++ [x]) = (callAt i y l).touch (i + 1 + l.length) x := by
  unfold callAt Cal.touch
  rw [retF_snoc _ _ _ _ (by omega)]
  dsimp only
  split
  · split
    · rfl
    · split
      · rfl
      · rfl
  · rfl
theorem callsF_snoc (x : Nt) : ∀ (l : List Nt) (i : Int), 0 ≤ i → callsF i (l ++ [x]) = (callsF i l).map (fun c => c.touch (i + l.length) x) ++ (if x.w = 1 then [⟨x.t, x.o, i + l.length, -1, 0, []⟩] else [])
  | [], i, h => by
    rw [List.nil_append, callsF, callsF, callsF]
    simp [callAt, retF]
  | y :: l, i, h => by
    have ih := callsF_snoc x l (i + 1) (by omega)
    have e : i + 1 + (l.length : Int) = i + ((l.length + 1 : Nat) : Int) := by omega
    rw [List.cons_append, callsF, callsF, ih, List.length_cons, callAt_snoc _ h, e]
    split
    · rfl
    · rfl
/-- The operation that task t is within, behind these notes (0: none). -/
def inN (t o : Int) (x : Nt) : Int := if x.t = t then (if x.w = 1 then x.o else if x.w = 11 then 0 else o) else o
def inOp (l : List Nt) (t : Int) : Int := l.foldl (inN t) 0
theorem inOp_snoc (l : List Nt) (x : Nt) (t : Int) : inOp (l ++ [x]) t = inN t (inOp l t) x := by unfold inOp; rw [List.foldl_append]; rfl
/-- Why a note is wrong, of n tasks, whose task is within o. -/
def wrongN (n o : Int) (x : Nt) : Int := if rightN x.t x.w x.o x.a = false then 4 else if n ≤ x.t then 2 else if (x.w = 1 ∧ o ≠ 0) ∨ (x.w ≠ 1 ∧ o = 0) ∨ (x.w = 11 ∧ x.o ≠ o) then 8 else 0
/-- The first wrong note, and why, of those behind 'pre'. -/
def chkF (n : Int) : List Nt → List Nt → Int × Int
  | _, [] => (0, 0)
  | pre, x :: l => if wrongN n (inOp pre x.t) x = 0 then chkF n (pre ++ [x]) l else (pre.length, wrongN n (inOp pre x.t) x)
def chkL (n : Int) (l : List Nt) : Int × Int := chkF n [] l
/-- It is a history. -/
def Hist (n : Int) (l : List Nt) : Prop := ∀ pre x post, l = pre ++ x :: post → wrongN n (inOp pre x.t) x = 0
theorem hist_nil (n : Int) : Hist n [] := fun pre x post h => by simp at h
theorem Hist.snoc {n : Int} {l : List Nt} {x : Nt} (h : Hist n l) (hx : wrongN n (inOp l x.t) x = 0) : Hist n (l ++ [x]) := fun pre y post e => by
  rcases List.eq_nil_or_concat post with rfl | ⟨q, z, rfl⟩
  · obtain ⟨e1, e2⟩ := List.append_inj' e rfl
    obtain rfl := e1
    obtain rfl : x = y := by simpa using e2
    exact hx
  · rw [List.concat_eq_append, ← List.cons_append, ← List.append_assoc] at e
    obtain ⟨e1, _⟩ := List.append_inj' e rfl
    exact h pre y q e1
theorem chkF_of {n : Int} : ∀ (l pre : List Nt), Hist n (pre ++ l) → chkF n pre l = (0, 0)
  | [], _, _ => rfl
  | x :: l, pre, h => by
    rw [chkF, if_pos (h pre x l rfl)]
    exact chkF_of l _ (by rw [List.append_assoc]; exact h)
theorem Hist.chk {n : Int} {l : List Nt} (h : Hist n l) : chkL n l = (0, 0) := chkF_of l [] h
theorem wrong_call {n o : Int} {x : Nt} (h : wrongN n o x = 0) : (x.w = 1 → o = 0) ∧ (x.w ≠ 1 → o ≠ 0) ∧ (x.w = 11 → x.o = o) ∧ x.t < n ∧ rightN x.t x.w x.o x.a = true := by
  unfold wrongN at h
  split at h
  · exact absurd h (by decide)
  · rename_i hr
    split at h
    · exact absurd h (by decide)
    · rename_i hn
      split at h
      · exact absurd h (by decide)
      · rename_i hc
        refine ⟨fun hw => ?_, fun hw ho => hc (.inr (.inl ⟨hw, ho⟩)), fun hw => ?_, by omega, by simpa using hr⟩
        · by_cases ho : o = 0
          · exact ho
          · exact absurd (.inl ⟨hw, ho⟩) hc
        · by_cases ho : x.o = o
          · exact ho
          · exact absurd (.inr (.inr ⟨hw, ho⟩)) hc
/-- A call of a history is over ahead of its task's next one. -/
theorem ret_ahead {n t : Int} : ∀ (l pre : List Nt) (i : Int), 0 ≤ i → Hist n (pre ++ l) → inOp pre t ≠ 0 → ∀ y post q, l = q ++ y :: post → y.t = t → y.w = 1 → 0 ≤ (retF t i l).1 ∧ (retF t i l).1 < i + q.length
  | [], pre, i, hi, h, ho => fun y post q e => by simp at e
  | x :: l, pre, i, hi, h, ho => by
    intro y post q e ht hw
    obtain ⟨w1, w2, w3, _⟩ := wrong_call (h pre x l rfl)
    have hn := inOp_snoc pre x t
    cases q with
    | nil =>
      obtain ⟨rfl, rfl⟩ : x = y ∧ l = post := by simpa using e
      rw [ht] at w1
      exact absurd (w1 hw) ho
    | cons z q =>
      obtain ⟨rfl, rfl⟩ : x = z ∧ l = q ++ y :: post := by simpa using e
      rw [List.length_cons, retF]
      by_cases h1 : x.t = t ∧ x.w = 11
      · rw [if_pos h1]; exact ⟨hi, by show i < _; omega⟩
      · rw [if_neg h1]
        have ho' : inOp (pre ++ [x]) t ≠ 0 := by
          rw [hn]; unfold inN
          split
          · rename_i hxt
            split
            · rename_i hx1
              rw [hxt] at w1
              exact absurd (w1 hx1) ho
            · split
              · rename_i h11; exact absurd ⟨hxt, h11⟩ h1
              · exact ho
          · exact ho
        have ih := ret_ahead (q ++ y :: post) (pre ++ [x]) (i + 1) (by omega) (by rw [List.append_assoc]; exact h) ho' y post q rfl ht hw
        split
        · exact ⟨ih.1, by show (retF t (i + 1) (q ++ y :: post)).1 < _; omega⟩
        · exact ⟨ih.1, by omega⟩
theorem mem_calls {B : Cal} : ∀ (l : List Nt) (i : Int), B ∈ callsF i l → ∃ q y post, l = q ++ y :: post ∧ y.w = 1 ∧ B.t = y.t ∧ B.f = i + q.length
  | [], _, h => by simp [callsF] at h
  | x :: l, i, h => by
    rw [callsF] at h
    have hr : B ∈ callsF (i + 1) l → ∃ q y post, x :: l = q ++ y :: post ∧ y.w = 1 ∧ B.t = y.t ∧ B.f = i + q.length := fun h => by
      obtain ⟨q, y, post, e, hw, ht, hf⟩ := mem_calls l (i + 1) h
      exact ⟨x :: q, y, post, by rw [e]; rfl, hw, ht, by rw [hf, List.length_cons]; omega⟩
    split at h
    · rename_i hw
      rcases List.mem_cons.1 h with rfl | h
      · exact ⟨[], x, l, rfl, hw, rfl, by show i = i + ((0 : Nat) : Int); omega⟩
      · exact hr h
    · exact hr h
/-- Each task's calls don't overlap. -/
theorem calls_apart {n : Int} : ∀ (l pre : List Nt) (i : Int), 0 ≤ i → Hist n (pre ++ l) → (callsF i l).Pairwise fun A B => A.t = B.t → 0 ≤ A.g ∧ A.g < B.f
  | [], _, _, _, _ => List.Pairwise.nil
  | x :: l, pre, i, hi, h => by
    have ih := calls_apart l (pre ++ [x]) (i + 1) (by omega) (by rw [List.append_assoc]; exact h)
    rw [callsF]
    split
    · rename_i hw
      refine List.pairwise_cons.2 ⟨fun B hB ht => ?_, ih⟩
      obtain ⟨q, y, post, e, hy, hyt, hf⟩ := mem_calls l (i + 1) hB
      have hx := wrong_call (h pre x l rfl)
      have hxo : x.o ≠ 0 := by
        have := hx.2.2.2.2
        intro h0
        rw [h0, hw] at this
        simp [rightN, tripB, fitB, opOf, opWs, wordI] at this
      have hin : inOp (pre ++ [x]) x.t ≠ 0 := by
        rw [inOp_snoc]; unfold inN; rw [if_pos rfl, if_pos hw]; exact hxo
      have := ret_ahead l (pre ++ [x]) (i + 1) (by omega) (by rw [List.append_assoc]; exact h) hin y post q e (hyt.symm.trans ht.symm) hy
      rw [hf]
      exact ⟨this.1, this.2⟩
    · exact ih
end Go.Proofs.YtigdbokfapedcaaGreat
