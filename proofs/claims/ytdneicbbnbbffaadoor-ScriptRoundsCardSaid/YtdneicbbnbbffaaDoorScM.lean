/- Scripts, in plain mathematics: lines, words, picks. Nothing here speaks of a program. -/
import Derived.Test.YtdneicbbnbbffaaDoorNoteM
namespace Go.Proofs.YtdneicbbnbbffaaDoor
open Go
/-- Ahead of the first c; behind it. -/
def tw (c : UInt8) : Bs → Bs
  | [] => []
  | b :: l => if b = c then [] else b :: tw c l
def dw (c : UInt8) : Bs → Bs
  | [] => []
  | b :: l => if b = c then l else dw c l
theorem tw_not (c : UInt8) : ∀ l, c ∉ tw c l
  | [] => by simp [tw]
  | b :: l => by
    have ih := tw_not c l
    unfold tw
    split
    · simp
    · rename_i h
      simp only [List.mem_cons, not_or]
      exact ⟨fun e => h e.symm, ih⟩
theorem tw_all {c : UInt8} : ∀ {l : Bs}, c ∉ l → tw c l = l ∧ dw c l = []
  | [], _ => ⟨rfl, rfl⟩
  | b :: l, h => by
    have h1 : ¬ b = c := fun e => h (by simp [e])
    obtain ⟨e1, e2⟩ := tw_all (l := l) (fun e => h (List.mem_cons_of_mem _ e))
    unfold tw dw
    rw [if_neg h1, if_neg h1, e1, e2]
    exact ⟨rfl, rfl⟩
theorem tw_hit {c : UInt8} : ∀ {l r : Bs}, c ∉ l → tw c (l ++ c :: r) = l ∧ dw c (l ++ c :: r) = r
  | [], r, _ => by simp [tw, dw]
  | b :: l, r, h => by
    have h1 : ¬ b = c := fun e => h (by simp [e])
    obtain ⟨e1, e2⟩ := tw_hit (l := l) (r := r) (fun e => h (List.mem_cons_of_mem _ e))
    simp only [List.cons_append]
    unfold tw dw
    rw [if_neg h1, if_neg h1, e1, e2]
    exact ⟨rfl, rfl⟩
theorem tw_cut (c : UInt8) : ∀ l : Bs, (c ∉ l ∧ tw c l = l ∧ dw c l = []) ∨ l = tw c l ++ c :: dw c l
  | [] => .inl ⟨by simp, rfl, rfl⟩
  | b :: l => by
    by_cases hb : b = c
    · subst hb; right; simp [tw, dw]
    · rcases tw_cut c l with ⟨h1, h2, h3⟩ | h
      · left
        refine ⟨?_, ?_, ?_⟩
        · simp only [List.mem_cons, not_or]; exact ⟨fun e => hb e.symm, h1⟩
        · simp [tw, hb, h2]
        · simp [dw, hb, h3]
      · right
        simp only [tw, dw, if_neg hb, List.cons_append]
        exact congrArg _ h
theorem tw_len (c : UInt8) : ∀ l : Bs, (tw c l).length ≤ l.length
  | [] => Nat.le_refl _
  | b :: l => by
    have := tw_len c l
    unfold tw
    split <;> simp <;> omega
theorem dw_len (c : UInt8) : ∀ l : Bs, (dw c l).length ≤ l.length - 1
  | [] => Nat.le_refl _
  | b :: l => by
    have := dw_len c l
    unfold dw
    split <;> simp <;> omega

/-! Lines. -/
def lineL : Bs → List Bs
  | [] => []
  | b :: l => if b = 10 then [] :: lineL l else match lineL l with
    | [] => [[b]]
    | h :: t => (b :: h) :: t
theorem lineL_step : ∀ {l : Bs}, l ≠ [] → lineL l = tw 10 l :: lineL (dw 10 l)
  | [], h => absurd rfl h
  | b :: l, _ => by
    by_cases hb : b = 10
    · simp [lineL, tw, dw, hb]
    · by_cases hl : l = []
      · subst hl; simp [lineL, tw, dw, hb]
      · rw [lineL, if_neg hb, lineL_step hl, tw, if_neg hb, dw, if_neg hb]
theorem lineL_len : ∀ l : Bs, (lineL l).length ≤ l.length
  | [] => Nat.le_refl _
  | b :: l => by
    have := lineL_len l
    unfold lineL
    split
    · simp; omega
    · split
      · simp
      · rename_i h; rw [h] at this; simp at this ⊢; omega
theorem lineL_app : ∀ l r : Bs, lineL (l ++ 10 :: r) = lineL (l ++ [10]) ++ lineL r
  | [], r => by simp [lineL]
  | b :: l, r => by
    have ih := lineL_app l r
    by_cases hb : b = 10
    · simp [lineL, hb, ih]
    · simp only [List.cons_append, lineL, if_neg hb, ih]
      cases h : lineL (l ++ [10]) with
      | nil => exact absurd h (by rw [lineL_step (by simp)]; simp)
      | cons x t => rfl
theorem lineL_end : ∀ l : Bs, lineL (l ++ [10]) = lineL l ∨ lineL (l ++ [10]) = lineL l ++ [[]]
  | [] => .inr rfl
  | b :: l => by
    by_cases hb : b = 10
    · rcases lineL_end l with h | h
      · left; simp [lineL, hb, h]
      · right; simp [lineL, hb, h]
    · by_cases hl : l = []
      · subst hl; left; simp [lineL, hb]
      · have hs := lineL_step hl
        rcases lineL_end l with h | h
        · left; simp only [List.cons_append, lineL, if_neg hb, h]
        · right
          simp only [List.cons_append, lineL, if_neg hb, h]
          rw [hs]; rfl

theorem lineL_short : ∀ (t : Bs), ∀ l ∈ lineL t, l.length ≤ t.length
  | [], l, h => by simp [lineL] at h
  | b :: t, l, h => by
    have ih := lineL_short t
    unfold lineL at h
    split at h
    · rcases List.mem_cons.1 h with rfl | h
      · simp
      · have := ih l h; simp; omega
    · split at h
      · rw [List.mem_singleton] at h; subst h; simp
      · rename_i x r e
        rw [e] at ih
        rcases List.mem_cons.1 h with rfl | h
        · have := ih x (by simp); simp; omega
        · have := ih l (by simp [h]); simp; omega
/-- No line is longer. -/
def sh (l : Bs) : Bs := l.take 100000
theorem sh_id {l : Bs} (h : l.length ≤ 100000) : sh l = l := List.take_of_length_le h
theorem sh_len (l : Bs) : (sh l).length ≤ 100000 := by unfold sh; rw [List.length_take]; omega
/-! Words. -/
def skipB : Bs → Bs
  | [] => []
  | b :: l => if b = 32 then skipB l else b :: l
def wordsL (l : Bs) : List Bs := (cut l).filter fun w => !decide (w = [])
/-- The first word; what stands behind it. -/
def fw (l : Bs) : Bs := tw 32 (skipB l)
def bh (l : Bs) : Bs := dw 32 (skipB l)
theorem skipB_len : ∀ l : Bs, (skipB l).length ≤ l.length
  | [] => Nat.le_refl _
  | b :: l => by
    have := skipB_len l
    unfold skipB
    split <;> simp <;> omega
theorem bh_len (l : Bs) : (bh l).length ≤ l.length := by
  have h1 := dw_len 32 (skipB l); have h2 := skipB_len l
  unfold bh; omega
theorem fw_len (l : Bs) : (fw l).length ≤ l.length := Nat.le_trans (tw_len _ _) (skipB_len l)
theorem words_skip : ∀ l : Bs, wordsL l = wordsL (skipB l)
  | [] => rfl
  | b :: l => by
    by_cases hb : b = 32
    · rw [skipB, if_pos hb, ← words_skip l]
      simp [wordsL, cut, hb]
    · rw [skipB, if_neg hb]
theorem skip_head : ∀ l : Bs, skipB l = [] ∨ ∃ b r, skipB l = b :: r ∧ b ≠ 32
  | [] => .inl rfl
  | b :: l => by
    by_cases hb : b = 32
    · rw [skipB, if_pos hb]; exact skip_head l
    · exact .inr ⟨b, l, by rw [skipB, if_neg hb], hb⟩
theorem words_nil : wordsL [] = [] := rfl
theorem words_none {l : Bs} (h : fw l = []) : wordsL l = [] ∧ bh l = [] := by
  rcases skip_head l with e | ⟨b, r, e, hb⟩
  · rw [words_skip, bh, e]; exact ⟨rfl, rfl⟩
  · rw [fw, e, tw, if_neg hb] at h; cases h
theorem words_some {l : Bs} (h : fw l ≠ []) : wordsL l = fw l :: wordsL (bh l) := by
  rw [words_skip]
  unfold fw bh at *
  rcases tw_cut 32 (skipB l) with ⟨h1, h2, h3⟩ | e
  · rw [h2] at h; rw [h3, h2, wordsL, cut_word _ h1, words_nil]
    simp [h]
  · have hn := tw_not 32 (skipB l)
    generalize tw 32 (skipB l) = x at *
    generalize dw 32 (skipB l) = y at *
    rw [e, wordsL, cut_more _ _ hn]
    simp [h, wordsL]

theorem digs_lt : ∀ (n : Nat) (l : Bs), l.length = n → (∀ c ∈ l, 48 ≤ c.toNat ∧ c.toNat ≤ 57) → dval l < 10 ^ n
  | 0, l, h, _ => by rw [List.length_eq_zero_iff.1 h]; decide
  | n + 1, l, h, hc => by
    obtain ⟨r, c, rfl, hr⟩ := snoc_of h
    have ih := digs_lt n r hr (fun x hx => hc x (List.mem_append_left _ hx))
    have := hc c (by simp)
    rw [dval_snoc, Nat.pow_succ]; omega
/-! Lines' picks. -/
inductive LR where
  | quiet | bad (e : Int) | pick (t o : Int)
/-- A task's number. -/
def taskN (w : Bs) : Option Nat := if w.length ≤ 3 ∧ Lib.decDigits (dval w) = w then some (dval w) else none
def sayL : List Bs → LR
  | [] => .quiet
  | w :: r => if w.head? = some 35 then .quiet else match taskN w with
    | none => .bad 4
    | some t => match r with
      | [] => .pick t 0
      | v :: r' => if numI opWs v = 0 then .bad 5 else if r' = [] then .pick t (numI opWs v) else .bad 4
def lineR (l : Bs) : LR := sayL (wordsL l)
abbrev PR := List (Int × Int) × Int × Int
def prsL : List Bs → Nat → List (Int × Int) → PR
  | [], _, out => (out, 0, 0)
  | l :: ls, k, out => match lineR l with
    | .quiet => prsL ls (k + 1) out
    | .bad e => ([], k, e)
    | .pick t o => prsL ls (k + 1) (out ++ [(t, o)])
def prsT (s : Bs) : PR := prsL (lineL s) 1 []
def pkOf : LR → List (Int × Int)
  | .pick t o => [(t, o)]
  | _ => []
def picksOf (ls : List Bs) : List (Int × Int) := ls.flatMap fun l => pkOf (lineR l)
def Good (ls : List Bs) : Prop := ∀ l ∈ ls, ∀ e, lineR l ≠ .bad e
theorem prsL_app : ∀ (pre ls : List Bs) (k : Nat) (out : List (Int × Int)), Good pre → prsL (pre ++ ls) k out = prsL ls (k + pre.length) (out ++ picksOf pre)
  | [], ls, k, out, _ => by simp [picksOf]
  | l :: pre, ls, k, out, h => by
    have hl := h l (by simp)
    have hp : Good pre := fun x hx => h x (List.mem_cons_of_mem _ hx)
    rw [List.cons_append, prsL]
    cases e : lineR l with
    | bad b => exact absurd e (hl b)
    | quiet =>
      simp only
      rw [prsL_app pre ls _ _ hp, List.length_cons, show k + 1 + pre.length = k + (pre.length + 1) by omega]
      simp [picksOf, e, pkOf]
    | pick t o =>
      simp only
      rw [prsL_app pre ls _ _ hp, List.length_cons, show k + 1 + pre.length = k + (pre.length + 1) by omega]
      simp [picksOf, e, pkOf]
end Go.Proofs.YtdneicbbnbbffaaDoor
