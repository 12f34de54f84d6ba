/- A whole wake-up, plainly: the words with the watches, the words with the permits given, where a wake-up stands. -/
import Derived.Test.YtjdgniconbocnaaWakeM
set_option linter.unusedVariables false
set_option linter.unusedSimpArgs false
namespace Go.Proofs.Ytjdgniconbocnaa
open Go.RowKit

/-- So many words of 0, with the first k watches. -/
def wl (ws : List Int) (n : Nat) : Nat → List Int
  | 0 => List.replicate (8 + 4 * n) 0
  | k + 1 => (wl ws n k).set (8 + 2 * n + k) (ws.getD k 0)

/-- These words, with the permits of those of the first k tasks that watch the cell c. -/
def pl (L ws : List Int) (n : Nat) (c : Int) : Nat → List Int
  | 0 => L
  | k + 1 => if ws.getD k 0 = c + 1 then (pl L ws n c k).set (8 + 3 * n + k) 1 else pl L ws n c k

theorem wl_len (ws : List Int) (n k : Nat) : (wl ws n k).length = 8 + 4 * n := by
  induction k with
  | zero => simp [wl]
  | succ k ih => simp [wl, ih]

theorem pl_len (L ws : List Int) (n : Nat) (c : Int) (k : Nat) : (pl L ws n c k).length = L.length := by
  induction k with
  | zero => rfl
  | succ k ih => simp only [pl]; split <;> simp [ih]

theorem getD_set (xs : List Int) (i j : Nat) (v : Int) : (xs.set i v).getD j 0 = if i = j ∧ j < xs.length then v else xs.getD j 0 := by
  simp only [List.getD, List.getElem?_set]
  by_cases h : i = j
  · subst h
    by_cases h2 : i < xs.length
    · simp [h2]
    · simp [h2, List.getElem?_eq_none (by omega : xs.length ≤ i)]
  · simp [h]

theorem wl_at (ws : List Int) (n k j : Nat) (h : j < k) (hk : k ≤ n) : (wl ws n k).getD (8 + 2 * n + j) 0 = ws.getD j 0 := by
  induction k with
  | zero => omega
  | succ k ih =>
    simp only [wl]
    rw [getD_set]
    by_cases e : k = j
    · subst e
      rw [if_pos ⟨rfl, by rw [wl_len]; omega⟩]
    · rw [if_neg (by omega)]
      exact ih (by omega) (by omega)

theorem pl_at (L ws : List Int) (n : Nat) (c : Int) (k j : Nat) (hj : j < n) : (pl L ws n c k).getD (8 + 2 * n + j) 0 = L.getD (8 + 2 * n + j) 0 := by
  induction k with
  | zero => rfl
  | succ k ih =>
    simp only [pl]
    split
    · rw [getD_set, if_neg (by omega)]; exact ih
    · exact ih

/-- Where a wake-up stands behind s steps: it looks at the task i, or it gives i its permit, or all is done. -/
def WInv (ws : List Int) (n : Nat) (c : Int) (s : Nat) (k : WkV) (xs : List Int) : Prop :=
  (∃ i : Nat, i < n ∧ k = ⟨true, c, i, false⟩ ∧ i ≤ s ∧ s ≤ 2 * i ∧ xs = pl (wl ws n n) ws n c i) ∨
  (∃ i : Nat, i < n ∧ ws.getD i 0 = c + 1 ∧ k = ⟨true, c, i, true⟩ ∧ i + 1 ≤ s ∧ s ≤ 2 * i + 1 ∧ xs = pl (wl ws n n) ws n c i) ∨
  (k = wk0 ∧ n ≤ s ∧ s ≤ 2 * n ∧ xs = pl (wl ws n n) ws n c n)

theorem WInv.len {ws : List Int} {n : Nat} {c : Int} {s : Nat} {k : WkV} {xs : List Int} (h : WInv ws n c s k xs) : xs.length = 8 + 4 * n := by
  rcases h with ⟨i, _, _, _, _, rfl⟩ | ⟨i, _, _, _, _, _, rfl⟩ | ⟨_, _, _, rfl⟩ <;> rw [pl_len, wl_len]

theorem WInv.start (ws : List Int) (n : Nat) (c : Int) (hn : 1 ≤ n) : WInv ws n c 0 ⟨true, c, 0, false⟩ (wl ws n n) :=
  .inl ⟨0, by omega, rfl, by omega, by omega, rfl⟩

theorem next_inv {ws : List Int} {n : Nat} {c : Int} {s i : Nat} {xs : List Int} (hi : i < n) (h1 : i + 1 ≤ s) (h2 : s ≤ 2 * (i + 1)) (hx : xs = pl (wl ws n n) ws n c (i + 1)) : WInv ws n c s (nextI n c i) xs := by
  unfold nextI
  by_cases e : (i : Int) + 1 = n
  · rw [if_pos e]
    have e' : i + 1 = n := by omega
    exact .inr (.inr ⟨rfl, by omega, by omega, by rw [hx, e']⟩)
  · rw [if_neg e]
    exact .inl ⟨i + 1, by omega, rfl, by omega, by omega, hx⟩

/-- A step: it is one of the wake-up's, it does an access, and the wake-up stands right behind it. -/
theorem WInv.step {ws : List Int} {n : Nat} {c : Int} {s : Nat} {xs : List Int} {k : WkV} (hn : n ≤ 64) (hc : 0 ≤ c ∧ c < 256) (h : WInv ws n c s k xs) (hon : k.on = true) :
    s < 2 * n ∧ ∃ (nx : WkV) (ys : List Int) (ka ca xa ya oa : Int), wakeI xs n true k.c k.i k.hit = ⟨nx, .agg #[.int .i64 ka, .int .i64 ca, .int .u32 xa, .int .u32 ya, .int .u32 oa], ys⟩ ∧ ka ≠ 0 ∧ WInv ws n c (s + 1) nx ys := by
  have hlen := h.len
  have hmod : (c + 1) % 4294967296 = c + 1 := by omega
  rcases h with ⟨i, hi, rfl, h1, h2, rfl⟩ | ⟨i, hi, hw, rfl, h1, h2, rfl⟩ | ⟨rfl, _, _, _⟩
  · refine ⟨by omega, ?_⟩
    have hcell : wc n i = ((8 + 2 * n + i : Nat) : Int) := by unfold wc cellI; rw [if_pos (by omega)]; push_cast; rfl
    have ht : there (pl (wl ws n n) ws n c i) (wc n i) = true := by
      rw [hcell]; simp only [there, decide_eq_true_eq, hlen]; omega
    have hword : wordAt (pl (wl ws n n) ws n c i) (wc n i) = ws.getD i 0 := by
      unfold wordAt
      rw [ht, if_pos rfl, hcell, Int.toNat_natCast, pl_at _ _ _ _ _ _ hi, wl_at _ _ _ _ hi (Nat.le_refl _)]
    have hok : doOk (pl (wl ws n n) ws n c i) 1 (wc n i) = true := by simp [doOk, ht, isKind]
    have hacc : doVal (pl (wl ws n n) ws n c i) 1 (wc n i) 0 0 = .agg #[.int .i64 1, .int .i64 (wc n i), .int .u32 0, .int .u32 0, .int .u32 (ws.getD i 0)] := by
      unfold doVal accOf; rw [hok, if_pos rfl, hword]
    show ∃ nx ys ka ca xa ya oa, lookI _ n c i = _ ∧ _
    unfold lookI
    rw [ht, if_pos rfl, hword, hmod, hacc]
    by_cases e : ws.getD i 0 = c + 1
    · rw [if_pos e]
      exact ⟨_, _, _, _, _, _, _, rfl, by decide, .inr (.inl ⟨i, hi, e, rfl, by omega, by omega, rfl⟩)⟩
    · rw [if_neg e]
      exact ⟨_, _, _, _, _, _, _, rfl, by decide, next_inv hi (by omega) (by omega) (by simp only [pl]; rw [if_neg e])⟩
  · refine ⟨by omega, ?_⟩
    have hcell : pc n i = ((8 + 3 * n + i : Nat) : Int) := by unfold pc cellI; rw [if_pos (by omega)]; push_cast; rfl
    have ht : there (pl (wl ws n n) ws n c i) (pc n i) = true := by
      rw [hcell]; simp only [there, decide_eq_true_eq, hlen]; omega
    have hok : doOk (pl (wl ws n n) ws n c i) 2 (pc n i) = true := by simp [doOk, ht, isKind]
    have hacc : doVal (pl (wl ws n n) ws n c i) 2 (pc n i) 1 0 = .agg #[.int .i64 2, .int .i64 (pc n i), .int .u32 1, .int .u32 0, .int .u32 (wordAt (pl (wl ws n n) ws n c i) (pc n i))] := by
      unfold doVal accOf; rw [hok, if_pos rfl]
    have hst : st (pl (wl ws n n) ws n c i) (pc n i) 1 = (pl (wl ws n n) ws n c i).set (8 + 3 * n + i) 1 := by
      unfold st; rw [ht, if_pos rfl, hcell, Int.toNat_natCast]
    show ∃ nx ys ka ca xa ya oa, giveI _ n c i = _ ∧ _
    unfold giveI
    rw [ht, if_pos rfl, hacc, hst]
    exact ⟨_, _, _, _, _, _, _, rfl, by decide, next_inv hi (by omega) (by omega) (by simp only [pl]; rw [if_pos hw])⟩
  · simp [wk0] at hon

theorem WInv.done {ws : List Int} {n : Nat} {c : Int} {s : Nat} {xs : List Int} {k : WkV} (h : WInv ws n c s k xs) (hon : k.on = false) : k = wk0 ∧ n ≤ s ∧ s ≤ 2 * n ∧ xs = pl (wl ws n n) ws n c n := by
  rcases h with ⟨i, _, rfl, _⟩ | ⟨i, _, _, rfl, _⟩ | h
  · simp at hon
  · simp at hon
  · exact h
end Go.Proofs.Ytjdgniconbocnaa
