/- A memory, and the answer's list beside it. -/
import Derived.Test.YtjdgniconbocnaaWaitM
import Derived.Test.YtjdgniconbocnaaRefC
set_option linter.unusedVariables false
set_option linter.unusedSimpArgs false
namespace Go.Proofs.Ytjdgniconbocnaa
open Go.RowKit

/-- A memory of the words xs that was made from block L on (since w0) ahead of block M, and a list of the words ys that was made from block B on, ahead of block C. -/
structure Pr (w0 : World) (L M B C : Nat) (p A : Option Addr) (cp : Nat) (A2 : Option Addr) (c2 : Nat) (w : World) (xs ys : List Int) : Prop where
  only : Only Nil w0 w
  memo : Memo w p A cp xs
  own : Own w B A2 c2 ys
  far : ∀ j, At p j ∨ At A j → L ≤ j ∧ j < M
  lt : ∀ j, At A2 j → j < C
  mb : M ≤ B
  hw : w0.heap.size ≤ L
  hl : L ≤ M

section
variable {w0 w w' : World} {L M B C cp c2 g : Nat} {p A A2 : Option Addr} {xs ys zs : List Int} {S : Nat → Prop} {t : TypeId} {cs : Array Value}
theorem Pr.keep (h : Pr w0 L M B C p A cp A2 c2 w xs ys) (ho : Only Nil w w') : Pr w0 L M B C p A cp A2 c2 w' xs ys :=
  ⟨h.only.trans ho, h.memo.keep ho, h.own.only ho (fun _ _ => id), h.far, h.lt, h.mb, h.hw, h.hl⟩
theorem Pr.prog (h : Pr w0 L M B C p A cp A2 c2 w xs ys) (ho : Only (At A) w w') (hm : Memo w' p A cp zs) : Pr w0 L M B C p A cp A2 c2 w' zs ys :=
  ⟨h.only.step ho (fun i hi hA => by have := (h.far i (.inr hA)).1; have := h.hw; omega), hm, h.own.only ho (fun j hj hA => by have := (h.far j (.inr hA)).2; have := h.own.base j hj; have := h.mb; omega), h.far, h.lt, h.mb, h.hw, h.hl⟩
theorem Pr.answ (h : Pr w0 L M B C p A cp A2 c2 w xs ys) (ho : Only (At A2) w w') (hw : Own w' B A2 c2 zs) : Pr w0 L M B C p A cp A2 c2 w' xs zs :=
  ⟨h.only.step ho (fun i hi hA => by have := h.own.base i hA; have := h.mb; have := h.hw; have := h.hl; omega), h.memo.far ho (fun j hj hA => by have := (h.far j hj).2; have := h.own.base j hA; have := h.mb; omega), hw, h.far, h.lt, h.mb, h.hw, h.hl⟩
theorem Pr.far_prog (h : Pr w0 L M B C p A cp A2 c2 w xs ys) (hg : g < L ∨ M ≤ g) : ¬ At A g := fun e => by have := h.far g (.inr e); omega
theorem Pr.far_answ (h : Pr w0 L M B C p A cp A2 c2 w xs ys) (hg : g < B ∨ C ≤ g) : ¬ At A2 g := fun e => by have := h.own.base g e; have := h.lt g e; omega
end

/-- What a step's access is: a zero one, and nothing was done, or one that was done on a cell of the task's own, or loaded the cell. -/
theorem step_access (xs : List Int) (n mode i s c : Int) (q : Int → Bool) : ∃ ka ca xa ya oa : Int, (stepI xs n mode i s c q).acc = .agg #[.int .i64 ka, .int .i64 ca, .int .u32 xa, .int .u32 ya, .int .u32 oa] ∧
    ((ka = 0 ∧ ca = 0 ∧ xa = 0 ∧ ya = 0 ∧ oa = 0 ∧ (stepI xs n mode i s c q).xs = xs) ∨
     (ka ≠ 0 ∧ doVal xs ka ca xa ya = .agg #[.int .i64 ka, .int .i64 ca, .int .u32 xa, .int .u32 ya, .int .u32 oa] ∧ doOk xs ka ca = true ∧ doNew xs ka ca xa ya = (stepI xs n mode i s c q).xs ∧ (ca = wc n i ∨ ca = pc n i ∨ (ka = 1 ∧ ca = c)))) := by
  have ld : ∀ r : StepR, r.acc = doVal xs 1 c 0 0 → r.xs = xs → ∃ ka ca xa ya oa : Int, r.acc = .agg #[.int .i64 ka, .int .i64 ca, .int .u32 xa, .int .u32 ya, .int .u32 oa] ∧
      ((ka = 0 ∧ ca = 0 ∧ xa = 0 ∧ ya = 0 ∧ oa = 0 ∧ r.xs = xs) ∨ (ka ≠ 0 ∧ doVal xs ka ca xa ya = .agg #[.int .i64 ka, .int .i64 ca, .int .u32 xa, .int .u32 ya, .int .u32 oa] ∧ doOk xs ka ca = true ∧ doNew xs ka ca xa ya = r.xs ∧ (ca = wc n i ∨ ca = pc n i ∨ (ka = 1 ∧ ca = c)))) := fun r h1 h2 => by
    cases hk : doOk xs 1 c
    · exact ⟨0, 0, 0, 0, 0, by rw [h1]; simp [doVal, hk, accOf], .inl ⟨rfl, rfl, rfl, rfl, rfl, h2⟩⟩
    · exact ⟨1, c, 0, 0, wordAt xs c, by rw [h1]; simp [doVal, hk, accOf], .inr ⟨by decide, by simp [doVal, hk, accOf], hk, by rw [doNew_load, h2], .inr (.inr ⟨rfl, rfl⟩)⟩⟩
  have sw : ∀ (r : StepR) (v : Int), r.acc = doVal xs 2 (wc n i) v 0 → r.xs = st xs (wc n i) v → ∃ ka ca xa ya oa : Int, r.acc = .agg #[.int .i64 ka, .int .i64 ca, .int .u32 xa, .int .u32 ya, .int .u32 oa] ∧
      ((ka = 0 ∧ ca = 0 ∧ xa = 0 ∧ ya = 0 ∧ oa = 0 ∧ r.xs = xs) ∨ (ka ≠ 0 ∧ doVal xs ka ca xa ya = .agg #[.int .i64 ka, .int .i64 ca, .int .u32 xa, .int .u32 ya, .int .u32 oa] ∧ doOk xs ka ca = true ∧ doNew xs ka ca xa ya = r.xs ∧ (ca = wc n i ∨ ca = pc n i ∨ (ka = 1 ∧ ca = c)))) := fun r v h1 h2 => by
    cases hk : doOk xs 2 (wc n i)
    · have ht : there xs (wc n i) = false := by simpa [doOk, isKind] using hk
      exact ⟨0, 0, 0, 0, 0, by rw [h1]; simp [doVal, hk, accOf], .inl ⟨rfl, rfl, rfl, rfl, rfl, by rw [h2]; simp [st, ht]⟩⟩
    · exact ⟨2, wc n i, v, 0, wordAt xs (wc n i), by rw [h1]; simp [doVal, hk, accOf], .inr ⟨by decide, by simp [doVal, hk, accOf], hk, by rw [h2, doNew_st xs 2 _ _ 0 rfl]; rfl, .inl rfl⟩⟩
  unfold stepI
  split
  · exact ld _ rfl rfl
  split
  · exact sw _ _ rfl rfl
  split
  · exact ld _ rfl rfl
  split
  · cases hp : hasP xs n i
    · exact ⟨0, 0, 0, 0, 0, by simp [takeVal, hp, accOf], .inl ⟨rfl, rfl, rfl, rfl, rfl, st_none hp⟩⟩
    · have ht := hasP_there hp
      have hok : doOk xs 4 (pc n i) = true := by simp [doOk, isKind, ht]
      exact ⟨4, pc n i, 0, 0, wordAt xs (pc n i), by simp [takeVal, hp, accOf], .inr ⟨by decide, by simp [doVal, hok, accOf], hok, by rw [doNew_st xs 4 _ _ 0 rfl]; rfl, .inr (.inl rfl)⟩⟩
  split
  · exact sw _ _ rfl rfl
  · exact ld _ rfl rfl
end Go.Proofs.Ytjdgniconbocnaa
