/- WaitWakes: a lock of one task, and what waits for it; the deeds that came in. -/
import Derived.Test.YtmhbidokpboomaaWaitV
import Derived.Test.YtmhbidokpboomaaTab
import Derived.Test.YtmhbidokpboomaaChecked
set_option linter.unusedVariables false
set_option linter.unusedSimpArgs false
namespace Go.Proofs.Ytmhbidokpboomaa
open Go.RowKit

/-- The memory of one task's lock, its map and its stage in blocks of their own, and what is waited for. -/
structure Wk (w0 : World) (B L gm b : Nat) (A : Option Addr) (cp : Nat) (k mk x s v t p : Int) (w : World) : Prop where
  only : Only Nil w0 w
  memo : Memo w (some ⟨b, 0, none⟩) A cp (V v t p)
  ru : Row w B 27 #[.int .i64 k, .int .u32 mk, .int .u32 x]
  rm : Row w gm 34 #[.int .i64 1]
  rs : Row w (gm + 1) 24 #[.int .i64 s]
  far : ∀ j, At (some (⟨b, 0, none⟩ : Addr)) j ∨ At A j → L ≤ j ∧ j < gm
  hw : w0.heap.size ≤ B
  hl : B < L
  hm : L ≤ gm

section
variable {w0 w w' : World} {B L gm b cp : Nat} {A : Option Addr} {k mk x s v t p v' t' p' : Int}
theorem Wk.call (h : Wk w0 B L gm b A cp k mk x s v t p w) (ho : Only (At A) w w') (hm : Memo w' (some ⟨b, 0, none⟩) A cp (V v' t' p')) : Wk w0 B L gm b A cp k mk x s v' t' p' w' :=
  ⟨h.only.step ho (fun i hi hA => by have := (h.far i (.inr hA)).1; have := h.hw; have := h.hl; omega), hm, h.ru.only ho (fun e => by have := (h.far _ (.inr e)).1; have := h.hl; omega), h.rm.only ho (fun e => by have := (h.far _ (.inr e)).2; omega), h.rs.only ho (fun e => by have := (h.far _ (.inr e)).2; omega), h.far, h.hw, h.hl, h.hm⟩
theorem Wk.keep (h : Wk w0 B L gm b A cp k mk x s v t p w) (ho : Only Nil w w') : Wk w0 B L gm b A cp k mk x s v t p w' := h.call (ho.mono (fun _ _ h => h.elim)) (h.memo.keep ho)
theorem Wk.set (h : Wk w0 B L gm b A cp k mk x s v t p w) (u : Int) : Wk w0 B L gm b A cp k mk x u v t p (w.setCell ⟨gm + 1, 0, none⟩ (.int .i64 u)) := by
  have ho := (Only.refl (· = gm + 1) w).setCell (p := ⟨gm + 1, 0, none⟩) (.inr rfl) (.int .i64 u)
  exact ⟨h.only.setCell (.inl (by have := h.hw; have := h.hl; have := h.hm; show w0.heap.size ≤ gm + 1; omega)) _, h.memo.far ho (fun j hj e => by have := (h.far j hj).2; omega), h.ru.only ho (fun e => by have := h.hl; have := h.hm; omega), h.rm.only ho (fun e => by omega), h.rs.set 0 _, h.far, h.hw, h.hl, h.hm⟩
theorem Wk.mem (h : Wk w0 B L gm b A cp k mk x s v t p w) : Mem w b A cp (V v t p) := h.memo.mem
end

/-- The deeds that came in: element by element. -/
def IsDeeds (w : World) (A : Option Addr) (len : Nat) : Prop := ∀ i, i < len → ∃ b q k y, A = some ⟨b, q, none⟩ ∧ b < w.heap.size ∧
  w.cell? ⟨b, q + i * 2, none⟩ = some (.int .i64 k) ∧ w.cell? ⟨b, q + i * 2 + 1, none⟩ = some (.int .u32 y) ∧ 0 ≤ y ∧ y < 4294967296

theorem isDeeds_of {H : Type} {enc : TypeId × Value → H} {w : World} {base : Nat} {spare : Nat → Bool} {held : Bool} {fuel len cap : Nat} {A : Option Addr} {x : DataW H × List MemPlace}
    (h : DataW.trod enc Try.prog w base spare held fuel 47 [.slice A len cap] = some x) : IsDeeds w A len := by
  intro i hi
  obtain ⟨b, o, hA, hb, hf⟩ := open_tab Try.underlying47 Try.underlying51 (by kernel_rfl) (by kernel_rfl) (by decide) h i hi
  obtain ⟨v0, n0, y0, c0, t0⟩ := hf 0 _ rfl
  obtain ⟨v1, n1, y1, c1, t1⟩ := hf 1 _ rfl
  obtain ⟨z0, e0, _, _⟩ := DataW.trod_int Try.underlying3 t0
  obtain ⟨z1, e1, _, wz⟩ := DataW.trod_int Try.underlying25 t1
  simp only [List.cons.injEq, and_true] at e0 e1
  subst e0 e1
  exact ⟨b, o, z0, z1, hA, hb, c0, c1, wf_u32 wz⟩
end Go.Proofs.Ytmhbidokpboomaa
