/- ParkPlays: a memory and the answer's list beside it; the calls that came in. -/
import Derived.Test.YtcdndaobdhbplaaParkAw
import Derived.Test.YtcdndaobdhbplaaParkRef
import Derived.Test.YtcdndaobdhbplaaTab
set_option linter.unusedVariables false
set_option linter.unusedSimpArgs false
namespace Go.Proofs.Ytcdndaobdhbplaa
open Go.RowKit

/-- The memory's words xs, and the answer's words ys in a list of their own, made behind block B. -/
structure Two (w0 : World) (B : Nat) (p A : Option Addr) (cp : Nat) (n : Int) (base : Nat) (A2 : Option Addr) (c2 : Nat) (w : World) (xs ys : List Int) : Prop where
  lk : Lk w0 B p A cp n w xs
  own : Own w base A2 c2 ys
  hb : B < base
  hw : w0.heap.size ≤ B

section
variable {w0 w w' : World} {B cp base c2 : Nat} {p A A2 : Option Addr} {n : Int} {xs ys zs : List Int} {S : Nat → Prop}
/-- The blocks that it lies in. -/
def Those (p A A2 : Option Addr) (B : Nat) : Nat → Prop := fun j => At p j ∨ At A j ∨ At A2 j ∨ j = B
theorem Two.lt (h : Two w0 B p A cp n base A2 c2 w xs ys) : ∀ j, Those p A A2 B j → j < w.heap.size := by
  rintro j (hj | hj | hj | rfl)
  · exact h.lk.memo.lt j (.inl hj)
  · exact h.lk.memo.lt j (.inr hj)
  · exact h.own.lt j hj
  · exact h.lk.map.lt
theorem Two.far (h : Two w0 B p A cp n base A2 c2 w xs ys) (ho : Only S w w') (hS : ∀ j, Those p A A2 B j → ¬ S j) (hs : ∀ j, S j → w0.heap.size ≤ j) : Two w0 B p A cp n base A2 c2 w' xs ys :=
  ⟨⟨h.lk.only.step ho (fun i hi hi2 => by have := hs i hi2; omega), h.lk.memo.far ho (fun j hj => hS j (hj.elim .inl (fun h => .inr (.inl h)))), h.lk.map.only ho (hS B (.inr (.inr (.inr rfl)))), h.lk.far⟩,
   h.own.only ho (fun j hj => hS j (.inr (.inr (.inl hj)))), h.hb, h.hw⟩
theorem Two.keep (h : Two w0 B p A cp n base A2 c2 w xs ys) (ho : Only Nil w w') : Two w0 B p A cp n base A2 c2 w' xs ys := h.far ho (fun _ _ => id) (fun _ h => h.elim)
theorem Two.prog (h : Two w0 B p A cp n base A2 c2 w xs ys) (ho : Only (At A) w w') (hm : Memo w' p A cp zs) : Two w0 B p A cp n base A2 c2 w' zs ys :=
  ⟨h.lk.call ho hm, h.own.only ho (fun j hj hA => by have := (h.lk.far j (.inr hA)).2; have := h.own.base j hj; have := h.hb; omega), h.hb, h.hw⟩
theorem Two.answ (h : Two w0 B p A cp n base A2 c2 w xs ys) (ho : Only (At A2) w w') (hw : Own w' base A2 c2 zs) : Two w0 B p A cp n base A2 c2 w' xs zs :=
  ⟨⟨h.lk.only.step ho (fun i hi hA => by have := h.own.base i hA; have := h.hb; have := h.hw; omega),
    h.lk.memo.far ho (fun j hj hA => by have := (h.lk.far j hj).2; have := h.own.base j hA; have := h.hb; omega),
    h.lk.map.only ho (fun hA => by have := h.own.base _ hA; have := h.hb; omega), h.lk.far⟩, hw, h.hb, h.hw⟩
/-- Behind five stores into a block that is none of its own. -/
theorem Two.five (h : Two w0 B p A cp n base A2 c2 w xs ys) {g : Nat} (hg : ∀ j, Those p A A2 B j → j < g) (hg0 : w0.heap.size ≤ g) (v0 v1 v2 v3 v4 : Value) :
    Two w0 B p A cp n base A2 c2 (((((w.setCell ⟨g, 0, none⟩ v0).setCell ⟨g, 1, none⟩ v1).setCell ⟨g, 2, none⟩ v2).setCell ⟨g, 3, none⟩ v3).setCell ⟨g, 4, none⟩ v4) xs ys :=
  h.far (five_only (Only.refl (· = g) w) (.inr rfl) v0 v1 v2 v3 v4) (fun j hj e => by have := hg j hj; omega) (fun j e => by omega)
end
theorem five_far {w : World} {g q : Nat} {t : TypeId} {cs : Array Value} (h : Row w q t cs) (hq : q ≠ g) (v0 v1 v2 v3 v4 : Value) :
    Row (((((w.setCell ⟨g, 0, none⟩ v0).setCell ⟨g, 1, none⟩ v1).setCell ⟨g, 2, none⟩ v2).setCell ⟨g, 3, none⟩ v3).setCell ⟨g, 4, none⟩ v4) q t cs :=
  h.only (five_only (Only.refl (· = g) w) (.inr rfl) v0 v1 v2 v3 v4) hq

/-- What a call of Take tells, field by field. -/
theorem takeVal_form (xs : List Int) (n i : Int) : ∃ k c x y o, takeVal xs n i = .agg #[.int .i64 k, .int .i64 c, .int .u32 x, .int .u32 y, .int .u32 o] := by
  unfold takeVal accOf
  split
  · exact ⟨_, _, _, _, _, rfl⟩
  · exact ⟨_, _, _, _, _, rfl⟩
theorem giveVal_form (xs : List Int) (n i : Int) : ∃ k c x y o, doVal xs 2 (pc n i) 1 0 = .agg #[.int .i64 k, .int .i64 c, .int .u32 x, .int .u32 y, .int .u32 o] := by
  obtain ⟨k, c, x, y, h⟩ := doVal_form xs 2 (pc n i) 1 0
  exact ⟨k, c, x, y, _, h⟩

/-- The calls that came in: element by element. -/
def IsOps (w : World) (A : Option Addr) (len : Nat) : Prop := ∀ i, i < len → ∃ b q k t, A = some ⟨b, q, none⟩ ∧ b < w.heap.size ∧
  w.cell? ⟨b, q + i * 2, none⟩ = some (.int .i64 k) ∧ w.cell? ⟨b, q + i * 2 + 1, none⟩ = some (.int .i64 t)

theorem isOps_of {H : Type} {enc : TypeId × Value → H} {w : World} {base : Nat} {spare : Nat → Bool} {held : Bool} {fuel len cap : Nat} {A : Option Addr} {x : DataW H × List MemPlace}
    (h : DataW.trod enc Try.prog w base spare held fuel 23 [.slice A len cap] = some x) : IsOps w A len := by
  intro i hi
  obtain ⟨b, o, hA, hb, hf⟩ := open_tab Try.underlying23 Try.underlying33 (by kernel_rfl) (by kernel_rfl) (by decide) h i hi
  obtain ⟨v0, n0, y0, c0, t0⟩ := hf 0 _ rfl
  obtain ⟨v1, n1, y1, c1, t1⟩ := hf 1 _ rfl
  obtain ⟨z0, e0, _, _⟩ := DataW.trod_int Try.underlying3 t0
  obtain ⟨z1, e1, _, _⟩ := DataW.trod_int Try.underlying3 t1
  simp only [List.cons.injEq, and_true] at e0 e1
  subst e0 e1
  exact ⟨b, o, z0, z1, hA, hb, c0, c1⟩
end Go.Proofs.Ytcdndaobdhbplaa
