/- A turn's step: its own three blocks. -/
import Derived.Test.YtjdgniconbocnaaWakeM
set_option linter.unusedVariables false
set_option linter.unusedSimpArgs false
namespace Go.Proofs.Ytjdgniconbocnaa
open Go.RowKit

/-- A step's own blocks: the turn, the results. -/
structure TF (w0 : World) (p A : Option Addr) (cp : Nat) (B : Nat) (tv nv acs : Array Value) (W : World) (xs : List Int) : Prop where
  only : Only (At A) w0 W
  memo : Memo W p A cp xs
  rt : Row W B 51 tv
  rn : Row W (B + 1) 24 nv
  ra : Row W (B + 1 + 1) 33 acs
  lt : ∀ j, At p j ∨ At A j → j < B
  hw : w0.heap.size ≤ B

section
variable {w0 W W' : World} {p A : Option Addr} {cp B : Nat} {tv nv acs : Array Value} {xs ys : List Int}
theorem TF.call (h : TF w0 p A cp B tv nv acs W xs) (ho : Only (At A) W W') (hm : Memo W' p A cp ys) : TF w0 p A cp B tv nv acs W' ys :=
  ⟨h.only.trans ho, hm, h.rt.only ho (fun e => by have := h.lt _ (.inr e); omega), h.rn.only ho (fun e => by have := h.lt _ (.inr e); omega), h.ra.only ho (fun e => by have := h.lt _ (.inr e); omega), h.lt, h.hw⟩
theorem TF.keep (h : TF w0 p A cp B tv nv acs W xs) (ho : Only Nil W W') : TF w0 p A cp B tv nv acs W' xs := h.call (ho.mono (fun _ _ h => h.elim)) (h.memo.keep ho)
theorem TF.setN {a0 a1 a2 a3 : Value} (h : TF w0 p A cp B tv #[a0, a1, a2, a3] acs W xs) (v0 v1 v2 v3 : Value) :
    TF w0 p A cp B tv #[v0, v1, v2, v3] acs ((((W.setCell ⟨B + 1, 0, none⟩ v0).setCell ⟨B + 1, 1, none⟩ v1).setCell ⟨B + 1, 2, none⟩ v2).setCell ⟨B + 1, 3, none⟩ v3) xs := by
  have ho := four_only (Only.refl (· = B + 1) W) (g := B + 1) (.inr rfl) v0 v1 v2 v3
  exact ⟨four_only h.only (.inl (by have := h.hw; omega)) _ _ _ _, h.memo.far ho (fun j hj e => by have := h.lt j hj; omega), h.rt.only ho (fun e => by omega), four h.rn _ _ _ _, h.ra.only ho (fun e => by omega), h.lt, h.hw⟩
theorem TF.setA {a0 a1 a2 a3 a4 : Value} (h : TF w0 p A cp B tv nv #[a0, a1, a2, a3, a4] W xs) (v0 v1 v2 v3 v4 : Value) :
    TF w0 p A cp B tv nv #[v0, v1, v2, v3, v4] (((((W.setCell ⟨B + 1 + 1, 0, none⟩ v0).setCell ⟨B + 1 + 1, 1, none⟩ v1).setCell ⟨B + 1 + 1, 2, none⟩ v2).setCell ⟨B + 1 + 1, 3, none⟩ v3).setCell ⟨B + 1 + 1, 4, none⟩ v4) xs := by
  have ho := five_only (Only.refl (· = B + 1 + 1) W) (g := B + 1 + 1) (.inr rfl) v0 v1 v2 v3 v4
  exact ⟨five_only h.only (.inl (by have := h.hw; omega)) _ _ _ _ _, h.memo.far ho (fun j hj e => by have := h.lt j hj; omega), h.rt.only ho (fun e => by omega), h.rn.only ho (fun e => by omega), five h.ra _ _ _ _ _, h.lt, h.hw⟩
theorem TF.far {g : Nat} (h : TF w0 p A cp B tv nv acs W xs) (ho : Only (· = g) W W') (hg : B + 1 + 1 < g) : TF w0 p A cp B tv nv acs W' xs :=
  ⟨h.only.step ho (fun i hi e => by have := h.hw; omega), h.memo.far ho (fun j hj e => by have := h.lt j hj; omega), h.rt.only ho (fun e => by omega), h.rn.only ho (fun e => by omega), h.ra.only ho (fun e => by omega), h.lt, h.hw⟩
theorem TF.start {w : World} {p A : Option Addr} {cp : Nat} {xs : List Int} (tv : Array Value) (h : Memo w p A cp xs) :
    TF w p A cp w.heap.size tv #[.bool false, .int .i64 0, .int .i64 0, .bool false] #[.int .i64 0, .int .i64 0, .int .u32 0, .int .u32 0, .int .u32 0] (((w.alloc (.cells tv 51)).alloc (.cells #[.bool false, .int .i64 0, .int .i64 0, .bool false] 24)).alloc (.cells #[.int .i64 0, .int .i64 0, .int .u32 0, .int .u32 0, .int .u32 0] 33)) xs := by
  have e0 := (((Only.refl Nil w).alloc (.cells tv 51)).alloc (.cells #[.bool false, .int .i64 0, .int .i64 0, .bool false] 24)).alloc (.cells #[.int .i64 0, .int .i64 0, .int .u32 0, .int .u32 0, .int .u32 0] 33)
  refine ⟨e0.mono (fun _ _ h => h.elim), h.keep e0, ((Row.new w _ _).alloc _).alloc _, (Row.new2 w _ _ _).alloc _, ?_, h.lt, Nat.le_refl _⟩
  have e := Row.new2 (w.alloc (.cells tv 51)) (.cells #[.bool false, .int .i64 0, .int .i64 0, .bool false] 24) 33 #[.int .i64 0, .int .i64 0, .int .u32 0, .int .u32 0, .int .u32 0]
  rwa [show (w.alloc (.cells tv 51)).heap.size = w.heap.size + 1 by simp] at e
end

/-- What a turn's step leaves: the wake-up behind it, the access, was it done. -/
def Turned (p A : Option Addr) (cp : Nat) (nx : WkV) (acc : Value) (ok : Bool) (ys : List Int) (w : World) (e : Ending) (w' : World) : Prop :=
  e = .returned (.tuple #[nx.v, acc, .bool ok]) ∧ Only (At A) w w' ∧ Memo w' p A cp ys
end Go.Proofs.Ytjdgniconbocnaa
