import Derived.IntWalk
import Derived.Defers
import Derived.Recover
import Derived.Test.YtaifeejciglkpaaChecked
import Derived.Test.YtaifeejciglkpaaMS8
import Derived.Test.YtaifeejciglkpaaMS9
import Derived.Test.YtaifeejciglkpaaMS7
import Derived.Test.YtaifeejciglkpaaMS6
import Derived.Test.YtaifeejciglkpaaMS5
set_option linter.unusedVariables false
set_option linter.unusedSimpArgs false
namespace Go.Proofs.Ytaifeejciglkpaa
open Go.RowKit
structure KF (w0 : World) (p A : Option Addr) (cp : Nat) (Q : Nat) (nv acs : Array Value) (W : World) (xs : List Int) : Prop where
  only : Only (At A) w0 W
  memo : Memo W p A cp xs
  rn : Row W Q 27 nv
  ra : Row W (Q + 1) 40 acs
  lt : ∀ j, At p j ∨ At A j → j < Q
  hw : w0.heap.size ≤ Q
section
variable {w0 W W' : World} {p A : Option Addr} {cp Q : Nat} {nv acs : Array Value} {xs ys : List Int}
theorem KF.call (h : KF w0 p A cp Q nv acs W xs) (ho : Only (At A) W W') (hm : Memo W' p A cp ys) : KF w0 p A cp Q nv acs W' ys :=
  ⟨h.only.trans ho, hm, h.rn.only ho (fun e => by have := h.lt _ (.inr e); omega), h.ra.only ho (fun e => by have := h.lt _ (.inr e); omega), h.lt, h.hw⟩
theorem KF.keep (h : KF w0 p A cp Q nv acs W xs) (ho : Only Nil W W') : KF w0 p A cp Q nv acs W' xs := h.call (ho.mono (fun _ _ h => h.elim)) (h.memo.keep ho)
theorem KF.setN {a0 a1 a2 a3 : Value} (h : KF w0 p A cp Q #[a0, a1, a2, a3] acs W xs) (v0 v1 v2 v3 : Value) :
    KF w0 p A cp Q #[v0, v1, v2, v3] acs ((((W.setCell ⟨Q, 0, none⟩ v0).setCell ⟨Q, 1, none⟩ v1).setCell ⟨Q, 2, none⟩ v2).setCell ⟨Q, 3, none⟩ v3) xs := by
  have ho := four_only (Only.refl (· = Q) W) (g := Q) (.inr rfl) v0 v1 v2 v3
  exact ⟨four_only h.only (.inl h.hw) _ _ _ _, h.memo.far ho (fun j hj e => by have := h.lt j hj; omega), four h.rn _ _ _ _, h.ra.only ho (fun e => by omega), h.lt, h.hw⟩
theorem KF.setA {a0 a1 a2 a3 a4 : Value} (h : KF w0 p A cp Q nv #[a0, a1, a2, a3, a4] W xs) (v0 v1 v2 v3 v4 : Value) :
    KF w0 p A cp Q nv #[v0, v1, v2, v3, v4] (((((W.setCell ⟨Q + 1, 0, none⟩ v0).setCell ⟨Q + 1, 1, none⟩ v1).setCell ⟨Q + 1, 2, none⟩ v2).setCell ⟨Q + 1, 3, none⟩ v3).setCell ⟨Q + 1, 4, none⟩ v4) xs := by
  have ho := five_only (Only.refl (· = Q + 1) W) (g := Q + 1) (.inr rfl) v0 v1 v2 v3 v4
  exact ⟨five_only h.only (.inl (by have := h.hw; omega)) _ _ _ _ _, h.memo.far ho (fun j hj e => by have := h.lt j hj; omega), h.rn.only ho (fun e => by omega), five h.ra _ _ _ _ _, h.lt, h.hw⟩
theorem KF.start {w W : World} {p A : Option Addr} {cp : Nat} {xs : List Int} (h : Memo w p A cp xs) (hO : Only Nil w W) :
    KF w p A cp W.heap.size #[.bool false, .int .i64 0, .int .i64 0, .bool false] #[.int .i64 0, .int .i64 0, .int .u32 0, .int .u32 0, .int .u32 0] ((W.alloc (.cells #[.bool false, .int .i64 0, .int .i64 0, .bool false] 27)).alloc (.cells #[.int .i64 0, .int .i64 0, .int .u32 0, .int .u32 0, .int .u32 0] 40)) xs := by
  have e0 := (hO.alloc (.cells #[.bool false, .int .i64 0, .int .i64 0, .bool false] 27)).alloc (.cells #[.int .i64 0, .int .i64 0, .int .u32 0, .int .u32 0, .int .u32 0] 40)
  exact ⟨e0.mono (fun _ _ h => h.elim), h.keep e0, (Row.new W _ _).alloc _, Row.new2 W _ _ _, fun j hj => Nat.lt_of_lt_of_le (h.lt j hj) hO.size, hO.size⟩
end
end Go.Proofs.Ytaifeejciglkpaa
set_option linter.unusedVariables false
set_option linter.unusedSimpArgs false
namespace Go.Proofs.Ytaifeejciglkpaa
open Go.RowKit
end Go.Proofs.Ytaifeejciglkpaa
set_option linter.unusedVariables false
set_option linter.unusedSimpArgs false
namespace Go.Proofs.Ytaifeejciglkpaa
open Go.RowKit
structure RunQ (w : World) (B : Nat) (p A : Option Addr) (cp : Nat) (nv : Value) (r : LS) : Prop where
  row : Row w B 43 (r.cells (.pointer p) nv)
  memo : Memo w p A cp r.xs
theorem RunP.q {w : World} {B : Nat} {p A : Option Addr} {cp : Nat} {nv : Value} {r : LS} (h : RunP w B p A cp nv r) : RunQ w B p A cp nv r := ⟨h.row, h.memo⟩
theorem RunQ.far {w : World} {B : Nat} {p A : Option Addr} {cp : Nat} {nv : Value} {r : LS} (h : RunQ w B p A cp nv r) {j : Nat} (hj : At p j ∨ At A j) : j ≠ B := by
  rintro rfl
  obtain ⟨t, cs, hr, ht⟩ := memo_tag h.memo hj
  have e := (h.row.same hr).1
  rcases ht with rfl | rfl <;> exact absurd e (by decide)
end Go.Proofs.Ytaifeejciglkpaa
set_option linter.unusedVariables false
set_option linter.unusedSimpArgs false
namespace Go.Proofs.Ytaifeejciglkpaa
open Go.RowKit
def HoldsAny (fv : Value) (q : Int → Bool) : Prop := ∀ (v : Int) (w : World), 0 ≤ v → v < 4294967296 →
  Calls Try.prog 88 #[fv, .int .u32 v] w fun e w' => e = .returned (.bool (q v)) ∧ Only Nil w w'
def Holds (A : Option Addr) (w0 : World) (fv : Value) (q : Int → Bool) : Prop := ∀ (v : Int) (w : World), Only (At A) w0 w → 0 ≤ v → v < 4294967296 →
  Calls Try.prog 88 #[fv, .int .u32 v] w fun e w' => e = .returned (.bool (q v)) ∧ Only Nil w w'
theorem HoldsAny.at {fv : Value} {q : Int → Bool} (h : HoldsAny fv q) {A : Option Addr} {w0 : World} : Holds A w0 fv q := fun v w _ => h v w
theorem Holds.move {A : Option Addr} {w0 w1 : World} {fv : Value} {q : Int → Bool} (h : Holds A w0 fv q) (ho : Only (At A) w0 w1) : Holds A w1 fv q := fun v w hw => h v w (ho.trans hw)
theorem Holds.move0 {A : Option Addr} {w0 w1 : World} {fv : Value} {q : Int → Bool} (h : Holds A w0 fv q) (ho : Only Nil w0 w1) : Holds A w1 fv q := h.move (ho.mono (fun _ _ h => h.elim))
theorem rec_idle (w : World) :
    CallsD Try.prog 97 #[] .returning w fun e u' w' => e = .returned (.tuple #[]) ∧ u' = .returning ∧ w = w' := by
  refine callsD_of_wpS Try.func97 rfl fun c₀ cs hu => ?_
  apply wpS_region
  simp [wpOpsS, go_sem, recoverD, hu, Try.ntmps97, Exit.thenS]
  cases c₀
  simp_all [bodyPostS, results, Try.results97]
set_option maxRecDepth 100000 in
theorem neq_fn (f : Fn) (first cap : Array Value) (w : World) : (binOp .neq 78 (.func f first cap) .nilFunc).run Try.prog w = .ok (.bool true) w := by
  first | rfl | kernel_rfl
end Go.Proofs.Ytaifeejciglkpaa
