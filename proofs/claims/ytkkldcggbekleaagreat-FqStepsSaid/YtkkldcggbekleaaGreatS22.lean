import Derived.Test.YtkkldcggbekleaaGreatS21
set_option linter.unusedVariables false
set_option linter.unusedSimpArgs false
namespace Go.Proofs.YtkkldcggbekleaaGreat
def wtQ : WtG := fun n task op line _ _ =>
  if (op = 1 ∨ op = 3) ∧ line = 4 then some (bc n task, isZ) else if op = 3 ∧ line = 5 then some (1, isZ)
  else if ((op = 1 ∨ op = 5 ∨ op = 6 ∨ op = 7) ∧ line = 8) ∨ (op = 4 ∧ line = 2) ∨ (op = 8 ∧ line = 3) then some (nc n task, isN) else none
section
variable {r : LS} {cl a : Int} {ok : Bool} {w : List Int} {j : Nat}
end
structure FqMv (k : Nat) (mode : Int) (t : Nat) (s : QS) (qp c : Nat → Nat) (m : MV) (R : LS) (s' : QS) (qp' c' : Nat) : Prop where
  q : QOK k s'
  w : WordsT 0 k R.xs s'
  oth : OthQ mode k t s s' R.k
  f : FT (R.finH (m.hold t)) R.finR.op R.finR.line R.finR.ret R.finR.k.on qp' c'
  tq : TQ s' t qp' R.finR.a R.finR.s
  n : wordAt R.xs 1 = (sumN (upd c t c') k : Nat)
  z : (R.finH (m.hold t) = 2 ∨ (R.finR.op = 3 ∧ R.finR.line = 5 ∧ R.finR.s = 4)) → sumN (upd c t c') k = 0
  o : R.finR.op = 7 → R.finR.line = 3 → R.finR.ret = 0 → sumN (upd c t c') k = 1
  mv : c' = c t ∨ qp t = 6 ∨ (c t = 1 ∧ c' = 0 ∧ R.k = beginI mode 1)
  far : (m.rs t).k.on = false → wtR wtQ (m.rs t) = none → ∀ d : Int, 8 + 2 * (k : Int) ≤ d → wordAt R.xs d = wordAt m.xs d
section
variable {k t : Nat} {mode : Int} {s s' : QS} {qp c : Nat → Nat} {m : MV} {R : LS} {qp' c' : Nat}
theorem FqMv.keep (g : FqMv k mode t s qp c m R s' qp' c') (h : FqI k s qp c m) (ht : t < k) : FqI k s' (upd qp t qp') (upd c t c') ⟨upd m.rs t R.finR, upd m.hold t (R.finH (m.hold t)), R.xs⟩ :=
  h.set1 ht g.q g.w g.oth g.f g.tq g.n g.z g.o (by rcases g.mv with e | e | ⟨e1, e2, _⟩; exact .inl e; exact .inr (.inl e); exact .inr (.inr ⟨e1, e2⟩))
end
end Go.Proofs.YtkkldcggbekleaaGreat
set_option linter.unusedVariables false
set_option linter.unusedSimpArgs false
namespace Go.Proofs.YtkkldcggbekleaaGreat
theorem TQ.any {s : QS} {i p : Nat} {a st a' st' : Int} (h : TQ s i p a st) (hp : p = 0 ∨ p = 6) : TQ s i p a' st' := by
  rcases hp with rfl | rfl
  · cases h with
    | out hp => exact .out hp
  · cases h with
    | own hp => exact .own hp
theorem GiveK.idle {h op a : Int} {ok : Bool} {w : List Int} {c : Nat} (g : GiveK h op a ok w c) (on : Bool) : FT (behindI op (if ok then 2 else 1) h) 0 0 0 on 0 c ∧ behindI op (if ok then 2 else 1) h ≠ 2 := by
  cases g with
  | r1 => exact ⟨.idle1 rfl rfl rfl rfl rfl, by decide⟩
  | r5 => exact ⟨.idle1 rfl rfl rfl rfl rfl, by decide⟩
  | u4 => exact ⟨.idle0 rfl rfl rfl rfl rfl, by decide⟩
  | l6 => exact ⟨.idle0 rfl rfl rfl rfl rfl, by decide⟩
  | t7 => exact ⟨.idle1 rfl rfl rfl rfl rfl, by decide⟩
  | d8 => exact ⟨.idle1 rfl rfl rfl rfl rfl, by decide⟩
theorem AtQ.step {tc mode : Int} {k t : Nat} {s : QS} {r : LS} (h : AtQ tc mode k t s r) (c : Int) (q : Int → Bool) : r.stepR c q = stepI r.xs k mode t r.s c q := by
  unfold LS.stepR; rw [h.n, h.mode, h.task]
section
variable {k t : Nat} {mode : Int} {s : QS} {qp c : Nat → Nat} {m : MV} {R r : LS} {qp' : Nat} {pl : Bool}
end
end Go.Proofs.YtkkldcggbekleaaGreat
