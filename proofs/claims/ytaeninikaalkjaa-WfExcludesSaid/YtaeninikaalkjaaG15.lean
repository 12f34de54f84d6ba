import Derived.Test.YtaeninikaalkjaaG14
import Derived.Test.YtaeninikaalkjaaG9
import Derived.Test.YtaeninikaalkjaaG8
set_option linter.unusedVariables false
set_option linter.unusedSimpArgs false
namespace Go.Proofs.Ytaeninikaalkjaa
theorem waitq_facts {xs : List Int} {n mode i s c : Int} {q : Int → Bool} : ((stepI xs n mode i s c q).done = true → ((stepI xs n mode i s c q).seen = true ∧ q (wordAt xs c) = true) ∨ (s = 4 ∧ (stepI xs n mode i s c q).seen = false)) ∧ ((stepI xs n mode i s c q).next = 4 → (stepI xs n mode i s c q).seen = true ∧ q (wordAt xs c) = true) := by
  by_cases hm : mode = 2
  · subst hm
    by_cases h1 : s = 1
    · subst h1; rw [stepI_1]; exact ⟨fun h => (by cases h), fun h => (by cases h)⟩
    by_cases h2 : s = 2
    · subst h2; rw [stepI_2]
      refine ⟨fun h => (by cases h), fun h => ?_⟩
      cases hq : q (wordAt xs c)
      · simp [hq] at h
      · exact ⟨rfl, rfl⟩
    by_cases h3 : s = 3
    · subst h3; rw [stepI_3]
      refine ⟨fun h => (by cases h), fun h => ?_⟩
      simp only at h
      split at h <;> cases h
    by_cases h4 : s = 4
    · subst h4; rw [stepI_4]; exact ⟨fun _ => .inr ⟨rfl, rfl⟩, fun h => (by cases h)⟩
    · rw [stepI_0 h1 h2 h3 h4]
      refine ⟨fun h => .inl ⟨h, h⟩, fun h => ?_⟩
      simp only at h
      split at h <;> cases h
  · rw [stepI_spin hm]; exact ⟨fun h => .inl ⟨h, h⟩, fun h => (by cases h)⟩
theorem updq_self {α : Type} (f : Nat → α) (t : Nat) : upd f t (f t) = f := by
  funext i; unfold upd; split
  · rename_i h; rw [h]
  · rfl
structure AtQ (tc mode : Int) (k t : Nat) (s : QS) (r : LS) : Prop where
  hk : k ≤ 64
  hc : 0 ≤ tc ∧ tc < 8
  ht : t < k
  n : r.n = k
  mode : r.mode = mode
  task : r.task = t
  q : QOK k s
  w : WordsT tc k r.xs s
section
variable {tc mode cl : Int} {k t : Nat} {s : QS} {r : LS} {whats : List Int} {x : Int} {a st' : Int}
theorem AtQ.nc (h : AtQ tc mode k t s r) : nc r.n r.task = nc k t := by rw [h.n, h.task]
theorem AtQ.bc (h : AtQ tc mode k t s r) : bc r.n r.task = bc k t := by rw [h.n, h.task]
theorem AtQ.wt (h : AtQ tc mode k t s r) : wordAt r.xs tc = s.tail := h.w.t
theorem AtQ.th (h : AtQ tc mode k t s r) : there r.xs tc = true := h.w.th h.hc.1 (by have := h.hc; omega)
theorem QStep.same {pl : Bool} {R R' : LS} {qp' : Nat} (h : QStep tc mode k t s pl r R qp') (hx : R'.xs = R.xs) (ha : R'.a = R.a) (hs : R'.s = R.s) (hk : R'.k = R.k) : QStep tc mode k t s pl r R' qp' := by
  unfold QStep at *
  rwa [hx, ha, hs, hk]
end
end Go.Proofs.Ytaeninikaalkjaa
set_option linter.unusedVariables false
set_option linter.unusedSimpArgs false
set_option linter.unusedSectionVars false
namespace Go.Proofs.Ytaeninikaalkjaa
open Go.RowKit
structure SW (k : Nat) (v : Int) (xs : List Int) : Prop where
  len : xs.length = 8 + 4 * k
  x : wordAt xs 0 = v
  w : ∀ i, i < k → wordAt xs (wc k i) = 0
structure RS (k t : Nat) (mode op line ret : Int) (K : WkV) (v : Int) (r : LS) : Prop where
  n : r.n = k
  mode : r.mode = mode
  task : r.task = t
  op : r.op = op
  line : r.line = line
  ret : r.ret = ret
  s : r.s = 0
  kk : r.k = K
  w : SW k v r.xs
section
variable {k t : Nat} {mode op line ret v x : Int} {K : WkV} {xs : List Int} {r R : LS}
theorem SW.th (h : SW k v xs) {d : Int} (h0 : 0 ≤ d) (h1 : d < 8 + 4 * k) : there xs d = true := there_lk h.len h0 h1
theorem SW.nw (h : SW k v xs) (hk : k ≤ 64) : NoWatch k xs := fun i hi => ⟨h.th (by rw [wc_at hk hi]; omega) (by rw [wc_at hk hi]; omega), h.w i hi⟩
theorem SW.set (h : SW k v xs) (hk : k ≤ 64) (x : Int) : SW k x (st xs 0 x) :=
  ⟨(st_len _ _ _).trans h.len, by rw [word_st, if_pos (h.th (by omega) (by omega))], fun i hi => by rw [word_far _ (by rw [wc_at hk hi]; omega)]; exact h.w i hi⟩
theorem SW.do (h : SW k v xs) (hk : k ≤ 64) (K x y : Int) (hK : isKind K = true := by rfl) : SW k (leftOf K x y v) (doNew xs K 0 x y) := by
  rw [doNew_st _ _ _ _ _ hK, h.x]; exact h.set hk _
theorem RS.fresh (h : RS k t mode op line ret K v r) : RS k t mode op line ret K v r.fresh := ⟨h.n, h.mode, h.task, h.op, h.line, h.ret, h.s, h.kk, h.w⟩
theorem RS.at0 (h : RS k t mode op line ret K v r) (x : Int) : r.at0 x = (v == x) := by unfold LS.at0; rw [h.w.th (by omega) (by omega), h.w.x, Bool.true_and]
theorem doA_fs (r : LS) (K c x y : Int) : (r.doA K c x y).n = r.n ∧ (r.doA K c x y).mode = r.mode ∧ (r.doA K c x y).task = r.task ∧ (r.doA K c x y).op = r.op ∧ (r.doA K c x y).line = r.line ∧ (r.doA K c x y).ret = r.ret ∧ (r.doA K c x y).s = r.s ∧ (r.doA K c x y).k = r.k ∧ (r.doA K c x y).xs = doNew r.xs K c x y := ⟨rfl, rfl, rfl, rfl, rfl, rfl, rfl, rfl, rfl⟩
variable (hk : 1 ≤ k ∧ k ≤ 64)
include hk
theorem RS.do {K : Int} (h : RS k t mode op line 0 wk0 v r) (x y : Int) (hK : isKind K = true) : RS k t mode op line 0 wk0 (leftOf K x y v) (r.doA K 0 x y) := by
  obtain ⟨f1, f2, f3, f4, f5, f6, f7, f8, f9⟩ := doA_fs r K 0 x y
  have hw := h.w.do hk.2 K x y hK
  rw [← f9] at hw
  generalize r.doA K 0 x y = R0 at *
  exact ⟨f1.trans h.n, f2.trans h.mode, f3.trans h.task, f4.trans h.op, f5.trans h.line, f6.trans h.ret, f7.trans h.s, f8.trans h.kk, hw⟩
theorem RS.go {R : LS} (h : RS k t mode op line 0 wk0 v R) (l : Int) : RS k t mode op l 0 wk0 v (R.go l) := ⟨h.n, h.mode, h.task, h.op, rfl, h.ret, h.s, h.kk, h.w⟩
theorem RS.note {R : LS} (h : RS k t mode op line 0 wk0 v R) (w a : Int) : RS k t mode op line 0 wk0 v (R.note w a) := ⟨h.n, h.mode, h.task, h.op, h.line, h.ret, h.s, h.kk, h.w⟩
theorem RS.keepA {R : LS} (h : RS k t mode op line 0 wk0 v R) (a : Int) : RS k t mode op line 0 wk0 v (R.keepA a) := ⟨h.n, h.mode, h.task, h.op, h.line, h.ret, h.s, h.kk, h.w⟩
theorem RS.fin {R : LS} (h : RS k t mode op line 0 K v R) (ok : Bool) : RS k t mode op line (if ok then 2 else 1) K v (R.fin ok) := ⟨h.n, h.mode, h.task, h.op, h.line, rfl, h.s, h.kk, h.w⟩
theorem RS.wake {R : LS} (h : RS k t mode op line 0 wk0 v R) : RS k t mode op line 0 (beginI mode 0) v (R.wake 0) := ⟨h.n, h.mode, h.task, h.op, h.line, h.ret, h.s, by show beginI R.mode 0 = _; rw [h.mode], h.w⟩
end
section
variable {chk : LS → Bool} {k t m : Nat} {mode op line ret op' line' v v' : Int} {r : LS}
def EndS (chk : LS → Bool) (k m : Nat) (r : LS) (ret v : Int) : Prop := ∃ xs, aloneG chk LS.rf m r = (ret, xs) ∧ SW k v xs
theorem nexts_off (h : RS k t mode op line ret wk0 v r) : r.next LS.rf = r.fresh.rf := by
  unfold LS.next
  rw [h.kk, if_neg (by show ¬ false = true; decide)]
theorem EndS.on (hk0 : Chk chk) (h : RS k t mode op line 0 wk0 v r) (g : RS k t mode op' line' 0 wk0 v' r.fresh.rf) {re V : Int} (e : EndS chk k m r.fresh.rf re V) : EndS chk k (m + 1) r re V := by
  obtain ⟨xs, e1, e2⟩ := e
  refine ⟨xs, ?_, e2⟩
  rw [alone_on hk0 h.s (by rw [nexts_off h]; unfold LS.over; rw [g.ret]; rfl), nexts_off h]
  exact e1
theorem EndS.stop (hk0 : Chk chk) (h : RS k t mode op line 0 wk0 v r) (g : RS k t mode op' line' ret wk0 v' r.fresh.rf) (hr : ret ≠ 0) : EndS chk k (m + 1) r ret v' := by
  refine ⟨_, ?_, g.w⟩
  rw [alone_end hk0 h.s (by rw [nexts_off h]; unfold LS.over; rw [g.ret, g.kk]; simpa [wk0] using hr), nexts_off h, g.ret]
theorem EndS.done (hk0 : Chk chk) (hk : 1 ≤ k ∧ k ≤ 64) (h : RS k t mode op line 0 wk0 v r) (g : RS k t mode op' line' ret (beginI mode 0) v' r.fresh.rf) (hr : ret ≠ 0) (hm : k < m) : EndS chk k m r ret v' :=
  ⟨_, by
    rw [alone_doneQ hk0 hk (c := 0) (by decide) (nexts_off h) g.n (g.w.nw hk.2) g.kk (by rw [g.ret]; exact hr) h.s g.s hm, g.ret], g.w⟩
variable (hk0 : Chk chk) (hk : 1 ≤ k ∧ k ≤ 64)
include hk0 hk
end
def valR (s : Nat) : Int := match s with | 1 => 1 | 2 => 65536 | 3 => 2 | _ => 0
structure StS (k s : Nat) (xs : List Int) : Prop where
  w : SW k (valR s) xs
def nextS (s : Nat) (op : Int) : Option (Int × Nat) :=
  match s, op with
  | 0, 1 => some (2, 1) | 0, 3 => some (2, 2) | 0, 5 => some (2, 1) | 0, 6 => some (2, 2)
  | 1, 2 => some (2, 0) | 1, 7 => some (2, 2) | 1, 6 => some (1, 1) | 1, 5 => some (2, 3)
  | 2, 4 => some (2, 0) | 2, 8 => some (2, 1) | 2, 5 => some (1, 2) | 2, 6 => some (1, 2)
  | 3, 2 => some (2, 1)
  | _, _ => none
section
variable {chk : LS → Bool} {k m : Nat} {mode op v : Int} {xs : List Int}
theorem rs_new (t : Nat) (op : Int) (h : SW k v xs) : RS k t mode op 0 0 wk0 v (newR k mode t op xs) := ⟨rfl, rfl, rfl, rfl, rfl, rfl, rfl, rfl, h⟩
theorem EndS.st {r : LS} {ret : Int} {s' : Nat} {v : Int} (e : EndS chk k m r ret v) (hv : v = valR s') : ∃ ys, aloneG chk LS.rf m r = (ret, ys) ∧ StS k s' ys := by
  obtain ⟨ys, e1, e2⟩ := e
  exact ⟨ys, e1, ⟨by rw [← hv]; exact e2⟩⟩
end
def goodS : Nat → List Int → Option Nat
  | s, [] => some s
  | s, op :: l => match nextS s op with
    | some (2, s') => goodS s' l
    | _ => none
def opsS : List (List Int) := [[1, 2], [3, 4], [5, 2], [6, 4], [3, 8, 2], [1, 7, 4], [6, 8, 7, 4]]
end Go.Proofs.Ytaeninikaalkjaa
set_option linter.unusedVariables false
set_option linter.unusedSimpArgs false
namespace Go.Proofs.Ytaeninikaalkjaa
open Go.RowKit
end Go.Proofs.Ytaeninikaalkjaa
set_option linter.unusedVariables false
set_option linter.unusedSimpArgs false
namespace Go.Proofs.Ytaeninikaalkjaa
open Go.RowKit
section
variable {r : LS} {a : Int} {ok : Bool} {j : Nat}
structure LS.Fr (r r' : LS) : Prop where
  n : r'.n = r.n
  mode : r'.mode = r.mode
  task : r'.task = r.task
  op : r'.op = r.op
  s : r'.s = r.s
theorem LS.Fr.refl (r : LS) : r.Fr r := ⟨rfl, rfl, rfl, rfl, rfl⟩
theorem wait_fw (c : Int) (q : Int → Bool) : (r.wait c q).n = r.n ∧ (r.wait c q).mode = r.mode ∧ (r.wait c q).task = r.task ∧ (r.wait c q).op = r.op ∧ (r.wait c q).line = r.line ∧ (r.wait c q).ret = r.ret ∧ (r.wait c q).k = r.k ∧ (r.wait c q).a = r.a ∧ (r.wait c q).b = r.b ∧ (r.wait c q).s = (r.stepR c q).next ∧ (r.wait c q).xs = (r.stepR c q).xs := by
  unfold LS.wait
  generalize r.stepR c q = x
  exact ⟨rfl, rfl, rfl, rfl, rfl, rfl, rfl, rfl, rfl, rfl, rfl⟩
theorem noteIf_fw (R : LS) (b : Bool) (w : Int) : R.Fr (R.noteIf b w) ∧ (R.noteIf b w).line = R.line ∧ (R.noteIf b w).ret = R.ret ∧ (R.noteIf b w).k = R.k ∧ (R.noteIf b w).a = R.a ∧ (R.noteIf b w).b = R.b ∧ (R.noteIf b w).xs = R.xs := by cases b <;> exact ⟨⟨rfl, rfl, rfl, rfl, rfl⟩, rfl, rfl, rfl, rfl, rfl, rfl⟩
end
end Go.Proofs.Ytaeninikaalkjaa
