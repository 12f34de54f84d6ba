import Derived.Test.YtaeninikaalkjaaGreatH17
import Derived.Test.YtaeninikaalkjaaGreatH16
set_option linter.unusedVariables false
set_option linter.unusedSimpArgs false
namespace Go.Proofs.YtaeninikaalkjaaGreat
def QOK (k : Nat) (s : QS) : Prop := ∃ m q, QInv k m q s
theorem QOK.one {k : Nat} {s : QS} (h : QOK k s) {i j : Nat} (hi : i < k) (hj : j < k) (h1 : s.ph i = 5) (h2 : s.ph j = 5) : i = j := by
  obtain ⟨m, q, h⟩ := h
  exact (h.first hi h1).2.symm.trans (h.first hj h2).2
structure WordsT (tc : Int) (k : Nat) (xs : List Int) (s : QS) : Prop where
  len : xs.length = 8 + 4 * k
  t : wordAt xs tc = s.tail
  n : ∀ i, i < k → wordAt xs (nc k i) = s.nx i
  b : ∀ i, i < k → wordAt xs (bc k i) = s.bl i
inductive TQ (s : QS) (i : Nat) : Nat → Int → Int → Prop
  | out {a st : Int} (hp : s.ph i = 0) : TQ s i 0 a st
  | e0 {a st : Int} (hp : s.ph i = 0) : TQ s i 1 a st
  | e1 {a st : Int} (hp : s.ph i = 0) (hn : s.nx i = 0) : TQ s i 2 a st
  | e2 {a st : Int} (hp : s.ph i = 0) (hn : s.nx i = 0) (hb : s.bl i = 1) : TQ s i 3 a st
  | e3 {a st : Int} (hp : s.ph i = 3) (ha : a = s.pr i) : TQ s i 4 a st
  | e4 {a st : Int} (hp : s.ph i = 4) (h4 : st = 4 → s.bl i = 0) : TQ s i 5 a st
  | own {a st : Int} (hp : s.ph i = 5) : TQ s i 6 a st
  | g0 {a st : Int} (hp : s.ph i = 5) : TQ s i 7 a st
  | g1 {a st : Int} (hp : s.ph i = 5) : TQ s i 8 a st
  | g2 {a st : Int} (hp : s.ph i = 5) (ht : s.tail ≠ (i : Int) + 1) (h4 : st = 4 → a = s.nx i ∧ s.nx i ≠ 0) : TQ s i 9 a st
  | g3 {a st : Int} (hp : s.ph i = 5) (ha : a = s.nx i) (hn : s.nx i ≠ 0) : TQ s i 10 a st
  | t0 {a st : Int} (hp : s.ph i = 0) : TQ s i 11 a st
  | t1 {a st : Int} (hp : s.ph i = 0) (hn : s.nx i = 0) : TQ s i 12 a st
structure OthQ (mode : Int) (k t : Nat) (s s' : QS) (K : WkV) : Prop where
  p : ∀ i, i < k → i ≠ t → s'.ph i = s.ph i
  r : ∀ i, i < k → i ≠ t → s'.pr i = s.pr i
  n : ∀ i, i < k → i ≠ t → s'.nx i = s.nx i ∨ (s.nx i = 0 ∧ s.ph i ≠ 0 ∧ K = beginI mode (nc k i))
  b : ∀ i, i < k → i ≠ t → s'.bl i = s.bl i ∨ (s'.bl i = 0 ∧ s.ph i ≠ 0 ∧ K = beginI mode (bc k i))
  t : ∀ i, i < k → i ≠ t → s.tail ≠ (i : Int) + 1 → s'.tail ≠ (i : Int) + 1
section
variable {tc : Int} {mode : Int} {k t i qp qp' : Nat} {s s' : QS} {K : WkV} {xs : List Int} {a st' : Int}
theorem TQ.move {st : Int} (h : TQ s i qp a st) (hp' : s'.ph i = s.ph i) (hr' : s'.pr i = s.pr i) (hn' : s'.nx i = s.nx i ∨ (s.nx i = 0 ∧ s.ph i ≠ 0)) (hb' : s'.bl i = s.bl i ∨ (s'.bl i = 0 ∧ s.ph i ≠ 0)) (ht' : s.tail ≠ (i : Int) + 1 → s'.tail ≠ (i : Int) + 1) : TQ s' i qp a st := by
  cases h with
  | out hp => exact .out (hp'.trans hp)
  | e0 hp => exact .e0 (hp'.trans hp)
  | e1 hp hn => exact .e1 (hp'.trans hp) (by omega)
  | e2 hp hn hb => exact .e2 (hp'.trans hp) (by omega) (by omega)
  | e3 hp ha => exact .e3 (hp'.trans hp) (ha.trans hr'.symm)
  | e4 hp h4 => exact .e4 (hp'.trans hp) fun e => by have := h4 e; omega
  | own hp => exact .own (hp'.trans hp)
  | g0 hp => exact .g0 (hp'.trans hp)
  | g1 hp => exact .g1 (hp'.trans hp)
  | g2 hp h1 h4 => exact .g2 (hp'.trans hp) (ht' h1) fun e => by have := h4 e; omega
  | g3 hp ha hn => exact .g3 (hp'.trans hp) (by omega) (by omega)
  | t0 hp => exact .t0 (hp'.trans hp)
  | t1 hp hn => exact .t1 (hp'.trans hp) (by omega)
theorem OthQ.refl : OthQ mode k t s s K := ⟨fun _ _ _ => rfl, fun _ _ _ => rfl, fun _ _ _ => .inl rfl, fun _ _ _ => .inl rfl, fun _ _ _ => id⟩
theorem nc_q (hk : k ≤ 64) (hi : i < k) : nc (k : Int) (i : Int) = 8 + i := by unfold nc cellI; rw [if_pos (by omega)]; omega
theorem bc_q (hk : k ≤ 64) (hi : i < k) : bc (k : Int) (i : Int) = 8 + k + i := by unfold bc cellI; rw [if_pos (by omega)]; omega
theorem WordsT.th (h : WordsT tc k xs s) {d : Int} (h0 : 0 ≤ d) (h1 : d < 8 + 4 * k) : there xs d = true := by unfold there; rw [decide_eq_true_eq, h.len]; push_cast; omega
theorem WordsT.setN (h : WordsT tc k xs s) (hc : 0 ≤ tc ∧ tc < 8) (hk : k ≤ 64) (ht : t < k) (x : Int) (hx : s'.tail = s.tail ∧ s'.nx = upd s.nx t x ∧ s'.bl = s.bl) : WordsT tc k (st xs (nc k t) x) s' := by
  refine ⟨(st_len _ _ _).trans h.len, by rw [word_far _ (by rw [nc_q hk ht]; omega), hx.1]; exact h.t, fun i hi => ?_, fun i hi => by rw [word_far _ (by rw [bc_q hk hi, nc_q hk ht]; omega), hx.2.2]; exact h.b i hi⟩
  rw [hx.2.1]
  by_cases e : i = t
  · subst e; rw [upd_same, word_st, if_pos (h.th (by rw [nc_q hk hi]; omega) (by rw [nc_q hk hi]; omega))]
  · rw [upd_other _ _ e, word_far _ (by rw [nc_q hk hi, nc_q hk ht]; omega)]; exact h.n i hi
theorem WordsT.far {xs' : List Int} (h : WordsT tc k xs s) (hc : 0 ≤ tc ∧ tc < 8) (hk : k ≤ 64) (hl : xs'.length = xs.length) (h0 : wordAt xs' tc = wordAt xs tc) (hf : ∀ d : Int, 8 ≤ d → d < 8 + 2 * k → wordAt xs' d = wordAt xs d) : WordsT tc k xs' s :=
  ⟨hl.trans h.len, h0.trans h.t, fun i hi => (hf _ (by rw [nc_q hk hi]; omega) (by rw [nc_q hk hi]; omega)).trans (h.n i hi), fun i hi => (hf _ (by rw [bc_q hk hi]; omega) (by rw [bc_q hk hi]; omega)).trans (h.b i hi)⟩
theorem WordsT.own (h : WordsT tc k xs s) (hc : 0 ≤ tc ∧ tc < 8) (hk : k ≤ 64) {d : Int} (hd : d < 8) (hne : d ≠ tc) (x : Int) : WordsT tc k (st xs d x) s :=
  h.far hc hk (st_len _ _ _) (word_far _ hne) fun e h0 h1 => word_far _ (by omega)
theorem step_len0 (xs : List Int) (n mode i s c : Int) (q : Int → Bool) : (stepI xs n mode i s c q).xs.length = xs.length := by unfold stepI; (repeat' split) <;> first | rfl | exact st_len _ _ _
theorem WordsT.wait (h : WordsT tc k xs s) (hc : 0 ≤ tc ∧ tc < 8) (hk : k ≤ 64) (ht : t < k) (mode u c : Int) (q : Int → Bool) : WordsT tc k (stepI xs k mode t u c q).xs s :=
  h.far hc hk (step_len0 _ _ _ _ _ _ _) (own_wait (by rw [wc_at hk ht]; omega) (by rw [pc_at hk ht]; omega)) fun d h0 h1 => own_wait (by rw [wc_at hk ht]; omega) (by rw [pc_at hk ht]; omega)
theorem pc_big (k i : Int) (h : 0 ≤ k) : 8 + 2 * k ≤ pc k i ∨ pc k i < 0 := by unfold pc cellI; split <;> omega
theorem wake_len1 (xs : List Int) (k c i : Int) (on hit : Bool) : (wakeI xs k on c i hit).xs.length = xs.length := by
  unfold wakeI giveI lookI restI
  (repeat' split) <;> first | rfl | exact st_len _ _ _
theorem WordsT.wake (h : WordsT tc k xs s) (hc : 0 ≤ tc ∧ tc < 8) (hk : k ≤ 64) (on : Bool) (c i : Int) (hit : Bool) : WordsT tc k (wakeI xs k on c i hit).xs s :=
  h.far hc hk (wake_len1 _ _ _ _ _ _) (own_wake (by have := pc_big k i (by omega); omega)) fun d h0 h1 => own_wake (by have := pc_big k i (by omega); omega)
def FarT (tc : Int) (k : Nat) (pl : Bool) (xs xs' : List Int) : Prop := ∀ d : Int, 0 ≤ d → d ≠ tc → d < 8 ∨ (pl = true ∧ 8 + 2 * (k : Int) ≤ d) → wordAt xs' d = wordAt xs d
def QStep (tc mode : Int) (k t : Nat) (s : QS) (pl : Bool) (r R : LS) (qp' : Nat) : Prop := ∃ s', QOK k s' ∧ WordsT tc k R.xs s' ∧ TQ s' t qp' R.a R.s ∧ OthQ mode k t s s' R.k ∧ FarT tc k pl r.xs R.xs
end
end Go.Proofs.YtaeninikaalkjaaGreat
set_option linter.unusedVariables false
set_option linter.unusedSimpArgs false
namespace Go.Proofs.YtaeninikaalkjaaGreat
structure AtQ (tc mode : Int) (k t : Nat) (s : QS) (r : LS) : Prop where
  hk : k ≤ 64
  hc : 0 ≤ tc ∧ tc < 8
  ht : t < k
  n : r.n = k
  mode : r.mode = mode
  task : r.task = t
  q : QOK k s
  w : WordsT tc k r.xs s
section
variable {tc mode cl : Int} {k t : Nat} {s : QS} {r : LS} {whats : List Int} {x : Int} {a st' : Int}
theorem AtQ.nc (h : AtQ tc mode k t s r) : nc r.n r.task = nc k t := by rw [h.n, h.task]
theorem AtQ.bc (h : AtQ tc mode k t s r) : bc r.n r.task = bc k t := by rw [h.n, h.task]
theorem AtQ.th (h : AtQ tc mode k t s r) : there r.xs tc = true := h.w.th h.hc.1 (by have := h.hc; omega)
theorem QStep.same {pl : Bool} {R R' : LS} {qp' : Nat} (h : QStep tc mode k t s pl r R qp') (hx : R'.xs = R.xs) (ha : R'.a = R.a) (hs : R'.s = R.s) (hk : R'.k = R.k) : QStep tc mode k t s pl r R' qp' := by
  unfold QStep at *
  rwa [hx, ha, hs, hk]
end
end Go.Proofs.YtaeninikaalkjaaGreat
set_option linter.unusedVariables false
set_option linter.unusedSimpArgs false
namespace Go.Proofs.YtaeninikaalkjaaGreat
open Go.RowKit
def bitsI (v : Int) : Int := v % 4
def LS.left (r : LS) (v : Int) : Bool := bitsI v != bitsI r.a
def LS.pAdmit (r : LS) (c : Int) (q : Int → Bool) : LS := if (r.stepR c q).done then ((r.wait c q).noteIf (r.stepR c q).seen 4).fin true else (r.wait c q).noteIf (r.stepR c q).seen 4
end Go.Proofs.YtaeninikaalkjaaGreat
set_option linter.unusedVariables false
set_option linter.unusedSimpArgs false
namespace Go.Proofs.YtaeninikaalkjaaGreat
open Go.RowKit
def rfCase (op line : Int) : Nat :=
  if op = 1 ∧ line = 0 then 1 else if op = 1 ∧ line = 1 then 2 else if op = 2 ∧ line = 0 then 3 else if op = 3 ∧ line = 0 then 4 else if op = 3 ∧ line = 1 then 5 else if op = 3 ∧ line = 2 then 6 else if op = 4 ∧ line = 0 then 7
  else if op = 5 ∧ line = 0 then 8 else if op = 6 ∧ line = 0 then 9 else if op = 7 ∧ line = 0 then 10 else if op = 5 ∧ line = 1 then 11 else if op = 6 ∧ line = 1 then 12 else if op = 7 ∧ line = 1 then 13 else if op = 8 ∧ line = 0 then 14 else 0
def outW (v : Int) : Bool := v / 65536 % 2 == 0
def LS.at0 (r : LS) (x : Int) : Bool := there r.xs 0 && (wordAt r.xs 0 == x)
def LS.fCome (r : LS) : LS := if outW (wordAt r.xs 0) then ((((r.doA 3 0 1 0).keepA (wordAt r.xs 0)).note 2 1).note 4 0).fin true else (((r.doA 3 0 1 0).keepA (wordAt r.xs 0)).note 2 1).go 1
def LS.fGo (r : LS) : LS := (((r.doA 3 0 4294967295 0).note 6 0).wake 0).fin true
def LS.fReg (r : LS) : LS := if wordAt r.xs 0 = 0 then (((r.doA 1 0 0 0).keepA (wordAt r.xs 0)).note 2 2).go 1 else (((r.doA 1 0 0 0).keepA (wordAt r.xs 0)).note 2 2).go 2
def LS.fTake (r : LS) : LS := if r.at0 0 then ((r.doA 5 0 0 65536).note 4 0).fin true else (r.doA 5 0 0 65536).go 2
def LS.fWait (r : LS) : LS := if (r.stepR 0 isZ).done then (r.wait 0 isZ).go 1 else r.wait 0 isZ
def LS.fLeave (r : LS) : LS := ((((r.doA 3 0 4294901760 0).note 7 0).note 8 0).wake 0).fin true
def LS.fLook (r : LS) (ok : Bool) : LS := if ok then ((r.doA 1 0 0 0).keepA (wordAt r.xs 0)).go 1 else (((r.doA 1 0 0 0).keepA (wordAt r.xs 0)).note 5 0).fin false
def LS.fSlip (r : LS) : LS := if r.at0 r.a then (((r.doA 5 0 r.a ((r.a + 1) % 4294967296)).note 2 1).note 4 0).fin true else (r.doA 5 0 r.a ((r.a + 1) % 4294967296)).go 0
def LS.fTry (r : LS) : LS := if r.at0 0 then (((r.doA 5 0 0 65536).note 2 2).note 4 0).fin true else (r.doA 5 0 0 65536).go 0
def LS.fUp (r : LS) : LS := if r.at0 1 then ((r.doA 5 0 1 65536).note 9 0).fin true else (r.doA 5 0 1 65536).go 0
def LS.fDown (r : LS) : LS := (((r.doA 3 0 4294901761 0).note 10 0).wake 0).fin true
def LS.rf (r : LS) : LS :=
  match rfCase r.op r.line with
  | 1 => r.fCome
  | 2 => r.pAdmit 0 outW
  | 3 => r.fGo
  | 4 => r.fReg
  | 5 => r.fTake
  | 6 => r.fWait
  | 7 => r.fLeave
  | 8 => r.fLook (outW (wordAt r.xs 0))
  | 9 => r.fLook (wordAt r.xs 0 == 0)
  | 10 => r.fLook (wordAt r.xs 0 == 1)
  | 11 => r.fSlip
  | 12 => r.fTry
  | 13 => r.fUp
  | 14 => r.fDown
  | _ => r
section
variable {r : LS}
end
end Go.Proofs.YtaeninikaalkjaaGreat
