import Derived.Test.YtkkldcggbekleaaG3
import Derived.Test.YtkkldcggbekleaaG5
import Derived.Test.YtkkldcggbekleaaG2
import Derived.Test.YtkkldcggbekleaaG1
set_option linter.unusedVariables false
set_option linter.unusedSimpArgs false
set_option linter.unusedSectionVars false
namespace Go.Proofs.Ytkkldcggbekleaa
open Go.RowKit
structure QW (k : Nat) (x y : Int) (xs : List Int) : Prop where
  len : xs.length = 8 + 4 * k
  x : wordAt xs 0 = x
  y : wordAt xs 1 = y
  w : ∀ i, i < k → wordAt xs (wc k i) = 0
  n : ∀ i, i < k → wordAt xs (nc k i) = 0
structure RA (k t : Nat) (mode op line ret : Int) (K : WkV) (x y : Int) (r : LS) : Prop where
  n : r.n = k
  mode : r.mode = mode
  task : r.task = t
  op : r.op = op
  line : r.line = line
  ret : r.ret = ret
  s : r.s = 0
  kk : r.k = K
  w : QW k x y r.xs
section
variable {k t : Nat} {mode op line ret x y v : Int} {K : WkV} {xs : List Int} {r R : LS}
theorem QW.th (h : QW k x y xs) {d : Int} (h0 : 0 ≤ d) (h1 : d < 8 + 4 * k) : there xs d = true := there_lk h.len h0 h1
theorem QW.nw (h : QW k x y xs) (hk : k ≤ 64) : NoWatch k xs := fun i hi => ⟨h.th (by rw [wc_at hk hi]; omega) (by rw [wc_at hk hi]; omega), h.w i hi⟩
theorem QW.tail (h : QW k x y xs) (hk : k ≤ 64) (v : Int) : QW k v y (st xs 0 v) :=
  ⟨(st_len _ _ _).trans h.len, by rw [word_st, if_pos (h.th (by omega) (by omega))], by rw [word_far _ (by decide)]; exact h.y, fun i hi => by rw [word_far _ (by rw [wc_at hk hi]; omega)]; exact h.w i hi, fun i hi => by rw [word_far _ (by rw [nc_q hk hi]; omega)]; exact h.n i hi⟩
theorem QW.cnt (h : QW k x y xs) (hk : k ≤ 64) (v : Int) : QW k x v (st xs 1 v) :=
  ⟨(st_len _ _ _).trans h.len, by rw [word_far _ (by decide)]; exact h.x, by rw [word_st, if_pos (h.th (by omega) (by omega))], fun i hi => by rw [word_far _ (by rw [wc_at hk hi]; omega)]; exact h.w i hi, fun i hi => by rw [word_far _ (by rw [nc_q hk hi]; omega)]; exact h.n i hi⟩
theorem QW.nx (h : QW k x y xs) (hk : k ≤ 64) (ht : t < k) : QW k x y (st xs (nc k t) 0) := by
  refine ⟨(st_len _ _ _).trans h.len, by rw [word_far _ (by rw [nc_q hk ht]; omega)]; exact h.x, by rw [word_far _ (by rw [nc_q hk ht]; omega)]; exact h.y, fun i hi => by rw [word_far _ (by rw [wc_at hk hi, nc_q hk ht]; omega)]; exact h.w i hi, fun i hi => ?_⟩
  by_cases e : i = t
  · subst e; rw [word_st, if_pos (h.th (by rw [nc_q hk hi]; omega) (by rw [nc_q hk hi]; omega))]
  · rw [word_far _ (by rw [nc_q hk hi, nc_q hk ht]; omega)]; exact h.n i hi
theorem QW.bl (h : QW k x y xs) (hk : k ≤ 64) (ht : t < k) (v : Int) : QW k x y (st xs (bc k t) v) :=
  ⟨(st_len _ _ _).trans h.len, by rw [word_far _ (by rw [bc_q hk ht]; omega)]; exact h.x, by rw [word_far _ (by rw [bc_q hk ht]; omega)]; exact h.y, fun i hi => by rw [word_far _ (by rw [wc_at hk hi, bc_q hk ht]; omega)]; exact h.w i hi, fun i hi => by rw [word_far _ (by rw [nc_q hk hi, bc_q hk ht]; omega)]; exact h.n i hi⟩
theorem RA.fresh (h : RA k t mode op line ret K x y r) : RA k t mode op line ret K x y r.fresh := ⟨h.n, h.mode, h.task, h.op, h.line, h.ret, h.s, h.kk, h.w⟩
theorem RA.nc (h : RA k t mode op line ret K x y r) : nc r.n r.task = nc k t := by rw [h.n, h.task]
theorem RA.bc (h : RA k t mode op line ret K x y r) : bc r.n r.task = bc k t := by rw [h.n, h.task]
theorem RA.me (h : RA k t mode op line ret K x y r) (hk : k ≤ 64) (ht : t < k) : r.me = (t : Int) + 1 := by unfold LS.me; rw [h.task]; omega
variable (hk : 1 ≤ k ∧ k ≤ 64) (ht : t < k)
include hk ht
theorem la_e0 (h : RA k t mode op 0 0 wk0 x y r) (ho : op = 1 ∨ op = 3) : RA k t mode op 1 0 wk0 x y r.fq := by
  rw [fq_enter (j := 0) (by rw [h.op]; exact ho) h.line (by decide), qEnter_0 h.line]
  refine ⟨h.n, h.mode, h.task, h.op, rfl, h.ret, h.s, h.kk, ?_⟩
  show QW k x y (doNew r.xs 2 _ 0 0)
  rw [h.nc, doNew_st _ _ _ _ _ rfl]; exact h.w.nx hk.2 ht
theorem la_e1 (h : RA k t mode op 1 0 wk0 x y r) (ho : op = 1 ∨ op = 3) : RA k t mode op 2 0 wk0 x y r.fq := by
  rw [fq_enter (j := 1) (by rw [h.op]; exact ho) h.line (by decide), qEnter_1 h.line]
  refine ⟨h.n, h.mode, h.task, h.op, rfl, h.ret, h.s, h.kk, ?_⟩
  show QW k x y (doNew r.xs 2 _ 1 0)
  rw [h.bc, doNew_st _ _ _ _ _ rfl]; exact h.w.bl hk.2 ht 1
theorem la_e2 (h : RA k t mode op 2 0 wk0 0 y r) (ho : op = 1 ∨ op = 3) : RA k t mode op 5 0 wk0 ((t : Int) + 1) y r.fq := by
  rw [fq_enter (j := 2) (by rw [h.op]; exact ho) h.line (by decide), qEnter_2 h.line, if_pos h.w.x]
  generalize (if r.op = 1 then (1 : Int) else 2) = cl
  have hx : (r.swapIn 0 cl).xs = st r.xs 0 ((t : Int) + 1) := by
    show doNew r.xs 4 0 r.me 0 = _
    rw [h.me hk.2 ht, doNew_st _ _ _ _ _ rfl]; rfl
  obtain ⟨f1, f2, f3, f4, f5⟩ := swapIn_fr r 0 cl
  have fn : (r.swapIn 0 cl).n = r.n ∧ (r.swapIn 0 cl).mode = r.mode ∧ (r.swapIn 0 cl).task = r.task := by
    unfold LS.swapIn
    generalize r.me = z
    exact ⟨rfl, rfl, rfl⟩
  generalize r.swapIn 0 cl = R0 at *
  exact ⟨fn.1.trans h.n, fn.2.1.trans h.mode, fn.2.2.trans h.task, f1.trans h.op, rfl, f3.trans h.ret, f5.trans h.s, f4.trans h.kk, by show QW k _ y R0.xs; rw [hx]; exact h.w.tail hk.2 _⟩
theorem la_add {l : Int} (h : RA k t mode op line 0 wk0 x y r) (v : Int) (l' : Int) : RA k t mode op l' 0 wk0 x ((v + y) % 4294967296) ((r.doA 3 1 v 0).go l') := by
  refine ⟨h.n, h.mode, h.task, h.op, rfl, h.ret, h.s, h.kk, ?_⟩
  show QW k x _ (doNew r.xs 3 1 v 0)
  rw [doNew_st _ _ _ _ _ rfl, h.w.y]; exact h.w.cnt hk.2 _
theorem la_cnt (h : RA k t mode op 5 0 wk0 x y r) (ho : op = 1 ∨ op = 5) : RA k t mode op 6 0 wk0 x ((1 + y) % 4294967296) r.fq := by
  rw [fq_cnt (by rw [h.op]; exact ho) h.line]
  exact la_add hk ht (l := 5) h 1 6
theorem la_down (h : RA k t mode 8 0 0 wk0 x y r) : RA k t mode 8 1 0 wk0 x ((1 + y) % 4294967296) r.fq := by
  rw [fq_down h.op h.line]
  exact la_add hk ht (l := 0) h 1 1
theorem la_g0 {hv a : Int} {ok : Bool} {w : List Int} {c : Nat} (hg : GiveK hv op a ok w c) (h : RA k t mode op a 0 wk0 x y r) : RA k t mode op (a + 1) 0 wk0 x y r.fq := by
  rw [fq_give hg h.op (j := 0) (by rw [h.line]; omega) (by decide), qGive_0 h.line, if_pos (by rw [h.nc]; exact h.w.n t ht)]
  obtain ⟨f1, f2, f3, f4, f5⟩ := peek_fr r
  have hx : r.peek.xs = r.xs := by
    show doNew r.xs 1 _ 0 0 = r.xs
    exact own_load
  have fn : r.peek.n = r.n ∧ r.peek.mode = r.mode ∧ r.peek.task = r.task := ⟨rfl, rfl, rfl⟩
  generalize r.peek = R0 at *
  exact ⟨fn.1.trans h.n, fn.2.1.trans h.mode, fn.2.2.trans h.task, f1.trans h.op, rfl, f3.trans h.ret, f5.trans h.s, f4.trans h.kk, by show QW k x y R0.xs; rw [hx]; exact h.w⟩
theorem la_g1 {hv a : Int} {ok : Bool} {w : List Int} {c : Nat} (hg : GiveK hv op a ok w c) (h : RA k t mode op (a + 1) 0 wk0 ((t : Int) + 1) y r) : RA k t mode op (a + 1) (if ok then 2 else 1) wk0 0 y r.fq := by
  have hc : r.casOut 0 = true := by
    unfold LS.casOut
    rw [h.me hk.2 ht, h.w.th (by omega) (by omega), h.w.x, Bool.true_and]; exact beq_self_eq_true _
  rw [fq_give hg h.op (j := 1) h.line (by decide), qGive_1 h.line, if_pos hc]
  have hx : (r.doA 5 0 r.me 0).xs = st r.xs 0 0 := by
    show doNew r.xs 5 0 r.me 0 = _
    rw [h.me hk.2 ht, doNew_st _ _ _ _ _ rfl, h.w.x]
    show st r.xs 0 (if (t : Int) + 1 = (t : Int) + 1 then 0 else _) = _
    rw [if_pos rfl]
  obtain ⟨f1, f2, f3, f4, f5⟩ := doA_fr r 5 0 r.me 0
  have fn : (r.doA 5 0 r.me 0).n = r.n ∧ (r.doA 5 0 r.me 0).mode = r.mode ∧ (r.doA 5 0 r.me 0).task = r.task := by
    generalize r.me = z
    exact ⟨rfl, rfl, rfl⟩
  generalize r.doA 5 0 r.me 0 = R0 at *
  obtain ⟨n1, n2, n3, n4, n5, n6, n7, n8, n9, n10, _⟩ := notes_same R0 w
  generalize R0.notes w = R1 at *
  exact ⟨n5.trans (fn.1.trans h.n), n6.trans (fn.2.1.trans h.mode), n7.trans (fn.2.2.trans h.task), n8.trans (f1.trans h.op), n9.trans (f2.trans h.line), rfl, n3.trans (f5.trans h.s), n4.trans (f4.trans h.kk), by show QW k 0 y R1.xs; rw [n1, hx]; exact h.w.tail hk.2 0⟩
theorem la_rel (h : RA k t mode 2 0 0 wk0 x y r) : RA k t mode 2 0 2 (beginI mode 1) x ((4294967295 + y) % 4294967296) r.fq := by
  rw [fq_rel h.op h.line]
  have g := la_add hk ht (l := 0) h 4294967295 0
  have e : (((r.doA 3 1 4294967295 0).go 0).line) = 0 := rfl
  obtain ⟨f1, f2, f3, f4, f5⟩ := doA_fr r 3 1 4294967295 0
  have fn : (r.doA 3 1 4294967295 0).n = r.n ∧ (r.doA 3 1 4294967295 0).mode = r.mode ∧ (r.doA 3 1 4294967295 0).task = r.task := ⟨rfl, rfl, rfl⟩
  have gw : QW k x ((4294967295 + y) % 4294967296) (r.doA 3 1 4294967295 0).xs := g.w
  generalize r.doA 3 1 4294967295 0 = R0 at f1 f2 f3 f4 f5 fn gw ⊢
  exact ⟨fn.1.trans h.n, fn.2.1.trans h.mode, fn.2.2.trans h.task, f1.trans h.op, f2.trans h.line, rfl, f5.trans h.s, by show beginI R0.mode 1 = _; rw [fn.2.1, h.mode], gw⟩
theorem la_up (h : RA k t mode 7 3 0 wk0 x y r) : RA k t mode 7 3 2 wk0 x ((4294967295 + y) % 4294967296) r.fq := by
  rw [fq_up h.op h.line]
  have g := la_add hk ht (l := 0) h 4294967295 0
  obtain ⟨f1, f2, f3, f4, f5⟩ := doA_fr r 3 1 4294967295 0
  have fn : (r.doA 3 1 4294967295 0).n = r.n ∧ (r.doA 3 1 4294967295 0).mode = r.mode ∧ (r.doA 3 1 4294967295 0).task = r.task := ⟨rfl, rfl, rfl⟩
  have gw : QW k x ((4294967295 + y) % 4294967296) (r.doA 3 1 4294967295 0).xs := g.w
  generalize r.doA 3 1 4294967295 0 = R0 at f1 f2 f3 f4 f5 fn gw ⊢
  exact ⟨fn.1.trans h.n, fn.2.1.trans h.mode, fn.2.2.trans h.task, f1.trans h.op, f2.trans h.line, rfl, f5.trans h.s, f4.trans h.kk, gw⟩
theorem la_wait (h : RA k t mode 3 5 0 wk0 x 0 r) : RA k t mode 3 5 2 wk0 x 0 r.fq := by
  rw [fq_wait h.op h.line]
  obtain ⟨h1, h2, h3, h4⟩ := stepI_seen (xs := r.xs) (n := r.n) (mode := r.mode) (i := r.task) (c := 1) (q := isZ) (by rw [h.w.y]; rfl)
  have hS : r.stepR 1 isZ = stepI r.xs r.n r.mode r.task 0 1 isZ := by unfold LS.stepR; rw [h.s]
  rw [hS, if_pos h3, h2]
  obtain ⟨f1, f2, f3, f4, f5⟩ := wait_fr r 1 isZ
  have fx : (r.wait 1 isZ).xs = r.xs := by
    show (r.stepR 1 isZ).xs = _
    rw [hS]; exact h4
  have fn : (r.wait 1 isZ).n = r.n ∧ (r.wait 1 isZ).mode = r.mode ∧ (r.wait 1 isZ).task = r.task := ⟨rfl, rfl, rfl⟩
  rw [hS, h1] at f5
  generalize r.wait 1 isZ = R0 at *
  exact ⟨fn.1.trans h.n, fn.2.1.trans h.mode, fn.2.2.trans h.task, f1.trans h.op, f2.trans h.line, rfl, f5, f4.trans h.kk, by show QW k x 0 R0.xs; rw [fx]; exact h.w⟩
theorem la_t0 (h : RA k t mode op 0 0 wk0 x y r) (ho : op = 5 ∨ op = 6 ∨ op = 7) : RA k t mode op 1 0 wk0 x y r.fq := by
  rw [fq_try (j := 0) (by rw [h.op]; exact ho) h.line (by decide), qTry_0 h.line]
  refine ⟨h.n, h.mode, h.task, h.op, rfl, h.ret, h.s, h.kk, ?_⟩
  show QW k x y (doNew r.xs 2 _ 0 0)
  rw [h.nc, doNew_st _ _ _ _ _ rfl]; exact h.w.nx hk.2 ht
theorem la_t1 (h : RA k t mode op 1 0 wk0 x y r) (ho : op = 5 ∨ op = 6 ∨ op = 7) : (x = 0 → RA k t mode op (if op = 5 then 5 else 2) 0 wk0 ((t : Int) + 1) y r.fq) ∧ (x ≠ 0 → RA k t mode op 1 1 wk0 x y r.fq) := by
  rw [fq_try (j := 1) (by rw [h.op]; exact ho) h.line (by decide), qTry_1 h.line, h.w.th (by omega) (by omega), h.w.x, Bool.true_and]
  have hx : (r.doA 5 0 0 r.me).xs = st r.xs 0 (if x = 0 then (t : Int) + 1 else x) := by
    show doNew r.xs 5 0 0 r.me = _
    rw [h.me hk.2 ht, doNew_st _ _ _ _ _ rfl, h.w.x]; rfl
  obtain ⟨f1, f2, f3, f4, f5⟩ := doA_fr r 5 0 0 r.me
  have fn : (r.doA 5 0 0 r.me).n = r.n ∧ (r.doA 5 0 0 r.me).mode = r.mode ∧ (r.doA 5 0 0 r.me).task = r.task := by
    generalize r.me = z
    exact ⟨rfl, rfl, rfl⟩
  generalize r.doA 5 0 0 r.me = R0 at *
  refine ⟨fun e => ?_, fun e => ?_⟩
  · rw [if_pos e] at hx
    have e0 : (x == 0) = true := by rw [e]; rfl
    by_cases e5 : op = 5
    · rw [if_pos e5, if_pos e0, if_pos (h.op.trans e5)]
      exact ⟨fn.1.trans h.n, fn.2.1.trans h.mode, fn.2.2.trans h.task, f1.trans h.op, rfl, f3.trans h.ret, f5.trans h.s, f4.trans h.kk, by show QW k _ y R0.xs; rw [hx]; exact h.w.tail hk.2 _⟩
    · rw [if_neg e5, if_pos e0, if_neg (by rw [h.op]; exact e5)]
      exact ⟨fn.1.trans h.n, fn.2.1.trans h.mode, fn.2.2.trans h.task, f1.trans h.op, rfl, f3.trans h.ret, f5.trans h.s, f4.trans h.kk, by show QW k _ y R0.xs; rw [hx]; exact h.w.tail hk.2 _⟩
  · rw [if_neg (by simpa using e)]
    rw [if_neg e] at hx
    exact ⟨fn.1.trans h.n, fn.2.1.trans h.mode, fn.2.2.trans h.task, f1.trans h.op, f2.trans h.line, rfl, f5.trans h.s, f4.trans h.kk, by show QW k _ y R0.xs; rw [hx]; exact h.w.tail hk.2 _⟩
theorem la_we6 (h : RA k t mode 6 2 0 wk0 x y r) : (y = 0 → RA k t mode 6 2 2 wk0 x y r.fq) ∧ (y ≠ 0 → RA k t mode 6 6 0 wk0 x y r.fq) := by
  rw [fq_we6 h.op h.line, h.w.y]
  obtain ⟨f1, f2, f3, f4, f5, f6⟩ := qCount_fr r
  have fn : r.qCount.n = r.n ∧ r.qCount.mode = r.mode ∧ r.qCount.task = r.task := ⟨rfl, rfl, rfl⟩
  generalize r.qCount = R0 at *
  refine ⟨fun e => ?_, fun e => ?_⟩
  · rw [if_pos e]
    exact ⟨fn.1.trans h.n, fn.2.1.trans h.mode, fn.2.2.trans h.task, f1.trans h.op, f2.trans h.line, rfl, f5.trans h.s, f4.trans h.kk, by show QW k _ y R0.xs; rw [f6]; exact h.w⟩
  · rw [if_neg e]
    exact ⟨fn.1.trans h.n, fn.2.1.trans h.mode, fn.2.2.trans h.task, f1.trans h.op, rfl, f3.trans h.ret, f5.trans h.s, f4.trans h.kk, by show QW k _ y R0.xs; rw [f6]; exact h.w⟩
theorem la_we7 (h : RA k t mode 7 2 0 wk0 x y r) : (y = 1 → RA k t mode 7 3 0 wk0 x y r.fq) ∧ (y ≠ 1 → RA k t mode 7 6 0 wk0 x y r.fq) := by
  rw [fq_we7 h.op h.line, h.w.y]
  obtain ⟨f1, f2, f3, f4, f5, f6⟩ := qCount_fr r
  have fn : r.qCount.n = r.n ∧ r.qCount.mode = r.mode ∧ r.qCount.task = r.task := ⟨rfl, rfl, rfl⟩
  generalize r.qCount = R0 at *
  refine ⟨fun e => ?_, fun e => ?_⟩
  · rw [if_pos e]
    exact ⟨fn.1.trans h.n, fn.2.1.trans h.mode, fn.2.2.trans h.task, f1.trans h.op, rfl, f3.trans h.ret, f5.trans h.s, f4.trans h.kk, by show QW k _ y R0.xs; rw [f6]; exact h.w⟩
  · rw [if_neg e]
    exact ⟨fn.1.trans h.n, fn.2.1.trans h.mode, fn.2.2.trans h.task, f1.trans h.op, rfl, f3.trans h.ret, f5.trans h.s, f4.trans h.kk, by show QW k _ y R0.xs; rw [f6]; exact h.w⟩
end
section
variable {chk : LS → Bool} {k t m : Nat} {mode op line ret op' line' x y x' y' : Int} {r : LS}
def EndA (chk : LS → Bool) (k m : Nat) (r : LS) (ret x y : Int) : Prop := ∃ xs, aloneG chk LS.fq m r = (ret, xs) ∧ QW k x y xs
theorem next_off (h : RA k t mode op line ret wk0 x y r) : r.next LS.fq = r.fresh.fq := by
  unfold LS.next
  rw [h.kk, if_neg (by show ¬ false = true; decide)]
theorem EndA.on (hk0 : Chk chk) (h : RA k t mode op line 0 wk0 x y r) (g : RA k t mode op' line' 0 wk0 x' y' r.fresh.fq) {re X Y : Int} (e : EndA chk k m r.fresh.fq re X Y) : EndA chk k (m + 1) r re X Y := by
  obtain ⟨xs, e1, e2⟩ := e
  refine ⟨xs, ?_, e2⟩
  rw [alone_on hk0 h.s (by rw [next_off h]; unfold LS.over; rw [g.ret]; rfl), next_off h]
  exact e1
theorem EndA.stop (hk0 : Chk chk) (h : RA k t mode op line 0 wk0 x y r) (g : RA k t mode op' line' ret wk0 x' y' r.fresh.fq) (hr : ret ≠ 0) : EndA chk k (m + 1) r ret x' y' := by
  refine ⟨_, ?_, g.w⟩
  rw [alone_end hk0 h.s (by rw [next_off h]; unfold LS.over; rw [g.ret, g.kk]; simpa [wk0] using hr), next_off h, g.ret]
theorem EndA.done (hk0 : Chk chk) (hk : 1 ≤ k ∧ k ≤ 64) (h : RA k t mode op line 0 wk0 x y r) (g : RA k t mode op' line' ret (beginI mode 1) x' y' r.fresh.fq) (hr : ret ≠ 0) (hm : k < m) : EndA chk k m r ret x' y' :=
  ⟨_, by
    rw [alone_doneQ hk0 hk (c := 1) (by decide) (next_off h) g.n (g.w.nw hk.2) g.kk (by rw [g.ret]; exact hr) h.s g.s hm, g.ret], g.w⟩
variable (hk0 : Chk chk) (hk : 1 ≤ k ∧ k ≤ 64) (ht : t < k)
include hk0 hk ht
theorem ea_give {hv a : Int} {ok : Bool} {w : List Int} {c : Nat} (hg : GiveK hv op a ok w c) (h : RA k t mode op a 0 wk0 ((t : Int) + 1) y r) : EndA chk k (m + 2) r (if ok then 2 else 1) 0 y := by
  have g := la_g0 hk ht hg h.fresh
  have g2 := la_g1 hk ht hg g.fresh
  exact .on hk0 h g (.stop hk0 g g2 (by cases ok <;> decide))
theorem ea_admit (h : RA k t mode op 5 0 wk0 ((t : Int) + 1) y r) (ho : op = 1 ∨ op = 5) : EndA chk k (m + 3) r 2 0 ((1 + y) % 4294967296) := by
  have g := la_cnt hk ht h.fresh ho
  rcases ho with rfl | rfl
  · exact .on hk0 h g (ea_give hk0 hk ht .r1 g)
  · exact .on hk0 h g (ea_give hk0 hk ht .r5 g)
theorem ea_rlock (h : RA k t mode 1 0 0 wk0 0 y r) : EndA chk k (m + 6) r 2 0 ((1 + y) % 4294967296) := by
  have g := la_e0 hk ht h.fresh (.inl rfl)
  have g1 := la_e1 hk ht g.fresh (.inl rfl)
  have g2 := la_e2 hk ht g1.fresh (.inl rfl)
  exact .on hk0 h g (.on hk0 g g1 (.on hk0 g1 g2 (ea_admit hk0 hk ht g2 (.inl rfl))))
theorem ea_lock (h : RA k t mode 3 0 0 wk0 0 0 r) : EndA chk k (m + 4) r 2 ((t : Int) + 1) 0 := by
  have g := la_e0 hk ht h.fresh (.inr rfl)
  have g1 := la_e1 hk ht g.fresh (.inr rfl)
  have g2 := la_e2 hk ht g1.fresh (.inr rfl)
  have g3 := la_wait hk ht g2.fresh
  exact .on hk0 h g (.on hk0 g g1 (.on hk0 g1 g2 (.stop hk0 g2 g3 (by decide))))
theorem ea_runlock (h : RA k t mode 2 0 0 wk0 x y r) (hm : k < m) : EndA chk k m r 2 x ((4294967295 + y) % 4294967296) := .done hk0 hk h (la_rel hk ht h.fresh) (by decide) hm
theorem ea_unlock (h : RA k t mode 4 0 0 wk0 ((t : Int) + 1) y r) : EndA chk k (m + 2) r 2 0 y := ea_give hk0 hk ht .u4 h
theorem ea_down (h : RA k t mode 8 0 0 wk0 ((t : Int) + 1) y r) : EndA chk k (m + 3) r 2 0 ((1 + y) % 4294967296) := by
  have g := la_down hk ht h.fresh
  exact .on hk0 h g (ea_give hk0 hk ht .d8 g)
theorem ea_try_no (h : RA k t mode op 0 0 wk0 x y r) (ho : op = 5 ∨ op = 6 ∨ op = 7) (hx : x ≠ 0) : EndA chk k (m + 2) r 1 x y := by
  have g := la_t0 hk ht h.fresh ho
  exact .on hk0 h g (.stop hk0 g ((la_t1 hk ht g.fresh ho).2 hx) (by decide))
theorem ea_tryrlock (h : RA k t mode 5 0 0 wk0 0 y r) : EndA chk k (m + 5) r 2 0 ((1 + y) % 4294967296) := by
  have g := la_t0 hk ht h.fresh (.inl rfl)
  have g1 := (la_t1 hk ht g.fresh (.inl rfl)).1 rfl
  rw [if_pos rfl] at g1
  exact .on hk0 h g (.on hk0 g g1 (ea_admit hk0 hk ht g1 (.inr rfl)))
theorem ea_trylock (h : RA k t mode 6 0 0 wk0 0 0 r) : EndA chk k (m + 3) r 2 ((t : Int) + 1) 0 := by
  have g := la_t0 hk ht h.fresh (.inr (.inl rfl))
  have g1 := (la_t1 hk ht g.fresh (.inr (.inl rfl))).1 rfl
  rw [if_neg (by decide)] at g1
  exact .on hk0 h g (.on hk0 g g1 (.stop hk0 g1 ((la_we6 hk ht g1.fresh).1 rfl) (by decide)))
theorem ea_trylock_no (h : RA k t mode 6 0 0 wk0 0 y r) (hy : y ≠ 0) : EndA chk k (m + 5) r 1 0 y := by
  have g := la_t0 hk ht h.fresh (.inr (.inl rfl))
  have g1 := (la_t1 hk ht g.fresh (.inr (.inl rfl))).1 rfl
  rw [if_neg (by decide)] at g1
  have g2 := (la_we6 hk ht g1.fresh).2 hy
  exact .on hk0 h g (.on hk0 g g1 (.on hk0 g1 g2 (ea_give hk0 hk ht .l6 g2)))
theorem ea_upgrade (h : RA k t mode 7 0 0 wk0 0 1 r) : EndA chk k (m + 4) r 2 ((t : Int) + 1) 0 := by
  have g := la_t0 hk ht h.fresh (.inr (.inr rfl))
  have g1 := (la_t1 hk ht g.fresh (.inr (.inr rfl))).1 rfl
  rw [if_neg (by decide)] at g1
  have g2 := (la_we7 hk ht g1.fresh).1 rfl
  exact .on hk0 h g (.on hk0 g g1 (.on hk0 g1 g2 (.stop hk0 g2 (la_up hk ht g2.fresh) (by decide))))
end
end Go.Proofs.Ytkkldcggbekleaa
set_option linter.unusedVariables false
set_option linter.unusedSimpArgs false
set_option linter.unusedSectionVars false
namespace Go.Proofs.Ytkkldcggbekleaa
open Go.RowKit
structure StQ (k s : Nat) (xs : List Int) : Prop where
  w : QW k (if s = 2 then 1 else 0) (if s = 1 then 1 else if s = 3 then 2 else 0) xs
def nextQ (s : Nat) (op : Int) : Option (Int × Nat) :=
  match s, op with
  | 0, 1 => some (2, 1) | 0, 3 => some (2, 2) | 0, 5 => some (2, 1) | 0, 6 => some (2, 2)
  | 1, 2 => some (2, 0) | 1, 7 => some (2, 2) | 1, 6 => some (1, 1) | 1, 5 => some (2, 3)
  | 2, 4 => some (2, 0) | 2, 8 => some (2, 1) | 2, 5 => some (1, 2) | 2, 6 => some (1, 2)
  | 3, 2 => some (2, 1)
  | _, _ => none
section
variable {chk : LS → Bool} {k m : Nat} {mode op x y : Int} {xs : List Int}
theorem ra_new (t : Nat) (op : Int) (h : QW k x y xs) : RA k t mode op 0 0 wk0 x y (newR k mode t op xs) := ⟨rfl, rfl, rfl, rfl, rfl, rfl, rfl, rfl, h⟩
theorem EndA.st {r : LS} {ret : Int} {s' : Nat} {x y : Int} (e : EndA chk k m r ret x y) (hx : x = if s' = 2 then 1 else 0) (hy : y = if s' = 1 then 1 else if s' = 3 then 2 else 0) : ∃ ys, aloneG chk LS.fq m r = (ret, ys) ∧ StQ k s' ys := by
  obtain ⟨ys, e1, e2⟩ := e
  exact ⟨ys, e1, ⟨by rw [← hx, ← hy]; exact e2⟩⟩
theorem alone_fqG (hk0 : Chk chk) (hk : 1 ≤ k ∧ k ≤ 64) (hm : k + 8 ≤ m) {s s' : Nat} {ret : Int} (h : nextQ s op = some (ret, s')) (hx : StQ k s xs) : ∃ ys, aloneG chk LS.fq m (newR k mode 0 op xs) = (ret, ys) ∧ StQ k s' ys := by
  obtain ⟨hx⟩ := hx
  have ht : 0 < k := by omega
  unfold nextQ at h
  split at h
  all_goals first
    | (cases h; done)
    | (obtain ⟨rfl, rfl⟩ := Prod.mk.inj (Option.some.inj h))
  · obtain ⟨m, rfl⟩ : ∃ q, m = q + 6 := ⟨m - 6, by omega⟩
    exact (ea_rlock hk0 hk ht (ra_new (mode := mode) 0 1 hx)).st rfl rfl
  · obtain ⟨m, rfl⟩ : ∃ q, m = q + 4 := ⟨m - 4, by omega⟩
    exact (ea_lock hk0 hk ht (ra_new (mode := mode) 0 3 hx)).st rfl rfl
  · obtain ⟨m, rfl⟩ : ∃ q, m = q + 5 := ⟨m - 5, by omega⟩
    exact (ea_tryrlock hk0 hk ht (ra_new (mode := mode) 0 5 hx)).st rfl rfl
  · obtain ⟨m, rfl⟩ : ∃ q, m = q + 3 := ⟨m - 3, by omega⟩
    exact (ea_trylock hk0 hk ht (ra_new (mode := mode) 0 6 hx)).st rfl rfl
  · exact (ea_runlock hk0 hk ht (ra_new (mode := mode) 0 2 hx) (by omega)).st rfl rfl
  · obtain ⟨m, rfl⟩ : ∃ q, m = q + 4 := ⟨m - 4, by omega⟩
    exact (ea_upgrade hk0 hk ht (ra_new (mode := mode) 0 7 hx)).st rfl rfl
  · obtain ⟨m, rfl⟩ : ∃ q, m = q + 5 := ⟨m - 5, by omega⟩
    exact (ea_trylock_no hk0 hk ht (ra_new (mode := mode) 0 6 hx) (by decide)).st rfl rfl
  · obtain ⟨m, rfl⟩ : ∃ q, m = q + 5 := ⟨m - 5, by omega⟩
    exact (ea_tryrlock hk0 hk ht (ra_new (mode := mode) 0 5 hx)).st rfl rfl
  · obtain ⟨m, rfl⟩ : ∃ q, m = q + 2 := ⟨m - 2, by omega⟩
    exact (ea_unlock hk0 hk ht (ra_new (mode := mode) 0 4 hx)).st rfl rfl
  · obtain ⟨m, rfl⟩ : ∃ q, m = q + 3 := ⟨m - 3, by omega⟩
    exact (ea_down hk0 hk ht (ra_new (mode := mode) 0 8 hx)).st rfl rfl
  · obtain ⟨m, rfl⟩ : ∃ q, m = q + 2 := ⟨m - 2, by omega⟩
    exact (ea_try_no hk0 hk ht (ra_new (mode := mode) 0 5 hx) (.inl rfl) (by decide)).st rfl rfl
  · obtain ⟨m, rfl⟩ : ∃ q, m = q + 2 := ⟨m - 2, by omega⟩
    exact (ea_try_no hk0 hk ht (ra_new (mode := mode) 0 6 hx) (.inr (.inl rfl)) (by decide)).st rfl rfl
  · exact (ea_runlock hk0 hk ht (ra_new (mode := mode) 0 2 hx) (by omega)).st rfl rfl
end
def runQ (k : Nat) (mode : Int) (xs : List Int) (op : Int) : Int × List Int := aloneL LS.fq (40 + 8 * k) (newR k mode 0 op xs)
def foldQ (k : Nat) (mode : Int) (l : List Int) (xs : List Int) : List Int := l.foldl (fun ys op => (runQ k mode ys op).2) xs
theorem runQ_ok {k : Nat} {mode op : Int} {xs : List Int} (hk : 1 ≤ k ∧ k ≤ 64) {s s' : Nat} {ret : Int} (h : nextQ s op = some (ret, s')) (hx : StQ k s xs) : (runQ k mode xs op).1 = ret ∧ StQ k s' (runQ k mode xs op).2 := by
  obtain ⟨ys, e1, e2⟩ := alone_fqG (mode := mode) chk_n hk (m := 40 + 8 * k) (by omega) h hx
  have e3 : runQ k mode xs op = (ret, ys) := e1
  rw [e3]; exact ⟨rfl, e2⟩
def goodQ : Nat → List Int → Option Nat
  | s, [] => some s
  | s, op :: l => match nextQ s op with
    | some (2, s') => goodQ s' l
    | _ => none
theorem foldQ_next {k : Nat} {mode : Int} {l : List Int} {j : Nat} {op : Int} (h : l[j]? = some op) (xs : List Int) : foldQ k mode (l.take (j + 1)) xs = (runQ k mode (foldQ k mode (l.take j) xs) op).2 := by
  unfold foldQ
  rw [List.take_add_one, h, List.foldl_append]
  rfl
theorem foldQ_ok {k : Nat} {mode : Int} (hk : 1 ≤ k ∧ k ≤ 64) : ∀ (l : List Int) (s s' : Nat) (xs : List Int), goodQ s l = some s' → StQ k s xs → StQ k s' (foldQ k mode l xs) ∧ ∀ (j : Nat) (op : Int), l[j]? = some op → (runQ k mode (foldQ k mode (l.take j) xs) op).1 = 2 := by
  intro l
  induction l with
  | nil => intro s s' xs h hx; cases h; exact ⟨hx, fun j op e => by simp at e⟩
  | cons o l ih =>
    intro s s' xs h hx
    unfold goodQ at h
    split at h
    · rename_i s1 hn
      obtain ⟨r1, r2⟩ := runQ_ok (mode := mode) hk hn hx
      obtain ⟨i1, i2⟩ := ih s1 s' _ h r2
      refine ⟨i1, fun j op e => ?_⟩
      cases j with
      | zero =>
        have : op = o := by simpa using e.symm
        subst this
        exact r1
      | succ j => exact i2 j op (by simpa using e)
    · cases h
def opsQ : List (List Int) := [[1, 2], [3, 4], [5, 2], [6, 4], [3, 8, 2], [1, 7, 4], [6, 8, 7, 4]]
theorem opsQ_ok {k : Nat} {mode : Int} (hk : 1 ≤ k ∧ k ≤ 64) {xs : List Int} (hx : StQ k 0 xs) : ∀ l ∈ opsQ, StQ k 0 (foldQ k mode l xs) ∧ ∀ (j : Nat) (op : Int), l[j]? = some op → (runQ k mode (foldQ k mode (l.take j) xs) op).1 = 2 := by
  intro l hl
  simp only [opsQ, List.mem_cons, List.not_mem_nil, or_false] at hl
  rcases hl with rfl | rfl | rfl | rfl | rfl | rfl | rfl <;> exact foldQ_ok hk _ 0 0 xs rfl hx
theorem st_first {k : Nat} {xs : List Int} (hl : xs.length = 8 + 4 * k) (hx : ∀ d : Int, wordAt xs d = 0) : StQ k 0 xs := ⟨⟨hl, hx _, hx _, fun _ _ => hx _, fun _ _ => hx _⟩⟩
theorem zeros_word (n : Nat) (d : Int) : wordAt (List.replicate n 0) d = 0 := by
  unfold wordAt
  split
  · simp only [List.getD, List.getElem?_replicate]
    split <;> rfl
  · rfl
end Go.Proofs.Ytkkldcggbekleaa
set_option linter.unusedVariables false
set_option linter.unusedSimpArgs false
namespace Go.Proofs.Ytkkldcggbekleaa
open Go.RowKit
def FirstW (xs : List Int) (S : Nat) (w : World) (e : Ending) (w' : World) : Prop :=
  ∃ g, e = .returned (.tuple #[.slice (some ⟨g, 0, none⟩) S S, .int .i64 0]) ∧ w.heap.size ≤ g ∧ Held w' (some ⟨g, 0, none⟩) S S xs ∧ Only Nil w w'
end Go.Proofs.Ytkkldcggbekleaa
set_option linter.unusedVariables false
set_option linter.unusedSimpArgs false
namespace Go.Proofs.Ytkkldcggbekleaa
open Go.RowKit
def fqXs (k : Nat) : List Int := List.replicate (8 + 4 * k) 0
theorem fq_len (k : Nat) : (fqXs k).length = 8 + 4 * k := List.length_replicate
theorem fq_zero (k : Nat) : ∀ d : Int, wordAt (fqXs k) d = 0 := fun d => zeros_word _ d
theorem fq_words (k : Nat) : Words (fqXs k) := fun n hn => by
  obtain ⟨_, rfl⟩ := List.mem_replicate.1 hn
  rfl
theorem words_fq (k : Nat) (S c : Nat) (b : Int) : words 4 S c b = List.replicate S 0 := by
  apply List.ext_getElem
  · simp [words]
  · intro i h1 h2
    simp [words, wordI]
theorem first_fq (k : Nat) (b : Int) (w : World) (hk : 1 ≤ k ∧ k ≤ 64) (hb : 0 ≤ b ∧ b < 4294967296) :
    Calls Try.prog 7 #[.int .i64 4, .int .i64 k, .int .u32 b] w (FirstW (fqXs k) (8 + 4 * k) w) := by
  have hS : sizeI (k : Int) = ((8 + 4 * k : Nat) : Int) := by unfold sizeI; rw [if_pos (by omega)]; push_cast; rfl
  refine (first_yes 4 k b (8 + 4 * k) w (by omega) (by omega) hS hb).mono ?_
  rintro e w' ⟨g, rfl, hg, hR, hO⟩
  rw [words_fq k] at hR
  have hI := Row.ints (k := .u32) (xs := fqXs k) hR
  exact ⟨g, rfl, hg, ⟨by simp [fqXs], (by intro h; cases h), hI⟩, hO⟩
end Go.Proofs.Ytkkldcggbekleaa
