import Derived.Laws.AppendOwnNone
import Derived.Test.YtocdbeonogfopaaGreatChecked
import Derived.Laws.AppendOwn
import Derived.OwnWalk
import Derived.Deep.OwnRows
import Derived.Test.YtocdbeonogfopaaGreatG25
import Derived.Test.YtocdbeonogfopaaGreatG24
import Derived.Test.YtocdbeonogfopaaGreatG26
import Derived.Test.YtocdbeonogfopaaGreatG1
import Derived.Test.YtocdbeonogfopaaGreatG2
import Derived.Test.YtocdbeonogfopaaGreatG23
import Derived.Test.YtocdbeonogfopaaGreatG11
set_option linter.unusedVariables false
set_option linter.unusedSimpArgs false
set_option linter.unusedSectionVars false
namespace Go.Proofs.YtocdbeonogfopaaGreat
open Go.RowKit
structure PW (k : Nat) (i o x p : Int) (xs : List Int) : Prop where
  len : xs.length = 8 + 4 * k
  i : wordAt xs 0 = i
  o : wordAt xs 1 = o
  x : wordAt xs 2 = x
  p : wordAt xs 3 = p
  w : ∀ j, j < k → wordAt xs (wc k j) = 0
  n : ∀ j, j < k → wordAt xs (nc k j) = 0
structure PA (k t : Nat) (mode op line ret : Int) (K : WkV) (i o x p : Int) (r : LS) : Prop where
  n : r.n = k
  mode : r.mode = mode
  task : r.task = t
  op : r.op = op
  line : r.line = line
  ret : r.ret = ret
  s : r.s = 0
  kk : r.k = K
  w : PW k i o x p r.xs
section
variable {k t : Nat} {mode op line ret i o x p i' o' x' p' line' ret' v : Int} {K K' : WkV} {xs : List Int} {r R : LS}
theorem PW.th (h : PW k i o x p xs) {d : Int} (h0 : 0 ≤ d) (h1 : d < 8 + 4 * k) : there xs d = true := there_lk h.len h0 h1
theorem PW.nw (h : PW k i o x p xs) (hk : k ≤ 64) : NoWatch k xs := fun j hj => ⟨h.th (by rw [wc_at hk hj]; omega) (by rw [wc_at hk hj]; omega), h.w j hj⟩
theorem PW.c0 (h : PW k i o x p xs) (hk : k ≤ 64) (v : Int) : PW k v o x p (st xs 0 v) :=
  ⟨(st_len _ _ _).trans h.len, by rw [word_st, if_pos (h.th (by omega) (by omega))], by rw [word_far _ (by decide)]; exact h.o, by rw [word_far _ (by decide)]; exact h.x, by rw [word_far _ (by decide)]; exact h.p, fun j hj => by rw [word_far _ (by rw [wc_at hk hj]; omega)]; exact h.w j hj, fun j hj => by rw [word_far _ (by rw [nc_q hk hj]; omega)]; exact h.n j hj⟩
theorem PW.c1 (h : PW k i o x p xs) (hk : k ≤ 64) (v : Int) : PW k i v x p (st xs 1 v) :=
  ⟨(st_len _ _ _).trans h.len, by rw [word_far _ (by decide)]; exact h.i, by rw [word_st, if_pos (h.th (by omega) (by omega))], by rw [word_far _ (by decide)]; exact h.x, by rw [word_far _ (by decide)]; exact h.p, fun j hj => by rw [word_far _ (by rw [wc_at hk hj]; omega)]; exact h.w j hj, fun j hj => by rw [word_far _ (by rw [nc_q hk hj]; omega)]; exact h.n j hj⟩
theorem PW.c2 (h : PW k i o x p xs) (hk : k ≤ 64) (v : Int) : PW k i o v p (st xs 2 v) :=
  ⟨(st_len _ _ _).trans h.len, by rw [word_far _ (by decide)]; exact h.i, by rw [word_far _ (by decide)]; exact h.o, by rw [word_st, if_pos (h.th (by omega) (by omega))], by rw [word_far _ (by decide)]; exact h.p, fun j hj => by rw [word_far _ (by rw [wc_at hk hj]; omega)]; exact h.w j hj, fun j hj => by rw [word_far _ (by rw [nc_q hk hj]; omega)]; exact h.n j hj⟩
theorem PW.c3 (h : PW k i o x p xs) (hk : k ≤ 64) (v : Int) : PW k i o x v (st xs 3 v) :=
  ⟨(st_len _ _ _).trans h.len, by rw [word_far _ (by decide)]; exact h.i, by rw [word_far _ (by decide)]; exact h.o, by rw [word_far _ (by decide)]; exact h.x, by rw [word_st, if_pos (h.th (by omega) (by omega))], fun j hj => by rw [word_far _ (by rw [wc_at hk hj]; omega)]; exact h.w j hj, fun j hj => by rw [word_far _ (by rw [nc_q hk hj]; omega)]; exact h.n j hj⟩
theorem PW.nx (h : PW k i o x p xs) (hk : k ≤ 64) (ht : t < k) : PW k i o x p (st xs (nc k t) 0) := by
  refine ⟨(st_len _ _ _).trans h.len, by rw [word_far _ (by rw [nc_q hk ht]; omega)]; exact h.i, by rw [word_far _ (by rw [nc_q hk ht]; omega)]; exact h.o, by rw [word_far _ (by rw [nc_q hk ht]; omega)]; exact h.x, by rw [word_far _ (by rw [nc_q hk ht]; omega)]; exact h.p, fun j hj => by rw [word_far _ (by rw [wc_at hk hj, nc_q hk ht]; omega)]; exact h.w j hj, fun j hj => ?_⟩
  by_cases e : j = t
  · subst e; rw [word_st, if_pos (h.th (by rw [nc_q hk hj]; omega) (by rw [nc_q hk hj]; omega))]
  · rw [word_far _ (by rw [nc_q hk hj, nc_q hk ht]; omega)]; exact h.n j hj
theorem PW.bl (h : PW k i o x p xs) (hk : k ≤ 64) (ht : t < k) (v : Int) : PW k i o x p (st xs (bc k t) v) :=
  ⟨(st_len _ _ _).trans h.len, by rw [word_far _ (by rw [bc_q hk ht]; omega)]; exact h.i, by rw [word_far _ (by rw [bc_q hk ht]; omega)]; exact h.o, by rw [word_far _ (by rw [bc_q hk ht]; omega)]; exact h.x, by rw [word_far _ (by rw [bc_q hk ht]; omega)]; exact h.p, fun j hj => by rw [word_far _ (by rw [wc_at hk hj, bc_q hk ht]; omega)]; exact h.w j hj, fun j hj => by rw [word_far _ (by rw [nc_q hk hj, bc_q hk ht]; omega)]; exact h.n j hj⟩
theorem PA.fresh (h : PA k t mode op line ret K i o x p r) : PA k t mode op line ret K i o x p r.fresh := ⟨h.n, h.mode, h.task, h.op, h.line, h.ret, h.s, h.kk, h.w⟩
theorem PA.nc (h : PA k t mode op line ret K i o x p r) : nc r.n r.task = nc k t := by rw [h.n, h.task]
theorem PA.bc (h : PA k t mode op line ret K i o x p r) : bc r.n r.task = bc k t := by rw [h.n, h.task]
theorem PA.me (h : PA k t mode op line ret K i o x p r) (hk : k ≤ 64) (ht : t < k) : r.me = (t : Int) + 1 := by unfold LS.me; rw [h.task]; omega
theorem PA.of (h : PA k t mode op line ret K i o x p r) (f : r.Fr R) (hl : R.line = line') (hr : R.ret = ret') (hK : R.k = K') (hw : PW k i' o' x' p' R.xs) : PA k t mode op line' ret' K' i' o' x' p' R :=
  ⟨f.n.trans h.n, f.mode.trans h.mode, f.task.trans h.task, f.op.trans h.op, hl, hr, f.s.trans h.s, hK, hw⟩
variable (hk : 1 ≤ k ∧ k ≤ 64) (ht : t < k)
include hk ht
theorem lp_e0 (h : PA k t mode 3 0 0 wk0 i o x p r) : PA k t mode 3 1 0 wk0 i o x p r.pq := by
  rw [pq_enter (j := 0) h.op h.line (by decide), wEnter_0 h.line]
  refine ⟨h.n, h.mode, h.task, h.op, rfl, h.ret, h.s, h.kk, ?_⟩
  show PW k i o x p (doNew r.xs 2 _ 0 0)
  rw [h.nc, doNew_st _ _ _ _ _ rfl]; exact h.w.nx hk.2 ht
theorem lp_e1 (h : PA k t mode 3 1 0 wk0 i o x p r) : PA k t mode 3 2 0 wk0 i o x p r.pq := by
  rw [pq_enter (j := 1) h.op h.line (by decide), wEnter_1 h.line]
  refine ⟨h.n, h.mode, h.task, h.op, rfl, h.ret, h.s, h.kk, ?_⟩
  show PW k i o x p (doNew r.xs 2 _ 1 0)
  rw [h.bc, doNew_st _ _ _ _ _ rfl]; exact h.w.bl hk.2 ht 1
theorem lp_e2 (h : PA k t mode 3 2 0 wk0 i o 0 p r) : PA k t mode 3 5 0 wk0 i o ((t : Int) + 1) p r.pq := by
  rw [pq_enter (j := 2) h.op h.line (by decide), wEnter_2 h.line, if_pos h.w.x]
  obtain ⟨f, f2, f3, f4, _, f6⟩ := swapIn_fw (r := r) 2 2
  rw [h.me hk.2 ht, doNew_st _ _ _ _ _ rfl] at f6
  generalize r.swapIn 2 2 = R0 at *
  exact h.of (R := R0.go 5) ⟨f.n, f.mode, f.task, f.op, f.s⟩ rfl (f3.trans h.ret) (f4.trans h.kk) (by show PW k i o _ p R0.xs; rw [f6]; exact h.w.c2 hk.2 _)
theorem lp_keep {n : Int} (h : PA k t mode op line 0 wk0 i o x p r) (e : r.pq = r.wKeep n) : PA k t mode op n 0 wk0 i o x p r.pq ∧ r.pq.b = p := by
  rw [e]
  obtain ⟨f, f2, f3, f4, f5, f6, f7⟩ := keep_fw (r := r) n
  exact ⟨h.of f f2 (f3.trans h.ret) (f4.trans h.kk) (by rw [f7]; exact h.w), f6.trans h.w.p⟩
theorem lp_app {n : Int} (h : PA k t mode op line 0 wk0 i o x p r) (hb : r.b = p) (e : r.pq = r.pAppear n) : PA k t mode op n 0 wk0 ((presI p + i) % 4294967296) o x p r.pq ∧ r.pq.a = i := by
  rw [e]
  obtain ⟨f, f2, f3, f4, f5, f6, f7⟩ := app_fw (r := r) n
  refine ⟨h.of f f2 (f3.trans h.ret) (f4.trans h.kk) ?_, f5.trans h.w.i⟩
  rw [f7, hb, doNew_st _ _ _ _ _ rfl, h.w.i]
  exact h.w.c0 hk.2 _
theorem lp_adm (h : PA k t mode op line 0 wk0 i o x p r) (ha : r.a = o) (e : r.pq = r.pAdmit 1 r.mine) : PA k t mode op line 2 wk0 i o x p r.pq := by
  rw [e]
  have hm : r.mine (wordAt r.xs 1) = true := by
    show (wordAt r.xs 1 == r.a) = true
    rw [h.w.o, ha]; exact beq_self_eq_true _
  obtain ⟨h1, h2, h3, h4⟩ := stepI_seen (xs := r.xs) (n := r.n) (mode := r.mode) (i := r.task) (c := 1) (q := r.mine) hm
  have hS : r.stepR 1 r.mine = stepI r.xs r.n r.mode r.task 0 1 r.mine := by unfold LS.stepR; rw [h.s]
  unfold LS.pAdmit
  obtain ⟨g1, g2, g3, g4, g5, g6, g7, g8, g9, g10, g11⟩ := wait_fw (r := r) 1 r.mine
  rw [hS] at g10 g11 ⊢
  rw [if_pos h3, h2]
  rw [h1] at g10
  rw [h4] at g11
  generalize r.wait 1 r.mine = R0 at *
  exact h.of (R := (R0.noteIf true 4).fin true) ⟨g1, g2, g3, g4, g10.trans h.s.symm⟩ (g5.trans h.line) rfl (g7.trans h.kk) (by show PW k i o x p R0.xs; rw [g11]; exact h.w)
theorem lp_oth (h : PA k t mode 7 6 0 wk0 i o x p r) (ha : o = (r.a - 256) % 4294967296) : PA k t mode 7 7 0 wk0 i o x p r.pq := by
  rw [pq_7_6 h.op h.line]
  have hm : r.butMe (wordAt r.xs 1) = true := by
    show (wordAt r.xs 1 == (r.a - 256) % 4294967296) = true
    rw [h.w.o, ← ha]; exact beq_self_eq_true _
  obtain ⟨h1, h2, h3, h4⟩ := stepI_seen (xs := r.xs) (n := r.n) (mode := r.mode) (i := r.task) (c := 1) (q := r.butMe) hm
  have hS : r.stepR 1 r.butMe = stepI r.xs r.n r.mode r.task 0 1 r.butMe := by unfold LS.stepR; rw [h.s]
  unfold LS.wOthers
  obtain ⟨g1, g2, g3, g4, g5, g6, g7, g8, g9, g10, g11⟩ := wait_fw (r := r) 1 r.butMe
  rw [hS] at g10 g11 ⊢
  rw [if_pos h3, h2]
  rw [h1] at g10
  rw [h4] at g11
  generalize r.wait 1 r.butMe = R0 at *
  exact h.of (R := (R0.noteIf true 9).go 7) ⟨g1, g2, g3, g4, g10.trans h.s.symm⟩ rfl (g6.trans h.ret) (g7.trans h.kk) (by show PW k i o x p R0.xs; rw [g11]; exact h.w)
theorem lp_come (h : PA k t mode 1 0 0 wk0 i o x p r) (hb : bitsI i = 0) : PA k t mode 1 0 2 wk0 ((256 + i) % 4294967296) o x p r.pq := by
  rw [pq_1_0 h.op h.line]
  unfold LS.pCome
  rw [if_pos (by rw [h.w.i]; exact hb)]
  obtain ⟨f, f2, f3, f4, f5, f6, f7⟩ := doA_fw r 3 0 256 0
  rw [doNew_st _ _ _ _ _ rfl, h.w.i] at f7
  generalize r.doA 3 0 256 0 = R0 at *
  exact h.of (R := (((R0.keepA (wordAt r.xs 0)).note 2 1).note 4 0).fin true) ⟨f.n, f.mode, f.task, f.op, f.s⟩ (f2.trans h.line) rfl (f4.trans h.kk) (by show PW k _ o x p R0.xs; rw [f7]; exact h.w.c0 hk.2 _)
theorem lp_dep (h : PA k t mode 2 0 0 wk0 i o x p r) : PA k t mode 2 0 2 (beginI mode 1) i ((256 + o) % 4294967296) x p r.pq := by
  rw [pq_2_0 h.op h.line]
  obtain ⟨f, f2, f3, f4, f5⟩ := dep_fw (r := r)
  rw [doNew_st _ _ _ _ _ rfl, h.w.o] at f5
  exact h.of f (f2.trans h.line) f3 (by rw [f4, h.mode]) (by rw [f5]; exact h.w.c1 hk.2 _)
theorem lp_stop (h : PA k t mode 7 7 0 wk0 i o x p r) : PA k t mode 7 7 2 wk0 i ((256 + o) % 4294967296) x p r.pq := by
  rw [pq_7_7 h.op h.line]
  obtain ⟨f, f2, f3, f4, f5⟩ := stop_fw (r := r)
  rw [doNew_st _ _ _ _ _ rfl, h.w.o] at f5
  exact h.of f (f2.trans h.line) f3 (f4.trans h.kk) (by rw [f5]; exact h.w.c1 hk.2 _)
theorem lp_lookIn (h : PA k t mode 5 0 0 wk0 i o x p r) : (bitsI i = 0 → PA k t mode 5 1 0 wk0 i o x p r.pq ∧ r.pq.a = i) ∧ (bitsI i ≠ 0 → PA k t mode 5 0 1 wk0 i o x p r.pq) := by
  rw [pq_5_0 h.op h.line]
  unfold LS.pLookIn
  obtain ⟨f, f2, f3, f4, f5, f6, f7⟩ := doA_fw r 1 0 0 0
  rw [own_load] at f7
  rw [h.w.i]
  generalize r.doA 1 0 0 0 = R0 at *
  refine ⟨fun hb => ?_, fun hb => ?_⟩
  · rw [if_pos hb]
    exact ⟨h.of (R := (R0.keepA i).go 1) ⟨f.n, f.mode, f.task, f.op, f.s⟩ rfl (f3.trans h.ret) (f4.trans h.kk) (by show PW k i o x p R0.xs; rw [f7]; exact h.w), rfl⟩
  · rw [if_neg hb]
    exact h.of (R := ((R0.keepA i).note 5 0).fin false) ⟨f.n, f.mode, f.task, f.op, f.s⟩ (f2.trans h.line) rfl (f4.trans h.kk) (by show PW k i o x p R0.xs; rw [f7]; exact h.w)
theorem lp_slip (h : PA k t mode 5 1 0 wk0 i o x p r) (ha : r.a = i) : PA k t mode 5 1 2 wk0 ((256 + i) % 4294967296) o x p r.pq := by
  rw [pq_5_1 h.op h.line]
  unfold LS.pSlip
  rw [if_pos (by unfold LS.was; rw [h.w.th (by omega) (by omega), h.w.i, ha, Bool.true_and]; exact beq_self_eq_true _)]
  obtain ⟨f, f2, f3, f4, f5, f6, f7⟩ := doA_fw r 5 0 r.a ((r.a + 256) % 4294967296)
  replace f7 : (r.doA 5 0 r.a ((r.a + 256) % 4294967296)).xs = st r.xs 0 ((256 + i) % 4294967296) := by
    rw [f7, doNew_st _ _ _ _ _ rfl, h.w.i, ha, show leftOf 5 i ((i + 256) % 4294967296) i = (256 + i) % 4294967296 by show (if i = i then (i + 256) % 4294967296 else i) = _; rw [if_pos rfl, Int.add_comm]]
  generalize r.doA 5 0 r.a ((r.a + 256) % 4294967296) = R0 at *
  exact h.of (R := ((R0.note 2 1).note 4 0).fin true) ⟨f.n, f.mode, f.task, f.op, f.s⟩ (f2.trans h.line) rfl (f4.trans h.kk) (by show PW k _ o x p R0.xs; rw [f7]; exact h.w.c0 hk.2 _)
theorem lp_van {inn w : Int} (h : PA k t mode op 1 0 wk0 i o x p r) (hb : r.b = p) (e : r.pq = r.pVanish inn w) : PA k t mode op 2 0 (beginI mode 0) (((inn - presI p) % 4294967296 + i) % 4294967296) o x p r.pq ∧ r.pq.b = p := by
  rw [e]
  obtain ⟨f, f2, f3, f4, f5, f6⟩ := van_fw (r := r) inn w
  refine ⟨h.of f f2 (f3.trans h.ret) (by rw [f4, h.mode]) ?_, f5.trans hb⟩
  rw [f6, hb, doNew_st _ _ _ _ _ rfl, h.w.i]
  exact h.w.c0 hk.2 _
theorem lp_cnt (h : PA k t mode op 2 0 wk0 i o x p r) (hb : r.b = p) (e : r.pq = r.wCount) : PA k t mode op 3 0 wk0 i o x ((p + 1) % 4294967296) r.pq := by
  rw [e]
  obtain ⟨f, f2, f3, f4, f5⟩ := cnt_fw (r := r)
  rw [doNew_st _ _ _ _ _ rfl, hb] at f5
  exact h.of f f2 (f3.trans h.ret) (f4.trans h.kk) (by rw [f5]; exact h.w.c3 hk.2 _)
theorem lp_g0 {a : Int} {ok : Bool} (h : PA k t mode op a 0 wk0 i o x p r) (e : r.pq = r.wGive a ok) : PA k t mode op (a + 1) 0 wk0 i o x p r.pq := by
  rw [e, wGive_0 h.line, if_pos (by rw [h.nc]; exact h.w.n t ht)]
  obtain ⟨f, f2, f3, f4, f5⟩ := peek_fw (r := r)
  generalize r.peek = R0 at *
  exact h.of (R := R0.go (a + 1)) ⟨f.n, f.mode, f.task, f.op, f.s⟩ rfl (f3.trans h.ret) (f4.trans h.kk) (by show PW k i o x p R0.xs; rw [f5]; exact h.w)
theorem lp_g1 {a : Int} {ok : Bool} (h : PA k t mode op (a + 1) 0 wk0 i o ((t : Int) + 1) p r) (e : r.pq = r.wGive a ok) : PA k t mode op (a + 1) (if ok then 2 else 1) wk0 i o 0 p r.pq := by
  have hc : r.casOut 2 = true := by
    unfold LS.casOut
    rw [h.me hk.2 ht, h.w.th (by omega) (by omega), h.w.x, Bool.true_and]; exact beq_self_eq_true _
  rw [e, wGive_1 h.line, if_pos hc]
  obtain ⟨f, f2, f3, f4, f5, f6, f7⟩ := doA_fw r 5 2 r.me 0
  rw [h.me hk.2 ht, doNew_st _ _ _ _ _ rfl, h.w.x, show leftOf 5 ((t : Int) + 1) 0 ((t : Int) + 1) = 0 by show (if (t : Int) + 1 = (t : Int) + 1 then (0 : Int) else _) = 0; rw [if_pos rfl]] at f7
  rw [h.me hk.2 ht] at *
  generalize r.doA 5 2 ((t : Int) + 1) 0 = R0 at *
  obtain ⟨n1, n2, n3, n4, n5, n6, n7, n8, n9, n10, _⟩ := notes_same R0 [8]
  generalize R0.notes [8] = R1 at *
  exact h.of (R := R1.fin ok) ⟨n5.trans f.n, n6.trans f.mode, n7.trans f.task, n8.trans f.op, n3.trans f.s⟩ (n9.trans (f2.trans h.line)) rfl (n4.trans (f4.trans h.kk)) (by show PW k i o 0 p R1.xs; rw [n1, f7]; exact h.w.c2 hk.2 0)
theorem lp_t0 (h : PA k t mode op 0 0 wk0 i o x p r) (ho : op = 6 ∨ op = 7) : PA k t mode op 1 0 wk0 i o x p r.pq := by
  rw [pq_try (j := 0) (by rw [h.op]; exact ho) h.line (by decide), wTry_0 h.line]
  refine ⟨h.n, h.mode, h.task, h.op, rfl, h.ret, h.s, h.kk, ?_⟩
  show PW k i o x p (doNew r.xs 2 _ 0 0)
  rw [h.nc, doNew_st _ _ _ _ _ rfl]; exact h.w.nx hk.2 ht
theorem lp_t1 (h : PA k t mode op 1 0 wk0 i o x p r) (ho : op = 6 ∨ op = 7) : (x = 0 → PA k t mode op 2 0 wk0 i o ((t : Int) + 1) p r.pq) ∧ (x ≠ 0 → PA k t mode op 1 1 wk0 i o x p r.pq) := by
  rw [pq_try (j := 1) (by rw [h.op]; exact ho) h.line (by decide), wTry_1 h.line, h.w.th (by omega) (by omega), h.w.x, Bool.true_and]
  obtain ⟨f, f2, f3, f4, f5, f6, f7⟩ := doA_fw r 5 2 0 r.me
  rw [h.me hk.2 ht, doNew_st _ _ _ _ _ rfl, h.w.x] at f7
  rw [h.me hk.2 ht] at *
  generalize r.doA 5 2 0 ((t : Int) + 1) = R0 at *
  refine ⟨fun e => ?_, fun e => ?_⟩
  · rw [if_pos (by rw [e]; rfl)]
    rw [show leftOf 5 0 ((t : Int) + 1) x = (t : Int) + 1 from if_pos e] at f7
    exact h.of (R := (R0.note 2 2).go 2) ⟨f.n, f.mode, f.task, f.op, f.s⟩ rfl (f3.trans h.ret) (f4.trans h.kk) (by show PW k i o _ p R0.xs; rw [f7]; exact h.w.c2 hk.2 _)
  · rw [if_neg (by simpa using e)]
    rw [show leftOf 5 0 ((t : Int) + 1) x = x from if_neg e] at f7
    exact h.of (R := (R0.note 5 0).fin false) ⟨f.n, f.mode, f.task, f.op, f.s⟩ (f2.trans h.line) rfl (f4.trans h.kk) (by show PW k i o _ p R0.xs; rw [f7]; exact h.w.c2 hk.2 _)
theorem lp_look (h : PA k t mode op 2 0 wk0 i o x p r) (ho : op = 6 ∨ op = 7) : PA k t mode op 3 0 wk0 i o x p r.pq ∧ r.pq.a = i := by
  have e : r.pq = r.pLook 0 3 := by
    rcases ho with rfl | rfl
    · exact pq_6_2 h.op h.line
    · exact pq_7_2 h.op h.line
  rw [e]
  obtain ⟨f, f2, f3, f4, f5, f6, f7⟩ := look_fw (r := r) 3
  exact ⟨h.of f f2 (f3.trans h.ret) (f4.trans h.kk) (by rw [f7]; exact h.w), f5.trans h.w.i⟩
theorem lp_wei {own : Int} (h : PA k t mode op 3 0 wk0 i o x p r) (ha : r.a = i) (e : r.pq = r.wWeigh own) : (aheadI i o ≤ own → PA k t mode op 4 0 wk0 i o x p r.pq) ∧ (¬ aheadI i o ≤ own → PA k t mode op 8 0 wk0 i o x p r.pq) := by
  rw [e]
  unfold LS.wWeigh
  rw [ha, h.w.o]
  obtain ⟨f, f2, f3, f4, f5, f6, f7⟩ := doA_fw r 1 1 0 0
  rw [own_load] at f7
  generalize r.doA 1 1 0 0 = R0 at *
  refine ⟨fun e => ?_, fun e => ?_⟩
  · rw [if_pos e]
    exact h.of (R := (R0.keepB o).go 4) ⟨f.n, f.mode, f.task, f.op, f.s⟩ rfl (f3.trans h.ret) (f4.trans h.kk) (by show PW k i o x p R0.xs; rw [f7]; exact h.w)
  · rw [if_neg e]
    exact h.of (R := ((R0.keepB o).note 5 0).go 8) ⟨f.n, f.mode, f.task, f.op, f.s⟩ rfl (f3.trans h.ret) (f4.trans h.kk) (by show PW k i o x p R0.xs; rw [f7]; exact h.w)
end
section
variable {chk : LS → Bool} {k t m : Nat} {mode op line ret op' line' i o x p i' o' x' p' : Int} {r : LS}
def EndP (chk : LS → Bool) (k m : Nat) (r : LS) (ret i o x p : Int) : Prop := ∃ xs, aloneG chk LS.pq m r = (ret, xs) ∧ PW k i o x p xs
theorem nextp_off (h : PA k t mode op line ret wk0 i o x p r) : r.next LS.pq = r.fresh.pq := by
  unfold LS.next
  rw [h.kk, if_neg (by show ¬ false = true; decide)]
theorem EndP.on (hk0 : Chk chk) (h : PA k t mode op line 0 wk0 i o x p r) (g : PA k t mode op' line' 0 wk0 i' o' x' p' r.fresh.pq) {re I O X P : Int} (e : EndP chk k m r.fresh.pq re I O X P) : EndP chk k (m + 1) r re I O X P := by
  obtain ⟨xs, e1, e2⟩ := e
  refine ⟨xs, ?_, e2⟩
  rw [alone_on hk0 h.s (by rw [nextp_off h]; unfold LS.over; rw [g.ret]; rfl), nextp_off h]
  exact e1
theorem EndP.stop (hk0 : Chk chk) (h : PA k t mode op line 0 wk0 i o x p r) (g : PA k t mode op' line' ret wk0 i' o' x' p' r.fresh.pq) (hr : ret ≠ 0) : EndP chk k (m + 1) r ret i' o' x' p' := by
  refine ⟨_, ?_, g.w⟩
  rw [alone_end hk0 h.s (by rw [nextp_off h]; unfold LS.over; rw [g.ret, g.kk]; simpa [wk0] using hr), nextp_off h, g.ret]
theorem EndP.done (hk0 : Chk chk) (hk : 1 ≤ k ∧ k ≤ 64) {c : Int} (hc : 0 ≤ c ∧ c < 8) (h : PA k t mode op line 0 wk0 i o x p r) (g : PA k t mode op' line' ret (beginI mode c) i' o' x' p' r.fresh.pq) (hr : ret ≠ 0) (hm : k < m) : EndP chk k m r ret i' o' x' p' :=
  ⟨_, by rw [alone_doneQ hk0 hk hc (nextp_off h) g.n (g.w.nw hk.2) g.kk (by rw [g.ret]; exact hr) h.s g.s hm, g.ret], g.w⟩
theorem EndP.woken (hk0 : Chk chk) (hk : 1 ≤ k ∧ k ≤ 64) {c : Int} (hc : 0 ≤ c ∧ c < 8) (h : PA k t mode op line 0 wk0 i o x p r) (g : PA k t mode op' line' 0 (beginI mode c) i' o' x' p' r.fresh.pq) (hm : k < m) {re I O X P : Int}
    (e : ∀ m' R, m ≤ m' + k → PA k t mode op' line' 0 wk0 i' o' x' p' R → R.a = r.fresh.pq.a → R.b = r.fresh.pq.b → EndP chk k m' R re I O X P) : EndP chk k (m + 1) r re I O X P := by
  generalize hR : r.fresh.pq = R at *
  have hn : r.next LS.pq = R := (nextp_off h).trans hR
  have h1 : aloneG chk LS.pq (m + 1) r = aloneG chk LS.pq m R := by
    rw [alone_on hk0 h.s (by rw [hn]; unfold LS.over; rw [g.ret]; rfl), hn]
  have gP : PA k t mode op' line' 0 wk0 i' o' x' p' { R with k := wk0 } := ⟨g.n, g.mode, g.task, g.op, g.line, g.ret, g.s, rfl, g.w⟩
  by_cases h2 : mode = 2
  · have e2 := alone_sweepQ (L := LS.pq) hk0 hk hc (g.w.nw hk.2) (m - k) (k - 1) R (by omega) g.n rfl (by rw [g.kk, h2, beginI_2]; simp) g.s (.inl (by omega))
    rw [show k - 1 + 1 + (m - k) = m by omega, if_neg (by rw [g.ret]; decide)] at e2
    obtain ⟨xs, e3, e4⟩ := e (m - k) { R with k := wk0 } (by omega) gP rfl rfl
    exact ⟨xs, by rw [h1, e2]; exact e3, e4⟩
  · have hkk := g.kk
    rw [beginI_no h2] at hkk
    have hRR : ({ R with k := wk0 } : LS) = R := by rw [← hkk]
    rw [hRR] at gP
    obtain ⟨xs, e3, e4⟩ := e m R (by omega) gP rfl rfl
    exact ⟨xs, by rw [h1]; exact e3, e4⟩
variable (hk0 : Chk chk) (hk : 1 ≤ k ∧ k ≤ 64) (ht : t < k)
include hk0 hk ht
theorem ep_give4 (ho : op = 4 ∨ op = 8) (h : PA k t mode op 3 0 wk0 i o ((t : Int) + 1) p r) : EndP chk k (m + 2) r 2 i o 0 p := by
  have g := lp_g0 hk ht h.fresh (pq_give4 (j := 0) (by rw [h.fresh.op]; exact ho) (by rw [h.fresh.line]; rfl) (by decide))
  have g2 := lp_g1 (ok := true) hk ht g.fresh (pq_give4 (j := 1) (by rw [g.fresh.op]; exact ho) (by rw [g.fresh.line]; rfl) (by decide))
  exact .on hk0 h g (.stop hk0 g g2 (by decide))
theorem ep_give6 (ho : op = 6 ∨ op = 7) (h : PA k t mode op 8 0 wk0 i o ((t : Int) + 1) p r) : EndP chk k (m + 2) r 1 i o 0 p := by
  have g := lp_g0 hk ht h.fresh (pq_give6 (j := 0) (by rw [h.fresh.op]; exact ho) (by rw [h.fresh.line]; rfl) (by decide))
  have g2 := lp_g1 (ok := false) hk ht g.fresh (pq_give6 (j := 1) (by rw [g.fresh.op]; exact ho) (by rw [g.fresh.line]; rfl) (by decide))
  exact .on hk0 h g (.stop hk0 g g2 (by decide))
theorem ep_rlock (h : PA k t mode 1 0 0 wk0 i o x p r) (hb : bitsI i = 0) : EndP chk k (m + 1) r 2 ((256 + i) % 4294967296) o x p := .stop hk0 h (lp_come hk ht h.fresh hb) (by decide)
theorem ep_runlock (h : PA k t mode 2 0 0 wk0 i o x p r) (hm : k < m) : EndP chk k m r 2 i ((256 + o) % 4294967296) x p := .done hk0 hk (c := 1) (by decide) h (lp_dep hk ht h.fresh) (by decide) hm
theorem ep_lock (h : PA k t mode 3 0 0 wk0 i i 0 p r) : EndP chk k (m + 6) r 2 ((presI p + i) % 4294967296) i ((t : Int) + 1) p := by
  have g := lp_e0 hk ht h.fresh
  have g1 := lp_e1 hk ht g.fresh
  have g2 := lp_e2 hk ht g1.fresh
  have g3 := lp_keep hk ht g2.fresh (pq_3_5 g2.fresh.op g2.fresh.line)
  have g4 := lp_app hk ht g3.1.fresh g3.2 (pq_3_6 g3.1.fresh.op g3.1.fresh.line)
  have g5 := lp_adm hk ht g4.1.fresh g4.2 (pq_3_7 g4.1.fresh.op g4.1.fresh.line)
  exact .on hk0 h g (.on hk0 g g1 (.on hk0 g1 g2 (.on hk0 g2 g3.1 (.on hk0 g3.1 g4.1 (.stop hk0 g4.1 g5 (by decide))))))
theorem ep_leave {inn w : Int} (ho : op = 4 ∨ op = 8) (hv : ∀ R : LS, R.op = op → R.line = 1 → R.pq = R.pVanish inn w) (h : PA k t mode op 0 0 wk0 i o ((t : Int) + 1) p r) (hm : 2 * k + 8 ≤ m) : EndP chk k m r 2 (((inn - presI p) % 4294967296 + i) % 4294967296) o 0 ((p + 1) % 4294967296) := by
  obtain ⟨m, rfl⟩ : ∃ q, m = q + 2 := ⟨m - 2, by omega⟩
  have g := lp_keep hk ht h.fresh (n := 1) (by
    rcases ho with rfl | rfl
    · exact pq_4_0 h.fresh.op h.fresh.line
    · exact pq_8_0 h.fresh.op h.fresh.line)
  have g1 := lp_van hk ht g.1.fresh g.2 (hv _ g.1.fresh.op g.1.fresh.line)
  refine .on hk0 h g.1 (.woken hk0 hk (c := 0) (by decide) g.1 g1.1 (by omega) fun m' R hm' hR ha hb => ?_)
  obtain ⟨m', rfl⟩ : ∃ q, m' = q + 3 := ⟨m' - 3, by omega⟩
  have g2 := lp_cnt hk ht hR.fresh (show R.b = p from hb.trans g1.2) (by
    rcases ho with rfl | rfl
    · exact pq_4_2 hR.fresh.op hR.fresh.line
    · exact pq_8_2 hR.fresh.op hR.fresh.line)
  exact .on hk0 hR g2 (ep_give4 hk0 hk ht ho g2)
theorem ep_unlock (h : PA k t mode 4 0 0 wk0 i o ((t : Int) + 1) p r) (hm : 2 * k + 8 ≤ m) : EndP chk k m r 2 (((0 - presI p) % 4294967296 + i) % 4294967296) o 0 ((p + 1) % 4294967296) := ep_leave hk0 hk ht (.inl rfl) (fun R h1 h2 => pq_4_1 h1 h2) h hm
theorem ep_down (h : PA k t mode 8 0 0 wk0 i o ((t : Int) + 1) p r) (hm : 2 * k + 8 ≤ m) : EndP chk k m r 2 (((256 - presI p) % 4294967296 + i) % 4294967296) o 0 ((p + 1) % 4294967296) := ep_leave hk0 hk ht (.inr rfl) (fun R h1 h2 => pq_8_1 h1 h2) h hm
theorem ep_tryrlock (h : PA k t mode 5 0 0 wk0 i o x p r) (hb : bitsI i = 0) : EndP chk k (m + 2) r 2 ((256 + i) % 4294967296) o x p := by
  have g := (lp_lookIn hk ht h.fresh).1 hb
  exact .on hk0 h g.1 (.stop hk0 g.1 (lp_slip hk ht g.1.fresh g.2) (by decide))
theorem ep_tryrlock_no (h : PA k t mode 5 0 0 wk0 i o x p r) (hb : bitsI i ≠ 0) : EndP chk k (m + 1) r 1 i o x p := .stop hk0 h ((lp_lookIn hk ht h.fresh).2 hb) (by decide)
theorem ep_try_no (h : PA k t mode op 0 0 wk0 i o x p r) (ho : op = 6 ∨ op = 7) (hx : x ≠ 0) : EndP chk k (m + 2) r 1 i o x p := by
  have g := lp_t0 hk ht h.fresh ho
  exact .on hk0 h g (.stop hk0 g ((lp_t1 hk ht g.fresh ho).2 hx) (by decide))
theorem ep_trylock (h : PA k t mode 6 0 0 wk0 i i 0 p r) : EndP chk k (m + 7) r 2 ((presI p + i) % 4294967296) i ((t : Int) + 1) p := by
  have ho : (6 : Int) = 6 ∨ (6 : Int) = 7 := .inl rfl
  have g := lp_t0 hk ht h.fresh ho
  have g1 := (lp_t1 hk ht g.fresh ho).1 rfl
  have g2 := lp_look hk ht g1.fresh ho
  have g3 := (lp_wei hk ht g2.1.fresh g2.2 (pq_6_3 g2.1.fresh.op g2.1.fresh.line)).1 (by rw [ahead_self]; decide)
  have g4 := lp_keep hk ht g3.fresh (pq_6_4 g3.fresh.op g3.fresh.line)
  have g5 := lp_app hk ht g4.1.fresh g4.2 (pq_6_5 g4.1.fresh.op g4.1.fresh.line)
  have g6 := lp_adm hk ht g5.1.fresh g5.2 (pq_6_6 g5.1.fresh.op g5.1.fresh.line)
  exact .on hk0 h g (.on hk0 g g1 (.on hk0 g1 g2.1 (.on hk0 g2.1 g3 (.on hk0 g3 g4.1 (.on hk0 g4.1 g5.1 (.stop hk0 g5.1 g6 (by decide)))))))
theorem ep_trylock_no (h : PA k t mode 6 0 0 wk0 i o 0 p r) (hy : ¬ aheadI i o ≤ 0) : EndP chk k (m + 6) r 1 i o 0 p := by
  have ho : (6 : Int) = 6 ∨ (6 : Int) = 7 := .inl rfl
  have g := lp_t0 hk ht h.fresh ho
  have g1 := (lp_t1 hk ht g.fresh ho).1 rfl
  have g2 := lp_look hk ht g1.fresh ho
  have g3 := (lp_wei hk ht g2.1.fresh g2.2 (pq_6_3 g2.1.fresh.op g2.1.fresh.line)).2 hy
  exact .on hk0 h g (.on hk0 g g1 (.on hk0 g1 g2.1 (.on hk0 g2.1 g3 (ep_give6 hk0 hk ht ho g3))))
theorem ep_upgrade (h : PA k t mode 7 0 0 wk0 i o 0 p r) (ha : aheadI i o ≤ 256) (hio : o = (i - 256) % 4294967296) : EndP chk k (m + 8) r 2 ((presI p + i) % 4294967296) ((256 + o) % 4294967296) ((t : Int) + 1) p := by
  have ho : (7 : Int) = 6 ∨ (7 : Int) = 7 := .inr rfl
  have g := lp_t0 hk ht h.fresh ho
  have g1 := (lp_t1 hk ht g.fresh ho).1 rfl
  have g2 := lp_look hk ht g1.fresh ho
  have g3 := (lp_wei hk ht g2.1.fresh g2.2 (pq_7_3 g2.1.fresh.op g2.1.fresh.line)).1 ha
  have g4 := lp_keep hk ht g3.fresh (pq_7_4 g3.fresh.op g3.fresh.line)
  have g5 := lp_app hk ht g4.1.fresh g4.2 (pq_7_5 g4.1.fresh.op g4.1.fresh.line)
  have g6 := lp_oth hk ht g5.1.fresh (show o = (_ - 256) % 4294967296 by rw [show (LS.fresh _).a = i from g5.2]; exact hio)
  have g7 := lp_stop hk ht g6.fresh
  exact .on hk0 h g (.on hk0 g g1 (.on hk0 g1 g2.1 (.on hk0 g2.1 g3 (.on hk0 g3 g4.1 (.on hk0 g4.1 g5.1 (.on hk0 g5.1 g6 (.stop hk0 g6 g7 (by decide))))))))
end
end Go.Proofs.YtocdbeonogfopaaGreat
set_option linter.unusedVariables false
set_option linter.unusedSimpArgs false
set_option linter.unusedSectionVars false
namespace Go.Proofs.YtocdbeonogfopaaGreat
open Go.RowKit
structure StP (k s : Nat) (xs : List Int) : Prop where
  w : ∃ i o p : Int, PW k i o (if s = 2 then 1 else 0) p xs ∧ (0 ≤ i ∧ i < 4294967296) ∧ (0 ≤ o ∧ o < 4294967296) ∧ bitsI o = 0 ∧ i = ((if s = 1 then 256 else if s = 2 then presI p else if s = 3 then 512 else 0) + o) % 4294967296
def nextP (s : Nat) (op : Int) : Option (Int × Nat) :=
  match s, op with
  | 0, 1 => some (2, 1) | 0, 3 => some (2, 2) | 0, 5 => some (2, 1) | 0, 6 => some (2, 2)
  | 1, 2 => some (2, 0) | 1, 7 => some (2, 2) | 1, 6 => some (1, 1) | 1, 5 => some (2, 3)
  | 2, 4 => some (2, 0) | 2, 8 => some (2, 1) | 2, 5 => some (1, 2) | 2, 6 => some (1, 2)
  | 3, 2 => some (2, 1)
  | _, _ => none
section
variable {chk : LS → Bool} {k m : Nat} {mode op i o x p : Int} {xs : List Int}
theorem pa_new (t : Nat) (op : Int) (h : PW k i o x p xs) : PA k t mode op 0 0 wk0 i o x p (newR k mode t op xs) := ⟨rfl, rfl, rfl, rfl, rfl, rfl, rfl, rfl, h⟩
theorem EndP.st {r : LS} {ret : Int} {s' : Nat} {i o x p : Int} (e : EndP chk k m r ret i o x p) (hx : x = if s' = 2 then 1 else 0) (hi : 0 ≤ i ∧ i < 4294967296) (ho : 0 ≤ o ∧ o < 4294967296) (hb : bitsI o = 0) (hr : i = ((if s' = 1 then 256 else if s' = 2 then presI p else if s' = 3 then 512 else 0) + o) % 4294967296) : ∃ ys, aloneG chk LS.pq m r = (ret, ys) ∧ StP k s' ys := by
  obtain ⟨ys, e1, e2⟩ := e
  exact ⟨ys, e1, ⟨i, o, p, by rw [← hx]; exact e2, hi, ho, hb, hr⟩⟩
theorem mb (a : Int) : 0 ≤ a % 4294967296 ∧ a % 4294967296 < 4294967296 := by omega
theorem alone_pqG (hk0 : Chk chk) (hk : 1 ≤ k ∧ k ≤ 64) (hm : 2 * k + 16 ≤ m) {s s' : Nat} {ret : Int} (h : nextP s op = some (ret, s')) (hx : StP k s xs) : ∃ ys, aloneG chk LS.pq m (newR k mode 0 op xs) = (ret, ys) ∧ StP k s' ys := by
  obtain ⟨i, o, p, hw, hi, ho, hb, hr⟩ := hx
  have ht : 0 < k := by omega
  have hp : presI p = 2 ∨ presI p = 3 := by unfold presI; omega
  unfold nextP at h
  split at h
  all_goals first
    | (cases h; done)
    | (obtain ⟨rfl, rfl⟩ := Prod.mk.inj (Option.some.inj h))
  · simp only [if_false, Nat.reduceEqDiff, reduceIte] at hr hw
    obtain rfl : i = o := by omega
    obtain ⟨m, rfl⟩ : ∃ q, m = q + 1 := ⟨m - 1, by omega⟩
    exact (ep_rlock hk0 hk ht (pa_new (mode := mode) 0 1 hw) hb).st rfl (mb _) hi hb rfl
  · simp only [if_false, Nat.reduceEqDiff, reduceIte] at hr hw
    obtain rfl : i = o := by omega
    obtain ⟨m, rfl⟩ : ∃ q, m = q + 6 := ⟨m - 6, by omega⟩
    exact (ep_lock hk0 hk ht (pa_new (mode := mode) 0 3 hw)).st rfl (mb _) hi hb rfl
  · simp only [if_false, Nat.reduceEqDiff, reduceIte] at hr hw
    obtain rfl : i = o := by omega
    obtain ⟨m, rfl⟩ : ∃ q, m = q + 2 := ⟨m - 2, by omega⟩
    exact (ep_tryrlock hk0 hk ht (pa_new (mode := mode) 0 5 hw) hb).st rfl (mb _) hi hb rfl
  · simp only [if_false, Nat.reduceEqDiff, reduceIte] at hr hw
    obtain rfl : i = o := by omega
    obtain ⟨m, rfl⟩ : ∃ q, m = q + 7 := ⟨m - 7, by omega⟩
    exact (ep_trylock hk0 hk ht (pa_new (mode := mode) 0 6 hw)).st rfl (mb _) hi hb rfl
  · simp only [if_false, Nat.reduceEqDiff, reduceIte] at hr hw
    refine (ep_runlock hk0 hk ht (pa_new (mode := mode) 0 2 hw) (by omega)).st rfl hi (mb _) ?_ ?_
    · unfold bitsI at hb ⊢; omega
    · show i = (0 + (256 + o) % 4294967296) % 4294967296
      omega
  · simp only [if_false, Nat.reduceEqDiff, reduceIte] at hr hw
    obtain ⟨m, rfl⟩ : ∃ q, m = q + 8 := ⟨m - 8, by omega⟩
    refine (ep_upgrade hk0 hk ht (pa_new (mode := mode) 0 7 hw) ?_ (by omega)).st rfl (mb _) (mb _) ?_ ?_
    · unfold aheadI; omega
    · unfold bitsI at hb ⊢; omega
    · show (presI p + i) % 4294967296 = (presI p + (256 + o) % 4294967296) % 4294967296
      omega
  · simp only [if_false, Nat.reduceEqDiff, reduceIte] at hr hw
    obtain ⟨m, rfl⟩ : ∃ q, m = q + 6 := ⟨m - 6, by omega⟩
    exact (ep_trylock_no hk0 hk ht (pa_new (mode := mode) 0 6 hw) (by unfold aheadI; omega)).st rfl hi ho hb hr
  · simp only [if_false, Nat.reduceEqDiff, reduceIte] at hr hw
    obtain ⟨m, rfl⟩ : ∃ q, m = q + 2 := ⟨m - 2, by omega⟩
    refine (ep_tryrlock hk0 hk ht (pa_new (mode := mode) 0 5 hw) (by unfold bitsI at hb ⊢; omega)).st rfl (mb _) ho hb ?_
    show (256 + i) % 4294967296 = (512 + o) % 4294967296
    omega
  · simp only [if_false, Nat.reduceEqDiff, reduceIte] at hr hw
    refine (ep_unlock hk0 hk ht (pa_new (mode := mode) 0 4 hw) (by omega)).st rfl (mb _) ho hb ?_
    show ((0 - presI p) % 4294967296 + i) % 4294967296 = (0 + o) % 4294967296
    omega
  · simp only [if_false, Nat.reduceEqDiff, reduceIte] at hr hw
    refine (ep_down hk0 hk ht (pa_new (mode := mode) 0 8 hw) (by omega)).st rfl (mb _) ho hb ?_
    show ((256 - presI p) % 4294967296 + i) % 4294967296 = (256 + o) % 4294967296
    omega
  · simp only [if_false, Nat.reduceEqDiff, reduceIte] at hr hw
    obtain ⟨m, rfl⟩ : ∃ q, m = q + 1 := ⟨m - 1, by omega⟩
    exact (ep_tryrlock_no hk0 hk ht (pa_new (mode := mode) 0 5 hw) (by unfold bitsI at hb ⊢; omega)).st rfl hi ho hb hr
  · simp only [if_false, Nat.reduceEqDiff, reduceIte] at hr hw
    obtain ⟨m, rfl⟩ : ∃ q, m = q + 2 := ⟨m - 2, by omega⟩
    exact (ep_try_no hk0 hk ht (pa_new (mode := mode) 0 6 hw) (.inl rfl) (by decide)).st rfl hi ho hb hr
  · simp only [if_false, Nat.reduceEqDiff, reduceIte] at hr hw
    refine (ep_runlock hk0 hk ht (pa_new (mode := mode) 0 2 hw) (by omega)).st rfl hi (mb _) ?_ ?_
    · unfold bitsI at hb ⊢; omega
    · show i = (256 + (256 + o) % 4294967296) % 4294967296
      omega
end
def runP (k : Nat) (mode : Int) (xs : List Int) (op : Int) : Int × List Int := aloneL LS.pq (40 + 8 * k) (newR k mode 0 op xs)
def foldP (k : Nat) (mode : Int) (l : List Int) (xs : List Int) : List Int := l.foldl (fun ys op => (runP k mode ys op).2) xs
theorem runP_ok {k : Nat} {mode op : Int} {xs : List Int} (hk : 1 ≤ k ∧ k ≤ 64) {s s' : Nat} {ret : Int} (h : nextP s op = some (ret, s')) (hx : StP k s xs) : (runP k mode xs op).1 = ret ∧ StP k s' (runP k mode xs op).2 := by
  obtain ⟨ys, e1, e2⟩ := alone_pqG (mode := mode) chk_n hk (m := 40 + 8 * k) (by omega) h hx
  have e3 : runP k mode xs op = (ret, ys) := e1
  rw [e3]; exact ⟨rfl, e2⟩
def goodP : Nat → List Int → Option Nat
  | s, [] => some s
  | s, op :: l => match nextP s op with
    | some (2, s') => goodP s' l
    | _ => none
theorem foldP_next {k : Nat} {mode : Int} {l : List Int} {j : Nat} {op : Int} (h : l[j]? = some op) (xs : List Int) : foldP k mode (l.take (j + 1)) xs = (runP k mode (foldP k mode (l.take j) xs) op).2 := by
  unfold foldP
  rw [List.take_add_one, h, List.foldl_append]
  rfl
theorem foldP_ok {k : Nat} {mode : Int} (hk : 1 ≤ k ∧ k ≤ 64) : ∀ (l : List Int) (s s' : Nat) (xs : List Int), goodP s l = some s' → StP k s xs → StP k s' (foldP k mode l xs) ∧ ∀ (j : Nat) (op : Int), l[j]? = some op → (runP k mode (foldP k mode (l.take j) xs) op).1 = 2 := by
  intro l
  induction l with
  | nil => intro s s' xs h hx; cases h; exact ⟨hx, fun j op e => by simp at e⟩
  | cons o l ih =>
    intro s s' xs h hx
    unfold goodP at h
    split at h
    · rename_i s1 hn
      obtain ⟨r1, r2⟩ := runP_ok (mode := mode) hk hn hx
      obtain ⟨i1, i2⟩ := ih s1 s' _ h r2
      refine ⟨i1, fun j op e => ?_⟩
      cases j with
      | zero =>
        have : op = o := by simpa using e.symm
        subst this
        exact r1
      | succ j => exact i2 j op (by simpa using e)
    · cases h
def opsP : List (List Int) := [[1, 2], [3, 4], [5, 2], [6, 4], [3, 8, 2], [1, 7, 4], [6, 8, 7, 4]]
theorem opsP_ok {k : Nat} {mode : Int} (hk : 1 ≤ k ∧ k ≤ 64) {xs : List Int} (hx : StP k 0 xs) : ∀ l ∈ opsP, StP k 0 (foldP k mode l xs) ∧ ∀ (j : Nat) (op : Int), l[j]? = some op → (runP k mode (foldP k mode (l.take j) xs) op).1 = 2 := by
  intro l hl
  simp only [opsP, List.mem_cons, List.not_mem_nil, or_false] at hl
  rcases hl with rfl | rfl | rfl | rfl | rfl | rfl | rfl <;> exact foldP_ok hk _ 0 0 xs rfl hx
def pqXs (k : Nat) (b : Int) : List Int := [b * 256 % 4294967296, b * 256 % 4294967296, 0, b, 0, 0, 0, 0] ++ List.replicate (4 * k) 0
theorem pq_len (k : Nat) (b : Int) : (pqXs k b).length = 8 + 4 * k := by simp [pqXs]; omega
theorem pq_far (k : Nat) (b : Int) {d : Int} (hd : 8 ≤ d) : wordAt (pqXs k b) d = 0 := by
  unfold wordAt
  split
  · unfold pqXs
    simp only [List.getD]
    rw [List.getElem?_append_right (by simp; omega)]
    simp only [List.getElem?_replicate]
    split <;> rfl
  · rfl
theorem pq_own (k : Nat) (b : Int) : wordAt (pqXs k b) 0 = b * 256 % 4294967296 ∧ wordAt (pqXs k b) 1 = b * 256 % 4294967296 ∧ wordAt (pqXs k b) 2 = 0 ∧ wordAt (pqXs k b) 3 = b := by
  have th : ∀ d : Int, 0 ≤ d → d < 8 → there (pqXs k b) d = true := fun d h0 h1 => there_lk (pq_len k b) h0 (by omega)
  refine ⟨?_, ?_, ?_, ?_⟩ <;> (unfold wordAt; rw [th _ (by decide) (by decide)]; rfl)
theorem pq_pw {k : Nat} (hk : k ≤ 64) (b : Int) : PW k (b * 256 % 4294967296) (b * 256 % 4294967296) 0 b (pqXs k b) := by
  obtain ⟨h0, h1, h2, h3⟩ := pq_own k b
  exact ⟨pq_len k b, h0, h1, h2, h3, fun j hj => pq_far k b (by rw [wc_at hk hj]; omega), fun j hj => pq_far k b (by rw [nc_q hk hj]; omega)⟩
theorem stp_first {k : Nat} (hk : k ≤ 64) (b : Int) : StP k 0 (pqXs k b) := ⟨_, _, b, pq_pw hk b, mb _, mb _, by unfold bitsI; omega, by simp only [if_false, Nat.reduceEqDiff, reduceIte]; omega⟩
theorem pq_words {k : Nat} {b : Int} (hb : 0 ≤ b ∧ b < 4294967296) : Words (pqXs k b) := by
  intro n hn
  unfold pqXs at hn
  simp only [List.mem_append, List.mem_cons, List.not_mem_nil, or_false, List.mem_replicate] at hn
  rcases hn with (rfl | rfl | rfl | rfl | rfl | rfl | rfl | rfl) | ⟨_, rfl⟩
  all_goals first | rfl | exact wf_mk (mb _).1 (mb _).2 | exact wf_mk hb.1 hb.2
end Go.Proofs.YtocdbeonogfopaaGreat
set_option linter.unusedVariables false
set_option linter.unusedSimpArgs false
namespace Go.Proofs.YtocdbeonogfopaaGreat
open Go.RowKit
def FirstW (xs : List Int) (S : Nat) (w : World) (e : Ending) (w' : World) : Prop :=
  ∃ g, e = .returned (.tuple #[.slice (some ⟨g, 0, none⟩) S S, .int .i64 0]) ∧ w.heap.size ≤ g ∧ Held w' (some ⟨g, 0, none⟩) S S xs ∧ Only Nil w w'
end Go.Proofs.YtocdbeonogfopaaGreat
set_option linter.unusedVariables false
set_option linter.unusedSimpArgs false
namespace Go.Proofs.YtocdbeonogfopaaGreat
open Go.RowKit
theorem words_pq (k : Nat) (b : Int) : words 3 (8 + 4 * k) 4 b = pqXs k b := by
  show words 3 (8 + 4 * k) 4 b = [b * 256 % 4294967296, b * 256 % 4294967296, 0, b, 0, 0, 0, 0] ++ List.replicate (4 * k) 0
  apply List.ext_getElem
  · simp [words]
    omega
  · intro i h1 h2
    by_cases hi : i < 8
    · rw [List.getElem_append_left (by simpa using hi)]
      match i, hi with
      | 0, _ => simp [words, wordI]
      | 1, _ => simp [words, wordI]
      | 2, _ => simp [words, wordI]
      | 3, _ => simp [words, wordI]
      | 4, _ => simp [words, wordI]
      | 5, _ => simp [words, wordI]
      | 6, _ => simp [words, wordI]
      | 7, _ => simp [words, wordI]
    · rw [List.getElem_append_right (by simpa using hi)]
      simp only [List.getElem_replicate]
      simp [words, wordI]
      omega
theorem first_pq (k : Nat) (b : Int) (w : World) (hk : 1 ≤ k ∧ k ≤ 64) (hb : 0 ≤ b ∧ b < 4294967296) :
    Calls Tryz.prog 7 #[.int .i64 3, .int .i64 k, .int .u32 b] w (FirstW (pqXs k b) (8 + 4 * k) w) := by
  have hS : sizeI (k : Int) = ((8 + 4 * k : Nat) : Int) := by unfold sizeI; rw [if_pos (by omega)]; push_cast; rfl
  refine (first_yes 3 k b (8 + 4 * k) w (by omega) (by omega) hS hb).mono ?_
  rintro e w' ⟨g, rfl, hg, hR, hO⟩
  rw [show (ownV 3).size = 4 from rfl, words_pq] at hR
  have hI := Row.ints (k := .u32) (xs := pqXs k b) hR
  exact ⟨g, rfl, hg, ⟨by rw [pq_len], (by intro h; cases h), hI⟩, hO⟩
end Go.Proofs.YtocdbeonogfopaaGreat
set_option linter.unusedVariables false
set_option linter.unusedSimpArgs false
namespace Go.Proofs.YtocdbeonogfopaaGreat
open Go.RowKit
theorem flat_cells : ∀ (zs : List Nt) (u : Value), u ∈ flat zs → u.oneCell' = true
  | [], u, h => by simp [flat] at h
  | n :: r, u, h => by
    rw [flat, List.mem_append] at h
    rcases h with h | h
    · unfold flat1 at h
      simp only [List.mem_cons, List.not_mem_nil, or_false] at h
      rcases h with rfl | rfl | rfl | rfl <;> rfl
    · exact flat_cells r u h
theorem wp_appNs {w : World} {ops : Array Oper} {rest : List Oper} {o : Oper} {a : Act} {Q : Exit → Act → World → Prop} (hgd : o.guard = none) (s x : Operand)
    (ho : o.op = .call { callee := .builtin .append, args := #[s, x], argTypes := #[32, 32] })
    (base : Nat) (v : Value) (zs : List Nt) (hs : a.eval s = v) (hown : OwnN base w v zs)
    (u : Value) (ys : List Nt) (hx : a.eval x = u) (hu : OwnN 0 w u ys)
    (h1 : zs.length ≤ 4000) (h2 : ys.length ≤ 1000) (hbase : base ≤ w.heap.size)
    (h : ∀ v' w', OwnN base w' v' (zs ++ ys) → Only (fun k => v.ownBlock = some k) w w' → wpList Tryz.prog ops Q rest (a.put o.dst v') w') : wpList Tryz.prog ops Q (o :: rest) a w := by
  obtain ⟨i0, hi, hz0, hz1, hz2⟩ := info_parts infoN
  rcases hu.2 with ⟨rfl, hn⟩ | ⟨g, cap, cur, rfl, _, hg, hc, hm, hsz, ht⟩
  · obtain rfl := List.eq_nil_of_length_eq_zero hn
    refine wpList_append_own_none hgd s x 32 ho base 131 i0 4 Tryz.underlying32 hi v zs.length (flat zs) hs hown hx ?_
    exact h v w (by rw [List.append_nil]; exact hown) (Only.refl _ _)
  · refine wpList_append_own w hgd s x 32 ho base 131 i0 (.agg #[.int .i64 0, .int .i64 0, .int .i64 0, .int .i64 0]) 4 32 Tryz.underlying32 hi hz0 hz1 hz2 rfl (by decide) v zs.length (flat zs) hs hown ⟨g, 0, none⟩ ys.length cap (flat ys) hx (flat_len ys) (fun j u hj => World.ownsRow.cells hu (g := g) rfl j u hj) (fun u hu => flat_cells ys u hu) (by unfold maxLen; omega) (by omega) hbase (fun v' w' hO hG _ => ?_)
    refine h v' w' ?_ ((Only.refl _ w).grown hG (fun k hk => .inr hk))
    have e : (zs ++ ys).length = zs.length + ys.length := List.length_append
    unfold OwnN
    rw [e, flat_app]
    exact hO
end Go.Proofs.YtocdbeonogfopaaGreat
set_option linter.unusedVariables false
set_option linter.unusedSimpArgs false
namespace Go.Proofs.YtocdbeonogfopaaGreat
open Go.RowKit
structure AloneI (w0 : World) (B : Nat) (p A : Option Addr) (cp : Nat) (r0 : LS) (most j : Nat) (v : Value) (wr : World) : Prop where
  run : ∃ nv r, RunQ wr B p A cp nv r ∧ r.WB ∧ aloneL LS.pq most r0 = aloneL LS.pq (most - j) r
  notes : ∃ zs, OwnN w0.heap.size wr v zs ∧ zs.length ≤ 2 * j
  only : Only (At A) w0 wr
  new : w0.heap.size ≤ B
  old : ∀ j, At p j ∨ At A j → j < w0.heap.size
def AloneP (p A : Option Addr) (cp : Nat) (w : World) (t : Int × List Int) (e : Ending) (w' : World) : Prop := ∃ nv, e = .returned (.tuple #[.int .i64 t.1, nv]) ∧ Only (At A) w w' ∧ Memo w' p A cp t.2 ∧ Words t.2
theorem ownN_form {base : Nat} {w : World} {v : Value} {zs : List Nt} (h : OwnN base w v zs) : ∃ A n c, v = .slice A n c := by
  rcases h.2 with ⟨rfl, _⟩ | ⟨g, cap, cur, rfl, _⟩
  · exact ⟨none, 0, 0, rfl⟩
  · exact ⟨_, _, _, rfl⟩
set_option maxRecDepth 100000 in
set_option maxHeartbeats 2000000 in
theorem alone_any (p A : Option Addr) (cp : Nat) (k mode op : Int) (most : Nat) (xs : List Int) (w : World) (h : Memo w p A cp xs) (hx : Words xs) (hmost : most ≤ 1000) :
    Calls Tryz.prog 9 #[.pointer p, .int .i64 k, .int .i64 mode, .int .i64 op, .int .i64 most] w (AloneP p A cp w (aloneL LS.pq most (newR k mode 0 op xs))) := by
  have e0 := (Only.refl Nil w).alloc (.cells ((newR k mode 0 op xs).cells (.pointer p) (.slice none 0 0)) 61)
  have HI0 : Hid (AloneI w w.heap.size p A cp (newR k mode 0 op xs) most 0 (.slice none 0 0) (w.alloc (.cells ((newR k mode 0 op xs).cells (.pointer p) (.slice none 0 0)) 61))) :=
    Lib.hid ⟨⟨_, _, ⟨Row.new w _ _, h.keep e0⟩, wb_new hx, rfl⟩, ⟨[], ownN_nil _ _, Nat.zero_le _⟩, e0.mono (fun _ _ h => h.elim), Nat.le_refl _, h.lt⟩
  rw [show (newR k mode 0 op xs).cells (.pointer p) (.slice none 0 0) = newCells p k mode 0 op from rfl] at HI0
  unfold newCells at HI0
  clear e0 h hx
  generalize hr0 : newR k mode 0 op xs = r0 at *
  clear hr0
  go_enter Tryz.func9, Tryz.ntmps9
  go_upto_region 2 with (fail)
  generalize w.alloc (.cells #[.pointer p, .int .i64 k, .int .i64 mode, .int .i64 0, .int .i64 op, .int .i64 0, .int .u32 0, .int .u32 0, .int .i64 0, .bool false, .int .i64 0, .int .i64 0, .bool false, .int .i64 0, .int .i64 0, .int .i64 0, .int .u32 0, .int .u32 0, .int .u32 0, .slice none 0 0] 61) = w1 at *
  generalize hB : w.heap.size = B at *
  have HB := Lib.hid hB
  clear hB
  go_wp2_with fail
  go_loopw [13, 14] (fun nv i wr => ∃ j : Nat, j ≤ most ∧ i = .int .i64 j ∧ AloneI w B p A cp r0 most j nv wr) (fun _ i _ => most - (intOf i).toNat)
  case atStart => exact ⟨0, Nat.zero_le _, rfl, HI0.out⟩
  case round =>
    obtain ⟨j, hj, rfl, hI⟩ := hrel
    clear HI0
    obtain ⟨nvr, r, hQ, hW, hA⟩ := hI.run
    have HI := Lib.hid hI
    have HQ := Lib.hid hQ
    have HW := Lib.hid hW
    have HA := Lib.hid hA
    clear hI hQ hW hA
    by_cases hlt : j < most
    · go_wp2_with fail
      refine (pq_step B p A cp nvr r _ HQ.out HW.out.words HW.out.a HW.out.b).mono ?_
      obtain ⟨hg, hn2⟩ := good_next (L := LS.pq) (fun r => good_pq) r
      have HG := Lib.hid hg
      have HN2 := Lib.hid hn2
      clear hg hn2
      have HNW := Lib.hid (wb_next (L := LS.pq) (fun r => good_pq) keeps_pq HW.out)
      rintro e w2 ⟨rfl, hO, _, nv2, hP⟩
      have HO := Lib.hid hO
      have HP := Lib.hid hP
      clear hO hP
      obtain ⟨zs, hzs, hzl⟩ := HI.out.notes
      have HZ := Lib.hid (show OwnN w.heap.size w2 _ zs from own_only hzs HO.out (fun i hi e => by
        obtain ⟨cur, hc⟩ := ownN_tag hzs hi
        rcases e with e | e
        · exact row_ne hc HQ.out.row (by decide) e
        · exact memo_not HQ.out.memo hc (by decide) (by decide) (.inr e)))
      have HZL := Lib.hid hzl
      clear hzs hzl
      have HSTEP : Hid (aloneL LS.pq most r0 = if (r.next LS.pq).over then ((r.next LS.pq).ret, (r.next LS.pq).xs) else aloneL LS.pq (most - (j + 1)) (r.next LS.pq)) := Lib.hid (by
        rw [HA.out, show most - j = (most - (j + 1)) + 1 by omega]
        rfl)
      generalize r.next LS.pq = r2 at *
      have c19 : w2.cell? ⟨B, 19, none⟩ = some nv2 := HP.out.row.cell_ (i := 19) rfl
      have hbase : w.heap.size ≤ w2.heap.size := Nat.le_trans HI.out.only.size HO.out.size
      have HBA := Lib.hid hbase
      clear hbase
      go_wp2_with (at_builtin; refine wp_appNs rfl (.tmp 31) (.tmp 35) rfl w.heap.size _ _ (by rfl) HZ.out nv2 r2.ns (by rfl) HP.out.notes (by have := HZL.out; omega) (by have := HN2.out; omega) HBA.out ?_)
      intro v' w3 hown hO3
      clear c19
      have HRQ : Hid (RunQ w3 B p A cp nv2 r2) := Lib.hid ⟨HP.out.row.only hO3 (fun e => by
          obtain ⟨cur, hc⟩ := ownN_tag HZ.out e
          exact absurd (HP.out.row.same hc).1 (by decide)), HP.out.memo.far hO3 (fun j hj e => by
          obtain ⟨cur, hc⟩ := ownN_tag HZ.out e
          exact memo_not HP.out.memo hc (by decide) (by decide) hj)⟩
      have HO3 : Hid (Only (At A) w w3) := Lib.hid ((HI.out.only.step HO.out (fun i hi e => by
          rcases e with e | e
          · have := HI.out.new; omega
          · exact e)).step hO3 (fun i hi e => by
          have := (World.ownsRow.lt HZ.out i e).1
          omega))
      have HOW := Lib.hid hown
      obtain ⟨A9, n9, c9, rfl⟩ := ownN_form hown
      clear hown hO3
      cases hov : r2.over
      · have HSTEP2 := Lib.hid (HSTEP.out.trans (by rw [hov, if_neg Bool.false_ne_true]))
        clear hov
        go_wp2
        go_roundw
        case rel => exact ⟨j + 1, by omega, by go_num, ⟨⟨nv2, r2, HRQ.out, HNW.out, HSTEP2.out⟩, ⟨_, HOW.out, by rw [List.length_append]; have := HZL.out; have := HN2.out; omega⟩, HO3.out, HI.out.new, HI.out.old⟩⟩
        case measure => simp [intOf]; omega
      · have HSTEP2 := Lib.hid (HSTEP.out.trans (by rw [hov, if_pos rfl]))
        clear hov
        have c13 : w3.cell? ⟨B, 13, none⟩ = some (.int .i64 r2.ret) := HRQ.out.row.cell_ (i := 13) rfl
        go_wp2
        go_ret2
        rw [HSTEP2.out]
        exact ⟨_, rfl, HO3.out, HRQ.out.memo, HNW.out.words⟩
    · obtain rfl : j = most := by omega
      have HE := Lib.hid (show aloneL LS.pq j r0 = (0, r.xs) by rw [HA.out, Nat.sub_self]; rfl)
      go_wp2
      go_ret2
      rw [HE.out]
      exact ⟨_, rfl, HI.out.only, HQ.out.memo, HW.out.words⟩
end Go.Proofs.YtocdbeonogfopaaGreat
set_option linter.unusedVariables false
set_option linter.unusedSimpArgs false
namespace Go.Proofs.YtocdbeonogfopaaGreat
open Go.RowKit
def Fresh (w : World) (xs : List Int) (e : Ending) (w' : World) : Prop := ∃ b A' c', e = .returned (.tuple #[.pointer (some ⟨b, 0, none⟩), .int .i64 0]) ∧ w.heap.size ≤ b ∧ (∀ i, At A' i → w.heap.size ≤ i) ∧ Mem w' b A' c' xs ∧ Only Nil w w'
theorem from_ok (A : Option Addr) (n cap : Nat) (xs : List Int) (w : World) (hm : n ≤ 1024) (h : Held w A n cap xs) :
    Calls Tryz.prog 8 #[.slice A n cap] w (Fresh w xs) := by
  have hl := h.1
  have hm' : (n : Int) ≤ 1024 := by omega
  have HH := Lib.hid h
  have HL := Lib.hid hl
  clear h hl
  go_enter Tryz.func8, Tryz.ntmps8
  go_wp2_with (go_at_call 20; refine (clone_held A n cap xs _ (by omega) HH.out).mono ?_; rintro e w1 ⟨A', c', rfl, ho, hO⟩)
  have HO := Lib.hid ho
  have HW := Lib.hid hO
  clear ho hO
  go_ret2
  refine ⟨w1.heap.size, A', c', rfl, HW.out.size, HO.out.base, ⟨Row.new w1 _ _, ?_, ?_⟩, HW.out.alloc _⟩
  · exact ⟨own_base (own_only HO.out.own ((Only.refl Nil w1).alloc _) (fun _ _ h => h)) (Nat.zero_le _), HO.out.nil, fun _ _ => Nat.zero_le _⟩
  · rw [HL.out]; exact hm
end Go.Proofs.YtocdbeonogfopaaGreat
set_option linter.unusedVariables false
set_option linter.unusedSimpArgs false
namespace Go.Proofs.YtocdbeonogfopaaGreat
open Go.RowKit
structure Made (w0 : World) (b : Nat) (A : Option Addr) (cp : Nat) (xs : List Int) (W : World) : Prop where
  mem : Mem W b A cp xs
  new : ∀ j, At A j → w0.heap.size ≤ j
  only : Only Nil w0 W
theorem Made.call {w0 W W' : World} {b : Nat} {A : Option Addr} {cp : Nat} {xs ys : List Int} (h : Made w0 b A cp xs W) (ho : Only (At A) W W') (hm : Mem W' b A cp ys) : Made w0 b A cp ys W' :=
  ⟨hm, h.new, h.only.step ho (fun i hi e => by have := h.new i e; omega)⟩
end Go.Proofs.YtocdbeonogfopaaGreat
set_option linter.unusedVariables false
set_option linter.unusedSimpArgs false
namespace Go.Proofs.YtocdbeonogfopaaGreat
open Go.RowKit
theorem load_raw (b : Nat) (A : Option Addr) (cp : Nat) (xs : List Int) (c : Int) (w : World) (h : Mem w b A cp xs) :
    Calls Tryz.prog 10 #[.pointer (some ⟨b, 0, none⟩), .int .i64 c] w fun e w' => e = .returned (.int .u32 (wordAt xs c)) ∧ Only (At A) w w' ∧ Mem w' b A cp (doNew xs 1 c 0 0) := by
  have HH := Lib.hid h
  clear h
  go_enter Tryz.func10, Tryz.ntmps10
  go_wp2_with fail
  refine (do_any b A cp xs 1 c 0 0 0 _ HH.out).mono ?_
  obtain ⟨k', c', x', y', hv⟩ := doVal_form xs 1 c 0 0
  rw [oldAt xs 1 c rfl] at hv
  rintro e w1 ⟨rfl, hO, hM⟩
  rw [hv]
  have HO := Lib.hid hO
  have HM := Lib.hid hM
  clear hO hM hv
  go_wp2
  go_ret
  exact ⟨rfl, HO.out.alloc _, HM.out.only ((Only.refl Nil w1).alloc _) id (fun _ _ => id)⟩
theorem load_any (b : Nat) (A : Option Addr) (cp : Nat) (xs : List Int) (c : Int) (w : World) (h : Mem w b A cp xs) :
    Calls Tryz.prog 10 #[.pointer (some ⟨b, 0, none⟩), .int .i64 c] w fun e w' => e = .returned (.int .u32 (wordAt xs c)) ∧ Only (At A) w w' ∧ Mem w' b A cp xs :=
  (load_raw b A cp xs c w h).mono fun _ _ ⟨h1, h2, h3⟩ => ⟨h1, h2, by rw [doNew_load] at h3; exact h3⟩
end Go.Proofs.YtocdbeonogfopaaGreat
set_option linter.unusedVariables false
set_option linter.unusedSimpArgs false
namespace Go.Proofs.YtocdbeonogfopaaGreat
open Go.RowKit
theorem aw_alone : aloneL LS.pq 7 (newR 1 1 0 6 (pqXs 1 1)) = (2, [259, 256, 1, 1, 0, 0, 0, 0, 0, 0, 0, 0]) := by
  decide +kernel
set_option maxHeartbeats 1000000 in
theorem awake_any (w : World) : Calls Tryz.prog 11 #[] w fun e w' => e = .returned (.bool true) ∧ Only Nil w w' := by
  go_enter Tryz.func11, Tryz.ntmps11
  go_wp2_with fail
  refine (first_pq 1 1 _ (by decide) (by decide)).mono ?_
  rintro e w1 ⟨g, rfl, hg, hH, hO⟩
  have HH := Lib.hid hH
  have HO := Lib.hid hO
  clear hg hH hO
  go_wp2_with fail
  refine (from_ok _ _ _ _ _ (by decide) HH.out).mono ?_
  rintro e w2 ⟨b, A', c', rfl, hb, hA, hM, hO⟩
  have HM : Hid (Made w b A' c' _ w2) := Lib.hid ⟨hM, fun j hj => Nat.le_trans HO.out.size (hA j hj), HO.out.trans hO⟩
  clear hb hA hM hO HO HH
  go_wp2_with fail
  refine (alone_any (some ⟨b, 0, none⟩) A' c' 1 1 6 7 _ _ (Memo.of HM.out.mem) (pq_words (by decide)) (by decide)).mono ?_
  rw [aw_alone]
  rintro e w3 ⟨nv, rfl, hO, hM, _⟩
  have HM3 := Lib.hid (HM.out.call hO hM.mem)
  clear hO hM HM
  go_wp2_with fail
  refine (load_any b A' c' _ 2 _ HM3.out.mem).mono ?_
  rw [show wordAt [259, 256, 1, 1, 0, 0, 0, 0, 0, 0, 0, 0] 2 = 1 from rfl]
  rintro e w4 ⟨rfl, hO, hM⟩
  have HM4 := Lib.hid (HM3.out.call hO hM)
  clear hO hM HM3
  go_wp2_with fail
  refine (load_any b A' c' _ 0 _ HM4.out.mem).mono ?_
  rw [show wordAt [259, 256, 1, 1, 0, 0, 0, 0, 0, 0, 0, 0] 0 = 259 from rfl]
  rintro e w5 ⟨rfl, hO, hM⟩
  have HM5 := Lib.hid (HM4.out.call hO hM)
  clear hO hM HM4
  go_wp2
  go_ret
  exact ⟨rfl, HM5.out.only⟩
end Go.Proofs.YtocdbeonogfopaaGreat
set_option linter.unusedVariables false
set_option linter.unusedSimpArgs false
namespace Go.Proofs.YtocdbeonogfopaaGreat
open Go.RowKit
def OwnP (base : Nat) (w : World) (v : Value) (bs : List Nat) : Prop := w.ownsRow base 62 1 v bs.length (bs.map fun b => Value.pointer (some ⟨b, 0, none⟩))
theorem infoP : (Tryz.prog.info? 62).map (fun i => (i.zero, i.size, i.bytes)) = some (some (.pointer none), 1, 8) := by kernel_rfl
theorem ownP_nil (base : Nat) (w : World) : OwnP base w (.slice none 0 0) [] := World.ownsRow_nil _ _ _ _
theorem ownP_tag {base : Nat} {w : World} {v : Value} {bs : List Nat} (h : OwnP base w v bs) {i : Nat} (hi : v.ownBlock = some i) : ∃ cur, Row w i 62 cur := by
  rcases h.2 with ⟨rfl, _⟩ | ⟨g, cap, cur, rfl, _, hg, _⟩
  · cases hi
  · have e : g = i := by simpa [Value.ownBlock] using hi
    subst e
    exact ⟨cur, hg⟩
theorem ownP_form {base : Nat} {w : World} {v : Value} {bs : List Nat} (h : OwnP base w v bs) : ∃ A n c, v = .slice A n c := by
  rcases h.2 with ⟨rfl, _⟩ | ⟨g, cap, cur, rfl, _⟩
  · exact ⟨none, 0, 0, rfl⟩
  · exact ⟨_, _, _, rfl⟩
theorem wp_appP {w : World} {ops : Array Oper} {rest : List Oper} {o : Oper} {a : Act} {Q : Exit → Act → World → Prop} (hgd : o.guard = none) (s x : Operand)
    (ho : o.op = .call { callee := .builtin .append, args := #[s, x], argTypes := #[47, 47] })
    (base : Nat) (v : Value) (bs : List Nat) (hs : a.eval s = v) (hown : OwnP base w v bs)
    (g nb : Nat) (hx : a.eval x = .slice (some ⟨g, 0, none⟩) 1 1) (hrow : Row w g 62 #[.pointer (some ⟨nb, 0, none⟩)])
    (h1 : bs.length ≤ 1000) (hbase : base ≤ w.heap.size)
    (h : ∀ v' w', OwnP base w' v' (bs ++ [nb]) → Only (fun k => v.ownBlock = some k) w w' → wpList Tryz.prog ops Q rest (a.put o.dst v') w') : wpList Tryz.prog ops Q (o :: rest) a w := by
  obtain ⟨i0, hi, hz0, hz1, hz2⟩ := info_parts infoP
  refine wpList_append_own w hgd s x 47 ho base 62 i0 (.pointer none) 1 8 Tryz.underlying47 hi hz0 hz1 hz2 rfl (by decide) v bs.length _ hs hown ⟨g, 0, none⟩ 1 1 [.pointer (some ⟨nb, 0, none⟩)] hx rfl (fun j u hj => ?_) (fun u hu => ?_) (by unfold maxLen; omega) (by omega) hbase (fun v' w' hO hG _ => ?_)
  · rw [add_at, Nat.zero_add]
    exact hrow.cell_ (by rw [← hj]; simp)
  · simp only [List.mem_cons, List.not_mem_nil, or_false] at hu
    subst hu
    rfl
  · refine h v' w' ?_ ((Only.refl _ w).grown hG (fun k hk => .inr hk))
    unfold OwnP
    rw [List.length_append, List.map_append]
    exact hO
theorem made_zero (k i : Nat) (hi : i < k) : (madeCells #[.int .i64 0] k)[i]? = some (.int .i64 0) := by
  rw [← Array.getElem?_toList, toList_madeCells_one, List.getElem?_replicate, if_pos hi]
end Go.Proofs.YtocdbeonogfopaaGreat
