import Derived.Laws.AppendOwnNone
import Derived.Test.YtaeninikaalkjaaChecked
import Derived.Laws.AppendOwn
import Derived.OwnWalk
import Derived.Deep.OwnRows
import Derived.Test.YtaeninikaalkjaaG15
import Derived.Test.YtaeninikaalkjaaG9
import Derived.Test.YtaeninikaalkjaaG1
import Derived.Test.YtaeninikaalkjaaG14
import Derived.Test.YtaeninikaalkjaaG2
import Derived.Test.YtaeninikaalkjaaG12
set_option linter.unusedVariables false
set_option linter.unusedSimpArgs false
set_option linter.unusedSectionVars false
namespace Go.Proofs.Ytaeninikaalkjaa
open Go.RowKit
def wv (b : Int) (o i c : Nat) : Int := ((c : Int) + 256 * ((b + o) % 256) + 65536 * (b + i)) % 4294967296
section
variable {b : Int} {o i c : Nat}
theorem wv_r (hc : c < 256) : rF (wv b o i c) = c := by unfold rF wv; omega
theorem wv_o (hc : c < 256) : oF (wv b o i c) = (b + o) % 256 := by unfold oF wv; omega
theorem wv_i (hc : c < 256) : iF (wv b o i c) = (b + i) % 256 := by unfold iF wv; omega
theorem wv_free (hc : c < 256) (h1 : o ≤ i) (h2 : i < o + 256) : freeW (wv b o i c) = decide (i = o) := by
  unfold freeW
  rw [wv_i hc, wv_o hc]
  by_cases e : i = o
  · rw [decide_eq_true e, e]; exact beq_self_eq_true _
  · rw [decide_eq_false e]; simp only [beq_eq_false_iff_ne, ne_eq]; omega
theorem wv_up : (wv b o i c + 1) % 4294967296 = wv b o i (c + 1) := by unfold wv; omega
theorem wv_down : (4294967295 + wv b o i (c + 1)) % 4294967296 = wv b o i c := by unfold wv; omega
theorem wv_draw : (65536 + wv b o i c) % 4294967296 = wv b o (i + 1) c := by unfold wv; omega
theorem wv_draw' : (wv b o i c + 65536) % 4294967296 = wv b o (i + 1) c := by unfold wv; omega
theorem wv_rise : (wv b o i (c + 1) + 65535) % 4294967296 = wv b o (i + 1) c := by unfold wv; omega
theorem wv_next {a : Int} (ha : oF a = (b + o) % 256) : (nextO a + wv b o i c) % 4294967296 = wv b (o + 1) i c := by unfold nextO; rw [ha]; unfold wv; omega
theorem wv_next1 {a : Int} (ha : oF a = (b + o) % 256) : ((nextO a + 1) % 4294967296 + wv b o i c) % 4294967296 = wv b (o + 1) i (c + 1) := by unfold nextO; rw [ha]; unfold wv; omega
theorem wv_turn (hc : c < 256) {tk : Nat} (h1 : o ≤ tk) (h2 : tk < o + 256) : turnW ((b + tk) % 256) (wv b o i c) = decide (tk = o ∧ c = 0) := by
  unfold turnW
  rw [wv_o hc, wv_r hc]
  by_cases e : tk = o ∧ c = 0
  · rw [decide_eq_true e, e.1, e.2]; simp
  · rw [decide_eq_false e]
    simp only [Bool.and_eq_false_iff, beq_eq_false_iff_ne, ne_eq]
    omega
end
section
variable {k t : Nat} {mode op line ret v x : Int} {K : WkV} {xs : List Int} {r R : LS}
theorem RS.letIn (h : RS k t mode op line 0 wk0 v r) {q : Int → Bool} (hq : q v = true) : RS k t mode op line 2 wk0 v (r.pAdmit 0 q) := by
  have hm : q (wordAt r.xs 0) = true := by rw [h.w.x]; exact hq
  obtain ⟨h1, h2, h3, h4⟩ := stepI_seen (xs := r.xs) (n := r.n) (mode := r.mode) (i := r.task) (c := 0) (q := q) hm
  have hS : r.stepR 0 q = stepI r.xs r.n r.mode r.task 0 0 q := by unfold LS.stepR; rw [h.s]
  unfold LS.pAdmit
  obtain ⟨g1, g2, g3, g4, g5, g6, g7, g8, g9, g10, g11⟩ := wait_fw (r := r) 0 q
  rw [hS] at g10 g11 ⊢
  rw [if_pos h3, h2]
  rw [h1] at g10
  rw [h4] at g11
  generalize r.wait 0 q = R0 at *
  exact ⟨g1.trans h.n, g2.trans h.mode, g3.trans h.task, g4.trans h.op, g5.trans h.line, rfl, g10, g7.trans h.kk, by show SW k v R0.xs; rw [g11]; exact h.w⟩
variable (hk : 1 ≤ k ∧ k ≤ 64)
include hk
theorem RS.cas (h : RS k t mode op line 0 wk0 v r) (ha : r.a = v) (d : Int) : RS k t mode op line 0 wk0 ((v + d) % 4294967296) (r.gCas d) := by
  unfold LS.gCas
  rw [ha]
  have g := h.do hk v ((v + d) % 4294967296) (K := 5) rfl
  rwa [show leftOf 5 v ((v + d) % 4294967296) v = (v + d) % 4294967296 from if_pos rfl] at g
theorem g_see (h : RS k t mode op line 0 wk0 v r) (hf : freeW v = true) (b : Bool) : RS k t mode op 1 0 wk0 v (r.gSee b) ∧ (r.gSee b).a = v := by
  unfold LS.gSee
  rw [h.w.x, if_pos hf]
  have g := (h.do hk 0 0 (K := 1) rfl).keepA hk v
  have e : leftOf 1 0 0 v = v := rfl
  rw [e] at g
  cases b
  · exact ⟨g.go hk 1, rfl⟩
  · exact ⟨(g.note hk 2 1).go hk 1, rfl⟩
theorem g_take (h : RS k t mode 1 1 0 wk0 v r) (ha : r.a = v) : RS k t mode 1 1 2 wk0 ((v + 1) % 4294967296) r.wf := by
  rw [wf_1_1 h.op h.line]; unfold LS.gTake
  rw [h.at0, ha, if_pos (beq_self_eq_true _)]
  exact (((h.cas hk ha 1).note hk 4 0).fin hk true)
theorem g_go (h : RS k t mode 2 0 0 wk0 v r) : RS k t mode 2 0 2 (beginI mode 0) ((4294967295 + v) % 4294967296) r.wf := by
  rw [wf_2_0 h.op h.line]; unfold LS.fGo
  exact ((((h.do hk 4294967295 0 (K := 3) rfl).note hk 6 0).wake hk).fin hk true)
theorem g_come (h : RS k t mode 3 0 0 wk0 v r) : RS k t mode 3 1 0 wk0 ((65536 + v) % 4294967296) r.wf ∧ r.wf.a = v := by
  rw [wf_3_0 h.op h.line]; unfold LS.gCome
  exact ⟨((((h.do hk 65536 0 (K := 3) rfl).keepA hk _).note hk 2 2).go hk 1), h.w.x⟩
theorem g_load (h : RS k t mode op line 0 wk0 v r) : RS k t mode op 1 0 wk0 v r.gLoad ∧ r.gLoad.a = v := by
  unfold LS.gLoad
  exact ⟨((h.do hk 0 0 (K := 1) rfl).keepA hk _).go hk 1, h.w.x⟩
theorem g_leave (h : RS k t mode 4 1 0 wk0 v r) : RS k t mode 4 1 2 (beginI mode 0) ((nextO r.a + v) % 4294967296) r.wf := by
  rw [wf_4_1 h.op h.line]; unfold LS.gLeave
  exact (((((h.do hk (nextO r.a) 0 (K := 3) rfl).note hk 7 0).note hk 8 0).wake hk).fin hk true)
theorem g_down (h : RS k t mode 8 1 0 wk0 v r) : RS k t mode 8 1 2 (beginI mode 0) (((nextO r.a + 1) % 4294967296 + v) % 4294967296) r.wf := by
  rw [wf_8_1 h.op h.line]; unfold LS.gDown
  exact ((((h.do hk ((nextO r.a + 1) % 4294967296) 0 (K := 3) rfl).note hk 10 0).wake hk).fin hk true)
theorem g_look (h : RS k t mode op line 0 wk0 v r) : RS k t mode op 1 0 wk0 v (r.fLook true) ∧ (r.fLook true).a = v ∧ RS k t mode op line 1 wk0 v (r.fLook false) := by
  have g := (h.do hk 0 0 (K := 1) rfl).keepA hk (wordAt r.xs 0)
  exact ⟨g.go hk 1, h.w.x, (g.note hk 5 0).fin hk false⟩
theorem g_slip (h : RS k t mode 5 1 0 wk0 v r) (ha : r.a = v) : RS k t mode 5 1 2 wk0 ((v + 1) % 4294967296) r.wf := by
  rw [wf_5_1 h.op h.line]; unfold LS.gSlip
  rw [h.at0, ha, if_pos (beq_self_eq_true _)]
  exact ((((h.cas hk ha 1).note hk 2 1).note hk 4 0).fin hk true)
theorem g_try (h : RS k t mode 6 1 0 wk0 v r) (ha : r.a = v) : RS k t mode 6 1 2 wk0 ((v + 65536) % 4294967296) r.wf := by
  rw [wf_6_1 h.op h.line]; unfold LS.gTry
  rw [h.at0, ha, if_pos (beq_self_eq_true _)]
  exact ((((h.cas hk ha 65536).note hk 2 2).note hk 4 0).fin hk true)
theorem g_up (h : RS k t mode 7 1 0 wk0 v r) (ha : r.a = v) : RS k t mode 7 1 2 wk0 ((v + 65535) % 4294967296) r.wf := by
  rw [wf_7_1 h.op h.line]; unfold LS.gUp
  rw [h.at0, ha, if_pos (beq_self_eq_true _)]
  exact (((h.cas hk ha 65535).note hk 9 0).fin hk true)
end
section
variable {chk : LS → Bool} {k t m : Nat} {mode op line ret op' line' v v' : Int} {r : LS}
def EndF (chk : LS → Bool) (k m : Nat) (r : LS) (ret v : Int) : Prop := ∃ xs, aloneG chk LS.wf m r = (ret, xs) ∧ SW k v xs
theorem nextf_off (h : RS k t mode op line ret wk0 v r) : r.next LS.wf = r.fresh.wf := by
  unfold LS.next
  rw [h.kk, if_neg (by show ¬ false = true; decide)]
theorem EndF.on (hk0 : Chk chk) (h : RS k t mode op line 0 wk0 v r) (g : RS k t mode op' line' 0 wk0 v' r.fresh.wf) {re V : Int} (e : EndF chk k m r.fresh.wf re V) : EndF chk k (m + 1) r re V := by
  obtain ⟨xs, e1, e2⟩ := e
  refine ⟨xs, ?_, e2⟩
  rw [alone_on hk0 h.s (by rw [nextf_off h]; unfold LS.over; rw [g.ret]; rfl), nextf_off h]
  exact e1
theorem EndF.stop (hk0 : Chk chk) (h : RS k t mode op line 0 wk0 v r) (g : RS k t mode op' line' ret wk0 v' r.fresh.wf) (hr : ret ≠ 0) : EndF chk k (m + 1) r ret v' := by
  refine ⟨_, ?_, g.w⟩
  rw [alone_end hk0 h.s (by rw [nextf_off h]; unfold LS.over; rw [g.ret, g.kk]; simpa [wk0] using hr), nextf_off h, g.ret]
theorem EndF.done (hk0 : Chk chk) (hk : 1 ≤ k ∧ k ≤ 64) (h : RS k t mode op line 0 wk0 v r) (g : RS k t mode op' line' ret (beginI mode 0) v' r.fresh.wf) (hr : ret ≠ 0) (hm : k < m) : EndF chk k m r ret v' :=
  ⟨_, by
    rw [alone_doneQ hk0 hk (c := 0) (by decide) (nextf_off h) g.n (g.w.nw hk.2) g.kk (by rw [g.ret]; exact hr) h.s g.s hm, g.ret], g.w⟩
variable (hk0 : Chk chk) (hk : 1 ≤ k ∧ k ≤ 64)
include hk0 hk
theorem eg_rlock (h : RS k t mode 1 0 0 wk0 v r) (hf : freeW v = true) : EndF chk k (m + 2) r 2 ((v + 1) % 4294967296) := by
  obtain ⟨g, ga⟩ := g_see hk h.fresh hf true
  rw [← wf_1_0 h.fresh.op h.fresh.line] at g ga
  exact .on hk0 h g (.stop hk0 g (g_take hk g.fresh ga) (by decide))
theorem eg_runlock (h : RS k t mode 2 0 0 wk0 v r) (hm : k < m) : EndF chk k m r 2 ((4294967295 + v) % 4294967296) := .done hk0 hk h (g_go hk h.fresh) (by decide) hm
theorem eg_lock (h : RS k t mode 3 0 0 wk0 v r) (ht : turnW (iF v) ((65536 + v) % 4294967296) = true) : EndF chk k (m + 2) r 2 ((65536 + v) % 4294967296) := by
  obtain ⟨g, ga⟩ := g_come hk h.fresh
  have e := g.fresh.letIn (q := turnW (iF r.fresh.wf.fresh.a)) (by show turnW (iF r.fresh.wf.a) _ = true; rw [ga]; exact ht)
  rw [← wf_3_1 g.fresh.op g.fresh.line] at e
  exact .on hk0 h g (.stop hk0 g e (by decide))
theorem eg_unlock (h : RS k t mode 4 0 0 wk0 v r) (hm : k < m) : EndF chk k (m + 1) r 2 ((nextO v + v) % 4294967296) := by
  obtain ⟨g, ga⟩ := g_load hk h.fresh
  rw [← wf_4_0 h.fresh.op h.fresh.line] at g ga
  have e := g_leave hk g.fresh
  rw [show r.fresh.wf.fresh.a = v from ga] at e
  exact .on hk0 h g (.done hk0 hk g e (by decide) hm)
theorem eg_down (h : RS k t mode 8 0 0 wk0 v r) (hm : k < m) : EndF chk k (m + 1) r 2 (((nextO v + 1) % 4294967296 + v) % 4294967296) := by
  obtain ⟨g, ga⟩ := g_load hk h.fresh
  rw [← wf_8_0 h.fresh.op h.fresh.line] at g ga
  have e := g_down hk g.fresh
  rw [show r.fresh.wf.fresh.a = v from ga] at e
  exact .on hk0 h g (.done hk0 hk g e (by decide) hm)
theorem eg_tryrlock (h : RS k t mode 5 0 0 wk0 v r) (hf : freeW v = true) : EndF chk k (m + 2) r 2 ((v + 1) % 4294967296) := by
  obtain ⟨g, ga, _⟩ := g_look hk h.fresh
  have e : r.fresh.wf = r.fresh.fLook true := by rw [wf_5_0 h.fresh.op h.fresh.line, h.fresh.w.x, hf]
  rw [← e] at g ga
  exact .on hk0 h g (.stop hk0 g (g_slip hk g.fresh ga) (by decide))
theorem eg_tryrlock_no (h : RS k t mode 5 0 0 wk0 v r) (hf : freeW v = false) : EndF chk k (m + 1) r 1 v := by
  obtain ⟨_, _, g⟩ := g_look hk h.fresh
  have e : r.fresh.wf = r.fresh.fLook false := by rw [wf_5_0 h.fresh.op h.fresh.line, h.fresh.w.x, hf]
  rw [← e] at g
  exact .stop hk0 h g (by decide)
theorem eg_trylock (h : RS k t mode 6 0 0 wk0 v r) (hf : freeW v = true) (hr : rF v = 0) : EndF chk k (m + 2) r 2 ((v + 65536) % 4294967296) := by
  obtain ⟨g, ga, _⟩ := g_look hk h.fresh
  have e : r.fresh.wf = r.fresh.fLook true := by rw [wf_6_0 h.fresh.op h.fresh.line, h.fresh.w.x, hf, hr]; rfl
  rw [← e] at g ga
  exact .on hk0 h g (.stop hk0 g (g_try hk g.fresh ga) (by decide))
theorem eg_trylock_no (h : RS k t mode 6 0 0 wk0 v r) (hv : (freeW v && rF v == 0) = false) : EndF chk k (m + 1) r 1 v := by
  obtain ⟨_, _, g⟩ := g_look hk h.fresh
  have e : r.fresh.wf = r.fresh.fLook false := by rw [wf_6_0 h.fresh.op h.fresh.line, h.fresh.w.x, hv]
  rw [← e] at g
  exact .stop hk0 h g (by decide)
theorem eg_upgrade (h : RS k t mode 7 0 0 wk0 v r) (hf : freeW v = true) (hr : rF v = 1) : EndF chk k (m + 2) r 2 ((v + 65535) % 4294967296) := by
  obtain ⟨g, ga, _⟩ := g_look hk h.fresh
  have e : r.fresh.wf = r.fresh.fLook true := by rw [wf_7_0 h.fresh.op h.fresh.line, h.fresh.w.x, hf, hr]; rfl
  rw [← e] at g ga
  exact .on hk0 h g (.stop hk0 g (g_up hk g.fresh ga) (by decide))
end
def StF (k : Nat) (b : Int) (s : Nat) (xs : List Int) : Prop := ∃ o : Nat, SW k (match s with | 1 => wv b o o 1 | 2 => wv b o (o + 1) 0 | 3 => wv b o o 2 | _ => wv b o o 0) xs
section
variable {chk : LS → Bool} {k m : Nat} {mode op b : Int} {xs : List Int}
theorem EndF.st {r : LS} {ret : Int} {s' : Nat} {v : Int} (e : EndF chk k m r ret v) (o : Nat) (hv : v = (match s' with | 1 => wv b o o 1 | 2 => wv b o (o + 1) 0 | 3 => wv b o o 2 | _ => wv b o o 0)) : ∃ ys, aloneG chk LS.wf m r = (ret, ys) ∧ StF k b s' ys := by
  obtain ⟨ys, e1, e2⟩ := e
  exact ⟨ys, e1, ⟨o, by rw [← hv]; exact e2⟩⟩
theorem alone_wfG (hk0 : Chk chk) (hk : 1 ≤ k ∧ k ≤ 64) (hm : k + 8 ≤ m) {s s' : Nat} {ret : Int} (h : nextS s op = some (ret, s')) (hx : StF k b s xs) : ∃ ys, aloneG chk LS.wf m (newR k mode 0 op xs) = (ret, ys) ∧ StF k b s' ys := by
  obtain ⟨o, hx⟩ := hx
  obtain ⟨m1, rfl⟩ : ∃ q, m = q + 1 := ⟨m - 1, by omega⟩
  obtain ⟨m2, hm2⟩ : ∃ q, m1 + 1 = q + 2 := ⟨m1 - 1, by omega⟩
  have f0 : ∀ c : Nat, c < 256 → freeW (wv b o o c) = true := fun c hc => by rw [wv_free hc (Nat.le_refl _) (by omega)]; exact decide_eq_true rfl
  have f1 : freeW (wv b o (o + 1) 0) = false := by rw [wv_free (by decide) (by omega) (by omega)]; exact decide_eq_false (by omega)
  have un : ∀ v : Int, v = wv b o (o + 1) 0 → (nextO v + v) % 4294967296 = wv b (o + 1) (o + 1) 0 := fun v e => by rw [e]; exact wv_next (wv_o (by decide))
  have dn : ∀ v : Int, v = wv b o (o + 1) 0 → ((nextO v + 1) % 4294967296 + v) % 4294967296 = wv b (o + 1) (o + 1) 1 := fun v e => by rw [e]; exact wv_next1 (wv_o (by decide))
  unfold nextS at h
  split at h
  all_goals first
    | (cases h; done)
    | (obtain ⟨rfl, rfl⟩ := Prod.mk.inj (Option.some.inj h))
  · rw [hm2]; exact (eg_rlock hk0 hk (rs_new (mode := mode) 0 1 hx) (f0 0 (by decide))).st o wv_up
  · rw [hm2]
    refine (eg_lock hk0 hk (rs_new (mode := mode) 0 3 hx) ?_).st o wv_draw
    show turnW (iF (wv b o o 0)) ((65536 + wv b o o 0) % 4294967296) = true
    rw [wv_draw, wv_i (by decide), wv_turn (by decide) (Nat.le_refl _) (by omega)]; exact decide_eq_true ⟨rfl, rfl⟩
  · rw [hm2]; exact (eg_tryrlock hk0 hk (rs_new (mode := mode) 0 5 hx) (f0 0 (by decide))).st o wv_up
  · rw [hm2]; exact (eg_trylock hk0 hk (rs_new (mode := mode) 0 6 hx) (f0 0 (by decide)) (wv_r (by decide))).st o wv_draw'
  · exact (eg_runlock hk0 hk (rs_new (mode := mode) 0 2 hx) (by omega)).st o wv_down
  · rw [hm2]; exact (eg_upgrade hk0 hk (rs_new (mode := mode) 0 7 hx) (f0 1 (by decide)) (wv_r (by decide))).st o wv_rise
  · exact (eg_trylock_no hk0 hk (rs_new (mode := mode) 0 6 hx) (by show (freeW (wv b o o 1) && rF (wv b o o 1) == 0) = false; rw [wv_r (by decide), f0 1 (by decide)]; rfl)).st o rfl
  · rw [hm2]; exact (eg_tryrlock hk0 hk (rs_new (mode := mode) 0 5 hx) (f0 1 (by decide))).st o wv_up
  · exact (eg_unlock hk0 hk (rs_new (mode := mode) 0 4 hx) (by omega)).st (o + 1) (un _ rfl)
  · exact (eg_down hk0 hk (rs_new (mode := mode) 0 8 hx) (by omega)).st (o + 1) (dn _ rfl)
  · exact (eg_tryrlock_no hk0 hk (rs_new (mode := mode) 0 5 hx) f1).st o rfl
  · exact (eg_trylock_no hk0 hk (rs_new (mode := mode) 0 6 hx) (by show (freeW (wv b o (o + 1) 0) && _) = false; rw [f1]; rfl)).st o rfl
  · exact (eg_runlock hk0 hk (rs_new (mode := mode) 0 2 hx) (by omega)).st o wv_down
end
def runF (k : Nat) (mode : Int) (xs : List Int) (op : Int) : Int × List Int := aloneL LS.wf (40 + 8 * k) (newR k mode 0 op xs)
def foldF (k : Nat) (mode : Int) (l : List Int) (xs : List Int) : List Int := l.foldl (fun ys op => (runF k mode ys op).2) xs
theorem runF_ok {k : Nat} {mode op b : Int} {xs : List Int} (hk : 1 ≤ k ∧ k ≤ 64) {s s' : Nat} {ret : Int} (h : nextS s op = some (ret, s')) (hx : StF k b s xs) : (runF k mode xs op).1 = ret ∧ StF k b s' (runF k mode xs op).2 := by
  obtain ⟨ys, e1, e2⟩ := alone_wfG (mode := mode) chk_n hk (m := 40 + 8 * k) (by omega) h hx
  have e3 : runF k mode xs op = (ret, ys) := e1
  rw [e3]; exact ⟨rfl, e2⟩
theorem foldF_next {k : Nat} {mode : Int} {l : List Int} {j : Nat} {op : Int} (h : l[j]? = some op) (xs : List Int) : foldF k mode (l.take (j + 1)) xs = (runF k mode (foldF k mode (l.take j) xs) op).2 := by
  unfold foldF
  rw [List.take_add_one, h, List.foldl_append]
  rfl
theorem foldF_ok {k : Nat} {mode b : Int} (hk : 1 ≤ k ∧ k ≤ 64) : ∀ (l : List Int) (s s' : Nat) (xs : List Int), goodS s l = some s' → StF k b s xs → StF k b s' (foldF k mode l xs) ∧ ∀ (j : Nat) (op : Int), l[j]? = some op → (runF k mode (foldF k mode (l.take j) xs) op).1 = 2 := by
  intro l
  induction l with
  | nil => intro s s' xs h hx; cases h; exact ⟨hx, fun j op e => by simp at e⟩
  | cons o l ih =>
    intro s s' xs h hx
    unfold goodS at h
    split at h
    · rename_i s1 hn
      obtain ⟨r1, r2⟩ := runF_ok (mode := mode) hk hn hx
      obtain ⟨i1, i2⟩ := ih s1 s' _ h r2
      refine ⟨i1, fun j op e => ?_⟩
      cases j with
      | zero =>
        have : op = o := by simpa using e.symm
        subst this
        exact r1
      | succ j => exact i2 j op (by simpa using e)
    · cases h
theorem opsF_ok {k : Nat} {mode b : Int} (hk : 1 ≤ k ∧ k ≤ 64) {xs : List Int} (hx : StF k b 0 xs) : ∀ l ∈ opsS, StF k b 0 (foldF k mode l xs) ∧ ∀ (j : Nat) (op : Int), l[j]? = some op → (runF k mode (foldF k mode (l.take j) xs) op).1 = 2 := by
  intro l hl
  simp only [opsS, List.mem_cons, List.not_mem_nil, or_false] at hl
  rcases hl with rfl | rfl | rfl | rfl | rfl | rfl | rfl <;> exact foldF_ok hk _ 0 0 xs rfl hx
theorem StF.free {k : Nat} {b : Int} {xs : List Int} (h : StF k b 0 xs) : ∃ v : Int, wordAt xs 0 = v ∧ 0 ≤ v ∧ v < 4294967296 ∧ v % 256 = 0 ∧ v / 256 % 256 = v / 65536 % 256 := by
  obtain ⟨o, h⟩ := h
  have hx : wordAt xs 0 = wv b o o 0 := h.x
  refine ⟨_, hx, by unfold wv; omega, by unfold wv; omega, wv_r (b := b) (o := o) (i := o) (c := 0) (by decide), ?_⟩
  exact (wv_o (b := b) (o := o) (i := o) (c := 0) (by decide)).trans (wv_i (b := b) (o := o) (i := o) (c := 0) (by decide)).symm
def wfXs (k : Nat) (b : Int) : List Int := (b % 256 * 256 + b % 256 * 65536) :: List.replicate (7 + 4 * k) 0
theorem wf_len (k : Nat) (b : Int) : (wfXs k b).length = 8 + 4 * k := by simp [wfXs]; omega
theorem wf_at (k : Nat) (b : Int) : wordAt (wfXs k b) 0 = wv (b % 256) 0 0 0 ∧ ∀ d : Int, d ≠ 0 → wordAt (wfXs k b) d = 0 := by
  refine ⟨?_, fun d hd => ?_⟩
  · have : wordAt (wfXs k b) 0 = b % 256 * 256 + b % 256 * 65536 := by
      unfold wordAt wfXs there
      rw [if_pos (by simp; omega)]
      rfl
    rw [this]
    unfold wv
    have hx : 0 ≤ b % 256 ∧ b % 256 < 256 := by omega
    generalize b % 256 = x at hx ⊢
    rw [show ((0 : Nat) : Int) = 0 from rfl, Int.add_zero, Int.emod_eq_of_lt hx.1 hx.2, Int.emod_eq_of_lt (by omega) (by omega)]
    omega
  · unfold wordAt
    split
    · rename_i h
      obtain ⟨n, rfl⟩ := Int.eq_ofNat_of_zero_le (show 0 ≤ d by unfold there at h; simp at h; omega)
      obtain ⟨n', rfl⟩ : ∃ q, n = q + 1 := ⟨n - 1, by omega⟩
      simp only [wfXs, Int.toNat_natCast, List.getD, List.getElem?_cons_succ, List.getElem?_replicate]
      split <;> rfl
    · rfl
theorem wf_words {k : Nat} {b : Int} (hb : 0 ≤ b) : Words (wfXs k b) := fun n hn => by
  rcases List.mem_cons.1 hn with rfl | hn
  · exact wf_mk (by omega) (by omega)
  · obtain ⟨_, rfl⟩ := List.mem_replicate.1 hn
    rfl
theorem stf_first {k : Nat} (hk : k ≤ 64) (b : Int) : StF k (b % 256) 0 (wfXs k b) := ⟨0, wf_len k b, (wf_at k b).1, fun i hi => (wf_at k b).2 _ (by rw [wc_at hk hi]; omega)⟩
end Go.Proofs.Ytaeninikaalkjaa
set_option linter.unusedVariables false
set_option linter.unusedSimpArgs false
namespace Go.Proofs.Ytaeninikaalkjaa
open Go.RowKit
def FirstW (xs : List Int) (S : Nat) (w : World) (e : Ending) (w' : World) : Prop :=
  ∃ g, e = .returned (.tuple #[.slice (some ⟨g, 0, none⟩) S S, .int .i64 0]) ∧ w.heap.size ≤ g ∧ Held w' (some ⟨g, 0, none⟩) S S xs ∧ Only Nil w w'
end Go.Proofs.Ytaeninikaalkjaa
set_option linter.unusedVariables false
set_option linter.unusedSimpArgs false
namespace Go.Proofs.Ytaeninikaalkjaa
open Go.RowKit
theorem words_wf (k : Nat) (b : Int) : words 6 (8 + 4 * k) 1 b = wfXs k b := by
  apply List.ext_getElem
  · simp [words, wfXs]
    omega
  · intro i h1 h2
    match i, h1, h2 with
    | 0, _, _ => simp [words, wordI, wfXs]
    | i + 1, _, _ => simp [words, wordI, wfXs]
theorem first_wf (k : Nat) (b : Int) (w : World) (hk : 1 ≤ k ∧ k ≤ 64) (hb : 0 ≤ b ∧ b < 4294967296) :
    Calls Try.prog 7 #[.int .i64 6, .int .i64 k, .int .u32 b] w (FirstW (wfXs k b) (8 + 4 * k) w) := by
  have hS : sizeI (k : Int) = ((8 + 4 * k : Nat) : Int) := by unfold sizeI; rw [if_pos (by omega)]; push_cast; rfl
  refine (first_yes 6 k b (8 + 4 * k) w (by omega) (by omega) hS hb).mono ?_
  rintro e w' ⟨g, rfl, hg, hR, hO⟩
  rw [show (ownV 6).size = 1 from rfl, words_wf] at hR
  have hI := Row.ints (k := .u32) (xs := wfXs k b) hR
  exact ⟨g, rfl, hg, ⟨by rw [wf_len], (by intro h; cases h), hI⟩, hO⟩
end Go.Proofs.Ytaeninikaalkjaa
set_option linter.unusedVariables false
set_option linter.unusedSimpArgs false
namespace Go.Proofs.Ytaeninikaalkjaa
open Go.RowKit
theorem flat_cells : ∀ (zs : List Nt) (u : Value), u ∈ flat zs → u.oneCell' = true
  | [], u, h => by simp [flat] at h
  | n :: r, u, h => by
    rw [flat, List.mem_append] at h
    rcases h with h | h
    · unfold flat1 at h
      simp only [List.mem_cons, List.not_mem_nil, or_false] at h
      rcases h with rfl | rfl | rfl | rfl <;> rfl
    · exact flat_cells r u h
theorem wp_appNs {w : World} {ops : Array Oper} {rest : List Oper} {o : Oper} {a : Act} {Q : Exit → Act → World → Prop} (hgd : o.guard = none) (s x : Operand)
    (ho : o.op = .call { callee := .builtin .append, args := #[s, x], argTypes := #[32, 32] })
    (base : Nat) (v : Value) (zs : List Nt) (hs : a.eval s = v) (hown : OwnN base w v zs)
    (u : Value) (ys : List Nt) (hx : a.eval x = u) (hu : OwnN 0 w u ys)
    (h1 : zs.length ≤ 4000) (h2 : ys.length ≤ 1000) (hbase : base ≤ w.heap.size)
    (h : ∀ v' w', OwnN base w' v' (zs ++ ys) → Only (fun k => v.ownBlock = some k) w w' → wpList Try.prog ops Q rest (a.put o.dst v') w') : wpList Try.prog ops Q (o :: rest) a w := by
  obtain ⟨i0, hi, hz0, hz1, hz2⟩ := info_parts infoN
  rcases hu.2 with ⟨rfl, hn⟩ | ⟨g, cap, cur, rfl, _, hg, hc, hm, hsz, ht⟩
  · obtain rfl := List.eq_nil_of_length_eq_zero hn
    refine wpList_append_own_none hgd s x 32 ho base 102 i0 4 Try.underlying32 hi v zs.length (flat zs) hs hown hx ?_
    exact h v w (by rw [List.append_nil]; exact hown) (Only.refl _ _)
  · refine wpList_append_own w hgd s x 32 ho base 102 i0 (.agg #[.int .i64 0, .int .i64 0, .int .i64 0, .int .i64 0]) 4 32 Try.underlying32 hi hz0 hz1 hz2 rfl (by decide) v zs.length (flat zs) hs hown ⟨g, 0, none⟩ ys.length cap (flat ys) hx (flat_len ys) (fun j u hj => World.ownsRow.cells hu (g := g) rfl j u hj) (fun u hu => flat_cells ys u hu) (by unfold maxLen; omega) (by omega) hbase (fun v' w' hO hG _ => ?_)
    refine h v' w' ?_ ((Only.refl _ w).grown hG (fun k hk => .inr hk))
    have e : (zs ++ ys).length = zs.length + ys.length := List.length_append
    unfold OwnN
    rw [e, flat_app]
    exact hO
end Go.Proofs.Ytaeninikaalkjaa
set_option linter.unusedVariables false
set_option linter.unusedSimpArgs false
namespace Go.Proofs.Ytaeninikaalkjaa
open Go.RowKit
structure AloneI (w0 : World) (B : Nat) (p A : Option Addr) (cp : Nat) (r0 : LS) (most j : Nat) (v : Value) (wr : World) : Prop where
  run : ∃ nv r, RunQ wr B p A cp nv r ∧ r.WA ∧ aloneL LS.wf most r0 = aloneL LS.wf (most - j) r
  notes : ∃ zs, OwnN w0.heap.size wr v zs ∧ zs.length ≤ 2 * j
  only : Only (At A) w0 wr
  new : w0.heap.size ≤ B
  old : ∀ j, At p j ∨ At A j → j < w0.heap.size
def AloneP (p A : Option Addr) (cp : Nat) (w : World) (t : Int × List Int) (e : Ending) (w' : World) : Prop := ∃ nv, e = .returned (.tuple #[.int .i64 t.1, nv]) ∧ Only (At A) w w' ∧ Memo w' p A cp t.2 ∧ Words t.2
theorem ownN_form {base : Nat} {w : World} {v : Value} {zs : List Nt} (h : OwnN base w v zs) : ∃ A n c, v = .slice A n c := by
  rcases h.2 with ⟨rfl, _⟩ | ⟨g, cap, cur, rfl, _⟩
  · exact ⟨none, 0, 0, rfl⟩
  · exact ⟨_, _, _, rfl⟩
set_option maxRecDepth 100000 in
set_option maxHeartbeats 2000000 in
theorem alone_any (p A : Option Addr) (cp : Nat) (k mode op : Int) (most : Nat) (xs : List Int) (w : World) (h : Memo w p A cp xs) (hx : Words xs) (hmost : most ≤ 1000) :
    Calls Try.prog 9 #[.pointer p, .int .i64 k, .int .i64 mode, .int .i64 op, .int .i64 most] w (AloneP p A cp w (aloneL LS.wf most (newR k mode 0 op xs))) := by
  have e0 := (Only.refl Nil w).alloc (.cells ((newR k mode 0 op xs).cells (.pointer p) (.slice none 0 0)) 61)
  have HI0 : Hid (AloneI w w.heap.size p A cp (newR k mode 0 op xs) most 0 (.slice none 0 0) (w.alloc (.cells ((newR k mode 0 op xs).cells (.pointer p) (.slice none 0 0)) 61))) :=
    Lib.hid ⟨⟨_, _, ⟨Row.new w _ _, h.keep e0⟩, wa_new hx, rfl⟩, ⟨[], ownN_nil _ _, Nat.zero_le _⟩, e0.mono (fun _ _ h => h.elim), Nat.le_refl _, h.lt⟩
  rw [show (newR k mode 0 op xs).cells (.pointer p) (.slice none 0 0) = newCells p k mode 0 op from rfl] at HI0
  unfold newCells at HI0
  clear e0 h hx
  generalize hr0 : newR k mode 0 op xs = r0 at *
  clear hr0
  go_enter Try.func9, Try.ntmps9
  go_upto_region 2 with (fail)
  generalize w.alloc (.cells #[.pointer p, .int .i64 k, .int .i64 mode, .int .i64 0, .int .i64 op, .int .i64 0, .int .u32 0, .int .u32 0, .int .i64 0, .bool false, .int .i64 0, .int .i64 0, .bool false, .int .i64 0, .int .i64 0, .int .i64 0, .int .u32 0, .int .u32 0, .int .u32 0, .slice none 0 0] 61) = w1 at *
  generalize hB : w.heap.size = B at *
  have HB := Lib.hid hB
  clear hB
  go_wp2_with fail
  go_loopw [13, 14] (fun nv i wr => ∃ j : Nat, j ≤ most ∧ i = .int .i64 j ∧ AloneI w B p A cp r0 most j nv wr) (fun _ i _ => most - (intOf i).toNat)
  case atStart => exact ⟨0, Nat.zero_le _, rfl, HI0.out⟩
  case round =>
    obtain ⟨j, hj, rfl, hI⟩ := hrel
    clear HI0
    obtain ⟨nvr, r, hQ, hW, hA⟩ := hI.run
    have HI := Lib.hid hI
    have HQ := Lib.hid hQ
    have HW := Lib.hid hW
    have HA := Lib.hid hA
    clear hI hQ hW hA
    by_cases hlt : j < most
    · go_wp2_with fail
      refine (wf_step B p A cp nvr r _ HQ.out HW.out.words HW.out.a).mono ?_
      obtain ⟨hg, hn2⟩ := good_next (L := LS.wf) (fun r => good_wf) r
      have HG := Lib.hid hg
      have HN2 := Lib.hid hn2
      clear hg hn2
      have HNW := Lib.hid (wa_next HW.out)
      rintro e w2 ⟨rfl, hO, _, nv2, hP⟩
      have HO := Lib.hid hO
      have HP := Lib.hid hP
      clear hO hP
      obtain ⟨zs, hzs, hzl⟩ := HI.out.notes
      have HZ := Lib.hid (show OwnN w.heap.size w2 _ zs from own_only hzs HO.out (fun i hi e => by
        obtain ⟨cur, hc⟩ := ownN_tag hzs hi
        rcases e with e | e
        · exact row_ne hc HQ.out.row (by decide) e
        · exact memo_not HQ.out.memo hc (by decide) (by decide) (.inr e)))
      have HZL := Lib.hid hzl
      clear hzs hzl
      have HSTEP : Hid (aloneL LS.wf most r0 = if (r.next LS.wf).over then ((r.next LS.wf).ret, (r.next LS.wf).xs) else aloneL LS.wf (most - (j + 1)) (r.next LS.wf)) := Lib.hid (by
        rw [HA.out, show most - j = (most - (j + 1)) + 1 by omega]
        rfl)
      generalize r.next LS.wf = r2 at *
      have c19 : w2.cell? ⟨B, 19, none⟩ = some nv2 := HP.out.row.cell_ (i := 19) rfl
      have hbase : w.heap.size ≤ w2.heap.size := Nat.le_trans HI.out.only.size HO.out.size
      have HBA := Lib.hid hbase
      clear hbase
      go_wp2_with (at_builtin; refine wp_appNs rfl (.tmp 31) (.tmp 35) rfl w.heap.size _ _ (by rfl) HZ.out nv2 r2.ns (by rfl) HP.out.notes (by have := HZL.out; omega) (by have := HN2.out; omega) HBA.out ?_)
      intro v' w3 hown hO3
      clear c19
      have HRQ : Hid (RunQ w3 B p A cp nv2 r2) := Lib.hid ⟨HP.out.row.only hO3 (fun e => by
          obtain ⟨cur, hc⟩ := ownN_tag HZ.out e
          exact absurd (HP.out.row.same hc).1 (by decide)), HP.out.memo.far hO3 (fun j hj e => by
          obtain ⟨cur, hc⟩ := ownN_tag HZ.out e
          exact memo_not HP.out.memo hc (by decide) (by decide) hj)⟩
      have HO3 : Hid (Only (At A) w w3) := Lib.hid ((HI.out.only.step HO.out (fun i hi e => by
          rcases e with e | e
          · have := HI.out.new; omega
          · exact e)).step hO3 (fun i hi e => by
          have := (World.ownsRow.lt HZ.out i e).1
          omega))
      have HOW := Lib.hid hown
      obtain ⟨A9, n9, c9, rfl⟩ := ownN_form hown
      clear hown hO3
      cases hov : r2.over
      · have HSTEP2 := Lib.hid (HSTEP.out.trans (by rw [hov, if_neg Bool.false_ne_true]))
        clear hov
        go_wp2
        go_roundw
        case rel => exact ⟨j + 1, by omega, by go_num, ⟨⟨nv2, r2, HRQ.out, HNW.out, HSTEP2.out⟩, ⟨_, HOW.out, by rw [List.length_append]; have := HZL.out; have := HN2.out; omega⟩, HO3.out, HI.out.new, HI.out.old⟩⟩
        case measure => simp [intOf]; omega
      · have HSTEP2 := Lib.hid (HSTEP.out.trans (by rw [hov, if_pos rfl]))
        clear hov
        have c13 : w3.cell? ⟨B, 13, none⟩ = some (.int .i64 r2.ret) := HRQ.out.row.cell_ (i := 13) rfl
        go_wp2
        go_ret2
        rw [HSTEP2.out]
        exact ⟨_, rfl, HO3.out, HRQ.out.memo, HNW.out.words⟩
    · obtain rfl : j = most := by omega
      have HE := Lib.hid (show aloneL LS.wf j r0 = (0, r.xs) by rw [HA.out, Nat.sub_self]; rfl)
      go_wp2
      go_ret2
      rw [HE.out]
      exact ⟨_, rfl, HI.out.only, HQ.out.memo, HW.out.words⟩
end Go.Proofs.Ytaeninikaalkjaa
set_option linter.unusedVariables false
set_option linter.unusedSimpArgs false
namespace Go.Proofs.Ytaeninikaalkjaa
open Go.RowKit
def Fresh (w : World) (xs : List Int) (e : Ending) (w' : World) : Prop := ∃ b A' c', e = .returned (.tuple #[.pointer (some ⟨b, 0, none⟩), .int .i64 0]) ∧ w.heap.size ≤ b ∧ (∀ i, At A' i → w.heap.size ≤ i) ∧ Mem w' b A' c' xs ∧ Only Nil w w'
theorem from_ok (A : Option Addr) (n cap : Nat) (xs : List Int) (w : World) (hm : n ≤ 1024) (h : Held w A n cap xs) :
    Calls Try.prog 8 #[.slice A n cap] w (Fresh w xs) := by
  have hl := h.1
  have hm' : (n : Int) ≤ 1024 := by omega
  have HH := Lib.hid h
  have HL := Lib.hid hl
  clear h hl
  go_enter Try.func8, Try.ntmps8
  go_wp2_with (go_at_call 20; refine (clone_held A n cap xs _ (by omega) HH.out).mono ?_; rintro e w1 ⟨A', c', rfl, ho, hO⟩)
  have HO := Lib.hid ho
  have HW := Lib.hid hO
  clear ho hO
  go_ret2
  refine ⟨w1.heap.size, A', c', rfl, HW.out.size, HO.out.base, ⟨Row.new w1 _ _, ?_, ?_⟩, HW.out.alloc _⟩
  · exact ⟨own_base (own_only HO.out.own ((Only.refl Nil w1).alloc _) (fun _ _ h => h)) (Nat.zero_le _), HO.out.nil, fun _ _ => Nat.zero_le _⟩
  · rw [HL.out]; exact hm
end Go.Proofs.Ytaeninikaalkjaa
set_option linter.unusedVariables false
set_option linter.unusedSimpArgs false
namespace Go.Proofs.Ytaeninikaalkjaa
open Go.RowKit
structure Made (w0 : World) (b : Nat) (A : Option Addr) (cp : Nat) (xs : List Int) (W : World) : Prop where
  mem : Mem W b A cp xs
  new : ∀ j, At A j → w0.heap.size ≤ j
  only : Only Nil w0 W
theorem Made.call {w0 W W' : World} {b : Nat} {A : Option Addr} {cp : Nat} {xs ys : List Int} (h : Made w0 b A cp xs W) (ho : Only (At A) W W') (hm : Mem W' b A cp ys) : Made w0 b A cp ys W' :=
  ⟨hm, h.new, h.only.step ho (fun i hi e => by have := h.new i e; omega)⟩
end Go.Proofs.Ytaeninikaalkjaa
set_option linter.unusedVariables false
set_option linter.unusedSimpArgs false
namespace Go.Proofs.Ytaeninikaalkjaa
open Go.RowKit
theorem load_raw (b : Nat) (A : Option Addr) (cp : Nat) (xs : List Int) (c : Int) (w : World) (h : Mem w b A cp xs) :
    Calls Try.prog 10 #[.pointer (some ⟨b, 0, none⟩), .int .i64 c] w fun e w' => e = .returned (.int .u32 (wordAt xs c)) ∧ Only (At A) w w' ∧ Mem w' b A cp (doNew xs 1 c 0 0) := by
  have HH := Lib.hid h
  clear h
  go_enter Try.func10, Try.ntmps10
  go_wp2_with fail
  refine (do_any b A cp xs 1 c 0 0 0 _ HH.out).mono ?_
  obtain ⟨k', c', x', y', hv⟩ := doVal_form xs 1 c 0 0
  rw [oldAt xs 1 c rfl] at hv
  rintro e w1 ⟨rfl, hO, hM⟩
  rw [hv]
  have HO := Lib.hid hO
  have HM := Lib.hid hM
  clear hO hM hv
  go_wp2
  go_ret
  exact ⟨rfl, HO.out.alloc _, HM.out.only ((Only.refl Nil w1).alloc _) id (fun _ _ => id)⟩
theorem load_any (b : Nat) (A : Option Addr) (cp : Nat) (xs : List Int) (c : Int) (w : World) (h : Mem w b A cp xs) :
    Calls Try.prog 10 #[.pointer (some ⟨b, 0, none⟩), .int .i64 c] w fun e w' => e = .returned (.int .u32 (wordAt xs c)) ∧ Only (At A) w w' ∧ Mem w' b A cp xs :=
  (load_raw b A cp xs c w h).mono fun _ _ ⟨h1, h2, h3⟩ => ⟨h1, h2, by rw [doNew_load] at h3; exact h3⟩
end Go.Proofs.Ytaeninikaalkjaa
set_option linter.unusedVariables false
set_option linter.unusedSimpArgs false
namespace Go.Proofs.Ytaeninikaalkjaa
open Go.RowKit
theorem aw_alone : aloneL LS.wf 2 (newR 1 1 0 3 (wfXs 1 255)) = (2, [16842496, 0, 0, 0, 0, 0, 0, 0, 0, 0, 0, 0]) := by
  decide +kernel
set_option maxHeartbeats 1000000 in
theorem awake_any (w : World) : Calls Try.prog 11 #[] w fun e w' => e = .returned (.bool true) ∧ Only Nil w w' := by
  go_enter Try.func11, Try.ntmps11
  go_wp2_with fail
  refine (first_wf 1 255 _ (by decide) (by decide)).mono ?_
  rintro e w1 ⟨g, rfl, hg, hH, hO⟩
  have HH := Lib.hid hH
  have HO := Lib.hid hO
  clear hg hH hO
  go_wp2_with fail
  refine (from_ok _ _ _ _ _ (by decide) HH.out).mono ?_
  rintro e w2 ⟨b, A', c', rfl, hb, hA, hM, hO⟩
  have HM : Hid (Made w b A' c' _ w2) := Lib.hid ⟨hM, fun j hj => Nat.le_trans HO.out.size (hA j hj), HO.out.trans hO⟩
  clear hb hA hM hO HO HH
  go_wp2_with fail
  refine (alone_any (some ⟨b, 0, none⟩) A' c' 1 1 3 2 _ _ (Memo.of HM.out.mem) (wf_words (by decide)) (by decide)).mono ?_
  rw [aw_alone]
  rintro e w3 ⟨nv, rfl, hO, hM, _⟩
  have HM3 := Lib.hid (HM.out.call hO hM.mem)
  clear hO hM HM
  go_wp2_with fail
  refine (load_any b A' c' _ 0 _ HM3.out.mem).mono ?_
  rw [show wordAt [16842496, 0, 0, 0, 0, 0, 0, 0, 0, 0, 0, 0] 0 = 16842496 from rfl]
  rintro e w5 ⟨rfl, hO, hM⟩
  have HM4 := Lib.hid (HM3.out.call hO hM)
  clear hO hM HM3
  go_wp2
  go_ret
  exact ⟨rfl, HM4.out.only⟩
end Go.Proofs.Ytaeninikaalkjaa
set_option linter.unusedVariables false
set_option linter.unusedSimpArgs false
namespace Go.Proofs.Ytaeninikaalkjaa
open Go.RowKit
def OwnP (base : Nat) (w : World) (v : Value) (bs : List Nat) : Prop := w.ownsRow base 62 1 v bs.length (bs.map fun b => Value.pointer (some ⟨b, 0, none⟩))
theorem infoP : (Try.prog.info? 62).map (fun i => (i.zero, i.size, i.bytes)) = some (some (.pointer none), 1, 8) := by kernel_rfl
theorem ownP_nil (base : Nat) (w : World) : OwnP base w (.slice none 0 0) [] := World.ownsRow_nil _ _ _ _
theorem ownP_tag {base : Nat} {w : World} {v : Value} {bs : List Nat} (h : OwnP base w v bs) {i : Nat} (hi : v.ownBlock = some i) : ∃ cur, Row w i 62 cur := by
  rcases h.2 with ⟨rfl, _⟩ | ⟨g, cap, cur, rfl, _, hg, _⟩
  · cases hi
  · have e : g = i := by simpa [Value.ownBlock] using hi
    subst e
    exact ⟨cur, hg⟩
theorem ownP_form {base : Nat} {w : World} {v : Value} {bs : List Nat} (h : OwnP base w v bs) : ∃ A n c, v = .slice A n c := by
  rcases h.2 with ⟨rfl, _⟩ | ⟨g, cap, cur, rfl, _⟩
  · exact ⟨none, 0, 0, rfl⟩
  · exact ⟨_, _, _, rfl⟩
theorem wp_appP {w : World} {ops : Array Oper} {rest : List Oper} {o : Oper} {a : Act} {Q : Exit → Act → World → Prop} (hgd : o.guard = none) (s x : Operand)
    (ho : o.op = .call { callee := .builtin .append, args := #[s, x], argTypes := #[47, 47] })
    (base : Nat) (v : Value) (bs : List Nat) (hs : a.eval s = v) (hown : OwnP base w v bs)
    (g nb : Nat) (hx : a.eval x = .slice (some ⟨g, 0, none⟩) 1 1) (hrow : Row w g 62 #[.pointer (some ⟨nb, 0, none⟩)])
    (h1 : bs.length ≤ 1000) (hbase : base ≤ w.heap.size)
    (h : ∀ v' w', OwnP base w' v' (bs ++ [nb]) → Only (fun k => v.ownBlock = some k) w w' → wpList Try.prog ops Q rest (a.put o.dst v') w') : wpList Try.prog ops Q (o :: rest) a w := by
  obtain ⟨i0, hi, hz0, hz1, hz2⟩ := info_parts infoP
  refine wpList_append_own w hgd s x 47 ho base 62 i0 (.pointer none) 1 8 Try.underlying47 hi hz0 hz1 hz2 rfl (by decide) v bs.length _ hs hown ⟨g, 0, none⟩ 1 1 [.pointer (some ⟨nb, 0, none⟩)] hx rfl (fun j u hj => ?_) (fun u hu => ?_) (by unfold maxLen; omega) (by omega) hbase (fun v' w' hO hG _ => ?_)
  · rw [add_at, Nat.zero_add]
    exact hrow.cell_ (by rw [← hj]; simp)
  · simp only [List.mem_cons, List.not_mem_nil, or_false] at hu
    subst hu
    rfl
  · refine h v' w' ?_ ((Only.refl _ w).grown hG (fun k hk => .inr hk))
    unfold OwnP
    rw [List.length_append, List.map_append]
    exact hO
theorem made_zero (k i : Nat) (hi : i < k) : (madeCells #[.int .i64 0] k)[i]? = some (.int .i64 0) := by
  rw [← Array.getElem?_toList, toList_madeCells_one, List.getElem?_replicate, if_pos hi]
end Go.Proofs.Ytaeninikaalkjaa
set_option linter.unusedVariables false
set_option linter.unusedSimpArgs false
namespace Go.Proofs.Ytaeninikaalkjaa
open Go.RowKit
theorem many_bd (m : MV) (what : Int) : ∀ k, manyI m what k ≤ k
  | 0 => Nat.le_refl _
  | k + 1 => by
    have := many_bd m what k
    unfold manyI
    split <;> omega
theorem many_any (L : List (Nat × TypeId × Array Value)) (w0 : World) (X GL GH : Nat) (B : Nat → Nat) (p A : Option Addr) (cp k : Nat) (m : MV) (what : Int) (w : World) (h : MatchP L w0 X GL GH B p A cp k m w) (hk : k ≤ 1000) :
    Calls Try.prog 14 #[Value.pointer (some ⟨X, 0, none⟩), .int .i64 what] w fun e w' => e = .returned (.int .i64 (manyI m what k)) ∧ w = w' := by
  obtain ⟨cl, hx0⟩ := h.x
  obtain ⟨csh, hh0, hh1⟩ := h.h
  have x1 : w.cell? ⟨X, 1, none⟩ = some (.slice (some ⟨GH, 0, none⟩) k k) := hx0.cell_ (i := 1) rfl
  have HH := Lib.hid (show ∀ i, i < k → w.cell? ⟨GH, i, none⟩ = some (.int .i64 (m.hold i)) from fun i hi => hh0.cell_ (hh1 i hi))
  clear h hx0 hh0 hh1
  go_enter Try.func14, Try.ntmps14
  go_wp2_with fail
  go_loop [5, 6] (fun nv iv => ∃ i : Nat, i ≤ k ∧ iv = .int .i64 i ∧ nv = .int .i64 (manyI m what i)) (fun _ iv => k - (intOf iv).toNat)
  case atStart => exact ⟨0, Nat.zero_le _, rfl, rfl⟩
  case round =>
    obtain ⟨i, hi, rfl, rfl⟩ := hrel
    have b1 := many_bd m what i
    by_cases hlt : i < k
    · have gh := HH.out i hlt
      have HS := Lib.hid (show manyI m what (i + 1) = if m.hold i = what then manyI m what i + 1 else manyI m what i from rfl)
      by_cases he : m.hold i = what
      · have he' : (m.hold i == what) = true := beq_iff_eq.2 he
        have HE := Lib.hid (HS.out.trans (if_pos he))
        clear he
        generalize manyI m what i = c at *
        generalize m.hold i = hv at *
        go_wp2
        go_round
        case rel => exact ⟨i + 1, by omega, by go_num, by rw [HE.out]; first | done | go_num⟩
        case measure => simp [intOf]; omega
      · have he' : (m.hold i == what) = false := beq_eq_false_iff_ne.2 he
        have HE := Lib.hid (HS.out.trans (if_neg he))
        clear he
        generalize manyI m what i = c at *
        generalize m.hold i = hv at *
        go_wp2
        go_round
        case rel => exact ⟨i + 1, by omega, by go_num, by rw [HE.out]; first | done | go_num⟩
        case measure => simp [intOf]; omega
    · obtain rfl : i = k := by omega
      go_wp2
      go_ret
      exact ⟨rfl, rfl⟩
theorem infoI : (Try.prog.info? 3).map (fun i => (i.zero, i.size, i.bytes)) = some (some (.int .i64 0), 1, 8) := by kernel_rfl
structure BegunI (w0 : World) (X GH b : Nat) (A : Option Addr) (cp k : Nat) (mode : Int) (xs : List Int) (j : Nat) (W : World) : Prop where
  x : ∃ lv bs, Row W X 49 #[lv, .slice (some ⟨GH, 0, none⟩) k k] ∧ OwnP w0.heap.size W lv bs ∧ bs.length = j ∧ (∀ (i : Nat) (b' : Nat), bs[i]? = some b' → Row W b' 61 (newCells (some ⟨b, 0, none⟩) k mode i 0) ∧ w0.heap.size ≤ b') ∧ (∀ (i i' b' : Nat), bs[i]? = some b' → bs[i']? = some b' → i = i')
  h : ∃ cs, Row W GH 3 cs ∧ ∀ i, i < k → cs[i]? = some (.int .i64 0)
  made : Made w0 b A cp xs W
  gh : w0.heap.size ≤ GH
  xb : w0.heap.size ≤ X
def BegunP (k : Nat) (m : MV) (w : World) (e : Ending) (w' : World) : Prop := ∃ X GL GH B p A cp, e = .returned (Value.pointer (some ⟨X, 0, none⟩)) ∧ MatchP [] w X GL GH B p A cp k m w'
set_option maxRecDepth 100000 in
set_option maxHeartbeats 2000000 in
theorem begun_any (k : Nat) (mode b0 : Int) (w : World) (hk : 1 ≤ k ∧ k ≤ 64) (hb : 0 ≤ b0 ∧ b0 < 4294967296) :
    Calls Try.prog 12 #[.int .i64 k, .int .i64 mode, .int .u32 b0] w (BegunP k ⟨fun i => newR k mode i 0 (wfXs k b0), fun _ => 0, (wfXs k b0)⟩ w) := by
  have HBD := Lib.hid hb
  have HK := Lib.hid hk
  have hk1 : (1 : Int) ≤ k := by omega
  have hk2 : (k : Int) ≤ 64 := by omega
  have hk3 : k ≤ 64 := by omega
  clear hb hk
  have hmk := fun W => run_make_row' (P := Try.prog) 23 3 (.int .i64 0) 8 Try.underlying23 infoI rfl .i64 .i64 k (by omega) (by omega) W
  go_enter Try.func12, Try.ntmps12
  go_wp2_with fail
  refine (first_wf k b0 _ HK.out HBD.out).mono ?_
  rintro e w1 ⟨gf, rfl, hg, hH, hO⟩
  have HH := Lib.hid hH
  have HO := Lib.hid hO
  clear hg hH hO
  go_wp2_with fail
  refine (from_ok _ _ _ _ _ (by omega) HH.out).mono ?_
  rintro e w2 ⟨b, A', c', rfl, hb, hA, hM, hO⟩
  have HM : Hid (Made w b A' c' _ w2) := Lib.hid ⟨hM, fun j hj => Nat.le_trans HO.out.size (hA j hj), HO.out.trans hO⟩
  clear hb hA hM hO HO HH
  have e1 := (Only.refl Nil w2).alloc (.cells (madeCells #[.int .i64 0] k) 3)
  have e2 := e1.alloc (.cells #[.slice none 0 0, .slice (some ⟨w2.heap.size, 0, none⟩) k k] 49)
  have HI0 : Hid (BegunI w (w2.heap.size + 1) w2.heap.size b A' c' k mode (wfXs k b0) 0 ((w2.alloc (.cells (madeCells #[.int .i64 0] k) 3)).alloc (.cells #[.slice none 0 0, .slice (some ⟨w2.heap.size, 0, none⟩) k k] 49))) :=
    Lib.hid ⟨⟨_, [], Row.new2 w2 _ _ _, ownP_nil _ _, rfl, fun i b' h => by simp at h, fun i i' b' h => by simp at h⟩, ⟨_, (Row.new w2 _ _).alloc _, fun i hi => made_zero k i hi⟩, ⟨HM.out.mem.only e2 id (fun _ _ => id), HM.out.new, HM.out.only.trans e2⟩, HM.out.only.size, Nat.le_trans HM.out.only.size (Nat.le_succ _)⟩
  clear e1 e2 HM
  go_upto_region 7 with (fail)
  generalize (w2.alloc (.cells (madeCells #[.int .i64 0] k) 3)).alloc (.cells #[.slice none 0 0, .slice (some ⟨w2.heap.size, 0, none⟩) k k] 49) = w3 at *
  generalize w2.heap.size + 1 = X at *
  generalize w2.heap.size = GH at *
  clear hmk
  go_loopw [12] (fun iv wr => ∃ j : Nat, j ≤ k ∧ iv = .int .i64 j ∧ BegunI w X GH b A' c' k mode (wfXs k b0) j wr) (fun iv _ => k - (intOf iv).toNat)
  case atStart => exact ⟨0, Nat.zero_le _, rfl, HI0.out⟩
  case round =>
    obtain ⟨j, hj, rfl, hI⟩ := hrel
    clear HI0
    obtain ⟨lv, bs, hx, hown, hlen, hruns, hinj⟩ := hI.x
    have HI := Lib.hid hI
    have HX := Lib.hid hx
    have HOW := Lib.hid hown
    have HLN := Lib.hid hlen
    have HRU := Lib.hid hruns
    have HIN := Lib.hid hinj
    clear hI hlen hruns hinj
    by_cases hlt : j < k
    · obtain ⟨A9, n9, c9, rfl⟩ := ownP_form hown
      have cx : wr.cell? ⟨X, 0, none⟩ = some (.slice A9 n9 c9) := hx.cell_ (i := 0) rfl
      clear hx hown
      have e1 := (Only.refl Nil wr).alloc (.cells (newCells (some ⟨b, 0, none⟩) k mode j 0) 61)
      have e2 := e1.alloc (.cells #[.pointer (some ⟨wr.heap.size, 0, none⟩)] 62)
      have HE2 := Lib.hid e2
      have HRN := Lib.hid ((Row.new wr 61 (newCells (some ⟨b, 0, none⟩) k mode j 0)).alloc (.cells #[.pointer (some ⟨wr.heap.size, 0, none⟩)] 62))
      have HPN := Lib.hid (Row.new2 wr (.cells (newCells (some ⟨b, 0, none⟩) k mode j 0) 61) 62 #[.pointer (some ⟨wr.heap.size, 0, none⟩)])
      have HBASE := Lib.hid (Nat.le_trans HI.out.made.only.size e2.size)
      clear e1 e2
      unfold newCells at HE2 HRN HPN HBASE
      go_wp2_with (at_builtin; refine wp_appP rfl (.tmp 43) (.tmp 51) rfl w.heap.size _ bs (by rfl) (own_only HOW.out HE2.out (fun _ _ => id)) (wr.heap.size + 1) wr.heap.size (by rfl) HPN.out (by have := HLN.out; omega) HBASE.out ?_)
      intro v' w5 hown5 hO5
      obtain ⟨A8, n8, c8, rfl⟩ := ownP_form hown5
      clear cx
      have HX5 := Lib.hid ((HX.out.only HE2.out id).only hO5 (fun e => by
        obtain ⟨cur, hc⟩ := ownP_tag HOW.out e
        exact row_ne HX.out hc (by decide) rfl))
      have HFAR := Lib.hid (show ∀ (g : Nat) (t : TypeId) (cs : Array Value), Row wr g t cs → t ≠ 62 → Row w5 g t cs from fun g t cs hr ht => (hr.only HE2.out id).only hO5 (fun e => by
        obtain ⟨cur, hc⟩ := ownP_tag HOW.out e
        exact row_ne hr hc ht rfl))
      have HRN5 := Lib.hid (HRN.out.only hO5 (fun e => by
        have := (World.ownsRow.lt HOW.out _ e).2
        omega))
      have HM5 : Hid (Made w b A' c' (wfXs k b0) w5) := Lib.hid ⟨(HI.out.made.mem.only HE2.out id (fun _ _ => id)).only hO5 (fun e => by
          obtain ⟨cur, hc⟩ := ownP_tag HOW.out e
          exact row_ne HI.out.made.mem.hdr hc (by decide) rfl) (fun i hi e => by
          obtain ⟨cur, hc⟩ := ownP_tag HOW.out e
          exact memo_not (Memo.of HI.out.made.mem) hc (by decide) (by decide) (.inr hi)), HI.out.made.new, (HI.out.made.only.trans HE2.out).step hO5 (fun i hi e => by
          have := (World.ownsRow.lt HOW.out _ e).1
          omega)⟩
      have HOW5 := Lib.hid hown5
      have HWS := Lib.hid (show wr.heap.size < w5.heap.size from by
        have h1 := hO5.size
        have h2 : wr.heap.size < ((wr.alloc (.cells #[.pointer (some ⟨b, 0, none⟩), .int .i64 k, .int .i64 mode, .int .i64 j, .int .i64 0, .int .i64 0, .int .u32 0, .int .u32 0, .int .i64 0, .bool false, .int .i64 0, .int .i64 0, .bool false, .int .i64 0, .int .i64 0, .int .i64 0, .int .u32 0, .int .u32 0, .int .u32 0, .slice none 0 0] 61)).alloc (.cells #[.pointer (some ⟨wr.heap.size, 0, none⟩)] 62)).heap.size := by simp; omega
        omega)
      have y0 : w5.cell? ⟨X, 0, none⟩ = some (.slice A9 n9 c9) := HX5.out.cell_ (i := 0) rfl
      have yf : w5.frozen? ⟨X, 0, none⟩ = false := HX5.out.frozen 0
      clear hown5 hO5
      go_wp2
      clear y0 yf
      have HO6 := Lib.hid ((Only.refl (· = X) w5).setCell (p := ⟨X, 0, none⟩) (.inr rfl) (.slice A8 n8 c8))
      have hI' : BegunI w X GH b A' c' k mode (wfXs k b0) (j + 1) (w5.setCell ⟨X, 0, none⟩ (.slice A8 n8 c8)) := by
        refine ⟨⟨.slice A8 n8 c8, bs ++ [wr.heap.size], HX5.out.set 0 (.slice A8 n8 c8), own_only HOW5.out HO6.out (fun i hi e => ?_), by rw [List.length_append, HLN.out]; rfl, fun i b' hb' => ?_, fun i i' b' h1 h2 => ?_⟩, ?_, ⟨HM5.out.mem.only HO6.out (fun e => row_ne HM5.out.mem.hdr HX5.out (by decide) e) (fun i hi e => memo_not (Memo.of HM5.out.mem) HX5.out (by decide) (by decide) (by subst e; exact .inr hi)), HM5.out.new, HM5.out.only.setCell (.inl HI.out.xb) _⟩, HI.out.gh, HI.out.xb⟩
        · obtain ⟨cur, hc⟩ := ownP_tag HOW5.out hi
          exact row_ne hc HX5.out (by decide) e
        · by_cases hi : i < bs.length
          · rw [List.getElem?_append_left hi] at hb'
            obtain ⟨hr, hb0⟩ := HRU.out i b' hb'
            exact ⟨(HFAR.out _ _ _ hr (by decide)).only HO6.out (fun e => row_ne (HFAR.out _ _ _ hr (by decide)) HX5.out (by decide) e), hb0⟩
          · rw [List.getElem?_append_right (by omega)] at hb'
            have hij : i = bs.length := by
              by_cases e : i = bs.length
              · exact e
              · rw [List.getElem?_eq_none (by simp; omega)] at hb'
                cases hb'
            subst hij
            simp only [Nat.sub_self, List.getElem?_cons_zero, Option.some.injEq] at hb'
            subst hb'
            rw [HLN.out]
            exact ⟨HRN5.out.only HO6.out (fun e => row_ne HRN5.out HX5.out (by decide) e), HI.out.made.only.size⟩
        · have hlt1 : ∀ (q : Nat), bs[q]? = some b' → b' < wr.heap.size := fun q hq => (HRU.out q b' hq).1.lt
          by_cases hi : i < bs.length
          · by_cases hi' : i' < bs.length
            · rw [List.getElem?_append_left hi] at h1
              rw [List.getElem?_append_left hi'] at h2
              exact HIN.out i i' b' h1 h2
            · rw [List.getElem?_append_left hi] at h1
              have := hlt1 i h1
              rw [List.getElem?_append_right (by omega)] at h2
              have := List.mem_of_getElem? h2
              simp only [List.mem_cons, List.not_mem_nil, or_false] at this
              omega
          · by_cases hi' : i' < bs.length
            · rw [List.getElem?_append_left hi'] at h2
              have := hlt1 i' h2
              rw [List.getElem?_append_right (by omega)] at h1
              have := List.mem_of_getElem? h1
              simp only [List.mem_cons, List.not_mem_nil, or_false] at this
              omega
            · have l1 := (List.getElem?_eq_some_iff.1 h1).1
              have l2 := (List.getElem?_eq_some_iff.1 h2).1
              rw [List.length_append] at l1 l2
              simp only [List.length_cons, List.length_nil] at l1 l2
              omega
        · obtain ⟨cs, hc, hz⟩ := HI.out.h
          exact ⟨cs, (HFAR.out _ _ _ hc (by decide)).only HO6.out (fun e => row_ne (HFAR.out _ _ _ hc (by decide)) HX5.out (by decide) e), hz⟩
      go_roundw
      case rel => exact ⟨j + 1, by omega, by go_num, hI'⟩
      case measure => simp [intOf]; omega
    · obtain rfl : j = k := by omega
      clear hx hown
      go_wp2
      go_ret
      rcases HOW.out.2 with ⟨_, hn⟩ | ⟨g, cap, cur, rfl, hb, hg, hc, hm, hsz, ht⟩
      · have := HLN.out; have := HK.out; omega
      · have hcur : ∀ i, i < j → cur[i]? = some (.pointer (some ⟨bs.getD i 0, 0, none⟩)) := fun i hi => by
          have e1 : (cur.toList.take (bs.length * 1))[i]? = (bs.map fun b => Value.pointer (some ⟨b, 0, none⟩))[i]? := by rw [ht]
          have hib : i < bs.length := by rw [HLN.out]; exact hi
          rw [List.getElem?_take, if_pos (by omega), List.getElem?_map, List.getElem?_eq_getElem hib] at e1
          simp only [Option.map_some, Array.getElem?_toList] at e1
          rw [e1]
          simp [List.getD, List.getElem?_eq_getElem hib]
        have hget : ∀ i, i < j → bs[i]? = some (bs.getD i 0) := fun i hi => by
          have hib : i < bs.length := by rw [HLN.out]; exact hi
          simp [List.getD, List.getElem?_eq_getElem hib]
        have hX := HX.out
        rw [HLN.out] at hX
        refine ⟨X, g, GH, fun i => bs.getD i 0, some ⟨b, 0, none⟩, A', c', rfl, ⟨⟨cap, hX⟩, ⟨cur, hg, hcur⟩, HI.out.h, fun i hi => ⟨.slice none 0 0, (HRU.out i _ (hget i hi)).1, Memo.of HI.out.made.mem⟩, fun i i' hi hi' e => ?_, Memo.of HI.out.made.mem, (wf_words HBD.out.1), HI.out.made.only, ?_, fun x hx => by simp at hx, fun x hx => by simp at hx, fun i hi => ⟨Int.le_refl _, by show (0 : Int) < _; decide⟩⟩⟩
        · have h1 := hget i hi
          have h2 := hget i' hi'
          rw [← e] at h2
          exact HIN.out i i' _ h1 h2
        · rintro q (rfl | h | ⟨i, hi, rfl⟩)
          · exact HI.out.gh
          · exact HI.out.made.new q h
          · exact (HRU.out i _ (hget i hi)).2
end Go.Proofs.Ytaeninikaalkjaa
set_option linter.unusedVariables false
set_option linter.unusedSimpArgs false
namespace Go.Proofs.Ytaeninikaalkjaa
theorem fin_no {R : LS} (h : Int) (e : R.ret = 0) : R.finR = R ∧ R.finH h = h := by
  have ho : R.over = false := by unfold LS.over; rw [e]; rfl
  unfold LS.finR LS.finH; rw [ho]; exact ⟨rfl, rfl⟩
theorem fin_on {R : LS} (h : Int) (e : R.k.on = true) : R.finR = R ∧ R.finH h = h := by
  have ho : R.over = false := by unfold LS.over; rw [e]; simp
  unfold LS.finR LS.finH; rw [ho]; exact ⟨rfl, rfl⟩
theorem fin_yes {R : LS} (h : Int) (e : R.ret ≠ 0) (e2 : R.k.on = false) : R.finR = zeroF R 0 ∧ R.finH h = behindI R.op R.ret h := by
  have ho : R.over = true := by unfold LS.over; rw [e2]; simpa using e
  unfold LS.finR LS.finH; rw [ho]; exact ⟨rfl, rfl⟩
def wi (b : Int) (n : Nat) (β : Int) : Int := (256 * (b + n) + β) % 4294967296
end Go.Proofs.Ytaeninikaalkjaa
