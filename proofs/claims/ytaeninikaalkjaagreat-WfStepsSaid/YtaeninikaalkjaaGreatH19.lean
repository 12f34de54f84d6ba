import Derived.Test.YtaeninikaalkjaaGreatH17
import Derived.Test.YtaeninikaalkjaaGreatH16
import Derived.Test.YtaeninikaalkjaaGreatH18
set_option linter.unusedVariables false
set_option linter.unusedSimpArgs false
namespace Go.Proofs.YtaeninikaalkjaaGreat
open Go.RowKit
theorem word_bd {xs : List Int} (h : Words xs) (c : Int) : 0 ≤ wordAt xs c ∧ wordAt xs c < 4294967296 := word_wf h c
theorem doNew_wordsK {xs : List Int} (h : Words xs) (k c x y : Int) (hl : 0 ≤ leftOf k x y (wordAt xs c) ∧ leftOf k x y (wordAt xs c) < 4294967296) : Words (doNew xs k c x y) := by
  unfold doNew
  split
  · intro n hn
    rcases List.mem_or_eq_of_mem_set hn with hn | rfl
    · exact h n hn
    · exact wf_mk hl.1 hl.2
  · exact h
theorem wake_wordsK {xs : List Int} (h : Words xs) (n : Int) (on : Bool) (c i : Int) (hit : Bool) : Words (wakeI xs n on c i hit).xs := by
  unfold wakeI giveI lookI restI
  repeat' split
  all_goals first | exact h | exact h.st _ (by omega) (by omega)
theorem wake_lenK (xs : List Int) (n : Int) (on : Bool) (c i : Int) (hit : Bool) : (wakeI xs n on c i hit).xs.length = xs.length := by
  unfold wakeI giveI lookI restI
  repeat' split
  all_goals first | rfl | exact st_len _ _ _
structure LS.Good (r r' : LS) (m : Nat) : Prop where
  n : r'.n = r.n
  mode : r'.mode = r.mode
  task : r'.task = r.task
  op : r'.op = r.op
  len : r'.xs.length = r.xs.length
  words : Words r.xs → Words r'.xs
  notes : r'.ns.length ≤ r.ns.length + m
section
variable {r : LS}
theorem good_refl (r : LS) : r.Good r 0 := ⟨rfl, rfl, rfl, rfl, rfl, id, Nat.le_refl _⟩
theorem LS.Good.trans {r r' r'' : LS} {m m' : Nat} (h : r.Good r' m) (k : r'.Good r'' m') : r.Good r'' (m + m') :=
  ⟨k.n.trans h.n, k.mode.trans h.mode, k.task.trans h.task, k.op.trans h.op, k.len.trans h.len, k.words ∘ h.words, by have := h.notes; have := k.notes; omega⟩
theorem LS.Good.le {r r' : LS} {m m' : Nat} (h : r.Good r' m) (hm : m ≤ m') : r.Good r' m' := ⟨h.n, h.mode, h.task, h.op, h.len, h.words, by have := h.notes; omega⟩
theorem good_do {k c x y : Int} (hl : Words r.xs → 0 ≤ leftOf k x y (wordAt r.xs c) ∧ leftOf k x y (wordAt r.xs c) < 4294967296) : r.Good (r.doA k c x y) 0 := ⟨rfl, rfl, rfl, rfl, doNew_len _ _ _ _ _, fun h => doNew_wordsK h _ _ _ _ (hl h), Nat.le_refl _⟩
theorem good_load (c : Int) : r.Good (r.doA 1 c 0 0) 0 := good_do (fun h => word_bd h c)
theorem good_add (c x : Int) : r.Good (r.doA 3 c x 0) 0 := good_do (fun h => by show 0 ≤ (x + wordAt r.xs c) % 4294967296 ∧ (x + wordAt r.xs c) % 4294967296 < 4294967296; omega)
theorem good_cas (c x y : Int) (hy : 0 ≤ y ∧ y < 4294967296) : r.Good (r.doA 5 c x y) 0 := good_do (fun h => by
  show 0 ≤ (if wordAt r.xs c = x then y else wordAt r.xs c) ∧ (if wordAt r.xs c = x then y else wordAt r.xs c) < 4294967296
  split
  · exact hy
  · exact word_bd h c)
theorem good_note (what arg : Int) : r.Good (r.note what arg) 1 := ⟨rfl, rfl, rfl, rfl, rfl, id, by simp [LS.note]⟩
theorem good_go (l : Int) : r.Good (r.go l) 0 := ⟨rfl, rfl, rfl, rfl, rfl, id, Nat.le_refl _⟩
theorem good_fin (b : Bool) : r.Good (r.fin b) 0 := ⟨rfl, rfl, rfl, rfl, rfl, id, Nat.le_refl _⟩
theorem good_wake (c : Int) : r.Good (r.wake c) 0 := ⟨rfl, rfl, rfl, rfl, rfl, id, Nat.le_refl _⟩
theorem good_keepA (v : Int) : r.Good (r.keepA v) 0 := ⟨rfl, rfl, rfl, rfl, rfl, id, Nat.le_refl _⟩
theorem good_wait (c : Int) (q : Int → Bool) : r.Good (r.wait c q) 0 := ⟨rfl, rfl, rfl, rfl, step_len _ _ _ _ _ _ _, fun h => Words.step h _ _ _ _ _ _, Nat.le_refl _⟩
theorem good_fresh : r.Good r.fresh 0 := ⟨rfl, rfl, rfl, rfl, rfl, id, Nat.zero_le _⟩
theorem good_waking : r.Good r.waking 0 := ⟨rfl, rfl, rfl, rfl, wake_lenK _ _ _ _ _ _, fun h => wake_wordsK h _ _ _ _ _, Nat.zero_le _⟩
theorem good_noteIf (b : Bool) (what : Int) : r.Good (r.noteIf b what) 1 := by
  cases b
  · exact (good_refl r).le (by decide)
  · exact good_note _ _
theorem good_next {L : LS → LS} (hL : ∀ r : LS, r.Good (L r) 2) (r : LS) : r.Good (r.next L) 2 ∧ (r.next L).ns.length ≤ 2 := by
  unfold LS.next
  split
  · exact ⟨good_waking.le (by decide), Nat.zero_le _⟩
  · exact ⟨(good_fresh.trans (hL r.fresh)).le (by decide), Nat.le_trans (hL r.fresh).notes (by simp [LS.fresh])⟩
end
end Go.Proofs.YtaeninikaalkjaaGreat
set_option linter.unusedVariables false
set_option linter.unusedSimpArgs false
namespace Go.Proofs.YtaeninikaalkjaaGreat
open Go.RowKit
structure LS.WB (r : LS) : Prop where
  words : Words r.xs
  a : 0 ≤ r.a ∧ r.a < 4294967296
  b : 0 ≤ r.b ∧ r.b < 4294967296
end Go.Proofs.YtaeninikaalkjaaGreat
set_option linter.unusedVariables false
set_option linter.unusedSimpArgs false
namespace Go.Proofs.YtaeninikaalkjaaGreat
open Go.RowKit
section
variable {r : LS}
def LS.Keep (r r' : LS) (m : Nat) : Prop := r.Good r' m ∧ (r'.a = r.a ∨ ∃ c, r'.a = wordAt r.xs c)
theorem LS.Keep.ab {r r' : LS} {m : Nat} (h : r.Keep r' m) (hx : Words r.xs) (ha : 0 ≤ r.a ∧ r.a < 4294967296) : Words r'.xs ∧ 0 ≤ r'.a ∧ r'.a < 4294967296 := by
  refine ⟨h.1.words hx, ?_⟩
  rcases h.2 with e | ⟨c, e⟩
  · rw [e]; exact ha
  · rw [e]; exact word_bd hx c
end
end Go.Proofs.YtaeninikaalkjaaGreat
set_option linter.unusedVariables false
set_option linter.unusedSimpArgs false
namespace Go.Proofs.YtaeninikaalkjaaGreat
open Go.RowKit
section
variable {r : LS}
theorem LS.Keep.le {r' : LS} {m m' : Nat} (h : r.Keep r' m) (hm : m ≤ m') : r.Keep r' m' := ⟨h.1.le hm, h.2⟩
theorem LS.Keep.next {r' r'' : LS} {m m' : Nat} (h : r.Keep r' m) (g : r'.Good r'' m') (ha : r''.a = r'.a) : r.Keep r'' (m + m') := ⟨h.1.trans g, by rw [ha]; exact h.2⟩
theorem keep_self {r' : LS} {m : Nat} (g : r.Good r' m) (ha : r'.a = r.a) : r.Keep r' m := ⟨g, .inl ha⟩
end
end Go.Proofs.YtaeninikaalkjaaGreat
set_option linter.unusedVariables false
set_option linter.unusedSimpArgs false
namespace Go.Proofs.YtaeninikaalkjaaGreat
open Go.RowKit
section
variable {r : LS}
theorem keep_at {r' : LS} {m : Nat} (g : r.Good r' m) (c : Int) (ha : r'.a = wordAt r.xs c) : r.Keep r' m := ⟨g, .inr ⟨c, ha⟩⟩
theorem keep_look (ok : Bool) : r.Keep (r.fLook ok) 2 := by
  unfold LS.fLook
  split
  · exact keep_at (((good_load _).trans (good_keepA _)).trans (good_go _) |>.le (by decide)) 0 rfl
  · exact keep_at ((((good_load _).trans (good_keepA _)).trans (good_note _ _)).trans (good_fin false) |>.le (by decide)) 0 rfl
theorem keep_cas (x y : Int) (hy : 0 ≤ y ∧ y < 4294967296) : r.Keep (r.doA 5 0 x y) 0 := ⟨good_cas 0 x y hy, .inl rfl⟩
end
end Go.Proofs.YtaeninikaalkjaaGreat
set_option linter.unusedVariables false
set_option linter.unusedSimpArgs false
set_option linter.unusedSectionVars false
namespace Go.Proofs.YtaeninikaalkjaaGreat
open Go.RowKit
structure SW (k : Nat) (v : Int) (xs : List Int) : Prop where
  len : xs.length = 8 + 4 * k
  x : wordAt xs 0 = v
  w : ∀ i, i < k → wordAt xs (wc k i) = 0
structure RS (k t : Nat) (mode op line ret : Int) (K : WkV) (v : Int) (r : LS) : Prop where
  n : r.n = k
  mode : r.mode = mode
  task : r.task = t
  op : r.op = op
  line : r.line = line
  ret : r.ret = ret
  s : r.s = 0
  kk : r.k = K
  w : SW k v r.xs
section
variable {k t : Nat} {mode op line ret v x : Int} {K : WkV} {xs : List Int} {r R : LS}
theorem SW.th (h : SW k v xs) {d : Int} (h0 : 0 ≤ d) (h1 : d < 8 + 4 * k) : there xs d = true := there_lk h.len h0 h1
theorem SW.nw (h : SW k v xs) (hk : k ≤ 64) : NoWatch k xs := fun i hi => ⟨h.th (by rw [wc_at hk hi]; omega) (by rw [wc_at hk hi]; omega), h.w i hi⟩
theorem SW.set (h : SW k v xs) (hk : k ≤ 64) (x : Int) : SW k x (st xs 0 x) :=
  ⟨(st_len _ _ _).trans h.len, by rw [word_st, if_pos (h.th (by omega) (by omega))], fun i hi => by rw [word_far _ (by rw [wc_at hk hi]; omega)]; exact h.w i hi⟩
theorem SW.do (h : SW k v xs) (hk : k ≤ 64) (K x y : Int) (hK : isKind K = true := by rfl) : SW k (leftOf K x y v) (doNew xs K 0 x y) := by
  rw [doNew_st _ _ _ _ _ hK, h.x]; exact h.set hk _
theorem RS.fresh (h : RS k t mode op line ret K v r) : RS k t mode op line ret K v r.fresh := ⟨h.n, h.mode, h.task, h.op, h.line, h.ret, h.s, h.kk, h.w⟩
theorem RS.at0 (h : RS k t mode op line ret K v r) (x : Int) : r.at0 x = (v == x) := by unfold LS.at0; rw [h.w.th (by omega) (by omega), h.w.x, Bool.true_and]
theorem doA_fs (r : LS) (K c x y : Int) : (r.doA K c x y).n = r.n ∧ (r.doA K c x y).mode = r.mode ∧ (r.doA K c x y).task = r.task ∧ (r.doA K c x y).op = r.op ∧ (r.doA K c x y).line = r.line ∧ (r.doA K c x y).ret = r.ret ∧ (r.doA K c x y).s = r.s ∧ (r.doA K c x y).k = r.k ∧ (r.doA K c x y).xs = doNew r.xs K c x y := ⟨rfl, rfl, rfl, rfl, rfl, rfl, rfl, rfl, rfl⟩
variable (hk : 1 ≤ k ∧ k ≤ 64)
include hk
theorem RS.do {K : Int} (h : RS k t mode op line 0 wk0 v r) (x y : Int) (hK : isKind K = true) : RS k t mode op line 0 wk0 (leftOf K x y v) (r.doA K 0 x y) := by
  obtain ⟨f1, f2, f3, f4, f5, f6, f7, f8, f9⟩ := doA_fs r K 0 x y
  have hw := h.w.do hk.2 K x y hK
  rw [← f9] at hw
  generalize r.doA K 0 x y = R0 at *
  exact ⟨f1.trans h.n, f2.trans h.mode, f3.trans h.task, f4.trans h.op, f5.trans h.line, f6.trans h.ret, f7.trans h.s, f8.trans h.kk, hw⟩
theorem RS.go {R : LS} (h : RS k t mode op line 0 wk0 v R) (l : Int) : RS k t mode op l 0 wk0 v (R.go l) := ⟨h.n, h.mode, h.task, h.op, rfl, h.ret, h.s, h.kk, h.w⟩
theorem RS.note {R : LS} (h : RS k t mode op line 0 wk0 v R) (w a : Int) : RS k t mode op line 0 wk0 v (R.note w a) := ⟨h.n, h.mode, h.task, h.op, h.line, h.ret, h.s, h.kk, h.w⟩
theorem RS.keepA {R : LS} (h : RS k t mode op line 0 wk0 v R) (a : Int) : RS k t mode op line 0 wk0 v (R.keepA a) := ⟨h.n, h.mode, h.task, h.op, h.line, h.ret, h.s, h.kk, h.w⟩
theorem RS.fin {R : LS} (h : RS k t mode op line 0 K v R) (ok : Bool) : RS k t mode op line (if ok then 2 else 1) K v (R.fin ok) := ⟨h.n, h.mode, h.task, h.op, h.line, rfl, h.s, h.kk, h.w⟩
theorem RS.wake {R : LS} (h : RS k t mode op line 0 wk0 v R) : RS k t mode op line 0 (beginI mode 0) v (R.wake 0) := ⟨h.n, h.mode, h.task, h.op, h.line, h.ret, h.s, by show beginI R.mode 0 = _; rw [h.mode], h.w⟩
end
section
variable {chk : LS → Bool} {k t m : Nat} {mode op line ret op' line' v v' : Int} {r : LS}
def EndS (chk : LS → Bool) (k m : Nat) (r : LS) (ret v : Int) : Prop := ∃ xs, aloneG chk LS.rf m r = (ret, xs) ∧ SW k v xs
theorem nexts_off (h : RS k t mode op line ret wk0 v r) : r.next LS.rf = r.fresh.rf := by
  unfold LS.next
  rw [h.kk, if_neg (by show ¬ false = true; decide)]
theorem EndS.on (hk0 : Chk chk) (h : RS k t mode op line 0 wk0 v r) (g : RS k t mode op' line' 0 wk0 v' r.fresh.rf) {re V : Int} (e : EndS chk k m r.fresh.rf re V) : EndS chk k (m + 1) r re V := by
  obtain ⟨xs, e1, e2⟩ := e
  refine ⟨xs, ?_, e2⟩
  rw [alone_on hk0 h.s (by rw [nexts_off h]; unfold LS.over; rw [g.ret]; rfl), nexts_off h]
  exact e1
theorem EndS.done (hk0 : Chk chk) (hk : 1 ≤ k ∧ k ≤ 64) (h : RS k t mode op line 0 wk0 v r) (g : RS k t mode op' line' ret (beginI mode 0) v' r.fresh.rf) (hr : ret ≠ 0) (hm : k < m) : EndS chk k m r ret v' :=
  ⟨_, by
    rw [alone_doneQ hk0 hk (c := 0) (by decide) (nexts_off h) g.n (g.w.nw hk.2) g.kk (by rw [g.ret]; exact hr) h.s g.s hm, g.ret], g.w⟩
variable (hk0 : Chk chk) (hk : 1 ≤ k ∧ k ≤ 64)
include hk0 hk
end
def valR (s : Nat) : Int := match s with | 1 => 1 | 2 => 65536 | 3 => 2 | _ => 0
structure StS (k s : Nat) (xs : List Int) : Prop where
  w : SW k (valR s) xs
section
variable {chk : LS → Bool} {k m : Nat} {mode op v : Int} {xs : List Int}
theorem EndS.st {r : LS} {ret : Int} {s' : Nat} {v : Int} (e : EndS chk k m r ret v) (hv : v = valR s') : ∃ ys, aloneG chk LS.rf m r = (ret, ys) ∧ StS k s' ys := by
  obtain ⟨ys, e1, e2⟩ := e
  exact ⟨ys, e1, ⟨by rw [← hv]; exact e2⟩⟩
end
end Go.Proofs.YtaeninikaalkjaaGreat
set_option linter.unusedVariables false
set_option linter.unusedSimpArgs false
namespace Go.Proofs.YtaeninikaalkjaaGreat
open Go.RowKit
end Go.Proofs.YtaeninikaalkjaaGreat
