import Derived.Test.YtaifeejciglkpaaMF3
set_option linter.unusedVariables false
set_option linter.unusedSimpArgs false
namespace Go.Proofs.Ytaifeejciglkpaa
theorem step_facts {xs : List Int} {n mode i s c : Int} {q : Int → Bool} : ((stepI xs n mode i s c q).done = true → ((stepI xs n mode i s c q).seen = true ∧ q (wordAt xs c) = true) ∨ (s = 4 ∧ (stepI xs n mode i s c q).seen = false)) ∧ ((stepI xs n mode i s c q).next = 4 → (stepI xs n mode i s c q).seen = true ∧ q (wordAt xs c) = true) := by
  by_cases hm : mode = 2
  · subst hm
    by_cases h1 : s = 1
    · subst h1; rw [stepI_1]; exact ⟨fun h => (by cases h), fun h => (by cases h)⟩
    by_cases h2 : s = 2
    · subst h2; rw [stepI_2]
      refine ⟨fun h => (by cases h), fun h => ?_⟩
      cases hq : q (wordAt xs c)
      · simp [hq] at h
      · exact ⟨rfl, rfl⟩
    by_cases h3 : s = 3
    · subst h3; rw [stepI_3]
      refine ⟨fun h => (by cases h), fun h => ?_⟩
      simp only at h
      split at h <;> cases h
    by_cases h4 : s = 4
    · subst h4; rw [stepI_4]; exact ⟨fun _ => .inr ⟨rfl, rfl⟩, fun h => (by cases h)⟩
    · rw [stepI_0 h1 h2 h3 h4]
      refine ⟨fun h => .inl ⟨h, h⟩, fun h => ?_⟩
      simp only at h
      split at h <;> cases h
  · rw [stepI_spin hm]; exact ⟨fun h => .inl ⟨h, h⟩, fun h => (by cases h)⟩
section
variable {k m t : Nat} {mode : Int} {q : Nat → Nat} {s : QS} {g : GV} {R : LS}
theorem pick_isin (h1 : g.stt t = 1) : g.pick t = some ⟨upd g.rs t (zeroL (g.rs t) 6), upd g.stt t 2, g.times, g.order, -1, g.xs⟩ := by
  unfold GV.pick
  rw [if_pos h1]
theorem pick_plain (h1 : g.stt t ≠ 1) (h3 : g.stt t ≠ 3) (hp : (g.at t).mxStep (g.stt t) = (R, false)) : g.pick t = some ⟨upd g.rs t R, upd g.stt t (g.stt t), g.times, g.order ++ regs R t, g.ins, R.xs⟩ := by
  unfold GV.pick
  rw [if_neg h1, hp, if_neg (fun e => by cases e.1), if_neg (fun e => by cases e), upd_self]
  unfold GV.rest GV.after
  rw [if_neg (fun e => h3 e.1)]
theorem pick_in (h0 : g.stt t = 0) (hp : (g.at t).mxStep (g.stt t) = (R, true)) {os : List Int} (ho : g.order ++ regs R t = (t : Int) :: os) (hi : g.ins < 0) : g.pick t = some ⟨upd g.rs t (zeroL R 0), upd g.stt t 1, upd g.times t (g.times t + 1), os, t, R.xs⟩ := by
  unfold GV.pick
  rw [if_neg (by omega), hp, if_pos ⟨rfl, h0⟩, show (g.after t (R, true)).order = (t : Int) :: os from ho]
  dsimp only
  rw [if_neg (by omega)]
  rfl
theorem pick_out (h2 : g.stt t = 2) (hp : (g.at t).mxStep (g.stt t) = (R, true)) (hr : regs R t = []) : g.pick t = some (if R.k.on = false then ⟨upd g.rs t (zeroL R 0), upd g.stt t 0, g.times, g.order, g.ins, R.xs⟩ else ⟨upd g.rs t R, upd g.stt t 3, g.times, g.order, g.ins, R.xs⟩) := by
  unfold GV.pick
  rw [if_neg (by omega), hp, if_neg (by omega), if_pos rfl]
  unfold GV.rest GV.after
  simp only [upd_same, upd_upd, hr, List.append_nil, true_and]
theorem pick_given (h3 : g.stt t = 3) (hp : (g.at t).mxStep (g.stt t) = (R, false)) (hr : regs R t = []) : g.pick t = some (if R.k.on = false then ⟨upd g.rs t (zeroL R 0), upd g.stt t 0, g.times, g.order, g.ins, R.xs⟩ else ⟨upd g.rs t R, upd g.stt t 3, g.times, g.order, g.ins, R.xs⟩) := by
  unfold GV.pick
  rw [if_neg (by omega), hp, if_neg (by omega), if_neg (fun e => by cases e)]
  unfold GV.rest GV.after
  simp only [upd_same, upd_upd, hr, List.append_nil, h3, true_and]
  by_cases e : R.k.on = false
  · rw [if_pos e, if_pos e]
  · rw [if_neg e, if_neg e, ← h3, upd_self]
theorem TaskQ.one {i : Nat} {st : Int} {r : LS} (h : TaskQ s i st r) (h1 : st = 1) : s.ph i = 5 := by
  cases h with
  | isIn _ hp => exact hp
  | l0 hs | l1 hs | l2 hs | l3 hs | l4 hs | g6 hs | g7 hs | g8 hs | g9 hs | given hs => omega
theorem MuInv.keepIns (h : MuInv k mode m q s g) (hne : g.stt t ≠ 1) (st' : Int) : 0 ≤ g.ins → ∃ u, u < k ∧ upd g.stt t st' u = 1 := fun h0 => by
  obtain ⟨u, hu, e⟩ := h.ins h0
  exact ⟨u, hu, by rw [upd_other _ _ (fun e2 => hne (by rw [← e2]; exact e))]; exact e⟩
theorem MuInv.nobody (h : MuInv k mode m q s g) (hn : m = 0 ∨ s.ph (q 0) ≠ 5) : g.ins < 0 := by
  by_cases e : g.ins < 0
  · exact e
  · obtain ⟨u, hu, e2⟩ := h.ins (by omega)
    have h5 := (h.tk u hu).one e2
    obtain ⟨hm, e3⟩ := h.qi.first hu h5
    rcases hn with hn | hn
    · omega
    · rw [e3] at hn; exact absurd h5 hn
theorem list_nil {l : List Int} (h : ∀ j : Nat, l[j]? = none) : l = [] := by
  cases l with
  | nil => rfl
  | cons a l => have := h 0; simp at this
theorem list_len {l : List Int} {d m : Nat} {f : Nat → Int} (h : ∀ j : Nat, l[j]? = if j + d < m then some (f (j + d)) else none) (hd : d ≤ m) : l.length = m - d := by
  have h1 := h l.length
  rw [List.getElem?_eq_none (Nat.le_refl _)] at h1
  have h2 := h (m - d)
  rw [if_neg (by omega), List.getElem?_eq_none_iff] at h2
  by_cases e : l.length + d < m
  · rw [if_pos e] at h1; cases h1
  · omega
theorem QInv.ownN (h : QInv k m q s) (ht : t < k) (h0 : s.ph t = 0) (x : Int) : QInv k m q { s with nx := upd s.nx t x } := by
  have := h.own ht h0 x (s.bl t); rwa [upd_self] at this
theorem QInv.ownB (h : QInv k m q s) (ht : t < k) (h0 : s.ph t = 0) (y : Int) : QInv k m q { s with bl := upd s.bl t y } := by
  have := h.own ht h0 (s.nx t) y; rwa [upd_self] at this
structure Leaves (r R : LS) (a : Int) (xs : List Int) (whats : List Int) : Prop where
  n : R.n = r.n
  mode : R.mode = r.mode
  task : R.task = r.task
  s : R.s = r.s
  a : R.a = a
  xs : R.xs = xs
  w : R.ns.map (fun n => n.w) = r.ns.map (fun n => n.w) ++ whats
theorem swapIn_at (r : LS) (tl cl : Int) : Leaves r (r.swapIn tl cl) (wordAt r.xs tl) (doNew r.xs 4 tl r.me 0) [2] ∧ (r.swapIn tl cl).k = r.k := by
  unfold LS.swapIn
  generalize r.me = x
  exact ⟨⟨rfl, rfl, rfl, rfl, rfl, rfl, by simp [LS.note, LS.keepA, LS.doA]⟩, rfl⟩
theorem link_at (r : LS) : Leaves r r.link r.a (doNew r.xs 2 (nc r.n (r.a - 1)) r.me 0) [] ∧ r.link.line = 4 := by
  unfold LS.link
  generalize r.me = x
  generalize nc r.n (r.a - 1) = y
  exact ⟨⟨rfl, rfl, rfl, rfl, rfl, rfl, by simp [LS.go, LS.wake, LS.doA]⟩, rfl⟩
theorem cas_at (r : LS) : Leaves r (r.doA 5 0 r.me 0) r.a (doNew r.xs 5 0 r.me 0) [] ∧ (r.doA 5 0 r.me 0).k = r.k := by
  generalize r.me = x
  exact ⟨⟨rfl, rfl, rfl, rfl, rfl, rfl, by simp [LS.doA]⟩, rfl⟩
theorem note8_at (r : LS) : Leaves r (r.notes [8]) r.a r.xs [8] ∧ (r.notes [8]).k = r.k := ⟨⟨rfl, rfl, rfl, rfl, rfl, rfl, by simp [LS.notes, LS.note]⟩, rfl⟩
theorem handOn_at (r : LS) : Leaves r (r.handOn [8]) r.a (doNew r.xs 2 (bc r.n (r.a - 1)) 0 0) [8] := by
  unfold LS.handOn
  generalize bc r.n (r.a - 1) = y
  exact ⟨rfl, rfl, rfl, rfl, rfl, rfl, by simp [LS.notes, LS.note, LS.wake, LS.doA]⟩
theorem peek_at (r : LS) : Leaves r r.peek (wordAt r.xs (nc r.n r.task)) r.xs [] ∧ r.peek.k = r.k := by
  unfold LS.peek
  generalize nc r.n r.task = y
  refine ⟨⟨rfl, rfl, rfl, rfl, rfl, ?_, by simp [LS.keepA, LS.doA]⟩, rfl⟩
  show doNew r.xs 1 y 0 0 = r.xs
  exact own_load
theorem regs_w {R : LS} {ws : List Int} (h : R.ns.map (fun n => n.w) = ws) (t : Nat) : regs R t = (ws.filter (· == 2)).map (fun _ => (t : Int)) := by
  unfold regs
  rw [← h, List.filter_map, List.map_map]
  rfl
def Kept (k : Nat) (mode : Int) (g : GV) (t : Nat) : Prop := ∃ g' m' q' s', g.pick t = some g' ∧ MuInv k mode m' q' s' g' ∧ ∀ i, g.times i ≤ g'.times i
theorem kept_l0 (hk : k ≤ 64) (h : MuInv k mode m q s g) (ht : t < k) (hs : g.stt t = 0) (ho : (g.rs t).k.on = false) (hl : (g.rs t).line = 0) (hp : s.ph t = 0) (h0 : (g.rs t).s = 0) : Kept k mode g t := by
  obtain ⟨c1, c2, c3⟩ := h.cst t ht
  have same : ∀ i, g.times i ≤ g.times i := fun i => Int.le_refl _
  have more : ∀ i, g.times i ≤ upd g.times t (g.times t + 1) i := fun i => by
    by_cases e : i = t
    · subst e; rw [upd_same]; omega
    · rw [upd_other _ _ e]; omega
  have hfr : ∀ i, i < k → i ≠ t → s.ph i = s.ph i ∧ s.pr i = s.pr i ∧ (s.nx i = s.nx i ∨ (s.nx i = 0 ∧ s.ph i ≠ 0)) ∧ (s.bl i = s.bl i ∨ (s.bl i = 0 ∧ s.ph i ≠ 0)) := fun i _ _ => ⟨rfl, rfl, .inl rfl, .inl rfl⟩
  have hme : (g.at t).fresh.me = (t : Int) + 1 := by
    show ((g.rs t).task + 1) % 4294967296 = _
    rw [c3]; omega
  have hnc : nc (g.at t).fresh.n (g.at t).fresh.task = nc k t := by
    show nc (g.rs t).n (g.rs t).task = _; rw [c1, c3]
  have hbc : bc (g.at t).fresh.n (g.at t).fresh.task = bc k t := by
    show bc (g.rs t).n (g.rs t).task = _; rw [c1, c3]
  have hwk : (g.rs t).k.on = true → WordsQ k (g.at t).waking.xs s.tail s.nx s.bl := fun hon => by
    show WordsQ k (wakeI g.xs (g.rs t).n _ _ _ _).xs _ _ _
    rw [c1]; exact h.ws.wake hk _ _ _ _
  have e : (g.at t).mxStep (g.stt t) = (((g.at t).fresh.doA 2 (nc (g.at t).fresh.n (g.at t).fresh.task) 0 0).go 1, false) := by
    unfold LS.mxStep LS.mxEnter
    rw [if_neg (by rw [show (g.at t).k.on = (g.rs t).k.on from rfl, ho]; exact Bool.false_ne_true), if_pos hs, if_pos (show (g.at t).fresh.line = 0 from hl)]
  refine ⟨_, m, q, { s with nx := upd s.nx t 0 }, pick_plain (by omega) (by omega) e, h.set ⟨c1, c2, c3⟩ (h.qi.ownN ht hp 0) ?_ (.l1 hs ho rfl hp (upd_same _ _ _) h0) (fun i hi hne => ⟨rfl, rfl, .inl (upd_other _ _ hne), .inl rfl⟩) (fun j => ?_) (h.keepIns (by omega) _), same⟩
  · show WordsQ k (doNew g.xs 2 (nc _ _) 0 0) _ _ _
    rw [hnc, doNew_st _ _ _ _ _ rfl]; exact h.ws.setN hk ht 0
  · show (g.order ++ [])[j]? = _
    rw [List.append_nil]; exact h.ord j
theorem kept_l1 (hk : k ≤ 64) (h : MuInv k mode m q s g) (ht : t < k) (hs : g.stt t = 0) (ho : (g.rs t).k.on = false) (hl : (g.rs t).line = 1) (hp : s.ph t = 0) (hn : s.nx t = 0) (h0 : (g.rs t).s = 0) : Kept k mode g t := by
  obtain ⟨c1, c2, c3⟩ := h.cst t ht
  have same : ∀ i, g.times i ≤ g.times i := fun i => Int.le_refl _
  have more : ∀ i, g.times i ≤ upd g.times t (g.times t + 1) i := fun i => by
    by_cases e : i = t
    · subst e; rw [upd_same]; omega
    · rw [upd_other _ _ e]; omega
  have hfr : ∀ i, i < k → i ≠ t → s.ph i = s.ph i ∧ s.pr i = s.pr i ∧ (s.nx i = s.nx i ∨ (s.nx i = 0 ∧ s.ph i ≠ 0)) ∧ (s.bl i = s.bl i ∨ (s.bl i = 0 ∧ s.ph i ≠ 0)) := fun i _ _ => ⟨rfl, rfl, .inl rfl, .inl rfl⟩
  have hme : (g.at t).fresh.me = (t : Int) + 1 := by
    show ((g.rs t).task + 1) % 4294967296 = _
    rw [c3]; omega
  have hnc : nc (g.at t).fresh.n (g.at t).fresh.task = nc k t := by
    show nc (g.rs t).n (g.rs t).task = _; rw [c1, c3]
  have hbc : bc (g.at t).fresh.n (g.at t).fresh.task = bc k t := by
    show bc (g.rs t).n (g.rs t).task = _; rw [c1, c3]
  have hwk : (g.rs t).k.on = true → WordsQ k (g.at t).waking.xs s.tail s.nx s.bl := fun hon => by
    show WordsQ k (wakeI g.xs (g.rs t).n _ _ _ _).xs _ _ _
    rw [c1]; exact h.ws.wake hk _ _ _ _
  have e : (g.at t).mxStep (g.stt t) = (((g.at t).fresh.doA 2 (bc (g.at t).fresh.n (g.at t).fresh.task) 1 0).go 2, false) := by
    unfold LS.mxStep LS.mxEnter
    rw [if_neg (by rw [show (g.at t).k.on = (g.rs t).k.on from rfl, ho]; exact Bool.false_ne_true), if_pos hs, show (g.at t).fresh.line = 1 from hl, if_neg (by decide), if_pos rfl]
  refine ⟨_, m, q, { s with bl := upd s.bl t 1 }, pick_plain (by omega) (by omega) e, h.set ⟨c1, c2, c3⟩ (h.qi.ownB ht hp 1) ?_ (.l2 hs ho rfl hp hn (upd_same _ _ _) h0) (fun i hi hne => ⟨rfl, rfl, .inl rfl, .inl (upd_other _ _ hne)⟩) (fun j => ?_) (h.keepIns (by omega) _), same⟩
  · show WordsQ k (doNew g.xs 2 (bc _ _) 1 0) _ _ _
    rw [hbc, doNew_st _ _ _ _ _ rfl]; exact h.ws.setB hk ht 1
  · show (g.order ++ [])[j]? = _
    rw [List.append_nil]; exact h.ord j
theorem kept_l2 (hk : k ≤ 64) (h : MuInv k mode m q s g) (ht : t < k) (hs : g.stt t = 0) (ho : (g.rs t).k.on = false) (hl : (g.rs t).line = 2) (hp : s.ph t = 0) (hn : s.nx t = 0) (hb : s.bl t = 1) (h0 : (g.rs t).s = 0) : Kept k mode g t := by
  obtain ⟨c1, c2, c3⟩ := h.cst t ht
  have same : ∀ i, g.times i ≤ g.times i := fun i => Int.le_refl _
  have more : ∀ i, g.times i ≤ upd g.times t (g.times t + 1) i := fun i => by
    by_cases e : i = t
    · subst e; rw [upd_same]; omega
    · rw [upd_other _ _ e]; omega
  have hfr : ∀ i, i < k → i ≠ t → s.ph i = s.ph i ∧ s.pr i = s.pr i ∧ (s.nx i = s.nx i ∨ (s.nx i = 0 ∧ s.ph i ≠ 0)) ∧ (s.bl i = s.bl i ∨ (s.bl i = 0 ∧ s.ph i ≠ 0)) := fun i _ _ => ⟨rfl, rfl, .inl rfl, .inl rfl⟩
  have hme : (g.at t).fresh.me = (t : Int) + 1 := by
    show ((g.rs t).task + 1) % 4294967296 = _
    rw [c3]; omega
  have hnc : nc (g.at t).fresh.n (g.at t).fresh.task = nc k t := by
    show nc (g.rs t).n (g.rs t).task = _; rw [c1, c3]
  have hbc : bc (g.at t).fresh.n (g.at t).fresh.task = bc k t := by
    show bc (g.rs t).n (g.rs t).task = _; rw [c1, c3]
  have hwk : (g.rs t).k.on = true → WordsQ k (g.at t).waking.xs s.tail s.nx s.bl := fun hon => by
    show WordsQ k (wakeI g.xs (g.rs t).n _ _ _ _).xs _ _ _
    rw [c1]; exact h.ws.wake hk _ _ _ _
  by_cases hz : s.tail = 0
  · have e : (g.at t).mxStep (g.stt t) = ((g.at t).fresh.swapIn 0 2, true) := by
      unfold LS.mxStep LS.mxEnter
      rw [if_neg (by rw [show (g.at t).k.on = (g.rs t).k.on from rfl, ho]; exact Bool.false_ne_true), if_pos hs, show (g.at t).fresh.line = 2 from hl, if_neg (by decide), if_neg (by decide), if_pos rfl, if_pos (show wordAt (g.at t).fresh.xs 0 = 0 from h.ws.t.trans hz)]
    obtain ⟨L, Lk⟩ := swapIn_at (g.at t).fresh 0 2
    generalize (g.at t).fresh.swapIn 0 2 = R at e L Lk
    have hrg : regs R t = [(t : Int)] := by rw [regs_w L.w t]; rfl
    obtain ⟨hm, hq⟩ := h.qi.swap0 ht hp hn hz
    subst hm
    have hnil : g.order = [] := list_nil fun j => by rw [h.ord j, if_neg (by omega)]
    refine ⟨_, 1, _, _, pick_in hs e (os := []) (by rw [hnil, hrg]; rfl) (h.nobody (.inl rfl)), h.set ⟨L.n.trans c1, L.mode.trans c2, L.task.trans c3⟩ hq ?_ (.isIn rfl (upd_same _ _ _)) (fun i hi hne => ⟨upd_other _ _ hne, rfl, .inl rfl, .inl rfl⟩) (fun j => ?_) (fun _ => ⟨t, ht, upd_same _ _ _⟩), more⟩
    · rw [L.xs, hme, doNew_st _ _ _ _ _ rfl]; exact h.ws.tail hk _
    · have ea : aheadQ 1 (fun _ => t) { s with tail := (t : Int) + 1, ph := upd s.ph t 5 } = 1 := if_pos ⟨by omega, upd_same _ _ _⟩
      rw [ea, if_neg (by omega)]; rfl
  · have e : (g.at t).mxStep (g.stt t) = (((g.at t).fresh.swapIn 0 2).go 3, false) := by
      unfold LS.mxStep LS.mxEnter
      rw [if_neg (by rw [show (g.at t).k.on = (g.rs t).k.on from rfl, ho]; exact Bool.false_ne_true), if_pos hs, show (g.at t).fresh.line = 2 from hl, if_neg (by decide), if_neg (by decide), if_pos rfl, if_neg (show ¬ wordAt (g.at t).fresh.xs 0 = 0 from fun e2 => hz (h.ws.t.symm.trans e2))]
    obtain ⟨L, Lk⟩ := swapIn_at (g.at t).fresh 0 2
    generalize (g.at t).fresh.swapIn 0 2 = R at e L Lk
    have hrg : regs (R.go 3) t = [(t : Int)] := by rw [regs_w (R := R.go 3) L.w t]; rfl
    obtain ⟨hm, hq⟩ := h.qi.swap1 ht hp hn hb hz
    have hq0 : q 0 ≠ t := fun e2 => h.qi.inq 0 hm (by rw [e2]; exact hp)
    refine ⟨_, m + 1, _, _, pick_plain (by omega) (by omega) e, h.set ⟨L.n.trans c1, L.mode.trans c2, L.task.trans c3⟩ hq ?_ (.l3 hs ((congrArg WkV.on Lk).trans ho) rfl (upd_same _ _ _) ?_ (L.s.trans h0)) (fun i hi hne => ⟨upd_other _ _ hne, upd_other _ _ hne, .inl rfl, .inl rfl⟩) (fun j => ?_) (h.keepIns (by omega) _), same⟩
    · rw [show (R.go 3).xs = R.xs from rfl, L.xs, hme, doNew_st _ _ _ _ _ rfl]; exact h.ws.tail hk _
    · show R.a = upd s.pr t s.tail t
      rw [upd_same, L.a]; exact h.ws.t
    · have ea : aheadQ (m + 1) (upd q m t) { s with tail := (t : Int) + 1, ph := upd s.ph t 3, pr := upd s.pr t s.tail } = aheadQ m q s := by
        unfold aheadQ
        rw [upd_other _ _ (by omega)]
        show (if 0 < m + 1 ∧ upd s.ph t 3 (q 0) = 5 then 1 else 0) = _
        rw [upd_other _ _ hq0]
        simp [hm]
      have hle : aheadQ m q s ≤ m := by unfold aheadQ; split <;> omega
      rw [ea]
      rw [hrg]
      rw [List.getElem?_append, list_len (f := fun i => ((q i : Nat) : Int)) h.ord hle]
      by_cases e1 : j < m - aheadQ m q s
      · rw [if_pos e1, h.ord j, if_pos (by omega), if_pos (by omega), upd_other _ _ (by omega)]
      · rw [if_neg e1]
        by_cases e2 : j = m - aheadQ m q s
        · rw [if_pos (by omega), e2, Nat.sub_self, Nat.sub_add_cancel hle, upd_same]; rfl
        · rw [if_neg (by omega), List.getElem?_eq_none (by simp; omega)]
theorem kept_l3 (hk : k ≤ 64) (h : MuInv k mode m q s g) (ht : t < k) (hs : g.stt t = 0) (ho : (g.rs t).k.on = false) (hl : (g.rs t).line = 3) (hp : s.ph t = 3) (ha : (g.rs t).a = s.pr t) (h0 : (g.rs t).s = 0) : Kept k mode g t := by
  obtain ⟨c1, c2, c3⟩ := h.cst t ht
  have same : ∀ i, g.times i ≤ g.times i := fun i => Int.le_refl _
  have more : ∀ i, g.times i ≤ upd g.times t (g.times t + 1) i := fun i => by
    by_cases e : i = t
    · subst e; rw [upd_same]; omega
    · rw [upd_other _ _ e]; omega
  have hfr : ∀ i, i < k → i ≠ t → s.ph i = s.ph i ∧ s.pr i = s.pr i ∧ (s.nx i = s.nx i ∨ (s.nx i = 0 ∧ s.ph i ≠ 0)) ∧ (s.bl i = s.bl i ∨ (s.bl i = 0 ∧ s.ph i ≠ 0)) := fun i _ _ => ⟨rfl, rfl, .inl rfl, .inl rfl⟩
  have hme : (g.at t).fresh.me = (t : Int) + 1 := by
    show ((g.rs t).task + 1) % 4294967296 = _
    rw [c3]; omega
  have hnc : nc (g.at t).fresh.n (g.at t).fresh.task = nc k t := by
    show nc (g.rs t).n (g.rs t).task = _; rw [c1, c3]
  have hbc : bc (g.at t).fresh.n (g.at t).fresh.task = bc k t := by
    show bc (g.rs t).n (g.rs t).task = _; rw [c1, c3]
  have hwk : (g.rs t).k.on = true → WordsQ k (g.at t).waking.xs s.tail s.nx s.bl := fun hon => by
    show WordsQ k (wakeI g.xs (g.rs t).n _ _ _ _).xs _ _ _
    rw [c1]; exact h.ws.wake hk _ _ _ _
  have e : (g.at t).mxStep (g.stt t) = ((g.at t).fresh.link, false) := by
    unfold LS.mxStep LS.mxEnter
    rw [if_neg (by rw [show (g.at t).k.on = (g.rs t).k.on from rfl, ho]; exact Bool.false_ne_true), if_pos hs, show (g.at t).fresh.line = 3 from hl, if_neg (by decide), if_neg (by decide), if_neg (by decide), if_pos rfl]
  obtain ⟨p, hpk, hpt, hpn, hpp, hpr, ⟨hm, hq0⟩, hq⟩ := h.qi.link ht hp
  have hap : nc (g.at t).fresh.n ((g.at t).fresh.a - 1) = nc k p := by
    show nc (g.rs t).n ((g.rs t).a - 1) = _
    rw [c1, ha, hpr, Int.add_sub_cancel]
  obtain ⟨L, Ll⟩ := link_at (g.at t).fresh
  generalize (g.at t).fresh.link = R at e L Ll
  have hrg : regs R t = [] := by rw [regs_w L.w t]; rfl
  refine ⟨_, m, q, _, pick_plain (by omega) (by omega) e, h.set ⟨L.n.trans c1, L.mode.trans c2, L.task.trans c3⟩ hq ?_ (.l4 hs Ll (upd_same _ _ _) ?_) (fun i hi hne => ⟨upd_other _ _ hne, rfl, ?_, .inl rfl⟩) (fun j => ?_) (h.keepIns (by omega) _), same⟩
  · rw [L.xs, hap, hme, doNew_st _ _ _ _ _ rfl]; exact h.ws.setN hk hpk _
  · intro e4
    have e4' : (g.rs t).s = 4 := L.s.symm.trans e4
    omega
  · by_cases e2 : i = p
    · subst e2; exact .inr ⟨hpn, hpp⟩
    · exact .inl (upd_other _ _ e2)
  · have ea : aheadQ m q { s with nx := upd s.nx p ((t : Int) + 1), ph := upd s.ph t 4 } = aheadQ m q s := by
      unfold aheadQ
      show (if 0 < m ∧ upd s.ph t 4 (q 0) = 5 then 1 else 0) = _
      rw [upd_other _ _ hq0]
    rw [ea]
    rw [hrg, List.append_nil]; exact h.ord j
theorem kept_l4 (hk : k ≤ 64) (h : MuInv k mode m q s g) (ht : t < k) (hs : g.stt t = 0) (hl : (g.rs t).line = 4) (hp : s.ph t = 4) (h4 : (g.rs t).s = 4 → s.bl t = 0) : Kept k mode g t := by
  obtain ⟨c1, c2, c3⟩ := h.cst t ht
  have same : ∀ i, g.times i ≤ g.times i := fun i => Int.le_refl _
  have more : ∀ i, g.times i ≤ upd g.times t (g.times t + 1) i := fun i => by
    by_cases e : i = t
    · subst e; rw [upd_same]; omega
    · rw [upd_other _ _ e]; omega
  have hfr : ∀ i, i < k → i ≠ t → s.ph i = s.ph i ∧ s.pr i = s.pr i ∧ (s.nx i = s.nx i ∨ (s.nx i = 0 ∧ s.ph i ≠ 0)) ∧ (s.bl i = s.bl i ∨ (s.bl i = 0 ∧ s.ph i ≠ 0)) := fun i _ _ => ⟨rfl, rfl, .inl rfl, .inl rfl⟩
  have hme : (g.at t).fresh.me = (t : Int) + 1 := by
    show ((g.rs t).task + 1) % 4294967296 = _
    rw [c3]; omega
  have hnc : nc (g.at t).fresh.n (g.at t).fresh.task = nc k t := by
    show nc (g.rs t).n (g.rs t).task = _; rw [c1, c3]
  have hbc : bc (g.at t).fresh.n (g.at t).fresh.task = bc k t := by
    show bc (g.rs t).n (g.rs t).task = _; rw [c1, c3]
  have hwk : (g.rs t).k.on = true → WordsQ k (g.at t).waking.xs s.tail s.nx s.bl := fun hon => by
    show WordsQ k (wakeI g.xs (g.rs t).n _ _ _ _).xs _ _ _
    rw [c1]; exact h.ws.wake hk _ _ _ _
  cases ho : (g.rs t).k.on
  · have hst : (g.at t).fresh.stepR (bc (g.at t).fresh.n (g.at t).fresh.task) isZ = stepI g.xs k mode t (g.rs t).s (bc k t) isZ := by
      rw [hbc]
      show stepI g.xs (g.rs t).n (g.rs t).mode (g.rs t).task (g.rs t).s _ _ = _
      rw [c1, c2, c3]
    obtain ⟨f1, f2⟩ := step_facts (xs := g.xs) (n := (k : Int)) (mode := mode) (i := (t : Int)) (s := (g.rs t).s) (c := bc k t) (q := isZ)
    have hz : isZ (wordAt g.xs (bc k t)) = true → s.bl t = 0 := fun e => by
      rw [h.ws.b t ht] at e
      simpa [isZ] using e
    have e0 : (g.at t).mxStep (g.stt t) = ((g.at t).fresh.wait (bc (g.at t).fresh.n (g.at t).fresh.task) isZ, (stepI g.xs k mode t (g.rs t).s (bc k t) isZ).done) := by
      unfold LS.mxStep LS.mxEnter
      rw [if_neg (by rw [show (g.at t).k.on = (g.rs t).k.on from rfl, ho]; exact Bool.false_ne_true), if_pos hs, show (g.at t).fresh.line = 4 from hl, if_neg (by decide), if_neg (by decide), if_neg (by decide), if_neg (by decide), if_pos rfl, hst]
    have hxs : ((g.at t).fresh.wait (bc (g.at t).fresh.n (g.at t).fresh.task) isZ).xs = (stepI g.xs k mode t (g.rs t).s (bc k t) isZ).xs := by rw [← hst]; rfl
    have hsn : ((g.at t).fresh.wait (bc (g.at t).fresh.n (g.at t).fresh.task) isZ).s = (stepI g.xs k mode t (g.rs t).s (bc k t) isZ).next := by rw [← hst]; rfl
    cases hd : (stepI g.xs k mode t (g.rs t).s (bc k t) isZ).done
    · rw [hd] at e0
      refine ⟨_, m, q, s, pick_plain (by omega) (by omega) e0, h.set ⟨c1, c2, c3⟩ h.qi ?_ (.l4 hs hl hp ?_) hfr (fun j => ?_) (h.keepIns (by omega) _), same⟩
      · rw [hxs]; exact h.ws.wait hk ht _ _ _ _
      · intro e4
        rw [hsn] at e4
        exact hz (f2 e4).2
      · show (g.order ++ [])[j]? = _
        rw [List.append_nil]; exact h.ord j
    · rw [hd] at e0
      have hb0 : s.bl t = 0 := by
        rcases f1 hd with ⟨_, e⟩ | ⟨e, _⟩
        · exact hz e
        · exact h4 e
      obtain ⟨hm, hq0, hq⟩ := h.qi.enter ht hp hb0
      have hn5 : s.ph (q 0) ≠ 5 := by rw [hq0, hp]; decide
      have ea0 : aheadQ m q s = 0 := if_neg fun e => hn5 e.2
      obtain ⟨os, hos⟩ : ∃ os, g.order = (t : Int) :: os := by
        have := h.ord 0
        rw [ea0, if_pos (by omega), Nat.zero_add, hq0] at this
        cases hg : g.order with
        | nil => rw [hg] at this; cases this
        | cons a l => rw [hg] at this; exact ⟨l, by rw [show a = (t : Int) from Option.some.inj this]⟩
      refine ⟨_, m, q, _, pick_in hs e0 (os := os) (by rw [hos]; exact List.append_nil _) (h.nobody (.inr hn5)), h.set ⟨c1, c2, c3⟩ hq ?_ (.isIn rfl (upd_same _ _ _)) (fun i hi hne => ⟨upd_other _ _ hne, rfl, .inl rfl, .inl rfl⟩) (fun j => ?_) (fun _ => ⟨t, ht, upd_same _ _ _⟩), more⟩
      · rw [hxs]; exact h.ws.wait hk ht _ _ _ _
      · have ea : aheadQ m q { s with ph := upd s.ph t 5 } = 1 := if_pos ⟨hm, by show upd s.ph t 5 (q 0) = 5; rw [hq0, upd_same]⟩
        have := h.ord (j + 1)
        rw [hos, ea0] at this
        rw [ea]
        exact this
  · have e0 : (g.at t).mxStep (g.stt t) = ((g.at t).waking, false) := if_pos ho
    refine ⟨_, m, q, s, pick_plain (by omega) (by omega) e0, h.set ⟨c1, c2, c3⟩ h.qi (hwk ho) (.l4 hs hl hp h4) hfr (fun j => ?_) (h.keepIns (by omega) _), same⟩
    show (g.order ++ [])[j]? = _
    rw [List.append_nil]; exact h.ord j
theorem kept_isIn (hk : k ≤ 64) (h : MuInv k mode m q s g) (ht : t < k) (hs : g.stt t = 1) (hp : s.ph t = 5) : Kept k mode g t := by
  obtain ⟨c1, c2, c3⟩ := h.cst t ht
  have same : ∀ i, g.times i ≤ g.times i := fun i => Int.le_refl _
  have more : ∀ i, g.times i ≤ upd g.times t (g.times t + 1) i := fun i => by
    by_cases e : i = t
    · subst e; rw [upd_same]; omega
    · rw [upd_other _ _ e]; omega
  have hfr : ∀ i, i < k → i ≠ t → s.ph i = s.ph i ∧ s.pr i = s.pr i ∧ (s.nx i = s.nx i ∨ (s.nx i = 0 ∧ s.ph i ≠ 0)) ∧ (s.bl i = s.bl i ∨ (s.bl i = 0 ∧ s.ph i ≠ 0)) := fun i _ _ => ⟨rfl, rfl, .inl rfl, .inl rfl⟩
  have hme : (g.at t).fresh.me = (t : Int) + 1 := by
    show ((g.rs t).task + 1) % 4294967296 = _
    rw [c3]; omega
  have hnc : nc (g.at t).fresh.n (g.at t).fresh.task = nc k t := by
    show nc (g.rs t).n (g.rs t).task = _; rw [c1, c3]
  have hbc : bc (g.at t).fresh.n (g.at t).fresh.task = bc k t := by
    show bc (g.rs t).n (g.rs t).task = _; rw [c1, c3]
  have hwk : (g.rs t).k.on = true → WordsQ k (g.at t).waking.xs s.tail s.nx s.bl := fun hon => by
    show WordsQ k (wakeI g.xs (g.rs t).n _ _ _ _).xs _ _ _
    rw [c1]; exact h.ws.wake hk _ _ _ _
  refine ⟨_, m, q, s, pick_isin hs, h.set ⟨c1, c2, c3⟩ h.qi h.ws (.g6 rfl rfl rfl hp rfl) hfr h.ord (fun e => by omega), same⟩
theorem kept_g6 (hk : k ≤ 64) (h : MuInv k mode m q s g) (ht : t < k) (hs : g.stt t = 2) (ho : (g.rs t).k.on = false) (hl : (g.rs t).line = 6) (hp : s.ph t = 5) (h0 : (g.rs t).s = 0) : Kept k mode g t := by
  obtain ⟨c1, c2, c3⟩ := h.cst t ht
  have same : ∀ i, g.times i ≤ g.times i := fun i => Int.le_refl _
  have more : ∀ i, g.times i ≤ upd g.times t (g.times t + 1) i := fun i => by
    by_cases e : i = t
    · subst e; rw [upd_same]; omega
    · rw [upd_other _ _ e]; omega
  have hfr : ∀ i, i < k → i ≠ t → s.ph i = s.ph i ∧ s.pr i = s.pr i ∧ (s.nx i = s.nx i ∨ (s.nx i = 0 ∧ s.ph i ≠ 0)) ∧ (s.bl i = s.bl i ∨ (s.bl i = 0 ∧ s.ph i ≠ 0)) := fun i _ _ => ⟨rfl, rfl, .inl rfl, .inl rfl⟩
  have hme : (g.at t).fresh.me = (t : Int) + 1 := by
    show ((g.rs t).task + 1) % 4294967296 = _
    rw [c3]; omega
  have hnc : nc (g.at t).fresh.n (g.at t).fresh.task = nc k t := by
    show nc (g.rs t).n (g.rs t).task = _; rw [c1, c3]
  have hbc : bc (g.at t).fresh.n (g.at t).fresh.task = bc k t := by
    show bc (g.rs t).n (g.rs t).task = _; rw [c1, c3]
  have hwk : (g.rs t).k.on = true → WordsQ k (g.at t).waking.xs s.tail s.nx s.bl := fun hon => by
    show WordsQ k (wakeI g.xs (g.rs t).n _ _ _ _).xs _ _ _
    rw [c1]; exact h.ws.wake hk _ _ _ _
  have hw : wordAt (g.at t).fresh.xs (nc (g.at t).fresh.n (g.at t).fresh.task) = s.nx t := by rw [hnc]; exact h.ws.n t ht
  have e : (g.at t).mxStep (g.stt t) = (if s.nx t = 0 then (g.at t).fresh.peek.go 7 else (g.at t).fresh.peek.go 9, false) := by
    unfold LS.mxStep LS.mxGive
    rw [if_neg (by rw [show (g.at t).k.on = (g.rs t).k.on from rfl, ho]; exact Bool.false_ne_true), if_neg (by omega), if_pos (show (g.at t).fresh.line = 6 from hl), hw]
    rfl
  obtain ⟨L, Lk⟩ := peek_at (g.at t).fresh
  generalize (g.at t).fresh.peek = R at e L Lk
  have hrg : regs R t = [] := by rw [regs_w L.w t]; rfl
  have hws : WordsQ k R.xs s.tail s.nx s.bl := by rw [L.xs]; exact h.ws
  by_cases hz : s.nx t = 0
  · rw [if_pos hz] at e
    refine ⟨_, m, q, s, pick_plain (by omega) (by omega) e, h.set ⟨L.n.trans c1, L.mode.trans c2, L.task.trans c3⟩ h.qi hws (.g7 hs ((congrArg WkV.on Lk).trans ho) rfl hp (L.s.trans h0)) hfr (fun j => ?_) (h.keepIns (by omega) _), same⟩
    rw [show regs (R.go 7) t = [] from hrg, List.append_nil]; exact h.ord j
  · rw [if_neg hz] at e
    refine ⟨_, m, q, s, pick_plain (by omega) (by omega) e, h.set ⟨L.n.trans c1, L.mode.trans c2, L.task.trans c3⟩ h.qi hws (.g9 hs ((congrArg WkV.on Lk).trans ho) rfl hp (L.a.trans hw) hz) hfr (fun j => ?_) (h.keepIns (by omega) _), same⟩
    rw [show regs (R.go 9) t = [] from hrg, List.append_nil]; exact h.ord j
theorem kept_g7 (hk : k ≤ 64) (h : MuInv k mode m q s g) (ht : t < k) (hs : g.stt t = 2) (ho : (g.rs t).k.on = false) (hl : (g.rs t).line = 7) (hp : s.ph t = 5) (h0 : (g.rs t).s = 0) : Kept k mode g t := by
  obtain ⟨c1, c2, c3⟩ := h.cst t ht
  have same : ∀ i, g.times i ≤ g.times i := fun i => Int.le_refl _
  have more : ∀ i, g.times i ≤ upd g.times t (g.times t + 1) i := fun i => by
    by_cases e : i = t
    · subst e; rw [upd_same]; omega
    · rw [upd_other _ _ e]; omega
  have hfr : ∀ i, i < k → i ≠ t → s.ph i = s.ph i ∧ s.pr i = s.pr i ∧ (s.nx i = s.nx i ∨ (s.nx i = 0 ∧ s.ph i ≠ 0)) ∧ (s.bl i = s.bl i ∨ (s.bl i = 0 ∧ s.ph i ≠ 0)) := fun i _ _ => ⟨rfl, rfl, .inl rfl, .inl rfl⟩
  have hme : (g.at t).fresh.me = (t : Int) + 1 := by
    show ((g.rs t).task + 1) % 4294967296 = _
    rw [c3]; omega
  have hnc : nc (g.at t).fresh.n (g.at t).fresh.task = nc k t := by
    show nc (g.rs t).n (g.rs t).task = _; rw [c1, c3]
  have hbc : bc (g.at t).fresh.n (g.at t).fresh.task = bc k t := by
    show bc (g.rs t).n (g.rs t).task = _; rw [c1, c3]
  have hwk : (g.rs t).k.on = true → WordsQ k (g.at t).waking.xs s.tail s.nx s.bl := fun hon => by
    show WordsQ k (wakeI g.xs (g.rs t).n _ _ _ _).xs _ _ _
    rw [c1]; exact h.ws.wake hk _ _ _ _
  have hth : there g.xs 0 = true := h.ws.th (by omega) (by omega)
  have hco : (g.at t).fresh.casOut 0 = (s.tail == (t : Int) + 1) := by
    unfold LS.casOut
    rw [hme, show there (g.at t).fresh.xs 0 = true from hth, show wordAt (g.at t).fresh.xs 0 = s.tail from h.ws.t, Bool.true_and]
  have e : (g.at t).mxStep (g.stt t) = if (g.at t).fresh.casOut 0 then (((g.at t).fresh.doA 5 0 (g.at t).fresh.me 0).notes [8], true) else (((g.at t).fresh.doA 5 0 (g.at t).fresh.me 0).go 8, false) := by
    unfold LS.mxStep LS.mxGive
    rw [if_neg (by rw [show (g.at t).k.on = (g.rs t).k.on from rfl, ho]; exact Bool.false_ne_true), if_neg (by omega), show (g.at t).fresh.line = 7 from hl, if_neg (by decide), if_pos (by decide)]
    rfl
  obtain ⟨L, Lk⟩ := cas_at (g.at t).fresh
  generalize (g.at t).fresh.doA 5 0 (g.at t).fresh.me 0 = R at e L Lk
  have hx : R.xs = st g.xs 0 (if s.tail = (t : Int) + 1 then 0 else s.tail) := by
    rw [L.xs, hme, show (g.at t).fresh.xs = g.xs from rfl, doNew_st _ _ _ _ _ rfl, h.ws.t]; rfl
  by_cases hz : s.tail = (t : Int) + 1
  · rw [if_pos (by rw [hco, hz]; exact beq_self_eq_true _)] at e
    obtain ⟨L2, Lk2⟩ := note8_at R
    generalize R.notes [8] = R2 at e L2 Lk2
    have hrg : regs R2 t = [] := by rw [regs_w (L2.w.trans (congrArg (· ++ [8]) L.w)) t]; rfl
    obtain ⟨hm, hq⟩ := h.qi.empty ht hp hz
    subst hm
    have h1 : aheadQ 1 q s = 1 := if_pos ⟨by omega, by rw [(h.qi.first ht hp).2]; exact hp⟩
    refine ⟨_, 0, q, _, (pick_out hs e hrg).trans (congrArg some (if_pos ((congrArg WkV.on (Lk2.trans Lk)).trans ho))), h.set ⟨(L2.n.trans L.n).trans c1, (L2.mode.trans L.mode).trans c2, (L2.task.trans L.task).trans c3⟩ hq ?_ (.l0 rfl rfl rfl (upd_same _ _ _) rfl) (fun i hi hne => ⟨upd_other _ _ hne, rfl, .inl rfl, .inl rfl⟩) (fun j => ?_) (h.keepIns (by omega) _), same⟩
    · rw [L2.xs, hx, if_pos hz]; exact h.ws.tail hk 0
    · rw [h.ord j, h1, if_neg (by omega), if_neg (by omega)]
  · rw [if_neg (by rw [hco]; simpa using hz)] at e
    have hrg : regs (R.go 8) t = [] := by rw [regs_w (R := R.go 8) L.w t]; rfl
    refine ⟨_, m, q, s, pick_plain (by omega) (by omega) e, h.set ⟨L.n.trans c1, L.mode.trans c2, L.task.trans c3⟩ h.qi ?_ (.g8 hs ((congrArg WkV.on Lk).trans ho) rfl hp ?_) hfr (fun j => ?_) (h.keepIns (by omega) _), same⟩
    · rw [show (R.go 8).xs = R.xs from rfl, hx, if_neg hz]; exact h.ws.tail hk s.tail
    · intro e4
      have e4' : (g.rs t).s = 4 := L.s.symm.trans e4
      omega
    · rw [hrg, List.append_nil]; exact h.ord j
theorem kept_g8 (hk : k ≤ 64) (h : MuInv k mode m q s g) (ht : t < k) (hs : g.stt t = 2) (ho : (g.rs t).k.on = false) (hl : (g.rs t).line = 8) (hp : s.ph t = 5) (h4 : (g.rs t).s = 4 → (g.rs t).a = s.nx t ∧ s.nx t ≠ 0) : Kept k mode g t := by
  obtain ⟨c1, c2, c3⟩ := h.cst t ht
  have same : ∀ i, g.times i ≤ g.times i := fun i => Int.le_refl _
  have more : ∀ i, g.times i ≤ upd g.times t (g.times t + 1) i := fun i => by
    by_cases e : i = t
    · subst e; rw [upd_same]; omega
    · rw [upd_other _ _ e]; omega
  have hfr : ∀ i, i < k → i ≠ t → s.ph i = s.ph i ∧ s.pr i = s.pr i ∧ (s.nx i = s.nx i ∨ (s.nx i = 0 ∧ s.ph i ≠ 0)) ∧ (s.bl i = s.bl i ∨ (s.bl i = 0 ∧ s.ph i ≠ 0)) := fun i _ _ => ⟨rfl, rfl, .inl rfl, .inl rfl⟩
  have hme : (g.at t).fresh.me = (t : Int) + 1 := by
    show ((g.rs t).task + 1) % 4294967296 = _
    rw [c3]; omega
  have hnc : nc (g.at t).fresh.n (g.at t).fresh.task = nc k t := by
    show nc (g.rs t).n (g.rs t).task = _; rw [c1, c3]
  have hbc : bc (g.at t).fresh.n (g.at t).fresh.task = bc k t := by
    show bc (g.rs t).n (g.rs t).task = _; rw [c1, c3]
  have hwk : (g.rs t).k.on = true → WordsQ k (g.at t).waking.xs s.tail s.nx s.bl := fun hon => by
    show WordsQ k (wakeI g.xs (g.rs t).n _ _ _ _).xs _ _ _
    rw [c1]; exact h.ws.wake hk _ _ _ _
  have hst : (g.at t).fresh.stepR (nc (g.at t).fresh.n (g.at t).fresh.task) isN = stepI g.xs k mode t (g.rs t).s (nc k t) isN := by
    rw [hnc]
    show stepI g.xs (g.rs t).n (g.rs t).mode (g.rs t).task (g.rs t).s _ _ = _
    rw [c1, c2, c3]
  obtain ⟨f1, f2⟩ := step_facts (xs := g.xs) (n := (k : Int)) (mode := mode) (i := (t : Int)) (s := (g.rs t).s) (c := nc k t) (q := isN)
  have hw : wordAt g.xs (nc k t) = s.nx t := h.ws.n t ht
  have hnz : isN (wordAt g.xs (nc k t)) = true → s.nx t ≠ 0 := fun e => by
    rw [hw] at e
    simpa [isN] using e
  have e : (g.at t).mxStep (g.stt t) = (if (stepI g.xs k mode t (g.rs t).s (nc k t) isN).done then (g.at t).fresh.seeN.go 9 else (g.at t).fresh.seeN, false) := by
    unfold LS.mxStep LS.mxGive
    rw [if_neg (by rw [show (g.at t).k.on = (g.rs t).k.on from rfl, ho]; exact Bool.false_ne_true), if_neg (by omega), show (g.at t).fresh.line = 8 from hl, if_neg (by decide), if_neg (by decide), if_pos (by decide), hst]
    rfl
  obtain ⟨R, hR, L1, L2, L3, L4, L5, L6, L7, L8, L9⟩ : ∃ R, (g.at t).fresh.seeN = R ∧ R.n = k ∧ R.mode = mode ∧ R.task = t ∧ R.k = (g.rs t).k ∧ R.line = 8 ∧ R.xs = (stepI g.xs k mode t (g.rs t).s (nc k t) isN).xs ∧ R.s = (stepI g.xs k mode t (g.rs t).s (nc k t) isN).next ∧ R.ns = [] ∧ R.a = if (stepI g.xs k mode t (g.rs t).s (nc k t) isN).seen then s.nx t else (g.rs t).a := by
    refine ⟨_, rfl, ?_⟩
    have hwt : (g.at t).fresh.wait (nc (g.at t).fresh.n (g.at t).fresh.task) isN = { (g.at t).fresh with s := (stepI g.xs k mode t (g.rs t).s (nc k t) isN).next, acc := ofV (stepI g.xs k mode t (g.rs t).s (nc k t) isN).acc, xs := (stepI g.xs k mode t (g.rs t).s (nc k t) isN).xs } := by
      unfold LS.wait
      rw [hst]
    unfold LS.seeN
    rw [hwt, hst]
    generalize stepI g.xs k mode t (g.rs t).s (nc k t) isN = S
    cases S.seen
    · exact ⟨c1, c2, c3, rfl, hl, rfl, rfl, rfl, rfl⟩
    · refine ⟨c1, c2, c3, rfl, hl, rfl, rfl, rfl, ?_⟩
      show wordAt g.xs (nc (g.rs t).n (g.rs t).task) = s.nx t
      rw [c1, c3]; exact hw
  rw [hR] at e
  have hws : WordsQ k R.xs s.tail s.nx s.bl := by rw [L6]; exact h.ws.wait hk ht _ _ _ _
  have hrg : regs R t = [] := by unfold regs; rw [L8]; rfl
  cases hd : (stepI g.xs k mode t (g.rs t).s (nc k t) isN).done
  · rw [hd, if_neg Bool.false_ne_true] at e
    refine ⟨_, m, q, s, pick_plain (by omega) (by omega) e, h.set ⟨L1, L2, L3⟩ h.qi hws (.g8 hs ((congrArg WkV.on L4).trans ho) L5 hp ?_) hfr (fun j => ?_) (h.keepIns (by omega) _), same⟩
    · intro e4
      rw [L7] at e4
      obtain ⟨f3, f4⟩ := f2 e4
      rw [L9, f3]
      exact ⟨rfl, hnz f4⟩
    · rw [hrg, List.append_nil]; exact h.ord j
  · rw [hd, if_pos rfl] at e
    have ha : R.a = s.nx t ∧ s.nx t ≠ 0 := by
      rcases f1 hd with ⟨e1, e2⟩ | ⟨e1, e2⟩
      · rw [L9, e1]; exact ⟨rfl, hnz e2⟩
      · rw [L9, e2]; exact h4 e1
    refine ⟨_, m, q, s, pick_plain (by omega) (by omega) e, h.set ⟨L1, L2, L3⟩ h.qi hws (.g9 hs ((congrArg WkV.on L4).trans ho) rfl hp ha.1 ha.2) hfr (fun j => ?_) (h.keepIns (by omega) _), same⟩
    rw [show regs (R.go 9) t = [] from hrg, List.append_nil]; exact h.ord j
theorem kept_g9 (hk : k ≤ 64) (h : MuInv k mode m q s g) (ht : t < k) (hs : g.stt t = 2) (ho : (g.rs t).k.on = false) (hl : (g.rs t).line = 9) (hp : s.ph t = 5) (ha : (g.rs t).a = s.nx t) (hn : s.nx t ≠ 0) : Kept k mode g t := by
  obtain ⟨c1, c2, c3⟩ := h.cst t ht
  have same : ∀ i, g.times i ≤ g.times i := fun i => Int.le_refl _
  have more : ∀ i, g.times i ≤ upd g.times t (g.times t + 1) i := fun i => by
    by_cases e : i = t
    · subst e; rw [upd_same]; omega
    · rw [upd_other _ _ e]; omega
  have hfr : ∀ i, i < k → i ≠ t → s.ph i = s.ph i ∧ s.pr i = s.pr i ∧ (s.nx i = s.nx i ∨ (s.nx i = 0 ∧ s.ph i ≠ 0)) ∧ (s.bl i = s.bl i ∨ (s.bl i = 0 ∧ s.ph i ≠ 0)) := fun i _ _ => ⟨rfl, rfl, .inl rfl, .inl rfl⟩
  have hme : (g.at t).fresh.me = (t : Int) + 1 := by
    show ((g.rs t).task + 1) % 4294967296 = _
    rw [c3]; omega
  have hnc : nc (g.at t).fresh.n (g.at t).fresh.task = nc k t := by
    show nc (g.rs t).n (g.rs t).task = _; rw [c1, c3]
  have hbc : bc (g.at t).fresh.n (g.at t).fresh.task = bc k t := by
    show bc (g.rs t).n (g.rs t).task = _; rw [c1, c3]
  have hwk : (g.rs t).k.on = true → WordsQ k (g.at t).waking.xs s.tail s.nx s.bl := fun hon => by
    show WordsQ k (wakeI g.xs (g.rs t).n _ _ _ _).xs _ _ _
    rw [c1]; exact h.ws.wake hk _ _ _ _
  obtain ⟨p, hpk, hpt, hpn, hm1, hq1, hp4, hq⟩ := h.qi.hand ht hp hn
  have hap : bc (g.at t).fresh.n ((g.at t).fresh.a - 1) = bc k p := by
    show bc (g.rs t).n ((g.rs t).a - 1) = _
    rw [c1, ha, hpn, Int.add_sub_cancel]
  have e : (g.at t).mxStep (g.stt t) = ((g.at t).fresh.handOn [8], true) := by
    unfold LS.mxStep LS.mxGive
    rw [if_neg (by rw [show (g.at t).k.on = (g.rs t).k.on from rfl, ho]; exact Bool.false_ne_true), if_neg (by omega), show (g.at t).fresh.line = 9 from hl, if_neg (by decide), if_neg (by decide), if_neg (by decide), if_pos (by decide)]
  have L := handOn_at (g.at t).fresh
  generalize (g.at t).fresh.handOn [8] = R at e L
  have hrg : regs R t = [] := by rw [regs_w L.w t]; rfl
  have h1 : aheadQ m q s = 1 := if_pos ⟨by omega, by rw [(h.qi.first ht hp).2]; exact hp⟩
  have h0 : aheadQ (m - 1) (fun j => q (j + 1)) { s with bl := upd s.bl p 0, ph := upd s.ph t 0 } = 0 := if_neg fun e2 => by
    have e3 : upd s.ph t 0 (q 1) = 5 := e2.2
    rw [hq1, upd_other _ _ hpt, hp4] at e3
    cases e3
  have hw : WordsQ k R.xs s.tail s.nx (upd s.bl p 0) := by
    rw [L.xs, hap, doNew_st _ _ _ _ _ rfl]; exact h.ws.setB hk hpk 0
  have hoth : ∀ i, i < k → i ≠ t → upd s.ph t 0 i = s.ph i ∧ s.pr i = s.pr i ∧ (s.nx i = s.nx i ∨ (s.nx i = 0 ∧ s.ph i ≠ 0)) ∧ (upd s.bl p 0 i = s.bl i ∨ (upd s.bl p 0 i = 0 ∧ s.ph i ≠ 0)) := fun i _ hne => by
    refine ⟨upd_other _ _ hne, rfl, .inl rfl, ?_⟩
    by_cases e2 : i = p
    · subst e2; exact .inr ⟨upd_same _ _ _, by rw [hp4]; decide⟩
    · exact .inl (upd_other _ _ e2)
  have hord : ∀ j, g.order[j]? = if j + 0 < m - 1 then some ((q (j + 0 + 1) : Nat) : Int) else none := fun j => by
    rw [h.ord j, h1]
    by_cases e2 : j + 1 < m
    · rw [if_pos e2, if_pos (by omega)]
    · rw [if_neg e2, if_neg (by omega)]
  by_cases hon : R.k.on = false
  · refine ⟨_, m - 1, _, _, (pick_out hs e hrg).trans (congrArg some (if_pos hon)), h.set ⟨L.n.trans c1, L.mode.trans c2, L.task.trans c3⟩ hq hw (.l0 rfl rfl rfl (upd_same _ _ _) rfl) hoth (fun j => ?_) (h.keepIns (by omega) _), same⟩
    rw [h0]; exact hord j
  · refine ⟨_, m - 1, _, _, (pick_out hs e hrg).trans (congrArg some (if_neg hon)), h.set ⟨L.n.trans c1, L.mode.trans c2, L.task.trans c3⟩ hq hw (.given rfl (by simpa using hon) (upd_same _ _ _)) hoth (fun j => ?_) (h.keepIns (by omega) _), same⟩
    rw [h0]; exact hord j
theorem kept_given (hk : k ≤ 64) (h : MuInv k mode m q s g) (ht : t < k) (hs : g.stt t = 3) (ho : (g.rs t).k.on = true) (hp : s.ph t = 0) : Kept k mode g t := by
  obtain ⟨c1, c2, c3⟩ := h.cst t ht
  have same : ∀ i, g.times i ≤ g.times i := fun i => Int.le_refl _
  have more : ∀ i, g.times i ≤ upd g.times t (g.times t + 1) i := fun i => by
    by_cases e : i = t
    · subst e; rw [upd_same]; omega
    · rw [upd_other _ _ e]; omega
  have hfr : ∀ i, i < k → i ≠ t → s.ph i = s.ph i ∧ s.pr i = s.pr i ∧ (s.nx i = s.nx i ∨ (s.nx i = 0 ∧ s.ph i ≠ 0)) ∧ (s.bl i = s.bl i ∨ (s.bl i = 0 ∧ s.ph i ≠ 0)) := fun i _ _ => ⟨rfl, rfl, .inl rfl, .inl rfl⟩
  have hme : (g.at t).fresh.me = (t : Int) + 1 := by
    show ((g.rs t).task + 1) % 4294967296 = _
    rw [c3]; omega
  have hnc : nc (g.at t).fresh.n (g.at t).fresh.task = nc k t := by
    show nc (g.rs t).n (g.rs t).task = _; rw [c1, c3]
  have hbc : bc (g.at t).fresh.n (g.at t).fresh.task = bc k t := by
    show bc (g.rs t).n (g.rs t).task = _; rw [c1, c3]
  have hwk : (g.rs t).k.on = true → WordsQ k (g.at t).waking.xs s.tail s.nx s.bl := fun hon => by
    show WordsQ k (wakeI g.xs (g.rs t).n _ _ _ _).xs _ _ _
    rw [c1]; exact h.ws.wake hk _ _ _ _
  have e0 : (g.at t).mxStep (g.stt t) = ((g.at t).waking, false) := if_pos ho
  by_cases hon : (g.at t).waking.k.on = false
  · exact ⟨_, m, q, s, (pick_given hs e0 rfl).trans (congrArg some (if_pos hon)), h.set ⟨c1, c2, c3⟩ h.qi (hwk ho) (.l0 rfl rfl rfl hp rfl) hfr h.ord (h.keepIns (by omega) _), same⟩
  · exact ⟨_, m, q, s, (pick_given hs e0 rfl).trans (congrArg some (if_neg hon)), h.set ⟨c1, c2, c3⟩ h.qi (hwk ho) (.given rfl (by simpa using hon) hp) hfr h.ord (h.keepIns (by omega) _), same⟩
theorem MuInv.pick (hk : k ≤ 64) (h : MuInv k mode m q s g) (ht : t < k) : Kept k mode g t := by
  cases h.tk t ht with
  | l0 hs ho hl hp h0 => exact kept_l0 hk h ht hs ho hl hp h0
  | l1 hs ho hl hp hn h0 => exact kept_l1 hk h ht hs ho hl hp hn h0
  | l2 hs ho hl hp hn hb h0 => exact kept_l2 hk h ht hs ho hl hp hn hb h0
  | l3 hs ho hl hp ha h0 => exact kept_l3 hk h ht hs ho hl hp ha h0
  | l4 hs hl hp h4 => exact kept_l4 hk h ht hs hl hp h4
  | isIn hs hp => exact kept_isIn hk h ht hs hp
  | g6 hs ho hl hp h0 => exact kept_g6 hk h ht hs ho hl hp h0
  | g7 hs ho hl hp h0 => exact kept_g7 hk h ht hs ho hl hp h0
  | g8 hs ho hl hp h4 => exact kept_g8 hk h ht hs ho hl hp h4
  | g9 hs ho hl hp ha hn => exact kept_g9 hk h ht hs ho hl hp ha hn
  | given hs ho hp => exact kept_given hk h ht hs ho hp
end
end Go.Proofs.Ytaifeejciglkpaa
set_option linter.unusedVariables false
set_option linter.unusedSimpArgs false
namespace Go.Proofs.Ytaifeejciglkpaa
def firstG (k : Nat) (mode : Int) (xs : List Int) : GV := ⟨fun i => ⟨k, mode, i, 0, 0, 0, 0, 0, wk0, 0, acc0, [], xs⟩, fun _ => 0, fun _ => 0, [], -1, xs⟩
def firstS : QS := ⟨0, fun _ => 0, fun _ => 0, fun _ => 0, fun _ => 0⟩
theorem word_zero {xs : List Int} (h : ∀ x ∈ xs, x = 0) (c : Int) : wordAt xs c = 0 := by
  unfold wordAt
  split
  · cases e : xs[c.toNat]? with
    | none => simp [List.getD, e]
    | some v => simp only [List.getD, e, Option.getD_some]; exact h v (List.mem_of_getElem? e)
  · rfl
theorem mu_first {k : Nat} (mode : Int) {xs : List Int} (hl : xs.length = 8 + 4 * k) (hx : ∀ x ∈ xs, x = 0) : MuInv k mode 0 (fun _ => 0) firstS (firstG k mode xs) :=
  ⟨fun i _ => ⟨rfl, rfl, rfl⟩,
   ⟨fun i j hi => by omega, fun i hi => by omega, rfl, fun i hi => by omega, fun t _ h => absurd rfl h, fun h => by omega, fun j hj => by omega, fun h => by omega⟩,
   ⟨hl, word_zero hx _, fun i _ => word_zero hx _, fun i _ => word_zero hx _⟩,
   fun i _ => .l0 rfl rfl rfl rfl rfl, fun j => by rw [if_neg (by omega)]; rfl, fun h => absurd h (by show ¬ (0 : Int) ≤ -1; omega)⟩
def playG : List Nat → GV → Option GV
  | [], g => some g
  | t :: l, g => (g.pick t).bind (playG l)
theorem playG_append (l l' : List Nat) (g : GV) : playG (l ++ l') g = (playG l g).bind (playG l') := by
  induction l generalizing g with
  | nil => rfl
  | cons t l ih =>
    show (g.pick t).bind (playG (l ++ l')) = ((g.pick t).bind (playG l)).bind (playG l')
    cases g.pick t with
    | none => rfl
    | some g1 => exact ih g1
def MuOK (k : Nat) (mode : Int) (g : GV) : Prop := ∃ m q s, MuInv k mode m q s g
theorem mu_play {k : Nat} {mode : Int} (hk : k ≤ 64) (l : List Nat) : ∀ {g : GV}, MuOK k mode g → (∀ t ∈ l, t < k) → ∃ g', playG l g = some g' ∧ MuOK k mode g' ∧ ∀ i, g.times i ≤ g'.times i := by
  induction l with
  | nil => exact fun h _ => ⟨_, rfl, h, fun i => Int.le_refl _⟩
  | cons t l ih =>
    rintro g ⟨m, q, s, h⟩ hl
    obtain ⟨g1, m1, q1, s1, e1, h1, o1⟩ := h.pick hk (hl t (by simp))
    obtain ⟨g2, e2, h2, o2⟩ := ih ⟨m1, q1, s1, h1⟩ (fun u hu => hl u (by simp [hu]))
    refine ⟨g2, ?_, h2, fun i => Int.le_trans (o1 i) (o2 i)⟩
    show (g.pick t).bind (playG l) = _
    rw [e1]
    exact e2
theorem mu_times {k : Nat} {mode : Int} (hk : k ≤ 64) {l l' : List Nat} {g g' : GV} (h : MuOK k mode g) (hl : ∀ t ∈ l, t < k) (hl' : ∀ t ∈ l', t < k) (e : playG l g = some g') : ∃ g'', playG (l ++ l') g = some g'' ∧ MuOK k mode g'' ∧ ∀ i, g'.times i ≤ g''.times i := by
  obtain ⟨g1, e1, h1, _⟩ := mu_play hk l h hl
  rw [e] at e1
  obtain rfl := Option.some.inj e1
  obtain ⟨g2, e2, h2, o2⟩ := mu_play hk l' h1 hl'
  exact ⟨g2, by rw [playG_append, e]; exact e2, h2, o2⟩
end Go.Proofs.Ytaifeejciglkpaa
