import Derived.Test.YtaifeejciglkpaaMS15
import Derived.Test.YtaifeejciglkpaaMS16
set_option linter.unusedVariables false
set_option linter.unusedSimpArgs false
namespace Go.Proofs.Ytaifeejciglkpaa
open Go.RowKit
section
variable {os : List Int} {k : Nat}
end
section
variable {chk : LS → Bool} {L : LS → LS} {r : LS}
end
end Go.Proofs.Ytaifeejciglkpaa
set_option linter.unusedVariables false
set_option linter.unusedSimpArgs false
namespace Go.Proofs.Ytaifeejciglkpaa
open Go.RowKit
def upd {α : Type} (f : Nat → α) (t : Nat) (v : α) : Nat → α := fun i => if i = t then v else f i
theorem upd_same {α : Type} (f : Nat → α) (t : Nat) (v : α) : upd f t v t = v := if_pos rfl
theorem upd_other {α : Type} (f : Nat → α) {t i : Nat} (v : α) (h : i ≠ t) : upd f t v i = f i := if_neg h
structure MV where
  rs : Nat → LS
  hold : Nat → Int
  xs : List Int
def MV.at (m : MV) (t : Nat) : LS := { m.rs t with xs := m.xs }
def MV.setR (m : MV) (t : Nat) (r : LS) : MV := ⟨upd m.rs t r, m.hold, r.xs⟩
def MV.setH (m : MV) (t : Nat) (h : Int) : MV := ⟨m.rs, upd m.hold t h, m.xs⟩
def zeroF (r : LS) (op : Int) : LS := { r with op := op, line := 0, a := 0, b := 0, s := 0, k := wk0, ret := 0 }
def fromI (op hold : Int) : Int := if op = 2 ∨ op = 4 then 0 else if op = 8 then 1 else hold
def behindI (op ret hold : Int) : Int := if ret ≠ 2 then hold else if op = 1 ∨ op = 5 then 1 else if op = 3 ∨ op = 6 ∨ op = 7 then 2 else hold
def MV.start (m : MV) (t : Nat) (op : Int) : MV := (m.setH t (fromI op (m.hold t))).setR t (zeroF (m.at t) op)
def MV.go (L : LS → LS) (m : MV) (t : Nat) : MV :=
  if (m.at t).stuck then m
  else if ((m.at t).next L).over then ((m.setR t ((m.at t).next L)).setH t (behindI ((m.at t).next L).op ((m.at t).next L).ret (m.hold t))).setR t (zeroF ((m.at t).next L) 0)
  else m.setR t ((m.at t).next L)
section
variable {m : MV} {t i : Nat} {r : LS} {h : Int}
end
end Go.Proofs.Ytaifeejciglkpaa
set_option linter.unusedVariables false
set_option linter.unusedSimpArgs false
namespace Go.Proofs.Ytaifeejciglkpaa
open Go.RowKit
structure GV where
  rs : Nat → LS
  stt : Nat → Int
  times : Nat → Int
  order : List Int
  ins : Int
  xs : List Int
def GV.at (g : GV) (t : Nat) : LS := { g.rs t with xs := g.xs }
def zeroL (r : LS) (line : Int) : LS := { r with op := 0, line := line, a := 0, b := 0, s := 0, k := wk0, ret := 0 }
def regs (r : LS) (t : Nat) : List Int := (r.ns.filter (fun n => n.w == 2)).map (fun _ => (t : Int))
def GV.rest (g : GV) (t : Nat) : GV := if g.stt t = 3 ∧ (g.rs t).k.on = false then { g with stt := upd g.stt t 0, rs := upd g.rs t (zeroL (g.rs t) 0) } else g
def GV.after (g : GV) (t : Nat) (p : LS × Bool) : GV := { g with rs := upd g.rs t p.1, xs := p.1.xs, order := g.order ++ regs p.1 t }
end Go.Proofs.Ytaifeejciglkpaa
set_option linter.unusedVariables false
set_option linter.unusedSimpArgs false
namespace Go.Proofs.Ytaifeejciglkpaa
structure QS where
  tail : Int
  nx : Nat → Int
  bl : Nat → Int
  ph : Nat → Nat
  pr : Nat → Int
structure QInv (k m : Nat) (q : Nat → Nat) (s : QS) : Prop where
  nd : ∀ i j, i < m → j < m → q i = q j → i = j
  lt : ∀ i, i < m → q i < k
  tl : s.tail = if m = 0 then 0 else ((q (m - 1) : Nat) : Int) + 1
  inq : ∀ i, i < m → s.ph (q i) ≠ 0
  out : ∀ t, t < k → s.ph t ≠ 0 → ∃ j, j < m ∧ q j = t
  hd : 0 < m → s.ph (q 0) = 5 ∨ (s.ph (q 0) = 4 ∧ s.bl (q 0) = 0)
  pair : ∀ j, j + 1 < m → s.bl (q (j + 1)) = 1 ∧ ((s.ph (q (j + 1)) = 3 ∧ s.pr (q (j + 1)) = ((q j : Nat) : Int) + 1 ∧ s.nx (q j) = 0) ∨ (s.ph (q (j + 1)) = 4 ∧ s.nx (q j) = ((q (j + 1) : Nat) : Int) + 1))
  last : 0 < m → s.nx (q (m - 1)) = 0
section
variable {k m t : Nat} {q : Nat → Nat} {s : QS}
theorem QInv.first (h : QInv k m q s) (ht : t < k) (h5 : s.ph t = 5) : 0 < m ∧ q 0 = t := by
  obtain ⟨j, hj, e⟩ := h.out t ht (by omega)
  cases j with
  | zero => exact ⟨hj, e⟩
  | succ j =>
    have := (h.pair j hj).2
    rw [e, h5] at this
    omega
theorem QInv.free (h : QInv k m q s) (ht : t < k) (h4 : s.ph t = 4) (hb : s.bl t = 0) : 0 < m ∧ q 0 = t := by
  obtain ⟨j, hj, e⟩ := h.out t ht (by omega)
  cases j with
  | zero => exact ⟨hj, e⟩
  | succ j =>
    have := (h.pair j hj).1
    rw [e, hb] at this
    omega
theorem QInv.own (h : QInv k m q s) (ht : t < k) (h0 : s.ph t = 0) (x y : Int) : QInv k m q { s with nx := upd s.nx t x, bl := upd s.bl t y } := by
  have far : ∀ i, i < m → q i ≠ t := fun i hi e => h.inq i hi (by rw [e]; exact h0)
  refine ⟨h.nd, h.lt, h.tl, h.inq, h.out, fun hm => ?_, fun j hj => ?_, fun hm => ?_⟩
  · show _ ∨ (_ ∧ upd s.bl t y (q 0) = 0)
    rw [upd_other _ _ (far 0 hm)]; exact h.hd hm
  · show upd s.bl t y (q (j + 1)) = 1 ∧ ((_ ∧ _ ∧ upd s.nx t x (q j) = 0) ∨ (_ ∧ upd s.nx t x (q j) = _))
    rw [upd_other _ _ (far _ hj), upd_other _ _ (far j (by omega))]; exact h.pair j hj
  · show upd s.nx t x (q (m - 1)) = 0
    rw [upd_other _ _ (far _ (by omega))]; exact h.last hm
theorem QInv.link (h : QInv k m q s) (ht : t < k) (h3 : s.ph t = 3) : ∃ p, p < k ∧ p ≠ t ∧ s.nx p = 0 ∧ s.ph p ≠ 0 ∧ s.pr t = (p : Int) + 1 ∧ (0 < m ∧ q 0 ≠ t) ∧ QInv k m q { s with nx := upd s.nx p ((t : Int) + 1), ph := upd s.ph t 4 } := by
  obtain ⟨j, hj, e⟩ := h.out t ht (by omega)
  cases j with
  | zero =>
    have := h.hd hj
    rw [e, h3] at this
    omega
  | succ j =>
    obtain ⟨hb, hp⟩ := h.pair j hj
    have hp' : s.pr t = ((q j : Nat) : Int) + 1 ∧ s.nx (q j) = 0 := by
      rcases hp with ⟨_, hp⟩ | ⟨hp, _⟩
      · rwa [e] at hp
      · rw [e, h3] at hp; omega
    refine ⟨q j, h.lt j (by omega), fun e3 => (by have := h.nd j (j + 1) (by omega) hj (by rw [e3, e]); omega), hp'.2, h.inq j (by omega), hp'.1, ⟨by omega, fun e3 => (by have := h.nd 0 (j + 1) (by omega) hj (by rw [e3, e]); omega)⟩, h.nd, h.lt, h.tl, fun i hi => ?_, fun u hu h1 => ?_, fun hm => ?_, fun i hi => ?_, fun hm => ?_⟩
    · show upd s.ph t 4 (q i) ≠ 0
      by_cases e2 : q i = t
      · rw [e2, upd_same]; omega
      · rw [upd_other _ _ e2]; exact h.inq i hi
    · have h1' : upd s.ph t 4 u ≠ 0 := h1
      by_cases e2 : u = t
      · exact ⟨j + 1, hj, by rw [e, e2]⟩
      · rw [upd_other _ _ e2] at h1'
        exact h.out u hu h1'
    · show upd s.ph t 4 (q 0) = 5 ∨ (upd s.ph t 4 (q 0) = 4 ∧ s.bl (q 0) = 0)
      have : q 0 ≠ t := fun e2 => by have := h.nd 0 (j + 1) hm hj (by rw [e2, e]); omega
      rw [upd_other _ _ this]; exact h.hd hm
    · show s.bl (q (i + 1)) = 1 ∧ ((upd s.ph t 4 (q (i + 1)) = 3 ∧ s.pr (q (i + 1)) = ((q i : Nat) : Int) + 1 ∧ upd s.nx (q j) ((t : Int) + 1) (q i) = 0) ∨ (upd s.ph t 4 (q (i + 1)) = 4 ∧ upd s.nx (q j) ((t : Int) + 1) (q i) = ((q (i + 1) : Nat) : Int) + 1))
      by_cases e2 : i = j
      · subst e2
        rw [e, upd_same, upd_same]
        rw [e] at hb
        exact ⟨hb, .inr ⟨rfl, rfl⟩⟩
      · have n1 : q (i + 1) ≠ t := fun e3 => by have := h.nd (i + 1) (j + 1) hi hj (by rw [e3, e]); omega
        have n2 : q i ≠ q j := fun e3 => by have := h.nd i j (by omega) (by omega) e3; omega
        rw [upd_other _ _ n1, upd_other _ _ n2]
        exact h.pair i hi
    · show upd s.nx (q j) ((t : Int) + 1) (q (m - 1)) = 0
      have n2 : q (m - 1) ≠ q j := fun e3 => by have := h.nd (m - 1) j (by omega) (by omega) e3; omega
      rw [upd_other _ _ n2]; exact h.last hm
theorem QInv.empty (h : QInv k m q s) (ht : t < k) (h5 : s.ph t = 5) (hz : s.tail = (t : Int) + 1) : m = 1 ∧ QInv k 0 q { s with tail := 0, ph := upd s.ph t 0 } := by
  obtain ⟨hm, e⟩ := h.first ht h5
  have h1 : m = 1 := by
    have := h.tl
    rw [if_neg (by omega), hz] at this
    have := h.nd (m - 1) 0 (by omega) hm (by rw [e]; omega)
    omega
  subst h1
  refine ⟨rfl, fun i j hi => by omega, fun i hi => by omega, rfl, fun i hi => by omega, fun u hu h1 => ?_, fun hm => by omega, fun j hj => by omega, fun hm => by omega⟩
  exfalso
  have h1' : upd s.ph t 0 u ≠ 0 := h1
  by_cases e2 : u = t
  · rw [e2, upd_same] at h1'; exact h1' rfl
  · rw [upd_other _ _ e2] at h1'
    obtain ⟨j, hj, e3⟩ := h.out u hu h1'
    have : j = 0 := by omega
    rw [this, e] at e3
    exact e2 e3.symm
end
end Go.Proofs.Ytaifeejciglkpaa
set_option linter.unusedVariables false
set_option linter.unusedSimpArgs false
namespace Go.Proofs.Ytaifeejciglkpaa
section
variable {xs : List Int} {c d x y n mode i s : Int} {q : Int → Bool}
theorem own_wait (h1 : wc n i ≠ d) (h2 : pc n i ≠ d) : wordAt (stepI xs n mode i s c q).xs d = wordAt xs d := by
  unfold stepI
  (repeat' split) <;> first | rfl | exact word_far _ h1 | exact word_far _ h2
theorem own_wake {on hit : Bool} (h2 : pc n i ≠ d) : wordAt (wakeI xs n on c i hit).xs d = wordAt xs d := by
  unfold wakeI giveI lookI restI
  (repeat' split) <;> first | rfl | exact word_far _ h2
end
end Go.Proofs.Ytaifeejciglkpaa
set_option linter.unusedVariables false
set_option linter.unusedSimpArgs false
namespace Go.Proofs.Ytaifeejciglkpaa
structure WordsQ (k : Nat) (xs : List Int) (tl : Int) (nx bl : Nat → Int) : Prop where
  len : xs.length = 8 + 4 * k
  t : wordAt xs 0 = tl
  n : ∀ i, i < k → wordAt xs (nc k i) = nx i
  b : ∀ i, i < k → wordAt xs (bc k i) = bl i
section
variable {k : Nat} {xs xs' : List Int} {tl : Int} {nx bl : Nat → Int} {i t : Nat}
theorem nc_at (hk : k ≤ 64) (hi : i < k) : nc (k : Int) (i : Int) = 8 + i := by unfold nc cellI; rw [if_pos (by omega)]; omega
theorem bc_at (hk : k ≤ 64) (hi : i < k) : bc (k : Int) (i : Int) = 8 + k + i := by unfold bc cellI; rw [if_pos (by omega)]; omega
theorem wq_wc (hk : k ≤ 64) (hi : i < k) : wc (k : Int) (i : Int) = 8 + 2 * k + i := by unfold wc cellI; rw [if_pos (by omega)]
theorem wq_pc (hk : k ≤ 64) (hi : i < k) : pc (k : Int) (i : Int) = 8 + 3 * k + i := by unfold pc cellI; rw [if_pos (by omega)]
theorem WordsQ.th (h : WordsQ k xs tl nx bl) {d : Int} (h0 : 0 ≤ d) (h1 : d < 8 + 4 * k) : there xs d = true := by unfold there; rw [decide_eq_true_eq, h.len]; push_cast; omega
theorem WordsQ.tail (h : WordsQ k xs tl nx bl) (hk : k ≤ 64) (x : Int) : WordsQ k (st xs 0 x) x nx bl :=
  ⟨(st_len _ _ _).trans h.len, by rw [word_st, if_pos (h.th (by omega) (by omega))], fun i hi => by rw [word_far _ (by rw [nc_at hk hi]; omega)]; exact h.n i hi, fun i hi => by rw [word_far _ (by rw [bc_at hk hi]; omega)]; exact h.b i hi⟩
theorem WordsQ.setN (h : WordsQ k xs tl nx bl) (hk : k ≤ 64) (ht : t < k) (x : Int) : WordsQ k (st xs (nc k t) x) tl (upd nx t x) bl := by
  refine ⟨(st_len _ _ _).trans h.len, by rw [word_far _ (by rw [nc_at hk ht]; omega)]; exact h.t, fun i hi => ?_, fun i hi => by rw [word_far _ (by rw [bc_at hk hi, nc_at hk ht]; omega)]; exact h.b i hi⟩
  by_cases e : i = t
  · subst e; rw [upd_same, word_st, if_pos (h.th (by rw [nc_at hk hi]; omega) (by rw [nc_at hk hi]; omega))]
  · rw [upd_other _ _ e, word_far _ (by rw [nc_at hk hi, nc_at hk ht]; omega)]; exact h.n i hi
theorem WordsQ.far (h : WordsQ k xs tl nx bl) (hk : k ≤ 64) (hl : xs'.length = xs.length) (hf : ∀ d : Int, 0 ≤ d → d < 8 + 2 * k → wordAt xs' d = wordAt xs d) : WordsQ k xs' tl nx bl :=
  ⟨hl.trans h.len, (hf 0 (by omega) (by omega)).trans h.t, fun i hi => (hf _ (by rw [nc_at hk hi]; omega) (by rw [nc_at hk hi]; omega)).trans (h.n i hi), fun i hi => (hf _ (by rw [bc_at hk hi]; omega) (by rw [bc_at hk hi]; omega)).trans (h.b i hi)⟩
theorem WordsQ.wait (h : WordsQ k xs tl nx bl) (hk : k ≤ 64) (ht : t < k) (mode s c : Int) (q : Int → Bool) : WordsQ k (stepI xs k mode t s c q).xs tl nx bl :=
  h.far hk (by unfold stepI; (repeat' split) <;> first | rfl | exact st_len _ _ _) fun d h0 h1 => own_wait (by rw [wq_wc hk ht]; omega) (by rw [wq_pc hk ht]; omega)
theorem WordsQ.wake (h : WordsQ k xs tl nx bl) (hk : k ≤ 64) (on : Bool) (c i : Int) (hit : Bool) : WordsQ k (wakeI xs k on c i hit).xs tl nx bl :=
  h.far hk (by unfold wakeI giveI lookI restI; (repeat' split) <;> first | rfl | exact st_len _ _ _) fun d h0 h1 => own_wake (by
    unfold pc cellI
    split <;> omega)
end
inductive TaskQ (s : QS) (i : Nat) (stt : Int) (r : LS) : Prop
  | l0 (hs : stt = 0) (ho : r.k.on = false) (hl : r.line = 0) (hp : s.ph i = 0) (h0 : r.s = 0)
  | l1 (hs : stt = 0) (ho : r.k.on = false) (hl : r.line = 1) (hp : s.ph i = 0) (hn : s.nx i = 0) (h0 : r.s = 0)
  | l2 (hs : stt = 0) (ho : r.k.on = false) (hl : r.line = 2) (hp : s.ph i = 0) (hn : s.nx i = 0) (hb : s.bl i = 1) (h0 : r.s = 0)
  | l3 (hs : stt = 0) (ho : r.k.on = false) (hl : r.line = 3) (hp : s.ph i = 3) (ha : r.a = s.pr i) (h0 : r.s = 0)
  | l4 (hs : stt = 0) (hl : r.line = 4) (hp : s.ph i = 4) (h4 : r.s = 4 → s.bl i = 0)
  | isIn (hs : stt = 1) (hp : s.ph i = 5)
  | g6 (hs : stt = 2) (ho : r.k.on = false) (hl : r.line = 6) (hp : s.ph i = 5) (h0 : r.s = 0)
  | g7 (hs : stt = 2) (ho : r.k.on = false) (hl : r.line = 7) (hp : s.ph i = 5) (h0 : r.s = 0)
  | g8 (hs : stt = 2) (ho : r.k.on = false) (hl : r.line = 8) (hp : s.ph i = 5) (h4 : r.s = 4 → r.a = s.nx i ∧ s.nx i ≠ 0)
  | g9 (hs : stt = 2) (ho : r.k.on = false) (hl : r.line = 9) (hp : s.ph i = 5) (ha : r.a = s.nx i) (hn : s.nx i ≠ 0)
  | given (hs : stt = 3) (ho : r.k.on = true) (hp : s.ph i = 0)
theorem TaskQ.other {s s' : QS} {i : Nat} {stt : Int} {r : LS} (h : TaskQ s i stt r) (hp' : s'.ph i = s.ph i) (hr' : s'.pr i = s.pr i) (hn' : s'.nx i = s.nx i ∨ (s.nx i = 0 ∧ s.ph i ≠ 0)) (hb' : s'.bl i = s.bl i ∨ (s'.bl i = 0 ∧ s.ph i ≠ 0)) : TaskQ s' i stt r := by
  cases h with
  | l0 hs ho hl hp h0 => exact .l0 hs ho hl (hp'.trans hp) h0
  | l1 hs ho hl hp hn h0 => exact .l1 hs ho hl (hp'.trans hp) (by omega) h0
  | l2 hs ho hl hp hn hb h0 => exact .l2 hs ho hl (hp'.trans hp) (by omega) (by omega) h0
  | l3 hs ho hl hp ha h0 => exact .l3 hs ho hl (hp'.trans hp) (ha.trans hr'.symm) h0
  | l4 hs hl hp h4 => exact .l4 hs hl (hp'.trans hp) fun e => by have := h4 e; omega
  | isIn hs hp => exact .isIn hs (hp'.trans hp)
  | g6 hs ho hl hp h0 => exact .g6 hs ho hl (hp'.trans hp) h0
  | g7 hs ho hl hp h0 => exact .g7 hs ho hl (hp'.trans hp) h0
  | g8 hs ho hl hp h4 => exact .g8 hs ho hl (hp'.trans hp) fun e => by have := h4 e; omega
  | g9 hs ho hl hp ha hn => exact .g9 hs ho hl (hp'.trans hp) (by omega) (by omega)
  | given hs ho hp => exact .given hs ho (hp'.trans hp)
def aheadQ (m : Nat) (q : Nat → Nat) (s : QS) : Nat := if 0 < m ∧ s.ph (q 0) = 5 then 1 else 0
structure MuInv (k : Nat) (mode : Int) (m : Nat) (q : Nat → Nat) (s : QS) (g : GV) : Prop where
  cst : ∀ i, i < k → (g.rs i).n = k ∧ (g.rs i).mode = mode ∧ (g.rs i).task = i
  qi : QInv k m q s
  ws : WordsQ k g.xs s.tail s.nx s.bl
  tk : ∀ i, i < k → TaskQ s i (g.stt i) (g.rs i)
  ord : ∀ j, g.order[j]? = if j + aheadQ m q s < m then some ((q (j + aheadQ m q s) : Nat) : Int) else none
  ins : 0 ≤ g.ins → ∃ t, t < k ∧ g.stt t = 1
section
variable {k m t : Nat} {mode : Int} {q : Nat → Nat} {s : QS} {g : GV}
theorem MuInv.set (h : MuInv k mode m q s g) {m' : Nat} {q' : Nat → Nat} {s' : QS} {R : LS} {st' : Int} {tm : Nat → Int} {od : List Int} {is : Int} {xs' : List Int} (hc : R.n = k ∧ R.mode = mode ∧ R.task = t) (hq : QInv k m' q' s') (hw : WordsQ k xs' s'.tail s'.nx s'.bl) (ht' : TaskQ s' t st' R)
    (ho : ∀ i, i < k → i ≠ t → s'.ph i = s.ph i ∧ s'.pr i = s.pr i ∧ (s'.nx i = s.nx i ∨ (s.nx i = 0 ∧ s.ph i ≠ 0)) ∧ (s'.bl i = s.bl i ∨ (s'.bl i = 0 ∧ s.ph i ≠ 0)))
    (hd : ∀ j, od[j]? = if j + aheadQ m' q' s' < m' then some ((q' (j + aheadQ m' q' s') : Nat) : Int) else none) (hi : 0 ≤ is → ∃ u, u < k ∧ upd g.stt t st' u = 1) :
    MuInv k mode m' q' s' ⟨upd g.rs t R, upd g.stt t st', tm, od, is, xs'⟩ := by
  refine ⟨fun i hi => ?_, hq, hw, fun i hi => ?_, hd, hi⟩
  · show (upd g.rs t R i).n = _ ∧ (upd g.rs t R i).mode = _ ∧ (upd g.rs t R i).task = _
    by_cases e : i = t
    · subst e; rw [upd_same]; exact hc
    · rw [upd_other _ _ e]; exact h.cst i hi
  · show TaskQ s' i (upd g.stt t st' i) (upd g.rs t R i)
    by_cases e : i = t
    · subst e; rw [upd_same, upd_same]; exact ht'
    · rw [upd_other _ _ e, upd_other _ _ e]
      obtain ⟨h1, h2, h3, h4⟩ := ho i hi e
      exact (h.tk i hi).other h1 h2 h3 h4
end
end Go.Proofs.Ytaifeejciglkpaa
