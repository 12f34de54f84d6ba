import Derived.Test.YtaifeejciglkpaaMF2
set_option linter.unusedVariables false
set_option linter.unusedSimpArgs false
namespace Go.Proofs.Ytaifeejciglkpaa
open Go.RowKit
structure Acc5 where
  k : Int
  c : Int
  x : Int
  y : Int
  o : Int
def Acc5.v (a : Acc5) : Value := .agg #[.int .i64 a.k, .int .i64 a.c, .int .u32 a.x, .int .u32 a.y, .int .u32 a.o]
def acc0 : Acc5 := ⟨0, 0, 0, 0, 0⟩
def accI (xs : List Int) (k c x y : Int) : Acc5 := if doOk xs k c then ⟨k, c, x, y, wordAt xs c⟩ else acc0
theorem doVal_acc (xs : List Int) (k c x y : Int) : doVal xs k c x y = (accI xs k c x y).v := by
  unfold doVal accI accOf
  split <;> rfl
theorem acc_old {xs : List Int} {k c x y : Int} (hk : isKind k = true) : (accI xs k c x y).o = wordAt xs c := by
  unfold accI
  by_cases h : doOk xs k c = true
  · rw [if_pos h]
  · rw [if_neg h]
    have ht : there xs c = false := by
      cases e : there xs c
      · rfl
      · exact absurd (by simp [doOk, e, hk]) h
    simp [wordAt, ht, acc0]
def ofV : Value → Acc5
  | .agg ⟨[.int _ k, .int _ c, .int _ x, .int _ y, .int _ o]⟩ => ⟨k, c, x, y, o⟩
  | _ => acc0
theorem ofV_eq {v : Value} (h : ∃ ka ca xa ya oa : Int, v = .agg #[.int .i64 ka, .int .i64 ca, .int .u32 xa, .int .u32 ya, .int .u32 oa]) : v = (ofV v).v := by
  obtain ⟨ka, ca, xa, ya, oa, rfl⟩ := h
  rfl
theorem ofV_step (xs : List Int) (n mode i s c : Int) (q : Int → Bool) : (stepI xs n mode i s c q).acc = (ofV (stepI xs n mode i s c q).acc).v := by
  obtain ⟨ka, ca, xa, ya, oa, h, _⟩ := step_access xs n mode i s c q
  exact ofV_eq ⟨ka, ca, xa, ya, oa, h⟩
theorem wake_form5 (xs : List Int) (n : Int) (on : Bool) (c i : Int) (hit : Bool) : ∃ ka ca xa ya oa : Int, (wakeI xs n on c i hit).acc = .agg #[.int .i64 ka, .int .i64 ca, .int .u32 xa, .int .u32 ya, .int .u32 oa] := by
  have hv := fun k c x y => doVal_form xs k c x y
  unfold wakeI giveI lookI restI
  repeat' split
  all_goals first | exact ⟨0, 0, 0, 0, 0, rfl⟩ | (obtain ⟨k', c', x', y', e⟩ := hv 2 (pc n i) 1 0; exact ⟨_, _, _, _, _, e⟩) | (obtain ⟨k', c', x', y', e⟩ := hv 1 (wc n i) 0 0; exact ⟨_, _, _, _, _, e⟩)
theorem ofV_wake (xs : List Int) (n : Int) (on : Bool) (c i : Int) (hit : Bool) : (wakeI xs n on c i hit).acc = (ofV (wakeI xs n on c i hit).acc).v := ofV_eq (wake_form5 xs n on c i hit)
structure LS where
  n : Int
  mode : Int
  task : Int
  op : Int
  line : Int
  a : Int
  b : Int
  s : Int
  k : WkV
  ret : Int
  acc : Acc5
  ns : List Nt
  xs : List Int
def LS.cells (r : LS) (h nv : Value) : Array Value :=
  #[h, .int .i64 r.n, .int .i64 r.mode, .int .i64 r.task, .int .i64 r.op, .int .i64 r.line, .int .u32 r.a, .int .u32 r.b, .int .i64 r.s, .bool r.k.on, .int .i64 r.k.c, .int .i64 r.k.i, .bool r.k.hit, .int .i64 r.ret,
    .int .i64 r.acc.k, .int .i64 r.acc.c, .int .u32 r.acc.x, .int .u32 r.acc.y, .int .u32 r.acc.o, nv]
def LS.frame (r : LS) : Array Value := #[.int .i64 r.op, .int .i64 r.line, .int .u32 r.a, .int .u32 r.b, .int .i64 r.s, .bool r.k.on, .int .i64 r.k.c, .int .i64 r.k.i, .bool r.k.hit, .int .i64 r.ret]
def LS.doA (r : LS) (k c x y : Int) : LS := { r with acc := accI r.xs k c x y, xs := doNew r.xs k c x y }
def LS.stepR (r : LS) (c : Int) (q : Int → Bool) : StepR := stepI r.xs r.n r.mode r.task r.s c q
def LS.wait (r : LS) (c : Int) (q : Int → Bool) : LS := { r with s := (r.stepR c q).next, acc := ofV (r.stepR c q).acc, xs := (r.stepR c q).xs }
def LS.note (r : LS) (what arg : Int) : LS := { r with ns := r.ns ++ [⟨r.task, what, 0, arg⟩] }
def LS.go (r : LS) (l : Int) : LS := { r with line := l }
def LS.wake (r : LS) (c : Int) : LS := { r with k := beginI r.mode c }
def LS.fresh (r : LS) : LS := { r with acc := acc0, ns := [] }
def LS.wakeR (r : LS) : WakeR := wakeI r.xs r.n r.k.on r.k.c r.k.i r.k.hit
def LS.waking (r : LS) : LS := { r with acc := ofV r.wakeR.acc, ns := [], k := r.wakeR.next, xs := r.wakeR.xs }
def LS.over (r : LS) : Bool := (r.ret != 0) && !r.k.on
def LS.stuck (r : LS) : Bool := !r.k.on && stuckB r.xs r.n r.mode r.task r.s
structure OpR where
  r : LS
  v : Int
  b : Bool
  c : Bool
def bitI (b : Bool) : Int := if b then 1 else 0
def OpR.out (t : OpR) : List Int := [t.v, bitI t.b, bitI t.c]
structure LS.Keeps (r r' : LS) : Prop where
  n : r'.n = r.n
  mode : r'.mode = r.mode
  task : r'.task = r.task
  len : r'.xs.length = r.xs.length
  words : Words r.xs → Words r'.xs
theorem LS.Keeps.refl (r : LS) : r.Keeps r := ⟨rfl, rfl, rfl, rfl, id⟩
theorem LS.Keeps.trans {r r' r'' : LS} (h : r.Keeps r') (k : r'.Keeps r'') : r.Keeps r'' := ⟨k.n.trans h.n, k.mode.trans h.mode, k.task.trans h.task, k.len.trans h.len, k.words ∘ h.words⟩
end Go.Proofs.Ytaifeejciglkpaa
set_option linter.unusedVariables false
set_option linter.unusedSimpArgs false
namespace Go.Proofs.Ytaifeejciglkpaa
open Go.RowKit
def LS.next (L : LS → LS) (r : LS) : LS := if r.k.on then r.waking else L r.fresh
end Go.Proofs.Ytaifeejciglkpaa
set_option linter.unusedVariables false
set_option linter.unusedSimpArgs false
namespace Go.Proofs.Ytaifeejciglkpaa
open Go.RowKit
def LS.keepA (r : LS) (v : Int) : LS := { r with a := v }
def LS.keepB (r : LS) (v : Int) : LS := { r with b := v }
end Go.Proofs.Ytaifeejciglkpaa
set_option linter.unusedVariables false
set_option linter.unusedSimpArgs false
namespace Go.Proofs.Ytaifeejciglkpaa
open Go.RowKit
def nc (n i : Int) : Int := cellI n 0 i
def bc (n i : Int) : Int := cellI n 1 i
def LS.me (r : LS) : Int := (r.task + 1) % 4294967296
def isZ (v : Int) : Bool := v == 0
def isN (v : Int) : Bool := v != 0
def LS.notes (r : LS) (whats : List Int) : LS := whats.foldl (fun r w => r.note w 0) r
def LS.link (r : LS) : LS := (((r.doA 2 (nc r.n (r.a - 1)) r.me 0).wake (nc r.n (r.a - 1))).go 4)
def LS.swapIn (r : LS) (tail cl : Int) : LS := ((r.doA 4 tail r.me 0).keepA (wordAt r.xs tail)).note 2 cl
def LS.mxEnter (r : LS) (tail cl : Int) : LS × Bool :=
  if r.line = 0 then ((r.doA 2 (nc r.n r.task) 0 0).go 1, false)
  else if r.line = 1 then ((r.doA 2 (bc r.n r.task) 1 0).go 2, false)
  else if r.line = 2 then (if wordAt r.xs tail = 0 then (r.swapIn tail cl, true) else ((r.swapIn tail cl).go 3, false))
  else if r.line = 3 then (r.link, false)
  else if r.line = 4 then (r.wait (bc r.n r.task) isZ, (r.stepR (bc r.n r.task) isZ).done)
  else (r, false)
def LS.seeN (r : LS) : LS := if (r.stepR (nc r.n r.task) isN).seen then (r.wait (nc r.n r.task) isN).keepA (wordAt r.xs (nc r.n r.task)) else r.wait (nc r.n r.task) isN
def LS.handOn (r : LS) (whats : List Int) : LS := ((r.doA 2 (bc r.n (r.a - 1)) 0 0).notes whats).wake (bc r.n (r.a - 1))
def LS.peek (r : LS) : LS := (r.doA 1 (nc r.n r.task) 0 0).keepA (wordAt r.xs (nc r.n r.task))
def LS.casOut (r : LS) (tail : Int) : Bool := there r.xs tail && (wordAt r.xs tail == r.me)
def LS.mxGive (r : LS) (tail a : Int) (whats : List Int) : LS × Bool :=
  if r.line = a then (if wordAt r.xs (nc r.n r.task) = 0 then r.peek.go (a + 1) else r.peek.go (a + 3), false)
  else if r.line = a + 1 then (if r.casOut tail then ((r.doA 5 tail r.me 0).notes whats, true) else ((r.doA 5 tail r.me 0).go (a + 2), false))
  else if r.line = a + 2 then (if (r.stepR (nc r.n r.task) isN).done then r.seeN.go (a + 3) else r.seeN, false)
  else if r.line = a + 3 then (r.handOn whats, true)
  else (r, false)
end Go.Proofs.Ytaifeejciglkpaa
set_option linter.unusedVariables false
set_option linter.unusedSimpArgs false
namespace Go.Proofs.Ytaifeejciglkpaa
open Go.RowKit
section
variable {os : List Int} {k : Nat}
end
section
variable {chk : LS → Bool} {L : LS → LS} {r : LS}
end
end Go.Proofs.Ytaifeejciglkpaa
set_option linter.unusedVariables false
set_option linter.unusedSimpArgs false
namespace Go.Proofs.Ytaifeejciglkpaa
open Go.RowKit
def upd {α : Type} (f : Nat → α) (t : Nat) (v : α) : Nat → α := fun i => if i = t then v else f i
theorem upd_same {α : Type} (f : Nat → α) (t : Nat) (v : α) : upd f t v t = v := if_pos rfl
theorem upd_other {α : Type} (f : Nat → α) {t i : Nat} (v : α) (h : i ≠ t) : upd f t v i = f i := if_neg h
structure MV where
  rs : Nat → LS
  hold : Nat → Int
  xs : List Int
def MV.at (m : MV) (t : Nat) : LS := { m.rs t with xs := m.xs }
def MV.setR (m : MV) (t : Nat) (r : LS) : MV := ⟨upd m.rs t r, m.hold, r.xs⟩
def MV.setH (m : MV) (t : Nat) (h : Int) : MV := ⟨m.rs, upd m.hold t h, m.xs⟩
def zeroF (r : LS) (op : Int) : LS := { r with op := op, line := 0, a := 0, b := 0, s := 0, k := wk0, ret := 0 }
def fromI (op hold : Int) : Int := if op = 2 ∨ op = 4 then 0 else if op = 8 then 1 else hold
def behindI (op ret hold : Int) : Int := if ret ≠ 2 then hold else if op = 1 ∨ op = 5 then 1 else if op = 3 ∨ op = 6 ∨ op = 7 then 2 else hold
def MV.start (m : MV) (t : Nat) (op : Int) : MV := (m.setH t (fromI op (m.hold t))).setR t (zeroF (m.at t) op)
def MV.go (L : LS → LS) (m : MV) (t : Nat) : MV :=
  if (m.at t).stuck then m
  else if ((m.at t).next L).over then ((m.setR t ((m.at t).next L)).setH t (behindI ((m.at t).next L).op ((m.at t).next L).ret (m.hold t))).setR t (zeroF ((m.at t).next L) 0)
  else m.setR t ((m.at t).next L)
section
variable {m : MV} {t i : Nat} {r : LS} {h : Int}
end
end Go.Proofs.Ytaifeejciglkpaa
set_option linter.unusedVariables false
set_option linter.unusedSimpArgs false
namespace Go.Proofs.Ytaifeejciglkpaa
open Go.RowKit
structure GV where
  rs : Nat → LS
  stt : Nat → Int
  times : Nat → Int
  order : List Int
  ins : Int
  xs : List Int
def GV.at (g : GV) (t : Nat) : LS := { g.rs t with xs := g.xs }
def zeroL (r : LS) (line : Int) : LS := { r with op := 0, line := line, a := 0, b := 0, s := 0, k := wk0, ret := 0 }
def LS.mxStep (r : LS) (s : Int) : LS × Bool := if r.k.on then (r.waking, false) else if s = 0 then r.fresh.mxEnter 0 2 else r.fresh.mxGive 0 6 [8]
def regs (r : LS) (t : Nat) : List Int := (r.ns.filter (fun n => n.w == 2)).map (fun _ => (t : Int))
def GV.rest (g : GV) (t : Nat) : GV := if g.stt t = 3 ∧ (g.rs t).k.on = false then { g with stt := upd g.stt t 0, rs := upd g.rs t (zeroL (g.rs t) 0) } else g
def GV.after (g : GV) (t : Nat) (p : LS × Bool) : GV := { g with rs := upd g.rs t p.1, xs := p.1.xs, order := g.order ++ regs p.1 t }
def GV.pick (g : GV) (t : Nat) : Option GV :=
  if g.stt t = 1 then some { g with stt := upd g.stt t 2, ins := -1, rs := upd g.rs t (zeroL (g.rs t) 6) }
  else if ((g.at t).mxStep (g.stt t)).2 = true ∧ g.stt t = 0 then
    (match (g.after t ((g.at t).mxStep (g.stt t))).order with
     | [] => none
     | o :: os => if 0 ≤ g.ins ∨ o ≠ t then none
        else some { g.after t ((g.at t).mxStep (g.stt t)) with order := os, ins := t, stt := upd g.stt t 1, times := upd g.times t (g.times t + 1), rs := upd g.rs t (zeroL ((g.at t).mxStep (g.stt t)).1 0) })
  else if ((g.at t).mxStep (g.stt t)).2 then some ({ g.after t ((g.at t).mxStep (g.stt t)) with stt := upd g.stt t 3 }.rest t)
  else some ((g.after t ((g.at t).mxStep (g.stt t))).rest t)
end Go.Proofs.Ytaifeejciglkpaa
set_option linter.unusedVariables false
set_option linter.unusedSimpArgs false
namespace Go.Proofs.Ytaifeejciglkpaa
structure QS where
  tail : Int
  nx : Nat → Int
  bl : Nat → Int
  ph : Nat → Nat
  pr : Nat → Int
structure QInv (k m : Nat) (q : Nat → Nat) (s : QS) : Prop where
  nd : ∀ i j, i < m → j < m → q i = q j → i = j
  lt : ∀ i, i < m → q i < k
  tl : s.tail = if m = 0 then 0 else ((q (m - 1) : Nat) : Int) + 1
  inq : ∀ i, i < m → s.ph (q i) ≠ 0
  out : ∀ t, t < k → s.ph t ≠ 0 → ∃ j, j < m ∧ q j = t
  hd : 0 < m → s.ph (q 0) = 5 ∨ (s.ph (q 0) = 4 ∧ s.bl (q 0) = 0)
  pair : ∀ j, j + 1 < m → s.bl (q (j + 1)) = 1 ∧ ((s.ph (q (j + 1)) = 3 ∧ s.pr (q (j + 1)) = ((q j : Nat) : Int) + 1 ∧ s.nx (q j) = 0) ∨ (s.ph (q (j + 1)) = 4 ∧ s.nx (q j) = ((q (j + 1) : Nat) : Int) + 1))
  last : 0 < m → s.nx (q (m - 1)) = 0
section
variable {k m t : Nat} {q : Nat → Nat} {s : QS}
theorem QInv.first (h : QInv k m q s) (ht : t < k) (h5 : s.ph t = 5) : 0 < m ∧ q 0 = t := by
  obtain ⟨j, hj, e⟩ := h.out t ht (by omega)
  cases j with
  | zero => exact ⟨hj, e⟩
  | succ j =>
    have := (h.pair j hj).2
    rw [e, h5] at this
    omega
theorem QInv.free (h : QInv k m q s) (ht : t < k) (h4 : s.ph t = 4) (hb : s.bl t = 0) : 0 < m ∧ q 0 = t := by
  obtain ⟨j, hj, e⟩ := h.out t ht (by omega)
  cases j with
  | zero => exact ⟨hj, e⟩
  | succ j =>
    have := (h.pair j hj).1
    rw [e, hb] at this
    omega
theorem QInv.own (h : QInv k m q s) (ht : t < k) (h0 : s.ph t = 0) (x y : Int) : QInv k m q { s with nx := upd s.nx t x, bl := upd s.bl t y } := by
  have far : ∀ i, i < m → q i ≠ t := fun i hi e => h.inq i hi (by rw [e]; exact h0)
  refine ⟨h.nd, h.lt, h.tl, h.inq, h.out, fun hm => ?_, fun j hj => ?_, fun hm => ?_⟩
  · show _ ∨ (_ ∧ upd s.bl t y (q 0) = 0)
    rw [upd_other _ _ (far 0 hm)]; exact h.hd hm
  · show upd s.bl t y (q (j + 1)) = 1 ∧ ((_ ∧ _ ∧ upd s.nx t x (q j) = 0) ∨ (_ ∧ upd s.nx t x (q j) = _))
    rw [upd_other _ _ (far _ hj), upd_other _ _ (far j (by omega))]; exact h.pair j hj
  · show upd s.nx t x (q (m - 1)) = 0
    rw [upd_other _ _ (far _ (by omega))]; exact h.last hm
theorem QInv.swap0 (h : QInv k m q s) (ht : t < k) (h0 : s.ph t = 0) (hn : s.nx t = 0) (hz : s.tail = 0) : m = 0 ∧ QInv k 1 (fun _ => t) { s with tail := (t : Int) + 1, ph := upd s.ph t 5 } := by
  have hm : m = 0 := by
    by_cases e : m = 0
    · exact e
    · have := h.tl
      rw [if_neg e, hz] at this
      omega
  subst hm
  refine ⟨rfl, fun i j hi hj _ => by omega, fun _ _ => ht, by simp, fun i hi => ?_, fun u hu h1 => ⟨0, by omega, ?_⟩, fun _ => .inl ?_, fun j hj => by omega, fun _ => hn⟩
  · show upd s.ph t 5 t ≠ 0
    rw [upd_same]; omega
  · by_cases e : u = t
    · exact e.symm
    · exfalso
      have h1' : upd s.ph t 5 u ≠ 0 := h1
      rw [upd_other _ _ e] at h1'
      obtain ⟨j, hj, _⟩ := h.out u hu h1'
      omega
  · exact upd_same _ _ _
theorem QInv.swap1 (h : QInv k m q s) (ht : t < k) (h0 : s.ph t = 0) (hn : s.nx t = 0) (hb : s.bl t = 1) (hz : s.tail ≠ 0) : 0 < m ∧ QInv k (m + 1) (upd q m t) { s with tail := (t : Int) + 1, ph := upd s.ph t 3, pr := upd s.pr t s.tail } := by
  have hm : 0 < m := by
    by_cases e : m = 0
    · exact absurd (by rw [h.tl, if_pos e]) hz
    · omega
  have far : ∀ i, i < m → q i ≠ t := fun i hi e => h.inq i hi (by rw [e]; exact h0)
  have old : ∀ i, i < m → upd q m t i = q i := fun i hi => upd_other _ _ (by omega)
  have new : upd q m t m = t := upd_same _ _ _
  have hpo : ∀ i, i < m → upd s.ph t 3 (q i) = s.ph (q i) := fun i hi => upd_other _ _ (far i hi)
  have hro : ∀ i, i < m → upd s.pr t s.tail (q i) = s.pr (q i) := fun i hi => upd_other _ _ (far i hi)
  refine ⟨hm, fun i j hi hj e => ?_, fun i hi => ?_, ?_, fun i hi => ?_, fun u hu h1 => ?_, fun _ => ?_, fun j hj => ?_, fun _ => ?_⟩
  · by_cases ei : i = m
    · by_cases ej : j = m
      · omega
      · rw [ei, new, old j (by omega)] at e
        exact absurd e.symm (far j (by omega))
    · by_cases ej : j = m
      · rw [ej, new, old i (by omega)] at e
        exact absurd e (far i (by omega))
      · rw [old i (by omega), old j (by omega)] at e
        exact h.nd i j (by omega) (by omega) e
  · by_cases e : i = m
    · rw [e, new]; exact ht
    · rw [old i (by omega)]; exact h.lt i (by omega)
  · show (t : Int) + 1 = _
    rw [if_neg (by omega), Nat.add_sub_cancel, new]
  · show upd s.ph t 3 (upd q m t i) ≠ 0
    by_cases e : i = m
    · rw [e, new, upd_same]; omega
    · rw [old i (by omega), hpo i (by omega)]; exact h.inq i (by omega)
  · by_cases e : u = t
    · exact ⟨m, by omega, by rw [new, e]⟩
    · have h1' : upd s.ph t 3 u ≠ 0 := h1
      rw [upd_other _ _ e] at h1'
      obtain ⟨j, hj, e2⟩ := h.out u hu h1'
      exact ⟨j, by omega, by rw [old j hj, e2]⟩
  · show upd s.ph t 3 (upd q m t 0) = 5 ∨ (upd s.ph t 3 (upd q m t 0) = 4 ∧ s.bl (upd q m t 0) = 0)
    rw [old 0 hm, hpo 0 hm]; exact h.hd hm
  · show s.bl (upd q m t (j + 1)) = 1 ∧ ((upd s.ph t 3 (upd q m t (j + 1)) = 3 ∧ upd s.pr t s.tail (upd q m t (j + 1)) = ((upd q m t j : Nat) : Int) + 1 ∧ s.nx (upd q m t j) = 0) ∨ (upd s.ph t 3 (upd q m t (j + 1)) = 4 ∧ s.nx (upd q m t j) = ((upd q m t (j + 1) : Nat) : Int) + 1))
    by_cases e : j + 1 = m
    · rw [e, new, old j (by omega), upd_same, upd_same]
      have e1 : m - 1 = j := by omega
      refine ⟨hb, .inl ⟨rfl, ?_, ?_⟩⟩
      · rw [h.tl, if_neg (by omega), e1]
      · have := h.last hm
        rwa [e1] at this
    · rw [old (j + 1) (by omega), old j (by omega), hpo (j + 1) (by omega), hro (j + 1) (by omega)]
      exact h.pair j (by omega)
  · show s.nx (upd q m t (m + 1 - 1)) = 0
    rw [Nat.add_sub_cancel, new]; exact hn
theorem QInv.link (h : QInv k m q s) (ht : t < k) (h3 : s.ph t = 3) : ∃ p, p < k ∧ p ≠ t ∧ s.nx p = 0 ∧ s.ph p ≠ 0 ∧ s.pr t = (p : Int) + 1 ∧ (0 < m ∧ q 0 ≠ t) ∧ QInv k m q { s with nx := upd s.nx p ((t : Int) + 1), ph := upd s.ph t 4 } := by
  obtain ⟨j, hj, e⟩ := h.out t ht (by omega)
  cases j with
  | zero =>
    have := h.hd hj
    rw [e, h3] at this
    omega
  | succ j =>
    obtain ⟨hb, hp⟩ := h.pair j hj
    have hp' : s.pr t = ((q j : Nat) : Int) + 1 ∧ s.nx (q j) = 0 := by
      rcases hp with ⟨_, hp⟩ | ⟨hp, _⟩
      · rwa [e] at hp
      · rw [e, h3] at hp; omega
    refine ⟨q j, h.lt j (by omega), fun e3 => (by have := h.nd j (j + 1) (by omega) hj (by rw [e3, e]); omega), hp'.2, h.inq j (by omega), hp'.1, ⟨by omega, fun e3 => (by have := h.nd 0 (j + 1) (by omega) hj (by rw [e3, e]); omega)⟩, h.nd, h.lt, h.tl, fun i hi => ?_, fun u hu h1 => ?_, fun hm => ?_, fun i hi => ?_, fun hm => ?_⟩
    · show upd s.ph t 4 (q i) ≠ 0
      by_cases e2 : q i = t
      · rw [e2, upd_same]; omega
      · rw [upd_other _ _ e2]; exact h.inq i hi
    · have h1' : upd s.ph t 4 u ≠ 0 := h1
      by_cases e2 : u = t
      · exact ⟨j + 1, hj, by rw [e, e2]⟩
      · rw [upd_other _ _ e2] at h1'
        exact h.out u hu h1'
    · show upd s.ph t 4 (q 0) = 5 ∨ (upd s.ph t 4 (q 0) = 4 ∧ s.bl (q 0) = 0)
      have : q 0 ≠ t := fun e2 => by have := h.nd 0 (j + 1) hm hj (by rw [e2, e]); omega
      rw [upd_other _ _ this]; exact h.hd hm
    · show s.bl (q (i + 1)) = 1 ∧ ((upd s.ph t 4 (q (i + 1)) = 3 ∧ s.pr (q (i + 1)) = ((q i : Nat) : Int) + 1 ∧ upd s.nx (q j) ((t : Int) + 1) (q i) = 0) ∨ (upd s.ph t 4 (q (i + 1)) = 4 ∧ upd s.nx (q j) ((t : Int) + 1) (q i) = ((q (i + 1) : Nat) : Int) + 1))
      by_cases e2 : i = j
      · subst e2
        rw [e, upd_same, upd_same]
        rw [e] at hb
        exact ⟨hb, .inr ⟨rfl, rfl⟩⟩
      · have n1 : q (i + 1) ≠ t := fun e3 => by have := h.nd (i + 1) (j + 1) hi hj (by rw [e3, e]); omega
        have n2 : q i ≠ q j := fun e3 => by have := h.nd i j (by omega) (by omega) e3; omega
        rw [upd_other _ _ n1, upd_other _ _ n2]
        exact h.pair i hi
    · show upd s.nx (q j) ((t : Int) + 1) (q (m - 1)) = 0
      have n2 : q (m - 1) ≠ q j := fun e3 => by have := h.nd (m - 1) j (by omega) (by omega) e3; omega
      rw [upd_other _ _ n2]; exact h.last hm
theorem QInv.enter (h : QInv k m q s) (ht : t < k) (h4 : s.ph t = 4) (hb : s.bl t = 0) : 0 < m ∧ q 0 = t ∧ QInv k m q { s with ph := upd s.ph t 5 } := by
  obtain ⟨hm, e⟩ := h.free ht h4 hb
  have far : ∀ j, j + 1 < m → q (j + 1) ≠ t := fun j hj e2 => by have := h.nd 0 (j + 1) hm hj (by rw [e, e2]); omega
  refine ⟨hm, e, h.nd, h.lt, h.tl, fun i hi => ?_, fun u hu h1 => ?_, fun _ => .inl ?_, fun j hj => ?_, h.last⟩
  · show upd s.ph t 5 (q i) ≠ 0
    by_cases e2 : q i = t
    · rw [e2, upd_same]; omega
    · rw [upd_other _ _ e2]; exact h.inq i hi
  · have h1' : upd s.ph t 5 u ≠ 0 := h1
    by_cases e2 : u = t
    · exact ⟨0, hm, by rw [e, e2]⟩
    · rw [upd_other _ _ e2] at h1'
      exact h.out u hu h1'
  · show upd s.ph t 5 (q 0) = 5
    rw [e, upd_same]
  · show s.bl (q (j + 1)) = 1 ∧ ((upd s.ph t 5 (q (j + 1)) = 3 ∧ _ ∧ _) ∨ (upd s.ph t 5 (q (j + 1)) = 4 ∧ _))
    rw [upd_other _ _ (far j hj)]
    exact h.pair j hj
theorem QInv.empty (h : QInv k m q s) (ht : t < k) (h5 : s.ph t = 5) (hz : s.tail = (t : Int) + 1) : m = 1 ∧ QInv k 0 q { s with tail := 0, ph := upd s.ph t 0 } := by
  obtain ⟨hm, e⟩ := h.first ht h5
  have h1 : m = 1 := by
    have := h.tl
    rw [if_neg (by omega), hz] at this
    have := h.nd (m - 1) 0 (by omega) hm (by rw [e]; omega)
    omega
  subst h1
  refine ⟨rfl, fun i j hi => by omega, fun i hi => by omega, rfl, fun i hi => by omega, fun u hu h1 => ?_, fun hm => by omega, fun j hj => by omega, fun hm => by omega⟩
  exfalso
  have h1' : upd s.ph t 0 u ≠ 0 := h1
  by_cases e2 : u = t
  · rw [e2, upd_same] at h1'; exact h1' rfl
  · rw [upd_other _ _ e2] at h1'
    obtain ⟨j, hj, e3⟩ := h.out u hu h1'
    have : j = 0 := by omega
    rw [this, e] at e3
    exact e2 e3.symm
theorem QInv.hand (h : QInv k m q s) (ht : t < k) (h5 : s.ph t = 5) (hz : s.nx t ≠ 0) : ∃ p, p < k ∧ p ≠ t ∧ s.nx t = (p : Int) + 1 ∧ 1 < m ∧ q 1 = p ∧ s.ph p = 4 ∧ QInv k (m - 1) (fun j => q (j + 1)) { s with bl := upd s.bl p 0, ph := upd s.ph t 0 } := by
  obtain ⟨hm, e⟩ := h.first ht h5
  have h1 : 1 < m := by
    by_cases e1 : m = 1
    · have := h.last hm
      rw [e1, show 1 - 1 = 0 from rfl, e] at this
      exact absurd this hz
    · omega
  obtain ⟨_, hp⟩ := h.pair 0 h1
  rw [e] at hp
  have hp' : s.ph (q 1) = 4 ∧ s.nx t = ((q 1 : Nat) : Int) + 1 := by
    rcases hp with ⟨_, _, hp⟩ | hp
    · exact absurd hp hz
    · exact hp
  have hne : ∀ j, j + 1 < m → q (j + 1) ≠ t := fun j hj e2 => by have := h.nd 0 (j + 1) hm hj (by rw [e, e2]); omega
  refine ⟨q 1, h.lt 1 h1, hne 0 h1, hp'.2, h1, rfl, hp'.1, fun i j hi hj e2 => ?_, fun i hi => h.lt _ (by omega), ?_, fun i hi => ?_, fun u hu h1' => ?_, fun _ => .inr ⟨?_, ?_⟩, fun j hj => ?_, fun hm => ?_⟩
  · have := h.nd (i + 1) (j + 1) (by omega) (by omega) e2; omega
  · show s.tail = _
    rw [h.tl, if_neg (by omega), if_neg (by omega), show m - 1 - 1 + 1 = m - 1 by omega]
  · show upd s.ph t 0 (q (i + 1)) ≠ 0
    rw [upd_other _ _ (hne i (by omega))]; exact h.inq _ (by omega)
  · have h1'' : upd s.ph t 0 u ≠ 0 := h1'
    by_cases e2 : u = t
    · rw [e2, upd_same] at h1''; exact absurd rfl h1''
    · rw [upd_other _ _ e2] at h1''
      obtain ⟨j, hj, e3⟩ := h.out u hu h1''
      cases j with
      | zero => rw [e] at e3; exact absurd e3.symm e2
      | succ j => exact ⟨j, by omega, e3⟩
  · show upd s.ph t 0 (q (0 + 1)) = 4
    rw [upd_other _ _ (hne 0 h1)]; exact hp'.1
  · show upd s.bl (q 1) 0 (q (0 + 1)) = 0
    rw [upd_same]
  · show upd s.bl (q 1) 0 (q (j + 1 + 1)) = 1 ∧ ((upd s.ph t 0 (q (j + 1 + 1)) = 3 ∧ _ ∧ _) ∨ (upd s.ph t 0 (q (j + 1 + 1)) = 4 ∧ _))
    have n1 : q (j + 1 + 1) ≠ q 1 := fun e3 => by have := h.nd (j + 1 + 1) 1 (by omega) h1 e3; omega
    rw [upd_other _ _ n1, upd_other _ _ (hne (j + 1) (by omega))]
    exact h.pair (j + 1) (by omega)
  · show s.nx (q (m - 1 - 1 + 1)) = 0
    rw [show m - 1 - 1 + 1 = m - 1 by omega]
    exact h.last (by omega)
end
end Go.Proofs.Ytaifeejciglkpaa
set_option linter.unusedVariables false
set_option linter.unusedSimpArgs false
namespace Go.Proofs.Ytaifeejciglkpaa
section
variable {xs : List Int} {c d x y n mode i s : Int} {q : Int → Bool}
theorem own_load : doNew xs 1 c 0 0 = xs := by
  rw [doNew_st _ _ _ _ _ rfl]; exact st_word xs c
theorem own_wait (h1 : wc n i ≠ d) (h2 : pc n i ≠ d) : wordAt (stepI xs n mode i s c q).xs d = wordAt xs d := by
  unfold stepI
  (repeat' split) <;> first | rfl | exact word_far _ h1 | exact word_far _ h2
theorem own_wake {on hit : Bool} (h2 : pc n i ≠ d) : wordAt (wakeI xs n on c i hit).xs d = wordAt xs d := by
  unfold wakeI giveI lookI restI
  (repeat' split) <;> first | rfl | exact word_far _ h2
end
end Go.Proofs.Ytaifeejciglkpaa
set_option linter.unusedVariables false
set_option linter.unusedSimpArgs false
namespace Go.Proofs.Ytaifeejciglkpaa
theorem upd_self {α : Type} (f : Nat → α) (t : Nat) : upd f t (f t) = f := by
  funext i; unfold upd; split
  · rename_i h; rw [h]
  · rfl
theorem upd_upd {α : Type} (f : Nat → α) (t : Nat) (u v : α) : upd (upd f t u) t v = upd f t v := by
  funext i; unfold upd; split <;> rfl
structure WordsQ (k : Nat) (xs : List Int) (tl : Int) (nx bl : Nat → Int) : Prop where
  len : xs.length = 8 + 4 * k
  t : wordAt xs 0 = tl
  n : ∀ i, i < k → wordAt xs (nc k i) = nx i
  b : ∀ i, i < k → wordAt xs (bc k i) = bl i
section
variable {k : Nat} {xs xs' : List Int} {tl : Int} {nx bl : Nat → Int} {i t : Nat}
theorem nc_at (hk : k ≤ 64) (hi : i < k) : nc (k : Int) (i : Int) = 8 + i := by unfold nc cellI; rw [if_pos (by omega)]; omega
theorem bc_at (hk : k ≤ 64) (hi : i < k) : bc (k : Int) (i : Int) = 8 + k + i := by unfold bc cellI; rw [if_pos (by omega)]; omega
theorem wq_wc (hk : k ≤ 64) (hi : i < k) : wc (k : Int) (i : Int) = 8 + 2 * k + i := by unfold wc cellI; rw [if_pos (by omega)]
theorem wq_pc (hk : k ≤ 64) (hi : i < k) : pc (k : Int) (i : Int) = 8 + 3 * k + i := by unfold pc cellI; rw [if_pos (by omega)]
theorem WordsQ.th (h : WordsQ k xs tl nx bl) {d : Int} (h0 : 0 ≤ d) (h1 : d < 8 + 4 * k) : there xs d = true := by unfold there; rw [decide_eq_true_eq, h.len]; push_cast; omega
theorem WordsQ.tail (h : WordsQ k xs tl nx bl) (hk : k ≤ 64) (x : Int) : WordsQ k (st xs 0 x) x nx bl :=
  ⟨(st_len _ _ _).trans h.len, by rw [word_st, if_pos (h.th (by omega) (by omega))], fun i hi => by rw [word_far _ (by rw [nc_at hk hi]; omega)]; exact h.n i hi, fun i hi => by rw [word_far _ (by rw [bc_at hk hi]; omega)]; exact h.b i hi⟩
theorem WordsQ.setN (h : WordsQ k xs tl nx bl) (hk : k ≤ 64) (ht : t < k) (x : Int) : WordsQ k (st xs (nc k t) x) tl (upd nx t x) bl := by
  refine ⟨(st_len _ _ _).trans h.len, by rw [word_far _ (by rw [nc_at hk ht]; omega)]; exact h.t, fun i hi => ?_, fun i hi => by rw [word_far _ (by rw [bc_at hk hi, nc_at hk ht]; omega)]; exact h.b i hi⟩
  by_cases e : i = t
  · subst e; rw [upd_same, word_st, if_pos (h.th (by rw [nc_at hk hi]; omega) (by rw [nc_at hk hi]; omega))]
  · rw [upd_other _ _ e, word_far _ (by rw [nc_at hk hi, nc_at hk ht]; omega)]; exact h.n i hi
theorem WordsQ.setB (h : WordsQ k xs tl nx bl) (hk : k ≤ 64) (ht : t < k) (x : Int) : WordsQ k (st xs (bc k t) x) tl nx (upd bl t x) := by
  refine ⟨(st_len _ _ _).trans h.len, by rw [word_far _ (by rw [bc_at hk ht]; omega)]; exact h.t, fun i hi => by rw [word_far _ (by rw [nc_at hk hi, bc_at hk ht]; omega)]; exact h.n i hi, fun i hi => ?_⟩
  by_cases e : i = t
  · subst e; rw [upd_same, word_st, if_pos (h.th (by rw [bc_at hk hi]; omega) (by rw [bc_at hk hi]; omega))]
  · rw [upd_other _ _ e, word_far _ (by rw [bc_at hk hi, bc_at hk ht]; omega)]; exact h.b i hi
theorem WordsQ.far (h : WordsQ k xs tl nx bl) (hk : k ≤ 64) (hl : xs'.length = xs.length) (hf : ∀ d : Int, 0 ≤ d → d < 8 + 2 * k → wordAt xs' d = wordAt xs d) : WordsQ k xs' tl nx bl :=
  ⟨hl.trans h.len, (hf 0 (by omega) (by omega)).trans h.t, fun i hi => (hf _ (by rw [nc_at hk hi]; omega) (by rw [nc_at hk hi]; omega)).trans (h.n i hi), fun i hi => (hf _ (by rw [bc_at hk hi]; omega) (by rw [bc_at hk hi]; omega)).trans (h.b i hi)⟩
theorem WordsQ.wait (h : WordsQ k xs tl nx bl) (hk : k ≤ 64) (ht : t < k) (mode s c : Int) (q : Int → Bool) : WordsQ k (stepI xs k mode t s c q).xs tl nx bl :=
  h.far hk (by unfold stepI; (repeat' split) <;> first | rfl | exact st_len _ _ _) fun d h0 h1 => own_wait (by rw [wq_wc hk ht]; omega) (by rw [wq_pc hk ht]; omega)
theorem WordsQ.wake (h : WordsQ k xs tl nx bl) (hk : k ≤ 64) (on : Bool) (c i : Int) (hit : Bool) : WordsQ k (wakeI xs k on c i hit).xs tl nx bl :=
  h.far hk (by unfold wakeI giveI lookI restI; (repeat' split) <;> first | rfl | exact st_len _ _ _) fun d h0 h1 => own_wake (by
    unfold pc cellI
    split <;> omega)
end
inductive TaskQ (s : QS) (i : Nat) (stt : Int) (r : LS) : Prop
  | l0 (hs : stt = 0) (ho : r.k.on = false) (hl : r.line = 0) (hp : s.ph i = 0) (h0 : r.s = 0)
  | l1 (hs : stt = 0) (ho : r.k.on = false) (hl : r.line = 1) (hp : s.ph i = 0) (hn : s.nx i = 0) (h0 : r.s = 0)
  | l2 (hs : stt = 0) (ho : r.k.on = false) (hl : r.line = 2) (hp : s.ph i = 0) (hn : s.nx i = 0) (hb : s.bl i = 1) (h0 : r.s = 0)
  | l3 (hs : stt = 0) (ho : r.k.on = false) (hl : r.line = 3) (hp : s.ph i = 3) (ha : r.a = s.pr i) (h0 : r.s = 0)
  | l4 (hs : stt = 0) (hl : r.line = 4) (hp : s.ph i = 4) (h4 : r.s = 4 → s.bl i = 0)
  | isIn (hs : stt = 1) (hp : s.ph i = 5)
  | g6 (hs : stt = 2) (ho : r.k.on = false) (hl : r.line = 6) (hp : s.ph i = 5) (h0 : r.s = 0)
  | g7 (hs : stt = 2) (ho : r.k.on = false) (hl : r.line = 7) (hp : s.ph i = 5) (h0 : r.s = 0)
  | g8 (hs : stt = 2) (ho : r.k.on = false) (hl : r.line = 8) (hp : s.ph i = 5) (h4 : r.s = 4 → r.a = s.nx i ∧ s.nx i ≠ 0)
  | g9 (hs : stt = 2) (ho : r.k.on = false) (hl : r.line = 9) (hp : s.ph i = 5) (ha : r.a = s.nx i) (hn : s.nx i ≠ 0)
  | given (hs : stt = 3) (ho : r.k.on = true) (hp : s.ph i = 0)
theorem TaskQ.other {s s' : QS} {i : Nat} {stt : Int} {r : LS} (h : TaskQ s i stt r) (hp' : s'.ph i = s.ph i) (hr' : s'.pr i = s.pr i) (hn' : s'.nx i = s.nx i ∨ (s.nx i = 0 ∧ s.ph i ≠ 0)) (hb' : s'.bl i = s.bl i ∨ (s'.bl i = 0 ∧ s.ph i ≠ 0)) : TaskQ s' i stt r := by
  cases h with
  | l0 hs ho hl hp h0 => exact .l0 hs ho hl (hp'.trans hp) h0
  | l1 hs ho hl hp hn h0 => exact .l1 hs ho hl (hp'.trans hp) (by omega) h0
  | l2 hs ho hl hp hn hb h0 => exact .l2 hs ho hl (hp'.trans hp) (by omega) (by omega) h0
  | l3 hs ho hl hp ha h0 => exact .l3 hs ho hl (hp'.trans hp) (ha.trans hr'.symm) h0
  | l4 hs hl hp h4 => exact .l4 hs hl (hp'.trans hp) fun e => by have := h4 e; omega
  | isIn hs hp => exact .isIn hs (hp'.trans hp)
  | g6 hs ho hl hp h0 => exact .g6 hs ho hl (hp'.trans hp) h0
  | g7 hs ho hl hp h0 => exact .g7 hs ho hl (hp'.trans hp) h0
  | g8 hs ho hl hp h4 => exact .g8 hs ho hl (hp'.trans hp) fun e => by have := h4 e; omega
  | g9 hs ho hl hp ha hn => exact .g9 hs ho hl (hp'.trans hp) (by omega) (by omega)
  | given hs ho hp => exact .given hs ho (hp'.trans hp)
def aheadQ (m : Nat) (q : Nat → Nat) (s : QS) : Nat := if 0 < m ∧ s.ph (q 0) = 5 then 1 else 0
structure MuInv (k : Nat) (mode : Int) (m : Nat) (q : Nat → Nat) (s : QS) (g : GV) : Prop where
  cst : ∀ i, i < k → (g.rs i).n = k ∧ (g.rs i).mode = mode ∧ (g.rs i).task = i
  qi : QInv k m q s
  ws : WordsQ k g.xs s.tail s.nx s.bl
  tk : ∀ i, i < k → TaskQ s i (g.stt i) (g.rs i)
  ord : ∀ j, g.order[j]? = if j + aheadQ m q s < m then some ((q (j + aheadQ m q s) : Nat) : Int) else none
  ins : 0 ≤ g.ins → ∃ t, t < k ∧ g.stt t = 1
section
variable {k m t : Nat} {mode : Int} {q : Nat → Nat} {s : QS} {g : GV}
theorem MuInv.set (h : MuInv k mode m q s g) {m' : Nat} {q' : Nat → Nat} {s' : QS} {R : LS} {st' : Int} {tm : Nat → Int} {od : List Int} {is : Int} {xs' : List Int} (hc : R.n = k ∧ R.mode = mode ∧ R.task = t) (hq : QInv k m' q' s') (hw : WordsQ k xs' s'.tail s'.nx s'.bl) (ht' : TaskQ s' t st' R)
    (ho : ∀ i, i < k → i ≠ t → s'.ph i = s.ph i ∧ s'.pr i = s.pr i ∧ (s'.nx i = s.nx i ∨ (s.nx i = 0 ∧ s.ph i ≠ 0)) ∧ (s'.bl i = s.bl i ∨ (s'.bl i = 0 ∧ s.ph i ≠ 0)))
    (hd : ∀ j, od[j]? = if j + aheadQ m' q' s' < m' then some ((q' (j + aheadQ m' q' s') : Nat) : Int) else none) (hi : 0 ≤ is → ∃ u, u < k ∧ upd g.stt t st' u = 1) :
    MuInv k mode m' q' s' ⟨upd g.rs t R, upd g.stt t st', tm, od, is, xs'⟩ := by
  refine ⟨fun i hi => ?_, hq, hw, fun i hi => ?_, hd, hi⟩
  · show (upd g.rs t R i).n = _ ∧ (upd g.rs t R i).mode = _ ∧ (upd g.rs t R i).task = _
    by_cases e : i = t
    · subst e; rw [upd_same]; exact hc
    · rw [upd_other _ _ e]; exact h.cst i hi
  · show TaskQ s' i (upd g.stt t st' i) (upd g.rs t R i)
    by_cases e : i = t
    · subst e; rw [upd_same, upd_same]; exact ht'
    · rw [upd_other _ _ e, upd_other _ _ e]
      obtain ⟨h1, h2, h3, h4⟩ := ho i hi e
      exact (h.tk i hi).other h1 h2 h3 h4
end
end Go.Proofs.Ytaifeejciglkpaa
