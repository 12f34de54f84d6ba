import Derived.Test.YtkkldcggbekleaaChecked
import Derived.Laws.AppendOwn
import Derived.OwnWalk
import Derived.WalkKit
import Derived.Test.YtkkldcggbekleaaG2
import Derived.Test.YtkkldcggbekleaaG1
set_option linter.unusedVariables false
set_option linter.unusedSimpArgs false
namespace Go.Proofs.Ytkkldcggbekleaa
open Go.RowKit
def flat1 (n : Nt) : List Value := [.int .i64 n.t, .int .i64 n.w, .int .i64 n.o, .int .i64 n.a]
def flat : List Nt → List Value
  | [] => []
  | n :: r => flat1 n ++ flat r
theorem flat_len : ∀ zs, (flat zs).length = zs.length * 4
  | [] => rfl
  | n :: r => by rw [flat, List.length_append, flat_len r, List.length_cons]; show 4 + _ = _; omega
theorem flat_app : ∀ zs ys, flat (zs ++ ys) = flat zs ++ flat ys
  | [], ys => rfl
  | n :: r, ys => by rw [List.cons_append, flat, flat, flat_app r ys, List.append_assoc]
structure At4 (w : World) (b q : Nat) (n : Nt) : Prop where
  c0 : w.cell? ⟨b, q, none⟩ = some (.int .i64 n.t)
  c1 : w.cell? ⟨b, q + 1, none⟩ = some (.int .i64 n.w)
  c2 : w.cell? ⟨b, q + 2, none⟩ = some (.int .i64 n.o)
  c3 : w.cell? ⟨b, q + 3, none⟩ = some (.int .i64 n.a)
def Notes (w : World) (A : Option Addr) (zs : List Nt) : Prop := 0 < zs.length → ∃ b q, A = some ⟨b, q, none⟩ ∧ b < w.heap.size ∧ ∀ (i : Nat) (n : Nt), zs[i]? = some n → At4 w b (q + i * 4) n
theorem At4.only {w w' : World} {b q : Nat} {n : Nt} (h : At4 w b q n) (ho : Only Nil w w') (hb : b < w.heap.size) : At4 w' b q n :=
  ⟨(ho.cell (p := ⟨b, q, none⟩) hb id).trans h.c0, (ho.cell (p := ⟨b, q + 1, none⟩) hb id).trans h.c1, (ho.cell (p := ⟨b, q + 2, none⟩) hb id).trans h.c2, (ho.cell (p := ⟨b, q + 3, none⟩) hb id).trans h.c3⟩
theorem Notes.only {w w' : World} {A : Option Addr} {zs : List Nt} (h : Notes w A zs) (ho : Only Nil w w') : Notes w' A zs := fun h0 => by
  obtain ⟨b, q, e, hb, hc⟩ := h h0
  exact ⟨b, q, e, Nat.lt_of_lt_of_le hb ho.size, fun i n hi => (hc i n hi).only ho hb⟩
def OwnN (base : Nat) (w : World) (v : Value) (zs : List Nt) : Prop := w.ownsRow base 116 4 v zs.length (flat zs)
theorem OwnN.only {base : Nat} {w w' : World} {v : Value} {zs : List Nt} (h : OwnN base w v zs) (ho : Only Nil w w') : OwnN base w' v zs := own_only h ho (fun _ _ => id)
theorem ownN_nil (base : Nat) (w : World) : OwnN base w (.slice none 0 0) [] := World.ownsRow_nil _ _ _ _
def ListN (w : World) (v : Value) (zs : List Nt) : Prop := ∃ A c, v = .slice A zs.length c ∧ Notes w A zs
theorem ListN.only {w w' : World} {v : Value} {zs : List Nt} (h : ListN w v zs) (ho : Only Nil w w') : ListN w' v zs := by
  obtain ⟨A, c, hv, hn⟩ := h
  exact ⟨A, c, hv, hn.only ho⟩
theorem infoN : (Try.prog.info? 116).map (fun i => (i.zero, i.size, i.bytes)) = some (some (.agg #[.int .i64 0, .int .i64 0, .int .i64 0, .int .i64 0]), 4, 32) := by kernel_rfl
end Go.Proofs.Ytkkldcggbekleaa
set_option linter.unusedVariables false
set_option linter.unusedSimpArgs false
namespace Go.Proofs.Ytkkldcggbekleaa
open Go.RowKit
theorem ret_bool {a b : Bool} (h : a = b) : Ending.returned (.bool a) = .returned (.bool b) := by rw [h]
end Go.Proofs.Ytkkldcggbekleaa
set_option linter.unusedVariables false
set_option linter.unusedSimpArgs false
namespace Go.Proofs.Ytkkldcggbekleaa
open Go.RowKit
structure Acc5 where
  k : Int
  c : Int
  x : Int
  y : Int
  o : Int
def Acc5.v (a : Acc5) : Value := .agg #[.int .i64 a.k, .int .i64 a.c, .int .u32 a.x, .int .u32 a.y, .int .u32 a.o]
def acc0 : Acc5 := ⟨0, 0, 0, 0, 0⟩
def accI (xs : List Int) (k c x y : Int) : Acc5 := if doOk xs k c then ⟨k, c, x, y, wordAt xs c⟩ else acc0
theorem doVal_acc (xs : List Int) (k c x y : Int) : doVal xs k c x y = (accI xs k c x y).v := by
  unfold doVal accI accOf
  split <;> rfl
theorem acc_old {xs : List Int} {k c x y : Int} (hk : isKind k = true) : (accI xs k c x y).o = wordAt xs c := by
  unfold accI
  by_cases h : doOk xs k c = true
  · rw [if_pos h]
  · rw [if_neg h]
    have ht : there xs c = false := by
      cases e : there xs c
      · rfl
      · exact absurd (by simp [doOk, e, hk]) h
    simp [wordAt, ht, acc0]
def ofV : Value → Acc5
  | .agg ⟨[.int _ k, .int _ c, .int _ x, .int _ y, .int _ o]⟩ => ⟨k, c, x, y, o⟩
  | _ => acc0
theorem ofV_eq {v : Value} (h : ∃ ka ca xa ya oa : Int, v = .agg #[.int .i64 ka, .int .i64 ca, .int .u32 xa, .int .u32 ya, .int .u32 oa]) : v = (ofV v).v := by
  obtain ⟨ka, ca, xa, ya, oa, rfl⟩ := h
  rfl
theorem ofV_step (xs : List Int) (n mode i s c : Int) (q : Int → Bool) : (stepI xs n mode i s c q).acc = (ofV (stepI xs n mode i s c q).acc).v := by
  obtain ⟨ka, ca, xa, ya, oa, h, _⟩ := step_access xs n mode i s c q
  exact ofV_eq ⟨ka, ca, xa, ya, oa, h⟩
theorem wake_form5 (xs : List Int) (n : Int) (on : Bool) (c i : Int) (hit : Bool) : ∃ ka ca xa ya oa : Int, (wakeI xs n on c i hit).acc = .agg #[.int .i64 ka, .int .i64 ca, .int .u32 xa, .int .u32 ya, .int .u32 oa] := by
  have hv := fun k c x y => doVal_form xs k c x y
  unfold wakeI giveI lookI restI
  repeat' split
  all_goals first | exact ⟨0, 0, 0, 0, 0, rfl⟩ | (obtain ⟨k', c', x', y', e⟩ := hv 2 (pc n i) 1 0; exact ⟨_, _, _, _, _, e⟩) | (obtain ⟨k', c', x', y', e⟩ := hv 1 (wc n i) 0 0; exact ⟨_, _, _, _, _, e⟩)
theorem ofV_wake (xs : List Int) (n : Int) (on : Bool) (c i : Int) (hit : Bool) : (wakeI xs n on c i hit).acc = (ofV (wakeI xs n on c i hit).acc).v := ofV_eq (wake_form5 xs n on c i hit)
structure LS where
  n : Int
  mode : Int
  task : Int
  op : Int
  line : Int
  a : Int
  b : Int
  s : Int
  k : WkV
  ret : Int
  acc : Acc5
  ns : List Nt
  xs : List Int
def LS.cells (r : LS) (h nv : Value) : Array Value :=
  #[h, .int .i64 r.n, .int .i64 r.mode, .int .i64 r.task, .int .i64 r.op, .int .i64 r.line, .int .u32 r.a, .int .u32 r.b, .int .i64 r.s, .bool r.k.on, .int .i64 r.k.c, .int .i64 r.k.i, .bool r.k.hit, .int .i64 r.ret,
    .int .i64 r.acc.k, .int .i64 r.acc.c, .int .u32 r.acc.x, .int .u32 r.acc.y, .int .u32 r.acc.o, nv]
def LS.frame (r : LS) : Array Value := #[.int .i64 r.op, .int .i64 r.line, .int .u32 r.a, .int .u32 r.b, .int .i64 r.s, .bool r.k.on, .int .i64 r.k.c, .int .i64 r.k.i, .bool r.k.hit, .int .i64 r.ret]
def LS.doA (r : LS) (k c x y : Int) : LS := { r with acc := accI r.xs k c x y, xs := doNew r.xs k c x y }
def LS.stepR (r : LS) (c : Int) (q : Int → Bool) : StepR := stepI r.xs r.n r.mode r.task r.s c q
def LS.wait (r : LS) (c : Int) (q : Int → Bool) : LS := { r with s := (r.stepR c q).next, acc := ofV (r.stepR c q).acc, xs := (r.stepR c q).xs }
def LS.note (r : LS) (what arg : Int) : LS := { r with ns := r.ns ++ [⟨r.task, what, 0, arg⟩] }
def LS.go (r : LS) (l : Int) : LS := { r with line := l }
def LS.fin (r : LS) (ok : Bool) : LS := { r with ret := if ok then 2 else 1 }
def LS.wake (r : LS) (c : Int) : LS := { r with k := beginI r.mode c }
def LS.fresh (r : LS) : LS := { r with acc := acc0, ns := [] }
def LS.wakeR (r : LS) : WakeR := wakeI r.xs r.n r.k.on r.k.c r.k.i r.k.hit
def LS.waking (r : LS) : LS := { r with acc := ofV r.wakeR.acc, ns := [], k := r.wakeR.next, xs := r.wakeR.xs }
def LS.over (r : LS) : Bool := (r.ret != 0) && !r.k.on
def LS.stuck (r : LS) : Bool := !r.k.on && stuckB r.xs r.n r.mode r.task r.s
structure OpR where
  r : LS
  v : Int
  b : Bool
  c : Bool
def bitI (b : Bool) : Int := if b then 1 else 0
def OpR.out (t : OpR) : List Int := [t.v, bitI t.b, bitI t.c]
structure LS.Keeps (r r' : LS) : Prop where
  n : r'.n = r.n
  mode : r'.mode = r.mode
  task : r'.task = r.task
  len : r'.xs.length = r.xs.length
  words : Words r.xs → Words r'.xs
theorem LS.Keeps.refl (r : LS) : r.Keeps r := ⟨rfl, rfl, rfl, rfl, id⟩
theorem LS.Keeps.trans {r r' r'' : LS} (h : r.Keeps r') (k : r'.Keeps r'') : r.Keeps r'' := ⟨k.n.trans h.n, k.mode.trans h.mode, k.task.trans h.task, k.len.trans h.len, k.words ∘ h.words⟩
end Go.Proofs.Ytkkldcggbekleaa
set_option linter.unusedVariables false
set_option linter.unusedSimpArgs false
namespace Go.Proofs.Ytkkldcggbekleaa
open Go.RowKit
def LS.next (L : LS → LS) (r : LS) : LS := if r.k.on then r.waking else L r.fresh
end Go.Proofs.Ytkkldcggbekleaa
set_option linter.unusedVariables false
set_option linter.unusedSimpArgs false
namespace Go.Proofs.Ytkkldcggbekleaa
open Go.RowKit
def clean (os : List Int) (k : Nat) : List Int := os ++ List.replicate (4 * k) 0
section
variable {os : List Int} {k : Nat}
theorem clean_len (h : os.length = 8) : (clean os k).length = 8 + 4 * k := by simp [clean, h]
theorem clean_there (h : os.length = 8) {i : Nat} (hi : i < 8 + 4 * k) : there (clean os k) i = true := by simp [there, clean_len h]; omega
theorem clean_zero (h : os.length = 8) {i : Nat} (hi : 8 ≤ i) : wordAt (clean os k) i = 0 := by
  unfold wordAt
  split
  · simp only [Int.toNat_natCast, clean, List.getD]
    rw [List.getElem?_append_right (by omega), List.getElem?_replicate]
    split <;> rfl
  · rfl
theorem wc_clean (h : os.length = 8) (hk : 1 ≤ k ∧ k ≤ 64) {i : Nat} (hi : i < k) : there (clean os k) (wc k i) = true ∧ wordAt (clean os k) (wc k i) = 0 := by
  have e : wc (k : Int) (i : Int) = ((8 + 2 * k + i : Nat) : Int) := by
    unfold wc cellI
    rw [if_pos (by omega)]
    push_cast
    omega
  rw [e]
  exact ⟨clean_there h (by omega), clean_zero h (by omega)⟩
end
def aloneG (chk : LS → Bool) (L : LS → LS) : Nat → LS → Int × List Int
  | 0, r => (0, r.xs)
  | m + 1, r => if chk r then (0, r.xs) else if (r.next L).over then ((r.next L).ret, (r.next L).xs) else aloneG chk L m (r.next L)
def chkN : LS → Bool := fun _ => false
def aloneL (L : LS → LS) (m : Nat) (r : LS) : Int × List Int := aloneG chkN L m r
structure Chk (chk : LS → Bool) : Prop where
  fresh : ∀ r : LS, chk r.fresh = chk r
  free : ∀ r : LS, r.s = 0 → chk r = false
theorem chk_n : Chk chkN := ⟨fun _ => rfl, fun _ _ => rfl⟩
theorem chk_stuck : Chk LS.stuck := ⟨fun _ => rfl, fun r h => by
  unfold LS.stuck stuckB
  rw [h]
  simp⟩
section
variable {chk : LS → Bool} {L : LS → LS} {r : LS}
theorem next_fresh : r.fresh.next L = r.next L := by unfold LS.next; show (if r.k.on = true then _ else _) = _; split <;> rfl
theorem alone_fresh (hk0 : Chk chk) {m : Nat} (hm : 0 < m) : aloneG chk L m r.fresh = aloneG chk L m r := by
  cases m with
  | zero => omega
  | succ m => unfold aloneG; rw [next_fresh, hk0.fresh]; rfl
theorem alone_like (hk0 : Chk chk) {m : Nat} {r' : LS} (hm : 0 < m) (h : r.fresh = r'.fresh) : aloneG chk L m r = aloneG chk L m r' := by rw [← alone_fresh hk0 hm, h, alone_fresh hk0 hm]
theorem alone_on (hk0 : Chk chk) (h0 : r.s = 0) {m : Nat} (h : (r.next L).over = false) : aloneG chk L (m + 1) r = aloneG chk L m (r.next L) := by
  show (if _ then _ else if _ then _ else _) = _
  rw [if_neg (by rw [hk0.free r h0]; exact Bool.false_ne_true), if_neg (by rw [h]; exact Bool.false_ne_true)]
theorem alone_end (hk0 : Chk chk) (h0 : r.s = 0) {m : Nat} (h : (r.next L).over = true) : aloneG chk L (m + 1) r = ((r.next L).ret, (r.next L).xs) := by
  show (if _ then _ else if _ then _ else _) = _
  rw [if_neg (by rw [hk0.free r h0]; exact Bool.false_ne_true), if_pos h]
theorem alone_sweep (hk0 : Chk chk) {os : List Int} {k : Nat} (ho : os.length = 8) (hk : 1 ≤ k ∧ k ≤ 64) {c : Int} (hc : 0 ≤ c ∧ c < 8) (m : Nat) : ∀ (j : Nat) (r : LS), j < k → r.n = k → r.xs = clean os k → r.k = ⟨true, c, ((k - 1 - j : Nat) : Int), false⟩ → r.s = 0 →
    0 < m ∨ r.ret ≠ 0 → aloneG chk L (j + 1 + m) r = if r.ret ≠ 0 then (r.ret, r.xs) else aloneG chk L m { r with k := wk0 } := by
  intro j
  induction j with
  | zero =>
    intro r hj hn hx hr hs0 hm
    have hw : r.next L = { r with acc := ofV r.wakeR.acc, ns := [], k := wk0 } := by
      unfold LS.next
      rw [show r.k.on = true by rw [hr], if_pos rfl]
      unfold LS.waking LS.wakeR
      rw [hr, hn, hx]
      have hcl := wc_clean (os := os) (k := k) ho hk (i := k - 1 - 0) (by omega)
      simp only [wakeI, lookI, if_true, hcl.1, hcl.2, Bool.false_eq_true, if_false]
      rw [if_neg (by omega)]
      simp only [nextI]
      rw [if_pos (by omega)]
    by_cases hret : r.ret = 0
    · rw [if_neg (by simpa using hret)]
      have hm0 : 0 < m := by rcases hm with h | h; exact h; exact absurd hret h
      rw [show 0 + 1 + m = m + 1 by omega, alone_on hk0 hs0 (by rw [hw]; simp [LS.over, hret]), hw]
      exact alone_like hk0 hm0 rfl
    · rw [if_pos hret, show 0 + 1 + m = m + 1 by omega, alone_end hk0 hs0 (by rw [hw]; simp [LS.over, hret, wk0]), hw]
  | succ j ih =>
    intro r hj hn hx hr hs0 hm
    have hw : r.next L = { r with acc := ofV r.wakeR.acc, ns := [], k := ⟨true, c, ((k - 1 - j : Nat) : Int), false⟩ } := by
      unfold LS.next
      rw [show r.k.on = true by rw [hr], if_pos rfl]
      unfold LS.waking LS.wakeR
      rw [hr, hn, hx]
      have hcl := wc_clean (os := os) (k := k) ho hk (i := k - 1 - (j + 1)) (by omega)
      simp only [wakeI, lookI, if_true, hcl.1, hcl.2, Bool.false_eq_true, if_false]
      rw [if_neg (by omega)]
      simp only [nextI]
      rw [if_neg (by omega), show ((k - 1 - (j + 1) : Nat) : Int) + 1 = ((k - 1 - j : Nat) : Int) by omega]
    rw [show j + 1 + 1 + m = (j + 1 + m) + 1 by omega, alone_on hk0 hs0 (by rw [hw]; simp [LS.over]), hw]
    refine (ih { r with acc := ofV r.wakeR.acc, ns := [], k := ⟨true, c, ((k - 1 - j : Nat) : Int), false⟩ } (by omega) hn hx rfl hs0 hm).trans ?_
    by_cases hret : r.ret = 0
    · rw [if_neg (by simpa using hret), if_neg (by simpa using hret)]
      exact alone_like hk0 (hm.resolve_right (by simpa using hret)) rfl
    · rw [if_pos hret, if_pos hret]
theorem alone_done (hk0 : Chk chk) {os : List Int} {k : Nat} (ho : os.length = 8) (hk : 1 ≤ k ∧ k ≤ 64) {c : Int} (hc : 0 ≤ c ∧ c < 8) {m : Nat} {r r' : LS} {mode : Int} (he : r.next L = r') (hn : r'.n = k) (hx : r'.xs = clean os k) (hr : r'.k = beginI mode c) (hret : r'.ret ≠ 0) (hs0 : r.s = 0) (hs1 : r'.s = 0) (hm : k < m) :
    aloneG chk L m r = (r'.ret, r'.xs) := by
  obtain ⟨m, rfl⟩ : ∃ q, m = q + 1 := ⟨m - 1, by omega⟩
  by_cases h2 : mode = 2
  · subst h2
    rw [alone_on hk0 hs0 (by rw [he]; simp [LS.over, hr, beginI_2]), he]
    have e := alone_sweep (L := L) hk0 ho hk hc (m - k) (k - 1) r' (by omega) hn hx (by rw [hr, beginI_2]; simp) hs1 (.inr hret)
    rw [show k - 1 + 1 + (m - k) = m by omega, if_pos hret] at e
    exact e
  · rw [beginI_no h2] at hr
    rw [alone_end hk0 hs0 (by rw [he]; simp [LS.over, hr, wk0, hret]), he]
end
end Go.Proofs.Ytkkldcggbekleaa
set_option linter.unusedVariables false
set_option linter.unusedSimpArgs false
namespace Go.Proofs.Ytkkldcggbekleaa
open Go.RowKit
def NoWatch (k : Nat) (xs : List Int) : Prop := ∀ i : Nat, i < k → there xs (wc k i) = true ∧ wordAt xs (wc k i) = 0
section
variable {chk : LS → Bool} {L : LS → LS} {r : LS}
theorem alone_sweepQ (hk0 : Chk chk) {xs : List Int} {k : Nat} (hk : 1 ≤ k ∧ k ≤ 64) {c : Int} (hc : 0 ≤ c ∧ c < 8) (hW : NoWatch k xs) (m : Nat) : ∀ (j : Nat) (r : LS), j < k → r.n = k → r.xs = xs → r.k = ⟨true, c, ((k - 1 - j : Nat) : Int), false⟩ → r.s = 0 →
    0 < m ∨ r.ret ≠ 0 → aloneG chk L (j + 1 + m) r = if r.ret ≠ 0 then (r.ret, r.xs) else aloneG chk L m { r with k := wk0 } := by
  intro j
  induction j with
  | zero =>
    intro r hj hn hx hr hs0 hm
    have hw : r.next L = { r with acc := ofV r.wakeR.acc, ns := [], k := wk0 } := by
      unfold LS.next
      rw [show r.k.on = true by rw [hr], if_pos rfl]
      unfold LS.waking LS.wakeR
      rw [hr, hn, hx]
      have hcl := hW (k - 1 - 0) (by omega)
      simp only [wakeI, lookI, if_true, hcl.1, hcl.2, Bool.false_eq_true, if_false]
      rw [if_neg (by omega)]
      simp only [nextI]
      rw [if_pos (by omega)]
    by_cases hret : r.ret = 0
    · rw [if_neg (by simpa using hret)]
      have hm0 : 0 < m := by rcases hm with h | h; exact h; exact absurd hret h
      rw [show 0 + 1 + m = m + 1 by omega, alone_on hk0 hs0 (by rw [hw]; simp [LS.over, hret]), hw]
      exact alone_like hk0 hm0 rfl
    · rw [if_pos hret, show 0 + 1 + m = m + 1 by omega, alone_end hk0 hs0 (by rw [hw]; simp [LS.over, hret, wk0]), hw]
  | succ j ih =>
    intro r hj hn hx hr hs0 hm
    have hw : r.next L = { r with acc := ofV r.wakeR.acc, ns := [], k := ⟨true, c, ((k - 1 - j : Nat) : Int), false⟩ } := by
      unfold LS.next
      rw [show r.k.on = true by rw [hr], if_pos rfl]
      unfold LS.waking LS.wakeR
      rw [hr, hn, hx]
      have hcl := hW (k - 1 - (j + 1)) (by omega)
      simp only [wakeI, lookI, if_true, hcl.1, hcl.2, Bool.false_eq_true, if_false]
      rw [if_neg (by omega)]
      simp only [nextI]
      rw [if_neg (by omega), show ((k - 1 - (j + 1) : Nat) : Int) + 1 = ((k - 1 - j : Nat) : Int) by omega]
    rw [show j + 1 + 1 + m = (j + 1 + m) + 1 by omega, alone_on hk0 hs0 (by rw [hw]; simp [LS.over]), hw]
    refine (ih { r with acc := ofV r.wakeR.acc, ns := [], k := ⟨true, c, ((k - 1 - j : Nat) : Int), false⟩ } (by omega) hn hx rfl hs0 hm).trans ?_
    by_cases hret : r.ret = 0
    · rw [if_neg (by simpa using hret), if_neg (by simpa using hret)]
      exact alone_like hk0 (hm.resolve_right (by simpa using hret)) rfl
    · rw [if_pos hret, if_pos hret]
theorem alone_doneQ (hk0 : Chk chk) {k : Nat} (hk : 1 ≤ k ∧ k ≤ 64) {c : Int} (hc : 0 ≤ c ∧ c < 8) {m : Nat} {r r' : LS} {mode : Int} (he : r.next L = r') (hn : r'.n = k) (hW : NoWatch k r'.xs) (hr : r'.k = beginI mode c) (hret : r'.ret ≠ 0) (hs0 : r.s = 0) (hs1 : r'.s = 0) (hm : k < m) :
    aloneG chk L m r = (r'.ret, r'.xs) := by
  obtain ⟨m, rfl⟩ : ∃ q, m = q + 1 := ⟨m - 1, by omega⟩
  by_cases h2 : mode = 2
  · subst h2
    rw [alone_on hk0 hs0 (by rw [he]; simp [LS.over, hr, beginI_2]), he]
    have e := alone_sweepQ (L := L) hk0 hk hc hW (m - k) (k - 1) r' (by omega) hn rfl (by rw [hr, beginI_2]; simp) hs1 (.inr hret)
    rw [show k - 1 + 1 + (m - k) = m by omega, if_pos hret] at e
    exact e
  · rw [beginI_no h2] at hr
    rw [alone_end hk0 hs0 (by rw [he]; simp [LS.over, hr, wk0, hret]), he]
end
end Go.Proofs.Ytkkldcggbekleaa
namespace Go.Proofs.Ytkkldcggbekleaa
end Go.Proofs.Ytkkldcggbekleaa
set_option linter.unusedVariables false
set_option linter.unusedSimpArgs false
namespace Go.Proofs.Ytkkldcggbekleaa
open Go.RowKit
theorem stepI_seen {xs : List Int} {n mode i c : Int} {q : Int → Bool} (h : q (wordAt xs c) = true) : (stepI xs n mode i 0 c q).next = 0 ∧ (stepI xs n mode i 0 c q).seen = true ∧ (stepI xs n mode i 0 c q).done = true ∧ (stepI xs n mode i 0 c q).xs = xs := by
  by_cases hm : mode = 2
  · subst hm
    rw [stepI_0 (by decide) (by decide) (by decide) (by decide), h]
    exact ⟨rfl, rfl, rfl, rfl⟩
  · rw [stepI_spin hm, h]
    exact ⟨rfl, rfl, rfl, rfl⟩
end Go.Proofs.Ytkkldcggbekleaa
set_option linter.unusedVariables false
set_option linter.unusedSimpArgs false
namespace Go.Proofs.Ytkkldcggbekleaa
open Go.RowKit
def newR (k mode task op : Int) (xs : List Int) : LS := ⟨k, mode, task, op, 0, 0, 0, 0, wk0, 0, acc0, [], xs⟩
def newCells (p : Option Addr) (k mode task op : Int) : Array Value := #[.pointer p, .int .i64 k, .int .i64 mode, .int .i64 task, .int .i64 op, .int .i64 0, .int .u32 0, .int .u32 0, .int .i64 0, .bool false, .int .i64 0, .int .i64 0, .bool false, .int .i64 0, .int .i64 0, .int .i64 0, .int .u32 0, .int .u32 0, .int .u32 0, .slice none 0 0]
end Go.Proofs.Ytkkldcggbekleaa
set_option linter.unusedVariables false
set_option linter.unusedSimpArgs false
namespace Go.Proofs.Ytkkldcggbekleaa
open Go.RowKit
def upd {α : Type} (f : Nat → α) (t : Nat) (v : α) : Nat → α := fun i => if i = t then v else f i
theorem upd_same {α : Type} (f : Nat → α) (t : Nat) (v : α) : upd f t v t = v := if_pos rfl
theorem upd_other {α : Type} (f : Nat → α) {t i : Nat} (v : α) (h : i ≠ t) : upd f t v i = f i := if_neg h
structure MV where
  rs : Nat → LS
  hold : Nat → Int
  xs : List Int
def MV.at (m : MV) (t : Nat) : LS := { m.rs t with xs := m.xs }
def MV.setR (m : MV) (t : Nat) (r : LS) : MV := ⟨upd m.rs t r, m.hold, r.xs⟩
def MV.setH (m : MV) (t : Nat) (h : Int) : MV := ⟨m.rs, upd m.hold t h, m.xs⟩
def zeroF (r : LS) (op : Int) : LS := { r with op := op, line := 0, a := 0, b := 0, s := 0, k := wk0, ret := 0 }
def mayI (op hold : Int) : Bool := if hold = 0 then (op == 1 || op == 3 || op == 5 || op == 6) else if hold = 1 then (op == 2 || op == 7) else (op == 4 || op == 8)
def fromI (op hold : Int) : Int := if op = 2 ∨ op = 4 then 0 else if op = 8 then 1 else hold
def behindI (op ret hold : Int) : Int := if ret ≠ 2 then hold else if op = 1 ∨ op = 5 then 1 else if op = 3 ∨ op = 6 ∨ op = 7 then 2 else hold
def MV.start (m : MV) (t : Nat) (op : Int) : MV := (m.setH t (fromI op (m.hold t))).setR t (zeroF (m.at t) op)
def MV.go (L : LS → LS) (m : MV) (t : Nat) : MV :=
  if (m.at t).stuck then m
  else if ((m.at t).next L).over then ((m.setR t ((m.at t).next L)).setH t (behindI ((m.at t).next L).op ((m.at t).next L).ret (m.hold t))).setR t (zeroF ((m.at t).next L) 0)
  else m.setR t ((m.at t).next L)
def playI (L : LS → LS) (m : MV) (t : Nat) (op : Int) : MV := if (m.at t).op = 0 then (if mayI op (m.hold t) then (m.start t op).go L t else m) else m.go L t
def whileI (L : LS → LS) (t : Nat) : Nat → MV → MV
  | 0, m => m
  | n + 1, m => if (m.at t).op = 0 then m else whileI L t n (playI L m t 0)
def wholeI (L : LS → LS) (m : MV) (t : Nat) (op : Int) : MV := whileI L t 200 (playI L m t op)
def manyI (m : MV) (what : Int) : Nat → Nat
  | 0 => 0
  | k + 1 => if m.hold k = what then manyI m what k + 1 else manyI m what k
section
variable {m : MV} {t i : Nat} {r : LS} {h : Int}
theorem at_setR : (m.setR t r).at t = r := by
  unfold MV.setR MV.at
  simp only [upd_same]
theorem at_setR_other (hi : i ≠ t) : (m.setR t r).at i = { m.rs i with xs := r.xs } := by
  unfold MV.setR MV.at
  simp only [upd_other m.rs r hi]
theorem at_setH : (m.setH t h).at i = m.at i := rfl
end
end Go.Proofs.Ytkkldcggbekleaa
set_option linter.unusedVariables false
set_option linter.unusedSimpArgs false
namespace Go.Proofs.Ytkkldcggbekleaa
structure QS where
  tail : Int
  nx : Nat → Int
  bl : Nat → Int
  ph : Nat → Nat
  pr : Nat → Int
structure QInv (k m : Nat) (q : Nat → Nat) (s : QS) : Prop where
  nd : ∀ i j, i < m → j < m → q i = q j → i = j
  lt : ∀ i, i < m → q i < k
  tl : s.tail = if m = 0 then 0 else ((q (m - 1) : Nat) : Int) + 1
  inq : ∀ i, i < m → s.ph (q i) ≠ 0
  out : ∀ t, t < k → s.ph t ≠ 0 → ∃ j, j < m ∧ q j = t
  hd : 0 < m → s.ph (q 0) = 5 ∨ (s.ph (q 0) = 4 ∧ s.bl (q 0) = 0)
  pair : ∀ j, j + 1 < m → s.bl (q (j + 1)) = 1 ∧ ((s.ph (q (j + 1)) = 3 ∧ s.pr (q (j + 1)) = ((q j : Nat) : Int) + 1 ∧ s.nx (q j) = 0) ∨ (s.ph (q (j + 1)) = 4 ∧ s.nx (q j) = ((q (j + 1) : Nat) : Int) + 1))
  last : 0 < m → s.nx (q (m - 1)) = 0
section
variable {k m t : Nat} {q : Nat → Nat} {s : QS}
theorem QInv.first (h : QInv k m q s) (ht : t < k) (h5 : s.ph t = 5) : 0 < m ∧ q 0 = t := by
  obtain ⟨j, hj, e⟩ := h.out t ht (by omega)
  cases j with
  | zero => exact ⟨hj, e⟩
  | succ j =>
    have := (h.pair j hj).2
    rw [e, h5] at this
    omega
theorem QInv.free (h : QInv k m q s) (ht : t < k) (h4 : s.ph t = 4) (hb : s.bl t = 0) : 0 < m ∧ q 0 = t := by
  obtain ⟨j, hj, e⟩ := h.out t ht (by omega)
  cases j with
  | zero => exact ⟨hj, e⟩
  | succ j =>
    have := (h.pair j hj).1
    rw [e, hb] at this
    omega
theorem QInv.own (h : QInv k m q s) (ht : t < k) (h0 : s.ph t = 0) (x y : Int) : QInv k m q { s with nx := upd s.nx t x, bl := upd s.bl t y } := by
  have far : ∀ i, i < m → q i ≠ t := fun i hi e => h.inq i hi (by rw [e]; exact h0)
  refine ⟨h.nd, h.lt, h.tl, h.inq, h.out, fun hm => ?_, fun j hj => ?_, fun hm => ?_⟩
  · show _ ∨ (_ ∧ upd s.bl t y (q 0) = 0)
    rw [upd_other _ _ (far 0 hm)]; exact h.hd hm
  · show upd s.bl t y (q (j + 1)) = 1 ∧ ((_ ∧ _ ∧ upd s.nx t x (q j) = 0) ∨ (_ ∧ upd s.nx t x (q j) = _))
    rw [upd_other _ _ (far _ hj), upd_other _ _ (far j (by omega))]; exact h.pair j hj
  · show upd s.nx t x (q (m - 1)) = 0
    rw [upd_other _ _ (far _ (by omega))]; exact h.last hm
theorem QInv.swap0 (h : QInv k m q s) (ht : t < k) (h0 : s.ph t = 0) (hn : s.nx t = 0) (hz : s.tail = 0) : m = 0 ∧ QInv k 1 (fun _ => t) { s with tail := (t : Int) + 1, ph := upd s.ph t 5 } := by
  have hm : m = 0 := by
    by_cases e : m = 0
    · exact e
    · have := h.tl
      rw [if_neg e, hz] at this
      omega
  subst hm
  refine ⟨rfl, fun i j hi hj _ => by omega, fun _ _ => ht, by simp, fun i hi => ?_, fun u hu h1 => ⟨0, by omega, ?_⟩, fun _ => .inl ?_, fun j hj => by omega, fun _ => hn⟩
  · show upd s.ph t 5 t ≠ 0
    rw [upd_same]; omega
  · by_cases e : u = t
    · exact e.symm
    · exfalso
      have h1' : upd s.ph t 5 u ≠ 0 := h1
      rw [upd_other _ _ e] at h1'
      obtain ⟨j, hj, _⟩ := h.out u hu h1'
      omega
  · exact upd_same _ _ _
theorem QInv.swap1 (h : QInv k m q s) (ht : t < k) (h0 : s.ph t = 0) (hn : s.nx t = 0) (hb : s.bl t = 1) (hz : s.tail ≠ 0) : 0 < m ∧ QInv k (m + 1) (upd q m t) { s with tail := (t : Int) + 1, ph := upd s.ph t 3, pr := upd s.pr t s.tail } := by
  have hm : 0 < m := by
    by_cases e : m = 0
    · exact absurd (by rw [h.tl, if_pos e]) hz
    · omega
  have far : ∀ i, i < m → q i ≠ t := fun i hi e => h.inq i hi (by rw [e]; exact h0)
  have old : ∀ i, i < m → upd q m t i = q i := fun i hi => upd_other _ _ (by omega)
  have new : upd q m t m = t := upd_same _ _ _
  have hpo : ∀ i, i < m → upd s.ph t 3 (q i) = s.ph (q i) := fun i hi => upd_other _ _ (far i hi)
  have hro : ∀ i, i < m → upd s.pr t s.tail (q i) = s.pr (q i) := fun i hi => upd_other _ _ (far i hi)
  refine ⟨hm, fun i j hi hj e => ?_, fun i hi => ?_, ?_, fun i hi => ?_, fun u hu h1 => ?_, fun _ => ?_, fun j hj => ?_, fun _ => ?_⟩
  · by_cases ei : i = m
    · by_cases ej : j = m
      · omega
      · rw [ei, new, old j (by omega)] at e
        exact absurd e.symm (far j (by omega))
    · by_cases ej : j = m
      · rw [ej, new, old i (by omega)] at e
        exact absurd e (far i (by omega))
      · rw [old i (by omega), old j (by omega)] at e
        exact h.nd i j (by omega) (by omega) e
  · by_cases e : i = m
    · rw [e, new]; exact ht
    · rw [old i (by omega)]; exact h.lt i (by omega)
  · show (t : Int) + 1 = _
    rw [if_neg (by omega), Nat.add_sub_cancel, new]
  · show upd s.ph t 3 (upd q m t i) ≠ 0
    by_cases e : i = m
    · rw [e, new, upd_same]; omega
    · rw [old i (by omega), hpo i (by omega)]; exact h.inq i (by omega)
  · by_cases e : u = t
    · exact ⟨m, by omega, by rw [new, e]⟩
    · have h1' : upd s.ph t 3 u ≠ 0 := h1
      rw [upd_other _ _ e] at h1'
      obtain ⟨j, hj, e2⟩ := h.out u hu h1'
      exact ⟨j, by omega, by rw [old j hj, e2]⟩
  · show upd s.ph t 3 (upd q m t 0) = 5 ∨ (upd s.ph t 3 (upd q m t 0) = 4 ∧ s.bl (upd q m t 0) = 0)
    rw [old 0 hm, hpo 0 hm]; exact h.hd hm
  · show s.bl (upd q m t (j + 1)) = 1 ∧ ((upd s.ph t 3 (upd q m t (j + 1)) = 3 ∧ upd s.pr t s.tail (upd q m t (j + 1)) = ((upd q m t j : Nat) : Int) + 1 ∧ s.nx (upd q m t j) = 0) ∨ (upd s.ph t 3 (upd q m t (j + 1)) = 4 ∧ s.nx (upd q m t j) = ((upd q m t (j + 1) : Nat) : Int) + 1))
    by_cases e : j + 1 = m
    · rw [e, new, old j (by omega), upd_same, upd_same]
      have e1 : m - 1 = j := by omega
      refine ⟨hb, .inl ⟨rfl, ?_, ?_⟩⟩
      · rw [h.tl, if_neg (by omega), e1]
      · have := h.last hm
        rwa [e1] at this
    · rw [old (j + 1) (by omega), old j (by omega), hpo (j + 1) (by omega), hro (j + 1) (by omega)]
      exact h.pair j (by omega)
  · show s.nx (upd q m t (m + 1 - 1)) = 0
    rw [Nat.add_sub_cancel, new]; exact hn
theorem QInv.link (h : QInv k m q s) (ht : t < k) (h3 : s.ph t = 3) : ∃ p, p < k ∧ p ≠ t ∧ s.nx p = 0 ∧ s.ph p ≠ 0 ∧ s.pr t = (p : Int) + 1 ∧ (0 < m ∧ q 0 ≠ t) ∧ QInv k m q { s with nx := upd s.nx p ((t : Int) + 1), ph := upd s.ph t 4 } := by
  obtain ⟨j, hj, e⟩ := h.out t ht (by omega)
  cases j with
  | zero =>
    have := h.hd hj
    rw [e, h3] at this
    omega
  | succ j =>
    obtain ⟨hb, hp⟩ := h.pair j hj
    have hp' : s.pr t = ((q j : Nat) : Int) + 1 ∧ s.nx (q j) = 0 := by
      rcases hp with ⟨_, hp⟩ | ⟨hp, _⟩
      · rwa [e] at hp
      · rw [e, h3] at hp; omega
    refine ⟨q j, h.lt j (by omega), fun e3 => (by have := h.nd j (j + 1) (by omega) hj (by rw [e3, e]); omega), hp'.2, h.inq j (by omega), hp'.1, ⟨by omega, fun e3 => (by have := h.nd 0 (j + 1) (by omega) hj (by rw [e3, e]); omega)⟩, h.nd, h.lt, h.tl, fun i hi => ?_, fun u hu h1 => ?_, fun hm => ?_, fun i hi => ?_, fun hm => ?_⟩
    · show upd s.ph t 4 (q i) ≠ 0
      by_cases e2 : q i = t
      · rw [e2, upd_same]; omega
      · rw [upd_other _ _ e2]; exact h.inq i hi
    · have h1' : upd s.ph t 4 u ≠ 0 := h1
      by_cases e2 : u = t
      · exact ⟨j + 1, hj, by rw [e, e2]⟩
      · rw [upd_other _ _ e2] at h1'
        exact h.out u hu h1'
    · show upd s.ph t 4 (q 0) = 5 ∨ (upd s.ph t 4 (q 0) = 4 ∧ s.bl (q 0) = 0)
      have : q 0 ≠ t := fun e2 => by have := h.nd 0 (j + 1) hm hj (by rw [e2, e]); omega
      rw [upd_other _ _ this]; exact h.hd hm
    · show s.bl (q (i + 1)) = 1 ∧ ((upd s.ph t 4 (q (i + 1)) = 3 ∧ s.pr (q (i + 1)) = ((q i : Nat) : Int) + 1 ∧ upd s.nx (q j) ((t : Int) + 1) (q i) = 0) ∨ (upd s.ph t 4 (q (i + 1)) = 4 ∧ upd s.nx (q j) ((t : Int) + 1) (q i) = ((q (i + 1) : Nat) : Int) + 1))
      by_cases e2 : i = j
      · subst e2
        rw [e, upd_same, upd_same]
        rw [e] at hb
        exact ⟨hb, .inr ⟨rfl, rfl⟩⟩
      · have n1 : q (i + 1) ≠ t := fun e3 => by have := h.nd (i + 1) (j + 1) hi hj (by rw [e3, e]); omega
        have n2 : q i ≠ q j := fun e3 => by have := h.nd i j (by omega) (by omega) e3; omega
        rw [upd_other _ _ n1, upd_other _ _ n2]
        exact h.pair i hi
    · show upd s.nx (q j) ((t : Int) + 1) (q (m - 1)) = 0
      have n2 : q (m - 1) ≠ q j := fun e3 => by have := h.nd (m - 1) j (by omega) (by omega) e3; omega
      rw [upd_other _ _ n2]; exact h.last hm
theorem QInv.enter (h : QInv k m q s) (ht : t < k) (h4 : s.ph t = 4) (hb : s.bl t = 0) : 0 < m ∧ q 0 = t ∧ QInv k m q { s with ph := upd s.ph t 5 } := by
  obtain ⟨hm, e⟩ := h.free ht h4 hb
  have far : ∀ j, j + 1 < m → q (j + 1) ≠ t := fun j hj e2 => by have := h.nd 0 (j + 1) hm hj (by rw [e, e2]); omega
  refine ⟨hm, e, h.nd, h.lt, h.tl, fun i hi => ?_, fun u hu h1 => ?_, fun _ => .inl ?_, fun j hj => ?_, h.last⟩
  · show upd s.ph t 5 (q i) ≠ 0
    by_cases e2 : q i = t
    · rw [e2, upd_same]; omega
    · rw [upd_other _ _ e2]; exact h.inq i hi
  · have h1' : upd s.ph t 5 u ≠ 0 := h1
    by_cases e2 : u = t
    · exact ⟨0, hm, by rw [e, e2]⟩
    · rw [upd_other _ _ e2] at h1'
      exact h.out u hu h1'
  · show upd s.ph t 5 (q 0) = 5
    rw [e, upd_same]
  · show s.bl (q (j + 1)) = 1 ∧ ((upd s.ph t 5 (q (j + 1)) = 3 ∧ _ ∧ _) ∨ (upd s.ph t 5 (q (j + 1)) = 4 ∧ _))
    rw [upd_other _ _ (far j hj)]
    exact h.pair j hj
theorem QInv.empty (h : QInv k m q s) (ht : t < k) (h5 : s.ph t = 5) (hz : s.tail = (t : Int) + 1) : m = 1 ∧ QInv k 0 q { s with tail := 0, ph := upd s.ph t 0 } := by
  obtain ⟨hm, e⟩ := h.first ht h5
  have h1 : m = 1 := by
    have := h.tl
    rw [if_neg (by omega), hz] at this
    have := h.nd (m - 1) 0 (by omega) hm (by rw [e]; omega)
    omega
  subst h1
  refine ⟨rfl, fun i j hi => by omega, fun i hi => by omega, rfl, fun i hi => by omega, fun u hu h1 => ?_, fun hm => by omega, fun j hj => by omega, fun hm => by omega⟩
  exfalso
  have h1' : upd s.ph t 0 u ≠ 0 := h1
  by_cases e2 : u = t
  · rw [e2, upd_same] at h1'; exact h1' rfl
  · rw [upd_other _ _ e2] at h1'
    obtain ⟨j, hj, e3⟩ := h.out u hu h1'
    have : j = 0 := by omega
    rw [this, e] at e3
    exact e2 e3.symm
theorem QInv.hand (h : QInv k m q s) (ht : t < k) (h5 : s.ph t = 5) (hz : s.nx t ≠ 0) : ∃ p, p < k ∧ p ≠ t ∧ s.nx t = (p : Int) + 1 ∧ 1 < m ∧ q 1 = p ∧ s.ph p = 4 ∧ QInv k (m - 1) (fun j => q (j + 1)) { s with bl := upd s.bl p 0, ph := upd s.ph t 0 } := by
  obtain ⟨hm, e⟩ := h.first ht h5
  have h1 : 1 < m := by
    by_cases e1 : m = 1
    · have := h.last hm
      rw [e1, show 1 - 1 = 0 from rfl, e] at this
      exact absurd this hz
    · omega
  obtain ⟨_, hp⟩ := h.pair 0 h1
  rw [e] at hp
  have hp' : s.ph (q 1) = 4 ∧ s.nx t = ((q 1 : Nat) : Int) + 1 := by
    rcases hp with ⟨_, _, hp⟩ | hp
    · exact absurd hp hz
    · exact hp
  have hne : ∀ j, j + 1 < m → q (j + 1) ≠ t := fun j hj e2 => by have := h.nd 0 (j + 1) hm hj (by rw [e, e2]); omega
  refine ⟨q 1, h.lt 1 h1, hne 0 h1, hp'.2, h1, rfl, hp'.1, fun i j hi hj e2 => ?_, fun i hi => h.lt _ (by omega), ?_, fun i hi => ?_, fun u hu h1' => ?_, fun _ => .inr ⟨?_, ?_⟩, fun j hj => ?_, fun hm => ?_⟩
  · have := h.nd (i + 1) (j + 1) (by omega) (by omega) e2; omega
  · show s.tail = _
    rw [h.tl, if_neg (by omega), if_neg (by omega), show m - 1 - 1 + 1 = m - 1 by omega]
  · show upd s.ph t 0 (q (i + 1)) ≠ 0
    rw [upd_other _ _ (hne i (by omega))]; exact h.inq _ (by omega)
  · have h1'' : upd s.ph t 0 u ≠ 0 := h1'
    by_cases e2 : u = t
    · rw [e2, upd_same] at h1''; exact absurd rfl h1''
    · rw [upd_other _ _ e2] at h1''
      obtain ⟨j, hj, e3⟩ := h.out u hu h1''
      cases j with
      | zero => rw [e] at e3; exact absurd e3.symm e2
      | succ j => exact ⟨j, by omega, e3⟩
  · show upd s.ph t 0 (q (0 + 1)) = 4
    rw [upd_other _ _ (hne 0 h1)]; exact hp'.1
  · show upd s.bl (q 1) 0 (q (0 + 1)) = 0
    rw [upd_same]
  · show upd s.bl (q 1) 0 (q (j + 1 + 1)) = 1 ∧ ((upd s.ph t 0 (q (j + 1 + 1)) = 3 ∧ _ ∧ _) ∨ (upd s.ph t 0 (q (j + 1 + 1)) = 4 ∧ _))
    have n1 : q (j + 1 + 1) ≠ q 1 := fun e3 => by have := h.nd (j + 1 + 1) 1 (by omega) h1 e3; omega
    rw [upd_other _ _ n1, upd_other _ _ (hne (j + 1) (by omega))]
    exact h.pair (j + 1) (by omega)
  · show s.nx (q (m - 1 - 1 + 1)) = 0
    rw [show m - 1 - 1 + 1 = m - 1 by omega]
    exact h.last (by omega)
end
end Go.Proofs.Ytkkldcggbekleaa
set_option linter.unusedVariables false
set_option linter.unusedSimpArgs false
namespace Go.Proofs.Ytkkldcggbekleaa
open Go.RowKit
def LS.keepA (r : LS) (v : Int) : LS := { r with a := v }
def LS.keepB (r : LS) (v : Int) : LS := { r with b := v }
def LS.noteIf (r : LS) (b : Bool) (what : Int) : LS := if b then r.note what 0 else r
end Go.Proofs.Ytkkldcggbekleaa
set_option linter.unusedVariables false
set_option linter.unusedSimpArgs false
namespace Go.Proofs.Ytkkldcggbekleaa
open Go.RowKit
def nc (n i : Int) : Int := cellI n 0 i
def bc (n i : Int) : Int := cellI n 1 i
def LS.me (r : LS) : Int := (r.task + 1) % 4294967296
def isZ (v : Int) : Bool := v == 0
def isN (v : Int) : Bool := v != 0
def LS.notes (r : LS) (whats : List Int) : LS := whats.foldl (fun r w => r.note w 0) r
def LS.link (r : LS) : LS := (((r.doA 2 (nc r.n (r.a - 1)) r.me 0).wake (nc r.n (r.a - 1))).go 4)
def LS.swapIn (r : LS) (tail cl : Int) : LS := ((r.doA 4 tail r.me 0).keepA (wordAt r.xs tail)).note 2 cl
def LS.mxEnter (r : LS) (tail cl : Int) : LS × Bool :=
  if r.line = 0 then ((r.doA 2 (nc r.n r.task) 0 0).go 1, false)
  else if r.line = 1 then ((r.doA 2 (bc r.n r.task) 1 0).go 2, false)
  else if r.line = 2 then (if wordAt r.xs tail = 0 then (r.swapIn tail cl, true) else ((r.swapIn tail cl).go 3, false))
  else if r.line = 3 then (r.link, false)
  else if r.line = 4 then (r.wait (bc r.n r.task) isZ, (r.stepR (bc r.n r.task) isZ).done)
  else (r, false)
def LS.seeN (r : LS) : LS := if (r.stepR (nc r.n r.task) isN).seen then (r.wait (nc r.n r.task) isN).keepA (wordAt r.xs (nc r.n r.task)) else r.wait (nc r.n r.task) isN
def LS.handOn (r : LS) (whats : List Int) : LS := ((r.doA 2 (bc r.n (r.a - 1)) 0 0).notes whats).wake (bc r.n (r.a - 1))
def LS.peek (r : LS) : LS := (r.doA 1 (nc r.n r.task) 0 0).keepA (wordAt r.xs (nc r.n r.task))
def LS.casOut (r : LS) (tail : Int) : Bool := there r.xs tail && (wordAt r.xs tail == r.me)
def LS.mxGive (r : LS) (tail a : Int) (whats : List Int) : LS × Bool :=
  if r.line = a then (if wordAt r.xs (nc r.n r.task) = 0 then r.peek.go (a + 1) else r.peek.go (a + 3), false)
  else if r.line = a + 1 then (if r.casOut tail then ((r.doA 5 tail r.me 0).notes whats, true) else ((r.doA 5 tail r.me 0).go (a + 2), false))
  else if r.line = a + 2 then (if (r.stepR (nc r.n r.task) isN).done then r.seeN.go (a + 3) else r.seeN, false)
  else if r.line = a + 3 then (r.handOn whats, true)
  else (r, false)
def LS.mxTry (r : LS) (tail a : Int) : LS × Bool × Bool :=
  if r.line = a then ((r.doA 2 (nc r.n r.task) 0 0).go (a + 1), false, false)
  else if r.line = a + 1 then (r.doA 5 tail 0 r.me, true, there r.xs tail && (wordAt r.xs tail == 0))
  else (r, false, false)
end Go.Proofs.Ytkkldcggbekleaa
set_option linter.unusedVariables false
set_option linter.unusedSimpArgs false
namespace Go.Proofs.Ytkkldcggbekleaa
section
variable {xs : List Int} {c d x y n mode i s : Int} {q : Int → Bool}
theorem own_add (hc : there xs c = true) : wordAt (doNew xs 3 c x 0) c = (x + wordAt xs c) % 4294967296 := by
  rw [doNew_st _ _ _ _ _ rfl, word_st, if_pos hc]; rfl
theorem own_add_far (h : c ≠ d) : wordAt (doNew xs 3 c x 0) d = wordAt xs d := by
  rw [doNew_st _ _ _ _ _ rfl, word_far _ h]
theorem own_load : doNew xs 1 c 0 0 = xs := by
  rw [doNew_st _ _ _ _ _ rfl]; exact st_word xs c
theorem own_wait (h1 : wc n i ≠ d) (h2 : pc n i ≠ d) : wordAt (stepI xs n mode i s c q).xs d = wordAt xs d := by
  unfold stepI
  (repeat' split) <;> first | rfl | exact word_far _ h1 | exact word_far _ h2
theorem own_wake {on hit : Bool} (h2 : pc n i ≠ d) : wordAt (wakeI xs n on c i hit).xs d = wordAt xs d := by
  unfold wakeI giveI lookI restI
  (repeat' split) <;> first | rfl | exact word_far _ h2
end
end Go.Proofs.Ytkkldcggbekleaa
set_option linter.unusedVariables false
set_option linter.unusedSimpArgs false
namespace Go.Proofs.Ytkkldcggbekleaa
def sumN (f : Nat → Nat) : Nat → Nat
  | 0 => 0
  | k + 1 => sumN f k + f k
theorem sumN_congr {f g : Nat → Nat} : ∀ {k : Nat}, (∀ i, i < k → f i = g i) → sumN f k = sumN g k
  | 0, _ => rfl
  | k + 1, h => by
    show sumN f k + f k = sumN g k + g k
    rw [sumN_congr (k := k) (fun i hi => h i (by omega)), h k (by omega)]
theorem sumN_upd {f g : Nat → Nat} {t : Nat} : ∀ {k : Nat}, t < k → (∀ i, i < k → i ≠ t → g i = f i) → sumN g k + f t = sumN f k + g t
  | 0, h, _ => absurd h (Nat.not_lt_zero _)
  | k + 1, h, ho => by
    show sumN g k + g k + f t = sumN f k + f k + g t
    by_cases e : t = k
    · subst e
      rw [sumN_congr (f := g) (g := f) (k := t) (fun i hi => ho i (by omega) (by omega))]
      omega
    · have := sumN_upd (f := f) (g := g) (t := t) (k := k) (by omega) (fun i hi hn => ho i (by omega) hn)
      have := ho k (by omega) (by omega)
      omega
theorem sumN_le {f g : Nat → Nat} : ∀ {k : Nat}, (∀ i, i < k → f i ≤ g i) → sumN f k ≤ sumN g k
  | 0, _ => Nat.le_refl _
  | k + 1, h => Nat.add_le_add (sumN_le (k := k) fun i hi => h i (by omega)) (h k (by omega))
theorem sumN_zero {f : Nat → Nat} : ∀ {k : Nat}, (∀ i, i < k → f i = 0) → sumN f k = 0
  | 0, _ => rfl
  | k + 1, h => by
    show sumN f k + f k = 0
    rw [sumN_zero (k := k) (fun i hi => h i (by omega)), h k (by omega)]
theorem sumN_at {f : Nat → Nat} {i : Nat} : ∀ {k : Nat}, i < k → f i ≤ sumN f k
  | 0, h => absurd h (Nat.not_lt_zero _)
  | k + 1, h => by
    show f i ≤ sumN f k + f k
    by_cases e : i = k
    · subst e; omega
    · have := sumN_at (f := f) (i := i) (k := k) (by omega); omega
theorem sumN_const {c : Nat} : ∀ {k : Nat}, sumN (fun _ => c) k = k * c
  | 0 => by simp [sumN]
  | k + 1 => by
    show sumN (fun _ => c) k + c = (k + 1) * c
    rw [sumN_const, Nat.add_mul, Nat.one_mul]
theorem sumN_add {f g : Nat → Nat} : ∀ {k : Nat}, sumN (fun i => f i + g i) k = sumN f k + sumN g k
  | 0 => rfl
  | k + 1 => by
    show sumN (fun i => f i + g i) k + (f k + g k) = sumN f k + f k + (sumN g k + g k)
    rw [sumN_add]; omega
end Go.Proofs.Ytkkldcggbekleaa
