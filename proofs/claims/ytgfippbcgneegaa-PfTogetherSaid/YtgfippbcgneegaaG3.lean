import Derived.Test.YtgfippbcgneegaaChecked
import Derived.Laws.AppendOwn
import Derived.OwnWalk
import Derived.WalkKit
import Derived.Test.YtgfippbcgneegaaG2
import Derived.Test.YtgfippbcgneegaaG1
set_option linter.unusedVariables false
set_option linter.unusedSimpArgs false
namespace Go.Proofs.Ytgfippbcgneegaa
open Go.RowKit
def flat1 (n : Nt) : List Value := [.int .i64 n.t, .int .i64 n.w, .int .i64 n.o, .int .i64 n.a]
def flat : List Nt → List Value
  | [] => []
  | n :: r => flat1 n ++ flat r
theorem flat_len : ∀ zs, (flat zs).length = zs.length * 4
  | [] => rfl
  | n :: r => by rw [flat, List.length_append, flat_len r, List.length_cons]; show 4 + _ = _; omega
theorem flat_app : ∀ zs ys, flat (zs ++ ys) = flat zs ++ flat ys
  | [], ys => rfl
  | n :: r, ys => by rw [List.cons_append, flat, flat, flat_app r ys, List.append_assoc]
structure At4 (w : World) (b q : Nat) (n : Nt) : Prop where
  c0 : w.cell? ⟨b, q, none⟩ = some (.int .i64 n.t)
  c1 : w.cell? ⟨b, q + 1, none⟩ = some (.int .i64 n.w)
  c2 : w.cell? ⟨b, q + 2, none⟩ = some (.int .i64 n.o)
  c3 : w.cell? ⟨b, q + 3, none⟩ = some (.int .i64 n.a)
def Notes (w : World) (A : Option Addr) (zs : List Nt) : Prop := 0 < zs.length → ∃ b q, A = some ⟨b, q, none⟩ ∧ b < w.heap.size ∧ ∀ (i : Nat) (n : Nt), zs[i]? = some n → At4 w b (q + i * 4) n
theorem At4.only {w w' : World} {b q : Nat} {n : Nt} (h : At4 w b q n) (ho : Only Nil w w') (hb : b < w.heap.size) : At4 w' b q n :=
  ⟨(ho.cell (p := ⟨b, q, none⟩) hb id).trans h.c0, (ho.cell (p := ⟨b, q + 1, none⟩) hb id).trans h.c1, (ho.cell (p := ⟨b, q + 2, none⟩) hb id).trans h.c2, (ho.cell (p := ⟨b, q + 3, none⟩) hb id).trans h.c3⟩
theorem Notes.only {w w' : World} {A : Option Addr} {zs : List Nt} (h : Notes w A zs) (ho : Only Nil w w') : Notes w' A zs := fun h0 => by
  obtain ⟨b, q, e, hb, hc⟩ := h h0
  exact ⟨b, q, e, Nat.lt_of_lt_of_le hb ho.size, fun i n hi => (hc i n hi).only ho hb⟩
def OwnN (base : Nat) (w : World) (v : Value) (zs : List Nt) : Prop := w.ownsRow base 130 4 v zs.length (flat zs)
theorem OwnN.only {base : Nat} {w w' : World} {v : Value} {zs : List Nt} (h : OwnN base w v zs) (ho : Only Nil w w') : OwnN base w' v zs := own_only h ho (fun _ _ => id)
theorem ownN_nil (base : Nat) (w : World) : OwnN base w (.slice none 0 0) [] := World.ownsRow_nil _ _ _ _
def ListN (w : World) (v : Value) (zs : List Nt) : Prop := ∃ A c, v = .slice A zs.length c ∧ Notes w A zs
theorem ListN.only {w w' : World} {v : Value} {zs : List Nt} (h : ListN w v zs) (ho : Only Nil w w') : ListN w' v zs := by
  obtain ⟨A, c, hv, hn⟩ := h
  exact ⟨A, c, hv, hn.only ho⟩
theorem infoN : (Try.prog.info? 130).map (fun i => (i.zero, i.size, i.bytes)) = some (some (.agg #[.int .i64 0, .int .i64 0, .int .i64 0, .int .i64 0]), 4, 32) := by kernel_rfl
end Go.Proofs.Ytgfippbcgneegaa
set_option linter.unusedVariables false
set_option linter.unusedSimpArgs false
namespace Go.Proofs.Ytgfippbcgneegaa
open Go.RowKit
theorem ret_bool {a b : Bool} (h : a = b) : Ending.returned (.bool a) = .returned (.bool b) := by rw [h]
end Go.Proofs.Ytgfippbcgneegaa
set_option linter.unusedVariables false
set_option linter.unusedSimpArgs false
namespace Go.Proofs.Ytgfippbcgneegaa
open Go.RowKit
structure Acc5 where
  k : Int
  c : Int
  x : Int
  y : Int
  o : Int
def Acc5.v (a : Acc5) : Value := .agg #[.int .i64 a.k, .int .i64 a.c, .int .u32 a.x, .int .u32 a.y, .int .u32 a.o]
def acc0 : Acc5 := ⟨0, 0, 0, 0, 0⟩
def accI (xs : List Int) (k c x y : Int) : Acc5 := if doOk xs k c then ⟨k, c, x, y, wordAt xs c⟩ else acc0
theorem doVal_acc (xs : List Int) (k c x y : Int) : doVal xs k c x y = (accI xs k c x y).v := by
  unfold doVal accI accOf
  split <;> rfl
theorem acc_old {xs : List Int} {k c x y : Int} (hk : isKind k = true) : (accI xs k c x y).o = wordAt xs c := by
  unfold accI
  by_cases h : doOk xs k c = true
  · rw [if_pos h]
  · rw [if_neg h]
    have ht : there xs c = false := by
      cases e : there xs c
      · rfl
      · exact absurd (by simp [doOk, e, hk]) h
    simp [wordAt, ht, acc0]
def ofV : Value → Acc5
  | .agg ⟨[.int _ k, .int _ c, .int _ x, .int _ y, .int _ o]⟩ => ⟨k, c, x, y, o⟩
  | _ => acc0
theorem ofV_eq {v : Value} (h : ∃ ka ca xa ya oa : Int, v = .agg #[.int .i64 ka, .int .i64 ca, .int .u32 xa, .int .u32 ya, .int .u32 oa]) : v = (ofV v).v := by
  obtain ⟨ka, ca, xa, ya, oa, rfl⟩ := h
  rfl
theorem ofV_step (xs : List Int) (n mode i s c : Int) (q : Int → Bool) : (stepI xs n mode i s c q).acc = (ofV (stepI xs n mode i s c q).acc).v := by
  obtain ⟨ka, ca, xa, ya, oa, h, _⟩ := step_access xs n mode i s c q
  exact ofV_eq ⟨ka, ca, xa, ya, oa, h⟩
theorem wake_form5 (xs : List Int) (n : Int) (on : Bool) (c i : Int) (hit : Bool) : ∃ ka ca xa ya oa : Int, (wakeI xs n on c i hit).acc = .agg #[.int .i64 ka, .int .i64 ca, .int .u32 xa, .int .u32 ya, .int .u32 oa] := by
  have hv := fun k c x y => doVal_form xs k c x y
  unfold wakeI giveI lookI restI
  repeat' split
  all_goals first | exact ⟨0, 0, 0, 0, 0, rfl⟩ | (obtain ⟨k', c', x', y', e⟩ := hv 2 (pc n i) 1 0; exact ⟨_, _, _, _, _, e⟩) | (obtain ⟨k', c', x', y', e⟩ := hv 1 (wc n i) 0 0; exact ⟨_, _, _, _, _, e⟩)
theorem ofV_wake (xs : List Int) (n : Int) (on : Bool) (c i : Int) (hit : Bool) : (wakeI xs n on c i hit).acc = (ofV (wakeI xs n on c i hit).acc).v := ofV_eq (wake_form5 xs n on c i hit)
structure LS where
  n : Int
  mode : Int
  task : Int
  op : Int
  line : Int
  a : Int
  b : Int
  s : Int
  k : WkV
  ret : Int
  acc : Acc5
  ns : List Nt
  xs : List Int
def LS.cells (r : LS) (h nv : Value) : Array Value :=
  #[h, .int .i64 r.n, .int .i64 r.mode, .int .i64 r.task, .int .i64 r.op, .int .i64 r.line, .int .u32 r.a, .int .u32 r.b, .int .i64 r.s, .bool r.k.on, .int .i64 r.k.c, .int .i64 r.k.i, .bool r.k.hit, .int .i64 r.ret,
    .int .i64 r.acc.k, .int .i64 r.acc.c, .int .u32 r.acc.x, .int .u32 r.acc.y, .int .u32 r.acc.o, nv]
def LS.frame (r : LS) : Array Value := #[.int .i64 r.op, .int .i64 r.line, .int .u32 r.a, .int .u32 r.b, .int .i64 r.s, .bool r.k.on, .int .i64 r.k.c, .int .i64 r.k.i, .bool r.k.hit, .int .i64 r.ret]
def LS.doA (r : LS) (k c x y : Int) : LS := { r with acc := accI r.xs k c x y, xs := doNew r.xs k c x y }
def LS.stepR (r : LS) (c : Int) (q : Int → Bool) : StepR := stepI r.xs r.n r.mode r.task r.s c q
def LS.wait (r : LS) (c : Int) (q : Int → Bool) : LS := { r with s := (r.stepR c q).next, acc := ofV (r.stepR c q).acc, xs := (r.stepR c q).xs }
def LS.note (r : LS) (what arg : Int) : LS := { r with ns := r.ns ++ [⟨r.task, what, 0, arg⟩] }
def LS.go (r : LS) (l : Int) : LS := { r with line := l }
def LS.fin (r : LS) (ok : Bool) : LS := { r with ret := if ok then 2 else 1 }
def LS.wake (r : LS) (c : Int) : LS := { r with k := beginI r.mode c }
def LS.fresh (r : LS) : LS := { r with acc := acc0, ns := [] }
def LS.wakeR (r : LS) : WakeR := wakeI r.xs r.n r.k.on r.k.c r.k.i r.k.hit
def LS.waking (r : LS) : LS := { r with acc := ofV r.wakeR.acc, ns := [], k := r.wakeR.next, xs := r.wakeR.xs }
def LS.over (r : LS) : Bool := (r.ret != 0) && !r.k.on
def LS.stuck (r : LS) : Bool := !r.k.on && stuckB r.xs r.n r.mode r.task r.s
structure OpR where
  r : LS
  v : Int
  b : Bool
  c : Bool
def bitI (b : Bool) : Int := if b then 1 else 0
def OpR.out (t : OpR) : List Int := [t.v, bitI t.b, bitI t.c]
structure LS.Keeps (r r' : LS) : Prop where
  n : r'.n = r.n
  mode : r'.mode = r.mode
  task : r'.task = r.task
  len : r'.xs.length = r.xs.length
  words : Words r.xs → Words r'.xs
theorem LS.Keeps.refl (r : LS) : r.Keeps r := ⟨rfl, rfl, rfl, rfl, id⟩
theorem LS.Keeps.trans {r r' r'' : LS} (h : r.Keeps r') (k : r'.Keeps r'') : r.Keeps r'' := ⟨k.n.trans h.n, k.mode.trans h.mode, k.task.trans h.task, k.len.trans h.len, k.words ∘ h.words⟩
end Go.Proofs.Ytgfippbcgneegaa
set_option linter.unusedVariables false
set_option linter.unusedSimpArgs false
namespace Go.Proofs.Ytgfippbcgneegaa
open Go.RowKit
def LS.next (L : LS → LS) (r : LS) : LS := if r.k.on then r.waking else L r.fresh
end Go.Proofs.Ytgfippbcgneegaa
set_option linter.unusedVariables false
set_option linter.unusedSimpArgs false
namespace Go.Proofs.Ytgfippbcgneegaa
open Go.RowKit
def clean (os : List Int) (k : Nat) : List Int := os ++ List.replicate (4 * k) 0
section
variable {os : List Int} {k : Nat}
theorem clean_len (h : os.length = 8) : (clean os k).length = 8 + 4 * k := by simp [clean, h]
theorem clean_own (h : os.length = 8) {i : Nat} (hi : i < 8) : wordAt (clean os k) i = os.getD i 0 := by
  have ht : there (clean os k) i = true := by simp [there, clean_len h]; omega
  unfold wordAt
  rw [if_pos ht]
  simp only [Int.toNat_natCast, clean, List.getD]
  rw [List.getElem?_append_left (by omega)]
theorem clean_there (h : os.length = 8) {i : Nat} (hi : i < 8 + 4 * k) : there (clean os k) i = true := by simp [there, clean_len h]; omega
theorem clean_zero (h : os.length = 8) {i : Nat} (hi : 8 ≤ i) : wordAt (clean os k) i = 0 := by
  unfold wordAt
  split
  · simp only [Int.toNat_natCast, clean, List.getD]
    rw [List.getElem?_append_right (by omega), List.getElem?_replicate]
    split <;> rfl
  · rfl
theorem clean_set (h : os.length = 8) {i : Nat} (hi : i < 8) (v : Int) : (clean os k).set i v = clean (os.set i v) k := by
  unfold clean
  rw [List.set_append, if_pos (by omega)]
theorem clean_do (h : os.length = 8) {i : Nat} (hi : i < 8) {kd : Int} (hk : isKind kd = true) (x y : Int) : doNew (clean os k) kd i x y = clean (os.set i (leftOf kd x y (os.getD i 0))) k := by
  have ht : there (clean os k) i = true := clean_there h (by omega)
  rw [← clean_own (k := k) h hi, ← clean_set h hi]
  simp [doNew, doOk, ht, hk]
theorem wc_clean (h : os.length = 8) (hk : 1 ≤ k ∧ k ≤ 64) {i : Nat} (hi : i < k) : there (clean os k) (wc k i) = true ∧ wordAt (clean os k) (wc k i) = 0 := by
  have e : wc (k : Int) (i : Int) = ((8 + 2 * k + i : Nat) : Int) := by
    unfold wc cellI
    rw [if_pos (by omega)]
    push_cast
    omega
  rw [e]
  exact ⟨clean_there h (by omega), clean_zero h (by omega)⟩
end
def aloneG (chk : LS → Bool) (L : LS → LS) : Nat → LS → Int × List Int
  | 0, r => (0, r.xs)
  | m + 1, r => if chk r then (0, r.xs) else if (r.next L).over then ((r.next L).ret, (r.next L).xs) else aloneG chk L m (r.next L)
def chkN : LS → Bool := fun _ => false
def aloneL (L : LS → LS) (m : Nat) (r : LS) : Int × List Int := aloneG chkN L m r
structure Chk (chk : LS → Bool) : Prop where
  fresh : ∀ r : LS, chk r.fresh = chk r
  free : ∀ r : LS, r.s = 0 → chk r = false
theorem chk_n : Chk chkN := ⟨fun _ => rfl, fun _ _ => rfl⟩
theorem chk_stuck : Chk LS.stuck := ⟨fun _ => rfl, fun r h => by
  unfold LS.stuck stuckB
  rw [h]
  simp⟩
section
variable {chk : LS → Bool} {L : LS → LS} {r : LS}
theorem next_fresh : r.fresh.next L = r.next L := by unfold LS.next; show (if r.k.on = true then _ else _) = _; split <;> rfl
theorem alone_fresh (hk0 : Chk chk) {m : Nat} (hm : 0 < m) : aloneG chk L m r.fresh = aloneG chk L m r := by
  cases m with
  | zero => omega
  | succ m => unfold aloneG; rw [next_fresh, hk0.fresh]; rfl
theorem alone_like (hk0 : Chk chk) {m : Nat} {r' : LS} (hm : 0 < m) (h : r.fresh = r'.fresh) : aloneG chk L m r = aloneG chk L m r' := by rw [← alone_fresh hk0 hm, h, alone_fresh hk0 hm]
theorem alone_on (hk0 : Chk chk) (h0 : r.s = 0) {m : Nat} (h : (r.next L).over = false) : aloneG chk L (m + 1) r = aloneG chk L m (r.next L) := by
  show (if _ then _ else if _ then _ else _) = _
  rw [if_neg (by rw [hk0.free r h0]; exact Bool.false_ne_true), if_neg (by rw [h]; exact Bool.false_ne_true)]
theorem alone_end (hk0 : Chk chk) (h0 : r.s = 0) {m : Nat} (h : (r.next L).over = true) : aloneG chk L (m + 1) r = ((r.next L).ret, (r.next L).xs) := by
  show (if _ then _ else if _ then _ else _) = _
  rw [if_neg (by rw [hk0.free r h0]; exact Bool.false_ne_true), if_pos h]
theorem alone_sweep (hk0 : Chk chk) {os : List Int} {k : Nat} (ho : os.length = 8) (hk : 1 ≤ k ∧ k ≤ 64) {c : Int} (hc : 0 ≤ c ∧ c < 8) (m : Nat) : ∀ (j : Nat) (r : LS), j < k → r.n = k → r.xs = clean os k → r.k = ⟨true, c, ((k - 1 - j : Nat) : Int), false⟩ → r.s = 0 →
    0 < m ∨ r.ret ≠ 0 → aloneG chk L (j + 1 + m) r = if r.ret ≠ 0 then (r.ret, r.xs) else aloneG chk L m { r with k := wk0 } := by
  intro j
  induction j with
  | zero =>
    intro r hj hn hx hr hs0 hm
    have hw : r.next L = { r with acc := ofV r.wakeR.acc, ns := [], k := wk0 } := by
      unfold LS.next
      rw [show r.k.on = true by rw [hr], if_pos rfl]
      unfold LS.waking LS.wakeR
      rw [hr, hn, hx]
      have hcl := wc_clean (os := os) (k := k) ho hk (i := k - 1 - 0) (by omega)
      simp only [wakeI, lookI, if_true, hcl.1, hcl.2, Bool.false_eq_true, if_false]
      rw [if_neg (by omega)]
      simp only [nextI]
      rw [if_pos (by omega)]
    by_cases hret : r.ret = 0
    · rw [if_neg (by simpa using hret)]
      have hm0 : 0 < m := by rcases hm with h | h; exact h; exact absurd hret h
      rw [show 0 + 1 + m = m + 1 by omega, alone_on hk0 hs0 (by rw [hw]; simp [LS.over, hret]), hw]
      exact alone_like hk0 hm0 rfl
    · rw [if_pos hret, show 0 + 1 + m = m + 1 by omega, alone_end hk0 hs0 (by rw [hw]; simp [LS.over, hret, wk0]), hw]
  | succ j ih =>
    intro r hj hn hx hr hs0 hm
    have hw : r.next L = { r with acc := ofV r.wakeR.acc, ns := [], k := ⟨true, c, ((k - 1 - j : Nat) : Int), false⟩ } := by
      unfold LS.next
      rw [show r.k.on = true by rw [hr], if_pos rfl]
      unfold LS.waking LS.wakeR
      rw [hr, hn, hx]
      have hcl := wc_clean (os := os) (k := k) ho hk (i := k - 1 - (j + 1)) (by omega)
      simp only [wakeI, lookI, if_true, hcl.1, hcl.2, Bool.false_eq_true, if_false]
      rw [if_neg (by omega)]
      simp only [nextI]
      rw [if_neg (by omega), show ((k - 1 - (j + 1) : Nat) : Int) + 1 = ((k - 1 - j : Nat) : Int) by omega]
    rw [show j + 1 + 1 + m = (j + 1 + m) + 1 by omega, alone_on hk0 hs0 (by rw [hw]; simp [LS.over]), hw]
    refine (ih { r with acc := ofV r.wakeR.acc, ns := [], k := ⟨true, c, ((k - 1 - j : Nat) : Int), false⟩ } (by omega) hn hx rfl hs0 hm).trans ?_
    by_cases hret : r.ret = 0
    · rw [if_neg (by simpa using hret), if_neg (by simpa using hret)]
      exact alone_like hk0 (hm.resolve_right (by simpa using hret)) rfl
    · rw [if_pos hret, if_pos hret]
theorem alone_woken (hk0 : Chk chk) {os : List Int} {k : Nat} (ho : os.length = 8) (hk : 1 ≤ k ∧ k ≤ 64) {c : Int} (hc : 0 ≤ c ∧ c < 8) {m : Nat} {r : LS} {mode : Int} (hn : r.n = k) (hx : r.xs = clean os k) (hr : r.k = beginI mode c) (hret : r.ret = 0) (hs0 : r.s = 0) (hm : k < m) :
    ∃ m', m ≤ m' + k ∧ aloneG chk L m r = aloneG chk L m' { r with k := wk0 } := by
  by_cases h2 : mode = 2
  · subst h2
    refine ⟨m - k, by omega, ?_⟩
    have e := alone_sweep (L := L) hk0 ho hk hc (m - k) (k - 1) r (by omega) hn hx (by rw [hr, beginI_2]; simp) hs0 (.inl (by omega))
    rw [show k - 1 + 1 + (m - k) = m by omega, if_neg (by simpa using hret)] at e
    exact e
  · refine ⟨m, by omega, ?_⟩
    rw [beginI_no h2] at hr
    have : { r with k := wk0 } = r := by cases r; simp only at hr; subst hr; rfl
    rw [this]
theorem alone_done (hk0 : Chk chk) {os : List Int} {k : Nat} (ho : os.length = 8) (hk : 1 ≤ k ∧ k ≤ 64) {c : Int} (hc : 0 ≤ c ∧ c < 8) {m : Nat} {r r' : LS} {mode : Int} (he : r.next L = r') (hn : r'.n = k) (hx : r'.xs = clean os k) (hr : r'.k = beginI mode c) (hret : r'.ret ≠ 0) (hs0 : r.s = 0) (hs1 : r'.s = 0) (hm : k < m) :
    aloneG chk L m r = (r'.ret, r'.xs) := by
  obtain ⟨m, rfl⟩ : ∃ q, m = q + 1 := ⟨m - 1, by omega⟩
  by_cases h2 : mode = 2
  · subst h2
    rw [alone_on hk0 hs0 (by rw [he]; simp [LS.over, hr, beginI_2]), he]
    have e := alone_sweep (L := L) hk0 ho hk hc (m - k) (k - 1) r' (by omega) hn hx (by rw [hr, beginI_2]; simp) hs1 (.inr hret)
    rw [show k - 1 + 1 + (m - k) = m by omega, if_pos hret] at e
    exact e
  · rw [beginI_no h2] at hr
    rw [alone_end hk0 hs0 (by rw [he]; simp [LS.over, hr, wk0, hret]), he]
end
end Go.Proofs.Ytgfippbcgneegaa
set_option linter.unusedVariables false
set_option linter.unusedSimpArgs false
namespace Go.Proofs.Ytgfippbcgneegaa
open Go.RowKit
def mkR (k : Nat) (mode task op line a b : Int) (kk : WkV) (ret : Int) (os : List Int) (acc : Acc5) (ns : List Nt) : LS := ⟨k, mode, task, op, line, a, b, 0, kk, ret, acc, ns, clean os k⟩
def Nx (L : LS → LS) (r : LS) (k : Nat) (mode task op line a b : Int) (kk : WkV) (ret : Int) (os : List Int) : Prop := ∃ acc ns, r.next L = mkR k mode task op line a b kk ret os acc ns
section
variable {chk : LS → Bool} {L : LS → LS} {r : LS} {k m : Nat} {mode task op line a b c ret : Int} {os : List Int}
theorem Nx.mk {kk : WkV} {r' : LS} (h : r.next L = r') (he : r'.fresh = mkR k mode task op line a b kk ret os acc0 []) : Nx L r k mode task op line a b kk ret os := by
  refine ⟨r'.acc, r'.ns, h.trans ?_⟩
  have e : r' = { r'.fresh with acc := r'.acc, ns := r'.ns } := rfl
  rw [e, he]
  rfl
theorem Nx.on (hk0 : Chk chk) (h0 : r.s = 0) (h : Nx L r k mode task op line a b wk0 0 os) : ∃ acc ns, aloneG chk L (m + 1) r = aloneG chk L m (mkR k mode task op line a b wk0 0 os acc ns) := by
  obtain ⟨acc, ns, e⟩ := h
  exact ⟨acc, ns, by rw [alone_on hk0 h0 (by rw [e]; rfl), e]⟩
theorem Nx.stop (hk0 : Chk chk) (h0 : r.s = 0) (h : Nx L r k mode task op line a b wk0 ret os) (hr : ret ≠ 0) : aloneG chk L (m + 1) r = (ret, clean os k) := by
  obtain ⟨acc, ns, e⟩ := h
  rw [alone_end hk0 h0 (by rw [e]; simp [LS.over, mkR, wk0, hr]), e]
  rfl
theorem Nx.done (hk0 : Chk chk) (h0 : r.s = 0) (ho : os.length = 8) (hk : 1 ≤ k ∧ k ≤ 64) (hc : 0 ≤ c ∧ c < 8) (h : Nx L r k mode task op line a b (beginI mode c) ret os) (hr : ret ≠ 0) (hm : k < m) : aloneG chk L m r = (ret, clean os k) := by
  obtain ⟨acc, ns, e⟩ := h
  exact alone_done hk0 ho hk hc e rfl rfl rfl hr h0 rfl hm
theorem Nx.woken (hk0 : Chk chk) (h0 : r.s = 0) (ho : os.length = 8) (hk : 1 ≤ k ∧ k ≤ 64) (hc : 0 ≤ c ∧ c < 8) (h : Nx L r k mode task op line a b (beginI mode c) 0 os) (hm : k < m) : ∃ m' acc ns, m ≤ m' + k ∧ aloneG chk L (m + 1) r = aloneG chk L m' (mkR k mode task op line a b wk0 0 os acc ns) := by
  obtain ⟨acc, ns, e⟩ := h
  obtain ⟨m', h1, h2⟩ := alone_woken (L := L) hk0 (os := os) (k := k) (c := c) (m := m) (mode := mode) (r := mkR k mode task op line a b (beginI mode c) 0 os acc ns) ho hk hc rfl rfl rfl rfl rfl hm
  exact ⟨m', acc, ns, h1, by rw [alone_on hk0 h0 (by rw [e]; rfl), e]; exact h2⟩
end
end Go.Proofs.Ytgfippbcgneegaa
namespace Go.Proofs.Ytgfippbcgneegaa
def aheadI (a b : Int) : Int := (a - b + 2147483648) % 4294967296 - 2147483648
end Go.Proofs.Ytgfippbcgneegaa
set_option linter.unusedVariables false
set_option linter.unusedSimpArgs false
namespace Go.Proofs.Ytgfippbcgneegaa
open Go.RowKit
theorem stepI_seen {xs : List Int} {n mode i c : Int} {q : Int → Bool} (h : q (wordAt xs c) = true) : (stepI xs n mode i 0 c q).next = 0 ∧ (stepI xs n mode i 0 c q).seen = true ∧ (stepI xs n mode i 0 c q).done = true ∧ (stepI xs n mode i 0 c q).xs = xs := by
  by_cases hm : mode = 2
  · subst hm
    rw [stepI_0 (by decide) (by decide) (by decide) (by decide), h]
    exact ⟨rfl, rfl, rfl, rfl⟩
  · rw [stepI_spin hm, h]
    exact ⟨rfl, rfl, rfl, rfl⟩
theorem ahead_self (a : Int) : aheadI a a = 0 := by unfold aheadI; omega
end Go.Proofs.Ytgfippbcgneegaa
set_option linter.unusedVariables false
set_option linter.unusedSimpArgs false
namespace Go.Proofs.Ytgfippbcgneegaa
open Go.RowKit
def LS.keepA (r : LS) (v : Int) : LS := { r with a := v }
def LS.keepB (r : LS) (v : Int) : LS := { r with b := v }
def LS.mine (r : LS) (v : Int) : Bool := v == r.a
def LS.noteIf (r : LS) (b : Bool) (what : Int) : LS := if b then r.note what 0 else r
end Go.Proofs.Ytgfippbcgneegaa
set_option linter.unusedVariables false
set_option linter.unusedSimpArgs false
namespace Go.Proofs.Ytgfippbcgneegaa
open Go.RowKit
def pfCase (op line : Int) : Nat :=
  if op = 1 ∧ line = 0 then 1 else if op = 1 ∧ line = 1 then 2 else if op = 2 ∧ line = 0 then 3 else if op = 3 ∧ line = 0 then 4 else if op = 3 ∧ line = 1 then 5 else if op = 3 ∧ line = 2 then 6
  else if op = 3 ∧ line = 3 then 7 else if op = 3 ∧ line = 4 then 8 else if op = 4 ∧ line = 0 then 9 else if op = 8 ∧ line = 0 then 9 else if op = 4 ∧ line = 1 then 10 else if op = 8 ∧ line = 1 then 11
  else if op = 4 ∧ line = 2 then 12 else if op = 8 ∧ line = 2 then 12 else if op = 4 ∧ line = 3 then 13 else if op = 8 ∧ line = 3 then 13 else if op = 5 ∧ line = 0 then 14 else if op = 5 ∧ line = 1 then 15
  else if op = 6 ∧ line = 0 then 16 else if op = 7 ∧ line = 0 then 16 else if op = 6 ∧ line = 1 then 17 else if op = 7 ∧ line = 1 then 17 else if op = 6 ∧ line = 2 then 18 else if op = 7 ∧ line = 2 then 18
  else if op = 6 ∧ line = 3 then 19 else if op = 7 ∧ line = 3 then 19 else if op = 6 ∧ line = 4 then 20 else if op = 7 ∧ line = 4 then 21 else if op = 6 ∧ line = 5 then 22 else if op = 7 ∧ line = 5 then 22
  else if op = 6 ∧ line = 6 then 23 else if op = 7 ∧ line = 6 then 23 else if op = 6 ∧ line = 7 then 24 else if op = 7 ∧ line = 7 then 25 else if op = 7 ∧ line = 8 then 26 else if op = 6 ∧ line = 9 then 27
  else if op = 7 ∧ line = 9 then 27 else 0
def bitsI (v : Int) : Int := v % 4
def presI (b : Int) : Int := 2 + b % 2
def LS.pCome (r : LS) : LS := if bitsI (wordAt r.xs 0) = 0 then ((((r.doA 3 0 256 0).keepA (wordAt r.xs 0)).note 2 1).note 4 0).fin true else (((r.doA 3 0 256 0).keepA (wordAt r.xs 0)).note 2 1).go 1
def LS.left (r : LS) (v : Int) : Bool := bitsI v != bitsI r.a
def LS.pAdmit (r : LS) (c : Int) (q : Int → Bool) : LS := if (r.stepR c q).done then ((r.wait c q).noteIf (r.stepR c q).seen 4).fin true else (r.wait c q).noteIf (r.stepR c q).seen 4
def LS.pDepart (r : LS) : LS := (((r.doA 3 1 256 0).note 6 0).wake 1).fin true
def LS.pDraw (r : LS) : LS := (((r.doA 3 2 1 0).keepA (wordAt r.xs 2)).note 2 2).go 1
def LS.pTurn (r : LS) : LS := if (r.stepR 3 r.mine).done then (r.wait 3 r.mine).go 2 else r.wait 3 r.mine
def LS.pKeep (r : LS) (n : Int) : LS := ((r.doA 1 4 0 0).keepB (wordAt r.xs 4)).go n
def LS.pAppear (r : LS) (n : Int) : LS := (((r.doA 3 0 (presI r.b) 0).keepA (wordAt r.xs 0)).note 3 0).go n
def LS.pVanish (r : LS) (inn what : Int) : LS := (((r.doA 3 0 ((inn - presI r.b) % 4294967296) 0).note what 0).wake 0).go 2
def LS.pCount (r : LS) : LS := (r.doA 2 4 ((r.b + 1) % 4294967296) 0).go 3
def LS.pPass (r : LS) (ok : Bool) : LS := (((r.doA 3 3 1 0).note 8 0).wake 3).fin ok
def LS.pLookIn (r : LS) : LS := if bitsI (wordAt r.xs 0) = 0 then ((r.doA 1 0 0 0).keepA (wordAt r.xs 0)).go 1 else (((r.doA 1 0 0 0).keepA (wordAt r.xs 0)).note 5 0).fin false
def LS.was (r : LS) (c : Int) : Bool := there r.xs c && (wordAt r.xs c == r.a)
def LS.pSlip (r : LS) : LS := if r.was 0 then (((r.doA 5 0 r.a ((r.a + 256) % 4294967296)).note 2 1).note 4 0).fin true else (r.doA 5 0 r.a ((r.a + 256) % 4294967296)).go 0
def LS.pLook (r : LS) (c n : Int) : LS := ((r.doA 1 c 0 0).keepA (wordAt r.xs c)).go n
def LS.pWeighT (r : LS) : LS :=
  if 0 < aheadI r.a (wordAt r.xs 3) then (((r.doA 1 3 0 0).keepB (wordAt r.xs 3)).note 5 0).fin false
  else if aheadI r.a (wordAt r.xs 3) < 0 then ((r.doA 1 3 0 0).keepB (wordAt r.xs 3)).go 0 else ((r.doA 1 3 0 0).keepB (wordAt r.xs 3)).go 2
def LS.pClaim (r : LS) : LS := if r.was 2 then ((r.doA 5 2 r.a ((r.a + 1) % 4294967296)).note 2 2).go 3 else (r.doA 5 2 r.a ((r.a + 1) % 4294967296)).go 0
def LS.pWeighR (r : LS) (own : Int) : LS := if aheadI r.a (wordAt r.xs 1) ≤ own then ((r.doA 1 1 0 0).keepB (wordAt r.xs 1)).go 5 else (((r.doA 1 1 0 0).keepB (wordAt r.xs 1)).note 5 0).go 9
def LS.butMe (r : LS) (v : Int) : Bool := v == (r.a - 256) % 4294967296
def LS.pOthers (r : LS) : LS := if (r.stepR 1 r.butMe).done then ((r.wait 1 r.butMe).noteIf (r.stepR 1 r.butMe).seen 9).go 8 else (r.wait 1 r.butMe).noteIf (r.stepR 1 r.butMe).seen 9
def LS.pStop (r : LS) : LS := (r.doA 3 1 256 0).fin true
def LS.pf (r : LS) : LS :=
  match pfCase r.op r.line with
  | 1 => r.pCome
  | 2 => r.pAdmit 0 r.left
  | 3 => r.pDepart
  | 4 => r.pDraw
  | 5 => r.pTurn
  | 6 => r.pKeep 3
  | 7 => r.pAppear 4
  | 8 => r.pAdmit 1 r.mine
  | 9 => r.pKeep 1
  | 10 => r.pVanish 0 7
  | 11 => r.pVanish 256 10
  | 12 => r.pCount
  | 13 => r.pPass true
  | 14 => r.pLookIn
  | 15 => r.pSlip
  | 16 => r.pLook 2 1
  | 17 => r.pWeighT
  | 18 => r.pClaim
  | 19 => r.pLook 0 4
  | 20 => r.pWeighR 0
  | 21 => r.pWeighR 256
  | 22 => r.pKeep 6
  | 23 => r.pAppear 7
  | 24 => r.pAdmit 1 r.mine
  | 25 => r.pOthers
  | 26 => r.pStop
  | 27 => r.pPass false
  | _ => r
end Go.Proofs.Ytgfippbcgneegaa
