/- CleanM, AloneM, AheadM, TfM, TfA, MkRun, TfT, TfF, Phase. -/
import Derived.WalkKit
import Derived.Deep.RegionHeld3
import Derived.StillTail
import Derived.Test.YtdmpaoajcnjbaaaA1
/- A lock that nobody waits for, in plain words: its own eight cells, and all others 0; an operation by itself. -/
set_option linter.unusedVariables false
set_option linter.unusedSimpArgs false
namespace Go.Proofs.Ytdmpaoajcnjbaaa
open Go.RowKit

/-- The words: the lock's own, then those of k tasks, all 0. -/
def clean (os : List Int) (k : Nat) : List Int := os ++ List.replicate (4 * k) 0

section
variable {os : List Int} {k : Nat}
theorem clean_len (h : os.length = 8) : (clean os k).length = 8 + 4 * k := by simp [clean, h]
theorem clean_own (h : os.length = 8) {i : Nat} (hi : i < 8) : wordAt (clean os k) i = os.getD i 0 := by
  have ht : there (clean os k) i = true := by simp [there, clean_len h]; omega
  unfold wordAt
  rw [if_pos ht]
  simp only [Int.toNat_natCast, clean, List.getD]
  rw [List.getElem?_append_left (by omega)]
theorem clean_there (h : os.length = 8) {i : Nat} (hi : i < 8 + 4 * k) : there (clean os k) i = true := by simp [there, clean_len h]; omega
theorem clean_zero (h : os.length = 8) {i : Nat} (hi : 8 ≤ i) : wordAt (clean os k) i = 0 := by
  unfold wordAt
  split
  · simp only [Int.toNat_natCast, clean, List.getD]
    rw [List.getElem?_append_right (by omega), List.getElem?_replicate]
    split <;> rfl
  · rfl
theorem clean_set (h : os.length = 8) {i : Nat} (hi : i < 8) (v : Int) : (clean os k).set i v = clean (os.set i v) k := by
  unfold clean
  rw [List.set_append, if_pos (by omega)]
theorem clean_do (h : os.length = 8) {i : Nat} (hi : i < 8) {kd : Int} (hk : isKind kd = true) (x y : Int) : doNew (clean os k) kd i x y = clean (os.set i (leftOf kd x y (os.getD i 0))) k := by
  have ht : there (clean os k) i = true := clean_there h (by omega)
  rw [← clean_own (k := k) h hi, ← clean_set h hi]
  simp [doNew, doOk, ht, hk]
theorem wc_clean (h : os.length = 8) (hk : 1 ≤ k ∧ k ≤ 64) {i : Nat} (hi : i < k) : there (clean os k) (wc k i) = true ∧ wordAt (clean os k) (wc k i) = 0 := by
  have e : wc (k : Int) (i : Int) = ((8 + 2 * k + i : Nat) : Int) := by
    unfold wc cellI
    rw [if_pos (by omega)]
    push_cast
    omega
  rw [e]
  exact ⟨clean_there h (by omega), clean_zero h (by omega)⟩
end

/-- An operation by itself: in so many steps at most, and as long as it isn't stopped: its result (0: it isn't over), and the words then. -/
def aloneG (chk : LS → Bool) (L : LS → LS) : Nat → LS → Int × List Int
  | 0, r => (0, r.xs)
  | m + 1, r => if chk r then (0, r.xs) else if (r.next L).over then ((r.next L).ret, (r.next L).xs) else aloneG chk L m (r.next L)
/-- What never stops. -/
def chkN : LS → Bool := fun _ => false
def aloneL (L : LS → LS) (m : Nat) (r : LS) : Int × List Int := aloneG chkN L m r
/-- What stops only one that waits. -/
structure Chk (chk : LS → Bool) : Prop where
  fresh : ∀ r : LS, chk r.fresh = chk r
  free : ∀ r : LS, r.s = 0 → chk r = false
theorem chk_n : Chk chkN := ⟨fun _ => rfl, fun _ _ => rfl⟩
theorem chk_stuck : Chk LS.stuck := ⟨fun _ => rfl, fun r h => by
  unfold LS.stuck stuckB
  rw [h]
  simp⟩

section
variable {chk : LS → Bool} {L : LS → LS} {r : LS}
theorem next_fresh : r.fresh.next L = r.next L := by unfold LS.next; show (if r.k.on = true then _ else _) = _; split <;> rfl
theorem alone_fresh (hk0 : Chk chk) {m : Nat} (hm : 0 < m) : aloneG chk L m r.fresh = aloneG chk L m r := by
  cases m with
  | zero => omega
  | succ m => unfold aloneG; rw [next_fresh, hk0.fresh]; rfl
/-- Runs that are alike but for what the last step told. -/
theorem alone_like (hk0 : Chk chk) {m : Nat} {r' : LS} (hm : 0 < m) (h : r.fresh = r'.fresh) : aloneG chk L m r = aloneG chk L m r' := by rw [← alone_fresh hk0 hm, h, alone_fresh hk0 hm]
theorem alone_on (hk0 : Chk chk) (h0 : r.s = 0) {m : Nat} (h : (r.next L).over = false) : aloneG chk L (m + 1) r = aloneG chk L m (r.next L) := by
  show (if _ then _ else if _ then _ else _) = _
  rw [if_neg (by rw [hk0.free r h0]; exact Bool.false_ne_true), if_neg (by rw [h]; exact Bool.false_ne_true)]
theorem alone_end (hk0 : Chk chk) (h0 : r.s = 0) {m : Nat} (h : (r.next L).over = true) : aloneG chk L (m + 1) r = ((r.next L).ret, (r.next L).xs) := by
  show (if _ then _ else if _ then _ else _) = _
  rw [if_neg (by rw [hk0.free r h0]; exact Bool.false_ne_true), if_pos h]

/-- A wake-up of a lock that nobody waits for: it looks at each watch, and that is all. -/
theorem alone_sweep (hk0 : Chk chk) {os : List Int} {k : Nat} (ho : os.length = 8) (hk : 1 ≤ k ∧ k ≤ 64) {c : Int} (hc : 0 ≤ c ∧ c < 8) (m : Nat) : ∀ (j : Nat) (r : LS), j < k → r.n = k → r.xs = clean os k → r.k = ⟨true, c, ((k - 1 - j : Nat) : Int), false⟩ → r.s = 0 →
    0 < m ∨ r.ret ≠ 0 → aloneG chk L (j + 1 + m) r = if r.ret ≠ 0 then (r.ret, r.xs) else aloneG chk L m { r with k := wk0 } := by
  intro j
  induction j with
  | zero =>
    intro r hj hn hx hr hs0 hm
    have hw : r.next L = { r with acc := ofV r.wakeR.acc, ns := [], k := wk0 } := by
      unfold LS.next
      rw [show r.k.on = true by rw [hr], if_pos rfl]
      unfold LS.waking LS.wakeR
      rw [hr, hn, hx]
      have hcl := wc_clean (os := os) (k := k) ho hk (i := k - 1 - 0) (by omega)
      simp only [wakeI, lookI, if_true, hcl.1, hcl.2, Bool.false_eq_true, if_false]
      rw [if_neg (by omega)]
      simp only [nextI]
      rw [if_pos (by omega)]
    by_cases hret : r.ret = 0
    · rw [if_neg (by simpa using hret)]
      have hm0 : 0 < m := by rcases hm with h | h; exact h; exact absurd hret h
      rw [show 0 + 1 + m = m + 1 by omega, alone_on hk0 hs0 (by rw [hw]; simp [LS.over, hret]), hw]
      exact alone_like hk0 hm0 rfl
    · rw [if_pos hret, show 0 + 1 + m = m + 1 by omega, alone_end hk0 hs0 (by rw [hw]; simp [LS.over, hret, wk0]), hw]
  | succ j ih =>
    intro r hj hn hx hr hs0 hm
    have hw : r.next L = { r with acc := ofV r.wakeR.acc, ns := [], k := ⟨true, c, ((k - 1 - j : Nat) : Int), false⟩ } := by
      unfold LS.next
      rw [show r.k.on = true by rw [hr], if_pos rfl]
      unfold LS.waking LS.wakeR
      rw [hr, hn, hx]
      have hcl := wc_clean (os := os) (k := k) ho hk (i := k - 1 - (j + 1)) (by omega)
      simp only [wakeI, lookI, if_true, hcl.1, hcl.2, Bool.false_eq_true, if_false]
      rw [if_neg (by omega)]
      simp only [nextI]
      rw [if_neg (by omega), show ((k - 1 - (j + 1) : Nat) : Int) + 1 = ((k - 1 - j : Nat) : Int) by omega]
    rw [show j + 1 + 1 + m = (j + 1 + m) + 1 by omega, alone_on hk0 hs0 (by rw [hw]; simp [LS.over]), hw]
    refine (ih { r with acc := ofV r.wakeR.acc, ns := [], k := ⟨true, c, ((k - 1 - j : Nat) : Int), false⟩ } (by omega) hn hx rfl hs0 hm).trans ?_
    by_cases hret : r.ret = 0
    · rw [if_neg (by simpa using hret), if_neg (by simpa using hret)]
      exact alone_like hk0 (hm.resolve_right (by simpa using hret)) rfl
    · rw [if_pos hret, if_pos hret]

/-- Behind a line that begins a wake-up, and in so many steps as it takes in either mode. -/
theorem alone_woken (hk0 : Chk chk) {os : List Int} {k : Nat} (ho : os.length = 8) (hk : 1 ≤ k ∧ k ≤ 64) {c : Int} (hc : 0 ≤ c ∧ c < 8) {m : Nat} {r : LS} {mode : Int} (hn : r.n = k) (hx : r.xs = clean os k) (hr : r.k = beginI mode c) (hret : r.ret = 0) (hs0 : r.s = 0) (hm : k < m) :
    ∃ m', m ≤ m' + k ∧ aloneG chk L m r = aloneG chk L m' { r with k := wk0 } := by
  by_cases h2 : mode = 2
  · subst h2
    refine ⟨m - k, by omega, ?_⟩
    have e := alone_sweep (L := L) hk0 ho hk hc (m - k) (k - 1) r (by omega) hn hx (by rw [hr, beginI_2]; simp) hs0 (.inl (by omega))
    rw [show k - 1 + 1 + (m - k) = m by omega, if_neg (by simpa using hret)] at e
    exact e
  · refine ⟨m, by omega, ?_⟩
    rw [beginI_no h2] at hr
    have : { r with k := wk0 } = r := by cases r; simp only at hr; subst hr; rfl
    rw [this]
/-- Behind the last line, whether it begins a wake-up or not. -/
theorem alone_done (hk0 : Chk chk) {os : List Int} {k : Nat} (ho : os.length = 8) (hk : 1 ≤ k ∧ k ≤ 64) {c : Int} (hc : 0 ≤ c ∧ c < 8) {m : Nat} {r r' : LS} {mode : Int} (he : r.next L = r') (hn : r'.n = k) (hx : r'.xs = clean os k) (hr : r'.k = beginI mode c) (hret : r'.ret ≠ 0) (hs0 : r.s = 0) (hs1 : r'.s = 0) (hm : k < m) :
    aloneG chk L m r = (r'.ret, r'.xs) := by
  obtain ⟨m, rfl⟩ : ∃ q, m = q + 1 := ⟨m - 1, by omega⟩
  by_cases h2 : mode = 2
  · subst h2
    rw [alone_on hk0 hs0 (by rw [he]; simp [LS.over, hr, beginI_2]), he]
    have e := alone_sweep (L := L) hk0 ho hk hc (m - k) (k - 1) r' (by omega) hn hx (by rw [hr, beginI_2]; simp) hs1 (.inr hret)
    rw [show k - 1 + 1 + (m - k) = m by omega, if_pos hret] at e
    exact e
  · rw [beginI_no h2] at hr
    rw [alone_end hk0 hs0 (by rw [he]; simp [LS.over, hr, wk0, hret]), he]
end
end Go.Proofs.Ytdmpaoajcnjbaaa
/- An operation by itself, step by step, in plain words; whatever the lock's lines are. -/
set_option linter.unusedVariables false
set_option linter.unusedSimpArgs false
namespace Go.Proofs.Ytdmpaoajcnjbaaa
open Go.RowKit

/-- A run over a lock that nobody waits for. -/
def mkR (k : Nat) (mode task op line a b : Int) (kk : WkV) (ret : Int) (os : List Int) (acc : Acc5) (ns : List Nt) : LS := ⟨k, mode, task, op, line, a, b, 0, kk, ret, acc, ns, clean os k⟩
/-- What its next step leaves. -/
def Nx (L : LS → LS) (r : LS) (k : Nat) (mode task op line a b : Int) (kk : WkV) (ret : Int) (os : List Int) : Prop := ∃ acc ns, r.next L = mkR k mode task op line a b kk ret os acc ns

section
variable {chk : LS → Bool} {L : LS → LS} {r : LS} {k m : Nat} {mode task op line a b c ret : Int} {os : List Int}
theorem Nx.mk {kk : WkV} {r' : LS} (h : r.next L = r') (he : r'.fresh = mkR k mode task op line a b kk ret os acc0 []) : Nx L r k mode task op line a b kk ret os := by
  refine ⟨r'.acc, r'.ns, h.trans ?_⟩
  have e : r' = { r'.fresh with acc := r'.acc, ns := r'.ns } := rfl
  rw [e, he]
  rfl
theorem Nx.on (hk0 : Chk chk) (h0 : r.s = 0) (h : Nx L r k mode task op line a b wk0 0 os) : ∃ acc ns, aloneG chk L (m + 1) r = aloneG chk L m (mkR k mode task op line a b wk0 0 os acc ns) := by
  obtain ⟨acc, ns, e⟩ := h
  exact ⟨acc, ns, by rw [alone_on hk0 h0 (by rw [e]; rfl), e]⟩
theorem Nx.stop (hk0 : Chk chk) (h0 : r.s = 0) (h : Nx L r k mode task op line a b wk0 ret os) (hr : ret ≠ 0) : aloneG chk L (m + 1) r = (ret, clean os k) := by
  obtain ⟨acc, ns, e⟩ := h
  rw [alone_end hk0 h0 (by rw [e]; simp [LS.over, mkR, wk0, hr]), e]
  rfl
theorem Nx.done (hk0 : Chk chk) (h0 : r.s = 0) (ho : os.length = 8) (hk : 1 ≤ k ∧ k ≤ 64) (hc : 0 ≤ c ∧ c < 8) (h : Nx L r k mode task op line a b (beginI mode c) ret os) (hr : ret ≠ 0) (hm : k < m) : aloneG chk L m r = (ret, clean os k) := by
  obtain ⟨acc, ns, e⟩ := h
  exact alone_done hk0 ho hk hc e rfl rfl rfl hr h0 rfl hm
theorem Nx.woken (hk0 : Chk chk) (h0 : r.s = 0) (ho : os.length = 8) (hk : 1 ≤ k ∧ k ≤ 64) (hc : 0 ≤ c ∧ c < 8) (h : Nx L r k mode task op line a b (beginI mode c) 0 os) (hm : k < m) : ∃ m' acc ns, m ≤ m' + k ∧ aloneG chk L (m + 1) r = aloneG chk L m' (mkR k mode task op line a b wk0 0 os acc ns) := by
  obtain ⟨acc, ns, e⟩ := h
  obtain ⟨m', h1, h2⟩ := alone_woken (L := L) hk0 (os := os) (k := k) (c := c) (m := m) (mode := mode) (r := mkR k mode task op line a b (beginI mode c) 0 os acc ns) ho hk hc rfl rfl rfl rfl rfl hm
  exact ⟨m', acc, ns, h1, by rw [alone_on hk0 h0 (by rw [e]; rfl), e]; exact h2⟩
end
end Go.Proofs.Ytdmpaoajcnjbaaa
/- How far a word is ahead of another, round the word. -/
namespace Go.Proofs.Ytdmpaoajcnjbaaa

/-- How far a is ahead of b, round the word. -/
def aheadI (a b : Int) : Int := (a - b + 2147483648) % 4294967296 - 2147483648
theorem ahead_bd (a b : Int) : -2147483648 ≤ aheadI a b ∧ aheadI a b < 2147483648 := by unfold aheadI; omega

end Go.Proofs.Ytdmpaoajcnjbaaa
/- The task-fair lock's lines, in plain words. -/
set_option linter.unusedVariables false
set_option linter.unusedSimpArgs false
namespace Go.Proofs.Ytdmpaoajcnjbaaa
open Go.RowKit

/-- Which line it is: 0: none. -/
def tfCase (op line : Int) : Nat :=
  if op = 1 ∧ line = 0 then 1 else if op = 1 ∧ line = 1 then 2 else if op = 1 ∧ line = 2 then 3 else if op = 2 ∧ line = 0 then 4 else if op = 3 ∧ line = 0 then 5 else if op = 3 ∧ line = 1 then 6
  else if op = 4 ∧ line = 0 then 7 else if op = 4 ∧ line = 1 then 8 else if op = 5 ∧ line = 0 then 9 else if op = 5 ∧ line = 1 then 10 else if op = 5 ∧ line = 2 then 11 else if op = 5 ∧ line = 3 then 12
  else if op = 6 ∧ line = 0 then 13 else if op = 6 ∧ line = 1 then 14 else if op = 6 ∧ line = 2 then 15 else if op = 7 ∧ line = 0 then 16 else if op = 7 ∧ line = 1 then 17 else if op = 7 ∧ line = 2 then 18 else if op = 7 ∧ line = 3 then 19
  else if op = 8 ∧ line = 0 then 20 else 0

def LS.keepA (r : LS) (v : Int) : LS := { r with a := v }
def LS.keepB (r : LS) (v : Int) : LS := { r with b := v }
def LS.draw (r : LS) (cl : Int) : LS := (((r.doA 3 0 1 0).keepA (wordAt r.xs 0)).note 2 cl).go 1
def LS.mine (r : LS) (v : Int) : Bool := v == r.a
def LS.awaitR (r : LS) : LS := if (r.stepR 1 r.mine).done then (r.wait 1 r.mine).go 2 else r.wait 1 r.mine
def LS.noteIf (r : LS) (b : Bool) (what : Int) : LS := if b then r.note what 0 else r
def LS.awaitW (r : LS) : LS := if (r.stepR 2 r.mine).done then ((r.wait 2 r.mine).noteIf (r.stepR 2 r.mine).seen 4).fin true else (r.wait 2 r.mine).noteIf (r.stepR 2 r.mine).seen 4
def LS.turn (r : LS) (c what : Int) : LS := (((r.doA 3 c 1 0).note what 0).wake c).fin true
def LS.leave (r : LS) : LS := (((r.doA 3 1 1 0).note 7 0).wake 1).go 1
def LS.look (r : LS) : LS := ((r.doA 1 0 0 0).keepA (wordAt r.xs 0)).go 1
def LS.weigh (r : LS) (c own : Int) : LS :=
  if own < aheadI r.a (wordAt r.xs c) then (((r.doA 1 c 0 0).keepB (wordAt r.xs c)).note 5 0).fin false
  else if aheadI r.a (wordAt r.xs c) < own then ((r.doA 1 c 0 0).keepB (wordAt r.xs c)).go 0 else ((r.doA 1 c 0 0).keepB (wordAt r.xs c)).go 2
def LS.claimed (r : LS) : Bool := there r.xs 0 && (wordAt r.xs 0 == r.a)
def LS.claim (r : LS) : LS := r.doA 5 0 r.a ((r.a + 1) % 4294967296)
def LS.giveBack (r : LS) : LS := (r.doA 3 2 1 0).fin true

/-- What the line of r's frame leaves. -/
def LS.tf (r : LS) : LS :=
  match tfCase r.op r.line with
  | 1 => r.draw 1
  | 2 => r.awaitR
  | 3 => r.turn 1 4
  | 4 => r.turn 2 6
  | 5 => r.draw 2
  | 6 => r.awaitW
  | 7 => r.leave
  | 8 => r.turn 2 8
  | 9 => r.look
  | 10 => r.weigh 1 0
  | 11 => if r.claimed then (r.claim.note 2 1).go 3 else r.claim.go 0
  | 12 => r.turn 1 4
  | 13 => r.look
  | 14 => r.weigh 2 0
  | 15 => if r.claimed then ((r.claim.note 2 2).note 4 0).fin true else r.claim.go 0
  | 16 => r.look
  | 17 => r.weigh 2 1
  | 18 => if r.claimed then (r.claim.note 9 0).go 3 else r.claim.go 0
  | 19 => r.giveBack
  | 20 => r.turn 1 10
  | _ => r
end Go.Proofs.Ytdmpaoajcnjbaaa
/- Each operation of the task-fair lock by itself, in plain words. -/
set_option linter.unusedVariables false
set_option linter.unusedSimpArgs false
namespace Go.Proofs.Ytdmpaoajcnjbaaa
open Go.RowKit

/-- The lock's own cells. -/
def os3 (u r w : Int) : List Int := [u, r, w, 0, 0, 0, 0, 0]
def up (u : Int) : Int := (1 + u) % 4294967296

section
variable {k : Nat} {mode task op line a b u r w : Int} {acc : Acc5} {ns : List Nt}
theorem os3_len : (os3 u r w).length = 8 := rfl
theorem os3_0 : wordAt (clean (os3 u r w) k) 0 = u := clean_own (i := 0) os3_len (by decide)
theorem os3_1 : wordAt (clean (os3 u r w) k) 1 = r := clean_own (i := 1) os3_len (by decide)
theorem os3_2 : wordAt (clean (os3 u r w) k) 2 = w := clean_own (i := 2) os3_len (by decide)
theorem os3_l0 : doNew (clean (os3 u r w) k) 1 0 0 0 = clean (os3 u r w) k := doNew_load _ _ _ _
theorem os3_l1 : doNew (clean (os3 u r w) k) 1 1 0 0 = clean (os3 u r w) k := doNew_load _ _ _ _
theorem os3_l2 : doNew (clean (os3 u r w) k) 1 2 0 0 = clean (os3 u r w) k := doNew_load _ _ _ _
theorem os3_a0 : doNew (clean (os3 u r w) k) 3 0 1 0 = clean (os3 (up u) r w) k := clean_do (i := 0) os3_len (by decide) rfl 1 0
theorem os3_a1 : doNew (clean (os3 u r w) k) 3 1 1 0 = clean (os3 u (up r) w) k := clean_do (i := 1) os3_len (by decide) rfl 1 0
theorem os3_a2 : doNew (clean (os3 u r w) k) 3 2 1 0 = clean (os3 u r (up w)) k := clean_do (i := 2) os3_len (by decide) rfl 1 0
theorem os3_c0 : doNew (clean (os3 u r w) k) 5 0 u ((u + 1) % 4294967296) = clean (os3 (up u) r w) k := by
  have e := clean_do (k := k) (i := 0) (os := os3 u r w) os3_len (by decide) (kd := 5) rfl u ((u + 1) % 4294967296)
  rw [show leftOf 5 u ((u + 1) % 4294967296) ((os3 u r w).getD 0 0) = up u by
    show (if u = u then (u + 1) % 4294967296 else u) = _
    rw [if_pos rfl, Int.add_comm]; rfl] at e
  exact e
theorem os3_there : there (clean (os3 u r w) k) 0 = true := clean_there (i := 0) os3_len (by omega)

theorem l_draw1 : Nx LS.tf (mkR k mode task 1 0 a b wk0 0 (os3 u r w) acc ns) k mode task 1 1 u b wk0 0 (os3 (up u) r w) := by
  refine Nx.mk (show _ = (mkR k mode task 1 0 a b wk0 0 (os3 u r w) acc ns).fresh.draw 1 from rfl) ?_
  unfold mkR LS.draw
  simp only [LS.doA, LS.keepA, LS.keepB, LS.note, LS.go, LS.fin, LS.wake, LS.fresh, os3_0, os3_1, os3_2, os3_l0, os3_l1, os3_l2, os3_a0, os3_a1, os3_a2, os3_c0]
  first | done | rfl
theorem l_draw3 : Nx LS.tf (mkR k mode task 3 0 a b wk0 0 (os3 u r w) acc ns) k mode task 3 1 u b wk0 0 (os3 (up u) r w) := by
  refine Nx.mk (show _ = (mkR k mode task 3 0 a b wk0 0 (os3 u r w) acc ns).fresh.draw 2 from rfl) ?_
  unfold mkR LS.draw
  simp only [LS.doA, LS.keepA, LS.keepB, LS.note, LS.go, LS.fin, LS.wake, LS.fresh, os3_0, os3_1, os3_2, os3_l0, os3_l1, os3_l2, os3_a0, os3_a1, os3_a2, os3_c0]
  first | done | rfl
theorem l_turn12 : Nx LS.tf (mkR k mode task 1 2 a b wk0 0 (os3 u r w) acc ns) k mode task 1 2 a b (beginI mode 1) 2 (os3 u (up r) w) := by
  refine Nx.mk (show _ = (mkR k mode task 1 2 a b wk0 0 (os3 u r w) acc ns).fresh.turn 1 4 from rfl) ?_
  unfold mkR LS.turn
  simp only [LS.doA, LS.keepA, LS.keepB, LS.note, LS.go, LS.fin, LS.wake, LS.fresh, os3_0, os3_1, os3_2, os3_l0, os3_l1, os3_l2, os3_a0, os3_a1, os3_a2, os3_c0]
  first | done | rfl
theorem l_turn20 : Nx LS.tf (mkR k mode task 2 0 a b wk0 0 (os3 u r w) acc ns) k mode task 2 0 a b (beginI mode 2) 2 (os3 u r (up w)) := by
  refine Nx.mk (show _ = (mkR k mode task 2 0 a b wk0 0 (os3 u r w) acc ns).fresh.turn 2 6 from rfl) ?_
  unfold mkR LS.turn
  simp only [LS.doA, LS.keepA, LS.keepB, LS.note, LS.go, LS.fin, LS.wake, LS.fresh, os3_0, os3_1, os3_2, os3_l0, os3_l1, os3_l2, os3_a0, os3_a1, os3_a2, os3_c0]
  first | done | rfl
theorem l_turn41 : Nx LS.tf (mkR k mode task 4 1 a b wk0 0 (os3 u r w) acc ns) k mode task 4 1 a b (beginI mode 2) 2 (os3 u r (up w)) := by
  refine Nx.mk (show _ = (mkR k mode task 4 1 a b wk0 0 (os3 u r w) acc ns).fresh.turn 2 8 from rfl) ?_
  unfold mkR LS.turn
  simp only [LS.doA, LS.keepA, LS.keepB, LS.note, LS.go, LS.fin, LS.wake, LS.fresh, os3_0, os3_1, os3_2, os3_l0, os3_l1, os3_l2, os3_a0, os3_a1, os3_a2, os3_c0]
  first | done | rfl
theorem l_turn53 : Nx LS.tf (mkR k mode task 5 3 a b wk0 0 (os3 u r w) acc ns) k mode task 5 3 a b (beginI mode 1) 2 (os3 u (up r) w) := by
  refine Nx.mk (show _ = (mkR k mode task 5 3 a b wk0 0 (os3 u r w) acc ns).fresh.turn 1 4 from rfl) ?_
  unfold mkR LS.turn
  simp only [LS.doA, LS.keepA, LS.keepB, LS.note, LS.go, LS.fin, LS.wake, LS.fresh, os3_0, os3_1, os3_2, os3_l0, os3_l1, os3_l2, os3_a0, os3_a1, os3_a2, os3_c0]
  first | done | rfl
theorem l_turn80 : Nx LS.tf (mkR k mode task 8 0 a b wk0 0 (os3 u r w) acc ns) k mode task 8 0 a b (beginI mode 1) 2 (os3 u (up r) w) := by
  refine Nx.mk (show _ = (mkR k mode task 8 0 a b wk0 0 (os3 u r w) acc ns).fresh.turn 1 10 from rfl) ?_
  unfold mkR LS.turn
  simp only [LS.doA, LS.keepA, LS.keepB, LS.note, LS.go, LS.fin, LS.wake, LS.fresh, os3_0, os3_1, os3_2, os3_l0, os3_l1, os3_l2, os3_a0, os3_a1, os3_a2, os3_c0]
  first | done | rfl
theorem l_leave : Nx LS.tf (mkR k mode task 4 0 a b wk0 0 (os3 u r w) acc ns) k mode task 4 1 a b (beginI mode 1) 0 (os3 u (up r) w) := by
  refine Nx.mk (show _ = (mkR k mode task 4 0 a b wk0 0 (os3 u r w) acc ns).fresh.leave from rfl) ?_
  unfold mkR LS.leave
  simp only [LS.doA, LS.keepA, LS.keepB, LS.note, LS.go, LS.fin, LS.wake, LS.fresh, os3_0, os3_1, os3_2, os3_l0, os3_l1, os3_l2, os3_a0, os3_a1, os3_a2, os3_c0]
  first | done | rfl
theorem l_back : Nx LS.tf (mkR k mode task 7 3 a b wk0 0 (os3 u r w) acc ns) k mode task 7 3 a b wk0 2 (os3 u r (up w)) := by
  refine Nx.mk (show _ = (mkR k mode task 7 3 a b wk0 0 (os3 u r w) acc ns).fresh.giveBack from rfl) ?_
  unfold mkR LS.giveBack
  simp only [LS.doA, LS.keepA, LS.keepB, LS.note, LS.go, LS.fin, LS.wake, LS.fresh, os3_0, os3_1, os3_2, os3_l0, os3_l1, os3_l2, os3_a0, os3_a1, os3_a2, os3_c0]
  first | done | rfl
theorem l_look5 : Nx LS.tf (mkR k mode task 5 0 a b wk0 0 (os3 u r w) acc ns) k mode task 5 1 u b wk0 0 (os3 u r w) := by
  refine Nx.mk (show _ = (mkR k mode task 5 0 a b wk0 0 (os3 u r w) acc ns).fresh.look from rfl) ?_
  unfold mkR LS.look
  simp only [LS.doA, LS.keepA, LS.keepB, LS.note, LS.go, LS.fin, LS.wake, LS.fresh, os3_0, os3_1, os3_2, os3_l0, os3_l1, os3_l2, os3_a0, os3_a1, os3_a2, os3_c0]
  first | done | rfl
theorem l_look6 : Nx LS.tf (mkR k mode task 6 0 a b wk0 0 (os3 u r w) acc ns) k mode task 6 1 u b wk0 0 (os3 u r w) := by
  refine Nx.mk (show _ = (mkR k mode task 6 0 a b wk0 0 (os3 u r w) acc ns).fresh.look from rfl) ?_
  unfold mkR LS.look
  simp only [LS.doA, LS.keepA, LS.keepB, LS.note, LS.go, LS.fin, LS.wake, LS.fresh, os3_0, os3_1, os3_2, os3_l0, os3_l1, os3_l2, os3_a0, os3_a1, os3_a2, os3_c0]
  first | done | rfl
theorem l_look7 : Nx LS.tf (mkR k mode task 7 0 a b wk0 0 (os3 u r w) acc ns) k mode task 7 1 u b wk0 0 (os3 u r w) := by
  refine Nx.mk (show _ = (mkR k mode task 7 0 a b wk0 0 (os3 u r w) acc ns).fresh.look from rfl) ?_
  unfold mkR LS.look
  simp only [LS.doA, LS.keepA, LS.keepB, LS.note, LS.go, LS.fin, LS.wake, LS.fresh, os3_0, os3_1, os3_2, os3_l0, os3_l1, os3_l2, os3_a0, os3_a1, os3_a2, os3_c0]
  first | done | rfl

theorem l_weigh5 (h : aheadI a r = 0) : Nx LS.tf (mkR k mode task 5 1 a b wk0 0 (os3 u r w) acc ns) k mode task 5 2 a r wk0 0 (os3 u r w) := by
  have hx : wordAt (mkR k mode task 5 1 a b wk0 0 (os3 u r w) acc ns).fresh.xs 1 = r := os3_1
  have ha : (mkR k mode task 5 1 a b wk0 0 (os3 u r w) acc ns).fresh.a = a := rfl
  refine Nx.mk (show _ = (mkR k mode task 5 1 a b wk0 0 (os3 u r w) acc ns).fresh.weigh 1 0 from rfl) ?_
  unfold LS.weigh
  rw [hx, ha]
  rw [h, if_neg (by decide), if_neg (by decide)]
  unfold mkR
  simp only [LS.doA, LS.keepB, LS.note, LS.go, LS.fin, LS.fresh, os3_l0, os3_l1, os3_l2]
  first | done | rfl
theorem l_weigh6 (h : aheadI a w = 0) : Nx LS.tf (mkR k mode task 6 1 a b wk0 0 (os3 u r w) acc ns) k mode task 6 2 a w wk0 0 (os3 u r w) := by
  have hx : wordAt (mkR k mode task 6 1 a b wk0 0 (os3 u r w) acc ns).fresh.xs 2 = w := os3_2
  have ha : (mkR k mode task 6 1 a b wk0 0 (os3 u r w) acc ns).fresh.a = a := rfl
  refine Nx.mk (show _ = (mkR k mode task 6 1 a b wk0 0 (os3 u r w) acc ns).fresh.weigh 2 0 from rfl) ?_
  unfold LS.weigh
  rw [hx, ha]
  rw [h, if_neg (by decide), if_neg (by decide)]
  unfold mkR
  simp only [LS.doA, LS.keepB, LS.note, LS.go, LS.fin, LS.fresh, os3_l0, os3_l1, os3_l2]
  first | done | rfl
theorem l_weigh7 (h : aheadI a w = 1) : Nx LS.tf (mkR k mode task 7 1 a b wk0 0 (os3 u r w) acc ns) k mode task 7 2 a w wk0 0 (os3 u r w) := by
  have hx : wordAt (mkR k mode task 7 1 a b wk0 0 (os3 u r w) acc ns).fresh.xs 2 = w := os3_2
  have ha : (mkR k mode task 7 1 a b wk0 0 (os3 u r w) acc ns).fresh.a = a := rfl
  refine Nx.mk (show _ = (mkR k mode task 7 1 a b wk0 0 (os3 u r w) acc ns).fresh.weigh 2 1 from rfl) ?_
  unfold LS.weigh
  rw [hx, ha]
  rw [h, if_neg (by decide), if_neg (by decide)]
  unfold mkR
  simp only [LS.doA, LS.keepB, LS.note, LS.go, LS.fin, LS.fresh, os3_l0, os3_l1, os3_l2]
  first | done | rfl
theorem l_refuse5 (h : 0 < aheadI a r) : Nx LS.tf (mkR k mode task 5 1 a b wk0 0 (os3 u r w) acc ns) k mode task 5 1 a r wk0 1 (os3 u r w) := by
  have hx : wordAt (mkR k mode task 5 1 a b wk0 0 (os3 u r w) acc ns).fresh.xs 1 = r := os3_1
  have ha : (mkR k mode task 5 1 a b wk0 0 (os3 u r w) acc ns).fresh.a = a := rfl
  refine Nx.mk (show _ = (mkR k mode task 5 1 a b wk0 0 (os3 u r w) acc ns).fresh.weigh 1 0 from rfl) ?_
  unfold LS.weigh
  rw [hx, ha]
  rw [if_pos h]
  unfold mkR
  simp only [LS.doA, LS.keepB, LS.note, LS.go, LS.fin, LS.fresh, os3_l0, os3_l1, os3_l2]
  first | done | rfl
theorem l_refuse6 (h : 0 < aheadI a w) : Nx LS.tf (mkR k mode task 6 1 a b wk0 0 (os3 u r w) acc ns) k mode task 6 1 a w wk0 1 (os3 u r w) := by
  have hx : wordAt (mkR k mode task 6 1 a b wk0 0 (os3 u r w) acc ns).fresh.xs 2 = w := os3_2
  have ha : (mkR k mode task 6 1 a b wk0 0 (os3 u r w) acc ns).fresh.a = a := rfl
  refine Nx.mk (show _ = (mkR k mode task 6 1 a b wk0 0 (os3 u r w) acc ns).fresh.weigh 2 0 from rfl) ?_
  unfold LS.weigh
  rw [hx, ha]
  rw [if_pos h]
  unfold mkR
  simp only [LS.doA, LS.keepB, LS.note, LS.go, LS.fin, LS.fresh, os3_l0, os3_l1, os3_l2]
  first | done | rfl
theorem l_claim5 : Nx LS.tf (mkR k mode task 5 2 u b wk0 0 (os3 u r w) acc ns) k mode task 5 3 u b wk0 0 (os3 (up u) r w) := by
  refine Nx.mk (show _ = (if (mkR k mode task 5 2 u b wk0 0 (os3 u r w) acc ns).fresh.claimed then (((mkR k mode task 5 2 u b wk0 0 (os3 u r w) acc ns).fresh.claim.note 2 1).go 3) else (mkR k mode task 5 2 u b wk0 0 (os3 u r w) acc ns).fresh.claim.go 0) from rfl) ?_
  rw [if_pos (by show (there _ 0 && (wordAt (clean (os3 u r w) k) 0 == u)) = true; rw [os3_0]; simp only [mkR, LS.fresh, os3_there, beq_self_eq_true, Bool.and_self])]
  unfold mkR LS.claim
  simp only [LS.doA, LS.note, LS.go, LS.fin, LS.fresh, os3_c0]
  first | done | rfl
theorem l_claim6 : Nx LS.tf (mkR k mode task 6 2 u b wk0 0 (os3 u r w) acc ns) k mode task 6 2 u b wk0 2 (os3 (up u) r w) := by
  refine Nx.mk (show _ = (if (mkR k mode task 6 2 u b wk0 0 (os3 u r w) acc ns).fresh.claimed then ((((mkR k mode task 6 2 u b wk0 0 (os3 u r w) acc ns).fresh.claim.note 2 2).note 4 0).fin true) else (mkR k mode task 6 2 u b wk0 0 (os3 u r w) acc ns).fresh.claim.go 0) from rfl) ?_
  rw [if_pos (by show (there _ 0 && (wordAt (clean (os3 u r w) k) 0 == u)) = true; rw [os3_0]; simp only [mkR, LS.fresh, os3_there, beq_self_eq_true, Bool.and_self])]
  unfold mkR LS.claim
  simp only [LS.doA, LS.note, LS.go, LS.fin, LS.fresh, os3_c0]
  first | done | rfl
theorem l_claim7 : Nx LS.tf (mkR k mode task 7 2 u b wk0 0 (os3 u r w) acc ns) k mode task 7 3 u b wk0 0 (os3 (up u) r w) := by
  refine Nx.mk (show _ = (if (mkR k mode task 7 2 u b wk0 0 (os3 u r w) acc ns).fresh.claimed then (((mkR k mode task 7 2 u b wk0 0 (os3 u r w) acc ns).fresh.claim.note 9 0).go 3) else (mkR k mode task 7 2 u b wk0 0 (os3 u r w) acc ns).fresh.claim.go 0) from rfl) ?_
  rw [if_pos (by show (there _ 0 && (wordAt (clean (os3 u r w) k) 0 == u)) = true; rw [os3_0]; simp only [mkR, LS.fresh, os3_there, beq_self_eq_true, Bool.and_self])]
  unfold mkR LS.claim
  simp only [LS.doA, LS.note, LS.go, LS.fin, LS.fresh, os3_c0]
  first | done | rfl

/-- A wait that sees at once what it waits for. -/
theorem stepI_seen {xs : List Int} {n mode i c : Int} {q : Int → Bool} (h : q (wordAt xs c) = true) : (stepI xs n mode i 0 c q).next = 0 ∧ (stepI xs n mode i 0 c q).seen = true ∧ (stepI xs n mode i 0 c q).done = true ∧ (stepI xs n mode i 0 c q).xs = xs := by
  by_cases hm : mode = 2
  · subst hm
    rw [stepI_0 (by decide) (by decide) (by decide) (by decide), h]
    exact ⟨rfl, rfl, rfl, rfl⟩
  · rw [stepI_spin hm, h]
    exact ⟨rfl, rfl, rfl, rfl⟩
theorem l_awaitR : Nx LS.tf (mkR k mode task 1 1 a b wk0 0 (os3 u a w) acc ns) k mode task 1 2 a b wk0 0 (os3 u a w) := by
  obtain ⟨h1, h2, h3, h4⟩ := stepI_seen (xs := clean (os3 u a w) k) (n := k) (mode := mode) (i := task) (c := 1) (q := (mkR k mode task 1 1 a b wk0 0 (os3 u a w) acc ns).fresh.mine) (by rw [os3_1]; show (a == a) = true; exact beq_self_eq_true a)
  refine Nx.mk (show _ = (mkR k mode task 1 1 a b wk0 0 (os3 u a w) acc ns).fresh.awaitR from rfl) ?_
  unfold LS.awaitR
  rw [if_pos (show ((mkR k mode task 1 1 a b wk0 0 (os3 u a w) acc ns).fresh.stepR 1 (mkR k mode task 1 1 a b wk0 0 (os3 u a w) acc ns).fresh.mine).done = true from h3)]
  show (⟨(k : Int), mode, task, 1, 2, a, b, (stepI (clean (os3 u a w) k) k mode task 0 1 (mkR k mode task 1 1 a b wk0 0 (os3 u a w) acc ns).fresh.mine).next, wk0, 0, acc0, [], (stepI (clean (os3 u a w) k) k mode task 0 1 (mkR k mode task 1 1 a b wk0 0 (os3 u a w) acc ns).fresh.mine).xs⟩ : LS) = _
  rw [h1, h4]
  rfl
theorem l_awaitW : Nx LS.tf (mkR k mode task 3 1 a b wk0 0 (os3 u r a) acc ns) k mode task 3 1 a b wk0 2 (os3 u r a) := by
  obtain ⟨h1, h2, h3, h4⟩ := stepI_seen (xs := clean (os3 u r a) k) (n := k) (mode := mode) (i := task) (c := 2) (q := (mkR k mode task 3 1 a b wk0 0 (os3 u r a) acc ns).fresh.mine) (by rw [os3_2]; show (a == a) = true; exact beq_self_eq_true a)
  refine Nx.mk (show _ = (mkR k mode task 3 1 a b wk0 0 (os3 u r a) acc ns).fresh.awaitW from rfl) ?_
  unfold LS.awaitW
  rw [if_pos (show ((mkR k mode task 3 1 a b wk0 0 (os3 u r a) acc ns).fresh.stepR 2 (mkR k mode task 3 1 a b wk0 0 (os3 u r a) acc ns).fresh.mine).done = true from h3), show ((mkR k mode task 3 1 a b wk0 0 (os3 u r a) acc ns).fresh.stepR 2 (mkR k mode task 3 1 a b wk0 0 (os3 u r a) acc ns).fresh.mine).seen = true from h2]
  show (⟨(k : Int), mode, task, 3, 1, a, b, (stepI (clean (os3 u r a) k) k mode task 0 2 (mkR k mode task 3 1 a b wk0 0 (os3 u r a) acc ns).fresh.mine).next, wk0, 2, acc0, [], (stepI (clean (os3 u r a) k) k mode task 0 2 (mkR k mode task 3 1 a b wk0 0 (os3 u r a) acc ns).fresh.mine).xs⟩ : LS) = _
  rw [h1, h4]
  rfl

theorem ahead_self (a : Int) : aheadI a a = 0 := by unfold aheadI; omega
theorem ahead_up (h : 0 ≤ a ∧ a < 4294967296) : aheadI (up a) a = 1 := by unfold aheadI up; omega

variable {chk : LS → Bool} (hk0 : Chk chk) (hk : 1 ≤ k ∧ k ≤ 64) {m : Nat} (hm : 2 * k + 8 ≤ m)
include hk0 hk hm
theorem a_rlock : aloneG chk LS.tf m (mkR k mode task 1 0 a b wk0 0 (os3 u u w) acc ns) = (2, clean (os3 (up u) (up u) w) k) := by
  obtain ⟨m, rfl⟩ : ∃ q, m = q + 1 + 1 := ⟨m - 2, by omega⟩
  obtain ⟨ac1, ns1, e1⟩ := (l_draw1 (k := k) (mode := mode) (task := task) (a := a) (b := b) (u := u) (r := u) (w := w) (acc := acc) (ns := ns)).on hk0 rfl (m := m + 1)
  rw [e1]
  obtain ⟨ac2, ns2, e2⟩ := (l_awaitR (k := k) (mode := mode) (task := task) (a := u) (b := b) (u := up u) (w := w) (acc := ac1) (ns := ns1)).on hk0 rfl (m := m)
  rw [e2]
  exact l_turn12.done hk0 rfl os3_len hk (by decide) (by decide) (by omega)
theorem a_runlock : aloneG chk LS.tf m (mkR k mode task 2 0 a b wk0 0 (os3 u r w) acc ns) = (2, clean (os3 u r (up w)) k) := l_turn20.done hk0 rfl os3_len hk (by decide) (by decide) (by omega)
theorem a_lock : aloneG chk LS.tf m (mkR k mode task 3 0 a b wk0 0 (os3 u r u) acc ns) = (2, clean (os3 (up u) r u) k) := by
  obtain ⟨m, rfl⟩ : ∃ q, m = q + 1 + 1 := ⟨m - 2, by omega⟩
  obtain ⟨ac1, ns1, e1⟩ := (l_draw3 (k := k) (mode := mode) (task := task) (a := a) (b := b) (u := u) (r := r) (w := u) (acc := acc) (ns := ns)).on hk0 rfl (m := m + 1)
  rw [e1]
  exact l_awaitW.stop hk0 rfl (by decide)
theorem a_unlock : aloneG chk LS.tf m (mkR k mode task 4 0 a b wk0 0 (os3 u r w) acc ns) = (2, clean (os3 u (up r) (up w)) k) := by
  obtain ⟨m, rfl⟩ : ∃ q, m = q + 1 := ⟨m - 1, by omega⟩
  obtain ⟨m', ac1, ns1, hm', e1⟩ := (l_leave (k := k) (mode := mode) (task := task) (a := a) (b := b) (u := u) (r := r) (w := w) (acc := acc) (ns := ns)).woken (m := m) hk0 rfl os3_len hk (by decide) (by omega)
  rw [e1]
  exact l_turn41.done hk0 rfl os3_len hk (by decide) (by decide) (by omega)
theorem a_tryrlock : aloneG chk LS.tf m (mkR k mode task 5 0 a b wk0 0 (os3 u u w) acc ns) = (2, clean (os3 (up u) (up u) w) k) := by
  obtain ⟨m, rfl⟩ : ∃ q, m = q + 1 + 1 + 1 := ⟨m - 3, by omega⟩
  obtain ⟨ac1, ns1, e1⟩ := (l_look5 (k := k) (mode := mode) (task := task) (a := a) (b := b) (u := u) (r := u) (w := w) (acc := acc) (ns := ns)).on hk0 rfl (m := m + 1 + 1)
  rw [e1]
  obtain ⟨ac2, ns2, e2⟩ := (l_weigh5 (k := k) (mode := mode) (task := task) (a := u) (b := b) (u := u) (r := u) (w := w) (acc := ac1) (ns := ns1) (ahead_self u)).on hk0 rfl (m := m + 1)
  rw [e2]
  obtain ⟨ac3, ns3, e3⟩ := (l_claim5 (k := k) (mode := mode) (task := task) (b := u) (u := u) (r := u) (w := w) (acc := ac2) (ns := ns2)).on hk0 rfl (m := m)
  rw [e3]
  exact l_turn53.done hk0 rfl os3_len hk (by decide) (by decide) (by omega)
theorem a_tryrlock_no (h : 0 < aheadI u r) : aloneG chk LS.tf m (mkR k mode task 5 0 a b wk0 0 (os3 u r w) acc ns) = (1, clean (os3 u r w) k) := by
  obtain ⟨m, rfl⟩ : ∃ q, m = q + 1 + 1 := ⟨m - 2, by omega⟩
  obtain ⟨ac1, ns1, e1⟩ := (l_look5 (k := k) (mode := mode) (task := task) (a := a) (b := b) (u := u) (r := r) (w := w) (acc := acc) (ns := ns)).on hk0 rfl (m := m + 1)
  rw [e1]
  exact (l_refuse5 h).stop hk0 rfl (by decide)
theorem a_trylock : aloneG chk LS.tf m (mkR k mode task 6 0 a b wk0 0 (os3 u r u) acc ns) = (2, clean (os3 (up u) r u) k) := by
  obtain ⟨m, rfl⟩ : ∃ q, m = q + 1 + 1 + 1 := ⟨m - 3, by omega⟩
  obtain ⟨ac1, ns1, e1⟩ := (l_look6 (k := k) (mode := mode) (task := task) (a := a) (b := b) (u := u) (r := r) (w := u) (acc := acc) (ns := ns)).on hk0 rfl (m := m + 1 + 1)
  rw [e1]
  obtain ⟨ac2, ns2, e2⟩ := (l_weigh6 (k := k) (mode := mode) (task := task) (a := u) (b := b) (u := u) (r := r) (w := u) (acc := ac1) (ns := ns1) (ahead_self u)).on hk0 rfl (m := m + 1)
  rw [e2]
  exact l_claim6.stop hk0 rfl (by decide)
theorem a_trylock_no (h : 0 < aheadI u w) : aloneG chk LS.tf m (mkR k mode task 6 0 a b wk0 0 (os3 u r w) acc ns) = (1, clean (os3 u r w) k) := by
  obtain ⟨m, rfl⟩ : ∃ q, m = q + 1 + 1 := ⟨m - 2, by omega⟩
  obtain ⟨ac1, ns1, e1⟩ := (l_look6 (k := k) (mode := mode) (task := task) (a := a) (b := b) (u := u) (r := r) (w := w) (acc := acc) (ns := ns)).on hk0 rfl (m := m + 1)
  rw [e1]
  exact (l_refuse6 h).stop hk0 rfl (by decide)
theorem a_upgrade (h : aheadI u w = 1) : aloneG chk LS.tf m (mkR k mode task 7 0 a b wk0 0 (os3 u r w) acc ns) = (2, clean (os3 (up u) r (up w)) k) := by
  obtain ⟨m, rfl⟩ : ∃ q, m = q + 1 + 1 + 1 + 1 := ⟨m - 4, by omega⟩
  obtain ⟨ac1, ns1, e1⟩ := (l_look7 (k := k) (mode := mode) (task := task) (a := a) (b := b) (u := u) (r := r) (w := w) (acc := acc) (ns := ns)).on hk0 rfl (m := m + 1 + 1 + 1)
  rw [e1]
  obtain ⟨ac2, ns2, e2⟩ := (l_weigh7 (k := k) (mode := mode) (task := task) (a := u) (b := b) (u := u) (r := r) (w := w) (acc := ac1) (ns := ns1) h).on hk0 rfl (m := m + 1 + 1)
  rw [e2]
  obtain ⟨ac3, ns3, e3⟩ := (l_claim7 (k := k) (mode := mode) (task := task) (b := w) (u := u) (r := r) (w := w) (acc := ac2) (ns := ns2)).on hk0 rfl (m := m + 1)
  rw [e3]
  exact l_back.stop hk0 rfl (by decide)
theorem a_downgrade : aloneG chk LS.tf m (mkR k mode task 8 0 a b wk0 0 (os3 u r w) acc ns) = (2, clean (os3 u (up r) w) k) := l_turn80.done hk0 rfl os3_len hk (by decide) (by decide) (by omega)
end
end Go.Proofs.Ytdmpaoajcnjbaaa
/- A run at its beginning. -/
set_option linter.unusedVariables false
set_option linter.unusedSimpArgs false
namespace Go.Proofs.Ytdmpaoajcnjbaaa
open Go.RowKit

/-- A run of the task that begins an operation. -/
def newR (k mode task op : Int) (xs : List Int) : LS := ⟨k, mode, task, op, 0, 0, 0, 0, wk0, 0, acc0, [], xs⟩
def newCells (p : Option Addr) (k mode task op : Int) : Array Value := #[.pointer p, .int .i64 k, .int .i64 mode, .int .i64 task, .int .i64 op, .int .i64 0, .int .u32 0, .int .u32 0, .int .i64 0, .bool false, .int .i64 0, .int .i64 0, .bool false, .int .i64 0, .int .i64 0, .int .i64 0, .int .u32 0, .int .u32 0, .int .u32 0, .slice none 0 0]
end Go.Proofs.Ytdmpaoajcnjbaaa
/- Operations of the task-fair lock, one behind the other, each by itself: plain. -/
set_option linter.unusedVariables false
set_option linter.unusedSimpArgs false
namespace Go.Proofs.Ytdmpaoajcnjbaaa
open Go.RowKit

/-- The three cells. -/
structure T3 where
  u : Int
  r : Int
  w : Int
def T3.xs (s : T3) (k : Nat) : List Int := clean (os3 s.u s.r s.w) k
/-- What an operation leaves. -/
def opT (op : Int) (s : T3) : T3 :=
  if op = 1 ∨ op = 5 then ⟨up s.u, up s.r, s.w⟩ else if op = 2 then ⟨s.u, s.r, up s.w⟩ else if op = 3 ∨ op = 6 then ⟨up s.u, s.r, s.w⟩ else if op = 4 then ⟨s.u, up s.r, up s.w⟩ else if op = 7 then ⟨up s.u, s.r, up s.w⟩ else ⟨s.u, up s.r, s.w⟩
/-- It gets through. -/
def okT (op : Int) (s : T3) : Prop :=
  (op = 1 ∧ s.u = s.r) ∨ op = 2 ∨ (op = 3 ∧ s.u = s.w) ∨ op = 4 ∨ (op = 5 ∧ s.u = s.r) ∨ (op = 6 ∧ s.u = s.w) ∨ (op = 7 ∧ aheadI s.u s.w = 1) ∨ op = 8
theorem alone_opG {chk : LS → Bool} (hk0 : Chk chk) {k m : Nat} {mode op task : Int} {s : T3} (hk : 1 ≤ k ∧ k ≤ 64) (hm : 2 * k + 8 ≤ m) (h : okT op s) : aloneG chk LS.tf m (newR k mode task op (s.xs k)) = (2, (opT op s).xs k) := by
  obtain ⟨u, r, w⟩ := s
  rcases h with ⟨rfl, h⟩ | rfl | ⟨rfl, h⟩ | rfl | ⟨rfl, h⟩ | ⟨rfl, h⟩ | ⟨rfl, h⟩ | rfl
  · obtain rfl : u = r := h; exact a_rlock hk0 hk hm
  · exact a_runlock hk0 hk hm
  · obtain rfl : u = w := h; exact a_lock hk0 hk hm
  · exact a_unlock hk0 hk hm
  · obtain rfl : u = r := h; exact a_tryrlock hk0 hk hm
  · obtain rfl : u = w := h; exact a_trylock hk0 hk hm
  · exact a_upgrade hk0 hk hm h
  · exact a_downgrade hk0 hk hm
theorem alone_r_noG {chk : LS → Bool} (hk0 : Chk chk) {k m : Nat} {mode task : Int} {s : T3} (hk : 1 ≤ k ∧ k ≤ 64) (hm : 2 * k + 8 ≤ m) (h : 0 < aheadI s.u s.r) : aloneG chk LS.tf m (newR k mode task 5 (s.xs k)) = (1, s.xs k) := a_tryrlock_no hk0 hk hm h
theorem alone_w_noG {chk : LS → Bool} (hk0 : Chk chk) {k m : Nat} {mode task : Int} {s : T3} (hk : 1 ≤ k ∧ k ≤ 64) (hm : 2 * k + 8 ≤ m) (h : 0 < aheadI s.u s.w) : aloneG chk LS.tf m (newR k mode task 6 (s.xs k)) = (1, s.xs k) := a_trylock_no hk0 hk hm h
theorem alone_op {k m : Nat} {mode op : Int} {s : T3} (hk : 1 ≤ k ∧ k ≤ 64) (hm : 2 * k + 8 ≤ m) (h : okT op s) : aloneL LS.tf m (newR k mode 0 op (s.xs k)) = (2, (opT op s).xs k) := alone_opG chk_n hk hm h
theorem alone_r_no {k m : Nat} {mode : Int} {s : T3} (hk : 1 ≤ k ∧ k ≤ 64) (hm : 2 * k + 8 ≤ m) (h : 0 < aheadI s.u s.r) : aloneL LS.tf m (newR k mode 0 5 (s.xs k)) = (1, s.xs k) := alone_r_noG chk_n hk hm h
theorem alone_w_no {k m : Nat} {mode : Int} {s : T3} (hk : 1 ≤ k ∧ k ≤ 64) (hm : 2 * k + 8 ≤ m) (h : 0 < aheadI s.u s.w) : aloneL LS.tf m (newR k mode 0 6 (s.xs k)) = (1, s.xs k) := alone_w_noG chk_n hk hm h

def opsT : List (List Int) := [[1, 2], [3, 4], [5, 2], [6, 4], [3, 8, 2], [1, 7, 4]]
def foldT (l : List Int) (b : Int) : T3 := l.foldl (fun s op => opT op s) ⟨b, b, b⟩
theorem foldT_next {l : List Int} {j : Nat} {op b : Int} (h : l[j]? = some op) : foldT (l.take (j + 1)) b = opT op (foldT (l.take j) b) := by
  unfold foldT
  rw [List.take_add_one, h, List.foldl_append]
  rfl
theorem up_bd (a : Int) : 0 ≤ up a ∧ up a < 4294967296 := by unfold up; omega
theorem up_ne {a : Int} (h : 0 ≤ a ∧ a < 4294967296) : up a ≠ a ∧ up (up a) ≠ a := by unfold up; omega
theorem ok_all {b : Int} (hb : 0 ≤ b ∧ b < 4294967296) : ∀ l ∈ opsT, ∀ (j : Nat) (op : Int), l[j]? = some op → okT op (foldT (l.take j) b) := by
  have h1 := ahead_up hb
  intro l hl j op h
  simp only [opsT, List.mem_cons, List.not_mem_nil, or_false] at hl
  rcases hl with rfl | rfl | rfl | rfl | rfl | rfl
  all_goals
    match j, h with
    | 0, h => simp at h; subst h; simp [okT, foldT]
    | 1, h => simp at h; subst h; simp [okT, foldT, opT, h1]
    | 2, h => simp at h; try (subst h; simp [okT, foldT, opT, h1])
    | j + 3, h => simp at h
theorem end_all {b : Int} (hb : 0 ≤ b ∧ b < 4294967296) : ∀ l ∈ opsT, ∃ x, foldT l b = ⟨x, x, x⟩ ∧ x ≠ b := by
  obtain ⟨h1, h2⟩ := up_ne hb
  intro l hl
  simp only [opsT, List.mem_cons, List.not_mem_nil, or_false] at hl
  rcases hl with rfl | rfl | rfl | rfl | rfl | rfl
  · exact ⟨up b, rfl, h1⟩
  · exact ⟨up b, rfl, h1⟩
  · exact ⟨up b, rfl, h1⟩
  · exact ⟨up b, rfl, h1⟩
  · exact ⟨up b, rfl, h1⟩
  · exact ⟨up (up b), rfl, h2⟩
theorem T3.words {s : T3} {k : Nat} (hu : 0 ≤ s.u ∧ s.u < 4294967296) (hr : 0 ≤ s.r ∧ s.r < 4294967296) (hw : 0 ≤ s.w ∧ s.w < 4294967296) : Words (s.xs k) := by
  intro n hn
  unfold T3.xs clean os3 at hn
  simp only [List.mem_append, List.mem_cons, List.not_mem_nil, or_false, List.mem_replicate] at hn
  rcases hn with (rfl | rfl | rfl | rfl | rfl | rfl | rfl | rfl) | ⟨_, rfl⟩
  all_goals first | exact wf_mk hu.1 hu.2 | exact wf_mk hr.1 hr.2 | exact wf_mk hw.1 hw.2 | rfl
end Go.Proofs.Ytdmpaoajcnjbaaa
/- A task-fair lock at first. -/
set_option linter.unusedVariables false
set_option linter.unusedSimpArgs false
namespace Go.Proofs.Ytdmpaoajcnjbaaa
open Go.RowKit

/-- The words at first, in a list of the call's own. -/
def FirstW (xs : List Int) (S : Nat) (w : World) (e : Ending) (w' : World) : Prop :=
  ∃ g, e = .returned (.tuple #[.slice (some ⟨g, 0, none⟩) S S, .int .i64 0]) ∧ w.heap.size ≤ g ∧ Held w' (some ⟨g, 0, none⟩) S S xs ∧ Only Nil w w'

theorem words_tf (k : Nat) (b : Int) : words 1 (8 + 4 * k) 3 b = (⟨b, b, b⟩ : T3).xs k := by
  show words 1 (8 + 4 * k) 3 b = os3 b b b ++ List.replicate (4 * k) 0
  apply List.ext_getElem
  · simp [words, os3]
    omega
  · intro i h1 h2
    by_cases hi : i < 8
    · rw [List.getElem_append_left (by simpa [os3] using hi)]
      match i, hi with
      | 0, _ => simp [words, wordI, os3]
      | 1, _ => simp [words, wordI, os3]
      | 2, _ => simp [words, wordI, os3]
      | 3, _ => simp [words, wordI, os3]
      | 4, _ => simp [words, wordI, os3]
      | 5, _ => simp [words, wordI, os3]
      | 6, _ => simp [words, wordI, os3]
      | 7, _ => simp [words, wordI, os3]
    · rw [List.getElem_append_right (by simpa [os3] using hi)]
      simp only [List.getElem_replicate]
      simp [words, wordI]
      omega

theorem first_tf (k : Nat) (b : Int) (w : World) (hk : 1 ≤ k ∧ k ≤ 64) (hb : 0 ≤ b ∧ b < 4294967296) :
    Calls Try.prog 7 #[.int .i64 1, .int .i64 k, .int .u32 b] w (FirstW ((⟨b, b, b⟩ : T3).xs k) (8 + 4 * k) w) := by
  have hS : sizeI (k : Int) = ((8 + 4 * k : Nat) : Int) := by unfold sizeI; rw [if_pos (by omega)]; push_cast; rfl
  refine (first_yes 1 k b (8 + 4 * k) w (by omega) (by omega) hS hb).mono ?_
  rintro e w' ⟨g, rfl, hg, hR, hO⟩
  rw [show (ownV 1).size = 3 from rfl, words_tf] at hR
  have hI := Row.ints (k := .u32) (xs := (⟨b, b, b⟩ : T3).xs k) hR
  exact ⟨g, rfl, hg, ⟨by simp [T3.xs, clean, os3]; omega, (by intro h; cases h), hI⟩, hO⟩
end Go.Proofs.Ytdmpaoajcnjbaaa
/- A region that draws its order: a condition on the world that holds as long as a given operation has not come up (a load may be taken first though its cell is stored into later). -/
namespace Go.Proofs.Ytdmpaoajcnjbaaa
open Go
section
variable {P : Program} {ops : Array Oper} {Q : Exit → Act → World → Prop} {md : Region.Mode} {S : World → Prop} {c : Nat}

/-- Whatever order is picked from here on; behind each operation S holds, if number c has not come up. -/
def wpAnyP (P : Program) (md : Region.Mode) (ops : Array Oper) (Q : Exit → Act → World → Prop) (S : World → Prop) (c : Nat) : Nat → Array Bool → Act → World → Prop
  | 0, listed, a, w => Region.ready md ops listed = [] ∧ Q .normal a w
  | fuel + 1, listed, a, w =>
    (Region.ready md ops listed = [] → Q .normal a w) ∧
    ∀ i ∈ Region.ready md ops listed, wpOp P ops Q i (fun a' w' => ((listed.setIfInBounds i true).getD c false = false → S w') ∧ wpAnyP P md ops Q S c fuel (listed.setIfInBounds i true) a' w') a w

theorem wpAny_of_phase : ∀ (fuel : Nat) (listed : Array Bool) (a : Act) (w : World), wpAnyP P md ops Q S c fuel listed a w → wpAny P md ops Q fuel listed a w
  | 0, _, _, _, h => h
  | fuel + 1, _, _, _, h => ⟨h.1, fun i hi => wpOp_mono (fun a' w' h' => wpAny_of_phase fuel _ a' w' h'.2) (h.2 i hi)⟩

/-- What has come up waited for nothing that has not. -/
def closedB (md : Region.Mode) (ops : Array Oper) (listed : Array Bool) : Bool :=
  (List.range ops.size).all fun j => !(listed.getD j false) || (match ops[j]? with | some oj => oj.after.all fun e => !(Region.binds md e) || listed.getD e.on false | none => true)
def Cl (md : Region.Mode) (ops : Array Oper) (listed : Array Bool) : Prop :=
  ∀ j oj, ops[j]? = some oj → listed.getD j false = true → ∀ e ∈ oj.after, Region.binds md e = true → listed.getD e.on false = true
theorem cl_of {listed : Array Bool} (h : closedB md ops listed = true) : Cl md ops listed := by
  intro j oj hj hl e he hb
  have hlt : j < ops.size := (Array.getElem?_eq_some_iff.1 hj).1
  have h1 := List.all_eq_true.1 h j (List.mem_range.2 hlt)
  rw [hl, hj] at h1
  simp only [Bool.not_true, Bool.false_or] at h1
  have h2 := Array.all_eq_true'.1 h1 e he
  simpa [hb] using h2
theorem Cl.set {listed : Array Bool} {i : Nat} (hc : Cl md ops listed) (hi : i ∈ Region.ready md ops listed) : Cl md ops (listed.setIfInBounds i true) := by
  obtain ⟨_, oi, hoi, hall⟩ := mem_ready.1 hi
  intro j oj hj hl e he hb
  by_cases hij : i = j
  · subst hij
    have : oj = oi := Option.some.inj (hj.symm.trans hoi)
    subst this
    exact getD_set_true (hall e he hb)
  · rw [getD_set_ne false hij] at hl
    exact getD_set_true (hc j oj hj hl e he hb)
/-- Number c waits for number i, or for one that waits for it, and so on. -/
def leads (md : Region.Mode) (ops : Array Oper) (c : Nat) : Nat → Nat → Bool
  | 0, _ => false
  | n + 1, i => Region.waitsFor md ops c i || (List.range ops.size).any fun j => Region.waitsFor md ops j i && leads md ops c n j
theorem unlisted {listed : Array Bool} (hc : Cl md ops listed) : ∀ (n i : Nat), leads md ops c n i = true → listed.getD i false = false → listed.getD c false = false ∧ c ∉ Region.ready md ops listed := by
  intro n
  induction n with
  | zero => intro i h; cases h
  | succ n ih =>
    intro i h hu
    rcases Bool.or_eq_true_iff.1 h with h | h
    · obtain ⟨oc, hoc, e, he, hb, hon⟩ := Region.waitsFor_spec h
      refine ⟨?_, fun hr => ?_⟩
      · cases hl : listed.getD c false
        · rfl
        · have := hc c oc hoc hl e he hb
          rw [hon, hu] at this
          cases this
      · obtain ⟨_, oc', hoc', hall⟩ := mem_ready.1 hr
        have : oc' = oc := Option.some.inj (hoc'.symm.trans hoc)
        subst this
        have := hall e he hb
        rw [hon, hu] at this
        cases this
    · obtain ⟨j, _, hj⟩ := List.any_eq_true.1 h
      rw [Bool.and_eq_true] at hj
      obtain ⟨oj, hoj, e, he, hb, hon⟩ := Region.waitsFor_spec hj.1
      refine ih j hj.2 ?_
      cases hl : listed.getD j false
      · rfl
      · have := hc j oj hoj hl e he hb
        rw [hon, hu] at this
        cases this

/-- An operation that yields its value in every world that meets T may be taken first: T is S, and number c waits for it, or T asks nothing. -/
theorem wpAnyP_first {T : World → Prop} {i : Nat} {oi : Oper} {v : Value} (hi : ops[i]? = some oi) (hsel : ∀ (j : Nat) (o : Oper) cs b, ops[j]? = some o → o.op ≠ .select cs b)
    (hQ : ∀ c a w, Q (.panic c) (a.put oi.dst v) w → Q (.panic c) a w)
    (hci : i ≠ c) (hT : ∀ (listed : Array Bool) (w : World), Cl md ops listed → i ∈ Region.ready md ops listed → (listed.getD c false = false → S w) → T w) :
    ∀ (fuel : Nat) (listed : Array Bool) (a : Act) (w : World), Cl md ops listed →
      (∀ j oj, ops[j]? = some oj → j ≠ i → listed.getD j true = false → (∀ e ∈ oj.after, Region.binds md e = true → e.on ≠ i) → oi.apart ops oj = true) →
      i ∈ Region.ready md ops listed → YieldsIf P ops T oi v a → (listed.getD c false = false → S w) →
      wpAnyP P md ops Q S c fuel (listed.setIfInBounds i true) (a.put oi.dst v) w → wpAnyP P md ops Q S c (fuel + 1) listed a w := by
  intro fuel
  have weak : ∀ (listed : Array Bool) (i : Nat), (listed.setIfInBounds i true).getD c false = false → listed.getD c false = false := by
    intro listed i h
    cases hl : listed.getD c false
    · rfl
    · rw [getD_set_true hl] at h; cases h
  induction fuel with
  | zero =>
    intro listed a w hcl _ hr hy hS H
    refine ⟨fun h => (by rw [h] at hr; cases hr), fun j hj => ?_⟩
    by_cases hji : j = i
    · subst hji; exact hy.wpOp hi (hT listed w hcl hr hS) ⟨fun h => hS (weak _ _ h), H⟩
    · have := ready_mono hj hji
      rw [H.1] at this
      cases this
  | succ fuel ih =>
    intro listed a w hcl hfree hr hy hS H
    refine ⟨fun h => (by rw [h] at hr; cases hr), fun j hj => ?_⟩
    by_cases hji : j = i
    · subst hji; exact hy.wpOp hi (hT listed w hcl hr hS) ⟨fun h => hS (weak _ _ h), H⟩
    · have h1 := H.2 j (ready_mono hj hji)
      obtain ⟨hjun, oj, hoj, hall⟩ := mem_ready.1 hj
      have hnot : ∀ e ∈ oj.after, Region.binds md e = true → e.on ≠ i := fun e he hb heq => by
        have h1 := hall e he hb
        have h0 := (mem_ready.1 hr).1
        rw [heq] at h1
        rcases Nat.lt_or_ge i listed.size with h' | h'
        · simp [h'] at h0 h1; rw [h0] at h1; cases h1
        · simp [Array.getElem?_eq_none h'] at h1
      have h2 := wpOp_putIf hoj (hfree j oj hoj hji hjun hnot) (fun cs b => hsel i oi cs b hi) (fun cs b => hsel j oj cs b hoj) hQ hy h1
      have hfree' : ∀ k ok, ops[k]? = some ok → k ≠ i → (listed.setIfInBounds j true).getD k true = false →
          (∀ e ∈ ok.after, Region.binds md e = true → e.on ≠ i) → oi.apart ops ok = true := fun k ok hk hki hun hno => by
        refine hfree k ok hk hki ?_ hno
        by_cases hjk : j = k
        · subst hjk; exact hjun
        · rw [getD_set_ne true hjk] at hun; exact hun
      refine wpOp_mono (fun a' w' h3 => ?_) h2
      have hs : (listed.setIfInBounds j true).getD c false = false → S w' := fun h => h3.2.1 (by rw [Array.setIfInBounds_comm _ _ (Ne.symm hji), getD_set_ne false hci]; exact h)
      refine ⟨hs, ih (listed.setIfInBounds j true) a' w' (hcl.set hj) hfree' (ready_mono hr (Ne.symm hji)) h3.1 hs ?_⟩
      rw [Array.setIfInBounds_comm _ _ hji]
      exact h3.2.2

theorem wp_region_phase {id n : Nat} {a : Act} {w : World} (c : Nat) (S : World → Prop) (hn : ops.size = n) (hm : P.follows .mixedOrders = true) (hS : S w.drew)
    (h : S w.drew → wpAnyP P .any ops Q S c n (List.toArray (List.replicate n false)) a w.drew) : (Code.region id ops true).wp P Q a w := by
  subst hn
  refine wp_region_any hm (wpAny_of_phase (S := S) (c := c) _ _ _ _ ?_)
  have h1 := h hS
  rwa [show List.toArray (List.replicate ops.size false) = Array.replicate ops.size false by simp] at h1

theorem wpAnyP_done {listed : Array Bool} {a : Act} {w : World} (hr : Region.ready md ops listed = []) (h : Q .normal a w) : ∀ fuel, wpAnyP P md ops Q S c fuel listed a w
  | 0 => ⟨hr, h⟩
  | _ + 1 => ⟨fun _ => h, by rw [hr]; simp⟩

/-- Number i, which number c waits for. -/
theorem wpAnyP_take {i : Nat} {oi : Oper} {v : Value} {fuel n : Nat} {listed : Array Bool} {a : Act} {w : World} (hi : ops[i]? = some oi) (hs : Region.noSelect ops = true) (hf : Region.free md ops listed i = true) (hr : (Region.ready md ops listed).contains i = true)
    (hld : leads md ops c n i = true) (hcl : closedB md ops listed = true) (hQ : ∀ c a w, Q (.panic c) (a.put oi.dst v) w → Q (.panic c) a w) (hy : YieldsIf P ops S oi v a) (hS : S w)
    (h : wpAnyP P md ops Q S c fuel (listed.setIfInBounds i true) (a.put oi.dst v) w) : wpAnyP P md ops Q S c (fuel + 1) listed a w := by
  have unl : ∀ {l : Array Bool}, i ∈ Region.ready md ops l → l.getD i false = false := fun h => by
    have h0 := (mem_ready.1 h).1
    rename_i l
    rcases Nat.lt_or_ge i l.size with h' | h'
    · simp [h'] at h0 ⊢; exact h0
    · simp [Array.getElem?_eq_none h'] at h0
  have hri : i ∈ Region.ready md ops listed := by simpa using hr
  have hne : i ≠ c := fun e => by
    have := (unlisted (cl_of hcl) n i hld (unl hri)).2
    rw [← e] at this
    exact this hri
  exact wpAnyP_first (T := S) hi (Region.noSelect_spec hs) hQ hne (fun l w hc hrl hS => hS (unlisted hc n i hld (unl hrl)).1) fuel listed a w (cl_of hcl) (Region.free_spec hi hf) hri hy (fun _ => hS) h

/-- Number i, which yields its value whatever the world. -/
theorem wpAnyP_any {i : Nat} {oi : Oper} {v : Value} {fuel : Nat} {listed : Array Bool} {a : Act} {w : World} (hi : ops[i]? = some oi) (hs : Region.noSelect ops = true) (hf : Region.free md ops listed i = true) (hr : (Region.ready md ops listed).contains i = true)
    (hne : i ≠ c) (hcl : closedB md ops listed = true) (hQ : ∀ c a w, Q (.panic c) (a.put oi.dst v) w → Q (.panic c) a w) (hy : YieldsIf P ops (fun _ => True) oi v a) (hS : listed.getD c false = true ∨ S w)
    (h : wpAnyP P md ops Q S c fuel (listed.setIfInBounds i true) (a.put oi.dst v) w) : wpAnyP P md ops Q S c (fuel + 1) listed a w :=
  wpAnyP_first (T := fun _ => True) hi (Region.noSelect_spec hs) hQ hne (fun _ _ _ _ _ => trivial) fuel listed a w (cl_of hcl) (Region.free_spec hi hf) (by simpa using hr) hy
    (fun h0 => by
      rcases hS with h1 | h1
      · rw [h1] at h0; cases h0
      · exact h1) h

/-- Number i is the one that may come up. -/
theorem wpAnyP_one {i : Nat} {oi : Oper} {fuel : Nat} {listed : Array Bool} {a : Act} {w : World} (hi : ops[i]? = some oi) (hr : Region.ready md ops listed = [i]) (hw : Region.wanted oi (yielded ops a.tmps) = true)
    (h : ∀ K' : Act → World → Prop, Shut (∀ a w, ((listed.setIfInBounds i true).getD c false = true ∨ S w) → wpAnyP P md ops Q S c fuel (listed.setIfInBounds i true) a w → K' a w) → Oper.wp P oi a w K' Q) : wpAnyP P md ops Q S c (fuel + 1) listed a w := by
  refine ⟨fun h0 => (by rw [hr] at h0; cases h0), fun j hj => ?_⟩
  rw [hr] at hj
  obtain rfl : j = i := by simpa using hj
  refine wpOp_step hi (fun K' hK => ?_)
  rw [if_pos hw]
  refine h K' (fun a w hS hW => hK a w ⟨fun h0 => ?_, hW⟩)
  rcases hS with h1 | h1
  · rw [h1] at h0; cases h0
  · exact h1

theorem set_l {l : List Bool} {i : Nat} : (List.toArray l).setIfInBounds i true = List.toArray (l.set i true) := by simp
theorem phase_step {i : Nat} {oi : Oper} {fuel : Nat} {listed : Array Bool} {a : Act} {w : World} (hi : ops[i]? = some oi) (hw : Region.wanted oi (yielded ops a.tmps) = true)
    (h : ∀ K' : Act → World → Prop, Shut (∀ a w, ((listed.setIfInBounds i true).getD c false = true ∨ S w) → wpAnyP P md ops Q S c fuel (listed.setIfInBounds i true) a w → K' a w) → Oper.wp P oi a w K' Q) :
    wpOp P ops Q i (fun a' w' => ((listed.setIfInBounds i true).getD c false = false → S w') ∧ wpAnyP P md ops Q S c fuel (listed.setIfInBounds i true) a' w') a w := by
  refine wpOp_step hi (fun K' hK => ?_)
  rw [if_pos hw]
  refine h K' (fun a w hS hW => hK a w ⟨fun h0 => ?_, hW⟩)
  rcases hS with h1 | h1
  · rw [h1] at h0; cases h0
  · exact h1
/-- Numbers i and j are those that may come up. -/
theorem wpAnyP_two {i j : Nat} {oi oj : Oper} {fuel : Nat} {listed : Array Bool} {a : Act} {w : World} (hi : ops[i]? = some oi) (hj : ops[j]? = some oj) (hr : Region.ready md ops listed = [i, j]) (hwi : Region.wanted oi (yielded ops a.tmps) = true) (hwj : Region.wanted oj (yielded ops a.tmps) = true)
    (h1 : ∀ K' : Act → World → Prop, Shut (∀ a w, ((listed.setIfInBounds i true).getD c false = true ∨ S w) → wpAnyP P md ops Q S c fuel (listed.setIfInBounds i true) a w → K' a w) → Oper.wp P oi a w K' Q)
    (h2 : ∀ K' : Act → World → Prop, Shut (∀ a w, ((listed.setIfInBounds j true).getD c false = true ∨ S w) → wpAnyP P md ops Q S c fuel (listed.setIfInBounds j true) a w → K' a w) → Oper.wp P oj a w K' Q) : wpAnyP P md ops Q S c (fuel + 1) listed a w := by
  refine ⟨fun h0 => (by rw [hr] at h0; cases h0), fun k hk => ?_⟩
  rw [hr] at hk
  rcases List.mem_cons.1 hk with rfl | hk
  · exact phase_step hi hwi h1
  · obtain rfl : k = j := by simpa using hk
    exact phase_step hj hwj h2
/-- Numbers i, j and k are those that may come up. -/
theorem wpAnyP_three {i j k : Nat} {oi oj ok : Oper} {fuel : Nat} {listed : Array Bool} {a : Act} {w : World} (hi : ops[i]? = some oi) (hj : ops[j]? = some oj) (hk : ops[k]? = some ok) (hr : Region.ready md ops listed = [i, j, k]) (hwi : Region.wanted oi (yielded ops a.tmps) = true) (hwj : Region.wanted oj (yielded ops a.tmps) = true) (hwk : Region.wanted ok (yielded ops a.tmps) = true)
    (h1 : ∀ K' : Act → World → Prop, Shut (∀ a w, ((listed.setIfInBounds i true).getD c false = true ∨ S w) → wpAnyP P md ops Q S c fuel (listed.setIfInBounds i true) a w → K' a w) → Oper.wp P oi a w K' Q)
    (h2 : ∀ K' : Act → World → Prop, Shut (∀ a w, ((listed.setIfInBounds j true).getD c false = true ∨ S w) → wpAnyP P md ops Q S c fuel (listed.setIfInBounds j true) a w → K' a w) → Oper.wp P oj a w K' Q)
    (h3 : ∀ K' : Act → World → Prop, Shut (∀ a w, ((listed.setIfInBounds k true).getD c false = true ∨ S w) → wpAnyP P md ops Q S c fuel (listed.setIfInBounds k true) a w → K' a w) → Oper.wp P ok a w K' Q) : wpAnyP P md ops Q S c (fuel + 1) listed a w := by
  refine ⟨fun h0 => (by rw [hr] at h0; cases h0), fun q hq => ?_⟩
  rw [hr] at hq
  rcases List.mem_cons.1 hq with rfl | hq
  · exact phase_step hi hwi h1
  rcases List.mem_cons.1 hq with rfl | hq
  · exact phase_step hj hwj h2
  · obtain rfl : q = k := by simpa using hq
    exact phase_step hk hwk h3
end
section
variable {P : Program} {md : Region.Mode} {Q : Exit → Act → World → Prop} {S : World → Prop} {c fuel n : Nat} {listed : Array Bool} {a : Act} {w : World} {ops : Array Oper} {rest : List Oper}
theorem pt_0 {oi : Oper} (hops : ops = List.toArray (oi :: rest)) {b0 : Bool} {brest : List Bool} (hl : listed = List.toArray (b0 :: brest)) (n : Nat) (v : Value) (hs : Region.noSelect ops = true) (hf : Region.free md ops listed 0 = true) (hr : (Region.ready md ops listed).contains 0 = true) (hld : leads md ops c n 0 = true) (hcl : closedB md ops listed = true) (hQ : ∀ c a w, Q (.panic c) (a.put oi.dst v) w → Q (.panic c) a w) (hw : Region.wanted oi (yielded ops a.tmps) = true) (hv : ∀ w, S w → (execOp a.eval oi).run P w = .ok (.value v) w) (hS : S w) (h : wpAnyP P md ops Q S c fuel (List.toArray (true :: brest)) (a.put oi.dst v) w) : wpAnyP P md ops Q S c (fuel + 1) listed a w := by
  subst hops hl
  exact wpAnyP_take (i := 0) (oi := oi) rfl hs hf hr hld hcl hQ (.inl ⟨hw, hv⟩) hS (by rw [set_l]; exact h)
theorem pa_0 {oi : Oper} (hops : ops = List.toArray (oi :: rest)) {b0 : Bool} {brest : List Bool} (hl : listed = List.toArray (b0 :: brest)) (v : Value) (hs : Region.noSelect ops = true) (hf : Region.free md ops listed 0 = true) (hr : (Region.ready md ops listed).contains 0 = true) (hne : 0 ≠ c) (hcl : closedB md ops listed = true) (hQ : ∀ c a w, Q (.panic c) (a.put oi.dst v) w → Q (.panic c) a w) (hw : Region.wanted oi (yielded ops a.tmps) = true) (hv : ∀ w, (execOp a.eval oi).run P w = .ok (.value v) w) (hS : listed.getD c false = true ∨ S w) (h : wpAnyP P md ops Q S c fuel (List.toArray (true :: brest)) (a.put oi.dst v) w) : wpAnyP P md ops Q S c (fuel + 1) listed a w := by
  subst hops hl
  exact wpAnyP_any (i := 0) (oi := oi) rfl hs hf hr hne hcl hQ (.inl ⟨hw, fun w _ => hv w⟩) hS (by rw [set_l]; exact h)
theorem pt_1 {o0 oi : Oper} (hops : ops = List.toArray (o0 :: oi :: rest)) {b0 b1 : Bool} {brest : List Bool} (hl : listed = List.toArray (b0 :: b1 :: brest)) (n : Nat) (v : Value) (hs : Region.noSelect ops = true) (hf : Region.free md ops listed 1 = true) (hr : (Region.ready md ops listed).contains 1 = true) (hld : leads md ops c n 1 = true) (hcl : closedB md ops listed = true) (hQ : ∀ c a w, Q (.panic c) (a.put oi.dst v) w → Q (.panic c) a w) (hw : Region.wanted oi (yielded ops a.tmps) = true) (hv : ∀ w, S w → (execOp a.eval oi).run P w = .ok (.value v) w) (hS : S w) (h : wpAnyP P md ops Q S c fuel (List.toArray (b0 :: true :: brest)) (a.put oi.dst v) w) : wpAnyP P md ops Q S c (fuel + 1) listed a w := by
  subst hops hl
  exact wpAnyP_take (i := 1) (oi := oi) rfl hs hf hr hld hcl hQ (.inl ⟨hw, hv⟩) hS (by rw [set_l]; exact h)
theorem pa_1 {o0 oi : Oper} (hops : ops = List.toArray (o0 :: oi :: rest)) {b0 b1 : Bool} {brest : List Bool} (hl : listed = List.toArray (b0 :: b1 :: brest)) (v : Value) (hs : Region.noSelect ops = true) (hf : Region.free md ops listed 1 = true) (hr : (Region.ready md ops listed).contains 1 = true) (hne : 1 ≠ c) (hcl : closedB md ops listed = true) (hQ : ∀ c a w, Q (.panic c) (a.put oi.dst v) w → Q (.panic c) a w) (hw : Region.wanted oi (yielded ops a.tmps) = true) (hv : ∀ w, (execOp a.eval oi).run P w = .ok (.value v) w) (hS : listed.getD c false = true ∨ S w) (h : wpAnyP P md ops Q S c fuel (List.toArray (b0 :: true :: brest)) (a.put oi.dst v) w) : wpAnyP P md ops Q S c (fuel + 1) listed a w := by
  subst hops hl
  exact wpAnyP_any (i := 1) (oi := oi) rfl hs hf hr hne hcl hQ (.inl ⟨hw, fun w _ => hv w⟩) hS (by rw [set_l]; exact h)
theorem pt_2 {o0 o1 oi : Oper} (hops : ops = List.toArray (o0 :: o1 :: oi :: rest)) {b0 b1 b2 : Bool} {brest : List Bool} (hl : listed = List.toArray (b0 :: b1 :: b2 :: brest)) (n : Nat) (v : Value) (hs : Region.noSelect ops = true) (hf : Region.free md ops listed 2 = true) (hr : (Region.ready md ops listed).contains 2 = true) (hld : leads md ops c n 2 = true) (hcl : closedB md ops listed = true) (hQ : ∀ c a w, Q (.panic c) (a.put oi.dst v) w → Q (.panic c) a w) (hw : Region.wanted oi (yielded ops a.tmps) = true) (hv : ∀ w, S w → (execOp a.eval oi).run P w = .ok (.value v) w) (hS : S w) (h : wpAnyP P md ops Q S c fuel (List.toArray (b0 :: b1 :: true :: brest)) (a.put oi.dst v) w) : wpAnyP P md ops Q S c (fuel + 1) listed a w := by
  subst hops hl
  exact wpAnyP_take (i := 2) (oi := oi) rfl hs hf hr hld hcl hQ (.inl ⟨hw, hv⟩) hS (by rw [set_l]; exact h)
theorem pa_2 {o0 o1 oi : Oper} (hops : ops = List.toArray (o0 :: o1 :: oi :: rest)) {b0 b1 b2 : Bool} {brest : List Bool} (hl : listed = List.toArray (b0 :: b1 :: b2 :: brest)) (v : Value) (hs : Region.noSelect ops = true) (hf : Region.free md ops listed 2 = true) (hr : (Region.ready md ops listed).contains 2 = true) (hne : 2 ≠ c) (hcl : closedB md ops listed = true) (hQ : ∀ c a w, Q (.panic c) (a.put oi.dst v) w → Q (.panic c) a w) (hw : Region.wanted oi (yielded ops a.tmps) = true) (hv : ∀ w, (execOp a.eval oi).run P w = .ok (.value v) w) (hS : listed.getD c false = true ∨ S w) (h : wpAnyP P md ops Q S c fuel (List.toArray (b0 :: b1 :: true :: brest)) (a.put oi.dst v) w) : wpAnyP P md ops Q S c (fuel + 1) listed a w := by
  subst hops hl
  exact wpAnyP_any (i := 2) (oi := oi) rfl hs hf hr hne hcl hQ (.inl ⟨hw, fun w _ => hv w⟩) hS (by rw [set_l]; exact h)
theorem pc_2 {o0 o1 oi : Oper} (hops : ops = List.toArray (o0 :: o1 :: oi :: rest)) {b0 b1 b2 : Bool} {brest : List Bool} (hl : listed = List.toArray (b0 :: b1 :: b2 :: brest)) (hr : Region.ready md ops listed = [2]) (hwoi : Region.wanted oi (yielded ops a.tmps) = true) (h : ∀ K' : Act → World → Prop, Shut (∀ a w, ((List.toArray (b0 :: b1 :: true :: brest)).getD c false = true ∨ S w) → wpAnyP P md ops Q S c fuel (List.toArray (b0 :: b1 :: true :: brest)) a w → K' a w) → Oper.wp P oi a w K' Q) : wpAnyP P md ops Q S c (fuel + 1) listed a w := by
  subst hops hl
  exact wpAnyP_one (i := 2) (oi := oi) rfl hr hwoi (by rw [set_l]; exact h)
theorem pt_3 {o0 o1 o2 oi : Oper} (hops : ops = List.toArray (o0 :: o1 :: o2 :: oi :: rest)) {b0 b1 b2 b3 : Bool} {brest : List Bool} (hl : listed = List.toArray (b0 :: b1 :: b2 :: b3 :: brest)) (n : Nat) (v : Value) (hs : Region.noSelect ops = true) (hf : Region.free md ops listed 3 = true) (hr : (Region.ready md ops listed).contains 3 = true) (hld : leads md ops c n 3 = true) (hcl : closedB md ops listed = true) (hQ : ∀ c a w, Q (.panic c) (a.put oi.dst v) w → Q (.panic c) a w) (hw : Region.wanted oi (yielded ops a.tmps) = true) (hv : ∀ w, S w → (execOp a.eval oi).run P w = .ok (.value v) w) (hS : S w) (h : wpAnyP P md ops Q S c fuel (List.toArray (b0 :: b1 :: b2 :: true :: brest)) (a.put oi.dst v) w) : wpAnyP P md ops Q S c (fuel + 1) listed a w := by
  subst hops hl
  exact wpAnyP_take (i := 3) (oi := oi) rfl hs hf hr hld hcl hQ (.inl ⟨hw, hv⟩) hS (by rw [set_l]; exact h)
theorem pa_3 {o0 o1 o2 oi : Oper} (hops : ops = List.toArray (o0 :: o1 :: o2 :: oi :: rest)) {b0 b1 b2 b3 : Bool} {brest : List Bool} (hl : listed = List.toArray (b0 :: b1 :: b2 :: b3 :: brest)) (v : Value) (hs : Region.noSelect ops = true) (hf : Region.free md ops listed 3 = true) (hr : (Region.ready md ops listed).contains 3 = true) (hne : 3 ≠ c) (hcl : closedB md ops listed = true) (hQ : ∀ c a w, Q (.panic c) (a.put oi.dst v) w → Q (.panic c) a w) (hw : Region.wanted oi (yielded ops a.tmps) = true) (hv : ∀ w, (execOp a.eval oi).run P w = .ok (.value v) w) (hS : listed.getD c false = true ∨ S w) (h : wpAnyP P md ops Q S c fuel (List.toArray (b0 :: b1 :: b2 :: true :: brest)) (a.put oi.dst v) w) : wpAnyP P md ops Q S c (fuel + 1) listed a w := by
  subst hops hl
  exact wpAnyP_any (i := 3) (oi := oi) rfl hs hf hr hne hcl hQ (.inl ⟨hw, fun w _ => hv w⟩) hS (by rw [set_l]; exact h)
theorem pc_3 {o0 o1 o2 oi : Oper} (hops : ops = List.toArray (o0 :: o1 :: o2 :: oi :: rest)) {b0 b1 b2 b3 : Bool} {brest : List Bool} (hl : listed = List.toArray (b0 :: b1 :: b2 :: b3 :: brest)) (hr : Region.ready md ops listed = [3]) (hwoi : Region.wanted oi (yielded ops a.tmps) = true) (h : ∀ K' : Act → World → Prop, Shut (∀ a w, ((List.toArray (b0 :: b1 :: b2 :: true :: brest)).getD c false = true ∨ S w) → wpAnyP P md ops Q S c fuel (List.toArray (b0 :: b1 :: b2 :: true :: brest)) a w → K' a w) → Oper.wp P oi a w K' Q) : wpAnyP P md ops Q S c (fuel + 1) listed a w := by
  subst hops hl
  exact wpAnyP_one (i := 3) (oi := oi) rfl hr hwoi (by rw [set_l]; exact h)
theorem pt_4 {o0 o1 o2 o3 oi : Oper} (hops : ops = List.toArray (o0 :: o1 :: o2 :: o3 :: oi :: rest)) {b0 b1 b2 b3 b4 : Bool} {brest : List Bool} (hl : listed = List.toArray (b0 :: b1 :: b2 :: b3 :: b4 :: brest)) (n : Nat) (v : Value) (hs : Region.noSelect ops = true) (hf : Region.free md ops listed 4 = true) (hr : (Region.ready md ops listed).contains 4 = true) (hld : leads md ops c n 4 = true) (hcl : closedB md ops listed = true) (hQ : ∀ c a w, Q (.panic c) (a.put oi.dst v) w → Q (.panic c) a w) (hw : Region.wanted oi (yielded ops a.tmps) = true) (hv : ∀ w, S w → (execOp a.eval oi).run P w = .ok (.value v) w) (hS : S w) (h : wpAnyP P md ops Q S c fuel (List.toArray (b0 :: b1 :: b2 :: b3 :: true :: brest)) (a.put oi.dst v) w) : wpAnyP P md ops Q S c (fuel + 1) listed a w := by
  subst hops hl
  exact wpAnyP_take (i := 4) (oi := oi) rfl hs hf hr hld hcl hQ (.inl ⟨hw, hv⟩) hS (by rw [set_l]; exact h)
theorem pa_4 {o0 o1 o2 o3 oi : Oper} (hops : ops = List.toArray (o0 :: o1 :: o2 :: o3 :: oi :: rest)) {b0 b1 b2 b3 b4 : Bool} {brest : List Bool} (hl : listed = List.toArray (b0 :: b1 :: b2 :: b3 :: b4 :: brest)) (v : Value) (hs : Region.noSelect ops = true) (hf : Region.free md ops listed 4 = true) (hr : (Region.ready md ops listed).contains 4 = true) (hne : 4 ≠ c) (hcl : closedB md ops listed = true) (hQ : ∀ c a w, Q (.panic c) (a.put oi.dst v) w → Q (.panic c) a w) (hw : Region.wanted oi (yielded ops a.tmps) = true) (hv : ∀ w, (execOp a.eval oi).run P w = .ok (.value v) w) (hS : listed.getD c false = true ∨ S w) (h : wpAnyP P md ops Q S c fuel (List.toArray (b0 :: b1 :: b2 :: b3 :: true :: brest)) (a.put oi.dst v) w) : wpAnyP P md ops Q S c (fuel + 1) listed a w := by
  subst hops hl
  exact wpAnyP_any (i := 4) (oi := oi) rfl hs hf hr hne hcl hQ (.inl ⟨hw, fun w _ => hv w⟩) hS (by rw [set_l]; exact h)
theorem pt_5 {o0 o1 o2 o3 o4 oi : Oper} (hops : ops = List.toArray (o0 :: o1 :: o2 :: o3 :: o4 :: oi :: rest)) {b0 b1 b2 b3 b4 b5 : Bool} {brest : List Bool} (hl : listed = List.toArray (b0 :: b1 :: b2 :: b3 :: b4 :: b5 :: brest)) (n : Nat) (v : Value) (hs : Region.noSelect ops = true) (hf : Region.free md ops listed 5 = true) (hr : (Region.ready md ops listed).contains 5 = true) (hld : leads md ops c n 5 = true) (hcl : closedB md ops listed = true) (hQ : ∀ c a w, Q (.panic c) (a.put oi.dst v) w → Q (.panic c) a w) (hw : Region.wanted oi (yielded ops a.tmps) = true) (hv : ∀ w, S w → (execOp a.eval oi).run P w = .ok (.value v) w) (hS : S w) (h : wpAnyP P md ops Q S c fuel (List.toArray (b0 :: b1 :: b2 :: b3 :: b4 :: true :: brest)) (a.put oi.dst v) w) : wpAnyP P md ops Q S c (fuel + 1) listed a w := by
  subst hops hl
  exact wpAnyP_take (i := 5) (oi := oi) rfl hs hf hr hld hcl hQ (.inl ⟨hw, hv⟩) hS (by rw [set_l]; exact h)
theorem pa_5 {o0 o1 o2 o3 o4 oi : Oper} (hops : ops = List.toArray (o0 :: o1 :: o2 :: o3 :: o4 :: oi :: rest)) {b0 b1 b2 b3 b4 b5 : Bool} {brest : List Bool} (hl : listed = List.toArray (b0 :: b1 :: b2 :: b3 :: b4 :: b5 :: brest)) (v : Value) (hs : Region.noSelect ops = true) (hf : Region.free md ops listed 5 = true) (hr : (Region.ready md ops listed).contains 5 = true) (hne : 5 ≠ c) (hcl : closedB md ops listed = true) (hQ : ∀ c a w, Q (.panic c) (a.put oi.dst v) w → Q (.panic c) a w) (hw : Region.wanted oi (yielded ops a.tmps) = true) (hv : ∀ w, (execOp a.eval oi).run P w = .ok (.value v) w) (hS : listed.getD c false = true ∨ S w) (h : wpAnyP P md ops Q S c fuel (List.toArray (b0 :: b1 :: b2 :: b3 :: b4 :: true :: brest)) (a.put oi.dst v) w) : wpAnyP P md ops Q S c (fuel + 1) listed a w := by
  subst hops hl
  exact wpAnyP_any (i := 5) (oi := oi) rfl hs hf hr hne hcl hQ (.inl ⟨hw, fun w _ => hv w⟩) hS (by rw [set_l]; exact h)
theorem pc_5 {o0 o1 o2 o3 o4 oi : Oper} (hops : ops = List.toArray (o0 :: o1 :: o2 :: o3 :: o4 :: oi :: rest)) {b0 b1 b2 b3 b4 b5 : Bool} {brest : List Bool} (hl : listed = List.toArray (b0 :: b1 :: b2 :: b3 :: b4 :: b5 :: brest)) (hr : Region.ready md ops listed = [5]) (hwoi : Region.wanted oi (yielded ops a.tmps) = true) (h : ∀ K' : Act → World → Prop, Shut (∀ a w, ((List.toArray (b0 :: b1 :: b2 :: b3 :: b4 :: true :: brest)).getD c false = true ∨ S w) → wpAnyP P md ops Q S c fuel (List.toArray (b0 :: b1 :: b2 :: b3 :: b4 :: true :: brest)) a w → K' a w) → Oper.wp P oi a w K' Q) : wpAnyP P md ops Q S c (fuel + 1) listed a w := by
  subst hops hl
  exact wpAnyP_one (i := 5) (oi := oi) rfl hr hwoi (by rw [set_l]; exact h)
theorem pt_6 {o0 o1 o2 o3 o4 o5 oi : Oper} (hops : ops = List.toArray (o0 :: o1 :: o2 :: o3 :: o4 :: o5 :: oi :: rest)) {b0 b1 b2 b3 b4 b5 b6 : Bool} {brest : List Bool} (hl : listed = List.toArray (b0 :: b1 :: b2 :: b3 :: b4 :: b5 :: b6 :: brest)) (n : Nat) (v : Value) (hs : Region.noSelect ops = true) (hf : Region.free md ops listed 6 = true) (hr : (Region.ready md ops listed).contains 6 = true) (hld : leads md ops c n 6 = true) (hcl : closedB md ops listed = true) (hQ : ∀ c a w, Q (.panic c) (a.put oi.dst v) w → Q (.panic c) a w) (hw : Region.wanted oi (yielded ops a.tmps) = true) (hv : ∀ w, S w → (execOp a.eval oi).run P w = .ok (.value v) w) (hS : S w) (h : wpAnyP P md ops Q S c fuel (List.toArray (b0 :: b1 :: b2 :: b3 :: b4 :: b5 :: true :: brest)) (a.put oi.dst v) w) : wpAnyP P md ops Q S c (fuel + 1) listed a w := by
  subst hops hl
  exact wpAnyP_take (i := 6) (oi := oi) rfl hs hf hr hld hcl hQ (.inl ⟨hw, hv⟩) hS (by rw [set_l]; exact h)
theorem pa_6 {o0 o1 o2 o3 o4 o5 oi : Oper} (hops : ops = List.toArray (o0 :: o1 :: o2 :: o3 :: o4 :: o5 :: oi :: rest)) {b0 b1 b2 b3 b4 b5 b6 : Bool} {brest : List Bool} (hl : listed = List.toArray (b0 :: b1 :: b2 :: b3 :: b4 :: b5 :: b6 :: brest)) (v : Value) (hs : Region.noSelect ops = true) (hf : Region.free md ops listed 6 = true) (hr : (Region.ready md ops listed).contains 6 = true) (hne : 6 ≠ c) (hcl : closedB md ops listed = true) (hQ : ∀ c a w, Q (.panic c) (a.put oi.dst v) w → Q (.panic c) a w) (hw : Region.wanted oi (yielded ops a.tmps) = true) (hv : ∀ w, (execOp a.eval oi).run P w = .ok (.value v) w) (hS : listed.getD c false = true ∨ S w) (h : wpAnyP P md ops Q S c fuel (List.toArray (b0 :: b1 :: b2 :: b3 :: b4 :: b5 :: true :: brest)) (a.put oi.dst v) w) : wpAnyP P md ops Q S c (fuel + 1) listed a w := by
  subst hops hl
  exact wpAnyP_any (i := 6) (oi := oi) rfl hs hf hr hne hcl hQ (.inl ⟨hw, fun w _ => hv w⟩) hS (by rw [set_l]; exact h)
theorem pc_6 {o0 o1 o2 o3 o4 o5 oi : Oper} (hops : ops = List.toArray (o0 :: o1 :: o2 :: o3 :: o4 :: o5 :: oi :: rest)) {b0 b1 b2 b3 b4 b5 b6 : Bool} {brest : List Bool} (hl : listed = List.toArray (b0 :: b1 :: b2 :: b3 :: b4 :: b5 :: b6 :: brest)) (hr : Region.ready md ops listed = [6]) (hwoi : Region.wanted oi (yielded ops a.tmps) = true) (h : ∀ K' : Act → World → Prop, Shut (∀ a w, ((List.toArray (b0 :: b1 :: b2 :: b3 :: b4 :: b5 :: true :: brest)).getD c false = true ∨ S w) → wpAnyP P md ops Q S c fuel (List.toArray (b0 :: b1 :: b2 :: b3 :: b4 :: b5 :: true :: brest)) a w → K' a w) → Oper.wp P oi a w K' Q) : wpAnyP P md ops Q S c (fuel + 1) listed a w := by
  subst hops hl
  exact wpAnyP_one (i := 6) (oi := oi) rfl hr hwoi (by rw [set_l]; exact h)
theorem pa_7 {o0 o1 o2 o3 o4 o5 o6 oi : Oper} (hops : ops = List.toArray (o0 :: o1 :: o2 :: o3 :: o4 :: o5 :: o6 :: oi :: rest)) {b0 b1 b2 b3 b4 b5 b6 b7 : Bool} {brest : List Bool} (hl : listed = List.toArray (b0 :: b1 :: b2 :: b3 :: b4 :: b5 :: b6 :: b7 :: brest)) (v : Value) (hs : Region.noSelect ops = true) (hf : Region.free md ops listed 7 = true) (hr : (Region.ready md ops listed).contains 7 = true) (hne : 7 ≠ c) (hcl : closedB md ops listed = true) (hQ : ∀ c a w, Q (.panic c) (a.put oi.dst v) w → Q (.panic c) a w) (hw : Region.wanted oi (yielded ops a.tmps) = true) (hv : ∀ w, (execOp a.eval oi).run P w = .ok (.value v) w) (hS : listed.getD c false = true ∨ S w) (h : wpAnyP P md ops Q S c fuel (List.toArray (b0 :: b1 :: b2 :: b3 :: b4 :: b5 :: b6 :: true :: brest)) (a.put oi.dst v) w) : wpAnyP P md ops Q S c (fuel + 1) listed a w := by
  subst hops hl
  exact wpAnyP_any (i := 7) (oi := oi) rfl hs hf hr hne hcl hQ (.inl ⟨hw, fun w _ => hv w⟩) hS (by rw [set_l]; exact h)
theorem pc_7 {o0 o1 o2 o3 o4 o5 o6 oi : Oper} (hops : ops = List.toArray (o0 :: o1 :: o2 :: o3 :: o4 :: o5 :: o6 :: oi :: rest)) {b0 b1 b2 b3 b4 b5 b6 b7 : Bool} {brest : List Bool} (hl : listed = List.toArray (b0 :: b1 :: b2 :: b3 :: b4 :: b5 :: b6 :: b7 :: brest)) (hr : Region.ready md ops listed = [7]) (hwoi : Region.wanted oi (yielded ops a.tmps) = true) (h : ∀ K' : Act → World → Prop, Shut (∀ a w, ((List.toArray (b0 :: b1 :: b2 :: b3 :: b4 :: b5 :: b6 :: true :: brest)).getD c false = true ∨ S w) → wpAnyP P md ops Q S c fuel (List.toArray (b0 :: b1 :: b2 :: b3 :: b4 :: b5 :: b6 :: true :: brest)) a w → K' a w) → Oper.wp P oi a w K' Q) : wpAnyP P md ops Q S c (fuel + 1) listed a w := by
  subst hops hl
  exact wpAnyP_one (i := 7) (oi := oi) rfl hr hwoi (by rw [set_l]; exact h)
theorem pt_8 {o0 o1 o2 o3 o4 o5 o6 o7 oi : Oper} (hops : ops = List.toArray (o0 :: o1 :: o2 :: o3 :: o4 :: o5 :: o6 :: o7 :: oi :: rest)) {b0 b1 b2 b3 b4 b5 b6 b7 b8 : Bool} {brest : List Bool} (hl : listed = List.toArray (b0 :: b1 :: b2 :: b3 :: b4 :: b5 :: b6 :: b7 :: b8 :: brest)) (n : Nat) (v : Value) (hs : Region.noSelect ops = true) (hf : Region.free md ops listed 8 = true) (hr : (Region.ready md ops listed).contains 8 = true) (hld : leads md ops c n 8 = true) (hcl : closedB md ops listed = true) (hQ : ∀ c a w, Q (.panic c) (a.put oi.dst v) w → Q (.panic c) a w) (hw : Region.wanted oi (yielded ops a.tmps) = true) (hv : ∀ w, S w → (execOp a.eval oi).run P w = .ok (.value v) w) (hS : S w) (h : wpAnyP P md ops Q S c fuel (List.toArray (b0 :: b1 :: b2 :: b3 :: b4 :: b5 :: b6 :: b7 :: true :: brest)) (a.put oi.dst v) w) : wpAnyP P md ops Q S c (fuel + 1) listed a w := by
  subst hops hl
  exact wpAnyP_take (i := 8) (oi := oi) rfl hs hf hr hld hcl hQ (.inl ⟨hw, hv⟩) hS (by rw [set_l]; exact h)
theorem pa_8 {o0 o1 o2 o3 o4 o5 o6 o7 oi : Oper} (hops : ops = List.toArray (o0 :: o1 :: o2 :: o3 :: o4 :: o5 :: o6 :: o7 :: oi :: rest)) {b0 b1 b2 b3 b4 b5 b6 b7 b8 : Bool} {brest : List Bool} (hl : listed = List.toArray (b0 :: b1 :: b2 :: b3 :: b4 :: b5 :: b6 :: b7 :: b8 :: brest)) (v : Value) (hs : Region.noSelect ops = true) (hf : Region.free md ops listed 8 = true) (hr : (Region.ready md ops listed).contains 8 = true) (hne : 8 ≠ c) (hcl : closedB md ops listed = true) (hQ : ∀ c a w, Q (.panic c) (a.put oi.dst v) w → Q (.panic c) a w) (hw : Region.wanted oi (yielded ops a.tmps) = true) (hv : ∀ w, (execOp a.eval oi).run P w = .ok (.value v) w) (hS : listed.getD c false = true ∨ S w) (h : wpAnyP P md ops Q S c fuel (List.toArray (b0 :: b1 :: b2 :: b3 :: b4 :: b5 :: b6 :: b7 :: true :: brest)) (a.put oi.dst v) w) : wpAnyP P md ops Q S c (fuel + 1) listed a w := by
  subst hops hl
  exact wpAnyP_any (i := 8) (oi := oi) rfl hs hf hr hne hcl hQ (.inl ⟨hw, fun w _ => hv w⟩) hS (by rw [set_l]; exact h)
theorem pt_9 {o0 o1 o2 o3 o4 o5 o6 o7 o8 oi : Oper} (hops : ops = List.toArray (o0 :: o1 :: o2 :: o3 :: o4 :: o5 :: o6 :: o7 :: o8 :: oi :: rest)) {b0 b1 b2 b3 b4 b5 b6 b7 b8 b9 : Bool} {brest : List Bool} (hl : listed = List.toArray (b0 :: b1 :: b2 :: b3 :: b4 :: b5 :: b6 :: b7 :: b8 :: b9 :: brest)) (n : Nat) (v : Value) (hs : Region.noSelect ops = true) (hf : Region.free md ops listed 9 = true) (hr : (Region.ready md ops listed).contains 9 = true) (hld : leads md ops c n 9 = true) (hcl : closedB md ops listed = true) (hQ : ∀ c a w, Q (.panic c) (a.put oi.dst v) w → Q (.panic c) a w) (hw : Region.wanted oi (yielded ops a.tmps) = true) (hv : ∀ w, S w → (execOp a.eval oi).run P w = .ok (.value v) w) (hS : S w) (h : wpAnyP P md ops Q S c fuel (List.toArray (b0 :: b1 :: b2 :: b3 :: b4 :: b5 :: b6 :: b7 :: b8 :: true :: brest)) (a.put oi.dst v) w) : wpAnyP P md ops Q S c (fuel + 1) listed a w := by
  subst hops hl
  exact wpAnyP_take (i := 9) (oi := oi) rfl hs hf hr hld hcl hQ (.inl ⟨hw, hv⟩) hS (by rw [set_l]; exact h)
theorem pa_9 {o0 o1 o2 o3 o4 o5 o6 o7 o8 oi : Oper} (hops : ops = List.toArray (o0 :: o1 :: o2 :: o3 :: o4 :: o5 :: o6 :: o7 :: o8 :: oi :: rest)) {b0 b1 b2 b3 b4 b5 b6 b7 b8 b9 : Bool} {brest : List Bool} (hl : listed = List.toArray (b0 :: b1 :: b2 :: b3 :: b4 :: b5 :: b6 :: b7 :: b8 :: b9 :: brest)) (v : Value) (hs : Region.noSelect ops = true) (hf : Region.free md ops listed 9 = true) (hr : (Region.ready md ops listed).contains 9 = true) (hne : 9 ≠ c) (hcl : closedB md ops listed = true) (hQ : ∀ c a w, Q (.panic c) (a.put oi.dst v) w → Q (.panic c) a w) (hw : Region.wanted oi (yielded ops a.tmps) = true) (hv : ∀ w, (execOp a.eval oi).run P w = .ok (.value v) w) (hS : listed.getD c false = true ∨ S w) (h : wpAnyP P md ops Q S c fuel (List.toArray (b0 :: b1 :: b2 :: b3 :: b4 :: b5 :: b6 :: b7 :: b8 :: true :: brest)) (a.put oi.dst v) w) : wpAnyP P md ops Q S c (fuel + 1) listed a w := by
  subst hops hl
  exact wpAnyP_any (i := 9) (oi := oi) rfl hs hf hr hne hcl hQ (.inl ⟨hw, fun w _ => hv w⟩) hS (by rw [set_l]; exact h)
theorem pt_10 {o0 o1 o2 o3 o4 o5 o6 o7 o8 o9 oi : Oper} (hops : ops = List.toArray (o0 :: o1 :: o2 :: o3 :: o4 :: o5 :: o6 :: o7 :: o8 :: o9 :: oi :: rest)) {b0 b1 b2 b3 b4 b5 b6 b7 b8 b9 b10 : Bool} {brest : List Bool} (hl : listed = List.toArray (b0 :: b1 :: b2 :: b3 :: b4 :: b5 :: b6 :: b7 :: b8 :: b9 :: b10 :: brest)) (n : Nat) (v : Value) (hs : Region.noSelect ops = true) (hf : Region.free md ops listed 10 = true) (hr : (Region.ready md ops listed).contains 10 = true) (hld : leads md ops c n 10 = true) (hcl : closedB md ops listed = true) (hQ : ∀ c a w, Q (.panic c) (a.put oi.dst v) w → Q (.panic c) a w) (hw : Region.wanted oi (yielded ops a.tmps) = true) (hv : ∀ w, S w → (execOp a.eval oi).run P w = .ok (.value v) w) (hS : S w) (h : wpAnyP P md ops Q S c fuel (List.toArray (b0 :: b1 :: b2 :: b3 :: b4 :: b5 :: b6 :: b7 :: b8 :: b9 :: true :: brest)) (a.put oi.dst v) w) : wpAnyP P md ops Q S c (fuel + 1) listed a w := by
  subst hops hl
  exact wpAnyP_take (i := 10) (oi := oi) rfl hs hf hr hld hcl hQ (.inl ⟨hw, hv⟩) hS (by rw [set_l]; exact h)
theorem pa_10 {o0 o1 o2 o3 o4 o5 o6 o7 o8 o9 oi : Oper} (hops : ops = List.toArray (o0 :: o1 :: o2 :: o3 :: o4 :: o5 :: o6 :: o7 :: o8 :: o9 :: oi :: rest)) {b0 b1 b2 b3 b4 b5 b6 b7 b8 b9 b10 : Bool} {brest : List Bool} (hl : listed = List.toArray (b0 :: b1 :: b2 :: b3 :: b4 :: b5 :: b6 :: b7 :: b8 :: b9 :: b10 :: brest)) (v : Value) (hs : Region.noSelect ops = true) (hf : Region.free md ops listed 10 = true) (hr : (Region.ready md ops listed).contains 10 = true) (hne : 10 ≠ c) (hcl : closedB md ops listed = true) (hQ : ∀ c a w, Q (.panic c) (a.put oi.dst v) w → Q (.panic c) a w) (hw : Region.wanted oi (yielded ops a.tmps) = true) (hv : ∀ w, (execOp a.eval oi).run P w = .ok (.value v) w) (hS : listed.getD c false = true ∨ S w) (h : wpAnyP P md ops Q S c fuel (List.toArray (b0 :: b1 :: b2 :: b3 :: b4 :: b5 :: b6 :: b7 :: b8 :: b9 :: true :: brest)) (a.put oi.dst v) w) : wpAnyP P md ops Q S c (fuel + 1) listed a w := by
  subst hops hl
  exact wpAnyP_any (i := 10) (oi := oi) rfl hs hf hr hne hcl hQ (.inl ⟨hw, fun w _ => hv w⟩) hS (by rw [set_l]; exact h)
theorem pc_10 {o0 o1 o2 o3 o4 o5 o6 o7 o8 o9 oi : Oper} (hops : ops = List.toArray (o0 :: o1 :: o2 :: o3 :: o4 :: o5 :: o6 :: o7 :: o8 :: o9 :: oi :: rest)) {b0 b1 b2 b3 b4 b5 b6 b7 b8 b9 b10 : Bool} {brest : List Bool} (hl : listed = List.toArray (b0 :: b1 :: b2 :: b3 :: b4 :: b5 :: b6 :: b7 :: b8 :: b9 :: b10 :: brest)) (hr : Region.ready md ops listed = [10]) (hwoi : Region.wanted oi (yielded ops a.tmps) = true) (h : ∀ K' : Act → World → Prop, Shut (∀ a w, ((List.toArray (b0 :: b1 :: b2 :: b3 :: b4 :: b5 :: b6 :: b7 :: b8 :: b9 :: true :: brest)).getD c false = true ∨ S w) → wpAnyP P md ops Q S c fuel (List.toArray (b0 :: b1 :: b2 :: b3 :: b4 :: b5 :: b6 :: b7 :: b8 :: b9 :: true :: brest)) a w → K' a w) → Oper.wp P oi a w K' Q) : wpAnyP P md ops Q S c (fuel + 1) listed a w := by
  subst hops hl
  exact wpAnyP_one (i := 10) (oi := oi) rfl hr hwoi (by rw [set_l]; exact h)
theorem pa_11 {o0 o1 o2 o3 o4 o5 o6 o7 o8 o9 o10 oi : Oper} (hops : ops = List.toArray (o0 :: o1 :: o2 :: o3 :: o4 :: o5 :: o6 :: o7 :: o8 :: o9 :: o10 :: oi :: rest)) {b0 b1 b2 b3 b4 b5 b6 b7 b8 b9 b10 b11 : Bool} {brest : List Bool} (hl : listed = List.toArray (b0 :: b1 :: b2 :: b3 :: b4 :: b5 :: b6 :: b7 :: b8 :: b9 :: b10 :: b11 :: brest)) (v : Value) (hs : Region.noSelect ops = true) (hf : Region.free md ops listed 11 = true) (hr : (Region.ready md ops listed).contains 11 = true) (hne : 11 ≠ c) (hcl : closedB md ops listed = true) (hQ : ∀ c a w, Q (.panic c) (a.put oi.dst v) w → Q (.panic c) a w) (hw : Region.wanted oi (yielded ops a.tmps) = true) (hv : ∀ w, (execOp a.eval oi).run P w = .ok (.value v) w) (hS : listed.getD c false = true ∨ S w) (h : wpAnyP P md ops Q S c fuel (List.toArray (b0 :: b1 :: b2 :: b3 :: b4 :: b5 :: b6 :: b7 :: b8 :: b9 :: b10 :: true :: brest)) (a.put oi.dst v) w) : wpAnyP P md ops Q S c (fuel + 1) listed a w := by
  subst hops hl
  exact wpAnyP_any (i := 11) (oi := oi) rfl hs hf hr hne hcl hQ (.inl ⟨hw, fun w _ => hv w⟩) hS (by rw [set_l]; exact h)
theorem pt_12 {o0 o1 o2 o3 o4 o5 o6 o7 o8 o9 o10 o11 oi : Oper} (hops : ops = List.toArray (o0 :: o1 :: o2 :: o3 :: o4 :: o5 :: o6 :: o7 :: o8 :: o9 :: o10 :: o11 :: oi :: rest)) {b0 b1 b2 b3 b4 b5 b6 b7 b8 b9 b10 b11 b12 : Bool} {brest : List Bool} (hl : listed = List.toArray (b0 :: b1 :: b2 :: b3 :: b4 :: b5 :: b6 :: b7 :: b8 :: b9 :: b10 :: b11 :: b12 :: brest)) (n : Nat) (v : Value) (hs : Region.noSelect ops = true) (hf : Region.free md ops listed 12 = true) (hr : (Region.ready md ops listed).contains 12 = true) (hld : leads md ops c n 12 = true) (hcl : closedB md ops listed = true) (hQ : ∀ c a w, Q (.panic c) (a.put oi.dst v) w → Q (.panic c) a w) (hw : Region.wanted oi (yielded ops a.tmps) = true) (hv : ∀ w, S w → (execOp a.eval oi).run P w = .ok (.value v) w) (hS : S w) (h : wpAnyP P md ops Q S c fuel (List.toArray (b0 :: b1 :: b2 :: b3 :: b4 :: b5 :: b6 :: b7 :: b8 :: b9 :: b10 :: b11 :: true :: brest)) (a.put oi.dst v) w) : wpAnyP P md ops Q S c (fuel + 1) listed a w := by
  subst hops hl
  exact wpAnyP_take (i := 12) (oi := oi) rfl hs hf hr hld hcl hQ (.inl ⟨hw, hv⟩) hS (by rw [set_l]; exact h)
theorem pa_12 {o0 o1 o2 o3 o4 o5 o6 o7 o8 o9 o10 o11 oi : Oper} (hops : ops = List.toArray (o0 :: o1 :: o2 :: o3 :: o4 :: o5 :: o6 :: o7 :: o8 :: o9 :: o10 :: o11 :: oi :: rest)) {b0 b1 b2 b3 b4 b5 b6 b7 b8 b9 b10 b11 b12 : Bool} {brest : List Bool} (hl : listed = List.toArray (b0 :: b1 :: b2 :: b3 :: b4 :: b5 :: b6 :: b7 :: b8 :: b9 :: b10 :: b11 :: b12 :: brest)) (v : Value) (hs : Region.noSelect ops = true) (hf : Region.free md ops listed 12 = true) (hr : (Region.ready md ops listed).contains 12 = true) (hne : 12 ≠ c) (hcl : closedB md ops listed = true) (hQ : ∀ c a w, Q (.panic c) (a.put oi.dst v) w → Q (.panic c) a w) (hw : Region.wanted oi (yielded ops a.tmps) = true) (hv : ∀ w, (execOp a.eval oi).run P w = .ok (.value v) w) (hS : listed.getD c false = true ∨ S w) (h : wpAnyP P md ops Q S c fuel (List.toArray (b0 :: b1 :: b2 :: b3 :: b4 :: b5 :: b6 :: b7 :: b8 :: b9 :: b10 :: b11 :: true :: brest)) (a.put oi.dst v) w) : wpAnyP P md ops Q S c (fuel + 1) listed a w := by
  subst hops hl
  exact wpAnyP_any (i := 12) (oi := oi) rfl hs hf hr hne hcl hQ (.inl ⟨hw, fun w _ => hv w⟩) hS (by rw [set_l]; exact h)
theorem pc_12 {o0 o1 o2 o3 o4 o5 o6 o7 o8 o9 o10 o11 oi : Oper} (hops : ops = List.toArray (o0 :: o1 :: o2 :: o3 :: o4 :: o5 :: o6 :: o7 :: o8 :: o9 :: o10 :: o11 :: oi :: rest)) {b0 b1 b2 b3 b4 b5 b6 b7 b8 b9 b10 b11 b12 : Bool} {brest : List Bool} (hl : listed = List.toArray (b0 :: b1 :: b2 :: b3 :: b4 :: b5 :: b6 :: b7 :: b8 :: b9 :: b10 :: b11 :: b12 :: brest)) (hr : Region.ready md ops listed = [12]) (hwoi : Region.wanted oi (yielded ops a.tmps) = true) (h : ∀ K' : Act → World → Prop, Shut (∀ a w, ((List.toArray (b0 :: b1 :: b2 :: b3 :: b4 :: b5 :: b6 :: b7 :: b8 :: b9 :: b10 :: b11 :: true :: brest)).getD c false = true ∨ S w) → wpAnyP P md ops Q S c fuel (List.toArray (b0 :: b1 :: b2 :: b3 :: b4 :: b5 :: b6 :: b7 :: b8 :: b9 :: b10 :: b11 :: true :: brest)) a w → K' a w) → Oper.wp P oi a w K' Q) : wpAnyP P md ops Q S c (fuel + 1) listed a w := by
  subst hops hl
  exact wpAnyP_one (i := 12) (oi := oi) rfl hr hwoi (by rw [set_l]; exact h)
theorem pt_13 {o0 o1 o2 o3 o4 o5 o6 o7 o8 o9 o10 o11 o12 oi : Oper} (hops : ops = List.toArray (o0 :: o1 :: o2 :: o3 :: o4 :: o5 :: o6 :: o7 :: o8 :: o9 :: o10 :: o11 :: o12 :: oi :: rest)) {b0 b1 b2 b3 b4 b5 b6 b7 b8 b9 b10 b11 b12 b13 : Bool} {brest : List Bool} (hl : listed = List.toArray (b0 :: b1 :: b2 :: b3 :: b4 :: b5 :: b6 :: b7 :: b8 :: b9 :: b10 :: b11 :: b12 :: b13 :: brest)) (n : Nat) (v : Value) (hs : Region.noSelect ops = true) (hf : Region.free md ops listed 13 = true) (hr : (Region.ready md ops listed).contains 13 = true) (hld : leads md ops c n 13 = true) (hcl : closedB md ops listed = true) (hQ : ∀ c a w, Q (.panic c) (a.put oi.dst v) w → Q (.panic c) a w) (hw : Region.wanted oi (yielded ops a.tmps) = true) (hv : ∀ w, S w → (execOp a.eval oi).run P w = .ok (.value v) w) (hS : S w) (h : wpAnyP P md ops Q S c fuel (List.toArray (b0 :: b1 :: b2 :: b3 :: b4 :: b5 :: b6 :: b7 :: b8 :: b9 :: b10 :: b11 :: b12 :: true :: brest)) (a.put oi.dst v) w) : wpAnyP P md ops Q S c (fuel + 1) listed a w := by
  subst hops hl
  exact wpAnyP_take (i := 13) (oi := oi) rfl hs hf hr hld hcl hQ (.inl ⟨hw, hv⟩) hS (by rw [set_l]; exact h)
theorem pa_13 {o0 o1 o2 o3 o4 o5 o6 o7 o8 o9 o10 o11 o12 oi : Oper} (hops : ops = List.toArray (o0 :: o1 :: o2 :: o3 :: o4 :: o5 :: o6 :: o7 :: o8 :: o9 :: o10 :: o11 :: o12 :: oi :: rest)) {b0 b1 b2 b3 b4 b5 b6 b7 b8 b9 b10 b11 b12 b13 : Bool} {brest : List Bool} (hl : listed = List.toArray (b0 :: b1 :: b2 :: b3 :: b4 :: b5 :: b6 :: b7 :: b8 :: b9 :: b10 :: b11 :: b12 :: b13 :: brest)) (v : Value) (hs : Region.noSelect ops = true) (hf : Region.free md ops listed 13 = true) (hr : (Region.ready md ops listed).contains 13 = true) (hne : 13 ≠ c) (hcl : closedB md ops listed = true) (hQ : ∀ c a w, Q (.panic c) (a.put oi.dst v) w → Q (.panic c) a w) (hw : Region.wanted oi (yielded ops a.tmps) = true) (hv : ∀ w, (execOp a.eval oi).run P w = .ok (.value v) w) (hS : listed.getD c false = true ∨ S w) (h : wpAnyP P md ops Q S c fuel (List.toArray (b0 :: b1 :: b2 :: b3 :: b4 :: b5 :: b6 :: b7 :: b8 :: b9 :: b10 :: b11 :: b12 :: true :: brest)) (a.put oi.dst v) w) : wpAnyP P md ops Q S c (fuel + 1) listed a w := by
  subst hops hl
  exact wpAnyP_any (i := 13) (oi := oi) rfl hs hf hr hne hcl hQ (.inl ⟨hw, fun w _ => hv w⟩) hS (by rw [set_l]; exact h)
theorem pc_13 {o0 o1 o2 o3 o4 o5 o6 o7 o8 o9 o10 o11 o12 oi : Oper} (hops : ops = List.toArray (o0 :: o1 :: o2 :: o3 :: o4 :: o5 :: o6 :: o7 :: o8 :: o9 :: o10 :: o11 :: o12 :: oi :: rest)) {b0 b1 b2 b3 b4 b5 b6 b7 b8 b9 b10 b11 b12 b13 : Bool} {brest : List Bool} (hl : listed = List.toArray (b0 :: b1 :: b2 :: b3 :: b4 :: b5 :: b6 :: b7 :: b8 :: b9 :: b10 :: b11 :: b12 :: b13 :: brest)) (hr : Region.ready md ops listed = [13]) (hwoi : Region.wanted oi (yielded ops a.tmps) = true) (h : ∀ K' : Act → World → Prop, Shut (∀ a w, ((List.toArray (b0 :: b1 :: b2 :: b3 :: b4 :: b5 :: b6 :: b7 :: b8 :: b9 :: b10 :: b11 :: b12 :: true :: brest)).getD c false = true ∨ S w) → wpAnyP P md ops Q S c fuel (List.toArray (b0 :: b1 :: b2 :: b3 :: b4 :: b5 :: b6 :: b7 :: b8 :: b9 :: b10 :: b11 :: b12 :: true :: brest)) a w → K' a w) → Oper.wp P oi a w K' Q) : wpAnyP P md ops Q S c (fuel + 1) listed a w := by
  subst hops hl
  exact wpAnyP_one (i := 13) (oi := oi) rfl hr hwoi (by rw [set_l]; exact h)
theorem pt_14 {o0 o1 o2 o3 o4 o5 o6 o7 o8 o9 o10 o11 o12 o13 oi : Oper} (hops : ops = List.toArray (o0 :: o1 :: o2 :: o3 :: o4 :: o5 :: o6 :: o7 :: o8 :: o9 :: o10 :: o11 :: o12 :: o13 :: oi :: rest)) {b0 b1 b2 b3 b4 b5 b6 b7 b8 b9 b10 b11 b12 b13 b14 : Bool} {brest : List Bool} (hl : listed = List.toArray (b0 :: b1 :: b2 :: b3 :: b4 :: b5 :: b6 :: b7 :: b8 :: b9 :: b10 :: b11 :: b12 :: b13 :: b14 :: brest)) (n : Nat) (v : Value) (hs : Region.noSelect ops = true) (hf : Region.free md ops listed 14 = true) (hr : (Region.ready md ops listed).contains 14 = true) (hld : leads md ops c n 14 = true) (hcl : closedB md ops listed = true) (hQ : ∀ c a w, Q (.panic c) (a.put oi.dst v) w → Q (.panic c) a w) (hw : Region.wanted oi (yielded ops a.tmps) = true) (hv : ∀ w, S w → (execOp a.eval oi).run P w = .ok (.value v) w) (hS : S w) (h : wpAnyP P md ops Q S c fuel (List.toArray (b0 :: b1 :: b2 :: b3 :: b4 :: b5 :: b6 :: b7 :: b8 :: b9 :: b10 :: b11 :: b12 :: b13 :: true :: brest)) (a.put oi.dst v) w) : wpAnyP P md ops Q S c (fuel + 1) listed a w := by
  subst hops hl
  exact wpAnyP_take (i := 14) (oi := oi) rfl hs hf hr hld hcl hQ (.inl ⟨hw, hv⟩) hS (by rw [set_l]; exact h)
theorem pa_14 {o0 o1 o2 o3 o4 o5 o6 o7 o8 o9 o10 o11 o12 o13 oi : Oper} (hops : ops = List.toArray (o0 :: o1 :: o2 :: o3 :: o4 :: o5 :: o6 :: o7 :: o8 :: o9 :: o10 :: o11 :: o12 :: o13 :: oi :: rest)) {b0 b1 b2 b3 b4 b5 b6 b7 b8 b9 b10 b11 b12 b13 b14 : Bool} {brest : List Bool} (hl : listed = List.toArray (b0 :: b1 :: b2 :: b3 :: b4 :: b5 :: b6 :: b7 :: b8 :: b9 :: b10 :: b11 :: b12 :: b13 :: b14 :: brest)) (v : Value) (hs : Region.noSelect ops = true) (hf : Region.free md ops listed 14 = true) (hr : (Region.ready md ops listed).contains 14 = true) (hne : 14 ≠ c) (hcl : closedB md ops listed = true) (hQ : ∀ c a w, Q (.panic c) (a.put oi.dst v) w → Q (.panic c) a w) (hw : Region.wanted oi (yielded ops a.tmps) = true) (hv : ∀ w, (execOp a.eval oi).run P w = .ok (.value v) w) (hS : listed.getD c false = true ∨ S w) (h : wpAnyP P md ops Q S c fuel (List.toArray (b0 :: b1 :: b2 :: b3 :: b4 :: b5 :: b6 :: b7 :: b8 :: b9 :: b10 :: b11 :: b12 :: b13 :: true :: brest)) (a.put oi.dst v) w) : wpAnyP P md ops Q S c (fuel + 1) listed a w := by
  subst hops hl
  exact wpAnyP_any (i := 14) (oi := oi) rfl hs hf hr hne hcl hQ (.inl ⟨hw, fun w _ => hv w⟩) hS (by rw [set_l]; exact h)
theorem pc_14 {o0 o1 o2 o3 o4 o5 o6 o7 o8 o9 o10 o11 o12 o13 oi : Oper} (hops : ops = List.toArray (o0 :: o1 :: o2 :: o3 :: o4 :: o5 :: o6 :: o7 :: o8 :: o9 :: o10 :: o11 :: o12 :: o13 :: oi :: rest)) {b0 b1 b2 b3 b4 b5 b6 b7 b8 b9 b10 b11 b12 b13 b14 : Bool} {brest : List Bool} (hl : listed = List.toArray (b0 :: b1 :: b2 :: b3 :: b4 :: b5 :: b6 :: b7 :: b8 :: b9 :: b10 :: b11 :: b12 :: b13 :: b14 :: brest)) (hr : Region.ready md ops listed = [14]) (hwoi : Region.wanted oi (yielded ops a.tmps) = true) (h : ∀ K' : Act → World → Prop, Shut (∀ a w, ((List.toArray (b0 :: b1 :: b2 :: b3 :: b4 :: b5 :: b6 :: b7 :: b8 :: b9 :: b10 :: b11 :: b12 :: b13 :: true :: brest)).getD c false = true ∨ S w) → wpAnyP P md ops Q S c fuel (List.toArray (b0 :: b1 :: b2 :: b3 :: b4 :: b5 :: b6 :: b7 :: b8 :: b9 :: b10 :: b11 :: b12 :: b13 :: true :: brest)) a w → K' a w) → Oper.wp P oi a w K' Q) : wpAnyP P md ops Q S c (fuel + 1) listed a w := by
  subst hops hl
  exact wpAnyP_one (i := 14) (oi := oi) rfl hr hwoi (by rw [set_l]; exact h)
theorem pa_15 {o0 o1 o2 o3 o4 o5 o6 o7 o8 o9 o10 o11 o12 o13 o14 oi : Oper} (hops : ops = List.toArray (o0 :: o1 :: o2 :: o3 :: o4 :: o5 :: o6 :: o7 :: o8 :: o9 :: o10 :: o11 :: o12 :: o13 :: o14 :: oi :: rest)) {b0 b1 b2 b3 b4 b5 b6 b7 b8 b9 b10 b11 b12 b13 b14 b15 : Bool} {brest : List Bool} (hl : listed = List.toArray (b0 :: b1 :: b2 :: b3 :: b4 :: b5 :: b6 :: b7 :: b8 :: b9 :: b10 :: b11 :: b12 :: b13 :: b14 :: b15 :: brest)) (v : Value) (hs : Region.noSelect ops = true) (hf : Region.free md ops listed 15 = true) (hr : (Region.ready md ops listed).contains 15 = true) (hne : 15 ≠ c) (hcl : closedB md ops listed = true) (hQ : ∀ c a w, Q (.panic c) (a.put oi.dst v) w → Q (.panic c) a w) (hw : Region.wanted oi (yielded ops a.tmps) = true) (hv : ∀ w, (execOp a.eval oi).run P w = .ok (.value v) w) (hS : listed.getD c false = true ∨ S w) (h : wpAnyP P md ops Q S c fuel (List.toArray (b0 :: b1 :: b2 :: b3 :: b4 :: b5 :: b6 :: b7 :: b8 :: b9 :: b10 :: b11 :: b12 :: b13 :: b14 :: true :: brest)) (a.put oi.dst v) w) : wpAnyP P md ops Q S c (fuel + 1) listed a w := by
  subst hops hl
  exact wpAnyP_any (i := 15) (oi := oi) rfl hs hf hr hne hcl hQ (.inl ⟨hw, fun w _ => hv w⟩) hS (by rw [set_l]; exact h)
theorem pc_15 {o0 o1 o2 o3 o4 o5 o6 o7 o8 o9 o10 o11 o12 o13 o14 oi : Oper} (hops : ops = List.toArray (o0 :: o1 :: o2 :: o3 :: o4 :: o5 :: o6 :: o7 :: o8 :: o9 :: o10 :: o11 :: o12 :: o13 :: o14 :: oi :: rest)) {b0 b1 b2 b3 b4 b5 b6 b7 b8 b9 b10 b11 b12 b13 b14 b15 : Bool} {brest : List Bool} (hl : listed = List.toArray (b0 :: b1 :: b2 :: b3 :: b4 :: b5 :: b6 :: b7 :: b8 :: b9 :: b10 :: b11 :: b12 :: b13 :: b14 :: b15 :: brest)) (hr : Region.ready md ops listed = [15]) (hwoi : Region.wanted oi (yielded ops a.tmps) = true) (h : ∀ K' : Act → World → Prop, Shut (∀ a w, ((List.toArray (b0 :: b1 :: b2 :: b3 :: b4 :: b5 :: b6 :: b7 :: b8 :: b9 :: b10 :: b11 :: b12 :: b13 :: b14 :: true :: brest)).getD c false = true ∨ S w) → wpAnyP P md ops Q S c fuel (List.toArray (b0 :: b1 :: b2 :: b3 :: b4 :: b5 :: b6 :: b7 :: b8 :: b9 :: b10 :: b11 :: b12 :: b13 :: b14 :: true :: brest)) a w → K' a w) → Oper.wp P oi a w K' Q) : wpAnyP P md ops Q S c (fuel + 1) listed a w := by
  subst hops hl
  exact wpAnyP_one (i := 15) (oi := oi) rfl hr hwoi (by rw [set_l]; exact h)
theorem pt_16 {o0 o1 o2 o3 o4 o5 o6 o7 o8 o9 o10 o11 o12 o13 o14 o15 oi : Oper} (hops : ops = List.toArray (o0 :: o1 :: o2 :: o3 :: o4 :: o5 :: o6 :: o7 :: o8 :: o9 :: o10 :: o11 :: o12 :: o13 :: o14 :: o15 :: oi :: rest)) {b0 b1 b2 b3 b4 b5 b6 b7 b8 b9 b10 b11 b12 b13 b14 b15 b16 : Bool} {brest : List Bool} (hl : listed = List.toArray (b0 :: b1 :: b2 :: b3 :: b4 :: b5 :: b6 :: b7 :: b8 :: b9 :: b10 :: b11 :: b12 :: b13 :: b14 :: b15 :: b16 :: brest)) (n : Nat) (v : Value) (hs : Region.noSelect ops = true) (hf : Region.free md ops listed 16 = true) (hr : (Region.ready md ops listed).contains 16 = true) (hld : leads md ops c n 16 = true) (hcl : closedB md ops listed = true) (hQ : ∀ c a w, Q (.panic c) (a.put oi.dst v) w → Q (.panic c) a w) (hw : Region.wanted oi (yielded ops a.tmps) = true) (hv : ∀ w, S w → (execOp a.eval oi).run P w = .ok (.value v) w) (hS : S w) (h : wpAnyP P md ops Q S c fuel (List.toArray (b0 :: b1 :: b2 :: b3 :: b4 :: b5 :: b6 :: b7 :: b8 :: b9 :: b10 :: b11 :: b12 :: b13 :: b14 :: b15 :: true :: brest)) (a.put oi.dst v) w) : wpAnyP P md ops Q S c (fuel + 1) listed a w := by
  subst hops hl
  exact wpAnyP_take (i := 16) (oi := oi) rfl hs hf hr hld hcl hQ (.inl ⟨hw, hv⟩) hS (by rw [set_l]; exact h)
theorem pa_16 {o0 o1 o2 o3 o4 o5 o6 o7 o8 o9 o10 o11 o12 o13 o14 o15 oi : Oper} (hops : ops = List.toArray (o0 :: o1 :: o2 :: o3 :: o4 :: o5 :: o6 :: o7 :: o8 :: o9 :: o10 :: o11 :: o12 :: o13 :: o14 :: o15 :: oi :: rest)) {b0 b1 b2 b3 b4 b5 b6 b7 b8 b9 b10 b11 b12 b13 b14 b15 b16 : Bool} {brest : List Bool} (hl : listed = List.toArray (b0 :: b1 :: b2 :: b3 :: b4 :: b5 :: b6 :: b7 :: b8 :: b9 :: b10 :: b11 :: b12 :: b13 :: b14 :: b15 :: b16 :: brest)) (v : Value) (hs : Region.noSelect ops = true) (hf : Region.free md ops listed 16 = true) (hr : (Region.ready md ops listed).contains 16 = true) (hne : 16 ≠ c) (hcl : closedB md ops listed = true) (hQ : ∀ c a w, Q (.panic c) (a.put oi.dst v) w → Q (.panic c) a w) (hw : Region.wanted oi (yielded ops a.tmps) = true) (hv : ∀ w, (execOp a.eval oi).run P w = .ok (.value v) w) (hS : listed.getD c false = true ∨ S w) (h : wpAnyP P md ops Q S c fuel (List.toArray (b0 :: b1 :: b2 :: b3 :: b4 :: b5 :: b6 :: b7 :: b8 :: b9 :: b10 :: b11 :: b12 :: b13 :: b14 :: b15 :: true :: brest)) (a.put oi.dst v) w) : wpAnyP P md ops Q S c (fuel + 1) listed a w := by
  subst hops hl
  exact wpAnyP_any (i := 16) (oi := oi) rfl hs hf hr hne hcl hQ (.inl ⟨hw, fun w _ => hv w⟩) hS (by rw [set_l]; exact h)
theorem pt_17 {o0 o1 o2 o3 o4 o5 o6 o7 o8 o9 o10 o11 o12 o13 o14 o15 o16 oi : Oper} (hops : ops = List.toArray (o0 :: o1 :: o2 :: o3 :: o4 :: o5 :: o6 :: o7 :: o8 :: o9 :: o10 :: o11 :: o12 :: o13 :: o14 :: o15 :: o16 :: oi :: rest)) {b0 b1 b2 b3 b4 b5 b6 b7 b8 b9 b10 b11 b12 b13 b14 b15 b16 b17 : Bool} {brest : List Bool} (hl : listed = List.toArray (b0 :: b1 :: b2 :: b3 :: b4 :: b5 :: b6 :: b7 :: b8 :: b9 :: b10 :: b11 :: b12 :: b13 :: b14 :: b15 :: b16 :: b17 :: brest)) (n : Nat) (v : Value) (hs : Region.noSelect ops = true) (hf : Region.free md ops listed 17 = true) (hr : (Region.ready md ops listed).contains 17 = true) (hld : leads md ops c n 17 = true) (hcl : closedB md ops listed = true) (hQ : ∀ c a w, Q (.panic c) (a.put oi.dst v) w → Q (.panic c) a w) (hw : Region.wanted oi (yielded ops a.tmps) = true) (hv : ∀ w, S w → (execOp a.eval oi).run P w = .ok (.value v) w) (hS : S w) (h : wpAnyP P md ops Q S c fuel (List.toArray (b0 :: b1 :: b2 :: b3 :: b4 :: b5 :: b6 :: b7 :: b8 :: b9 :: b10 :: b11 :: b12 :: b13 :: b14 :: b15 :: b16 :: true :: brest)) (a.put oi.dst v) w) : wpAnyP P md ops Q S c (fuel + 1) listed a w := by
  subst hops hl
  exact wpAnyP_take (i := 17) (oi := oi) rfl hs hf hr hld hcl hQ (.inl ⟨hw, hv⟩) hS (by rw [set_l]; exact h)
theorem pa_17 {o0 o1 o2 o3 o4 o5 o6 o7 o8 o9 o10 o11 o12 o13 o14 o15 o16 oi : Oper} (hops : ops = List.toArray (o0 :: o1 :: o2 :: o3 :: o4 :: o5 :: o6 :: o7 :: o8 :: o9 :: o10 :: o11 :: o12 :: o13 :: o14 :: o15 :: o16 :: oi :: rest)) {b0 b1 b2 b3 b4 b5 b6 b7 b8 b9 b10 b11 b12 b13 b14 b15 b16 b17 : Bool} {brest : List Bool} (hl : listed = List.toArray (b0 :: b1 :: b2 :: b3 :: b4 :: b5 :: b6 :: b7 :: b8 :: b9 :: b10 :: b11 :: b12 :: b13 :: b14 :: b15 :: b16 :: b17 :: brest)) (v : Value) (hs : Region.noSelect ops = true) (hf : Region.free md ops listed 17 = true) (hr : (Region.ready md ops listed).contains 17 = true) (hne : 17 ≠ c) (hcl : closedB md ops listed = true) (hQ : ∀ c a w, Q (.panic c) (a.put oi.dst v) w → Q (.panic c) a w) (hw : Region.wanted oi (yielded ops a.tmps) = true) (hv : ∀ w, (execOp a.eval oi).run P w = .ok (.value v) w) (hS : listed.getD c false = true ∨ S w) (h : wpAnyP P md ops Q S c fuel (List.toArray (b0 :: b1 :: b2 :: b3 :: b4 :: b5 :: b6 :: b7 :: b8 :: b9 :: b10 :: b11 :: b12 :: b13 :: b14 :: b15 :: b16 :: true :: brest)) (a.put oi.dst v) w) : wpAnyP P md ops Q S c (fuel + 1) listed a w := by
  subst hops hl
  exact wpAnyP_any (i := 17) (oi := oi) rfl hs hf hr hne hcl hQ (.inl ⟨hw, fun w _ => hv w⟩) hS (by rw [set_l]; exact h)
theorem pc_17 {o0 o1 o2 o3 o4 o5 o6 o7 o8 o9 o10 o11 o12 o13 o14 o15 o16 oi : Oper} (hops : ops = List.toArray (o0 :: o1 :: o2 :: o3 :: o4 :: o5 :: o6 :: o7 :: o8 :: o9 :: o10 :: o11 :: o12 :: o13 :: o14 :: o15 :: o16 :: oi :: rest)) {b0 b1 b2 b3 b4 b5 b6 b7 b8 b9 b10 b11 b12 b13 b14 b15 b16 b17 : Bool} {brest : List Bool} (hl : listed = List.toArray (b0 :: b1 :: b2 :: b3 :: b4 :: b5 :: b6 :: b7 :: b8 :: b9 :: b10 :: b11 :: b12 :: b13 :: b14 :: b15 :: b16 :: b17 :: brest)) (hr : Region.ready md ops listed = [17]) (hwoi : Region.wanted oi (yielded ops a.tmps) = true) (h : ∀ K' : Act → World → Prop, Shut (∀ a w, ((List.toArray (b0 :: b1 :: b2 :: b3 :: b4 :: b5 :: b6 :: b7 :: b8 :: b9 :: b10 :: b11 :: b12 :: b13 :: b14 :: b15 :: b16 :: true :: brest)).getD c false = true ∨ S w) → wpAnyP P md ops Q S c fuel (List.toArray (b0 :: b1 :: b2 :: b3 :: b4 :: b5 :: b6 :: b7 :: b8 :: b9 :: b10 :: b11 :: b12 :: b13 :: b14 :: b15 :: b16 :: true :: brest)) a w → K' a w) → Oper.wp P oi a w K' Q) : wpAnyP P md ops Q S c (fuel + 1) listed a w := by
  subst hops hl
  exact wpAnyP_one (i := 17) (oi := oi) rfl hr hwoi (by rw [set_l]; exact h)
theorem pt_18 {o0 o1 o2 o3 o4 o5 o6 o7 o8 o9 o10 o11 o12 o13 o14 o15 o16 o17 oi : Oper} (hops : ops = List.toArray (o0 :: o1 :: o2 :: o3 :: o4 :: o5 :: o6 :: o7 :: o8 :: o9 :: o10 :: o11 :: o12 :: o13 :: o14 :: o15 :: o16 :: o17 :: oi :: rest)) {b0 b1 b2 b3 b4 b5 b6 b7 b8 b9 b10 b11 b12 b13 b14 b15 b16 b17 b18 : Bool} {brest : List Bool} (hl : listed = List.toArray (b0 :: b1 :: b2 :: b3 :: b4 :: b5 :: b6 :: b7 :: b8 :: b9 :: b10 :: b11 :: b12 :: b13 :: b14 :: b15 :: b16 :: b17 :: b18 :: brest)) (n : Nat) (v : Value) (hs : Region.noSelect ops = true) (hf : Region.free md ops listed 18 = true) (hr : (Region.ready md ops listed).contains 18 = true) (hld : leads md ops c n 18 = true) (hcl : closedB md ops listed = true) (hQ : ∀ c a w, Q (.panic c) (a.put oi.dst v) w → Q (.panic c) a w) (hw : Region.wanted oi (yielded ops a.tmps) = true) (hv : ∀ w, S w → (execOp a.eval oi).run P w = .ok (.value v) w) (hS : S w) (h : wpAnyP P md ops Q S c fuel (List.toArray (b0 :: b1 :: b2 :: b3 :: b4 :: b5 :: b6 :: b7 :: b8 :: b9 :: b10 :: b11 :: b12 :: b13 :: b14 :: b15 :: b16 :: b17 :: true :: brest)) (a.put oi.dst v) w) : wpAnyP P md ops Q S c (fuel + 1) listed a w := by
  subst hops hl
  exact wpAnyP_take (i := 18) (oi := oi) rfl hs hf hr hld hcl hQ (.inl ⟨hw, hv⟩) hS (by rw [set_l]; exact h)
theorem pa_18 {o0 o1 o2 o3 o4 o5 o6 o7 o8 o9 o10 o11 o12 o13 o14 o15 o16 o17 oi : Oper} (hops : ops = List.toArray (o0 :: o1 :: o2 :: o3 :: o4 :: o5 :: o6 :: o7 :: o8 :: o9 :: o10 :: o11 :: o12 :: o13 :: o14 :: o15 :: o16 :: o17 :: oi :: rest)) {b0 b1 b2 b3 b4 b5 b6 b7 b8 b9 b10 b11 b12 b13 b14 b15 b16 b17 b18 : Bool} {brest : List Bool} (hl : listed = List.toArray (b0 :: b1 :: b2 :: b3 :: b4 :: b5 :: b6 :: b7 :: b8 :: b9 :: b10 :: b11 :: b12 :: b13 :: b14 :: b15 :: b16 :: b17 :: b18 :: brest)) (v : Value) (hs : Region.noSelect ops = true) (hf : Region.free md ops listed 18 = true) (hr : (Region.ready md ops listed).contains 18 = true) (hne : 18 ≠ c) (hcl : closedB md ops listed = true) (hQ : ∀ c a w, Q (.panic c) (a.put oi.dst v) w → Q (.panic c) a w) (hw : Region.wanted oi (yielded ops a.tmps) = true) (hv : ∀ w, (execOp a.eval oi).run P w = .ok (.value v) w) (hS : listed.getD c false = true ∨ S w) (h : wpAnyP P md ops Q S c fuel (List.toArray (b0 :: b1 :: b2 :: b3 :: b4 :: b5 :: b6 :: b7 :: b8 :: b9 :: b10 :: b11 :: b12 :: b13 :: b14 :: b15 :: b16 :: b17 :: true :: brest)) (a.put oi.dst v) w) : wpAnyP P md ops Q S c (fuel + 1) listed a w := by
  subst hops hl
  exact wpAnyP_any (i := 18) (oi := oi) rfl hs hf hr hne hcl hQ (.inl ⟨hw, fun w _ => hv w⟩) hS (by rw [set_l]; exact h)
theorem pa_19 {o0 o1 o2 o3 o4 o5 o6 o7 o8 o9 o10 o11 o12 o13 o14 o15 o16 o17 o18 oi : Oper} (hops : ops = List.toArray (o0 :: o1 :: o2 :: o3 :: o4 :: o5 :: o6 :: o7 :: o8 :: o9 :: o10 :: o11 :: o12 :: o13 :: o14 :: o15 :: o16 :: o17 :: o18 :: oi :: rest)) {b0 b1 b2 b3 b4 b5 b6 b7 b8 b9 b10 b11 b12 b13 b14 b15 b16 b17 b18 b19 : Bool} {brest : List Bool} (hl : listed = List.toArray (b0 :: b1 :: b2 :: b3 :: b4 :: b5 :: b6 :: b7 :: b8 :: b9 :: b10 :: b11 :: b12 :: b13 :: b14 :: b15 :: b16 :: b17 :: b18 :: b19 :: brest)) (v : Value) (hs : Region.noSelect ops = true) (hf : Region.free md ops listed 19 = true) (hr : (Region.ready md ops listed).contains 19 = true) (hne : 19 ≠ c) (hcl : closedB md ops listed = true) (hQ : ∀ c a w, Q (.panic c) (a.put oi.dst v) w → Q (.panic c) a w) (hw : Region.wanted oi (yielded ops a.tmps) = true) (hv : ∀ w, (execOp a.eval oi).run P w = .ok (.value v) w) (hS : listed.getD c false = true ∨ S w) (h : wpAnyP P md ops Q S c fuel (List.toArray (b0 :: b1 :: b2 :: b3 :: b4 :: b5 :: b6 :: b7 :: b8 :: b9 :: b10 :: b11 :: b12 :: b13 :: b14 :: b15 :: b16 :: b17 :: b18 :: true :: brest)) (a.put oi.dst v) w) : wpAnyP P md ops Q S c (fuel + 1) listed a w := by
  subst hops hl
  exact wpAnyP_any (i := 19) (oi := oi) rfl hs hf hr hne hcl hQ (.inl ⟨hw, fun w _ => hv w⟩) hS (by rw [set_l]; exact h)
theorem pa_20 {o0 o1 o2 o3 o4 o5 o6 o7 o8 o9 o10 o11 o12 o13 o14 o15 o16 o17 o18 o19 oi : Oper} (hops : ops = List.toArray (o0 :: o1 :: o2 :: o3 :: o4 :: o5 :: o6 :: o7 :: o8 :: o9 :: o10 :: o11 :: o12 :: o13 :: o14 :: o15 :: o16 :: o17 :: o18 :: o19 :: oi :: rest)) {b0 b1 b2 b3 b4 b5 b6 b7 b8 b9 b10 b11 b12 b13 b14 b15 b16 b17 b18 b19 b20 : Bool} {brest : List Bool} (hl : listed = List.toArray (b0 :: b1 :: b2 :: b3 :: b4 :: b5 :: b6 :: b7 :: b8 :: b9 :: b10 :: b11 :: b12 :: b13 :: b14 :: b15 :: b16 :: b17 :: b18 :: b19 :: b20 :: brest)) (v : Value) (hs : Region.noSelect ops = true) (hf : Region.free md ops listed 20 = true) (hr : (Region.ready md ops listed).contains 20 = true) (hne : 20 ≠ c) (hcl : closedB md ops listed = true) (hQ : ∀ c a w, Q (.panic c) (a.put oi.dst v) w → Q (.panic c) a w) (hw : Region.wanted oi (yielded ops a.tmps) = true) (hv : ∀ w, (execOp a.eval oi).run P w = .ok (.value v) w) (hS : listed.getD c false = true ∨ S w) (h : wpAnyP P md ops Q S c fuel (List.toArray (b0 :: b1 :: b2 :: b3 :: b4 :: b5 :: b6 :: b7 :: b8 :: b9 :: b10 :: b11 :: b12 :: b13 :: b14 :: b15 :: b16 :: b17 :: b18 :: b19 :: true :: brest)) (a.put oi.dst v) w) : wpAnyP P md ops Q S c (fuel + 1) listed a w := by
  subst hops hl
  exact wpAnyP_any (i := 20) (oi := oi) rfl hs hf hr hne hcl hQ (.inl ⟨hw, fun w _ => hv w⟩) hS (by rw [set_l]; exact h)
theorem pt_21 {o0 o1 o2 o3 o4 o5 o6 o7 o8 o9 o10 o11 o12 o13 o14 o15 o16 o17 o18 o19 o20 oi : Oper} (hops : ops = List.toArray (o0 :: o1 :: o2 :: o3 :: o4 :: o5 :: o6 :: o7 :: o8 :: o9 :: o10 :: o11 :: o12 :: o13 :: o14 :: o15 :: o16 :: o17 :: o18 :: o19 :: o20 :: oi :: rest)) {b0 b1 b2 b3 b4 b5 b6 b7 b8 b9 b10 b11 b12 b13 b14 b15 b16 b17 b18 b19 b20 b21 : Bool} {brest : List Bool} (hl : listed = List.toArray (b0 :: b1 :: b2 :: b3 :: b4 :: b5 :: b6 :: b7 :: b8 :: b9 :: b10 :: b11 :: b12 :: b13 :: b14 :: b15 :: b16 :: b17 :: b18 :: b19 :: b20 :: b21 :: brest)) (n : Nat) (v : Value) (hs : Region.noSelect ops = true) (hf : Region.free md ops listed 21 = true) (hr : (Region.ready md ops listed).contains 21 = true) (hld : leads md ops c n 21 = true) (hcl : closedB md ops listed = true) (hQ : ∀ c a w, Q (.panic c) (a.put oi.dst v) w → Q (.panic c) a w) (hw : Region.wanted oi (yielded ops a.tmps) = true) (hv : ∀ w, S w → (execOp a.eval oi).run P w = .ok (.value v) w) (hS : S w) (h : wpAnyP P md ops Q S c fuel (List.toArray (b0 :: b1 :: b2 :: b3 :: b4 :: b5 :: b6 :: b7 :: b8 :: b9 :: b10 :: b11 :: b12 :: b13 :: b14 :: b15 :: b16 :: b17 :: b18 :: b19 :: b20 :: true :: brest)) (a.put oi.dst v) w) : wpAnyP P md ops Q S c (fuel + 1) listed a w := by
  subst hops hl
  exact wpAnyP_take (i := 21) (oi := oi) rfl hs hf hr hld hcl hQ (.inl ⟨hw, hv⟩) hS (by rw [set_l]; exact h)
theorem pc_21 {o0 o1 o2 o3 o4 o5 o6 o7 o8 o9 o10 o11 o12 o13 o14 o15 o16 o17 o18 o19 o20 oi : Oper} (hops : ops = List.toArray (o0 :: o1 :: o2 :: o3 :: o4 :: o5 :: o6 :: o7 :: o8 :: o9 :: o10 :: o11 :: o12 :: o13 :: o14 :: o15 :: o16 :: o17 :: o18 :: o19 :: o20 :: oi :: rest)) {b0 b1 b2 b3 b4 b5 b6 b7 b8 b9 b10 b11 b12 b13 b14 b15 b16 b17 b18 b19 b20 b21 : Bool} {brest : List Bool} (hl : listed = List.toArray (b0 :: b1 :: b2 :: b3 :: b4 :: b5 :: b6 :: b7 :: b8 :: b9 :: b10 :: b11 :: b12 :: b13 :: b14 :: b15 :: b16 :: b17 :: b18 :: b19 :: b20 :: b21 :: brest)) (hr : Region.ready md ops listed = [21]) (hwoi : Region.wanted oi (yielded ops a.tmps) = true) (h : ∀ K' : Act → World → Prop, Shut (∀ a w, ((List.toArray (b0 :: b1 :: b2 :: b3 :: b4 :: b5 :: b6 :: b7 :: b8 :: b9 :: b10 :: b11 :: b12 :: b13 :: b14 :: b15 :: b16 :: b17 :: b18 :: b19 :: b20 :: true :: brest)).getD c false = true ∨ S w) → wpAnyP P md ops Q S c fuel (List.toArray (b0 :: b1 :: b2 :: b3 :: b4 :: b5 :: b6 :: b7 :: b8 :: b9 :: b10 :: b11 :: b12 :: b13 :: b14 :: b15 :: b16 :: b17 :: b18 :: b19 :: b20 :: true :: brest)) a w → K' a w) → Oper.wp P oi a w K' Q) : wpAnyP P md ops Q S c (fuel + 1) listed a w := by
  subst hops hl
  exact wpAnyP_one (i := 21) (oi := oi) rfl hr hwoi (by rw [set_l]; exact h)
theorem pt_22 {o0 o1 o2 o3 o4 o5 o6 o7 o8 o9 o10 o11 o12 o13 o14 o15 o16 o17 o18 o19 o20 o21 oi : Oper} (hops : ops = List.toArray (o0 :: o1 :: o2 :: o3 :: o4 :: o5 :: o6 :: o7 :: o8 :: o9 :: o10 :: o11 :: o12 :: o13 :: o14 :: o15 :: o16 :: o17 :: o18 :: o19 :: o20 :: o21 :: oi :: rest)) {b0 b1 b2 b3 b4 b5 b6 b7 b8 b9 b10 b11 b12 b13 b14 b15 b16 b17 b18 b19 b20 b21 b22 : Bool} {brest : List Bool} (hl : listed = List.toArray (b0 :: b1 :: b2 :: b3 :: b4 :: b5 :: b6 :: b7 :: b8 :: b9 :: b10 :: b11 :: b12 :: b13 :: b14 :: b15 :: b16 :: b17 :: b18 :: b19 :: b20 :: b21 :: b22 :: brest)) (n : Nat) (v : Value) (hs : Region.noSelect ops = true) (hf : Region.free md ops listed 22 = true) (hr : (Region.ready md ops listed).contains 22 = true) (hld : leads md ops c n 22 = true) (hcl : closedB md ops listed = true) (hQ : ∀ c a w, Q (.panic c) (a.put oi.dst v) w → Q (.panic c) a w) (hw : Region.wanted oi (yielded ops a.tmps) = true) (hv : ∀ w, S w → (execOp a.eval oi).run P w = .ok (.value v) w) (hS : S w) (h : wpAnyP P md ops Q S c fuel (List.toArray (b0 :: b1 :: b2 :: b3 :: b4 :: b5 :: b6 :: b7 :: b8 :: b9 :: b10 :: b11 :: b12 :: b13 :: b14 :: b15 :: b16 :: b17 :: b18 :: b19 :: b20 :: b21 :: true :: brest)) (a.put oi.dst v) w) : wpAnyP P md ops Q S c (fuel + 1) listed a w := by
  subst hops hl
  exact wpAnyP_take (i := 22) (oi := oi) rfl hs hf hr hld hcl hQ (.inl ⟨hw, hv⟩) hS (by rw [set_l]; exact h)
theorem pc_22 {o0 o1 o2 o3 o4 o5 o6 o7 o8 o9 o10 o11 o12 o13 o14 o15 o16 o17 o18 o19 o20 o21 oi : Oper} (hops : ops = List.toArray (o0 :: o1 :: o2 :: o3 :: o4 :: o5 :: o6 :: o7 :: o8 :: o9 :: o10 :: o11 :: o12 :: o13 :: o14 :: o15 :: o16 :: o17 :: o18 :: o19 :: o20 :: o21 :: oi :: rest)) {b0 b1 b2 b3 b4 b5 b6 b7 b8 b9 b10 b11 b12 b13 b14 b15 b16 b17 b18 b19 b20 b21 b22 : Bool} {brest : List Bool} (hl : listed = List.toArray (b0 :: b1 :: b2 :: b3 :: b4 :: b5 :: b6 :: b7 :: b8 :: b9 :: b10 :: b11 :: b12 :: b13 :: b14 :: b15 :: b16 :: b17 :: b18 :: b19 :: b20 :: b21 :: b22 :: brest)) (hr : Region.ready md ops listed = [22]) (hwoi : Region.wanted oi (yielded ops a.tmps) = true) (h : ∀ K' : Act → World → Prop, Shut (∀ a w, ((List.toArray (b0 :: b1 :: b2 :: b3 :: b4 :: b5 :: b6 :: b7 :: b8 :: b9 :: b10 :: b11 :: b12 :: b13 :: b14 :: b15 :: b16 :: b17 :: b18 :: b19 :: b20 :: b21 :: true :: brest)).getD c false = true ∨ S w) → wpAnyP P md ops Q S c fuel (List.toArray (b0 :: b1 :: b2 :: b3 :: b4 :: b5 :: b6 :: b7 :: b8 :: b9 :: b10 :: b11 :: b12 :: b13 :: b14 :: b15 :: b16 :: b17 :: b18 :: b19 :: b20 :: b21 :: true :: brest)) a w → K' a w) → Oper.wp P oi a w K' Q) : wpAnyP P md ops Q S c (fuel + 1) listed a w := by
  subst hops hl
  exact wpAnyP_one (i := 22) (oi := oi) rfl hr hwoi (by rw [set_l]; exact h)
theorem pt_23 {o0 o1 o2 o3 o4 o5 o6 o7 o8 o9 o10 o11 o12 o13 o14 o15 o16 o17 o18 o19 o20 o21 o22 oi : Oper} (hops : ops = List.toArray (o0 :: o1 :: o2 :: o3 :: o4 :: o5 :: o6 :: o7 :: o8 :: o9 :: o10 :: o11 :: o12 :: o13 :: o14 :: o15 :: o16 :: o17 :: o18 :: o19 :: o20 :: o21 :: o22 :: oi :: rest)) {b0 b1 b2 b3 b4 b5 b6 b7 b8 b9 b10 b11 b12 b13 b14 b15 b16 b17 b18 b19 b20 b21 b22 b23 : Bool} {brest : List Bool} (hl : listed = List.toArray (b0 :: b1 :: b2 :: b3 :: b4 :: b5 :: b6 :: b7 :: b8 :: b9 :: b10 :: b11 :: b12 :: b13 :: b14 :: b15 :: b16 :: b17 :: b18 :: b19 :: b20 :: b21 :: b22 :: b23 :: brest)) (n : Nat) (v : Value) (hs : Region.noSelect ops = true) (hf : Region.free md ops listed 23 = true) (hr : (Region.ready md ops listed).contains 23 = true) (hld : leads md ops c n 23 = true) (hcl : closedB md ops listed = true) (hQ : ∀ c a w, Q (.panic c) (a.put oi.dst v) w → Q (.panic c) a w) (hw : Region.wanted oi (yielded ops a.tmps) = true) (hv : ∀ w, S w → (execOp a.eval oi).run P w = .ok (.value v) w) (hS : S w) (h : wpAnyP P md ops Q S c fuel (List.toArray (b0 :: b1 :: b2 :: b3 :: b4 :: b5 :: b6 :: b7 :: b8 :: b9 :: b10 :: b11 :: b12 :: b13 :: b14 :: b15 :: b16 :: b17 :: b18 :: b19 :: b20 :: b21 :: b22 :: true :: brest)) (a.put oi.dst v) w) : wpAnyP P md ops Q S c (fuel + 1) listed a w := by
  subst hops hl
  exact wpAnyP_take (i := 23) (oi := oi) rfl hs hf hr hld hcl hQ (.inl ⟨hw, hv⟩) hS (by rw [set_l]; exact h)
theorem pa_23 {o0 o1 o2 o3 o4 o5 o6 o7 o8 o9 o10 o11 o12 o13 o14 o15 o16 o17 o18 o19 o20 o21 o22 oi : Oper} (hops : ops = List.toArray (o0 :: o1 :: o2 :: o3 :: o4 :: o5 :: o6 :: o7 :: o8 :: o9 :: o10 :: o11 :: o12 :: o13 :: o14 :: o15 :: o16 :: o17 :: o18 :: o19 :: o20 :: o21 :: o22 :: oi :: rest)) {b0 b1 b2 b3 b4 b5 b6 b7 b8 b9 b10 b11 b12 b13 b14 b15 b16 b17 b18 b19 b20 b21 b22 b23 : Bool} {brest : List Bool} (hl : listed = List.toArray (b0 :: b1 :: b2 :: b3 :: b4 :: b5 :: b6 :: b7 :: b8 :: b9 :: b10 :: b11 :: b12 :: b13 :: b14 :: b15 :: b16 :: b17 :: b18 :: b19 :: b20 :: b21 :: b22 :: b23 :: brest)) (v : Value) (hs : Region.noSelect ops = true) (hf : Region.free md ops listed 23 = true) (hr : (Region.ready md ops listed).contains 23 = true) (hne : 23 ≠ c) (hcl : closedB md ops listed = true) (hQ : ∀ c a w, Q (.panic c) (a.put oi.dst v) w → Q (.panic c) a w) (hw : Region.wanted oi (yielded ops a.tmps) = true) (hv : ∀ w, (execOp a.eval oi).run P w = .ok (.value v) w) (hS : listed.getD c false = true ∨ S w) (h : wpAnyP P md ops Q S c fuel (List.toArray (b0 :: b1 :: b2 :: b3 :: b4 :: b5 :: b6 :: b7 :: b8 :: b9 :: b10 :: b11 :: b12 :: b13 :: b14 :: b15 :: b16 :: b17 :: b18 :: b19 :: b20 :: b21 :: b22 :: true :: brest)) (a.put oi.dst v) w) : wpAnyP P md ops Q S c (fuel + 1) listed a w := by
  subst hops hl
  exact wpAnyP_any (i := 23) (oi := oi) rfl hs hf hr hne hcl hQ (.inl ⟨hw, fun w _ => hv w⟩) hS (by rw [set_l]; exact h)
theorem pc_24 {o0 o1 o2 o3 o4 o5 o6 o7 o8 o9 o10 o11 o12 o13 o14 o15 o16 o17 o18 o19 o20 o21 o22 o23 oi : Oper} (hops : ops = List.toArray (o0 :: o1 :: o2 :: o3 :: o4 :: o5 :: o6 :: o7 :: o8 :: o9 :: o10 :: o11 :: o12 :: o13 :: o14 :: o15 :: o16 :: o17 :: o18 :: o19 :: o20 :: o21 :: o22 :: o23 :: oi :: rest)) {b0 b1 b2 b3 b4 b5 b6 b7 b8 b9 b10 b11 b12 b13 b14 b15 b16 b17 b18 b19 b20 b21 b22 b23 b24 : Bool} {brest : List Bool} (hl : listed = List.toArray (b0 :: b1 :: b2 :: b3 :: b4 :: b5 :: b6 :: b7 :: b8 :: b9 :: b10 :: b11 :: b12 :: b13 :: b14 :: b15 :: b16 :: b17 :: b18 :: b19 :: b20 :: b21 :: b22 :: b23 :: b24 :: brest)) (hr : Region.ready md ops listed = [24]) (hwoi : Region.wanted oi (yielded ops a.tmps) = true) (h : ∀ K' : Act → World → Prop, Shut (∀ a w, ((List.toArray (b0 :: b1 :: b2 :: b3 :: b4 :: b5 :: b6 :: b7 :: b8 :: b9 :: b10 :: b11 :: b12 :: b13 :: b14 :: b15 :: b16 :: b17 :: b18 :: b19 :: b20 :: b21 :: b22 :: b23 :: true :: brest)).getD c false = true ∨ S w) → wpAnyP P md ops Q S c fuel (List.toArray (b0 :: b1 :: b2 :: b3 :: b4 :: b5 :: b6 :: b7 :: b8 :: b9 :: b10 :: b11 :: b12 :: b13 :: b14 :: b15 :: b16 :: b17 :: b18 :: b19 :: b20 :: b21 :: b22 :: b23 :: true :: brest)) a w → K' a w) → Oper.wp P oi a w K' Q) : wpAnyP P md ops Q S c (fuel + 1) listed a w := by
  subst hops hl
  exact wpAnyP_one (i := 24) (oi := oi) rfl hr hwoi (by rw [set_l]; exact h)
theorem pa_25 {o0 o1 o2 o3 o4 o5 o6 o7 o8 o9 o10 o11 o12 o13 o14 o15 o16 o17 o18 o19 o20 o21 o22 o23 o24 oi : Oper} (hops : ops = List.toArray (o0 :: o1 :: o2 :: o3 :: o4 :: o5 :: o6 :: o7 :: o8 :: o9 :: o10 :: o11 :: o12 :: o13 :: o14 :: o15 :: o16 :: o17 :: o18 :: o19 :: o20 :: o21 :: o22 :: o23 :: o24 :: oi :: rest)) {b0 b1 b2 b3 b4 b5 b6 b7 b8 b9 b10 b11 b12 b13 b14 b15 b16 b17 b18 b19 b20 b21 b22 b23 b24 b25 : Bool} {brest : List Bool} (hl : listed = List.toArray (b0 :: b1 :: b2 :: b3 :: b4 :: b5 :: b6 :: b7 :: b8 :: b9 :: b10 :: b11 :: b12 :: b13 :: b14 :: b15 :: b16 :: b17 :: b18 :: b19 :: b20 :: b21 :: b22 :: b23 :: b24 :: b25 :: brest)) (v : Value) (hs : Region.noSelect ops = true) (hf : Region.free md ops listed 25 = true) (hr : (Region.ready md ops listed).contains 25 = true) (hne : 25 ≠ c) (hcl : closedB md ops listed = true) (hQ : ∀ c a w, Q (.panic c) (a.put oi.dst v) w → Q (.panic c) a w) (hw : Region.wanted oi (yielded ops a.tmps) = true) (hv : ∀ w, (execOp a.eval oi).run P w = .ok (.value v) w) (hS : listed.getD c false = true ∨ S w) (h : wpAnyP P md ops Q S c fuel (List.toArray (b0 :: b1 :: b2 :: b3 :: b4 :: b5 :: b6 :: b7 :: b8 :: b9 :: b10 :: b11 :: b12 :: b13 :: b14 :: b15 :: b16 :: b17 :: b18 :: b19 :: b20 :: b21 :: b22 :: b23 :: b24 :: true :: brest)) (a.put oi.dst v) w) : wpAnyP P md ops Q S c (fuel + 1) listed a w := by
  subst hops hl
  exact wpAnyP_any (i := 25) (oi := oi) rfl hs hf hr hne hcl hQ (.inl ⟨hw, fun w _ => hv w⟩) hS (by rw [set_l]; exact h)
theorem pa_26 {o0 o1 o2 o3 o4 o5 o6 o7 o8 o9 o10 o11 o12 o13 o14 o15 o16 o17 o18 o19 o20 o21 o22 o23 o24 o25 oi : Oper} (hops : ops = List.toArray (o0 :: o1 :: o2 :: o3 :: o4 :: o5 :: o6 :: o7 :: o8 :: o9 :: o10 :: o11 :: o12 :: o13 :: o14 :: o15 :: o16 :: o17 :: o18 :: o19 :: o20 :: o21 :: o22 :: o23 :: o24 :: o25 :: oi :: rest)) {b0 b1 b2 b3 b4 b5 b6 b7 b8 b9 b10 b11 b12 b13 b14 b15 b16 b17 b18 b19 b20 b21 b22 b23 b24 b25 b26 : Bool} {brest : List Bool} (hl : listed = List.toArray (b0 :: b1 :: b2 :: b3 :: b4 :: b5 :: b6 :: b7 :: b8 :: b9 :: b10 :: b11 :: b12 :: b13 :: b14 :: b15 :: b16 :: b17 :: b18 :: b19 :: b20 :: b21 :: b22 :: b23 :: b24 :: b25 :: b26 :: brest)) (v : Value) (hs : Region.noSelect ops = true) (hf : Region.free md ops listed 26 = true) (hr : (Region.ready md ops listed).contains 26 = true) (hne : 26 ≠ c) (hcl : closedB md ops listed = true) (hQ : ∀ c a w, Q (.panic c) (a.put oi.dst v) w → Q (.panic c) a w) (hw : Region.wanted oi (yielded ops a.tmps) = true) (hv : ∀ w, (execOp a.eval oi).run P w = .ok (.value v) w) (hS : listed.getD c false = true ∨ S w) (h : wpAnyP P md ops Q S c fuel (List.toArray (b0 :: b1 :: b2 :: b3 :: b4 :: b5 :: b6 :: b7 :: b8 :: b9 :: b10 :: b11 :: b12 :: b13 :: b14 :: b15 :: b16 :: b17 :: b18 :: b19 :: b20 :: b21 :: b22 :: b23 :: b24 :: b25 :: true :: brest)) (a.put oi.dst v) w) : wpAnyP P md ops Q S c (fuel + 1) listed a w := by
  subst hops hl
  exact wpAnyP_any (i := 26) (oi := oi) rfl hs hf hr hne hcl hQ (.inl ⟨hw, fun w _ => hv w⟩) hS (by rw [set_l]; exact h)
theorem pa_27 {o0 o1 o2 o3 o4 o5 o6 o7 o8 o9 o10 o11 o12 o13 o14 o15 o16 o17 o18 o19 o20 o21 o22 o23 o24 o25 o26 oi : Oper} (hops : ops = List.toArray (o0 :: o1 :: o2 :: o3 :: o4 :: o5 :: o6 :: o7 :: o8 :: o9 :: o10 :: o11 :: o12 :: o13 :: o14 :: o15 :: o16 :: o17 :: o18 :: o19 :: o20 :: o21 :: o22 :: o23 :: o24 :: o25 :: o26 :: oi :: rest)) {b0 b1 b2 b3 b4 b5 b6 b7 b8 b9 b10 b11 b12 b13 b14 b15 b16 b17 b18 b19 b20 b21 b22 b23 b24 b25 b26 b27 : Bool} {brest : List Bool} (hl : listed = List.toArray (b0 :: b1 :: b2 :: b3 :: b4 :: b5 :: b6 :: b7 :: b8 :: b9 :: b10 :: b11 :: b12 :: b13 :: b14 :: b15 :: b16 :: b17 :: b18 :: b19 :: b20 :: b21 :: b22 :: b23 :: b24 :: b25 :: b26 :: b27 :: brest)) (v : Value) (hs : Region.noSelect ops = true) (hf : Region.free md ops listed 27 = true) (hr : (Region.ready md ops listed).contains 27 = true) (hne : 27 ≠ c) (hcl : closedB md ops listed = true) (hQ : ∀ c a w, Q (.panic c) (a.put oi.dst v) w → Q (.panic c) a w) (hw : Region.wanted oi (yielded ops a.tmps) = true) (hv : ∀ w, (execOp a.eval oi).run P w = .ok (.value v) w) (hS : listed.getD c false = true ∨ S w) (h : wpAnyP P md ops Q S c fuel (List.toArray (b0 :: b1 :: b2 :: b3 :: b4 :: b5 :: b6 :: b7 :: b8 :: b9 :: b10 :: b11 :: b12 :: b13 :: b14 :: b15 :: b16 :: b17 :: b18 :: b19 :: b20 :: b21 :: b22 :: b23 :: b24 :: b25 :: b26 :: true :: brest)) (a.put oi.dst v) w) : wpAnyP P md ops Q S c (fuel + 1) listed a w := by
  subst hops hl
  exact wpAnyP_any (i := 27) (oi := oi) rfl hs hf hr hne hcl hQ (.inl ⟨hw, fun w _ => hv w⟩) hS (by rw [set_l]; exact h)
theorem pa_28 {o0 o1 o2 o3 o4 o5 o6 o7 o8 o9 o10 o11 o12 o13 o14 o15 o16 o17 o18 o19 o20 o21 o22 o23 o24 o25 o26 o27 oi : Oper} (hops : ops = List.toArray (o0 :: o1 :: o2 :: o3 :: o4 :: o5 :: o6 :: o7 :: o8 :: o9 :: o10 :: o11 :: o12 :: o13 :: o14 :: o15 :: o16 :: o17 :: o18 :: o19 :: o20 :: o21 :: o22 :: o23 :: o24 :: o25 :: o26 :: o27 :: oi :: rest)) {b0 b1 b2 b3 b4 b5 b6 b7 b8 b9 b10 b11 b12 b13 b14 b15 b16 b17 b18 b19 b20 b21 b22 b23 b24 b25 b26 b27 b28 : Bool} {brest : List Bool} (hl : listed = List.toArray (b0 :: b1 :: b2 :: b3 :: b4 :: b5 :: b6 :: b7 :: b8 :: b9 :: b10 :: b11 :: b12 :: b13 :: b14 :: b15 :: b16 :: b17 :: b18 :: b19 :: b20 :: b21 :: b22 :: b23 :: b24 :: b25 :: b26 :: b27 :: b28 :: brest)) (v : Value) (hs : Region.noSelect ops = true) (hf : Region.free md ops listed 28 = true) (hr : (Region.ready md ops listed).contains 28 = true) (hne : 28 ≠ c) (hcl : closedB md ops listed = true) (hQ : ∀ c a w, Q (.panic c) (a.put oi.dst v) w → Q (.panic c) a w) (hw : Region.wanted oi (yielded ops a.tmps) = true) (hv : ∀ w, (execOp a.eval oi).run P w = .ok (.value v) w) (hS : listed.getD c false = true ∨ S w) (h : wpAnyP P md ops Q S c fuel (List.toArray (b0 :: b1 :: b2 :: b3 :: b4 :: b5 :: b6 :: b7 :: b8 :: b9 :: b10 :: b11 :: b12 :: b13 :: b14 :: b15 :: b16 :: b17 :: b18 :: b19 :: b20 :: b21 :: b22 :: b23 :: b24 :: b25 :: b26 :: b27 :: true :: brest)) (a.put oi.dst v) w) : wpAnyP P md ops Q S c (fuel + 1) listed a w := by
  subst hops hl
  exact wpAnyP_any (i := 28) (oi := oi) rfl hs hf hr hne hcl hQ (.inl ⟨hw, fun w _ => hv w⟩) hS (by rw [set_l]; exact h)
theorem pa_29 {o0 o1 o2 o3 o4 o5 o6 o7 o8 o9 o10 o11 o12 o13 o14 o15 o16 o17 o18 o19 o20 o21 o22 o23 o24 o25 o26 o27 o28 oi : Oper} (hops : ops = List.toArray (o0 :: o1 :: o2 :: o3 :: o4 :: o5 :: o6 :: o7 :: o8 :: o9 :: o10 :: o11 :: o12 :: o13 :: o14 :: o15 :: o16 :: o17 :: o18 :: o19 :: o20 :: o21 :: o22 :: o23 :: o24 :: o25 :: o26 :: o27 :: o28 :: oi :: rest)) {b0 b1 b2 b3 b4 b5 b6 b7 b8 b9 b10 b11 b12 b13 b14 b15 b16 b17 b18 b19 b20 b21 b22 b23 b24 b25 b26 b27 b28 b29 : Bool} {brest : List Bool} (hl : listed = List.toArray (b0 :: b1 :: b2 :: b3 :: b4 :: b5 :: b6 :: b7 :: b8 :: b9 :: b10 :: b11 :: b12 :: b13 :: b14 :: b15 :: b16 :: b17 :: b18 :: b19 :: b20 :: b21 :: b22 :: b23 :: b24 :: b25 :: b26 :: b27 :: b28 :: b29 :: brest)) (v : Value) (hs : Region.noSelect ops = true) (hf : Region.free md ops listed 29 = true) (hr : (Region.ready md ops listed).contains 29 = true) (hne : 29 ≠ c) (hcl : closedB md ops listed = true) (hQ : ∀ c a w, Q (.panic c) (a.put oi.dst v) w → Q (.panic c) a w) (hw : Region.wanted oi (yielded ops a.tmps) = true) (hv : ∀ w, (execOp a.eval oi).run P w = .ok (.value v) w) (hS : listed.getD c false = true ∨ S w) (h : wpAnyP P md ops Q S c fuel (List.toArray (b0 :: b1 :: b2 :: b3 :: b4 :: b5 :: b6 :: b7 :: b8 :: b9 :: b10 :: b11 :: b12 :: b13 :: b14 :: b15 :: b16 :: b17 :: b18 :: b19 :: b20 :: b21 :: b22 :: b23 :: b24 :: b25 :: b26 :: b27 :: b28 :: true :: brest)) (a.put oi.dst v) w) : wpAnyP P md ops Q S c (fuel + 1) listed a w := by
  subst hops hl
  exact wpAnyP_any (i := 29) (oi := oi) rfl hs hf hr hne hcl hQ (.inl ⟨hw, fun w _ => hv w⟩) hS (by rw [set_l]; exact h)
theorem pa_30 {o0 o1 o2 o3 o4 o5 o6 o7 o8 o9 o10 o11 o12 o13 o14 o15 o16 o17 o18 o19 o20 o21 o22 o23 o24 o25 o26 o27 o28 o29 oi : Oper} (hops : ops = List.toArray (o0 :: o1 :: o2 :: o3 :: o4 :: o5 :: o6 :: o7 :: o8 :: o9 :: o10 :: o11 :: o12 :: o13 :: o14 :: o15 :: o16 :: o17 :: o18 :: o19 :: o20 :: o21 :: o22 :: o23 :: o24 :: o25 :: o26 :: o27 :: o28 :: o29 :: oi :: rest)) {b0 b1 b2 b3 b4 b5 b6 b7 b8 b9 b10 b11 b12 b13 b14 b15 b16 b17 b18 b19 b20 b21 b22 b23 b24 b25 b26 b27 b28 b29 b30 : Bool} {brest : List Bool} (hl : listed = List.toArray (b0 :: b1 :: b2 :: b3 :: b4 :: b5 :: b6 :: b7 :: b8 :: b9 :: b10 :: b11 :: b12 :: b13 :: b14 :: b15 :: b16 :: b17 :: b18 :: b19 :: b20 :: b21 :: b22 :: b23 :: b24 :: b25 :: b26 :: b27 :: b28 :: b29 :: b30 :: brest)) (v : Value) (hs : Region.noSelect ops = true) (hf : Region.free md ops listed 30 = true) (hr : (Region.ready md ops listed).contains 30 = true) (hne : 30 ≠ c) (hcl : closedB md ops listed = true) (hQ : ∀ c a w, Q (.panic c) (a.put oi.dst v) w → Q (.panic c) a w) (hw : Region.wanted oi (yielded ops a.tmps) = true) (hv : ∀ w, (execOp a.eval oi).run P w = .ok (.value v) w) (hS : listed.getD c false = true ∨ S w) (h : wpAnyP P md ops Q S c fuel (List.toArray (b0 :: b1 :: b2 :: b3 :: b4 :: b5 :: b6 :: b7 :: b8 :: b9 :: b10 :: b11 :: b12 :: b13 :: b14 :: b15 :: b16 :: b17 :: b18 :: b19 :: b20 :: b21 :: b22 :: b23 :: b24 :: b25 :: b26 :: b27 :: b28 :: b29 :: true :: brest)) (a.put oi.dst v) w) : wpAnyP P md ops Q S c (fuel + 1) listed a w := by
  subst hops hl
  exact wpAnyP_any (i := 30) (oi := oi) rfl hs hf hr hne hcl hQ (.inl ⟨hw, fun w _ => hv w⟩) hS (by rw [set_l]; exact h)
theorem pa_31 {o0 o1 o2 o3 o4 o5 o6 o7 o8 o9 o10 o11 o12 o13 o14 o15 o16 o17 o18 o19 o20 o21 o22 o23 o24 o25 o26 o27 o28 o29 o30 oi : Oper} (hops : ops = List.toArray (o0 :: o1 :: o2 :: o3 :: o4 :: o5 :: o6 :: o7 :: o8 :: o9 :: o10 :: o11 :: o12 :: o13 :: o14 :: o15 :: o16 :: o17 :: o18 :: o19 :: o20 :: o21 :: o22 :: o23 :: o24 :: o25 :: o26 :: o27 :: o28 :: o29 :: o30 :: oi :: rest)) {b0 b1 b2 b3 b4 b5 b6 b7 b8 b9 b10 b11 b12 b13 b14 b15 b16 b17 b18 b19 b20 b21 b22 b23 b24 b25 b26 b27 b28 b29 b30 b31 : Bool} {brest : List Bool} (hl : listed = List.toArray (b0 :: b1 :: b2 :: b3 :: b4 :: b5 :: b6 :: b7 :: b8 :: b9 :: b10 :: b11 :: b12 :: b13 :: b14 :: b15 :: b16 :: b17 :: b18 :: b19 :: b20 :: b21 :: b22 :: b23 :: b24 :: b25 :: b26 :: b27 :: b28 :: b29 :: b30 :: b31 :: brest)) (v : Value) (hs : Region.noSelect ops = true) (hf : Region.free md ops listed 31 = true) (hr : (Region.ready md ops listed).contains 31 = true) (hne : 31 ≠ c) (hcl : closedB md ops listed = true) (hQ : ∀ c a w, Q (.panic c) (a.put oi.dst v) w → Q (.panic c) a w) (hw : Region.wanted oi (yielded ops a.tmps) = true) (hv : ∀ w, (execOp a.eval oi).run P w = .ok (.value v) w) (hS : listed.getD c false = true ∨ S w) (h : wpAnyP P md ops Q S c fuel (List.toArray (b0 :: b1 :: b2 :: b3 :: b4 :: b5 :: b6 :: b7 :: b8 :: b9 :: b10 :: b11 :: b12 :: b13 :: b14 :: b15 :: b16 :: b17 :: b18 :: b19 :: b20 :: b21 :: b22 :: b23 :: b24 :: b25 :: b26 :: b27 :: b28 :: b29 :: b30 :: true :: brest)) (a.put oi.dst v) w) : wpAnyP P md ops Q S c (fuel + 1) listed a w := by
  subst hops hl
  exact wpAnyP_any (i := 31) (oi := oi) rfl hs hf hr hne hcl hQ (.inl ⟨hw, fun w _ => hv w⟩) hS (by rw [set_l]; exact h)
theorem pa_32 {o0 o1 o2 o3 o4 o5 o6 o7 o8 o9 o10 o11 o12 o13 o14 o15 o16 o17 o18 o19 o20 o21 o22 o23 o24 o25 o26 o27 o28 o29 o30 o31 oi : Oper} (hops : ops = List.toArray (o0 :: o1 :: o2 :: o3 :: o4 :: o5 :: o6 :: o7 :: o8 :: o9 :: o10 :: o11 :: o12 :: o13 :: o14 :: o15 :: o16 :: o17 :: o18 :: o19 :: o20 :: o21 :: o22 :: o23 :: o24 :: o25 :: o26 :: o27 :: o28 :: o29 :: o30 :: o31 :: oi :: rest)) {b0 b1 b2 b3 b4 b5 b6 b7 b8 b9 b10 b11 b12 b13 b14 b15 b16 b17 b18 b19 b20 b21 b22 b23 b24 b25 b26 b27 b28 b29 b30 b31 b32 : Bool} {brest : List Bool} (hl : listed = List.toArray (b0 :: b1 :: b2 :: b3 :: b4 :: b5 :: b6 :: b7 :: b8 :: b9 :: b10 :: b11 :: b12 :: b13 :: b14 :: b15 :: b16 :: b17 :: b18 :: b19 :: b20 :: b21 :: b22 :: b23 :: b24 :: b25 :: b26 :: b27 :: b28 :: b29 :: b30 :: b31 :: b32 :: brest)) (v : Value) (hs : Region.noSelect ops = true) (hf : Region.free md ops listed 32 = true) (hr : (Region.ready md ops listed).contains 32 = true) (hne : 32 ≠ c) (hcl : closedB md ops listed = true) (hQ : ∀ c a w, Q (.panic c) (a.put oi.dst v) w → Q (.panic c) a w) (hw : Region.wanted oi (yielded ops a.tmps) = true) (hv : ∀ w, (execOp a.eval oi).run P w = .ok (.value v) w) (hS : listed.getD c false = true ∨ S w) (h : wpAnyP P md ops Q S c fuel (List.toArray (b0 :: b1 :: b2 :: b3 :: b4 :: b5 :: b6 :: b7 :: b8 :: b9 :: b10 :: b11 :: b12 :: b13 :: b14 :: b15 :: b16 :: b17 :: b18 :: b19 :: b20 :: b21 :: b22 :: b23 :: b24 :: b25 :: b26 :: b27 :: b28 :: b29 :: b30 :: b31 :: true :: brest)) (a.put oi.dst v) w) : wpAnyP P md ops Q S c (fuel + 1) listed a w := by
  subst hops hl
  exact wpAnyP_any (i := 32) (oi := oi) rfl hs hf hr hne hcl hQ (.inl ⟨hw, fun w _ => hv w⟩) hS (by rw [set_l]; exact h)
theorem pc_33 {o0 o1 o2 o3 o4 o5 o6 o7 o8 o9 o10 o11 o12 o13 o14 o15 o16 o17 o18 o19 o20 o21 o22 o23 o24 o25 o26 o27 o28 o29 o30 o31 o32 oi : Oper} (hops : ops = List.toArray (o0 :: o1 :: o2 :: o3 :: o4 :: o5 :: o6 :: o7 :: o8 :: o9 :: o10 :: o11 :: o12 :: o13 :: o14 :: o15 :: o16 :: o17 :: o18 :: o19 :: o20 :: o21 :: o22 :: o23 :: o24 :: o25 :: o26 :: o27 :: o28 :: o29 :: o30 :: o31 :: o32 :: oi :: rest)) {b0 b1 b2 b3 b4 b5 b6 b7 b8 b9 b10 b11 b12 b13 b14 b15 b16 b17 b18 b19 b20 b21 b22 b23 b24 b25 b26 b27 b28 b29 b30 b31 b32 b33 : Bool} {brest : List Bool} (hl : listed = List.toArray (b0 :: b1 :: b2 :: b3 :: b4 :: b5 :: b6 :: b7 :: b8 :: b9 :: b10 :: b11 :: b12 :: b13 :: b14 :: b15 :: b16 :: b17 :: b18 :: b19 :: b20 :: b21 :: b22 :: b23 :: b24 :: b25 :: b26 :: b27 :: b28 :: b29 :: b30 :: b31 :: b32 :: b33 :: brest)) (hr : Region.ready md ops listed = [33]) (hwoi : Region.wanted oi (yielded ops a.tmps) = true) (h : ∀ K' : Act → World → Prop, Shut (∀ a w, ((List.toArray (b0 :: b1 :: b2 :: b3 :: b4 :: b5 :: b6 :: b7 :: b8 :: b9 :: b10 :: b11 :: b12 :: b13 :: b14 :: b15 :: b16 :: b17 :: b18 :: b19 :: b20 :: b21 :: b22 :: b23 :: b24 :: b25 :: b26 :: b27 :: b28 :: b29 :: b30 :: b31 :: b32 :: true :: brest)).getD c false = true ∨ S w) → wpAnyP P md ops Q S c fuel (List.toArray (b0 :: b1 :: b2 :: b3 :: b4 :: b5 :: b6 :: b7 :: b8 :: b9 :: b10 :: b11 :: b12 :: b13 :: b14 :: b15 :: b16 :: b17 :: b18 :: b19 :: b20 :: b21 :: b22 :: b23 :: b24 :: b25 :: b26 :: b27 :: b28 :: b29 :: b30 :: b31 :: b32 :: true :: brest)) a w → K' a w) → Oper.wp P oi a w K' Q) : wpAnyP P md ops Q S c (fuel + 1) listed a w := by
  subst hops hl
  exact wpAnyP_one (i := 33) (oi := oi) rfl hr hwoi (by rw [set_l]; exact h)
theorem pc_34 {o0 o1 o2 o3 o4 o5 o6 o7 o8 o9 o10 o11 o12 o13 o14 o15 o16 o17 o18 o19 o20 o21 o22 o23 o24 o25 o26 o27 o28 o29 o30 o31 o32 o33 oi : Oper} (hops : ops = List.toArray (o0 :: o1 :: o2 :: o3 :: o4 :: o5 :: o6 :: o7 :: o8 :: o9 :: o10 :: o11 :: o12 :: o13 :: o14 :: o15 :: o16 :: o17 :: o18 :: o19 :: o20 :: o21 :: o22 :: o23 :: o24 :: o25 :: o26 :: o27 :: o28 :: o29 :: o30 :: o31 :: o32 :: o33 :: oi :: rest)) {b0 b1 b2 b3 b4 b5 b6 b7 b8 b9 b10 b11 b12 b13 b14 b15 b16 b17 b18 b19 b20 b21 b22 b23 b24 b25 b26 b27 b28 b29 b30 b31 b32 b33 b34 : Bool} {brest : List Bool} (hl : listed = List.toArray (b0 :: b1 :: b2 :: b3 :: b4 :: b5 :: b6 :: b7 :: b8 :: b9 :: b10 :: b11 :: b12 :: b13 :: b14 :: b15 :: b16 :: b17 :: b18 :: b19 :: b20 :: b21 :: b22 :: b23 :: b24 :: b25 :: b26 :: b27 :: b28 :: b29 :: b30 :: b31 :: b32 :: b33 :: b34 :: brest)) (hr : Region.ready md ops listed = [34]) (hwoi : Region.wanted oi (yielded ops a.tmps) = true) (h : ∀ K' : Act → World → Prop, Shut (∀ a w, ((List.toArray (b0 :: b1 :: b2 :: b3 :: b4 :: b5 :: b6 :: b7 :: b8 :: b9 :: b10 :: b11 :: b12 :: b13 :: b14 :: b15 :: b16 :: b17 :: b18 :: b19 :: b20 :: b21 :: b22 :: b23 :: b24 :: b25 :: b26 :: b27 :: b28 :: b29 :: b30 :: b31 :: b32 :: b33 :: true :: brest)).getD c false = true ∨ S w) → wpAnyP P md ops Q S c fuel (List.toArray (b0 :: b1 :: b2 :: b3 :: b4 :: b5 :: b6 :: b7 :: b8 :: b9 :: b10 :: b11 :: b12 :: b13 :: b14 :: b15 :: b16 :: b17 :: b18 :: b19 :: b20 :: b21 :: b22 :: b23 :: b24 :: b25 :: b26 :: b27 :: b28 :: b29 :: b30 :: b31 :: b32 :: b33 :: true :: brest)) a w → K' a w) → Oper.wp P oi a w K' Q) : wpAnyP P md ops Q S c (fuel + 1) listed a w := by
  subst hops hl
  exact wpAnyP_one (i := 34) (oi := oi) rfl hr hwoi (by rw [set_l]; exact h)
theorem pc_35 {o0 o1 o2 o3 o4 o5 o6 o7 o8 o9 o10 o11 o12 o13 o14 o15 o16 o17 o18 o19 o20 o21 o22 o23 o24 o25 o26 o27 o28 o29 o30 o31 o32 o33 o34 oi : Oper} (hops : ops = List.toArray (o0 :: o1 :: o2 :: o3 :: o4 :: o5 :: o6 :: o7 :: o8 :: o9 :: o10 :: o11 :: o12 :: o13 :: o14 :: o15 :: o16 :: o17 :: o18 :: o19 :: o20 :: o21 :: o22 :: o23 :: o24 :: o25 :: o26 :: o27 :: o28 :: o29 :: o30 :: o31 :: o32 :: o33 :: o34 :: oi :: rest)) {b0 b1 b2 b3 b4 b5 b6 b7 b8 b9 b10 b11 b12 b13 b14 b15 b16 b17 b18 b19 b20 b21 b22 b23 b24 b25 b26 b27 b28 b29 b30 b31 b32 b33 b34 b35 : Bool} {brest : List Bool} (hl : listed = List.toArray (b0 :: b1 :: b2 :: b3 :: b4 :: b5 :: b6 :: b7 :: b8 :: b9 :: b10 :: b11 :: b12 :: b13 :: b14 :: b15 :: b16 :: b17 :: b18 :: b19 :: b20 :: b21 :: b22 :: b23 :: b24 :: b25 :: b26 :: b27 :: b28 :: b29 :: b30 :: b31 :: b32 :: b33 :: b34 :: b35 :: brest)) (hr : Region.ready md ops listed = [35]) (hwoi : Region.wanted oi (yielded ops a.tmps) = true) (h : ∀ K' : Act → World → Prop, Shut (∀ a w, ((List.toArray (b0 :: b1 :: b2 :: b3 :: b4 :: b5 :: b6 :: b7 :: b8 :: b9 :: b10 :: b11 :: b12 :: b13 :: b14 :: b15 :: b16 :: b17 :: b18 :: b19 :: b20 :: b21 :: b22 :: b23 :: b24 :: b25 :: b26 :: b27 :: b28 :: b29 :: b30 :: b31 :: b32 :: b33 :: b34 :: true :: brest)).getD c false = true ∨ S w) → wpAnyP P md ops Q S c fuel (List.toArray (b0 :: b1 :: b2 :: b3 :: b4 :: b5 :: b6 :: b7 :: b8 :: b9 :: b10 :: b11 :: b12 :: b13 :: b14 :: b15 :: b16 :: b17 :: b18 :: b19 :: b20 :: b21 :: b22 :: b23 :: b24 :: b25 :: b26 :: b27 :: b28 :: b29 :: b30 :: b31 :: b32 :: b33 :: b34 :: true :: brest)) a w → K' a w) → Oper.wp P oi a w K' Q) : wpAnyP P md ops Q S c (fuel + 1) listed a w := by
  subst hops hl
  exact wpAnyP_one (i := 35) (oi := oi) rfl hr hwoi (by rw [set_l]; exact h)
theorem pc_36 {o0 o1 o2 o3 o4 o5 o6 o7 o8 o9 o10 o11 o12 o13 o14 o15 o16 o17 o18 o19 o20 o21 o22 o23 o24 o25 o26 o27 o28 o29 o30 o31 o32 o33 o34 o35 oi : Oper} (hops : ops = List.toArray (o0 :: o1 :: o2 :: o3 :: o4 :: o5 :: o6 :: o7 :: o8 :: o9 :: o10 :: o11 :: o12 :: o13 :: o14 :: o15 :: o16 :: o17 :: o18 :: o19 :: o20 :: o21 :: o22 :: o23 :: o24 :: o25 :: o26 :: o27 :: o28 :: o29 :: o30 :: o31 :: o32 :: o33 :: o34 :: o35 :: oi :: rest)) {b0 b1 b2 b3 b4 b5 b6 b7 b8 b9 b10 b11 b12 b13 b14 b15 b16 b17 b18 b19 b20 b21 b22 b23 b24 b25 b26 b27 b28 b29 b30 b31 b32 b33 b34 b35 b36 : Bool} {brest : List Bool} (hl : listed = List.toArray (b0 :: b1 :: b2 :: b3 :: b4 :: b5 :: b6 :: b7 :: b8 :: b9 :: b10 :: b11 :: b12 :: b13 :: b14 :: b15 :: b16 :: b17 :: b18 :: b19 :: b20 :: b21 :: b22 :: b23 :: b24 :: b25 :: b26 :: b27 :: b28 :: b29 :: b30 :: b31 :: b32 :: b33 :: b34 :: b35 :: b36 :: brest)) (hr : Region.ready md ops listed = [36]) (hwoi : Region.wanted oi (yielded ops a.tmps) = true) (h : ∀ K' : Act → World → Prop, Shut (∀ a w, ((List.toArray (b0 :: b1 :: b2 :: b3 :: b4 :: b5 :: b6 :: b7 :: b8 :: b9 :: b10 :: b11 :: b12 :: b13 :: b14 :: b15 :: b16 :: b17 :: b18 :: b19 :: b20 :: b21 :: b22 :: b23 :: b24 :: b25 :: b26 :: b27 :: b28 :: b29 :: b30 :: b31 :: b32 :: b33 :: b34 :: b35 :: true :: brest)).getD c false = true ∨ S w) → wpAnyP P md ops Q S c fuel (List.toArray (b0 :: b1 :: b2 :: b3 :: b4 :: b5 :: b6 :: b7 :: b8 :: b9 :: b10 :: b11 :: b12 :: b13 :: b14 :: b15 :: b16 :: b17 :: b18 :: b19 :: b20 :: b21 :: b22 :: b23 :: b24 :: b25 :: b26 :: b27 :: b28 :: b29 :: b30 :: b31 :: b32 :: b33 :: b34 :: b35 :: true :: brest)) a w → K' a w) → Oper.wp P oi a w K' Q) : wpAnyP P md ops Q S c (fuel + 1) listed a w := by
  subst hops hl
  exact wpAnyP_one (i := 36) (oi := oi) rfl hr hwoi (by rw [set_l]; exact h)
theorem pd_5_13 {o0 o1 o2 o3 o4 oi o6 o7 o8 o9 o10 o11 o12 oj : Oper} (hops : ops = List.toArray (o0 :: o1 :: o2 :: o3 :: o4 :: oi :: o6 :: o7 :: o8 :: o9 :: o10 :: o11 :: o12 :: oj :: rest)) {b0 b1 b2 b3 b4 b5 b6 b7 b8 b9 b10 b11 b12 b13 : Bool} {brest : List Bool} (hl : listed = List.toArray (b0 :: b1 :: b2 :: b3 :: b4 :: b5 :: b6 :: b7 :: b8 :: b9 :: b10 :: b11 :: b12 :: b13 :: brest)) (hr : Region.ready md ops listed = [5, 13]) (hwoi : Region.wanted oi (yielded ops a.tmps) = true) (hoi : ∀ K' : Act → World → Prop, Shut (∀ a w, ((List.toArray (b0 :: b1 :: b2 :: b3 :: b4 :: true :: b6 :: b7 :: b8 :: b9 :: b10 :: b11 :: b12 :: b13 :: brest)).getD c false = true ∨ S w) → wpAnyP P md ops Q S c fuel (List.toArray (b0 :: b1 :: b2 :: b3 :: b4 :: true :: b6 :: b7 :: b8 :: b9 :: b10 :: b11 :: b12 :: b13 :: brest)) a w → K' a w) → Oper.wp P oi a w K' Q) (hwoj : Region.wanted oj (yielded ops a.tmps) = true) (hoj : ∀ K' : Act → World → Prop, Shut (∀ a w, ((List.toArray (b0 :: b1 :: b2 :: b3 :: b4 :: b5 :: b6 :: b7 :: b8 :: b9 :: b10 :: b11 :: b12 :: true :: brest)).getD c false = true ∨ S w) → wpAnyP P md ops Q S c fuel (List.toArray (b0 :: b1 :: b2 :: b3 :: b4 :: b5 :: b6 :: b7 :: b8 :: b9 :: b10 :: b11 :: b12 :: true :: brest)) a w → K' a w) → Oper.wp P oj a w K' Q) : wpAnyP P md ops Q S c (fuel + 1) listed a w := by
  subst hops hl
  exact wpAnyP_two (i := 5) (j := 13) (oi := oi) (oj := oj) rfl rfl hr hwoi hwoj (by rw [set_l]; exact hoi) (by rw [set_l]; exact hoj)
end
end Go.Proofs.Ytdmpaoajcnjbaaa
