import Derived.WalkKit
import Derived.Laws.BitsAllLaws
import Derived.Laws.BitsLemmas
import Derived.Test.YtocdbeonogfopaaGreatProg
import Derived.Laws.Shifts
import Derived.IntWalk
import Derived.Test.YtocdbeonogfopaaGreatG5
import Derived.Test.YtocdbeonogfopaaGreatG11
import Derived.Test.YtocdbeonogfopaaGreatG1
import Derived.Test.YtocdbeonogfopaaGreatG8
import Derived.Test.YtocdbeonogfopaaGreatG2
set_option linter.unusedVariables false
set_option linter.unusedSimpArgs false
namespace Go.Proofs.YtocdbeonogfopaaGreat
open Go.RowKit
section
variable (B : Nat) (p A : Option Addr) (cp : Nat) (nv : Value) (r : LS) (c x y : Int) (w : World)
theorem store_run (h : RunP w B p A cp nv r) : Calls Tryz.prog 69 #[.pointer (some ⟨B, 0, none⟩), .int .i64 c, .int .u32 x] w (Done B p A cp w (.tuple #[]) (r.doA 2 c x 0)) := by
  go_enter Tryz.func69, Tryz.ntmps69
  go_wp2_with fail
  refine (access_run B p A cp nv r 2 c x 0 0 _ h rfl).mono ?_
  rintro e w1 ⟨rfl, hO, hP⟩
  have HO := Lib.hid hO
  have HP := Lib.hid hP
  clear hO hP h
  go_wp2
  go_returns
  exact ⟨rfl, HO.out, nv, HP.out⟩
end
end Go.Proofs.YtocdbeonogfopaaGreat
set_option linter.unusedVariables false
set_option linter.unusedSimpArgs false
namespace Go.Proofs.YtocdbeonogfopaaGreat
open Go.RowKit
def nc (n i : Int) : Int := cellI n 0 i
def bc (n i : Int) : Int := cellI n 1 i
def LS.me (r : LS) : Int := (r.task + 1) % 4294967296
def isZ (v : Int) : Bool := v == 0
def isN (v : Int) : Bool := v != 0
def LS.notes (r : LS) (whats : List Int) : LS := whats.foldl (fun r w => r.note w 0) r
def LS.link (r : LS) : LS := (((r.doA 2 (nc r.n (r.a - 1)) r.me 0).wake (nc r.n (r.a - 1))).go 4)
def LS.swapIn (r : LS) (tail cl : Int) : LS := ((r.doA 4 tail r.me 0).keepA (wordAt r.xs tail)).note 2 cl
def LS.mxEnter (r : LS) (tail cl : Int) : LS × Bool :=
  if r.line = 0 then ((r.doA 2 (nc r.n r.task) 0 0).go 1, false)
  else if r.line = 1 then ((r.doA 2 (bc r.n r.task) 1 0).go 2, false)
  else if r.line = 2 then (if wordAt r.xs tail = 0 then (r.swapIn tail cl, true) else ((r.swapIn tail cl).go 3, false))
  else if r.line = 3 then (r.link, false)
  else if r.line = 4 then (r.wait (bc r.n r.task) isZ, (r.stepR (bc r.n r.task) isZ).done)
  else (r, false)
def LS.seeN (r : LS) : LS := if (r.stepR (nc r.n r.task) isN).seen then (r.wait (nc r.n r.task) isN).keepA (wordAt r.xs (nc r.n r.task)) else r.wait (nc r.n r.task) isN
def LS.handOn (r : LS) (whats : List Int) : LS := ((r.doA 2 (bc r.n (r.a - 1)) 0 0).notes whats).wake (bc r.n (r.a - 1))
def LS.peek (r : LS) : LS := (r.doA 1 (nc r.n r.task) 0 0).keepA (wordAt r.xs (nc r.n r.task))
def LS.casOut (r : LS) (tail : Int) : Bool := there r.xs tail && (wordAt r.xs tail == r.me)
def LS.mxGive (r : LS) (tail a : Int) (whats : List Int) : LS × Bool :=
  if r.line = a then (if wordAt r.xs (nc r.n r.task) = 0 then r.peek.go (a + 1) else r.peek.go (a + 3), false)
  else if r.line = a + 1 then (if r.casOut tail then ((r.doA 5 tail r.me 0).notes whats, true) else ((r.doA 5 tail r.me 0).go (a + 2), false))
  else if r.line = a + 2 then (if (r.stepR (nc r.n r.task) isN).done then r.seeN.go (a + 3) else r.seeN, false)
  else if r.line = a + 3 then (r.handOn whats, true)
  else (r, false)
def LS.mxTry (r : LS) (tail a : Int) : LS × Bool × Bool :=
  if r.line = a then ((r.doA 2 (nc r.n r.task) 0 0).go (a + 1), false, false)
  else if r.line = a + 1 then (r.doA 5 tail 0 r.me, true, there r.xs tail && (wordAt r.xs tail == 0))
  else (r, false, false)
end Go.Proofs.YtocdbeonogfopaaGreat
namespace Go.Proofs.YtocdbeonogfopaaGreat
def aheadI (a b : Int) : Int := (a - b + 2147483648) % 4294967296 - 2147483648
end Go.Proofs.YtocdbeonogfopaaGreat
set_option linter.unusedVariables false
set_option linter.unusedSimpArgs false
namespace Go.Proofs.YtocdbeonogfopaaGreat
open Go.RowKit
def pfCase (op line : Int) : Nat :=
  if op = 1 ∧ line = 0 then 1 else if op = 1 ∧ line = 1 then 2 else if op = 2 ∧ line = 0 then 3 else if op = 3 ∧ line = 0 then 4 else if op = 3 ∧ line = 1 then 5 else if op = 3 ∧ line = 2 then 6
  else if op = 3 ∧ line = 3 then 7 else if op = 3 ∧ line = 4 then 8 else if op = 4 ∧ line = 0 then 9 else if op = 8 ∧ line = 0 then 9 else if op = 4 ∧ line = 1 then 10 else if op = 8 ∧ line = 1 then 11
  else if op = 4 ∧ line = 2 then 12 else if op = 8 ∧ line = 2 then 12 else if op = 4 ∧ line = 3 then 13 else if op = 8 ∧ line = 3 then 13 else if op = 5 ∧ line = 0 then 14 else if op = 5 ∧ line = 1 then 15
  else if op = 6 ∧ line = 0 then 16 else if op = 7 ∧ line = 0 then 16 else if op = 6 ∧ line = 1 then 17 else if op = 7 ∧ line = 1 then 17 else if op = 6 ∧ line = 2 then 18 else if op = 7 ∧ line = 2 then 18
  else if op = 6 ∧ line = 3 then 19 else if op = 7 ∧ line = 3 then 19 else if op = 6 ∧ line = 4 then 20 else if op = 7 ∧ line = 4 then 21 else if op = 6 ∧ line = 5 then 22 else if op = 7 ∧ line = 5 then 22
  else if op = 6 ∧ line = 6 then 23 else if op = 7 ∧ line = 6 then 23 else if op = 6 ∧ line = 7 then 24 else if op = 7 ∧ line = 7 then 25 else if op = 7 ∧ line = 8 then 26 else if op = 6 ∧ line = 9 then 27
  else if op = 7 ∧ line = 9 then 27 else 0
def bitsI (v : Int) : Int := v % 4
def presI (b : Int) : Int := 2 + b % 2
def LS.pCome (r : LS) : LS := if bitsI (wordAt r.xs 0) = 0 then ((((r.doA 3 0 256 0).keepA (wordAt r.xs 0)).note 2 1).note 4 0).fin true else (((r.doA 3 0 256 0).keepA (wordAt r.xs 0)).note 2 1).go 1
def LS.left (r : LS) (v : Int) : Bool := bitsI v != bitsI r.a
def LS.pAdmit (r : LS) (c : Int) (q : Int → Bool) : LS := if (r.stepR c q).done then ((r.wait c q).noteIf (r.stepR c q).seen 4).fin true else (r.wait c q).noteIf (r.stepR c q).seen 4
def LS.pDepart (r : LS) : LS := (((r.doA 3 1 256 0).note 6 0).wake 1).fin true
def LS.pDraw (r : LS) : LS := (((r.doA 3 2 1 0).keepA (wordAt r.xs 2)).note 2 2).go 1
def LS.pTurn (r : LS) : LS := if (r.stepR 3 r.mine).done then (r.wait 3 r.mine).go 2 else r.wait 3 r.mine
def LS.pKeep (r : LS) (n : Int) : LS := ((r.doA 1 4 0 0).keepB (wordAt r.xs 4)).go n
def LS.pAppear (r : LS) (n : Int) : LS := (((r.doA 3 0 (presI r.b) 0).keepA (wordAt r.xs 0)).note 3 0).go n
def LS.pVanish (r : LS) (inn what : Int) : LS := (((r.doA 3 0 ((inn - presI r.b) % 4294967296) 0).note what 0).wake 0).go 2
def LS.pCount (r : LS) : LS := (r.doA 2 4 ((r.b + 1) % 4294967296) 0).go 3
def LS.pPass (r : LS) (ok : Bool) : LS := (((r.doA 3 3 1 0).note 8 0).wake 3).fin ok
def LS.pLookIn (r : LS) : LS := if bitsI (wordAt r.xs 0) = 0 then ((r.doA 1 0 0 0).keepA (wordAt r.xs 0)).go 1 else (((r.doA 1 0 0 0).keepA (wordAt r.xs 0)).note 5 0).fin false
def LS.was (r : LS) (c : Int) : Bool := there r.xs c && (wordAt r.xs c == r.a)
def LS.pSlip (r : LS) : LS := if r.was 0 then (((r.doA 5 0 r.a ((r.a + 256) % 4294967296)).note 2 1).note 4 0).fin true else (r.doA 5 0 r.a ((r.a + 256) % 4294967296)).go 0
def LS.pLook (r : LS) (c n : Int) : LS := ((r.doA 1 c 0 0).keepA (wordAt r.xs c)).go n
def LS.pWeighT (r : LS) : LS :=
  if 0 < aheadI r.a (wordAt r.xs 3) then (((r.doA 1 3 0 0).keepB (wordAt r.xs 3)).note 5 0).fin false
  else if aheadI r.a (wordAt r.xs 3) < 0 then ((r.doA 1 3 0 0).keepB (wordAt r.xs 3)).go 0 else ((r.doA 1 3 0 0).keepB (wordAt r.xs 3)).go 2
def LS.pClaim (r : LS) : LS := if r.was 2 then ((r.doA 5 2 r.a ((r.a + 1) % 4294967296)).note 2 2).go 3 else (r.doA 5 2 r.a ((r.a + 1) % 4294967296)).go 0
def LS.pWeighR (r : LS) (own : Int) : LS := if aheadI r.a (wordAt r.xs 1) ≤ own then ((r.doA 1 1 0 0).keepB (wordAt r.xs 1)).go 5 else (((r.doA 1 1 0 0).keepB (wordAt r.xs 1)).note 5 0).go 9
def LS.butMe (r : LS) (v : Int) : Bool := v == (r.a - 256) % 4294967296
def LS.pOthers (r : LS) : LS := if (r.stepR 1 r.butMe).done then ((r.wait 1 r.butMe).noteIf (r.stepR 1 r.butMe).seen 9).go 8 else (r.wait 1 r.butMe).noteIf (r.stepR 1 r.butMe).seen 9
def LS.pStop (r : LS) : LS := (r.doA 3 1 256 0).fin true
def LS.pf (r : LS) : LS :=
  match pfCase r.op r.line with
  | 1 => r.pCome
  | 2 => r.pAdmit 0 r.left
  | 3 => r.pDepart
  | 4 => r.pDraw
  | 5 => r.pTurn
  | 6 => r.pKeep 3
  | 7 => r.pAppear 4
  | 8 => r.pAdmit 1 r.mine
  | 9 => r.pKeep 1
  | 10 => r.pVanish 0 7
  | 11 => r.pVanish 256 10
  | 12 => r.pCount
  | 13 => r.pPass true
  | 14 => r.pLookIn
  | 15 => r.pSlip
  | 16 => r.pLook 2 1
  | 17 => r.pWeighT
  | 18 => r.pClaim
  | 19 => r.pLook 0 4
  | 20 => r.pWeighR 0
  | 21 => r.pWeighR 256
  | 22 => r.pKeep 6
  | 23 => r.pAppear 7
  | 24 => r.pAdmit 1 r.mine
  | 25 => r.pOthers
  | 26 => r.pStop
  | 27 => r.pPass false
  | _ => r
end Go.Proofs.YtocdbeonogfopaaGreat
set_option linter.unusedVariables false
set_option linter.unusedSimpArgs false
namespace Go.Proofs.YtocdbeonogfopaaGreat
open Go.RowKit
def pqCase (op line : Int) : Nat :=
  if op = 1 ∧ line = 0 then 1 else if op = 1 ∧ line = 1 then 2 else if op = 2 ∧ line = 0 then 3 else if op = 5 ∧ line = 0 then 4 else if op = 5 ∧ line = 1 then 5
  else if op = 3 ∧ 0 ≤ line ∧ line ≤ 4 then 6 else if op = 3 ∧ line = 5 then 7 else if op = 3 ∧ line = 6 then 8 else if op = 3 ∧ line = 7 then 9
  else if (op = 4 ∨ op = 8) ∧ line = 0 then 10 else if op = 4 ∧ line = 1 then 11 else if op = 8 ∧ line = 1 then 12 else if (op = 4 ∨ op = 8) ∧ line = 2 then 13 else if op = 4 ∨ op = 8 then 14
  else if (op = 6 ∨ op = 7) ∧ 0 ≤ line ∧ line ≤ 1 then 15 else if (op = 6 ∨ op = 7) ∧ line = 2 then 16 else if op = 6 ∧ line = 3 then 17 else if op = 7 ∧ line = 3 then 18
  else if (op = 6 ∨ op = 7) ∧ line = 4 then 19 else if (op = 6 ∨ op = 7) ∧ line = 5 then 20 else if op = 6 ∧ line = 6 then 21 else if op = 7 ∧ line = 6 then 22 else if op = 7 ∧ line = 7 then 23
  else if op = 6 ∨ op = 7 then 24 else 0
def LS.wEnter (r : LS) : LS := if (r.mxEnter 2 2).2 then (r.mxEnter 2 2).1.go 5 else (r.mxEnter 2 2).1
def LS.wKeep (r : LS) (n : Int) : LS := ((r.doA 1 3 0 0).keepB (wordAt r.xs 3)).go n
def LS.wCount (r : LS) : LS := (r.doA 2 3 ((r.b + 1) % 4294967296) 0).go 3
def LS.wGive (r : LS) (a : Int) (ok : Bool) : LS := if (r.mxGive 2 a [8]).2 then (r.mxGive 2 a [8]).1.fin ok else (r.mxGive 2 a [8]).1
def LS.wTry (r : LS) : LS :=
  if (r.mxTry 2 0).2.1 then (if (r.mxTry 2 0).2.2 then ((r.mxTry 2 0).1.note 2 2).go 2 else ((r.mxTry 2 0).1.note 5 0).fin false) else (r.mxTry 2 0).1
def LS.wWeigh (r : LS) (own : Int) : LS := if aheadI r.a (wordAt r.xs 1) ≤ own then ((r.doA 1 1 0 0).keepB (wordAt r.xs 1)).go 4 else (((r.doA 1 1 0 0).keepB (wordAt r.xs 1)).note 5 0).go 8
def LS.wOthers (r : LS) : LS := if (r.stepR 1 r.butMe).done then ((r.wait 1 r.butMe).noteIf (r.stepR 1 r.butMe).seen 9).go 7 else (r.wait 1 r.butMe).noteIf (r.stepR 1 r.butMe).seen 9
def LS.pq (r : LS) : LS :=
  match pqCase r.op r.line with
  | 1 => r.pCome
  | 2 => r.pAdmit 0 r.left
  | 3 => r.pDepart
  | 4 => r.pLookIn
  | 5 => r.pSlip
  | 6 => r.wEnter
  | 7 => r.wKeep 6
  | 8 => r.pAppear 7
  | 9 => r.pAdmit 1 r.mine
  | 10 => r.wKeep 1
  | 11 => r.pVanish 0 7
  | 12 => r.pVanish 256 10
  | 13 => r.wCount
  | 14 => r.wGive 3 true
  | 15 => r.wTry
  | 16 => r.pLook 0 3
  | 17 => r.wWeigh 0
  | 18 => r.wWeigh 256
  | 19 => r.wKeep 5
  | 20 => r.pAppear 6
  | 21 => r.pAdmit 1 r.mine
  | 22 => r.wOthers
  | 23 => r.pStop
  | 24 => r.wGive 8 false
  | _ => r
end Go.Proofs.YtocdbeonogfopaaGreat
namespace Go.Proofs.YtocdbeonogfopaaGreat
def isF (s n : Int) : Bool := decide (0 ≤ s ∧ s ≤ 31 ∧ 1 ≤ n ∧ n ≤ 32 ∧ s + n ≤ 32)
def pw (n : Int) : Int := 2 ^ n.toNat
def fieldOf (v s n : Int) : Int := v / pw s % pw n
def getI (v s n : Int) : Int := if isF s n then fieldOf v s n else 0
theorem isF_iff {s n : Int} : isF s n = true ↔ 0 ≤ s ∧ s ≤ 31 ∧ 1 ≤ n ∧ n ≤ 32 ∧ s + n ≤ 32 := by simp [isF]
theorem pw_pos (n : Int) : 0 < pw n := Int.pow_pos (by decide)
theorem pw_add {s n : Int} (hs : 0 ≤ s) (hn : 0 ≤ n) : pw (s + n) = pw s * pw n := by
  unfold pw; rw [Int.toNat_add hs hn, Int.pow_add]
theorem pw_32 : pw 32 = 4294967296 := rfl
theorem ones_shr {n : Int} (h : 1 ≤ n ∧ n ≤ 32) : (4294967295 : Int) / 2 ^ (32 - n).toNat = pw n - 1 := by
  have e2 : pw n * pw (32 - n) = 4294967296 := by rw [← pw_add (by omega) (by omega), show n + (32 - n) = 32 by omega, pw_32]
  show 4294967295 / pw (32 - n) = pw n - 1
  have hp := pw_pos (32 - n)
  have e3 : (4294967295 : Int) = (pw (32 - n) - 1) + (pw n - 1) * pw (32 - n) := by rw [Int.sub_mul, e2]; omega
  rw [e3, Int.add_mul_ediv_right _ _ (by omega), Int.ediv_eq_zero_of_lt (by omega) (by omega), Int.zero_add]
theorem and_low {x n : Int} (hx : 0 ≤ x ∧ x < 4294967296) (hn : 0 ≤ n ∧ n ≤ 32) : bits .and .u32 x (pw n - 1) = x % pw n := by
  obtain ⟨m, rfl⟩ := Int.eq_ofNat_of_zero_le hn.1
  have := bits_mask .u32 32 (by decide) (fun k h0 h1 => by rw [IntKind.wrap_u32']; omega) m (by omega) x hx.1 (by simpa using hx.2)
  simpa [pw] using this
theorem get_bits {v s n : Int} (h : isF s n = true) (hv : 0 ≤ v ∧ v < 4294967296) : bits .and .u32 (v / pw s) (pw n - 1) = fieldOf v s n := by
  obtain ⟨hs, hs1, hn, hn1, hsn⟩ := isF_iff.1 h
  have hp := pw_pos s
  refine and_low ⟨Int.ediv_nonneg hv.1 (by omega), Int.lt_of_le_of_lt (Int.ediv_le_self _ hv.1) hv.2⟩ ⟨by omega, hn1⟩
end Go.Proofs.YtocdbeonogfopaaGreat
set_option linter.unusedVariables false
set_option linter.unusedSimpArgs false
namespace Go.Proofs.YtocdbeonogfopaaGreat
open Go.RowKit
theorem isField_any (s n : Int) (w : World) :
    Calls Tryz.prog 137 #[.int .i64 s, .int .i64 n] w fun e w' => e = .returned (.bool (isF s n)) ∧ w = w' := by
  by_cases h : 0 ≤ s ∧ s ≤ 31 ∧ 1 ≤ n ∧ n ≤ 32
  · obtain ⟨h1, h2, h3, h4⟩ := h
    have e : isF s n = decide (s + n ≤ 32) := by simp [isF, h1, h2, h3, h4]
    have E := Lib.hid e
    clear e
    go_enter Tryz.func137, Tryz.ntmps137
    go_wp2
    go_ret
    exact ⟨by rw [E.out]; rfl, rfl⟩
  · have e : isF s n = false := by
      have : ¬ (0 ≤ s ∧ s ≤ 31 ∧ 1 ≤ n ∧ n ≤ 32 ∧ s + n ≤ 32) := by omega
      simp [isF, this]
    have E := Lib.hid e
    have H := Lib.hid h
    clear e h
    by_cases h1 : 0 ≤ s
    · by_cases h2 : s ≤ 31
      · by_cases h3 : 1 ≤ n
        · have h4 : 32 < n := by have := H.out; omega
          go_enter Tryz.func137, Tryz.ntmps137
          go_wp2
          go_ret
          exact ⟨by rw [E.out]; rfl, rfl⟩
        · have h4 : n < 1 := by omega
          go_enter Tryz.func137, Tryz.ntmps137
          go_wp2
          go_ret
          exact ⟨by rw [E.out]; rfl, rfl⟩
      · have h4 : 31 < s := by omega
        go_enter Tryz.func137, Tryz.ntmps137
        go_wp2
        go_ret
        exact ⟨by rw [E.out]; rfl, rfl⟩
    · have h4 : s < 0 := by omega
      go_enter Tryz.func137, Tryz.ntmps137
      go_wp2
      go_ret
      exact ⟨by rw [E.out]; rfl, rfl⟩
theorem low_any (n : Int) (w : World) (h : 1 ≤ n ∧ n ≤ 32) :
    Calls Tryz.prog 138 #[.int .i64 n] w fun e w' => e = .returned (.int .u32 (pw n - 1)) ∧ w = w' := by
  have E := Lib.hid (ones_shr h)
  obtain ⟨h1, h2⟩ := h
  go_enter Tryz.func138, Tryz.ntmps138
  go_wp2
  go_ret
  exact ⟨congrArg (fun x => Ending.returned (.int .u32 x)) E.out, rfl⟩
theorem isField_yes (s n : Int) (w : World) (h : isF s n = true) : Calls Tryz.prog 137 #[.int .i64 s, .int .i64 n] w fun e w' => e = .returned (.bool true) ∧ w = w' := by
  have := isField_any s n w; rwa [h] at this
theorem isField_no (s n : Int) (w : World) (h : isF s n = false) : Calls Tryz.prog 137 #[.int .i64 s, .int .i64 n] w fun e w' => e = .returned (.bool false) ∧ w = w' := by
  have := isField_any s n w; rwa [h] at this
theorem low_quiet (n : Int) (w : World) (k : Nat) (h1 : 1 ≤ n) (h2 : n ≤ 32) :
    Calls Tryz.prog 138 #[.int .i64 n] (w.drewN k) fun e w' => e = .returned (.int .u32 (pw n - 1)) ∧ ∃ m, w' = w.drewN m :=
  (low_any n _ ⟨h1, h2⟩).mono fun _ _ ⟨he, hm⟩ => ⟨he, k, hm.symm⟩
theorem get_no (v s n : Int) (w : World) (h : isF s n = false) :
    Calls Tryz.prog 105 #[.int .u32 v, .int .i64 s, .int .i64 n] w fun e w' => e = .returned (.int .u32 0) ∧ w = w' := by
  have H := Lib.hid h
  clear h
  go_enter Tryz.func105, Tryz.ntmps105
  go_wp2_with fail
  refine (isField_no s n _ H.out).mono ?_
  rintro e w1 ⟨rfl, rfl⟩
  go_wp2
  go_ret
  exact ⟨rfl, rfl⟩
theorem get_yes (v s n : Int) (w : World) (h : isF s n = true) (hv : 0 ≤ v ∧ v < 4294967296) :
    Calls Tryz.prog 105 #[.int .u32 v, .int .i64 s, .int .i64 n] w fun e w' => e = .returned (.int .u32 (fieldOf v s n)) ∧ Drew w w' := by
  have E := Lib.hid (get_bits h hv)
  obtain ⟨h1, h2, h3, h4, h5⟩ := isF_iff.1 h
  obtain ⟨h6, h7⟩ := hv
  have H := Lib.hid h
  clear h
  go_enter Tryz.func105, Tryz.ntmps105
  go_wp2_with fail
  refine (isField_yes s n _ H.out).mono ?_
  rintro e w1 ⟨rfl, rfl⟩
  go_wp2
  go_quiet ((exact low_quiet _ _ _ h3 h4))
  go_wp2
  go_ret
  exact ⟨congrArg (fun x => Ending.returned (.int .u32 x)) E.out, Drew.n _ _⟩
theorem get_any (v s n : Int) (w : World) (hv : 0 ≤ v ∧ v < 4294967296) :
    Calls Tryz.prog 105 #[.int .u32 v, .int .i64 s, .int .i64 n] w fun e w' => e = .returned (.int .u32 (getI v s n)) ∧ Drew w w' := by
  cases h : isF s n
  · refine (get_no v s n w h).mono fun e w' ⟨he, hw⟩ => ⟨?_, Drew.of_eq hw⟩
    rw [he]; simp [getI, h]
  · refine (get_yes v s n w h hv).mono fun e w' ⟨he, hw⟩ => ⟨?_, hw⟩
    rw [he]; simp [getI, h]
end Go.Proofs.YtocdbeonogfopaaGreat
set_option linter.unusedVariables false
set_option linter.unusedSimpArgs false
namespace Go.Proofs.YtocdbeonogfopaaGreat
open Go.RowKit
def kpt (b : Bool) (c1 c0 : Array Value) : Array Value := if b then c1 else c0
def HoldsK (A : Option Addr) (R : Nat) (w0 : World) (fv : Value) (q : Int → Bool) (cs : Array Value) (cs1 : Int → Array Value) : Prop := ∀ (v : Int) (w : World), Only (At A) w0 w → Row w R 61 cs → 0 ≤ v → v < 4294967296 →
  Calls Tryz.prog 145 #[fv, .int .u32 v] w fun e w' => e = .returned (.bool (q v)) ∧ Only (· = R) w w' ∧ Row w' R 61 (kpt (q v) (cs1 v) cs)
theorem HoldsK.move {A : Option Addr} {R : Nat} {w0 w1 : World} {fv : Value} {q : Int → Bool} {cs : Array Value} {cs1 : Int → Array Value} (h : HoldsK A R w0 fv q cs cs1) (ho : Only (At A) w0 w1) : HoldsK A R w1 fv q cs cs1 := by
  intro v w hw
  exact h v w (Only.trans ho hw)
theorem HoldsK.move0 {A : Option Addr} {R : Nat} {w0 w1 : World} {fv : Value} {q : Int → Bool} {cs : Array Value} {cs1 : Int → Array Value} (h : HoldsK A R w0 fv q cs cs1) (ho : Only Nil w0 w1) : HoldsK A R w1 fv q cs cs1 := h.move (ho.mono (fun _ _ h => h.elim))
theorem lookK_any (p A : Option Addr) (cp R : Nat) (cs : Array Value) (cs1 : Int → Array Value) (xs : List Int) (c : Int) (fv : Value) (q : Int → Bool) (w : World) (h : Memo w p A cp xs) (hr : Row w R 61 cs) (hRA : ∀ j, At p j ∨ At A j → j ≠ R) (hf : HoldsK A R w fv q cs cs1) (hx : Words xs) :
    Calls Tryz.prog 139 #[.pointer p, .int .i64 c, fv] w fun e w' =>
      e = .returned (.tuple #[doVal xs 1 c 0 0, .bool (q (wordAt xs c))]) ∧ Only (TurnB R A) w w' ∧ Memo w' p A cp xs ∧ Row w' R 61 (kpt (q (wordAt xs c)) (cs1 (wordAt xs c)) cs) := by
  have hb := word_wf hx c
  have HB := Lib.hid hb
  have hst : doNew xs 1 c 0 0 = xs := doNew_load xs _ _ _
  have HH := Lib.hid h
  have HF := Lib.hid hf
  have ha : ∀ j, At p j ∨ At A j → j < w.heap.size := HH.out.lt
  have HRR := Lib.hid hr
  have HRA := Lib.hid hRA
  have HRL := Lib.hid hr.lt
  clear hr hRA
  have HA := Lib.hid ha
  clear h ha hf hb hx
  go_enter Tryz.func139, Tryz.ntmps139
  go_wp2_with fail
  have e0 := (Only.refl Nil w).alloc (Obj.cells #[Value.int IntKind.i64 0, Value.int IntKind.i64 0, Value.int IntKind.u32 0, Value.int IntKind.u32 0, Value.int IntKind.u32 0] 59)
  refine (do_memo p A cp xs 1 c 0 0 0 _ (HH.out.keep e0)).mono ?_
  obtain ⟨k', c', x', y', hv⟩ := doVal_form xs 1 c 0 0
  rw [oldAt xs 1 c rfl] at hv
  rw [hv, hst]
  rintro e w2 ⟨rfl, hO, hM⟩
  have hS : Only (At A) w w2 := (e0.mono (fun _ _ h => h.elim)).trans hO
  have HR2 := Lib.hid (((HRR.out.alloc (Obj.cells #[Value.int IntKind.i64 0, Value.int IntKind.i64 0, Value.int IntKind.u32 0, Value.int IntKind.u32 0, Value.int IntKind.u32 0] 59)).only hO (fun e => HRA.out _ (.inr e) rfl)).alloc (Obj.cells #[Value.int IntKind.i64 k', Value.int IntKind.i64 c', Value.int IntKind.u32 x', Value.int IntKind.u32 y', Value.int IntKind.u32 (wordAt xs c)] 59))
  have R8 : Row w2 w.heap.size 59 #[.int .i64 0, .int .i64 0, .int .u32 0, .int .u32 0, .int .u32 0] := (Row.new w _ _).only hO (fun h => by have := HA.out _ (.inr h); omega)
  have HR := Lib.hid (R8.alloc (Obj.cells #[Value.int IntKind.i64 k', Value.int IntKind.i64 c', Value.int IntKind.u32 x', Value.int IntKind.u32 y', Value.int IntKind.u32 (wordAt xs c)] 59))
  have HN := Lib.hid (Row.new w2 59 #[Value.int IntKind.i64 k', Value.int IntKind.i64 c', Value.int IntKind.u32 x', Value.int IntKind.u32 y', Value.int IntKind.u32 (wordAt xs c)])
  have HS := Lib.hid (hS.alloc (Obj.cells #[Value.int IntKind.i64 k', Value.int IntKind.i64 c', Value.int IntKind.u32 x', Value.int IntKind.u32 y', Value.int IntKind.u32 (wordAt xs c)] 59))
  have HM := Lib.hid (hM.keep ((Only.refl Nil w2).alloc (Obj.cells #[Value.int IntKind.i64 k', Value.int IntKind.i64 c', Value.int IntKind.u32 x', Value.int IntKind.u32 y', Value.int IntKind.u32 (wordAt xs c)] 59)))
  have HZ := Lib.hid R8.lt
  clear hO R8 hS hM e0 hst
  have HV := Lib.hid hv
  clear hv
  go_wp2_with fail
  generalize w2.alloc (.cells #[.int .i64 k', .int .i64 c', .int .u32 x', .int .u32 y', .int .u32 (wordAt xs c)] 59) = w3 at *
  generalize hg : w2.heap.size = g at *
  have HG := Lib.hid hg
  clear hg
  generalize hwd : wordAt xs c = v at *
  have HWD := Lib.hid hwd
  clear hwd
  have c0 : w3.cell? ⟨g, 0, none⟩ = some (.int .i64 k') := HN.out.cell_ (i := 0) rfl
  have c1 : w3.cell? ⟨g, 1, none⟩ = some (.int .i64 c') := HN.out.cell_ (i := 1) rfl
  have c2 : w3.cell? ⟨g, 2, none⟩ = some (.int .u32 x') := HN.out.cell_ (i := 2) rfl
  have c3 : w3.cell? ⟨g, 3, none⟩ = some (.int .u32 y') := HN.out.cell_ (i := 3) rfl
  have c4 : w3.cell? ⟨g, 4, none⟩ = some (.int .u32 v) := HN.out.cell_ (i := 4) rfl
  have hgg : ¬ g = w.heap.size := by have := HZ.out; omega
  have HGG := Lib.hid hgg
  clear hgg
  refine wp_region_held_drew (S := fun w' => w'.cell? ⟨g, 0, none⟩ = some (.int .i64 k') ∧ w'.cell? ⟨g, 1, none⟩ = some (.int .i64 c') ∧ w'.cell? ⟨g, 2, none⟩ = some (.int .u32 x') ∧ w'.cell? ⟨g, 3, none⟩ = some (.int .u32 y') ∧ w'.cell? ⟨g, 4, none⟩ = some (.int .u32 v)) (by kernel_rfl) ⟨c0, c1, c2, c3, c4⟩ (fun hHeld => ?_)
  refine mtk 0 rfl (.agg #[.int .i64 k', .int .i64 c', .int .u32 x', .int .u32 y', .int .u32 v]) (fun w hSw => ?_) ?_
  · (try dsimp only at hSw)
    go_split_ands
    go_simp
  (try simp only [Act.put, k1, k2, k3])
  refine mtk 1 rfl (fv) (fun w hSw => ?_) ?_
  · (try dsimp only at hSw)
    go_split_ands
    go_simp
  (try simp only [Act.put, k1, k2, k3])
  refine mtk 2 rfl (.pointer (some ⟨g, 4, none⟩)) (fun w hSw => ?_) ?_
  · (try dsimp only at hSw)
    go_split_ands
    go_simp
  (try simp only [Act.put, k1, k2, k3])
  refine mtk 3 rfl (.int .u32 v) (fun w hSw => ?_) ?_
  · (try dsimp only at hSw)
    go_split_ands
    go_simp
  (try simp only [Act.put, k1, k2, k3])
  refine mcl 4 rfl (by kernel_rfl) (by rfl) (fun K hK => ?_)
  go_simp
  have hgR : ¬ g = R := by have := HRL.out; have := HZ.out; omega
  refine (HF.out v _ HS.out.drew HR2.out.drew HB.out.1 HB.out.2).mono ?_
  rintro e w4 ⟨rfl, hO, hrow⟩
  have hO4 : Only (· = R) w3 w4 := (Only.refl (· = R) w3).drew.trans hO
  have HRW := Lib.hid (hrow.only (five_only (Only.refl (· = w.heap.size) w4) (.inr rfl) (.int .i64 k') (.int .i64 c') (.int .u32 x') (.int .u32 y') (.int .u32 v)) (by have := HRL.out; omega))
  have HMM := Lib.hid ((HM.out.far hO4 (fun j hj => HRA.out j hj)))
  clear hrow
  have HN4 := Lib.hid (HN.out.only hO4 hgR)
  have HR4 := Lib.hid (HR.out.only hO4 (by have := HRL.out; omega))
  have HO4 := Lib.hid hO4
  refine hK.out _ _ ⟨HN4.out.cell_ (i := 0) rfl, HN4.out.cell_ (i := 1) rfl, HN4.out.cell_ (i := 2) rfl, HN4.out.cell_ (i := 3) rfl, HN4.out.cell_ (i := 4) rfl⟩ (fun hHeld2 => ?_)
  clear hK K hHeld hO hO4 hgR c0 c1 c2 c3 c4
  (try simp only [Act.put, k1, k2, k3])
  have d0 : w4.cell? ⟨w.heap.size, 0, none⟩ = some (.int .i64 0) := HR4.out.cell_ (i := 0) rfl
  have d1 : w4.cell? ⟨w.heap.size, 1, none⟩ = some (.int .i64 0) := HR4.out.cell_ (i := 1) rfl
  have d2 : w4.cell? ⟨w.heap.size, 2, none⟩ = some (.int .u32 0) := HR4.out.cell_ (i := 2) rfl
  have d3 : w4.cell? ⟨w.heap.size, 3, none⟩ = some (.int .u32 0) := HR4.out.cell_ (i := 3) rfl
  have d4 : w4.cell? ⟨w.heap.size, 4, none⟩ = some (.int .u32 0) := HR4.out.cell_ (i := 4) rfl
  have f0 : w4.frozen? ⟨w.heap.size, 0, none⟩ = false := HR4.out.frozen 0
  have f1 : w4.frozen? ⟨w.heap.size, 1, none⟩ = false := HR4.out.frozen 1
  have f2 : w4.frozen? ⟨w.heap.size, 2, none⟩ = false := HR4.out.frozen 2
  have f3 : w4.frozen? ⟨w.heap.size, 3, none⟩ = false := HR4.out.frozen 3
  have f4 : w4.frozen? ⟨w.heap.size, 4, none⟩ = false := HR4.out.frozen 4
  refine mcl 5 rfl (by kernel_rfl) (by rfl) (fun K hK => ?_)
  go_simp
  have HN5 := Lib.hid (HN4.out.only (five_only (Only.refl (· = w.heap.size) w4) (.inr rfl) (.int .i64 k') (.int .i64 c') (.int .u32 x') (.int .u32 y') (.int .u32 v)) HGG.out)
  refine hK.out _ _ ⟨HN5.out.cell_ (i := 0) rfl, HN5.out.cell_ (i := 1) rfl, HN5.out.cell_ (i := 2) rfl, HN5.out.cell_ (i := 3) rfl, HN5.out.cell_ (i := 4) rfl⟩ (fun hHeld3 => ?_)
  clear hK K hHeld2 d0 d1 d2 d3 d4 f0 f1 f2 f3 f4
  (try simp only [Act.put, k1, k2, k3])
  refine mtk 6 rfl (.bool (q v)) (fun w hSw => ?_) ?_
  · (try dsimp only at hSw)
    go_split_ands
    go_simp
  (try simp only [Act.put, k1, k2, k3])
  refine wpAnyH_done (by kernel_rfl) ?_ _
  go_wp2
  have ho9 := five_only ((HS.out.mono (T := TurnB R A) (fun _ _ e => .inr e)).trans (HO4.out.mono (T := TurnB R A) (fun _ _ e => .inl e))) (.inl (Nat.le_refl _)) (.int .i64 k') (.int .i64 c') (.int .u32 x') (.int .u32 y') (.int .u32 v)
  have hm9 := HMM.out.far (five_only (Only.refl (· = w.heap.size) w4) (.inr rfl) (.int .i64 k') (.int .i64 c') (.int .u32 x') (.int .u32 y') (.int .u32 v)) (fun j hj h => by have := HA.out j hj; omega)
  exact post_row_tmp (P := Tryz.prog) Tryz.results139 (t := 59) (g := w.heap.size) (cs := #[.int .i64 k', .int .i64 c', .int .u32 x', .int .u32 y', .int .u32 v]) rfl (five HR4.out _ _ _ _ _) Tryz.underlying59 rfl (by kernel_rfl) rfl ⟨by rw [HV.out, HWD.out]; rfl, ho9, hm9, by rw [HWD.out]; exact HRW.out⟩
end Go.Proofs.YtocdbeonogfopaaGreat
