import Derived.Test.YtgfippbcgneegaaProg
import Derived.IntWalk
import Derived.Laws.BitsAllLaws
import Derived.Laws.BitsLemmas
import Derived.Laws.Shifts
import Derived.Test.YtgfippbcgneegaaP11
import Derived.Test.YtgfippbcgneegaaP1
set_option linter.unusedVariables false
set_option linter.unusedSimpArgs false
namespace Go.Proofs.Ytgfippbcgneegaa
open Go.RowKit
def pfCase (op line : Int) : Nat :=
  if op = 1 ∧ line = 0 then 1 else if op = 1 ∧ line = 1 then 2 else if op = 2 ∧ line = 0 then 3 else if op = 3 ∧ line = 0 then 4 else if op = 3 ∧ line = 1 then 5 else if op = 3 ∧ line = 2 then 6
  else if op = 3 ∧ line = 3 then 7 else if op = 3 ∧ line = 4 then 8 else if op = 4 ∧ line = 0 then 9 else if op = 8 ∧ line = 0 then 9 else if op = 4 ∧ line = 1 then 10 else if op = 8 ∧ line = 1 then 11
  else if op = 4 ∧ line = 2 then 12 else if op = 8 ∧ line = 2 then 12 else if op = 4 ∧ line = 3 then 13 else if op = 8 ∧ line = 3 then 13 else if op = 5 ∧ line = 0 then 14 else if op = 5 ∧ line = 1 then 15
  else if op = 6 ∧ line = 0 then 16 else if op = 7 ∧ line = 0 then 16 else if op = 6 ∧ line = 1 then 17 else if op = 7 ∧ line = 1 then 17 else if op = 6 ∧ line = 2 then 18 else if op = 7 ∧ line = 2 then 18
  else if op = 6 ∧ line = 3 then 19 else if op = 7 ∧ line = 3 then 19 else if op = 6 ∧ line = 4 then 20 else if op = 7 ∧ line = 4 then 21 else if op = 6 ∧ line = 5 then 22 else if op = 7 ∧ line = 5 then 22
  else if op = 6 ∧ line = 6 then 23 else if op = 7 ∧ line = 6 then 23 else if op = 6 ∧ line = 7 then 24 else if op = 7 ∧ line = 7 then 25 else if op = 7 ∧ line = 8 then 26 else if op = 6 ∧ line = 9 then 27
  else if op = 7 ∧ line = 9 then 27 else 0
def bitsI (v : Int) : Int := v % 4
def presI (b : Int) : Int := 2 + b % 2
def LS.pCome (r : LS) : LS := if bitsI (wordAt r.xs 0) = 0 then ((((r.doA 3 0 256 0).keepA (wordAt r.xs 0)).note 2 1).note 4 0).fin true else (((r.doA 3 0 256 0).keepA (wordAt r.xs 0)).note 2 1).go 1
def LS.left (r : LS) (v : Int) : Bool := bitsI v != bitsI r.a
def LS.pAdmit (r : LS) (c : Int) (q : Int → Bool) : LS := if (r.stepR c q).done then ((r.wait c q).noteIf (r.stepR c q).seen 4).fin true else (r.wait c q).noteIf (r.stepR c q).seen 4
def LS.pDepart (r : LS) : LS := (((r.doA 3 1 256 0).note 6 0).wake 1).fin true
def LS.pDraw (r : LS) : LS := (((r.doA 3 2 1 0).keepA (wordAt r.xs 2)).note 2 2).go 1
def LS.pTurn (r : LS) : LS := if (r.stepR 3 r.mine).done then (r.wait 3 r.mine).go 2 else r.wait 3 r.mine
def LS.pKeep (r : LS) (n : Int) : LS := ((r.doA 1 4 0 0).keepB (wordAt r.xs 4)).go n
def LS.pAppear (r : LS) (n : Int) : LS := (((r.doA 3 0 (presI r.b) 0).keepA (wordAt r.xs 0)).note 3 0).go n
def LS.pVanish (r : LS) (inn what : Int) : LS := (((r.doA 3 0 ((inn - presI r.b) % 4294967296) 0).note what 0).wake 0).go 2
def LS.pCount (r : LS) : LS := (r.doA 2 4 ((r.b + 1) % 4294967296) 0).go 3
def LS.pPass (r : LS) (ok : Bool) : LS := (((r.doA 3 3 1 0).note 8 0).wake 3).fin ok
def LS.pLookIn (r : LS) : LS := if bitsI (wordAt r.xs 0) = 0 then ((r.doA 1 0 0 0).keepA (wordAt r.xs 0)).go 1 else (((r.doA 1 0 0 0).keepA (wordAt r.xs 0)).note 5 0).fin false
def LS.was (r : LS) (c : Int) : Bool := there r.xs c && (wordAt r.xs c == r.a)
def LS.pSlip (r : LS) : LS := if r.was 0 then (((r.doA 5 0 r.a ((r.a + 256) % 4294967296)).note 2 1).note 4 0).fin true else (r.doA 5 0 r.a ((r.a + 256) % 4294967296)).go 0
def LS.pLook (r : LS) (c n : Int) : LS := ((r.doA 1 c 0 0).keepA (wordAt r.xs c)).go n
def LS.pWeighT (r : LS) : LS :=
  if 0 < aheadI r.a (wordAt r.xs 3) then (((r.doA 1 3 0 0).keepB (wordAt r.xs 3)).note 5 0).fin false
  else if aheadI r.a (wordAt r.xs 3) < 0 then ((r.doA 1 3 0 0).keepB (wordAt r.xs 3)).go 0 else ((r.doA 1 3 0 0).keepB (wordAt r.xs 3)).go 2
def LS.pClaim (r : LS) : LS := if r.was 2 then ((r.doA 5 2 r.a ((r.a + 1) % 4294967296)).note 2 2).go 3 else (r.doA 5 2 r.a ((r.a + 1) % 4294967296)).go 0
def LS.pWeighR (r : LS) (own : Int) : LS := if aheadI r.a (wordAt r.xs 1) ≤ own then ((r.doA 1 1 0 0).keepB (wordAt r.xs 1)).go 5 else (((r.doA 1 1 0 0).keepB (wordAt r.xs 1)).note 5 0).go 9
def LS.butMe (r : LS) (v : Int) : Bool := v == (r.a - 256) % 4294967296
def LS.pOthers (r : LS) : LS := if (r.stepR 1 r.butMe).done then ((r.wait 1 r.butMe).noteIf (r.stepR 1 r.butMe).seen 9).go 8 else (r.wait 1 r.butMe).noteIf (r.stepR 1 r.butMe).seen 9
def LS.pStop (r : LS) : LS := (r.doA 3 1 256 0).fin true
def LS.pf (r : LS) : LS :=
  match pfCase r.op r.line with
  | 1 => r.pCome
  | 2 => r.pAdmit 0 r.left
  | 3 => r.pDepart
  | 4 => r.pDraw
  | 5 => r.pTurn
  | 6 => r.pKeep 3
  | 7 => r.pAppear 4
  | 8 => r.pAdmit 1 r.mine
  | 9 => r.pKeep 1
  | 10 => r.pVanish 0 7
  | 11 => r.pVanish 256 10
  | 12 => r.pCount
  | 13 => r.pPass true
  | 14 => r.pLookIn
  | 15 => r.pSlip
  | 16 => r.pLook 2 1
  | 17 => r.pWeighT
  | 18 => r.pClaim
  | 19 => r.pLook 0 4
  | 20 => r.pWeighR 0
  | 21 => r.pWeighR 256
  | 22 => r.pKeep 6
  | 23 => r.pAppear 7
  | 24 => r.pAdmit 1 r.mine
  | 25 => r.pOthers
  | 26 => r.pStop
  | 27 => r.pPass false
  | _ => r
end Go.Proofs.Ytgfippbcgneegaa
namespace Go.Proofs.Ytgfippbcgneegaa
open Go.RowKit
theorem ahead_any (a b : Int) (w : World) :
    Calls Try.prog 105 #[.int .u32 a, .int .u32 b] w fun e w' => e = .returned (.int .i64 (aheadI a b)) ∧ w = w' := by
  go_enter Try.func105, Try.ntmps105
  go_wp2
  go_ret
  refine ⟨congrArg (fun x => Ending.returned (.int .i64 x)) ?_, rfl⟩
  simp only [wrap32, wrap64, aheadI]
  omega
end Go.Proofs.Ytgfippbcgneegaa
namespace Go.Proofs.Ytgfippbcgneegaa
def isF (s n : Int) : Bool := decide (0 ≤ s ∧ s ≤ 31 ∧ 1 ≤ n ∧ n ≤ 32 ∧ s + n ≤ 32)
def pw (n : Int) : Int := 2 ^ n.toNat
def fieldOf (v s n : Int) : Int := v / pw s % pw n
def getI (v s n : Int) : Int := if isF s n then fieldOf v s n else 0
theorem isF_iff {s n : Int} : isF s n = true ↔ 0 ≤ s ∧ s ≤ 31 ∧ 1 ≤ n ∧ n ≤ 32 ∧ s + n ≤ 32 := by simp [isF]
theorem pw_pos (n : Int) : 0 < pw n := Int.pow_pos (by decide)
theorem pw_add {s n : Int} (hs : 0 ≤ s) (hn : 0 ≤ n) : pw (s + n) = pw s * pw n := by
  unfold pw; rw [Int.toNat_add hs hn, Int.pow_add]
theorem pw_32 : pw 32 = 4294967296 := rfl
theorem ones_shr {n : Int} (h : 1 ≤ n ∧ n ≤ 32) : (4294967295 : Int) / 2 ^ (32 - n).toNat = pw n - 1 := by
  have e2 : pw n * pw (32 - n) = 4294967296 := by rw [← pw_add (by omega) (by omega), show n + (32 - n) = 32 by omega, pw_32]
  show 4294967295 / pw (32 - n) = pw n - 1
  have hp := pw_pos (32 - n)
  have e3 : (4294967295 : Int) = (pw (32 - n) - 1) + (pw n - 1) * pw (32 - n) := by rw [Int.sub_mul, e2]; omega
  rw [e3, Int.add_mul_ediv_right _ _ (by omega), Int.ediv_eq_zero_of_lt (by omega) (by omega), Int.zero_add]
theorem and_low {x n : Int} (hx : 0 ≤ x ∧ x < 4294967296) (hn : 0 ≤ n ∧ n ≤ 32) : bits .and .u32 x (pw n - 1) = x % pw n := by
  obtain ⟨m, rfl⟩ := Int.eq_ofNat_of_zero_le hn.1
  have := bits_mask .u32 32 (by decide) (fun k h0 h1 => by rw [IntKind.wrap_u32']; omega) m (by omega) x hx.1 (by simpa using hx.2)
  simpa [pw] using this
theorem get_bits {v s n : Int} (h : isF s n = true) (hv : 0 ≤ v ∧ v < 4294967296) : bits .and .u32 (v / pw s) (pw n - 1) = fieldOf v s n := by
  obtain ⟨hs, hs1, hn, hn1, hsn⟩ := isF_iff.1 h
  have hp := pw_pos s
  refine and_low ⟨Int.ediv_nonneg hv.1 (by omega), Int.lt_of_le_of_lt (Int.ediv_le_self _ hv.1) hv.2⟩ ⟨by omega, hn1⟩
end Go.Proofs.Ytgfippbcgneegaa
set_option linter.unusedVariables false
set_option linter.unusedSimpArgs false
namespace Go.Proofs.Ytgfippbcgneegaa
open Go.RowKit
theorem isField_any (s n : Int) (w : World) :
    Calls Try.prog 121 #[.int .i64 s, .int .i64 n] w fun e w' => e = .returned (.bool (isF s n)) ∧ w = w' := by
  by_cases h : 0 ≤ s ∧ s ≤ 31 ∧ 1 ≤ n ∧ n ≤ 32
  · obtain ⟨h1, h2, h3, h4⟩ := h
    have e : isF s n = decide (s + n ≤ 32) := by simp [isF, h1, h2, h3, h4]
    have E := Lib.hid e
    clear e
    go_enter Try.func121, Try.ntmps121
    go_wp2
    go_ret
    exact ⟨by rw [E.out]; rfl, rfl⟩
  · have e : isF s n = false := by
      have : ¬ (0 ≤ s ∧ s ≤ 31 ∧ 1 ≤ n ∧ n ≤ 32 ∧ s + n ≤ 32) := by omega
      simp [isF, this]
    have E := Lib.hid e
    have H := Lib.hid h
    clear e h
    by_cases h1 : 0 ≤ s
    · by_cases h2 : s ≤ 31
      · by_cases h3 : 1 ≤ n
        · have h4 : 32 < n := by have := H.out; omega
          go_enter Try.func121, Try.ntmps121
          go_wp2
          go_ret
          exact ⟨by rw [E.out]; rfl, rfl⟩
        · have h4 : n < 1 := by omega
          go_enter Try.func121, Try.ntmps121
          go_wp2
          go_ret
          exact ⟨by rw [E.out]; rfl, rfl⟩
      · have h4 : 31 < s := by omega
        go_enter Try.func121, Try.ntmps121
        go_wp2
        go_ret
        exact ⟨by rw [E.out]; rfl, rfl⟩
    · have h4 : s < 0 := by omega
      go_enter Try.func121, Try.ntmps121
      go_wp2
      go_ret
      exact ⟨by rw [E.out]; rfl, rfl⟩
theorem low_any (n : Int) (w : World) (h : 1 ≤ n ∧ n ≤ 32) :
    Calls Try.prog 122 #[.int .i64 n] w fun e w' => e = .returned (.int .u32 (pw n - 1)) ∧ w = w' := by
  have E := Lib.hid (ones_shr h)
  obtain ⟨h1, h2⟩ := h
  go_enter Try.func122, Try.ntmps122
  go_wp2
  go_ret
  exact ⟨congrArg (fun x => Ending.returned (.int .u32 x)) E.out, rfl⟩
theorem isField_yes (s n : Int) (w : World) (h : isF s n = true) : Calls Try.prog 121 #[.int .i64 s, .int .i64 n] w fun e w' => e = .returned (.bool true) ∧ w = w' := by
  have := isField_any s n w; rwa [h] at this
theorem isField_no (s n : Int) (w : World) (h : isF s n = false) : Calls Try.prog 121 #[.int .i64 s, .int .i64 n] w fun e w' => e = .returned (.bool false) ∧ w = w' := by
  have := isField_any s n w; rwa [h] at this
theorem low_quiet (n : Int) (w : World) (k : Nat) (h1 : 1 ≤ n) (h2 : n ≤ 32) :
    Calls Try.prog 122 #[.int .i64 n] (w.drewN k) fun e w' => e = .returned (.int .u32 (pw n - 1)) ∧ ∃ m, w' = w.drewN m :=
  (low_any n _ ⟨h1, h2⟩).mono fun _ _ ⟨he, hm⟩ => ⟨he, k, hm.symm⟩
theorem get_no (v s n : Int) (w : World) (h : isF s n = false) :
    Calls Try.prog 100 #[.int .u32 v, .int .i64 s, .int .i64 n] w fun e w' => e = .returned (.int .u32 0) ∧ w = w' := by
  have H := Lib.hid h
  clear h
  go_enter Try.func100, Try.ntmps100
  go_wp2_with fail
  refine (isField_no s n _ H.out).mono ?_
  rintro e w1 ⟨rfl, rfl⟩
  go_wp2
  go_ret
  exact ⟨rfl, rfl⟩
theorem get_yes (v s n : Int) (w : World) (h : isF s n = true) (hv : 0 ≤ v ∧ v < 4294967296) :
    Calls Try.prog 100 #[.int .u32 v, .int .i64 s, .int .i64 n] w fun e w' => e = .returned (.int .u32 (fieldOf v s n)) ∧ Drew w w' := by
  have E := Lib.hid (get_bits h hv)
  obtain ⟨h1, h2, h3, h4, h5⟩ := isF_iff.1 h
  obtain ⟨h6, h7⟩ := hv
  have H := Lib.hid h
  clear h
  go_enter Try.func100, Try.ntmps100
  go_wp2_with fail
  refine (isField_yes s n _ H.out).mono ?_
  rintro e w1 ⟨rfl, rfl⟩
  go_wp2
  go_quiet ((exact low_quiet _ _ _ h3 h4))
  go_wp2
  go_ret
  exact ⟨congrArg (fun x => Ending.returned (.int .u32 x)) E.out, Drew.n _ _⟩
theorem get_any (v s n : Int) (w : World) (hv : 0 ≤ v ∧ v < 4294967296) :
    Calls Try.prog 100 #[.int .u32 v, .int .i64 s, .int .i64 n] w fun e w' => e = .returned (.int .u32 (getI v s n)) ∧ Drew w w' := by
  cases h : isF s n
  · refine (get_no v s n w h).mono fun e w' ⟨he, hw⟩ => ⟨?_, Drew.of_eq hw⟩
    rw [he]; simp [getI, h]
  · refine (get_yes v s n w h hv).mono fun e w' ⟨he, hw⟩ => ⟨?_, hw⟩
    rw [he]; simp [getI, h]
end Go.Proofs.Ytgfippbcgneegaa
set_option linter.unusedVariables false
set_option linter.unusedSimpArgs false
namespace Go.Proofs.Ytgfippbcgneegaa
open Go.RowKit
theorem get_bits2 (v : Int) : getI v 0 2 = bitsI v := by
  show v / pw 0 % pw 2 = v % 4
  rw [show pw 0 = 1 from rfl, show pw 2 = 4 from rfl, Int.ediv_one]
theorem get_bit1 (v : Int) : getI v 0 1 = v % 2 := by
  show v / pw 0 % pw 1 = v % 2
  rw [show pw 0 = 1 from rfl, show pw 1 = 2 from rfl, Int.ediv_one]
theorem bits_any (v : Int) (w : World) (hv : 0 ≤ v ∧ v < 4294967296) :
    Calls Try.prog 64 #[.int .u32 v] w fun e w' => e = .returned (.int .u32 (bitsI v)) ∧ Drew w w' := by
  have HV := Lib.hid hv
  clear hv
  go_enter Try.func64, Try.ntmps64
  go_wp2_with fail
  refine (get_any v 0 2 _ HV.out).mono ?_
  rw [get_bits2]
  rintro e w1 ⟨rfl, hd⟩
  have HD := Lib.hid hd
  clear hd
  go_wp2
  go_ret
  exact ⟨rfl, HD.out⟩
theorem bits_quiet (v : Int) (w : World) (k : Nat) (hv : 0 ≤ v ∧ v < 4294967296) :
    Calls Try.prog 64 #[.int .u32 v] (w.drewN k) fun e w' => e = .returned (.int .u32 (bitsI v)) ∧ ∃ m, w' = w.drewN m :=
  (bits_any v _ hv).mono fun _ _ ⟨he, hm⟩ => ⟨he, hm.quiet⟩
theorem pres_any (v : Int) (w : World) (hv : 0 ≤ v ∧ v < 4294967296) :
    Calls Try.prog 73 #[.int .u32 v] w fun e w' => e = .returned (.int .u32 (presI v)) ∧ Drew w w' := by
  have HV := Lib.hid hv
  clear hv
  go_enter Try.func73, Try.ntmps73
  go_wp2_with fail
  refine (get_any v 0 1 _ HV.out).mono ?_
  rw [get_bit1]
  generalize hb : v % 2 = b
  have hb2 : 0 ≤ b ∧ b < 2 := by omega
  have HB := Lib.hid (show presI v = 2 + b by unfold presI; rw [hb])
  clear hb
  rintro e w1 ⟨rfl, hd⟩
  have HD := Lib.hid hd
  clear hd
  go_wp2
  go_ret
  refine ⟨congrArg (fun x => Ending.returned (.int .u32 x)) ?_, HD.out⟩
  rw [HB.out]
theorem depart_run (B : Nat) (p A : Option Addr) (cp : Nat) (nv : Value) (r : LS) (w : World) (h : RunP w B p A cp nv r) (hl : r.ns.length ≤ 900) (hx : Words r.xs) : Calls Try.prog 44 #[Value.pointer (some ⟨B, 0, none⟩)] w (Done B p A cp w (.tuple #[]) r.pDepart) := by
  have HP0 := Lib.hid h
  have HL := Lib.hid hl
  have HX := Lib.hid hx
  have HO0 := Lib.hid (Only.refl (TurnB B A) w)
  clear h hl hx
  go_enter Try.func44, Try.ntmps44
  go_wp2_with fail
  refine (add_run B p A cp nv r 1 256 _ HP0.out).mono ?_
  rintro e w1 ⟨rfl, hO, nv1, hP⟩
  have HO1 := Lib.hid (HO0.out.trans hO)
  have HP1 := Lib.hid hP
  clear hO hP HP0 HO0
  go_wp2_with fail
  refine (note_run B p A cp nv1 _ 6 0 _ HP1.out (show (r.doA 3 1 256 0).ns.length ≤ 1000 from Nat.le_trans HL.out (by decide))).mono ?_
  rintro e w2 ⟨rfl, hO, nv2, hP⟩
  have HO2 := Lib.hid (HO1.out.trans hO)
  have HP2 := Lib.hid hP
  clear hO hP HP1 HO1
  go_wp2_with fail
  refine (wake_run B p A cp nv2 _ 1 _ HP2.out).mono ?_
  rintro e w3 ⟨rfl, hO, nv3, hP⟩
  have HO3 := Lib.hid (HO2.out.trans hO)
  have HP3 := Lib.hid hP
  clear hO hP HP2 HO2
  go_wp2_with fail
  refine (end_run B p A cp nv3 _ _ true HP3.out).mono ?_
  rintro e w9 ⟨rfl, hO, nv9, hP⟩
  have HO9 := Lib.hid (HO3.out.trans hO)
  have HP9 := Lib.hid hP
  clear hO hP
  go_wp2
  go_returns
  exact ⟨rfl, HO9.out, nv9, HP9.out⟩
theorem pass_run (B : Nat) (p A : Option Addr) (cp : Nat) (nv : Value) (r : LS) (ok : Bool) (w : World) (h : RunP w B p A cp nv r) (hl : r.ns.length ≤ 900) (hx : Words r.xs) : Calls Try.prog 52 #[Value.pointer (some ⟨B, 0, none⟩), .bool ok] w (Done B p A cp w (.tuple #[]) (r.pPass ok)) := by
  have HP0 := Lib.hid h
  have HL := Lib.hid hl
  have HX := Lib.hid hx
  have HO0 := Lib.hid (Only.refl (TurnB B A) w)
  clear h hl hx
  go_enter Try.func52, Try.ntmps52
  go_wp2_with fail
  refine (add_run B p A cp nv r 3 1 _ HP0.out).mono ?_
  rintro e w1 ⟨rfl, hO, nv1, hP⟩
  have HO1 := Lib.hid (HO0.out.trans hO)
  have HP1 := Lib.hid hP
  clear hO hP HP0 HO0
  go_wp2_with fail
  refine (note_run B p A cp nv1 _ 8 0 _ HP1.out (show (r.doA 3 3 1 0).ns.length ≤ 1000 from Nat.le_trans HL.out (by decide))).mono ?_
  rintro e w2 ⟨rfl, hO, nv2, hP⟩
  have HO2 := Lib.hid (HO1.out.trans hO)
  have HP2 := Lib.hid hP
  clear hO hP HP1 HO1
  go_wp2_with fail
  refine (wake_run B p A cp nv2 _ 3 _ HP2.out).mono ?_
  rintro e w3 ⟨rfl, hO, nv3, hP⟩
  have HO3 := Lib.hid (HO2.out.trans hO)
  have HP3 := Lib.hid hP
  clear hO hP HP2 HO2
  go_wp2_with fail
  refine (end_run B p A cp nv3 _ _ ok HP3.out).mono ?_
  rintro e w9 ⟨rfl, hO, nv9, hP⟩
  have HO9 := Lib.hid (HO3.out.trans hO)
  have HP9 := Lib.hid hP
  clear hO hP
  go_wp2
  go_returns
  exact ⟨rfl, HO9.out, nv9, HP9.out⟩
theorem stop_run (B : Nat) (p A : Option Addr) (cp : Nat) (nv : Value) (r : LS) (w : World) (h : RunP w B p A cp nv r) (hl : r.ns.length ≤ 900) (hx : Words r.xs) : Calls Try.prog 81 #[Value.pointer (some ⟨B, 0, none⟩)] w (Done B p A cp w (.tuple #[]) r.pStop) := by
  have HP0 := Lib.hid h
  have HL := Lib.hid hl
  have HX := Lib.hid hx
  have HO0 := Lib.hid (Only.refl (TurnB B A) w)
  clear h hl hx
  go_enter Try.func81, Try.ntmps81
  go_wp2_with fail
  refine (add_run B p A cp nv r 1 256 _ HP0.out).mono ?_
  rintro e w1 ⟨rfl, hO, nv1, hP⟩
  have HO1 := Lib.hid (HO0.out.trans hO)
  have HP1 := Lib.hid hP
  clear hO hP HP0 HO0
  go_wp2_with fail
  refine (end_run B p A cp nv1 _ _ true HP1.out).mono ?_
  rintro e w9 ⟨rfl, hO, nv9, hP⟩
  have HO9 := Lib.hid (HO1.out.trans hO)
  have HP9 := Lib.hid hP
  clear hO hP
  go_wp2
  go_returns
  exact ⟨rfl, HO9.out, nv9, HP9.out⟩
theorem draw_run (B : Nat) (p A : Option Addr) (cp : Nat) (nv : Value) (r : LS) (w : World) (h : RunP w B p A cp nv r) (hl : r.ns.length ≤ 900) (hx : Words r.xs) : Calls Try.prog 45 #[Value.pointer (some ⟨B, 0, none⟩)] w (Done B p A cp w (.tuple #[]) r.pDraw) := by
  have HP0 := Lib.hid h
  have HL := Lib.hid hl
  have HX := Lib.hid hx
  have HO0 := Lib.hid (Only.refl (TurnB B A) w)
  clear h hl hx
  go_enter Try.func45, Try.ntmps45
  go_wp2_with fail
  refine (add_run B p A cp nv r 2 1 _ HP0.out).mono ?_
  rintro e w1 ⟨rfl, hO, nv1, hP⟩
  have HO1 := Lib.hid (HO0.out.trans hO)
  have HP1 := Lib.hid hP
  clear hO hP HP0 HO0
  have c6 : w1.cell? ⟨B, 6, none⟩ = some (.int .u32 r.a) := HP1.out.row.cell_ (i := 6) rfl
  have f6 : w1.frozen? ⟨B, 6, none⟩ = false := HP1.out.row.frozen 6
  have HP2 := Lib.hid (HP1.out.setA (wordAt r.xs 2))
  have HO2 := Lib.hid (HO1.out.setCell (p := ⟨B, 6, none⟩) (.inr (.inl rfl)) (.int .u32 (wordAt r.xs 2)))
  clear HP1 HO1
  go_wp2_with fail
  refine (note_run B p A cp nv1 _ 2 2 _ HP2.out (show (r.doA 3 2 1 0).ns.length ≤ 1000 from Nat.le_trans HL.out (by decide))).mono ?_
  rintro e w3 ⟨rfl, hO, nv3, hP⟩
  have HO3 := Lib.hid (HO2.out.trans hO)
  have HP3 := Lib.hid hP
  clear hO hP HP2 HO2
  go_wp2_with fail
  refine (go_run B p A cp nv3 _ 1 _ HP3.out).mono ?_
  rintro e w9 ⟨rfl, hO, nv9, hP⟩
  have HO9 := Lib.hid (HO3.out.trans hO)
  have HP9 := Lib.hid hP
  clear hO hP
  go_wp2
  go_returns
  exact ⟨rfl, HO9.out, nv9, HP9.out⟩
theorem keep_run (B : Nat) (p A : Option Addr) (cp : Nat) (nv : Value) (r : LS) (n : Int) (w : World) (h : RunP w B p A cp nv r) (hl : r.ns.length ≤ 900) (hx : Words r.xs) : Calls Try.prog 47 #[Value.pointer (some ⟨B, 0, none⟩), .int .i64 n] w (Done B p A cp w (.tuple #[]) (r.pKeep n)) := by
  have HP0 := Lib.hid h
  have HL := Lib.hid hl
  have HX := Lib.hid hx
  have HO0 := Lib.hid (Only.refl (TurnB B A) w)
  clear h hl hx
  go_enter Try.func47, Try.ntmps47
  go_wp2_with fail
  refine (load_run B p A cp nv r 4 _ HP0.out).mono ?_
  rintro e w1 ⟨rfl, hO, nv1, hP⟩
  have HO1 := Lib.hid (HO0.out.trans hO)
  have HP1 := Lib.hid hP
  clear hO hP HP0 HO0
  have c7 : w1.cell? ⟨B, 7, none⟩ = some (.int .u32 r.b) := HP1.out.row.cell_ (i := 7) rfl
  have f7 : w1.frozen? ⟨B, 7, none⟩ = false := HP1.out.row.frozen 7
  have HP2 := Lib.hid (HP1.out.setB (wordAt r.xs 4))
  have HO2 := Lib.hid (HO1.out.setCell (p := ⟨B, 7, none⟩) (.inr (.inl rfl)) (.int .u32 (wordAt r.xs 4)))
  clear HP1 HO1
  go_wp2_with fail
  refine (go_run B p A cp nv1 _ n _ HP2.out).mono ?_
  rintro e w9 ⟨rfl, hO, nv9, hP⟩
  have HO9 := Lib.hid (HO2.out.trans hO)
  have HP9 := Lib.hid hP
  clear hO hP
  go_wp2
  go_returns
  exact ⟨rfl, HO9.out, nv9, HP9.out⟩
theorem look_run (B : Nat) (p A : Option Addr) (cp : Nat) (nv : Value) (r : LS) (c n : Int) (w : World) (h : RunP w B p A cp nv r) (hl : r.ns.length ≤ 900) (hx : Words r.xs) : Calls Try.prog 76 #[Value.pointer (some ⟨B, 0, none⟩), .int .i64 c, .int .i64 n] w (Done B p A cp w (.tuple #[]) (r.pLook c n)) := by
  have HP0 := Lib.hid h
  have HL := Lib.hid hl
  have HX := Lib.hid hx
  have HO0 := Lib.hid (Only.refl (TurnB B A) w)
  clear h hl hx
  go_enter Try.func76, Try.ntmps76
  go_wp2_with fail
  refine (load_run B p A cp nv r c _ HP0.out).mono ?_
  rintro e w1 ⟨rfl, hO, nv1, hP⟩
  have HO1 := Lib.hid (HO0.out.trans hO)
  have HP1 := Lib.hid hP
  clear hO hP HP0 HO0
  have c6 : w1.cell? ⟨B, 6, none⟩ = some (.int .u32 r.a) := HP1.out.row.cell_ (i := 6) rfl
  have f6 : w1.frozen? ⟨B, 6, none⟩ = false := HP1.out.row.frozen 6
  have HP2 := Lib.hid (HP1.out.setA (wordAt r.xs c))
  have HO2 := Lib.hid (HO1.out.setCell (p := ⟨B, 6, none⟩) (.inr (.inl rfl)) (.int .u32 (wordAt r.xs c)))
  clear HP1 HO1
  go_wp2_with fail
  refine (go_run B p A cp nv1 _ n _ HP2.out).mono ?_
  rintro e w9 ⟨rfl, hO, nv9, hP⟩
  have HO9 := Lib.hid (HO2.out.trans hO)
  have HP9 := Lib.hid hP
  clear hO hP
  go_wp2
  go_returns
  exact ⟨rfl, HO9.out, nv9, HP9.out⟩
theorem appear_run (B : Nat) (p A : Option Addr) (cp : Nat) (nv : Value) (r : LS) (n : Int) (w : World) (h : RunP w B p A cp nv r) (hl : r.ns.length ≤ 900) (hx : Words r.xs) (hb : 0 ≤ r.b ∧ r.b < 4294967296) : Calls Try.prog 48 #[Value.pointer (some ⟨B, 0, none⟩), .int .i64 n] w (Done B p A cp w (.tuple #[]) (r.pAppear n)) := by
  have HBB := Lib.hid hb
  clear hb
  have HP0 := Lib.hid h
  have HL := Lib.hid hl
  have HX := Lib.hid hx
  have HO0 := Lib.hid (Only.refl (TurnB B A) w)
  clear h hl hx
  have c7 : w.cell? ⟨B, 7, none⟩ = some (.int .u32 r.b) := HP0.out.row.cell_ (i := 7) rfl
  go_enter Try.func48, Try.ntmps48
  go_wp2_with fail
  clear c7
  refine (pres_any r.b _ HBB.out).mono ?_
  rintro e w1 ⟨rfl, hd⟩
  have HP0b := Lib.hid (HP0.out.keep hd.only)
  have HO0b : Hid (Only (TurnB B A) w w1) := Lib.hid (HO0.out.trans hd.only)
  clear hd HP0 HO0
  go_wp2_with fail
  refine (add_run B p A cp nv r 0 (presI r.b) _ HP0b.out).mono ?_
  rintro e w2 ⟨rfl, hO, nv1, hP⟩
  have HO1 := Lib.hid (HO0b.out.trans hO)
  have HP1 := Lib.hid hP
  clear hO hP HP0b HO0b
  have c6 : w2.cell? ⟨B, 6, none⟩ = some (.int .u32 r.a) := HP1.out.row.cell_ (i := 6) rfl
  have f6 : w2.frozen? ⟨B, 6, none⟩ = false := HP1.out.row.frozen 6
  have HP2 := Lib.hid (HP1.out.setA (wordAt r.xs 0))
  have HO2 := Lib.hid (HO1.out.setCell (p := ⟨B, 6, none⟩) (.inr (.inl rfl)) (.int .u32 (wordAt r.xs 0)))
  clear HP1 HO1
  go_wp2_with fail
  refine (note_run B p A cp nv1 _ 3 0 _ HP2.out (show (r.doA 3 0 (presI r.b) 0).ns.length ≤ 1000 from Nat.le_trans HL.out (by decide))).mono ?_
  rintro e w3 ⟨rfl, hO, nv3, hP⟩
  have HO3 := Lib.hid (HO2.out.trans hO)
  have HP3 := Lib.hid hP
  clear hO hP HP2 HO2
  go_wp2_with fail
  refine (go_run B p A cp nv3 _ n _ HP3.out).mono ?_
  rintro e w9 ⟨rfl, hO, nv9, hP⟩
  have HO9 := Lib.hid (HO3.out.trans hO)
  have HP9 := Lib.hid hP
  clear hO hP
  go_wp2
  go_returns
  exact ⟨rfl, HO9.out, nv9, HP9.out⟩
theorem vanish_run (B : Nat) (p A : Option Addr) (cp : Nat) (nv : Value) (r : LS) (inn what : Int) (w : World) (h : RunP w B p A cp nv r) (hl : r.ns.length ≤ 900) (hx : Words r.xs) (hb : 0 ≤ r.b ∧ r.b < 4294967296) : Calls Try.prog 50 #[Value.pointer (some ⟨B, 0, none⟩), .int .u32 inn, .int .i64 what] w (Done B p A cp w (.tuple #[]) (r.pVanish inn what)) := by
  have HBB := Lib.hid hb
  clear hb
  have HP0 := Lib.hid h
  have HL := Lib.hid hl
  have HX := Lib.hid hx
  have HO0 := Lib.hid (Only.refl (TurnB B A) w)
  clear h hl hx
  have c7 : w.cell? ⟨B, 7, none⟩ = some (.int .u32 r.b) := HP0.out.row.cell_ (i := 7) rfl
  have hw : IntKind.u32.wrap (inn - presI r.b) = (inn - presI r.b) % 4294967296 := rfl
  go_enter Try.func50, Try.ntmps50
  go_wp2_with fail
  clear c7
  refine (pres_any r.b _ HBB.out).mono ?_
  rintro e w1 ⟨rfl, hd⟩
  have HP0b := Lib.hid (HP0.out.keep hd.only)
  have HO0b : Hid (Only (TurnB B A) w w1) := Lib.hid (HO0.out.trans hd.only)
  clear hd HP0 HO0
  go_wp2_with fail
  clear hw
  refine (add_run B p A cp nv r 0 ((inn - presI r.b) % 4294967296) _ HP0b.out).mono ?_
  rintro e w2 ⟨rfl, hO, nv1, hP⟩
  have HO1 := Lib.hid (HO0b.out.trans hO)
  have HP1 := Lib.hid hP
  clear hO hP HP0b HO0b
  go_wp2_with fail
  refine (note_run B p A cp nv1 _ what 0 _ HP1.out (show (r.doA 3 0 ((inn - presI r.b) % 4294967296) 0).ns.length ≤ 1000 from Nat.le_trans HL.out (by decide))).mono ?_
  rintro e w3 ⟨rfl, hO, nv3, hP⟩
  have HO3 := Lib.hid (HO1.out.trans hO)
  have HP3 := Lib.hid hP
  clear hO hP HP1 HO1
  go_wp2_with fail
  refine (wake_run B p A cp nv3 _ 0 _ HP3.out).mono ?_
  rintro e w4 ⟨rfl, hO, nv4, hP⟩
  have HO4 := Lib.hid (HO3.out.trans hO)
  have HP4 := Lib.hid hP
  clear hO hP HP3 HO3
  go_wp2_with fail
  refine (go_run B p A cp nv4 _ 2 _ HP4.out).mono ?_
  rintro e w9 ⟨rfl, hO, nv9, hP⟩
  have HO9 := Lib.hid (HO4.out.trans hO)
  have HP9 := Lib.hid hP
  clear hO hP
  go_wp2
  go_returns
  exact ⟨rfl, HO9.out, nv9, HP9.out⟩
theorem count_run (B : Nat) (p A : Option Addr) (cp : Nat) (nv : Value) (r : LS) (w : World) (h : RunP w B p A cp nv r) (hl : r.ns.length ≤ 900) (hx : Words r.xs) : Calls Try.prog 51 #[Value.pointer (some ⟨B, 0, none⟩)] w (Done B p A cp w (.tuple #[]) r.pCount) := by
  have HP0 := Lib.hid h
  have HL := Lib.hid hl
  have HX := Lib.hid hx
  have HO0 := Lib.hid (Only.refl (TurnB B A) w)
  clear h hl hx
  have c7 : w.cell? ⟨B, 7, none⟩ = some (.int .u32 r.b) := HP0.out.row.cell_ (i := 7) rfl
  have hw : IntKind.u32.wrap (r.b + 1) = (r.b + 1) % 4294967296 := rfl
  go_enter Try.func51, Try.ntmps51
  go_wp2_with fail
  clear c7 hw
  refine (store_run B p A cp nv r 4 ((r.b + 1) % 4294967296) _ HP0.out).mono ?_
  rintro e w2 ⟨rfl, hO, nv1, hP⟩
  have HO1 := Lib.hid (HO0.out.trans hO)
  have HP1 := Lib.hid hP
  clear hO hP HP0 HO0
  go_wp2_with fail
  refine (go_run B p A cp nv1 _ 3 _ HP1.out).mono ?_
  rintro e w9 ⟨rfl, hO, nv9, hP⟩
  have HO9 := Lib.hid (HO1.out.trans hO)
  have HP9 := Lib.hid hP
  clear hO hP
  go_wp2
  go_returns
  exact ⟨rfl, HO9.out, nv9, HP9.out⟩
theorem come_run (B : Nat) (p A : Option Addr) (cp : Nat) (nv : Value) (r : LS) (w : World) (h : RunP w B p A cp nv r) (hl : r.ns.length ≤ 900) (hx : Words r.xs) : Calls Try.prog 42 #[Value.pointer (some ⟨B, 0, none⟩)] w (Done B p A cp w (.tuple #[]) r.pCome) := by
  by_cases hb : bitsI (wordAt r.xs 0) = 0
  · rw [show r.pCome = ((((r.doA 3 0 256 0).keepA (wordAt r.xs 0)).note 2 1).note 4 0).fin true by unfold LS.pCome; rw [if_pos hb]]
    have HB := Lib.hid hb
    clear hb
    have HP0 := Lib.hid h
    have HL := Lib.hid hl
    have HX := Lib.hid hx
    have HO0 := Lib.hid (Only.refl (TurnB B A) w)
    clear h hl hx
    go_enter Try.func42, Try.ntmps42
    go_wp2_with fail
    refine (add_run B p A cp nv r 0 256 _ HP0.out).mono ?_
    rintro e w1 ⟨rfl, hO, nv1, hP⟩
    have HO1 := Lib.hid (HO0.out.trans hO)
    have HP1 := Lib.hid hP
    clear hO hP HP0 HO0
    have c6 : w1.cell? ⟨B, 6, none⟩ = some (.int .u32 r.a) := HP1.out.row.cell_ (i := 6) rfl
    have f6 : w1.frozen? ⟨B, 6, none⟩ = false := HP1.out.row.frozen 6
    have HP2 := Lib.hid (HP1.out.setA (wordAt r.xs 0))
    have HO2 := Lib.hid (HO1.out.setCell (p := ⟨B, 6, none⟩) (.inr (.inl rfl)) (.int .u32 (wordAt r.xs 0)))
    clear HP1 HO1
    go_wp2_with fail
    refine (note_run B p A cp nv1 _ 2 1 _ HP2.out (show (r.doA 3 0 256 0).ns.length ≤ 1000 from Nat.le_trans HL.out (by decide))).mono ?_
    rintro e w3 ⟨rfl, hO, nv3, hP⟩
    have HO3 := Lib.hid (HO2.out.trans hO)
    have HP3 := Lib.hid hP
    clear hO hP HP2 HO2
    have d6 : w3.cell? ⟨B, 6, none⟩ = some (.int .u32 (wordAt r.xs 0)) := HP3.out.row.cell_ (i := 6) rfl
    go_wp2_with fail
    clear d6
    refine (bits_any (wordAt r.xs 0) _ (word_wf HX.out 0)).mono ?_
    rw [HB.out]
    rintro e w4 ⟨rfl, hd⟩
    have HP4 := Lib.hid (HP3.out.keep hd.only)
    have HO4 : Hid (Only (TurnB B A) w w4) := Lib.hid (HO3.out.trans hd.only)
    clear hd HP3 HO3
    go_wp2_with fail
    refine (note_run B p A cp nv3 _ 4 0 _ HP4.out (by have := HL.out; simp only [LS.note, LS.doA, LS.keepA, List.length_append, List.length_cons, List.length_nil]; omega)).mono ?_
    rintro e w5 ⟨rfl, hO, nv5, hP⟩
    have HO5 := Lib.hid (HO4.out.trans hO)
    have HP5 := Lib.hid hP
    clear hO hP HP4 HO4
    go_wp2_with fail
    refine (end_run B p A cp nv5 _ _ true HP5.out).mono ?_
    rintro e w9 ⟨rfl, hO, nv9, hP⟩
    have HO9 := Lib.hid (HO5.out.trans hO)
    have HP9 := Lib.hid hP
    clear hO hP
    go_wp2
    go_returns
    exact ⟨rfl, HO9.out, nv9, HP9.out⟩
  · rw [show r.pCome = (((r.doA 3 0 256 0).keepA (wordAt r.xs 0)).note 2 1).go 1 by unfold LS.pCome; rw [if_neg hb]]
    generalize hbb : bitsI (wordAt r.xs 0) = b at *
    have HB := Lib.hid hbb
    have hb0 : (b == 0) = false := by simpa using hb
    clear hbb
    have HP0 := Lib.hid h
    have HL := Lib.hid hl
    have HX := Lib.hid hx
    have HO0 := Lib.hid (Only.refl (TurnB B A) w)
    clear h hl hx
    go_enter Try.func42, Try.ntmps42
    go_wp2_with fail
    refine (add_run B p A cp nv r 0 256 _ HP0.out).mono ?_
    rintro e w1 ⟨rfl, hO, nv1, hP⟩
    have HO1 := Lib.hid (HO0.out.trans hO)
    have HP1 := Lib.hid hP
    clear hO hP HP0 HO0
    have c6 : w1.cell? ⟨B, 6, none⟩ = some (.int .u32 r.a) := HP1.out.row.cell_ (i := 6) rfl
    have f6 : w1.frozen? ⟨B, 6, none⟩ = false := HP1.out.row.frozen 6
    have HP2 := Lib.hid (HP1.out.setA (wordAt r.xs 0))
    have HO2 := Lib.hid (HO1.out.setCell (p := ⟨B, 6, none⟩) (.inr (.inl rfl)) (.int .u32 (wordAt r.xs 0)))
    clear HP1 HO1
    go_wp2_with fail
    refine (note_run B p A cp nv1 _ 2 1 _ HP2.out (show (r.doA 3 0 256 0).ns.length ≤ 1000 from Nat.le_trans HL.out (by decide))).mono ?_
    rintro e w3 ⟨rfl, hO, nv3, hP⟩
    have HO3 := Lib.hid (HO2.out.trans hO)
    have HP3 := Lib.hid hP
    clear hO hP HP2 HO2
    have d6 : w3.cell? ⟨B, 6, none⟩ = some (.int .u32 (wordAt r.xs 0)) := HP3.out.row.cell_ (i := 6) rfl
    go_wp2_with fail
    clear d6
    refine (bits_any (wordAt r.xs 0) _ (word_wf HX.out 0)).mono ?_
    rw [HB.out]
    rintro e w4 ⟨rfl, hd⟩
    have HP4 := Lib.hid (HP3.out.keep hd.only)
    have HO4 : Hid (Only (TurnB B A) w w4) := Lib.hid (HO3.out.trans hd.only)
    clear hd HP3 HO3
    go_wp2_with fail
    refine (go_run B p A cp nv3 _ 1 _ HP4.out).mono ?_
    rintro e w9 ⟨rfl, hO, nv9, hP⟩
    have HO9 := Lib.hid (HO4.out.trans hO)
    have HP9 := Lib.hid hP
    clear hO hP
    go_wp2
    go_returns
    exact ⟨rfl, HO9.out, nv9, HP9.out⟩
theorem lookIn_run (B : Nat) (p A : Option Addr) (cp : Nat) (nv : Value) (r : LS) (w : World) (h : RunP w B p A cp nv r) (hl : r.ns.length ≤ 900) (hx : Words r.xs) : Calls Try.prog 53 #[Value.pointer (some ⟨B, 0, none⟩)] w (Done B p A cp w (.tuple #[]) r.pLookIn) := by
  by_cases hb : bitsI (wordAt r.xs 0) = 0
  · rw [show r.pLookIn = ((r.doA 1 0 0 0).keepA (wordAt r.xs 0)).go 1 by unfold LS.pLookIn; rw [if_pos hb]]
    have HB := Lib.hid hb
    clear hb
    have HP0 := Lib.hid h
    have HL := Lib.hid hl
    have HX := Lib.hid hx
    have HO0 := Lib.hid (Only.refl (TurnB B A) w)
    clear h hl hx
    go_enter Try.func53, Try.ntmps53
    go_wp2_with fail
    refine (load_run B p A cp nv r 0 _ HP0.out).mono ?_
    rintro e w1 ⟨rfl, hO, nv1, hP⟩
    have HO1 := Lib.hid (HO0.out.trans hO)
    have HP1 := Lib.hid hP
    clear hO hP HP0 HO0
    have c6 : w1.cell? ⟨B, 6, none⟩ = some (.int .u32 r.a) := HP1.out.row.cell_ (i := 6) rfl
    have f6 : w1.frozen? ⟨B, 6, none⟩ = false := HP1.out.row.frozen 6
    have HP2 := Lib.hid (HP1.out.setA (wordAt r.xs 0))
    have HO2 := Lib.hid (HO1.out.setCell (p := ⟨B, 6, none⟩) (.inr (.inl rfl)) (.int .u32 (wordAt r.xs 0)))
    clear HP1 HO1
    have d6 := HP2.out.row.cell_ (i := 6) rfl
    go_wp2_with fail
    clear d6
    refine (bits_any (wordAt r.xs 0) _ (word_wf HX.out 0)).mono ?_
    rw [HB.out]
    rintro e w4 ⟨rfl, hd⟩
    have HP4 := Lib.hid (HP2.out.keep hd.only)
    have HO4 : Hid (Only (TurnB B A) w w4) := Lib.hid (HO2.out.trans hd.only)
    clear hd HP2 HO2
    go_wp2_with fail
    refine (go_run B p A cp nv1 _ 1 _ HP4.out).mono ?_
    rintro e w9 ⟨rfl, hO, nv9, hP⟩
    have HO9 := Lib.hid (HO4.out.trans hO)
    have HP9 := Lib.hid hP
    clear hO hP
    go_wp2
    go_returns
    exact ⟨rfl, HO9.out, nv9, HP9.out⟩
  · rw [show r.pLookIn = (((r.doA 1 0 0 0).keepA (wordAt r.xs 0)).note 5 0).fin false by unfold LS.pLookIn; rw [if_neg hb]]
    generalize hbb : bitsI (wordAt r.xs 0) = b at *
    have HB := Lib.hid hbb
    have hb0 : (b == 0) = false := by simpa using hb
    clear hbb
    have HP0 := Lib.hid h
    have HL := Lib.hid hl
    have HX := Lib.hid hx
    have HO0 := Lib.hid (Only.refl (TurnB B A) w)
    clear h hl hx
    go_enter Try.func53, Try.ntmps53
    go_wp2_with fail
    refine (load_run B p A cp nv r 0 _ HP0.out).mono ?_
    rintro e w1 ⟨rfl, hO, nv1, hP⟩
    have HO1 := Lib.hid (HO0.out.trans hO)
    have HP1 := Lib.hid hP
    clear hO hP HP0 HO0
    have c6 : w1.cell? ⟨B, 6, none⟩ = some (.int .u32 r.a) := HP1.out.row.cell_ (i := 6) rfl
    have f6 : w1.frozen? ⟨B, 6, none⟩ = false := HP1.out.row.frozen 6
    have HP2 := Lib.hid (HP1.out.setA (wordAt r.xs 0))
    have HO2 := Lib.hid (HO1.out.setCell (p := ⟨B, 6, none⟩) (.inr (.inl rfl)) (.int .u32 (wordAt r.xs 0)))
    clear HP1 HO1
    have d6 := HP2.out.row.cell_ (i := 6) rfl
    go_wp2_with fail
    clear d6
    refine (bits_any (wordAt r.xs 0) _ (word_wf HX.out 0)).mono ?_
    rw [HB.out]
    rintro e w4 ⟨rfl, hd⟩
    have HP4 := Lib.hid (HP2.out.keep hd.only)
    have HO4 : Hid (Only (TurnB B A) w w4) := Lib.hid (HO2.out.trans hd.only)
    clear hd HP2 HO2
    go_wp2_with fail
    refine (note_run B p A cp nv1 _ 5 0 _ HP4.out (show (r.doA 1 0 0 0).ns.length ≤ 1000 from Nat.le_trans HL.out (by decide))).mono ?_
    rintro e w5 ⟨rfl, hO, nv5, hP⟩
    have HO5 := Lib.hid (HO4.out.trans hO)
    have HP5 := Lib.hid hP
    clear hO hP HP4 HO4
    go_wp2_with fail
    refine (end_run B p A cp nv5 _ _ false HP5.out).mono ?_
    rintro e w9 ⟨rfl, hO, nv9, hP⟩
    have HO9 := Lib.hid (HO5.out.trans hO)
    have HP9 := Lib.hid hP
    clear hO hP
    go_wp2
    go_returns
    exact ⟨rfl, HO9.out, nv9, HP9.out⟩
end Go.Proofs.Ytgfippbcgneegaa
