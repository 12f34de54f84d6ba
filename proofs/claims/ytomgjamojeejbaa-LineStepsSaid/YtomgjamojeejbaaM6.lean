/- RefDo, RPermit, RGive, RWake, LineR, LineC, Tab, LineArg. -/
import Derived.Deep.Cut
import Derived.IntWalk
import Derived.Deep.Slices
import Derived.Deep.Fields
import Derived.ChangeSame
import Derived.Test.YtomgjamojeejbaaM5
import Derived.Test.YtomgjamojeejbaaM1
import Derived.Test.YtomgjamojeejbaaM3
/- Contract of the answer's Do. -/
namespace Go.Proofs.Ytomgjamojeejbaa
open Go.RowKit

theorem refdo_not (A : Option Addr) (n cp : Nat) (xs : List Int) (k c x y o : Int) (w : World) (hn : xs.length = n) (hk : doOk xs k c = false) :
    Calls Try.prog 60 #[.slice A n cp, .agg #[.int .i64 k, .int .i64 c, .int .u32 x, .int .u32 y, .int .u32 o]] w fun e w' =>
      e = .returned (.tuple #[.agg #[.int .i64 0, .int .i64 0, .int .u32 0, .int .u32 0, .int .u32 0], .bool false]) ∧ Only Nil w w' := by
  have hcase : there xs c = false ∨ (there xs c = true ∧ k < 1) ∨ (there xs c = true ∧ ¬ k < 1 ∧ 5 < k) := by
    cases ht : there xs c
    · exact .inl rfl
    · simp only [doOk, ht, Bool.true_and, isKind, decide_eq_false_iff_not] at hk
      have : k < 1 ∨ (¬ k < 1 ∧ 5 < k) := by omega
      rcases this with h | h
      · exact .inr (.inl ⟨rfl, h⟩)
      · exact .inr (.inr ⟨rfl, h⟩)
  clear hk
  have HN := Lib.hid hn
  clear hn
  rcases hcase with ht | ⟨ht, h1⟩ | ⟨ht, h1, h2⟩
  all_goals
    have HT := Lib.hid ht
    clear ht
    go_enter Try.func60, Try.ntmps60
    go_wp2_with fail
    refine (there_any A n cp xs c HN.out _).mono ?_
    rw [HT.out]
    rintro e w1 ⟨rfl, rfl⟩
    go_wp2
    go_returns
    exact ⟨rfl, by (repeat' (first | (with_reducible exact Only.refl _ _) | (with_reducible assumption) | (with_reducible refine Only.setCell ?_ ?_ _) | (with_reducible refine Only.drewN ?_ _) | (with_reducible refine Only.drew ?_) | (with_reducible refine Only.alloc ?_ _) | (left; simp; done) | (left; simp; omega) | (right; rfl)))⟩

theorem set_self {cur : Array Value} {i : Nat} {u : Value} (h : cur[i]? = some u) : cur.setIfInBounds i u = cur := by
  obtain ⟨hi, rfl⟩ := Array.getElem?_eq_some_iff.1 h
  rw [Array.setIfInBounds_def, dif_pos hi]
  exact Array.set_getElem_self hi

set_option maxHeartbeats 800000 in
theorem refdo_ok (g n cp : Nat) (cur : Array Value) (xs : List Int) (k c x y o : Int) (w : World) (hn : xs.length = n) (hr : Row w g 23 cur) (ht : there xs c = true) (hk : isKind k = true) (hv : cur[c.toNat]? = some (.int .u32 (wordAt xs c))) :
    Calls Try.prog 60 #[.slice (some ⟨g, 0, none⟩) n cp, .agg #[.int .i64 k, .int .i64 c, .int .u32 x, .int .u32 y, .int .u32 o]] w fun e w' =>
      e = .returned (.tuple #[.agg #[.int .i64 k, .int .i64 c, .int .u32 x, .int .u32 y, .int .u32 (wordAt xs c)], .bool true]) ∧ Only (· = g) w w' ∧ Row w' g 23 (cur.setIfInBounds c.toNat (.int .u32 (leftOf k x y (wordAt xs c)))) := by
  have HN := Lib.hid hn
  have HT := Lib.hid ht
  have hc0 : 0 ≤ c ∧ c < (n : Int) := by have e := HT.out; simp only [there, decide_eq_true_eq] at e; omega
  obtain ⟨hc0, hc1⟩ := hc0
  have hglt := hr.lt
  have hcell := hr.cell_ hv
  have hfro := hr.frozen c.toNat
  have HR := Lib.hid hr
  have HV := Lib.hid hv
  clear hr hv hn ht
  generalize hw : wordAt xs c = v at *
  have HW := Lib.hid hw
  clear hw
  have hcase : k = 1 ∨ k = 2 ∨ k = 3 ∨ k = 4 ∨ k = 5 := by simp only [isKind, decide_eq_true_eq] at hk; omega
  clear hk
  rcases hcase with rfl | rfl | rfl | rfl | rfl
  · go_enter Try.func60, Try.ntmps60
    go_wp2_with fail
    refine (there_any _ n cp xs c HN.out _).mono ?_
    rw [HT.out]
    rintro e w1 ⟨rfl, hw1⟩
    obtain rfl := hw1.symm
    go_wp2
    refine post_row_tmp (P := Try.prog) Try.results60 (t := 40) (g := w.heap.size + 1) (cs := #[.int .i64 1, .int .i64 c, .int .u32 x, .int .u32 y, .int .u32 v]) rfl ?_ Try.underlying40 rfl (by kernel_rfl) rfl ⟨rfl, ?_, ?_⟩
    · exact Row.new2 _ _ _ _
    · (repeat' (first | (with_reducible exact Only.refl _ _) | (with_reducible assumption) | (with_reducible refine Only.setCell ?_ ?_ _) | (with_reducible refine Only.drewN ?_ _) | (with_reducible refine Only.drew ?_) | (with_reducible refine Only.alloc ?_ _) | (left; simp; done) | (left; simp; omega) | (right; rfl)))
    · rw [show leftOf 1 x y v = v by simp [leftOf], set_self HV.out]
      exact (HR.out.alloc _).alloc _
  · go_enter Try.func60, Try.ntmps60
    go_wp2_with fail
    refine (there_any _ n cp xs c HN.out _).mono ?_
    rw [HT.out]
    rintro e w1 ⟨rfl, hw1⟩
    obtain rfl := hw1.symm
    go_wp2
    refine post_row_tmp (P := Try.prog) Try.results60 (t := 40) (g := w.heap.size + 1) (cs := #[.int .i64 2, .int .i64 c, .int .u32 x, .int .u32 y, .int .u32 v]) rfl ?_ Try.underlying40 rfl (by kernel_rfl) rfl ⟨rfl, ?_, ?_⟩
    · have e2 := Row.new2 (w.setCell ⟨g, c.toNat, none⟩ (.int .u32 x)) (Obj.cells #[.int .i64 2, .int .i64 c, .int .u32 x, .int .u32 y, .int .u32 v] 40) 40 #[.int .i64 2, .int .i64 c, .int .u32 x, .int .u32 y, .int .u32 v]
      simpa using e2
    · (repeat' (first | (with_reducible exact Only.refl _ _) | (with_reducible assumption) | (with_reducible refine Only.setCell ?_ ?_ _) | (with_reducible refine Only.drewN ?_ _) | (with_reducible refine Only.drew ?_) | (with_reducible refine Only.alloc ?_ _) | (left; simp; done) | (left; simp; omega) | (right; rfl)))
    · rw [show leftOf 2 x y v = x by simp [leftOf]]
      exact ((HR.out.set c.toNat (.int .u32 x)).alloc _).alloc _
  · go_enter Try.func60, Try.ntmps60
    go_wp2_with fail
    refine (there_any _ n cp xs c HN.out _).mono ?_
    rw [HT.out]
    rintro e w1 ⟨rfl, hw1⟩
    obtain rfl := hw1.symm
    go_wp2
    refine post_row_tmp (P := Try.prog) Try.results60 (t := 40) (g := w.heap.size + 1) (cs := #[.int .i64 3, .int .i64 c, .int .u32 x, .int .u32 y, .int .u32 v]) rfl ?_ Try.underlying40 rfl (by kernel_rfl) rfl ⟨rfl, ?_, ?_⟩
    · have e2 := Row.new2 (w.setCell ⟨g, c.toNat, none⟩ (.int .u32 ((v + x) % 4294967296))) (Obj.cells #[.int .i64 3, .int .i64 c, .int .u32 x, .int .u32 y, .int .u32 v] 40) 40 #[.int .i64 3, .int .i64 c, .int .u32 x, .int .u32 y, .int .u32 v]
      simpa using e2
    · (repeat' (first | (with_reducible exact Only.refl _ _) | (with_reducible assumption) | (with_reducible refine Only.setCell ?_ ?_ _) | (with_reducible refine Only.drewN ?_ _) | (with_reducible refine Only.drew ?_) | (with_reducible refine Only.alloc ?_ _) | (left; simp; done) | (left; simp; omega) | (right; rfl)))
    · rw [show leftOf 3 x y v = (v + x) % 4294967296 by simp only [leftOf, if_true]; rw [Int.add_comm]]
      exact ((HR.out.set c.toNat (.int .u32 ((v + x) % 4294967296))).alloc _).alloc _
  · go_enter Try.func60, Try.ntmps60
    go_wp2_with fail
    refine (there_any _ n cp xs c HN.out _).mono ?_
    rw [HT.out]
    rintro e w1 ⟨rfl, hw1⟩
    obtain rfl := hw1.symm
    go_wp2
    refine post_row_tmp (P := Try.prog) Try.results60 (t := 40) (g := w.heap.size + 1) (cs := #[.int .i64 4, .int .i64 c, .int .u32 x, .int .u32 y, .int .u32 v]) rfl ?_ Try.underlying40 rfl (by kernel_rfl) rfl ⟨rfl, ?_, ?_⟩
    · have e2 := Row.new2 (w.setCell ⟨g, c.toNat, none⟩ (.int .u32 x)) (Obj.cells #[.int .i64 4, .int .i64 c, .int .u32 x, .int .u32 y, .int .u32 v] 40) 40 #[.int .i64 4, .int .i64 c, .int .u32 x, .int .u32 y, .int .u32 v]
      simpa using e2
    · (repeat' (first | (with_reducible exact Only.refl _ _) | (with_reducible assumption) | (with_reducible refine Only.setCell ?_ ?_ _) | (with_reducible refine Only.drewN ?_ _) | (with_reducible refine Only.drew ?_) | (with_reducible refine Only.alloc ?_ _) | (left; simp; done) | (left; simp; omega) | (right; rfl)))
    · rw [show leftOf 4 x y v = x by simp [leftOf]]
      exact ((HR.out.set c.toNat (.int .u32 x)).alloc _).alloc _
  · by_cases he : v = x
    · have hb := beq_iff_eq.2 he
      have HE := Lib.hid he
      clear he
      go_enter Try.func60, Try.ntmps60
      go_wp2_with fail
      refine (there_any _ n cp xs c HN.out _).mono ?_
      rw [HT.out]
      rintro e w1 ⟨rfl, hw1⟩
      obtain rfl := hw1.symm
      go_wp2
      refine post_row_tmp (P := Try.prog) Try.results60 (t := 40) (g := w.heap.size + 1) (cs := #[.int .i64 5, .int .i64 c, .int .u32 x, .int .u32 y, .int .u32 v]) rfl ?_ Try.underlying40 rfl (by kernel_rfl) rfl ⟨rfl, ?_, ?_⟩
      · have e2 := Row.new2 (w.setCell ⟨g, c.toNat, none⟩ (.int .u32 y)) (Obj.cells #[.int .i64 5, .int .i64 c, .int .u32 x, .int .u32 y, .int .u32 v] 40) 40 #[.int .i64 5, .int .i64 c, .int .u32 x, .int .u32 y, .int .u32 v]
        simpa using e2
      · (repeat' (first | (with_reducible exact Only.refl _ _) | (with_reducible assumption) | (with_reducible refine Only.setCell ?_ ?_ _) | (with_reducible refine Only.drewN ?_ _) | (with_reducible refine Only.drew ?_) | (with_reducible refine Only.alloc ?_ _) | (left; simp; done) | (left; simp; omega) | (right; rfl)))
      · rw [show leftOf 5 x y v = y by simp [leftOf, HE.out]]
        exact ((HR.out.set c.toNat (.int .u32 y)).alloc _).alloc _
    · have hb := beq_eq_false_iff_ne.2 he
      have HE := Lib.hid he
      clear he
      go_enter Try.func60, Try.ntmps60
      go_wp2_with fail
      refine (there_any _ n cp xs c HN.out _).mono ?_
      rw [HT.out]
      rintro e w1 ⟨rfl, hw1⟩
      obtain rfl := hw1.symm
      go_wp2
      refine post_row_tmp (P := Try.prog) Try.results60 (t := 40) (g := w.heap.size + 1) (cs := #[.int .i64 5, .int .i64 c, .int .u32 x, .int .u32 y, .int .u32 v]) rfl ?_ Try.underlying40 rfl (by kernel_rfl) rfl ⟨rfl, ?_, ?_⟩
      · exact Row.new2 _ _ _ _
      · (repeat' (first | (with_reducible exact Only.refl _ _) | (with_reducible assumption) | (with_reducible refine Only.setCell ?_ ?_ _) | (with_reducible refine Only.drewN ?_ _) | (with_reducible refine Only.drew ?_) | (with_reducible refine Only.alloc ?_ _) | (left; simp; done) | (left; simp; omega) | (right; rfl)))
      · rw [show leftOf 5 x y v = v by simp [leftOf, HE.out], set_self HV.out]
        exact (HR.out.alloc _).alloc _

/-- Any access on a list of the caller's own. -/
theorem refdo_any (base : Nat) (A : Option Addr) (n cp : Nat) (xs : List Int) (k c x y o : Int) (w : World) (h : Own w base A cp xs) (hn : xs.length = n) :
    Calls Try.prog 60 #[.slice A n cp, .agg #[.int .i64 k, .int .i64 c, .int .u32 x, .int .u32 y, .int .u32 o]] w fun e w' =>
      e = .returned (.tuple #[doVal xs k c x y, .bool (doOk xs k c)]) ∧ Only (At A) w w' ∧ Own w' base A cp (doNew xs k c x y) := by
  cases hk : doOk xs k c
  · refine (refdo_not A n cp xs k c x y o w hn hk).mono fun e w' ⟨he, hO⟩ => ⟨by rw [he]; simp [doVal, hk, accOf], hO.mono (fun _ _ hj => hj.elim), ?_⟩
    rw [show doNew xs k c x y = xs by simp [doNew, hk]]
    exact h.only hO (fun _ _ => id)
  · have hk2 := hk
    simp only [doOk, Bool.and_eq_true] at hk2
    obtain ⟨ht, hik⟩ := hk2
    have ht2 := ht
    simp only [there, decide_eq_true_eq] at ht2
    obtain ⟨g, cur, rfl, hb, hr, hcell, hset⟩ := h.row (i := c.toNat) (by omega)
    rw [show xs.getD c.toNat 0 = wordAt xs c by simp [wordAt, ht]] at hcell
    refine (refdo_ok g n cp cur xs k c x y o w hn hr ht hik hcell).mono fun e w' ⟨he, hO, hR⟩ => ⟨by rw [he]; simp [doVal, hk, accOf], hO.mono (fun _ _ hj => ⟨_, rfl, hj.symm⟩), ?_⟩
    rw [show doNew xs k c x y = xs.set c.toNat (leftOf k x y (wordAt xs c)) by simp [doNew, hk]]
    exact hset _ _ hR
end Go.Proofs.Ytomgjamojeejbaa
/- The answer's cell of a permit. -/
set_option linter.unusedVariables false
set_option linter.unusedSimpArgs false
namespace Go.Proofs.Ytomgjamojeejbaa
open Go.RowKit

theorem rcell_any (A : Option Addr) (l cp : Nat) (xs : List Int) (n i : Int) (hn : xs.length = l) (w : World) :
    Calls Try.prog 65 #[.slice A l cp, .int .i64 n, .int .i64 i] w fun e w' => e = .returned (.int .i64 (if there xs (pc n i) then pc n i else -1)) ∧ w = w' := by
  have HN := Lib.hid hn
  clear hn
  cases ht : there xs (pc n i)
  all_goals
    simp only [Bool.false_eq_true, if_false, if_true]
    have HT := Lib.hid ht
    clear ht
    go_enter Try.func65, Try.ntmps65
    go_wp2_with fail
    refine (refCell_any n 3 i _ (by omega)).mono ?_
    rintro e w1 ⟨rfl, rfl⟩
    have hpc : cellI n 3 i = pc n i := rfl
    rw [hpc]
    clear hpc
    go_wp2_with fail
    refine (there_any A l cp xs (pc n i) HN.out _).mono ?_
    rw [HT.out]
    rintro e w2 ⟨rfl, hw⟩
    obtain rfl := hw.symm
    clear hw
    go_wp2
    go_ret
    exact ⟨rfl, rfl⟩
end Go.Proofs.Ytomgjamojeejbaa
/- The answer's Give. -/
set_option linter.unusedVariables false
set_option linter.unusedSimpArgs false
namespace Go.Proofs.Ytomgjamojeejbaa
open Go.RowKit

theorem rgive_any (base : Nat) (A : Option Addr) (l cp : Nat) (xs : List Int) (n i : Int) (w : World) (h : Own w base A cp xs) (hn : xs.length = l) :
    Calls Try.prog 59 #[.slice A l cp, .int .i64 n, .int .i64 i] w fun e w' =>
      e = .returned (.tuple #[doVal xs 2 (pc n i) 1 0, .bool (there xs (pc n i))]) ∧ Only (At A) w w' ∧ Own w' base A cp (st xs (pc n i) 1) := by
  have HN := Lib.hid hn
  have HW := Lib.hid h
  cases ht : there xs (pc n i)
  · have hv : doVal xs 2 (pc n i) 1 0 = .agg #[.int .i64 0, .int .i64 0, .int .u32 0, .int .u32 0, .int .u32 0] := by simp [doVal, doOk, ht, accOf]
    have hs : st xs (pc n i) 1 = xs := by simp [st, ht]
    rw [hv, hs]
    have HT := Lib.hid ht
    clear ht h hn hv hs
    go_enter Try.func59, Try.ntmps59
    go_wp2_with fail
    refine (rcell_any A l cp xs n i HN.out _).mono ?_
    rw [HT.out]
    rintro e w1 ⟨rfl, rfl⟩
    simp only [Bool.false_eq_true, if_false]
    go_wp2
    refine post_row_tmp (P := Try.prog) Try.results59 (t := 40) (g := w.heap.size) (cs := #[.int .i64 0, .int .i64 0, .int .u32 0, .int .u32 0, .int .u32 0]) rfl (Row.new _ _ _) Try.underlying40 rfl (by kernel_rfl) rfl ⟨rfl, (Only.refl _ w).alloc _, ?_⟩
    exact HW.out.only ((Only.refl Nil w).alloc _) (fun _ _ => id)
  · have ht2 := ht
    simp only [there, decide_eq_true_eq] at ht2
    obtain ⟨q, hq⟩ := Int.eq_ofNat_of_zero_le ht2.1
    have hql : q < l := by omega
    obtain ⟨g, cur, rfl, hb, hr, hcell, hset⟩ := h.row (i := q) (by omega)
    have hwd : wordAt xs (pc n i) = xs.getD q 0 := by unfold wordAt; rw [ht, hq]; rfl
    have hv : doVal xs 2 (pc n i) 1 0 = .agg #[.int .i64 2, .int .i64 q, .int .u32 1, .int .u32 0, .int .u32 (xs.getD q 0)] := by
      have hok : doOk xs 2 (pc n i) = true := by simp [doOk, isKind, ht]
      unfold doVal
      rw [hok, hwd, hq]
      rfl
    have hs : st xs (pc n i) 1 = xs.set q 1 := by unfold st; rw [ht, hq]; rfl
    rw [hv, hs]
    generalize xs.getD q 0 = v at *
    have c0 := hr.cell_ hcell
    have f0 := hr.frozen q
    have HT := Lib.hid ht
    have HQ := Lib.hid hq
    have HR := Lib.hid hr
    have HSET := Lib.hid hset
    have hg := hr.lt
    clear ht h hn hv hs hq hwd ht2 hr hset hcell
    go_enter Try.func59, Try.ntmps59
    go_wp2_with fail
    refine (rcell_any _ l cp xs n i HN.out _).mono ?_
    rw [HT.out, HQ.out]
    rintro e w1 ⟨rfl, rfl⟩
    simp only [if_true]
    go_wp2
    refine post_row_tmp (P := Try.prog) Try.results59 (t := 40) (g := w.heap.size) (cs := #[.int .i64 2, .int .i64 q, .int .u32 1, .int .u32 0, .int .u32 v]) rfl ?_ Try.underlying40 rfl (by kernel_rfl) rfl ⟨rfl, ?_, ?_⟩
    · have e2 := (Row.new (w.setCell ⟨g, q, none⟩ (.int .u32 1)) 40 #[.int .i64 2, .int .i64 q, .int .u32 1, .int .u32 0, .int .u32 v]).alloc (Obj.cells #[.int .i64 2, .int .i64 q, .int .u32 1, .int .u32 0, .int .u32 v] 40)
      simpa [World.setCell] using e2
    · exact (((Only.refl (At (some ⟨g, 0, none⟩)) w).setCell (p := ⟨g, q, none⟩) (.inr ⟨_, rfl, rfl⟩) (.int .u32 1)).alloc _).alloc _
    · exact HSET.out _ _ (((HR.out.set q (.int .u32 1)).alloc _).alloc _)
end Go.Proofs.Ytomgjamojeejbaa
/- The answer's Step of a wake-up. -/
set_option linter.unusedVariables false
set_option linter.unusedSimpArgs false
namespace Go.Proofs.Ytomgjamojeejbaa
open Go.RowKit

/-- What a step's call leaves of the answer's list. -/
def RStept (base : Nat) (A : Option Addr) (cp : Nat) (r : WakeR) (w : World) (e : Ending) (w' : World) : Prop :=
  e = .returned (.tuple #[r.next.v, r.acc]) ∧ Only (At A) w w' ∧ Own w' base A cp r.xs

/-- A step's own blocks: the wake-up, the results. -/
structure RK (w0 : World) (base : Nat) (A : Option Addr) (cp : Nat) (B : Nat) (kv nv acs : Array Value) (W : World) (xs : List Int) : Prop where
  only : Only (At A) w0 W
  own : Own W base A cp xs
  rk : Row W B 27 kv
  rn : Row W (B + 1) 27 nv
  ra : Row W (B + 1 + 1) 40 acs
  lt : ∀ j, At A j → j < B
  hw : w0.heap.size ≤ B

section
variable {w0 W W' : World} {A : Option Addr} {base cp B g : Nat} {kv nv acs : Array Value} {xs ys : List Int}
theorem RK.call (h : RK w0 base A cp B kv nv acs W xs) (ho : Only (At A) W W') (hm : Own W' base A cp ys) : RK w0 base A cp B kv nv acs W' ys :=
  ⟨h.only.trans ho, hm, h.rk.only ho (fun e => by have := h.lt _ e; omega), h.rn.only ho (fun e => by have := h.lt _ e; omega), h.ra.only ho (fun e => by have := h.lt _ e; omega), h.lt, h.hw⟩
theorem RK.keep (h : RK w0 base A cp B kv nv acs W xs) (ho : Only Nil W W') : RK w0 base A cp B kv nv acs W' xs := h.call (ho.mono (fun _ _ h => h.elim)) (h.own.only ho (fun _ _ => id))
theorem RK.far (h : RK w0 base A cp B kv nv acs W xs) (ho : Only (· = g) W W') (hg : B + 1 + 1 < g) : RK w0 base A cp B kv nv acs W' xs :=
  ⟨h.only.step ho (fun i hi e => by have := h.hw; omega), h.own.only ho (fun j hj e => by have := h.lt j hj; omega), h.rk.only ho (fun e => by omega), h.rn.only ho (fun e => by omega), h.ra.only ho (fun e => by omega), h.lt, h.hw⟩
theorem RK.setN {a0 a1 a2 a3 : Value} (h : RK w0 base A cp B kv #[a0, a1, a2, a3] acs W xs) (v0 v1 v2 v3 : Value) :
    RK w0 base A cp B kv #[v0, v1, v2, v3] acs ((((W.setCell ⟨B + 1, 0, none⟩ v0).setCell ⟨B + 1, 1, none⟩ v1).setCell ⟨B + 1, 2, none⟩ v2).setCell ⟨B + 1, 3, none⟩ v3) xs := by
  have ho := four_only (Only.refl (· = B + 1) W) (g := B + 1) (.inr rfl) v0 v1 v2 v3
  exact ⟨four_only h.only (.inl (by have := h.hw; omega)) _ _ _ _, h.own.only ho (fun j hj e => by have := h.lt j hj; omega), h.rk.only ho (fun e => by omega), four h.rn _ _ _ _, h.ra.only ho (fun e => by omega), h.lt, h.hw⟩
theorem RK.setA {a0 a1 a2 a3 a4 : Value} (h : RK w0 base A cp B kv nv #[a0, a1, a2, a3, a4] W xs) (v0 v1 v2 v3 v4 : Value) :
    RK w0 base A cp B kv nv #[v0, v1, v2, v3, v4] (((((W.setCell ⟨B + 1 + 1, 0, none⟩ v0).setCell ⟨B + 1 + 1, 1, none⟩ v1).setCell ⟨B + 1 + 1, 2, none⟩ v2).setCell ⟨B + 1 + 1, 3, none⟩ v3).setCell ⟨B + 1 + 1, 4, none⟩ v4) xs := by
  have ho := five_only (Only.refl (· = B + 1 + 1) W) (g := B + 1 + 1) (.inr rfl) v0 v1 v2 v3 v4
  exact ⟨five_only h.only (.inl (by have := h.hw; omega)) _ _ _ _ _, h.own.only ho (fun j hj e => by have := h.lt j hj; omega), h.rk.only ho (fun e => by omega), h.rn.only ho (fun e => by omega), five h.ra _ _ _ _ _, h.lt, h.hw⟩
theorem RK.setH {a0 a1 a2 a3 : Value} (h : RK w0 base A cp B #[a0, a1, a2, a3] nv acs W xs) (v : Value) :
    RK w0 base A cp B #[a0, a1, a2, v] nv acs (W.setCell ⟨B, 3, none⟩ v) xs := by
  have ho := (Only.refl (· = B) W).setCell (p := ⟨B, 3, none⟩) (.inr rfl) v
  exact ⟨h.only.setCell (.inl (by have := h.hw; exact this)) _, h.own.only ho (fun j hj e => by have := h.lt j hj; omega), by simpa using h.rk.set 3 v, h.rn.only ho (fun e => by omega), h.ra.only ho (fun e => by omega), h.lt, h.hw⟩
theorem RK.start {w : World} {A : Option Addr} {base cp : Nat} {xs : List Int} (kv : Array Value) (h : Own w base A cp xs) :
    RK w base A cp w.heap.size kv #[.bool false, .int .i64 0, .int .i64 0, .bool false] #[.int .i64 0, .int .i64 0, .int .u32 0, .int .u32 0, .int .u32 0] (((w.alloc (.cells kv 27)).alloc (.cells #[.bool false, .int .i64 0, .int .i64 0, .bool false] 27)).alloc (.cells #[.int .i64 0, .int .i64 0, .int .u32 0, .int .u32 0, .int .u32 0] 40)) xs := by
  have e0 := (((Only.refl Nil w).alloc (.cells kv 27)).alloc (.cells #[.bool false, .int .i64 0, .int .i64 0, .bool false] 27)).alloc (.cells #[.int .i64 0, .int .i64 0, .int .u32 0, .int .u32 0, .int .u32 0] 40)
  refine ⟨e0.mono (fun _ _ h => h.elim), h.only e0 (fun _ _ => id), ((Row.new w _ _).alloc _).alloc _, (Row.new2 w _ _ _).alloc _, ?_, h.lt, Nat.le_refl _⟩
  have e := Row.new2 (w.alloc (.cells kv 27)) (.cells #[.bool false, .int .i64 0, .int .i64 0, .bool false] 27) 40 #[.int .i64 0, .int .i64 0, .int .u32 0, .int .u32 0, .int .u32 0]
  rwa [show (w.alloc (.cells kv 27)).heap.size = w.heap.size + 1 by simp] at e
end

theorem rw_off (base : Nat) (A : Option Addr) (l cp : Nat) (xs : List Int) (n c i : Int) (hit : Bool) (w : World) (h : Own w base A cp xs) :
    Calls Try.prog 38 #[.slice A l cp, .int .i64 n, .agg #[.bool false, .int .i64 c, .int .i64 i, .bool hit]] w (RStept base A cp (restI xs) w) := by
  have HF0 := Lib.hid (RK.start #[.bool false, .int .i64 c, .int .i64 i, .bool hit] h)
  clear h
  go_enter Try.func38, Try.ntmps38
  go_wp2
  exact post_two (P := Try.prog) Try.results38 (by rfl) HF0.out.rn Try.underlying27 rfl (by kernel_rfl) (by rfl) HF0.out.ra Try.underlying40 rfl (by kernel_rfl) rfl ⟨rfl, HF0.out.only, HF0.out.own⟩

theorem rw_bad (base : Nat) (A : Option Addr) (l cp : Nat) (xs : List Int) (n c i : Int) (hit : Bool) (w : World) (h : Own w base A cp xs) (hn : xs.length = l) (hd : decide (cellI n 2 i < 0) = true) :
    Calls Try.prog 38 #[.slice A l cp, .int .i64 n, .agg #[.bool true, .int .i64 c, .int .i64 i, .bool hit]] w (RStept base A cp (restI xs) w) := by
  have HF0 := Lib.hid (RK.start #[.bool true, .int .i64 c, .int .i64 i, .bool hit] h)
  have HLN := Lib.hid hn
  clear h hn
  go_enter Try.func38, Try.ntmps38
  go_wp2_with fail
  refine (refCell_any n 2 i _ (by omega)).mono ?_
  rintro e w1 ⟨rfl, rfl⟩
  go_wp2
  exact post_two (P := Try.prog) Try.results38 (by rfl) HF0.out.rn Try.underlying27 rfl (by kernel_rfl) (by rfl) HF0.out.ra Try.underlying40 rfl (by kernel_rfl) rfl ⟨rfl, HF0.out.only, HF0.out.own⟩

theorem rw_give_no (base : Nat) (A : Option Addr) (l cp : Nat) (xs : List Int) (n c i : Int) (w : World) (h : Own w base A cp xs) (hn : xs.length = l) (hd : decide (cellI n 2 i < 0) = false) (ht : there xs (pc n i) = false) :
    Calls Try.prog 38 #[.slice A l cp, .int .i64 n, .agg #[.bool true, .int .i64 c, .int .i64 i, .bool true]] w (RStept base A cp ⟨wk0, accOf 0 0 0 0 0, st xs (pc n i) 1⟩ w) := by
  have HT := Lib.hid ht
  clear ht
  have HF0 := Lib.hid (RK.start #[.bool true, .int .i64 c, .int .i64 i, .bool true] h)
  have HLN := Lib.hid hn
  clear h hn
  go_enter Try.func38, Try.ntmps38
  go_wp2_with fail
  refine (refCell_any n 2 i _ (by omega)).mono ?_
  rintro e w1 ⟨rfl, rfl⟩
  go_wp2_with fail
  have e0 := (Only.refl Nil (((w.alloc (.cells #[.bool true, .int .i64 c, .int .i64 i, .bool true] 27)).alloc (.cells #[.bool false, .int .i64 0, .int .i64 0, .bool false] 27)).alloc (.cells #[.int .i64 0, .int .i64 0, .int .u32 0, .int .u32 0, .int .u32 0] 40))).alloc (.cells #[.int .i64 0, .int .i64 0, .int .u32 0, .int .u32 0, .int .u32 0] 40)
  have HF1 := Lib.hid (HF0.out.keep e0)
  have HN := Lib.hid (Row.new (((w.alloc (.cells #[.bool true, .int .i64 c, .int .i64 i, .bool true] 27)).alloc (.cells #[.bool false, .int .i64 0, .int .i64 0, .bool false] 27)).alloc (.cells #[.int .i64 0, .int .i64 0, .int .u32 0, .int .u32 0, .int .u32 0] 40)) 40 #[.int .i64 0, .int .i64 0, .int .u32 0, .int .u32 0, .int .u32 0])
  rw [show (((w.alloc (.cells #[.bool true, .int .i64 c, .int .i64 i, .bool true] 27)).alloc (.cells #[.bool false, .int .i64 0, .int .i64 0, .bool false] 27)).alloc (.cells #[.int .i64 0, .int .i64 0, .int .u32 0, .int .u32 0, .int .u32 0] 40)).heap.size = w.heap.size + 1 + 1 + 1 by simp] at HN
  clear e0 HF0
  generalize (((w.alloc (.cells #[.bool true, .int .i64 c, .int .i64 i, .bool true] 27)).alloc (.cells #[.bool false, .int .i64 0, .int .i64 0, .bool false] 27)).alloc (.cells #[.int .i64 0, .int .i64 0, .int .u32 0, .int .u32 0, .int .u32 0] 40)).alloc (.cells #[.int .i64 0, .int .i64 0, .int .u32 0, .int .u32 0, .int .u32 0] 40) = w1 at *
  generalize w.heap.size = B at *
  refine (rgive_any base A l cp xs n i _ HF1.out.own HLN.out).mono ?_
  obtain ⟨ka, ca, xa, ya, hv⟩ := doVal_form xs 2 (pc n i) 1 0
  generalize (if doOk xs 2 (pc n i) then wordAt xs (pc n i) else 0) = oa at hv
  rw [hv, HT.out]
  rintro e w2 ⟨rfl, hO, hM⟩
  have HN1 := Lib.hid (HN.out.only hO (fun e => by have := HF1.out.lt _ e; omega))
  have HF2 := Lib.hid (HF1.out.call hO hM)
  have HV := Lib.hid hv
  clear hO hM hv HF1 HN
  have r0 : w2.cell? ⟨B + 1 + 1 + 1, 0, none⟩ = some (.int .i64 0) := HN1.out.cell_ (i := 0) rfl
  have r1 : w2.cell? ⟨B + 1 + 1 + 1, 1, none⟩ = some (.int .i64 0) := HN1.out.cell_ (i := 1) rfl
  have r2 : w2.cell? ⟨B + 1 + 1 + 1, 2, none⟩ = some (.int .u32 0) := HN1.out.cell_ (i := 2) rfl
  have r3 : w2.cell? ⟨B + 1 + 1 + 1, 3, none⟩ = some (.int .u32 0) := HN1.out.cell_ (i := 3) rfl
  have r4 : w2.cell? ⟨B + 1 + 1 + 1, 4, none⟩ = some (.int .u32 0) := HN1.out.cell_ (i := 4) rfl
  have q0 : w2.frozen? ⟨B + 1 + 1 + 1, 0, none⟩ = false := HN1.out.frozen 0
  have q1 : w2.frozen? ⟨B + 1 + 1 + 1, 1, none⟩ = false := HN1.out.frozen 1
  have q2 : w2.frozen? ⟨B + 1 + 1 + 1, 2, none⟩ = false := HN1.out.frozen 2
  have q3 : w2.frozen? ⟨B + 1 + 1 + 1, 3, none⟩ = false := HN1.out.frozen 3
  have q4 : w2.frozen? ⟨B + 1 + 1 + 1, 4, none⟩ = false := HN1.out.frozen 4
  have HN2 := Lib.hid (five HN1.out (.int .i64 ka) (.int .i64 ca) (.int .u32 xa) (.int .u32 ya) (.int .u32 oa))
  have HF3 := Lib.hid (HF2.out.far (five_only (Only.refl (· = B + 1 + 1 + 1) w2) (g := B + 1 + 1 + 1) (.inr rfl) (.int .i64 ka) (.int .i64 ca) (.int .u32 xa) (.int .u32 ya) (.int .u32 oa)) (by omega))
  clear HN1 HF2
  go_upto_region 7 with (fail)
  clear r0 r1 r2 r3 r4 q0 q1 q2 q3 q4
  generalize (((((w2.setCell ⟨B + 1 + 1 + 1, 0, none⟩ (.int .i64 ka)).setCell ⟨B + 1 + 1 + 1, 1, none⟩ (.int .i64 ca)).setCell ⟨B + 1 + 1 + 1, 2, none⟩ (.int .u32 xa)).setCell ⟨B + 1 + 1 + 1, 3, none⟩ (.int .u32 ya)).setCell ⟨B + 1 + 1 + 1, 4, none⟩ (.int .u32 oa)) = w3 at *
  have n0 : w3.cell? ⟨B + 1, 0, none⟩ = some (.bool false) := HF3.out.rn.cell_ (i := 0) rfl
  have n1 : w3.cell? ⟨B + 1, 1, none⟩ = some (.int .i64 0) := HF3.out.rn.cell_ (i := 1) rfl
  have n2 : w3.cell? ⟨B + 1, 2, none⟩ = some (.int .i64 0) := HF3.out.rn.cell_ (i := 2) rfl
  have n3 : w3.cell? ⟨B + 1, 3, none⟩ = some (.bool false) := HF3.out.rn.cell_ (i := 3) rfl
  have m0 : w3.frozen? ⟨B + 1, 0, none⟩ = false := HF3.out.rn.frozen 0
  have m1 : w3.frozen? ⟨B + 1, 1, none⟩ = false := HF3.out.rn.frozen 1
  have m2 : w3.frozen? ⟨B + 1, 2, none⟩ = false := HF3.out.rn.frozen 2
  have m3 : w3.frozen? ⟨B + 1, 3, none⟩ = false := HF3.out.rn.frozen 3
  have r0 : w3.cell? ⟨B + 1 + 1, 0, none⟩ = some (.int .i64 0) := HF3.out.ra.cell_ (i := 0) rfl
  have r1 : w3.cell? ⟨B + 1 + 1, 1, none⟩ = some (.int .i64 0) := HF3.out.ra.cell_ (i := 1) rfl
  have r2 : w3.cell? ⟨B + 1 + 1, 2, none⟩ = some (.int .u32 0) := HF3.out.ra.cell_ (i := 2) rfl
  have r3 : w3.cell? ⟨B + 1 + 1, 3, none⟩ = some (.int .u32 0) := HF3.out.ra.cell_ (i := 3) rfl
  have r4 : w3.cell? ⟨B + 1 + 1, 4, none⟩ = some (.int .u32 0) := HF3.out.ra.cell_ (i := 4) rfl
  have q0 : w3.frozen? ⟨B + 1 + 1, 0, none⟩ = false := HF3.out.ra.frozen 0
  have q1 : w3.frozen? ⟨B + 1 + 1, 1, none⟩ = false := HF3.out.ra.frozen 1
  have q2 : w3.frozen? ⟨B + 1 + 1, 2, none⟩ = false := HF3.out.ra.frozen 2
  have q3 : w3.frozen? ⟨B + 1 + 1, 3, none⟩ = false := HF3.out.ra.frozen 3
  have q4 : w3.frozen? ⟨B + 1 + 1, 4, none⟩ = false := HF3.out.ra.frozen 4
  go_wp2
  have HF4 := Lib.hid ((HF3.out.setN (.bool false) (.int .i64 0) (.int .i64 0) (.bool false)).setA (.int .i64 0) (.int .i64 0) (.int .u32 0) (.int .u32 0) (.int .u32 0))
  exact post_two (P := Try.prog) Try.results38 (by rfl) HF4.out.rn Try.underlying27 rfl (by kernel_rfl) (by rfl) HF4.out.ra Try.underlying40 rfl (by kernel_rfl) rfl ⟨rfl, HF4.out.only, HF4.out.own⟩

set_option maxHeartbeats 400000 in
theorem rw_give_end (base : Nat) (A : Option Addr) (l cp : Nat) (xs : List Int) (n c i : Int) (w : World) (h : Own w base A cp xs) (hn : xs.length = l) (hd : decide (cellI n 2 i < 0) = false) (ht : there xs (pc n i) = true) (b1 : 0 ≤ i) (b2 : i < 64) (b3 : n ≤ i + 1) :
    Calls Try.prog 38 #[.slice A l cp, .int .i64 n, .agg #[.bool true, .int .i64 c, .int .i64 i, .bool true]] w (RStept base A cp ⟨wk0, doVal xs 2 (pc n i) 1 0, st xs (pc n i) 1⟩ w) := by
  have HT := Lib.hid ht
  clear ht
  have HF0 := Lib.hid (RK.start #[.bool true, .int .i64 c, .int .i64 i, .bool true] h)
  have HLN := Lib.hid hn
  clear h hn
  go_enter Try.func38, Try.ntmps38
  go_wp2_with fail
  refine (refCell_any n 2 i _ (by omega)).mono ?_
  rintro e w1 ⟨rfl, rfl⟩
  go_wp2_with fail
  have e0 := (Only.refl Nil (((w.alloc (.cells #[.bool true, .int .i64 c, .int .i64 i, .bool true] 27)).alloc (.cells #[.bool false, .int .i64 0, .int .i64 0, .bool false] 27)).alloc (.cells #[.int .i64 0, .int .i64 0, .int .u32 0, .int .u32 0, .int .u32 0] 40))).alloc (.cells #[.int .i64 0, .int .i64 0, .int .u32 0, .int .u32 0, .int .u32 0] 40)
  have HF1 := Lib.hid (HF0.out.keep e0)
  have HN := Lib.hid (Row.new (((w.alloc (.cells #[.bool true, .int .i64 c, .int .i64 i, .bool true] 27)).alloc (.cells #[.bool false, .int .i64 0, .int .i64 0, .bool false] 27)).alloc (.cells #[.int .i64 0, .int .i64 0, .int .u32 0, .int .u32 0, .int .u32 0] 40)) 40 #[.int .i64 0, .int .i64 0, .int .u32 0, .int .u32 0, .int .u32 0])
  rw [show (((w.alloc (.cells #[.bool true, .int .i64 c, .int .i64 i, .bool true] 27)).alloc (.cells #[.bool false, .int .i64 0, .int .i64 0, .bool false] 27)).alloc (.cells #[.int .i64 0, .int .i64 0, .int .u32 0, .int .u32 0, .int .u32 0] 40)).heap.size = w.heap.size + 1 + 1 + 1 by simp] at HN
  clear e0 HF0
  generalize (((w.alloc (.cells #[.bool true, .int .i64 c, .int .i64 i, .bool true] 27)).alloc (.cells #[.bool false, .int .i64 0, .int .i64 0, .bool false] 27)).alloc (.cells #[.int .i64 0, .int .i64 0, .int .u32 0, .int .u32 0, .int .u32 0] 40)).alloc (.cells #[.int .i64 0, .int .i64 0, .int .u32 0, .int .u32 0, .int .u32 0] 40) = w1 at *
  generalize w.heap.size = B at *
  refine (rgive_any base A l cp xs n i _ HF1.out.own HLN.out).mono ?_
  obtain ⟨ka, ca, xa, ya, hv⟩ := doVal_form xs 2 (pc n i) 1 0
  generalize (if doOk xs 2 (pc n i) then wordAt xs (pc n i) else 0) = oa at hv
  rw [hv, HT.out]
  rintro e w2 ⟨rfl, hO, hM⟩
  have HN1 := Lib.hid (HN.out.only hO (fun e => by have := HF1.out.lt _ e; omega))
  have HF2 := Lib.hid (HF1.out.call hO hM)
  have HV := Lib.hid hv
  clear hO hM hv HF1 HN
  have r0 : w2.cell? ⟨B + 1 + 1 + 1, 0, none⟩ = some (.int .i64 0) := HN1.out.cell_ (i := 0) rfl
  have r1 : w2.cell? ⟨B + 1 + 1 + 1, 1, none⟩ = some (.int .i64 0) := HN1.out.cell_ (i := 1) rfl
  have r2 : w2.cell? ⟨B + 1 + 1 + 1, 2, none⟩ = some (.int .u32 0) := HN1.out.cell_ (i := 2) rfl
  have r3 : w2.cell? ⟨B + 1 + 1 + 1, 3, none⟩ = some (.int .u32 0) := HN1.out.cell_ (i := 3) rfl
  have r4 : w2.cell? ⟨B + 1 + 1 + 1, 4, none⟩ = some (.int .u32 0) := HN1.out.cell_ (i := 4) rfl
  have q0 : w2.frozen? ⟨B + 1 + 1 + 1, 0, none⟩ = false := HN1.out.frozen 0
  have q1 : w2.frozen? ⟨B + 1 + 1 + 1, 1, none⟩ = false := HN1.out.frozen 1
  have q2 : w2.frozen? ⟨B + 1 + 1 + 1, 2, none⟩ = false := HN1.out.frozen 2
  have q3 : w2.frozen? ⟨B + 1 + 1 + 1, 3, none⟩ = false := HN1.out.frozen 3
  have q4 : w2.frozen? ⟨B + 1 + 1 + 1, 4, none⟩ = false := HN1.out.frozen 4
  have HN2 := Lib.hid (five HN1.out (.int .i64 ka) (.int .i64 ca) (.int .u32 xa) (.int .u32 ya) (.int .u32 oa))
  have HF3 := Lib.hid (HF2.out.far (five_only (Only.refl (· = B + 1 + 1 + 1) w2) (g := B + 1 + 1 + 1) (.inr rfl) (.int .i64 ka) (.int .i64 ca) (.int .u32 xa) (.int .u32 ya) (.int .u32 oa)) (by omega))
  clear HN1 HF2
  go_upto_region 7 with (fail)
  clear r0 r1 r2 r3 r4 q0 q1 q2 q3 q4
  generalize (((((w2.setCell ⟨B + 1 + 1 + 1, 0, none⟩ (.int .i64 ka)).setCell ⟨B + 1 + 1 + 1, 1, none⟩ (.int .i64 ca)).setCell ⟨B + 1 + 1 + 1, 2, none⟩ (.int .u32 xa)).setCell ⟨B + 1 + 1 + 1, 3, none⟩ (.int .u32 ya)).setCell ⟨B + 1 + 1 + 1, 4, none⟩ (.int .u32 oa)) = w3 at *
  have k0 : w3.cell? ⟨B, 0, none⟩ = some (.bool true) := HF3.out.rk.cell_ (i := 0) rfl
  have k1 : w3.cell? ⟨B, 1, none⟩ = some (.int .i64 c) := HF3.out.rk.cell_ (i := 1) rfl
  have k2 : w3.cell? ⟨B, 2, none⟩ = some (.int .i64 i) := HF3.out.rk.cell_ (i := 2) rfl
  have k3 : w3.cell? ⟨B, 3, none⟩ = some (.bool true) := HF3.out.rk.cell_ (i := 3) rfl
  skip
  go_wp2_with fail
  clear k0 k1 k2 k3
  have a0 : w3.cell? ⟨B + 1 + 1 + 1, 0, none⟩ = some (.int .i64 ka) := HN2.out.cell_ (i := 0) rfl
  have a1 : w3.cell? ⟨B + 1 + 1 + 1, 1, none⟩ = some (.int .i64 ca) := HN2.out.cell_ (i := 1) rfl
  have a2 : w3.cell? ⟨B + 1 + 1 + 1, 2, none⟩ = some (.int .u32 xa) := HN2.out.cell_ (i := 2) rfl
  have a3 : w3.cell? ⟨B + 1 + 1 + 1, 3, none⟩ = some (.int .u32 ya) := HN2.out.cell_ (i := 3) rfl
  have a4 : w3.cell? ⟨B + 1 + 1 + 1, 4, none⟩ = some (.int .u32 oa) := HN2.out.cell_ (i := 4) rfl
  have k0 : w3.cell? ⟨B, 0, none⟩ = some (.bool true) := HF3.out.rk.cell_ (i := 0) rfl
  have k1 : w3.cell? ⟨B, 1, none⟩ = some (.int .i64 c) := HF3.out.rk.cell_ (i := 1) rfl
  have k2 : w3.cell? ⟨B, 2, none⟩ = some (.int .i64 i) := HF3.out.rk.cell_ (i := 2) rfl
  have k3 : w3.cell? ⟨B, 3, none⟩ = some (.bool true) := HF3.out.rk.cell_ (i := 3) rfl
  refine wp_region_held_drew (S := fun w' => (w'.cell? ⟨B, 0, none⟩ = some (.bool true) ∧ w'.cell? ⟨B, 1, none⟩ = some (.int .i64 c) ∧ w'.cell? ⟨B, 2, none⟩ = some (.int .i64 i) ∧ w'.cell? ⟨B, 3, none⟩ = some (.bool true)) ∧ w'.cell? ⟨B + 1 + 1 + 1, 0, none⟩ = some (.int .i64 ka) ∧ w'.cell? ⟨B + 1 + 1 + 1, 1, none⟩ = some (.int .i64 ca) ∧ w'.cell? ⟨B + 1 + 1 + 1, 2, none⟩ = some (.int .u32 xa) ∧ w'.cell? ⟨B + 1 + 1 + 1, 3, none⟩ = some (.int .u32 ya) ∧ w'.cell? ⟨B + 1 + 1 + 1, 4, none⟩ = some (.int .u32 oa)) (by kernel_rfl) ⟨⟨k0, k1, k2, k3⟩, a0, a1, a2, a3, a4⟩ (fun hHeld => ?_)
  have HF6 := Lib.hid (HF3.out.keep (Only.refl Nil w3).drew)
  have HN6 := Lib.hid HN2.out.drew
  clear a0 a1 a2 a3 a4 k0 k1 k2 k3 HF3 HN2
  generalize w3.drew = w6 at *
  refine take_0 (.agg #[.bool false, .int .i64 0, .int .i64 0, .bool false]) (by kernel_rfl) (by kernel_rfl) (by kernel_rfl) (fun _ _ _ h => h) (by rfl) (fun w hSw => ?_) (by assumption) ?_
  · (try dsimp only at hSw)
    go_split_ands
    go_simp
  (try simp only [Act.put, List.setIfInBounds_toArray, List.set_cons_zero, List.set_cons_succ])
  refine take_1 (.agg #[.int .i64 ka, .int .i64 ca, .int .u32 xa, .int .u32 ya, .int .u32 oa]) (by kernel_rfl) (by kernel_rfl) (by kernel_rfl) (fun _ _ _ h => h) (by rfl) (fun w hSw => ?_) (by assumption) ?_
  · (try dsimp only at hSw)
    go_split_ands
    go_simp
  (try simp only [Act.put, List.setIfInBounds_toArray, List.set_cons_zero, List.set_cons_succ])
  have n0 : w6.cell? ⟨B + 1, 0, none⟩ = some (.bool false) := HF6.out.rn.cell_ (i := 0) rfl
  have n1 : w6.cell? ⟨B + 1, 1, none⟩ = some (.int .i64 0) := HF6.out.rn.cell_ (i := 1) rfl
  have n2 : w6.cell? ⟨B + 1, 2, none⟩ = some (.int .i64 0) := HF6.out.rn.cell_ (i := 2) rfl
  have n3 : w6.cell? ⟨B + 1, 3, none⟩ = some (.bool false) := HF6.out.rn.cell_ (i := 3) rfl
  have m0 : w6.frozen? ⟨B + 1, 0, none⟩ = false := HF6.out.rn.frozen 0
  have m1 : w6.frozen? ⟨B + 1, 1, none⟩ = false := HF6.out.rn.frozen 1
  have m2 : w6.frozen? ⟨B + 1, 2, none⟩ = false := HF6.out.rn.frozen 2
  have m3 : w6.frozen? ⟨B + 1, 3, none⟩ = false := HF6.out.rn.frozen 3
  refine call_2 (by kernel_rfl) (by rfl) (fun K hK => ?_)
  go_simp
  have HF7 := Lib.hid (HF6.out.setN (.bool false) (.int .i64 (0)) (.int .i64 (0)) (.bool false))
  have HN7 := Lib.hid (HN6.out.only (four_only (Only.refl (· = B + 1) w6) (g := B + 1) (.inr rfl) (.bool false) (.int .i64 (0)) (.int .i64 (0)) (.bool false)) (by show ¬ B + 1 + 1 + 1 = B + 1; omega))
  refine hK.out _ _ ⟨⟨HF7.out.rk.cell_ (i := 0) rfl, HF7.out.rk.cell_ (i := 1) rfl, HF7.out.rk.cell_ (i := 2) rfl, HF7.out.rk.cell_ (i := 3) rfl⟩, HN7.out.cell_ (i := 0) rfl, HN7.out.cell_ (i := 1) rfl, HN7.out.cell_ (i := 2) rfl, HN7.out.cell_ (i := 3) rfl, HN7.out.cell_ (i := 4) rfl⟩ (fun hHeld2 => ?_)
  clear hK K hHeld n0 n1 n2 n3 m0 m1 m2 m3 HF6 HN6
  (try simp only [Act.put, List.setIfInBounds_toArray, List.set_cons_zero, List.set_cons_succ])
  generalize (((w6.setCell ⟨B + 1, 0, none⟩ (.bool false)).setCell ⟨B + 1, 1, none⟩ (.int .i64 (0))).setCell ⟨B + 1, 2, none⟩ (.int .i64 (0))).setCell ⟨B + 1, 3, none⟩ (.bool false) = w7 at *
  have r0 : w7.cell? ⟨B + 1 + 1, 0, none⟩ = some (.int .i64 0) := HF7.out.ra.cell_ (i := 0) rfl
  have r1 : w7.cell? ⟨B + 1 + 1, 1, none⟩ = some (.int .i64 0) := HF7.out.ra.cell_ (i := 1) rfl
  have r2 : w7.cell? ⟨B + 1 + 1, 2, none⟩ = some (.int .u32 0) := HF7.out.ra.cell_ (i := 2) rfl
  have r3 : w7.cell? ⟨B + 1 + 1, 3, none⟩ = some (.int .u32 0) := HF7.out.ra.cell_ (i := 3) rfl
  have r4 : w7.cell? ⟨B + 1 + 1, 4, none⟩ = some (.int .u32 0) := HF7.out.ra.cell_ (i := 4) rfl
  have q0 : w7.frozen? ⟨B + 1 + 1, 0, none⟩ = false := HF7.out.ra.frozen 0
  have q1 : w7.frozen? ⟨B + 1 + 1, 1, none⟩ = false := HF7.out.ra.frozen 1
  have q2 : w7.frozen? ⟨B + 1 + 1, 2, none⟩ = false := HF7.out.ra.frozen 2
  have q3 : w7.frozen? ⟨B + 1 + 1, 3, none⟩ = false := HF7.out.ra.frozen 3
  have q4 : w7.frozen? ⟨B + 1 + 1, 4, none⟩ = false := HF7.out.ra.frozen 4
  refine call_3 (by kernel_rfl) (by rfl) (fun K hK => ?_)
  go_simp
  have HF8 := Lib.hid (HF7.out.setA (.int .i64 ka) (.int .i64 ca) (.int .u32 xa) (.int .u32 ya) (.int .u32 oa))
  have HN8 := Lib.hid (HN7.out.only (five_only (Only.refl (· = B + 1 + 1) w7) (g := B + 1 + 1) (.inr rfl) (.int .i64 ka) (.int .i64 ca) (.int .u32 xa) (.int .u32 ya) (.int .u32 oa)) (by show ¬ B + 1 + 1 + 1 = B + 1 + 1; omega))
  refine hK.out _ _ ⟨⟨HF8.out.rk.cell_ (i := 0) rfl, HF8.out.rk.cell_ (i := 1) rfl, HF8.out.rk.cell_ (i := 2) rfl, HF8.out.rk.cell_ (i := 3) rfl⟩, HN8.out.cell_ (i := 0) rfl, HN8.out.cell_ (i := 1) rfl, HN8.out.cell_ (i := 2) rfl, HN8.out.cell_ (i := 3) rfl, HN8.out.cell_ (i := 4) rfl⟩ (fun hHeld3 => ?_)
  clear hK K hHeld2 r0 r1 r2 r3 r4 q0 q1 q2 q3 q4 HF7 HN7
  (try simp only [Act.put, List.setIfInBounds_toArray, List.set_cons_zero, List.set_cons_succ])
  generalize (((((w7.setCell ⟨B + 1 + 1, 0, none⟩ (.int .i64 ka)).setCell ⟨B + 1 + 1, 1, none⟩ (.int .i64 ca)).setCell ⟨B + 1 + 1, 2, none⟩ (.int .u32 xa)).setCell ⟨B + 1 + 1, 3, none⟩ (.int .u32 ya)).setCell ⟨B + 1 + 1, 4, none⟩ (.int .u32 oa)) = w8 at *
  refine wpAnyH_done (by kernel_rfl) ?_ _
  clear hHeld3
  go_wp2
  refine post_two (P := Try.prog) Try.results38 (by rfl) HF8.out.rn Try.underlying27 rfl (by kernel_rfl) (by rfl) HF8.out.ra Try.underlying40 rfl (by kernel_rfl) rfl ⟨?_, HF8.out.only, HF8.out.own⟩
  rw [HV.out]; rfl

set_option maxHeartbeats 400000 in
theorem rw_give_on (base : Nat) (A : Option Addr) (l cp : Nat) (xs : List Int) (n c i : Int) (w : World) (h : Own w base A cp xs) (hn : xs.length = l) (hd : decide (cellI n 2 i < 0) = false) (ht : there xs (pc n i) = true) (b1 : 0 ≤ i) (b2 : i < 64) (b3 : i + 1 < n) :
    Calls Try.prog 38 #[.slice A l cp, .int .i64 n, .agg #[.bool true, .int .i64 c, .int .i64 i, .bool true]] w (RStept base A cp ⟨⟨true, c, i + 1, false⟩, doVal xs 2 (pc n i) 1 0, st xs (pc n i) 1⟩ w) := by
  have HT := Lib.hid ht
  have hj : IntKind.i64.wrap (i + 1) = i + 1 := IntWalk.i64_in _ (by omega)
  have HJ := Lib.hid hj
  clear ht hj
  have HF0 := Lib.hid (RK.start #[.bool true, .int .i64 c, .int .i64 i, .bool true] h)
  have HLN := Lib.hid hn
  clear h hn
  go_enter Try.func38, Try.ntmps38
  go_wp2_with fail
  refine (refCell_any n 2 i _ (by omega)).mono ?_
  rintro e w1 ⟨rfl, rfl⟩
  go_wp2_with fail
  have e0 := (Only.refl Nil (((w.alloc (.cells #[.bool true, .int .i64 c, .int .i64 i, .bool true] 27)).alloc (.cells #[.bool false, .int .i64 0, .int .i64 0, .bool false] 27)).alloc (.cells #[.int .i64 0, .int .i64 0, .int .u32 0, .int .u32 0, .int .u32 0] 40))).alloc (.cells #[.int .i64 0, .int .i64 0, .int .u32 0, .int .u32 0, .int .u32 0] 40)
  have HF1 := Lib.hid (HF0.out.keep e0)
  have HN := Lib.hid (Row.new (((w.alloc (.cells #[.bool true, .int .i64 c, .int .i64 i, .bool true] 27)).alloc (.cells #[.bool false, .int .i64 0, .int .i64 0, .bool false] 27)).alloc (.cells #[.int .i64 0, .int .i64 0, .int .u32 0, .int .u32 0, .int .u32 0] 40)) 40 #[.int .i64 0, .int .i64 0, .int .u32 0, .int .u32 0, .int .u32 0])
  rw [show (((w.alloc (.cells #[.bool true, .int .i64 c, .int .i64 i, .bool true] 27)).alloc (.cells #[.bool false, .int .i64 0, .int .i64 0, .bool false] 27)).alloc (.cells #[.int .i64 0, .int .i64 0, .int .u32 0, .int .u32 0, .int .u32 0] 40)).heap.size = w.heap.size + 1 + 1 + 1 by simp] at HN
  clear e0 HF0
  generalize (((w.alloc (.cells #[.bool true, .int .i64 c, .int .i64 i, .bool true] 27)).alloc (.cells #[.bool false, .int .i64 0, .int .i64 0, .bool false] 27)).alloc (.cells #[.int .i64 0, .int .i64 0, .int .u32 0, .int .u32 0, .int .u32 0] 40)).alloc (.cells #[.int .i64 0, .int .i64 0, .int .u32 0, .int .u32 0, .int .u32 0] 40) = w1 at *
  generalize w.heap.size = B at *
  refine (rgive_any base A l cp xs n i _ HF1.out.own HLN.out).mono ?_
  obtain ⟨ka, ca, xa, ya, hv⟩ := doVal_form xs 2 (pc n i) 1 0
  generalize (if doOk xs 2 (pc n i) then wordAt xs (pc n i) else 0) = oa at hv
  rw [hv, HT.out]
  rintro e w2 ⟨rfl, hO, hM⟩
  have HN1 := Lib.hid (HN.out.only hO (fun e => by have := HF1.out.lt _ e; omega))
  have HF2 := Lib.hid (HF1.out.call hO hM)
  have HV := Lib.hid hv
  clear hO hM hv HF1 HN
  have r0 : w2.cell? ⟨B + 1 + 1 + 1, 0, none⟩ = some (.int .i64 0) := HN1.out.cell_ (i := 0) rfl
  have r1 : w2.cell? ⟨B + 1 + 1 + 1, 1, none⟩ = some (.int .i64 0) := HN1.out.cell_ (i := 1) rfl
  have r2 : w2.cell? ⟨B + 1 + 1 + 1, 2, none⟩ = some (.int .u32 0) := HN1.out.cell_ (i := 2) rfl
  have r3 : w2.cell? ⟨B + 1 + 1 + 1, 3, none⟩ = some (.int .u32 0) := HN1.out.cell_ (i := 3) rfl
  have r4 : w2.cell? ⟨B + 1 + 1 + 1, 4, none⟩ = some (.int .u32 0) := HN1.out.cell_ (i := 4) rfl
  have q0 : w2.frozen? ⟨B + 1 + 1 + 1, 0, none⟩ = false := HN1.out.frozen 0
  have q1 : w2.frozen? ⟨B + 1 + 1 + 1, 1, none⟩ = false := HN1.out.frozen 1
  have q2 : w2.frozen? ⟨B + 1 + 1 + 1, 2, none⟩ = false := HN1.out.frozen 2
  have q3 : w2.frozen? ⟨B + 1 + 1 + 1, 3, none⟩ = false := HN1.out.frozen 3
  have q4 : w2.frozen? ⟨B + 1 + 1 + 1, 4, none⟩ = false := HN1.out.frozen 4
  have HN2 := Lib.hid (five HN1.out (.int .i64 ka) (.int .i64 ca) (.int .u32 xa) (.int .u32 ya) (.int .u32 oa))
  have HF3 := Lib.hid (HF2.out.far (five_only (Only.refl (· = B + 1 + 1 + 1) w2) (g := B + 1 + 1 + 1) (.inr rfl) (.int .i64 ka) (.int .i64 ca) (.int .u32 xa) (.int .u32 ya) (.int .u32 oa)) (by omega))
  clear HN1 HF2
  go_upto_region 7 with (fail)
  clear r0 r1 r2 r3 r4 q0 q1 q2 q3 q4
  generalize (((((w2.setCell ⟨B + 1 + 1 + 1, 0, none⟩ (.int .i64 ka)).setCell ⟨B + 1 + 1 + 1, 1, none⟩ (.int .i64 ca)).setCell ⟨B + 1 + 1 + 1, 2, none⟩ (.int .u32 xa)).setCell ⟨B + 1 + 1 + 1, 3, none⟩ (.int .u32 ya)).setCell ⟨B + 1 + 1 + 1, 4, none⟩ (.int .u32 oa)) = w3 at *
  have k0 : w3.cell? ⟨B, 0, none⟩ = some (.bool true) := HF3.out.rk.cell_ (i := 0) rfl
  have k1 : w3.cell? ⟨B, 1, none⟩ = some (.int .i64 c) := HF3.out.rk.cell_ (i := 1) rfl
  have k2 : w3.cell? ⟨B, 2, none⟩ = some (.int .i64 i) := HF3.out.rk.cell_ (i := 2) rfl
  have k3 : w3.cell? ⟨B, 3, none⟩ = some (.bool true) := HF3.out.rk.cell_ (i := 3) rfl
  skip
  go_wp2_with fail
  clear k0 k1 k2 k3
  have a0 : w3.cell? ⟨B + 1 + 1 + 1, 0, none⟩ = some (.int .i64 ka) := HN2.out.cell_ (i := 0) rfl
  have a1 : w3.cell? ⟨B + 1 + 1 + 1, 1, none⟩ = some (.int .i64 ca) := HN2.out.cell_ (i := 1) rfl
  have a2 : w3.cell? ⟨B + 1 + 1 + 1, 2, none⟩ = some (.int .u32 xa) := HN2.out.cell_ (i := 2) rfl
  have a3 : w3.cell? ⟨B + 1 + 1 + 1, 3, none⟩ = some (.int .u32 ya) := HN2.out.cell_ (i := 3) rfl
  have a4 : w3.cell? ⟨B + 1 + 1 + 1, 4, none⟩ = some (.int .u32 oa) := HN2.out.cell_ (i := 4) rfl
  have k0 : w3.cell? ⟨B, 0, none⟩ = some (.bool true) := HF3.out.rk.cell_ (i := 0) rfl
  have k1 : w3.cell? ⟨B, 1, none⟩ = some (.int .i64 c) := HF3.out.rk.cell_ (i := 1) rfl
  have k2 : w3.cell? ⟨B, 2, none⟩ = some (.int .i64 i) := HF3.out.rk.cell_ (i := 2) rfl
  have k3 : w3.cell? ⟨B, 3, none⟩ = some (.bool true) := HF3.out.rk.cell_ (i := 3) rfl
  refine wp_region_held_drew (S := fun w' => (w'.cell? ⟨B, 0, none⟩ = some (.bool true) ∧ w'.cell? ⟨B, 1, none⟩ = some (.int .i64 c) ∧ w'.cell? ⟨B, 2, none⟩ = some (.int .i64 i) ∧ w'.cell? ⟨B, 3, none⟩ = some (.bool true)) ∧ w'.cell? ⟨B + 1 + 1 + 1, 0, none⟩ = some (.int .i64 ka) ∧ w'.cell? ⟨B + 1 + 1 + 1, 1, none⟩ = some (.int .i64 ca) ∧ w'.cell? ⟨B + 1 + 1 + 1, 2, none⟩ = some (.int .u32 xa) ∧ w'.cell? ⟨B + 1 + 1 + 1, 3, none⟩ = some (.int .u32 ya) ∧ w'.cell? ⟨B + 1 + 1 + 1, 4, none⟩ = some (.int .u32 oa)) (by kernel_rfl) ⟨⟨k0, k1, k2, k3⟩, a0, a1, a2, a3, a4⟩ (fun hHeld => ?_)
  have HF6 := Lib.hid (HF3.out.keep (Only.refl Nil w3).drew)
  have HN6 := Lib.hid HN2.out.drew
  clear a0 a1 a2 a3 a4 k0 k1 k2 k3 HF3 HN2
  generalize w3.drew = w6 at *
  refine take_0 (.pointer (some ⟨B, 1, none⟩)) (by kernel_rfl) (by kernel_rfl) (by kernel_rfl) (fun _ _ _ h => h) (by rfl) (fun w hSw => ?_) (by assumption) ?_
  · (try dsimp only at hSw)
    go_split_ands
    go_simp
  (try simp only [Act.put, List.setIfInBounds_toArray, List.set_cons_zero, List.set_cons_succ])
  refine take_1 (.int .i64 c) (by kernel_rfl) (by kernel_rfl) (by kernel_rfl) (fun _ _ _ h => h) (by rfl) (fun w hSw => ?_) (by assumption) ?_
  · (try dsimp only at hSw)
    go_split_ands
    go_simp
  (try simp only [Act.put, List.setIfInBounds_toArray, List.set_cons_zero, List.set_cons_succ])
  refine take_2 (.pointer (some ⟨B, 2, none⟩)) (by kernel_rfl) (by kernel_rfl) (by kernel_rfl) (fun _ _ _ h => h) (by rfl) (fun w hSw => ?_) (by assumption) ?_
  · (try dsimp only at hSw)
    go_split_ands
    go_simp
  (try simp only [Act.put, List.setIfInBounds_toArray, List.set_cons_zero, List.set_cons_succ])
  refine take_3 (.int .i64 i) (by kernel_rfl) (by kernel_rfl) (by kernel_rfl) (fun _ _ _ h => h) (by rfl) (fun w hSw => ?_) (by assumption) ?_
  · (try dsimp only at hSw)
    go_split_ands
    go_simp
  (try simp only [Act.put, List.setIfInBounds_toArray, List.set_cons_zero, List.set_cons_succ])
  refine take_4 (.int .i64 (IntKind.i64.wrap (i + 1))) (by kernel_rfl) (by kernel_rfl) (by kernel_rfl) (fun _ _ _ h => h) (by rfl) (fun w hSw => ?_) (by assumption) ?_
  · (try dsimp only at hSw)
    go_split_ands
    go_simp
  (try simp only [Act.put, List.setIfInBounds_toArray, List.set_cons_zero, List.set_cons_succ])
  rw [HJ.out]
  refine take_5 (.agg #[.bool true, .int .i64 c, .int .i64 (i + 1), .bool false]) (by kernel_rfl) (by kernel_rfl) (by kernel_rfl) (fun _ _ _ h => h) (by rfl) (fun w hSw => ?_) (by assumption) ?_
  · (try dsimp only at hSw)
    go_split_ands
    go_simp
  (try simp only [Act.put, List.setIfInBounds_toArray, List.set_cons_zero, List.set_cons_succ])
  refine take_6 (.agg #[.int .i64 ka, .int .i64 ca, .int .u32 xa, .int .u32 ya, .int .u32 oa]) (by kernel_rfl) (by kernel_rfl) (by kernel_rfl) (fun _ _ _ h => h) (by rfl) (fun w hSw => ?_) (by assumption) ?_
  · (try dsimp only at hSw)
    go_split_ands
    go_simp
  (try simp only [Act.put, List.setIfInBounds_toArray, List.set_cons_zero, List.set_cons_succ])
  have n0 : w6.cell? ⟨B + 1, 0, none⟩ = some (.bool false) := HF6.out.rn.cell_ (i := 0) rfl
  have n1 : w6.cell? ⟨B + 1, 1, none⟩ = some (.int .i64 0) := HF6.out.rn.cell_ (i := 1) rfl
  have n2 : w6.cell? ⟨B + 1, 2, none⟩ = some (.int .i64 0) := HF6.out.rn.cell_ (i := 2) rfl
  have n3 : w6.cell? ⟨B + 1, 3, none⟩ = some (.bool false) := HF6.out.rn.cell_ (i := 3) rfl
  have m0 : w6.frozen? ⟨B + 1, 0, none⟩ = false := HF6.out.rn.frozen 0
  have m1 : w6.frozen? ⟨B + 1, 1, none⟩ = false := HF6.out.rn.frozen 1
  have m2 : w6.frozen? ⟨B + 1, 2, none⟩ = false := HF6.out.rn.frozen 2
  have m3 : w6.frozen? ⟨B + 1, 3, none⟩ = false := HF6.out.rn.frozen 3
  refine call_7 (by kernel_rfl) (by rfl) (fun K hK => ?_)
  go_simp
  have HF7 := Lib.hid (HF6.out.setN (.bool true) (.int .i64 (c)) (.int .i64 (i + 1)) (.bool false))
  have HN7 := Lib.hid (HN6.out.only (four_only (Only.refl (· = B + 1) w6) (g := B + 1) (.inr rfl) (.bool true) (.int .i64 (c)) (.int .i64 (i + 1)) (.bool false)) (by show ¬ B + 1 + 1 + 1 = B + 1; omega))
  refine hK.out _ _ ⟨⟨HF7.out.rk.cell_ (i := 0) rfl, HF7.out.rk.cell_ (i := 1) rfl, HF7.out.rk.cell_ (i := 2) rfl, HF7.out.rk.cell_ (i := 3) rfl⟩, HN7.out.cell_ (i := 0) rfl, HN7.out.cell_ (i := 1) rfl, HN7.out.cell_ (i := 2) rfl, HN7.out.cell_ (i := 3) rfl, HN7.out.cell_ (i := 4) rfl⟩ (fun hHeld2 => ?_)
  clear hK K hHeld n0 n1 n2 n3 m0 m1 m2 m3 HF6 HN6
  (try simp only [Act.put, List.setIfInBounds_toArray, List.set_cons_zero, List.set_cons_succ])
  generalize (((w6.setCell ⟨B + 1, 0, none⟩ (.bool true)).setCell ⟨B + 1, 1, none⟩ (.int .i64 (c))).setCell ⟨B + 1, 2, none⟩ (.int .i64 (i + 1))).setCell ⟨B + 1, 3, none⟩ (.bool false) = w7 at *
  have r0 : w7.cell? ⟨B + 1 + 1, 0, none⟩ = some (.int .i64 0) := HF7.out.ra.cell_ (i := 0) rfl
  have r1 : w7.cell? ⟨B + 1 + 1, 1, none⟩ = some (.int .i64 0) := HF7.out.ra.cell_ (i := 1) rfl
  have r2 : w7.cell? ⟨B + 1 + 1, 2, none⟩ = some (.int .u32 0) := HF7.out.ra.cell_ (i := 2) rfl
  have r3 : w7.cell? ⟨B + 1 + 1, 3, none⟩ = some (.int .u32 0) := HF7.out.ra.cell_ (i := 3) rfl
  have r4 : w7.cell? ⟨B + 1 + 1, 4, none⟩ = some (.int .u32 0) := HF7.out.ra.cell_ (i := 4) rfl
  have q0 : w7.frozen? ⟨B + 1 + 1, 0, none⟩ = false := HF7.out.ra.frozen 0
  have q1 : w7.frozen? ⟨B + 1 + 1, 1, none⟩ = false := HF7.out.ra.frozen 1
  have q2 : w7.frozen? ⟨B + 1 + 1, 2, none⟩ = false := HF7.out.ra.frozen 2
  have q3 : w7.frozen? ⟨B + 1 + 1, 3, none⟩ = false := HF7.out.ra.frozen 3
  have q4 : w7.frozen? ⟨B + 1 + 1, 4, none⟩ = false := HF7.out.ra.frozen 4
  refine call_8 (by kernel_rfl) (by rfl) (fun K hK => ?_)
  go_simp
  have HF8 := Lib.hid (HF7.out.setA (.int .i64 ka) (.int .i64 ca) (.int .u32 xa) (.int .u32 ya) (.int .u32 oa))
  have HN8 := Lib.hid (HN7.out.only (five_only (Only.refl (· = B + 1 + 1) w7) (g := B + 1 + 1) (.inr rfl) (.int .i64 ka) (.int .i64 ca) (.int .u32 xa) (.int .u32 ya) (.int .u32 oa)) (by show ¬ B + 1 + 1 + 1 = B + 1 + 1; omega))
  refine hK.out _ _ ⟨⟨HF8.out.rk.cell_ (i := 0) rfl, HF8.out.rk.cell_ (i := 1) rfl, HF8.out.rk.cell_ (i := 2) rfl, HF8.out.rk.cell_ (i := 3) rfl⟩, HN8.out.cell_ (i := 0) rfl, HN8.out.cell_ (i := 1) rfl, HN8.out.cell_ (i := 2) rfl, HN8.out.cell_ (i := 3) rfl, HN8.out.cell_ (i := 4) rfl⟩ (fun hHeld3 => ?_)
  clear hK K hHeld2 r0 r1 r2 r3 r4 q0 q1 q2 q3 q4 HF7 HN7
  (try simp only [Act.put, List.setIfInBounds_toArray, List.set_cons_zero, List.set_cons_succ])
  generalize (((((w7.setCell ⟨B + 1 + 1, 0, none⟩ (.int .i64 ka)).setCell ⟨B + 1 + 1, 1, none⟩ (.int .i64 ca)).setCell ⟨B + 1 + 1, 2, none⟩ (.int .u32 xa)).setCell ⟨B + 1 + 1, 3, none⟩ (.int .u32 ya)).setCell ⟨B + 1 + 1, 4, none⟩ (.int .u32 oa)) = w8 at *
  refine wpAnyH_done (by kernel_rfl) ?_ _
  clear hHeld3
  go_wp2
  refine post_two (P := Try.prog) Try.results38 (by rfl) HF8.out.rn Try.underlying27 rfl (by kernel_rfl) (by rfl) HF8.out.ra Try.underlying40 rfl (by kernel_rfl) rfl ⟨?_, HF8.out.only, HF8.out.own⟩
  rw [HV.out]; rfl

theorem rw_look_no (base : Nat) (A : Option Addr) (l cp : Nat) (xs : List Int) (n c i : Int) (w : World) (h : Own w base A cp xs) (hn : xs.length = l) (hd : decide (cellI n 2 i < 0) = false) (ht : there xs (wc n i) = false) :
    Calls Try.prog 38 #[.slice A l cp, .int .i64 n, .agg #[.bool true, .int .i64 c, .int .i64 i, .bool false]] w (RStept base A cp ⟨wk0, accOf 0 0 0 0 0, xs⟩ w) := by
  have HT := Lib.hid ht
  clear ht
  have HF0 := Lib.hid (RK.start #[.bool true, .int .i64 c, .int .i64 i, .bool false] h)
  have HLN := Lib.hid hn
  clear h hn
  go_enter Try.func38, Try.ntmps38
  go_wp2_with fail
  refine (refCell_any n 2 i _ (by omega)).mono ?_
  rintro e w1 ⟨rfl, rfl⟩
  go_wp2_with fail
  have e0 := (Only.refl Nil (((w.alloc (.cells #[.bool true, .int .i64 c, .int .i64 i, .bool false] 27)).alloc (.cells #[.bool false, .int .i64 0, .int .i64 0, .bool false] 27)).alloc (.cells #[.int .i64 0, .int .i64 0, .int .u32 0, .int .u32 0, .int .u32 0] 40))).alloc (.cells #[.int .i64 0, .int .i64 0, .int .u32 0, .int .u32 0, .int .u32 0] 40)
  have HF1 := Lib.hid (HF0.out.keep e0)
  have HN := Lib.hid (Row.new (((w.alloc (.cells #[.bool true, .int .i64 c, .int .i64 i, .bool false] 27)).alloc (.cells #[.bool false, .int .i64 0, .int .i64 0, .bool false] 27)).alloc (.cells #[.int .i64 0, .int .i64 0, .int .u32 0, .int .u32 0, .int .u32 0] 40)) 40 #[.int .i64 0, .int .i64 0, .int .u32 0, .int .u32 0, .int .u32 0])
  rw [show (((w.alloc (.cells #[.bool true, .int .i64 c, .int .i64 i, .bool false] 27)).alloc (.cells #[.bool false, .int .i64 0, .int .i64 0, .bool false] 27)).alloc (.cells #[.int .i64 0, .int .i64 0, .int .u32 0, .int .u32 0, .int .u32 0] 40)).heap.size = w.heap.size + 1 + 1 + 1 by simp] at HN
  clear e0 HF0
  generalize (((w.alloc (.cells #[.bool true, .int .i64 c, .int .i64 i, .bool false] 27)).alloc (.cells #[.bool false, .int .i64 0, .int .i64 0, .bool false] 27)).alloc (.cells #[.int .i64 0, .int .i64 0, .int .u32 0, .int .u32 0, .int .u32 0] 40)).alloc (.cells #[.int .i64 0, .int .i64 0, .int .u32 0, .int .u32 0, .int .u32 0] 40) = w1 at *
  generalize w.heap.size = B at *
  refine (refCell_any n 2 i _ (by omega)).mono ?_
  rintro e w9 ⟨rfl, rfl⟩
  rw [show cellI n 2 i = wc n i from rfl]
  go_wp2_with fail
  refine (refdo_any base A l cp xs 1 (wc n i) 0 0 0 _ HF1.out.own HLN.out).mono ?_
  obtain ⟨ka, ca, xa, ya, hv⟩ := doVal_form xs 1 (wc n i) 0 0
  rw [oldAt xs 1 (wc n i) rfl] at hv
  rw [show doOk xs 1 (wc n i) = there xs (wc n i) by simp [doOk, isKind], doNew_load]
  rw [hv, HT.out]
  rintro e w2 ⟨rfl, hO, hM⟩
  have HN1 := Lib.hid (HN.out.only hO (fun e => by have := HF1.out.lt _ e; omega))
  have HF2 := Lib.hid (HF1.out.call hO hM)
  have HV := Lib.hid hv
  clear hO hM hv HF1 HN
  generalize wordAt xs (wc n i) = oa at *
  have r0 : w2.cell? ⟨B + 1 + 1 + 1, 0, none⟩ = some (.int .i64 0) := HN1.out.cell_ (i := 0) rfl
  have r1 : w2.cell? ⟨B + 1 + 1 + 1, 1, none⟩ = some (.int .i64 0) := HN1.out.cell_ (i := 1) rfl
  have r2 : w2.cell? ⟨B + 1 + 1 + 1, 2, none⟩ = some (.int .u32 0) := HN1.out.cell_ (i := 2) rfl
  have r3 : w2.cell? ⟨B + 1 + 1 + 1, 3, none⟩ = some (.int .u32 0) := HN1.out.cell_ (i := 3) rfl
  have r4 : w2.cell? ⟨B + 1 + 1 + 1, 4, none⟩ = some (.int .u32 0) := HN1.out.cell_ (i := 4) rfl
  have q0 : w2.frozen? ⟨B + 1 + 1 + 1, 0, none⟩ = false := HN1.out.frozen 0
  have q1 : w2.frozen? ⟨B + 1 + 1 + 1, 1, none⟩ = false := HN1.out.frozen 1
  have q2 : w2.frozen? ⟨B + 1 + 1 + 1, 2, none⟩ = false := HN1.out.frozen 2
  have q3 : w2.frozen? ⟨B + 1 + 1 + 1, 3, none⟩ = false := HN1.out.frozen 3
  have q4 : w2.frozen? ⟨B + 1 + 1 + 1, 4, none⟩ = false := HN1.out.frozen 4
  have HN2 := Lib.hid (five HN1.out (.int .i64 ka) (.int .i64 ca) (.int .u32 xa) (.int .u32 ya) (.int .u32 oa))
  have HF3 := Lib.hid (HF2.out.far (five_only (Only.refl (· = B + 1 + 1 + 1) w2) (g := B + 1 + 1 + 1) (.inr rfl) (.int .i64 ka) (.int .i64 ca) (.int .u32 xa) (.int .u32 ya) (.int .u32 oa)) (by omega))
  clear HN1 HF2
  go_upto_region 7 with (fail)
  clear r0 r1 r2 r3 r4 q0 q1 q2 q3 q4
  generalize (((((w2.setCell ⟨B + 1 + 1 + 1, 0, none⟩ (.int .i64 ka)).setCell ⟨B + 1 + 1 + 1, 1, none⟩ (.int .i64 ca)).setCell ⟨B + 1 + 1 + 1, 2, none⟩ (.int .u32 xa)).setCell ⟨B + 1 + 1 + 1, 3, none⟩ (.int .u32 ya)).setCell ⟨B + 1 + 1 + 1, 4, none⟩ (.int .u32 oa)) = w3 at *
  have n0 : w3.cell? ⟨B + 1, 0, none⟩ = some (.bool false) := HF3.out.rn.cell_ (i := 0) rfl
  have n1 : w3.cell? ⟨B + 1, 1, none⟩ = some (.int .i64 0) := HF3.out.rn.cell_ (i := 1) rfl
  have n2 : w3.cell? ⟨B + 1, 2, none⟩ = some (.int .i64 0) := HF3.out.rn.cell_ (i := 2) rfl
  have n3 : w3.cell? ⟨B + 1, 3, none⟩ = some (.bool false) := HF3.out.rn.cell_ (i := 3) rfl
  have m0 : w3.frozen? ⟨B + 1, 0, none⟩ = false := HF3.out.rn.frozen 0
  have m1 : w3.frozen? ⟨B + 1, 1, none⟩ = false := HF3.out.rn.frozen 1
  have m2 : w3.frozen? ⟨B + 1, 2, none⟩ = false := HF3.out.rn.frozen 2
  have m3 : w3.frozen? ⟨B + 1, 3, none⟩ = false := HF3.out.rn.frozen 3
  have r0 : w3.cell? ⟨B + 1 + 1, 0, none⟩ = some (.int .i64 0) := HF3.out.ra.cell_ (i := 0) rfl
  have r1 : w3.cell? ⟨B + 1 + 1, 1, none⟩ = some (.int .i64 0) := HF3.out.ra.cell_ (i := 1) rfl
  have r2 : w3.cell? ⟨B + 1 + 1, 2, none⟩ = some (.int .u32 0) := HF3.out.ra.cell_ (i := 2) rfl
  have r3 : w3.cell? ⟨B + 1 + 1, 3, none⟩ = some (.int .u32 0) := HF3.out.ra.cell_ (i := 3) rfl
  have r4 : w3.cell? ⟨B + 1 + 1, 4, none⟩ = some (.int .u32 0) := HF3.out.ra.cell_ (i := 4) rfl
  have q0 : w3.frozen? ⟨B + 1 + 1, 0, none⟩ = false := HF3.out.ra.frozen 0
  have q1 : w3.frozen? ⟨B + 1 + 1, 1, none⟩ = false := HF3.out.ra.frozen 1
  have q2 : w3.frozen? ⟨B + 1 + 1, 2, none⟩ = false := HF3.out.ra.frozen 2
  have q3 : w3.frozen? ⟨B + 1 + 1, 3, none⟩ = false := HF3.out.ra.frozen 3
  have q4 : w3.frozen? ⟨B + 1 + 1, 4, none⟩ = false := HF3.out.ra.frozen 4
  go_wp2
  have HF4 := Lib.hid ((HF3.out.setN (.bool false) (.int .i64 0) (.int .i64 0) (.bool false)).setA (.int .i64 0) (.int .i64 0) (.int .u32 0) (.int .u32 0) (.int .u32 0))
  exact post_two (P := Try.prog) Try.results38 (by rfl) HF4.out.rn Try.underlying27 rfl (by kernel_rfl) (by rfl) HF4.out.ra Try.underlying40 rfl (by kernel_rfl) rfl ⟨rfl, HF4.out.only, HF4.out.own⟩

set_option maxHeartbeats 400000 in
theorem rw_look_end (base : Nat) (A : Option Addr) (l cp : Nat) (xs : List Int) (n c i : Int) (w : World) (h : Own w base A cp xs) (hn : xs.length = l) (hd : decide (cellI n 2 i < 0) = false) (ht : there xs (wc n i) = true) (hq : (wordAt xs (wc n i) == (c + 1) % 4294967296) = false) (b1 : 0 ≤ i) (b2 : i < 64) (b3 : n ≤ i + 1) :
    Calls Try.prog 38 #[.slice A l cp, .int .i64 n, .agg #[.bool true, .int .i64 c, .int .i64 i, .bool false]] w (RStept base A cp ⟨wk0, doVal xs 1 (wc n i) 0 0, xs⟩ w) := by
  have HT := Lib.hid ht
  have HQ := Lib.hid hq
  clear ht hq
  have HF0 := Lib.hid (RK.start #[.bool true, .int .i64 c, .int .i64 i, .bool false] h)
  have HLN := Lib.hid hn
  clear h hn
  go_enter Try.func38, Try.ntmps38
  go_wp2_with fail
  refine (refCell_any n 2 i _ (by omega)).mono ?_
  rintro e w1 ⟨rfl, rfl⟩
  go_wp2_with fail
  have e0 := (Only.refl Nil (((w.alloc (.cells #[.bool true, .int .i64 c, .int .i64 i, .bool false] 27)).alloc (.cells #[.bool false, .int .i64 0, .int .i64 0, .bool false] 27)).alloc (.cells #[.int .i64 0, .int .i64 0, .int .u32 0, .int .u32 0, .int .u32 0] 40))).alloc (.cells #[.int .i64 0, .int .i64 0, .int .u32 0, .int .u32 0, .int .u32 0] 40)
  have HF1 := Lib.hid (HF0.out.keep e0)
  have HN := Lib.hid (Row.new (((w.alloc (.cells #[.bool true, .int .i64 c, .int .i64 i, .bool false] 27)).alloc (.cells #[.bool false, .int .i64 0, .int .i64 0, .bool false] 27)).alloc (.cells #[.int .i64 0, .int .i64 0, .int .u32 0, .int .u32 0, .int .u32 0] 40)) 40 #[.int .i64 0, .int .i64 0, .int .u32 0, .int .u32 0, .int .u32 0])
  rw [show (((w.alloc (.cells #[.bool true, .int .i64 c, .int .i64 i, .bool false] 27)).alloc (.cells #[.bool false, .int .i64 0, .int .i64 0, .bool false] 27)).alloc (.cells #[.int .i64 0, .int .i64 0, .int .u32 0, .int .u32 0, .int .u32 0] 40)).heap.size = w.heap.size + 1 + 1 + 1 by simp] at HN
  clear e0 HF0
  generalize (((w.alloc (.cells #[.bool true, .int .i64 c, .int .i64 i, .bool false] 27)).alloc (.cells #[.bool false, .int .i64 0, .int .i64 0, .bool false] 27)).alloc (.cells #[.int .i64 0, .int .i64 0, .int .u32 0, .int .u32 0, .int .u32 0] 40)).alloc (.cells #[.int .i64 0, .int .i64 0, .int .u32 0, .int .u32 0, .int .u32 0] 40) = w1 at *
  generalize w.heap.size = B at *
  refine (refCell_any n 2 i _ (by omega)).mono ?_
  rintro e w9 ⟨rfl, rfl⟩
  rw [show cellI n 2 i = wc n i from rfl]
  go_wp2_with fail
  refine (refdo_any base A l cp xs 1 (wc n i) 0 0 0 _ HF1.out.own HLN.out).mono ?_
  obtain ⟨ka, ca, xa, ya, hv⟩ := doVal_form xs 1 (wc n i) 0 0
  rw [oldAt xs 1 (wc n i) rfl] at hv
  rw [show doOk xs 1 (wc n i) = there xs (wc n i) by simp [doOk, isKind], doNew_load]
  rw [hv, HT.out]
  rintro e w2 ⟨rfl, hO, hM⟩
  have HN1 := Lib.hid (HN.out.only hO (fun e => by have := HF1.out.lt _ e; omega))
  have HF2 := Lib.hid (HF1.out.call hO hM)
  have HV := Lib.hid hv
  clear hO hM hv HF1 HN
  generalize wordAt xs (wc n i) = oa at *
  have r0 : w2.cell? ⟨B + 1 + 1 + 1, 0, none⟩ = some (.int .i64 0) := HN1.out.cell_ (i := 0) rfl
  have r1 : w2.cell? ⟨B + 1 + 1 + 1, 1, none⟩ = some (.int .i64 0) := HN1.out.cell_ (i := 1) rfl
  have r2 : w2.cell? ⟨B + 1 + 1 + 1, 2, none⟩ = some (.int .u32 0) := HN1.out.cell_ (i := 2) rfl
  have r3 : w2.cell? ⟨B + 1 + 1 + 1, 3, none⟩ = some (.int .u32 0) := HN1.out.cell_ (i := 3) rfl
  have r4 : w2.cell? ⟨B + 1 + 1 + 1, 4, none⟩ = some (.int .u32 0) := HN1.out.cell_ (i := 4) rfl
  have q0 : w2.frozen? ⟨B + 1 + 1 + 1, 0, none⟩ = false := HN1.out.frozen 0
  have q1 : w2.frozen? ⟨B + 1 + 1 + 1, 1, none⟩ = false := HN1.out.frozen 1
  have q2 : w2.frozen? ⟨B + 1 + 1 + 1, 2, none⟩ = false := HN1.out.frozen 2
  have q3 : w2.frozen? ⟨B + 1 + 1 + 1, 3, none⟩ = false := HN1.out.frozen 3
  have q4 : w2.frozen? ⟨B + 1 + 1 + 1, 4, none⟩ = false := HN1.out.frozen 4
  have HN2 := Lib.hid (five HN1.out (.int .i64 ka) (.int .i64 ca) (.int .u32 xa) (.int .u32 ya) (.int .u32 oa))
  have HF3 := Lib.hid (HF2.out.far (five_only (Only.refl (· = B + 1 + 1 + 1) w2) (g := B + 1 + 1 + 1) (.inr rfl) (.int .i64 ka) (.int .i64 ca) (.int .u32 xa) (.int .u32 ya) (.int .u32 oa)) (by omega))
  clear HN1 HF2
  go_upto_region 7 with (fail)
  clear r0 r1 r2 r3 r4 q0 q1 q2 q3 q4
  generalize (((((w2.setCell ⟨B + 1 + 1 + 1, 0, none⟩ (.int .i64 ka)).setCell ⟨B + 1 + 1 + 1, 1, none⟩ (.int .i64 ca)).setCell ⟨B + 1 + 1 + 1, 2, none⟩ (.int .u32 xa)).setCell ⟨B + 1 + 1 + 1, 3, none⟩ (.int .u32 ya)).setCell ⟨B + 1 + 1 + 1, 4, none⟩ (.int .u32 oa)) = w3 at *
  have a0 : w3.cell? ⟨B + 1 + 1 + 1, 0, none⟩ = some (.int .i64 ka) := HN2.out.cell_ (i := 0) rfl
  have a1 : w3.cell? ⟨B + 1 + 1 + 1, 1, none⟩ = some (.int .i64 ca) := HN2.out.cell_ (i := 1) rfl
  have a2 : w3.cell? ⟨B + 1 + 1 + 1, 2, none⟩ = some (.int .u32 xa) := HN2.out.cell_ (i := 2) rfl
  have a3 : w3.cell? ⟨B + 1 + 1 + 1, 3, none⟩ = some (.int .u32 ya) := HN2.out.cell_ (i := 3) rfl
  have a4 : w3.cell? ⟨B + 1 + 1 + 1, 4, none⟩ = some (.int .u32 oa) := HN2.out.cell_ (i := 4) rfl
  have q0 := HQ.out
  have k0 : w3.cell? ⟨B, 0, none⟩ = some (.bool true) := HF3.out.rk.cell_ (i := 0) rfl
  have k1 : w3.cell? ⟨B, 1, none⟩ = some (.int .i64 c) := HF3.out.rk.cell_ (i := 1) rfl
  have k2 : w3.cell? ⟨B, 2, none⟩ = some (.int .i64 i) := HF3.out.rk.cell_ (i := 2) rfl
  have k3 : w3.cell? ⟨B, 3, none⟩ = some (.bool false) := HF3.out.rk.cell_ (i := 3) rfl
  skip
  go_wp2_with fail
  clear k0 k1 k2 k3
  clear a0 a1 a2 a3 a4 q0
  have a0 : w3.cell? ⟨B + 1 + 1 + 1, 0, none⟩ = some (.int .i64 ka) := HN2.out.cell_ (i := 0) rfl
  have a1 : w3.cell? ⟨B + 1 + 1 + 1, 1, none⟩ = some (.int .i64 ca) := HN2.out.cell_ (i := 1) rfl
  have a2 : w3.cell? ⟨B + 1 + 1 + 1, 2, none⟩ = some (.int .u32 xa) := HN2.out.cell_ (i := 2) rfl
  have a3 : w3.cell? ⟨B + 1 + 1 + 1, 3, none⟩ = some (.int .u32 ya) := HN2.out.cell_ (i := 3) rfl
  have a4 : w3.cell? ⟨B + 1 + 1 + 1, 4, none⟩ = some (.int .u32 oa) := HN2.out.cell_ (i := 4) rfl
  have k0 : w3.cell? ⟨B, 0, none⟩ = some (.bool true) := HF3.out.rk.cell_ (i := 0) rfl
  have k1 : w3.cell? ⟨B, 1, none⟩ = some (.int .i64 c) := HF3.out.rk.cell_ (i := 1) rfl
  have k2 : w3.cell? ⟨B, 2, none⟩ = some (.int .i64 i) := HF3.out.rk.cell_ (i := 2) rfl
  have k3 : w3.cell? ⟨B, 3, none⟩ = some (.bool false) := HF3.out.rk.cell_ (i := 3) rfl
  refine wp_region_held_drew (S := fun w' => (w'.cell? ⟨B, 0, none⟩ = some (.bool true) ∧ w'.cell? ⟨B, 1, none⟩ = some (.int .i64 c) ∧ w'.cell? ⟨B, 2, none⟩ = some (.int .i64 i) ∧ w'.cell? ⟨B, 3, none⟩ = some (.bool false)) ∧ w'.cell? ⟨B + 1 + 1 + 1, 0, none⟩ = some (.int .i64 ka) ∧ w'.cell? ⟨B + 1 + 1 + 1, 1, none⟩ = some (.int .i64 ca) ∧ w'.cell? ⟨B + 1 + 1 + 1, 2, none⟩ = some (.int .u32 xa) ∧ w'.cell? ⟨B + 1 + 1 + 1, 3, none⟩ = some (.int .u32 ya) ∧ w'.cell? ⟨B + 1 + 1 + 1, 4, none⟩ = some (.int .u32 oa)) (by kernel_rfl) ⟨⟨k0, k1, k2, k3⟩, a0, a1, a2, a3, a4⟩ (fun hHeld => ?_)
  have HF6 := Lib.hid (HF3.out.keep (Only.refl Nil w3).drew)
  have HN6 := Lib.hid HN2.out.drew
  clear a0 a1 a2 a3 a4 k0 k1 k2 k3 HF3 HN2
  generalize w3.drew = w6 at *
  refine take_0 (.agg #[.bool false, .int .i64 0, .int .i64 0, .bool false]) (by kernel_rfl) (by kernel_rfl) (by kernel_rfl) (fun _ _ _ h => h) (by rfl) (fun w hSw => ?_) (by assumption) ?_
  · (try dsimp only at hSw)
    go_split_ands
    go_simp
  (try simp only [Act.put, List.setIfInBounds_toArray, List.set_cons_zero, List.set_cons_succ])
  refine take_1 (.agg #[.int .i64 ka, .int .i64 ca, .int .u32 xa, .int .u32 ya, .int .u32 oa]) (by kernel_rfl) (by kernel_rfl) (by kernel_rfl) (fun _ _ _ h => h) (by rfl) (fun w hSw => ?_) (by assumption) ?_
  · (try dsimp only at hSw)
    go_split_ands
    go_simp
  (try simp only [Act.put, List.setIfInBounds_toArray, List.set_cons_zero, List.set_cons_succ])
  have n0 : w6.cell? ⟨B + 1, 0, none⟩ = some (.bool false) := HF6.out.rn.cell_ (i := 0) rfl
  have n1 : w6.cell? ⟨B + 1, 1, none⟩ = some (.int .i64 0) := HF6.out.rn.cell_ (i := 1) rfl
  have n2 : w6.cell? ⟨B + 1, 2, none⟩ = some (.int .i64 0) := HF6.out.rn.cell_ (i := 2) rfl
  have n3 : w6.cell? ⟨B + 1, 3, none⟩ = some (.bool false) := HF6.out.rn.cell_ (i := 3) rfl
  have m0 : w6.frozen? ⟨B + 1, 0, none⟩ = false := HF6.out.rn.frozen 0
  have m1 : w6.frozen? ⟨B + 1, 1, none⟩ = false := HF6.out.rn.frozen 1
  have m2 : w6.frozen? ⟨B + 1, 2, none⟩ = false := HF6.out.rn.frozen 2
  have m3 : w6.frozen? ⟨B + 1, 3, none⟩ = false := HF6.out.rn.frozen 3
  refine call_2 (by kernel_rfl) (by rfl) (fun K hK => ?_)
  go_simp
  have HF7 := Lib.hid (HF6.out.setN (.bool false) (.int .i64 (0)) (.int .i64 (0)) (.bool false))
  have HN7 := Lib.hid (HN6.out.only (four_only (Only.refl (· = B + 1) w6) (g := B + 1) (.inr rfl) (.bool false) (.int .i64 (0)) (.int .i64 (0)) (.bool false)) (by show ¬ B + 1 + 1 + 1 = B + 1; omega))
  refine hK.out _ _ ⟨⟨HF7.out.rk.cell_ (i := 0) rfl, HF7.out.rk.cell_ (i := 1) rfl, HF7.out.rk.cell_ (i := 2) rfl, HF7.out.rk.cell_ (i := 3) rfl⟩, HN7.out.cell_ (i := 0) rfl, HN7.out.cell_ (i := 1) rfl, HN7.out.cell_ (i := 2) rfl, HN7.out.cell_ (i := 3) rfl, HN7.out.cell_ (i := 4) rfl⟩ (fun hHeld2 => ?_)
  clear hK K hHeld n0 n1 n2 n3 m0 m1 m2 m3 HF6 HN6
  (try simp only [Act.put, List.setIfInBounds_toArray, List.set_cons_zero, List.set_cons_succ])
  generalize (((w6.setCell ⟨B + 1, 0, none⟩ (.bool false)).setCell ⟨B + 1, 1, none⟩ (.int .i64 (0))).setCell ⟨B + 1, 2, none⟩ (.int .i64 (0))).setCell ⟨B + 1, 3, none⟩ (.bool false) = w7 at *
  have r0 : w7.cell? ⟨B + 1 + 1, 0, none⟩ = some (.int .i64 0) := HF7.out.ra.cell_ (i := 0) rfl
  have r1 : w7.cell? ⟨B + 1 + 1, 1, none⟩ = some (.int .i64 0) := HF7.out.ra.cell_ (i := 1) rfl
  have r2 : w7.cell? ⟨B + 1 + 1, 2, none⟩ = some (.int .u32 0) := HF7.out.ra.cell_ (i := 2) rfl
  have r3 : w7.cell? ⟨B + 1 + 1, 3, none⟩ = some (.int .u32 0) := HF7.out.ra.cell_ (i := 3) rfl
  have r4 : w7.cell? ⟨B + 1 + 1, 4, none⟩ = some (.int .u32 0) := HF7.out.ra.cell_ (i := 4) rfl
  have q0 : w7.frozen? ⟨B + 1 + 1, 0, none⟩ = false := HF7.out.ra.frozen 0
  have q1 : w7.frozen? ⟨B + 1 + 1, 1, none⟩ = false := HF7.out.ra.frozen 1
  have q2 : w7.frozen? ⟨B + 1 + 1, 2, none⟩ = false := HF7.out.ra.frozen 2
  have q3 : w7.frozen? ⟨B + 1 + 1, 3, none⟩ = false := HF7.out.ra.frozen 3
  have q4 : w7.frozen? ⟨B + 1 + 1, 4, none⟩ = false := HF7.out.ra.frozen 4
  refine call_3 (by kernel_rfl) (by rfl) (fun K hK => ?_)
  go_simp
  have HF8 := Lib.hid (HF7.out.setA (.int .i64 ka) (.int .i64 ca) (.int .u32 xa) (.int .u32 ya) (.int .u32 oa))
  have HN8 := Lib.hid (HN7.out.only (five_only (Only.refl (· = B + 1 + 1) w7) (g := B + 1 + 1) (.inr rfl) (.int .i64 ka) (.int .i64 ca) (.int .u32 xa) (.int .u32 ya) (.int .u32 oa)) (by show ¬ B + 1 + 1 + 1 = B + 1 + 1; omega))
  refine hK.out _ _ ⟨⟨HF8.out.rk.cell_ (i := 0) rfl, HF8.out.rk.cell_ (i := 1) rfl, HF8.out.rk.cell_ (i := 2) rfl, HF8.out.rk.cell_ (i := 3) rfl⟩, HN8.out.cell_ (i := 0) rfl, HN8.out.cell_ (i := 1) rfl, HN8.out.cell_ (i := 2) rfl, HN8.out.cell_ (i := 3) rfl, HN8.out.cell_ (i := 4) rfl⟩ (fun hHeld3 => ?_)
  clear hK K hHeld2 r0 r1 r2 r3 r4 q0 q1 q2 q3 q4 HF7 HN7
  (try simp only [Act.put, List.setIfInBounds_toArray, List.set_cons_zero, List.set_cons_succ])
  generalize (((((w7.setCell ⟨B + 1 + 1, 0, none⟩ (.int .i64 ka)).setCell ⟨B + 1 + 1, 1, none⟩ (.int .i64 ca)).setCell ⟨B + 1 + 1, 2, none⟩ (.int .u32 xa)).setCell ⟨B + 1 + 1, 3, none⟩ (.int .u32 ya)).setCell ⟨B + 1 + 1, 4, none⟩ (.int .u32 oa)) = w8 at *
  refine wpAnyH_done (by kernel_rfl) ?_ _
  clear hHeld3
  go_wp2
  refine post_two (P := Try.prog) Try.results38 (by rfl) HF8.out.rn Try.underlying27 rfl (by kernel_rfl) (by rfl) HF8.out.ra Try.underlying40 rfl (by kernel_rfl) rfl ⟨?_, HF8.out.only, HF8.out.own⟩
  rw [HV.out]; rfl

set_option maxHeartbeats 400000 in
theorem rw_look_on (base : Nat) (A : Option Addr) (l cp : Nat) (xs : List Int) (n c i : Int) (w : World) (h : Own w base A cp xs) (hn : xs.length = l) (hd : decide (cellI n 2 i < 0) = false) (ht : there xs (wc n i) = true) (hq : (wordAt xs (wc n i) == (c + 1) % 4294967296) = false) (b1 : 0 ≤ i) (b2 : i < 64) (b3 : i + 1 < n) :
    Calls Try.prog 38 #[.slice A l cp, .int .i64 n, .agg #[.bool true, .int .i64 c, .int .i64 i, .bool false]] w (RStept base A cp ⟨⟨true, c, i + 1, false⟩, doVal xs 1 (wc n i) 0 0, xs⟩ w) := by
  have HT := Lib.hid ht
  have HQ := Lib.hid hq
  have hj : IntKind.i64.wrap (i + 1) = i + 1 := IntWalk.i64_in _ (by omega)
  have HJ := Lib.hid hj
  clear ht hq hj
  have HF0 := Lib.hid (RK.start #[.bool true, .int .i64 c, .int .i64 i, .bool false] h)
  have HLN := Lib.hid hn
  clear h hn
  go_enter Try.func38, Try.ntmps38
  go_wp2_with fail
  refine (refCell_any n 2 i _ (by omega)).mono ?_
  rintro e w1 ⟨rfl, rfl⟩
  go_wp2_with fail
  have e0 := (Only.refl Nil (((w.alloc (.cells #[.bool true, .int .i64 c, .int .i64 i, .bool false] 27)).alloc (.cells #[.bool false, .int .i64 0, .int .i64 0, .bool false] 27)).alloc (.cells #[.int .i64 0, .int .i64 0, .int .u32 0, .int .u32 0, .int .u32 0] 40))).alloc (.cells #[.int .i64 0, .int .i64 0, .int .u32 0, .int .u32 0, .int .u32 0] 40)
  have HF1 := Lib.hid (HF0.out.keep e0)
  have HN := Lib.hid (Row.new (((w.alloc (.cells #[.bool true, .int .i64 c, .int .i64 i, .bool false] 27)).alloc (.cells #[.bool false, .int .i64 0, .int .i64 0, .bool false] 27)).alloc (.cells #[.int .i64 0, .int .i64 0, .int .u32 0, .int .u32 0, .int .u32 0] 40)) 40 #[.int .i64 0, .int .i64 0, .int .u32 0, .int .u32 0, .int .u32 0])
  rw [show (((w.alloc (.cells #[.bool true, .int .i64 c, .int .i64 i, .bool false] 27)).alloc (.cells #[.bool false, .int .i64 0, .int .i64 0, .bool false] 27)).alloc (.cells #[.int .i64 0, .int .i64 0, .int .u32 0, .int .u32 0, .int .u32 0] 40)).heap.size = w.heap.size + 1 + 1 + 1 by simp] at HN
  clear e0 HF0
  generalize (((w.alloc (.cells #[.bool true, .int .i64 c, .int .i64 i, .bool false] 27)).alloc (.cells #[.bool false, .int .i64 0, .int .i64 0, .bool false] 27)).alloc (.cells #[.int .i64 0, .int .i64 0, .int .u32 0, .int .u32 0, .int .u32 0] 40)).alloc (.cells #[.int .i64 0, .int .i64 0, .int .u32 0, .int .u32 0, .int .u32 0] 40) = w1 at *
  generalize w.heap.size = B at *
  refine (refCell_any n 2 i _ (by omega)).mono ?_
  rintro e w9 ⟨rfl, rfl⟩
  rw [show cellI n 2 i = wc n i from rfl]
  go_wp2_with fail
  refine (refdo_any base A l cp xs 1 (wc n i) 0 0 0 _ HF1.out.own HLN.out).mono ?_
  obtain ⟨ka, ca, xa, ya, hv⟩ := doVal_form xs 1 (wc n i) 0 0
  rw [oldAt xs 1 (wc n i) rfl] at hv
  rw [show doOk xs 1 (wc n i) = there xs (wc n i) by simp [doOk, isKind], doNew_load]
  rw [hv, HT.out]
  rintro e w2 ⟨rfl, hO, hM⟩
  have HN1 := Lib.hid (HN.out.only hO (fun e => by have := HF1.out.lt _ e; omega))
  have HF2 := Lib.hid (HF1.out.call hO hM)
  have HV := Lib.hid hv
  clear hO hM hv HF1 HN
  generalize wordAt xs (wc n i) = oa at *
  have r0 : w2.cell? ⟨B + 1 + 1 + 1, 0, none⟩ = some (.int .i64 0) := HN1.out.cell_ (i := 0) rfl
  have r1 : w2.cell? ⟨B + 1 + 1 + 1, 1, none⟩ = some (.int .i64 0) := HN1.out.cell_ (i := 1) rfl
  have r2 : w2.cell? ⟨B + 1 + 1 + 1, 2, none⟩ = some (.int .u32 0) := HN1.out.cell_ (i := 2) rfl
  have r3 : w2.cell? ⟨B + 1 + 1 + 1, 3, none⟩ = some (.int .u32 0) := HN1.out.cell_ (i := 3) rfl
  have r4 : w2.cell? ⟨B + 1 + 1 + 1, 4, none⟩ = some (.int .u32 0) := HN1.out.cell_ (i := 4) rfl
  have q0 : w2.frozen? ⟨B + 1 + 1 + 1, 0, none⟩ = false := HN1.out.frozen 0
  have q1 : w2.frozen? ⟨B + 1 + 1 + 1, 1, none⟩ = false := HN1.out.frozen 1
  have q2 : w2.frozen? ⟨B + 1 + 1 + 1, 2, none⟩ = false := HN1.out.frozen 2
  have q3 : w2.frozen? ⟨B + 1 + 1 + 1, 3, none⟩ = false := HN1.out.frozen 3
  have q4 : w2.frozen? ⟨B + 1 + 1 + 1, 4, none⟩ = false := HN1.out.frozen 4
  have HN2 := Lib.hid (five HN1.out (.int .i64 ka) (.int .i64 ca) (.int .u32 xa) (.int .u32 ya) (.int .u32 oa))
  have HF3 := Lib.hid (HF2.out.far (five_only (Only.refl (· = B + 1 + 1 + 1) w2) (g := B + 1 + 1 + 1) (.inr rfl) (.int .i64 ka) (.int .i64 ca) (.int .u32 xa) (.int .u32 ya) (.int .u32 oa)) (by omega))
  clear HN1 HF2
  go_upto_region 7 with (fail)
  clear r0 r1 r2 r3 r4 q0 q1 q2 q3 q4
  generalize (((((w2.setCell ⟨B + 1 + 1 + 1, 0, none⟩ (.int .i64 ka)).setCell ⟨B + 1 + 1 + 1, 1, none⟩ (.int .i64 ca)).setCell ⟨B + 1 + 1 + 1, 2, none⟩ (.int .u32 xa)).setCell ⟨B + 1 + 1 + 1, 3, none⟩ (.int .u32 ya)).setCell ⟨B + 1 + 1 + 1, 4, none⟩ (.int .u32 oa)) = w3 at *
  have a0 : w3.cell? ⟨B + 1 + 1 + 1, 0, none⟩ = some (.int .i64 ka) := HN2.out.cell_ (i := 0) rfl
  have a1 : w3.cell? ⟨B + 1 + 1 + 1, 1, none⟩ = some (.int .i64 ca) := HN2.out.cell_ (i := 1) rfl
  have a2 : w3.cell? ⟨B + 1 + 1 + 1, 2, none⟩ = some (.int .u32 xa) := HN2.out.cell_ (i := 2) rfl
  have a3 : w3.cell? ⟨B + 1 + 1 + 1, 3, none⟩ = some (.int .u32 ya) := HN2.out.cell_ (i := 3) rfl
  have a4 : w3.cell? ⟨B + 1 + 1 + 1, 4, none⟩ = some (.int .u32 oa) := HN2.out.cell_ (i := 4) rfl
  have q0 := HQ.out
  have k0 : w3.cell? ⟨B, 0, none⟩ = some (.bool true) := HF3.out.rk.cell_ (i := 0) rfl
  have k1 : w3.cell? ⟨B, 1, none⟩ = some (.int .i64 c) := HF3.out.rk.cell_ (i := 1) rfl
  have k2 : w3.cell? ⟨B, 2, none⟩ = some (.int .i64 i) := HF3.out.rk.cell_ (i := 2) rfl
  have k3 : w3.cell? ⟨B, 3, none⟩ = some (.bool false) := HF3.out.rk.cell_ (i := 3) rfl
  skip
  go_wp2_with fail
  clear k0 k1 k2 k3
  clear a0 a1 a2 a3 a4 q0
  have a0 : w3.cell? ⟨B + 1 + 1 + 1, 0, none⟩ = some (.int .i64 ka) := HN2.out.cell_ (i := 0) rfl
  have a1 : w3.cell? ⟨B + 1 + 1 + 1, 1, none⟩ = some (.int .i64 ca) := HN2.out.cell_ (i := 1) rfl
  have a2 : w3.cell? ⟨B + 1 + 1 + 1, 2, none⟩ = some (.int .u32 xa) := HN2.out.cell_ (i := 2) rfl
  have a3 : w3.cell? ⟨B + 1 + 1 + 1, 3, none⟩ = some (.int .u32 ya) := HN2.out.cell_ (i := 3) rfl
  have a4 : w3.cell? ⟨B + 1 + 1 + 1, 4, none⟩ = some (.int .u32 oa) := HN2.out.cell_ (i := 4) rfl
  have k0 : w3.cell? ⟨B, 0, none⟩ = some (.bool true) := HF3.out.rk.cell_ (i := 0) rfl
  have k1 : w3.cell? ⟨B, 1, none⟩ = some (.int .i64 c) := HF3.out.rk.cell_ (i := 1) rfl
  have k2 : w3.cell? ⟨B, 2, none⟩ = some (.int .i64 i) := HF3.out.rk.cell_ (i := 2) rfl
  have k3 : w3.cell? ⟨B, 3, none⟩ = some (.bool false) := HF3.out.rk.cell_ (i := 3) rfl
  refine wp_region_held_drew (S := fun w' => (w'.cell? ⟨B, 0, none⟩ = some (.bool true) ∧ w'.cell? ⟨B, 1, none⟩ = some (.int .i64 c) ∧ w'.cell? ⟨B, 2, none⟩ = some (.int .i64 i) ∧ w'.cell? ⟨B, 3, none⟩ = some (.bool false)) ∧ w'.cell? ⟨B + 1 + 1 + 1, 0, none⟩ = some (.int .i64 ka) ∧ w'.cell? ⟨B + 1 + 1 + 1, 1, none⟩ = some (.int .i64 ca) ∧ w'.cell? ⟨B + 1 + 1 + 1, 2, none⟩ = some (.int .u32 xa) ∧ w'.cell? ⟨B + 1 + 1 + 1, 3, none⟩ = some (.int .u32 ya) ∧ w'.cell? ⟨B + 1 + 1 + 1, 4, none⟩ = some (.int .u32 oa)) (by kernel_rfl) ⟨⟨k0, k1, k2, k3⟩, a0, a1, a2, a3, a4⟩ (fun hHeld => ?_)
  have HF6 := Lib.hid (HF3.out.keep (Only.refl Nil w3).drew)
  have HN6 := Lib.hid HN2.out.drew
  clear a0 a1 a2 a3 a4 k0 k1 k2 k3 HF3 HN2
  generalize w3.drew = w6 at *
  refine take_0 (.pointer (some ⟨B, 1, none⟩)) (by kernel_rfl) (by kernel_rfl) (by kernel_rfl) (fun _ _ _ h => h) (by rfl) (fun w hSw => ?_) (by assumption) ?_
  · (try dsimp only at hSw)
    go_split_ands
    go_simp
  (try simp only [Act.put, List.setIfInBounds_toArray, List.set_cons_zero, List.set_cons_succ])
  refine take_1 (.int .i64 c) (by kernel_rfl) (by kernel_rfl) (by kernel_rfl) (fun _ _ _ h => h) (by rfl) (fun w hSw => ?_) (by assumption) ?_
  · (try dsimp only at hSw)
    go_split_ands
    go_simp
  (try simp only [Act.put, List.setIfInBounds_toArray, List.set_cons_zero, List.set_cons_succ])
  refine take_2 (.pointer (some ⟨B, 2, none⟩)) (by kernel_rfl) (by kernel_rfl) (by kernel_rfl) (fun _ _ _ h => h) (by rfl) (fun w hSw => ?_) (by assumption) ?_
  · (try dsimp only at hSw)
    go_split_ands
    go_simp
  (try simp only [Act.put, List.setIfInBounds_toArray, List.set_cons_zero, List.set_cons_succ])
  refine take_3 (.int .i64 i) (by kernel_rfl) (by kernel_rfl) (by kernel_rfl) (fun _ _ _ h => h) (by rfl) (fun w hSw => ?_) (by assumption) ?_
  · (try dsimp only at hSw)
    go_split_ands
    go_simp
  (try simp only [Act.put, List.setIfInBounds_toArray, List.set_cons_zero, List.set_cons_succ])
  refine take_4 (.int .i64 (IntKind.i64.wrap (i + 1))) (by kernel_rfl) (by kernel_rfl) (by kernel_rfl) (fun _ _ _ h => h) (by rfl) (fun w hSw => ?_) (by assumption) ?_
  · (try dsimp only at hSw)
    go_split_ands
    go_simp
  (try simp only [Act.put, List.setIfInBounds_toArray, List.set_cons_zero, List.set_cons_succ])
  rw [HJ.out]
  refine take_5 (.agg #[.bool true, .int .i64 c, .int .i64 (i + 1), .bool false]) (by kernel_rfl) (by kernel_rfl) (by kernel_rfl) (fun _ _ _ h => h) (by rfl) (fun w hSw => ?_) (by assumption) ?_
  · (try dsimp only at hSw)
    go_split_ands
    go_simp
  (try simp only [Act.put, List.setIfInBounds_toArray, List.set_cons_zero, List.set_cons_succ])
  refine take_6 (.agg #[.int .i64 ka, .int .i64 ca, .int .u32 xa, .int .u32 ya, .int .u32 oa]) (by kernel_rfl) (by kernel_rfl) (by kernel_rfl) (fun _ _ _ h => h) (by rfl) (fun w hSw => ?_) (by assumption) ?_
  · (try dsimp only at hSw)
    go_split_ands
    go_simp
  (try simp only [Act.put, List.setIfInBounds_toArray, List.set_cons_zero, List.set_cons_succ])
  have n0 : w6.cell? ⟨B + 1, 0, none⟩ = some (.bool false) := HF6.out.rn.cell_ (i := 0) rfl
  have n1 : w6.cell? ⟨B + 1, 1, none⟩ = some (.int .i64 0) := HF6.out.rn.cell_ (i := 1) rfl
  have n2 : w6.cell? ⟨B + 1, 2, none⟩ = some (.int .i64 0) := HF6.out.rn.cell_ (i := 2) rfl
  have n3 : w6.cell? ⟨B + 1, 3, none⟩ = some (.bool false) := HF6.out.rn.cell_ (i := 3) rfl
  have m0 : w6.frozen? ⟨B + 1, 0, none⟩ = false := HF6.out.rn.frozen 0
  have m1 : w6.frozen? ⟨B + 1, 1, none⟩ = false := HF6.out.rn.frozen 1
  have m2 : w6.frozen? ⟨B + 1, 2, none⟩ = false := HF6.out.rn.frozen 2
  have m3 : w6.frozen? ⟨B + 1, 3, none⟩ = false := HF6.out.rn.frozen 3
  refine call_7 (by kernel_rfl) (by rfl) (fun K hK => ?_)
  go_simp
  have HF7 := Lib.hid (HF6.out.setN (.bool true) (.int .i64 (c)) (.int .i64 (i + 1)) (.bool false))
  have HN7 := Lib.hid (HN6.out.only (four_only (Only.refl (· = B + 1) w6) (g := B + 1) (.inr rfl) (.bool true) (.int .i64 (c)) (.int .i64 (i + 1)) (.bool false)) (by show ¬ B + 1 + 1 + 1 = B + 1; omega))
  refine hK.out _ _ ⟨⟨HF7.out.rk.cell_ (i := 0) rfl, HF7.out.rk.cell_ (i := 1) rfl, HF7.out.rk.cell_ (i := 2) rfl, HF7.out.rk.cell_ (i := 3) rfl⟩, HN7.out.cell_ (i := 0) rfl, HN7.out.cell_ (i := 1) rfl, HN7.out.cell_ (i := 2) rfl, HN7.out.cell_ (i := 3) rfl, HN7.out.cell_ (i := 4) rfl⟩ (fun hHeld2 => ?_)
  clear hK K hHeld n0 n1 n2 n3 m0 m1 m2 m3 HF6 HN6
  (try simp only [Act.put, List.setIfInBounds_toArray, List.set_cons_zero, List.set_cons_succ])
  generalize (((w6.setCell ⟨B + 1, 0, none⟩ (.bool true)).setCell ⟨B + 1, 1, none⟩ (.int .i64 (c))).setCell ⟨B + 1, 2, none⟩ (.int .i64 (i + 1))).setCell ⟨B + 1, 3, none⟩ (.bool false) = w7 at *
  have r0 : w7.cell? ⟨B + 1 + 1, 0, none⟩ = some (.int .i64 0) := HF7.out.ra.cell_ (i := 0) rfl
  have r1 : w7.cell? ⟨B + 1 + 1, 1, none⟩ = some (.int .i64 0) := HF7.out.ra.cell_ (i := 1) rfl
  have r2 : w7.cell? ⟨B + 1 + 1, 2, none⟩ = some (.int .u32 0) := HF7.out.ra.cell_ (i := 2) rfl
  have r3 : w7.cell? ⟨B + 1 + 1, 3, none⟩ = some (.int .u32 0) := HF7.out.ra.cell_ (i := 3) rfl
  have r4 : w7.cell? ⟨B + 1 + 1, 4, none⟩ = some (.int .u32 0) := HF7.out.ra.cell_ (i := 4) rfl
  have q0 : w7.frozen? ⟨B + 1 + 1, 0, none⟩ = false := HF7.out.ra.frozen 0
  have q1 : w7.frozen? ⟨B + 1 + 1, 1, none⟩ = false := HF7.out.ra.frozen 1
  have q2 : w7.frozen? ⟨B + 1 + 1, 2, none⟩ = false := HF7.out.ra.frozen 2
  have q3 : w7.frozen? ⟨B + 1 + 1, 3, none⟩ = false := HF7.out.ra.frozen 3
  have q4 : w7.frozen? ⟨B + 1 + 1, 4, none⟩ = false := HF7.out.ra.frozen 4
  refine call_8 (by kernel_rfl) (by rfl) (fun K hK => ?_)
  go_simp
  have HF8 := Lib.hid (HF7.out.setA (.int .i64 ka) (.int .i64 ca) (.int .u32 xa) (.int .u32 ya) (.int .u32 oa))
  have HN8 := Lib.hid (HN7.out.only (five_only (Only.refl (· = B + 1 + 1) w7) (g := B + 1 + 1) (.inr rfl) (.int .i64 ka) (.int .i64 ca) (.int .u32 xa) (.int .u32 ya) (.int .u32 oa)) (by show ¬ B + 1 + 1 + 1 = B + 1 + 1; omega))
  refine hK.out _ _ ⟨⟨HF8.out.rk.cell_ (i := 0) rfl, HF8.out.rk.cell_ (i := 1) rfl, HF8.out.rk.cell_ (i := 2) rfl, HF8.out.rk.cell_ (i := 3) rfl⟩, HN8.out.cell_ (i := 0) rfl, HN8.out.cell_ (i := 1) rfl, HN8.out.cell_ (i := 2) rfl, HN8.out.cell_ (i := 3) rfl, HN8.out.cell_ (i := 4) rfl⟩ (fun hHeld3 => ?_)
  clear hK K hHeld2 r0 r1 r2 r3 r4 q0 q1 q2 q3 q4 HF7 HN7
  (try simp only [Act.put, List.setIfInBounds_toArray, List.set_cons_zero, List.set_cons_succ])
  generalize (((((w7.setCell ⟨B + 1 + 1, 0, none⟩ (.int .i64 ka)).setCell ⟨B + 1 + 1, 1, none⟩ (.int .i64 ca)).setCell ⟨B + 1 + 1, 2, none⟩ (.int .u32 xa)).setCell ⟨B + 1 + 1, 3, none⟩ (.int .u32 ya)).setCell ⟨B + 1 + 1, 4, none⟩ (.int .u32 oa)) = w8 at *
  refine wpAnyH_done (by kernel_rfl) ?_ _
  clear hHeld3
  go_wp2
  refine post_two (P := Try.prog) Try.results38 (by rfl) HF8.out.rn Try.underlying27 rfl (by kernel_rfl) (by rfl) HF8.out.ra Try.underlying40 rfl (by kernel_rfl) rfl ⟨?_, HF8.out.only, HF8.out.own⟩
  rw [HV.out]; rfl

set_option maxHeartbeats 400000 in
theorem rw_look_hit (base : Nat) (A : Option Addr) (l cp : Nat) (xs : List Int) (n c i : Int) (w : World) (h : Own w base A cp xs) (hn : xs.length = l) (hd : decide (cellI n 2 i < 0) = false) (ht : there xs (wc n i) = true) (hq : (wordAt xs (wc n i) == (c + 1) % 4294967296) = true) :
    Calls Try.prog 38 #[.slice A l cp, .int .i64 n, .agg #[.bool true, .int .i64 c, .int .i64 i, .bool false]] w (RStept base A cp ⟨⟨true, c, i, true⟩, doVal xs 1 (wc n i) 0 0, xs⟩ w) := by
  have HT := Lib.hid ht
  have HQ := Lib.hid hq
  clear ht hq
  have HF0 := Lib.hid (RK.start #[.bool true, .int .i64 c, .int .i64 i, .bool false] h)
  have HLN := Lib.hid hn
  clear h hn
  go_enter Try.func38, Try.ntmps38
  go_wp2_with fail
  refine (refCell_any n 2 i _ (by omega)).mono ?_
  rintro e w1 ⟨rfl, rfl⟩
  go_wp2_with fail
  have e0 := (Only.refl Nil (((w.alloc (.cells #[.bool true, .int .i64 c, .int .i64 i, .bool false] 27)).alloc (.cells #[.bool false, .int .i64 0, .int .i64 0, .bool false] 27)).alloc (.cells #[.int .i64 0, .int .i64 0, .int .u32 0, .int .u32 0, .int .u32 0] 40))).alloc (.cells #[.int .i64 0, .int .i64 0, .int .u32 0, .int .u32 0, .int .u32 0] 40)
  have HF1 := Lib.hid (HF0.out.keep e0)
  have HN := Lib.hid (Row.new (((w.alloc (.cells #[.bool true, .int .i64 c, .int .i64 i, .bool false] 27)).alloc (.cells #[.bool false, .int .i64 0, .int .i64 0, .bool false] 27)).alloc (.cells #[.int .i64 0, .int .i64 0, .int .u32 0, .int .u32 0, .int .u32 0] 40)) 40 #[.int .i64 0, .int .i64 0, .int .u32 0, .int .u32 0, .int .u32 0])
  rw [show (((w.alloc (.cells #[.bool true, .int .i64 c, .int .i64 i, .bool false] 27)).alloc (.cells #[.bool false, .int .i64 0, .int .i64 0, .bool false] 27)).alloc (.cells #[.int .i64 0, .int .i64 0, .int .u32 0, .int .u32 0, .int .u32 0] 40)).heap.size = w.heap.size + 1 + 1 + 1 by simp] at HN
  clear e0 HF0
  generalize (((w.alloc (.cells #[.bool true, .int .i64 c, .int .i64 i, .bool false] 27)).alloc (.cells #[.bool false, .int .i64 0, .int .i64 0, .bool false] 27)).alloc (.cells #[.int .i64 0, .int .i64 0, .int .u32 0, .int .u32 0, .int .u32 0] 40)).alloc (.cells #[.int .i64 0, .int .i64 0, .int .u32 0, .int .u32 0, .int .u32 0] 40) = w1 at *
  generalize w.heap.size = B at *
  refine (refCell_any n 2 i _ (by omega)).mono ?_
  rintro e w9 ⟨rfl, rfl⟩
  rw [show cellI n 2 i = wc n i from rfl]
  go_wp2_with fail
  refine (refdo_any base A l cp xs 1 (wc n i) 0 0 0 _ HF1.out.own HLN.out).mono ?_
  obtain ⟨ka, ca, xa, ya, hv⟩ := doVal_form xs 1 (wc n i) 0 0
  rw [oldAt xs 1 (wc n i) rfl] at hv
  rw [show doOk xs 1 (wc n i) = there xs (wc n i) by simp [doOk, isKind], doNew_load]
  rw [hv, HT.out]
  rintro e w2 ⟨rfl, hO, hM⟩
  have HN1 := Lib.hid (HN.out.only hO (fun e => by have := HF1.out.lt _ e; omega))
  have HF2 := Lib.hid (HF1.out.call hO hM)
  have HV := Lib.hid hv
  clear hO hM hv HF1 HN
  generalize wordAt xs (wc n i) = oa at *
  have r0 : w2.cell? ⟨B + 1 + 1 + 1, 0, none⟩ = some (.int .i64 0) := HN1.out.cell_ (i := 0) rfl
  have r1 : w2.cell? ⟨B + 1 + 1 + 1, 1, none⟩ = some (.int .i64 0) := HN1.out.cell_ (i := 1) rfl
  have r2 : w2.cell? ⟨B + 1 + 1 + 1, 2, none⟩ = some (.int .u32 0) := HN1.out.cell_ (i := 2) rfl
  have r3 : w2.cell? ⟨B + 1 + 1 + 1, 3, none⟩ = some (.int .u32 0) := HN1.out.cell_ (i := 3) rfl
  have r4 : w2.cell? ⟨B + 1 + 1 + 1, 4, none⟩ = some (.int .u32 0) := HN1.out.cell_ (i := 4) rfl
  have q0 : w2.frozen? ⟨B + 1 + 1 + 1, 0, none⟩ = false := HN1.out.frozen 0
  have q1 : w2.frozen? ⟨B + 1 + 1 + 1, 1, none⟩ = false := HN1.out.frozen 1
  have q2 : w2.frozen? ⟨B + 1 + 1 + 1, 2, none⟩ = false := HN1.out.frozen 2
  have q3 : w2.frozen? ⟨B + 1 + 1 + 1, 3, none⟩ = false := HN1.out.frozen 3
  have q4 : w2.frozen? ⟨B + 1 + 1 + 1, 4, none⟩ = false := HN1.out.frozen 4
  have HN2 := Lib.hid (five HN1.out (.int .i64 ka) (.int .i64 ca) (.int .u32 xa) (.int .u32 ya) (.int .u32 oa))
  have HF3 := Lib.hid (HF2.out.far (five_only (Only.refl (· = B + 1 + 1 + 1) w2) (g := B + 1 + 1 + 1) (.inr rfl) (.int .i64 ka) (.int .i64 ca) (.int .u32 xa) (.int .u32 ya) (.int .u32 oa)) (by omega))
  clear HN1 HF2
  go_upto_region 7 with (fail)
  clear r0 r1 r2 r3 r4 q0 q1 q2 q3 q4
  generalize (((((w2.setCell ⟨B + 1 + 1 + 1, 0, none⟩ (.int .i64 ka)).setCell ⟨B + 1 + 1 + 1, 1, none⟩ (.int .i64 ca)).setCell ⟨B + 1 + 1 + 1, 2, none⟩ (.int .u32 xa)).setCell ⟨B + 1 + 1 + 1, 3, none⟩ (.int .u32 ya)).setCell ⟨B + 1 + 1 + 1, 4, none⟩ (.int .u32 oa)) = w3 at *
  have a0 : w3.cell? ⟨B + 1 + 1 + 1, 0, none⟩ = some (.int .i64 ka) := HN2.out.cell_ (i := 0) rfl
  have a1 : w3.cell? ⟨B + 1 + 1 + 1, 1, none⟩ = some (.int .i64 ca) := HN2.out.cell_ (i := 1) rfl
  have a2 : w3.cell? ⟨B + 1 + 1 + 1, 2, none⟩ = some (.int .u32 xa) := HN2.out.cell_ (i := 2) rfl
  have a3 : w3.cell? ⟨B + 1 + 1 + 1, 3, none⟩ = some (.int .u32 ya) := HN2.out.cell_ (i := 3) rfl
  have a4 : w3.cell? ⟨B + 1 + 1 + 1, 4, none⟩ = some (.int .u32 oa) := HN2.out.cell_ (i := 4) rfl
  have q0 := HQ.out
  have k0 : w3.cell? ⟨B, 0, none⟩ = some (.bool true) := HF3.out.rk.cell_ (i := 0) rfl
  have k1 : w3.cell? ⟨B, 1, none⟩ = some (.int .i64 c) := HF3.out.rk.cell_ (i := 1) rfl
  have k2 : w3.cell? ⟨B, 2, none⟩ = some (.int .i64 i) := HF3.out.rk.cell_ (i := 2) rfl
  have k3 : w3.cell? ⟨B, 3, none⟩ = some (.bool false) := HF3.out.rk.cell_ (i := 3) rfl
  have p0 : w3.frozen? ⟨B, 0, none⟩ = false := HF3.out.rk.frozen 0
  have p1 : w3.frozen? ⟨B, 1, none⟩ = false := HF3.out.rk.frozen 1
  have p2 : w3.frozen? ⟨B, 2, none⟩ = false := HF3.out.rk.frozen 2
  have p3 : w3.frozen? ⟨B, 3, none⟩ = false := HF3.out.rk.frozen 3
  go_wp2_with fail
  clear k0 k1 k2 k3 p0 p1 p2 p3 a0 a1 a2 a3 a4 q0
  have HF5 := Lib.hid (HF3.out.setH (.bool true))
  have HN5 := Lib.hid (HN2.out.far (p := ⟨B, 3, none⟩) (by show B + 1 + 1 + 1 ≠ B; omega) (.bool true))
  clear HF3 HN2
  generalize w3.setCell ⟨B, 3, none⟩ (.bool true) = w5 at *
  have a0 : w5.cell? ⟨B + 1 + 1 + 1, 0, none⟩ = some (.int .i64 ka) := HN5.out.cell_ (i := 0) rfl
  have a1 : w5.cell? ⟨B + 1 + 1 + 1, 1, none⟩ = some (.int .i64 ca) := HN5.out.cell_ (i := 1) rfl
  have a2 : w5.cell? ⟨B + 1 + 1 + 1, 2, none⟩ = some (.int .u32 xa) := HN5.out.cell_ (i := 2) rfl
  have a3 : w5.cell? ⟨B + 1 + 1 + 1, 3, none⟩ = some (.int .u32 ya) := HN5.out.cell_ (i := 3) rfl
  have a4 : w5.cell? ⟨B + 1 + 1 + 1, 4, none⟩ = some (.int .u32 oa) := HN5.out.cell_ (i := 4) rfl
  have k0 : w5.cell? ⟨B, 0, none⟩ = some (.bool true) := HF5.out.rk.cell_ (i := 0) rfl
  have k1 : w5.cell? ⟨B, 1, none⟩ = some (.int .i64 c) := HF5.out.rk.cell_ (i := 1) rfl
  have k2 : w5.cell? ⟨B, 2, none⟩ = some (.int .i64 i) := HF5.out.rk.cell_ (i := 2) rfl
  have k3 : w5.cell? ⟨B, 3, none⟩ = some (.bool true) := HF5.out.rk.cell_ (i := 3) rfl
  refine wp_region_held_drew (S := fun w' => (w'.cell? ⟨B, 0, none⟩ = some (.bool true) ∧ w'.cell? ⟨B, 1, none⟩ = some (.int .i64 c) ∧ w'.cell? ⟨B, 2, none⟩ = some (.int .i64 i) ∧ w'.cell? ⟨B, 3, none⟩ = some (.bool true)) ∧ w'.cell? ⟨B + 1 + 1 + 1, 0, none⟩ = some (.int .i64 ka) ∧ w'.cell? ⟨B + 1 + 1 + 1, 1, none⟩ = some (.int .i64 ca) ∧ w'.cell? ⟨B + 1 + 1 + 1, 2, none⟩ = some (.int .u32 xa) ∧ w'.cell? ⟨B + 1 + 1 + 1, 3, none⟩ = some (.int .u32 ya) ∧ w'.cell? ⟨B + 1 + 1 + 1, 4, none⟩ = some (.int .u32 oa)) (by kernel_rfl) ⟨⟨k0, k1, k2, k3⟩, a0, a1, a2, a3, a4⟩ (fun hHeld => ?_)
  have HF6 := Lib.hid (HF5.out.keep (Only.refl Nil w5).drew)
  have HN6 := Lib.hid HN5.out.drew
  clear a0 a1 a2 a3 a4 k0 k1 k2 k3 HF5 HN5
  generalize w5.drew = w6 at *
  refine take_0 (.agg #[.bool true, .int .i64 c, .int .i64 i, .bool true]) (by kernel_rfl) (by kernel_rfl) (by kernel_rfl) (fun _ _ _ h => h) (by rfl) (fun w hSw => ?_) (by assumption) ?_
  · (try dsimp only at hSw)
    go_split_ands
    go_simp
  (try simp only [Act.put, List.setIfInBounds_toArray, List.set_cons_zero, List.set_cons_succ])
  refine take_1 (.agg #[.int .i64 ka, .int .i64 ca, .int .u32 xa, .int .u32 ya, .int .u32 oa]) (by kernel_rfl) (by kernel_rfl) (by kernel_rfl) (fun _ _ _ h => h) (by rfl) (fun w hSw => ?_) (by assumption) ?_
  · (try dsimp only at hSw)
    go_split_ands
    go_simp
  (try simp only [Act.put, List.setIfInBounds_toArray, List.set_cons_zero, List.set_cons_succ])
  have n0 : w6.cell? ⟨B + 1, 0, none⟩ = some (.bool false) := HF6.out.rn.cell_ (i := 0) rfl
  have n1 : w6.cell? ⟨B + 1, 1, none⟩ = some (.int .i64 0) := HF6.out.rn.cell_ (i := 1) rfl
  have n2 : w6.cell? ⟨B + 1, 2, none⟩ = some (.int .i64 0) := HF6.out.rn.cell_ (i := 2) rfl
  have n3 : w6.cell? ⟨B + 1, 3, none⟩ = some (.bool false) := HF6.out.rn.cell_ (i := 3) rfl
  have m0 : w6.frozen? ⟨B + 1, 0, none⟩ = false := HF6.out.rn.frozen 0
  have m1 : w6.frozen? ⟨B + 1, 1, none⟩ = false := HF6.out.rn.frozen 1
  have m2 : w6.frozen? ⟨B + 1, 2, none⟩ = false := HF6.out.rn.frozen 2
  have m3 : w6.frozen? ⟨B + 1, 3, none⟩ = false := HF6.out.rn.frozen 3
  refine call_2 (by kernel_rfl) (by rfl) (fun K hK => ?_)
  go_simp
  have HF7 := Lib.hid (HF6.out.setN (.bool true) (.int .i64 (c)) (.int .i64 (i)) (.bool true))
  have HN7 := Lib.hid (HN6.out.only (four_only (Only.refl (· = B + 1) w6) (g := B + 1) (.inr rfl) (.bool true) (.int .i64 (c)) (.int .i64 (i)) (.bool true)) (by show ¬ B + 1 + 1 + 1 = B + 1; omega))
  refine hK.out _ _ ⟨⟨HF7.out.rk.cell_ (i := 0) rfl, HF7.out.rk.cell_ (i := 1) rfl, HF7.out.rk.cell_ (i := 2) rfl, HF7.out.rk.cell_ (i := 3) rfl⟩, HN7.out.cell_ (i := 0) rfl, HN7.out.cell_ (i := 1) rfl, HN7.out.cell_ (i := 2) rfl, HN7.out.cell_ (i := 3) rfl, HN7.out.cell_ (i := 4) rfl⟩ (fun hHeld2 => ?_)
  clear hK K hHeld n0 n1 n2 n3 m0 m1 m2 m3 HF6 HN6
  (try simp only [Act.put, List.setIfInBounds_toArray, List.set_cons_zero, List.set_cons_succ])
  generalize (((w6.setCell ⟨B + 1, 0, none⟩ (.bool true)).setCell ⟨B + 1, 1, none⟩ (.int .i64 (c))).setCell ⟨B + 1, 2, none⟩ (.int .i64 (i))).setCell ⟨B + 1, 3, none⟩ (.bool true) = w7 at *
  have r0 : w7.cell? ⟨B + 1 + 1, 0, none⟩ = some (.int .i64 0) := HF7.out.ra.cell_ (i := 0) rfl
  have r1 : w7.cell? ⟨B + 1 + 1, 1, none⟩ = some (.int .i64 0) := HF7.out.ra.cell_ (i := 1) rfl
  have r2 : w7.cell? ⟨B + 1 + 1, 2, none⟩ = some (.int .u32 0) := HF7.out.ra.cell_ (i := 2) rfl
  have r3 : w7.cell? ⟨B + 1 + 1, 3, none⟩ = some (.int .u32 0) := HF7.out.ra.cell_ (i := 3) rfl
  have r4 : w7.cell? ⟨B + 1 + 1, 4, none⟩ = some (.int .u32 0) := HF7.out.ra.cell_ (i := 4) rfl
  have q0 : w7.frozen? ⟨B + 1 + 1, 0, none⟩ = false := HF7.out.ra.frozen 0
  have q1 : w7.frozen? ⟨B + 1 + 1, 1, none⟩ = false := HF7.out.ra.frozen 1
  have q2 : w7.frozen? ⟨B + 1 + 1, 2, none⟩ = false := HF7.out.ra.frozen 2
  have q3 : w7.frozen? ⟨B + 1 + 1, 3, none⟩ = false := HF7.out.ra.frozen 3
  have q4 : w7.frozen? ⟨B + 1 + 1, 4, none⟩ = false := HF7.out.ra.frozen 4
  refine call_3 (by kernel_rfl) (by rfl) (fun K hK => ?_)
  go_simp
  have HF8 := Lib.hid (HF7.out.setA (.int .i64 ka) (.int .i64 ca) (.int .u32 xa) (.int .u32 ya) (.int .u32 oa))
  have HN8 := Lib.hid (HN7.out.only (five_only (Only.refl (· = B + 1 + 1) w7) (g := B + 1 + 1) (.inr rfl) (.int .i64 ka) (.int .i64 ca) (.int .u32 xa) (.int .u32 ya) (.int .u32 oa)) (by show ¬ B + 1 + 1 + 1 = B + 1 + 1; omega))
  refine hK.out _ _ ⟨⟨HF8.out.rk.cell_ (i := 0) rfl, HF8.out.rk.cell_ (i := 1) rfl, HF8.out.rk.cell_ (i := 2) rfl, HF8.out.rk.cell_ (i := 3) rfl⟩, HN8.out.cell_ (i := 0) rfl, HN8.out.cell_ (i := 1) rfl, HN8.out.cell_ (i := 2) rfl, HN8.out.cell_ (i := 3) rfl, HN8.out.cell_ (i := 4) rfl⟩ (fun hHeld3 => ?_)
  clear hK K hHeld2 r0 r1 r2 r3 r4 q0 q1 q2 q3 q4 HF7 HN7
  (try simp only [Act.put, List.setIfInBounds_toArray, List.set_cons_zero, List.set_cons_succ])
  generalize (((((w7.setCell ⟨B + 1 + 1, 0, none⟩ (.int .i64 ka)).setCell ⟨B + 1 + 1, 1, none⟩ (.int .i64 ca)).setCell ⟨B + 1 + 1, 2, none⟩ (.int .u32 xa)).setCell ⟨B + 1 + 1, 3, none⟩ (.int .u32 ya)).setCell ⟨B + 1 + 1, 4, none⟩ (.int .u32 oa)) = w8 at *
  refine wpAnyH_done (by kernel_rfl) ?_ _
  clear hHeld3
  go_wp2
  refine post_two (P := Try.prog) Try.results38 (by rfl) HF8.out.rn Try.underlying27 rfl (by kernel_rfl) (by rfl) HF8.out.ra Try.underlying40 rfl (by kernel_rfl) rfl ⟨?_, HF8.out.only, HF8.out.own⟩
  rw [HV.out]; rfl

/-- Any step. -/
theorem rwake_any (base : Nat) (A : Option Addr) (l cp : Nat) (xs : List Int) (n : Int) (on : Bool) (c i : Int) (hit : Bool) (w : World) (h : Own w base A cp xs) (hn : xs.length = l) :
    Calls Try.prog 38 #[.slice A l cp, .int .i64 n, .agg #[.bool on, .int .i64 c, .int .i64 i, .bool hit]] w (RStept base A cp (wakeI xs n on c i hit) w) := by
  cases on
  · exact rw_off base A l cp xs n c i hit w h
  by_cases hv : 1 ≤ n ∧ n ≤ 64 ∧ 0 ≤ i ∧ i < n
  · have hcell : cellI n 2 i = 8 + 2 * n + i := if_pos hv
    have hd : decide (cellI n 2 i < 0) = false := decide_eq_false (by omega)
    cases hit
    · show Calls _ _ _ _ (RStept base A cp (lookI xs n c i) w)
      unfold lookI
      cases ht : there xs (wc n i)
      · exact rw_look_no base A l cp xs n c i w h hn hd ht
      · rw [if_pos rfl]
        by_cases hq : wordAt xs (wc n i) = (c + 1) % 4294967296
        · rw [if_pos hq]
          exact rw_look_hit base A l cp xs n c i w h hn hd ht (beq_iff_eq.2 hq)
        · rw [if_neg hq]
          unfold nextI
          by_cases e : i + 1 = n
          · rw [if_pos e]
            exact rw_look_end base A l cp xs n c i w h hn hd ht (beq_eq_false_iff_ne.2 hq) (by omega) (by omega) (by omega)
          · rw [if_neg e]
            exact rw_look_on base A l cp xs n c i w h hn hd ht (beq_eq_false_iff_ne.2 hq) (by omega) (by omega) (by omega)
    · show Calls _ _ _ _ (RStept base A cp (giveI xs n c i) w)
      unfold giveI
      cases ht : there xs (pc n i)
      · have q := rw_give_no base A l cp xs n c i w h hn hd ht
        rw [show st xs (pc n i) 1 = xs by simp [st, ht]] at q
        exact q
      · rw [if_pos rfl]
        unfold nextI
        by_cases e : i + 1 = n
        · rw [if_pos e]
          exact rw_give_end base A l cp xs n c i w h hn hd ht (by omega) (by omega) (by omega)
        · rw [if_neg e]
          exact rw_give_on base A l cp xs n c i w h hn hd ht (by omega) (by omega) (by omega)
  · have hcell : ∀ r, cellI n r i = -1 := fun r => if_neg hv
    have hd : decide (cellI n 2 i < 0) = true := decide_eq_true (by rw [hcell]; decide)
    have hr : wakeI xs n true c i hit = restI xs := by
      have h1 : there xs (wc n i) = false := by unfold wc; rw [hcell]; simp [there]
      have h2 : there xs (pc n i) = false := by unfold pc; rw [hcell]; simp [there]
      cases hit
      · show lookI xs n c i = _; simp [lookI, h1]
      · show giveI xs n c i = _; simp [giveI, h2]
    rw [hr]
    exact rw_bad base A l cp xs n c i hit w h hn hd
end Go.Proofs.Ytomgjamojeejbaa
/- A run behind a pointer, the answer's: its cells, its words, its notes; its calls but for Wait and Note. -/
set_option linter.unusedVariables false
set_option linter.unusedSimpArgs false
namespace Go.Proofs.Ytomgjamojeejbaa
open Go.RowKit

/-- The answer's run in block B. -/
structure RunR (w : World) (B base : Nat) (A : Option Addr) (l cp : Nat) (nv : Value) (r : LS) : Prop where
  row : Row w B 47 (r.cells (.slice A l cp) nv)
  notes : OwnN 0 w nv r.ns
  own : Own w base A cp r.xs
  len : r.xs.length = l

/-- A call that tells v, and leaves the run r. -/
def DoneR (B base : Nat) (A : Option Addr) (l cp : Nat) (w : World) (v : Value) (r : LS) (e : Ending) (w' : World) : Prop :=
  e = .returned v ∧ Only (TurnB B A) w w' ∧ ∃ nv, RunR w' B base A l cp nv r

section
variable {w w' : World} {B base : Nat} {A : Option Addr} {l cp : Nat} {nv : Value} {r r' : LS} {ys : List Int} {S : Nat → Prop}
theorem RunR.far (h : RunR w B base A l cp nv r) {j : Nat} (hj : At A j) : j ≠ B := by
  rintro rfl
  obtain ⟨cur, hc⟩ := own_tag h.own hj
  exact absurd (h.row.same hc).1 (by decide)
theorem RunR.farN (h : RunR w B base A l cp nv r) {i : Nat} (hi : nv.ownBlock = some i) : i ≠ B ∧ ¬ At A i := by
  obtain ⟨cur, hc⟩ := ownN_tag h.notes hi
  refine ⟨?_, fun hj => ?_⟩
  · rintro rfl
    exact absurd (h.row.same hc).1 (by decide)
  · obtain ⟨cs, hr⟩ := own_tag h.own hj
    exact absurd (hr.same hc).1 (by decide)
theorem RunR.call (h : RunR w B base A l cp nv r) (ho : Only (At A) w w') (hm : Own w' base A cp ys) (hl : ys.length = l) : RunR w' B base A l cp nv { r with xs := ys } :=
  ⟨h.row.only ho (fun e => h.far e rfl), own_only h.notes ho (fun i hi e => (h.farN hi).2 e), hm, hl⟩
theorem RunR.apart (h : RunR w B base A l cp nv r) (ho : Only S w w') (hb : ¬ S B) (hm : ∀ j, At A j → ¬ S j) (hn : ∀ i, nv.ownBlock = some i → ¬ S i) : RunR w' B base A l cp nv r :=
  ⟨h.row.only ho hb, own_only h.notes ho hn, h.own.only ho hm, h.len⟩
theorem RunR.keep (h : RunR w B base A l cp nv r) (ho : Only Nil w w') : RunR w' B base A l cp nv r := h.apart ho id (fun _ _ => id) (fun _ _ => id)
theorem RunR.turn (h : RunR w B base A l cp nv r) (ho : Only (· = B) w w') (hr : Row w' B 47 (r'.cells (.slice A l cp) nv)) (hn : r'.ns = r.ns) (hx : r'.xs = r.xs) : RunR w' B base A l cp nv r' :=
  ⟨hr, by rw [hn]; exact own_only h.notes ho (fun i hi => (h.farN hi).1), by rw [hx]; exact h.own.only ho (fun j hj => h.far hj), by rw [hx]; exact h.len⟩
theorem RunR.setAcc (h : RunR w B base A l cp nv r) (a : Acc5) :
    RunR (((((w.setCell ⟨B, 14, none⟩ (.int .i64 a.k)).setCell ⟨B, 15, none⟩ (.int .i64 a.c)).setCell ⟨B, 16, none⟩ (.int .u32 a.x)).setCell ⟨B, 17, none⟩ (.int .u32 a.y)).setCell ⟨B, 18, none⟩ (.int .u32 a.o)) B base A l cp nv { r with acc := a } :=
  h.turn (set_acc_only (Only.refl (· = B) _) rfl _ _ _ _ _) (set_acc_row h.row a) rfl rfl
theorem RunR.setRet (h : RunR w B base A l cp nv r) (v : Int) : RunR (w.setCell ⟨B, 13, none⟩ (.int .i64 v)) B base A l cp nv { r with ret := v } :=
  h.turn ((Only.refl (· = B) w).setCell (p := ⟨B, 13, none⟩) (.inr rfl) _) (h.row.set 13 (.int .i64 v)) rfl rfl
theorem RunR.setLine (h : RunR w B base A l cp nv r) (v : Int) : RunR (w.setCell ⟨B, 5, none⟩ (.int .i64 v)) B base A l cp nv (r.go v) :=
  h.turn ((Only.refl (· = B) w).setCell (p := ⟨B, 5, none⟩) (.inr rfl) _) (h.row.set 5 (.int .i64 v)) rfl rfl
theorem RunR.setS (h : RunR w B base A l cp nv r) (v : Int) : RunR (w.setCell ⟨B, 8, none⟩ (.int .i64 v)) B base A l cp nv { r with s := v } :=
  h.turn ((Only.refl (· = B) w).setCell (p := ⟨B, 8, none⟩) (.inr rfl) _) (h.row.set 8 (.int .i64 v)) rfl rfl
theorem RunR.setWake (h : RunR w B base A l cp nv r) (k : WkV) :
    RunR ((((w.setCell ⟨B, 9, none⟩ (.bool k.on)).setCell ⟨B, 10, none⟩ (.int .i64 k.c)).setCell ⟨B, 11, none⟩ (.int .i64 k.i)).setCell ⟨B, 12, none⟩ (.bool k.hit)) B base A l cp nv { r with k := k } :=
  h.turn (set_wake_only (Only.refl (· = B) w) rfl _ _ _ _) (set_wake_row h.row k) rfl rfl
theorem RunR.setNotes {v : Value} {zs : List Nt} (h : RunR w B base A l cp nv r) (hn : OwnN 0 w v zs) : RunR (w.setCell ⟨B, 19, none⟩ v) B base A l cp v { r with ns := zs } := by
  have ho := (Only.refl (· = B) w).setCell (p := ⟨B, 19, none⟩) (.inr rfl) v
  refine ⟨h.row.set 19 v, own_only hn ho (fun i hi => ?_), h.own.only ho (fun j hj => h.far hj), h.len⟩
  rintro rfl
  obtain ⟨cur, hc⟩ := ownN_tag hn hi
  exact absurd (h.row.same hc).1 (by decide)
end

set_option maxHeartbeats 1000000 in
theorem rdo_run (B base : Nat) (A : Option Addr) (l cp : Nat) (nv : Value) (r : LS) (k c x y : Int) (w : World) (h : RunR w B base A l cp nv r) (hk : isKind k = true) :
    Calls Try.prog 61 #[.pointer (some ⟨B, 0, none⟩), .int .i64 k, .int .i64 c, .int .u32 x, .int .u32 y] w fun e w' => e = .returned (.int .u32 (wordAt r.xs c)) ∧ Only (TurnB B A) w w' ∧ RunR w' B base A l cp nv (r.doA k c x y) := by
  have m0 : w.cell? ⟨B, 0, none⟩ = some (.slice A l cp) := h.row.cell_ (i := 0) rfl
  have HP := Lib.hid h
  have HW := Lib.hid (acc_old (xs := r.xs) (k := k) (c := c) (x := x) (y := y) hk)
  have HLN := Lib.hid ((doNew_len r.xs k c x y).trans h.len)
  have HD := Lib.hid (show r.doA k c x y = { r with acc := accI r.xs k c x y, xs := doNew r.xs k c x y } from rfl)
  have HV := Lib.hid (doVal_acc r.xs k c x y)
  clear h hk
  go_enter Try.func61, Try.ntmps61
  go_wp2_with fail
  clear m0
  refine (refdo_any base A l cp r.xs k c x y 0 _ HP.out.own HP.out.len).mono ?_
  rw [HV.out]
  clear HV
  generalize accI r.xs k c x y = ac at *
  rintro e w1 ⟨rfl, hO, hM⟩
  dsimp only [Acc5.v]
  have e0 := (Only.refl Nil w1).alloc (.cells #[.int .i64 ac.k, .int .i64 ac.c, .int .u32 ac.x, .int .u32 ac.y, .int .u32 ac.o] 40)
  have HP1 := Lib.hid ((HP.out.call hO hM HLN.out).keep e0)
  have HO1 := Lib.hid ((hO.turned2 (B := B)).alloc (.cells #[.int .i64 ac.k, .int .i64 ac.c, .int .u32 ac.x, .int .u32 ac.y, .int .u32 ac.o] 40))
  have HR1 := Lib.hid (Row.new w1 40 #[.int .i64 ac.k, .int .i64 ac.c, .int .u32 ac.x, .int .u32 ac.y, .int .u32 ac.o])
  have HBA := Lib.hid (show w1.heap.size ≠ B from fun e => by have := (HP.out.row.only hO (fun e => HP.out.far e rfl)).lt; omega)
  clear hO hM HP e0
  go_upto_region 2 with (fail)
  generalize w1.alloc (.cells #[.int .i64 ac.k, .int .i64 ac.c, .int .u32 ac.x, .int .u32 ac.y, .int .u32 ac.o] 40) = w2 at *
  generalize w1.heap.size = g at *
  have a0 : w2.cell? ⟨g, 0, none⟩ = some (.int .i64 ac.k) := HR1.out.cell_ (i := 0) rfl
  have a1 : w2.cell? ⟨g, 1, none⟩ = some (.int .i64 ac.c) := HR1.out.cell_ (i := 1) rfl
  have a2 : w2.cell? ⟨g, 2, none⟩ = some (.int .u32 ac.x) := HR1.out.cell_ (i := 2) rfl
  have a3 : w2.cell? ⟨g, 3, none⟩ = some (.int .u32 ac.y) := HR1.out.cell_ (i := 3) rfl
  have a4 : w2.cell? ⟨g, 4, none⟩ = some (.int .u32 ac.o) := HR1.out.cell_ (i := 4) rfl
  have b14 : w2.cell? ⟨B, 14, none⟩ = some (.int .i64 r.acc.k) := HP1.out.row.cell_ (i := 14) rfl
  have b15 : w2.cell? ⟨B, 15, none⟩ = some (.int .i64 r.acc.c) := HP1.out.row.cell_ (i := 15) rfl
  have b16 : w2.cell? ⟨B, 16, none⟩ = some (.int .u32 r.acc.x) := HP1.out.row.cell_ (i := 16) rfl
  have b17 : w2.cell? ⟨B, 17, none⟩ = some (.int .u32 r.acc.y) := HP1.out.row.cell_ (i := 17) rfl
  have b18 : w2.cell? ⟨B, 18, none⟩ = some (.int .u32 r.acc.o) := HP1.out.row.cell_ (i := 18) rfl
  have f14 : w2.frozen? ⟨B, 14, none⟩ = false := HP1.out.row.frozen 14
  have f15 : w2.frozen? ⟨B, 15, none⟩ = false := HP1.out.row.frozen 15
  have f16 : w2.frozen? ⟨B, 16, none⟩ = false := HP1.out.row.frozen 16
  have f17 : w2.frozen? ⟨B, 17, none⟩ = false := HP1.out.row.frozen 17
  have f18 : w2.frozen? ⟨B, 18, none⟩ = false := HP1.out.row.frozen 18
  go_upto_region 3 with (fail)
  clear a0 a1 a2 a3 a4 b14 b15 b16 b17 b18 f14 f15 f16 f17 f18
  have HP2 := Lib.hid (HP1.out.setAcc ac)
  have HO2 := Lib.hid (set_acc_only HO1.out (B := B) (.inl rfl) (.int .i64 ac.k) (.int .i64 ac.c) (.int .u32 ac.x) (.int .u32 ac.y) (.int .u32 ac.o))
  have HR2 := Lib.hid (HR1.out.only (set_acc_only (Only.refl (· = B) w2) rfl (.int .i64 ac.k) (.int .i64 ac.c) (.int .u32 ac.x) (.int .u32 ac.y) (.int .u32 ac.o)) HBA.out)
  clear HP1 HO1 HR1
  generalize (((((w2.setCell ⟨B, 14, none⟩ (.int .i64 ac.k)).setCell ⟨B, 15, none⟩ (.int .i64 ac.c)).setCell ⟨B, 16, none⟩ (.int .u32 ac.x)).setCell ⟨B, 17, none⟩ (.int .u32 ac.y)).setCell ⟨B, 18, none⟩ (.int .u32 ac.o)) = w3 at *
  have a4 : w3.cell? ⟨g, 4, none⟩ = some (.int .u32 ac.o) := HR2.out.cell_ (i := 4) rfl
  go_wp2
  go_ret
  exact ⟨by rw [← HW.out]; rfl, HO2.out, by rw [HD.out]; exact HP2.out⟩

section
variable (B base : Nat) (A : Option Addr) (l cp : Nat) (nv : Value) (r : LS) (c x y : Int) (w : World)
theorem rload_run (h : RunR w B base A l cp nv r) : Calls Try.prog 39 #[.pointer (some ⟨B, 0, none⟩), .int .i64 c] w (DoneR B base A l cp w (.int .u32 (wordAt r.xs c)) (r.doA 1 c 0 0)) := by
  go_enter Try.func39, Try.ntmps39
  go_wp2_with fail
  refine (rdo_run B base A l cp nv r 1 c 0 0 _ h rfl).mono ?_
  rintro e w1 ⟨rfl, hO, hP⟩
  have HO := Lib.hid hO
  have HP := Lib.hid hP
  clear hO hP h
  go_wp2
  go_ret
  exact ⟨rfl, HO.out, nv, HP.out⟩
theorem rstore_run (h : RunR w B base A l cp nv r) : Calls Try.prog 40 #[.pointer (some ⟨B, 0, none⟩), .int .i64 c, .int .u32 x] w (DoneR B base A l cp w (.tuple #[]) (r.doA 2 c x 0)) := by
  go_enter Try.func40, Try.ntmps40
  go_wp2_with fail
  refine (rdo_run B base A l cp nv r 2 c x 0 _ h rfl).mono ?_
  rintro e w1 ⟨rfl, hO, hP⟩
  have HO := Lib.hid hO
  have HP := Lib.hid hP
  clear hO hP h
  go_wp2
  go_returns
  exact ⟨rfl, HO.out, nv, HP.out⟩
theorem radd_run (h : RunR w B base A l cp nv r) : Calls Try.prog 41 #[.pointer (some ⟨B, 0, none⟩), .int .i64 c, .int .u32 x] w (DoneR B base A l cp w (.int .u32 (wordAt r.xs c)) (r.doA 3 c x 0)) := by
  go_enter Try.func41, Try.ntmps41
  go_wp2_with fail
  refine (rdo_run B base A l cp nv r 3 c x 0 _ h rfl).mono ?_
  rintro e w1 ⟨rfl, hO, hP⟩
  have HO := Lib.hid hO
  have HP := Lib.hid hP
  clear hO hP h
  go_wp2
  go_ret
  exact ⟨rfl, HO.out, nv, HP.out⟩
theorem rswap_run (h : RunR w B base A l cp nv r) : Calls Try.prog 42 #[.pointer (some ⟨B, 0, none⟩), .int .i64 c, .int .u32 x] w (DoneR B base A l cp w (.int .u32 (wordAt r.xs c)) (r.doA 4 c x 0)) := by
  go_enter Try.func42, Try.ntmps42
  go_wp2_with fail
  refine (rdo_run B base A l cp nv r 4 c x 0 _ h rfl).mono ?_
  rintro e w1 ⟨rfl, hO, hP⟩
  have HO := Lib.hid hO
  have HP := Lib.hid hP
  clear hO hP h
  go_wp2
  go_ret
  exact ⟨rfl, HO.out, nv, HP.out⟩

theorem there_doNew (xs : List Int) (k a x y d : Int) : there (doNew xs k a x y) d = there xs d := by unfold there; rw [doNew_len]
theorem rcas_run (h : RunR w B base A l cp nv r) : Calls Try.prog 43 #[.pointer (some ⟨B, 0, none⟩), .int .i64 c, .int .u32 x, .int .u32 y] w (DoneR B base A l cp w (.bool (there r.xs c && (wordAt r.xs c == x))) (r.doA 5 c x y)) := by
  have HTT := Lib.hid (there_doNew r.xs 5 c x y c)
  cases hq : (wordAt r.xs c == x)
  · have HQ := Lib.hid hq
    clear hq
    rw [Bool.and_false]
    go_enter Try.func43, Try.ntmps43
    go_wp2_with fail
    refine (rdo_run B base A l cp nv r 5 c x y _ h rfl).mono ?_
    rintro e w1 ⟨rfl, hO, hP⟩
    have HO := Lib.hid hO
    have HP := Lib.hid hP
    have hq := HQ.out
    clear hO hP h
    generalize wordAt r.xs c = v at *
    go_wp2
    go_ret
    exact ⟨rfl, HO.out, nv, HP.out⟩
  · have HQ := Lib.hid hq
    clear hq
    rw [Bool.and_true]
    go_enter Try.func43, Try.ntmps43
    go_wp2_with fail
    refine (rdo_run B base A l cp nv r 5 c x y _ h rfl).mono ?_
    rintro e w1 ⟨rfl, hO, hP⟩
    have HO := Lib.hid hO
    have HP := Lib.hid hP
    have hq := HQ.out
    have m0 : w1.cell? ⟨B, 0, none⟩ = some (.slice A l cp) := hP.row.cell_ (i := 0) rfl
    have HLN := Lib.hid hP.len
    clear hO hP h
    generalize wordAt r.xs c = v at *
    go_wp2_with fail
    refine (there_any A l cp _ c HLN.out _).mono ?_
    rw [show there (r.doA 5 c x y).xs c = there r.xs c from HTT.out]
    rintro e w2 ⟨rfl, rfl⟩
    go_wp2
    go_ret
    exact ⟨rfl, HO.out, nv, HP.out⟩

theorem rend_run (ok : Bool) (h : RunR w B base A l cp nv r) : Calls Try.prog 46 #[.pointer (some ⟨B, 0, none⟩), .bool ok] w (DoneR B base A l cp w (.tuple #[]) (r.fin ok)) := by
  have c13 : w.cell? ⟨B, 13, none⟩ = some (.int .i64 r.ret) := h.row.cell_ (i := 13) rfl
  have f13 : w.frozen? ⟨B, 13, none⟩ = false := h.row.frozen 13
  have HP := Lib.hid h
  clear h
  cases ok
  · go_enter Try.func46, Try.ntmps46
    go_wp2
    go_returns
    exact ⟨rfl, (Only.refl (TurnB B A) w).setCell (p := ⟨B, 13, none⟩) (.inr (.inl rfl)) _, nv, HP.out.setRet 1⟩
  · go_enter Try.func46, Try.ntmps46
    go_wp2
    go_returns
    exact ⟨rfl, ((Only.refl (TurnB B A) w).setCell (p := ⟨B, 13, none⟩) (.inr (.inl rfl)) _).setCell (p := ⟨B, 13, none⟩) (.inr (.inl rfl)) _, nv, (HP.out.setRet 1).setRet 2⟩
end

theorem rwake_run (B base : Nat) (A : Option Addr) (l cp : Nat) (nv : Value) (r : LS) (c : Int) (w : World) (h : RunR w B base A l cp nv r) :
    Calls Try.prog 47 #[.pointer (some ⟨B, 0, none⟩), .int .i64 c] w (DoneR B base A l cp w (.tuple #[]) (r.wake c)) := by
  have c2 : w.cell? ⟨B, 2, none⟩ = some (.int .i64 r.mode) := h.row.cell_ (i := 2) rfl
  have HP := Lib.hid h
  clear h
  go_enter Try.func47, Try.ntmps47
  go_wp2_with fail
  clear c2
  refine (rbegin_any r.mode c _).mono ?_
  rintro e w1 ⟨rfl, hO⟩
  have HP1 := Lib.hid (HP.out.keep hO)
  have HO := Lib.hid (hO.mono (T := TurnB B A) (fun _ _ h => h.elim))
  clear hO HP
  have HD := Lib.hid (show r.wake c = { r with k := beginI r.mode c } from rfl)
  generalize beginI r.mode c = k at *
  dsimp only [WkV.v]
  have a9 : w1.cell? ⟨B, 9, none⟩ = some (.bool r.k.on) := HP1.out.row.cell_ (i := 9) rfl
  have a10 : w1.cell? ⟨B, 10, none⟩ = some (.int .i64 r.k.c) := HP1.out.row.cell_ (i := 10) rfl
  have a11 : w1.cell? ⟨B, 11, none⟩ = some (.int .i64 r.k.i) := HP1.out.row.cell_ (i := 11) rfl
  have a12 : w1.cell? ⟨B, 12, none⟩ = some (.bool r.k.hit) := HP1.out.row.cell_ (i := 12) rfl
  have f9 : w1.frozen? ⟨B, 9, none⟩ = false := HP1.out.row.frozen 9
  have f10 : w1.frozen? ⟨B, 10, none⟩ = false := HP1.out.row.frozen 10
  have f11 : w1.frozen? ⟨B, 11, none⟩ = false := HP1.out.row.frozen 11
  have f12 : w1.frozen? ⟨B, 12, none⟩ = false := HP1.out.row.frozen 12
  go_wp2
  clear a9 a10 a11 a12 f9 f10 f11 f12
  go_returns
  exact ⟨rfl, set_wake_only HO.out (.inl rfl) _ _ _ _, nv, by rw [HD.out]; exact HP1.out.setWake k⟩

theorem rover_run (B base : Nat) (A : Option Addr) (l cp : Nat) (nv : Value) (r : LS) (w : World) (h : RunR w B base A l cp nv r) :
    Calls Try.prog 14 #[.pointer (some ⟨B, 0, none⟩)] w fun e w' => e = .returned (.bool r.over) ∧ w' = w := by
  have HOV := Lib.hid (show r.over = ((r.ret != 0) && !r.k.on) from rfl)
  have c13 : w.cell? ⟨B, 13, none⟩ = some (.int .i64 r.ret) := h.row.cell_ (i := 13) rfl
  have c9 : w.cell? ⟨B, 9, none⟩ = some (.bool r.k.on) := h.row.cell_ (i := 9) rfl
  clear h
  cases hb : (r.ret != 0)
  · have HB := Lib.hid hb
    have hc : ¬ (!(r.ret == 0)) = true := by rw [show (!(r.ret == 0)) = (r.ret != 0) from rfl, hb]; simp
    go_enter Try.func14, Try.ntmps14
    go_wp2
    go_ret
    exact ⟨ret_bool (by rw [HOV.out, HB.out, Bool.false_and]), rfl⟩
  · have HB := Lib.hid hb
    cases hk : r.k.on
    · have HKK := Lib.hid hk
      rw [hk] at c9
      clear hk
      go_enter Try.func14, Try.ntmps14
      go_wp2
      go_ret
      exact ⟨ret_bool (by rw [HOV.out, HB.out, HKK.out]; rfl), rfl⟩
    · have HKK := Lib.hid hk
      rw [hk] at c9
      clear hk
      go_enter Try.func14, Try.ntmps14
      go_wp2
      go_ret
      exact ⟨ret_bool (by rw [HOV.out, HB.out, HKK.out]; rfl), rfl⟩
end Go.Proofs.Ytomgjamojeejbaa
/- Calls of a run, one behind the other: plain facts, the operations that came in, the list of what they told. -/
set_option linter.unusedVariables false
set_option linter.unusedSimpArgs false
namespace Go.Proofs.Ytomgjamojeejbaa
open Go.RowKit

theorem doNew_words {xs : List Int} (h : Words xs) (k c x y : Int) (h1 : 0 ≤ x) (h2 : x < 4294967296) (h3 : 0 ≤ y) (h4 : y < 4294967296) : Words (doNew xs k c x y) := by
  have hw := word_wf h c
  unfold doNew
  split
  · intro n hn
    rcases List.mem_or_eq_of_mem_set hn with hn | rfl
    · exact h n hn
    · refine wf_mk ?_ ?_
      · unfold leftOf
        repeat' split
        all_goals omega
      · unfold leftOf
        repeat' split
        all_goals omega
  · exact h
/-- It is what an op may be. -/
structure OpV.Wf (o : OpV) : Prop where
  x0 : 0 ≤ o.x
  x1 : o.x < 4294967296
  y0 : 0 ≤ o.y
  y1 : o.y < 4294967296
theorem op_keeps (r : LS) (o : OpV) (ho : o.Wf) : r.Keeps (r.opR o).r ∧ (r.opR o).r.ns.length ≤ r.ns.length + 1 := by
  obtain ⟨x0, x1, y0, y1⟩ := ho
  have hl := fun k c x y => doNew_len r.xs k c x y
  unfold LS.opR
  split
  · exact ⟨⟨rfl, rfl, rfl, hl _ _ _ _, fun h => doNew_words h _ _ _ _ (by omega) (by omega) (by omega) (by omega)⟩, Nat.le_succ _⟩
  split
  · exact ⟨⟨rfl, rfl, rfl, hl _ _ _ _, fun h => doNew_words h _ _ _ _ x0 x1 (by omega) (by omega)⟩, Nat.le_succ _⟩
  split
  · exact ⟨⟨rfl, rfl, rfl, hl _ _ _ _, fun h => doNew_words h _ _ _ _ x0 x1 (by omega) (by omega)⟩, Nat.le_succ _⟩
  split
  · exact ⟨⟨rfl, rfl, rfl, hl _ _ _ _, fun h => doNew_words h _ _ _ _ x0 x1 (by omega) (by omega)⟩, Nat.le_succ _⟩
  split
  · exact ⟨⟨rfl, rfl, rfl, hl _ _ _ _, fun h => doNew_words h _ _ _ _ x0 x1 y0 y1⟩, Nat.le_succ _⟩
  split
  · exact ⟨⟨rfl, rfl, rfl, step_len _ _ _ _ _ _ _, fun h => h.step _ _ _ _ _ _⟩, Nat.le_succ _⟩
  split
  · refine ⟨⟨rfl, rfl, rfl, rfl, id⟩, ?_⟩
    show (r.ns ++ [_]).length ≤ _
    rw [List.length_append]
    exact Nat.le_refl _
  split
  · exact ⟨⟨rfl, rfl, rfl, rfl, id⟩, Nat.le_succ _⟩
  split
  · exact ⟨⟨rfl, rfl, rfl, rfl, id⟩, Nat.le_succ _⟩
  split
  · exact ⟨⟨rfl, rfl, rfl, rfl, id⟩, Nat.le_succ _⟩
  · exact ⟨.refl r, Nat.le_succ _⟩
theorem ops_keeps (r : LS) (l : List OpV) (hl : ∀ o ∈ l, o.Wf) : ∀ k, k ≤ l.length → r.Keeps (r.opsI (l.take k)).1 ∧ (r.opsI (l.take k)).1.ns.length ≤ r.ns.length + k ∧ (r.opsI (l.take k)).2.length = 3 * k
  | 0, _ => ⟨.refl r, Nat.le_refl _, rfl⟩
  | k + 1, hk => by
    obtain ⟨h1, h2, h3⟩ := ops_keeps r l hl k (by omega)
    have hkl : k < l.length := by omega
    have ho : l[k]? = some (l[k]'hkl) := List.getElem?_eq_getElem hkl
    obtain ⟨h4, h5⟩ := op_keeps (r.opsI (l.take k)).1 (l[k]'hkl) (hl _ (List.getElem_mem hkl))
    rw [ops_next ho]
    unfold opNext
    refine ⟨h1.trans h4, by dsimp only; omega, ?_⟩
    dsimp only
    rw [List.length_append, h3]
    show 3 * k + 3 = _
    omega

/-- What stands at an op's eight cells. -/
structure At8 (w : World) (b q : Nat) (o : OpV) : Prop where
  c0 : w.cell? ⟨b, q, none⟩ = some (.int .i64 o.k)
  c1 : w.cell? ⟨b, q + 1, none⟩ = some (.int .i64 o.c)
  c2 : w.cell? ⟨b, q + 2, none⟩ = some (.int .i64 o.n)
  c3 : w.cell? ⟨b, q + 3, none⟩ = some (.int .u32 o.x)
  c4 : w.cell? ⟨b, q + 4, none⟩ = some (.int .u32 o.y)
  c5 : w.cell? ⟨b, q + 5, none⟩ = some (.int .i64 o.uk)
  c6 : w.cell? ⟨b, q + 6, none⟩ = some (.int .u32 o.um)
  c7 : w.cell? ⟨b, q + 7, none⟩ = some (.int .u32 o.ux)
/-- A slice at A reads as these ops; it lies below block N. -/
def OpsAt (w : World) (N : Nat) (A : Option Addr) (l : List OpV) : Prop := ∀ i o, l[i]? = some o → ∃ b q, A = some ⟨b, q, none⟩ ∧ b < N ∧ At8 w b (q + i * 8) o
theorem OpsAt.only {w w' : World} {N : Nat} {A : Option Addr} {l : List OpV} {S : Nat → Prop} (h : OpsAt w N A l) (ho : Only S w w') (hN : N ≤ w.heap.size) (hS : ∀ j, j < N → ¬ S j) : OpsAt w' N A l := fun i o hi => by
  obtain ⟨b, q, hA, hb, h8⟩ := h i o hi
  have hc := fun d => ho.cell (p := ⟨b, q + i * 8 + d, none⟩) (Nat.lt_of_lt_of_le hb hN) (hS b hb)
  exact ⟨b, q, hA, hb, (hc 0).trans h8.c0, (hc 1).trans h8.c1, (hc 2).trans h8.c2, (hc 3).trans h8.c3, (hc 4).trans h8.c4, (hc 5).trans h8.c5, (hc 6).trans h8.c6, (hc 7).trans h8.c7⟩

theorem bit_any (b : Bool) (w : World) : Calls Try.prog 37 #[.bool b] w fun e w' => e = .returned (.int .u32 (bitI b)) ∧ w = w' := by
  cases b
  · go_enter Try.func37, Try.ntmps37
    go_wp2
    go_ret
    exact ⟨rfl, rfl⟩
  · go_enter Try.func37, Try.ntmps37
    go_wp2
    go_ret
    exact ⟨rfl, rfl⟩

/-- append of three words to a list of the call's own. -/
theorem wp_app3 {w : World} {ops : Array Oper} {rest : List Oper} {o : Oper} {a : Act} {Q : Exit → Act → World → Prop} (hgd : o.guard = none) (s x : Operand)
    (ho : o.op = .call { callee := .builtin .append, args := #[s, x], argTypes := #[22, 22] })
    (base : Nat) (A3 : Option Addr) (n3 c3 : Nat) (xs : List Int) (hs : a.eval s = .slice A3 n3 c3) (hn : n3 = xs.length) (hown : Own w base A3 c3 xs) (g : Nat) (u0 u1 u2 : Int)
    (hx : a.eval x = .slice (some ⟨g, 0, none⟩) 3 3) (hrow : Row w g 23 #[.int .u32 u0, .int .u32 u1, .int .u32 u2]) (h1 : xs.length ≤ 1000) (hbase : base ≤ w.heap.size)
    (h : ∀ A' n' c' w', n' = (xs ++ [u0, u1, u2]).length → Own w' base A' c' (xs ++ [u0, u1, u2]) → Only (At A3) w w' → wpList Try.prog ops Q rest (a.put o.dst (.slice A' n' c')) w') : wpList Try.prog ops Q (o :: rest) a w := by
  subst hn
  obtain ⟨i0, hi, hz0, hz1, hz2⟩ := info_parts infoW
  refine wpList_append_own w hgd s x 22 ho base 23 i0 (.int .u32 0) 1 4 Try.underlying22 hi hz0 hz1 hz2 rfl (by decide) _ xs.length (xs.map (.int .u32)) hs hown.own ⟨g, 0, none⟩ 3 3 [.int .u32 u0, .int .u32 u1, .int .u32 u2] hx rfl (fun j u hj => ?_) (fun u hu => ?_) (by unfold maxLen; omega) (by omega) hbase (fun v' w' hO hG _ => ?_)
  · rw [add_at, Nat.zero_add]
    exact hrow.cell_ (by rw [← hj]; simp)
  · simp only [List.mem_cons, List.not_mem_nil, or_false] at hu
    rcases hu with rfl | rfl | rfl <;> rfl
  · have hO' : w'.ownsRow base 23 1 v' (xs ++ [u0, u1, u2]).length ((xs ++ [u0, u1, u2]).map (.int .u32)) := by
      rw [List.map_append, List.length_append]
      exact hO
    obtain ⟨A', c', rfl, hw⟩ := Own.of hO'
    exact h A' _ c' w' rfl hw ((Only.refl (At A3) w).grown hG (fun k hk => .inr (by
      cases A3 with
      | none => simp [Value.ownBlock] at hk
      | some b => simp only [Value.ownBlock, Option.some.injEq] at hk; exact ⟨b, rfl, hk⟩)))

section
variable {w w' : World} {B N1 : Nat} {p A A3 : Option Addr} {cp c3 base l : Nat} {nv : Value} {r : LS} {xs : List Int}
theorem RunP.away (h : RunP w B p A cp nv r) (hown : Own w N1 A3 c3 xs) (hA : ∀ j, At p j ∨ At A j → j < N1) (ho : Only (At A3) w w') : RunP w' B p A cp nv r :=
  h.apart ho (fun e => by
    obtain ⟨cur, hc⟩ := own_tag hown e
    exact absurd (hc.same h.row).1 (by decide)) (fun j hj e => by have := hown.base j e; have := hA j hj; omega) (fun i hi e => by
    obtain ⟨cur, hc⟩ := own_tag hown e
    obtain ⟨cur', hc'⟩ := ownN_tag h.notes hi
    exact absurd (hc.same hc').1 (by decide))
theorem RunR.away (h : RunR w B base A l cp nv r) (hown : Own w N1 A3 c3 xs) (hA : ∀ j, At A j → j < N1) (ho : Only (At A3) w w') : RunR w' B base A l cp nv r :=
  h.apart ho (fun e => by
    obtain ⟨cur, hc⟩ := own_tag hown e
    exact absurd (hc.same h.row).1 (by decide)) (fun j hj e => by have := hown.base j e; have := hA j hj; omega) (fun i hi e => by
    obtain ⟨cur, hc⟩ := own_tag hown e
    obtain ⟨cur', hc'⟩ := ownN_tag h.notes hi
    exact absurd (hc.same hc').1 (by decide))
theorem Own.away {t : TypeId} {cs : Array Value} (h : Own w N1 A3 c3 xs) (hB : Row w B t cs) (ht : t ≠ 23) (hA : ∀ j, At A j → j < N1) (ho : Only (TurnB B A) w w') : Own w' N1 A3 c3 xs :=
  h.only ho (fun i hi e => by
    rcases e with rfl | e
    · obtain ⟨cur, hc⟩ := own_tag h hi
      exact ht (hB.same hc).1
    · have := h.base i hi; have := hA i e; omega)
end
end Go.Proofs.Ytomgjamojeejbaa
/- A slice of structs that came in: its cells, field by field. -/
namespace Go.Proofs.Ytomgjamojeejbaa
open Go.RowKit Go.ChangeShapes Go.WideShapes Go.Deep

section
variable {H : Type} {enc : TypeId × Value → H} {P : Program} {w : World} {base : Nat} {spare : Nat → Bool} {held : Bool}
/-- Element i, field j: the cell, and its own reading. -/
theorem open_tab {t e : TypeId} {fs : Array Field} {fuel len cap : Nat} {A : Option Addr} {x : DataW H × List MemPlace} (ht : P.underlying t = some (.slice e)) (he : P.underlying e = some (.struct fs))
    (hone : oneCellFields P fs = true) (hC : P.cellsOf e = fs.size) (h0 : 0 < fs.size) (h : DataW.trod enc P w base spare held fuel t [.slice A len cap] = some x) :
    ∀ i, i < len → ∃ b o, A = some ⟨b, o, none⟩ ∧ b < w.heap.size ∧ ∀ j f, fs[j]? = some f → ∃ v n y, w.cell? ⟨b, o + (i * fs.size + j), none⟩ = some v ∧ DataW.trod enc P w base spare held n f.type [v] = some y := by
  intro i hi
  rcases open_slice ht h with ⟨hcs, _⟩ | ⟨a, len', cap', m, n, D, Pl, hcs, _, hl, _, hmm, _, hrow⟩
  · simp only [List.cons.injEq, Value.slice.injEq] at hcs
    omega
  · simp only [List.cons.injEq, Value.slice.injEq, and_true] at hcs
    obtain ⟨rfl, rfl, rfl⟩ := hcs
    have him : i < m := by rw [hmm]; split <;> omega
    obtain ⟨cs, hc, hy⟩ := hrow i him
    rw [hC] at hc
    obtain ⟨_, hlen, hat⟩ := World.cells?_some hc
    obtain ⟨ys, k, _, _, _, hyl, hf⟩ := DataW.trod_struct he hy
    have hcell : ∀ j, j < fs.size → ∃ v, cs[j]? = some v ∧ w.cell? (a.add (i * fs.size + j)) = some v := by
      intro j hj
      have hv : cs[j]? = some (cs[j]'(by omega)) := List.getElem?_eq_getElem (by omega)
      exact ⟨_, hv, by rw [← Go.Deep.add_add, hat j hj, hv]⟩
    obtain ⟨b, o, spot⟩ := a
    have hspot : spot = none := by
      obtain ⟨cs0, hc0, _⟩ := hrow 0 (by omega)
      rw [hC] at hc0
      obtain ⟨_, hlen0, hat0⟩ := World.cells?_some hc0
      have e := hat0 0 h0
      have hv : cs0[0]? = some (cs0[0]'(by omega)) := List.getElem?_eq_getElem (by omega)
      rw [hv] at e
      simpa [Addr.add] using World.cell?_spot e
    subst hspot
    refine ⟨b, o, rfl, ?_, fun j f hj => ?_⟩
    · obtain ⟨v, _, hv⟩ := hcell 0 h0
      have := World.block_lt_of_cell? w _ hv
      rwa [add_block] at this
    · have hjl : j < fs.size := (Array.getElem?_eq_some_iff.1 hj).1
      obtain ⟨ho, hk⟩ := hone_of hone j f hj
      obtain ⟨v, hv, hcv⟩ := hcell j hjl
      have h1 := hf j f hj
      rw [ho, hk, List.drop_eq_getElem_cons (by omega)] at h1
      have hys : ys[j]? = some (ys[j]'(by omega)) := List.getElem?_eq_getElem (by omega)
      rw [List.getElem?_eq_getElem (by omega)] at hv
      injection hv with hv
      rw [hv] at h1
      refine ⟨v, k, _, by rw [← add_at]; exact hcv, h1.trans hys⟩
end
end Go.Proofs.Ytomgjamojeejbaa
/- The steps that came in: a slice of slices of ops. -/
set_option linter.unusedVariables false
set_option linter.unusedSimpArgs false
namespace Go.Proofs.Ytomgjamojeejbaa
open Go.RowKit Go.ChangeShapes Go.WideShapes Go.Deep

theorem list_of {α : Type} {P : Nat → α → Prop} : ∀ (m : Nat), (∀ i, i < m → ∃ o, P i o) → ∃ l : List α, l.length = m ∧ ∀ i o, l[i]? = some o → P i o
  | 0, _ => ⟨[], rfl, fun i o h => by simp at h⟩
  | m + 1, h => by
    obtain ⟨l, hl, hp⟩ := list_of m (fun i hi => h i (by omega))
    obtain ⟨o, ho⟩ := h m (by omega)
    refine ⟨l ++ [o], by rw [List.length_append, hl]; rfl, fun i o' hi => ?_⟩
    by_cases hlt : i < l.length
    · rw [List.getElem?_append_left hlt] at hi
      exact hp i o' hi
    · rw [List.getElem?_append_right (by omega)] at hi
      obtain ⟨he, rfl⟩ : i - l.length = 0 ∧ o = o' := by
        cases hd : i - l.length with
        | zero => rw [hd] at hi; simpa using hi
        | succ d => rw [hd] at hi; simp at hi
      have : i = m := by omega
      subst this
      exact ho

section
variable {H : Type} {enc : TypeId × Value → H} {w : World} {base : Nat} {spare : Nat → Bool} {held : Bool}
theorem field_list {t : TypeId} {n : Nat} {l l' : List Value} {o : Option (DataW H × List MemPlace)} {y : DataW H × List MemPlace} (hl : l = l') (ho : o = some y) (h : DataW.trod enc Try.prog w base spare held n t l = o) :
    DataW.trod enc Try.prog w base spare held n t l' = some y := by subst hl ho; exact h
theorem fieldN {k : IntKind} {t : TypeId} {n : Nat} {l : List Value} {v : Value} {o : Option (DataW H × List MemPlace)} {y : DataW H × List MemPlace} (ht : Try.prog.underlying t = some (.int k)) (hl : l = [v]) (ho : o = some y)
    (h : DataW.trod enc Try.prog w base spare held n t l = o) : ∃ a, v = .int k a ∧ (Lit.int k a).wf = true := by
  subst hl ho
  obtain ⟨a, hc, _, hw⟩ := DataW.trod_int ht h
  simp only [List.cons.injEq, and_true] at hc
  exact ⟨a, hc, hw⟩
theorem fieldB {t : TypeId} {n : Nat} {l : List Value} {v : Value} {o : Option (DataW H × List MemPlace)} {y : DataW H × List MemPlace} (ht : Try.prog.underlying t = some .bool) (hl : l = [v]) (ho : o = some y)
    (h : DataW.trod enc Try.prog w base spare held n t l = o) : ∃ a, v = .bool a := by
  subst hl ho
  obtain ⟨a, hc, _⟩ := DataW.trod_bool ht h
  simp only [List.cons.injEq, and_true] at hc
  exact ⟨a, hc⟩

set_option maxRecDepth 100000 in
/-- An op's eight cells. -/
theorem op_of {fuel : Nat} {cs : List Value} {x : DataW H × List MemPlace} (hsz : cs.length = 8) (h : DataW.trod enc Try.prog w base spare held fuel 80 cs = some x) :
    ∃ o : OpV, o.Wf ∧ cs = [.int .i64 o.k, .int .i64 o.c, .int .i64 o.n, .int .u32 o.x, .int .u32 o.y, .int .i64 o.uk, .int .u32 o.um, .int .u32 o.ux] := by
  match cs, hsz with
  | [v0, v1, v2, v3, v4, v5, v6, v7], _ =>
    have c_i : Try.prog.cellsOf 3 = 1 := by kernel_rfl
    have c_u : Try.prog.cellsOf 23 = 1 := by kernel_rfl
    have c_U : Try.prog.cellsOf 78 = 3 := by kernel_rfl
    obtain ⟨xs, n, _, _, _, hl, hg⟩ := DataW.trod_struct Try.underlying80 h
    have hx : ∀ i, i < 6 → ∃ y, xs[i]? = some y := fun i hi => ⟨_, List.getElem?_eq_getElem (by rw [hl]; exact hi)⟩
    obtain ⟨y0, e0⟩ := hx 0 (by decide)
    obtain ⟨a0, rfl, q0⟩ := fieldN (v := v0) Try.underlying3 (by show List.take (Try.prog.cellsOf 3) _ = _; rw [c_i]; rfl) e0 (hg 0 _ rfl)
    obtain ⟨y1, e1⟩ := hx 1 (by decide)
    obtain ⟨a1, rfl, q1⟩ := fieldN (v := v1) Try.underlying3 (by show List.take (Try.prog.cellsOf 3) _ = _; rw [c_i]; rfl) e1 (hg 1 _ rfl)
    obtain ⟨y2, e2⟩ := hx 2 (by decide)
    obtain ⟨a2, rfl, q2⟩ := fieldN (v := v2) Try.underlying3 (by show List.take (Try.prog.cellsOf 3) _ = _; rw [c_i]; rfl) e2 (hg 2 _ rfl)
    obtain ⟨y3, e3⟩ := hx 3 (by decide)
    obtain ⟨a3, rfl, q3⟩ := fieldN (v := v3) Try.underlying23 (by show List.take (Try.prog.cellsOf 23) _ = _; rw [c_u]; rfl) e3 (hg 3 _ rfl)
    obtain ⟨y4, e4⟩ := hx 4 (by decide)
    obtain ⟨a4, rfl, q4⟩ := fieldN (v := v4) Try.underlying23 (by show List.take (Try.prog.cellsOf 23) _ = _; rw [c_u]; rfl) e4 (hg 4 _ rfl)
    obtain ⟨y5, e5⟩ := hx 5 (by decide)
    obtain ⟨zs, m, _, _, _, hlz, hgz⟩ := DataW.trod_struct Try.underlying78 (field_list (l' := [v5, v6, v7]) (by show List.take (Try.prog.cellsOf 78) _ = _; rw [c_U]; rfl) e5 (hg 5 _ rfl))
    have hz : ∀ i, i < 3 → ∃ y, zs[i]? = some y := fun i hi => ⟨_, List.getElem?_eq_getElem (by rw [hlz]; exact hi)⟩
    obtain ⟨y6, e6⟩ := hz 0 (by decide)
    obtain ⟨a5, rfl, q5⟩ := fieldN (v := v5) Try.underlying3 (by show List.take (Try.prog.cellsOf 3) _ = _; rw [c_i]; rfl) e6 (hgz 0 _ rfl)
    obtain ⟨y7, e7⟩ := hz 1 (by decide)
    obtain ⟨a6, rfl, q6⟩ := fieldN (v := v6) Try.underlying23 (by show List.take (Try.prog.cellsOf 23) _ = _; rw [c_u]; rfl) e7 (hgz 1 _ rfl)
    obtain ⟨y8, e8⟩ := hz 2 (by decide)
    obtain ⟨a7, rfl, q7⟩ := fieldN (v := v7) Try.underlying23 (by show List.take (Try.prog.cellsOf 23) _ = _; rw [c_u]; rfl) e8 (hgz 2 _ rfl)
    exact ⟨⟨a0, a1, a2, a3, a4, a5, a6, a7⟩, ⟨(wf_u32 q3).1, (wf_u32 q3).2, (wf_u32 q4).1, (wf_u32 q4).2⟩, rfl⟩

set_option maxRecDepth 100000 in
theorem ops_of {fuel : Nat} {AO : Option Addr} {m co : Nat} {x : DataW H × List MemPlace} (h : DataW.trod enc Try.prog w base spare held fuel 48 [.slice AO m co] = some x) :
    ∃ l0 : List OpV, l0.length = m ∧ OpsAt w w.heap.size AO l0 ∧ ∀ o ∈ l0, o.Wf := by
  have hC : Try.prog.cellsOf 80 = 8 := by kernel_rfl
  have step : ∀ i, i < m → ∃ o : OpV, o.Wf ∧ ∃ b q, AO = some ⟨b, q, none⟩ ∧ b < w.heap.size ∧ At8 w b (q + i * 8) o := by
    intro i hi
    rcases open_slice Try.underlying48 h with ⟨hcs, _⟩ | ⟨a, len', cap', m', n, D, Pl, hcs, _, hl, _, hmm, _, hrow⟩
    · simp only [List.cons.injEq, Value.slice.injEq] at hcs
      omega
    · simp only [List.cons.injEq, Value.slice.injEq, and_true] at hcs
      obtain ⟨rfl, rfl, rfl⟩ := hcs
      have him : i < m' := by rw [hmm]; split <;> omega
      obtain ⟨cs, hc, hy⟩ := hrow i him
      rw [hC] at hc
      obtain ⟨_, hlen, hat⟩ := World.cells?_some hc
      obtain ⟨o, hwf, rfl⟩ := op_of hlen hy
      obtain ⟨b, q, spot⟩ := a
      have h0 := hat 0 (by decide)
      have hspot : spot = none := by
        obtain ⟨cs0, hc0, _⟩ := hrow 0 (by omega)
        simp only [hC] at hc0
        obtain ⟨_, hlen0, hat0⟩ := World.cells?_some hc0
        have e := hat0 0 (by decide)
        have hv : cs0[0]? = some (cs0[0]'(by omega)) := List.getElem?_eq_getElem (by omega)
        rw [hv] at e
        simpa [Addr.add] using World.cell?_spot e
      subst hspot
      have hb : b < w.heap.size := by
        simp only [List.getElem?_cons_zero] at h0
        have := World.block_lt_of_cell? w _ h0
        rwa [add_block, add_block] at this
      have hcell : ∀ j v, j < 8 → ([.int .i64 o.k, .int .i64 o.c, .int .i64 o.n, .int .u32 o.x, .int .u32 o.y, .int .i64 o.uk, .int .u32 o.um, .int .u32 o.ux] : List Value)[j]? = some v → w.cell? ⟨b, q + i * 8 + j, none⟩ = some v := fun j v hj hv => by
        have e := hat j hj
        rw [add_at, add_at] at e
        exact e.trans hv
      exact ⟨o, hwf, b, q, rfl, hb, ⟨hcell 0 _ (by decide) rfl, hcell 1 _ (by decide) rfl, hcell 2 _ (by decide) rfl, hcell 3 _ (by decide) rfl, hcell 4 _ (by decide) rfl, hcell 5 _ (by decide) rfl, hcell 6 _ (by decide) rfl, hcell 7 _ (by decide) rfl⟩⟩
  obtain ⟨l, hl, hp⟩ := list_of m step
  refine ⟨l, hl, fun i o hi => (hp i o hi).2, fun o ho => ?_⟩
  obtain ⟨i, hi, he⟩ := List.getElem_of_mem ho
  exact (hp i o (by rw [List.getElem?_eq_getElem hi, he])).1

/-- The steps that came in. -/
def IsSteps (w : World) (A : Option Addr) (len : Nat) : Prop := ∀ i, i < len → ∃ b q AO m co l0, A = some ⟨b, q, none⟩ ∧ b < w.heap.size ∧ w.cell? ⟨b, q + i, none⟩ = some (.slice AO m co) ∧ l0.length = m ∧ OpsAt w w.heap.size AO l0 ∧ ∀ o ∈ l0, o.Wf

set_option maxRecDepth 100000 in
theorem isSteps_of {fuel len cap : Nat} {A : Option Addr} {x : DataW H × List MemPlace} (h : DataW.trod enc Try.prog w base spare held fuel 30 [.slice A len cap] = some x) : IsSteps w A len := by
  intro i hi
  have hC : Try.prog.cellsOf 48 = 1 := by kernel_rfl
  rcases open_slice Try.underlying30 h with ⟨hcs, _⟩ | ⟨a, len', cap', m', n, D, Pl, hcs, _, hl, _, hmm, _, hrow⟩
  · simp only [List.cons.injEq, Value.slice.injEq] at hcs
    omega
  · simp only [List.cons.injEq, Value.slice.injEq, and_true] at hcs
    obtain ⟨rfl, rfl, rfl⟩ := hcs
    have him : i < m' := by rw [hmm]; split <;> omega
    obtain ⟨cs, hc, hy⟩ := hrow i him
    rw [hC, Nat.mul_one] at hc
    obtain ⟨_, hlen, hat⟩ := World.cells?_some hc
    match cs, hlen with
    | [v], _ =>
      have h0 := hat 0 (by decide)
      simp only [List.getElem?_cons_zero] at h0
      obtain ⟨b, q, spot⟩ := a
      have hspot : spot = none := by
        obtain ⟨cs0, hc0, _⟩ := hrow 0 (by omega)
        simp only [hC] at hc0
        obtain ⟨_, hlen0, hat0⟩ := World.cells?_some hc0
        have e := hat0 0 (by decide)
        have hv : cs0[0]? = some (cs0[0]'(by omega)) := List.getElem?_eq_getElem (by omega)
        rw [hv] at e
        simpa [Addr.add] using World.cell?_spot e
      subst hspot
      have hb : b < w.heap.size := by
        have := World.block_lt_of_cell? w _ h0
        rwa [add_block, add_block] at this
      rw [add_at, add_at, Nat.add_zero] at h0
      obtain ⟨AO, m, co, rfl⟩ : ∃ AO m co, v = .slice AO m co := by
        rcases open_slice Try.underlying48 hy with ⟨hcs, _⟩ | ⟨a, len', cap', _, _, _, _, hcs, _⟩
        · simp only [List.cons.injEq, and_true] at hcs; exact ⟨_, _, _, hcs⟩
        · simp only [List.cons.injEq, and_true] at hcs; exact ⟨_, _, _, hcs⟩
      obtain ⟨l0, hl0, ho, hwf⟩ := ops_of hy
      exact ⟨b, q, AO, m, co, l0, rfl, hb, h0, hl0, ho, hwf⟩

set_option maxRecDepth 100000 in
/-- A frame by value. -/
theorem open_frame {r : Reach} {b0 : Nat} {v : Value} {d : DataW H} {p : List MemPlace} (hv : Value.okWide Try.prog w r b0 29 v) (h : DataW.Trod enc Try.prog w base spare held 29 v d p) :
    ∃ (f0 f1 f2 f3 f4 : Int) (f5 : Bool) (f6 f7 : Int) (f8 : Bool) (f9 : Int), v = .agg #[.int .i64 f0, .int .i64 f1, .int .u32 f2, .int .u32 f3, .int .i64 f4, .bool f5, .int .i64 f6, .int .i64 f7, .bool f8, .int .i64 f9] ∧ True := by
  obtain ⟨cs, rfl, hsz⟩ := okWide_struct Try.underlying29 hv
  have hC : Try.prog.cellsOf 29 = 10 := by kernel_rfl
  obtain ⟨l⟩ := cs
  match l, hsz.trans hC with
  | [v0, v1, v2, v3, v4, v5, v6, v7, v8, v9], _ =>
    obtain ⟨fuel, hf⟩ := h
    have c_i : Try.prog.cellsOf 3 = 1 := by kernel_rfl
    have c_u : Try.prog.cellsOf 23 = 1 := by kernel_rfl
    have c_b : Try.prog.cellsOf 4 = 1 := by kernel_rfl
    have c_W : Try.prog.cellsOf 25 = 1 := by kernel_rfl
    have c_K : Try.prog.cellsOf 27 = 4 := by kernel_rfl
    obtain ⟨xs, n, _, _, _, hl, hg⟩ := DataW.trod_struct Try.underlying29 hf
    have hx : ∀ i, i < 7 → ∃ y, xs[i]? = some y := fun i hi => ⟨_, List.getElem?_eq_getElem (by rw [hl]; exact hi)⟩
    obtain ⟨y0, e0⟩ := hx 0 (by decide)
    obtain ⟨a0, rfl, q0⟩ := fieldN (v := v0) Try.underlying3 (by show List.take (Try.prog.cellsOf 3) _ = _; rw [c_i]; rfl) e0 (hg 0 _ rfl)
    obtain ⟨y1, e1⟩ := hx 1 (by decide)
    obtain ⟨a1, rfl, q1⟩ := fieldN (v := v1) Try.underlying3 (by show List.take (Try.prog.cellsOf 3) _ = _; rw [c_i]; rfl) e1 (hg 1 _ rfl)
    obtain ⟨y2, e2⟩ := hx 2 (by decide)
    obtain ⟨a2, rfl, q2⟩ := fieldN (v := v2) Try.underlying23 (by show List.take (Try.prog.cellsOf 23) _ = _; rw [c_u]; rfl) e2 (hg 2 _ rfl)
    obtain ⟨y3, e3⟩ := hx 3 (by decide)
    obtain ⟨a3, rfl, q3⟩ := fieldN (v := v3) Try.underlying23 (by show List.take (Try.prog.cellsOf 23) _ = _; rw [c_u]; rfl) e3 (hg 3 _ rfl)
    obtain ⟨y4, e4⟩ := hx 4 (by decide)
    obtain ⟨zs, m, _, _, _, hlz, hgz⟩ := DataW.trod_struct Try.underlying25 (field_list (l' := [v4]) (by show List.take (Try.prog.cellsOf 25) _ = _; rw [c_W]; rfl) e4 (hg 4 _ rfl))
    obtain ⟨z0, d0⟩ : ∃ y, zs[0]? = some y := ⟨_, List.getElem?_eq_getElem (by rw [hlz]; exact Nat.one_pos)⟩
    obtain ⟨a4, rfl, q4⟩ := fieldN (v := v4) Try.underlying3 (by show List.take (Try.prog.cellsOf 3) _ = _; rw [c_i]; rfl) d0 (hgz 0 _ rfl)
    obtain ⟨y5, e5⟩ := hx 5 (by decide)
    obtain ⟨us, m2, _, _, _, hlu, hgu⟩ := DataW.trod_struct Try.underlying27 (field_list (l' := [v5, v6, v7, v8]) (by show List.take (Try.prog.cellsOf 27) _ = _; rw [c_K]; rfl) e5 (hg 5 _ rfl))
    have hu : ∀ i, i < 4 → ∃ y, us[i]? = some y := fun i hi => ⟨_, List.getElem?_eq_getElem (by rw [hlu]; exact hi)⟩
    obtain ⟨u0, g0⟩ := hu 0 (by decide)
    obtain ⟨a5, rfl⟩ := fieldB (v := v5) Try.underlying4 (by show List.take (Try.prog.cellsOf 4) _ = _; rw [c_b]; rfl) g0 (hgu 0 _ rfl)
    obtain ⟨u1, g1⟩ := hu 1 (by decide)
    obtain ⟨a6, rfl, q6⟩ := fieldN (v := v6) Try.underlying3 (by show List.take (Try.prog.cellsOf 3) _ = _; rw [c_i]; rfl) g1 (hgu 1 _ rfl)
    obtain ⟨u2, g2⟩ := hu 2 (by decide)
    obtain ⟨a7, rfl, q7⟩ := fieldN (v := v7) Try.underlying3 (by show List.take (Try.prog.cellsOf 3) _ = _; rw [c_i]; rfl) g2 (hgu 2 _ rfl)
    obtain ⟨u3, g3⟩ := hu 3 (by decide)
    obtain ⟨a8, rfl⟩ := fieldB (v := v8) Try.underlying4 (by show List.take (Try.prog.cellsOf 4) _ = _; rw [c_b]; rfl) g3 (hgu 3 _ rfl)
    obtain ⟨y6, e6⟩ := hx 6 (by decide)
    obtain ⟨a9, rfl, q9⟩ := fieldN (v := v9) Try.underlying3 (by show List.take (Try.prog.cellsOf 3) _ = _; rw [c_i]; rfl) e6 (hg 6 _ rfl)
    exact ⟨a0, a1, a2, a3, a4, a5, a6, a7, a8, a9, rfl, trivial⟩
end
end Go.Proofs.Ytomgjamojeejbaa
