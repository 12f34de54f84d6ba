/- Contract of the answer's Do. -/
import Derived.Test.YtjdgniconbocnaaRefThere
namespace Go.Proofs.Ytjdgniconbocnaa
open Go.RowKit

theorem refdo_not (A : Option Addr) (n cp : Nat) (xs : List Int) (k c x y o : Int) (w : World) (hn : xs.length = n) (hk : doOk xs k c = false) :
    Calls Try.prog 22 #[.slice A n cp, .agg #[.int .i64 k, .int .i64 c, .int .u32 x, .int .u32 y, .int .u32 o]] w fun e w' =>
      e = .returned (.tuple #[.agg #[.int .i64 0, .int .i64 0, .int .u32 0, .int .u32 0, .int .u32 0], .bool false]) ∧ Only Nil w w' := by
  have hcase : there xs c = false ∨ (there xs c = true ∧ k < 1) ∨ (there xs c = true ∧ ¬ k < 1 ∧ 5 < k) := by
    cases ht : there xs c
    · exact .inl rfl
    · simp only [doOk, ht, Bool.true_and, isKind, decide_eq_false_iff_not] at hk
      have : k < 1 ∨ (¬ k < 1 ∧ 5 < k) := by omega
      rcases this with h | h
      · exact .inr (.inl ⟨rfl, h⟩)
      · exact .inr (.inr ⟨rfl, h⟩)
  clear hk
  have HN := Lib.hid hn
  clear hn
  rcases hcase with ht | ⟨ht, h1⟩ | ⟨ht, h1, h2⟩
  all_goals
    have HT := Lib.hid ht
    clear ht
    go_enter Try.func22, Try.ntmps22
    go_wp2_with fail
    refine (there_any A n cp xs c HN.out _).mono ?_
    rw [HT.out]
    rintro e w1 ⟨rfl, rfl⟩
    go_wp2
    go_returns
    exact ⟨rfl, by (repeat' (first | (with_reducible exact Only.refl _ _) | (with_reducible assumption) | (with_reducible refine Only.setCell ?_ ?_ _) | (with_reducible refine Only.drewN ?_ _) | (with_reducible refine Only.drew ?_) | (with_reducible refine Only.alloc ?_ _) | (left; simp; done) | (left; simp; omega) | (right; rfl)))⟩

theorem set_self {cur : Array Value} {i : Nat} {u : Value} (h : cur[i]? = some u) : cur.setIfInBounds i u = cur := by
  obtain ⟨hi, rfl⟩ := Array.getElem?_eq_some_iff.1 h
  rw [Array.setIfInBounds_def, dif_pos hi]
  exact Array.set_getElem_self hi

set_option maxHeartbeats 800000 in
theorem refdo_ok (g n cp : Nat) (cur : Array Value) (xs : List Int) (k c x y o : Int) (w : World) (hn : xs.length = n) (hr : Row w g 31 cur) (ht : there xs c = true) (hk : isKind k = true) (hv : cur[c.toNat]? = some (.int .u32 (wordAt xs c))) :
    Calls Try.prog 22 #[.slice (some ⟨g, 0, none⟩) n cp, .agg #[.int .i64 k, .int .i64 c, .int .u32 x, .int .u32 y, .int .u32 o]] w fun e w' =>
      e = .returned (.tuple #[.agg #[.int .i64 k, .int .i64 c, .int .u32 x, .int .u32 y, .int .u32 (wordAt xs c)], .bool true]) ∧ Only (· = g) w w' ∧ Row w' g 31 (cur.setIfInBounds c.toNat (.int .u32 (leftOf k x y (wordAt xs c)))) := by
  have HN := Lib.hid hn
  have HT := Lib.hid ht
  have hc0 : 0 ≤ c ∧ c < (n : Int) := by have e := HT.out; simp only [there, decide_eq_true_eq] at e; omega
  obtain ⟨hc0, hc1⟩ := hc0
  have hglt := hr.lt
  have hcell := hr.cell_ hv
  have hfro := hr.frozen c.toNat
  have HR := Lib.hid hr
  have HV := Lib.hid hv
  clear hr hv hn ht
  generalize hw : wordAt xs c = v at *
  have HW := Lib.hid hw
  clear hw
  have hcase : k = 1 ∨ k = 2 ∨ k = 3 ∨ k = 4 ∨ k = 5 := by simp only [isKind, decide_eq_true_eq] at hk; omega
  clear hk
  rcases hcase with rfl | rfl | rfl | rfl | rfl
  · go_enter Try.func22, Try.ntmps22
    go_wp2_with fail
    refine (there_any _ n cp xs c HN.out _).mono ?_
    rw [HT.out]
    rintro e w1 ⟨rfl, hw1⟩
    obtain rfl := hw1.symm
    go_wp2
    refine post_row_tmp (P := Try.prog) Try.results22 (t := 33) (g := w.heap.size + 1) (cs := #[.int .i64 1, .int .i64 c, .int .u32 x, .int .u32 y, .int .u32 v]) rfl ?_ Try.underlying33 rfl (by kernel_rfl) rfl ⟨rfl, ?_, ?_⟩
    · exact Row.new2 _ _ _ _
    · (repeat' (first | (with_reducible exact Only.refl _ _) | (with_reducible assumption) | (with_reducible refine Only.setCell ?_ ?_ _) | (with_reducible refine Only.drewN ?_ _) | (with_reducible refine Only.drew ?_) | (with_reducible refine Only.alloc ?_ _) | (left; simp; done) | (left; simp; omega) | (right; rfl)))
    · rw [show leftOf 1 x y v = v by simp [leftOf], set_self HV.out]
      exact (HR.out.alloc _).alloc _
  · go_enter Try.func22, Try.ntmps22
    go_wp2_with fail
    refine (there_any _ n cp xs c HN.out _).mono ?_
    rw [HT.out]
    rintro e w1 ⟨rfl, hw1⟩
    obtain rfl := hw1.symm
    go_wp2
    refine post_row_tmp (P := Try.prog) Try.results22 (t := 33) (g := w.heap.size + 1) (cs := #[.int .i64 2, .int .i64 c, .int .u32 x, .int .u32 y, .int .u32 v]) rfl ?_ Try.underlying33 rfl (by kernel_rfl) rfl ⟨rfl, ?_, ?_⟩
    · have e2 := Row.new2 (w.setCell ⟨g, c.toNat, none⟩ (.int .u32 x)) (Obj.cells #[.int .i64 2, .int .i64 c, .int .u32 x, .int .u32 y, .int .u32 v] 33) 33 #[.int .i64 2, .int .i64 c, .int .u32 x, .int .u32 y, .int .u32 v]
      simpa using e2
    · (repeat' (first | (with_reducible exact Only.refl _ _) | (with_reducible assumption) | (with_reducible refine Only.setCell ?_ ?_ _) | (with_reducible refine Only.drewN ?_ _) | (with_reducible refine Only.drew ?_) | (with_reducible refine Only.alloc ?_ _) | (left; simp; done) | (left; simp; omega) | (right; rfl)))
    · rw [show leftOf 2 x y v = x by simp [leftOf]]
      exact ((HR.out.set c.toNat (.int .u32 x)).alloc _).alloc _
  · go_enter Try.func22, Try.ntmps22
    go_wp2_with fail
    refine (there_any _ n cp xs c HN.out _).mono ?_
    rw [HT.out]
    rintro e w1 ⟨rfl, hw1⟩
    obtain rfl := hw1.symm
    go_wp2
    refine post_row_tmp (P := Try.prog) Try.results22 (t := 33) (g := w.heap.size + 1) (cs := #[.int .i64 3, .int .i64 c, .int .u32 x, .int .u32 y, .int .u32 v]) rfl ?_ Try.underlying33 rfl (by kernel_rfl) rfl ⟨rfl, ?_, ?_⟩
    · have e2 := Row.new2 (w.setCell ⟨g, c.toNat, none⟩ (.int .u32 ((v + x) % 4294967296))) (Obj.cells #[.int .i64 3, .int .i64 c, .int .u32 x, .int .u32 y, .int .u32 v] 33) 33 #[.int .i64 3, .int .i64 c, .int .u32 x, .int .u32 y, .int .u32 v]
      simpa using e2
    · (repeat' (first | (with_reducible exact Only.refl _ _) | (with_reducible assumption) | (with_reducible refine Only.setCell ?_ ?_ _) | (with_reducible refine Only.drewN ?_ _) | (with_reducible refine Only.drew ?_) | (with_reducible refine Only.alloc ?_ _) | (left; simp; done) | (left; simp; omega) | (right; rfl)))
    · rw [show leftOf 3 x y v = (v + x) % 4294967296 by simp only [leftOf, if_true]; rw [Int.add_comm]]
      exact ((HR.out.set c.toNat (.int .u32 ((v + x) % 4294967296))).alloc _).alloc _
  · go_enter Try.func22, Try.ntmps22
    go_wp2_with fail
    refine (there_any _ n cp xs c HN.out _).mono ?_
    rw [HT.out]
    rintro e w1 ⟨rfl, hw1⟩
    obtain rfl := hw1.symm
    go_wp2
    refine post_row_tmp (P := Try.prog) Try.results22 (t := 33) (g := w.heap.size + 1) (cs := #[.int .i64 4, .int .i64 c, .int .u32 x, .int .u32 y, .int .u32 v]) rfl ?_ Try.underlying33 rfl (by kernel_rfl) rfl ⟨rfl, ?_, ?_⟩
    · have e2 := Row.new2 (w.setCell ⟨g, c.toNat, none⟩ (.int .u32 x)) (Obj.cells #[.int .i64 4, .int .i64 c, .int .u32 x, .int .u32 y, .int .u32 v] 33) 33 #[.int .i64 4, .int .i64 c, .int .u32 x, .int .u32 y, .int .u32 v]
      simpa using e2
    · (repeat' (first | (with_reducible exact Only.refl _ _) | (with_reducible assumption) | (with_reducible refine Only.setCell ?_ ?_ _) | (with_reducible refine Only.drewN ?_ _) | (with_reducible refine Only.drew ?_) | (with_reducible refine Only.alloc ?_ _) | (left; simp; done) | (left; simp; omega) | (right; rfl)))
    · rw [show leftOf 4 x y v = x by simp [leftOf]]
      exact ((HR.out.set c.toNat (.int .u32 x)).alloc _).alloc _
  · by_cases he : v = x
    · have hb := beq_iff_eq.2 he
      have HE := Lib.hid he
      clear he
      go_enter Try.func22, Try.ntmps22
      go_wp2_with fail
      refine (there_any _ n cp xs c HN.out _).mono ?_
      rw [HT.out]
      rintro e w1 ⟨rfl, hw1⟩
      obtain rfl := hw1.symm
      go_wp2
      refine post_row_tmp (P := Try.prog) Try.results22 (t := 33) (g := w.heap.size + 1) (cs := #[.int .i64 5, .int .i64 c, .int .u32 x, .int .u32 y, .int .u32 v]) rfl ?_ Try.underlying33 rfl (by kernel_rfl) rfl ⟨rfl, ?_, ?_⟩
      · have e2 := Row.new2 (w.setCell ⟨g, c.toNat, none⟩ (.int .u32 y)) (Obj.cells #[.int .i64 5, .int .i64 c, .int .u32 x, .int .u32 y, .int .u32 v] 33) 33 #[.int .i64 5, .int .i64 c, .int .u32 x, .int .u32 y, .int .u32 v]
        simpa using e2
      · (repeat' (first | (with_reducible exact Only.refl _ _) | (with_reducible assumption) | (with_reducible refine Only.setCell ?_ ?_ _) | (with_reducible refine Only.drewN ?_ _) | (with_reducible refine Only.drew ?_) | (with_reducible refine Only.alloc ?_ _) | (left; simp; done) | (left; simp; omega) | (right; rfl)))
      · rw [show leftOf 5 x y v = y by simp [leftOf, HE.out]]
        exact ((HR.out.set c.toNat (.int .u32 y)).alloc _).alloc _
    · have hb := beq_eq_false_iff_ne.2 he
      have HE := Lib.hid he
      clear he
      go_enter Try.func22, Try.ntmps22
      go_wp2_with fail
      refine (there_any _ n cp xs c HN.out _).mono ?_
      rw [HT.out]
      rintro e w1 ⟨rfl, hw1⟩
      obtain rfl := hw1.symm
      go_wp2
      refine post_row_tmp (P := Try.prog) Try.results22 (t := 33) (g := w.heap.size + 1) (cs := #[.int .i64 5, .int .i64 c, .int .u32 x, .int .u32 y, .int .u32 v]) rfl ?_ Try.underlying33 rfl (by kernel_rfl) rfl ⟨rfl, ?_, ?_⟩
      · exact Row.new2 _ _ _ _
      · (repeat' (first | (with_reducible exact Only.refl _ _) | (with_reducible assumption) | (with_reducible refine Only.setCell ?_ ?_ _) | (with_reducible refine Only.drewN ?_ _) | (with_reducible refine Only.drew ?_) | (with_reducible refine Only.alloc ?_ _) | (left; simp; done) | (left; simp; omega) | (right; rfl)))
      · rw [show leftOf 5 x y v = v by simp [leftOf, HE.out], set_self HV.out]
        exact (HR.out.alloc _).alloc _

/-- Any access on a list of the caller's own. -/
theorem refdo_any (base : Nat) (A : Option Addr) (n cp : Nat) (xs : List Int) (k c x y o : Int) (w : World) (h : Own w base A cp xs) (hn : xs.length = n) :
    Calls Try.prog 22 #[.slice A n cp, .agg #[.int .i64 k, .int .i64 c, .int .u32 x, .int .u32 y, .int .u32 o]] w fun e w' =>
      e = .returned (.tuple #[doVal xs k c x y, .bool (doOk xs k c)]) ∧ Only (At A) w w' ∧ Own w' base A cp (doNew xs k c x y) := by
  cases hk : doOk xs k c
  · refine (refdo_not A n cp xs k c x y o w hn hk).mono fun e w' ⟨he, hO⟩ => ⟨by rw [he]; simp [doVal, hk, accOf], hO.mono (fun _ _ hj => hj.elim), ?_⟩
    rw [show doNew xs k c x y = xs by simp [doNew, hk]]
    exact h.only hO (fun _ _ => id)
  · have hk2 := hk
    simp only [doOk, Bool.and_eq_true] at hk2
    obtain ⟨ht, hik⟩ := hk2
    have ht2 := ht
    simp only [there, decide_eq_true_eq] at ht2
    obtain ⟨g, cur, rfl, hb, hr, hcell, hset⟩ := h.row (i := c.toNat) (by omega)
    rw [show xs.getD c.toNat 0 = wordAt xs c by simp [wordAt, ht]] at hcell
    refine (refdo_ok g n cp cur xs k c x y o w hn hr ht hik hcell).mono fun e w' ⟨he, hO, hR⟩ => ⟨by rw [he]; simp [doVal, hk, accOf], hO.mono (fun _ _ hj => ⟨_, rfl, hj.symm⟩), ?_⟩
    rw [show doNew xs k c x y = xs.set c.toNat (leftOf k x y (wordAt xs c)) by simp [doNew, hk]]
    exact hset _ _ hR
end Go.Proofs.Ytjdgniconbocnaa
