import Derived.Test.YtlepokgagickmaaGreatChecked
import Derived.Laws.StructEq
import Derived.BigQuiet
import Derived.Test.YtlepokgagickmaaGreatG16
import Derived.Test.YtlepokgagickmaaGreatG1
import Derived.Test.YtlepokgagickmaaGreatG2
import Derived.Test.YtlepokgagickmaaGreatG3
import Derived.Test.YtlepokgagickmaaGreatG9
namespace Go.Proofs.YtlepokgagickmaaGreat
open Go.RowKit
theorem refdo_not (A : Option Addr) (n cp : Nat) (xs : List Int) (k c x y o : Int) (w : World) (hn : xs.length = n) (hk : doOk xs k c = false) :
    Calls Tryz.prog 17 #[.slice A n cp, .agg #[.int .i64 k, .int .i64 c, .int .u32 x, .int .u32 y, .int .u32 o]] w fun e w' =>
      e = .returned (.tuple #[.agg #[.int .i64 0, .int .i64 0, .int .u32 0, .int .u32 0, .int .u32 0], .bool false]) ∧ Only Nil w w' := by
  have hcase : there xs c = false ∨ (there xs c = true ∧ k < 1) ∨ (there xs c = true ∧ ¬ k < 1 ∧ 5 < k) := by
    cases ht : there xs c
    · exact .inl rfl
    · simp only [doOk, ht, Bool.true_and, isKind, decide_eq_false_iff_not] at hk
      have : k < 1 ∨ (¬ k < 1 ∧ 5 < k) := by omega
      rcases this with h | h
      · exact .inr (.inl ⟨rfl, h⟩)
      · exact .inr (.inr ⟨rfl, h⟩)
  clear hk
  have HN := Lib.hid hn
  clear hn
  rcases hcase with ht | ⟨ht, h1⟩ | ⟨ht, h1, h2⟩
  all_goals
    have HT := Lib.hid ht
    clear ht
    go_enter Tryz.func17, Tryz.ntmps17
    go_wp2_with fail
    refine (there_any A n cp xs c HN.out _).mono ?_
    rw [HT.out]
    rintro e w1 ⟨rfl, rfl⟩
    go_wp2
    go_returns
    exact ⟨rfl, by (repeat' (first | (with_reducible exact Only.refl _ _) | (with_reducible assumption) | (with_reducible refine Only.setCell ?_ ?_ _) | (with_reducible refine Only.drewN ?_ _) | (with_reducible refine Only.drew ?_) | (with_reducible refine Only.alloc ?_ _) | (left; simp; done) | (left; simp; omega) | (right; rfl)))⟩
theorem set_self {cur : Array Value} {i : Nat} {u : Value} (h : cur[i]? = some u) : cur.setIfInBounds i u = cur := by
  obtain ⟨hi, rfl⟩ := Array.getElem?_eq_some_iff.1 h
  rw [Array.setIfInBounds_def, dif_pos hi]
  exact Array.set_getElem_self hi
set_option maxHeartbeats 800000 in
theorem refdo_ok (g n cp : Nat) (cur : Array Value) (xs : List Int) (k c x y o : Int) (w : World) (hn : xs.length = n) (hr : Row w g 22 cur) (ht : there xs c = true) (hk : isKind k = true) (hv : cur[c.toNat]? = some (.int .u32 (wordAt xs c))) :
    Calls Tryz.prog 17 #[.slice (some ⟨g, 0, none⟩) n cp, .agg #[.int .i64 k, .int .i64 c, .int .u32 x, .int .u32 y, .int .u32 o]] w fun e w' =>
      e = .returned (.tuple #[.agg #[.int .i64 k, .int .i64 c, .int .u32 x, .int .u32 y, .int .u32 (wordAt xs c)], .bool true]) ∧ Only (· = g) w w' ∧ Row w' g 22 (cur.setIfInBounds c.toNat (.int .u32 (leftOf k x y (wordAt xs c)))) := by
  have HN := Lib.hid hn
  have HT := Lib.hid ht
  have hc0 : 0 ≤ c ∧ c < (n : Int) := by have e := HT.out; simp only [there, decide_eq_true_eq] at e; omega
  obtain ⟨hc0, hc1⟩ := hc0
  have hglt := hr.lt
  have hcell := hr.cell_ hv
  have hfro := hr.frozen c.toNat
  have HR := Lib.hid hr
  have HV := Lib.hid hv
  clear hr hv hn ht
  generalize hw : wordAt xs c = v at *
  have HW := Lib.hid hw
  clear hw
  have hcase : k = 1 ∨ k = 2 ∨ k = 3 ∨ k = 4 ∨ k = 5 := by simp only [isKind, decide_eq_true_eq] at hk; omega
  clear hk
  rcases hcase with rfl | rfl | rfl | rfl | rfl
  · go_enter Tryz.func17, Tryz.ntmps17
    go_wp2_with fail
    refine (there_any _ n cp xs c HN.out _).mono ?_
    rw [HT.out]
    rintro e w1 ⟨rfl, hw1⟩
    obtain rfl := hw1.symm
    go_wp2
    refine post_row_tmp (P := Tryz.prog) Tryz.results17 (t := 33) (g := w.heap.size + 1) (cs := #[.int .i64 1, .int .i64 c, .int .u32 x, .int .u32 y, .int .u32 v]) rfl ?_ Tryz.underlying33 rfl (by kernel_rfl) rfl ⟨rfl, ?_, ?_⟩
    · exact Row.new2 _ _ _ _
    · (repeat' (first | (with_reducible exact Only.refl _ _) | (with_reducible assumption) | (with_reducible refine Only.setCell ?_ ?_ _) | (with_reducible refine Only.drewN ?_ _) | (with_reducible refine Only.drew ?_) | (with_reducible refine Only.alloc ?_ _) | (left; simp; done) | (left; simp; omega) | (right; rfl)))
    · rw [show leftOf 1 x y v = v by simp [leftOf], set_self HV.out]
      exact (HR.out.alloc _).alloc _
  · go_enter Tryz.func17, Tryz.ntmps17
    go_wp2_with fail
    refine (there_any _ n cp xs c HN.out _).mono ?_
    rw [HT.out]
    rintro e w1 ⟨rfl, hw1⟩
    obtain rfl := hw1.symm
    go_wp2
    refine post_row_tmp (P := Tryz.prog) Tryz.results17 (t := 33) (g := w.heap.size + 1) (cs := #[.int .i64 2, .int .i64 c, .int .u32 x, .int .u32 y, .int .u32 v]) rfl ?_ Tryz.underlying33 rfl (by kernel_rfl) rfl ⟨rfl, ?_, ?_⟩
    · have e2 := Row.new2 (w.setCell ⟨g, c.toNat, none⟩ (.int .u32 x)) (Obj.cells #[.int .i64 2, .int .i64 c, .int .u32 x, .int .u32 y, .int .u32 v] 33) 33 #[.int .i64 2, .int .i64 c, .int .u32 x, .int .u32 y, .int .u32 v]
      simpa using e2
    · (repeat' (first | (with_reducible exact Only.refl _ _) | (with_reducible assumption) | (with_reducible refine Only.setCell ?_ ?_ _) | (with_reducible refine Only.drewN ?_ _) | (with_reducible refine Only.drew ?_) | (with_reducible refine Only.alloc ?_ _) | (left; simp; done) | (left; simp; omega) | (right; rfl)))
    · rw [show leftOf 2 x y v = x by simp [leftOf]]
      exact ((HR.out.set c.toNat (.int .u32 x)).alloc _).alloc _
  · go_enter Tryz.func17, Tryz.ntmps17
    go_wp2_with fail
    refine (there_any _ n cp xs c HN.out _).mono ?_
    rw [HT.out]
    rintro e w1 ⟨rfl, hw1⟩
    obtain rfl := hw1.symm
    go_wp2
    refine post_row_tmp (P := Tryz.prog) Tryz.results17 (t := 33) (g := w.heap.size + 1) (cs := #[.int .i64 3, .int .i64 c, .int .u32 x, .int .u32 y, .int .u32 v]) rfl ?_ Tryz.underlying33 rfl (by kernel_rfl) rfl ⟨rfl, ?_, ?_⟩
    · have e2 := Row.new2 (w.setCell ⟨g, c.toNat, none⟩ (.int .u32 ((v + x) % 4294967296))) (Obj.cells #[.int .i64 3, .int .i64 c, .int .u32 x, .int .u32 y, .int .u32 v] 33) 33 #[.int .i64 3, .int .i64 c, .int .u32 x, .int .u32 y, .int .u32 v]
      simpa using e2
    · (repeat' (first | (with_reducible exact Only.refl _ _) | (with_reducible assumption) | (with_reducible refine Only.setCell ?_ ?_ _) | (with_reducible refine Only.drewN ?_ _) | (with_reducible refine Only.drew ?_) | (with_reducible refine Only.alloc ?_ _) | (left; simp; done) | (left; simp; omega) | (right; rfl)))
    · rw [show leftOf 3 x y v = (v + x) % 4294967296 by simp only [leftOf, if_true]; rw [Int.add_comm]]
      exact ((HR.out.set c.toNat (.int .u32 ((v + x) % 4294967296))).alloc _).alloc _
  · go_enter Tryz.func17, Tryz.ntmps17
    go_wp2_with fail
    refine (there_any _ n cp xs c HN.out _).mono ?_
    rw [HT.out]
    rintro e w1 ⟨rfl, hw1⟩
    obtain rfl := hw1.symm
    go_wp2
    refine post_row_tmp (P := Tryz.prog) Tryz.results17 (t := 33) (g := w.heap.size + 1) (cs := #[.int .i64 4, .int .i64 c, .int .u32 x, .int .u32 y, .int .u32 v]) rfl ?_ Tryz.underlying33 rfl (by kernel_rfl) rfl ⟨rfl, ?_, ?_⟩
    · have e2 := Row.new2 (w.setCell ⟨g, c.toNat, none⟩ (.int .u32 x)) (Obj.cells #[.int .i64 4, .int .i64 c, .int .u32 x, .int .u32 y, .int .u32 v] 33) 33 #[.int .i64 4, .int .i64 c, .int .u32 x, .int .u32 y, .int .u32 v]
      simpa using e2
    · (repeat' (first | (with_reducible exact Only.refl _ _) | (with_reducible assumption) | (with_reducible refine Only.setCell ?_ ?_ _) | (with_reducible refine Only.drewN ?_ _) | (with_reducible refine Only.drew ?_) | (with_reducible refine Only.alloc ?_ _) | (left; simp; done) | (left; simp; omega) | (right; rfl)))
    · rw [show leftOf 4 x y v = x by simp [leftOf]]
      exact ((HR.out.set c.toNat (.int .u32 x)).alloc _).alloc _
  · by_cases he : v = x
    · have hb := beq_iff_eq.2 he
      have HE := Lib.hid he
      clear he
      go_enter Tryz.func17, Tryz.ntmps17
      go_wp2_with fail
      refine (there_any _ n cp xs c HN.out _).mono ?_
      rw [HT.out]
      rintro e w1 ⟨rfl, hw1⟩
      obtain rfl := hw1.symm
      go_wp2
      refine post_row_tmp (P := Tryz.prog) Tryz.results17 (t := 33) (g := w.heap.size + 1) (cs := #[.int .i64 5, .int .i64 c, .int .u32 x, .int .u32 y, .int .u32 v]) rfl ?_ Tryz.underlying33 rfl (by kernel_rfl) rfl ⟨rfl, ?_, ?_⟩
      · have e2 := Row.new2 (w.setCell ⟨g, c.toNat, none⟩ (.int .u32 y)) (Obj.cells #[.int .i64 5, .int .i64 c, .int .u32 x, .int .u32 y, .int .u32 v] 33) 33 #[.int .i64 5, .int .i64 c, .int .u32 x, .int .u32 y, .int .u32 v]
        simpa using e2
      · (repeat' (first | (with_reducible exact Only.refl _ _) | (with_reducible assumption) | (with_reducible refine Only.setCell ?_ ?_ _) | (with_reducible refine Only.drewN ?_ _) | (with_reducible refine Only.drew ?_) | (with_reducible refine Only.alloc ?_ _) | (left; simp; done) | (left; simp; omega) | (right; rfl)))
      · rw [show leftOf 5 x y v = y by simp [leftOf, HE.out]]
        exact ((HR.out.set c.toNat (.int .u32 y)).alloc _).alloc _
    · have hb := beq_eq_false_iff_ne.2 he
      have HE := Lib.hid he
      clear he
      go_enter Tryz.func17, Tryz.ntmps17
      go_wp2_with fail
      refine (there_any _ n cp xs c HN.out _).mono ?_
      rw [HT.out]
      rintro e w1 ⟨rfl, hw1⟩
      obtain rfl := hw1.symm
      go_wp2
      refine post_row_tmp (P := Tryz.prog) Tryz.results17 (t := 33) (g := w.heap.size + 1) (cs := #[.int .i64 5, .int .i64 c, .int .u32 x, .int .u32 y, .int .u32 v]) rfl ?_ Tryz.underlying33 rfl (by kernel_rfl) rfl ⟨rfl, ?_, ?_⟩
      · exact Row.new2 _ _ _ _
      · (repeat' (first | (with_reducible exact Only.refl _ _) | (with_reducible assumption) | (with_reducible refine Only.setCell ?_ ?_ _) | (with_reducible refine Only.drewN ?_ _) | (with_reducible refine Only.drew ?_) | (with_reducible refine Only.alloc ?_ _) | (left; simp; done) | (left; simp; omega) | (right; rfl)))
      · rw [show leftOf 5 x y v = v by simp [leftOf, HE.out], set_self HV.out]
        exact (HR.out.alloc _).alloc _
theorem refdo_any (base : Nat) (A : Option Addr) (n cp : Nat) (xs : List Int) (k c x y o : Int) (w : World) (h : Own w base A cp xs) (hn : xs.length = n) :
    Calls Tryz.prog 17 #[.slice A n cp, .agg #[.int .i64 k, .int .i64 c, .int .u32 x, .int .u32 y, .int .u32 o]] w fun e w' =>
      e = .returned (.tuple #[doVal xs k c x y, .bool (doOk xs k c)]) ∧ Only (At A) w w' ∧ Own w' base A cp (doNew xs k c x y) := by
  cases hk : doOk xs k c
  · refine (refdo_not A n cp xs k c x y o w hn hk).mono fun e w' ⟨he, hO⟩ => ⟨by rw [he]; simp [doVal, hk, accOf], hO.mono (fun _ _ hj => hj.elim), ?_⟩
    rw [show doNew xs k c x y = xs by simp [doNew, hk]]
    exact h.only hO (fun _ _ => id)
  · have hk2 := hk
    simp only [doOk, Bool.and_eq_true] at hk2
    obtain ⟨ht, hik⟩ := hk2
    have ht2 := ht
    simp only [there, decide_eq_true_eq] at ht2
    obtain ⟨g, cur, rfl, hb, hr, hcell, hset⟩ := h.row (i := c.toNat) (by omega)
    rw [show xs.getD c.toNat 0 = wordAt xs c by simp [wordAt, ht]] at hcell
    refine (refdo_ok g n cp cur xs k c x y o w hn hr ht hik hcell).mono fun e w' ⟨he, hO, hR⟩ => ⟨by rw [he]; simp [doVal, hk, accOf], hO.mono (fun _ _ hj => ⟨_, rfl, hj.symm⟩), ?_⟩
    rw [show doNew xs k c x y = xs.set c.toNat (leftOf k x y (wordAt xs c)) by simp [doNew, hk]]
    exact hset _ _ hR
end Go.Proofs.YtlepokgagickmaaGreat
namespace Go.Proofs.YtlepokgagickmaaGreat
open Go.RowKit
def sameN (k c x y k' c' x' y' : Int) : Bool := k == k' && (c == c' && (x == x' && y == y'))
theorem sameN_iff {k c x y k' c' x' y' : Int} : sameN k c x y k' c' x' y' = true ↔ k = k' ∧ c = c' ∧ x = x' ∧ y = y' := by
  simp [sameN]
theorem neq_note (k c x y k' c' x' y' : Int) (W : World) : (binOp .neq 50 (.agg #[.int .i64 k, .int .i64 c, .int .i64 x, .int .i64 y]) (.agg #[.int .i64 k', .int .i64 c', .int .i64 x', .int .i64 y'])).run Tryz.prog W = .ok (.bool (!sameN k c x y k' c' x' y')) W := by
  simp [go_sem, sameN]
  by_cases h1 : k = k' <;> by_cases h2 : c = c' <;> by_cases h3 : x = x' <;> by_cases h4 : y = y' <;> simp [h1, h2, h3, h4]
end Go.Proofs.YtlepokgagickmaaGreat
set_option linter.unusedVariables false
set_option linter.unusedSimpArgs false
namespace Go.Proofs.YtlepokgagickmaaGreat
open Go.RowKit
theorem same_notes (v1 v2 : Value) (zs : List Nt) (w : World) (h1 : ListN w v1 zs) (h2 : ListN w v2 zs) (hm : zs.length ≤ 1048576) :
    Calls Tryz.prog 22 #[v1, v2] w fun e w' => e = .returned (.bool true) ∧ Only Nil w w' := by
  obtain ⟨A1, c1, rfl, hn1⟩ := h1
  obtain ⟨A2, c2, rfl, hn2⟩ := h2
  have H1 := Lib.hid hn1
  have H2 := Lib.hid hn2
  generalize hn : zs.length = n at *
  have HN := Lib.hid hn
  have q0 : (n : Int) ≤ 9223372036854775806 := by omega
  clear hn1 hn2 hn hm
  go_enter Tryz.func22, Tryz.ntmps22
  go_wp2
  go_loopw [5] (fun i wr => ∃ k : Nat, k ≤ n ∧ i = .int .i64 k ∧ Hid (Drew w wr)) (fun i _ => n - (intOf i).toNat)
  case atStart => exact ⟨0, Nat.zero_le _, rfl, Lib.hid (Drew.refl _)⟩
  case round =>
    obtain ⟨k, hk, rfl, HD⟩ := hrel
    by_cases hlt : k < n
    · have q1 : (k : Int) < n := by omega
      have HLT := Lib.hid hlt
      obtain ⟨z, hzk⟩ : ∃ z, zs[k]? = some z := ⟨_, List.getElem?_eq_getElem (by rw [HN.out]; exact hlt)⟩
      obtain ⟨b, q, rfl, hb, hat⟩ := (H1.out.only HD.out.only) (by rw [HN.out]; omega)
      obtain ⟨b', q', rfl, hb', hat'⟩ := (H2.out.only HD.out.only) (by rw [HN.out]; omega)
      obtain ⟨f0, f1, f2, f3⟩ := hat k z hzk
      obtain ⟨g0, g1, g2, g3⟩ := hat' k z hzk
      have hq := fun W => (neq_note z.t z.w z.o z.a z.t z.w z.o z.a W).trans (by rw [sameN_iff.2 ⟨rfl, rfl, rfl, rfl⟩])
      clear hat hat' hzk
      go_wp2
      go_quiet (fail)
      go_wp2
      exact ⟨⟨k + 1, by have := HLT.out; omega, by go_num, Lib.hid (HD.out.trans (Drew.n _ _))⟩, by have := HLT.out; simp [intOf]; omega⟩
    · obtain rfl : k = n := by omega
      clear hlt hk
      go_wp2
      go_ret
      exact ⟨rfl, HD.out.only⟩
end Go.Proofs.YtlepokgagickmaaGreat
set_option linter.unusedVariables false
set_option linter.unusedSimpArgs false
namespace Go.Proofs.YtlepokgagickmaaGreat
open Go.RowKit
section
variable {mode kind : Int} {k : Nat} {m : MV}
theorem idle_free (h : WdI mode k m) {t : Nat} (ht : t < k) (h0 : (m.rs t).op = 0) : (m.at t).stuck = false := chk_stuck.free (m.at t) (h.idle t ht h0)
theorem step_args {m' : MV} (h' : WdI mode k m') {t : Nat} (ht : t < k) (told : List Nt) (hl : ∀ n ∈ told, n.a = 0) : ∀ n ∈ (stepE (linesI kind) m' t told).ns, n.a ≠ 3 := by
  have H := h'.next (kind := kind) ht
  have h1 := H.2.2.2.2.2.1
  have h2 := H.1.2.2.2.2.2.1
  unfold stepE stepNs
  dsimp only
  intro n hn
  split at hn
  · rcases List.mem_append.1 hn with hn | hn
    · rcases List.mem_append.1 hn with hn | hn
      · have := hl n hn; omega
      · have := h1 n hn; omega
    · rw [List.mem_singleton.1 hn]
      show ((m'.at t).next (linesI kind)).ret ≠ 3
      omega
  · rcases List.mem_append.1 hn with hn | hn
    · have := hl n hn; omega
    · have := h1 n hn; omega
theorem skip_case (h : WdI mode k m) (t o : Int) :
    (eventW (linesI kind) k m t o = ev0 ∧ pickW (linesI kind) k m t o = m) ∨
    ((0 ≤ t ∧ t < k) ∧ (m.at t.toNat).stuck = false ∧ ((∃ n1 n2, eventW (linesI kind) k m t o = ⟨true, acc0, [n1, n2]⟩ ∧ n2.a = 3 ∧ pickW (linesI kind) k m t o = m) ∨ ((eventW (linesI kind) k m t o).ran = true ∧ ∀ n ∈ (eventW (linesI kind) k m t o).ns, n.a ≠ 3))) := by
  unfold eventW pickW
  by_cases ht : 0 ≤ t ∧ t < k
  · rw [if_pos ht, if_pos ht]
    have ht' : t.toNat < k := by omega
    unfold pickE pickI
    by_cases h0 : (m.rs t.toNat).op = 0
    · rw [if_pos h0, if_pos h0]
      by_cases ho : 1 ≤ o ∧ o ≤ 8
      · rw [if_pos ho, if_pos ho]
        refine .inr ⟨ht, idle_free h ht' h0, ?_⟩
        by_cases hm : mayI o (m.hold t.toNat) = true
        · rw [if_pos hm]
          exact .inr ⟨rfl, step_args (h.start ht' ho) ht' _ (fun n hn => by rw [List.mem_singleton.1 hn])⟩
        · rw [if_neg hm, if_neg hm]
          exact .inl ⟨_, _, rfl, rfl, rfl⟩
      · rw [if_neg ho, if_neg ho]
        exact .inl ⟨rfl, rfl⟩
    · rw [if_neg h0, if_neg h0]
      cases hs : (m.at t.toNat).stuck
      · rw [if_neg Bool.false_ne_true, if_neg Bool.false_ne_true]
        exact .inr ⟨ht, rfl, .inr ⟨rfl, step_args h ht' _ (fun n hn => by simp at hn)⟩⟩
      · exact .inl ⟨rfl, rfl⟩
  · rw [if_neg ht, if_neg ht]
    exact .inl ⟨rfl, rfl⟩
end
end Go.Proofs.YtlepokgagickmaaGreat
set_option linter.unusedVariables false
set_option linter.unusedSimpArgs false
namespace Go.Proofs.YtlepokgagickmaaGreat
open Go.RowKit
def stkI (m : MV) (k : Nat) (t : Int) : Bool := if 0 ≤ t ∧ t < k then (m.at t.toNat).stuck else false
theorem woStuck_all (g gt b : Nat) (A : Option Addr) (cp : Nat) (kind mode : Int) (k : Nat) (t : Int) (m : MV) (W : World) (h : WdP W g gt b A cp kind mode k m) (hi : WdI mode k m) :
    Calls Tryz.prog 14 #[.pointer (some ⟨g, 0, none⟩), .int .i64 t] W fun e w' => e = .returned (.bool (stkI m k t)) ∧ Only (At A) W w' ∧ WdP w' g gt b A cp kind mode k m := by
  unfold stkI
  by_cases ht : 0 ≤ t ∧ t < k
  · rw [if_pos ht]
    obtain ⟨i, rfl⟩ : ∃ i : Nat, t = i := ⟨t.toNat, by omega⟩
    exact woStuck_in g gt b A cp kind mode k i m W h hi (by omega)
  · rw [if_neg ht]
    refine (woStuck_out _ t W ?_).mono fun e w' ⟨he, hw⟩ => ⟨he, hw ▸ Only.refl _ _, hw ▸ h⟩
    have := woHas_any g gt b A cp kind mode k m t W h
    rwa [decide_eq_false ht] at this
end Go.Proofs.YtlepokgagickmaaGreat
