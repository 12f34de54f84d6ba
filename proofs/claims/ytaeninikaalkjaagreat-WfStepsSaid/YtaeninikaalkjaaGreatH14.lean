import Derived.Test.YtaeninikaalkjaaGreatH7
import Derived.Test.YtaeninikaalkjaaGreatH13
import Derived.Test.YtaeninikaalkjaaGreatH6
import Derived.Test.YtaeninikaalkjaaGreatH12
import Derived.Test.YtaeninikaalkjaaGreatH1
set_option linter.unusedVariables false
set_option linter.unusedSimpArgs false
namespace Go.Proofs.YtaeninikaalkjaaGreat
open Go.RowKit
structure WB (w : World) (B : Nat) (p A : Option Addr) (cp : Nat) (nv : Value) (g : Nat) (c : Int) (fv : Value) (r : LS) (s3 s4 : Bool) : Prop where
  run : RunP w B p A cp nv r
  r0 : Row w g 35 #[.pointer (some ⟨B, 0, none⟩)]
  r1 : Row w (g + 1) 3 #[.int .i64 c]
  r2 : Row w (g + 2) 95 #[fv]
  r3 : Row w (g + 3) 4 #[.bool s3]
  r4 : Row w (g + 4) 4 #[.bool s4]
def Wd (B : Nat) (A : Option Addr) (g : Nat) : Nat → Prop := fun j => TurnB B A j ∨ j = g + 3 ∨ j = g + 4
theorem memo_not {w : World} {p A : Option Addr} {cp : Nat} {xs : List Int} {j : Nat} {t : TypeId} {cs : Array Value} (h : Memo w p A cp xs) (hr : Row w j t cs) (h1 : t ≠ 60) (h2 : t ≠ 23) : ¬ (At p j ∨ At A j) := fun hj => by
  obtain ⟨t', cs', hr', ht⟩ := memo_tag h hj
  have e := (hr.same hr').1
  rcases ht with rfl | rfl
  · exact h1 e
  · exact h2 e
theorem ownN_not {base : Nat} {w : World} {v : Value} {zs : List Nt} {i : Nat} {t : TypeId} {cs : Array Value} (h : OwnN base w v zs) (hr : Row w i t cs) (h1 : t ≠ 85) : v.ownBlock ≠ some i := fun hi => by
  obtain ⟨cur, hc⟩ := ownN_tag h hi
  exact h1 (hr.same hc).1
section
variable {w w' w0 : World} {B : Nat} {p A : Option Addr} {cp : Nat} {nv : Value} {g : Nat} {c : Int} {fv : Value} {r r' : LS} {s3 s4 : Bool} {ys : List Int} {S : Nat → Prop}
theorem WB.call (h : WB w B p A cp nv g c fv r s3 s4) (ho : Only (At A) w w') (hm : Memo w' p A cp ys) : WB w' B p A cp nv g c fv { r with xs := ys } s3 s4 :=
  ⟨h.run.call ho hm, h.r0.only ho (fun e => memo_not h.run.memo h.r0 (by decide) (by decide) (.inr e)), h.r1.only ho (fun e => memo_not h.run.memo h.r1 (by decide) (by decide) (.inr e)), h.r2.only ho (fun e => memo_not h.run.memo h.r2 (by decide) (by decide) (.inr e)), h.r3.only ho (fun e => memo_not h.run.memo h.r3 (by decide) (by decide) (.inr e)), h.r4.only ho (fun e => memo_not h.run.memo h.r4 (by decide) (by decide) (.inr e))⟩
theorem WB.keep (h : WB w B p A cp nv g c fv r s3 s4) (ho : Only Nil w w') : WB w' B p A cp nv g c fv r s3 s4 := h.call (ho.mono (fun _ _ h => h.elim)) (h.run.memo.keep ho)
theorem WB.turn (h : WB w B p A cp nv g c fv r s3 s4) (ho : Only (· = B) w w') (hr : RunP w' B p A cp nv r') : WB w' B p A cp nv g c fv r' s3 s4 :=
  ⟨hr, h.r0.only ho (row_ne h.r0 h.run.row (by decide)), h.r1.only ho (row_ne h.r1 h.run.row (by decide)), h.r2.only ho (row_ne h.r2 h.run.row (by decide)), h.r3.only ho (row_ne h.r3 h.run.row (by decide)), h.r4.only ho (row_ne h.r4 h.run.row (by decide))⟩
theorem WB.far (h : WB w B p A cp nv g c fv r s3 s4) {q : Nat} {t : TypeId} {cs : Array Value} (hq : Row w q t cs) (ho : Only (· = q) w w') (hB : B ≠ q) (hm : t ≠ 60) (hu : t ≠ 23) (hn : t ≠ 85) (h0 : ∀ i, i < 5 → q ≠ g + i) : WB w' B p A cp nv g c fv r s3 s4 :=
  ⟨h.run.apart ho hB (fun j hj e => by subst e; exact memo_not h.run.memo hq hm hu hj) (fun i hi e => by subst e; exact ownN_not h.run.notes hq hn hi),
    h.r0.only ho (fun e => h0 0 (by decide) e.symm), h.r1.only ho (fun e => h0 1 (by decide) e.symm), h.r2.only ho (fun e => h0 2 (by decide) e.symm), h.r3.only ho (fun e => h0 3 (by decide) e.symm), h.r4.only ho (fun e => h0 4 (by decide) e.symm)⟩
theorem WB.set3 (h : WB w B p A cp nv g c fv r s3 s4) (b : Bool) : WB (w.setCell ⟨g + 3, 0, none⟩ (.bool b)) B p A cp nv g c fv r b s4 := by
  have ho := (Only.refl (· = g + 3) w).setCell (p := ⟨g + 3, 0, none⟩) (.inr rfl) (.bool b)
  exact ⟨h.run.apart ho (row_ne h.run.row h.r3 (by decide)) (fun j hj e => by subst e; exact memo_not h.run.memo h.r3 (by decide) (by decide) hj) (fun i hi e => by subst e; exact ownN_not h.run.notes h.r3 (by decide) hi),
    h.r0.only ho (fun e => by omega), h.r1.only ho (fun e => by omega), h.r2.only ho (fun e => by omega), h.r3.set 0 _, h.r4.only ho (fun e => by omega)⟩
theorem WB.set4 (h : WB w B p A cp nv g c fv r s3 s4) (b : Bool) : WB (w.setCell ⟨g + 4, 0, none⟩ (.bool b)) B p A cp nv g c fv r s3 b := by
  have ho := (Only.refl (· = g + 4) w).setCell (p := ⟨g + 4, 0, none⟩) (.inr rfl) (.bool b)
  exact ⟨h.run.apart ho (row_ne h.run.row h.r4 (by decide)) (fun j hj e => by subst e; exact memo_not h.run.memo h.r4 (by decide) (by decide) hj) (fun i hi e => by subst e; exact ownN_not h.run.notes h.r4 (by decide) hi),
    h.r0.only ho (fun e => by omega), h.r1.only ho (fun e => by omega), h.r2.only ho (fun e => by omega), h.r3.only ho (fun e => by omega), h.r4.set 0 _⟩
theorem RunP.setS {w : World} {B : Nat} {p A : Option Addr} {cp : Nat} {nv : Value} {r : LS} (h : RunP w B p A cp nv r) (v : Int) : RunP (w.setCell ⟨B, 8, none⟩ (.int .i64 v)) B p A cp nv { r with s := v } :=
  h.turn ((Only.refl (· = B) w).setCell (p := ⟨B, 8, none⟩) (.inr rfl) _) (h.row.set 8 (.int .i64 v)) rfl rfl
theorem WB.setS (h : WB w B p A cp nv g c fv r s3 s4) (v : Int) : WB (w.setCell ⟨B, 8, none⟩ (.int .i64 v)) B p A cp nv g c fv { r with s := v } s3 s4 :=
  h.turn ((Only.refl (· = B) w).setCell (p := ⟨B, 8, none⟩) (.inr rfl) _) (h.run.setS v)
theorem WB.held (h : WB w B p A cp nv g c fv r s3 s4) : w.cell? ⟨g, 0, none⟩ = some (.pointer (some ⟨B, 0, none⟩)) ∧ w.cell? ⟨B, 0, none⟩ = some (.pointer p) ∧ w.cell? ⟨B, 1, none⟩ = some (.int .i64 r.n) ∧ w.cell? ⟨B, 2, none⟩ = some (.int .i64 r.mode) ∧ w.cell? ⟨B, 3, none⟩ = some (.int .i64 r.task) ∧ w.cell? ⟨B, 8, none⟩ = some (.int .i64 r.s) ∧ w.cell? ⟨g + 1, 0, none⟩ = some (.int .i64 c) ∧ w.cell? ⟨g + 2, 0, none⟩ = some fv :=
  ⟨h.r0.cell_ (i := 0) rfl, h.run.row.cell_ (i := 0) rfl, h.run.row.cell_ (i := 1) rfl, h.run.row.cell_ (i := 2) rfl, h.run.row.cell_ (i := 3) rfl, h.run.row.cell_ (i := 8) rfl, h.r1.cell_ (i := 0) rfl, h.r2.cell_ (i := 0) rfl⟩
end
theorem Row.at {w : World} {t : TypeId} {cs : Array Value} {k : Nat} (h : w.heap.size = k) : Row (w.alloc (.cells cs t)) k t cs := by subst h; exact Row.new w t cs
end Go.Proofs.YtaeninikaalkjaaGreat
set_option linter.unusedVariables false
set_option linter.unusedSimpArgs false
namespace Go.Proofs.YtaeninikaalkjaaGreat
open Go.RowKit
theorem rbegin_any (mode c : Int) (w : World) : Calls Tryz.prog 75 #[.int .i64 mode, .int .i64 c] w fun e w' => e = .returned (beginI mode c).v ∧ Only Nil w w' := by
  by_cases hm : mode = 2
  · subst hm
    rw [beginI_2]
    go_enter Tryz.func75, Tryz.ntmps75
    go_wp2
    exact post_row (P := Tryz.prog) Tryz.results75 (t := 27) (by rfl) ((Row.new _ _ _).alloc _) Tryz.underlying27 rfl (by kernel_rfl) rfl ⟨rfl, ((Only.refl _ _).alloc _).alloc _⟩
  · rw [beginI_no hm]
    have h2 : (mode == 2) = false := beq_eq_false_iff_ne.2 hm
    clear hm
    go_enter Tryz.func75, Tryz.ntmps75
    go_wp2
    exact post_row (P := Tryz.prog) Tryz.results75 (t := 27) (by rfl) ((Row.new _ _ _).alloc _) Tryz.underlying27 rfl (by kernel_rfl) rfl ⟨rfl, ((Only.refl _ _).alloc _).alloc _⟩
end Go.Proofs.YtaeninikaalkjaaGreat
set_option linter.unusedVariables false
set_option linter.unusedSimpArgs false
namespace Go.Proofs.YtaeninikaalkjaaGreat
open Go.RowKit
theorem there_any (A : Option Addr) (n cap : Nat) (xs : List Int) (c : Int) (hn : xs.length = n) (w : World) :
    Calls Tryz.prog 73 #[.slice A n cap, .int .i64 c] w fun e w' => e = .returned (.bool (there xs c)) ∧ w' = w := by
  have HN := Lib.hid hn
  clear hn
  by_cases h0 : 0 ≤ c
  · go_enter Tryz.func73, Tryz.ntmps73
    go_wp2
    go_ret
    exact ⟨by simp [there, HN.out, h0], rfl⟩
  · go_enter Tryz.func73, Tryz.ntmps73
    go_wp2
    go_ret
    have hf : there xs c = false := by
      have : ¬ (0 ≤ c ∧ c < xs.length) := by omega
      simp [there, this]
    exact ⟨by simp [hf], rfl⟩
end Go.Proofs.YtaeninikaalkjaaGreat
namespace Go.Proofs.YtaeninikaalkjaaGreat
open Go.RowKit
theorem refdo_not (A : Option Addr) (n cp : Nat) (xs : List Int) (k c x y o : Int) (w : World) (hn : xs.length = n) (hk : doOk xs k c = false) :
    Calls Tryz.prog 71 #[.slice A n cp, .agg #[.int .i64 k, .int .i64 c, .int .u32 x, .int .u32 y, .int .u32 o]] w fun e w' =>
      e = .returned (.tuple #[.agg #[.int .i64 0, .int .i64 0, .int .u32 0, .int .u32 0, .int .u32 0], .bool false]) ∧ Only Nil w w' := by
  have hcase : there xs c = false ∨ (there xs c = true ∧ k < 1) ∨ (there xs c = true ∧ ¬ k < 1 ∧ 5 < k) := by
    cases ht : there xs c
    · exact .inl rfl
    · simp only [doOk, ht, Bool.true_and, isKind, decide_eq_false_iff_not] at hk
      have : k < 1 ∨ (¬ k < 1 ∧ 5 < k) := by omega
      rcases this with h | h
      · exact .inr (.inl ⟨rfl, h⟩)
      · exact .inr (.inr ⟨rfl, h⟩)
  clear hk
  have HN := Lib.hid hn
  clear hn
  rcases hcase with ht | ⟨ht, h1⟩ | ⟨ht, h1, h2⟩
  all_goals
    have HT := Lib.hid ht
    clear ht
    go_enter Tryz.func71, Tryz.ntmps71
    go_wp2_with fail
    refine (there_any A n cp xs c HN.out _).mono ?_
    rw [HT.out]
    rintro e w1 ⟨rfl, rfl⟩
    go_wp2
    go_returns
    exact ⟨rfl, by (repeat' (first | (with_reducible exact Only.refl _ _) | (with_reducible assumption) | (with_reducible refine Only.setCell ?_ ?_ _) | (with_reducible refine Only.drewN ?_ _) | (with_reducible refine Only.drew ?_) | (with_reducible refine Only.alloc ?_ _) | (left; simp; done) | (left; simp; omega) | (right; rfl)))⟩
theorem set_self {cur : Array Value} {i : Nat} {u : Value} (h : cur[i]? = some u) : cur.setIfInBounds i u = cur := by
  obtain ⟨hi, rfl⟩ := Array.getElem?_eq_some_iff.1 h
  rw [Array.setIfInBounds_def, dif_pos hi]
  exact Array.set_getElem_self hi
set_option maxHeartbeats 800000 in
theorem refdo_ok (g n cp : Nat) (cur : Array Value) (xs : List Int) (k c x y o : Int) (w : World) (hn : xs.length = n) (hr : Row w g 23 cur) (ht : there xs c = true) (hk : isKind k = true) (hv : cur[c.toNat]? = some (.int .u32 (wordAt xs c))) :
    Calls Tryz.prog 71 #[.slice (some ⟨g, 0, none⟩) n cp, .agg #[.int .i64 k, .int .i64 c, .int .u32 x, .int .u32 y, .int .u32 o]] w fun e w' =>
      e = .returned (.tuple #[.agg #[.int .i64 k, .int .i64 c, .int .u32 x, .int .u32 y, .int .u32 (wordAt xs c)], .bool true]) ∧ Only (· = g) w w' ∧ Row w' g 23 (cur.setIfInBounds c.toNat (.int .u32 (leftOf k x y (wordAt xs c)))) := by
  have HN := Lib.hid hn
  have HT := Lib.hid ht
  have hc0 : 0 ≤ c ∧ c < (n : Int) := by have e := HT.out; simp only [there, decide_eq_true_eq] at e; omega
  obtain ⟨hc0, hc1⟩ := hc0
  have hglt := hr.lt
  have hcell := hr.cell_ hv
  have hfro := hr.frozen c.toNat
  have HR := Lib.hid hr
  have HV := Lib.hid hv
  clear hr hv hn ht
  generalize hw : wordAt xs c = v at *
  have HW := Lib.hid hw
  clear hw
  have hcase : k = 1 ∨ k = 2 ∨ k = 3 ∨ k = 4 ∨ k = 5 := by simp only [isKind, decide_eq_true_eq] at hk; omega
  clear hk
  rcases hcase with rfl | rfl | rfl | rfl | rfl
  · go_enter Tryz.func71, Tryz.ntmps71
    go_wp2_with fail
    refine (there_any _ n cp xs c HN.out _).mono ?_
    rw [HT.out]
    rintro e w1 ⟨rfl, hw1⟩
    obtain rfl := hw1.symm
    go_wp2
    refine post_row_tmp (P := Tryz.prog) Tryz.results71 (t := 39) (g := w.heap.size + 1) (cs := #[.int .i64 1, .int .i64 c, .int .u32 x, .int .u32 y, .int .u32 v]) rfl ?_ Tryz.underlying39 rfl (by kernel_rfl) rfl ⟨rfl, ?_, ?_⟩
    · exact Row.new2 _ _ _ _
    · (repeat' (first | (with_reducible exact Only.refl _ _) | (with_reducible assumption) | (with_reducible refine Only.setCell ?_ ?_ _) | (with_reducible refine Only.drewN ?_ _) | (with_reducible refine Only.drew ?_) | (with_reducible refine Only.alloc ?_ _) | (left; simp; done) | (left; simp; omega) | (right; rfl)))
    · rw [show leftOf 1 x y v = v by simp [leftOf], set_self HV.out]
      exact (HR.out.alloc _).alloc _
  · go_enter Tryz.func71, Tryz.ntmps71
    go_wp2_with fail
    refine (there_any _ n cp xs c HN.out _).mono ?_
    rw [HT.out]
    rintro e w1 ⟨rfl, hw1⟩
    obtain rfl := hw1.symm
    go_wp2
    refine post_row_tmp (P := Tryz.prog) Tryz.results71 (t := 39) (g := w.heap.size + 1) (cs := #[.int .i64 2, .int .i64 c, .int .u32 x, .int .u32 y, .int .u32 v]) rfl ?_ Tryz.underlying39 rfl (by kernel_rfl) rfl ⟨rfl, ?_, ?_⟩
    · have e2 := Row.new2 (w.setCell ⟨g, c.toNat, none⟩ (.int .u32 x)) (Obj.cells #[.int .i64 2, .int .i64 c, .int .u32 x, .int .u32 y, .int .u32 v] 39) 39 #[.int .i64 2, .int .i64 c, .int .u32 x, .int .u32 y, .int .u32 v]
      simpa using e2
    · (repeat' (first | (with_reducible exact Only.refl _ _) | (with_reducible assumption) | (with_reducible refine Only.setCell ?_ ?_ _) | (with_reducible refine Only.drewN ?_ _) | (with_reducible refine Only.drew ?_) | (with_reducible refine Only.alloc ?_ _) | (left; simp; done) | (left; simp; omega) | (right; rfl)))
    · rw [show leftOf 2 x y v = x by simp [leftOf]]
      exact ((HR.out.set c.toNat (.int .u32 x)).alloc _).alloc _
  · go_enter Tryz.func71, Tryz.ntmps71
    go_wp2_with fail
    refine (there_any _ n cp xs c HN.out _).mono ?_
    rw [HT.out]
    rintro e w1 ⟨rfl, hw1⟩
    obtain rfl := hw1.symm
    go_wp2
    refine post_row_tmp (P := Tryz.prog) Tryz.results71 (t := 39) (g := w.heap.size + 1) (cs := #[.int .i64 3, .int .i64 c, .int .u32 x, .int .u32 y, .int .u32 v]) rfl ?_ Tryz.underlying39 rfl (by kernel_rfl) rfl ⟨rfl, ?_, ?_⟩
    · have e2 := Row.new2 (w.setCell ⟨g, c.toNat, none⟩ (.int .u32 ((v + x) % 4294967296))) (Obj.cells #[.int .i64 3, .int .i64 c, .int .u32 x, .int .u32 y, .int .u32 v] 39) 39 #[.int .i64 3, .int .i64 c, .int .u32 x, .int .u32 y, .int .u32 v]
      simpa using e2
    · (repeat' (first | (with_reducible exact Only.refl _ _) | (with_reducible assumption) | (with_reducible refine Only.setCell ?_ ?_ _) | (with_reducible refine Only.drewN ?_ _) | (with_reducible refine Only.drew ?_) | (with_reducible refine Only.alloc ?_ _) | (left; simp; done) | (left; simp; omega) | (right; rfl)))
    · rw [show leftOf 3 x y v = (v + x) % 4294967296 by simp only [leftOf, if_true]; rw [Int.add_comm]]
      exact ((HR.out.set c.toNat (.int .u32 ((v + x) % 4294967296))).alloc _).alloc _
  · go_enter Tryz.func71, Tryz.ntmps71
    go_wp2_with fail
    refine (there_any _ n cp xs c HN.out _).mono ?_
    rw [HT.out]
    rintro e w1 ⟨rfl, hw1⟩
    obtain rfl := hw1.symm
    go_wp2
    refine post_row_tmp (P := Tryz.prog) Tryz.results71 (t := 39) (g := w.heap.size + 1) (cs := #[.int .i64 4, .int .i64 c, .int .u32 x, .int .u32 y, .int .u32 v]) rfl ?_ Tryz.underlying39 rfl (by kernel_rfl) rfl ⟨rfl, ?_, ?_⟩
    · have e2 := Row.new2 (w.setCell ⟨g, c.toNat, none⟩ (.int .u32 x)) (Obj.cells #[.int .i64 4, .int .i64 c, .int .u32 x, .int .u32 y, .int .u32 v] 39) 39 #[.int .i64 4, .int .i64 c, .int .u32 x, .int .u32 y, .int .u32 v]
      simpa using e2
    · (repeat' (first | (with_reducible exact Only.refl _ _) | (with_reducible assumption) | (with_reducible refine Only.setCell ?_ ?_ _) | (with_reducible refine Only.drewN ?_ _) | (with_reducible refine Only.drew ?_) | (with_reducible refine Only.alloc ?_ _) | (left; simp; done) | (left; simp; omega) | (right; rfl)))
    · rw [show leftOf 4 x y v = x by simp [leftOf]]
      exact ((HR.out.set c.toNat (.int .u32 x)).alloc _).alloc _
  · by_cases he : v = x
    · have hb := beq_iff_eq.2 he
      have HE := Lib.hid he
      clear he
      go_enter Tryz.func71, Tryz.ntmps71
      go_wp2_with fail
      refine (there_any _ n cp xs c HN.out _).mono ?_
      rw [HT.out]
      rintro e w1 ⟨rfl, hw1⟩
      obtain rfl := hw1.symm
      go_wp2
      refine post_row_tmp (P := Tryz.prog) Tryz.results71 (t := 39) (g := w.heap.size + 1) (cs := #[.int .i64 5, .int .i64 c, .int .u32 x, .int .u32 y, .int .u32 v]) rfl ?_ Tryz.underlying39 rfl (by kernel_rfl) rfl ⟨rfl, ?_, ?_⟩
      · have e2 := Row.new2 (w.setCell ⟨g, c.toNat, none⟩ (.int .u32 y)) (Obj.cells #[.int .i64 5, .int .i64 c, .int .u32 x, .int .u32 y, .int .u32 v] 39) 39 #[.int .i64 5, .int .i64 c, .int .u32 x, .int .u32 y, .int .u32 v]
        simpa using e2
      · (repeat' (first | (with_reducible exact Only.refl _ _) | (with_reducible assumption) | (with_reducible refine Only.setCell ?_ ?_ _) | (with_reducible refine Only.drewN ?_ _) | (with_reducible refine Only.drew ?_) | (with_reducible refine Only.alloc ?_ _) | (left; simp; done) | (left; simp; omega) | (right; rfl)))
      · rw [show leftOf 5 x y v = y by simp [leftOf, HE.out]]
        exact ((HR.out.set c.toNat (.int .u32 y)).alloc _).alloc _
    · have hb := beq_eq_false_iff_ne.2 he
      have HE := Lib.hid he
      clear he
      go_enter Tryz.func71, Tryz.ntmps71
      go_wp2_with fail
      refine (there_any _ n cp xs c HN.out _).mono ?_
      rw [HT.out]
      rintro e w1 ⟨rfl, hw1⟩
      obtain rfl := hw1.symm
      go_wp2
      refine post_row_tmp (P := Tryz.prog) Tryz.results71 (t := 39) (g := w.heap.size + 1) (cs := #[.int .i64 5, .int .i64 c, .int .u32 x, .int .u32 y, .int .u32 v]) rfl ?_ Tryz.underlying39 rfl (by kernel_rfl) rfl ⟨rfl, ?_, ?_⟩
      · exact Row.new2 _ _ _ _
      · (repeat' (first | (with_reducible exact Only.refl _ _) | (with_reducible assumption) | (with_reducible refine Only.setCell ?_ ?_ _) | (with_reducible refine Only.drewN ?_ _) | (with_reducible refine Only.drew ?_) | (with_reducible refine Only.alloc ?_ _) | (left; simp; done) | (left; simp; omega) | (right; rfl)))
      · rw [show leftOf 5 x y v = v by simp [leftOf, HE.out], set_self HV.out]
        exact (HR.out.alloc _).alloc _
theorem refdo_any (base : Nat) (A : Option Addr) (n cp : Nat) (xs : List Int) (k c x y o : Int) (w : World) (h : Own w base A cp xs) (hn : xs.length = n) :
    Calls Tryz.prog 71 #[.slice A n cp, .agg #[.int .i64 k, .int .i64 c, .int .u32 x, .int .u32 y, .int .u32 o]] w fun e w' =>
      e = .returned (.tuple #[doVal xs k c x y, .bool (doOk xs k c)]) ∧ Only (At A) w w' ∧ Own w' base A cp (doNew xs k c x y) := by
  cases hk : doOk xs k c
  · refine (refdo_not A n cp xs k c x y o w hn hk).mono fun e w' ⟨he, hO⟩ => ⟨by rw [he]; simp [doVal, hk, accOf], hO.mono (fun _ _ hj => hj.elim), ?_⟩
    rw [show doNew xs k c x y = xs by simp [doNew, hk]]
    exact h.only hO (fun _ _ => id)
  · have hk2 := hk
    simp only [doOk, Bool.and_eq_true] at hk2
    obtain ⟨ht, hik⟩ := hk2
    have ht2 := ht
    simp only [there, decide_eq_true_eq] at ht2
    obtain ⟨g, cur, rfl, hb, hr, hcell, hset⟩ := h.row (i := c.toNat) (by omega)
    rw [show xs.getD c.toNat 0 = wordAt xs c by simp [wordAt, ht]] at hcell
    refine (refdo_ok g n cp cur xs k c x y o w hn hr ht hik hcell).mono fun e w' ⟨he, hO, hR⟩ => ⟨by rw [he]; simp [doVal, hk, accOf], hO.mono (fun _ _ hj => ⟨_, rfl, hj.symm⟩), ?_⟩
    rw [show doNew xs k c x y = xs.set c.toNat (leftOf k x y (wordAt xs c)) by simp [doNew, hk]]
    exact hset _ _ hR
end Go.Proofs.YtaeninikaalkjaaGreat
set_option linter.unusedVariables false
set_option linter.unusedSimpArgs false
namespace Go.Proofs.YtaeninikaalkjaaGreat
open Go.RowKit
structure RunR (w : World) (B base : Nat) (A : Option Addr) (l cp : Nat) (nv : Value) (r : LS) : Prop where
  row : Row w B 46 (r.cells (.slice A l cp) nv)
  notes : OwnN 0 w nv r.ns
  own : Own w base A cp r.xs
  len : r.xs.length = l
def DoneR (B base : Nat) (A : Option Addr) (l cp : Nat) (w : World) (v : Value) (r : LS) (e : Ending) (w' : World) : Prop :=
  e = .returned v ∧ Only (TurnB B A) w w' ∧ ∃ nv, RunR w' B base A l cp nv r
section
variable {w w' : World} {B base : Nat} {A : Option Addr} {l cp : Nat} {nv : Value} {r r' : LS} {ys : List Int} {S : Nat → Prop}
theorem RunR.far (h : RunR w B base A l cp nv r) {j : Nat} (hj : At A j) : j ≠ B := by
  rintro rfl
  obtain ⟨cur, hc⟩ := own_tag h.own hj
  exact absurd (h.row.same hc).1 (by decide)
theorem RunR.farN (h : RunR w B base A l cp nv r) {i : Nat} (hi : nv.ownBlock = some i) : i ≠ B ∧ ¬ At A i := by
  obtain ⟨cur, hc⟩ := ownN_tag h.notes hi
  refine ⟨?_, fun hj => ?_⟩
  · rintro rfl
    exact absurd (h.row.same hc).1 (by decide)
  · obtain ⟨cs, hr⟩ := own_tag h.own hj
    exact absurd (hr.same hc).1 (by decide)
theorem RunR.call (h : RunR w B base A l cp nv r) (ho : Only (At A) w w') (hm : Own w' base A cp ys) (hl : ys.length = l) : RunR w' B base A l cp nv { r with xs := ys } :=
  ⟨h.row.only ho (fun e => h.far e rfl), own_only h.notes ho (fun i hi e => (h.farN hi).2 e), hm, hl⟩
theorem RunR.apart (h : RunR w B base A l cp nv r) (ho : Only S w w') (hb : ¬ S B) (hm : ∀ j, At A j → ¬ S j) (hn : ∀ i, nv.ownBlock = some i → ¬ S i) : RunR w' B base A l cp nv r :=
  ⟨h.row.only ho hb, own_only h.notes ho hn, h.own.only ho hm, h.len⟩
theorem RunR.keep (h : RunR w B base A l cp nv r) (ho : Only Nil w w') : RunR w' B base A l cp nv r := h.apart ho id (fun _ _ => id) (fun _ _ => id)
theorem RunR.turn (h : RunR w B base A l cp nv r) (ho : Only (· = B) w w') (hr : Row w' B 46 (r'.cells (.slice A l cp) nv)) (hn : r'.ns = r.ns) (hx : r'.xs = r.xs) : RunR w' B base A l cp nv r' :=
  ⟨hr, by rw [hn]; exact own_only h.notes ho (fun i hi => (h.farN hi).1), by rw [hx]; exact h.own.only ho (fun j hj => h.far hj), by rw [hx]; exact h.len⟩
theorem RunR.setAcc (h : RunR w B base A l cp nv r) (a : Acc5) :
    RunR (((((w.setCell ⟨B, 14, none⟩ (.int .i64 a.k)).setCell ⟨B, 15, none⟩ (.int .i64 a.c)).setCell ⟨B, 16, none⟩ (.int .u32 a.x)).setCell ⟨B, 17, none⟩ (.int .u32 a.y)).setCell ⟨B, 18, none⟩ (.int .u32 a.o)) B base A l cp nv { r with acc := a } :=
  h.turn (set_acc_only (Only.refl (· = B) _) rfl _ _ _ _ _) (set_acc_row h.row a) rfl rfl
theorem RunR.setRet (h : RunR w B base A l cp nv r) (v : Int) : RunR (w.setCell ⟨B, 13, none⟩ (.int .i64 v)) B base A l cp nv { r with ret := v } :=
  h.turn ((Only.refl (· = B) w).setCell (p := ⟨B, 13, none⟩) (.inr rfl) _) (h.row.set 13 (.int .i64 v)) rfl rfl
theorem RunR.setLine (h : RunR w B base A l cp nv r) (v : Int) : RunR (w.setCell ⟨B, 5, none⟩ (.int .i64 v)) B base A l cp nv (r.go v) :=
  h.turn ((Only.refl (· = B) w).setCell (p := ⟨B, 5, none⟩) (.inr rfl) _) (h.row.set 5 (.int .i64 v)) rfl rfl
theorem RunR.setS (h : RunR w B base A l cp nv r) (v : Int) : RunR (w.setCell ⟨B, 8, none⟩ (.int .i64 v)) B base A l cp nv { r with s := v } :=
  h.turn ((Only.refl (· = B) w).setCell (p := ⟨B, 8, none⟩) (.inr rfl) _) (h.row.set 8 (.int .i64 v)) rfl rfl
theorem RunR.setWake (h : RunR w B base A l cp nv r) (k : WkV) :
    RunR ((((w.setCell ⟨B, 9, none⟩ (.bool k.on)).setCell ⟨B, 10, none⟩ (.int .i64 k.c)).setCell ⟨B, 11, none⟩ (.int .i64 k.i)).setCell ⟨B, 12, none⟩ (.bool k.hit)) B base A l cp nv { r with k := k } :=
  h.turn (set_wake_only (Only.refl (· = B) w) rfl _ _ _ _) (set_wake_row h.row k) rfl rfl
theorem RunR.setNotes {v : Value} {zs : List Nt} (h : RunR w B base A l cp nv r) (hn : OwnN 0 w v zs) : RunR (w.setCell ⟨B, 19, none⟩ v) B base A l cp v { r with ns := zs } := by
  have ho := (Only.refl (· = B) w).setCell (p := ⟨B, 19, none⟩) (.inr rfl) v
  refine ⟨h.row.set 19 v, own_only hn ho (fun i hi => ?_), h.own.only ho (fun j hj => h.far hj), h.len⟩
  rintro rfl
  obtain ⟨cur, hc⟩ := ownN_tag hn hi
  exact absurd (h.row.same hc).1 (by decide)
end
set_option maxHeartbeats 1000000 in
theorem rdo_run (B base : Nat) (A : Option Addr) (l cp : Nat) (nv : Value) (r : LS) (k c x y : Int) (w : World) (h : RunR w B base A l cp nv r) (hk : isKind k = true) :
    Calls Tryz.prog 72 #[.pointer (some ⟨B, 0, none⟩), .int .i64 k, .int .i64 c, .int .u32 x, .int .u32 y] w fun e w' => e = .returned (.int .u32 (wordAt r.xs c)) ∧ Only (TurnB B A) w w' ∧ RunR w' B base A l cp nv (r.doA k c x y) := by
  have m0 : w.cell? ⟨B, 0, none⟩ = some (.slice A l cp) := h.row.cell_ (i := 0) rfl
  have HP := Lib.hid h
  have HW := Lib.hid (acc_old (xs := r.xs) (k := k) (c := c) (x := x) (y := y) hk)
  have HLN := Lib.hid ((doNew_len r.xs k c x y).trans h.len)
  have HD := Lib.hid (show r.doA k c x y = { r with acc := accI r.xs k c x y, xs := doNew r.xs k c x y } from rfl)
  have HV := Lib.hid (doVal_acc r.xs k c x y)
  clear h hk
  go_enter Tryz.func72, Tryz.ntmps72
  go_wp2_with fail
  clear m0
  refine (refdo_any base A l cp r.xs k c x y 0 _ HP.out.own HP.out.len).mono ?_
  rw [HV.out]
  clear HV
  generalize accI r.xs k c x y = ac at *
  rintro e w1 ⟨rfl, hO, hM⟩
  dsimp only [Acc5.v]
  have e0 := (Only.refl Nil w1).alloc (.cells #[.int .i64 ac.k, .int .i64 ac.c, .int .u32 ac.x, .int .u32 ac.y, .int .u32 ac.o] 39)
  have HP1 := Lib.hid ((HP.out.call hO hM HLN.out).keep e0)
  have HO1 := Lib.hid ((hO.turned2 (B := B)).alloc (.cells #[.int .i64 ac.k, .int .i64 ac.c, .int .u32 ac.x, .int .u32 ac.y, .int .u32 ac.o] 39))
  have HR1 := Lib.hid (Row.new w1 39 #[.int .i64 ac.k, .int .i64 ac.c, .int .u32 ac.x, .int .u32 ac.y, .int .u32 ac.o])
  have HBA := Lib.hid (show w1.heap.size ≠ B from fun e => by have := (HP.out.row.only hO (fun e => HP.out.far e rfl)).lt; omega)
  clear hO hM HP e0
  go_upto_region 2 with (fail)
  generalize w1.alloc (.cells #[.int .i64 ac.k, .int .i64 ac.c, .int .u32 ac.x, .int .u32 ac.y, .int .u32 ac.o] 39) = w2 at *
  generalize w1.heap.size = g at *
  have a0 : w2.cell? ⟨g, 0, none⟩ = some (.int .i64 ac.k) := HR1.out.cell_ (i := 0) rfl
  have a1 : w2.cell? ⟨g, 1, none⟩ = some (.int .i64 ac.c) := HR1.out.cell_ (i := 1) rfl
  have a2 : w2.cell? ⟨g, 2, none⟩ = some (.int .u32 ac.x) := HR1.out.cell_ (i := 2) rfl
  have a3 : w2.cell? ⟨g, 3, none⟩ = some (.int .u32 ac.y) := HR1.out.cell_ (i := 3) rfl
  have a4 : w2.cell? ⟨g, 4, none⟩ = some (.int .u32 ac.o) := HR1.out.cell_ (i := 4) rfl
  have b14 : w2.cell? ⟨B, 14, none⟩ = some (.int .i64 r.acc.k) := HP1.out.row.cell_ (i := 14) rfl
  have b15 : w2.cell? ⟨B, 15, none⟩ = some (.int .i64 r.acc.c) := HP1.out.row.cell_ (i := 15) rfl
  have b16 : w2.cell? ⟨B, 16, none⟩ = some (.int .u32 r.acc.x) := HP1.out.row.cell_ (i := 16) rfl
  have b17 : w2.cell? ⟨B, 17, none⟩ = some (.int .u32 r.acc.y) := HP1.out.row.cell_ (i := 17) rfl
  have b18 : w2.cell? ⟨B, 18, none⟩ = some (.int .u32 r.acc.o) := HP1.out.row.cell_ (i := 18) rfl
  have f14 : w2.frozen? ⟨B, 14, none⟩ = false := HP1.out.row.frozen 14
  have f15 : w2.frozen? ⟨B, 15, none⟩ = false := HP1.out.row.frozen 15
  have f16 : w2.frozen? ⟨B, 16, none⟩ = false := HP1.out.row.frozen 16
  have f17 : w2.frozen? ⟨B, 17, none⟩ = false := HP1.out.row.frozen 17
  have f18 : w2.frozen? ⟨B, 18, none⟩ = false := HP1.out.row.frozen 18
  go_upto_region 3 with (fail)
  clear a0 a1 a2 a3 a4 b14 b15 b16 b17 b18 f14 f15 f16 f17 f18
  have HP2 := Lib.hid (HP1.out.setAcc ac)
  have HO2 := Lib.hid (set_acc_only HO1.out (B := B) (.inl rfl) (.int .i64 ac.k) (.int .i64 ac.c) (.int .u32 ac.x) (.int .u32 ac.y) (.int .u32 ac.o))
  have HR2 := Lib.hid (HR1.out.only (set_acc_only (Only.refl (· = B) w2) rfl (.int .i64 ac.k) (.int .i64 ac.c) (.int .u32 ac.x) (.int .u32 ac.y) (.int .u32 ac.o)) HBA.out)
  clear HP1 HO1 HR1
  generalize (((((w2.setCell ⟨B, 14, none⟩ (.int .i64 ac.k)).setCell ⟨B, 15, none⟩ (.int .i64 ac.c)).setCell ⟨B, 16, none⟩ (.int .u32 ac.x)).setCell ⟨B, 17, none⟩ (.int .u32 ac.y)).setCell ⟨B, 18, none⟩ (.int .u32 ac.o)) = w3 at *
  have a4 : w3.cell? ⟨g, 4, none⟩ = some (.int .u32 ac.o) := HR2.out.cell_ (i := 4) rfl
  go_wp2
  go_ret
  exact ⟨by rw [← HW.out]; rfl, HO2.out, by rw [HD.out]; exact HP2.out⟩
section
variable (B base : Nat) (A : Option Addr) (l cp : Nat) (nv : Value) (r : LS) (c x y : Int) (w : World)
theorem rload_run (h : RunR w B base A l cp nv r) : Calls Tryz.prog 33 #[.pointer (some ⟨B, 0, none⟩), .int .i64 c] w (DoneR B base A l cp w (.int .u32 (wordAt r.xs c)) (r.doA 1 c 0 0)) := by
  go_enter Tryz.func33, Tryz.ntmps33
  go_wp2_with fail
  refine (rdo_run B base A l cp nv r 1 c 0 0 _ h rfl).mono ?_
  rintro e w1 ⟨rfl, hO, hP⟩
  have HO := Lib.hid hO
  have HP := Lib.hid hP
  clear hO hP h
  go_wp2
  go_ret
  exact ⟨rfl, HO.out, nv, HP.out⟩
theorem there_doNew (xs : List Int) (k a x y d : Int) : there (doNew xs k a x y) d = there xs d := by unfold there; rw [doNew_len]
theorem rcas_run (h : RunR w B base A l cp nv r) : Calls Tryz.prog 37 #[.pointer (some ⟨B, 0, none⟩), .int .i64 c, .int .u32 x, .int .u32 y] w (DoneR B base A l cp w (.bool (there r.xs c && (wordAt r.xs c == x))) (r.doA 5 c x y)) := by
  have HTT := Lib.hid (there_doNew r.xs 5 c x y c)
  cases hq : (wordAt r.xs c == x)
  · have HQ := Lib.hid hq
    clear hq
    rw [Bool.and_false]
    go_enter Tryz.func37, Tryz.ntmps37
    go_wp2_with fail
    refine (rdo_run B base A l cp nv r 5 c x y _ h rfl).mono ?_
    rintro e w1 ⟨rfl, hO, hP⟩
    have HO := Lib.hid hO
    have HP := Lib.hid hP
    have hq := HQ.out
    clear hO hP h
    generalize wordAt r.xs c = v at *
    go_wp2
    go_ret
    exact ⟨rfl, HO.out, nv, HP.out⟩
  · have HQ := Lib.hid hq
    clear hq
    rw [Bool.and_true]
    go_enter Tryz.func37, Tryz.ntmps37
    go_wp2_with fail
    refine (rdo_run B base A l cp nv r 5 c x y _ h rfl).mono ?_
    rintro e w1 ⟨rfl, hO, hP⟩
    have HO := Lib.hid hO
    have HP := Lib.hid hP
    have hq := HQ.out
    have m0 : w1.cell? ⟨B, 0, none⟩ = some (.slice A l cp) := hP.row.cell_ (i := 0) rfl
    have HLN := Lib.hid hP.len
    clear hO hP h
    generalize wordAt r.xs c = v at *
    go_wp2_with fail
    refine (there_any A l cp _ c HLN.out _).mono ?_
    rw [show there (r.doA 5 c x y).xs c = there r.xs c from HTT.out]
    rintro e w2 ⟨rfl, rfl⟩
    go_wp2
    go_ret
    exact ⟨rfl, HO.out, nv, HP.out⟩
end
theorem rwake_run (B base : Nat) (A : Option Addr) (l cp : Nat) (nv : Value) (r : LS) (c : Int) (w : World) (h : RunR w B base A l cp nv r) :
    Calls Tryz.prog 41 #[.pointer (some ⟨B, 0, none⟩), .int .i64 c] w (DoneR B base A l cp w (.tuple #[]) (r.wake c)) := by
  have c2 : w.cell? ⟨B, 2, none⟩ = some (.int .i64 r.mode) := h.row.cell_ (i := 2) rfl
  have HP := Lib.hid h
  clear h
  go_enter Tryz.func41, Tryz.ntmps41
  go_wp2_with fail
  clear c2
  refine (rbegin_any r.mode c _).mono ?_
  rintro e w1 ⟨rfl, hO⟩
  have HP1 := Lib.hid (HP.out.keep hO)
  have HO := Lib.hid (hO.mono (T := TurnB B A) (fun _ _ h => h.elim))
  clear hO HP
  have HD := Lib.hid (show r.wake c = { r with k := beginI r.mode c } from rfl)
  generalize beginI r.mode c = k at *
  dsimp only [WkV.v]
  have a9 : w1.cell? ⟨B, 9, none⟩ = some (.bool r.k.on) := HP1.out.row.cell_ (i := 9) rfl
  have a10 : w1.cell? ⟨B, 10, none⟩ = some (.int .i64 r.k.c) := HP1.out.row.cell_ (i := 10) rfl
  have a11 : w1.cell? ⟨B, 11, none⟩ = some (.int .i64 r.k.i) := HP1.out.row.cell_ (i := 11) rfl
  have a12 : w1.cell? ⟨B, 12, none⟩ = some (.bool r.k.hit) := HP1.out.row.cell_ (i := 12) rfl
  have f9 : w1.frozen? ⟨B, 9, none⟩ = false := HP1.out.row.frozen 9
  have f10 : w1.frozen? ⟨B, 10, none⟩ = false := HP1.out.row.frozen 10
  have f11 : w1.frozen? ⟨B, 11, none⟩ = false := HP1.out.row.frozen 11
  have f12 : w1.frozen? ⟨B, 12, none⟩ = false := HP1.out.row.frozen 12
  go_wp2
  clear a9 a10 a11 a12 f9 f10 f11 f12
  go_returns
  exact ⟨rfl, set_wake_only HO.out (.inl rfl) _ _ _ _, nv, by rw [HD.out]; exact HP1.out.setWake k⟩
end Go.Proofs.YtaeninikaalkjaaGreat
set_option linter.unusedVariables false
set_option linter.unusedSimpArgs false
namespace Go.Proofs.YtaeninikaalkjaaGreat
open Go.RowKit
def RowsL (w : World) (L : List (Nat × TypeId × Array Value)) : Prop := ∀ x ∈ L, Row w x.1 x.2.1 x.2.2
theorem RowsL.keep {w w' : World} {L : List (Nat × TypeId × Array Value)} (h : RowsL w L) (ho : Only Nil w w') : RowsL w' L := fun x hx => (h x hx).only ho id
theorem RowsL.cons {w : World} {L : List (Nat × TypeId × Array Value)} {g : Nat} {t : TypeId} {cs : Array Value} (h : RowsL w L) (hr : Row w g t cs) : RowsL w ((g, t, cs) :: L) := fun x hx => by
  rcases List.mem_cons.1 hx with rfl | hx
  · exact hr
  · exact h x hx
section
variable {w : World} {L : List (Nat × TypeId × Array Value)} {g g1 g2 g3 : Nat} {t t1 t2 t3 : TypeId} {v v1 v2 v3 : Value}
theorem RowsL.c0 (h : RowsL w ((g, t, #[v]) :: L)) : w.cell? ⟨g, 0, none⟩ = some v := (h _ (.head _)).one
theorem RowsL.c1 (h : RowsL w ((g1, t1, #[v1]) :: (g, t, #[v]) :: L)) : w.cell? ⟨g, 0, none⟩ = some v := (h _ (.tail _ (.head _))).one
theorem RowsL.c2 (h : RowsL w ((g1, t1, #[v1]) :: (g2, t2, #[v2]) :: (g, t, #[v]) :: L)) : w.cell? ⟨g, 0, none⟩ = some v := (h _ (.tail _ (.tail _ (.head _)))).one
theorem RowsL.c3 (h : RowsL w ((g1, t1, #[v1]) :: (g2, t2, #[v2]) :: (g3, t3, #[v3]) :: (g, t, #[v]) :: L)) : w.cell? ⟨g, 0, none⟩ = some v := (h _ (.tail _ (.tail _ (.tail _ (.head _))))).one
end
end Go.Proofs.YtaeninikaalkjaaGreat
