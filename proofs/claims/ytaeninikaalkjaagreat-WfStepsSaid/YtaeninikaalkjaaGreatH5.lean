import Derived.Test.YtaeninikaalkjaaGreatChecked
import Derived.Laws.AppendOwnNone
import Derived.Deep.OwnRows
import Derived.Test.YtaeninikaalkjaaGreatH4
import Derived.Test.YtaeninikaalkjaaGreatH2
import Derived.Test.YtaeninikaalkjaaGreatH3
import Derived.Test.YtaeninikaalkjaaGreatH1
namespace Go.Proofs.YtaeninikaalkjaaGreat
section
variable {P : Program} {md : Region.Mode} {Q : Exit → Act → World → Prop} {S : World → Prop} {fuel : Nat} {listed : Array Bool} {a : Act} {w : World} {oi : Oper} {ops : Array Oper} {c : Nat} {v : Value}
theorem at_list {i : Nat} (hi : ops.toList[i]? = some oi) : ops[i]? = some oi := by rw [← hi]; exact Array.getElem?_toList.symm
theorem mtk (i : Nat) (hi : ops.toList[i]? = some oi) (v : Value) (hv : ∀ w, S w → (execOp a.eval oi).run P w = .ok (.value v) w) (h : wpAnyH P md ops Q S fuel (listed.setIfInBounds i true) (a.put oi.dst v) w) (hs : Region.noSelect ops = true := by kernel_rfl) (hf : Region.free md ops listed i = true := by kernel_rfl) (hr : (Region.ready md ops listed).contains i = true := by kernel_rfl)
    (hQ : ∀ c a w, Q (.panic c) (a.put oi.dst v) w → Q (.panic c) a w := by exact fun _ _ _ h => h) (hw : Region.wanted oi (yielded ops a.tmps) = true := by rfl) (hS : S w := by assumption) : wpAnyH P md ops Q S (fuel + 1) listed a w :=
  wpAnyH_take (i := i) (oi := oi) (at_list hi) hs hf hr hQ (.inl ⟨hw, hv⟩) hS h
theorem mps (i : Nat) (hi : ops.toList[i]? = some oi) (h : wpAnyH P md ops Q S fuel (listed.setIfInBounds i true) (a.put oi.dst undef) w) (hs : Region.noSelect ops = true := by kernel_rfl) (hf : Region.free md ops listed i = true := by kernel_rfl) (hr : (Region.ready md ops listed).contains i = true := by kernel_rfl)
    (hQ : ∀ c a w, Q (.panic c) (a.put oi.dst undef) w → Q (.panic c) a w := by exact fun _ _ _ h => h) (hw : Region.wanted oi (yielded ops a.tmps) = false := by rfl) (hS : S w := by assumption) : wpAnyH P md ops Q S (fuel + 1) listed a w :=
  wpAnyH_take (i := i) (oi := oi) (at_list hi) hs hf hr hQ (.inr ⟨hw, rfl⟩) hS h
theorem mcl (i : Nat) (hi : ops.toList[i]? = some oi) (hr : Region.ready md ops listed = [i]) (hw : Region.wanted oi (yielded ops a.tmps) = true) (h : ∀ K' : Act → World → Prop, Shut (∀ a w, S w → (S w → wpAnyH P md ops Q S fuel (listed.setIfInBounds i true) a w) → K' a w) → Oper.wp P oi a w K' Q) : wpAnyH P md ops Q S (fuel + 1) listed a w :=
  wpAnyH_ready hr (by simp) (AllReadyH.cons (o := oi) (at_list hi) (fun K' hK => by rw [if_pos hw]; exact h K' hK) AllReadyH.nil)
theorem mpt (i : Nat) (hi : ops.toList[i]? = some oi) (v : Value) (hv : ∀ w, S w → (execOp a.eval oi).run P w = .ok (.value v) w) (h : wpAnyP P md ops Q S c fuel (listed.setIfInBounds i true) (a.put oi.dst v) w) (n : Nat := 9) (hs : Region.noSelect ops = true := by kernel_rfl) (hf : Region.free md ops listed i = true := by kernel_rfl) (hr : (Region.ready md ops listed).contains i = true := by kernel_rfl)
    (hld : leads md ops c n i = true := by kernel_rfl) (hcl : closedB md ops listed = true := by kernel_rfl) (hQ : ∀ c a w, Q (.panic c) (a.put oi.dst v) w → Q (.panic c) a w := by exact fun _ _ _ h => h) (hw : Region.wanted oi (yielded ops a.tmps) = true := by rfl) (hS : S w := by assumption) : wpAnyP P md ops Q S c (fuel + 1) listed a w :=
  wpAnyP_take (i := i) (oi := oi) (at_list hi) hs hf hr hld hcl hQ (.inl ⟨hw, hv⟩) hS h
theorem mpa (i : Nat) (hi : ops.toList[i]? = some oi) (v : Value) (hv : ∀ w, (execOp a.eval oi).run P w = .ok (.value v) w) (h : wpAnyP P md ops Q S c fuel (listed.setIfInBounds i true) (a.put oi.dst v) w) (hs : Region.noSelect ops = true := by kernel_rfl) (hf : Region.free md ops listed i = true := by kernel_rfl) (hr : (Region.ready md ops listed).contains i = true := by kernel_rfl)
    (hne : i ≠ c := by decide) (hcl : closedB md ops listed = true := by kernel_rfl) (hQ : ∀ c a w, Q (.panic c) (a.put oi.dst v) w → Q (.panic c) a w := by exact fun _ _ _ h => h) (hw : Region.wanted oi (yielded ops a.tmps) = true := by rfl) (hS : listed.getD c false = true ∨ S w := by first | (right; assumption) | (left; kernel_rfl)) : wpAnyP P md ops Q S c (fuel + 1) listed a w :=
  wpAnyP_any (i := i) (oi := oi) (at_list hi) hs hf hr hne hcl hQ (.inl ⟨hw, fun w _ => hv w⟩) hS h
theorem mpp (i : Nat) (hi : ops.toList[i]? = some oi) (h : wpAnyP P md ops Q S c fuel (listed.setIfInBounds i true) (a.put oi.dst undef) w) (hs : Region.noSelect ops = true := by kernel_rfl) (hf : Region.free md ops listed i = true := by kernel_rfl) (hr : (Region.ready md ops listed).contains i = true := by kernel_rfl)
    (hne : i ≠ c := by decide) (hcl : closedB md ops listed = true := by kernel_rfl) (hQ : ∀ c a w, Q (.panic c) (a.put oi.dst undef) w → Q (.panic c) a w := by exact fun _ _ _ h => h) (hw : Region.wanted oi (yielded ops a.tmps) = false := by rfl) (hS : listed.getD c false = true ∨ S w := by first | (right; assumption) | (left; kernel_rfl)) : wpAnyP P md ops Q S c (fuel + 1) listed a w :=
  wpAnyP_any (i := i) (oi := oi) (at_list hi) hs hf hr hne hcl hQ (.inr ⟨hw, rfl⟩) hS h
theorem mpc (i : Nat) (hi : ops.toList[i]? = some oi) (hr : Region.ready md ops listed = [i]) (hw : Region.wanted oi (yielded ops a.tmps) = true) (h : ∀ K' : Act → World → Prop, Shut (∀ a w, ((listed.setIfInBounds i true).getD c false = true ∨ S w) → wpAnyP P md ops Q S c fuel (listed.setIfInBounds i true) a w → K' a w) → Oper.wp P oi a w K' Q) : wpAnyP P md ops Q S c (fuel + 1) listed a w :=
  wpAnyP_one (i := i) (oi := oi) (at_list hi) hr hw h
-- as mtk, mpt, mpa, the value found by the walk's own simp
theorem zt (i : Nat) (hi : ops.toList[i]? = some oi) (h : wpAnyP P md ops Q S c fuel (listed.setIfInBounds i true) (a.put oi.dst v) w) (hv : ∀ w, S w → (execOp a.eval oi).run P w = .ok (.value v) w := by (intro w hSw; (try dsimp only at hSw); go_split_ands; go_simp <;> rfl)) (hs : Region.noSelect ops = true := by kernel_rfl) (hf : Region.free md ops listed i = true := by kernel_rfl) (hr : (Region.ready md ops listed).contains i = true := by kernel_rfl)
    (hld : leads md ops c 9 i = true := by kernel_rfl) (hcl : closedB md ops listed = true := by kernel_rfl) (hQ : ∀ c a w, Q (.panic c) (a.put oi.dst v) w → Q (.panic c) a w := by exact fun _ _ _ h => h) (hw : Region.wanted oi (yielded ops a.tmps) = true := by rfl) (hS : S w := by assumption) : wpAnyP P md ops Q S c (fuel + 1) listed a w := mpt i hi v hv h 9 hs hf hr hld hcl hQ hw hS
theorem za (i : Nat) (hi : ops.toList[i]? = some oi) (h : wpAnyP P md ops Q S c fuel (listed.setIfInBounds i true) (a.put oi.dst v) w) (hv : ∀ w, (execOp a.eval oi).run P w = .ok (.value v) w := by (intro w; go_simp <;> rfl)) (hs : Region.noSelect ops = true := by kernel_rfl) (hf : Region.free md ops listed i = true := by kernel_rfl) (hr : (Region.ready md ops listed).contains i = true := by kernel_rfl)
    (hne : i ≠ c := by decide) (hcl : closedB md ops listed = true := by kernel_rfl) (hQ : ∀ c a w, Q (.panic c) (a.put oi.dst v) w → Q (.panic c) a w := by exact fun _ _ _ h => h) (hw : Region.wanted oi (yielded ops a.tmps) = true := by rfl) (hS : listed.getD c false = true ∨ S w := by first | (right; assumption) | (left; kernel_rfl)) : wpAnyP P md ops Q S c (fuel + 1) listed a w := mpa i hi v hv h hs hf hr hne hcl hQ hw hS
theorem zk (i : Nat) (hi : ops.toList[i]? = some oi) (h : wpAnyH P md ops Q S fuel (listed.setIfInBounds i true) (a.put oi.dst v) w) (hv : ∀ w, S w → (execOp a.eval oi).run P w = .ok (.value v) w := by (intro w hSw; (try dsimp only at hSw); go_split_ands; go_simp <;> rfl)) (hs : Region.noSelect ops = true := by kernel_rfl) (hf : Region.free md ops listed i = true := by kernel_rfl) (hr : (Region.ready md ops listed).contains i = true := by kernel_rfl)
    (hQ : ∀ c a w, Q (.panic c) (a.put oi.dst v) w → Q (.panic c) a w := by exact fun _ _ _ h => h) (hw : Region.wanted oi (yielded ops a.tmps) = true := by rfl) (hS : S w := by assumption) : wpAnyH P md ops Q S (fuel + 1) listed a w := mtk i hi v hv h hs hf hr hQ hw hS
end
end Go.Proofs.YtaeninikaalkjaaGreat
namespace Go.Proofs.YtaeninikaalkjaaGreat
section
variable {P : Program} {md : Region.Mode} {Q : Exit → Act → World → Prop} {S : World → Prop} {fuel : Nat} {listed : Array Bool} {a : Act} {w : World} {oi : Oper} {ops : Array Oper} {c : Nat}
theorem mqa (i : Nat) (hi : ops.toList[i]? = some oi) (v : Value) (hs : Region.noSelect ops = true) (hf : freeB md ops = true) (hC : Cl md ops listed) (hr : rdyB md oi listed i = true) (hne : i ≠ c) (hQ : ∀ c a w, Q (.panic c) (a.put oi.dst v) w → Q (.panic c) a w) (hw : Region.wanted oi (yielded ops a.tmps) = true) (hv : ∀ w, (execOp a.eval oi).run P w = .ok (.value v) w) (hS : listed.getD c false = true ∨ S w)
    (h : Cl md ops (listed.setIfInBounds i true) → wpAnyP P md ops Q S c fuel (listed.setIfInBounds i true) (a.put oi.dst v) w) : wpAnyP P md ops Q S c (fuel + 1) listed a w :=
  wpAnyP_qa (i := i) (oi := oi) (at_list hi) hs hf hC hr hne hQ (.inl ⟨hw, fun w _ => hv w⟩) hS h
theorem mqt (i : Nat) (hi : ops.toList[i]? = some oi) (l : List Nat) (v : Value) (hs : Region.noSelect ops = true) (hf : freeB md ops = true) (hC : Cl md ops listed) (hr : rdyB md oi listed i = true) (hld : pathB md ops c i l = true) (hQ : ∀ c a w, Q (.panic c) (a.put oi.dst v) w → Q (.panic c) a w) (hw : Region.wanted oi (yielded ops a.tmps) = true) (hv : ∀ w, S w → (execOp a.eval oi).run P w = .ok (.value v) w) (hS : S w)
    (h : Cl md ops (listed.setIfInBounds i true) → wpAnyP P md ops Q S c fuel (listed.setIfInBounds i true) (a.put oi.dst v) w) : wpAnyP P md ops Q S c (fuel + 1) listed a w :=
  wpAnyP_qt (i := i) (oi := oi) (at_list hi) hs hf hC hr (path_leads l _ hld) hQ (.inl ⟨hw, hv⟩) hS h
theorem mqc (i : Nat) (hi : ops.toList[i]? = some oi) (hC : Cl md ops listed) (hr : Region.ready md ops listed = [i]) (hw : Region.wanted oi (yielded ops a.tmps) = true)
    (h : ∀ K' : Act → World → Prop, Shut (∀ a w, ((listed.setIfInBounds i true).getD c false = true ∨ S w) → (Cl md ops (listed.setIfInBounds i true) → wpAnyP P md ops Q S c fuel (listed.setIfInBounds i true) a w) → K' a w) → Oper.wp P oi a w K' Q) : wpAnyP P md ops Q S c (fuel + 1) listed a w :=
  wpAnyP_qc (i := i) (oi := oi) (at_list hi) hC hr hw h
end
end Go.Proofs.YtaeninikaalkjaaGreat
namespace Go.Proofs.YtaeninikaalkjaaGreat
open Go.RowKit
def leftOf (k x y o : Int) : Int := if k = 3 then (x + o) % 4294967296 else if k = 2 then x else if k = 4 then x else if k = 5 then (if o = x then y else o) else if k = 1 then o else 0
def isKind (k : Int) : Bool := decide (1 ≤ k ∧ k ≤ 5)
theorem two_eq {a b : Int} {c d : Bool} (h : a = b) (h' : c = d) : Ending.returned (.tuple #[.int .u32 a, .bool c]) = .returned (.tuple #[.int .u32 b, .bool d]) := by rw [h, h']
theorem behind_any (k c x y o : Int) (w : World) :
    Calls Tryz.prog 82 #[.agg #[.int .i64 k, .int .i64 c, .int .u32 x, .int .u32 y, .int .u32 o]] w fun e w' =>
      e = .returned (.tuple #[.int .u32 (leftOf k x y o), .bool (isKind k)]) ∧ Only Nil w w' := by
  by_cases h3 : k = 3 <;> by_cases h2 : k = 2 <;> by_cases h4 : k = 4 <;> by_cases h5 : k = 5 <;> by_cases h1 : k = 1 <;> by_cases hx : o = x
  all_goals first
    | omega
    | (go_enter Tryz.func82, Tryz.ntmps82
       go_wp2
       all_goals
         go_ret2
         exact ⟨two_eq (by simp [leftOf, h3, h2, h4, h5, h1, hx]) (by simp [isKind]; omega), (Only.refl _ _).alloc _⟩)
theorem len_any (b : Nat) (A : Option Addr) (n cap : Nat) (w : World) (h : Row w b 60 #[.slice A n cap]) :
    Calls Tryz.prog 81 #[.pointer (some ⟨b, 0, none⟩)] w fun e w' => e = .returned (.int .i64 n) ∧ w' = w := by
  have hc := h.cell_ (i := 0) rfl
  clear h
  go_enter Tryz.func81, Tryz.ntmps81
  go_wp2
  go_ret
  exact ⟨rfl, rfl⟩
theorem len_nil (w : World) :
    Calls Tryz.prog 81 #[.pointer none] w fun e w' => e = .returned (.int .i64 0) ∧ w' = w := by
  go_enter Tryz.func81, Tryz.ntmps81
  go_wp2
  go_ret
  exact ⟨rfl, rfl⟩
end Go.Proofs.YtaeninikaalkjaaGreat
namespace Go.Proofs.YtaeninikaalkjaaGreat
open Go.RowKit
theorem do_out (b : Nat) (A : Option Addr) (n cap : Nat) (k c x y o : Int) (w : World) (h : Row w b 60 #[.slice A n cap]) (hc : c < 0 ∨ (n : Int) ≤ c) :
    Calls Tryz.prog 49 #[.pointer (some ⟨b, 0, none⟩), .agg #[.int .i64 k, .int .i64 c, .int .u32 x, .int .u32 y, .int .u32 o]] w fun e w' =>
      e = .returned (.tuple #[.agg #[.int .i64 0, .int .i64 0, .int .u32 0, .int .u32 0, .int .u32 0], .bool false]) ∧ Only Nil w w' := by
  by_cases h0 : c < 0
  · clear h hc
    go_enter Tryz.func49, Tryz.ntmps49
    go_wp2
    go_quiet (fail)
    go_wp2
    go_returns
    exact ⟨rfl, by (repeat' (first | (with_reducible exact Only.refl _ _) | (with_reducible assumption) | (with_reducible refine Only.setCell ?_ ?_ _) | (with_reducible refine Only.drewN ?_ _) | (with_reducible refine Only.drew ?_) | (with_reducible refine Only.alloc ?_ _) | (left; simp; done) | (left; simp; omega) | (right; rfl)))⟩
  · have h1 : (n : Int) ≤ c := by omega
    have h2 : ∀ o1 o2, Row ((w.alloc o1).alloc o2) b 60 #[.slice A n cap] := fun o1 o2 => (h.alloc o1).alloc o2
    have H := Lib.hid h2
    clear h hc h2
    go_enter Tryz.func49, Tryz.ntmps49
    go_wp2
    go_quiet ((go_at_call 81; exact Calls.quiet_of_same (len_any b A n cap _ (H.out _ _))))
    go_wp2
    go_returns
    exact ⟨rfl, by (repeat' (first | (with_reducible exact Only.refl _ _) | (with_reducible assumption) | (with_reducible refine Only.setCell ?_ ?_ _) | (with_reducible refine Only.drewN ?_ _) | (with_reducible refine Only.drew ?_) | (with_reducible refine Only.alloc ?_ _) | (left; simp; done) | (left; simp; omega) | (right; rfl)))⟩
theorem do_nil (k c x y o : Int) (w : World) :
    Calls Tryz.prog 49 #[.pointer none, .agg #[.int .i64 k, .int .i64 c, .int .u32 x, .int .u32 y, .int .u32 o]] w fun e w' =>
      e = .returned (.tuple #[.agg #[.int .i64 0, .int .i64 0, .int .u32 0, .int .u32 0, .int .u32 0], .bool false]) ∧ Only Nil w w' := by
  by_cases h0 : c < 0
  · go_enter Tryz.func49, Tryz.ntmps49
    go_wp2
    go_quiet (fail)
    go_wp2
    go_returns
    exact ⟨rfl, by (repeat' (first | (with_reducible exact Only.refl _ _) | (with_reducible assumption) | (with_reducible refine Only.setCell ?_ ?_ _) | (with_reducible refine Only.drewN ?_ _) | (with_reducible refine Only.drew ?_) | (with_reducible refine Only.alloc ?_ _) | (left; simp; done) | (left; simp; omega) | (right; rfl)))⟩
  · have h1 : (0 : Int) ≤ c := by omega
    go_enter Tryz.func49, Tryz.ntmps49
    go_wp2
    go_quiet ((go_at_call 81; exact Calls.quiet_of_same (len_nil _)))
    go_wp2
    go_returns
    exact ⟨rfl, by (repeat' (first | (with_reducible exact Only.refl _ _) | (with_reducible assumption) | (with_reducible refine Only.setCell ?_ ?_ _) | (with_reducible refine Only.drewN ?_ _) | (with_reducible refine Only.drew ?_) | (with_reducible refine Only.alloc ?_ _) | (left; simp; done) | (left; simp; omega) | (right; rfl)))⟩
end Go.Proofs.YtaeninikaalkjaaGreat
namespace Go.Proofs.YtaeninikaalkjaaGreat
open Go.RowKit
theorem do_in (b g n cap i : Nat) (cur : Array Value) (k x y o v : Int) (w : World) (h : Row w b 60 #[.slice (some ⟨g, 0, none⟩) n cap]) (hg : Row w g 23 cur)
    (hi : i < n) (hv : cur[i]? = some (.int .u32 v)) (hk : isKind k = true) :
    Calls Tryz.prog 49 #[.pointer (some ⟨b, 0, none⟩), .agg #[.int .i64 k, .int .i64 i, .int .u32 x, .int .u32 y, .int .u32 o]] w fun e w' =>
      e = .returned (.tuple #[.agg #[.int .i64 k, .int .i64 i, .int .u32 x, .int .u32 y, .int .u32 v], .bool true]) ∧ Only (· = g) w w' ∧ Row w' g 23 (cur.setIfInBounds i (.int .u32 (leftOf k x y v))) := by
  have h2 : ∀ o1 o2, Row ((w.alloc o1).alloc o2) b 60 #[.slice (some ⟨g, 0, none⟩) n cap] := fun o1 o2 => (h.alloc o1).alloc o2
  have H := Lib.hid h2
  have hlt := h.lt
  have hglt := hg.lt
  have hin : (i : Int) < n := by omega
  have h0 : ¬ (i : Int) < 0 := by omega
  have hc := h.cell_ (i := 0) rfl
  have hcv := hg.cell_ hv
  have HG := Lib.hid hg
  have HV := Lib.hid hv
  clear h h2 hv hg
  go_enter Tryz.func49, Tryz.ntmps49
  go_wp2
  go_quiet ((go_at_call 81; exact Calls.quiet_of_same (len_any b _ n cap _ (H.out _ _))))
  go_wp2
  go_region
  go_wp2_with fail
  refine (behind_any k i x y v _).mono ?_
  rintro e w1 ⟨rfl, ho⟩
  rw [hk]
  generalize hl : leftOf k x y v = lv
  have F0 : Row w1 w.heap.size 39 #[.int .i64 k, .int .i64 i, .int .u32 x, .int .u32 y, .int .u32 v] := ((((Row.new w _ _).alloc _).drewN _).set 4 _).only ho id
  have F1 : Row w1 (w.heap.size + 1) 39 #[.int .i64 0, .int .i64 0, .int .u32 0, .int .u32 0, .int .u32 0] := by
    have := ((Row.new (w.alloc (Obj.cells #[.int .i64 k, .int .i64 i, .int .u32 x, .int .u32 y, .int .u32 o] 39)) 39 #[.int .i64 0, .int .i64 0, .int .u32 0, .int .u32 0, .int .u32 0]).drewN (nq + 1))
    rw [show (w.alloc (Obj.cells #[.int .i64 k, .int .i64 i, .int .u32 x, .int .u32 y, .int .u32 o] 39)).heap.size = w.heap.size + 1 by simp] at this
    exact (this.far (by simp) _).only ho id
  have FB := ((((H.out _ _).drewN _).far (p := ⟨w.heap.size, 4, none⟩) (by show b ≠ w.heap.size; omega) _).only ho id)
  have FG := (((((HG.out.alloc _).alloc _).drewN _).far (p := ⟨w.heap.size, 4, none⟩) (by show g ≠ w.heap.size; omega) _).only ho id)
  have OW : Only Nil w w1 := Only.trans (by (repeat' (first | (with_reducible exact Only.refl _ _) | (with_reducible assumption) | (with_reducible refine Only.setCell ?_ ?_ _) | (with_reducible refine Only.drewN ?_ _) | (with_reducible refine Only.drew ?_) | (with_reducible refine Only.alloc ?_ _) | (left; simp; done) | (left; simp; omega) | (right; rfl)))) ho
  clear ho hcv hc
  have hs1 : w.heap.size + 1 < w1.heap.size := F1.lt
  have c0 : w1.cell? ⟨w.heap.size, 0, none⟩ = some (.int .i64 k) := F0.cell_ (i := 0) rfl
  have c1 : w1.cell? ⟨w.heap.size, 1, none⟩ = some (.int .i64 i) := F0.cell_ (i := 1) rfl
  have c2 : w1.cell? ⟨w.heap.size, 2, none⟩ = some (.int .u32 x) := F0.cell_ (i := 2) rfl
  have c3 : w1.cell? ⟨w.heap.size, 3, none⟩ = some (.int .u32 y) := F0.cell_ (i := 3) rfl
  have c4 : w1.cell? ⟨w.heap.size, 4, none⟩ = some (.int .u32 v) := F0.cell_ (i := 4) rfl
  have d0 : w1.cell? ⟨w.heap.size + 1, 0, none⟩ = some (.int .i64 0) := F1.cell_ (i := 0) rfl
  have d1 : w1.cell? ⟨w.heap.size + 1, 1, none⟩ = some (.int .i64 0) := F1.cell_ (i := 1) rfl
  have d2 : w1.cell? ⟨w.heap.size + 1, 2, none⟩ = some (.int .u32 0) := F1.cell_ (i := 2) rfl
  have d3 : w1.cell? ⟨w.heap.size + 1, 3, none⟩ = some (.int .u32 0) := F1.cell_ (i := 3) rfl
  have d4 : w1.cell? ⟨w.heap.size + 1, 4, none⟩ = some (.int .u32 0) := F1.cell_ (i := 4) rfl
  have e0 : w1.frozen? ⟨w.heap.size + 1, 0, none⟩ = false := F1.frozen 0
  have e1 : w1.frozen? ⟨w.heap.size + 1, 1, none⟩ = false := F1.frozen 1
  have e2 : w1.frozen? ⟨w.heap.size + 1, 2, none⟩ = false := F1.frozen 2
  have e3 : w1.frozen? ⟨w.heap.size + 1, 3, none⟩ = false := F1.frozen 3
  have e4 : w1.frozen? ⟨w.heap.size + 1, 4, none⟩ = false := F1.frozen 4
  have b0 : w1.cell? ⟨b, 0, none⟩ = some (.slice (some ⟨g, 0, none⟩) n cap) := FB.cell_ (i := 0) rfl
  have g0 := FG.cell_ HV.out
  have g1 := FG.frozen i
  have HB := Lib.hid FB
  have HG1 := Lib.hid FG
  have H0 := Lib.hid F0
  have H1 := Lib.hid F1
  have HO := Lib.hid OW
  have HL := Lib.hid hl
  clear FB FG F0 F1 OW hl
  go_wp2
  go_region
  all_goals go_wp2
  refine post_row_tmp (P := Tryz.prog) Tryz.results49 (t := 39) (g := w.heap.size + 1) (cs := #[.int .i64 k, .int .i64 i, .int .u32 x, .int .u32 y, .int .u32 v]) rfl ?_ Tryz.underlying39 rfl (by kernel_rfl) rfl ⟨rfl, ?_, ?_⟩
  · exact ((((((H1.out.far (p := ⟨g, i, none⟩) (by show w.heap.size + 1 ≠ g; omega) (.int .u32 lv)).set 0 (.int .i64 k)).set 1 (.int .i64 i)).set 2 (.int .u32 x)).set 3 (.int .u32 y)).set 4 (.int .u32 v)).drew
  · have O1 : Only (· = g) w w1 := HO.out.mono (fun _ _ h => h.elim)
    (repeat' (first | (with_reducible exact Only.refl _ _) | (with_reducible assumption) | (with_reducible refine Only.setCell ?_ ?_ _) | (with_reducible refine Only.drewN ?_ _) | (with_reducible refine Only.drew ?_) | (with_reducible refine Only.alloc ?_ _) | (left; simp; done) | (left; simp; omega) | (right; rfl)))
  · rw [HL.out]
    exact ((((((HG1.out.set i (.int .u32 lv)).far (p := ⟨w.heap.size + 1, 0, none⟩) (by show g ≠ w.heap.size + 1; omega) _).far (p := ⟨w.heap.size + 1, 1, none⟩) (by show g ≠ w.heap.size + 1; omega) _).far (p := ⟨w.heap.size + 1, 2, none⟩) (by show g ≠ w.heap.size + 1; omega) _).far (p := ⟨w.heap.size + 1, 3, none⟩) (by show g ≠ w.heap.size + 1; omega) _).far (p := ⟨w.heap.size + 1, 4, none⟩) (by show g ≠ w.heap.size + 1; omega) _).drew
theorem do_bad (b g n cap i : Nat) (cur : Array Value) (k x y o v : Int) (w : World) (h : Row w b 60 #[.slice (some ⟨g, 0, none⟩) n cap]) (hg : Row w g 23 cur)
    (hi : i < n) (hv : cur[i]? = some (.int .u32 v)) (hk : isKind k = false) :
    Calls Tryz.prog 49 #[.pointer (some ⟨b, 0, none⟩), .agg #[.int .i64 k, .int .i64 i, .int .u32 x, .int .u32 y, .int .u32 o]] w fun e w' =>
      e = .returned (.tuple #[.agg #[.int .i64 0, .int .i64 0, .int .u32 0, .int .u32 0, .int .u32 0], .bool false]) ∧ Only Nil w w' := by
  have h2 : ∀ o1 o2, Row ((w.alloc o1).alloc o2) b 60 #[.slice (some ⟨g, 0, none⟩) n cap] := fun o1 o2 => (h.alloc o1).alloc o2
  have H := Lib.hid h2
  have hlt := h.lt
  have hglt := hg.lt
  have hin : (i : Int) < n := by omega
  have h0 : ¬ (i : Int) < 0 := by omega
  have hc := h.cell_ (i := 0) rfl
  have hcv := hg.cell_ hv
  have HG := Lib.hid hg
  have HV := Lib.hid hv
  clear h h2 hv hg
  go_enter Tryz.func49, Tryz.ntmps49
  go_wp2
  go_quiet ((go_at_call 81; exact Calls.quiet_of_same (len_any b _ n cap _ (H.out _ _))))
  go_wp2
  go_region
  go_wp2_with fail
  refine (behind_any k i x y v _).mono ?_
  rintro e w1 ⟨rfl, ho⟩
  rw [hk]
  generalize hl : leftOf k x y v = lv
  have F0 : Row w1 w.heap.size 39 #[.int .i64 k, .int .i64 i, .int .u32 x, .int .u32 y, .int .u32 v] := ((((Row.new w _ _).alloc _).drewN _).set 4 _).only ho id
  have F1 : Row w1 (w.heap.size + 1) 39 #[.int .i64 0, .int .i64 0, .int .u32 0, .int .u32 0, .int .u32 0] := by
    have := ((Row.new (w.alloc (Obj.cells #[.int .i64 k, .int .i64 i, .int .u32 x, .int .u32 y, .int .u32 o] 39)) 39 #[.int .i64 0, .int .i64 0, .int .u32 0, .int .u32 0, .int .u32 0]).drewN (nq + 1))
    rw [show (w.alloc (Obj.cells #[.int .i64 k, .int .i64 i, .int .u32 x, .int .u32 y, .int .u32 o] 39)).heap.size = w.heap.size + 1 by simp] at this
    exact (this.far (by simp) _).only ho id
  have FB := ((((H.out _ _).drewN _).far (p := ⟨w.heap.size, 4, none⟩) (by show b ≠ w.heap.size; omega) _).only ho id)
  have FG := (((((HG.out.alloc _).alloc _).drewN _).far (p := ⟨w.heap.size, 4, none⟩) (by show g ≠ w.heap.size; omega) _).only ho id)
  have OW : Only Nil w w1 := Only.trans (by (repeat' (first | (with_reducible exact Only.refl _ _) | (with_reducible assumption) | (with_reducible refine Only.setCell ?_ ?_ _) | (with_reducible refine Only.drewN ?_ _) | (with_reducible refine Only.drew ?_) | (with_reducible refine Only.alloc ?_ _) | (left; simp; done) | (left; simp; omega) | (right; rfl)))) ho
  clear ho hcv hc
  have hs1 : w.heap.size + 1 < w1.heap.size := F1.lt
  have c0 : w1.cell? ⟨w.heap.size, 0, none⟩ = some (.int .i64 k) := F0.cell_ (i := 0) rfl
  have c1 : w1.cell? ⟨w.heap.size, 1, none⟩ = some (.int .i64 i) := F0.cell_ (i := 1) rfl
  have c2 : w1.cell? ⟨w.heap.size, 2, none⟩ = some (.int .u32 x) := F0.cell_ (i := 2) rfl
  have c3 : w1.cell? ⟨w.heap.size, 3, none⟩ = some (.int .u32 y) := F0.cell_ (i := 3) rfl
  have c4 : w1.cell? ⟨w.heap.size, 4, none⟩ = some (.int .u32 v) := F0.cell_ (i := 4) rfl
  have d0 : w1.cell? ⟨w.heap.size + 1, 0, none⟩ = some (.int .i64 0) := F1.cell_ (i := 0) rfl
  have d1 : w1.cell? ⟨w.heap.size + 1, 1, none⟩ = some (.int .i64 0) := F1.cell_ (i := 1) rfl
  have d2 : w1.cell? ⟨w.heap.size + 1, 2, none⟩ = some (.int .u32 0) := F1.cell_ (i := 2) rfl
  have d3 : w1.cell? ⟨w.heap.size + 1, 3, none⟩ = some (.int .u32 0) := F1.cell_ (i := 3) rfl
  have d4 : w1.cell? ⟨w.heap.size + 1, 4, none⟩ = some (.int .u32 0) := F1.cell_ (i := 4) rfl
  have e0 : w1.frozen? ⟨w.heap.size + 1, 0, none⟩ = false := F1.frozen 0
  have e1 : w1.frozen? ⟨w.heap.size + 1, 1, none⟩ = false := F1.frozen 1
  have e2 : w1.frozen? ⟨w.heap.size + 1, 2, none⟩ = false := F1.frozen 2
  have e3 : w1.frozen? ⟨w.heap.size + 1, 3, none⟩ = false := F1.frozen 3
  have e4 : w1.frozen? ⟨w.heap.size + 1, 4, none⟩ = false := F1.frozen 4
  have b0 : w1.cell? ⟨b, 0, none⟩ = some (.slice (some ⟨g, 0, none⟩) n cap) := FB.cell_ (i := 0) rfl
  have g0 := FG.cell_ HV.out
  have g1 := FG.frozen i
  have HB := Lib.hid FB
  have HG1 := Lib.hid FG
  have H0 := Lib.hid F0
  have H1 := Lib.hid F1
  have HO := Lib.hid OW
  have HL := Lib.hid hl
  clear FB FG F0 F1 OW hl
  go_wp2
  refine post_row_tmp (P := Tryz.prog) Tryz.results49 (t := 39) (g := w.heap.size + 1) (cs := #[.int .i64 0, .int .i64 0, .int .u32 0, .int .u32 0, .int .u32 0]) rfl ?_ Tryz.underlying39 rfl (by kernel_rfl) rfl ⟨rfl, ?_⟩
  · exact ((((((H1.out.set 0 (.int .i64 0)).set 1 (.int .i64 0)).set 2 (.int .u32 0)).set 3 (.int .u32 0)).set 4 (.int .u32 0)))
  · have O1 : Only Nil w w1 := HO.out
    (repeat' (first | (with_reducible exact Only.refl _ _) | (with_reducible assumption) | (with_reducible refine Only.setCell ?_ ?_ _) | (with_reducible refine Only.drewN ?_ _) | (with_reducible refine Only.drew ?_) | (with_reducible refine Only.alloc ?_ _) | (left; simp; done) | (left; simp; omega) | (right; rfl)))
end Go.Proofs.YtaeninikaalkjaaGreat
namespace Go.Proofs.YtaeninikaalkjaaGreat
open Go.RowKit
theorem infoW : (Tryz.prog.info? 23).map (fun i => (i.zero, i.size, i.bytes)) = some (some (.int .u32 0), 1, 4) := by kernel_rfl
theorem news_of {w : World} {B : Nat} {k : IntKind} {a : Addr} {xs : List Int} (h : Ints w B k (some a) xs) : ∀ j u, (xs.map (Value.int k))[j]? = some u → w.cell? (a.add j) = some u := by
  intro j u hu
  rw [List.getElem?_map] at hu
  have hj : j < xs.length := by
    rcases Nat.lt_or_ge j xs.length with hj | hj
    · exact hj
    · rw [List.getElem?_eq_none hj] at hu; cases hu
  obtain ⟨b, o, ha, _, hc⟩ := h (by omega)
  injection ha with ha
  subst ha
  rw [add_at, hc j hj]
  rw [List.getElem?_eq_getElem hj] at hu
  simp only [Option.map_some, Option.some.injEq] at hu
  rw [← hu]
  simp [List.getD, List.getElem?_eq_getElem hj]
theorem one_of {k : IntKind} (xs : List Int) : ∀ u ∈ xs.map (Value.int k), u.oneCell' = true := by
  intro u hu
  simp only [List.mem_map] at hu
  obtain ⟨z, _, rfl⟩ := hu
  rfl
theorem clone_nil (w : World) : Calls Tryz.prog 18 #[.slice none 0 0] w fun e w' => e = .returned (.slice none 0 0) ∧ w' = w := by
  have hq := fun (w : World) (a : Option Addr) (n c : Nat) => Lib.run_eql_slice_nil (P := Tryz.prog) w 22 23 a n c 0 0 Tryz.underlying22
  go_enter Tryz.func18, Tryz.ntmps18
  go_wp2
  go_ret
  exact ⟨rfl, rfl⟩
theorem clone_any (a : Addr) (n cap : Nat) (xs : List Int) (w : World) (hn : xs.length = n) (hm : n ≤ 1048576) (h : Ints w w.heap.size .u32 (some a) xs) :
    Calls Tryz.prog 18 #[.slice (some a) n cap] w fun e w' => ∃ v, e = .returned v ∧ w'.ownsRow w.heap.size 23 1 v n (xs.map (.int .u32)) ∧ Only Nil w w' := by
  have hq := fun (w : World) (a : Option Addr) (n c : Nat) => Lib.run_eql_slice_nil (P := Tryz.prog) w 22 23 a n c 0 0 Tryz.underlying22
  obtain ⟨i0, hi, hz0, hz1, hz2⟩ := info_parts infoW
  go_enter Tryz.func18, Tryz.ntmps18
  go_wp2_with (at_builtin; refine wpList_append_own _ rfl (.tmp 5) (.tmp 6) 22 rfl w.heap.size 23 i0 (.int .u32 0) 1 4 Tryz.underlying22 hi hz0 hz1 hz2 rfl (by decide) _ 0 [] rfl (World.ownsRow_made w #[] 0 (Nat.le_refl _) (by decide) rfl) a n cap (xs.map (.int .u32)) rfl ?c0 ?c1 ?c2 ?c3 ?c4 ?c5 ?_)
  case c0 => simp [hn]
  case c1 => exact news_of (h.alloc (Nat.le_refl _) (.cells #[] 23))
  case c2 => exact one_of xs
  case c3 => unfold maxLen; omega
  case c4 => omega
  case c5 => simp
  intro v' w1 hown hgrow _
  have HO := Lib.hid hown
  have HG := Lib.hid hgrow
  clear hown hgrow
  go_wp2
  go_ret
  exact ⟨_, rfl, HO.out, ((Only.refl _ _).alloc _).grown HG.out (fun k hk => by simp only [Value.ownBlock, Option.some.injEq] at hk; left; omega)⟩
def Held (w : World) (A : Option Addr) (n cap : Nat) (xs : List Int) : Prop := xs.length = n ∧ (A = none → n = 0 ∧ cap = 0) ∧ Ints w w.heap.size .u32 A xs
theorem Held.only {w w' : World} {A : Option Addr} {n cap : Nat} {xs : List Int} (h : Held w A n cap xs) {S : Nat → Prop} (ho : Only S w w') (hS : ∀ i, i < w.heap.size → ¬ S i) : Held w' A n cap xs :=
  ⟨h.1, h.2.1, (h.2.2.only ho (Nat.le_refl _) hS).more ho.size⟩
def At (A : Option Addr) : Nat → Prop := fun i => ∃ a, A = some a ∧ a.block = i
theorem own_form {w : World} {base : Nat} {e : TypeId} {size : Nat} {v : Value} {n : Nat} {vs : List Value} (h : w.ownsRow base e size v n vs) : ∃ A c, v = .slice A n c ∧ (A = none → n = 0 ∧ c = 0) ∧ ∀ i, At A i → base ≤ i := by
  rcases h.2 with ⟨hv, h0⟩ | ⟨g, cap, cur, hv, hb, _⟩
  · subst h0
    exact ⟨none, 0, hv, fun _ => ⟨rfl, rfl⟩, fun i ⟨a, ha, _⟩ => by cases ha⟩
  · exact ⟨some ⟨g, 0, none⟩, cap, hv, (by intro h; cases h), fun i ⟨a, ha, hi⟩ => by injection ha with ha; subst ha; subst hi; exact hb⟩
theorem own_base {w : World} {base base' : Nat} {e : TypeId} {size : Nat} {v : Value} {n : Nat} {vs : List Value} (h : w.ownsRow base e size v n vs) (hb : base' ≤ base) : w.ownsRow base' e size v n vs := by
  refine ⟨h.1, ?_⟩
  rcases h.2 with hn | ⟨g, cap, cur, hv, hb2, rest⟩
  · exact .inl hn
  · exact .inr ⟨g, cap, cur, hv, by omega, rest⟩
structure Own (w : World) (base : Nat) (A : Option Addr) (c : Nat) (xs : List Int) : Prop where
  own : w.ownsRow base 23 1 (.slice A xs.length c) xs.length (xs.map (.int .u32))
  nil : A = none → xs.length = 0 ∧ c = 0
  base : ∀ i, At A i → base ≤ i
theorem Own.of {w : World} {base : Nat} {v : Value} {xs : List Int} (h : w.ownsRow base 23 1 v xs.length (xs.map (.int .u32))) : ∃ A c, v = .slice A xs.length c ∧ Own w base A c xs := by
  obtain ⟨A, c, rfl, h1, h2⟩ := own_form h
  exact ⟨A, c, rfl, h, h1, h2⟩
theorem Own.only {w w' : World} {base : Nat} {A : Option Addr} {c : Nat} {xs : List Int} {S : Nat → Prop} (h : Own w base A c xs) (ho : Only S w w') (hS : ∀ i, At A i → ¬ S i) : Own w' base A c xs :=
  ⟨own_only h.own ho (fun i hi => hS i (by
    cases A with
    | none => simp [Value.ownBlock] at hi
    | some a => simp only [Value.ownBlock, Option.some.injEq] at hi; exact ⟨a, rfl, hi⟩)), h.nil, h.base⟩
theorem Own.held {w : World} {base : Nat} {A : Option Addr} {c : Nat} {xs : List Int} (h : Own w base A c xs) : Held w A xs.length c xs := ⟨rfl, h.nil, Ints.of_own h.own⟩
theorem Own.lt {w : World} {base : Nat} {A : Option Addr} {c : Nat} {xs : List Int} (h : Own w base A c xs) : ∀ i, At A i → i < w.heap.size := fun i ⟨a, ha, hi⟩ => (h.own.lt i (by rw [ha]; simp [Value.ownBlock, hi])).2
theorem clone_held (A : Option Addr) (n cap : Nat) (xs : List Int) (w : World) (hm : n ≤ 1048576) (h : Held w A n cap xs) :
    Calls Tryz.prog 18 #[.slice A n cap] w fun e w' => ∃ A' c', e = .returned (.slice A' xs.length c') ∧ Own w' w.heap.size A' c' xs ∧ Only Nil w w' := by
  obtain ⟨h1, h2, h3⟩ := h
  cases A with
  | none =>
    obtain ⟨rfl, rfl⟩ := h2 rfl
    obtain rfl : xs = [] := List.length_eq_zero_iff.1 h1
    refine (clone_nil w).mono fun e w' ⟨he, hw⟩ => ?_
    subst hw
    obtain ⟨A', c', hv, hO⟩ := Own.of (xs := []) (World.ownsRow_nil w' w'.heap.size 23 1)
    exact ⟨A', c', he.trans (by rw [hv]), hO, Only.refl _ _⟩
  | some a =>
    subst h1
    refine (clone_any a _ cap xs w rfl hm h3).mono fun e w' ⟨v, he, ho, hO⟩ => ?_
    obtain ⟨A', c', rfl, hw⟩ := Own.of ho
    exact ⟨A', c', he, hw, hO⟩
structure Mem (w : World) (b : Nat) (A : Option Addr) (c : Nat) (xs : List Int) : Prop where
  hdr : Row w b 60 #[.slice A xs.length c]
  own : Own w 0 A c xs
  len : xs.length ≤ 1024
theorem Mem.only {w w' : World} {b : Nat} {A : Option Addr} {c : Nat} {xs : List Int} {S : Nat → Prop} (h : Mem w b A c xs) (ho : Only S w w') (hb : ¬ S b) (hS : ∀ i, At A i → ¬ S i) : Mem w' b A c xs :=
  ⟨h.hdr.only ho hb, h.own.only ho hS, h.len⟩
end Go.Proofs.YtaeninikaalkjaaGreat
