import Derived.WalkKit
import Derived.ProofKit
import Derived.Handy
import Derived.Outline
import Derived.Deep.QuietTactic
import Derived.BigQuiet
import Derived.BigRegion
import Derived.WalkLawsBesides
import Derived.Lib.Hide
import Derived.Deep.Draws
import Derived.WalkSpells
import Derived.Test.YtkkldcggbekleaaChecked
import Derived.Maps.Own
import Derived.Deep.OwnRows
import Derived.Laws.BitsAllLaws
import Derived.Laws.BitsLemmas
namespace Go.Proofs.Ytkkldcggbekleaa
open Go.RowKit
def Row (w : World) (g : Nat) (t : TypeId) (cs : Array Value) : Prop := w.heap[g]? = some (.cells cs t (0, 0))
structure Only (S : Nat → Prop) (w w' : World) : Prop where
  os : w'.os = w.os
  tape : w'.tape = w.tape
  output : w'.output = w.output
  size : w.heap.size ≤ w'.heap.size
  block : ∀ k, k < w.heap.size → ¬ S k → w'.heap[k]? = w.heap[k]?
section
variable {w w' w'' : World} {g : Nat} {t : TypeId} {cs : Array Value} {S T : Nat → Prop}
theorem Row.lt (h : Row w g t cs) : g < w.heap.size := (Array.getElem?_eq_some_iff.1 h).1
theorem Row.cell (h : Row w g t cs) (i : Nat) : w.cell? ⟨g, i, none⟩ = cs[i]? := by
  have h' : w.heap[g]? = _ := h
  simp [World.cell?, h']
theorem Row.cell_ (h : Row w g t cs) {i : Nat} {v : Value} (hi : cs[i]? = some v) : w.cell? ⟨g, i, none⟩ = some v := (h.cell i).trans hi
theorem Row.frozen (h : Row w g t cs) (i : Nat) : w.frozen? ⟨g, i, none⟩ = false := by
  have h' : w.heap[g]? = _ := h
  simp [World.frozen?, h']
theorem Row.new (w : World) (t : TypeId) (cs : Array Value) : Row (w.alloc (.cells cs t)) w.heap.size t cs := by
  show (w.heap.push _)[w.heap.size]? = _
  rw [Array.getElem?_push_size]
theorem Row.new2 (w : World) (o : Obj) (t : TypeId) (cs : Array Value) : Row ((w.alloc o).alloc (.cells cs t)) (w.heap.size + 1) t cs := by
  have e := Row.new (w.alloc o) t cs
  rwa [show (w.alloc o).heap.size = w.heap.size + 1 by simp] at e
theorem Row.drew (h : Row w g t cs) : Row w.drew g t cs := h
theorem Row.drewN (h : Row w g t cs) (n : Nat) : Row (w.drewN n) g t cs := h
theorem Row.alloc (h : Row w g t cs) (o : Obj) : Row (w.alloc o) g t cs := (Below.heap_alloc w o g h.lt).trans h
theorem Row.set (h : Row w g t cs) (i : Nat) (u : Value) : Row (w.setCell ⟨g, i, none⟩ u) g t (cs.setIfInBounds i u) := by
  have h' : w.heap[g]? = _ := h
  show (World.setCell w ⟨g, i, none⟩ u).heap[g]? = _
  simp [World.setCell, Array.getElem?_modify, h']
theorem Row.far (h : Row w g t cs) {p : Addr} (hp : g ≠ p.block) (u : Value) : Row (w.setCell p u) g t cs := (Below.heap_setCell w p u g hp).trans h
theorem Row.only (h : Row w g t cs) (ho : Only S w w') (hg : ¬ S g) : Row w' g t cs := (ho.block g h.lt hg).trans h
theorem Row.same {t' : TypeId} {cs' : Array Value} (h : Row w g t cs) (h' : Row w g t' cs') : t = t' ∧ cs = cs' := by
  have e := h.symm.trans h'
  simp only [Option.some.injEq, Obj.cells.injEq] at e
  exact ⟨e.2.1, e.1⟩
theorem Only.refl (S : Nat → Prop) (w : World) : Only S w w := ⟨rfl, rfl, rfl, Nat.le_refl _, fun _ _ _ => rfl⟩
theorem Only.trans (h : Only S w w') (k : Only S w' w'') : Only S w w'' :=
  ⟨k.os.trans h.os, k.tape.trans h.tape, k.output.trans h.output, Nat.le_trans h.size k.size, fun i hi hS => (k.block i (Nat.lt_of_lt_of_le hi h.size) hS).trans (h.block i hi hS)⟩
theorem Only.mono (h : Only S w w') (hST : ∀ k, k < w.heap.size → S k → T k) : Only T w w' := ⟨h.os, h.tape, h.output, h.size, fun i hi hT => h.block i hi (fun hs => hT (hST i hi hs))⟩
theorem Only.step (h : Only S w w') (k : Only T w' w'') (hT : ∀ i, i < w.heap.size → T i → S i) : Only S w w'' :=
  ⟨k.os.trans h.os, k.tape.trans h.tape, k.output.trans h.output, Nat.le_trans h.size k.size, fun i hi hS => (k.block i (Nat.lt_of_lt_of_le hi h.size) (fun ht => hS (hT i hi ht))).trans (h.block i hi hS)⟩
theorem Only.drew (h : Only S w w') : Only S w w'.drew := ⟨h.os, h.tape, h.output, h.size, h.block⟩
theorem Only.drewN (h : Only S w w') (n : Nat) : Only S w (w'.drewN n) := ⟨h.os, h.tape, h.output, h.size, h.block⟩
theorem Only.alloc (h : Only S w w') (o : Obj) : Only S w (w'.alloc o) :=
  ⟨h.os, h.tape, h.output, Nat.le_trans h.size (by simp), fun i hi hS => (Below.heap_alloc w' o i (Nat.lt_of_lt_of_le hi h.size)).trans (h.block i hi hS)⟩
theorem Only.setCell (h : Only S w w') {p : Addr} (hp : w.heap.size ≤ p.block ∨ S p.block) (u : Value) : Only S w (w'.setCell p u) :=
  ⟨h.os, h.tape, h.output, by simpa [World.setCell] using h.size, fun i hi hS => (Below.heap_setCell w' p u i (by
    rintro rfl
    rcases hp with hp | hp
    · omega
    · exact hS hp)).trans (h.block i hi hS)⟩
theorem Only.grown {row : Option Nat} (h : Only S w w') (hg : w'.grownBy w'' row) (hr : ∀ k, row = some k → w.heap.size ≤ k ∨ S k) : Only S w w'' :=
  ⟨hg.os.trans h.os, hg.tape.trans h.tape, hg.output.trans h.output, Nat.le_trans h.size hg.size, fun i hi hS => (hg.block i (Nat.lt_of_lt_of_le hi h.size) (fun e => by
    rcases hr i e.symm with hk | hk
    · omega
    · exact hS hk)).trans (h.block i hi hS)⟩
theorem Only.below {B : Nat} (h : Only S w w') (hB : B ≤ w.heap.size) (hS : ∀ k, k < B → ¬ S k) : Below B w w' :=
  ⟨h.os, h.tape, h.output, h.size, fun k hk => h.block k (Nat.lt_of_lt_of_le hk hB) (hS k hk)⟩
theorem Only.cell (h : Only S w w') {p : Addr} (hp : p.block < w.heap.size) (hS : ¬ S p.block) : w'.cell? p = w.cell? p := World.cell?_of_block (w := w) (h.block p.block hp hS)
theorem Only.frozen (h : Only S w w') {p : Addr} (hp : p.block < w.heap.size) (hS : ¬ S p.block) : w'.frozen? p = w.frozen? p := World.frozen?_of_block (w := w) (h.block p.block hp hS)
end
theorem post_row_tmp {P : Program} {fn : Func} {R : Ending → World → Prop} {a : Act} {w : World} {p u : Tmp} {ty : TypeId} (h : fn.results = #[.cell p ty, .tmp u]) {g : Nat} {t : TypeId} {cs : Array Value} {d : TypeDesc}
    (hp : a.tmps.getD p undef = .pointer (some ⟨g, 0, none⟩)) (hg : Row w g t cs)
    (hu : P.underlying ty = some d) (hd : (match d with | .struct _ | .array _ _ => true | _ => false) = true) (hi : (P.info? ty).map (·.size) = some cs.size)
    (hf : a.defers = []) (hR : R (.returned (.tuple #[.agg cs, a.tmps.getD u undef])) w) : bodyPost P fn R .ret a w := by
  refine ⟨hf, _, ?_, hR⟩
  have hp' : a.tmps[p]?.getD undef = .pointer (some ⟨g, 0, none⟩) := by simpa using hp
  simp [results, h, hp', asAddr, run_loadVar_row w g t ty cs (0, 0) d hg hu hd hi]
theorem post_row {P : Program} {fn : Func} {R : Ending → World → Prop} {a : Act} {w : World} {p : Tmp} {ty : TypeId} (h : fn.results = #[.cell p ty]) {g : Nat} {t : TypeId} {cs : Array Value} {d : TypeDesc}
    (hp : a.tmps.getD p undef = .pointer (some ⟨g, 0, none⟩)) (hg : Row w g t cs)
    (hu : P.underlying ty = some d) (hd : (match d with | .struct _ | .array _ _ => true | _ => false) = true) (hi : (P.info? ty).map (·.size) = some cs.size)
    (hf : a.defers = []) (hR : R (.returned (.agg cs)) w) : bodyPost P fn R .ret a w :=
  ⟨hf, _, results_cell_row h a.tmps w g t cs (0, 0) d hp hg hu hd hi, hR⟩
def Nil : Nat → Prop := fun _ => False
def Ints (w : World) (B : Nat) (k : IntKind) (A : Option Addr) (xs : List Int) : Prop :=
  0 < xs.length → ∃ b o, A = some ⟨b, o, none⟩ ∧ b < B ∧ ∀ i, i < xs.length → w.cell? ⟨b, o + i, none⟩ = some (.int k (xs.getD i 0))
theorem add_block (a : Addr) (i : Nat) : (a.add i).block = a.block := by unfold Addr.add; split <;> rfl
theorem add_at (g o i : Nat) : (⟨g, o, none⟩ : Addr).add i = ⟨g, o + i, none⟩ := by
  unfold Addr.add
  by_cases h : i = 0
  · simp [h]
  · simp [h]
section
variable {w w' : World} {B B' : Nat} {k : IntKind} {A : Option Addr} {xs : List Int} {S : Nat → Prop}
theorem Ints.keep (h : Ints w B k A xs) (hk : ∀ p : Addr, p.block < B → w'.cell? p = w.cell? p) : Ints w' B k A xs := fun hn => by
  obtain ⟨b, o, e, hb, hc⟩ := h hn
  exact ⟨b, o, e, hb, fun i hi => (hk _ hb).trans (hc i hi)⟩
theorem Ints.only (h : Ints w B k A xs) (ho : Only S w w') (hB : B ≤ w.heap.size) (hS : ∀ i, i < B → ¬ S i) : Ints w' B k A xs :=
  h.keep fun _ hp => ho.cell (Nat.lt_of_lt_of_le hp hB) (hS _ hp)
theorem Ints.drew (h : Ints w B k A xs) : Ints w.drew B k A xs := h
theorem Ints.drewN (h : Ints w B k A xs) (n : Nat) : Ints (w.drewN n) B k A xs := h
theorem Ints.alloc (h : Ints w B k A xs) (hB : B ≤ w.heap.size) (o : Obj) : Ints (w.alloc o) B k A xs := h.keep fun p hp => World.cell?_alloc_lt w o p (by omega)
theorem Ints.more (h : Ints w B k A xs) (hB : B ≤ B') : Ints w B' k A xs := fun hn => by
  obtain ⟨b, o, e, hb, hc⟩ := h hn
  exact ⟨b, o, e, by omega, hc⟩
theorem Ints.of_own {base : Nat} {e : TypeId} {c n : Nat} (h : w.ownsRow base e 1 (.slice A n c) n (xs.map (.int k))) : Ints w w.heap.size k A xs := fun hn => by
  obtain ⟨hl, h2⟩ := h
  rw [List.length_map, Nat.mul_one] at hl
  rcases h2 with ⟨_, h0⟩ | ⟨g, cap, cur, hv, _, hg, _, _, _, ht⟩
  · omega
  · injection hv with h1
    subst h1
    have hr : Row w g e cur := hg
    refine ⟨g, 0, rfl, hr.lt, fun i hi => ?_⟩
    rw [Nat.zero_add]
    refine hr.cell_ ?_
    have e1 : (cur.toList.take (n * 1))[i]? = (xs.map (Value.int k))[i]? := by rw [ht]
    rw [List.getElem?_take, if_pos (by omega), List.getElem?_map, List.getElem?_eq_getElem hi] at e1
    simp only [Option.map_some, Array.getElem?_toList] at e1
    rw [e1]
    simp [List.getD, List.getElem?_eq_getElem hi]
theorem own_only {base : Nat} {e : TypeId} {size : Nat} {v : Value} {n : Nat} {vs : List Value} (h : w.ownsRow base e size v n vs) (ho : Only S w w') (hS : ∀ i, v.ownBlock = some i → ¬ S i) : w'.ownsRow base e size v n vs := by
  refine ⟨h.1, ?_⟩
  rcases h.2 with hn | ⟨g, cap, cur, rfl, hb, hgg, rest⟩
  · exact .inl hn
  · exact .inr ⟨g, cap, cur, rfl, hb, (ho.block g (Array.getElem?_eq_some_iff.1 hgg).1 (hS g rfl)).trans hgg, rest⟩
end
def Drew (w w' : World) : Prop := ∃ k : Nat, w' = w.drewN k
theorem Drew.refl (w : World) : Drew w w := ⟨0, rfl⟩
theorem Drew.n (w : World) (k : Nat) : Drew w (w.drewN k) := ⟨k, rfl⟩
theorem Drew.trans {w w' w'' : World} (h : Drew w w') (k : Drew w' w'') : Drew w w'' := by
  obtain ⟨a, rfl⟩ := h
  obtain ⟨b, rfl⟩ := k
  exact ⟨a + b, World.drewN_drewN ..⟩
theorem Drew.only {S : Nat → Prop} {w w' : World} (h : Drew w w') : Only S w w' := by
  obtain ⟨a, rfl⟩ := h
  exact (Only.refl S w).drewN a
theorem Drew.cell {w w' : World} (h : Drew w w') (p : Addr) : w'.cell? p = w.cell? p := by obtain ⟨a, rfl⟩ := h; rfl
theorem Drew.size {w w' : World} (h : Drew w w') : w'.heap.size = w.heap.size := by obtain ⟨a, rfl⟩ := h; rfl
theorem Drew.row {w w' : World} (h : Drew w w') {g : Nat} {t : TypeId} {cs : Array Value} (r : Row w g t cs) : Row w' g t cs := by obtain ⟨a, rfl⟩ := h; exact r
theorem wf_u32 {n : Int} (h : (Lit.int .u32 n).wf = true) : 0 ≤ n ∧ n < 4294967296 := by
  have h1 : IntKind.u32.min = 0 := rfl
  have h2 : IntKind.u32.max = 4294967295 := rfl
  simp only [Lit.wf, Bool.and_eq_true, decide_eq_true_eq] at h
  omega
theorem wf_u8 {n : Int} (h : (Lit.int .u8 n).wf = true) : 0 ≤ n ∧ n < 256 := by
  have h1 : IntKind.u8.min = 0 := rfl
  have h2 : IntKind.u8.max = 255 := rfl
  simp only [Lit.wf, Bool.and_eq_true, decide_eq_true_eq] at h
  omega
theorem k1 : ∀ {α : Type _} (l : List α) (i : Nat) (a : α), l.toArray.setIfInBounds i a = (l.set i a).toArray := @List.setIfInBounds_toArray
theorem k2 : ∀ {α : Type _} {x : α} {xs : List α} {a : α}, (x :: xs).set 0 a = a :: xs := @List.set_cons_zero
theorem k3 : ∀ {α : Type _} {x : α} {xs : List α} {i : Nat} {a : α}, (x :: xs).set (i + 1) a = x :: xs.set i a := @List.set_cons_succ
end Go.Proofs.Ytkkldcggbekleaa
namespace Go.Proofs.Ytkkldcggbekleaa
open Go.RowKit
def okN (n : Int) : Bool := decide (1 ≤ n) && decide (n ≤ 64)
theorem okN_yes {n : Int} (h : 1 ≤ n ∧ n ≤ 64) : okN n = true := by simp [okN, h.1, h.2]
theorem okN_no {n : Int} (h : ¬ (1 ≤ n ∧ n ≤ 64)) : okN n = false := by
  simp only [okN, Bool.and_eq_false_iff, decide_eq_false_iff_not]; omega
def cellI (n row i : Int) : Int := if 1 ≤ n ∧ n ≤ 64 ∧ 0 ≤ i ∧ i < n then 8 + row * n + i else -1
def sizeI (n : Int) : Int := if 1 ≤ n ∧ n ≤ 64 then 8 + 4 * n else 0
theorem ret_int {k : IntKind} {a b : Int} (h : a = b) : Ending.returned (.int k a) = .returned (.int k b) := by rw [h]
theorem isCount_any (n : Int) (w : World) :
    Calls Try.prog 28 #[.int .i64 n] w fun e w' => e = .returned (.bool (okN n)) ∧ w = w' := by
  by_cases h1 : 1 ≤ n
  · by_cases h2 : n ≤ 64
    · rw [okN_yes ⟨h1, h2⟩]
      go_enter Try.func28, Try.ntmps28
      go_wp2
      go_ret
      exact ⟨rfl, rfl⟩
    · rw [okN_no (fun h => h2 h.2)]
      go_enter Try.func28, Try.ntmps28
      go_wp2
      go_ret
      exact ⟨rfl, rfl⟩
  · rw [okN_no (fun h => h1 h.1)]
    go_enter Try.func28, Try.ntmps28
    go_wp2
    go_ret
    exact ⟨rfl, rfl⟩
theorem cell_row (n row i : Int) (w : World) (hr : row = 0 ∨ row = 1 ∨ row = 2 ∨ row = 3) :
    Calls Try.prog 96 #[.agg #[.int .i64 n], .int .i64 row, .int .i64 i] w fun e w' => e = .returned (.int .i64 (cellI n row i)) ∧ Only Nil w w' := by
  by_cases hn : 1 ≤ n ∧ n ≤ 64
  · by_cases h0 : 0 ≤ i
    · by_cases h1 : i < n
      · have hc : cellI n row i = 8 + row * n + i := if_pos ⟨hn.1, hn.2, h0, h1⟩
        rw [hc]
        clear hc
        have HK := Lib.hid (okN_yes hn)
        obtain ⟨n1, n2⟩ := hn
        rcases hr with rfl | rfl | rfl | rfl
        all_goals
          go_enter Try.func96, Try.ntmps96
          go_wp2_with fail
          refine (isCount_any n _).mono ?_
          rw [HK.out]
          rintro e w1 ⟨rfl, rfl⟩
          go_wp2
          go_ret
          exact ⟨ret_int (by omega), by (repeat' (first | (with_reducible exact Only.refl _ _) | (with_reducible assumption) | (with_reducible refine Only.setCell ?_ ?_ _) | (with_reducible refine Only.drewN ?_ _) | (with_reducible refine Only.drew ?_) | (with_reducible refine Only.alloc ?_ _) | (left; simp; done) | (left; simp; omega) | (right; rfl)))⟩
      · have hc : cellI n row i = -1 := if_neg (fun h => h1 h.2.2.2)
        rw [hc]
        clear hc hr
        have HK := Lib.hid (okN_yes hn)
        clear hn
        go_enter Try.func96, Try.ntmps96
        go_wp2_with fail
        refine (isCount_any n _).mono ?_
        rw [HK.out]
        rintro e w1 ⟨rfl, rfl⟩
        go_wp2
        go_ret
        exact ⟨rfl, by (repeat' (first | (with_reducible exact Only.refl _ _) | (with_reducible assumption) | (with_reducible refine Only.setCell ?_ ?_ _) | (with_reducible refine Only.drewN ?_ _) | (with_reducible refine Only.drew ?_) | (with_reducible refine Only.alloc ?_ _) | (left; simp; done) | (left; simp; omega) | (right; rfl)))⟩
    · have hc : cellI n row i = -1 := if_neg (fun h => h0 h.2.2.1)
      rw [hc]
      clear hc hr
      have HK := Lib.hid (okN_yes hn)
      clear hn
      go_enter Try.func96, Try.ntmps96
      go_wp2_with fail
      refine (isCount_any n _).mono ?_
      rw [HK.out]
      rintro e w1 ⟨rfl, rfl⟩
      go_wp2
      go_ret
      exact ⟨rfl, by (repeat' (first | (with_reducible exact Only.refl _ _) | (with_reducible assumption) | (with_reducible refine Only.setCell ?_ ?_ _) | (with_reducible refine Only.drewN ?_ _) | (with_reducible refine Only.drew ?_) | (with_reducible refine Only.alloc ?_ _) | (left; simp; done) | (left; simp; omega) | (right; rfl)))⟩
  · have hc : cellI n row i = -1 := if_neg (fun h => hn ⟨h.1, h.2.1⟩)
    rw [hc]
    clear hc hr
    have HK := Lib.hid (okN_no hn)
    clear hn
    go_enter Try.func96, Try.ntmps96
    go_wp2_with fail
    refine (isCount_any n _).mono ?_
    rw [HK.out]
    rintro e w1 ⟨rfl, rfl⟩
    go_wp2
    go_ret
    exact ⟨rfl, by (repeat' (first | (with_reducible exact Only.refl _ _) | (with_reducible assumption) | (with_reducible refine Only.setCell ?_ ?_ _) | (with_reducible refine Only.drewN ?_ _) | (with_reducible refine Only.drew ?_) | (with_reducible refine Only.alloc ?_ _) | (left; simp; done) | (left; simp; omega) | (right; rfl)))⟩
end Go.Proofs.Ytkkldcggbekleaa
set_option linter.unusedVariables false
set_option linter.unusedSimpArgs false
namespace Go.Proofs.Ytkkldcggbekleaa
open Go.RowKit
theorem new_yes (n : Int) (w : World) (hn : 1 ≤ n ∧ n ≤ 64) :
    Calls Try.prog 17 #[.int .i64 n] w fun e w' => e = .returned (.tuple #[.agg #[.int .i64 n], .int .i64 0]) ∧ Only Nil w w' := by
  have HK := Lib.hid (okN_yes hn)
  clear hn
  go_enter Try.func17, Try.ntmps17
  go_wp2_with fail
  refine (isCount_any n _).mono ?_
  rw [HK.out]
  rintro e w1 ⟨rfl, rfl⟩
  go_wp2
  exact bodyPost_ret (v := .tuple #[.agg #[.int .i64 n], .int .i64 0]) (by simp [results, Try.results17, go_sem]) rfl ⟨rfl, by (repeat' (first | (with_reducible exact Only.refl _ _) | (with_reducible assumption) | (with_reducible refine Only.setCell ?_ ?_ _) | (with_reducible refine Only.drewN ?_ _) | (with_reducible refine Only.drew ?_) | (with_reducible refine Only.alloc ?_ _) | (left; simp; done) | (left; simp; omega) | (right; rfl)))⟩
end Go.Proofs.Ytkkldcggbekleaa
set_option linter.unusedVariables false
set_option linter.unusedSimpArgs false
namespace Go.Proofs.Ytkkldcggbekleaa
open Go.RowKit
theorem size_any (n : Int) (w : World) :
    Calls Try.prog 18 #[.agg #[.int .i64 n]] w fun e w' => e = .returned (.int .i64 (sizeI n)) ∧ Only Nil w w' := by
  by_cases hn : 1 ≤ n ∧ n ≤ 64
  · have hc : sizeI n = 8 + 4 * n := if_pos hn
    rw [hc]
    clear hc
    have HK := Lib.hid (okN_yes hn)
    obtain ⟨n1, n2⟩ := hn
    go_enter Try.func18, Try.ntmps18
    go_wp2_with fail
    refine (isCount_any n _).mono ?_
    rw [HK.out]
    rintro e w1 ⟨rfl, rfl⟩
    go_wp2
    go_ret
    exact ⟨rfl, by (repeat' (first | (with_reducible exact Only.refl _ _) | (with_reducible assumption) | (with_reducible refine Only.setCell ?_ ?_ _) | (with_reducible refine Only.drewN ?_ _) | (with_reducible refine Only.drew ?_) | (with_reducible refine Only.alloc ?_ _) | (left; simp; done) | (left; simp; omega) | (right; rfl)))⟩
  · have hc : sizeI n = 0 := if_neg hn
    rw [hc]
    clear hc
    have HK := Lib.hid (okN_no hn)
    clear hn
    go_enter Try.func18, Try.ntmps18
    go_wp2_with fail
    refine (isCount_any n _).mono ?_
    rw [HK.out]
    rintro e w1 ⟨rfl, rfl⟩
    go_wp2
    go_ret
    exact ⟨rfl, by (repeat' (first | (with_reducible exact Only.refl _ _) | (with_reducible assumption) | (with_reducible refine Only.setCell ?_ ?_ _) | (with_reducible refine Only.drewN ?_ _) | (with_reducible refine Only.drew ?_) | (with_reducible refine Only.alloc ?_ _) | (left; simp; done) | (left; simp; omega) | (right; rfl)))⟩
end Go.Proofs.Ytkkldcggbekleaa
namespace Go.Proofs.Ytkkldcggbekleaa
open Go.RowKit
def names1 : Array Value := #[.string ⟨#[117, 115, 101, 114, 115]⟩, .string ⟨#[114, 101, 97, 100, 115]⟩, .string ⟨#[119, 114, 105, 116, 101, 115]⟩]
def names2 : Array Value := #[.string ⟨#[114, 105, 110]⟩, .string ⟨#[114, 111, 117, 116]⟩, .string ⟨#[119, 105, 110]⟩, .string ⟨#[119, 111, 117, 116]⟩, .string ⟨#[112, 104, 97, 115, 101]⟩]
def names3 : Array Value := #[.string ⟨#[114, 105, 110]⟩, .string ⟨#[114, 111, 117, 116]⟩, .string ⟨#[116, 97, 105, 108]⟩, .string ⟨#[112, 104, 97, 115, 101]⟩]
def names4 : Array Value := #[.string ⟨#[116, 97, 105, 108]⟩, .string ⟨#[99, 111, 117, 110, 116]⟩]
def names5 : Array Value := #[.string ⟨#[119, 111, 114, 100]⟩]
def names6 : Array Value := #[.string ⟨#[119, 111, 114, 100]⟩]
def ownV (k : Int) : Array Value := if k = 1 then names1 else if k = 2 then names2 else if k = 3 then names3 else if k = 4 then names4 else if k = 5 then names5 else if k = 6 then names6 else #[]
theorem kinds {k : Int} (h : 1 ≤ k ∧ k ≤ 6) : k = 1 ∨ k = 2 ∨ k = 3 ∨ k = 4 ∨ k = 5 ∨ k = 6 := by omega
theorem name_at (k : Int) (hk : 1 ≤ k ∧ k ≤ 6) (c : Nat) (hc : c < (ownV k).size) : ∃ s, (ownV k)[c]? = some (.string s) := by
  rcases kinds hk with rfl | rfl | rfl | rfl | rfl | rfl
  · rcases (show c = 0 ∨ c = 1 ∨ c = 2 by have : c < 3 := hc; omega) with rfl | rfl | rfl <;> exact ⟨_, rfl⟩
  · rcases (show c = 0 ∨ c = 1 ∨ c = 2 ∨ c = 3 ∨ c = 4 by have : c < 5 := hc; omega) with rfl | rfl | rfl | rfl | rfl <;> exact ⟨_, rfl⟩
  · rcases (show c = 0 ∨ c = 1 ∨ c = 2 ∨ c = 3 by have : c < 4 := hc; omega) with rfl | rfl | rfl | rfl <;> exact ⟨_, rfl⟩
  · rcases (show c = 0 ∨ c = 1 by have : c < 2 := hc; omega) with rfl | rfl <;> exact ⟨_, rfl⟩
  · rcases (show c = 0 by have : c < 1 := hc; omega) with rfl; exact ⟨_, rfl⟩
  · rcases (show c = 0 by have : c < 1 := hc; omega) with rfl; exact ⟨_, rfl⟩
theorem own_size (k : Int) (hk : 1 ≤ k ∧ k ≤ 6) : 1 ≤ (ownV k).size ∧ (ownV k).size ≤ 5 := by
  rcases kinds hk with rfl | rfl | rfl | rfl | rfl | rfl <;> exact ⟨by decide, by decide⟩
def NamesAt (k : Int) (w : World) (e : Ending) (w' : World) : Prop :=
  ∃ g, e = .returned (.slice (some ⟨g, 0, none⟩) (ownV k).size (ownV k).size) ∧ w.heap.size ≤ g ∧ Row w' g 9 (ownV k) ∧ Only Nil w w'
def asIs (v : Value) : Option (DataW Value × List MemPlace) := some (.held v, [])
abbrev key (k : Int) : Lit := .int .i64 k
theorem hkeyOf (n : Int) (h : (Lit.int .i64 n).wf = true) : keyOf Try.prog 3 (.int .i64 n) = some (key n) := Maps.keyOf_int_mk Try.underlying3 h
theorem put_list {w : World} {B n : Nat} {D : DataW Value} (h : w.ownsMap Try.prog 3 asIs B n D) (hn : n < 100) (q : Int) (hq : (Lit.int .i64 q).wf = true) (cs : Array Value) (m : Nat) (g : Nat) (hg0 : w.heap.size = g) :
    ∃ w', (Instr.mapUpdate 82 (.map (some B)) (.int .i64 q) (.slice (some ⟨g, 0, none⟩) m m)).run Try.prog (w.alloc (.cells cs 9)) = .ok () w' ∧
      w'.ownsMap Try.prog 3 asIs B (n + 1) (D.put (key q) (.held (.slice (some ⟨g, 0, none⟩) m m))) ∧ Row w' g 9 cs ∧ g < w'.heap.size ∧ Only (fun i => i = B) w w' := by
  subst hg0
  obtain ⟨w', hrun, ho, hg⟩ := (h.alloc (.cells cs 9)).update (Maps.int_keyed Try.underlying3) Try.underlying82 (by unfold maxLen; omega) (hkeyOf q hq) (d := .held (.slice (some ⟨w.heap.size, 0, none⟩) m m)) (ps := []) rfl
  have hlt := h.lt
  have hsz := hg.size
  refine ⟨w', hrun, ho, ?_, by simp at hsz; omega, ((Only.refl _ _).alloc _).grown hg (fun k hk => by injection hk with hk; right; exact hk.symm)⟩
  exact (hg.block w.heap.size (by simp) (by simp; omega)).trans (Row.new w _ _)
theorem zero_list (w : World) : (zeroValue 65).run Try.prog w = .ok (.slice none 0 0) w := by kernel_rfl
def six (v1 v2 v3 v4 v5 v6 : Value) : DataW Value := ((((((DataW.map []).put (key 1) (.held v1)).put (key 2) (.held v2)).put (key 3) (.held v3)).put (key 4) (.held v4)).put (key 5) (.held v5)).put (key 6) (.held v6)
theorem six_is (v1 v2 v3 v4 v5 v6 : Value) : six v1 v2 v3 v4 v5 v6 = .map [(key 1, .held v1), (key 2, .held v2), (key 3, .held v3), (key 4, .held v4), (key 5, .held v5), (key 6, .held v6)] := by
  simp [six, DataW.put, DataW.insert, Lit.before, Lit.sameKey, key]
def pickV (k : Int) (v1 v2 v3 v4 v5 v6 : Value) : Value := if k = 1 then v1 else if k = 2 then v2 else if k = 3 then v3 else if k = 4 then v4 else if k = 5 then v5 else if k = 6 then v6 else .slice none 0 0
theorem six_at (k : Int) (v1 v2 v3 v4 v5 v6 : Value) : (six v1 v2 v3 v4 v5 v6).atKey (key k) (.held (.slice none 0 0)) = .held (pickV k v1 v2 v3 v4 v5 v6) := by
  rw [six_is]
  by_cases hk : 1 ≤ k ∧ k ≤ 6
  · rcases kinds hk with rfl | rfl | rfl | rfl | rfl | rfl <;> simp [DataW.atKey, pickV, Lit.sameKey, key]
  · have h1 : ¬ 1 = k := by omega
    have h2 : ¬ 2 = k := by omega
    have h3 : ¬ 3 = k := by omega
    have h4 : ¬ 4 = k := by omega
    have h5 : ¬ 5 = k := by omega
    have h6 : ¬ 6 = k := by omega
    simp [DataW.atKey, pickV, Lit.sameKey, key, h1, h2, h3, h4, h5, h6, Ne.symm h1, Ne.symm h2, Ne.symm h3, Ne.symm h4, Ne.symm h5, Ne.symm h6]
theorem get_list {w : World} {B n : Nat} {v1 v2 v3 v4 v5 v6 : Value} (h : w.ownsMap Try.prog 3 asIs B n (six v1 v2 v3 v4 v5 v6)) (k : Int) (hk : (Lit.int .i64 k).wf = true) :
    (Instr.lookup 82 (.map (some B)) (.int .i64 k) false).run Try.prog w = .ok (pickV k v1 v2 v3 v4 v5 v6) w := by
  obtain ⟨v, ps, hrun, hv⟩ := h.lookup (Maps.int_keyed Try.underlying3) Try.underlying82 (zero_list w) (zd := .held (.slice none 0 0)) (zp := []) rfl (hkeyOf k hk)
  rw [six_at] at hv
  simp only [asIs, Option.some.injEq, Prod.mk.injEq, DataW.held.injEq] at hv
  rw [hrun, hv.1]
def NamesIn (k : Int) (w : World) (e : Ending) (w' : World) : Prop :=
  ∃ g1 g2 g3 g4 g5 g6, e = .returned (pickV k (.slice (some ⟨g1, 0, none⟩) 3 3) (.slice (some ⟨g2, 0, none⟩) 5 5) (.slice (some ⟨g3, 0, none⟩) 4 4) (.slice (some ⟨g4, 0, none⟩) 2 2) (.slice (some ⟨g5, 0, none⟩) 1 1) (.slice (some ⟨g6, 0, none⟩) 1 1)) ∧
    w.heap.size ≤ g1 ∧ w.heap.size ≤ g2 ∧ w.heap.size ≤ g3 ∧ w.heap.size ≤ g4 ∧ w.heap.size ≤ g5 ∧ w.heap.size ≤ g6 ∧
    Row w' g1 9 names1 ∧ Row w' g2 9 names2 ∧ Row w' g3 9 names3 ∧ Row w' g4 9 names4 ∧ Row w' g5 9 names5 ∧ Row w' g6 9 names6 ∧ Only Nil w w'
set_option maxRecDepth 100000 in
set_option maxHeartbeats 1000000 in
theorem ownNames_in (k : Int) (w : World) (hk : (Lit.int .i64 k).wf = true) : Calls Try.prog 16 #[.int .i64 k] w (NamesIn k w) := by
  have HK := Lib.hid hk
  clear hk
  have hmm := @run_makeMap Try.prog
  have HO0 := Lib.hid (World.ownsMap_made w Try.prog 3 asIs)
  go_enter Try.func16, Try.ntmps16
  go_wp2_with fail
  obtain ⟨wx1, hrun, ho, hR, hz, hO⟩ := put_list HO0.out (by omega) 1 rfl names1 3 (w.heap.size+1) (by simp)
  unfold names1 at hrun
  rw [hrun]
  have HO1 := Lib.hid ho
  have HR1 := Lib.hid hR
  have HZ1 := Lib.hid hz
  have HL1 := Lib.hid hO
  clear hrun ho hR hz hO
  go_wp2_with fail
  obtain ⟨wx2, hrun, ho, hR, hz, hO⟩ := put_list HO1.out (by omega) 2 rfl names2 5 wx1.heap.size (by simp)
  unfold names2 at hrun
  rw [hrun]
  have HO2 := Lib.hid ho
  have HR2 := Lib.hid hR
  have HZ2 := Lib.hid hz
  have HL2 := Lib.hid hO
  clear hrun ho hR hz hO
  go_wp2_with fail
  obtain ⟨wx3, hrun, ho, hR, hz, hO⟩ := put_list HO2.out (by omega) 3 rfl names3 4 wx2.heap.size (by simp)
  unfold names3 at hrun
  rw [hrun]
  have HO3 := Lib.hid ho
  have HR3 := Lib.hid hR
  have HZ3 := Lib.hid hz
  have HL3 := Lib.hid hO
  clear hrun ho hR hz hO
  go_wp2_with fail
  obtain ⟨wx4, hrun, ho, hR, hz, hO⟩ := put_list HO3.out (by omega) 4 rfl names4 2 wx3.heap.size (by simp)
  unfold names4 at hrun
  rw [hrun]
  have HO4 := Lib.hid ho
  have HR4 := Lib.hid hR
  have HZ4 := Lib.hid hz
  have HL4 := Lib.hid hO
  clear hrun ho hR hz hO
  go_wp2_with fail
  obtain ⟨wx5, hrun, ho, hR, hz, hO⟩ := put_list HO4.out (by omega) 5 rfl names5 1 wx4.heap.size (by simp)
  unfold names5 at hrun
  rw [hrun]
  have HO5 := Lib.hid ho
  have HR5 := Lib.hid hR
  have HZ5 := Lib.hid hz
  have HL5 := Lib.hid hO
  clear hrun ho hR hz hO
  go_wp2_with fail
  obtain ⟨wx6, hrun, ho, hR, hz, hO⟩ := put_list HO5.out (by omega) 6 rfl names6 1 wx5.heap.size (by simp)
  unfold names6 at hrun
  rw [hrun]
  have HO6 := Lib.hid ho
  have HR6 := Lib.hid hR
  have HZ6 := Lib.hid hz
  have HL6 := Lib.hid hO
  clear hrun ho hR hz hO
  have hs1 : w.heap.size + 1 < wx1.heap.size := HZ1.out
  have HS1 := Lib.hid hs1
  clear hs1
  have HGET := Lib.hid (get_list HO6.out k HK.out)
  have hget := HGET.out
  go_wp2
  go_ret
  have l2 := HL2.out
  have l3 := HL3.out
  have l4 := HL4.out
  have l5 := HL5.out
  have l6 := HL6.out
  have z1 := HS1.out
  have z2 := l2.size
  have z3 := l3.size
  have z4 := l4.size
  have z5 := l5.size
  have hq := HL1.out
  have q0 : Only Nil w (w.alloc (.map #[] 0)) := (Only.refl _ _).alloc _
  have q1 : Only Nil w wx6 := (((((q0.step hq (fun i hi h => by omega)).step l2 (fun i hi h => by omega)).step l3 (fun i hi h => by omega)).step l4 (fun i hi h => by omega)).step l5 (fun i hi h => by omega)).step l6 (fun i hi h => by omega)
  exact ⟨_, _, _, _, _, _, rfl, by omega, by omega, by omega, by omega, by omega, by omega,
    ((((HR1.out.only l2 (by omega)).only l3 (by omega)).only l4 (by omega)).only l5 (by omega)).only l6 (by omega),
    (((HR2.out.only l3 (by omega)).only l4 (by omega)).only l5 (by omega)).only l6 (by omega),
    ((HR3.out.only l4 (by omega)).only l5 (by omega)).only l6 (by omega),
    (HR4.out.only l5 (by omega)).only l6 (by omega), HR5.out.only l6 (by omega), HR6.out, q1⟩
theorem ownNames_yes (k : Int) (w : World) (hk : 1 ≤ k ∧ k ≤ 6) : Calls Try.prog 16 #[.int .i64 k] w (NamesAt k w) := by
  have hwf : (Lit.int .i64 k).wf = true := by rcases kinds hk with rfl | rfl | rfl | rfl | rfl | rfl <;> rfl
  refine (ownNames_in k w hwf).mono fun e w' ⟨g1, g2, g3, g4, g5, g6, he, b1, b2, b3, b4, b5, b6, r1, r2, r3, r4, r5, r6, hO⟩ => ?_
  rcases kinds hk with rfl | rfl | rfl | rfl | rfl | rfl
  · exact ⟨g1, he, b1, r1, hO⟩
  · exact ⟨g2, he, b2, r2, hO⟩
  · exact ⟨g3, he, b3, r3, hO⟩
  · exact ⟨g4, he, b4, r4, hO⟩
  · exact ⟨g5, he, b5, r5, hO⟩
  · exact ⟨g6, he, b6, r6, hO⟩
end Go.Proofs.Ytkkldcggbekleaa
namespace Go.Proofs.Ytkkldcggbekleaa
open Go.RowKit
def wordI (k : Int) (c : Nat) (b : Int) : Int :=
  if k = 1 ∧ c ≤ 2 then b else if k = 2 ∧ c ≤ 1 then b * 256 % 4294967296 else if k = 2 ∧ c ≤ 4 then b else if k = 3 ∧ c ≤ 1 then b * 256 % 4294967296 else if k = 3 ∧ c = 3 then b
  else if k = 6 ∧ c = 0 then b % 256 * 256 + b % 256 * 65536 else 0
theorem low8 {x : Int} (hx : 0 ≤ x ∧ x < 4294967296) : bits .and .u32 x 255 = x % 256 := by
  have := bits_mask .u32 32 (by decide) (fun k h0 h1 => by rw [IntKind.wrap_u32']; omega) 8 (by omega) x hx.1 (by simpa using hx.2)
  simpa using this
theorem both8 {b : Int} (hb : 0 ≤ b ∧ b < 4294967296) :
    bits BinOp.or IntKind.u32 (bits BinOp.and IntKind.u32 b 255 * 256 % 4294967296) (bits BinOp.and IntKind.u32 b 255 * 65536 % 4294967296) = b % 256 * 256 + b % 256 * 65536 := by
  rw [low8 hb]
  obtain ⟨X, hX⟩ := Int.eq_ofNat_of_zero_le (show 0 ≤ b % 256 by omega)
  have hX' : X < 256 := by omega
  rw [hX, show (X : Int) * 256 % 4294967296 = ((X * 256 : Nat) : Int) by omega, show (X : Int) * 65536 % 4294967296 = ((X * 65536 : Nat) : Int) by omega,
    u32_or_nat _ _ (by omega) (by omega), Nat.or_comm, nat_join 16 _ _ (by omega) (by omega)]
  omega
theorem firstWord_one (k : Int) (c : Nat) (s : ByteArray) (b : Int) (w : World) (hk : 1 ≤ k ∧ k ≤ 6) (hs : (ownV k)[c]? = some (.string s)) (hb : 0 ≤ b ∧ b < 4294967296) :
    Calls Try.prog 19 #[.int .i64 k, .string s, .int .u32 b] w fun e w' => e = .returned (.int .u32 (wordI k c b)) ∧ w = w' := by
  obtain ⟨b1, b2⟩ := hb
  rcases kinds hk with rfl | rfl | rfl | rfl | rfl | rfl
  · clear hk
    have hc : c < 3 := (Array.getElem?_eq_some_iff.1 hs).1
    rcases (show c = 0 ∨ c = 1 ∨ c = 2 by omega) with rfl | rfl | rfl
    all_goals
      injection (Option.some.inj hs) with hs
      subst hs
      go_enter Try.func19, Try.ntmps19
      go_wp2
      go_ret
      first | exact ⟨rfl, rfl⟩ | (refine ⟨ret_int ?_, rfl⟩; simp [wordI]; done) | (refine ⟨ret_int ?_, rfl⟩; simp [wordI]; exact both8 ⟨b1, b2⟩)
  · clear hk
    have hc : c < 5 := (Array.getElem?_eq_some_iff.1 hs).1
    rcases (show c = 0 ∨ c = 1 ∨ c = 2 ∨ c = 3 ∨ c = 4 by omega) with rfl | rfl | rfl | rfl | rfl
    all_goals
      injection (Option.some.inj hs) with hs
      subst hs
      go_enter Try.func19, Try.ntmps19
      go_wp2
      go_ret
      first | exact ⟨rfl, rfl⟩ | (refine ⟨ret_int ?_, rfl⟩; simp [wordI]; done) | (refine ⟨ret_int ?_, rfl⟩; simp [wordI]; exact both8 ⟨b1, b2⟩)
  · clear hk
    have hc : c < 4 := (Array.getElem?_eq_some_iff.1 hs).1
    rcases (show c = 0 ∨ c = 1 ∨ c = 2 ∨ c = 3 by omega) with rfl | rfl | rfl | rfl
    all_goals
      injection (Option.some.inj hs) with hs
      subst hs
      go_enter Try.func19, Try.ntmps19
      go_wp2
      go_ret
      first | exact ⟨rfl, rfl⟩ | (refine ⟨ret_int ?_, rfl⟩; simp [wordI]; done) | (refine ⟨ret_int ?_, rfl⟩; simp [wordI]; exact both8 ⟨b1, b2⟩)
  · clear hk
    have hc : c < 2 := (Array.getElem?_eq_some_iff.1 hs).1
    rcases (show c = 0 ∨ c = 1 by omega) with rfl | rfl
    all_goals
      injection (Option.some.inj hs) with hs
      subst hs
      go_enter Try.func19, Try.ntmps19
      go_wp2
      go_ret
      first | exact ⟨rfl, rfl⟩ | (refine ⟨ret_int ?_, rfl⟩; simp [wordI]; done) | (refine ⟨ret_int ?_, rfl⟩; simp [wordI]; exact both8 ⟨b1, b2⟩)
  · clear hk
    have hc : c < 1 := (Array.getElem?_eq_some_iff.1 hs).1
    rcases (show c = 0 by omega) with rfl
    all_goals
      injection (Option.some.inj hs) with hs
      subst hs
      go_enter Try.func19, Try.ntmps19
      go_wp2
      go_ret
      first | exact ⟨rfl, rfl⟩ | (refine ⟨ret_int ?_, rfl⟩; simp [wordI]; done) | (refine ⟨ret_int ?_, rfl⟩; simp [wordI]; exact both8 ⟨b1, b2⟩)
  · clear hk
    have hc : c < 1 := (Array.getElem?_eq_some_iff.1 hs).1
    rcases (show c = 0 by omega) with rfl
    all_goals
      injection (Option.some.inj hs) with hs
      subst hs
      go_enter Try.func19, Try.ntmps19
      go_wp2
      go_ret
      first | exact ⟨rfl, rfl⟩ | (refine ⟨ret_int ?_, rfl⟩; simp [wordI]; done) | (refine ⟨ret_int ?_, rfl⟩; simp [wordI]; exact both8 ⟨b1, b2⟩)
-- FIRST
theorem infoF : (Try.prog.info? 22).map (fun i => (i.zero, i.size, i.bytes)) = some (some (.int .u32 0), 1, 4) := by kernel_rfl
def words (k : Int) (S c : Nat) (b : Int) : List Int := (List.range S).map fun j => if j < c then wordI k j b else 0
def cellsOf (l : List Int) : Array Value := (l.map (Value.int .u32)).toArray
theorem words_zero (k : Int) (S : Nat) (b : Int) : words k S 0 b = List.replicate S 0 := by
  apply List.ext_getElem
  · simp [words]
  · intro i h1 h2; simp [words]
theorem words_at (k : Int) (S c : Nat) (b : Int) (h : c < S) : (cellsOf (words k S c b))[c]? = some (.int .u32 0) := by
  simp [cellsOf, words, h]
theorem words_next (k : Int) (S c : Nat) (b : Int) : (cellsOf (words k S c b)).setIfInBounds c (.int .u32 (wordI k c b)) = cellsOf (words k S (c + 1) b) := by
  apply Array.ext_getElem?
  intro i
  rw [Array.getElem?_setIfInBounds]
  by_cases hi : c = i
  · subst hi
    by_cases hS : c < S
    · simp [cellsOf, words, hS]
    · simp [cellsOf, words, hS]
  · simp only [hi, if_false]
    simp only [cellsOf, words, List.getElem?_toArray, List.getElem?_map]
    rcases Nat.lt_or_ge i S with h | h
    · rw [List.getElem?_range h]
      simp only [Option.map_some]
      by_cases h2 : i < c
      · rw [if_pos h2, if_pos (by omega)]
      · rw [if_neg h2, if_neg (by omega)]
    · rw [List.getElem?_eq_none (by simpa using h)]
      rfl
theorem made_is (k : Int) (S : Nat) (b : Int) : madeCells #[.int .u32 0] S = cellsOf (words k S 0 b) := by
  apply Array.ext'
  rw [toList_madeCells_one, words_zero]
  simp [cellsOf]
def FirstAt (k b : Int) (S : Nat) (w : World) (e : Ending) (w' : World) : Prop :=
  ∃ g, e = .returned (.tuple #[.slice (some ⟨g, 0, none⟩) S S, .int .i64 0]) ∧ w.heap.size ≤ g ∧ Row w' g 22 (cellsOf (words k S (ownV k).size b)) ∧ Only Nil w w'
set_option maxHeartbeats 1000000 in
theorem first_yes (k n b : Int) (S : Nat) (w : World) (hk : 1 ≤ k ∧ k ≤ 6) (hn : 1 ≤ n ∧ n ≤ 64) (hS : sizeI n = S) (hb : 0 ≤ b ∧ b < 4294967296) :
    Calls Try.prog 7 #[.int .i64 k, .int .i64 n, .int .u32 b] w (FirstAt k b S w) := by
  have hz : sizeI n = 8 + 4 * n := if_pos hn
  have s1 : 12 ≤ S := by omega
  have s2 : S ≤ 300 := by omega
  have HS := Lib.hid hS
  have HB := Lib.hid hb
  have HK := Lib.hid hk
  have HN := Lib.hid hn
  clear hz hS hb hk hn
  have hmk := fun W => run_make_row' (P := Try.prog) 25 22 (.int .u32 0) 4 Try.underlying25 infoF rfl .i64 .i64 S (by omega) (by omega) W
  have qT : ∀ (w : World) (a : Option Addr) (n c n' c' : Nat), (binOp .eql 65 (.slice a n c) (.slice none n' c')).run Try.prog w = .ok (.bool a.isNone) w := fun w a n c n' c' => Lib.run_eql_slice_nil w _ _ a n c n' c' Try.underlying65
  go_enter Try.func7, Try.ntmps7
  go_wp2_with fail
  refine (ownNames_yes k _ HK.out).mono ?_
  intro e w1 hF
  obtain ⟨gn, rfl, hgn, hR, hO⟩ := hF
  have HL := Lib.hid (own_size k HK.out)
  have HA := Lib.hid (name_at k HK.out)
  have HWX := Lib.hid (firstWord_one k)
  generalize hLe : (ownV k).size = L at *
  have HLE := Lib.hid hLe
  have HR1 := Lib.hid hR
  have HO1 := Lib.hid hO
  have HG := Lib.hid hgn
  clear hLe hR hO hgn
  go_wp2_with fail
  refine (new_yes n _ HN.out).mono ?_
  rintro e w2 ⟨rfl, hO⟩
  have HO2 := Lib.hid ((HO1.out.trans hO).alloc (.cells #[.int .i64 n] 57))
  have HR2 := Lib.hid ((HR1.out.only hO id).alloc (.cells #[.int .i64 n] 57))
  clear hO
  go_wp2_with fail
  refine (size_any n _).mono ?_
  rw [HS.out]
  rintro e w3 ⟨rfl, hO⟩
  have HO3 := Lib.hid (HO2.out.trans hO)
  have HR3 := Lib.hid (HR2.out.only hO id)
  clear hO
  go_wp2
  have HM : Hid (Row (w3.alloc (.cells (madeCells #[.int .u32 0] S) 22)) w3.heap.size 22 (cellsOf (words k S 0 b))) := Lib.hid (by rw [← made_is]; exact Row.new _ _ _)
  have HO4 := Lib.hid (HO3.out.alloc (.cells (madeCells #[.int .u32 0] S) 22))
  have HR4 := Lib.hid (HR3.out.alloc (.cells (madeCells #[.int .u32 0] S) 22))
  have l1 := HL.out.1
  have l2 := HL.out.2
  have HZ := Lib.hid (show w.heap.size ≤ w3.heap.size ∧ gn < w3.heap.size from ⟨HO3.out.size, HR3.out.lt⟩)
  generalize w3.heap.size = gw at *
  clear hmk qT
  go_loopw [31] (fun i wr => ∃ c : Nat, c ≤ L ∧ i = .int .i64 c ∧ Row wr gw 22 (cellsOf (words k S c b)) ∧ Row wr gn 9 (ownV k) ∧ Only Nil w wr) (fun i _ => L - (intOf i).toNat)
  case atStart => exact ⟨0, Nat.zero_le _, rfl, HM.out, HR4.out, HO4.out⟩
  case round =>
    obtain ⟨c, hc, rfl, hrw, hrn, hor⟩ := hrel
    have HRW := Lib.hid hrw
    have HRN := Lib.hid hrn
    have HOR := Lib.hid hor
    clear hrw hrn hor
    by_cases hlt : c < L
    · obtain ⟨s, hs⟩ := HA.out c hlt
      have hcs : c < S := by omega
      have c0 := HRN.out.cell_ hs
      have c1 := HRW.out.cell_ (words_at k S c b hcs)
      have f1 := HRW.out.frozen c
      have HSS := Lib.hid hs
      clear hs
      go_wp2_with fail
      refine (HWX.out c s b _ HK.out HSS.out HB.out).mono ?_
      rintro e w' ⟨rfl, rfl⟩
      generalize hwd : wordI k c b = wd
      have HWD := Lib.hid hwd
      clear hwd
      go_wp2
      have hfin := HRW.out.set c (.int .u32 wd)
      rw [← HWD.out, words_next] at hfin
      refine ⟨⟨c + 1, by omega, by go_num, by rw [← HWD.out]; exact hfin, HRN.out.far (by have := HZ.out.2; simp; omega) _, HOR.out.setCell (p := ⟨gw, c, none⟩) (.inl HZ.out.1) _⟩, by simp [intOf]; omega⟩
    · have hkn : c = L := by omega
      have HC := Lib.hid hkn
      clear hkn
      go_wp2
      go_ret2
      refine ⟨gw, rfl, HZ.out.1, ?_, HOR.out⟩
      rw [HLE.out, ← HC.out]
      exact HRW.out
-- REF
end Go.Proofs.Ytkkldcggbekleaa
namespace Go.Proofs.Ytkkldcggbekleaa
open Go.RowKit
def leftOf (k x y o : Int) : Int := if k = 3 then (x + o) % 4294967296 else if k = 2 then x else if k = 4 then x else if k = 5 then (if o = x then y else o) else if k = 1 then o else 0
def isKind (k : Int) : Bool := decide (1 ≤ k ∧ k ≤ 5)
theorem two_eq {a b : Int} {c d : Bool} (h : a = b) (h' : c = d) : Ending.returned (.tuple #[.int .u32 a, .bool c]) = .returned (.tuple #[.int .u32 b, .bool d]) := by rw [h, h']
theorem behind_any (k c x y o : Int) (w : World) :
    Calls Try.prog 34 #[.agg #[.int .i64 k, .int .i64 c, .int .u32 x, .int .u32 y, .int .u32 o]] w fun e w' =>
      e = .returned (.tuple #[.int .u32 (leftOf k x y o), .bool (isKind k)]) ∧ Only Nil w w' := by
  by_cases h3 : k = 3 <;> by_cases h2 : k = 2 <;> by_cases h4 : k = 4 <;> by_cases h5 : k = 5 <;> by_cases h1 : k = 1 <;> by_cases hx : o = x
  all_goals first
    | omega
    | (go_enter Try.func34, Try.ntmps34
       go_wp2
       all_goals
         go_ret2
         exact ⟨two_eq (by simp [leftOf, h3, h2, h4, h5, h1, hx]) (by simp [isKind]; omega), (Only.refl _ _).alloc _⟩)
theorem len_any (b : Nat) (A : Option Addr) (n cap : Nat) (w : World) (h : Row w b 73 #[.slice A n cap]) :
    Calls Try.prog 33 #[.pointer (some ⟨b, 0, none⟩)] w fun e w' => e = .returned (.int .i64 n) ∧ w' = w := by
  have hc := h.cell_ (i := 0) rfl
  clear h
  go_enter Try.func33, Try.ntmps33
  go_wp2
  go_ret
  exact ⟨rfl, rfl⟩
theorem len_nil (w : World) :
    Calls Try.prog 33 #[.pointer none] w fun e w' => e = .returned (.int .i64 0) ∧ w' = w := by
  go_enter Try.func33, Try.ntmps33
  go_wp2
  go_ret
  exact ⟨rfl, rfl⟩
end Go.Proofs.Ytkkldcggbekleaa
namespace Go.Proofs.Ytkkldcggbekleaa
open Go.RowKit
theorem do_out (b : Nat) (A : Option Addr) (n cap : Nat) (k c x y o : Int) (w : World) (h : Row w b 73 #[.slice A n cap]) (hc : c < 0 ∨ (n : Int) ≤ c) :
    Calls Try.prog 23 #[.pointer (some ⟨b, 0, none⟩), .agg #[.int .i64 k, .int .i64 c, .int .u32 x, .int .u32 y, .int .u32 o]] w fun e w' =>
      e = .returned (.tuple #[.agg #[.int .i64 0, .int .i64 0, .int .u32 0, .int .u32 0, .int .u32 0], .bool false]) ∧ Only Nil w w' := by
  by_cases h0 : c < 0
  · clear h hc
    go_enter Try.func23, Try.ntmps23
    go_wp2
    go_quiet (fail)
    go_wp2
    go_returns
    exact ⟨rfl, by (repeat' (first | (with_reducible exact Only.refl _ _) | (with_reducible assumption) | (with_reducible refine Only.setCell ?_ ?_ _) | (with_reducible refine Only.drewN ?_ _) | (with_reducible refine Only.drew ?_) | (with_reducible refine Only.alloc ?_ _) | (left; simp; done) | (left; simp; omega) | (right; rfl)))⟩
  · have h1 : (n : Int) ≤ c := by omega
    have h2 : ∀ o1 o2, Row ((w.alloc o1).alloc o2) b 73 #[.slice A n cap] := fun o1 o2 => (h.alloc o1).alloc o2
    have H := Lib.hid h2
    clear h hc h2
    go_enter Try.func23, Try.ntmps23
    go_wp2
    go_quiet ((go_at_call 33; exact Calls.quiet_of_same (len_any b A n cap _ (H.out _ _))))
    go_wp2
    go_returns
    exact ⟨rfl, by (repeat' (first | (with_reducible exact Only.refl _ _) | (with_reducible assumption) | (with_reducible refine Only.setCell ?_ ?_ _) | (with_reducible refine Only.drewN ?_ _) | (with_reducible refine Only.drew ?_) | (with_reducible refine Only.alloc ?_ _) | (left; simp; done) | (left; simp; omega) | (right; rfl)))⟩
theorem do_nil (k c x y o : Int) (w : World) :
    Calls Try.prog 23 #[.pointer none, .agg #[.int .i64 k, .int .i64 c, .int .u32 x, .int .u32 y, .int .u32 o]] w fun e w' =>
      e = .returned (.tuple #[.agg #[.int .i64 0, .int .i64 0, .int .u32 0, .int .u32 0, .int .u32 0], .bool false]) ∧ Only Nil w w' := by
  by_cases h0 : c < 0
  · go_enter Try.func23, Try.ntmps23
    go_wp2
    go_quiet (fail)
    go_wp2
    go_returns
    exact ⟨rfl, by (repeat' (first | (with_reducible exact Only.refl _ _) | (with_reducible assumption) | (with_reducible refine Only.setCell ?_ ?_ _) | (with_reducible refine Only.drewN ?_ _) | (with_reducible refine Only.drew ?_) | (with_reducible refine Only.alloc ?_ _) | (left; simp; done) | (left; simp; omega) | (right; rfl)))⟩
  · have h1 : (0 : Int) ≤ c := by omega
    go_enter Try.func23, Try.ntmps23
    go_wp2
    go_quiet ((go_at_call 33; exact Calls.quiet_of_same (len_nil _)))
    go_wp2
    go_returns
    exact ⟨rfl, by (repeat' (first | (with_reducible exact Only.refl _ _) | (with_reducible assumption) | (with_reducible refine Only.setCell ?_ ?_ _) | (with_reducible refine Only.drewN ?_ _) | (with_reducible refine Only.drew ?_) | (with_reducible refine Only.alloc ?_ _) | (left; simp; done) | (left; simp; omega) | (right; rfl)))⟩
end Go.Proofs.Ytkkldcggbekleaa
