/- Kit, PlaceC, PlaceN, PlaceSize, Names, First, Cells, Do, Do2, Clone, Same, DoAny, ParkM, WaitM, RefC, WaitTwo, WaitW, WakeM, WakeBegin, NoteNt, NotesL, IsM, LineM, NextM. -/
import Derived.WalkKit
import Derived.ProofKit
import Derived.Handy
import Derived.Outline
import Derived.Deep.QuietTactic
import Derived.BigQuiet
import Derived.BigRegion
import Derived.WalkLawsBesides
import Derived.Lib.Hide
import Derived.Deep.Draws
import Derived.WalkSpells
import Derived.Test.YtdmpaoajcnjbaaaChecked
import Derived.Maps.Own
import Derived.Deep.OwnRows
import Derived.Laws.BitsAllLaws
import Derived.Laws.BitsLemmas
import Derived.Laws.AppendOwnNone
import Derived.Laws.AppendOwn
import Derived.OwnWalk
/- Words for memory: a block known whole; what a call may have turned. Nothing here speaks of a program. -/
namespace Go.Proofs.Ytdmpaoajcnjbaaa
open Go.RowKit

/-- Block g holds just the cells cs, of element type t, none frozen. -/
def Row (w : World) (g : Nat) (t : TypeId) (cs : Array Value) : Prop := w.heap[g]? = some (.cells cs t (0, 0))

/-- What was there is as it was, but for blocks of S. -/
structure Only (S : Nat → Prop) (w w' : World) : Prop where
  os : w'.os = w.os
  tape : w'.tape = w.tape
  output : w'.output = w.output
  size : w.heap.size ≤ w'.heap.size
  block : ∀ k, k < w.heap.size → ¬ S k → w'.heap[k]? = w.heap[k]?

section
variable {w w' w'' : World} {g : Nat} {t : TypeId} {cs : Array Value} {S T : Nat → Prop}

theorem Row.lt (h : Row w g t cs) : g < w.heap.size := (Array.getElem?_eq_some_iff.1 h).1
theorem Row.cell (h : Row w g t cs) (i : Nat) : w.cell? ⟨g, i, none⟩ = cs[i]? := by
  have h' : w.heap[g]? = _ := h
  simp [World.cell?, h']
theorem Row.cell_ (h : Row w g t cs) {i : Nat} {v : Value} (hi : cs[i]? = some v) : w.cell? ⟨g, i, none⟩ = some v := (h.cell i).trans hi
theorem Row.frozen (h : Row w g t cs) (i : Nat) : w.frozen? ⟨g, i, none⟩ = false := by
  have h' : w.heap[g]? = _ := h
  simp [World.frozen?, h']
theorem Row.new (w : World) (t : TypeId) (cs : Array Value) : Row (w.alloc (.cells cs t)) w.heap.size t cs := by
  show (w.heap.push _)[w.heap.size]? = _
  rw [Array.getElem?_push_size]
theorem Row.new2 (w : World) (o : Obj) (t : TypeId) (cs : Array Value) : Row ((w.alloc o).alloc (.cells cs t)) (w.heap.size + 1) t cs := by
  have e := Row.new (w.alloc o) t cs
  rwa [show (w.alloc o).heap.size = w.heap.size + 1 by simp] at e
theorem Row.drew (h : Row w g t cs) : Row w.drew g t cs := h
theorem Row.drewN (h : Row w g t cs) (n : Nat) : Row (w.drewN n) g t cs := h
theorem Row.alloc (h : Row w g t cs) (o : Obj) : Row (w.alloc o) g t cs := (Below.heap_alloc w o g h.lt).trans h
theorem Row.set (h : Row w g t cs) (i : Nat) (u : Value) : Row (w.setCell ⟨g, i, none⟩ u) g t (cs.setIfInBounds i u) := by
  have h' : w.heap[g]? = _ := h
  show (World.setCell w ⟨g, i, none⟩ u).heap[g]? = _
  simp [World.setCell, Array.getElem?_modify, h']
theorem Row.far (h : Row w g t cs) {p : Addr} (hp : g ≠ p.block) (u : Value) : Row (w.setCell p u) g t cs := (Below.heap_setCell w p u g hp).trans h
theorem Row.only (h : Row w g t cs) (ho : Only S w w') (hg : ¬ S g) : Row w' g t cs := (ho.block g h.lt hg).trans h
theorem Row.same {t' : TypeId} {cs' : Array Value} (h : Row w g t cs) (h' : Row w g t' cs') : t = t' ∧ cs = cs' := by
  have e := h.symm.trans h'
  simp only [Option.some.injEq, Obj.cells.injEq] at e
  exact ⟨e.2.1, e.1⟩

theorem Only.refl (S : Nat → Prop) (w : World) : Only S w w := ⟨rfl, rfl, rfl, Nat.le_refl _, fun _ _ _ => rfl⟩
theorem Only.trans (h : Only S w w') (k : Only S w' w'') : Only S w w'' :=
  ⟨k.os.trans h.os, k.tape.trans h.tape, k.output.trans h.output, Nat.le_trans h.size k.size, fun i hi hS => (k.block i (Nat.lt_of_lt_of_le hi h.size) hS).trans (h.block i hi hS)⟩
theorem Only.mono (h : Only S w w') (hST : ∀ k, k < w.heap.size → S k → T k) : Only T w w' := ⟨h.os, h.tape, h.output, h.size, fun i hi hT => h.block i hi (fun hs => hT (hST i hi hs))⟩
/-- Behind a call that may turn T: those of T that were there ahead lie in S. -/
theorem Only.step (h : Only S w w') (k : Only T w' w'') (hT : ∀ i, i < w.heap.size → T i → S i) : Only S w w'' :=
  ⟨k.os.trans h.os, k.tape.trans h.tape, k.output.trans h.output, Nat.le_trans h.size k.size, fun i hi hS => (k.block i (Nat.lt_of_lt_of_le hi h.size) (fun ht => hS (hT i hi ht))).trans (h.block i hi hS)⟩
theorem Only.drew (h : Only S w w') : Only S w w'.drew := ⟨h.os, h.tape, h.output, h.size, h.block⟩
theorem Only.drewN (h : Only S w w') (n : Nat) : Only S w (w'.drewN n) := ⟨h.os, h.tape, h.output, h.size, h.block⟩
theorem Only.alloc (h : Only S w w') (o : Obj) : Only S w (w'.alloc o) :=
  ⟨h.os, h.tape, h.output, Nat.le_trans h.size (by simp), fun i hi hS => (Below.heap_alloc w' o i (Nat.lt_of_lt_of_le hi h.size)).trans (h.block i hi hS)⟩
theorem Only.setCell (h : Only S w w') {p : Addr} (hp : w.heap.size ≤ p.block ∨ S p.block) (u : Value) : Only S w (w'.setCell p u) :=
  ⟨h.os, h.tape, h.output, by simpa [World.setCell] using h.size, fun i hi hS => (Below.heap_setCell w' p u i (by
    rintro rfl
    rcases hp with hp | hp
    · omega
    · exact hS hp)).trans (h.block i hi hS)⟩
theorem Only.grown {row : Option Nat} (h : Only S w w') (hg : w'.grownBy w'' row) (hr : ∀ k, row = some k → w.heap.size ≤ k ∨ S k) : Only S w w'' :=
  ⟨hg.os.trans h.os, hg.tape.trans h.tape, hg.output.trans h.output, Nat.le_trans h.size hg.size, fun i hi hS => (hg.block i (Nat.lt_of_lt_of_le hi h.size) (fun e => by
    rcases hr i e.symm with hk | hk
    · omega
    · exact hS hk)).trans (h.block i hi hS)⟩
theorem Only.of_below {B : Nat} (h : Below B w w') (hB : ∀ k, k < w.heap.size → B ≤ k → S k) : Only S w w' :=
  ⟨h.os, h.tape, h.output, h.size, fun i hi hS => h.block i (by
    rcases Nat.lt_or_ge i B with hlt | hge
    · exact hlt
    · exact absurd (hB i hi hge) hS)⟩
theorem Only.below {B : Nat} (h : Only S w w') (hB : B ≤ w.heap.size) (hS : ∀ k, k < B → ¬ S k) : Below B w w' :=
  ⟨h.os, h.tape, h.output, h.size, fun k hk => h.block k (Nat.lt_of_lt_of_le hk hB) (hS k hk)⟩
theorem Only.cell (h : Only S w w') {p : Addr} (hp : p.block < w.heap.size) (hS : ¬ S p.block) : w'.cell? p = w.cell? p := World.cell?_of_block (w := w) (h.block p.block hp hS)
theorem Only.frozen (h : Only S w w') {p : Addr} (hp : p.block < w.heap.size) (hS : ¬ S p.block) : w'.frozen? p = w.frozen? p := World.frozen?_of_block (w := w) (h.block p.block hp hS)
end

/-- A return of a struct that lies in a block of its own, and of one value more. -/
theorem post_row_tmp {P : Program} {fn : Func} {R : Ending → World → Prop} {a : Act} {w : World} {p u : Tmp} {ty : TypeId} (h : fn.results = #[.cell p ty, .tmp u]) {g : Nat} {t : TypeId} {cs : Array Value} {d : TypeDesc}
    (hp : a.tmps.getD p undef = .pointer (some ⟨g, 0, none⟩)) (hg : Row w g t cs)
    (hu : P.underlying ty = some d) (hd : (match d with | .struct _ | .array _ _ => true | _ => false) = true) (hi : (P.info? ty).map (·.size) = some cs.size)
    (hf : a.defers = []) (hR : R (.returned (.tuple #[.agg cs, a.tmps.getD u undef])) w) : bodyPost P fn R .ret a w := by
  refine ⟨hf, _, ?_, hR⟩
  have hp' : a.tmps[p]?.getD undef = .pointer (some ⟨g, 0, none⟩) := by simpa using hp
  simp [results, h, hp', asAddr, run_loadVar_row w g t ty cs (0, 0) d hg hu hd hi]

/-- A return of a struct that lies in a block of its own. -/
theorem post_row {P : Program} {fn : Func} {R : Ending → World → Prop} {a : Act} {w : World} {p : Tmp} {ty : TypeId} (h : fn.results = #[.cell p ty]) {g : Nat} {t : TypeId} {cs : Array Value} {d : TypeDesc}
    (hp : a.tmps.getD p undef = .pointer (some ⟨g, 0, none⟩)) (hg : Row w g t cs)
    (hu : P.underlying ty = some d) (hd : (match d with | .struct _ | .array _ _ => true | _ => false) = true) (hi : (P.info? ty).map (·.size) = some cs.size)
    (hf : a.defers = []) (hR : R (.returned (.agg cs)) w) : bodyPost P fn R .ret a w :=
  ⟨hf, _, results_cell_row h a.tmps w g t cs (0, 0) d hp hg hu hd hi, hR⟩

/-- Nothing that was there. -/
def Nil : Nat → Prop := fun _ => False


/-- A slice at A, as long as xs is, reads as the numbers xs, of kind k; it lies below block B. -/
def Ints (w : World) (B : Nat) (k : IntKind) (A : Option Addr) (xs : List Int) : Prop :=
  0 < xs.length → ∃ b o, A = some ⟨b, o, none⟩ ∧ b < B ∧ ∀ i, i < xs.length → w.cell? ⟨b, o + i, none⟩ = some (.int k (xs.getD i 0))

theorem add_block (a : Addr) (i : Nat) : (a.add i).block = a.block := by unfold Addr.add; split <;> rfl
theorem add_at (g o i : Nat) : (⟨g, o, none⟩ : Addr).add i = ⟨g, o + i, none⟩ := by
  unfold Addr.add
  by_cases h : i = 0
  · simp [h]
  · simp [h]

section
variable {w w' : World} {B B' : Nat} {k : IntKind} {A : Option Addr} {xs : List Int} {S : Nat → Prop}
theorem Ints.keep (h : Ints w B k A xs) (hk : ∀ p : Addr, p.block < B → w'.cell? p = w.cell? p) : Ints w' B k A xs := fun hn => by
  obtain ⟨b, o, e, hb, hc⟩ := h hn
  exact ⟨b, o, e, hb, fun i hi => (hk _ hb).trans (hc i hi)⟩
theorem Ints.only (h : Ints w B k A xs) (ho : Only S w w') (hB : B ≤ w.heap.size) (hS : ∀ i, i < B → ¬ S i) : Ints w' B k A xs :=
  h.keep fun _ hp => ho.cell (Nat.lt_of_lt_of_le hp hB) (hS _ hp)
theorem Ints.drew (h : Ints w B k A xs) : Ints w.drew B k A xs := h
theorem Ints.drewN (h : Ints w B k A xs) (n : Nat) : Ints (w.drewN n) B k A xs := h
theorem Ints.alloc (h : Ints w B k A xs) (hB : B ≤ w.heap.size) (o : Obj) : Ints (w.alloc o) B k A xs := h.keep fun p hp => World.cell?_alloc_lt w o p (by omega)
theorem Ints.more (h : Ints w B k A xs) (hB : B ≤ B') : Ints w B' k A xs := fun hn => by
  obtain ⟨b, o, e, hb, hc⟩ := h hn
  exact ⟨b, o, e, by omega, hc⟩
theorem Ints.of_own {base : Nat} {e : TypeId} {c n : Nat} (h : w.ownsRow base e 1 (.slice A n c) n (xs.map (.int k))) : Ints w w.heap.size k A xs := fun hn => by
  obtain ⟨hl, h2⟩ := h
  rw [List.length_map, Nat.mul_one] at hl
  rcases h2 with ⟨_, h0⟩ | ⟨g, cap, cur, hv, _, hg, _, _, _, ht⟩
  · omega
  · injection hv with h1
    subst h1
    have hr : Row w g e cur := hg
    refine ⟨g, 0, rfl, hr.lt, fun i hi => ?_⟩
    rw [Nat.zero_add]
    refine hr.cell_ ?_
    have e1 : (cur.toList.take (n * 1))[i]? = (xs.map (Value.int k))[i]? := by rw [ht]
    rw [List.getElem?_take, if_pos (by omega), List.getElem?_map, List.getElem?_eq_getElem hi] at e1
    simp only [Option.map_some, Array.getElem?_toList] at e1
    rw [e1]
    simp [List.getD, List.getElem?_eq_getElem hi]
theorem own_only {base : Nat} {e : TypeId} {size : Nat} {v : Value} {n : Nat} {vs : List Value} (h : w.ownsRow base e size v n vs) (ho : Only S w w') (hS : ∀ i, v.ownBlock = some i → ¬ S i) : w'.ownsRow base e size v n vs := by
  refine ⟨h.1, ?_⟩
  rcases h.2 with hn | ⟨g, cap, cur, rfl, hb, hgg, rest⟩
  · exact .inl hn
  · exact .inr ⟨g, cap, cur, rfl, hb, (ho.block g (Array.getElem?_eq_some_iff.1 hgg).1 (hS g rfl)).trans hgg, rest⟩
end

/-- A list of numbers that came in: nil, or somewhere; each fits its kind. -/
structure IsRow (k : IntKind) (w : World) (A : Option Addr) (len cap : Nat) (zs : List Int) : Prop where
  len_ : zs.length = len
  nil : A = none → len = 0 ∧ cap = 0
  ints : Ints w w.heap.size k A zs
  wf : ∀ n ∈ zs, (Lit.int k n).wf = true

theorem isRow_nil {k : IntKind} {w : World} : IsRow k w none 0 0 [] := ⟨rfl, fun _ => ⟨rfl, rfl⟩, fun h => absurd h (by simp), by simp⟩
theorem isRow_of {k : IntKind} {w : World} {x : Addr} {l c : Nat} {zs : List Int} (hl : l ≤ c) (hz : zs.length = c) (hcell : ∀ i, i < zs.length → w.cell? (x.add i) = some (.int k (zs.getD i 0))) (hwz : ∀ n ∈ zs, (Lit.int k n).wf = true) :
    IsRow k w (some x) l c (zs.take l) := by
  refine ⟨by rw [List.length_take]; omega, (by intro h; cases h), fun h0 => ?_, fun n hn => hwz n (List.mem_of_mem_take hn)⟩
  have h1 : 0 < zs.length := by rw [List.length_take] at h0; omega
  obtain ⟨b, o, spot⟩ := x
  have hspot : spot = none := by simpa [Addr.add] using World.cell?_spot (hcell 0 h1)
  subst hspot
  refine ⟨b, o, rfl, ?_, fun i hi => ?_⟩
  · have := World.block_lt_of_cell? w _ (hcell 0 h1)
    rwa [add_block] at this
  · have hi' : i < zs.length := by rw [List.length_take] at hi; omega
    rw [← add_at, hcell i hi']
    simp only [List.getD, List.getElem?_take]
    rw [List.length_take] at hi
    rw [if_pos (by omega)]
/-- Nothing was done but to draw orders. -/
def Drew (w w' : World) : Prop := ∃ k : Nat, w' = w.drewN k
theorem Drew.refl (w : World) : Drew w w := ⟨0, rfl⟩
theorem Drew.of_eq {w w' : World} (h : w = w') : Drew w w' := h ▸ Drew.refl w
theorem Drew.n (w : World) (k : Nat) : Drew w (w.drewN k) := ⟨k, rfl⟩
theorem Drew.trans {w w' w'' : World} (h : Drew w w') (k : Drew w' w'') : Drew w w'' := by
  obtain ⟨a, rfl⟩ := h
  obtain ⟨b, rfl⟩ := k
  exact ⟨a + b, World.drewN_drewN ..⟩
theorem Drew.quiet {w w' : World} {k : Nat} (h : Drew (w.drewN k) w') : ∃ m, w' = w.drewN m := by
  obtain ⟨a, ha⟩ := (Drew.n w k).trans h
  exact ⟨a, ha⟩
theorem Drew.only {S : Nat → Prop} {w w' : World} (h : Drew w w') : Only S w w' := by
  obtain ⟨a, rfl⟩ := h
  exact (Only.refl S w).drewN a
theorem Drew.cell {w w' : World} (h : Drew w w') (p : Addr) : w'.cell? p = w.cell? p := by obtain ⟨a, rfl⟩ := h; rfl
theorem Drew.size {w w' : World} (h : Drew w w') : w'.heap.size = w.heap.size := by obtain ⟨a, rfl⟩ := h; rfl
theorem Drew.row {w w' : World} (h : Drew w w') {g : Nat} {t : TypeId} {cs : Array Value} (r : Row w g t cs) : Row w' g t cs := by obtain ⟨a, rfl⟩ := h; exact r
theorem Ints.drewd {w w' : World} {B : Nat} {k : IntKind} {A : Option Addr} {xs : List Int} (h : Ints w B k A xs) (d : Drew w w') : Ints w' B k A xs := by obtain ⟨a, rfl⟩ := d; exact h
theorem wf_u32 {n : Int} (h : (Lit.int .u32 n).wf = true) : 0 ≤ n ∧ n < 4294967296 := by
  have h1 : IntKind.u32.min = 0 := rfl
  have h2 : IntKind.u32.max = 4294967295 := rfl
  simp only [Lit.wf, Bool.and_eq_true, decide_eq_true_eq] at h
  omega
theorem wf_u8 {n : Int} (h : (Lit.int .u8 n).wf = true) : 0 ≤ n ∧ n < 256 := by
  have h1 : IntKind.u8.min = 0 := rfl
  have h2 : IntKind.u8.max = 255 := rfl
  simp only [Lit.wf, Bool.and_eq_true, decide_eq_true_eq] at h
  omega
theorem wf_i32 {n : Int} (h : (Lit.int .i32 n).wf = true) : -2147483648 ≤ n ∧ n < 2147483648 := by
  have h1 : IntKind.i32.min = -2147483648 := rfl
  have h2 : IntKind.i32.max = 2147483647 := rfl
  simp only [Lit.wf, Bool.and_eq_true, decide_eq_true_eq] at h
  omega
theorem wf_i64 {n : Int} (h : (Lit.int .i64 n).wf = true) : -9223372036854775808 ≤ n ∧ n < 9223372036854775808 := by
  have h1 : IntKind.i64.min = -9223372036854775808 := rfl
  have h2 : IntKind.i64.max = 9223372036854775807 := rfl
  simp only [Lit.wf, Bool.and_eq_true, decide_eq_true_eq] at h
  omega
end Go.Proofs.Ytdmpaoajcnjbaaa
/- The cells of a lock's tasks: the count, the cell, the size, the map; the answer's cell. -/
namespace Go.Proofs.Ytdmpaoajcnjbaaa
open Go.RowKit

def okN (n : Int) : Bool := decide (1 ≤ n) && decide (n ≤ 64)

theorem okN_yes {n : Int} (h : 1 ≤ n ∧ n ≤ 64) : okN n = true := by simp [okN, h.1, h.2]

theorem okN_no {n : Int} (h : ¬ (1 ≤ n ∧ n ≤ 64)) : okN n = false := by
  simp only [okN, Bool.and_eq_false_iff, decide_eq_false_iff_not]; omega

/-- The cell of a task in a row, or -1. -/
def cellI (n row i : Int) : Int := if 1 ≤ n ∧ n ≤ 64 ∧ 0 ≤ i ∧ i < n then 8 + row * n + i else -1

def sizeI (n : Int) : Int := if 1 ≤ n ∧ n ≤ 64 then 8 + 4 * n else 0

theorem ret_int {k : IntKind} {a b : Int} (h : a = b) : Ending.returned (.int k a) = .returned (.int k b) := by rw [h]

theorem isCount_any (n : Int) (w : World) :
    Calls Try.prog 30 #[.int .i64 n] w fun e w' => e = .returned (.bool (okN n)) ∧ w = w' := by
  by_cases h1 : 1 ≤ n
  · by_cases h2 : n ≤ 64
    · rw [okN_yes ⟨h1, h2⟩]
      go_enter Try.func30, Try.ntmps30
      go_wp2
      go_ret
      exact ⟨rfl, rfl⟩
    · rw [okN_no (fun h => h2 h.2)]
      go_enter Try.func30, Try.ntmps30
      go_wp2
      go_ret
      exact ⟨rfl, rfl⟩
  · rw [okN_no (fun h => h1 h.1)]
    go_enter Try.func30, Try.ntmps30
    go_wp2
    go_ret
    exact ⟨rfl, rfl⟩

theorem cell_row (n row i : Int) (w : World) (hr : row = 0 ∨ row = 1 ∨ row = 2 ∨ row = 3) :
    Calls Try.prog 87 #[.agg #[.int .i64 n], .int .i64 row, .int .i64 i] w fun e w' => e = .returned (.int .i64 (cellI n row i)) ∧ Only Nil w w' := by
  by_cases hn : 1 ≤ n ∧ n ≤ 64
  · by_cases h0 : 0 ≤ i
    · by_cases h1 : i < n
      · have hc : cellI n row i = 8 + row * n + i := if_pos ⟨hn.1, hn.2, h0, h1⟩
        rw [hc]
        clear hc
        have HK := Lib.hid (okN_yes hn)
        obtain ⟨n1, n2⟩ := hn
        rcases hr with rfl | rfl | rfl | rfl
        all_goals
          go_enter Try.func87, Try.ntmps87
          go_wp2_with fail
          refine (isCount_any n _).mono ?_
          rw [HK.out]
          rintro e w1 ⟨rfl, rfl⟩
          go_wp2
          go_ret
          exact ⟨ret_int (by omega), by (repeat' (first | (with_reducible exact Only.refl _ _) | (with_reducible assumption) | (with_reducible refine Only.setCell ?_ ?_ _) | (with_reducible refine Only.drewN ?_ _) | (with_reducible refine Only.drew ?_) | (with_reducible refine Only.alloc ?_ _) | (left; simp; done) | (left; simp; omega) | (right; rfl)))⟩
      · have hc : cellI n row i = -1 := if_neg (fun h => h1 h.2.2.2)
        rw [hc]
        clear hc hr
        have HK := Lib.hid (okN_yes hn)
        clear hn
        go_enter Try.func87, Try.ntmps87
        go_wp2_with fail
        refine (isCount_any n _).mono ?_
        rw [HK.out]
        rintro e w1 ⟨rfl, rfl⟩
        go_wp2
        go_ret
        exact ⟨rfl, by (repeat' (first | (with_reducible exact Only.refl _ _) | (with_reducible assumption) | (with_reducible refine Only.setCell ?_ ?_ _) | (with_reducible refine Only.drewN ?_ _) | (with_reducible refine Only.drew ?_) | (with_reducible refine Only.alloc ?_ _) | (left; simp; done) | (left; simp; omega) | (right; rfl)))⟩
    · have hc : cellI n row i = -1 := if_neg (fun h => h0 h.2.2.1)
      rw [hc]
      clear hc hr
      have HK := Lib.hid (okN_yes hn)
      clear hn
      go_enter Try.func87, Try.ntmps87
      go_wp2_with fail
      refine (isCount_any n _).mono ?_
      rw [HK.out]
      rintro e w1 ⟨rfl, rfl⟩
      go_wp2
      go_ret
      exact ⟨rfl, by (repeat' (first | (with_reducible exact Only.refl _ _) | (with_reducible assumption) | (with_reducible refine Only.setCell ?_ ?_ _) | (with_reducible refine Only.drewN ?_ _) | (with_reducible refine Only.drew ?_) | (with_reducible refine Only.alloc ?_ _) | (left; simp; done) | (left; simp; omega) | (right; rfl)))⟩
  · have hc : cellI n row i = -1 := if_neg (fun h => hn ⟨h.1, h.2.1⟩)
    rw [hc]
    clear hc hr
    have HK := Lib.hid (okN_no hn)
    clear hn
    go_enter Try.func87, Try.ntmps87
    go_wp2_with fail
    refine (isCount_any n _).mono ?_
    rw [HK.out]
    rintro e w1 ⟨rfl, rfl⟩
    go_wp2
    go_ret
    exact ⟨rfl, by (repeat' (first | (with_reducible exact Only.refl _ _) | (with_reducible assumption) | (with_reducible refine Only.setCell ?_ ?_ _) | (with_reducible refine Only.drewN ?_ _) | (with_reducible refine Only.drew ?_) | (with_reducible refine Only.alloc ?_ _) | (left; simp; done) | (left; simp; omega) | (right; rfl)))⟩
end Go.Proofs.Ytdmpaoajcnjbaaa
/- place.New. -/
set_option linter.unusedVariables false
set_option linter.unusedSimpArgs false
namespace Go.Proofs.Ytdmpaoajcnjbaaa
open Go.RowKit

theorem new_yes (n : Int) (w : World) (hn : 1 ≤ n ∧ n ≤ 64) :
    Calls Try.prog 19 #[.int .i64 n] w fun e w' => e = .returned (.tuple #[.agg #[.int .i64 n], .int .i64 0]) ∧ Only Nil w w' := by
  have HK := Lib.hid (okN_yes hn)
  clear hn
  go_enter Try.func19, Try.ntmps19
  go_wp2_with fail
  refine (isCount_any n _).mono ?_
  rw [HK.out]
  rintro e w1 ⟨rfl, rfl⟩
  go_wp2
  exact bodyPost_ret (v := .tuple #[.agg #[.int .i64 n], .int .i64 0]) (by simp [results, Try.results19, go_sem]) rfl ⟨rfl, by (repeat' (first | (with_reducible exact Only.refl _ _) | (with_reducible assumption) | (with_reducible refine Only.setCell ?_ ?_ _) | (with_reducible refine Only.drewN ?_ _) | (with_reducible refine Only.drew ?_) | (with_reducible refine Only.alloc ?_ _) | (left; simp; done) | (left; simp; omega) | (right; rfl)))⟩

theorem new_no (n : Int) (w : World) (hn : ¬ (1 ≤ n ∧ n ≤ 64)) :
    Calls Try.prog 19 #[.int .i64 n] w fun e w' => e = .returned (.tuple #[.agg #[.int .i64 0], .int .i64 2]) ∧ Only Nil w w' := by
  have HK := Lib.hid (okN_no hn)
  clear hn
  go_enter Try.func19, Try.ntmps19
  go_wp2_with fail
  refine (isCount_any n _).mono ?_
  rw [HK.out]
  rintro e w1 ⟨rfl, rfl⟩
  go_wp2
  exact bodyPost_ret (v := .tuple #[.agg #[.int .i64 0], .int .i64 2]) (by simp [results, Try.results19, go_sem]) rfl ⟨rfl, by (repeat' (first | (with_reducible exact Only.refl _ _) | (with_reducible assumption) | (with_reducible refine Only.setCell ?_ ?_ _) | (with_reducible refine Only.drewN ?_ _) | (with_reducible refine Only.drew ?_) | (with_reducible refine Only.alloc ?_ _) | (left; simp; done) | (left; simp; omega) | (right; rfl)))⟩
end Go.Proofs.Ytdmpaoajcnjbaaa
/- place.Map's Size. -/
set_option linter.unusedVariables false
set_option linter.unusedSimpArgs false
namespace Go.Proofs.Ytdmpaoajcnjbaaa
open Go.RowKit

theorem size_any (n : Int) (w : World) :
    Calls Try.prog 20 #[.agg #[.int .i64 n]] w fun e w' => e = .returned (.int .i64 (sizeI n)) ∧ Only Nil w w' := by
  by_cases hn : 1 ≤ n ∧ n ≤ 64
  · have hc : sizeI n = 8 + 4 * n := if_pos hn
    rw [hc]
    clear hc
    have HK := Lib.hid (okN_yes hn)
    obtain ⟨n1, n2⟩ := hn
    go_enter Try.func20, Try.ntmps20
    go_wp2_with fail
    refine (isCount_any n _).mono ?_
    rw [HK.out]
    rintro e w1 ⟨rfl, rfl⟩
    go_wp2
    go_ret
    exact ⟨rfl, by (repeat' (first | (with_reducible exact Only.refl _ _) | (with_reducible assumption) | (with_reducible refine Only.setCell ?_ ?_ _) | (with_reducible refine Only.drewN ?_ _) | (with_reducible refine Only.drew ?_) | (with_reducible refine Only.alloc ?_ _) | (left; simp; done) | (left; simp; omega) | (right; rfl)))⟩
  · have hc : sizeI n = 0 := if_neg hn
    rw [hc]
    clear hc
    have HK := Lib.hid (okN_no hn)
    clear hn
    go_enter Try.func20, Try.ntmps20
    go_wp2_with fail
    refine (isCount_any n _).mono ?_
    rw [HK.out]
    rintro e w1 ⟨rfl, rfl⟩
    go_wp2
    go_ret
    exact ⟨rfl, by (repeat' (first | (with_reducible exact Only.refl _ _) | (with_reducible assumption) | (with_reducible refine Only.setCell ?_ ?_ _) | (with_reducible refine Only.drewN ?_ _) | (with_reducible refine Only.drew ?_) | (with_reducible refine Only.alloc ?_ _) | (left; simp; done) | (left; simp; omega) | (right; rfl)))⟩
end Go.Proofs.Ytdmpaoajcnjbaaa
/- The names of a kind's own cells: the reference's (a switch), the program's (a map of lists). -/
namespace Go.Proofs.Ytdmpaoajcnjbaaa
open Go.RowKit

def names1 : Array Value := #[.string ⟨#[117, 115, 101, 114, 115]⟩, .string ⟨#[114, 101, 97, 100, 115]⟩, .string ⟨#[119, 114, 105, 116, 101, 115]⟩]
def names2 : Array Value := #[.string ⟨#[114, 105, 110]⟩, .string ⟨#[114, 111, 117, 116]⟩, .string ⟨#[119, 105, 110]⟩, .string ⟨#[119, 111, 117, 116]⟩, .string ⟨#[112, 104, 97, 115, 101]⟩]
def names3 : Array Value := #[.string ⟨#[114, 105, 110]⟩, .string ⟨#[114, 111, 117, 116]⟩, .string ⟨#[116, 97, 105, 108]⟩, .string ⟨#[112, 104, 97, 115, 101]⟩]
def names4 : Array Value := #[.string ⟨#[116, 97, 105, 108]⟩, .string ⟨#[99, 111, 117, 110, 116]⟩]
def names5 : Array Value := #[.string ⟨#[119, 111, 114, 100]⟩]
def names6 : Array Value := #[.string ⟨#[119, 111, 114, 100]⟩]
/-- The names of a kind's own cells. -/
def ownV (k : Int) : Array Value := if k = 1 then names1 else if k = 2 then names2 else if k = 3 then names3 else if k = 4 then names4 else if k = 5 then names5 else if k = 6 then names6 else #[]
theorem ownV_none {k : Int} (h : ¬ (1 ≤ k ∧ k ≤ 6)) : ownV k = #[] := by
  unfold ownV
  repeat' (first | rfl | (rw [if_neg (by omega)]))
theorem kinds {k : Int} (h : 1 ≤ k ∧ k ≤ 6) : k = 1 ∨ k = 2 ∨ k = 3 ∨ k = 4 ∨ k = 5 ∨ k = 6 := by omega

theorem name_at (k : Int) (hk : 1 ≤ k ∧ k ≤ 6) (c : Nat) (hc : c < (ownV k).size) : ∃ s, (ownV k)[c]? = some (.string s) := by
  rcases kinds hk with rfl | rfl | rfl | rfl | rfl | rfl
  · rcases (show c = 0 ∨ c = 1 ∨ c = 2 by have : c < 3 := hc; omega) with rfl | rfl | rfl <;> exact ⟨_, rfl⟩
  · rcases (show c = 0 ∨ c = 1 ∨ c = 2 ∨ c = 3 ∨ c = 4 by have : c < 5 := hc; omega) with rfl | rfl | rfl | rfl | rfl <;> exact ⟨_, rfl⟩
  · rcases (show c = 0 ∨ c = 1 ∨ c = 2 ∨ c = 3 by have : c < 4 := hc; omega) with rfl | rfl | rfl | rfl <;> exact ⟨_, rfl⟩
  · rcases (show c = 0 ∨ c = 1 by have : c < 2 := hc; omega) with rfl | rfl <;> exact ⟨_, rfl⟩
  · rcases (show c = 0 by have : c < 1 := hc; omega) with rfl; exact ⟨_, rfl⟩
  · rcases (show c = 0 by have : c < 1 := hc; omega) with rfl; exact ⟨_, rfl⟩
theorem own_size (k : Int) (hk : 1 ≤ k ∧ k ≤ 6) : 1 ≤ (ownV k).size ∧ (ownV k).size ≤ 5 := by
  rcases kinds hk with rfl | rfl | rfl | rfl | rfl | rfl <;> exact ⟨by decide, by decide⟩

/-- A list of a kind's names of the call's own. -/
def NamesAt (k : Int) (w : World) (e : Ending) (w' : World) : Prop :=
  ∃ g, e = .returned (.slice (some ⟨g, 0, none⟩) (ownV k).size (ownV k).size) ∧ w.heap.size ≤ g ∧ Row w' g 9 (ownV k) ∧ Only Nil w w'

/-- An element of the map is read as itself. -/
def asIs (v : Value) : Option (DataW Value × List MemPlace) := some (.held v, [])
abbrev key (k : Int) : Lit := .int .i64 k

theorem wpList_insert_own {H : Type} {P : Program} (w : World) {ops : Array Oper} {rest : List Oper} {o : Oper} {a : Act} {Q : Exit → Act → World → Prop}
    (hg : o.guard = none) (m x v : Operand) (t : TypeId) (hop : o.op = Op.insert t m x v)
    (k e : TypeId) (K : Maps.Keyed P k) (ht : P.underlying t = some (.map k e)) (R : Value → Option (DataW H × List MemPlace)) (b n : Nat) (D : DataW H)
    (hm : a.eval m = .map (some b)) (hown : w.ownsMap P k R b n D) (hn : n < maxLen) (key val : Value) (kl : Lit) (hx : a.eval x = key) (hv : a.eval v = val) (hkey : keyOf P k key = some kl)
    (d : DataW H) (ps : List MemPlace) (hval : R val = some (d, ps))
    (hK : ∀ w', w'.ownsMap P k R b (n + 1) (D.put kl d) → w.grownBy w' (some b) → wpList P ops Q rest (a.put o.dst undef) w') :
    wpList P ops Q (o :: rest) a w := by
  refine wpList_plain hg fun K' hK' => ?_
  obtain ⟨w', hrun, r1, r2⟩ := hown.update K ht hn hkey hval
  unfold Oper.wp
  simp [execOp, hop, hm, hx, hv, hrun, Result.andThen]
  exact hK' _ _ (hK w' r1 r2)
-- OWN
theorem hkeyOf (n : Int) (h : (Lit.int .i64 n).wf = true) : keyOf Try.prog 3 (.int .i64 n) = some (key n) := Maps.keyOf_int_mk Try.underlying3 h

/-- A list is laid, and stored into the map. -/
theorem put_list {w : World} {B n : Nat} {D : DataW Value} (h : w.ownsMap Try.prog 3 asIs B n D) (hn : n < 100) (q : Int) (hq : (Lit.int .i64 q).wf = true) (cs : Array Value) (m : Nat) (g : Nat) (hg0 : w.heap.size = g) :
    ∃ w', (Instr.mapUpdate 84 (.map (some B)) (.int .i64 q) (.slice (some ⟨g, 0, none⟩) m m)).run Try.prog (w.alloc (.cells cs 9)) = .ok () w' ∧
      w'.ownsMap Try.prog 3 asIs B (n + 1) (D.put (key q) (.held (.slice (some ⟨g, 0, none⟩) m m))) ∧ Row w' g 9 cs ∧ g < w'.heap.size ∧ Only (fun i => i = B) w w' := by
  subst hg0
  obtain ⟨w', hrun, ho, hg⟩ := (h.alloc (.cells cs 9)).update (Maps.int_keyed Try.underlying3) Try.underlying84 (by unfold maxLen; omega) (hkeyOf q hq) (d := .held (.slice (some ⟨w.heap.size, 0, none⟩) m m)) (ps := []) rfl
  have hlt := h.lt
  have hsz := hg.size
  refine ⟨w', hrun, ho, ?_, by simp at hsz; omega, ((Only.refl _ _).alloc _).grown hg (fun k hk => by injection hk with hk; right; exact hk.symm)⟩
  exact (hg.block w.heap.size (by simp) (by simp; omega)).trans (Row.new w _ _)

theorem zero_list (w : World) : (zeroValue 67).run Try.prog w = .ok (.slice none 0 0) w := by kernel_rfl

def six (v1 v2 v3 v4 v5 v6 : Value) : DataW Value := ((((((DataW.map []).put (key 1) (.held v1)).put (key 2) (.held v2)).put (key 3) (.held v3)).put (key 4) (.held v4)).put (key 5) (.held v5)).put (key 6) (.held v6)
theorem six_is (v1 v2 v3 v4 v5 v6 : Value) : six v1 v2 v3 v4 v5 v6 = .map [(key 1, .held v1), (key 2, .held v2), (key 3, .held v3), (key 4, .held v4), (key 5, .held v5), (key 6, .held v6)] := by
  simp [six, DataW.put, DataW.insert, Lit.before, Lit.sameKey, key]
def pickV (k : Int) (v1 v2 v3 v4 v5 v6 : Value) : Value := if k = 1 then v1 else if k = 2 then v2 else if k = 3 then v3 else if k = 4 then v4 else if k = 5 then v5 else if k = 6 then v6 else .slice none 0 0
theorem six_at (k : Int) (v1 v2 v3 v4 v5 v6 : Value) : (six v1 v2 v3 v4 v5 v6).atKey (key k) (.held (.slice none 0 0)) = .held (pickV k v1 v2 v3 v4 v5 v6) := by
  rw [six_is]
  by_cases hk : 1 ≤ k ∧ k ≤ 6
  · rcases kinds hk with rfl | rfl | rfl | rfl | rfl | rfl <;> simp [DataW.atKey, pickV, Lit.sameKey, key]
  · have h1 : ¬ 1 = k := by omega
    have h2 : ¬ 2 = k := by omega
    have h3 : ¬ 3 = k := by omega
    have h4 : ¬ 4 = k := by omega
    have h5 : ¬ 5 = k := by omega
    have h6 : ¬ 6 = k := by omega
    simp [DataW.atKey, pickV, Lit.sameKey, key, h1, h2, h3, h4, h5, h6, Ne.symm h1, Ne.symm h2, Ne.symm h3, Ne.symm h4, Ne.symm h5, Ne.symm h6]

theorem get_list {w : World} {B n : Nat} {v1 v2 v3 v4 v5 v6 : Value} (h : w.ownsMap Try.prog 3 asIs B n (six v1 v2 v3 v4 v5 v6)) (k : Int) (hk : (Lit.int .i64 k).wf = true) :
    (Instr.lookup 84 (.map (some B)) (.int .i64 k) false).run Try.prog w = .ok (pickV k v1 v2 v3 v4 v5 v6) w := by
  obtain ⟨v, ps, hrun, hv⟩ := h.lookup (Maps.int_keyed Try.underlying3) Try.underlying84 (zero_list w) (zd := .held (.slice none 0 0)) (zp := []) rfl (hkeyOf k hk)
  rw [six_at] at hv
  simp only [asIs, Option.some.injEq, Prod.mk.injEq, DataW.held.injEq] at hv
  rw [hrun, hv.1]

/-- What the kind's list is: in a block of its own. -/
def NamesIn (k : Int) (w : World) (e : Ending) (w' : World) : Prop :=
  ∃ g1 g2 g3 g4 g5 g6, e = .returned (pickV k (.slice (some ⟨g1, 0, none⟩) 3 3) (.slice (some ⟨g2, 0, none⟩) 5 5) (.slice (some ⟨g3, 0, none⟩) 4 4) (.slice (some ⟨g4, 0, none⟩) 2 2) (.slice (some ⟨g5, 0, none⟩) 1 1) (.slice (some ⟨g6, 0, none⟩) 1 1)) ∧
    w.heap.size ≤ g1 ∧ w.heap.size ≤ g2 ∧ w.heap.size ≤ g3 ∧ w.heap.size ≤ g4 ∧ w.heap.size ≤ g5 ∧ w.heap.size ≤ g6 ∧
    Row w' g1 9 names1 ∧ Row w' g2 9 names2 ∧ Row w' g3 9 names3 ∧ Row w' g4 9 names4 ∧ Row w' g5 9 names5 ∧ Row w' g6 9 names6 ∧ Only Nil w w'

set_option maxRecDepth 100000 in
set_option maxHeartbeats 1000000 in
theorem ownNames_in (k : Int) (w : World) (hk : (Lit.int .i64 k).wf = true) : Calls Try.prog 18 #[.int .i64 k] w (NamesIn k w) := by
  have HK := Lib.hid hk
  clear hk
  have hmm := @run_makeMap Try.prog
  have HO0 := Lib.hid (World.ownsMap_made w Try.prog 3 asIs)
  go_enter Try.func18, Try.ntmps18
  go_wp2_with fail
  obtain ⟨wx1, hrun, ho, hR, hz, hO⟩ := put_list HO0.out (by omega) 1 rfl names1 3 (w.heap.size+1) (by simp)
  unfold names1 at hrun
  rw [hrun]
  have HO1 := Lib.hid ho
  have HR1 := Lib.hid hR
  have HZ1 := Lib.hid hz
  have HL1 := Lib.hid hO
  clear hrun ho hR hz hO
  go_wp2_with fail
  obtain ⟨wx2, hrun, ho, hR, hz, hO⟩ := put_list HO1.out (by omega) 2 rfl names2 5 wx1.heap.size (by simp)
  unfold names2 at hrun
  rw [hrun]
  have HO2 := Lib.hid ho
  have HR2 := Lib.hid hR
  have HZ2 := Lib.hid hz
  have HL2 := Lib.hid hO
  clear hrun ho hR hz hO
  go_wp2_with fail
  obtain ⟨wx3, hrun, ho, hR, hz, hO⟩ := put_list HO2.out (by omega) 3 rfl names3 4 wx2.heap.size (by simp)
  unfold names3 at hrun
  rw [hrun]
  have HO3 := Lib.hid ho
  have HR3 := Lib.hid hR
  have HZ3 := Lib.hid hz
  have HL3 := Lib.hid hO
  clear hrun ho hR hz hO
  go_wp2_with fail
  obtain ⟨wx4, hrun, ho, hR, hz, hO⟩ := put_list HO3.out (by omega) 4 rfl names4 2 wx3.heap.size (by simp)
  unfold names4 at hrun
  rw [hrun]
  have HO4 := Lib.hid ho
  have HR4 := Lib.hid hR
  have HZ4 := Lib.hid hz
  have HL4 := Lib.hid hO
  clear hrun ho hR hz hO
  go_wp2_with fail
  obtain ⟨wx5, hrun, ho, hR, hz, hO⟩ := put_list HO4.out (by omega) 5 rfl names5 1 wx4.heap.size (by simp)
  unfold names5 at hrun
  rw [hrun]
  have HO5 := Lib.hid ho
  have HR5 := Lib.hid hR
  have HZ5 := Lib.hid hz
  have HL5 := Lib.hid hO
  clear hrun ho hR hz hO
  go_wp2_with fail
  obtain ⟨wx6, hrun, ho, hR, hz, hO⟩ := put_list HO5.out (by omega) 6 rfl names6 1 wx5.heap.size (by simp)
  unfold names6 at hrun
  rw [hrun]
  have HO6 := Lib.hid ho
  have HR6 := Lib.hid hR
  have HZ6 := Lib.hid hz
  have HL6 := Lib.hid hO
  clear hrun ho hR hz hO
  have hs1 : w.heap.size + 1 < wx1.heap.size := HZ1.out
  have HS1 := Lib.hid hs1
  clear hs1
  have HGET := Lib.hid (get_list HO6.out k HK.out)
  have hget := HGET.out
  go_wp2
  go_ret
  have l2 := HL2.out
  have l3 := HL3.out
  have l4 := HL4.out
  have l5 := HL5.out
  have l6 := HL6.out
  have z1 := HS1.out
  have z2 := l2.size
  have z3 := l3.size
  have z4 := l4.size
  have z5 := l5.size
  have hq := HL1.out
  have q0 : Only Nil w (w.alloc (.map #[] 0)) := (Only.refl _ _).alloc _
  have q1 : Only Nil w wx6 := (((((q0.step hq (fun i hi h => by omega)).step l2 (fun i hi h => by omega)).step l3 (fun i hi h => by omega)).step l4 (fun i hi h => by omega)).step l5 (fun i hi h => by omega)).step l6 (fun i hi h => by omega)
  exact ⟨_, _, _, _, _, _, rfl, by omega, by omega, by omega, by omega, by omega, by omega,
    ((((HR1.out.only l2 (by omega)).only l3 (by omega)).only l4 (by omega)).only l5 (by omega)).only l6 (by omega),
    (((HR2.out.only l3 (by omega)).only l4 (by omega)).only l5 (by omega)).only l6 (by omega),
    ((HR3.out.only l4 (by omega)).only l5 (by omega)).only l6 (by omega),
    (HR4.out.only l5 (by omega)).only l6 (by omega), HR5.out.only l6 (by omega), HR6.out, q1⟩

theorem ownNames_yes (k : Int) (w : World) (hk : 1 ≤ k ∧ k ≤ 6) : Calls Try.prog 18 #[.int .i64 k] w (NamesAt k w) := by
  have hwf : (Lit.int .i64 k).wf = true := by rcases kinds hk with rfl | rfl | rfl | rfl | rfl | rfl <;> rfl
  refine (ownNames_in k w hwf).mono fun e w' ⟨g1, g2, g3, g4, g5, g6, he, b1, b2, b3, b4, b5, b6, r1, r2, r3, r4, r5, r6, hO⟩ => ?_
  rcases kinds hk with rfl | rfl | rfl | rfl | rfl | rfl
  · exact ⟨g1, he, b1, r1, hO⟩
  · exact ⟨g2, he, b2, r2, hO⟩
  · exact ⟨g3, he, b3, r3, hO⟩
  · exact ⟨g4, he, b4, r4, hO⟩
  · exact ⟨g5, he, b5, r5, hO⟩
  · exact ⟨g6, he, b6, r6, hO⟩

theorem ownNames_no (k : Int) (w : World) (hwf : (Lit.int .i64 k).wf = true) (hk : ¬ (1 ≤ k ∧ k ≤ 6)) : Calls Try.prog 18 #[.int .i64 k] w fun e w' => e = .returned (.slice none 0 0) ∧ Only Nil w w' := by
  refine (ownNames_in k w hwf).mono fun e w' ⟨g1, g2, g3, g4, g5, g6, he, b1, b2, b3, b4, b5, b6, r1, r2, r3, r4, r5, r6, hO⟩ => ⟨?_, hO⟩
  rw [he]
  unfold pickV
  rw [if_neg (by omega), if_neg (by omega), if_neg (by omega), if_neg (by omega), if_neg (by omega), if_neg (by omega)]
end Go.Proofs.Ytdmpaoajcnjbaaa
/- The words at first: the program's and the reference's. -/
namespace Go.Proofs.Ytdmpaoajcnjbaaa
open Go.RowKit

/-- The word at first of a kind's own cell. -/
def wordI (k : Int) (c : Nat) (b : Int) : Int :=
  if k = 1 ∧ c ≤ 2 then b else if k = 2 ∧ c ≤ 1 then b * 256 % 4294967296 else if k = 2 ∧ c ≤ 4 then b else if k = 3 ∧ c ≤ 1 then b * 256 % 4294967296 else if k = 3 ∧ c = 3 then b
  else if k = 6 ∧ c = 0 then b % 256 * 256 + b % 256 * 65536 else 0

theorem low8 {x : Int} (hx : 0 ≤ x ∧ x < 4294967296) : bits .and .u32 x 255 = x % 256 := by
  have := bits_mask .u32 32 (by decide) (fun k h0 h1 => by rw [IntKind.wrap_u32']; omega) 8 (by omega) x hx.1 (by simpa using hx.2)
  simpa using this
theorem both8 {b : Int} (hb : 0 ≤ b ∧ b < 4294967296) :
    bits BinOp.or IntKind.u32 (bits BinOp.and IntKind.u32 b 255 * 256 % 4294967296) (bits BinOp.and IntKind.u32 b 255 * 65536 % 4294967296) = b % 256 * 256 + b % 256 * 65536 := by
  rw [low8 hb]
  obtain ⟨X, hX⟩ := Int.eq_ofNat_of_zero_le (show 0 ≤ b % 256 by omega)
  have hX' : X < 256 := by omega
  rw [hX, show (X : Int) * 256 % 4294967296 = ((X * 256 : Nat) : Int) by omega, show (X : Int) * 65536 % 4294967296 = ((X * 65536 : Nat) : Int) by omega,
    u32_or_nat _ _ (by omega) (by omega), Nat.or_comm, nat_join 16 _ _ (by omega) (by omega)]
  omega

theorem firstWord_one (k : Int) (c : Nat) (s : ByteArray) (b : Int) (w : World) (hk : 1 ≤ k ∧ k ≤ 6) (hs : (ownV k)[c]? = some (.string s)) (hb : 0 ≤ b ∧ b < 4294967296) :
    Calls Try.prog 21 #[.int .i64 k, .string s, .int .u32 b] w fun e w' => e = .returned (.int .u32 (wordI k c b)) ∧ w = w' := by
  obtain ⟨b1, b2⟩ := hb
  rcases kinds hk with rfl | rfl | rfl | rfl | rfl | rfl
  · clear hk
    have hc : c < 3 := (Array.getElem?_eq_some_iff.1 hs).1
    rcases (show c = 0 ∨ c = 1 ∨ c = 2 by omega) with rfl | rfl | rfl
    all_goals
      injection (Option.some.inj hs) with hs
      subst hs
      go_enter Try.func21, Try.ntmps21
      go_wp2
      go_ret
      first | exact ⟨rfl, rfl⟩ | (refine ⟨ret_int ?_, rfl⟩; simp [wordI]; done) | (refine ⟨ret_int ?_, rfl⟩; simp [wordI]; exact both8 ⟨b1, b2⟩)
  · clear hk
    have hc : c < 5 := (Array.getElem?_eq_some_iff.1 hs).1
    rcases (show c = 0 ∨ c = 1 ∨ c = 2 ∨ c = 3 ∨ c = 4 by omega) with rfl | rfl | rfl | rfl | rfl
    all_goals
      injection (Option.some.inj hs) with hs
      subst hs
      go_enter Try.func21, Try.ntmps21
      go_wp2
      go_ret
      first | exact ⟨rfl, rfl⟩ | (refine ⟨ret_int ?_, rfl⟩; simp [wordI]; done) | (refine ⟨ret_int ?_, rfl⟩; simp [wordI]; exact both8 ⟨b1, b2⟩)
  · clear hk
    have hc : c < 4 := (Array.getElem?_eq_some_iff.1 hs).1
    rcases (show c = 0 ∨ c = 1 ∨ c = 2 ∨ c = 3 by omega) with rfl | rfl | rfl | rfl
    all_goals
      injection (Option.some.inj hs) with hs
      subst hs
      go_enter Try.func21, Try.ntmps21
      go_wp2
      go_ret
      first | exact ⟨rfl, rfl⟩ | (refine ⟨ret_int ?_, rfl⟩; simp [wordI]; done) | (refine ⟨ret_int ?_, rfl⟩; simp [wordI]; exact both8 ⟨b1, b2⟩)
  · clear hk
    have hc : c < 2 := (Array.getElem?_eq_some_iff.1 hs).1
    rcases (show c = 0 ∨ c = 1 by omega) with rfl | rfl
    all_goals
      injection (Option.some.inj hs) with hs
      subst hs
      go_enter Try.func21, Try.ntmps21
      go_wp2
      go_ret
      first | exact ⟨rfl, rfl⟩ | (refine ⟨ret_int ?_, rfl⟩; simp [wordI]; done) | (refine ⟨ret_int ?_, rfl⟩; simp [wordI]; exact both8 ⟨b1, b2⟩)
  · clear hk
    have hc : c < 1 := (Array.getElem?_eq_some_iff.1 hs).1
    rcases (show c = 0 by omega) with rfl
    all_goals
      injection (Option.some.inj hs) with hs
      subst hs
      go_enter Try.func21, Try.ntmps21
      go_wp2
      go_ret
      first | exact ⟨rfl, rfl⟩ | (refine ⟨ret_int ?_, rfl⟩; simp [wordI]; done) | (refine ⟨ret_int ?_, rfl⟩; simp [wordI]; exact both8 ⟨b1, b2⟩)
  · clear hk
    have hc : c < 1 := (Array.getElem?_eq_some_iff.1 hs).1
    rcases (show c = 0 by omega) with rfl
    all_goals
      injection (Option.some.inj hs) with hs
      subst hs
      go_enter Try.func21, Try.ntmps21
      go_wp2
      go_ret
      first | exact ⟨rfl, rfl⟩ | (refine ⟨ret_int ?_, rfl⟩; simp [wordI]; done) | (refine ⟨ret_int ?_, rfl⟩; simp [wordI]; exact both8 ⟨b1, b2⟩)
-- FIRST
theorem infoF : (Try.prog.info? 22).map (fun i => (i.zero, i.size, i.bytes)) = some (some (.int .u32 0), 1, 4) := by kernel_rfl

/-- The words when the first c of the own cells are laid. -/
def words (k : Int) (S c : Nat) (b : Int) : List Int := (List.range S).map fun j => if j < c then wordI k j b else 0
def cellsOf (l : List Int) : Array Value := (l.map (Value.int .u32)).toArray
theorem words_len (k : Int) (S c : Nat) (b : Int) : (words k S c b).length = S := by simp [words]
theorem words_zero (k : Int) (S : Nat) (b : Int) : words k S 0 b = List.replicate S 0 := by
  apply List.ext_getElem
  · simp [words]
  · intro i h1 h2; simp [words]
theorem words_at (k : Int) (S c : Nat) (b : Int) (h : c < S) : (cellsOf (words k S c b))[c]? = some (.int .u32 0) := by
  simp [cellsOf, words, h]
theorem words_next (k : Int) (S c : Nat) (b : Int) : (cellsOf (words k S c b)).setIfInBounds c (.int .u32 (wordI k c b)) = cellsOf (words k S (c + 1) b) := by
  apply Array.ext_getElem?
  intro i
  rw [Array.getElem?_setIfInBounds]
  by_cases hi : c = i
  · subst hi
    by_cases hS : c < S
    · simp [cellsOf, words, hS]
    · simp [cellsOf, words, hS]
  · simp only [hi, if_false]
    simp only [cellsOf, words, List.getElem?_toArray, List.getElem?_map]
    rcases Nat.lt_or_ge i S with h | h
    · rw [List.getElem?_range h]
      simp only [Option.map_some]
      by_cases h2 : i < c
      · rw [if_pos h2, if_pos (by omega)]
      · rw [if_neg h2, if_neg (by omega)]
    · rw [List.getElem?_eq_none (by simpa using h)]
      rfl
theorem made_is (k : Int) (S : Nat) (b : Int) : madeCells #[.int .u32 0] S = cellsOf (words k S 0 b) := by
  apply Array.ext'
  rw [toList_madeCells_one, words_zero]
  simp [cellsOf]

/-- The words at first, in a block of their own, and the number z. -/
def FirstAt (k b : Int) (S : Nat) (w : World) (e : Ending) (w' : World) : Prop :=
  ∃ g, e = .returned (.tuple #[.slice (some ⟨g, 0, none⟩) S S, .int .i64 0]) ∧ w.heap.size ≤ g ∧ Row w' g 22 (cellsOf (words k S (ownV k).size b)) ∧ Only Nil w w'

set_option maxHeartbeats 1000000 in
theorem first_yes (k n b : Int) (S : Nat) (w : World) (hk : 1 ≤ k ∧ k ≤ 6) (hn : 1 ≤ n ∧ n ≤ 64) (hS : sizeI n = S) (hb : 0 ≤ b ∧ b < 4294967296) :
    Calls Try.prog 7 #[.int .i64 k, .int .i64 n, .int .u32 b] w (FirstAt k b S w) := by
  have hz : sizeI n = 8 + 4 * n := if_pos hn
  have s1 : 12 ≤ S := by omega
  have s2 : S ≤ 300 := by omega
  have HS := Lib.hid hS
  have HB := Lib.hid hb
  have HK := Lib.hid hk
  have HN := Lib.hid hn
  clear hz hS hb hk hn
  have hmk := fun W => run_make_row' (P := Try.prog) 25 22 (.int .u32 0) 4 Try.underlying25 infoF rfl .i64 .i64 S (by omega) (by omega) W
  have qT : ∀ (w : World) (a : Option Addr) (n c n' c' : Nat), (binOp .eql 67 (.slice a n c) (.slice none n' c')).run Try.prog w = .ok (.bool a.isNone) w := fun w a n c n' c' => Lib.run_eql_slice_nil w _ _ a n c n' c' Try.underlying67
  go_enter Try.func7, Try.ntmps7
  go_wp2_with fail
  refine (ownNames_yes k _ HK.out).mono ?_
  intro e w1 hF
  obtain ⟨gn, rfl, hgn, hR, hO⟩ := hF
  have HL := Lib.hid (own_size k HK.out)
  have HA := Lib.hid (name_at k HK.out)
  have HWX := Lib.hid (firstWord_one k)
  generalize hLe : (ownV k).size = L at *
  have HLE := Lib.hid hLe
  have HR1 := Lib.hid hR
  have HO1 := Lib.hid hO
  have HG := Lib.hid hgn
  clear hLe hR hO hgn
  go_wp2_with fail
  refine (new_yes n _ HN.out).mono ?_
  rintro e w2 ⟨rfl, hO⟩
  have HO2 := Lib.hid ((HO1.out.trans hO).alloc (.cells #[.int .i64 n] 59))
  have HR2 := Lib.hid ((HR1.out.only hO id).alloc (.cells #[.int .i64 n] 59))
  clear hO
  go_wp2_with fail
  refine (size_any n _).mono ?_
  rw [HS.out]
  rintro e w3 ⟨rfl, hO⟩
  have HO3 := Lib.hid (HO2.out.trans hO)
  have HR3 := Lib.hid (HR2.out.only hO id)
  clear hO
  go_wp2
  have HM : Hid (Row (w3.alloc (.cells (madeCells #[.int .u32 0] S) 22)) w3.heap.size 22 (cellsOf (words k S 0 b))) := Lib.hid (by rw [← made_is]; exact Row.new _ _ _)
  have HO4 := Lib.hid (HO3.out.alloc (.cells (madeCells #[.int .u32 0] S) 22))
  have HR4 := Lib.hid (HR3.out.alloc (.cells (madeCells #[.int .u32 0] S) 22))
  have l1 := HL.out.1
  have l2 := HL.out.2
  have HZ := Lib.hid (show w.heap.size ≤ w3.heap.size ∧ gn < w3.heap.size from ⟨HO3.out.size, HR3.out.lt⟩)
  generalize w3.heap.size = gw at *
  clear hmk qT
  go_loopw [31] (fun i wr => ∃ c : Nat, c ≤ L ∧ i = .int .i64 c ∧ Row wr gw 22 (cellsOf (words k S c b)) ∧ Row wr gn 9 (ownV k) ∧ Only Nil w wr) (fun i _ => L - (intOf i).toNat)
  case atStart => exact ⟨0, Nat.zero_le _, rfl, HM.out, HR4.out, HO4.out⟩
  case round =>
    obtain ⟨c, hc, rfl, hrw, hrn, hor⟩ := hrel
    have HRW := Lib.hid hrw
    have HRN := Lib.hid hrn
    have HOR := Lib.hid hor
    clear hrw hrn hor
    by_cases hlt : c < L
    · obtain ⟨s, hs⟩ := HA.out c hlt
      have hcs : c < S := by omega
      have c0 := HRN.out.cell_ hs
      have c1 := HRW.out.cell_ (words_at k S c b hcs)
      have f1 := HRW.out.frozen c
      have HSS := Lib.hid hs
      clear hs
      go_wp2_with fail
      refine (HWX.out c s b _ HK.out HSS.out HB.out).mono ?_
      rintro e w' ⟨rfl, rfl⟩
      generalize hwd : wordI k c b = wd
      have HWD := Lib.hid hwd
      clear hwd
      go_wp2
      have hfin := HRW.out.set c (.int .u32 wd)
      rw [← HWD.out, words_next] at hfin
      refine ⟨⟨c + 1, by omega, by go_num, by rw [← HWD.out]; exact hfin, HRN.out.far (by have := HZ.out.2; simp; omega) _, HOR.out.setCell (p := ⟨gw, c, none⟩) (.inl HZ.out.1) _⟩, by simp [intOf]; omega⟩
    · have hkn : c = L := by omega
      have HC := Lib.hid hkn
      clear hkn
      go_wp2
      go_ret2
      refine ⟨gw, rfl, HZ.out.1, ?_, HOR.out⟩
      rw [HLE.out, ← HC.out]
      exact HRW.out
-- REF
theorem first_no_kind (k n b : Int) (w : World) (hw : (Lit.int .i64 k).wf = true) (hk : ¬ (1 ≤ k ∧ k ≤ 6)) :
    Calls Try.prog 7 #[.int .i64 k, .int .i64 n, .int .u32 b] w fun e w' => e = .returned (.tuple #[.slice none 0 0, .int .i64 3]) ∧ Only Nil w w' := by
  have qT : ∀ (w : World) (a : Option Addr) (n c n' c' : Nat), (binOp .eql 67 (.slice a n c) (.slice none n' c')).run Try.prog w = .ok (.bool a.isNone) w := fun w a n c n' c' => Lib.run_eql_slice_nil w _ _ a n c n' c' Try.underlying67
  have HK := Lib.hid hk
  have HW := Lib.hid hw
  clear hk hw
  go_enter Try.func7, Try.ntmps7
  go_wp2_with fail
  refine (ownNames_no k _ HW.out HK.out).mono ?_
  rintro e w1 ⟨rfl, hO⟩
  have HO1 := Lib.hid hO
  clear hO
  go_wp2
  go_ret2
  exact ⟨rfl, HO1.out⟩

theorem first_no_n (k n b : Int) (w : World) (hk : 1 ≤ k ∧ k ≤ 6) (hn : ¬ (1 ≤ n ∧ n ≤ 64)) :
    Calls Try.prog 7 #[.int .i64 k, .int .i64 n, .int .u32 b] w fun e w' => e = .returned (.tuple #[.slice none 0 0, .int .i64 2]) ∧ Only Nil w w' := by
  have qT : ∀ (w : World) (a : Option Addr) (n c n' c' : Nat), (binOp .eql 67 (.slice a n c) (.slice none n' c')).run Try.prog w = .ok (.bool a.isNone) w := fun w a n c n' c' => Lib.run_eql_slice_nil w _ _ a n c n' c' Try.underlying67
  have HK := Lib.hid hk
  have HN := Lib.hid hn
  clear hk hn
  go_enter Try.func7, Try.ntmps7
  go_wp2_with fail
  refine (ownNames_yes k _ HK.out).mono ?_
  intro e w1 hF
  obtain ⟨gn, rfl, hgn, hR, hO⟩ := hF
  generalize (ownV k).size = L at *
  have HO1 := Lib.hid hO
  clear hR hO hgn
  go_wp2_with fail
  refine (new_no n _ HN.out).mono ?_
  rintro e w2 ⟨rfl, hO⟩
  have HO2 := Lib.hid ((HO1.out.trans hO).alloc (.cells #[.int .i64 0] 59))
  clear hO
  go_wp2
  go_ret2
  exact ⟨rfl, HO2.out⟩

end Go.Proofs.Ytdmpaoajcnjbaaa
/- Contracts of package cells. -/
namespace Go.Proofs.Ytdmpaoajcnjbaaa
open Go.RowKit

def leftOf (k x y o : Int) : Int := if k = 3 then (x + o) % 4294967296 else if k = 2 then x else if k = 4 then x else if k = 5 then (if o = x then y else o) else if k = 1 then o else 0
def isKind (k : Int) : Bool := decide (1 ≤ k ∧ k ≤ 5)

theorem two_eq {a b : Int} {c d : Bool} (h : a = b) (h' : c = d) : Ending.returned (.tuple #[.int .u32 a, .bool c]) = .returned (.tuple #[.int .u32 b, .bool d]) := by rw [h, h']

theorem behind_any (k c x y o : Int) (w : World) :
    Calls Try.prog 36 #[.agg #[.int .i64 k, .int .i64 c, .int .u32 x, .int .u32 y, .int .u32 o]] w fun e w' =>
      e = .returned (.tuple #[.int .u32 (leftOf k x y o), .bool (isKind k)]) ∧ Only Nil w w' := by
  by_cases h3 : k = 3 <;> by_cases h2 : k = 2 <;> by_cases h4 : k = 4 <;> by_cases h5 : k = 5 <;> by_cases h1 : k = 1 <;> by_cases hx : o = x
  all_goals first
    | omega
    | (go_enter Try.func36, Try.ntmps36
       go_wp2
       all_goals
         go_ret2
         exact ⟨two_eq (by simp [leftOf, h3, h2, h4, h5, h1, hx]) (by simp [isKind]; omega), (Only.refl _ _).alloc _⟩)

/-- The header of a memory: the pointer's block b holds one slice. -/
theorem len_any (b : Nat) (A : Option Addr) (n cap : Nat) (w : World) (h : Row w b 75 #[.slice A n cap]) :
    Calls Try.prog 35 #[.pointer (some ⟨b, 0, none⟩)] w fun e w' => e = .returned (.int .i64 n) ∧ w' = w := by
  have hc := h.cell_ (i := 0) rfl
  clear h
  go_enter Try.func35, Try.ntmps35
  go_wp2
  go_ret
  exact ⟨rfl, rfl⟩

theorem len_nil (w : World) :
    Calls Try.prog 35 #[.pointer none] w fun e w' => e = .returned (.int .i64 0) ∧ w' = w := by
  go_enter Try.func35, Try.ntmps35
  go_wp2
  go_ret
  exact ⟨rfl, rfl⟩

end Go.Proofs.Ytdmpaoajcnjbaaa
/- Contract of (*Memory).Do. -/
namespace Go.Proofs.Ytdmpaoajcnjbaaa
open Go.RowKit

/-- A cell that isn't there, and a nil memory: nothing is done. -/
theorem do_out (b : Nat) (A : Option Addr) (n cap : Nat) (k c x y o : Int) (w : World) (h : Row w b 75 #[.slice A n cap]) (hc : c < 0 ∨ (n : Int) ≤ c) :
    Calls Try.prog 25 #[.pointer (some ⟨b, 0, none⟩), .agg #[.int .i64 k, .int .i64 c, .int .u32 x, .int .u32 y, .int .u32 o]] w fun e w' =>
      e = .returned (.tuple #[.agg #[.int .i64 0, .int .i64 0, .int .u32 0, .int .u32 0, .int .u32 0], .bool false]) ∧ Only Nil w w' := by
  by_cases h0 : c < 0
  · clear h hc
    go_enter Try.func25, Try.ntmps25
    go_wp2
    go_quiet (fail)
    go_wp2
    go_returns
    exact ⟨rfl, by (repeat' (first | (with_reducible exact Only.refl _ _) | (with_reducible assumption) | (with_reducible refine Only.setCell ?_ ?_ _) | (with_reducible refine Only.drewN ?_ _) | (with_reducible refine Only.drew ?_) | (with_reducible refine Only.alloc ?_ _) | (left; simp; done) | (left; simp; omega) | (right; rfl)))⟩
  · have h1 : (n : Int) ≤ c := by omega
    have h2 : ∀ o1 o2, Row ((w.alloc o1).alloc o2) b 75 #[.slice A n cap] := fun o1 o2 => (h.alloc o1).alloc o2
    have H := Lib.hid h2
    clear h hc h2
    go_enter Try.func25, Try.ntmps25
    go_wp2
    go_quiet ((go_at_call 35; exact Calls.quiet_of_same (len_any b A n cap _ (H.out _ _))))
    go_wp2
    go_returns
    exact ⟨rfl, by (repeat' (first | (with_reducible exact Only.refl _ _) | (with_reducible assumption) | (with_reducible refine Only.setCell ?_ ?_ _) | (with_reducible refine Only.drewN ?_ _) | (with_reducible refine Only.drew ?_) | (with_reducible refine Only.alloc ?_ _) | (left; simp; done) | (left; simp; omega) | (right; rfl)))⟩

theorem do_nil (k c x y o : Int) (w : World) :
    Calls Try.prog 25 #[.pointer none, .agg #[.int .i64 k, .int .i64 c, .int .u32 x, .int .u32 y, .int .u32 o]] w fun e w' =>
      e = .returned (.tuple #[.agg #[.int .i64 0, .int .i64 0, .int .u32 0, .int .u32 0, .int .u32 0], .bool false]) ∧ Only Nil w w' := by
  by_cases h0 : c < 0
  · go_enter Try.func25, Try.ntmps25
    go_wp2
    go_quiet (fail)
    go_wp2
    go_returns
    exact ⟨rfl, by (repeat' (first | (with_reducible exact Only.refl _ _) | (with_reducible assumption) | (with_reducible refine Only.setCell ?_ ?_ _) | (with_reducible refine Only.drewN ?_ _) | (with_reducible refine Only.drew ?_) | (with_reducible refine Only.alloc ?_ _) | (left; simp; done) | (left; simp; omega) | (right; rfl)))⟩
  · have h1 : (0 : Int) ≤ c := by omega
    go_enter Try.func25, Try.ntmps25
    go_wp2
    go_quiet ((go_at_call 35; exact Calls.quiet_of_same (len_nil _)))
    go_wp2
    go_returns
    exact ⟨rfl, by (repeat' (first | (with_reducible exact Only.refl _ _) | (with_reducible assumption) | (with_reducible refine Only.setCell ?_ ?_ _) | (with_reducible refine Only.drewN ?_ _) | (with_reducible refine Only.drew ?_) | (with_reducible refine Only.alloc ?_ _) | (left; simp; done) | (left; simp; omega) | (right; rfl)))⟩
end Go.Proofs.Ytdmpaoajcnjbaaa
/- Contract of (*Memory).Do at a cell that is there. -/
namespace Go.Proofs.Ytdmpaoajcnjbaaa
open Go.RowKit

theorem do_in (b g n cap i : Nat) (cur : Array Value) (k x y o v : Int) (w : World) (h : Row w b 75 #[.slice (some ⟨g, 0, none⟩) n cap]) (hg : Row w g 22 cur)
    (hi : i < n) (hv : cur[i]? = some (.int .u32 v)) (hk : isKind k = true) :
    Calls Try.prog 25 #[.pointer (some ⟨b, 0, none⟩), .agg #[.int .i64 k, .int .i64 i, .int .u32 x, .int .u32 y, .int .u32 o]] w fun e w' =>
      e = .returned (.tuple #[.agg #[.int .i64 k, .int .i64 i, .int .u32 x, .int .u32 y, .int .u32 v], .bool true]) ∧ Only (· = g) w w' ∧ Row w' g 22 (cur.setIfInBounds i (.int .u32 (leftOf k x y v))) := by
  have h2 : ∀ o1 o2, Row ((w.alloc o1).alloc o2) b 75 #[.slice (some ⟨g, 0, none⟩) n cap] := fun o1 o2 => (h.alloc o1).alloc o2
  have H := Lib.hid h2
  have hlt := h.lt
  have hglt := hg.lt
  have hin : (i : Int) < n := by omega
  have h0 : ¬ (i : Int) < 0 := by omega
  have hc := h.cell_ (i := 0) rfl
  have hcv := hg.cell_ hv
  have HG := Lib.hid hg
  have HV := Lib.hid hv
  clear h h2 hv hg
  go_enter Try.func25, Try.ntmps25
  go_wp2
  go_quiet ((go_at_call 35; exact Calls.quiet_of_same (len_any b _ n cap _ (H.out _ _))))
  go_wp2
  go_region
  go_wp2_with fail
  refine (behind_any k i x y v _).mono ?_
  rintro e w1 ⟨rfl, ho⟩
  rw [hk]
  generalize hl : leftOf k x y v = lv
  have F0 : Row w1 w.heap.size 61 #[.int .i64 k, .int .i64 i, .int .u32 x, .int .u32 y, .int .u32 v] := ((((Row.new w _ _).alloc _).drewN _).set 4 _).only ho id
  have F1 : Row w1 (w.heap.size + 1) 61 #[.int .i64 0, .int .i64 0, .int .u32 0, .int .u32 0, .int .u32 0] := by
    have := ((Row.new (w.alloc (Obj.cells #[.int .i64 k, .int .i64 i, .int .u32 x, .int .u32 y, .int .u32 o] 61)) 61 #[.int .i64 0, .int .i64 0, .int .u32 0, .int .u32 0, .int .u32 0]).drewN (nq + 1))
    rw [show (w.alloc (Obj.cells #[.int .i64 k, .int .i64 i, .int .u32 x, .int .u32 y, .int .u32 o] 61)).heap.size = w.heap.size + 1 by simp] at this
    exact (this.far (by simp) _).only ho id
  have FB := ((((H.out _ _).drewN _).far (p := ⟨w.heap.size, 4, none⟩) (by show b ≠ w.heap.size; omega) _).only ho id)
  have FG := (((((HG.out.alloc _).alloc _).drewN _).far (p := ⟨w.heap.size, 4, none⟩) (by show g ≠ w.heap.size; omega) _).only ho id)
  have OW : Only Nil w w1 := Only.trans (by (repeat' (first | (with_reducible exact Only.refl _ _) | (with_reducible assumption) | (with_reducible refine Only.setCell ?_ ?_ _) | (with_reducible refine Only.drewN ?_ _) | (with_reducible refine Only.drew ?_) | (with_reducible refine Only.alloc ?_ _) | (left; simp; done) | (left; simp; omega) | (right; rfl)))) ho
  clear ho hcv hc
  have hs1 : w.heap.size + 1 < w1.heap.size := F1.lt
  have c0 : w1.cell? ⟨w.heap.size, 0, none⟩ = some (.int .i64 k) := F0.cell_ (i := 0) rfl
  have c1 : w1.cell? ⟨w.heap.size, 1, none⟩ = some (.int .i64 i) := F0.cell_ (i := 1) rfl
  have c2 : w1.cell? ⟨w.heap.size, 2, none⟩ = some (.int .u32 x) := F0.cell_ (i := 2) rfl
  have c3 : w1.cell? ⟨w.heap.size, 3, none⟩ = some (.int .u32 y) := F0.cell_ (i := 3) rfl
  have c4 : w1.cell? ⟨w.heap.size, 4, none⟩ = some (.int .u32 v) := F0.cell_ (i := 4) rfl
  have d0 : w1.cell? ⟨w.heap.size + 1, 0, none⟩ = some (.int .i64 0) := F1.cell_ (i := 0) rfl
  have d1 : w1.cell? ⟨w.heap.size + 1, 1, none⟩ = some (.int .i64 0) := F1.cell_ (i := 1) rfl
  have d2 : w1.cell? ⟨w.heap.size + 1, 2, none⟩ = some (.int .u32 0) := F1.cell_ (i := 2) rfl
  have d3 : w1.cell? ⟨w.heap.size + 1, 3, none⟩ = some (.int .u32 0) := F1.cell_ (i := 3) rfl
  have d4 : w1.cell? ⟨w.heap.size + 1, 4, none⟩ = some (.int .u32 0) := F1.cell_ (i := 4) rfl
  have e0 : w1.frozen? ⟨w.heap.size + 1, 0, none⟩ = false := F1.frozen 0
  have e1 : w1.frozen? ⟨w.heap.size + 1, 1, none⟩ = false := F1.frozen 1
  have e2 : w1.frozen? ⟨w.heap.size + 1, 2, none⟩ = false := F1.frozen 2
  have e3 : w1.frozen? ⟨w.heap.size + 1, 3, none⟩ = false := F1.frozen 3
  have e4 : w1.frozen? ⟨w.heap.size + 1, 4, none⟩ = false := F1.frozen 4
  have b0 : w1.cell? ⟨b, 0, none⟩ = some (.slice (some ⟨g, 0, none⟩) n cap) := FB.cell_ (i := 0) rfl
  have g0 := FG.cell_ HV.out
  have g1 := FG.frozen i
  have HB := Lib.hid FB
  have HG1 := Lib.hid FG
  have H0 := Lib.hid F0
  have H1 := Lib.hid F1
  have HO := Lib.hid OW
  have HL := Lib.hid hl
  clear FB FG F0 F1 OW hl
  go_wp2
  go_region
  all_goals go_wp2
  refine post_row_tmp (P := Try.prog) Try.results25 (t := 61) (g := w.heap.size + 1) (cs := #[.int .i64 k, .int .i64 i, .int .u32 x, .int .u32 y, .int .u32 v]) rfl ?_ Try.underlying61 rfl (by kernel_rfl) rfl ⟨rfl, ?_, ?_⟩
  · exact ((((((H1.out.far (p := ⟨g, i, none⟩) (by show w.heap.size + 1 ≠ g; omega) (.int .u32 lv)).set 0 (.int .i64 k)).set 1 (.int .i64 i)).set 2 (.int .u32 x)).set 3 (.int .u32 y)).set 4 (.int .u32 v)).drew
  · have O1 : Only (· = g) w w1 := HO.out.mono (fun _ _ h => h.elim)
    (repeat' (first | (with_reducible exact Only.refl _ _) | (with_reducible assumption) | (with_reducible refine Only.setCell ?_ ?_ _) | (with_reducible refine Only.drewN ?_ _) | (with_reducible refine Only.drew ?_) | (with_reducible refine Only.alloc ?_ _) | (left; simp; done) | (left; simp; omega) | (right; rfl)))
  · rw [HL.out]
    exact ((((((HG1.out.set i (.int .u32 lv)).far (p := ⟨w.heap.size + 1, 0, none⟩) (by show g ≠ w.heap.size + 1; omega) _).far (p := ⟨w.heap.size + 1, 1, none⟩) (by show g ≠ w.heap.size + 1; omega) _).far (p := ⟨w.heap.size + 1, 2, none⟩) (by show g ≠ w.heap.size + 1; omega) _).far (p := ⟨w.heap.size + 1, 3, none⟩) (by show g ≠ w.heap.size + 1; omega) _).far (p := ⟨w.heap.size + 1, 4, none⟩) (by show g ≠ w.heap.size + 1; omega) _).drew

/-- A kind that is none: nothing is done. -/
theorem do_bad (b g n cap i : Nat) (cur : Array Value) (k x y o v : Int) (w : World) (h : Row w b 75 #[.slice (some ⟨g, 0, none⟩) n cap]) (hg : Row w g 22 cur)
    (hi : i < n) (hv : cur[i]? = some (.int .u32 v)) (hk : isKind k = false) :
    Calls Try.prog 25 #[.pointer (some ⟨b, 0, none⟩), .agg #[.int .i64 k, .int .i64 i, .int .u32 x, .int .u32 y, .int .u32 o]] w fun e w' =>
      e = .returned (.tuple #[.agg #[.int .i64 0, .int .i64 0, .int .u32 0, .int .u32 0, .int .u32 0], .bool false]) ∧ Only Nil w w' := by
  have h2 : ∀ o1 o2, Row ((w.alloc o1).alloc o2) b 75 #[.slice (some ⟨g, 0, none⟩) n cap] := fun o1 o2 => (h.alloc o1).alloc o2
  have H := Lib.hid h2
  have hlt := h.lt
  have hglt := hg.lt
  have hin : (i : Int) < n := by omega
  have h0 : ¬ (i : Int) < 0 := by omega
  have hc := h.cell_ (i := 0) rfl
  have hcv := hg.cell_ hv
  have HG := Lib.hid hg
  have HV := Lib.hid hv
  clear h h2 hv hg
  go_enter Try.func25, Try.ntmps25
  go_wp2
  go_quiet ((go_at_call 35; exact Calls.quiet_of_same (len_any b _ n cap _ (H.out _ _))))
  go_wp2
  go_region
  go_wp2_with fail
  refine (behind_any k i x y v _).mono ?_
  rintro e w1 ⟨rfl, ho⟩
  rw [hk]
  generalize hl : leftOf k x y v = lv
  have F0 : Row w1 w.heap.size 61 #[.int .i64 k, .int .i64 i, .int .u32 x, .int .u32 y, .int .u32 v] := ((((Row.new w _ _).alloc _).drewN _).set 4 _).only ho id
  have F1 : Row w1 (w.heap.size + 1) 61 #[.int .i64 0, .int .i64 0, .int .u32 0, .int .u32 0, .int .u32 0] := by
    have := ((Row.new (w.alloc (Obj.cells #[.int .i64 k, .int .i64 i, .int .u32 x, .int .u32 y, .int .u32 o] 61)) 61 #[.int .i64 0, .int .i64 0, .int .u32 0, .int .u32 0, .int .u32 0]).drewN (nq + 1))
    rw [show (w.alloc (Obj.cells #[.int .i64 k, .int .i64 i, .int .u32 x, .int .u32 y, .int .u32 o] 61)).heap.size = w.heap.size + 1 by simp] at this
    exact (this.far (by simp) _).only ho id
  have FB := ((((H.out _ _).drewN _).far (p := ⟨w.heap.size, 4, none⟩) (by show b ≠ w.heap.size; omega) _).only ho id)
  have FG := (((((HG.out.alloc _).alloc _).drewN _).far (p := ⟨w.heap.size, 4, none⟩) (by show g ≠ w.heap.size; omega) _).only ho id)
  have OW : Only Nil w w1 := Only.trans (by (repeat' (first | (with_reducible exact Only.refl _ _) | (with_reducible assumption) | (with_reducible refine Only.setCell ?_ ?_ _) | (with_reducible refine Only.drewN ?_ _) | (with_reducible refine Only.drew ?_) | (with_reducible refine Only.alloc ?_ _) | (left; simp; done) | (left; simp; omega) | (right; rfl)))) ho
  clear ho hcv hc
  have hs1 : w.heap.size + 1 < w1.heap.size := F1.lt
  have c0 : w1.cell? ⟨w.heap.size, 0, none⟩ = some (.int .i64 k) := F0.cell_ (i := 0) rfl
  have c1 : w1.cell? ⟨w.heap.size, 1, none⟩ = some (.int .i64 i) := F0.cell_ (i := 1) rfl
  have c2 : w1.cell? ⟨w.heap.size, 2, none⟩ = some (.int .u32 x) := F0.cell_ (i := 2) rfl
  have c3 : w1.cell? ⟨w.heap.size, 3, none⟩ = some (.int .u32 y) := F0.cell_ (i := 3) rfl
  have c4 : w1.cell? ⟨w.heap.size, 4, none⟩ = some (.int .u32 v) := F0.cell_ (i := 4) rfl
  have d0 : w1.cell? ⟨w.heap.size + 1, 0, none⟩ = some (.int .i64 0) := F1.cell_ (i := 0) rfl
  have d1 : w1.cell? ⟨w.heap.size + 1, 1, none⟩ = some (.int .i64 0) := F1.cell_ (i := 1) rfl
  have d2 : w1.cell? ⟨w.heap.size + 1, 2, none⟩ = some (.int .u32 0) := F1.cell_ (i := 2) rfl
  have d3 : w1.cell? ⟨w.heap.size + 1, 3, none⟩ = some (.int .u32 0) := F1.cell_ (i := 3) rfl
  have d4 : w1.cell? ⟨w.heap.size + 1, 4, none⟩ = some (.int .u32 0) := F1.cell_ (i := 4) rfl
  have e0 : w1.frozen? ⟨w.heap.size + 1, 0, none⟩ = false := F1.frozen 0
  have e1 : w1.frozen? ⟨w.heap.size + 1, 1, none⟩ = false := F1.frozen 1
  have e2 : w1.frozen? ⟨w.heap.size + 1, 2, none⟩ = false := F1.frozen 2
  have e3 : w1.frozen? ⟨w.heap.size + 1, 3, none⟩ = false := F1.frozen 3
  have e4 : w1.frozen? ⟨w.heap.size + 1, 4, none⟩ = false := F1.frozen 4
  have b0 : w1.cell? ⟨b, 0, none⟩ = some (.slice (some ⟨g, 0, none⟩) n cap) := FB.cell_ (i := 0) rfl
  have g0 := FG.cell_ HV.out
  have g1 := FG.frozen i
  have HB := Lib.hid FB
  have HG1 := Lib.hid FG
  have H0 := Lib.hid F0
  have H1 := Lib.hid F1
  have HO := Lib.hid OW
  have HL := Lib.hid hl
  clear FB FG F0 F1 OW hl
  go_wp2
  refine post_row_tmp (P := Try.prog) Try.results25 (t := 61) (g := w.heap.size + 1) (cs := #[.int .i64 0, .int .i64 0, .int .u32 0, .int .u32 0, .int .u32 0]) rfl ?_ Try.underlying61 rfl (by kernel_rfl) rfl ⟨rfl, ?_⟩
  · exact ((((((H1.out.set 0 (.int .i64 0)).set 1 (.int .i64 0)).set 2 (.int .u32 0)).set 3 (.int .u32 0)).set 4 (.int .u32 0)))
  · have O1 : Only Nil w w1 := HO.out
    (repeat' (first | (with_reducible exact Only.refl _ _) | (with_reducible assumption) | (with_reducible refine Only.setCell ?_ ?_ _) | (with_reducible refine Only.drewN ?_ _) | (with_reducible refine Only.drew ?_) | (with_reducible refine Only.alloc ?_ _) | (left; simp; done) | (left; simp; omega) | (right; rfl)))
end Go.Proofs.Ytdmpaoajcnjbaaa
/- Contracts of slices.Clone at []uint32, of cells.From, cells.New, (*Memory).All and of the answer's Copy. -/
namespace Go.Proofs.Ytdmpaoajcnjbaaa
open Go.RowKit

theorem infoW : (Try.prog.info? 22).map (fun i => (i.zero, i.size, i.bytes)) = some (some (.int .u32 0), 1, 4) := by kernel_rfl

theorem news_of {w : World} {B : Nat} {k : IntKind} {a : Addr} {xs : List Int} (h : Ints w B k (some a) xs) : ∀ j u, (xs.map (Value.int k))[j]? = some u → w.cell? (a.add j) = some u := by
  intro j u hu
  rw [List.getElem?_map] at hu
  have hj : j < xs.length := by
    rcases Nat.lt_or_ge j xs.length with hj | hj
    · exact hj
    · rw [List.getElem?_eq_none hj] at hu; cases hu
  obtain ⟨b, o, ha, _, hc⟩ := h (by omega)
  injection ha with ha
  subst ha
  rw [add_at, hc j hj]
  rw [List.getElem?_eq_getElem hj] at hu
  simp only [Option.map_some, Option.some.injEq] at hu
  rw [← hu]
  simp [List.getD, List.getElem?_eq_getElem hj]

theorem one_of {k : IntKind} (xs : List Int) : ∀ u ∈ xs.map (Value.int k), u.oneCell' = true := by
  intro u hu
  simp only [List.mem_map] at hu
  obtain ⟨z, _, rfl⟩ := hu
  rfl

theorem clone_nil (w : World) : Calls Try.prog 22 #[.slice none 0 0] w fun e w' => e = .returned (.slice none 0 0) ∧ w' = w := by
  have hq := fun (w : World) (a : Option Addr) (n c : Nat) => Lib.run_eql_slice_nil (P := Try.prog) w 25 22 a n c 0 0 Try.underlying25
  go_enter Try.func22, Try.ntmps22
  go_wp2
  go_ret
  exact ⟨rfl, rfl⟩

theorem clone_any (a : Addr) (n cap : Nat) (xs : List Int) (w : World) (hn : xs.length = n) (hm : n ≤ 1048576) (h : Ints w w.heap.size .u32 (some a) xs) :
    Calls Try.prog 22 #[.slice (some a) n cap] w fun e w' => ∃ v, e = .returned v ∧ w'.ownsRow w.heap.size 22 1 v n (xs.map (.int .u32)) ∧ Only Nil w w' := by
  have hq := fun (w : World) (a : Option Addr) (n c : Nat) => Lib.run_eql_slice_nil (P := Try.prog) w 25 22 a n c 0 0 Try.underlying25
  obtain ⟨i0, hi, hz0, hz1, hz2⟩ := info_parts infoW
  go_enter Try.func22, Try.ntmps22
  go_wp2_with (at_builtin; refine wpList_append_own _ rfl (.tmp 5) (.tmp 6) 25 rfl w.heap.size 22 i0 (.int .u32 0) 1 4 Try.underlying25 hi hz0 hz1 hz2 rfl (by decide) _ 0 [] rfl (World.ownsRow_made w #[] 0 (Nat.le_refl _) (by decide) rfl) a n cap (xs.map (.int .u32)) rfl ?c0 ?c1 ?c2 ?c3 ?c4 ?c5 ?_)
  case c0 => simp [hn]
  case c1 => exact news_of (h.alloc (Nat.le_refl _) (.cells #[] 22))
  case c2 => exact one_of xs
  case c3 => unfold maxLen; omega
  case c4 => omega
  case c5 => simp
  intro v' w1 hown hgrow _
  have HO := Lib.hid hown
  have HG := Lib.hid hgrow
  clear hown hgrow
  go_wp2
  go_ret
  exact ⟨_, rfl, HO.out, ((Only.refl _ _).alloc _).grown HG.out (fun k hk => by simp only [Value.ownBlock, Option.some.injEq] at hk; left; omega)⟩

/-- What a list of words in the caller's hands looks like: nil, or somewhere. -/
def Held (w : World) (A : Option Addr) (n cap : Nat) (xs : List Int) : Prop := xs.length = n ∧ (A = none → n = 0 ∧ cap = 0) ∧ Ints w w.heap.size .u32 A xs

theorem Held.only {w w' : World} {A : Option Addr} {n cap : Nat} {xs : List Int} (h : Held w A n cap xs) {S : Nat → Prop} (ho : Only S w w') (hS : ∀ i, i < w.heap.size → ¬ S i) : Held w' A n cap xs :=
  ⟨h.1, h.2.1, (h.2.2.only ho (Nat.le_refl _) hS).more ho.size⟩

/-- The blocks that a slice at A lies in. -/
def At (A : Option Addr) : Nat → Prop := fun i => ∃ a, A = some a ∧ a.block = i

theorem own_form {w : World} {base : Nat} {e : TypeId} {size : Nat} {v : Value} {n : Nat} {vs : List Value} (h : w.ownsRow base e size v n vs) : ∃ A c, v = .slice A n c ∧ (A = none → n = 0 ∧ c = 0) ∧ ∀ i, At A i → base ≤ i := by
  rcases h.2 with ⟨hv, h0⟩ | ⟨g, cap, cur, hv, hb, _⟩
  · subst h0
    exact ⟨none, 0, hv, fun _ => ⟨rfl, rfl⟩, fun i ⟨a, ha, _⟩ => by cases ha⟩
  · exact ⟨some ⟨g, 0, none⟩, cap, hv, (by intro h; cases h), fun i ⟨a, ha, hi⟩ => by injection ha with ha; subst ha; subst hi; exact hb⟩

theorem own_base {w : World} {base base' : Nat} {e : TypeId} {size : Nat} {v : Value} {n : Nat} {vs : List Value} (h : w.ownsRow base e size v n vs) (hb : base' ≤ base) : w.ownsRow base' e size v n vs := by
  refine ⟨h.1, ?_⟩
  rcases h.2 with hn | ⟨g, cap, cur, hv, hb2, rest⟩
  · exact .inl hn
  · exact .inr ⟨g, cap, cur, hv, by omega, rest⟩

/-- A list of words of the call's own: what append has left. -/
structure Own (w : World) (base : Nat) (A : Option Addr) (c : Nat) (xs : List Int) : Prop where
  own : w.ownsRow base 22 1 (.slice A xs.length c) xs.length (xs.map (.int .u32))
  nil : A = none → xs.length = 0 ∧ c = 0
  base : ∀ i, At A i → base ≤ i

theorem Own.of {w : World} {base : Nat} {v : Value} {xs : List Int} (h : w.ownsRow base 22 1 v xs.length (xs.map (.int .u32))) : ∃ A c, v = .slice A xs.length c ∧ Own w base A c xs := by
  obtain ⟨A, c, rfl, h1, h2⟩ := own_form h
  exact ⟨A, c, rfl, h, h1, h2⟩

theorem Own.only {w w' : World} {base : Nat} {A : Option Addr} {c : Nat} {xs : List Int} {S : Nat → Prop} (h : Own w base A c xs) (ho : Only S w w') (hS : ∀ i, At A i → ¬ S i) : Own w' base A c xs :=
  ⟨own_only h.own ho (fun i hi => hS i (by
    cases A with
    | none => simp [Value.ownBlock] at hi
    | some a => simp only [Value.ownBlock, Option.some.injEq] at hi; exact ⟨a, rfl, hi⟩)), h.nil, h.base⟩

theorem Own.held {w : World} {base : Nat} {A : Option Addr} {c : Nat} {xs : List Int} (h : Own w base A c xs) : Held w A xs.length c xs := ⟨rfl, h.nil, Ints.of_own h.own⟩

theorem Own.lt {w : World} {base : Nat} {A : Option Addr} {c : Nat} {xs : List Int} (h : Own w base A c xs) : ∀ i, At A i → i < w.heap.size := fun i ⟨a, ha, hi⟩ => (h.own.lt i (by rw [ha]; simp [Value.ownBlock, hi])).2

theorem clone_held (A : Option Addr) (n cap : Nat) (xs : List Int) (w : World) (hm : n ≤ 1048576) (h : Held w A n cap xs) :
    Calls Try.prog 22 #[.slice A n cap] w fun e w' => ∃ A' c', e = .returned (.slice A' xs.length c') ∧ Own w' w.heap.size A' c' xs ∧ Only Nil w w' := by
  obtain ⟨h1, h2, h3⟩ := h
  cases A with
  | none =>
    obtain ⟨rfl, rfl⟩ := h2 rfl
    obtain rfl : xs = [] := List.length_eq_zero_iff.1 h1
    refine (clone_nil w).mono fun e w' ⟨he, hw⟩ => ?_
    subst hw
    obtain ⟨A', c', hv, hO⟩ := Own.of (xs := []) (World.ownsRow_nil w' w'.heap.size 22 1)
    exact ⟨A', c', he.trans (by rw [hv]), hO, Only.refl _ _⟩
  | some a =>
    subst h1
    refine (clone_any a _ cap xs w rfl hm h3).mono fun e w' ⟨v, he, ho, hO⟩ => ?_
    obtain ⟨A', c', rfl, hw⟩ := Own.of ho
    exact ⟨A', c', he, hw, hO⟩

/-- A memory behind a pointer to block b: its words lie at A, the words xs. -/
structure Mem (w : World) (b : Nat) (A : Option Addr) (c : Nat) (xs : List Int) : Prop where
  hdr : Row w b 75 #[.slice A xs.length c]
  own : Own w 0 A c xs
  len : xs.length ≤ 1024

theorem Mem.only {w w' : World} {b : Nat} {A : Option Addr} {c : Nat} {xs : List Int} {S : Nat → Prop} (h : Mem w b A c xs) (ho : Only S w w') (hb : ¬ S b) (hS : ∀ i, At A i → ¬ S i) : Mem w' b A c xs :=
  ⟨h.hdr.only ho hb, h.own.only ho hS, h.len⟩
end Go.Proofs.Ytdmpaoajcnjbaaa
/- The answer's Same, at lists of numbers that lie somewhere (Ref.same_any in words that ask less). -/
namespace Go.Proofs.Ytdmpaoajcnjbaaa
open Go.RowKit

theorem takeI_next {xs ys : List Int} {k : Nat} (hx : k < xs.length) (hy : k < ys.length) (h : xs.take k = ys.take k) (e : xs.getD k 0 = ys.getD k 0) : xs.take (k + 1) = ys.take (k + 1) := by
  rw [List.take_succ_eq_append_getElem hx, List.take_succ_eq_append_getElem hy, h]
  simp only [List.getD, List.getElem?_eq_getElem hx, List.getElem?_eq_getElem hy, Option.getD_some] at e
  rw [e]

theorem takeI_not {xs ys : List Int} {k : Nat} (e : xs.getD k 0 ≠ ys.getD k 0) : xs ≠ ys := by
  rintro rfl; exact e rfl

theorem sameI_len (A B : Option Addr) (n m c d : Nat) (xs ys : List Int) (w : World) (hx : xs.length = n) (hy : ys.length = m) (hl : n ≠ m) :
    Calls Try.prog 13 #[.slice A n c, .slice B m d] w fun e w' => e = .returned (.bool (decide (xs = ys))) ∧ Drew w w' := by
  have hne : xs ≠ ys := fun h => hl (by rw [← hx, ← hy, h])
  have hl' : ((n : Int) == (m : Int)) = false := by simpa [Int.natCast_inj] using hl
  have HN := Lib.hid hne
  clear hne hx hy
  go_enter Try.func13, Try.ntmps13
  go_wp2
  go_ret
  exact ⟨by simp [HN.out], Drew.refl _⟩

theorem sameI_any (A B : Option Addr) (n m c d : Nat) (xs ys : List Int) (w : World) (hnx : xs.length = n) (hny : ys.length = m) (hx3 : Ints w w.heap.size .u32 A xs) (hy3 : Ints w w.heap.size .u32 B ys) (hm : n ≤ 1048576) :
    Calls Try.prog 13 #[.slice A n c, .slice B m d] w fun e w' => e = .returned (.bool (decide (xs = ys))) ∧ Drew w w' := by
  by_cases hl : n = m
  · subst hl
    have HX := Lib.hid hx3
    have HY := Lib.hid hy3
    have HNX := Lib.hid hnx
    have HNY := Lib.hid hny
    clear hx3 hy3 hnx hny
    go_enter Try.func13, Try.ntmps13
    go_wp2
    go_loopw [5] (fun i wr => ∃ k : Nat, k ≤ n ∧ i = .int .i64 k ∧ xs.take k = ys.take k ∧ ∃ m, wr = w.drewN m) (fun i _ => n - (intOf i).toNat)
    case atStart => exact ⟨0, Nat.zero_le _, rfl, rfl, 0, rfl⟩
    case round =>
      obtain ⟨k, hk, rfl, ht, m, rfl⟩ := hrel
      have HT := Lib.hid ht
      clear ht
      by_cases hlt : k < n
      · obtain ⟨b1, o1, hA, _, hc1⟩ := HX.out (by rw [HNX.out]; omega)
        obtain ⟨b2, o2, hB, _, hc2⟩ := HY.out (by rw [HNY.out]; omega)
        subst hA hB
        have c1 := hc1 k (by rw [HNX.out]; omega)
        have c2 := hc2 k (by rw [HNY.out]; omega)
        clear hc1 hc2
        generalize h1 : xs.getD k 0 = x at *
        generalize h2 : ys.getD k 0 = y at *
        have H1 := Lib.hid h1
        have H2 := Lib.hid h2
        clear h1 h2
        go_wp2
        go_quiet (fail)
        go_wp2
        · have hxy : x ≠ y := by have h : (x != y) = true := by assumption
                                 simpa using h
          have hne : xs ≠ ys := takeI_not (k := k) (by rw [H1.out, H2.out]; exact hxy)
          go_ret
          exact ⟨by simp [hne], ((Drew.n _ _).trans (Drew.n _ _))⟩
        · have hxy : x = y := by have h : (x != y) = false := by assumption
                                 simpa using h
          exact ⟨⟨k + 1, by omega, by go_num, takeI_next (by rw [HNX.out]; omega) (by rw [HNY.out]; omega) HT.out (by rw [H1.out, H2.out]; exact hxy), _, rfl⟩, by simp [intOf]; omega⟩
      · have hkn : k = n := by omega
        subst hkn
        have heq : xs = ys := by
          have e := HT.out
          rwa [List.take_of_length_le (by rw [HNX.out]; omega), List.take_of_length_le (by rw [HNY.out]; omega)] at e
        have HE := Lib.hid heq
        clear heq
        go_wp2
        go_ret
        exact ⟨by simp [HE.out], Drew.n _ _⟩
  · exact sameI_len A B n m c d xs ys w hnx hny hl

/-- What a block that is known whole holds, as a list. -/
theorem Row.ints {w : World} {g : Nat} {t : TypeId} {k : IntKind} {xs : List Int} (h : Row w g t ((xs.map (Value.int k)).toArray)) : Ints w w.heap.size k (some ⟨g, 0, none⟩) xs := fun _ => by
  refine ⟨g, 0, rfl, h.lt, fun i hi => ?_⟩
  rw [Nat.zero_add]
  refine h.cell_ ?_
  simp [List.getD, List.getElem?_eq_getElem hi]
theorem ints_nil {w : World} {B : Nat} {k : IntKind} : Ints w B k none [] := fun h => absurd h (by simp)
end Go.Proofs.Ytdmpaoajcnjbaaa
/- (*Memory).Do over any memory; the plain functions of its words. -/
namespace Go.Proofs.Ytdmpaoajcnjbaaa
open Go.RowKit


def there (xs : List Int) (c : Int) : Bool := decide (0 ≤ c ∧ c < xs.length)
def wordAt (xs : List Int) (c : Int) : Int := if there xs c then xs.getD c.toNat 0 else 0
def doOk (xs : List Int) (k c : Int) : Bool := there xs c && isKind k
def accOf (k c x y o : Int) : Value := .agg #[.int .i64 k, .int .i64 c, .int .u32 x, .int .u32 y, .int .u32 o]
def doVal (xs : List Int) (k c x y : Int) : Value := if doOk xs k c then accOf k c x y (wordAt xs c) else accOf 0 0 0 0 0
def doNew (xs : List Int) (k c x y : Int) : List Int := if doOk xs k c then xs.set c.toNat (leftOf k x y (wordAt xs c)) else xs

theorem doNew_len (xs : List Int) (k c x y : Int) : (doNew xs k c x y).length = xs.length := by
  unfold doNew; split <;> simp

theorem own_set {w' : World} {base g n cap i : Nat} {e : TypeId} {cur : Array Value} {xs : List Int} {u : Int} (h : Row w' g e (cur.setIfInBounds i (.int .u32 u))) (hb : base ≤ g) (hn : n ≤ cap) (hcap : cap ≤ maxLen) (hs : cur.size = cap) (hx : xs.length = n)
    (ht : cur.toList.take n = xs.map (.int .u32)) : w'.ownsRow base e 1 (.slice (some ⟨g, 0, none⟩) n cap) n ((xs.set i u).map (.int .u32)) := by
  refine ⟨by simp [hx], .inr ⟨g, cap, _, rfl, hb, h, hn, hcap, by simp [hs], ?_⟩⟩
  rw [Nat.mul_one, List.map_set, ← ht, Array.toList_setIfInBounds, List.take_set]

/-- Any access at any memory. -/
theorem do_any (b : Nat) (A : Option Addr) (cp : Nat) (xs : List Int) (k c x y o : Int) (w : World) (h : Mem w b A cp xs) :
    Calls Try.prog 25 #[.pointer (some ⟨b, 0, none⟩), .agg #[.int .i64 k, .int .i64 c, .int .u32 x, .int .u32 y, .int .u32 o]] w fun e w' =>
      e = .returned (.tuple #[doVal xs k c x y, .bool (doOk xs k c)]) ∧ Only (At A) w w' ∧ Mem w' b A cp (doNew xs k c x y) := by
  by_cases hc : there xs c = true
  · have hc' := hc
    simp only [there, decide_eq_true_eq] at hc'
    obtain ⟨i, rfl⟩ := Int.eq_ofNat_of_zero_le hc'.1
    have hi : i < xs.length := by omega
    obtain ⟨hdr, own, len⟩ := h
    have hown := own.own
    rcases hown.2 with ⟨_, h0⟩ | ⟨g, cap, cur, hv, hg0, hg, hn, hcap, hsz, ht⟩
    · omega
    · injection hv with h1 h2 h3
      subst h1 h3
      have hr : Row w g 22 cur := hg
      have hcv : cur[i]? = some (.int .u32 (wordAt xs i)) := by
        have e1 : (cur.toList.take (xs.length * 1))[i]? = (xs.map (Value.int .u32))[i]? := by rw [ht]
        rw [List.getElem?_take, if_pos (by omega), List.getElem?_map, List.getElem?_eq_getElem hi] at e1
        simp only [Option.map_some, Array.getElem?_toList] at e1
        rw [e1]
        simp [wordAt, hc, List.getD, List.getElem?_eq_getElem hi]
      have hAt : ∀ j, At (some (⟨g, 0, none⟩ : Addr)) j ↔ j = g := fun j => ⟨fun ⟨a, ha, hj⟩ => by injection ha with ha; subst ha; exact hj.symm, fun hj => ⟨_, rfl, hj.symm⟩⟩
      have hbg : b ≠ g := by
        rintro rfl
        have := (hdr.same hr).1
        exact absurd this (by decide)
      cases hk : isKind k with
      | true =>
        refine (do_in b g xs.length cp i cur k x y o (wordAt xs i) w hdr hr hi hcv hk).mono fun e w' ⟨he, hO, hR⟩ => ?_
        have hok : doOk xs k i = true := by simp [doOk, hc, hk]
        refine ⟨by rw [he]; simp [doVal, hok, accOf], hO.mono (fun j _ hj => (hAt j).2 hj), ?_⟩
        have e2 : doNew xs k i x y = xs.set i (leftOf k x y (wordAt xs i)) := by simp [doNew, hok]
        rw [e2]
        refine ⟨?_, ⟨?_, (by rw [List.length_set]; exact own.nil), own.base⟩, by simpa using len⟩
        · rw [List.length_set]; exact hdr.only hO hbg
        · rw [List.length_set]; exact own_set hR (Nat.zero_le _) hn hcap (by omega) rfl (by rw [Nat.mul_one] at ht; exact ht)
      | false =>
        refine (do_bad b g xs.length cp i cur k x y o (wordAt xs i) w hdr hr hi hcv hk).mono fun e w' ⟨he, hO⟩ => ?_
        have hok : doOk xs k i = false := by simp [doOk, hk]
        refine ⟨by rw [he]; simp [doVal, hok, accOf], hO.mono (fun _ _ hj => hj.elim), ?_⟩
        rw [show doNew xs k i x y = xs by simp [doNew, hok]]
        exact Mem.only ⟨hdr, own, len⟩ hO id (fun _ _ => id)
  · have hc' := hc
    simp only [there, decide_eq_true_eq] at hc'
    have hok : doOk xs k c = false := by simp [doOk, hc]
    refine (do_out b A xs.length cp k c x y o w h.hdr (by omega)).mono fun e w' ⟨he, hO⟩ => ?_
    refine ⟨by rw [he]; simp [doVal, hok, accOf], hO.mono (fun _ _ hj => hj.elim), ?_⟩
    rw [show doNew xs k c x y = xs by simp [doNew, hok]]
    exact h.only hO id (fun _ _ => id)

/-- The access's Old: what was there; 0 where nothing is done. -/
theorem doVal_form (xs : List Int) (k c x y : Int) : ∃ k' c' x' y', doVal xs k c x y = .agg #[.int .i64 k', .int .i64 c', .int .u32 x', .int .u32 y', .int .u32 (if doOk xs k c then wordAt xs c else 0)] := by
  unfold doVal accOf
  split
  · exact ⟨k, c, x, y, rfl⟩
  · exact ⟨0, 0, 0, 0, rfl⟩

theorem oldAt (xs : List Int) (k c : Int) (hk : isKind k = true) : (if doOk xs k c then wordAt xs c else 0) = wordAt xs c := by
  unfold doOk wordAt
  cases h : there xs c <;> simp [hk]

theorem set_same {xs : List Int} {c : Int} : (if there xs c then xs.set c.toNat (wordAt xs c) else xs) = xs := by
  split
  · rename_i ht
    have ht' := ht
    simp only [there, decide_eq_true_eq] at ht'
    have hi : c.toNat < xs.length := by omega
    simp [wordAt, ht, List.getD, List.getElem?_eq_getElem hi]
  · rfl

theorem doNew_load (xs : List Int) (c x y : Int) : doNew xs 1 c x y = xs := by
  have e := set_same (xs := xs) (c := c)
  unfold doNew doOk
  simpa [isKind, leftOf] using e

/-- A word of an owned list: where it lies, and what a store into it leaves. -/
theorem Own.row {w : World} {base : Nat} {A : Option Addr} {c : Nat} {xs : List Int} (h : Own w base A c xs) {i : Nat} (hi : i < xs.length) :
    ∃ g cur, A = some ⟨g, 0, none⟩ ∧ base ≤ g ∧ Row w g 22 cur ∧ cur[i]? = some (.int .u32 (xs.getD i 0)) ∧
      ∀ (w' : World) (u : Int), Row w' g 22 (cur.setIfInBounds i (.int .u32 u)) → Own w' base A c (xs.set i u) := by
  obtain ⟨own, nil, bs⟩ := h
  rcases own.2 with ⟨_, h0⟩ | ⟨g, cap, cur, hv, hg0, hg, hn, hcap, hsz, ht⟩
  · omega
  · injection hv with h1 h2 h3
    subst h1 h3
    refine ⟨g, cur, rfl, hg0, hg, ?_, fun w' u hr => ⟨?_, (by rw [List.length_set]; exact nil), bs⟩⟩
    · have e1 : (cur.toList.take (xs.length * 1))[i]? = (xs.map (Value.int .u32))[i]? := by rw [ht]
      rw [List.getElem?_take, if_pos (by omega), List.getElem?_map, List.getElem?_eq_getElem hi] at e1
      simp only [Option.map_some, Array.getElem?_toList] at e1
      rw [e1]
      simp [List.getD, List.getElem?_eq_getElem hi]
    · rw [List.length_set]
      exact own_set hr hg0 hn hcap (by omega) rfl (by rw [Nat.mul_one] at ht; exact ht)


/-- A word put where there is a cell. -/
def st (xs : List Int) (c u : Int) : List Int := if there xs c then xs.set c.toNat u else xs
theorem there_st (xs : List Int) (c u d : Int) : there (st xs c u) d = there xs d := by unfold st there; split <;> simp
theorem st_len (xs : List Int) (c u : Int) : (st xs c u).length = xs.length := by unfold st; split <;> simp
theorem word_st (xs : List Int) (c u : Int) : wordAt (st xs c u) c = if there xs c then u else 0 := by
  unfold wordAt
  rw [there_st]
  split
  · rename_i h
    have h' := h
    simp only [there, decide_eq_true_eq] at h'
    simp only [st, h, if_true, List.getD]
    rw [List.getElem?_set_self (by omega)]
    rfl
  · rfl
theorem st_st (xs : List Int) (c u v : Int) : st (st xs c u) c v = st xs c v := by
  unfold st
  cases h : there xs c
  · simp [h]
  · have h2 : there (xs.set c.toNat u) c = true := by simpa [there] using h
    simp [h2]
theorem st_word (xs : List Int) (c : Int) : st xs c (wordAt xs c) = xs := set_same
theorem doNew_st (xs : List Int) (k c x y : Int) (hk : isKind k = true) : doNew xs k c x y = st xs c (leftOf k x y (wordAt xs c)) := by
  unfold doNew st doOk
  simp [hk]
theorem word_wf {xs : List Int} (h : ∀ n ∈ xs, (Lit.int .u32 n).wf = true) (c : Int) : 0 ≤ wordAt xs c ∧ wordAt xs c < 4294967296 := by
  unfold wordAt
  split
  · rename_i ht
    simp only [there, decide_eq_true_eq] at ht
    have hi : c.toNat < xs.length := by omega
    simp only [List.getD, List.getElem?_eq_getElem hi, Option.getD_some]
    exact wf_u32 (h _ (List.getElem_mem hi))
  · omega
theorem isRow_held {w : World} {A : Option Addr} {len cap : Nat} {zs : List Int} (h : IsRow .u32 w A len cap zs) : Held w A len cap zs := ⟨h.len_, h.nil, h.ints⟩
/-- A word of a list that came in, at a later world. -/
theorem isRow_cell {w w' : World} {A : Option Addr} {len cap : Nat} {zs : List Int} {c : Int} (h : IsRow .u32 w A len cap zs) (ho : Only Nil w w') (hc : there zs c = true) :
    ∃ b o, A = some ⟨b, o, none⟩ ∧ 0 ≤ c ∧ c < (len : Int) ∧ w'.cell? ⟨b, o + c.toNat, none⟩ = some (.int .u32 (wordAt zs c)) := by
  have hc' := hc
  simp only [there, decide_eq_true_eq] at hc'
  obtain ⟨i, rfl⟩ := Int.eq_ofNat_of_zero_le hc'.1
  obtain ⟨b, o, hA, hb, hcell⟩ := h.ints (by omega)
  refine ⟨b, o, hA, by omega, by have := h.len_; omega, ?_⟩
  rw [Int.toNat_natCast, ho.cell hb id, hcell i (by omega)]
  simp [wordAt, hc]
end Go.Proofs.Ytdmpaoajcnjbaaa
/- Permits: plain functions; a memory, or none; a law's lock. -/
set_option linter.unusedVariables false
set_option linter.unusedSimpArgs false
namespace Go.Proofs.Ytdmpaoajcnjbaaa
open Go.RowKit

/-- A task's permit's cell. -/
def pc (n i : Int) : Int := cellI n 3 i

/-- Is the permit there? -/
def hasP (xs : List Int) (n i : Int) : Bool := wordAt xs (pc n i) != 0

/-- A struct of five cells stored into a block. -/
theorem five {w : World} {g : Nat} {t : TypeId} {a0 a1 a2 a3 a4 : Value} (h : Row w g t #[a0, a1, a2, a3, a4]) (v0 v1 v2 v3 v4 : Value) :
    Row (((((w.setCell ⟨g, 0, none⟩ v0).setCell ⟨g, 1, none⟩ v1).setCell ⟨g, 2, none⟩ v2).setCell ⟨g, 3, none⟩ v3).setCell ⟨g, 4, none⟩ v4) g t #[v0, v1, v2, v3, v4] := by
  simpa using ((((h.set 0 v0).set 1 v1).set 2 v2).set 3 v3).set 4 v4

theorem five_only {S : Nat → Prop} {w w' : World} (h : Only S w w') {g : Nat} (hg : w.heap.size ≤ g ∨ S g) (v0 v1 v2 v3 v4 : Value) :
    Only S w (((((w'.setCell ⟨g, 0, none⟩ v0).setCell ⟨g, 1, none⟩ v1).setCell ⟨g, 2, none⟩ v2).setCell ⟨g, 3, none⟩ v3).setCell ⟨g, 4, none⟩ v4) :=
  ((((h.setCell (p := ⟨g, 0, none⟩) hg v0).setCell (p := ⟨g, 1, none⟩) hg v1).setCell (p := ⟨g, 2, none⟩) hg v2).setCell (p := ⟨g, 3, none⟩) hg v3).setCell (p := ⟨g, 4, none⟩) hg v4

/-- A memory, or none. -/
def Memo (w : World) (p A : Option Addr) (cp : Nat) (xs : List Int) : Prop := (p = none ∧ xs = [] ∧ A = none) ∨ ∃ b, p = some ⟨b, 0, none⟩ ∧ Mem w b A cp xs

theorem Memo.of {w : World} {b : Nat} {A : Option Addr} {cp : Nat} {xs : List Int} (h : Mem w b A cp xs) : Memo w (some ⟨b, 0, none⟩) A cp xs := .inr ⟨b, rfl, h⟩

theorem Memo.far {w w' : World} {p A : Option Addr} {cp : Nat} {xs : List Int} {S : Nat → Prop} (h : Memo w p A cp xs) (ho : Only S w w') (hS : ∀ j, At p j ∨ At A j → ¬ S j) : Memo w' p A cp xs := by
  rcases h with h | ⟨b, rfl, h⟩
  · exact .inl h
  · exact .inr ⟨b, rfl, h.only ho (hS b (.inl ⟨_, rfl, rfl⟩)) (fun j hj => hS j (.inr hj))⟩

theorem Memo.keep {w w' : World} {p A : Option Addr} {cp : Nat} {xs : List Int} (h : Memo w p A cp xs) (ho : Only Nil w w') : Memo w' p A cp xs := h.far ho (fun _ _ => id)

theorem Memo.lt {w : World} {p A : Option Addr} {cp : Nat} {xs : List Int} (h : Memo w p A cp xs) : ∀ j, At p j ∨ At A j → j < w.heap.size := by
  rcases h with ⟨rfl, _, rfl⟩ | ⟨b, rfl, h⟩
  · rintro j (⟨a, h, _⟩ | ⟨a, h, _⟩) <;> cases h
  · rintro j (⟨a, h2, rfl⟩ | h2)
    · cases h2; exact h.hdr.lt
    · exact h.own.lt j h2

theorem do_memo (p A : Option Addr) (cp : Nat) (xs : List Int) (k c x y o : Int) (w : World) (h : Memo w p A cp xs) :
    Calls Try.prog 25 #[.pointer p, .agg #[.int .i64 k, .int .i64 c, .int .u32 x, .int .u32 y, .int .u32 o]] w fun e w' =>
      e = .returned (.tuple #[doVal xs k c x y, .bool (doOk xs k c)]) ∧ Only (At A) w w' ∧ Memo w' p A cp (doNew xs k c x y) := by
  rcases h with ⟨rfl, rfl, rfl⟩ | ⟨b, rfl, h⟩
  · have ht : there [] c = false := by
      have : ¬ (0 ≤ c ∧ c < ((0 : Nat) : Int)) := by omega
      simp only [there, List.length_nil, decide_eq_false_iff_not]; exact this
    have hok : doOk [] k c = false := by simp [doOk, ht]
    refine (do_nil k c x y o w).mono fun e w' ⟨he, hO⟩ => ⟨by rw [he]; simp [doVal, hok, accOf], hO.mono (fun _ _ h => h.elim), .inl ⟨rfl, by simp [doNew, hok], rfl⟩⟩
  · exact (do_any b A cp xs k c x y o w h).mono fun e w' ⟨he, hO, hM⟩ => ⟨he, hO, .inr ⟨b, rfl, hM⟩⟩

/-- The access that a permit is taken by. -/
def takeVal (xs : List Int) (n i : Int) : Value := if hasP xs n i then accOf 4 (pc n i) 0 0 (wordAt xs (pc n i)) else accOf 0 0 0 0 0

theorem hasP_there {xs : List Int} {n i : Int} (h : hasP xs n i = true) : there xs (pc n i) = true := by
  unfold hasP wordAt at h
  cases ht : there xs (pc n i)
  · rw [ht] at h; simp at h
  · rfl

theorem st_none {xs : List Int} {n i : Int} (h : hasP xs n i = false) : st xs (pc n i) 0 = xs := by
  have hw : wordAt xs (pc n i) = 0 := by simpa [hasP] using h
  have := st_word xs (pc n i)
  rwa [hw] at this

/-- A law's lock: its memory, made since w0, ahead of block B, which holds the map. -/
structure Lk (w0 : World) (B : Nat) (p A : Option Addr) (cp : Nat) (n : Int) (w : World) (xs : List Int) : Prop where
  only : Only Nil w0 w
  memo : Memo w p A cp xs
  map : Row w B 59 #[.int .i64 n]
  far : ∀ j, At p j ∨ At A j → w0.heap.size ≤ j ∧ j < B

theorem Lk.keep {w0 w w' : World} {B : Nat} {p A : Option Addr} {cp : Nat} {n : Int} {xs : List Int} (h : Lk w0 B p A cp n w xs) (ho : Only Nil w w') : Lk w0 B p A cp n w' xs :=
  ⟨h.only.trans ho, h.memo.keep ho, h.map.only ho id, h.far⟩

theorem Lk.alloc {w0 w : World} {B : Nat} {p A : Option Addr} {cp : Nat} {n : Int} {xs : List Int} (h : Lk w0 B p A cp n w xs) (o : Obj) : Lk w0 B p A cp n (w.alloc o) xs := h.keep ((Only.refl Nil w).alloc o)

theorem Lk.call {w0 w w' : World} {B : Nat} {p A : Option Addr} {cp : Nat} {n : Int} {xs ys : List Int} (h : Lk w0 B p A cp n w xs) (ho : Only (At A) w w') (hm : Memo w' p A cp ys) : Lk w0 B p A cp n w' ys :=
  ⟨h.only.step ho (fun i hi hA => by have := (h.far i (.inr hA)).1; omega), hm, h.map.only ho (fun hA => by have := (h.far _ (.inr hA)).2; omega), h.far⟩

theorem Memo.mem {w : World} {b : Nat} {A : Option Addr} {cp : Nat} {xs : List Int} (h : Memo w (some ⟨b, 0, none⟩) A cp xs) : Mem w b A cp xs := by
  rcases h with ⟨h, _⟩ | ⟨b', hb, h⟩
  · cases h
  · cases hb; exact h

theorem pc_of {n i : Int} (hn : 1 ≤ n ∧ n ≤ 64) (hi : 0 ≤ i ∧ i < n) : pc n i = 8 + 3 * n + i := if_pos ⟨hn.1, hn.2, hi.1, hi.2⟩

theorem pc_none {n i : Int} (h : ¬ (1 ≤ n ∧ n ≤ 64 ∧ 0 ≤ i ∧ i < n)) : pc n i = -1 := if_neg h

theorem hasP_st {xs : List Int} {n i : Int} (u : Int) (h : there xs (pc n i) = true) : hasP (st xs (pc n i) u) n i = (u != 0) := by
  unfold hasP
  rw [word_st, h]
  rfl

theorem word_far {xs : List Int} {c d : Int} (u : Int) (h : c ≠ d) : wordAt (st xs c u) d = wordAt xs d := by
  unfold wordAt
  rw [there_st]
  cases hd : there xs d
  · rfl
  · unfold st
    cases hc : there xs c
    · rfl
    · simp only [there, decide_eq_true_eq] at hd hc
      simp only [if_true, List.getD]
      rw [List.getElem?_set_ne (by omega)]

theorem hasP_far {xs : List Int} {n i j : Int} (u : Int) (h : pc n i ≠ pc n j) : hasP (st xs (pc n i) u) n j = hasP xs n j := by
  unfold hasP
  rw [word_far u h]

theorem five_far {w : World} {g q : Nat} {t : TypeId} {cs : Array Value} (h : Row w q t cs) (hq : q ≠ g) (v0 v1 v2 v3 v4 : Value) :
    Row (((((w.setCell ⟨g, 0, none⟩ v0).setCell ⟨g, 1, none⟩ v1).setCell ⟨g, 2, none⟩ v2).setCell ⟨g, 3, none⟩ v3).setCell ⟨g, 4, none⟩ v4) q t cs :=
  h.only (five_only (Only.refl (· = g) w) (.inr rfl) v0 v1 v2 v3 v4) hq

/-- What a call of Take tells, field by field. -/
theorem takeVal_form (xs : List Int) (n i : Int) : ∃ k c x y o, takeVal xs n i = .agg #[.int .i64 k, .int .i64 c, .int .u32 x, .int .u32 y, .int .u32 o] := by
  unfold takeVal accOf
  split
  · exact ⟨_, _, _, _, _, rfl⟩
  · exact ⟨_, _, _, _, _, rfl⟩
end Go.Proofs.Ytdmpaoajcnjbaaa
/- Waiting: plain functions; a return of two structs that lie in blocks of their own, and of two values more. -/
set_option linter.unusedVariables false
set_option linter.unusedSimpArgs false
namespace Go.Proofs.Ytdmpaoajcnjbaaa
open Go.RowKit

/-- A task's watch's cell. -/
def wc (n i : Int) : Int := cellI n 2 i
/-- Each word is one. -/
def Words (xs : List Int) : Prop := ∀ n ∈ xs, (Lit.int .u32 n).wf = true

/-- What a step tells, and leaves. -/
structure StepR where
  next : Int
  acc : Value
  seen : Bool
  done : Bool
  xs : List Int

/-- One step. -/
def stepI (xs : List Int) (n mode i s c : Int) (q : Int → Bool) : StepR :=
  if mode ≠ 2 then ⟨0, doVal xs 1 c 0 0, q (wordAt xs c), q (wordAt xs c), xs⟩
  else if s = 1 then ⟨2, doVal xs 2 (wc n i) ((c + 1) % 4294967296) 0, false, false, st xs (wc n i) ((c + 1) % 4294967296)⟩
  else if s = 2 then ⟨if q (wordAt xs c) then 4 else 3, doVal xs 1 c 0 0, q (wordAt xs c), false, xs⟩
  else if s = 3 then ⟨if hasP xs n i then 2 else 3, takeVal xs n i, false, false, st xs (pc n i) 0⟩
  else if s = 4 then ⟨0, doVal xs 2 (wc n i) 0 0, false, true, st xs (wc n i) 0⟩
  else ⟨if q (wordAt xs c) then 0 else 1, doVal xs 1 c 0 0, q (wordAt xs c), q (wordAt xs c), xs⟩

/-- Would the step take a permit that isn't there? -/
def stuckB (xs : List Int) (n mode i s : Int) : Bool := (mode == 2) && (s == 3) && !hasP xs n i

section
variable {xs : List Int} {n mode i s c : Int} {q : Int → Bool}
theorem stepI_spin (h : mode ≠ 2) : stepI xs n mode i s c q = ⟨0, doVal xs 1 c 0 0, q (wordAt xs c), q (wordAt xs c), xs⟩ := if_pos h
theorem stepI_1 : stepI xs n 2 i 1 c q = ⟨2, doVal xs 2 (wc n i) ((c + 1) % 4294967296) 0, false, false, st xs (wc n i) ((c + 1) % 4294967296)⟩ := rfl
theorem stepI_2 : stepI xs n 2 i 2 c q = ⟨if q (wordAt xs c) then 4 else 3, doVal xs 1 c 0 0, q (wordAt xs c), false, xs⟩ := rfl
theorem stepI_3 : stepI xs n 2 i 3 c q = ⟨if hasP xs n i then 2 else 3, takeVal xs n i, false, false, st xs (pc n i) 0⟩ := rfl
theorem stepI_4 : stepI xs n 2 i 4 c q = ⟨0, doVal xs 2 (wc n i) 0 0, false, true, st xs (wc n i) 0⟩ := rfl
theorem stepI_0 (h1 : s ≠ 1) (h2 : s ≠ 2) (h3 : s ≠ 3) (h4 : s ≠ 4) : stepI xs n 2 i s c q = ⟨if q (wordAt xs c) then 0 else 1, doVal xs 1 c 0 0, q (wordAt xs c), q (wordAt xs c), xs⟩ := by
  unfold stepI
  rw [if_neg (by simp), if_neg h1, if_neg h2, if_neg h3, if_neg h4]
end

/-- A return of two structs that lie in blocks of their own, and of two values more. -/
theorem post_two_tmps {P : Program} {fn : Func} {R : Ending → World → Prop} {a : Act} {w : World} {p q u v : Tmp} {ty ty' : TypeId} (h : fn.results = #[.cell p ty, .cell q ty', .tmp u, .tmp v]) {g g' : Nat} {t t' : TypeId} {cs cs' : Array Value} {d d' : TypeDesc}
    (hp : a.tmps.getD p undef = .pointer (some ⟨g, 0, none⟩)) (hg : Row w g t cs) (hu : P.underlying ty = some d) (hd : (match d with | .struct _ | .array _ _ => true | _ => false) = true) (hi : (P.info? ty).map (·.size) = some cs.size)
    (hq : a.tmps.getD q undef = .pointer (some ⟨g', 0, none⟩)) (hg' : Row w g' t' cs') (hu' : P.underlying ty' = some d') (hd' : (match d' with | .struct _ | .array _ _ => true | _ => false) = true) (hi' : (P.info? ty').map (·.size) = some cs'.size)
    (hf : a.defers = []) (hR : R (.returned (.tuple #[.agg cs, .agg cs', a.tmps.getD u undef, a.tmps.getD v undef])) w) : bodyPost P fn R .ret a w := by
  refine ⟨hf, _, ?_, hR⟩
  have hp' : a.tmps[p]?.getD undef = .pointer (some ⟨g, 0, none⟩) := by simpa using hp
  have hq' : a.tmps[q]?.getD undef = .pointer (some ⟨g', 0, none⟩) := by simpa using hq
  simp [results, h, hp', hq', asAddr, run_loadVar_row w g t ty cs (0, 0) d hg hu hd hi, run_loadVar_row w g' t' ty' cs' (0, 0) d' hg' hu' hd' hi']
end Go.Proofs.Ytdmpaoajcnjbaaa
/- Contracts of the answer's There, Copy and Same. -/
namespace Go.Proofs.Ytdmpaoajcnjbaaa
open Go.RowKit

theorem take_next {xs ys : List Int} {k : Nat} (hx : k < xs.length) (hy : k < ys.length) (h : xs.take k = ys.take k) (e : xs.getD k 0 = ys.getD k 0) : xs.take (k + 1) = ys.take (k + 1) := by
  rw [List.take_succ_eq_append_getElem hx, List.take_succ_eq_append_getElem hy, h]
  simp only [List.getD, List.getElem?_eq_getElem hx, List.getElem?_eq_getElem hy, Option.getD_some] at e
  rw [e]

theorem take_not {xs ys : List Int} {k : Nat} (e : xs.getD k 0 ≠ ys.getD k 0) : xs ≠ ys := by
  rintro rfl; exact e rfl

theorem same_len (A B : Option Addr) (c d : Nat) (xs ys : List Int) (w : World) (hl : xs.length ≠ ys.length) :
    Calls Try.prog 13 #[.slice A xs.length c, .slice B ys.length d] w fun e w' => e = .returned (.bool (decide (xs = ys))) ∧ Only Nil w w' := by
  have hne : xs ≠ ys := fun h => hl (by rw [h])
  have hl' : ((xs.length : Int) == (ys.length : Int)) = false := by simpa [Int.natCast_inj] using hl
  have HN := Lib.hid hne
  clear hne
  go_enter Try.func13, Try.ntmps13
  go_wp2
  go_ret
  exact ⟨by simp [HN.out], Only.refl _ _⟩

theorem same_any (A B : Option Addr) (c d : Nat) (xs ys : List Int) (w : World) (hx : Held w A xs.length c xs) (hy : Held w B ys.length d ys) (hm : xs.length ≤ 1048576) :
    Calls Try.prog 13 #[.slice A xs.length c, .slice B ys.length d] w fun e w' => e = .returned (.bool (decide (xs = ys))) ∧ Only Nil w w' := by
  by_cases hl : xs.length = ys.length
  · have hx3 := hx.2.2
    have hy3 := hy.2.2
    clear hx hy
    generalize hnx : xs.length = n at *
    have hny : ys.length = n := hl.symm
    rw [← hl]
    have HX := Lib.hid hx3
    have HY := Lib.hid hy3
    have HNX := Lib.hid hnx
    have HNY := Lib.hid hny
    clear hx3 hy3 hnx hny hl
    go_enter Try.func13, Try.ntmps13
    go_wp2
    go_loopw [5] (fun i wr => ∃ k : Nat, k ≤ n ∧ i = .int .i64 k ∧ xs.take k = ys.take k ∧ ∃ m, wr = w.drewN m) (fun i _ => n - (intOf i).toNat)
    case atStart => exact ⟨0, Nat.zero_le _, rfl, rfl, 0, rfl⟩
    case round =>
      obtain ⟨k, hk, rfl, ht, m, rfl⟩ := hrel
      have HT := Lib.hid ht
      clear ht
      by_cases hlt : k < n
      · obtain ⟨b1, o1, hA, _, hc1⟩ := HX.out (by rw [HNX.out]; omega)
        obtain ⟨b2, o2, hB, _, hc2⟩ := HY.out (by rw [HNY.out]; omega)
        subst hA hB
        have c1 := hc1 k (by rw [HNX.out]; omega)
        have c2 := hc2 k (by rw [HNY.out]; omega)
        clear hc1 hc2
        generalize h1 : xs.getD k 0 = x at *
        generalize h2 : ys.getD k 0 = y at *
        have H1 := Lib.hid h1
        have H2 := Lib.hid h2
        clear h1 h2
        go_wp2
        go_quiet (fail)
        go_wp2
        · have hxy : x ≠ y := by have h : (x != y) = true := by assumption
                                 simpa using h
          have hne : xs ≠ ys := take_not (k := k) (by rw [H1.out, H2.out]; exact hxy)
          go_ret
          exact ⟨by simp [hne], (((Only.refl _ _).drewN _).drewN _)⟩
        · have hxy : x = y := by have h : (x != y) = false := by assumption
                                 simpa using h
          exact ⟨⟨k + 1, by omega, by go_num, take_next (by rw [HNX.out]; omega) (by rw [HNY.out]; omega) HT.out (by rw [H1.out, H2.out]; exact hxy), _, rfl⟩, by simp [intOf]; omega⟩
      · have hkn : k = n := by omega
        subst hkn
        have heq : xs = ys := by
          have e := HT.out
          rwa [List.take_of_length_le (by rw [HNX.out]; omega), List.take_of_length_le (by rw [HNY.out]; omega)] at e
        have HE := Lib.hid heq
        clear heq
        go_wp2
        go_ret
        exact ⟨by simp [HE.out], (Only.refl _ _).drewN _⟩
  · exact same_len A B c d xs ys w hl

theorem same_n (A B : Option Addr) (c d n : Nat) (xs ys : List Int) (w : World) (hx : Held w A n c xs) (hy : Held w B n d ys) (hm : n ≤ 1048576) :
    Calls Try.prog 13 #[.slice A n c, .slice B n d] w fun e w' => e = .returned (.bool (decide (xs = ys))) ∧ Only Nil w w' := by
  have e1 := hx.1
  have e2 := hy.1
  have q := same_any A B c d xs ys w (by rw [e1]; exact hx) (by rw [e2]; exact hy) (by omega)
  rw [e1, e2] at q
  exact q

theorem Own.held_n {w : World} {base : Nat} {A : Option Addr} {c n : Nat} {xs : List Int} (h : Own w base A c xs) (hn : xs.length = n) : Held w A n c xs := by
  subst hn; exact h.held
end Go.Proofs.Ytdmpaoajcnjbaaa
/- A memory, and the answer's list beside it. -/
set_option linter.unusedVariables false
set_option linter.unusedSimpArgs false
namespace Go.Proofs.Ytdmpaoajcnjbaaa
open Go.RowKit

/-- A memory of the words xs that was made from block L on (since w0) ahead of block M, and a list of the words ys that was made from block B on, ahead of block C. -/
structure Pr (w0 : World) (L M B C : Nat) (p A : Option Addr) (cp : Nat) (A2 : Option Addr) (c2 : Nat) (w : World) (xs ys : List Int) : Prop where
  only : Only Nil w0 w
  memo : Memo w p A cp xs
  own : Own w B A2 c2 ys
  far : ∀ j, At p j ∨ At A j → L ≤ j ∧ j < M
  lt : ∀ j, At A2 j → j < C
  mb : M ≤ B
  hw : w0.heap.size ≤ L
  hl : L ≤ M

section
variable {w0 w w' : World} {L M B C cp c2 g : Nat} {p A A2 : Option Addr} {xs ys zs : List Int} {S : Nat → Prop} {t : TypeId} {cs : Array Value}
theorem Pr.keep (h : Pr w0 L M B C p A cp A2 c2 w xs ys) (ho : Only Nil w w') : Pr w0 L M B C p A cp A2 c2 w' xs ys :=
  ⟨h.only.trans ho, h.memo.keep ho, h.own.only ho (fun _ _ => id), h.far, h.lt, h.mb, h.hw, h.hl⟩
theorem Pr.prog (h : Pr w0 L M B C p A cp A2 c2 w xs ys) (ho : Only (At A) w w') (hm : Memo w' p A cp zs) : Pr w0 L M B C p A cp A2 c2 w' zs ys :=
  ⟨h.only.step ho (fun i hi hA => by have := (h.far i (.inr hA)).1; have := h.hw; omega), hm, h.own.only ho (fun j hj hA => by have := (h.far j (.inr hA)).2; have := h.own.base j hj; have := h.mb; omega), h.far, h.lt, h.mb, h.hw, h.hl⟩
theorem Pr.answ (h : Pr w0 L M B C p A cp A2 c2 w xs ys) (ho : Only (At A2) w w') (hw : Own w' B A2 c2 zs) : Pr w0 L M B C p A cp A2 c2 w' xs zs :=
  ⟨h.only.step ho (fun i hi hA => by have := h.own.base i hA; have := h.mb; have := h.hw; have := h.hl; omega), h.memo.far ho (fun j hj hA => by have := (h.far j hj).2; have := h.own.base j hA; have := h.mb; omega), hw, h.far, h.lt, h.mb, h.hw, h.hl⟩
theorem Pr.far_prog (h : Pr w0 L M B C p A cp A2 c2 w xs ys) (hg : g < L ∨ M ≤ g) : ¬ At A g := fun e => by have := h.far g (.inr e); omega
theorem Pr.far_answ (h : Pr w0 L M B C p A cp A2 c2 w xs ys) (hg : g < B ∨ C ≤ g) : ¬ At A2 g := fun e => by have := h.own.base g e; have := h.lt g e; omega
end

/-- What a step's access is: a zero one, and nothing was done, or one that was done on a cell of the task's own, or loaded the cell. -/
theorem step_access (xs : List Int) (n mode i s c : Int) (q : Int → Bool) : ∃ ka ca xa ya oa : Int, (stepI xs n mode i s c q).acc = .agg #[.int .i64 ka, .int .i64 ca, .int .u32 xa, .int .u32 ya, .int .u32 oa] ∧
    ((ka = 0 ∧ ca = 0 ∧ xa = 0 ∧ ya = 0 ∧ oa = 0 ∧ (stepI xs n mode i s c q).xs = xs) ∨
     (ka ≠ 0 ∧ doVal xs ka ca xa ya = .agg #[.int .i64 ka, .int .i64 ca, .int .u32 xa, .int .u32 ya, .int .u32 oa] ∧ doOk xs ka ca = true ∧ doNew xs ka ca xa ya = (stepI xs n mode i s c q).xs ∧ (ca = wc n i ∨ ca = pc n i ∨ (ka = 1 ∧ ca = c)))) := by
  have ld : ∀ r : StepR, r.acc = doVal xs 1 c 0 0 → r.xs = xs → ∃ ka ca xa ya oa : Int, r.acc = .agg #[.int .i64 ka, .int .i64 ca, .int .u32 xa, .int .u32 ya, .int .u32 oa] ∧
      ((ka = 0 ∧ ca = 0 ∧ xa = 0 ∧ ya = 0 ∧ oa = 0 ∧ r.xs = xs) ∨ (ka ≠ 0 ∧ doVal xs ka ca xa ya = .agg #[.int .i64 ka, .int .i64 ca, .int .u32 xa, .int .u32 ya, .int .u32 oa] ∧ doOk xs ka ca = true ∧ doNew xs ka ca xa ya = r.xs ∧ (ca = wc n i ∨ ca = pc n i ∨ (ka = 1 ∧ ca = c)))) := fun r h1 h2 => by
    cases hk : doOk xs 1 c
    · exact ⟨0, 0, 0, 0, 0, by rw [h1]; simp [doVal, hk, accOf], .inl ⟨rfl, rfl, rfl, rfl, rfl, h2⟩⟩
    · exact ⟨1, c, 0, 0, wordAt xs c, by rw [h1]; simp [doVal, hk, accOf], .inr ⟨by decide, by simp [doVal, hk, accOf], hk, by rw [doNew_load, h2], .inr (.inr ⟨rfl, rfl⟩)⟩⟩
  have sw : ∀ (r : StepR) (v : Int), r.acc = doVal xs 2 (wc n i) v 0 → r.xs = st xs (wc n i) v → ∃ ka ca xa ya oa : Int, r.acc = .agg #[.int .i64 ka, .int .i64 ca, .int .u32 xa, .int .u32 ya, .int .u32 oa] ∧
      ((ka = 0 ∧ ca = 0 ∧ xa = 0 ∧ ya = 0 ∧ oa = 0 ∧ r.xs = xs) ∨ (ka ≠ 0 ∧ doVal xs ka ca xa ya = .agg #[.int .i64 ka, .int .i64 ca, .int .u32 xa, .int .u32 ya, .int .u32 oa] ∧ doOk xs ka ca = true ∧ doNew xs ka ca xa ya = r.xs ∧ (ca = wc n i ∨ ca = pc n i ∨ (ka = 1 ∧ ca = c)))) := fun r v h1 h2 => by
    cases hk : doOk xs 2 (wc n i)
    · have ht : there xs (wc n i) = false := by simpa [doOk, isKind] using hk
      exact ⟨0, 0, 0, 0, 0, by rw [h1]; simp [doVal, hk, accOf], .inl ⟨rfl, rfl, rfl, rfl, rfl, by rw [h2]; simp [st, ht]⟩⟩
    · exact ⟨2, wc n i, v, 0, wordAt xs (wc n i), by rw [h1]; simp [doVal, hk, accOf], .inr ⟨by decide, by simp [doVal, hk, accOf], hk, by rw [h2, doNew_st xs 2 _ _ 0 rfl]; rfl, .inl rfl⟩⟩
  unfold stepI
  split
  · exact ld _ rfl rfl
  split
  · exact sw _ _ rfl rfl
  split
  · exact ld _ rfl rfl
  split
  · cases hp : hasP xs n i
    · exact ⟨0, 0, 0, 0, 0, by simp [takeVal, hp, accOf], .inl ⟨rfl, rfl, rfl, rfl, rfl, st_none hp⟩⟩
    · have ht := hasP_there hp
      have hok : doOk xs 4 (pc n i) = true := by simp [doOk, isKind, ht]
      exact ⟨4, pc n i, 0, 0, wordAt xs (pc n i), by simp [takeVal, hp, accOf], .inr ⟨by decide, by simp [doVal, hok, accOf], hok, by rw [doNew_st xs 4 _ _ 0 rfl]; rfl, .inr (.inl rfl)⟩⟩
  split
  · exact sw _ _ rfl rfl
  · exact ld _ rfl rfl
end Go.Proofs.Ytdmpaoajcnjbaaa
/- Waiting: each word stays one; a step keeps their number. -/
set_option linter.unusedVariables false
set_option linter.unusedSimpArgs false
namespace Go.Proofs.Ytdmpaoajcnjbaaa
open Go.RowKit

theorem wf_mk {n : Int} (h0 : 0 ≤ n) (h1 : n < 4294967296) : (Lit.int .u32 n).wf = true := by
  have e1 : IntKind.u32.min = 0 := rfl
  have e2 : IntKind.u32.max = 4294967295 := rfl
  simp only [Lit.wf, Bool.and_eq_true, decide_eq_true_eq]
  omega
theorem Words.st {xs : List Int} (h : Words xs) (c : Int) {u : Int} (h0 : 0 ≤ u) (h1 : u < 4294967296) : Words (Go.Proofs.Ytdmpaoajcnjbaaa.st xs c u) := by
  unfold Go.Proofs.Ytdmpaoajcnjbaaa.st
  split
  · intro n hn
    rcases List.mem_or_eq_of_mem_set hn with hn | rfl
    · exact h n hn
    · exact wf_mk h0 h1
  · exact h
theorem Words.step {xs : List Int} (h : Words xs) (n mode i s c : Int) (q : Int → Bool) : Words (stepI xs n mode i s c q).xs := by
  unfold stepI
  split
  · exact h
  split
  · exact h.st _ (by omega) (by omega)
  split
  · exact h
  split
  · exact h.st _ (by omega) (by omega)
  split
  · exact h.st _ (by omega) (by omega)
  · exact h
theorem step_len (xs : List Int) (n mode i s c : Int) (q : Int → Bool) : (stepI xs n mode i s c q).xs.length = xs.length := by
  unfold stepI
  split
  · rfl
  split
  · exact st_len _ _ _
  split
  · rfl
  split
  · exact st_len _ _ _
  split
  · exact st_len _ _ _
  · rfl
/-- Of a function that never holds nothing is seen. -/
theorem step_never (xs : List Int) (n mode i s c : Int) : (stepI xs n mode i s c (fun _ => false)).seen = false := by
  unfold stepI
  split
  · rfl
  split
  · rfl
  split
  · rfl
  split
  · rfl
  split
  · rfl
  · rfl
end Go.Proofs.Ytdmpaoajcnjbaaa
/- Waking: plain functions; returns of two structs that lie in blocks of their own. -/
set_option linter.unusedVariables false
set_option linter.unusedSimpArgs false
namespace Go.Proofs.Ytdmpaoajcnjbaaa
open Go.RowKit

/-- A wake-up. -/
structure WkV where
  on : Bool
  c : Int
  i : Int
  hit : Bool

def WkV.v (k : WkV) : Value := .agg #[.bool k.on, .int .i64 k.c, .int .i64 k.i, .bool k.hit]
def wk0 : WkV := ⟨false, 0, 0, false⟩

/-- What a step of a wake-up tells, and leaves. -/
structure WakeR where
  next : WkV
  acc : Value
  xs : List Int

/-- The wake-up behind the task i. -/
def nextI (n c i : Int) : WkV := if i + 1 = n then wk0 else ⟨true, c, i + 1, false⟩

def restI (xs : List Int) : WakeR := ⟨wk0, accOf 0 0 0 0 0, xs⟩
def giveI (xs : List Int) (n c i : Int) : WakeR := if there xs (pc n i) then ⟨nextI n c i, doVal xs 2 (pc n i) 1 0, st xs (pc n i) 1⟩ else restI xs
def lookI (xs : List Int) (n c i : Int) : WakeR :=
  if there xs (wc n i) then
    (if wordAt xs (wc n i) = (c + 1) % 4294967296 then ⟨⟨true, c, i, true⟩, doVal xs 1 (wc n i) 0 0, xs⟩ else ⟨nextI n c i, doVal xs 1 (wc n i) 0 0, xs⟩)
  else restI xs
/-- One step. -/
def wakeI (xs : List Int) (n : Int) (on : Bool) (c i : Int) (hit : Bool) : WakeR := if on then (if hit then giveI xs n c i else lookI xs n c i) else restI xs

/-- A return of two structs that lie in blocks of their own. -/
theorem post_two {P : Program} {fn : Func} {R : Ending → World → Prop} {a : Act} {w : World} {p q : Tmp} {ty ty' : TypeId} (h : fn.results = #[.cell p ty, .cell q ty']) {g g' : Nat} {t t' : TypeId} {cs cs' : Array Value} {d d' : TypeDesc}
    (hp : a.tmps.getD p undef = .pointer (some ⟨g, 0, none⟩)) (hg : Row w g t cs) (hu : P.underlying ty = some d) (hd : (match d with | .struct _ | .array _ _ => true | _ => false) = true) (hi : (P.info? ty).map (·.size) = some cs.size)
    (hq : a.tmps.getD q undef = .pointer (some ⟨g', 0, none⟩)) (hg' : Row w g' t' cs') (hu' : P.underlying ty' = some d') (hd' : (match d' with | .struct _ | .array _ _ => true | _ => false) = true) (hi' : (P.info? ty').map (·.size) = some cs'.size)
    (hf : a.defers = []) (hR : R (.returned (.tuple #[.agg cs, .agg cs'])) w) : bodyPost P fn R .ret a w := by
  refine ⟨hf, _, ?_, hR⟩
  have hp' : a.tmps[p]?.getD undef = .pointer (some ⟨g, 0, none⟩) := by simpa using hp
  have hq' : a.tmps[q]?.getD undef = .pointer (some ⟨g', 0, none⟩) := by simpa using hq
  simp [results, h, hp', hq', asAddr, run_loadVar_row w g t ty cs (0, 0) d hg hu hd hi, run_loadVar_row w g' t' ty' cs' (0, 0) d' hg' hu' hd' hi']

/-- The same, and a value more. -/
theorem post_two_tmp {P : Program} {fn : Func} {R : Ending → World → Prop} {a : Act} {w : World} {p q u : Tmp} {ty ty' : TypeId} (h : fn.results = #[.cell p ty, .cell q ty', .tmp u]) {g g' : Nat} {t t' : TypeId} {cs cs' : Array Value} {d d' : TypeDesc}
    (hp : a.tmps.getD p undef = .pointer (some ⟨g, 0, none⟩)) (hg : Row w g t cs) (hu : P.underlying ty = some d) (hd : (match d with | .struct _ | .array _ _ => true | _ => false) = true) (hi : (P.info? ty).map (·.size) = some cs.size)
    (hq : a.tmps.getD q undef = .pointer (some ⟨g', 0, none⟩)) (hg' : Row w g' t' cs') (hu' : P.underlying ty' = some d') (hd' : (match d' with | .struct _ | .array _ _ => true | _ => false) = true) (hi' : (P.info? ty').map (·.size) = some cs'.size)
    (hf : a.defers = []) (hR : R (.returned (.tuple #[.agg cs, .agg cs', a.tmps.getD u undef])) w) : bodyPost P fn R .ret a w := by
  refine ⟨hf, _, ?_, hR⟩
  have hp' : a.tmps[p]?.getD undef = .pointer (some ⟨g, 0, none⟩) := by simpa using hp
  have hq' : a.tmps[q]?.getD undef = .pointer (some ⟨g', 0, none⟩) := by simpa using hq
  simp [results, h, hp', hq', asAddr, run_loadVar_row w g t ty cs (0, 0) d hg hu hd hi, run_loadVar_row w g' t' ty' cs' (0, 0) d' hg' hu' hd' hi']

/-- A struct of four cells stored into a block. -/
theorem four {w : World} {g : Nat} {t : TypeId} {a0 a1 a2 a3 : Value} (h : Row w g t #[a0, a1, a2, a3]) (v0 v1 v2 v3 : Value) :
    Row ((((w.setCell ⟨g, 0, none⟩ v0).setCell ⟨g, 1, none⟩ v1).setCell ⟨g, 2, none⟩ v2).setCell ⟨g, 3, none⟩ v3) g t #[v0, v1, v2, v3] := by
  simpa using (((h.set 0 v0).set 1 v1).set 2 v2).set 3 v3

theorem four_only {S : Nat → Prop} {w w' : World} (h : Only S w w') {g : Nat} (hg : w.heap.size ≤ g ∨ S g) (v0 v1 v2 v3 : Value) :
    Only S w ((((w'.setCell ⟨g, 0, none⟩ v0).setCell ⟨g, 1, none⟩ v1).setCell ⟨g, 2, none⟩ v2).setCell ⟨g, 3, none⟩ v3) :=
  (((h.setCell (p := ⟨g, 0, none⟩) hg v0).setCell (p := ⟨g, 1, none⟩) hg v1).setCell (p := ⟨g, 2, none⟩) hg v2).setCell (p := ⟨g, 3, none⟩) hg v3
end Go.Proofs.Ytdmpaoajcnjbaaa
/- wake.Begin, and the answer's. -/
set_option linter.unusedVariables false
set_option linter.unusedSimpArgs false
namespace Go.Proofs.Ytdmpaoajcnjbaaa
open Go.RowKit

/-- A wake-up at first. -/
def beginI (mode c : Int) : WkV := if mode = 2 then ⟨true, c, 0, false⟩ else wk0

theorem beginI_2 (c : Int) : beginI 2 c = ⟨true, c, 0, false⟩ := rfl

theorem beginI_no {mode : Int} (h : mode ≠ 2) (c : Int) : beginI mode c = wk0 := if_neg h

theorem begin_any (mode c : Int) (w : World) : Calls Try.prog 85 #[.int .i64 mode, .int .i64 c] w fun e w' => e = .returned (beginI mode c).v ∧ Only Nil w w' := by
  by_cases hm : mode = 2
  · subst hm
    rw [beginI_2]
    go_enter Try.func85, Try.ntmps85
    go_wp2
    exact post_row (P := Try.prog) Try.results85 (t := 55) (by rfl) (Row.new _ _ _) Try.underlying55 rfl (by kernel_rfl) rfl ⟨rfl, (Only.refl _ _).alloc _⟩
  · rw [beginI_no hm]
    have h2 : (mode != 2) = true := bne_iff_ne.2 hm
    clear hm
    go_enter Try.func85, Try.ntmps85
    go_wp2
    exact post_row (P := Try.prog) Try.results85 (t := 55) (by rfl) (Row.new _ _ _) Try.underlying55 rfl (by kernel_rfl) rfl ⟨rfl, (Only.refl _ _).alloc _⟩
end Go.Proofs.Ytdmpaoajcnjbaaa
/- A note, in plain mathematics. -/
namespace Go.Proofs.Ytdmpaoajcnjbaaa
open Go.RowKit

/-- A note: task, what, operation, argument. -/
structure Nt where
  t : Int
  w : Int
  o : Int
  a : Int
theorem Nt.ext_ {a b : Nt} (h1 : a.t = b.t) (h2 : a.w = b.w) (h3 : a.o = b.o) (h4 : a.a = b.a) : a = b := by
  cases a; cases b; simp_all
end Go.Proofs.Ytdmpaoajcnjbaaa
/- Lists of notes. -/
set_option linter.unusedVariables false
set_option linter.unusedSimpArgs false
namespace Go.Proofs.Ytdmpaoajcnjbaaa
open Go.RowKit

def flat1 (n : Nt) : List Value := [.int .i64 n.t, .int .i64 n.w, .int .i64 n.o, .int .i64 n.a]

def flat : List Nt → List Value
  | [] => []
  | n :: r => flat1 n ++ flat r

theorem flat_len : ∀ zs, (flat zs).length = zs.length * 4
  | [] => rfl
  | n :: r => by rw [flat, List.length_append, flat_len r, List.length_cons]; show 4 + _ = _; omega

theorem flat_app : ∀ zs ys, flat (zs ++ ys) = flat zs ++ flat ys
  | [], ys => rfl
  | n :: r, ys => by rw [List.cons_append, flat, flat, flat_app r ys, List.append_assoc]

theorem flat_get : ∀ (zs : List Nt) (i : Nat) (n : Nt) (j : Nat), zs[i]? = some n → j < 4 → (flat zs)[i * 4 + j]? = (flat1 n)[j]?
  | [], i, n, j, h, _ => by simp at h
  | m :: r, 0, n, j, h, hj => by
    simp only [List.getElem?_cons_zero, Option.some.injEq] at h
    subst h
    rw [flat, List.getElem?_append_left (by show _ < 4; omega), Nat.zero_mul, Nat.zero_add]
  | m :: r, i + 1, n, j, h, hj => by
    rw [flat, List.getElem?_append_right (by show 4 ≤ _; omega), show (i + 1) * 4 + j - (flat1 m).length = i * 4 + j by show (i + 1) * 4 + j - 4 = _; omega]
    exact flat_get r i n j (by simpa using h) hj

/-- What stands at a note's four cells. -/
structure At4 (w : World) (b q : Nat) (n : Nt) : Prop where
  c0 : w.cell? ⟨b, q, none⟩ = some (.int .i64 n.t)
  c1 : w.cell? ⟨b, q + 1, none⟩ = some (.int .i64 n.w)
  c2 : w.cell? ⟨b, q + 2, none⟩ = some (.int .i64 n.o)
  c3 : w.cell? ⟨b, q + 3, none⟩ = some (.int .i64 n.a)

/-- A slice at A, as long as zs is, reads as these notes. -/
def Notes (w : World) (A : Option Addr) (zs : List Nt) : Prop := 0 < zs.length → ∃ b q, A = some ⟨b, q, none⟩ ∧ b < w.heap.size ∧ ∀ (i : Nat) (n : Nt), zs[i]? = some n → At4 w b (q + i * 4) n

theorem At4.only {w w' : World} {b q : Nat} {n : Nt} (h : At4 w b q n) (ho : Only Nil w w') (hb : b < w.heap.size) : At4 w' b q n :=
  ⟨(ho.cell (p := ⟨b, q, none⟩) hb id).trans h.c0, (ho.cell (p := ⟨b, q + 1, none⟩) hb id).trans h.c1, (ho.cell (p := ⟨b, q + 2, none⟩) hb id).trans h.c2, (ho.cell (p := ⟨b, q + 3, none⟩) hb id).trans h.c3⟩

theorem Notes.only {w w' : World} {A : Option Addr} {zs : List Nt} (h : Notes w A zs) (ho : Only Nil w w') : Notes w' A zs := fun h0 => by
  obtain ⟨b, q, e, hb, hc⟩ := h h0
  exact ⟨b, q, e, Nat.lt_of_lt_of_le hb ho.size, fun i n hi => (hc i n hi).only ho hb⟩

/-- A list of these notes, that the call made. -/
def OwnN (base : Nat) (w : World) (v : Value) (zs : List Nt) : Prop := w.ownsRow base 117 4 v zs.length (flat zs)

theorem OwnN.only {base : Nat} {w w' : World} {v : Value} {zs : List Nt} (h : OwnN base w v zs) (ho : Only Nil w w') : OwnN base w' v zs := own_only h ho (fun _ _ => id)

theorem ownN_nil (base : Nat) (w : World) : OwnN base w (.slice none 0 0) [] := World.ownsRow_nil _ _ _ _

/-- It is a list of these notes. -/
def ListN (w : World) (v : Value) (zs : List Nt) : Prop := ∃ A c, v = .slice A zs.length c ∧ Notes w A zs

theorem ListN.only {w w' : World} {v : Value} {zs : List Nt} (h : ListN w v zs) (ho : Only Nil w w') : ListN w' v zs := by
  obtain ⟨A, c, hv, hn⟩ := h
  exact ⟨A, c, hv, hn.only ho⟩

theorem OwnN.list {base : Nat} {w : World} {v : Value} {zs : List Nt} (h : OwnN base w v zs) : ListN w v zs := by
  rcases h.2 with ⟨rfl, hn⟩ | ⟨g, cap, cur, hv, hb, hg, hc, _⟩
  · obtain rfl := List.eq_nil_of_length_eq_zero hn
    exact ⟨none, 0, rfl, fun h => absurd h (by simp)⟩
  · refine ⟨_, cap, hv, fun _ => ⟨g, 0, rfl, (Array.getElem?_eq_some_iff.1 hg).1, fun i n hi => ?_⟩⟩
    have hcell : ∀ j u, (flat1 n)[j]? = some u → w.cell? ⟨g, 0 + i * 4 + j, none⟩ = some u := fun j u hj => by
      have h1 := World.ownsRow.cells h (g := g) (by rw [hv]; rfl) (i * 4 + j) u (by rw [flat_get zs i n j hi (List.getElem?_eq_some_iff.1 hj).1]; exact hj)
      rwa [add_at, ← Nat.add_assoc] at h1
    exact ⟨hcell 0 _ rfl, hcell 1 _ rfl, hcell 2 _ rfl, hcell 3 _ rfl⟩

theorem infoN : (Try.prog.info? 117).map (fun i => (i.zero, i.size, i.bytes)) = some (some (.agg #[.int .i64 0, .int .i64 0, .int .i64 0, .int .i64 0]), 4, 32) := by kernel_rfl

theorem wp_appN {w : World} {ops : Array Oper} {rest : List Oper} {o : Oper} {a : Act} {Q : Exit → Act → World → Prop} (hgd : o.guard = none) (s x : Operand)
    (ho : o.op = .call { callee := .builtin .append, args := #[s, x], argTypes := #[32, 32] })
    (base : Nat) (v : Value) (zs : List Nt) (hs : a.eval s = v) (hown : OwnN base w v zs)
    (g : Nat) (n : Nt) (hx : a.eval x = .slice (some ⟨g, 0, none⟩) 1 1) (hrow : Row w g 117 #[.int .i64 n.t, .int .i64 n.w, .int .i64 n.o, .int .i64 n.a])
    (h1 : zs.length ≤ 1000) (hbase : base ≤ w.heap.size)
    (h : ∀ v' w', OwnN base w' v' (zs ++ [n]) → (∀ w0, Only Nil w0 w → w0.heap.size ≤ base → Only Nil w0 w') → wpList Try.prog ops Q rest (a.put o.dst v') w') : wpList Try.prog ops Q (o :: rest) a w := by
  obtain ⟨i0, hi, hz0, hz1, hz2⟩ := info_parts infoN
  refine wpList_append_own w hgd s x 32 ho base 117 i0 (.agg #[.int .i64 0, .int .i64 0, .int .i64 0, .int .i64 0]) 4 32 Try.underlying32 hi hz0 hz1 hz2 rfl (by decide) v zs.length (flat zs) hs hown ⟨g, 0, none⟩ 1 1 (flat1 n) hx rfl (fun j u hj => ?_) (fun u hu => ?_) (by unfold maxLen; omega) (by omega) hbase (fun v' w' hO hG _ => ?_)
  · rw [add_at, Nat.zero_add]
    exact hrow.cell_ (by rw [← hj]; simp [flat1])
  · unfold flat1 at hu
    simp only [List.mem_cons, List.not_mem_nil, or_false] at hu
    rcases hu with rfl | rfl | rfl | rfl <;> rfl
  · refine h v' w' ?_ (fun w0 h0 hb => h0.grown hG (fun k hk => .inl ?_))
    · unfold OwnN
      rw [flat_app, List.length_append, show flat [n] = flat1 n from List.append_nil _]
      exact hO
    · obtain ⟨hk1, _⟩ := World.ownsRow.lt hown k hk
      omega
end Go.Proofs.Ytdmpaoajcnjbaaa
/- What is waited for, plain: the law's Until. -/
set_option linter.unusedVariables false
set_option linter.unusedSimpArgs false
namespace Go.Proofs.Ytdmpaoajcnjbaaa
open Go.RowKit

/-- Does it hold of a word? -/
def uIs (k m x v : Int) : Bool :=
  if k = 0 then bits .and .u32 v m == x else if k = 1 then bits .and .u32 v m != x else if k = 2 then v / 256 % 256 == v / 65536 % 256 else if k = 3 then decide (v / 256 % 256 = x) && (v % 256 == 0) else false

theorem ret_bool {a b : Bool} (h : a = b) : Ending.returned (.bool a) = .returned (.bool b) := by rw [h]
end Go.Proofs.Ytdmpaoajcnjbaaa
/- A run, in plain words: what it keeps, its cells; what each call leaves of it. -/
set_option linter.unusedVariables false
set_option linter.unusedSimpArgs false
namespace Go.Proofs.Ytdmpaoajcnjbaaa
open Go.RowKit

/-- An access as told. -/
structure Acc5 where
  k : Int
  c : Int
  x : Int
  y : Int
  o : Int
def Acc5.v (a : Acc5) : Value := .agg #[.int .i64 a.k, .int .i64 a.c, .int .u32 a.x, .int .u32 a.y, .int .u32 a.o]
def acc0 : Acc5 := ⟨0, 0, 0, 0, 0⟩
/-- What an access tells. -/
def accI (xs : List Int) (k c x y : Int) : Acc5 := if doOk xs k c then ⟨k, c, x, y, wordAt xs c⟩ else acc0
theorem doVal_acc (xs : List Int) (k c x y : Int) : doVal xs k c x y = (accI xs k c x y).v := by
  unfold doVal accI accOf
  split <;> rfl
theorem acc_old {xs : List Int} {k c x y : Int} (hk : isKind k = true) : (accI xs k c x y).o = wordAt xs c := by
  unfold accI
  by_cases h : doOk xs k c = true
  · rw [if_pos h]
  · rw [if_neg h]
    have ht : there xs c = false := by
      cases e : there xs c
      · rfl
      · exact absurd (by simp [doOk, e, hk]) h
    simp [wordAt, ht, acc0]
/-- The access that a value is. -/
def ofV : Value → Acc5
  | .agg ⟨[.int _ k, .int _ c, .int _ x, .int _ y, .int _ o]⟩ => ⟨k, c, x, y, o⟩
  | _ => acc0
theorem ofV_eq {v : Value} (h : ∃ ka ca xa ya oa : Int, v = .agg #[.int .i64 ka, .int .i64 ca, .int .u32 xa, .int .u32 ya, .int .u32 oa]) : v = (ofV v).v := by
  obtain ⟨ka, ca, xa, ya, oa, rfl⟩ := h
  rfl
theorem ofV_step (xs : List Int) (n mode i s c : Int) (q : Int → Bool) : (stepI xs n mode i s c q).acc = (ofV (stepI xs n mode i s c q).acc).v := by
  obtain ⟨ka, ca, xa, ya, oa, h, _⟩ := step_access xs n mode i s c q
  exact ofV_eq ⟨ka, ca, xa, ya, oa, h⟩
theorem wake_form5 (xs : List Int) (n : Int) (on : Bool) (c i : Int) (hit : Bool) : ∃ ka ca xa ya oa : Int, (wakeI xs n on c i hit).acc = .agg #[.int .i64 ka, .int .i64 ca, .int .u32 xa, .int .u32 ya, .int .u32 oa] := by
  have hv := fun k c x y => doVal_form xs k c x y
  unfold wakeI giveI lookI restI
  repeat' split
  all_goals first | exact ⟨0, 0, 0, 0, 0, rfl⟩ | (obtain ⟨k', c', x', y', e⟩ := hv 2 (pc n i) 1 0; exact ⟨_, _, _, _, _, e⟩) | (obtain ⟨k', c', x', y', e⟩ := hv 1 (wc n i) 0 0; exact ⟨_, _, _, _, _, e⟩)
theorem ofV_wake (xs : List Int) (n : Int) (on : Bool) (c i : Int) (hit : Bool) : (wakeI xs n on c i hit).acc = (ofV (wakeI xs n on c i hit).acc).v := ofV_eq (wake_form5 xs n on c i hit)

/-- A run: the lock's number of tasks, the mode, the task, its frame, the access, the notes; the words. -/
structure LS where
  n : Int
  mode : Int
  task : Int
  op : Int
  line : Int
  a : Int
  b : Int
  s : Int
  k : WkV
  ret : Int
  acc : Acc5
  ns : List Nt
  xs : List Int

/-- Its cells: h is the memory's pointer, or the words' list, nv the notes' list. -/
def LS.cells (r : LS) (h nv : Value) : Array Value :=
  #[h, .int .i64 r.n, .int .i64 r.mode, .int .i64 r.task, .int .i64 r.op, .int .i64 r.line, .int .u32 r.a, .int .u32 r.b, .int .i64 r.s, .bool r.k.on, .int .i64 r.k.c, .int .i64 r.k.i, .bool r.k.hit, .int .i64 r.ret,
    .int .i64 r.acc.k, .int .i64 r.acc.c, .int .u32 r.acc.x, .int .u32 r.acc.y, .int .u32 r.acc.o, nv]
/-- Its frame's cells. -/
def LS.frame (r : LS) : Array Value := #[.int .i64 r.op, .int .i64 r.line, .int .u32 r.a, .int .u32 r.b, .int .i64 r.s, .bool r.k.on, .int .i64 r.k.c, .int .i64 r.k.i, .bool r.k.hit, .int .i64 r.ret]

def LS.doA (r : LS) (k c x y : Int) : LS := { r with acc := accI r.xs k c x y, xs := doNew r.xs k c x y }
def LS.stepR (r : LS) (c : Int) (q : Int → Bool) : StepR := stepI r.xs r.n r.mode r.task r.s c q
def LS.wait (r : LS) (c : Int) (q : Int → Bool) : LS := { r with s := (r.stepR c q).next, acc := ofV (r.stepR c q).acc, xs := (r.stepR c q).xs }
def LS.note (r : LS) (what arg : Int) : LS := { r with ns := r.ns ++ [⟨r.task, what, 0, arg⟩] }
def LS.go (r : LS) (l : Int) : LS := { r with line := l }
def LS.fin (r : LS) (ok : Bool) : LS := { r with ret := if ok then 2 else 1 }
def LS.wake (r : LS) (c : Int) : LS := { r with k := beginI r.mode c }
def LS.fresh (r : LS) : LS := { r with acc := acc0, ns := [] }
def LS.wakeR (r : LS) : WakeR := wakeI r.xs r.n r.k.on r.k.c r.k.i r.k.hit
def LS.waking (r : LS) : LS := { r with acc := ofV r.wakeR.acc, ns := [], k := r.wakeR.next, xs := r.wakeR.xs }
def LS.over (r : LS) : Bool := (r.ret != 0) && !r.k.on
def LS.stuck (r : LS) : Bool := !r.k.on && stuckB r.xs r.n r.mode r.task r.s

/-- A call within a step. -/
structure OpV where
  k : Int
  c : Int
  n : Int
  x : Int
  y : Int
  uk : Int
  um : Int
  ux : Int

/-- What a call leaves, and tells. -/
structure OpR where
  r : LS
  v : Int
  b : Bool
  c : Bool
def LS.opR (r : LS) (o : OpV) : OpR :=
  if o.k = 0 then ⟨r.doA 1 o.c 0 0, wordAt r.xs o.c, false, false⟩
  else if o.k = 1 then ⟨r.doA 2 o.c o.x 0, 0, false, false⟩
  else if o.k = 2 then ⟨r.doA 3 o.c o.x 0, wordAt r.xs o.c, false, false⟩
  else if o.k = 3 then ⟨r.doA 4 o.c o.x 0, wordAt r.xs o.c, false, false⟩
  else if o.k = 4 then ⟨r.doA 5 o.c o.x o.y, 0, there r.xs o.c && (wordAt r.xs o.c == o.x), false⟩
  else if o.k = 5 then ⟨r.wait o.c (uIs o.uk o.um o.ux), 0, (r.stepR o.c (uIs o.uk o.um o.ux)).seen, (r.stepR o.c (uIs o.uk o.um o.ux)).done⟩
  else if o.k = 6 then ⟨r.note o.n o.c, 0, false, false⟩
  else if o.k = 7 then ⟨r.go o.n, 0, false, false⟩
  else if o.k = 8 then ⟨r.fin (o.x % 2 == 0), 0, false, false⟩
  else if o.k = 9 then ⟨r.wake o.c, 0, false, false⟩
  else ⟨r, 0, false, false⟩
def bitI (b : Bool) : Int := if b then 1 else 0
/-- What a call tells, as words. -/
def OpR.out (t : OpR) : List Int := [t.v, bitI t.b, bitI t.c]
/-- One call more. -/
def opNext (p : LS × List Int) (o : OpV) : LS × List Int := ((p.1.opR o).r, p.2 ++ (p.1.opR o).out)
/-- The calls, one by one. -/
def LS.opsI (r : LS) (l : List OpV) : LS × List Int := l.foldl opNext (r, [])
theorem ops_next {r : LS} {l : List OpV} {k : Nat} {o : OpV} (h : l[k]? = some o) : r.opsI (l.take (k + 1)) = opNext (r.opsI (l.take k)) o := by
  unfold LS.opsI
  rw [List.take_add_one, h, List.foldl_append]
  rfl

/-- What never changes; the words stay words, as many as they were. -/
structure LS.Keeps (r r' : LS) : Prop where
  n : r'.n = r.n
  mode : r'.mode = r.mode
  task : r'.task = r.task
  len : r'.xs.length = r.xs.length
  words : Words r.xs → Words r'.xs
theorem LS.Keeps.refl (r : LS) : r.Keeps r := ⟨rfl, rfl, rfl, rfl, id⟩
theorem LS.Keeps.trans {r r' r'' : LS} (h : r.Keeps r') (k : r'.Keeps r'') : r.Keeps r'' := ⟨k.n.trans h.n, k.mode.trans h.mode, k.task.trans h.task, k.len.trans h.len, k.words ∘ h.words⟩
end Go.Proofs.Ytdmpaoajcnjbaaa
/- A step of a run, in plain words, whatever its lines are. -/
set_option linter.unusedVariables false
set_option linter.unusedSimpArgs false
namespace Go.Proofs.Ytdmpaoajcnjbaaa
open Go.RowKit

/-- A step of a run whose operation's lines do L. -/
def LS.next (L : LS → LS) (r : LS) : LS := if r.k.on then r.waking else L r.fresh
end Go.Proofs.Ytdmpaoajcnjbaaa
