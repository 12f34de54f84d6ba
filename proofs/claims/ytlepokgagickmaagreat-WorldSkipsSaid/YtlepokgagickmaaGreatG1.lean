import Derived.WalkKit
import Derived.ProofKit
import Derived.Handy
import Derived.Outline
import Derived.Deep.QuietTactic
import Derived.BigQuiet
import Derived.BigRegion
import Derived.WalkLawsBesides
import Derived.Lib.Hide
import Derived.Deep.Draws
import Derived.WalkSpells
import Derived.Deep.Slices
import Derived.Deep.Fields
import Derived.ChangeSame
import Derived.Test.YtlepokgagickmaaGreatChecked
import Derived.Laws.AppendOwnNone
import Derived.Deep.OwnRows
namespace Go.Proofs.YtlepokgagickmaaGreat
open Go.RowKit
def Row (w : World) (g : Nat) (t : TypeId) (cs : Array Value) : Prop := w.heap[g]? = some (.cells cs t (0, 0))
structure Only (S : Nat → Prop) (w w' : World) : Prop where
  os : w'.os = w.os
  tape : w'.tape = w.tape
  output : w'.output = w.output
  size : w.heap.size ≤ w'.heap.size
  block : ∀ k, k < w.heap.size → ¬ S k → w'.heap[k]? = w.heap[k]?
section
variable {w w' w'' : World} {g : Nat} {t : TypeId} {cs : Array Value} {S T : Nat → Prop}
theorem Row.lt (h : Row w g t cs) : g < w.heap.size := (Array.getElem?_eq_some_iff.1 h).1
theorem Row.cell (h : Row w g t cs) (i : Nat) : w.cell? ⟨g, i, none⟩ = cs[i]? := by
  have h' : w.heap[g]? = _ := h
  simp [World.cell?, h']
theorem Row.cell_ (h : Row w g t cs) {i : Nat} {v : Value} (hi : cs[i]? = some v) : w.cell? ⟨g, i, none⟩ = some v := (h.cell i).trans hi
theorem Row.frozen (h : Row w g t cs) (i : Nat) : w.frozen? ⟨g, i, none⟩ = false := by
  have h' : w.heap[g]? = _ := h
  simp [World.frozen?, h']
theorem Row.new (w : World) (t : TypeId) (cs : Array Value) : Row (w.alloc (.cells cs t)) w.heap.size t cs := by
  show (w.heap.push _)[w.heap.size]? = _
  rw [Array.getElem?_push_size]
theorem Row.new2 (w : World) (o : Obj) (t : TypeId) (cs : Array Value) : Row ((w.alloc o).alloc (.cells cs t)) (w.heap.size + 1) t cs := by
  have e := Row.new (w.alloc o) t cs
  rwa [show (w.alloc o).heap.size = w.heap.size + 1 by simp] at e
theorem Row.drew (h : Row w g t cs) : Row w.drew g t cs := h
theorem Row.drewN (h : Row w g t cs) (n : Nat) : Row (w.drewN n) g t cs := h
theorem Row.alloc (h : Row w g t cs) (o : Obj) : Row (w.alloc o) g t cs := (Below.heap_alloc w o g h.lt).trans h
theorem Row.set (h : Row w g t cs) (i : Nat) (u : Value) : Row (w.setCell ⟨g, i, none⟩ u) g t (cs.setIfInBounds i u) := by
  have h' : w.heap[g]? = _ := h
  show (World.setCell w ⟨g, i, none⟩ u).heap[g]? = _
  simp [World.setCell, Array.getElem?_modify, h']
theorem Row.far (h : Row w g t cs) {p : Addr} (hp : g ≠ p.block) (u : Value) : Row (w.setCell p u) g t cs := (Below.heap_setCell w p u g hp).trans h
theorem Row.only (h : Row w g t cs) (ho : Only S w w') (hg : ¬ S g) : Row w' g t cs := (ho.block g h.lt hg).trans h
theorem Row.same {t' : TypeId} {cs' : Array Value} (h : Row w g t cs) (h' : Row w g t' cs') : t = t' ∧ cs = cs' := by
  have e := h.symm.trans h'
  simp only [Option.some.injEq, Obj.cells.injEq] at e
  exact ⟨e.2.1, e.1⟩
theorem Only.refl (S : Nat → Prop) (w : World) : Only S w w := ⟨rfl, rfl, rfl, Nat.le_refl _, fun _ _ _ => rfl⟩
theorem Only.trans (h : Only S w w') (k : Only S w' w'') : Only S w w'' :=
  ⟨k.os.trans h.os, k.tape.trans h.tape, k.output.trans h.output, Nat.le_trans h.size k.size, fun i hi hS => (k.block i (Nat.lt_of_lt_of_le hi h.size) hS).trans (h.block i hi hS)⟩
theorem Only.mono (h : Only S w w') (hST : ∀ k, k < w.heap.size → S k → T k) : Only T w w' := ⟨h.os, h.tape, h.output, h.size, fun i hi hT => h.block i hi (fun hs => hT (hST i hi hs))⟩
theorem Only.step (h : Only S w w') (k : Only T w' w'') (hT : ∀ i, i < w.heap.size → T i → S i) : Only S w w'' :=
  ⟨k.os.trans h.os, k.tape.trans h.tape, k.output.trans h.output, Nat.le_trans h.size k.size, fun i hi hS => (k.block i (Nat.lt_of_lt_of_le hi h.size) (fun ht => hS (hT i hi ht))).trans (h.block i hi hS)⟩
theorem Only.drew (h : Only S w w') : Only S w w'.drew := ⟨h.os, h.tape, h.output, h.size, h.block⟩
theorem Only.drewN (h : Only S w w') (n : Nat) : Only S w (w'.drewN n) := ⟨h.os, h.tape, h.output, h.size, h.block⟩
theorem Only.alloc (h : Only S w w') (o : Obj) : Only S w (w'.alloc o) :=
  ⟨h.os, h.tape, h.output, Nat.le_trans h.size (by simp), fun i hi hS => (Below.heap_alloc w' o i (Nat.lt_of_lt_of_le hi h.size)).trans (h.block i hi hS)⟩
theorem Only.setCell (h : Only S w w') {p : Addr} (hp : w.heap.size ≤ p.block ∨ S p.block) (u : Value) : Only S w (w'.setCell p u) :=
  ⟨h.os, h.tape, h.output, by simpa [World.setCell] using h.size, fun i hi hS => (Below.heap_setCell w' p u i (by
    rintro rfl
    rcases hp with hp | hp
    · omega
    · exact hS hp)).trans (h.block i hi hS)⟩
theorem Only.grown {row : Option Nat} (h : Only S w w') (hg : w'.grownBy w'' row) (hr : ∀ k, row = some k → w.heap.size ≤ k ∨ S k) : Only S w w'' :=
  ⟨hg.os.trans h.os, hg.tape.trans h.tape, hg.output.trans h.output, Nat.le_trans h.size hg.size, fun i hi hS => (hg.block i (Nat.lt_of_lt_of_le hi h.size) (fun e => by
    rcases hr i e.symm with hk | hk
    · omega
    · exact hS hk)).trans (h.block i hi hS)⟩
theorem Only.below {B : Nat} (h : Only S w w') (hB : B ≤ w.heap.size) (hS : ∀ k, k < B → ¬ S k) : Below B w w' :=
  ⟨h.os, h.tape, h.output, h.size, fun k hk => h.block k (Nat.lt_of_lt_of_le hk hB) (hS k hk)⟩
theorem Only.cell (h : Only S w w') {p : Addr} (hp : p.block < w.heap.size) (hS : ¬ S p.block) : w'.cell? p = w.cell? p := World.cell?_of_block (w := w) (h.block p.block hp hS)
end
theorem post_row_tmp {P : Program} {fn : Func} {R : Ending → World → Prop} {a : Act} {w : World} {p u : Tmp} {ty : TypeId} (h : fn.results = #[.cell p ty, .tmp u]) {g : Nat} {t : TypeId} {cs : Array Value} {d : TypeDesc}
    (hp : a.tmps.getD p undef = .pointer (some ⟨g, 0, none⟩)) (hg : Row w g t cs)
    (hu : P.underlying ty = some d) (hd : (match d with | .struct _ | .array _ _ => true | _ => false) = true) (hi : (P.info? ty).map (·.size) = some cs.size)
    (hf : a.defers = []) (hR : R (.returned (.tuple #[.agg cs, a.tmps.getD u undef])) w) : bodyPost P fn R .ret a w := by
  refine ⟨hf, _, ?_, hR⟩
  have hp' : a.tmps[p]?.getD undef = .pointer (some ⟨g, 0, none⟩) := by simpa using hp
  simp [results, h, hp', asAddr, run_loadVar_row w g t ty cs (0, 0) d hg hu hd hi]
theorem post_row {P : Program} {fn : Func} {R : Ending → World → Prop} {a : Act} {w : World} {p : Tmp} {ty : TypeId} (h : fn.results = #[.cell p ty]) {g : Nat} {t : TypeId} {cs : Array Value} {d : TypeDesc}
    (hp : a.tmps.getD p undef = .pointer (some ⟨g, 0, none⟩)) (hg : Row w g t cs)
    (hu : P.underlying ty = some d) (hd : (match d with | .struct _ | .array _ _ => true | _ => false) = true) (hi : (P.info? ty).map (·.size) = some cs.size)
    (hf : a.defers = []) (hR : R (.returned (.agg cs)) w) : bodyPost P fn R .ret a w :=
  ⟨hf, _, results_cell_row h a.tmps w g t cs (0, 0) d hp hg hu hd hi, hR⟩
def Nil : Nat → Prop := fun _ => False
def Ints (w : World) (B : Nat) (k : IntKind) (A : Option Addr) (xs : List Int) : Prop :=
  0 < xs.length → ∃ b o, A = some ⟨b, o, none⟩ ∧ b < B ∧ ∀ i, i < xs.length → w.cell? ⟨b, o + i, none⟩ = some (.int k (xs.getD i 0))
theorem add_block (a : Addr) (i : Nat) : (a.add i).block = a.block := by unfold Addr.add; split <;> rfl
theorem add_at (g o i : Nat) : (⟨g, o, none⟩ : Addr).add i = ⟨g, o + i, none⟩ := by
  unfold Addr.add
  by_cases h : i = 0
  · simp [h]
  · simp [h]
section
variable {w w' : World} {B B' : Nat} {k : IntKind} {A : Option Addr} {xs : List Int} {S : Nat → Prop}
theorem Ints.keep (h : Ints w B k A xs) (hk : ∀ p : Addr, p.block < B → w'.cell? p = w.cell? p) : Ints w' B k A xs := fun hn => by
  obtain ⟨b, o, e, hb, hc⟩ := h hn
  exact ⟨b, o, e, hb, fun i hi => (hk _ hb).trans (hc i hi)⟩
theorem Ints.alloc (h : Ints w B k A xs) (hB : B ≤ w.heap.size) (o : Obj) : Ints (w.alloc o) B k A xs := h.keep fun p hp => World.cell?_alloc_lt w o p (by omega)
theorem Ints.of_own {base : Nat} {e : TypeId} {c n : Nat} (h : w.ownsRow base e 1 (.slice A n c) n (xs.map (.int k))) : Ints w w.heap.size k A xs := fun hn => by
  obtain ⟨hl, h2⟩ := h
  rw [List.length_map, Nat.mul_one] at hl
  rcases h2 with ⟨_, h0⟩ | ⟨g, cap, cur, hv, _, hg, _, _, _, ht⟩
  · omega
  · injection hv with h1
    subst h1
    have hr : Row w g e cur := hg
    refine ⟨g, 0, rfl, hr.lt, fun i hi => ?_⟩
    rw [Nat.zero_add]
    refine hr.cell_ ?_
    have e1 : (cur.toList.take (n * 1))[i]? = (xs.map (Value.int k))[i]? := by rw [ht]
    rw [List.getElem?_take, if_pos (by omega), List.getElem?_map, List.getElem?_eq_getElem hi] at e1
    simp only [Option.map_some, Array.getElem?_toList] at e1
    rw [e1]
    simp [List.getD, List.getElem?_eq_getElem hi]
theorem own_only {base : Nat} {e : TypeId} {size : Nat} {v : Value} {n : Nat} {vs : List Value} (h : w.ownsRow base e size v n vs) (ho : Only S w w') (hS : ∀ i, v.ownBlock = some i → ¬ S i) : w'.ownsRow base e size v n vs := by
  refine ⟨h.1, ?_⟩
  rcases h.2 with hn | ⟨g, cap, cur, rfl, hb, hgg, rest⟩
  · exact .inl hn
  · exact .inr ⟨g, cap, cur, rfl, hb, (ho.block g (Array.getElem?_eq_some_iff.1 hgg).1 (hS g rfl)).trans hgg, rest⟩
end
def Drew (w w' : World) : Prop := ∃ k : Nat, w' = w.drewN k
theorem Drew.refl (w : World) : Drew w w := ⟨0, rfl⟩
theorem Drew.of_eq {w w' : World} (h : w = w') : Drew w w' := h ▸ Drew.refl w
theorem Drew.n (w : World) (k : Nat) : Drew w (w.drewN k) := ⟨k, rfl⟩
theorem Drew.trans {w w' w'' : World} (h : Drew w w') (k : Drew w' w'') : Drew w w'' := by
  obtain ⟨a, rfl⟩ := h
  obtain ⟨b, rfl⟩ := k
  exact ⟨a + b, World.drewN_drewN ..⟩
theorem Drew.quiet {w w' : World} {k : Nat} (h : Drew (w.drewN k) w') : ∃ m, w' = w.drewN m := by
  obtain ⟨a, ha⟩ := (Drew.n w k).trans h
  exact ⟨a, ha⟩
theorem Drew.only {S : Nat → Prop} {w w' : World} (h : Drew w w') : Only S w w' := by
  obtain ⟨a, rfl⟩ := h
  exact (Only.refl S w).drewN a
theorem Drew.cell {w w' : World} (h : Drew w w') (p : Addr) : w'.cell? p = w.cell? p := by obtain ⟨a, rfl⟩ := h; rfl
theorem Drew.size {w w' : World} (h : Drew w w') : w'.heap.size = w.heap.size := by obtain ⟨a, rfl⟩ := h; rfl
theorem Drew.row {w w' : World} (h : Drew w w') {g : Nat} {t : TypeId} {cs : Array Value} (r : Row w g t cs) : Row w' g t cs := by obtain ⟨a, rfl⟩ := h; exact r
theorem wf_u32 {n : Int} (h : (Lit.int .u32 n).wf = true) : 0 ≤ n ∧ n < 4294967296 := by
  have h1 : IntKind.u32.min = 0 := rfl
  have h2 : IntKind.u32.max = 4294967295 := rfl
  simp only [Lit.wf, Bool.and_eq_true, decide_eq_true_eq] at h
  omega
theorem k1 : ∀ {α : Type _} (l : List α) (i : Nat) (a : α), l.toArray.setIfInBounds i a = (l.set i a).toArray := @List.setIfInBounds_toArray
theorem k2 : ∀ {α : Type _} {x : α} {xs : List α} {a : α}, (x :: xs).set 0 a = a :: xs := @List.set_cons_zero
theorem k3 : ∀ {α : Type _} {x : α} {xs : List α} {i : Nat} {a : α}, (x :: xs).set (i + 1) a = x :: xs.set i a := @List.set_cons_succ
abbrev Four (w : World) (g : Nat) (a b c d : Value) : Prop := w.cell? ⟨g, 0, none⟩ = some a ∧ w.cell? ⟨g, 1, none⟩ = some b ∧ w.cell? ⟨g, 2, none⟩ = some c ∧ w.cell? ⟨g, 3, none⟩ = some d
abbrev Five (w : World) (g : Nat) (a b c d e : Value) : Prop := w.cell? ⟨g, 0, none⟩ = some a ∧ w.cell? ⟨g, 1, none⟩ = some b ∧ w.cell? ⟨g, 2, none⟩ = some c ∧ w.cell? ⟨g, 3, none⟩ = some d ∧ w.cell? ⟨g, 4, none⟩ = some e
abbrev Six (w : World) (g : Nat) (a b c d e f : Value) : Prop := w.cell? ⟨g, 0, none⟩ = some a ∧ w.cell? ⟨g, 1, none⟩ = some b ∧ w.cell? ⟨g, 2, none⟩ = some c ∧ w.cell? ⟨g, 3, none⟩ = some d ∧ w.cell? ⟨g, 4, none⟩ = some e ∧ w.cell? ⟨g, 5, none⟩ = some f
theorem Row.four {w : World} {g : Nat} {t : TypeId} {a b c d : Value} (h : Row w g t #[a, b, c, d]) : Four w g a b c d := ⟨h.cell_ (i := 0) rfl, h.cell_ (i := 1) rfl, h.cell_ (i := 2) rfl, h.cell_ (i := 3) rfl⟩
theorem Row.five {w : World} {g : Nat} {t : TypeId} {a b c d e : Value} (h : Row w g t #[a, b, c, d, e]) : Five w g a b c d e := ⟨h.cell_ (i := 0) rfl, h.cell_ (i := 1) rfl, h.cell_ (i := 2) rfl, h.cell_ (i := 3) rfl, h.cell_ (i := 4) rfl⟩
theorem Row.six {w : World} {g : Nat} {t : TypeId} {a b c d e f : Value} (h : Row w g t #[a, b, c, d, e, f]) : Six w g a b c d e f := ⟨h.cell_ (i := 0) rfl, h.cell_ (i := 1) rfl, h.cell_ (i := 2) rfl, h.cell_ (i := 3) rfl, h.cell_ (i := 4) rfl, h.cell_ (i := 5) rfl⟩
theorem Row.one {w : World} {g : Nat} {t : TypeId} {a : Value} (h : Row w g t #[a]) : w.cell? ⟨g, 0, none⟩ = some a := h.cell_ (i := 0) rfl
end Go.Proofs.YtlepokgagickmaaGreat
namespace Go.Proofs.YtlepokgagickmaaGreat
open Go.RowKit Go.ChangeShapes Go.WideShapes Go.Deep
section
variable {H : Type} {enc : TypeId × Value → H} {P : Program} {w : World} {base : Nat} {spare : Nat → Bool} {held : Bool}
theorem open_tab {t e : TypeId} {fs : Array Field} {fuel len cap : Nat} {A : Option Addr} {x : DataW H × List MemPlace} (ht : P.underlying t = some (.slice e)) (he : P.underlying e = some (.struct fs))
    (hone : oneCellFields P fs = true) (hC : P.cellsOf e = fs.size) (h0 : 0 < fs.size) (h : DataW.trod enc P w base spare held fuel t [.slice A len cap] = some x) :
    ∀ i, i < len → ∃ b o, A = some ⟨b, o, none⟩ ∧ b < w.heap.size ∧ ∀ j f, fs[j]? = some f → ∃ v n y, w.cell? ⟨b, o + (i * fs.size + j), none⟩ = some v ∧ DataW.trod enc P w base spare held n f.type [v] = some y := by
  intro i hi
  rcases open_slice ht h with ⟨hcs, _⟩ | ⟨a, len', cap', m, n, D, Pl, hcs, _, hl, _, hmm, _, hrow⟩
  · simp only [List.cons.injEq, Value.slice.injEq] at hcs
    omega
  · simp only [List.cons.injEq, Value.slice.injEq, and_true] at hcs
    obtain ⟨rfl, rfl, rfl⟩ := hcs
    have him : i < m := by rw [hmm]; split <;> omega
    obtain ⟨cs, hc, hy⟩ := hrow i him
    rw [hC] at hc
    obtain ⟨_, hlen, hat⟩ := World.cells?_some hc
    obtain ⟨ys, k, _, _, _, hyl, hf⟩ := DataW.trod_struct he hy
    have hcell : ∀ j, j < fs.size → ∃ v, cs[j]? = some v ∧ w.cell? (a.add (i * fs.size + j)) = some v := by
      intro j hj
      have hv : cs[j]? = some (cs[j]'(by omega)) := List.getElem?_eq_getElem (by omega)
      exact ⟨_, hv, by rw [← Go.Deep.add_add, hat j hj, hv]⟩
    obtain ⟨b, o, spot⟩ := a
    have hspot : spot = none := by
      obtain ⟨cs0, hc0, _⟩ := hrow 0 (by omega)
      rw [hC] at hc0
      obtain ⟨_, hlen0, hat0⟩ := World.cells?_some hc0
      have e := hat0 0 h0
      have hv : cs0[0]? = some (cs0[0]'(by omega)) := List.getElem?_eq_getElem (by omega)
      rw [hv] at e
      simpa [Addr.add] using World.cell?_spot e
    subst hspot
    refine ⟨b, o, rfl, ?_, fun j f hj => ?_⟩
    · obtain ⟨v, _, hv⟩ := hcell 0 h0
      have := World.block_lt_of_cell? w _ hv
      rwa [add_block] at this
    · have hjl : j < fs.size := (Array.getElem?_eq_some_iff.1 hj).1
      obtain ⟨ho, hk⟩ := hone_of hone j f hj
      obtain ⟨v, hv, hcv⟩ := hcell j hjl
      have h1 := hf j f hj
      rw [ho, hk, List.drop_eq_getElem_cons (by omega)] at h1
      have hys : ys[j]? = some (ys[j]'(by omega)) := List.getElem?_eq_getElem (by omega)
      rw [List.getElem?_eq_getElem (by omega)] at hv
      injection hv with hv
      rw [hv] at h1
      refine ⟨v, k, _, by rw [← add_at]; exact hcv, h1.trans hys⟩
end
end Go.Proofs.YtlepokgagickmaaGreat
namespace Go.Proofs.YtlepokgagickmaaGreat
open Go.RowKit
def leftOf (k x y o : Int) : Int := if k = 3 then (x + o) % 4294967296 else if k = 2 then x else if k = 4 then x else if k = 5 then (if o = x then y else o) else if k = 1 then o else 0
def isKind (k : Int) : Bool := decide (1 ≤ k ∧ k ≤ 5)
theorem two_eq {a b : Int} {c d : Bool} (h : a = b) (h' : c = d) : Ending.returned (.tuple #[.int .u32 a, .bool c]) = .returned (.tuple #[.int .u32 b, .bool d]) := by rw [h, h']
theorem behind_any (k c x y o : Int) (w : World) :
    Calls Tryz.prog 283 #[.agg #[.int .i64 k, .int .i64 c, .int .u32 x, .int .u32 y, .int .u32 o]] w fun e w' =>
      e = .returned (.tuple #[.int .u32 (leftOf k x y o), .bool (isKind k)]) ∧ Only Nil w w' := by
  by_cases h3 : k = 3 <;> by_cases h2 : k = 2 <;> by_cases h4 : k = 4 <;> by_cases h5 : k = 5 <;> by_cases h1 : k = 1 <;> by_cases hx : o = x
  all_goals first
    | omega
    | (go_enter Tryz.func283, Tryz.ntmps283
       go_wp2
       all_goals
         go_ret2
         exact ⟨two_eq (by simp [leftOf, h3, h2, h4, h5, h1, hx]) (by simp [isKind]; omega), (Only.refl _ _).alloc _⟩)
theorem len_any (b : Nat) (A : Option Addr) (n cap : Nat) (w : World) (h : Row w b 101 #[.slice A n cap]) :
    Calls Tryz.prog 282 #[.pointer (some ⟨b, 0, none⟩)] w fun e w' => e = .returned (.int .i64 n) ∧ w' = w := by
  have hc := h.cell_ (i := 0) rfl
  clear h
  go_enter Tryz.func282, Tryz.ntmps282
  go_wp2
  go_ret
  exact ⟨rfl, rfl⟩
theorem len_nil (w : World) :
    Calls Tryz.prog 282 #[.pointer none] w fun e w' => e = .returned (.int .i64 0) ∧ w' = w := by
  go_enter Tryz.func282, Tryz.ntmps282
  go_wp2
  go_ret
  exact ⟨rfl, rfl⟩
end Go.Proofs.YtlepokgagickmaaGreat
namespace Go.Proofs.YtlepokgagickmaaGreat
open Go.RowKit
theorem do_out (b : Nat) (A : Option Addr) (n cap : Nat) (k c x y o : Int) (w : World) (h : Row w b 101 #[.slice A n cap]) (hc : c < 0 ∨ (n : Int) ≤ c) :
    Calls Tryz.prog 212 #[.pointer (some ⟨b, 0, none⟩), .agg #[.int .i64 k, .int .i64 c, .int .u32 x, .int .u32 y, .int .u32 o]] w fun e w' =>
      e = .returned (.tuple #[.agg #[.int .i64 0, .int .i64 0, .int .u32 0, .int .u32 0, .int .u32 0], .bool false]) ∧ Only Nil w w' := by
  by_cases h0 : c < 0
  · clear h hc
    go_enter Tryz.func212, Tryz.ntmps212
    go_wp2
    go_quiet (fail)
    go_wp2
    go_returns
    exact ⟨rfl, by (repeat' (first | (with_reducible exact Only.refl _ _) | (with_reducible assumption) | (with_reducible refine Only.setCell ?_ ?_ _) | (with_reducible refine Only.drewN ?_ _) | (with_reducible refine Only.drew ?_) | (with_reducible refine Only.alloc ?_ _) | (left; simp; done) | (left; simp; omega) | (right; rfl)))⟩
  · have h1 : (n : Int) ≤ c := by omega
    have h2 : ∀ o1 o2, Row ((w.alloc o1).alloc o2) b 101 #[.slice A n cap] := fun o1 o2 => (h.alloc o1).alloc o2
    have H := Lib.hid h2
    clear h hc h2
    go_enter Tryz.func212, Tryz.ntmps212
    go_wp2
    go_quiet ((go_at_call 282; exact Calls.quiet_of_same (len_any b A n cap _ (H.out _ _))))
    go_wp2
    go_returns
    exact ⟨rfl, by (repeat' (first | (with_reducible exact Only.refl _ _) | (with_reducible assumption) | (with_reducible refine Only.setCell ?_ ?_ _) | (with_reducible refine Only.drewN ?_ _) | (with_reducible refine Only.drew ?_) | (with_reducible refine Only.alloc ?_ _) | (left; simp; done) | (left; simp; omega) | (right; rfl)))⟩
theorem do_nil (k c x y o : Int) (w : World) :
    Calls Tryz.prog 212 #[.pointer none, .agg #[.int .i64 k, .int .i64 c, .int .u32 x, .int .u32 y, .int .u32 o]] w fun e w' =>
      e = .returned (.tuple #[.agg #[.int .i64 0, .int .i64 0, .int .u32 0, .int .u32 0, .int .u32 0], .bool false]) ∧ Only Nil w w' := by
  by_cases h0 : c < 0
  · go_enter Tryz.func212, Tryz.ntmps212
    go_wp2
    go_quiet (fail)
    go_wp2
    go_returns
    exact ⟨rfl, by (repeat' (first | (with_reducible exact Only.refl _ _) | (with_reducible assumption) | (with_reducible refine Only.setCell ?_ ?_ _) | (with_reducible refine Only.drewN ?_ _) | (with_reducible refine Only.drew ?_) | (with_reducible refine Only.alloc ?_ _) | (left; simp; done) | (left; simp; omega) | (right; rfl)))⟩
  · have h1 : (0 : Int) ≤ c := by omega
    go_enter Tryz.func212, Tryz.ntmps212
    go_wp2
    go_quiet ((go_at_call 282; exact Calls.quiet_of_same (len_nil _)))
    go_wp2
    go_returns
    exact ⟨rfl, by (repeat' (first | (with_reducible exact Only.refl _ _) | (with_reducible assumption) | (with_reducible refine Only.setCell ?_ ?_ _) | (with_reducible refine Only.drewN ?_ _) | (with_reducible refine Only.drew ?_) | (with_reducible refine Only.alloc ?_ _) | (left; simp; done) | (left; simp; omega) | (right; rfl)))⟩
end Go.Proofs.YtlepokgagickmaaGreat
namespace Go.Proofs.YtlepokgagickmaaGreat
open Go.RowKit
theorem do_in (b g n cap i : Nat) (cur : Array Value) (k x y o v : Int) (w : World) (h : Row w b 101 #[.slice (some ⟨g, 0, none⟩) n cap]) (hg : Row w g 22 cur)
    (hi : i < n) (hv : cur[i]? = some (.int .u32 v)) (hk : isKind k = true) :
    Calls Tryz.prog 212 #[.pointer (some ⟨b, 0, none⟩), .agg #[.int .i64 k, .int .i64 i, .int .u32 x, .int .u32 y, .int .u32 o]] w fun e w' =>
      e = .returned (.tuple #[.agg #[.int .i64 k, .int .i64 i, .int .u32 x, .int .u32 y, .int .u32 v], .bool true]) ∧ Only (· = g) w w' ∧ Row w' g 22 (cur.setIfInBounds i (.int .u32 (leftOf k x y v))) := by
  have h2 : ∀ o1 o2, Row ((w.alloc o1).alloc o2) b 101 #[.slice (some ⟨g, 0, none⟩) n cap] := fun o1 o2 => (h.alloc o1).alloc o2
  have H := Lib.hid h2
  have hlt := h.lt
  have hglt := hg.lt
  have hin : (i : Int) < n := by omega
  have h0 : ¬ (i : Int) < 0 := by omega
  have hc := h.cell_ (i := 0) rfl
  have hcv := hg.cell_ hv
  have HG := Lib.hid hg
  have HV := Lib.hid hv
  clear h h2 hv hg
  go_enter Tryz.func212, Tryz.ntmps212
  go_wp2
  go_quiet ((go_at_call 282; exact Calls.quiet_of_same (len_any b _ n cap _ (H.out _ _))))
  go_wp2
  go_region
  go_wp2_with fail
  refine (behind_any k i x y v _).mono ?_
  rintro e w1 ⟨rfl, ho⟩
  rw [hk]
  generalize hl : leftOf k x y v = lv
  have F0 : Row w1 w.heap.size 33 #[.int .i64 k, .int .i64 i, .int .u32 x, .int .u32 y, .int .u32 v] := ((((Row.new w _ _).alloc _).drewN _).set 4 _).only ho id
  have F1 : Row w1 (w.heap.size + 1) 33 #[.int .i64 0, .int .i64 0, .int .u32 0, .int .u32 0, .int .u32 0] := by
    have := ((Row.new (w.alloc (Obj.cells #[.int .i64 k, .int .i64 i, .int .u32 x, .int .u32 y, .int .u32 o] 33)) 33 #[.int .i64 0, .int .i64 0, .int .u32 0, .int .u32 0, .int .u32 0]).drewN (nq + 1))
    rw [show (w.alloc (Obj.cells #[.int .i64 k, .int .i64 i, .int .u32 x, .int .u32 y, .int .u32 o] 33)).heap.size = w.heap.size + 1 by simp] at this
    exact (this.far (by simp) _).only ho id
  have FB := ((((H.out _ _).drewN _).far (p := ⟨w.heap.size, 4, none⟩) (by show b ≠ w.heap.size; omega) _).only ho id)
  have FG := (((((HG.out.alloc _).alloc _).drewN _).far (p := ⟨w.heap.size, 4, none⟩) (by show g ≠ w.heap.size; omega) _).only ho id)
  have OW : Only Nil w w1 := Only.trans (by (repeat' (first | (with_reducible exact Only.refl _ _) | (with_reducible assumption) | (with_reducible refine Only.setCell ?_ ?_ _) | (with_reducible refine Only.drewN ?_ _) | (with_reducible refine Only.drew ?_) | (with_reducible refine Only.alloc ?_ _) | (left; simp; done) | (left; simp; omega) | (right; rfl)))) ho
  clear ho hcv hc
  have hs1 : w.heap.size + 1 < w1.heap.size := F1.lt
  have c0 : w1.cell? ⟨w.heap.size, 0, none⟩ = some (.int .i64 k) := F0.cell_ (i := 0) rfl
  have c1 : w1.cell? ⟨w.heap.size, 1, none⟩ = some (.int .i64 i) := F0.cell_ (i := 1) rfl
  have c2 : w1.cell? ⟨w.heap.size, 2, none⟩ = some (.int .u32 x) := F0.cell_ (i := 2) rfl
  have c3 : w1.cell? ⟨w.heap.size, 3, none⟩ = some (.int .u32 y) := F0.cell_ (i := 3) rfl
  have c4 : w1.cell? ⟨w.heap.size, 4, none⟩ = some (.int .u32 v) := F0.cell_ (i := 4) rfl
  have d0 : w1.cell? ⟨w.heap.size + 1, 0, none⟩ = some (.int .i64 0) := F1.cell_ (i := 0) rfl
  have d1 : w1.cell? ⟨w.heap.size + 1, 1, none⟩ = some (.int .i64 0) := F1.cell_ (i := 1) rfl
  have d2 : w1.cell? ⟨w.heap.size + 1, 2, none⟩ = some (.int .u32 0) := F1.cell_ (i := 2) rfl
  have d3 : w1.cell? ⟨w.heap.size + 1, 3, none⟩ = some (.int .u32 0) := F1.cell_ (i := 3) rfl
  have d4 : w1.cell? ⟨w.heap.size + 1, 4, none⟩ = some (.int .u32 0) := F1.cell_ (i := 4) rfl
  have e0 : w1.frozen? ⟨w.heap.size + 1, 0, none⟩ = false := F1.frozen 0
  have e1 : w1.frozen? ⟨w.heap.size + 1, 1, none⟩ = false := F1.frozen 1
  have e2 : w1.frozen? ⟨w.heap.size + 1, 2, none⟩ = false := F1.frozen 2
  have e3 : w1.frozen? ⟨w.heap.size + 1, 3, none⟩ = false := F1.frozen 3
  have e4 : w1.frozen? ⟨w.heap.size + 1, 4, none⟩ = false := F1.frozen 4
  have b0 : w1.cell? ⟨b, 0, none⟩ = some (.slice (some ⟨g, 0, none⟩) n cap) := FB.cell_ (i := 0) rfl
  have g0 := FG.cell_ HV.out
  have g1 := FG.frozen i
  have HB := Lib.hid FB
  have HG1 := Lib.hid FG
  have H0 := Lib.hid F0
  have H1 := Lib.hid F1
  have HO := Lib.hid OW
  have HL := Lib.hid hl
  clear FB FG F0 F1 OW hl
  go_wp2
  go_region
  all_goals go_wp2
  refine post_row_tmp (P := Tryz.prog) Tryz.results212 (t := 33) (g := w.heap.size + 1) (cs := #[.int .i64 k, .int .i64 i, .int .u32 x, .int .u32 y, .int .u32 v]) rfl ?_ Tryz.underlying33 rfl (by kernel_rfl) rfl ⟨rfl, ?_, ?_⟩
  · exact ((((((H1.out.far (p := ⟨g, i, none⟩) (by show w.heap.size + 1 ≠ g; omega) (.int .u32 lv)).set 0 (.int .i64 k)).set 1 (.int .i64 i)).set 2 (.int .u32 x)).set 3 (.int .u32 y)).set 4 (.int .u32 v)).drew
  · have O1 : Only (· = g) w w1 := HO.out.mono (fun _ _ h => h.elim)
    (repeat' (first | (with_reducible exact Only.refl _ _) | (with_reducible assumption) | (with_reducible refine Only.setCell ?_ ?_ _) | (with_reducible refine Only.drewN ?_ _) | (with_reducible refine Only.drew ?_) | (with_reducible refine Only.alloc ?_ _) | (left; simp; done) | (left; simp; omega) | (right; rfl)))
  · rw [HL.out]
    exact ((((((HG1.out.set i (.int .u32 lv)).far (p := ⟨w.heap.size + 1, 0, none⟩) (by show g ≠ w.heap.size + 1; omega) _).far (p := ⟨w.heap.size + 1, 1, none⟩) (by show g ≠ w.heap.size + 1; omega) _).far (p := ⟨w.heap.size + 1, 2, none⟩) (by show g ≠ w.heap.size + 1; omega) _).far (p := ⟨w.heap.size + 1, 3, none⟩) (by show g ≠ w.heap.size + 1; omega) _).far (p := ⟨w.heap.size + 1, 4, none⟩) (by show g ≠ w.heap.size + 1; omega) _).drew
theorem do_bad (b g n cap i : Nat) (cur : Array Value) (k x y o v : Int) (w : World) (h : Row w b 101 #[.slice (some ⟨g, 0, none⟩) n cap]) (hg : Row w g 22 cur)
    (hi : i < n) (hv : cur[i]? = some (.int .u32 v)) (hk : isKind k = false) :
    Calls Tryz.prog 212 #[.pointer (some ⟨b, 0, none⟩), .agg #[.int .i64 k, .int .i64 i, .int .u32 x, .int .u32 y, .int .u32 o]] w fun e w' =>
      e = .returned (.tuple #[.agg #[.int .i64 0, .int .i64 0, .int .u32 0, .int .u32 0, .int .u32 0], .bool false]) ∧ Only Nil w w' := by
  have h2 : ∀ o1 o2, Row ((w.alloc o1).alloc o2) b 101 #[.slice (some ⟨g, 0, none⟩) n cap] := fun o1 o2 => (h.alloc o1).alloc o2
  have H := Lib.hid h2
  have hlt := h.lt
  have hglt := hg.lt
  have hin : (i : Int) < n := by omega
  have h0 : ¬ (i : Int) < 0 := by omega
  have hc := h.cell_ (i := 0) rfl
  have hcv := hg.cell_ hv
  have HG := Lib.hid hg
  have HV := Lib.hid hv
  clear h h2 hv hg
  go_enter Tryz.func212, Tryz.ntmps212
  go_wp2
  go_quiet ((go_at_call 282; exact Calls.quiet_of_same (len_any b _ n cap _ (H.out _ _))))
  go_wp2
  go_region
  go_wp2_with fail
  refine (behind_any k i x y v _).mono ?_
  rintro e w1 ⟨rfl, ho⟩
  rw [hk]
  generalize hl : leftOf k x y v = lv
  have F0 : Row w1 w.heap.size 33 #[.int .i64 k, .int .i64 i, .int .u32 x, .int .u32 y, .int .u32 v] := ((((Row.new w _ _).alloc _).drewN _).set 4 _).only ho id
  have F1 : Row w1 (w.heap.size + 1) 33 #[.int .i64 0, .int .i64 0, .int .u32 0, .int .u32 0, .int .u32 0] := by
    have := ((Row.new (w.alloc (Obj.cells #[.int .i64 k, .int .i64 i, .int .u32 x, .int .u32 y, .int .u32 o] 33)) 33 #[.int .i64 0, .int .i64 0, .int .u32 0, .int .u32 0, .int .u32 0]).drewN (nq + 1))
    rw [show (w.alloc (Obj.cells #[.int .i64 k, .int .i64 i, .int .u32 x, .int .u32 y, .int .u32 o] 33)).heap.size = w.heap.size + 1 by simp] at this
    exact (this.far (by simp) _).only ho id
  have FB := ((((H.out _ _).drewN _).far (p := ⟨w.heap.size, 4, none⟩) (by show b ≠ w.heap.size; omega) _).only ho id)
  have FG := (((((HG.out.alloc _).alloc _).drewN _).far (p := ⟨w.heap.size, 4, none⟩) (by show g ≠ w.heap.size; omega) _).only ho id)
  have OW : Only Nil w w1 := Only.trans (by (repeat' (first | (with_reducible exact Only.refl _ _) | (with_reducible assumption) | (with_reducible refine Only.setCell ?_ ?_ _) | (with_reducible refine Only.drewN ?_ _) | (with_reducible refine Only.drew ?_) | (with_reducible refine Only.alloc ?_ _) | (left; simp; done) | (left; simp; omega) | (right; rfl)))) ho
  clear ho hcv hc
  have hs1 : w.heap.size + 1 < w1.heap.size := F1.lt
  have c0 : w1.cell? ⟨w.heap.size, 0, none⟩ = some (.int .i64 k) := F0.cell_ (i := 0) rfl
  have c1 : w1.cell? ⟨w.heap.size, 1, none⟩ = some (.int .i64 i) := F0.cell_ (i := 1) rfl
  have c2 : w1.cell? ⟨w.heap.size, 2, none⟩ = some (.int .u32 x) := F0.cell_ (i := 2) rfl
  have c3 : w1.cell? ⟨w.heap.size, 3, none⟩ = some (.int .u32 y) := F0.cell_ (i := 3) rfl
  have c4 : w1.cell? ⟨w.heap.size, 4, none⟩ = some (.int .u32 v) := F0.cell_ (i := 4) rfl
  have d0 : w1.cell? ⟨w.heap.size + 1, 0, none⟩ = some (.int .i64 0) := F1.cell_ (i := 0) rfl
  have d1 : w1.cell? ⟨w.heap.size + 1, 1, none⟩ = some (.int .i64 0) := F1.cell_ (i := 1) rfl
  have d2 : w1.cell? ⟨w.heap.size + 1, 2, none⟩ = some (.int .u32 0) := F1.cell_ (i := 2) rfl
  have d3 : w1.cell? ⟨w.heap.size + 1, 3, none⟩ = some (.int .u32 0) := F1.cell_ (i := 3) rfl
  have d4 : w1.cell? ⟨w.heap.size + 1, 4, none⟩ = some (.int .u32 0) := F1.cell_ (i := 4) rfl
  have e0 : w1.frozen? ⟨w.heap.size + 1, 0, none⟩ = false := F1.frozen 0
  have e1 : w1.frozen? ⟨w.heap.size + 1, 1, none⟩ = false := F1.frozen 1
  have e2 : w1.frozen? ⟨w.heap.size + 1, 2, none⟩ = false := F1.frozen 2
  have e3 : w1.frozen? ⟨w.heap.size + 1, 3, none⟩ = false := F1.frozen 3
  have e4 : w1.frozen? ⟨w.heap.size + 1, 4, none⟩ = false := F1.frozen 4
  have b0 : w1.cell? ⟨b, 0, none⟩ = some (.slice (some ⟨g, 0, none⟩) n cap) := FB.cell_ (i := 0) rfl
  have g0 := FG.cell_ HV.out
  have g1 := FG.frozen i
  have HB := Lib.hid FB
  have HG1 := Lib.hid FG
  have H0 := Lib.hid F0
  have H1 := Lib.hid F1
  have HO := Lib.hid OW
  have HL := Lib.hid hl
  clear FB FG F0 F1 OW hl
  go_wp2
  refine post_row_tmp (P := Tryz.prog) Tryz.results212 (t := 33) (g := w.heap.size + 1) (cs := #[.int .i64 0, .int .i64 0, .int .u32 0, .int .u32 0, .int .u32 0]) rfl ?_ Tryz.underlying33 rfl (by kernel_rfl) rfl ⟨rfl, ?_⟩
  · exact ((((((H1.out.set 0 (.int .i64 0)).set 1 (.int .i64 0)).set 2 (.int .u32 0)).set 3 (.int .u32 0)).set 4 (.int .u32 0)))
  · have O1 : Only Nil w w1 := HO.out
    (repeat' (first | (with_reducible exact Only.refl _ _) | (with_reducible assumption) | (with_reducible refine Only.setCell ?_ ?_ _) | (with_reducible refine Only.drewN ?_ _) | (with_reducible refine Only.drew ?_) | (with_reducible refine Only.alloc ?_ _) | (left; simp; done) | (left; simp; omega) | (right; rfl)))
end Go.Proofs.YtlepokgagickmaaGreat
namespace Go.Proofs.YtlepokgagickmaaGreat
open Go.RowKit
theorem infoW : (Tryz.prog.info? 22).map (fun i => (i.zero, i.size, i.bytes)) = some (some (.int .u32 0), 1, 4) := by kernel_rfl
theorem news_of {w : World} {B : Nat} {k : IntKind} {a : Addr} {xs : List Int} (h : Ints w B k (some a) xs) : ∀ j u, (xs.map (Value.int k))[j]? = some u → w.cell? (a.add j) = some u := by
  intro j u hu
  rw [List.getElem?_map] at hu
  have hj : j < xs.length := by
    rcases Nat.lt_or_ge j xs.length with hj | hj
    · exact hj
    · rw [List.getElem?_eq_none hj] at hu; cases hu
  obtain ⟨b, o, ha, _, hc⟩ := h (by omega)
  injection ha with ha
  subst ha
  rw [add_at, hc j hj]
  rw [List.getElem?_eq_getElem hj] at hu
  simp only [Option.map_some, Option.some.injEq] at hu
  rw [← hu]
  simp [List.getD, List.getElem?_eq_getElem hj]
theorem one_of {k : IntKind} (xs : List Int) : ∀ u ∈ xs.map (Value.int k), u.oneCell' = true := by
  intro u hu
  simp only [List.mem_map] at hu
  obtain ⟨z, _, rfl⟩ := hu
  rfl
theorem clone_nil (w : World) : Calls Tryz.prog 53 #[.slice none 0 0] w fun e w' => e = .returned (.slice none 0 0) ∧ w' = w := by
  have hq := fun (w : World) (a : Option Addr) (n c : Nat) => Lib.run_eql_slice_nil (P := Tryz.prog) w 44 22 a n c 0 0 Tryz.underlying44
  go_enter Tryz.func53, Tryz.ntmps53
  go_wp2
  go_ret
  exact ⟨rfl, rfl⟩
theorem clone_any (a : Addr) (n cap : Nat) (xs : List Int) (w : World) (hn : xs.length = n) (hm : n ≤ 1048576) (h : Ints w w.heap.size .u32 (some a) xs) :
    Calls Tryz.prog 53 #[.slice (some a) n cap] w fun e w' => ∃ v, e = .returned v ∧ w'.ownsRow w.heap.size 22 1 v n (xs.map (.int .u32)) ∧ Only Nil w w' := by
  have hq := fun (w : World) (a : Option Addr) (n c : Nat) => Lib.run_eql_slice_nil (P := Tryz.prog) w 44 22 a n c 0 0 Tryz.underlying44
  obtain ⟨i0, hi, hz0, hz1, hz2⟩ := info_parts infoW
  go_enter Tryz.func53, Tryz.ntmps53
  go_wp2_with (at_builtin; refine wpList_append_own _ rfl (.tmp 5) (.tmp 6) 44 rfl w.heap.size 22 i0 (.int .u32 0) 1 4 Tryz.underlying44 hi hz0 hz1 hz2 rfl (by decide) _ 0 [] rfl (World.ownsRow_made w #[] 0 (Nat.le_refl _) (by decide) rfl) a n cap (xs.map (.int .u32)) rfl ?c0 ?c1 ?c2 ?c3 ?c4 ?c5 ?_)
  case c0 => simp [hn]
  case c1 => exact news_of (h.alloc (Nat.le_refl _) (.cells #[] 22))
  case c2 => exact one_of xs
  case c3 => unfold maxLen; omega
  case c4 => omega
  case c5 => simp
  intro v' w1 hown hgrow _
  have HO := Lib.hid hown
  have HG := Lib.hid hgrow
  clear hown hgrow
  go_wp2
  go_ret
  exact ⟨_, rfl, HO.out, ((Only.refl _ _).alloc _).grown HG.out (fun k hk => by simp only [Value.ownBlock, Option.some.injEq] at hk; left; omega)⟩
def Held (w : World) (A : Option Addr) (n cap : Nat) (xs : List Int) : Prop := xs.length = n ∧ (A = none → n = 0 ∧ cap = 0) ∧ Ints w w.heap.size .u32 A xs
def At (A : Option Addr) : Nat → Prop := fun i => ∃ a, A = some a ∧ a.block = i
theorem own_form {w : World} {base : Nat} {e : TypeId} {size : Nat} {v : Value} {n : Nat} {vs : List Value} (h : w.ownsRow base e size v n vs) : ∃ A c, v = .slice A n c ∧ (A = none → n = 0 ∧ c = 0) ∧ ∀ i, At A i → base ≤ i := by
  rcases h.2 with ⟨hv, h0⟩ | ⟨g, cap, cur, hv, hb, _⟩
  · subst h0
    exact ⟨none, 0, hv, fun _ => ⟨rfl, rfl⟩, fun i ⟨a, ha, _⟩ => by cases ha⟩
  · exact ⟨some ⟨g, 0, none⟩, cap, hv, (by intro h; cases h), fun i ⟨a, ha, hi⟩ => by injection ha with ha; subst ha; subst hi; exact hb⟩
theorem own_base {w : World} {base base' : Nat} {e : TypeId} {size : Nat} {v : Value} {n : Nat} {vs : List Value} (h : w.ownsRow base e size v n vs) (hb : base' ≤ base) : w.ownsRow base' e size v n vs := by
  refine ⟨h.1, ?_⟩
  rcases h.2 with hn | ⟨g, cap, cur, hv, hb2, rest⟩
  · exact .inl hn
  · exact .inr ⟨g, cap, cur, hv, by omega, rest⟩
structure Own (w : World) (base : Nat) (A : Option Addr) (c : Nat) (xs : List Int) : Prop where
  own : w.ownsRow base 22 1 (.slice A xs.length c) xs.length (xs.map (.int .u32))
  nil : A = none → xs.length = 0 ∧ c = 0
  base : ∀ i, At A i → base ≤ i
theorem Own.of {w : World} {base : Nat} {v : Value} {xs : List Int} (h : w.ownsRow base 22 1 v xs.length (xs.map (.int .u32))) : ∃ A c, v = .slice A xs.length c ∧ Own w base A c xs := by
  obtain ⟨A, c, rfl, h1, h2⟩ := own_form h
  exact ⟨A, c, rfl, h, h1, h2⟩
theorem Own.only {w w' : World} {base : Nat} {A : Option Addr} {c : Nat} {xs : List Int} {S : Nat → Prop} (h : Own w base A c xs) (ho : Only S w w') (hS : ∀ i, At A i → ¬ S i) : Own w' base A c xs :=
  ⟨own_only h.own ho (fun i hi => hS i (by
    cases A with
    | none => simp [Value.ownBlock] at hi
    | some a => simp only [Value.ownBlock, Option.some.injEq] at hi; exact ⟨a, rfl, hi⟩)), h.nil, h.base⟩
theorem Own.held {w : World} {base : Nat} {A : Option Addr} {c : Nat} {xs : List Int} (h : Own w base A c xs) : Held w A xs.length c xs := ⟨rfl, h.nil, Ints.of_own h.own⟩
theorem Own.lt {w : World} {base : Nat} {A : Option Addr} {c : Nat} {xs : List Int} (h : Own w base A c xs) : ∀ i, At A i → i < w.heap.size := fun i ⟨a, ha, hi⟩ => (h.own.lt i (by rw [ha]; simp [Value.ownBlock, hi])).2
theorem clone_held (A : Option Addr) (n cap : Nat) (xs : List Int) (w : World) (hm : n ≤ 1048576) (h : Held w A n cap xs) :
    Calls Tryz.prog 53 #[.slice A n cap] w fun e w' => ∃ A' c', e = .returned (.slice A' xs.length c') ∧ Own w' w.heap.size A' c' xs ∧ Only Nil w w' := by
  obtain ⟨h1, h2, h3⟩ := h
  cases A with
  | none =>
    obtain ⟨rfl, rfl⟩ := h2 rfl
    obtain rfl : xs = [] := List.length_eq_zero_iff.1 h1
    refine (clone_nil w).mono fun e w' ⟨he, hw⟩ => ?_
    subst hw
    obtain ⟨A', c', hv, hO⟩ := Own.of (xs := []) (World.ownsRow_nil w' w'.heap.size 22 1)
    exact ⟨A', c', he.trans (by rw [hv]), hO, Only.refl _ _⟩
  | some a =>
    subst h1
    refine (clone_any a _ cap xs w rfl hm h3).mono fun e w' ⟨v, he, ho, hO⟩ => ?_
    obtain ⟨A', c', rfl, hw⟩ := Own.of ho
    exact ⟨A', c', he, hw, hO⟩
structure Mem (w : World) (b : Nat) (A : Option Addr) (c : Nat) (xs : List Int) : Prop where
  hdr : Row w b 101 #[.slice A xs.length c]
  own : Own w 0 A c xs
  len : xs.length ≤ 1024
theorem Mem.only {w w' : World} {b : Nat} {A : Option Addr} {c : Nat} {xs : List Int} {S : Nat → Prop} (h : Mem w b A c xs) (ho : Only S w w') (hb : ¬ S b) (hS : ∀ i, At A i → ¬ S i) : Mem w' b A c xs :=
  ⟨h.hdr.only ho hb, h.own.only ho hS, h.len⟩
end Go.Proofs.YtlepokgagickmaaGreat
namespace Go.Proofs.YtlepokgagickmaaGreat
open Go.RowKit
def there (xs : List Int) (c : Int) : Bool := decide (0 ≤ c ∧ c < xs.length)
def wordAt (xs : List Int) (c : Int) : Int := if there xs c then xs.getD c.toNat 0 else 0
def doOk (xs : List Int) (k c : Int) : Bool := there xs c && isKind k
def accOf (k c x y o : Int) : Value := .agg #[.int .i64 k, .int .i64 c, .int .u32 x, .int .u32 y, .int .u32 o]
def doVal (xs : List Int) (k c x y : Int) : Value := if doOk xs k c then accOf k c x y (wordAt xs c) else accOf 0 0 0 0 0
def doNew (xs : List Int) (k c x y : Int) : List Int := if doOk xs k c then xs.set c.toNat (leftOf k x y (wordAt xs c)) else xs
theorem doNew_len (xs : List Int) (k c x y : Int) : (doNew xs k c x y).length = xs.length := by
  unfold doNew; split <;> simp
theorem own_set {w' : World} {base g n cap i : Nat} {e : TypeId} {cur : Array Value} {xs : List Int} {u : Int} (h : Row w' g e (cur.setIfInBounds i (.int .u32 u))) (hb : base ≤ g) (hn : n ≤ cap) (hcap : cap ≤ maxLen) (hs : cur.size = cap) (hx : xs.length = n)
    (ht : cur.toList.take n = xs.map (.int .u32)) : w'.ownsRow base e 1 (.slice (some ⟨g, 0, none⟩) n cap) n ((xs.set i u).map (.int .u32)) := by
  refine ⟨by simp [hx], .inr ⟨g, cap, _, rfl, hb, h, hn, hcap, by simp [hs], ?_⟩⟩
  rw [Nat.mul_one, List.map_set, ← ht, Array.toList_setIfInBounds, List.take_set]
theorem do_any (b : Nat) (A : Option Addr) (cp : Nat) (xs : List Int) (k c x y o : Int) (w : World) (h : Mem w b A cp xs) :
    Calls Tryz.prog 212 #[.pointer (some ⟨b, 0, none⟩), .agg #[.int .i64 k, .int .i64 c, .int .u32 x, .int .u32 y, .int .u32 o]] w fun e w' =>
      e = .returned (.tuple #[doVal xs k c x y, .bool (doOk xs k c)]) ∧ Only (At A) w w' ∧ Mem w' b A cp (doNew xs k c x y) := by
  by_cases hc : there xs c = true
  · have hc' := hc
    simp only [there, decide_eq_true_eq] at hc'
    obtain ⟨i, rfl⟩ := Int.eq_ofNat_of_zero_le hc'.1
    have hi : i < xs.length := by omega
    obtain ⟨hdr, own, len⟩ := h
    have hown := own.own
    rcases hown.2 with ⟨_, h0⟩ | ⟨g, cap, cur, hv, hg0, hg, hn, hcap, hsz, ht⟩
    · omega
    · injection hv with h1 h2 h3
      subst h1 h3
      have hr : Row w g 22 cur := hg
      have hcv : cur[i]? = some (.int .u32 (wordAt xs i)) := by
        have e1 : (cur.toList.take (xs.length * 1))[i]? = (xs.map (Value.int .u32))[i]? := by rw [ht]
        rw [List.getElem?_take, if_pos (by omega), List.getElem?_map, List.getElem?_eq_getElem hi] at e1
        simp only [Option.map_some, Array.getElem?_toList] at e1
        rw [e1]
        simp [wordAt, hc, List.getD, List.getElem?_eq_getElem hi]
      have hAt : ∀ j, At (some (⟨g, 0, none⟩ : Addr)) j ↔ j = g := fun j => ⟨fun ⟨a, ha, hj⟩ => by injection ha with ha; subst ha; exact hj.symm, fun hj => ⟨_, rfl, hj.symm⟩⟩
      have hbg : b ≠ g := by
        rintro rfl
        have := (hdr.same hr).1
        exact absurd this (by decide)
      cases hk : isKind k with
      | true =>
        refine (do_in b g xs.length cp i cur k x y o (wordAt xs i) w hdr hr hi hcv hk).mono fun e w' ⟨he, hO, hR⟩ => ?_
        have hok : doOk xs k i = true := by simp [doOk, hc, hk]
        refine ⟨by rw [he]; simp [doVal, hok, accOf], hO.mono (fun j _ hj => (hAt j).2 hj), ?_⟩
        have e2 : doNew xs k i x y = xs.set i (leftOf k x y (wordAt xs i)) := by simp [doNew, hok]
        rw [e2]
        refine ⟨?_, ⟨?_, (by rw [List.length_set]; exact own.nil), own.base⟩, by simpa using len⟩
        · rw [List.length_set]; exact hdr.only hO hbg
        · rw [List.length_set]; exact own_set hR (Nat.zero_le _) hn hcap (by omega) rfl (by rw [Nat.mul_one] at ht; exact ht)
      | false =>
        refine (do_bad b g xs.length cp i cur k x y o (wordAt xs i) w hdr hr hi hcv hk).mono fun e w' ⟨he, hO⟩ => ?_
        have hok : doOk xs k i = false := by simp [doOk, hk]
        refine ⟨by rw [he]; simp [doVal, hok, accOf], hO.mono (fun _ _ hj => hj.elim), ?_⟩
        rw [show doNew xs k i x y = xs by simp [doNew, hok]]
        exact Mem.only ⟨hdr, own, len⟩ hO id (fun _ _ => id)
  · have hc' := hc
    simp only [there, decide_eq_true_eq] at hc'
    have hok : doOk xs k c = false := by simp [doOk, hc]
    refine (do_out b A xs.length cp k c x y o w h.hdr (by omega)).mono fun e w' ⟨he, hO⟩ => ?_
    refine ⟨by rw [he]; simp [doVal, hok, accOf], hO.mono (fun _ _ hj => hj.elim), ?_⟩
    rw [show doNew xs k c x y = xs by simp [doNew, hok]]
    exact h.only hO id (fun _ _ => id)
theorem doVal_form (xs : List Int) (k c x y : Int) : ∃ k' c' x' y', doVal xs k c x y = .agg #[.int .i64 k', .int .i64 c', .int .u32 x', .int .u32 y', .int .u32 (if doOk xs k c then wordAt xs c else 0)] := by
  unfold doVal accOf
  split
  · exact ⟨k, c, x, y, rfl⟩
  · exact ⟨0, 0, 0, 0, rfl⟩
theorem oldAt (xs : List Int) (k c : Int) (hk : isKind k = true) : (if doOk xs k c then wordAt xs c else 0) = wordAt xs c := by
  unfold doOk wordAt
  cases h : there xs c <;> simp [hk]
theorem set_same {xs : List Int} {c : Int} : (if there xs c then xs.set c.toNat (wordAt xs c) else xs) = xs := by
  split
  · rename_i ht
    have ht' := ht
    simp only [there, decide_eq_true_eq] at ht'
    have hi : c.toNat < xs.length := by omega
    simp [wordAt, ht, List.getD, List.getElem?_eq_getElem hi]
  · rfl
theorem doNew_load (xs : List Int) (c x y : Int) : doNew xs 1 c x y = xs := by
  have e := set_same (xs := xs) (c := c)
  unfold doNew doOk
  simpa [isKind, leftOf] using e
theorem Own.row {w : World} {base : Nat} {A : Option Addr} {c : Nat} {xs : List Int} (h : Own w base A c xs) {i : Nat} (hi : i < xs.length) :
    ∃ g cur, A = some ⟨g, 0, none⟩ ∧ base ≤ g ∧ Row w g 22 cur ∧ cur[i]? = some (.int .u32 (xs.getD i 0)) ∧
      ∀ (w' : World) (u : Int), Row w' g 22 (cur.setIfInBounds i (.int .u32 u)) → Own w' base A c (xs.set i u) := by
  obtain ⟨own, nil, bs⟩ := h
  rcases own.2 with ⟨_, h0⟩ | ⟨g, cap, cur, hv, hg0, hg, hn, hcap, hsz, ht⟩
  · omega
  · injection hv with h1 h2 h3
    subst h1 h3
    refine ⟨g, cur, rfl, hg0, hg, ?_, fun w' u hr => ⟨?_, (by rw [List.length_set]; exact nil), bs⟩⟩
    · have e1 : (cur.toList.take (xs.length * 1))[i]? = (xs.map (Value.int .u32))[i]? := by rw [ht]
      rw [List.getElem?_take, if_pos (by omega), List.getElem?_map, List.getElem?_eq_getElem hi] at e1
      simp only [Option.map_some, Array.getElem?_toList] at e1
      rw [e1]
      simp [List.getD, List.getElem?_eq_getElem hi]
    · rw [List.length_set]
      exact own_set hr hg0 hn hcap (by omega) rfl (by rw [Nat.mul_one] at ht; exact ht)
def st (xs : List Int) (c u : Int) : List Int := if there xs c then xs.set c.toNat u else xs
theorem st_len (xs : List Int) (c u : Int) : (st xs c u).length = xs.length := by unfold st; split <;> simp
theorem st_word (xs : List Int) (c : Int) : st xs c (wordAt xs c) = xs := set_same
theorem doNew_st (xs : List Int) (k c x y : Int) (hk : isKind k = true) : doNew xs k c x y = st xs c (leftOf k x y (wordAt xs c)) := by
  unfold doNew st doOk
  simp [hk]
theorem word_wf {xs : List Int} (h : ∀ n ∈ xs, (Lit.int .u32 n).wf = true) (c : Int) : 0 ≤ wordAt xs c ∧ wordAt xs c < 4294967296 := by
  unfold wordAt
  split
  · rename_i ht
    simp only [there, decide_eq_true_eq] at ht
    have hi : c.toNat < xs.length := by omega
    simp only [List.getD, List.getElem?_eq_getElem hi, Option.getD_some]
    exact wf_u32 (h _ (List.getElem_mem hi))
  · omega
end Go.Proofs.YtlepokgagickmaaGreat
namespace Go.Proofs.YtlepokgagickmaaGreat
open Go.RowKit
def okN (n : Int) : Bool := decide (1 ≤ n) && decide (n ≤ 64)
theorem okN_yes {n : Int} (h : 1 ≤ n ∧ n ≤ 64) : okN n = true := by simp [okN, h.1, h.2]
theorem okN_no {n : Int} (h : ¬ (1 ≤ n ∧ n ≤ 64)) : okN n = false := by
  simp only [okN, Bool.and_eq_false_iff, decide_eq_false_iff_not]; omega
def cellI (n row i : Int) : Int := if 1 ≤ n ∧ n ≤ 64 ∧ 0 ≤ i ∧ i < n then 8 + row * n + i else -1
def sizeI (n : Int) : Int := if 1 ≤ n ∧ n ≤ 64 then 8 + 4 * n else 0
theorem ret_int {k : IntKind} {a b : Int} (h : a = b) : Ending.returned (.int k a) = .returned (.int k b) := by rw [h]
theorem isCount_any (n : Int) (w : World) :
    Calls Tryz.prog 52 #[.int .i64 n] w fun e w' => e = .returned (.bool (okN n)) ∧ w = w' := by
  by_cases h1 : 1 ≤ n
  · by_cases h2 : n ≤ 64
    · rw [okN_yes ⟨h1, h2⟩]
      go_enter Tryz.func52, Tryz.ntmps52
      go_wp2
      go_ret
      exact ⟨rfl, rfl⟩
    · rw [okN_no (fun h => h2 h.2)]
      go_enter Tryz.func52, Tryz.ntmps52
      go_wp2
      go_ret
      exact ⟨rfl, rfl⟩
  · rw [okN_no (fun h => h1 h.1)]
    go_enter Tryz.func52, Tryz.ntmps52
    go_wp2
    go_ret
    exact ⟨rfl, rfl⟩
theorem cell_row (n row i : Int) (w : World) (hr : row = 0 ∨ row = 1 ∨ row = 2 ∨ row = 3) :
    Calls Tryz.prog 314 #[.agg #[.int .i64 n], .int .i64 row, .int .i64 i] w fun e w' => e = .returned (.int .i64 (cellI n row i)) ∧ Only Nil w w' := by
  by_cases hn : 1 ≤ n ∧ n ≤ 64
  · by_cases h0 : 0 ≤ i
    · by_cases h1 : i < n
      · have hc : cellI n row i = 8 + row * n + i := if_pos ⟨hn.1, hn.2, h0, h1⟩
        rw [hc]
        clear hc
        have HK := Lib.hid (okN_yes hn)
        obtain ⟨n1, n2⟩ := hn
        rcases hr with rfl | rfl | rfl | rfl
        all_goals
          go_enter Tryz.func314, Tryz.ntmps314
          go_wp2_with fail
          refine (isCount_any n _).mono ?_
          rw [HK.out]
          rintro e w1 ⟨rfl, rfl⟩
          go_wp2
          go_ret
          exact ⟨ret_int (by omega), by (repeat' (first | (with_reducible exact Only.refl _ _) | (with_reducible assumption) | (with_reducible refine Only.setCell ?_ ?_ _) | (with_reducible refine Only.drewN ?_ _) | (with_reducible refine Only.drew ?_) | (with_reducible refine Only.alloc ?_ _) | (left; simp; done) | (left; simp; omega) | (right; rfl)))⟩
      · have hc : cellI n row i = -1 := if_neg (fun h => h1 h.2.2.2)
        rw [hc]
        clear hc hr
        have HK := Lib.hid (okN_yes hn)
        clear hn
        go_enter Tryz.func314, Tryz.ntmps314
        go_wp2_with fail
        refine (isCount_any n _).mono ?_
        rw [HK.out]
        rintro e w1 ⟨rfl, rfl⟩
        go_wp2
        go_ret
        exact ⟨rfl, by (repeat' (first | (with_reducible exact Only.refl _ _) | (with_reducible assumption) | (with_reducible refine Only.setCell ?_ ?_ _) | (with_reducible refine Only.drewN ?_ _) | (with_reducible refine Only.drew ?_) | (with_reducible refine Only.alloc ?_ _) | (left; simp; done) | (left; simp; omega) | (right; rfl)))⟩
    · have hc : cellI n row i = -1 := if_neg (fun h => h0 h.2.2.1)
      rw [hc]
      clear hc hr
      have HK := Lib.hid (okN_yes hn)
      clear hn
      go_enter Tryz.func314, Tryz.ntmps314
      go_wp2_with fail
      refine (isCount_any n _).mono ?_
      rw [HK.out]
      rintro e w1 ⟨rfl, rfl⟩
      go_wp2
      go_ret
      exact ⟨rfl, by (repeat' (first | (with_reducible exact Only.refl _ _) | (with_reducible assumption) | (with_reducible refine Only.setCell ?_ ?_ _) | (with_reducible refine Only.drewN ?_ _) | (with_reducible refine Only.drew ?_) | (with_reducible refine Only.alloc ?_ _) | (left; simp; done) | (left; simp; omega) | (right; rfl)))⟩
  · have hc : cellI n row i = -1 := if_neg (fun h => hn ⟨h.1, h.2.1⟩)
    rw [hc]
    clear hc hr
    have HK := Lib.hid (okN_no hn)
    clear hn
    go_enter Tryz.func314, Tryz.ntmps314
    go_wp2_with fail
    refine (isCount_any n _).mono ?_
    rw [HK.out]
    rintro e w1 ⟨rfl, rfl⟩
    go_wp2
    go_ret
    exact ⟨rfl, by (repeat' (first | (with_reducible exact Only.refl _ _) | (with_reducible assumption) | (with_reducible refine Only.setCell ?_ ?_ _) | (with_reducible refine Only.drewN ?_ _) | (with_reducible refine Only.drew ?_) | (with_reducible refine Only.alloc ?_ _) | (left; simp; done) | (left; simp; omega) | (right; rfl)))⟩
end Go.Proofs.YtlepokgagickmaaGreat
