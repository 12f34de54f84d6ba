import Derived.WalkKit
import Derived.ProofKit
import Derived.Handy
import Derived.Outline
import Derived.Deep.QuietTactic
import Derived.BigQuiet
import Derived.BigRegion
import Derived.WalkLawsBesides
import Derived.Lib.Hide
import Derived.Deep.Draws
import Derived.WalkSpells
import Derived.Lib.ItoaNum
namespace Go.Proofs.Ytigdbokfapedcaa
open Go.RowKit
def Row (w : World) (g : Nat) (t : TypeId) (cs : Array Value) : Prop := w.heap[g]? = some (.cells cs t (0, 0))
structure Only (S : Nat → Prop) (w w' : World) : Prop where
  os : w'.os = w.os
  tape : w'.tape = w.tape
  output : w'.output = w.output
  size : w.heap.size ≤ w'.heap.size
  block : ∀ k, k < w.heap.size → ¬ S k → w'.heap[k]? = w.heap[k]?
section
variable {w w' w'' : World} {g : Nat} {t : TypeId} {cs : Array Value} {S T : Nat → Prop}
theorem Row.lt (h : Row w g t cs) : g < w.heap.size := (Array.getElem?_eq_some_iff.1 h).1
theorem Row.cell (h : Row w g t cs) (i : Nat) : w.cell? ⟨g, i, none⟩ = cs[i]? := by
  have h' : w.heap[g]? = _ := h
  simp [World.cell?, h']
theorem Row.cell_ (h : Row w g t cs) {i : Nat} {v : Value} (hi : cs[i]? = some v) : w.cell? ⟨g, i, none⟩ = some v := (h.cell i).trans hi
theorem Row.frozen (h : Row w g t cs) (i : Nat) : w.frozen? ⟨g, i, none⟩ = false := by
  have h' : w.heap[g]? = _ := h
  simp [World.frozen?, h']
theorem Row.new (w : World) (t : TypeId) (cs : Array Value) : Row (w.alloc (.cells cs t)) w.heap.size t cs := by
  show (w.heap.push _)[w.heap.size]? = _
  rw [Array.getElem?_push_size]
theorem Row.new2 (w : World) (o : Obj) (t : TypeId) (cs : Array Value) : Row ((w.alloc o).alloc (.cells cs t)) (w.heap.size + 1) t cs := by
  have e := Row.new (w.alloc o) t cs
  rwa [show (w.alloc o).heap.size = w.heap.size + 1 by simp] at e
theorem Row.drew (h : Row w g t cs) : Row w.drew g t cs := h
theorem Row.drewN (h : Row w g t cs) (n : Nat) : Row (w.drewN n) g t cs := h
theorem Row.alloc (h : Row w g t cs) (o : Obj) : Row (w.alloc o) g t cs := (Below.heap_alloc w o g h.lt).trans h
theorem Row.set (h : Row w g t cs) (i : Nat) (u : Value) : Row (w.setCell ⟨g, i, none⟩ u) g t (cs.setIfInBounds i u) := by
  have h' : w.heap[g]? = _ := h
  show (World.setCell w ⟨g, i, none⟩ u).heap[g]? = _
  simp [World.setCell, Array.getElem?_modify, h']
theorem Row.far (h : Row w g t cs) {p : Addr} (hp : g ≠ p.block) (u : Value) : Row (w.setCell p u) g t cs := (Below.heap_setCell w p u g hp).trans h
theorem Row.only (h : Row w g t cs) (ho : Only S w w') (hg : ¬ S g) : Row w' g t cs := (ho.block g h.lt hg).trans h
theorem Row.same {t' : TypeId} {cs' : Array Value} (h : Row w g t cs) (h' : Row w g t' cs') : t = t' ∧ cs = cs' := by
  have e := h.symm.trans h'
  simp only [Option.some.injEq, Obj.cells.injEq] at e
  exact ⟨e.2.1, e.1⟩
theorem Only.refl (S : Nat → Prop) (w : World) : Only S w w := ⟨rfl, rfl, rfl, Nat.le_refl _, fun _ _ _ => rfl⟩
theorem Only.trans (h : Only S w w') (k : Only S w' w'') : Only S w w'' :=
  ⟨k.os.trans h.os, k.tape.trans h.tape, k.output.trans h.output, Nat.le_trans h.size k.size, fun i hi hS => (k.block i (Nat.lt_of_lt_of_le hi h.size) hS).trans (h.block i hi hS)⟩
theorem Only.mono (h : Only S w w') (hST : ∀ k, k < w.heap.size → S k → T k) : Only T w w' := ⟨h.os, h.tape, h.output, h.size, fun i hi hT => h.block i hi (fun hs => hT (hST i hi hs))⟩
theorem Only.step (h : Only S w w') (k : Only T w' w'') (hT : ∀ i, i < w.heap.size → T i → S i) : Only S w w'' :=
  ⟨k.os.trans h.os, k.tape.trans h.tape, k.output.trans h.output, Nat.le_trans h.size k.size, fun i hi hS => (k.block i (Nat.lt_of_lt_of_le hi h.size) (fun ht => hS (hT i hi ht))).trans (h.block i hi hS)⟩
theorem Only.drew (h : Only S w w') : Only S w w'.drew := ⟨h.os, h.tape, h.output, h.size, h.block⟩
theorem Only.drewN (h : Only S w w') (n : Nat) : Only S w (w'.drewN n) := ⟨h.os, h.tape, h.output, h.size, h.block⟩
theorem Only.alloc (h : Only S w w') (o : Obj) : Only S w (w'.alloc o) :=
  ⟨h.os, h.tape, h.output, Nat.le_trans h.size (by simp), fun i hi hS => (Below.heap_alloc w' o i (Nat.lt_of_lt_of_le hi h.size)).trans (h.block i hi hS)⟩
theorem Only.setCell (h : Only S w w') {p : Addr} (hp : w.heap.size ≤ p.block ∨ S p.block) (u : Value) : Only S w (w'.setCell p u) :=
  ⟨h.os, h.tape, h.output, by simpa [World.setCell] using h.size, fun i hi hS => (Below.heap_setCell w' p u i (by
    rintro rfl
    rcases hp with hp | hp
    · omega
    · exact hS hp)).trans (h.block i hi hS)⟩
theorem Only.grown {row : Option Nat} (h : Only S w w') (hg : w'.grownBy w'' row) (hr : ∀ k, row = some k → w.heap.size ≤ k ∨ S k) : Only S w w'' :=
  ⟨hg.os.trans h.os, hg.tape.trans h.tape, hg.output.trans h.output, Nat.le_trans h.size hg.size, fun i hi hS => (hg.block i (Nat.lt_of_lt_of_le hi h.size) (fun e => by
    rcases hr i e.symm with hk | hk
    · omega
    · exact hS hk)).trans (h.block i hi hS)⟩
theorem Only.of_below {B : Nat} (h : Below B w w') (hB : ∀ k, k < w.heap.size → B ≤ k → S k) : Only S w w' :=
  ⟨h.os, h.tape, h.output, h.size, fun i hi hS => h.block i (by
    rcases Nat.lt_or_ge i B with hlt | hge
    · exact hlt
    · exact absurd (hB i hi hge) hS)⟩
theorem Only.below {B : Nat} (h : Only S w w') (hB : B ≤ w.heap.size) (hS : ∀ k, k < B → ¬ S k) : Below B w w' :=
  ⟨h.os, h.tape, h.output, h.size, fun k hk => h.block k (Nat.lt_of_lt_of_le hk hB) (hS k hk)⟩
theorem Only.cell (h : Only S w w') {p : Addr} (hp : p.block < w.heap.size) (hS : ¬ S p.block) : w'.cell? p = w.cell? p := World.cell?_of_block (w := w) (h.block p.block hp hS)
end
def Nil : Nat → Prop := fun _ => False
def Ints (w : World) (B : Nat) (k : IntKind) (A : Option Addr) (xs : List Int) : Prop :=
  0 < xs.length → ∃ b o, A = some ⟨b, o, none⟩ ∧ b < B ∧ ∀ i, i < xs.length → w.cell? ⟨b, o + i, none⟩ = some (.int k (xs.getD i 0))
theorem add_block (a : Addr) (i : Nat) : (a.add i).block = a.block := by unfold Addr.add; split <;> rfl
theorem add_at (g o i : Nat) : (⟨g, o, none⟩ : Addr).add i = ⟨g, o + i, none⟩ := by
  unfold Addr.add
  by_cases h : i = 0
  · simp [h]
  · simp [h]
section
variable {w w' : World} {B B' : Nat} {k : IntKind} {A : Option Addr} {xs : List Int} {S : Nat → Prop}
theorem Ints.keep (h : Ints w B k A xs) (hk : ∀ p : Addr, p.block < B → w'.cell? p = w.cell? p) : Ints w' B k A xs := fun hn => by
  obtain ⟨b, o, e, hb, hc⟩ := h hn
  exact ⟨b, o, e, hb, fun i hi => (hk _ hb).trans (hc i hi)⟩
theorem Ints.only (h : Ints w B k A xs) (ho : Only S w w') (hB : B ≤ w.heap.size) (hS : ∀ i, i < B → ¬ S i) : Ints w' B k A xs :=
  h.keep fun _ hp => ho.cell (Nat.lt_of_lt_of_le hp hB) (hS _ hp)
theorem Ints.more (h : Ints w B k A xs) (hB : B ≤ B') : Ints w B' k A xs := fun hn => by
  obtain ⟨b, o, e, hb, hc⟩ := h hn
  exact ⟨b, o, e, by omega, hc⟩
theorem Ints.of_own {base : Nat} {e : TypeId} {c n : Nat} (h : w.ownsRow base e 1 (.slice A n c) n (xs.map (.int k))) : Ints w w.heap.size k A xs := fun hn => by
  obtain ⟨hl, h2⟩ := h
  rw [List.length_map, Nat.mul_one] at hl
  rcases h2 with ⟨_, h0⟩ | ⟨g, cap, cur, hv, _, hg, _, _, _, ht⟩
  · omega
  · injection hv with h1
    subst h1
    have hr : Row w g e cur := hg
    refine ⟨g, 0, rfl, hr.lt, fun i hi => ?_⟩
    rw [Nat.zero_add]
    refine hr.cell_ ?_
    have e1 : (cur.toList.take (n * 1))[i]? = (xs.map (Value.int k))[i]? := by rw [ht]
    rw [List.getElem?_take, if_pos (by omega), List.getElem?_map, List.getElem?_eq_getElem hi] at e1
    simp only [Option.map_some, Array.getElem?_toList] at e1
    rw [e1]
    simp [List.getD, List.getElem?_eq_getElem hi]
theorem own_only {base : Nat} {e : TypeId} {size : Nat} {v : Value} {n : Nat} {vs : List Value} (h : w.ownsRow base e size v n vs) (ho : Only S w w') (hS : ∀ i, v.ownBlock = some i → ¬ S i) : w'.ownsRow base e size v n vs := by
  refine ⟨h.1, ?_⟩
  rcases h.2 with hn | ⟨g, cap, cur, rfl, hb, hgg, rest⟩
  · exact .inl hn
  · exact .inr ⟨g, cap, cur, rfl, hb, (ho.block g (Array.getElem?_eq_some_iff.1 hgg).1 (hS g rfl)).trans hgg, rest⟩
end
def Drew (w w' : World) : Prop := ∃ k : Nat, w' = w.drewN k
theorem Drew.refl (w : World) : Drew w w := ⟨0, rfl⟩
theorem Drew.n (w : World) (k : Nat) : Drew w (w.drewN k) := ⟨k, rfl⟩
theorem Drew.trans {w w' w'' : World} (h : Drew w w') (k : Drew w' w'') : Drew w w'' := by
  obtain ⟨a, rfl⟩ := h
  obtain ⟨b, rfl⟩ := k
  exact ⟨a + b, World.drewN_drewN ..⟩
theorem Drew.only {S : Nat → Prop} {w w' : World} (h : Drew w w') : Only S w w' := by
  obtain ⟨a, rfl⟩ := h
  exact (Only.refl S w).drewN a
theorem Drew.cell {w w' : World} (h : Drew w w') (p : Addr) : w'.cell? p = w.cell? p := by obtain ⟨a, rfl⟩ := h; rfl
theorem Drew.size {w w' : World} (h : Drew w w') : w'.heap.size = w.heap.size := by obtain ⟨a, rfl⟩ := h; rfl
theorem Ints.drewd {w w' : World} {B : Nat} {k : IntKind} {A : Option Addr} {xs : List Int} (h : Ints w B k A xs) (d : Drew w w') : Ints w' B k A xs := by obtain ⟨a, rfl⟩ := d; exact h
theorem k1 : ∀ {α : Type _} (l : List α) (i : Nat) (a : α), l.toArray.setIfInBounds i a = (l.set i a).toArray := @List.setIfInBounds_toArray
theorem k2 : ∀ {α : Type _} {x : α} {xs : List α} {a : α}, (x :: xs).set 0 a = a :: xs := @List.set_cons_zero
theorem k3 : ∀ {α : Type _} {x : α} {xs : List α} {i : Nat} {a : α}, (x :: xs).set (i + 1) a = x :: xs.set i a := @List.set_cons_succ
end Go.Proofs.Ytigdbokfapedcaa
namespace Go.Proofs.Ytigdbokfapedcaa
open Go.RowKit
structure Nt where
  t : Int
  w : Int
  o : Int
  a : Int
end Go.Proofs.Ytigdbokfapedcaa
set_option linter.unusedVariables false
namespace Go.Proofs.Ytigdbokfapedcaa
open Go
abbrev Bs := List UInt8
def hval (c : UInt8) : Nat := if 48 ≤ c.toNat ∧ c.toNat ≤ 57 then c.toNat - 48 else if 97 ≤ c.toNat ∧ c.toNat ≤ 102 then c.toNat - 87 else 16
end Go.Proofs.Ytigdbokfapedcaa
namespace Go.Proofs.Ytigdbokfapedcaa
open Go
set_option linter.unusedVariables false
set_option linter.unusedSimpArgs false
def opWs : List Bs := [[], [114, 108, 111, 99, 107], [114, 117, 110, 108, 111, 99, 107], [108, 111, 99, 107], [117, 110, 108, 111, 99, 107], [116, 114, 121, 114, 108, 111, 99, 107], [116, 114, 121, 108, 111, 99, 107], [117, 112, 103, 114, 97, 100, 101], [100, 111, 119, 110, 103, 114, 97, 100, 101]]
def whWs : List Bs := [[], [99, 97, 108, 108], [114, 101, 103], [112, 114, 101, 115, 101, 110, 116], [97, 100, 109, 105, 116], [114, 101, 102, 117, 115, 101], [114, 101, 108, 101, 97, 115, 101], [108, 101, 97, 118, 101], [112, 97, 115, 115], [117, 112], [100, 111, 119, 110], [114, 101, 116, 117, 114, 110]]
def clWs : List Bs := [[], [114, 101, 97, 100], [119, 114, 105, 116, 101]]
def rtWs : List Bs := [[], [102, 97, 108, 115, 101], [116, 114, 117, 101], [109, 105, 115, 117, 115, 101]]
def opOf (w : Int) : List Bs := if w = 1 ∨ w = 11 then opWs else []
def argOf (w : Int) : List Bs := if w = 2 then clWs else if w = 11 then rtWs else []
def wordI (ws : List Bs) (x : Int) : Bs := if x < 0 then [] else ws.getD x.toNat []
def fitB (ws : List Bs) (x : Int) : Bool := if ws = [] then decide (x = 0) else !decide (wordI ws x = [])
def tripB (w o a : Int) : Bool := fitB whWs w && (fitB (opOf w) o && fitB (argOf w) a)
def rightN (t w o a : Int) : Bool := decide (0 ≤ t) && (decide (t < 64) && tripB w o a)
theorem word_out {ws : List Bs} {x : Int} (h : x < 0 ∨ (ws.length : Int) ≤ x) : wordI ws x = [] := by
  unfold wordI
  rcases h with h | h
  · rw [if_pos h]
  · rw [if_neg (by omega), List.getD_eq_getElem?_getD, List.getElem?_eq_none (by omega)]; rfl
end Go.Proofs.Ytigdbokfapedcaa
set_option linter.unusedVariables false
set_option linter.unusedSimpArgs false
namespace Go.Proofs.Ytigdbokfapedcaa
open Go
structure Cal where
  t : Int
  o : Int
  f : Int
  g : Int
  r : Int
  ps : List Int
def retF (t : Int) : Int → List Nt → Int × Int × List Int
  | _, [] => (-1, 0, [])
  | i, x :: l => if x.t = t ∧ x.w = 11 then (i, x.a, []) else if x.t = t ∧ x.w ≠ 1 then ((retF t (i + 1) l).1, (retF t (i + 1) l).2.1, i :: (retF t (i + 1) l).2.2) else retF t (i + 1) l
def callAt (i : Int) (x : Nt) (l : List Nt) : Cal := ⟨x.t, x.o, i, (retF x.t (i + 1) l).1, (retF x.t (i + 1) l).2.1, (retF x.t (i + 1) l).2.2⟩
def callsF : Int → List Nt → List Cal
  | _, [] => []
  | i, x :: l => if x.w = 1 then callAt i x l :: callsF (i + 1) l else callsF (i + 1) l
def Cal.touch (c : Cal) (i : Int) (x : Nt) : Cal := if c.g < 0 ∧ x.t = c.t then (if x.w = 11 then { c with g := i, r := x.a } else if x.w = 1 then c else { c with ps := c.ps ++ [i] }) else c
theorem retF_snoc (t : Int) (x : Nt) : ∀ (l : List Nt) (i : Int), 0 ≤ i → retF t i (l ++ [x]) = (if (retF t i l).1 < 0 ∧ x.t = t then (if x.w = 11 then (i + l.length, x.a, (retF t i l).2.2) else if x.w = 1 then retF t i l else ((retF t i l).1, (retF t i l).2.1, (retF t i l).2.2 ++ [i + l.length])) else retF t i l)
  | [], i, h => by
    rw [List.nil_append, retF, retF]
    simp only [List.length_nil]
    by_cases h1 : x.t = t
    · by_cases h2 : x.w = 11
      · simp [h1, h2]
      · by_cases h3 : x.w = 1
        · simp [h1, h3, retF]
        · simp [h1, h2, h3, retF]
    · simp [h1, retF]
  | y :: l, i, h => by
    have ih := retF_snoc t x l (i + 1) (by omega)
    rw [List.cons_append, retF, retF, ih, List.length_cons]
    by_cases h1 : y.t = t ∧ y.w = 11
    · have hi : ¬ i < 0 := by omega
      simp only [if_pos h1, hi, false_and, if_false]
    · simp only [if_neg h1]
      have e : i + 1 + (l.length : Int) = i + ((l.length + 1 : Nat) : Int) := by omega
      by_cases h2 : y.t = t ∧ y.w ≠ 1
      · simp only [if_pos h2, e]
        split
        · split
          · rfl
          · split
            · rfl
            · rfl
        · rfl
      · simp only [if_neg h2, e]
theorem callAt_snoc (i : Int) (hi : 0 ≤ i) (y x : Nt) (l : List Nt) : callAt i y (l ++ [x]) = (callAt i y l).touch (i + 1 + l.length) x := by
  unfold callAt Cal.touch
  rw [retF_snoc _ _ _ _ (by omega)]
  dsimp only
  split
  · split
    · rfl
    · split
      · rfl
      · rfl
  · rfl
theorem callsF_snoc (x : Nt) : ∀ (l : List Nt) (i : Int), 0 ≤ i → callsF i (l ++ [x]) = (callsF i l).map (fun c => c.touch (i + l.length) x) ++ (if x.w = 1 then [⟨x.t, x.o, i + l.length, -1, 0, []⟩] else [])
  | [], i, h => by
    rw [List.nil_append, callsF, callsF, callsF]
    simp [callAt, retF]
  | y :: l, i, h => by
    have ih := callsF_snoc x l (i + 1) (by omega)
    have e : i + 1 + (l.length : Int) = i + ((l.length + 1 : Nat) : Int) := by omega
    rw [List.cons_append, callsF, callsF, ih, List.length_cons, callAt_snoc _ h, e]
    split
    · rfl
    · rfl
def inN (t o : Int) (x : Nt) : Int := if x.t = t then (if x.w = 1 then x.o else if x.w = 11 then 0 else o) else o
def inOp (l : List Nt) (t : Int) : Int := l.foldl (inN t) 0
theorem inOp_snoc (l : List Nt) (x : Nt) (t : Int) : inOp (l ++ [x]) t = inN t (inOp l t) x := by unfold inOp; rw [List.foldl_append]; rfl
def wrongN (n o : Int) (x : Nt) : Int := if rightN x.t x.w x.o x.a = false then 4 else if n ≤ x.t then 2 else if (x.w = 1 ∧ o ≠ 0) ∨ (x.w ≠ 1 ∧ o = 0) ∨ (x.w = 11 ∧ x.o ≠ o) then 8 else 0
def chkF (n : Int) : List Nt → List Nt → Int × Int
  | _, [] => (0, 0)
  | pre, x :: l => if wrongN n (inOp pre x.t) x = 0 then chkF n (pre ++ [x]) l else (pre.length, wrongN n (inOp pre x.t) x)
def chkL (n : Int) (l : List Nt) : Int × Int := chkF n [] l
theorem wrong_call {n o : Int} {x : Nt} (h : wrongN n o x = 0) : (x.w = 1 → o = 0) ∧ (x.w ≠ 1 → o ≠ 0) ∧ (x.w = 11 → x.o = o) ∧ x.t < n ∧ rightN x.t x.w x.o x.a = true := by
  unfold wrongN at h
  split at h
  · exact absurd h (by decide)
  · rename_i hr
    split at h
    · exact absurd h (by decide)
    · rename_i hn
      split at h
      · exact absurd h (by decide)
      · rename_i hc
        refine ⟨fun hw => ?_, fun hw ho => hc (.inr (.inl ⟨hw, ho⟩)), fun hw => ?_, by omega, by simpa using hr⟩
        · by_cases ho : o = 0
          · exact ho
          · exact absurd (.inl ⟨hw, ho⟩) hc
        · by_cases ho : x.o = o
          · exact ho
          · exact absurd (.inr (.inr ⟨hw, ho⟩)) hc
end Go.Proofs.Ytigdbokfapedcaa
