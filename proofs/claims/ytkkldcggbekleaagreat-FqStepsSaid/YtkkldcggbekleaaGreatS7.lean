import Derived.Test.YtkkldcggbekleaaGreatChecked
import Derived.Laws.AppendOwn
import Derived.OwnWalk
import Derived.Deep.Cut
import Derived.Test.YtkkldcggbekleaaGreatS6
import Derived.Test.YtkkldcggbekleaaGreatS1
import Derived.Test.YtkkldcggbekleaaGreatS5
set_option linter.unusedVariables false
set_option linter.unusedSimpArgs false
namespace Go.Proofs.YtkkldcggbekleaaGreat
open Go.RowKit
structure WkV where
  on : Bool
  c : Int
  i : Int
  hit : Bool
def WkV.v (k : WkV) : Value := .agg #[.bool k.on, .int .i64 k.c, .int .i64 k.i, .bool k.hit]
def wk0 : WkV := ⟨false, 0, 0, false⟩
structure WakeR where
  next : WkV
  acc : Value
  xs : List Int
def nextI (n c i : Int) : WkV := if i + 1 = n then wk0 else ⟨true, c, i + 1, false⟩
def restI (xs : List Int) : WakeR := ⟨wk0, accOf 0 0 0 0 0, xs⟩
def giveI (xs : List Int) (n c i : Int) : WakeR := if there xs (pc n i) then ⟨nextI n c i, doVal xs 2 (pc n i) 1 0, st xs (pc n i) 1⟩ else restI xs
def lookI (xs : List Int) (n c i : Int) : WakeR :=
  if there xs (wc n i) then
    (if wordAt xs (wc n i) = (c + 1) % 4294967296 then ⟨⟨true, c, i, true⟩, doVal xs 1 (wc n i) 0 0, xs⟩ else ⟨nextI n c i, doVal xs 1 (wc n i) 0 0, xs⟩)
  else restI xs
def wakeI (xs : List Int) (n : Int) (on : Bool) (c i : Int) (hit : Bool) : WakeR := if on then (if hit then giveI xs n c i else lookI xs n c i) else restI xs
theorem post_two {P : Program} {fn : Func} {R : Ending → World → Prop} {a : Act} {w : World} {p q : Tmp} {ty ty' : TypeId} (h : fn.results = #[.cell p ty, .cell q ty']) {g g' : Nat} {t t' : TypeId} {cs cs' : Array Value} {d d' : TypeDesc}
    (hp : a.tmps.getD p undef = .pointer (some ⟨g, 0, none⟩)) (hg : Row w g t cs) (hu : P.underlying ty = some d) (hd : (match d with | .struct _ | .array _ _ => true | _ => false) = true) (hi : (P.info? ty).map (·.size) = some cs.size)
    (hq : a.tmps.getD q undef = .pointer (some ⟨g', 0, none⟩)) (hg' : Row w g' t' cs') (hu' : P.underlying ty' = some d') (hd' : (match d' with | .struct _ | .array _ _ => true | _ => false) = true) (hi' : (P.info? ty').map (·.size) = some cs'.size)
    (hf : a.defers = []) (hR : R (.returned (.tuple #[.agg cs, .agg cs'])) w) : bodyPost P fn R .ret a w := by
  refine ⟨hf, _, ?_, hR⟩
  have hp' : a.tmps[p]?.getD undef = .pointer (some ⟨g, 0, none⟩) := by simpa using hp
  have hq' : a.tmps[q]?.getD undef = .pointer (some ⟨g', 0, none⟩) := by simpa using hq
  simp [results, h, hp', hq', asAddr, run_loadVar_row w g t ty cs (0, 0) d hg hu hd hi, run_loadVar_row w g' t' ty' cs' (0, 0) d' hg' hu' hd' hi']
theorem post_two_tmp {P : Program} {fn : Func} {R : Ending → World → Prop} {a : Act} {w : World} {p q u : Tmp} {ty ty' : TypeId} (h : fn.results = #[.cell p ty, .cell q ty', .tmp u]) {g g' : Nat} {t t' : TypeId} {cs cs' : Array Value} {d d' : TypeDesc}
    (hp : a.tmps.getD p undef = .pointer (some ⟨g, 0, none⟩)) (hg : Row w g t cs) (hu : P.underlying ty = some d) (hd : (match d with | .struct _ | .array _ _ => true | _ => false) = true) (hi : (P.info? ty).map (·.size) = some cs.size)
    (hq : a.tmps.getD q undef = .pointer (some ⟨g', 0, none⟩)) (hg' : Row w g' t' cs') (hu' : P.underlying ty' = some d') (hd' : (match d' with | .struct _ | .array _ _ => true | _ => false) = true) (hi' : (P.info? ty').map (·.size) = some cs'.size)
    (hf : a.defers = []) (hR : R (.returned (.tuple #[.agg cs, .agg cs', a.tmps.getD u undef])) w) : bodyPost P fn R .ret a w := by
  refine ⟨hf, _, ?_, hR⟩
  have hp' : a.tmps[p]?.getD undef = .pointer (some ⟨g, 0, none⟩) := by simpa using hp
  have hq' : a.tmps[q]?.getD undef = .pointer (some ⟨g', 0, none⟩) := by simpa using hq
  simp [results, h, hp', hq', asAddr, run_loadVar_row w g t ty cs (0, 0) d hg hu hd hi, run_loadVar_row w g' t' ty' cs' (0, 0) d' hg' hu' hd' hi']
theorem four {w : World} {g : Nat} {t : TypeId} {a0 a1 a2 a3 : Value} (h : Row w g t #[a0, a1, a2, a3]) (v0 v1 v2 v3 : Value) :
    Row ((((w.setCell ⟨g, 0, none⟩ v0).setCell ⟨g, 1, none⟩ v1).setCell ⟨g, 2, none⟩ v2).setCell ⟨g, 3, none⟩ v3) g t #[v0, v1, v2, v3] := by
  simpa using (((h.set 0 v0).set 1 v1).set 2 v2).set 3 v3
theorem four_only {S : Nat → Prop} {w w' : World} (h : Only S w w') {g : Nat} (hg : w.heap.size ≤ g ∨ S g) (v0 v1 v2 v3 : Value) :
    Only S w ((((w'.setCell ⟨g, 0, none⟩ v0).setCell ⟨g, 1, none⟩ v1).setCell ⟨g, 2, none⟩ v2).setCell ⟨g, 3, none⟩ v3) :=
  (((h.setCell (p := ⟨g, 0, none⟩) hg v0).setCell (p := ⟨g, 1, none⟩) hg v1).setCell (p := ⟨g, 2, none⟩) hg v2).setCell (p := ⟨g, 3, none⟩) hg v3
end Go.Proofs.YtkkldcggbekleaaGreat
set_option linter.unusedVariables false
set_option linter.unusedSimpArgs false
namespace Go.Proofs.YtkkldcggbekleaaGreat
open Go.RowKit
def beginI (mode c : Int) : WkV := if mode = 2 then ⟨true, c, 0, false⟩ else wk0
theorem beginI_2 (c : Int) : beginI 2 c = ⟨true, c, 0, false⟩ := rfl
theorem beginI_no {mode : Int} (h : mode ≠ 2) (c : Int) : beginI mode c = wk0 := if_neg h
theorem begin_any (mode c : Int) (w : World) : Calls Tryz.prog 112 #[.int .i64 mode, .int .i64 c] w fun e w' => e = .returned (beginI mode c).v ∧ Only Nil w w' := by
  by_cases hm : mode = 2
  · subst hm
    rw [beginI_2]
    go_enter Tryz.func112, Tryz.ntmps112
    go_wp2
    exact post_row (P := Tryz.prog) Tryz.results112 (t := 27) (by rfl) (Row.new _ _ _) Tryz.underlying27 rfl (by kernel_rfl) rfl ⟨rfl, (Only.refl _ _).alloc _⟩
  · rw [beginI_no hm]
    have h2 : (mode != 2) = true := bne_iff_ne.2 hm
    clear hm
    go_enter Tryz.func112, Tryz.ntmps112
    go_wp2
    exact post_row (P := Tryz.prog) Tryz.results112 (t := 27) (by rfl) (Row.new _ _ _) Tryz.underlying27 rfl (by kernel_rfl) rfl ⟨rfl, (Only.refl _ _).alloc _⟩
end Go.Proofs.YtkkldcggbekleaaGreat
namespace Go.Proofs.YtkkldcggbekleaaGreat
open Go.RowKit
structure Nt where
  t : Int
  w : Int
  o : Int
  a : Int
end Go.Proofs.YtkkldcggbekleaaGreat
set_option linter.unusedVariables false
set_option linter.unusedSimpArgs false
namespace Go.Proofs.YtkkldcggbekleaaGreat
open Go.RowKit
def flat1 (n : Nt) : List Value := [.int .i64 n.t, .int .i64 n.w, .int .i64 n.o, .int .i64 n.a]
def flat : List Nt → List Value
  | [] => []
  | n :: r => flat1 n ++ flat r
theorem flat_len : ∀ zs, (flat zs).length = zs.length * 4
  | [] => rfl
  | n :: r => by rw [flat, List.length_append, flat_len r, List.length_cons]; show 4 + _ = _; omega
theorem flat_app : ∀ zs ys, flat (zs ++ ys) = flat zs ++ flat ys
  | [], ys => rfl
  | n :: r, ys => by rw [List.cons_append, flat, flat, flat_app r ys, List.append_assoc]
theorem flat_get : ∀ (zs : List Nt) (i : Nat) (n : Nt) (j : Nat), zs[i]? = some n → j < 4 → (flat zs)[i * 4 + j]? = (flat1 n)[j]?
  | [], i, n, j, h, _ => by simp at h
  | m :: r, 0, n, j, h, hj => by
    simp only [List.getElem?_cons_zero, Option.some.injEq] at h
    subst h
    rw [flat, List.getElem?_append_left (by show _ < 4; omega), Nat.zero_mul, Nat.zero_add]
  | m :: r, i + 1, n, j, h, hj => by
    rw [flat, List.getElem?_append_right (by show 4 ≤ _; omega), show (i + 1) * 4 + j - (flat1 m).length = i * 4 + j by show (i + 1) * 4 + j - 4 = _; omega]
    exact flat_get r i n j (by simpa using h) hj
structure At4 (w : World) (b q : Nat) (n : Nt) : Prop where
  c0 : w.cell? ⟨b, q, none⟩ = some (.int .i64 n.t)
  c1 : w.cell? ⟨b, q + 1, none⟩ = some (.int .i64 n.w)
  c2 : w.cell? ⟨b, q + 2, none⟩ = some (.int .i64 n.o)
  c3 : w.cell? ⟨b, q + 3, none⟩ = some (.int .i64 n.a)
def Notes (w : World) (A : Option Addr) (zs : List Nt) : Prop := 0 < zs.length → ∃ b q, A = some ⟨b, q, none⟩ ∧ b < w.heap.size ∧ ∀ (i : Nat) (n : Nt), zs[i]? = some n → At4 w b (q + i * 4) n
theorem At4.only {w w' : World} {b q : Nat} {n : Nt} (h : At4 w b q n) (ho : Only Nil w w') (hb : b < w.heap.size) : At4 w' b q n :=
  ⟨(ho.cell (p := ⟨b, q, none⟩) hb id).trans h.c0, (ho.cell (p := ⟨b, q + 1, none⟩) hb id).trans h.c1, (ho.cell (p := ⟨b, q + 2, none⟩) hb id).trans h.c2, (ho.cell (p := ⟨b, q + 3, none⟩) hb id).trans h.c3⟩
theorem Notes.only {w w' : World} {A : Option Addr} {zs : List Nt} (h : Notes w A zs) (ho : Only Nil w w') : Notes w' A zs := fun h0 => by
  obtain ⟨b, q, e, hb, hc⟩ := h h0
  exact ⟨b, q, e, Nat.lt_of_lt_of_le hb ho.size, fun i n hi => (hc i n hi).only ho hb⟩
def OwnN (base : Nat) (w : World) (v : Value) (zs : List Nt) : Prop := w.ownsRow base 81 4 v zs.length (flat zs)
theorem OwnN.only {base : Nat} {w w' : World} {v : Value} {zs : List Nt} (h : OwnN base w v zs) (ho : Only Nil w w') : OwnN base w' v zs := own_only h ho (fun _ _ => id)
theorem ownN_nil (base : Nat) (w : World) : OwnN base w (.slice none 0 0) [] := World.ownsRow_nil _ _ _ _
def ListN (w : World) (v : Value) (zs : List Nt) : Prop := ∃ A c, v = .slice A zs.length c ∧ Notes w A zs
theorem ListN.only {w w' : World} {v : Value} {zs : List Nt} (h : ListN w v zs) (ho : Only Nil w w') : ListN w' v zs := by
  obtain ⟨A, c, hv, hn⟩ := h
  exact ⟨A, c, hv, hn.only ho⟩
theorem OwnN.list {base : Nat} {w : World} {v : Value} {zs : List Nt} (h : OwnN base w v zs) : ListN w v zs := by
  rcases h.2 with ⟨rfl, hn⟩ | ⟨g, cap, cur, hv, hb, hg, hc, _⟩
  · obtain rfl := List.eq_nil_of_length_eq_zero hn
    exact ⟨none, 0, rfl, fun h => absurd h (by simp)⟩
  · refine ⟨_, cap, hv, fun _ => ⟨g, 0, rfl, (Array.getElem?_eq_some_iff.1 hg).1, fun i n hi => ?_⟩⟩
    have hcell : ∀ j u, (flat1 n)[j]? = some u → w.cell? ⟨g, 0 + i * 4 + j, none⟩ = some u := fun j u hj => by
      have h1 := World.ownsRow.cells h (g := g) (by rw [hv]; rfl) (i * 4 + j) u (by rw [flat_get zs i n j hi (List.getElem?_eq_some_iff.1 hj).1]; exact hj)
      rwa [add_at, ← Nat.add_assoc] at h1
    exact ⟨hcell 0 _ rfl, hcell 1 _ rfl, hcell 2 _ rfl, hcell 3 _ rfl⟩
theorem infoN : (Tryz.prog.info? 81).map (fun i => (i.zero, i.size, i.bytes)) = some (some (.agg #[.int .i64 0, .int .i64 0, .int .i64 0, .int .i64 0]), 4, 32) := by kernel_rfl
end Go.Proofs.YtkkldcggbekleaaGreat
set_option linter.unusedVariables false
set_option linter.unusedSimpArgs false
namespace Go.Proofs.YtkkldcggbekleaaGreat
open Go.RowKit
def uIs (k m x v : Int) : Bool :=
  if k = 0 then bits .and .u32 v m == x else if k = 1 then bits .and .u32 v m != x else if k = 2 then v / 256 % 256 == v / 65536 % 256 else if k = 3 then decide (v / 256 % 256 = x) && (v % 256 == 0) else false
theorem ret_bool {a b : Bool} (h : a = b) : Ending.returned (.bool a) = .returned (.bool b) := by rw [h]
end Go.Proofs.YtkkldcggbekleaaGreat
set_option linter.unusedVariables false
set_option linter.unusedSimpArgs false
namespace Go.Proofs.YtkkldcggbekleaaGreat
open Go.RowKit
structure Acc5 where
  k : Int
  c : Int
  x : Int
  y : Int
  o : Int
def Acc5.v (a : Acc5) : Value := .agg #[.int .i64 a.k, .int .i64 a.c, .int .u32 a.x, .int .u32 a.y, .int .u32 a.o]
def acc0 : Acc5 := ⟨0, 0, 0, 0, 0⟩
def accI (xs : List Int) (k c x y : Int) : Acc5 := if doOk xs k c then ⟨k, c, x, y, wordAt xs c⟩ else acc0
theorem doVal_acc (xs : List Int) (k c x y : Int) : doVal xs k c x y = (accI xs k c x y).v := by
  unfold doVal accI accOf
  split <;> rfl
theorem acc_old {xs : List Int} {k c x y : Int} (hk : isKind k = true) : (accI xs k c x y).o = wordAt xs c := by
  unfold accI
  by_cases h : doOk xs k c = true
  · rw [if_pos h]
  · rw [if_neg h]
    have ht : there xs c = false := by
      cases e : there xs c
      · rfl
      · exact absurd (by simp [doOk, e, hk]) h
    simp [wordAt, ht, acc0]
def ofV : Value → Acc5
  | .agg ⟨[.int _ k, .int _ c, .int _ x, .int _ y, .int _ o]⟩ => ⟨k, c, x, y, o⟩
  | _ => acc0
theorem ofV_eq {v : Value} (h : ∃ ka ca xa ya oa : Int, v = .agg #[.int .i64 ka, .int .i64 ca, .int .u32 xa, .int .u32 ya, .int .u32 oa]) : v = (ofV v).v := by
  obtain ⟨ka, ca, xa, ya, oa, rfl⟩ := h
  rfl
theorem ofV_step (xs : List Int) (n mode i s c : Int) (q : Int → Bool) : (stepI xs n mode i s c q).acc = (ofV (stepI xs n mode i s c q).acc).v := by
  obtain ⟨ka, ca, xa, ya, oa, h, _⟩ := step_access xs n mode i s c q
  exact ofV_eq ⟨ka, ca, xa, ya, oa, h⟩
theorem wake_form5 (xs : List Int) (n : Int) (on : Bool) (c i : Int) (hit : Bool) : ∃ ka ca xa ya oa : Int, (wakeI xs n on c i hit).acc = .agg #[.int .i64 ka, .int .i64 ca, .int .u32 xa, .int .u32 ya, .int .u32 oa] := by
  have hv := fun k c x y => doVal_form xs k c x y
  unfold wakeI giveI lookI restI
  repeat' split
  all_goals first | exact ⟨0, 0, 0, 0, 0, rfl⟩ | (obtain ⟨k', c', x', y', e⟩ := hv 2 (pc n i) 1 0; exact ⟨_, _, _, _, _, e⟩) | (obtain ⟨k', c', x', y', e⟩ := hv 1 (wc n i) 0 0; exact ⟨_, _, _, _, _, e⟩)
theorem ofV_wake (xs : List Int) (n : Int) (on : Bool) (c i : Int) (hit : Bool) : (wakeI xs n on c i hit).acc = (ofV (wakeI xs n on c i hit).acc).v := ofV_eq (wake_form5 xs n on c i hit)
structure LS where
  n : Int
  mode : Int
  task : Int
  op : Int
  line : Int
  a : Int
  b : Int
  s : Int
  k : WkV
  ret : Int
  acc : Acc5
  ns : List Nt
  xs : List Int
def LS.cells (r : LS) (h nv : Value) : Array Value :=
  #[h, .int .i64 r.n, .int .i64 r.mode, .int .i64 r.task, .int .i64 r.op, .int .i64 r.line, .int .u32 r.a, .int .u32 r.b, .int .i64 r.s, .bool r.k.on, .int .i64 r.k.c, .int .i64 r.k.i, .bool r.k.hit, .int .i64 r.ret,
    .int .i64 r.acc.k, .int .i64 r.acc.c, .int .u32 r.acc.x, .int .u32 r.acc.y, .int .u32 r.acc.o, nv]
def LS.frame (r : LS) : Array Value := #[.int .i64 r.op, .int .i64 r.line, .int .u32 r.a, .int .u32 r.b, .int .i64 r.s, .bool r.k.on, .int .i64 r.k.c, .int .i64 r.k.i, .bool r.k.hit, .int .i64 r.ret]
def LS.doA (r : LS) (k c x y : Int) : LS := { r with acc := accI r.xs k c x y, xs := doNew r.xs k c x y }
def LS.stepR (r : LS) (c : Int) (q : Int → Bool) : StepR := stepI r.xs r.n r.mode r.task r.s c q
def LS.wait (r : LS) (c : Int) (q : Int → Bool) : LS := { r with s := (r.stepR c q).next, acc := ofV (r.stepR c q).acc, xs := (r.stepR c q).xs }
def LS.note (r : LS) (what arg : Int) : LS := { r with ns := r.ns ++ [⟨r.task, what, 0, arg⟩] }
def LS.go (r : LS) (l : Int) : LS := { r with line := l }
def LS.fin (r : LS) (ok : Bool) : LS := { r with ret := if ok then 2 else 1 }
def LS.wake (r : LS) (c : Int) : LS := { r with k := beginI r.mode c }
def LS.fresh (r : LS) : LS := { r with acc := acc0, ns := [] }
def LS.wakeR (r : LS) : WakeR := wakeI r.xs r.n r.k.on r.k.c r.k.i r.k.hit
def LS.waking (r : LS) : LS := { r with acc := ofV r.wakeR.acc, ns := [], k := r.wakeR.next, xs := r.wakeR.xs }
def LS.over (r : LS) : Bool := (r.ret != 0) && !r.k.on
def LS.stuck (r : LS) : Bool := !r.k.on && stuckB r.xs r.n r.mode r.task r.s
structure OpR where
  r : LS
  v : Int
  b : Bool
  c : Bool
def bitI (b : Bool) : Int := if b then 1 else 0
def OpR.out (t : OpR) : List Int := [t.v, bitI t.b, bitI t.c]
structure LS.Keeps (r r' : LS) : Prop where
  n : r'.n = r.n
  mode : r'.mode = r.mode
  task : r'.task = r.task
  len : r'.xs.length = r.xs.length
  words : Words r.xs → Words r'.xs
theorem LS.Keeps.refl (r : LS) : r.Keeps r := ⟨rfl, rfl, rfl, rfl, id⟩
theorem LS.Keeps.trans {r r' r'' : LS} (h : r.Keeps r') (k : r'.Keeps r'') : r.Keeps r'' := ⟨k.n.trans h.n, k.mode.trans h.mode, k.task.trans h.task, k.len.trans h.len, k.words ∘ h.words⟩
end Go.Proofs.YtkkldcggbekleaaGreat
set_option linter.unusedVariables false
set_option linter.unusedSimpArgs false
namespace Go.Proofs.YtkkldcggbekleaaGreat
open Go.RowKit
def TurnB (B : Nat) (A : Option Addr) : Nat → Prop := fun j => j = B ∨ At A j
structure RunP (w : World) (B : Nat) (p A : Option Addr) (cp : Nat) (nv : Value) (r : LS) : Prop where
  row : Row w B 42 (r.cells (.pointer p) nv)
  notes : OwnN 0 w nv r.ns
  memo : Memo w p A cp r.xs
theorem own_tag {w : World} {base : Nat} {A : Option Addr} {c : Nat} {xs : List Int} (h : Own w base A c xs) {j : Nat} (hj : At A j) : ∃ cur, Row w j 23 cur := by
  obtain ⟨a, ha, rfl⟩ := hj
  subst ha
  rcases h.own.2 with ⟨hv, _⟩ | ⟨g, cap, cur, hv, _, hg, _⟩
  · cases hv
  · injection hv with h1
    injection h1 with h1
    subst h1
    exact ⟨cur, hg⟩
theorem memo_tag {w : World} {p A : Option Addr} {cp : Nat} {xs : List Int} (h : Memo w p A cp xs) {j : Nat} (hj : At p j ∨ At A j) : ∃ t cs, Row w j t cs ∧ (t = 60 ∨ t = 23) := by
  rcases h with ⟨rfl, _, rfl⟩ | ⟨b, rfl, h⟩
  · rcases hj with ⟨a, h, _⟩ | ⟨a, h, _⟩ <;> cases h
  · rcases hj with ⟨a, h2, rfl⟩ | h2
    · cases h2; exact ⟨_, _, h.hdr, .inl rfl⟩
    · obtain ⟨cur, hc⟩ := own_tag h.own h2
      exact ⟨_, _, hc, .inr rfl⟩
theorem ownN_tag {base : Nat} {w : World} {v : Value} {zs : List Nt} (h : OwnN base w v zs) {i : Nat} (hi : v.ownBlock = some i) : ∃ cur, Row w i 81 cur := by
  rcases h.2 with ⟨rfl, _⟩ | ⟨g, cap, cur, rfl, _, hg, _⟩
  · cases hi
  · have e : g = i := by simpa [Value.ownBlock] using hi
    subst e
    exact ⟨cur, hg⟩
theorem row_ne {w : World} {i j : Nat} {t t' : TypeId} {cs cs' : Array Value} (h : Row w i t cs) (h' : Row w j t' cs') (ht : t ≠ t') : i ≠ j := by
  rintro rfl
  exact ht (h.same h').1
section
variable {w w' : World} {B : Nat} {p A : Option Addr} {cp : Nat} {nv : Value} {r r' : LS} {ys : List Int} {S : Nat → Prop}
theorem RunP.far (h : RunP w B p A cp nv r) {j : Nat} (hj : At p j ∨ At A j) : j ≠ B := by
  rintro rfl
  obtain ⟨t, cs, hr, ht⟩ := memo_tag h.memo hj
  have e := (h.row.same hr).1
  rcases ht with rfl | rfl <;> exact absurd e (by decide)
theorem RunP.farN (h : RunP w B p A cp nv r) {i : Nat} (hi : nv.ownBlock = some i) : i ≠ B ∧ ¬ (At p i ∨ At A i) := by
  obtain ⟨cur, hc⟩ := ownN_tag h.notes hi
  refine ⟨?_, fun hj => ?_⟩
  · rintro rfl
    exact absurd (h.row.same hc).1 (by decide)
  · obtain ⟨t, cs, hr, ht⟩ := memo_tag h.memo hj
    have e := (hr.same hc).1
    rcases ht with rfl | rfl <;> exact absurd e (by decide)
theorem RunP.call (h : RunP w B p A cp nv r) (ho : Only (At A) w w') (hm : Memo w' p A cp ys) : RunP w' B p A cp nv { r with xs := ys } :=
  ⟨h.row.only ho (fun e => h.far (.inr e) rfl), own_only h.notes ho (fun i hi e => (h.farN hi).2 (.inr e)), hm⟩
theorem RunP.keep (h : RunP w B p A cp nv r) (ho : Only Nil w w') : RunP w' B p A cp nv r := h.call (ho.mono (fun _ _ h => h.elim)) (h.memo.keep ho)
theorem RunP.apart (h : RunP w B p A cp nv r) (ho : Only S w w') (hb : ¬ S B) (hm : ∀ j, At p j ∨ At A j → ¬ S j) (hn : ∀ i, nv.ownBlock = some i → ¬ S i) : RunP w' B p A cp nv r :=
  ⟨h.row.only ho hb, own_only h.notes ho hn, h.memo.far ho hm⟩
theorem RunP.turn (h : RunP w B p A cp nv r) (ho : Only (· = B) w w') (hr : Row w' B 42 (r'.cells (.pointer p) nv)) (hn : r'.ns = r.ns) (hx : r'.xs = r.xs) : RunP w' B p A cp nv r' :=
  ⟨hr, by rw [hn]; exact own_only h.notes ho (fun i hi => (h.farN hi).1), by rw [hx]; exact h.memo.far ho (fun j hj => h.far hj)⟩
theorem RunP.len (h : RunP w B p A cp nv r) : r.xs.length ≤ 1024 := by
  rcases h.memo with ⟨_, hx, _⟩ | ⟨b, _, hm⟩
  · rw [hx]; exact Nat.zero_le _
  · exact hm.len
theorem Only.turned2 (h : Only (At A) w w') : Only (TurnB B A) w w' := h.mono (fun _ _ e => .inr e)
theorem set_acc_only (h : Only S w w') (hg : S B) (v0 v1 v2 v3 v4 : Value) :
    Only S w (((((w'.setCell ⟨B, 14, none⟩ v0).setCell ⟨B, 15, none⟩ v1).setCell ⟨B, 16, none⟩ v2).setCell ⟨B, 17, none⟩ v3).setCell ⟨B, 18, none⟩ v4) :=
  ((((h.setCell (p := ⟨B, 14, none⟩) (.inr hg) v0).setCell (p := ⟨B, 15, none⟩) (.inr hg) v1).setCell (p := ⟨B, 16, none⟩) (.inr hg) v2).setCell (p := ⟨B, 17, none⟩) (.inr hg) v3).setCell (p := ⟨B, 18, none⟩) (.inr hg) v4
theorem set_acc_row {t : TypeId} {hv : Value} (h : Row w B t (r.cells hv nv)) (a : Acc5) :
    Row (((((w.setCell ⟨B, 14, none⟩ (.int .i64 a.k)).setCell ⟨B, 15, none⟩ (.int .i64 a.c)).setCell ⟨B, 16, none⟩ (.int .u32 a.x)).setCell ⟨B, 17, none⟩ (.int .u32 a.y)).setCell ⟨B, 18, none⟩ (.int .u32 a.o)) B t (({ r with acc := a } : LS).cells hv nv) := by
  have e := ((((h.set 14 (.int .i64 a.k)).set 15 (.int .i64 a.c)).set 16 (.int .u32 a.x)).set 17 (.int .u32 a.y)).set 18 (.int .u32 a.o)
  exact e
theorem RunP.setAcc (h : RunP w B p A cp nv r) (a : Acc5) :
    RunP (((((w.setCell ⟨B, 14, none⟩ (.int .i64 a.k)).setCell ⟨B, 15, none⟩ (.int .i64 a.c)).setCell ⟨B, 16, none⟩ (.int .u32 a.x)).setCell ⟨B, 17, none⟩ (.int .u32 a.y)).setCell ⟨B, 18, none⟩ (.int .u32 a.o)) B p A cp nv { r with acc := a } :=
  h.turn (set_acc_only (Only.refl (· = B) _) rfl _ _ _ _ _) (set_acc_row h.row a) rfl rfl
end
set_option maxRecDepth 100000 in
set_option maxHeartbeats 1000000 in
theorem access_run (B : Nat) (p A : Option Addr) (cp : Nat) (nv : Value) (r : LS) (k c x y o : Int) (w : World) (h : RunP w B p A cp nv r) (hk : isKind k = true) :
    Calls Tryz.prog 107 #[.pointer (some ⟨B, 0, none⟩), .agg #[.int .i64 k, .int .i64 c, .int .u32 x, .int .u32 y, .int .u32 o]] w fun e w' =>
      e = .returned (.tuple #[.int .u32 (wordAt r.xs c), .bool (doOk r.xs k c)]) ∧ Only (TurnB B A) w w' ∧ RunP w' B p A cp nv (r.doA k c x y) := by
  have HK := Lib.hid hk
  have e0 := (Only.refl Nil w).alloc (.cells #[.int .i64 k, .int .i64 c, .int .u32 x, .int .u32 y, .int .u32 o] 39)
  have HP := Lib.hid (h.keep e0)
  have HO := Lib.hid (e0.mono (T := TurnB B A) (fun _ _ h => h.elim))
  have HB := Lib.hid (Row.new w 39 #[.int .i64 k, .int .i64 c, .int .u32 x, .int .u32 y, .int .u32 o])
  have HL := Lib.hid (show ∀ j, At p j ∨ At A j → j < w.heap.size from h.memo.lt)
  clear h hk e0
  go_enter Tryz.func107, Tryz.ntmps107
  go_upto_region 3 with (fail)
  generalize w.alloc (.cells #[.int .i64 k, .int .i64 c, .int .u32 x, .int .u32 y, .int .u32 o] 39) = w1 at *
  generalize w.heap.size = g at *
  have m0 : w1.cell? ⟨B, 0, none⟩ = some (.pointer p) := HP.out.row.cell_ (i := 0) rfl
  have a0 : w1.cell? ⟨g, 0, none⟩ = some (.int .i64 k) := HB.out.cell_ (i := 0) rfl
  have a1 : w1.cell? ⟨g, 1, none⟩ = some (.int .i64 c) := HB.out.cell_ (i := 1) rfl
  have a2 : w1.cell? ⟨g, 2, none⟩ = some (.int .u32 x) := HB.out.cell_ (i := 2) rfl
  have a3 : w1.cell? ⟨g, 3, none⟩ = some (.int .u32 y) := HB.out.cell_ (i := 3) rfl
  have a4 : w1.cell? ⟨g, 4, none⟩ = some (.int .u32 o) := HB.out.cell_ (i := 4) rfl
  refine wp_region_phase (n := 14) 6 (fun w => w.cell? ⟨B, 0, none⟩ = some (.pointer p) ∧ w.cell? ⟨g, 0, none⟩ = some (.int .i64 k) ∧ w.cell? ⟨g, 1, none⟩ = some (.int .i64 c) ∧ w.cell? ⟨g, 2, none⟩ = some (.int .u32 x) ∧ w.cell? ⟨g, 3, none⟩ = some (.int .u32 y) ∧ w.cell? ⟨g, 4, none⟩ = some (.int .u32 o)) rfl (by kernel_rfl) ⟨m0, a0, a1, a2, a3, a4⟩ (fun hHeld => ?_)
  have HP1 := Lib.hid (HP.out.keep (Only.refl Nil w1).drew)
  have HO1 := Lib.hid (HO.out.drew)
  clear m0 a0 a1 a2 a3 a4 HP HO HB
  generalize w1.drew = w2 at *
  refine mpa 0 rfl (.pointer (some ⟨B, 0, none⟩)) (fun w => ?_) ?_
  · go_simp
  (try simp only [Act.put, k1, k2, k3])
  refine mpa 1 rfl (.pointer (some ⟨B, 0, none⟩)) (fun w => ?_) ?_
  · go_simp
  (try simp only [Act.put, k1, k2, k3])
  refine mpa 2 rfl (.pointer (some ⟨B, 0, none⟩)) (fun w => ?_) ?_
  · go_simp
  (try simp only [Act.put, k1, k2, k3])
  refine mpa 3 rfl (.pointer (some ⟨B, 0, none⟩)) (fun w => ?_) ?_
  · go_simp
  (try simp only [Act.put, k1, k2, k3])
  refine mpt 4 rfl (.pointer p) (fun w hSw => ?_) ?_
  · (try dsimp only at hSw)
    go_split_ands
    go_simp
  (try simp only [Act.put, k1, k2, k3])
  refine mpt 5 rfl (.agg #[.int .i64 k, .int .i64 c, .int .u32 x, .int .u32 y, .int .u32 o]) (fun w hSw => ?_) ?_
  · (try dsimp only at hSw)
    go_split_ands
    go_simp
  (try simp only [Act.put, k1, k2, k3])
  refine mpc 6 rfl (by kernel_rfl) (by rfl) (fun K hK => ?_)
  go_simp
  refine (do_memo p A cp r.xs k c x y o _ HP1.out.memo).mono ?_
  rw [doVal_acc]
  rintro e w3 ⟨rfl, hO, hM⟩
  have HP2 := Lib.hid (HP1.out.call hO hM)
  have HO2 := Lib.hid (HO1.out.trans hO.turned2)
  refine hK.out _ _ (.inl (by kernel_rfl)) ?_
  clear hK K hHeld hO hM HP1 HO1
  have HW := Lib.hid (acc_old (xs := r.xs) (k := k) (c := c) (x := x) (y := y) HK.out)
  have HD := Lib.hid (show r.doA k c x y = { r with acc := accI r.xs k c x y, xs := doNew r.xs k c x y } from rfl)
  generalize accI r.xs k c x y = ac at *
  dsimp only [Acc5.v]
  refine mpa 7 rfl (.tuple #[.agg #[.int .i64 ac.k, .int .i64 ac.c, .int .u32 ac.x, .int .u32 ac.y, .int .u32 ac.o], .bool (doOk r.xs k c)]) (fun w => ?_) ?_
  · go_simp
  (try simp only [Act.put, k1, k2, k3])
  refine mpa 8 rfl (.agg #[.int .i64 ac.k, .int .i64 ac.c, .int .u32 ac.x, .int .u32 ac.y, .int .u32 ac.o]) (fun w => ?_) ?_
  · go_simp
  (try simp only [Act.put, k1, k2, k3])
  refine mpa 9 rfl (.bool (doOk r.xs k c)) (fun w => ?_) ?_
  · go_simp
  (try simp only [Act.put, k1, k2, k3])
  refine mpa 10 rfl (.pointer (some ⟨B, 0, none⟩)) (fun w => ?_) ?_
  · go_simp
  (try simp only [Act.put, k1, k2, k3])
  refine mpa 11 rfl (.pointer (some ⟨B, 14, none⟩)) (fun w => ?_) ?_
  · go_simp
  (try simp only [Act.put, k1, k2, k3])
  have a14 : w3.cell? ⟨B, 14, none⟩ = some (.int .i64 r.acc.k) := HP2.out.row.cell_ (i := 14) rfl
  have a15 : w3.cell? ⟨B, 15, none⟩ = some (.int .i64 r.acc.c) := HP2.out.row.cell_ (i := 15) rfl
  have a16 : w3.cell? ⟨B, 16, none⟩ = some (.int .u32 r.acc.x) := HP2.out.row.cell_ (i := 16) rfl
  have a17 : w3.cell? ⟨B, 17, none⟩ = some (.int .u32 r.acc.y) := HP2.out.row.cell_ (i := 17) rfl
  have a18 : w3.cell? ⟨B, 18, none⟩ = some (.int .u32 r.acc.o) := HP2.out.row.cell_ (i := 18) rfl
  have f14 : w3.frozen? ⟨B, 14, none⟩ = false := HP2.out.row.frozen 14
  have f15 : w3.frozen? ⟨B, 15, none⟩ = false := HP2.out.row.frozen 15
  have f16 : w3.frozen? ⟨B, 16, none⟩ = false := HP2.out.row.frozen 16
  have f17 : w3.frozen? ⟨B, 17, none⟩ = false := HP2.out.row.frozen 17
  have f18 : w3.frozen? ⟨B, 18, none⟩ = false := HP2.out.row.frozen 18
  refine mpc 12 rfl (by kernel_rfl) (by rfl) (fun K hK => ?_)
  go_simp
  have HP3 := Lib.hid (HP2.out.setAcc ac)
  have HO3 := Lib.hid (set_acc_only HO2.out (B := B) (.inl rfl) (.int .i64 ac.k) (.int .i64 ac.c) (.int .u32 ac.x) (.int .u32 ac.y) (.int .u32 ac.o))
  refine hK.out _ _ (.inl (by kernel_rfl)) ?_
  clear hK K HP2 HO2 a14 a15 a16 a17 a18 f14 f15 f16 f17 f18
  generalize (((((w3.setCell ⟨B, 14, none⟩ (.int .i64 ac.k)).setCell ⟨B, 15, none⟩ (.int .i64 ac.c)).setCell ⟨B, 16, none⟩ (.int .u32 ac.x)).setCell ⟨B, 17, none⟩ (.int .u32 ac.y)).setCell ⟨B, 18, none⟩ (.int .u32 ac.o)) = w4 at *
  (try simp only [Act.put, k1, k2, k3])
  refine mpa 13 rfl (.bool (doOk r.xs k c)) (fun w => ?_) ?_
  · go_simp
  (try simp only [Act.put, k1, k2, k3])
  refine wpAnyP_done (by kernel_rfl) ?_ _
  have a18 : w4.cell? ⟨B, 18, none⟩ = some (.int .u32 ac.o) := HP3.out.row.cell_ (i := 18) rfl
  go_wp2
  go_ret2
  exact ⟨two_eq HW.out rfl, HO3.out, by rw [HD.out]; exact HP3.out⟩
end Go.Proofs.YtkkldcggbekleaaGreat
