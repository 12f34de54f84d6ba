import Derived.Test.YtaeninikaalkjaaGreatChecked
import Derived.Laws.AppendOwn
import Derived.OwnWalk
import Derived.Deep.Cut
import Derived.Laws.AppendOwnNone
import Derived.Test.YtaeninikaalkjaaGreatH6
import Derived.Test.YtaeninikaalkjaaGreatH1
import Derived.Test.YtaeninikaalkjaaGreatH5
set_option linter.unusedVariables false
set_option linter.unusedSimpArgs false
namespace Go.Proofs.YtaeninikaalkjaaGreat
open Go.RowKit
def flat1 (n : Nt) : List Value := [.int .i64 n.t, .int .i64 n.w, .int .i64 n.o, .int .i64 n.a]
def flat : List Nt → List Value
  | [] => []
  | n :: r => flat1 n ++ flat r
theorem flat_len : ∀ zs, (flat zs).length = zs.length * 4
  | [] => rfl
  | n :: r => by rw [flat, List.length_append, flat_len r, List.length_cons]; show 4 + _ = _; omega
theorem flat_app : ∀ zs ys, flat (zs ++ ys) = flat zs ++ flat ys
  | [], ys => rfl
  | n :: r, ys => by rw [List.cons_append, flat, flat, flat_app r ys, List.append_assoc]
theorem flat_get : ∀ (zs : List Nt) (i : Nat) (n : Nt) (j : Nat), zs[i]? = some n → j < 4 → (flat zs)[i * 4 + j]? = (flat1 n)[j]?
  | [], i, n, j, h, _ => by simp at h
  | m :: r, 0, n, j, h, hj => by
    simp only [List.getElem?_cons_zero, Option.some.injEq] at h
    subst h
    rw [flat, List.getElem?_append_left (by show _ < 4; omega), Nat.zero_mul, Nat.zero_add]
  | m :: r, i + 1, n, j, h, hj => by
    rw [flat, List.getElem?_append_right (by show 4 ≤ _; omega), show (i + 1) * 4 + j - (flat1 m).length = i * 4 + j by show (i + 1) * 4 + j - 4 = _; omega]
    exact flat_get r i n j (by simpa using h) hj
structure At4 (w : World) (b q : Nat) (n : Nt) : Prop where
  c0 : w.cell? ⟨b, q, none⟩ = some (.int .i64 n.t)
  c1 : w.cell? ⟨b, q + 1, none⟩ = some (.int .i64 n.w)
  c2 : w.cell? ⟨b, q + 2, none⟩ = some (.int .i64 n.o)
  c3 : w.cell? ⟨b, q + 3, none⟩ = some (.int .i64 n.a)
def Notes (w : World) (A : Option Addr) (zs : List Nt) : Prop := 0 < zs.length → ∃ b q, A = some ⟨b, q, none⟩ ∧ b < w.heap.size ∧ ∀ (i : Nat) (n : Nt), zs[i]? = some n → At4 w b (q + i * 4) n
theorem At4.only {w w' : World} {b q : Nat} {n : Nt} (h : At4 w b q n) (ho : Only Nil w w') (hb : b < w.heap.size) : At4 w' b q n :=
  ⟨(ho.cell (p := ⟨b, q, none⟩) hb id).trans h.c0, (ho.cell (p := ⟨b, q + 1, none⟩) hb id).trans h.c1, (ho.cell (p := ⟨b, q + 2, none⟩) hb id).trans h.c2, (ho.cell (p := ⟨b, q + 3, none⟩) hb id).trans h.c3⟩
theorem Notes.only {w w' : World} {A : Option Addr} {zs : List Nt} (h : Notes w A zs) (ho : Only Nil w w') : Notes w' A zs := fun h0 => by
  obtain ⟨b, q, e, hb, hc⟩ := h h0
  exact ⟨b, q, e, Nat.lt_of_lt_of_le hb ho.size, fun i n hi => (hc i n hi).only ho hb⟩
def OwnN (base : Nat) (w : World) (v : Value) (zs : List Nt) : Prop := w.ownsRow base 85 4 v zs.length (flat zs)
theorem OwnN.only {base : Nat} {w w' : World} {v : Value} {zs : List Nt} (h : OwnN base w v zs) (ho : Only Nil w w') : OwnN base w' v zs := own_only h ho (fun _ _ => id)
theorem ownN_nil (base : Nat) (w : World) : OwnN base w (.slice none 0 0) [] := World.ownsRow_nil _ _ _ _
def ListN (w : World) (v : Value) (zs : List Nt) : Prop := ∃ A c, v = .slice A zs.length c ∧ Notes w A zs
theorem ListN.only {w w' : World} {v : Value} {zs : List Nt} (h : ListN w v zs) (ho : Only Nil w w') : ListN w' v zs := by
  obtain ⟨A, c, hv, hn⟩ := h
  exact ⟨A, c, hv, hn.only ho⟩
theorem OwnN.list {base : Nat} {w : World} {v : Value} {zs : List Nt} (h : OwnN base w v zs) : ListN w v zs := by
  rcases h.2 with ⟨rfl, hn⟩ | ⟨g, cap, cur, hv, hb, hg, hc, _⟩
  · obtain rfl := List.eq_nil_of_length_eq_zero hn
    exact ⟨none, 0, rfl, fun h => absurd h (by simp)⟩
  · refine ⟨_, cap, hv, fun _ => ⟨g, 0, rfl, (Array.getElem?_eq_some_iff.1 hg).1, fun i n hi => ?_⟩⟩
    have hcell : ∀ j u, (flat1 n)[j]? = some u → w.cell? ⟨g, 0 + i * 4 + j, none⟩ = some u := fun j u hj => by
      have h1 := World.ownsRow.cells h (g := g) (by rw [hv]; rfl) (i * 4 + j) u (by rw [flat_get zs i n j hi (List.getElem?_eq_some_iff.1 hj).1]; exact hj)
      rwa [add_at, ← Nat.add_assoc] at h1
    exact ⟨hcell 0 _ rfl, hcell 1 _ rfl, hcell 2 _ rfl, hcell 3 _ rfl⟩
theorem infoN : (Tryz.prog.info? 85).map (fun i => (i.zero, i.size, i.bytes)) = some (some (.agg #[.int .i64 0, .int .i64 0, .int .i64 0, .int .i64 0]), 4, 32) := by kernel_rfl
end Go.Proofs.YtaeninikaalkjaaGreat
set_option linter.unusedVariables false
set_option linter.unusedSimpArgs false
namespace Go.Proofs.YtaeninikaalkjaaGreat
open Go.RowKit
def uIs (k m x v : Int) : Bool :=
  if k = 0 then bits .and .u32 v m == x else if k = 1 then bits .and .u32 v m != x else if k = 2 then v / 256 % 256 == v / 65536 % 256 else if k = 3 then decide (v / 256 % 256 = x) && (v % 256 == 0) else false
theorem ret_bool {a b : Bool} (h : a = b) : Ending.returned (.bool a) = .returned (.bool b) := by rw [h]
end Go.Proofs.YtaeninikaalkjaaGreat
set_option linter.unusedVariables false
set_option linter.unusedSimpArgs false
namespace Go.Proofs.YtaeninikaalkjaaGreat
open Go.RowKit
structure Acc5 where
  k : Int
  c : Int
  x : Int
  y : Int
  o : Int
def Acc5.v (a : Acc5) : Value := .agg #[.int .i64 a.k, .int .i64 a.c, .int .u32 a.x, .int .u32 a.y, .int .u32 a.o]
def acc0 : Acc5 := ⟨0, 0, 0, 0, 0⟩
def accI (xs : List Int) (k c x y : Int) : Acc5 := if doOk xs k c then ⟨k, c, x, y, wordAt xs c⟩ else acc0
theorem doVal_acc (xs : List Int) (k c x y : Int) : doVal xs k c x y = (accI xs k c x y).v := by
  unfold doVal accI accOf
  split <;> rfl
theorem acc_old {xs : List Int} {k c x y : Int} (hk : isKind k = true) : (accI xs k c x y).o = wordAt xs c := by
  unfold accI
  by_cases h : doOk xs k c = true
  · rw [if_pos h]
  · rw [if_neg h]
    have ht : there xs c = false := by
      cases e : there xs c
      · rfl
      · exact absurd (by simp [doOk, e, hk]) h
    simp [wordAt, ht, acc0]
def ofV : Value → Acc5
  | .agg ⟨[.int _ k, .int _ c, .int _ x, .int _ y, .int _ o]⟩ => ⟨k, c, x, y, o⟩
  | _ => acc0
theorem ofV_eq {v : Value} (h : ∃ ka ca xa ya oa : Int, v = .agg #[.int .i64 ka, .int .i64 ca, .int .u32 xa, .int .u32 ya, .int .u32 oa]) : v = (ofV v).v := by
  obtain ⟨ka, ca, xa, ya, oa, rfl⟩ := h
  rfl
theorem ofV_step (xs : List Int) (n mode i s c : Int) (q : Int → Bool) : (stepI xs n mode i s c q).acc = (ofV (stepI xs n mode i s c q).acc).v := by
  obtain ⟨ka, ca, xa, ya, oa, h, _⟩ := step_access xs n mode i s c q
  exact ofV_eq ⟨ka, ca, xa, ya, oa, h⟩
theorem wake_form5 (xs : List Int) (n : Int) (on : Bool) (c i : Int) (hit : Bool) : ∃ ka ca xa ya oa : Int, (wakeI xs n on c i hit).acc = .agg #[.int .i64 ka, .int .i64 ca, .int .u32 xa, .int .u32 ya, .int .u32 oa] := by
  have hv := fun k c x y => doVal_form xs k c x y
  unfold wakeI giveI lookI restI
  repeat' split
  all_goals first | exact ⟨0, 0, 0, 0, 0, rfl⟩ | (obtain ⟨k', c', x', y', e⟩ := hv 2 (pc n i) 1 0; exact ⟨_, _, _, _, _, e⟩) | (obtain ⟨k', c', x', y', e⟩ := hv 1 (wc n i) 0 0; exact ⟨_, _, _, _, _, e⟩)
theorem ofV_wake (xs : List Int) (n : Int) (on : Bool) (c i : Int) (hit : Bool) : (wakeI xs n on c i hit).acc = (ofV (wakeI xs n on c i hit).acc).v := ofV_eq (wake_form5 xs n on c i hit)
structure LS where
  n : Int
  mode : Int
  task : Int
  op : Int
  line : Int
  a : Int
  b : Int
  s : Int
  k : WkV
  ret : Int
  acc : Acc5
  ns : List Nt
  xs : List Int
def LS.cells (r : LS) (h nv : Value) : Array Value :=
  #[h, .int .i64 r.n, .int .i64 r.mode, .int .i64 r.task, .int .i64 r.op, .int .i64 r.line, .int .u32 r.a, .int .u32 r.b, .int .i64 r.s, .bool r.k.on, .int .i64 r.k.c, .int .i64 r.k.i, .bool r.k.hit, .int .i64 r.ret,
    .int .i64 r.acc.k, .int .i64 r.acc.c, .int .u32 r.acc.x, .int .u32 r.acc.y, .int .u32 r.acc.o, nv]
def LS.frame (r : LS) : Array Value := #[.int .i64 r.op, .int .i64 r.line, .int .u32 r.a, .int .u32 r.b, .int .i64 r.s, .bool r.k.on, .int .i64 r.k.c, .int .i64 r.k.i, .bool r.k.hit, .int .i64 r.ret]
def LS.doA (r : LS) (k c x y : Int) : LS := { r with acc := accI r.xs k c x y, xs := doNew r.xs k c x y }
def LS.stepR (r : LS) (c : Int) (q : Int → Bool) : StepR := stepI r.xs r.n r.mode r.task r.s c q
def LS.wait (r : LS) (c : Int) (q : Int → Bool) : LS := { r with s := (r.stepR c q).next, acc := ofV (r.stepR c q).acc, xs := (r.stepR c q).xs }
def LS.note (r : LS) (what arg : Int) : LS := { r with ns := r.ns ++ [⟨r.task, what, 0, arg⟩] }
def LS.go (r : LS) (l : Int) : LS := { r with line := l }
def LS.fin (r : LS) (ok : Bool) : LS := { r with ret := if ok then 2 else 1 }
def LS.wake (r : LS) (c : Int) : LS := { r with k := beginI r.mode c }
def LS.fresh (r : LS) : LS := { r with acc := acc0, ns := [] }
def LS.wakeR (r : LS) : WakeR := wakeI r.xs r.n r.k.on r.k.c r.k.i r.k.hit
def LS.waking (r : LS) : LS := { r with acc := ofV r.wakeR.acc, ns := [], k := r.wakeR.next, xs := r.wakeR.xs }
def LS.over (r : LS) : Bool := (r.ret != 0) && !r.k.on
def LS.stuck (r : LS) : Bool := !r.k.on && stuckB r.xs r.n r.mode r.task r.s
structure OpR where
  r : LS
  v : Int
  b : Bool
  c : Bool
def bitI (b : Bool) : Int := if b then 1 else 0
def OpR.out (t : OpR) : List Int := [t.v, bitI t.b, bitI t.c]
structure LS.Keeps (r r' : LS) : Prop where
  n : r'.n = r.n
  mode : r'.mode = r.mode
  task : r'.task = r.task
  len : r'.xs.length = r.xs.length
  words : Words r.xs → Words r'.xs
theorem LS.Keeps.refl (r : LS) : r.Keeps r := ⟨rfl, rfl, rfl, rfl, id⟩
theorem LS.Keeps.trans {r r' r'' : LS} (h : r.Keeps r') (k : r'.Keeps r'') : r.Keeps r'' := ⟨k.n.trans h.n, k.mode.trans h.mode, k.task.trans h.task, k.len.trans h.len, k.words ∘ h.words⟩
end Go.Proofs.YtaeninikaalkjaaGreat
set_option linter.unusedVariables false
set_option linter.unusedSimpArgs false
namespace Go.Proofs.YtaeninikaalkjaaGreat
open Go.RowKit
def TurnB (B : Nat) (A : Option Addr) : Nat → Prop := fun j => j = B ∨ At A j
structure RunP (w : World) (B : Nat) (p A : Option Addr) (cp : Nat) (nv : Value) (r : LS) : Prop where
  row : Row w B 42 (r.cells (.pointer p) nv)
  notes : OwnN 0 w nv r.ns
  memo : Memo w p A cp r.xs
theorem own_tag {w : World} {base : Nat} {A : Option Addr} {c : Nat} {xs : List Int} (h : Own w base A c xs) {j : Nat} (hj : At A j) : ∃ cur, Row w j 23 cur := by
  obtain ⟨a, ha, rfl⟩ := hj
  subst ha
  rcases h.own.2 with ⟨hv, _⟩ | ⟨g, cap, cur, hv, _, hg, _⟩
  · cases hv
  · injection hv with h1
    injection h1 with h1
    subst h1
    exact ⟨cur, hg⟩
theorem memo_tag {w : World} {p A : Option Addr} {cp : Nat} {xs : List Int} (h : Memo w p A cp xs) {j : Nat} (hj : At p j ∨ At A j) : ∃ t cs, Row w j t cs ∧ (t = 60 ∨ t = 23) := by
  rcases h with ⟨rfl, _, rfl⟩ | ⟨b, rfl, h⟩
  · rcases hj with ⟨a, h, _⟩ | ⟨a, h, _⟩ <;> cases h
  · rcases hj with ⟨a, h2, rfl⟩ | h2
    · cases h2; exact ⟨_, _, h.hdr, .inl rfl⟩
    · obtain ⟨cur, hc⟩ := own_tag h.own h2
      exact ⟨_, _, hc, .inr rfl⟩
theorem ownN_tag {base : Nat} {w : World} {v : Value} {zs : List Nt} (h : OwnN base w v zs) {i : Nat} (hi : v.ownBlock = some i) : ∃ cur, Row w i 85 cur := by
  rcases h.2 with ⟨rfl, _⟩ | ⟨g, cap, cur, rfl, _, hg, _⟩
  · cases hi
  · have e : g = i := by simpa [Value.ownBlock] using hi
    subst e
    exact ⟨cur, hg⟩
theorem row_ne {w : World} {i j : Nat} {t t' : TypeId} {cs cs' : Array Value} (h : Row w i t cs) (h' : Row w j t' cs') (ht : t ≠ t') : i ≠ j := by
  rintro rfl
  exact ht (h.same h').1
section
variable {w w' : World} {B : Nat} {p A : Option Addr} {cp : Nat} {nv : Value} {r r' : LS} {ys : List Int} {S : Nat → Prop}
theorem RunP.far (h : RunP w B p A cp nv r) {j : Nat} (hj : At p j ∨ At A j) : j ≠ B := by
  rintro rfl
  obtain ⟨t, cs, hr, ht⟩ := memo_tag h.memo hj
  have e := (h.row.same hr).1
  rcases ht with rfl | rfl <;> exact absurd e (by decide)
theorem RunP.farN (h : RunP w B p A cp nv r) {i : Nat} (hi : nv.ownBlock = some i) : i ≠ B ∧ ¬ (At p i ∨ At A i) := by
  obtain ⟨cur, hc⟩ := ownN_tag h.notes hi
  refine ⟨?_, fun hj => ?_⟩
  · rintro rfl
    exact absurd (h.row.same hc).1 (by decide)
  · obtain ⟨t, cs, hr, ht⟩ := memo_tag h.memo hj
    have e := (hr.same hc).1
    rcases ht with rfl | rfl <;> exact absurd e (by decide)
theorem RunP.call (h : RunP w B p A cp nv r) (ho : Only (At A) w w') (hm : Memo w' p A cp ys) : RunP w' B p A cp nv { r with xs := ys } :=
  ⟨h.row.only ho (fun e => h.far (.inr e) rfl), own_only h.notes ho (fun i hi e => (h.farN hi).2 (.inr e)), hm⟩
theorem RunP.keep (h : RunP w B p A cp nv r) (ho : Only Nil w w') : RunP w' B p A cp nv r := h.call (ho.mono (fun _ _ h => h.elim)) (h.memo.keep ho)
theorem RunP.apart (h : RunP w B p A cp nv r) (ho : Only S w w') (hb : ¬ S B) (hm : ∀ j, At p j ∨ At A j → ¬ S j) (hn : ∀ i, nv.ownBlock = some i → ¬ S i) : RunP w' B p A cp nv r :=
  ⟨h.row.only ho hb, own_only h.notes ho hn, h.memo.far ho hm⟩
theorem RunP.turn (h : RunP w B p A cp nv r) (ho : Only (· = B) w w') (hr : Row w' B 42 (r'.cells (.pointer p) nv)) (hn : r'.ns = r.ns) (hx : r'.xs = r.xs) : RunP w' B p A cp nv r' :=
  ⟨hr, by rw [hn]; exact own_only h.notes ho (fun i hi => (h.farN hi).1), by rw [hx]; exact h.memo.far ho (fun j hj => h.far hj)⟩
theorem RunP.len (h : RunP w B p A cp nv r) : r.xs.length ≤ 1024 := by
  rcases h.memo with ⟨_, hx, _⟩ | ⟨b, _, hm⟩
  · rw [hx]; exact Nat.zero_le _
  · exact hm.len
theorem Only.turned2 (h : Only (At A) w w') : Only (TurnB B A) w w' := h.mono (fun _ _ e => .inr e)
theorem set_acc_only (h : Only S w w') (hg : S B) (v0 v1 v2 v3 v4 : Value) :
    Only S w (((((w'.setCell ⟨B, 14, none⟩ v0).setCell ⟨B, 15, none⟩ v1).setCell ⟨B, 16, none⟩ v2).setCell ⟨B, 17, none⟩ v3).setCell ⟨B, 18, none⟩ v4) :=
  ((((h.setCell (p := ⟨B, 14, none⟩) (.inr hg) v0).setCell (p := ⟨B, 15, none⟩) (.inr hg) v1).setCell (p := ⟨B, 16, none⟩) (.inr hg) v2).setCell (p := ⟨B, 17, none⟩) (.inr hg) v3).setCell (p := ⟨B, 18, none⟩) (.inr hg) v4
theorem set_acc_row {t : TypeId} {hv : Value} (h : Row w B t (r.cells hv nv)) (a : Acc5) :
    Row (((((w.setCell ⟨B, 14, none⟩ (.int .i64 a.k)).setCell ⟨B, 15, none⟩ (.int .i64 a.c)).setCell ⟨B, 16, none⟩ (.int .u32 a.x)).setCell ⟨B, 17, none⟩ (.int .u32 a.y)).setCell ⟨B, 18, none⟩ (.int .u32 a.o)) B t (({ r with acc := a } : LS).cells hv nv) := by
  have e := ((((h.set 14 (.int .i64 a.k)).set 15 (.int .i64 a.c)).set 16 (.int .u32 a.x)).set 17 (.int .u32 a.y)).set 18 (.int .u32 a.o)
  exact e
theorem RunP.setAcc (h : RunP w B p A cp nv r) (a : Acc5) :
    RunP (((((w.setCell ⟨B, 14, none⟩ (.int .i64 a.k)).setCell ⟨B, 15, none⟩ (.int .i64 a.c)).setCell ⟨B, 16, none⟩ (.int .u32 a.x)).setCell ⟨B, 17, none⟩ (.int .u32 a.y)).setCell ⟨B, 18, none⟩ (.int .u32 a.o)) B p A cp nv { r with acc := a } :=
  h.turn (set_acc_only (Only.refl (· = B) _) rfl _ _ _ _ _) (set_acc_row h.row a) rfl rfl
end
set_option maxRecDepth 100000 in
set_option maxHeartbeats 1000000 in
theorem access_run (B : Nat) (p A : Option Addr) (cp : Nat) (nv : Value) (r : LS) (k c x y o : Int) (w : World) (h : RunP w B p A cp nv r) (hk : isKind k = true) :
    Calls Tryz.prog 86 #[.pointer (some ⟨B, 0, none⟩), .agg #[.int .i64 k, .int .i64 c, .int .u32 x, .int .u32 y, .int .u32 o]] w fun e w' =>
      e = .returned (.tuple #[.int .u32 (wordAt r.xs c), .bool (doOk r.xs k c)]) ∧ Only (TurnB B A) w w' ∧ RunP w' B p A cp nv (r.doA k c x y) := by
  have HK := Lib.hid hk
  have e0 := (Only.refl Nil w).alloc (.cells #[.int .i64 k, .int .i64 c, .int .u32 x, .int .u32 y, .int .u32 o] 39)
  have HP := Lib.hid (h.keep e0)
  have HO := Lib.hid (e0.mono (T := TurnB B A) (fun _ _ h => h.elim))
  have HB := Lib.hid (Row.new w 39 #[.int .i64 k, .int .i64 c, .int .u32 x, .int .u32 y, .int .u32 o])
  have HL := Lib.hid (show ∀ j, At p j ∨ At A j → j < w.heap.size from h.memo.lt)
  clear h hk e0
  go_enter Tryz.func86, Tryz.ntmps86
  go_upto_region 3 with (fail)
  generalize w.alloc (.cells #[.int .i64 k, .int .i64 c, .int .u32 x, .int .u32 y, .int .u32 o] 39) = w1 at *
  generalize w.heap.size = g at *
  have m0 : w1.cell? ⟨B, 0, none⟩ = some (.pointer p) := HP.out.row.cell_ (i := 0) rfl
  have a0 : w1.cell? ⟨g, 0, none⟩ = some (.int .i64 k) := HB.out.cell_ (i := 0) rfl
  have a1 : w1.cell? ⟨g, 1, none⟩ = some (.int .i64 c) := HB.out.cell_ (i := 1) rfl
  have a2 : w1.cell? ⟨g, 2, none⟩ = some (.int .u32 x) := HB.out.cell_ (i := 2) rfl
  have a3 : w1.cell? ⟨g, 3, none⟩ = some (.int .u32 y) := HB.out.cell_ (i := 3) rfl
  have a4 : w1.cell? ⟨g, 4, none⟩ = some (.int .u32 o) := HB.out.cell_ (i := 4) rfl
  refine wp_region_phase (n := 14) 6 (fun w => w.cell? ⟨B, 0, none⟩ = some (.pointer p) ∧ w.cell? ⟨g, 0, none⟩ = some (.int .i64 k) ∧ w.cell? ⟨g, 1, none⟩ = some (.int .i64 c) ∧ w.cell? ⟨g, 2, none⟩ = some (.int .u32 x) ∧ w.cell? ⟨g, 3, none⟩ = some (.int .u32 y) ∧ w.cell? ⟨g, 4, none⟩ = some (.int .u32 o)) rfl (by kernel_rfl) ⟨m0, a0, a1, a2, a3, a4⟩ (fun hHeld => ?_)
  have HP1 := Lib.hid (HP.out.keep (Only.refl Nil w1).drew)
  have HO1 := Lib.hid (HO.out.drew)
  clear m0 a0 a1 a2 a3 a4 HP HO HB
  generalize w1.drew = w2 at *
  refine za 0 rfl ?_
  refine za 1 rfl ?_
  refine za 2 rfl ?_
  refine za 3 rfl ?_
  refine zt 4 rfl ?_
  refine zt 5 rfl ?_
  refine mpc 6 rfl (by kernel_rfl) (by rfl) (fun K hK => ?_)
  go_simp
  refine (do_memo p A cp r.xs k c x y o _ HP1.out.memo).mono ?_
  rw [doVal_acc]
  rintro e w3 ⟨rfl, hO, hM⟩
  have HP2 := Lib.hid (HP1.out.call hO hM)
  have HO2 := Lib.hid (HO1.out.trans hO.turned2)
  refine hK.out _ _ (.inl (by kernel_rfl)) ?_
  clear hK K hHeld hO hM HP1 HO1
  have HW := Lib.hid (acc_old (xs := r.xs) (k := k) (c := c) (x := x) (y := y) HK.out)
  have HD := Lib.hid (show r.doA k c x y = { r with acc := accI r.xs k c x y, xs := doNew r.xs k c x y } from rfl)
  generalize accI r.xs k c x y = ac at *
  dsimp only [Acc5.v]
  refine za 7 rfl ?_
  refine za 8 rfl ?_
  refine za 9 rfl ?_
  refine za 10 rfl ?_
  refine za 11 rfl ?_
  have a14 : w3.cell? ⟨B, 14, none⟩ = some (.int .i64 r.acc.k) := HP2.out.row.cell_ (i := 14) rfl
  have a15 : w3.cell? ⟨B, 15, none⟩ = some (.int .i64 r.acc.c) := HP2.out.row.cell_ (i := 15) rfl
  have a16 : w3.cell? ⟨B, 16, none⟩ = some (.int .u32 r.acc.x) := HP2.out.row.cell_ (i := 16) rfl
  have a17 : w3.cell? ⟨B, 17, none⟩ = some (.int .u32 r.acc.y) := HP2.out.row.cell_ (i := 17) rfl
  have a18 : w3.cell? ⟨B, 18, none⟩ = some (.int .u32 r.acc.o) := HP2.out.row.cell_ (i := 18) rfl
  have f14 : w3.frozen? ⟨B, 14, none⟩ = false := HP2.out.row.frozen 14
  have f15 : w3.frozen? ⟨B, 15, none⟩ = false := HP2.out.row.frozen 15
  have f16 : w3.frozen? ⟨B, 16, none⟩ = false := HP2.out.row.frozen 16
  have f17 : w3.frozen? ⟨B, 17, none⟩ = false := HP2.out.row.frozen 17
  have f18 : w3.frozen? ⟨B, 18, none⟩ = false := HP2.out.row.frozen 18
  refine mpc 12 rfl (by kernel_rfl) (by rfl) (fun K hK => ?_)
  go_simp
  have HP3 := Lib.hid (HP2.out.setAcc ac)
  have HO3 := Lib.hid (set_acc_only HO2.out (B := B) (.inl rfl) (.int .i64 ac.k) (.int .i64 ac.c) (.int .u32 ac.x) (.int .u32 ac.y) (.int .u32 ac.o))
  refine hK.out _ _ (.inl (by kernel_rfl)) ?_
  clear hK K HP2 HO2 a14 a15 a16 a17 a18 f14 f15 f16 f17 f18
  generalize (((((w3.setCell ⟨B, 14, none⟩ (.int .i64 ac.k)).setCell ⟨B, 15, none⟩ (.int .i64 ac.c)).setCell ⟨B, 16, none⟩ (.int .u32 ac.x)).setCell ⟨B, 17, none⟩ (.int .u32 ac.y)).setCell ⟨B, 18, none⟩ (.int .u32 ac.o)) = w4 at *
  refine za 13 rfl ?_
  refine wpAnyP_done (by kernel_rfl) ?_ _
  have a18 : w4.cell? ⟨B, 18, none⟩ = some (.int .u32 ac.o) := HP3.out.row.cell_ (i := 18) rfl
  go_wp2
  go_ret2
  exact ⟨two_eq HW.out rfl, HO3.out, by rw [HD.out]; exact HP3.out⟩
end Go.Proofs.YtaeninikaalkjaaGreat
set_option linter.unusedVariables false
set_option linter.unusedSimpArgs false
namespace Go.Proofs.YtaeninikaalkjaaGreat
open Go.RowKit
def Done (B : Nat) (p A : Option Addr) (cp : Nat) (w : World) (v : Value) (r : LS) (e : Ending) (w' : World) : Prop :=
  e = .returned v ∧ Only (TurnB B A) w w' ∧ ∃ nv, RunP w' B p A cp nv r
section
variable (B : Nat) (p A : Option Addr) (cp : Nat) (nv : Value) (r : LS) (c x y : Int) (w : World)
theorem load_run (h : RunP w B p A cp nv r) : Calls Tryz.prog 52 #[.pointer (some ⟨B, 0, none⟩), .int .i64 c] w (Done B p A cp w (.int .u32 (wordAt r.xs c)) (r.doA 1 c 0 0)) := by
  go_enter Tryz.func52, Tryz.ntmps52
  go_wp2_with fail
  refine (access_run B p A cp nv r 1 c 0 0 0 _ h rfl).mono ?_
  rintro e w1 ⟨rfl, hO, hP⟩
  have HO := Lib.hid hO
  have HP := Lib.hid hP
  clear hO hP h
  go_wp2
  go_ret
  exact ⟨rfl, HO.out, nv, HP.out⟩
theorem cas_run (h : RunP w B p A cp nv r) : Calls Tryz.prog 56 #[.pointer (some ⟨B, 0, none⟩), .int .i64 c, .int .u32 x, .int .u32 y] w (Done B p A cp w (.bool (there r.xs c && (wordAt r.xs c == x))) (r.doA 5 c x y)) := by
  have hok : doOk r.xs 5 c = there r.xs c := by simp [doOk, isKind]
  have HK := Lib.hid hok
  clear hok
  cases ht : there r.xs c
  · have HT := Lib.hid ht
    clear ht
    go_enter Tryz.func56, Tryz.ntmps56
    go_wp2_with fail
    refine (access_run B p A cp nv r 5 c x y 0 _ h rfl).mono ?_
    rw [HK.out, HT.out]
    rintro e w1 ⟨rfl, hO, hP⟩
    have HO := Lib.hid hO
    have HP := Lib.hid hP
    clear hO hP h
    go_wp2
    go_ret
    exact ⟨rfl, HO.out, nv, HP.out⟩
  · have HT := Lib.hid ht
    clear ht
    go_enter Tryz.func56, Tryz.ntmps56
    go_wp2_with fail
    refine (access_run B p A cp nv r 5 c x y 0 _ h rfl).mono ?_
    rw [HK.out, HT.out]
    rintro e w1 ⟨rfl, hO, hP⟩
    have HO := Lib.hid hO
    have HP := Lib.hid hP
    clear hO hP h
    go_wp2
    go_ret
    exact ⟨rfl, HO.out, nv, HP.out⟩
theorem RunP.setLine {w : World} {B : Nat} {p A : Option Addr} {cp : Nat} {nv : Value} {r : LS} (h : RunP w B p A cp nv r) (l : Int) : RunP (w.setCell ⟨B, 5, none⟩ (.int .i64 l)) B p A cp nv (r.go l) :=
  h.turn ((Only.refl (· = B) w).setCell (p := ⟨B, 5, none⟩) (.inr rfl) _) (h.row.set 5 (.int .i64 l)) rfl rfl
theorem go_run (h : RunP w B p A cp nv r) : Calls Tryz.prog 54 #[.pointer (some ⟨B, 0, none⟩), .int .i64 c] w (Done B p A cp w (.tuple #[]) (r.go c)) := by
  have c5 : w.cell? ⟨B, 5, none⟩ = some (.int .i64 r.line) := h.row.cell_ (i := 5) rfl
  have f5 : w.frozen? ⟨B, 5, none⟩ = false := h.row.frozen 5
  have HP := Lib.hid h
  clear h
  go_enter Tryz.func54, Tryz.ntmps54
  go_wp2
  go_returns
  exact ⟨rfl, (Only.refl (TurnB B A) w).setCell (p := ⟨B, 5, none⟩) (.inr (.inl rfl)) _, nv, HP.out.setLine c⟩
end
theorem set_wake_only {S : Nat → Prop} {w w' : World} {B : Nat} (h : Only S w w') (hg : S B) (v0 v1 v2 v3 : Value) :
    Only S w ((((w'.setCell ⟨B, 9, none⟩ v0).setCell ⟨B, 10, none⟩ v1).setCell ⟨B, 11, none⟩ v2).setCell ⟨B, 12, none⟩ v3) :=
  (((h.setCell (p := ⟨B, 9, none⟩) (.inr hg) v0).setCell (p := ⟨B, 10, none⟩) (.inr hg) v1).setCell (p := ⟨B, 11, none⟩) (.inr hg) v2).setCell (p := ⟨B, 12, none⟩) (.inr hg) v3
theorem set_wake_row {w : World} {B : Nat} {t : TypeId} {hv nv : Value} {r : LS} (h : Row w B t (r.cells hv nv)) (k : WkV) :
    Row ((((w.setCell ⟨B, 9, none⟩ (.bool k.on)).setCell ⟨B, 10, none⟩ (.int .i64 k.c)).setCell ⟨B, 11, none⟩ (.int .i64 k.i)).setCell ⟨B, 12, none⟩ (.bool k.hit)) B t (({ r with k := k } : LS).cells hv nv) := by
  have e := (((h.set 9 (.bool k.on)).set 10 (.int .i64 k.c)).set 11 (.int .i64 k.i)).set 12 (.bool k.hit)
  exact e
theorem RunP.setWake {w : World} {B : Nat} {p A : Option Addr} {cp : Nat} {nv : Value} {r : LS} (h : RunP w B p A cp nv r) (k : WkV) :
    RunP ((((w.setCell ⟨B, 9, none⟩ (.bool k.on)).setCell ⟨B, 10, none⟩ (.int .i64 k.c)).setCell ⟨B, 11, none⟩ (.int .i64 k.i)).setCell ⟨B, 12, none⟩ (.bool k.hit)) B p A cp nv { r with k := k } :=
  h.turn (set_wake_only (Only.refl (· = B) w) rfl _ _ _ _) (set_wake_row h.row k) rfl rfl
theorem wake_run (B : Nat) (p A : Option Addr) (cp : Nat) (nv : Value) (r : LS) (c : Int) (w : World) (h : RunP w B p A cp nv r) :
    Calls Tryz.prog 61 #[.pointer (some ⟨B, 0, none⟩), .int .i64 c] w (Done B p A cp w (.tuple #[]) (r.wake c)) := by
  have c2 : w.cell? ⟨B, 2, none⟩ = some (.int .i64 r.mode) := h.row.cell_ (i := 2) rfl
  have HP := Lib.hid h
  clear h
  go_enter Tryz.func61, Tryz.ntmps61
  go_wp2_with fail
  clear c2
  refine (begin_any r.mode c _).mono ?_
  rintro e w1 ⟨rfl, hO⟩
  have HP1 := Lib.hid (HP.out.keep hO)
  have HO := Lib.hid (hO.mono (T := TurnB B A) (fun _ _ h => h.elim))
  clear hO HP
  have HD := Lib.hid (show r.wake c = { r with k := beginI r.mode c } from rfl)
  generalize beginI r.mode c = k at *
  dsimp only [WkV.v]
  have a9 : w1.cell? ⟨B, 9, none⟩ = some (.bool r.k.on) := HP1.out.row.cell_ (i := 9) rfl
  have a10 : w1.cell? ⟨B, 10, none⟩ = some (.int .i64 r.k.c) := HP1.out.row.cell_ (i := 10) rfl
  have a11 : w1.cell? ⟨B, 11, none⟩ = some (.int .i64 r.k.i) := HP1.out.row.cell_ (i := 11) rfl
  have a12 : w1.cell? ⟨B, 12, none⟩ = some (.bool r.k.hit) := HP1.out.row.cell_ (i := 12) rfl
  have f9 : w1.frozen? ⟨B, 9, none⟩ = false := HP1.out.row.frozen 9
  have f10 : w1.frozen? ⟨B, 10, none⟩ = false := HP1.out.row.frozen 10
  have f11 : w1.frozen? ⟨B, 11, none⟩ = false := HP1.out.row.frozen 11
  have f12 : w1.frozen? ⟨B, 12, none⟩ = false := HP1.out.row.frozen 12
  go_wp2
  clear a9 a10 a11 a12 f9 f10 f11 f12
  go_returns
  exact ⟨rfl, set_wake_only HO.out (.inl rfl) _ _ _ _, nv, by rw [HD.out]; exact HP1.out.setWake k⟩
def cutV : Value → Value
  | .slice A n c => .slice A n n
  | v => v
theorem clip_any (v : Value) (zs : List Nt) (w : World) (h : OwnN 0 w v zs) : Calls Tryz.prog 55 #[v] w fun e w' => e = .returned (cutV v) ∧ w = w' := by
  rcases h.2 with ⟨rfl, hn⟩ | ⟨g, cap, cur, rfl, _, hg, hc, _⟩
  · clear h
    go_enter Tryz.func55, Tryz.ntmps55
    go_wp2
    go_ret
    exact ⟨rfl, rfl⟩
  · generalize zs.length = n at *
    clear h hg
    go_enter Tryz.func55, Tryz.ntmps55
    go_wp2
    go_ret
    exact ⟨rfl, rfl⟩
theorem run_append_cut (ty : TypeId) (v : Value) (zs : List Nt) (w : World) (g : Nat) (n : Nt) (hown : OwnN 0 w v zs) (hrow : Row w g 85 #[.int .i64 n.t, .int .i64 n.w, .int .i64 n.o, .int .i64 n.a]) (h1 : zs.length ≤ 1000) :
    ∃ v' w', (Builtin.append_ #[40, 40] ty #[cutV v, .slice (some ⟨g, 0, none⟩) 1 1]).run Tryz.prog w = .ok v' w' ∧ OwnN 0 w' v' (zs ++ [n]) ∧ Only Nil w w' := by
  obtain ⟨i0, hi, hz0, hz1, hz2⟩ := info_parts infoN
  have hnews : ∀ j u, (flat1 n)[j]? = some u → w.cell? ((⟨g, 0, none⟩ : Addr).add j) = some u := fun j u hj => by
    rw [add_at, Nat.zero_add]
    exact hrow.cell_ (by rw [← hj]; simp [flat1])
  have hlen : (flat (zs ++ [n])).length = (zs.length + 1) * 4 := by rw [flat_len, List.length_append]; rfl
  have hfl : flat (zs ++ [n]) = flat zs ++ flat1 n := by rw [flat_app]; exact congrArg _ (List.append_nil _)
  have grown : ∀ old, OwnN 0 (w.drew.alloc (.cells ((flat zs).toArray ++ (flat1 n).toArray ++ Builtin.zeroCells (Value.agg #[.int .i64 0, .int .i64 0, .int .i64 0, .int .i64 0]).cells (grownCap w (zs.length + 1) old 85 - (zs.length + 1))) 85)) (.slice (some ⟨w.heap.size, 0, none⟩) (zs.length + 1) (grownCap w (zs.length + 1) old 85)) (zs ++ [n]) := by
    intro old
    have hge := grownCap_ge w (zs.length + 1) old 85
    have hcm := grownCap_le_maxLen w (zs.length + 1) old 85 (by unfold maxLen; omega)
    unfold OwnN
    rw [show (zs ++ [n]).length = zs.length + 1 by rw [List.length_append]; rfl]
    refine ⟨hlen, .inr ⟨w.heap.size, _, _, rfl, Nat.zero_le _, heap_alloc_new w.drew _, hge, hcm, ?_, ?_⟩⟩
    · simp only [Array.size_append, List.size_toArray, size_zeroCells, flat_len]
      show zs.length * 4 + 4 + _ * 4 = _
      omega
    · simp only [Array.toList_append]
      rw [← hfl, ← hlen]
      exact List.take_left
  rcases hown.2 with ⟨rfl, hn⟩ | ⟨q, cap, cur, rfl, _, hq, _⟩
  · obtain rfl := List.eq_nil_of_length_eq_zero hn
    have hr := run_append_nil (P := Tryz.prog) w 40 ty 85 i0 _ Tryz.underlying40 hi hz0 ⟨g, 0, none⟩ 1 1 (flat1 n) (by rw [hz1]; rfl) hnews (by decide) (by decide) (by rw [hz2]; decide)
    have hg := grown 0
    simp only [flat, List.length_nil, Nat.zero_add, Array.empty_append] at hg
    exact ⟨_, _, hr, hg, (Only.refl Nil w).drew.alloc _⟩
  · have holds : ∀ j u, (flat zs)[j]? = some u → w.cell? ((⟨q, 0, none⟩ : Addr).add j) = some u := World.ownsRow.cells hown (g := q) rfl
    have hr := run_append_grow (P := Tryz.prog) w 40 ty 85 i0 _ Tryz.underlying40 hi hz0 ⟨q, 0, none⟩ zs.length zs.length (flat zs) (by rw [hz1]; exact flat_len zs) holds ⟨g, 0, none⟩ 1 1 (flat1 n) (by rw [hz1]; rfl) hnews (by omega) (by omega) (growslice_fits (by omega) (by rw [hz2]; omega))
    exact ⟨_, _, hr, grown _, (Only.refl Nil w).drew.alloc _⟩
end Go.Proofs.YtaeninikaalkjaaGreat
set_option linter.unusedVariables false
set_option linter.unusedSimpArgs false
namespace Go.Proofs.YtaeninikaalkjaaGreat
open Go.RowKit
structure TF (w0 : World) (p A : Option Addr) (cp : Nat) (B : Nat) (tv nv acs : Array Value) (W : World) (xs : List Int) : Prop where
  only : Only (At A) w0 W
  memo : Memo W p A cp xs
  rt : Row W B 119 tv
  rn : Row W (B + 1) 27 nv
  ra : Row W (B + 1 + 1) 39 acs
  lt : ∀ j, At p j ∨ At A j → j < B
  hw : w0.heap.size ≤ B
section
variable {w0 W W' : World} {p A : Option Addr} {cp B : Nat} {tv nv acs : Array Value} {xs ys : List Int}
theorem TF.call (h : TF w0 p A cp B tv nv acs W xs) (ho : Only (At A) W W') (hm : Memo W' p A cp ys) : TF w0 p A cp B tv nv acs W' ys :=
  ⟨h.only.trans ho, hm, h.rt.only ho (fun e => by have := h.lt _ (.inr e); omega), h.rn.only ho (fun e => by have := h.lt _ (.inr e); omega), h.ra.only ho (fun e => by have := h.lt _ (.inr e); omega), h.lt, h.hw⟩
theorem TF.keep (h : TF w0 p A cp B tv nv acs W xs) (ho : Only Nil W W') : TF w0 p A cp B tv nv acs W' xs := h.call (ho.mono (fun _ _ h => h.elim)) (h.memo.keep ho)
theorem TF.setN {a0 a1 a2 a3 : Value} (h : TF w0 p A cp B tv #[a0, a1, a2, a3] acs W xs) (v0 v1 v2 v3 : Value) :
    TF w0 p A cp B tv #[v0, v1, v2, v3] acs ((((W.setCell ⟨B + 1, 0, none⟩ v0).setCell ⟨B + 1, 1, none⟩ v1).setCell ⟨B + 1, 2, none⟩ v2).setCell ⟨B + 1, 3, none⟩ v3) xs := by
  have ho := four_only (Only.refl (· = B + 1) W) (g := B + 1) (.inr rfl) v0 v1 v2 v3
  exact ⟨four_only h.only (.inl (by have := h.hw; omega)) _ _ _ _, h.memo.far ho (fun j hj e => by have := h.lt j hj; omega), h.rt.only ho (fun e => by omega), four h.rn _ _ _ _, h.ra.only ho (fun e => by omega), h.lt, h.hw⟩
theorem TF.setA {a0 a1 a2 a3 a4 : Value} (h : TF w0 p A cp B tv nv #[a0, a1, a2, a3, a4] W xs) (v0 v1 v2 v3 v4 : Value) :
    TF w0 p A cp B tv nv #[v0, v1, v2, v3, v4] (((((W.setCell ⟨B + 1 + 1, 0, none⟩ v0).setCell ⟨B + 1 + 1, 1, none⟩ v1).setCell ⟨B + 1 + 1, 2, none⟩ v2).setCell ⟨B + 1 + 1, 3, none⟩ v3).setCell ⟨B + 1 + 1, 4, none⟩ v4) xs := by
  have ho := five_only (Only.refl (· = B + 1 + 1) W) (g := B + 1 + 1) (.inr rfl) v0 v1 v2 v3 v4
  exact ⟨five_only h.only (.inl (by have := h.hw; omega)) _ _ _ _ _, h.memo.far ho (fun j hj e => by have := h.lt j hj; omega), h.rt.only ho (fun e => by omega), h.rn.only ho (fun e => by omega), five h.ra _ _ _ _ _, h.lt, h.hw⟩
theorem TF.far {g : Nat} (h : TF w0 p A cp B tv nv acs W xs) (ho : Only (· = g) W W') (hg : B + 1 + 1 < g) : TF w0 p A cp B tv nv acs W' xs :=
  ⟨h.only.step ho (fun i hi e => by have := h.hw; omega), h.memo.far ho (fun j hj e => by have := h.lt j hj; omega), h.rt.only ho (fun e => by omega), h.rn.only ho (fun e => by omega), h.ra.only ho (fun e => by omega), h.lt, h.hw⟩
theorem TF.start {w : World} {p A : Option Addr} {cp : Nat} {xs : List Int} (tv : Array Value) (h : Memo w p A cp xs) :
    TF w p A cp w.heap.size tv #[.bool false, .int .i64 0, .int .i64 0, .bool false] #[.int .i64 0, .int .i64 0, .int .u32 0, .int .u32 0, .int .u32 0] (((w.alloc (.cells tv 119)).alloc (.cells #[.bool false, .int .i64 0, .int .i64 0, .bool false] 27)).alloc (.cells #[.int .i64 0, .int .i64 0, .int .u32 0, .int .u32 0, .int .u32 0] 39)) xs := by
  have e0 := (((Only.refl Nil w).alloc (.cells tv 119)).alloc (.cells #[.bool false, .int .i64 0, .int .i64 0, .bool false] 27)).alloc (.cells #[.int .i64 0, .int .i64 0, .int .u32 0, .int .u32 0, .int .u32 0] 39)
  refine ⟨e0.mono (fun _ _ h => h.elim), h.keep e0, ((Row.new w _ _).alloc _).alloc _, (Row.new2 w _ _ _).alloc _, ?_, h.lt, Nat.le_refl _⟩
  have e := Row.new2 (w.alloc (.cells tv 119)) (.cells #[.bool false, .int .i64 0, .int .i64 0, .bool false] 27) 39 #[.int .i64 0, .int .i64 0, .int .u32 0, .int .u32 0, .int .u32 0]
  rwa [show (w.alloc (.cells tv 119)).heap.size = w.heap.size + 1 by simp] at e
end
def Turned (p A : Option Addr) (cp : Nat) (nx : WkV) (acc : Value) (ok : Bool) (ys : List Int) (w : World) (e : Ending) (w' : World) : Prop :=
  e = .returned (.tuple #[nx.v, acc, .bool ok]) ∧ Only (At A) w w' ∧ Memo w' p A cp ys
end Go.Proofs.YtaeninikaalkjaaGreat
