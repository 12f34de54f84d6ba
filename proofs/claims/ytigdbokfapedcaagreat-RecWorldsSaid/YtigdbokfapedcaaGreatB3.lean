/- WaitTwo, WaitW, WakeM, WakeBegin, NotesL, IsM, LineM, NextM, CleanM, MatchM, KeepM, GoodM, AheadM, TfM, PfM, MutM, PqM. -/
import Derived.Test.YtigdbokfapedcaaGreatChecked
import Derived.Laws.AppendOwn
import Derived.OwnWalk
import Derived.WalkKit
import Derived.Test.YtigdbokfapedcaaGreatB2
import Derived.Test.YtigdbokfapedcaaGreatB1
/- A memory, and the answer's list beside it. -/
set_option linter.unusedVariables false
set_option linter.unusedSimpArgs false
namespace Go.Proofs.YtigdbokfapedcaaGreat
open Go.RowKit

/-- A memory of the words xs that was made from block L on (since w0) ahead of block M, and a list of the words ys that was made from block B on, ahead of block C. -/
structure Pr (w0 : World) (L M B C : Nat) (p A : Option Addr) (cp : Nat) (A2 : Option Addr) (c2 : Nat) (w : World) (xs ys : List Int) : Prop where
  only : Only Nil w0 w
  memo : Memo w p A cp xs
  own : Own w B A2 c2 ys
  far : ∀ j, At p j ∨ At A j → L ≤ j ∧ j < M
  lt : ∀ j, At A2 j → j < C
  mb : M ≤ B
  hw : w0.heap.size ≤ L
  hl : L ≤ M

section
variable {w0 w w' : World} {L M B C cp c2 g : Nat} {p A A2 : Option Addr} {xs ys zs : List Int} {S : Nat → Prop} {t : TypeId} {cs : Array Value}
theorem Pr.keep (h : Pr w0 L M B C p A cp A2 c2 w xs ys) (ho : Only Nil w w') : Pr w0 L M B C p A cp A2 c2 w' xs ys :=
  ⟨h.only.trans ho, h.memo.keep ho, h.own.only ho (fun _ _ => id), h.far, h.lt, h.mb, h.hw, h.hl⟩
theorem Pr.prog (h : Pr w0 L M B C p A cp A2 c2 w xs ys) (ho : Only (At A) w w') (hm : Memo w' p A cp zs) : Pr w0 L M B C p A cp A2 c2 w' zs ys :=
  ⟨h.only.step ho (fun i hi hA => by have := (h.far i (.inr hA)).1; have := h.hw; omega), hm, h.own.only ho (fun j hj hA => by have := (h.far j (.inr hA)).2; have := h.own.base j hj; have := h.mb; omega), h.far, h.lt, h.mb, h.hw, h.hl⟩
theorem Pr.answ (h : Pr w0 L M B C p A cp A2 c2 w xs ys) (ho : Only (At A2) w w') (hw : Own w' B A2 c2 zs) : Pr w0 L M B C p A cp A2 c2 w' xs zs :=
  ⟨h.only.step ho (fun i hi hA => by have := h.own.base i hA; have := h.mb; have := h.hw; have := h.hl; omega), h.memo.far ho (fun j hj hA => by have := (h.far j hj).2; have := h.own.base j hA; have := h.mb; omega), hw, h.far, h.lt, h.mb, h.hw, h.hl⟩
theorem Pr.far_prog (h : Pr w0 L M B C p A cp A2 c2 w xs ys) (hg : g < L ∨ M ≤ g) : ¬ At A g := fun e => by have := h.far g (.inr e); omega
theorem Pr.far_answ (h : Pr w0 L M B C p A cp A2 c2 w xs ys) (hg : g < B ∨ C ≤ g) : ¬ At A2 g := fun e => by have := h.own.base g e; have := h.lt g e; omega
end

/-- What a step's access is: a zero one, and nothing was done, or one that was done on a cell of the task's own, or loaded the cell. -/
theorem step_access (xs : List Int) (n mode i s c : Int) (q : Int → Bool) : ∃ ka ca xa ya oa : Int, (stepI xs n mode i s c q).acc = .agg #[.int .i64 ka, .int .i64 ca, .int .u32 xa, .int .u32 ya, .int .u32 oa] ∧
    ((ka = 0 ∧ ca = 0 ∧ xa = 0 ∧ ya = 0 ∧ oa = 0 ∧ (stepI xs n mode i s c q).xs = xs) ∨
     (ka ≠ 0 ∧ doVal xs ka ca xa ya = .agg #[.int .i64 ka, .int .i64 ca, .int .u32 xa, .int .u32 ya, .int .u32 oa] ∧ doOk xs ka ca = true ∧ doNew xs ka ca xa ya = (stepI xs n mode i s c q).xs ∧ (ca = wc n i ∨ ca = pc n i ∨ (ka = 1 ∧ ca = c)))) := by
  have ld : ∀ r : StepR, r.acc = doVal xs 1 c 0 0 → r.xs = xs → ∃ ka ca xa ya oa : Int, r.acc = .agg #[.int .i64 ka, .int .i64 ca, .int .u32 xa, .int .u32 ya, .int .u32 oa] ∧
      ((ka = 0 ∧ ca = 0 ∧ xa = 0 ∧ ya = 0 ∧ oa = 0 ∧ r.xs = xs) ∨ (ka ≠ 0 ∧ doVal xs ka ca xa ya = .agg #[.int .i64 ka, .int .i64 ca, .int .u32 xa, .int .u32 ya, .int .u32 oa] ∧ doOk xs ka ca = true ∧ doNew xs ka ca xa ya = r.xs ∧ (ca = wc n i ∨ ca = pc n i ∨ (ka = 1 ∧ ca = c)))) := fun r h1 h2 => by
    cases hk : doOk xs 1 c
    · exact ⟨0, 0, 0, 0, 0, by rw [h1]; simp [doVal, hk, accOf], .inl ⟨rfl, rfl, rfl, rfl, rfl, h2⟩⟩
    · exact ⟨1, c, 0, 0, wordAt xs c, by rw [h1]; simp [doVal, hk, accOf], .inr ⟨by decide, by simp [doVal, hk, accOf], hk, by rw [doNew_load, h2], .inr (.inr ⟨rfl, rfl⟩)⟩⟩
  have sw : ∀ (r : StepR) (v : Int), r.acc = doVal xs 2 (wc n i) v 0 → r.xs = st xs (wc n i) v → ∃ ka ca xa ya oa : Int, r.acc = .agg #[.int .i64 ka, .int .i64 ca, .int .u32 xa, .int .u32 ya, .int .u32 oa] ∧
      ((ka = 0 ∧ ca = 0 ∧ xa = 0 ∧ ya = 0 ∧ oa = 0 ∧ r.xs = xs) ∨ (ka ≠ 0 ∧ doVal xs ka ca xa ya = .agg #[.int .i64 ka, .int .i64 ca, .int .u32 xa, .int .u32 ya, .int .u32 oa] ∧ doOk xs ka ca = true ∧ doNew xs ka ca xa ya = r.xs ∧ (ca = wc n i ∨ ca = pc n i ∨ (ka = 1 ∧ ca = c)))) := fun r v h1 h2 => by
    cases hk : doOk xs 2 (wc n i)
    · have ht : there xs (wc n i) = false := by simpa [doOk, isKind] using hk
      exact ⟨0, 0, 0, 0, 0, by rw [h1]; simp [doVal, hk, accOf], .inl ⟨rfl, rfl, rfl, rfl, rfl, by rw [h2]; simp [st, ht]⟩⟩
    · exact ⟨2, wc n i, v, 0, wordAt xs (wc n i), by rw [h1]; simp [doVal, hk, accOf], .inr ⟨by decide, by simp [doVal, hk, accOf], hk, by rw [h2, doNew_st xs 2 _ _ 0 rfl]; rfl, .inl rfl⟩⟩
  unfold stepI
  split
  · exact ld _ rfl rfl
  split
  · exact sw _ _ rfl rfl
  split
  · exact ld _ rfl rfl
  split
  · cases hp : hasP xs n i
    · exact ⟨0, 0, 0, 0, 0, by simp [takeVal, hp, accOf], .inl ⟨rfl, rfl, rfl, rfl, rfl, st_none hp⟩⟩
    · have ht := hasP_there hp
      have hok : doOk xs 4 (pc n i) = true := by simp [doOk, isKind, ht]
      exact ⟨4, pc n i, 0, 0, wordAt xs (pc n i), by simp [takeVal, hp, accOf], .inr ⟨by decide, by simp [doVal, hok, accOf], hok, by rw [doNew_st xs 4 _ _ 0 rfl]; rfl, .inr (.inl rfl)⟩⟩
  split
  · exact sw _ _ rfl rfl
  · exact ld _ rfl rfl
end Go.Proofs.YtigdbokfapedcaaGreat
/- Waiting: each word stays one; a step keeps their number. -/
set_option linter.unusedVariables false
set_option linter.unusedSimpArgs false
namespace Go.Proofs.YtigdbokfapedcaaGreat
open Go.RowKit

theorem wf_mk {n : Int} (h0 : 0 ≤ n) (h1 : n < 4294967296) : (Lit.int .u32 n).wf = true := by
  have e1 : IntKind.u32.min = 0 := rfl
  have e2 : IntKind.u32.max = 4294967295 := rfl
  simp only [Lit.wf, Bool.and_eq_true, decide_eq_true_eq]
  omega
theorem Words.st {xs : List Int} (h : Words xs) (c : Int) {u : Int} (h0 : 0 ≤ u) (h1 : u < 4294967296) : Words (Go.Proofs.YtigdbokfapedcaaGreat.st xs c u) := by
  unfold Go.Proofs.YtigdbokfapedcaaGreat.st
  split
  · intro n hn
    rcases List.mem_or_eq_of_mem_set hn with hn | rfl
    · exact h n hn
    · exact wf_mk h0 h1
  · exact h
theorem Words.step {xs : List Int} (h : Words xs) (n mode i s c : Int) (q : Int → Bool) : Words (stepI xs n mode i s c q).xs := by
  unfold stepI
  split
  · exact h
  split
  · exact h.st _ (by omega) (by omega)
  split
  · exact h
  split
  · exact h.st _ (by omega) (by omega)
  split
  · exact h.st _ (by omega) (by omega)
  · exact h
theorem step_len (xs : List Int) (n mode i s c : Int) (q : Int → Bool) : (stepI xs n mode i s c q).xs.length = xs.length := by
  unfold stepI
  split
  · rfl
  split
  · exact st_len _ _ _
  split
  · rfl
  split
  · exact st_len _ _ _
  split
  · exact st_len _ _ _
  · rfl
/-- Of a function that never holds nothing is seen. -/
theorem step_never (xs : List Int) (n mode i s c : Int) : (stepI xs n mode i s c (fun _ => false)).seen = false := by
  unfold stepI
  split
  · rfl
  split
  · rfl
  split
  · rfl
  split
  · rfl
  split
  · rfl
  · rfl
end Go.Proofs.YtigdbokfapedcaaGreat
/- Waking: plain functions; returns of two structs that lie in blocks of their own. -/
set_option linter.unusedVariables false
set_option linter.unusedSimpArgs false
namespace Go.Proofs.YtigdbokfapedcaaGreat
open Go.RowKit

/-- A wake-up. -/
structure WkV where
  on : Bool
  c : Int
  i : Int
  hit : Bool

def WkV.v (k : WkV) : Value := .agg #[.bool k.on, .int .i64 k.c, .int .i64 k.i, .bool k.hit]
def wk0 : WkV := ⟨false, 0, 0, false⟩

/-- What a step of a wake-up tells, and leaves. -/
structure WakeR where
  next : WkV
  acc : Value
  xs : List Int

/-- The wake-up behind the task i. -/
def nextI (n c i : Int) : WkV := if i + 1 = n then wk0 else ⟨true, c, i + 1, false⟩

def restI (xs : List Int) : WakeR := ⟨wk0, accOf 0 0 0 0 0, xs⟩
def giveI (xs : List Int) (n c i : Int) : WakeR := if there xs (pc n i) then ⟨nextI n c i, doVal xs 2 (pc n i) 1 0, st xs (pc n i) 1⟩ else restI xs
def lookI (xs : List Int) (n c i : Int) : WakeR :=
  if there xs (wc n i) then
    (if wordAt xs (wc n i) = (c + 1) % 4294967296 then ⟨⟨true, c, i, true⟩, doVal xs 1 (wc n i) 0 0, xs⟩ else ⟨nextI n c i, doVal xs 1 (wc n i) 0 0, xs⟩)
  else restI xs
/-- One step. -/
def wakeI (xs : List Int) (n : Int) (on : Bool) (c i : Int) (hit : Bool) : WakeR := if on then (if hit then giveI xs n c i else lookI xs n c i) else restI xs

/-- A return of two structs that lie in blocks of their own. -/
theorem post_two {P : Program} {fn : Func} {R : Ending → World → Prop} {a : Act} {w : World} {p q : Tmp} {ty ty' : TypeId} (h : fn.results = #[.cell p ty, .cell q ty']) {g g' : Nat} {t t' : TypeId} {cs cs' : Array Value} {d d' : TypeDesc}
    (hp : a.tmps.getD p undef = .pointer (some ⟨g, 0, none⟩)) (hg : Row w g t cs) (hu : P.underlying ty = some d) (hd : (match d with | .struct _ | .array _ _ => true | _ => false) = true) (hi : (P.info? ty).map (·.size) = some cs.size)
    (hq : a.tmps.getD q undef = .pointer (some ⟨g', 0, none⟩)) (hg' : Row w g' t' cs') (hu' : P.underlying ty' = some d') (hd' : (match d' with | .struct _ | .array _ _ => true | _ => false) = true) (hi' : (P.info? ty').map (·.size) = some cs'.size)
    (hf : a.defers = []) (hR : R (.returned (.tuple #[.agg cs, .agg cs'])) w) : bodyPost P fn R .ret a w := by
  refine ⟨hf, _, ?_, hR⟩
  have hp' : a.tmps[p]?.getD undef = .pointer (some ⟨g, 0, none⟩) := by simpa using hp
  have hq' : a.tmps[q]?.getD undef = .pointer (some ⟨g', 0, none⟩) := by simpa using hq
  simp [results, h, hp', hq', asAddr, run_loadVar_row w g t ty cs (0, 0) d hg hu hd hi, run_loadVar_row w g' t' ty' cs' (0, 0) d' hg' hu' hd' hi']

/-- The same, and a value more. -/
theorem post_two_tmp {P : Program} {fn : Func} {R : Ending → World → Prop} {a : Act} {w : World} {p q u : Tmp} {ty ty' : TypeId} (h : fn.results = #[.cell p ty, .cell q ty', .tmp u]) {g g' : Nat} {t t' : TypeId} {cs cs' : Array Value} {d d' : TypeDesc}
    (hp : a.tmps.getD p undef = .pointer (some ⟨g, 0, none⟩)) (hg : Row w g t cs) (hu : P.underlying ty = some d) (hd : (match d with | .struct _ | .array _ _ => true | _ => false) = true) (hi : (P.info? ty).map (·.size) = some cs.size)
    (hq : a.tmps.getD q undef = .pointer (some ⟨g', 0, none⟩)) (hg' : Row w g' t' cs') (hu' : P.underlying ty' = some d') (hd' : (match d' with | .struct _ | .array _ _ => true | _ => false) = true) (hi' : (P.info? ty').map (·.size) = some cs'.size)
    (hf : a.defers = []) (hR : R (.returned (.tuple #[.agg cs, .agg cs', a.tmps.getD u undef])) w) : bodyPost P fn R .ret a w := by
  refine ⟨hf, _, ?_, hR⟩
  have hp' : a.tmps[p]?.getD undef = .pointer (some ⟨g, 0, none⟩) := by simpa using hp
  have hq' : a.tmps[q]?.getD undef = .pointer (some ⟨g', 0, none⟩) := by simpa using hq
  simp [results, h, hp', hq', asAddr, run_loadVar_row w g t ty cs (0, 0) d hg hu hd hi, run_loadVar_row w g' t' ty' cs' (0, 0) d' hg' hu' hd' hi']

/-- A struct of four cells stored into a block. -/
theorem four {w : World} {g : Nat} {t : TypeId} {a0 a1 a2 a3 : Value} (h : Row w g t #[a0, a1, a2, a3]) (v0 v1 v2 v3 : Value) :
    Row ((((w.setCell ⟨g, 0, none⟩ v0).setCell ⟨g, 1, none⟩ v1).setCell ⟨g, 2, none⟩ v2).setCell ⟨g, 3, none⟩ v3) g t #[v0, v1, v2, v3] := by
  simpa using (((h.set 0 v0).set 1 v1).set 2 v2).set 3 v3

theorem four_only {S : Nat → Prop} {w w' : World} (h : Only S w w') {g : Nat} (hg : w.heap.size ≤ g ∨ S g) (v0 v1 v2 v3 : Value) :
    Only S w ((((w'.setCell ⟨g, 0, none⟩ v0).setCell ⟨g, 1, none⟩ v1).setCell ⟨g, 2, none⟩ v2).setCell ⟨g, 3, none⟩ v3) :=
  (((h.setCell (p := ⟨g, 0, none⟩) hg v0).setCell (p := ⟨g, 1, none⟩) hg v1).setCell (p := ⟨g, 2, none⟩) hg v2).setCell (p := ⟨g, 3, none⟩) hg v3
end Go.Proofs.YtigdbokfapedcaaGreat
/- wake.Begin, and the answer's. -/
set_option linter.unusedVariables false
set_option linter.unusedSimpArgs false
namespace Go.Proofs.YtigdbokfapedcaaGreat
open Go.RowKit

/-- A wake-up at first. -/
def beginI (mode c : Int) : WkV := if mode = 2 then ⟨true, c, 0, false⟩ else wk0

theorem beginI_2 (c : Int) : beginI 2 c = ⟨true, c, 0, false⟩ := rfl

theorem beginI_no {mode : Int} (h : mode ≠ 2) (c : Int) : beginI mode c = wk0 := if_neg h

theorem begin_any (mode c : Int) (w : World) : Calls Tryz.prog 194 #[.int .i64 mode, .int .i64 c] w fun e w' => e = .returned (beginI mode c).v ∧ Only Nil w w' := by
  by_cases hm : mode = 2
  · subst hm
    rw [beginI_2]
    go_enter Tryz.func194, Tryz.ntmps194
    go_wp2
    exact post_row (P := Tryz.prog) Tryz.results194 (t := 82) (by rfl) (Row.new _ _ _) Tryz.underlying82 rfl (by kernel_rfl) rfl ⟨rfl, (Only.refl _ _).alloc _⟩
  · rw [beginI_no hm]
    have h2 : (mode != 2) = true := bne_iff_ne.2 hm
    clear hm
    go_enter Tryz.func194, Tryz.ntmps194
    go_wp2
    exact post_row (P := Tryz.prog) Tryz.results194 (t := 82) (by rfl) (Row.new _ _ _) Tryz.underlying82 rfl (by kernel_rfl) rfl ⟨rfl, (Only.refl _ _).alloc _⟩
end Go.Proofs.YtigdbokfapedcaaGreat
/- Lists of notes. -/
set_option linter.unusedVariables false
set_option linter.unusedSimpArgs false
namespace Go.Proofs.YtigdbokfapedcaaGreat
open Go.RowKit

def flat1 (n : Nt) : List Value := [.int .i64 n.t, .int .i64 n.w, .int .i64 n.o, .int .i64 n.a]

def flat : List Nt → List Value
  | [] => []
  | n :: r => flat1 n ++ flat r

theorem flat_len : ∀ zs, (flat zs).length = zs.length * 4
  | [] => rfl
  | n :: r => by rw [flat, List.length_append, flat_len r, List.length_cons]; show 4 + _ = _; omega

theorem flat_app : ∀ zs ys, flat (zs ++ ys) = flat zs ++ flat ys
  | [], ys => rfl
  | n :: r, ys => by rw [List.cons_append, flat, flat, flat_app r ys, List.append_assoc]

theorem flat_get : ∀ (zs : List Nt) (i : Nat) (n : Nt) (j : Nat), zs[i]? = some n → j < 4 → (flat zs)[i * 4 + j]? = (flat1 n)[j]?
  | [], i, n, j, h, _ => by simp at h
  | m :: r, 0, n, j, h, hj => by
    simp only [List.getElem?_cons_zero, Option.some.injEq] at h
    subst h
    rw [flat, List.getElem?_append_left (by show _ < 4; omega), Nat.zero_mul, Nat.zero_add]
  | m :: r, i + 1, n, j, h, hj => by
    rw [flat, List.getElem?_append_right (by show 4 ≤ _; omega), show (i + 1) * 4 + j - (flat1 m).length = i * 4 + j by show (i + 1) * 4 + j - 4 = _; omega]
    exact flat_get r i n j (by simpa using h) hj

/-- What stands at a note's four cells. -/
structure At4 (w : World) (b q : Nat) (n : Nt) : Prop where
  c0 : w.cell? ⟨b, q, none⟩ = some (.int .i64 n.t)
  c1 : w.cell? ⟨b, q + 1, none⟩ = some (.int .i64 n.w)
  c2 : w.cell? ⟨b, q + 2, none⟩ = some (.int .i64 n.o)
  c3 : w.cell? ⟨b, q + 3, none⟩ = some (.int .i64 n.a)

/-- A slice at A, as long as zs is, reads as these notes. -/
def Notes (w : World) (A : Option Addr) (zs : List Nt) : Prop := 0 < zs.length → ∃ b q, A = some ⟨b, q, none⟩ ∧ b < w.heap.size ∧ ∀ (i : Nat) (n : Nt), zs[i]? = some n → At4 w b (q + i * 4) n

theorem At4.only {w w' : World} {b q : Nat} {n : Nt} (h : At4 w b q n) (ho : Only Nil w w') (hb : b < w.heap.size) : At4 w' b q n :=
  ⟨(ho.cell (p := ⟨b, q, none⟩) hb id).trans h.c0, (ho.cell (p := ⟨b, q + 1, none⟩) hb id).trans h.c1, (ho.cell (p := ⟨b, q + 2, none⟩) hb id).trans h.c2, (ho.cell (p := ⟨b, q + 3, none⟩) hb id).trans h.c3⟩

theorem Notes.only {w w' : World} {A : Option Addr} {zs : List Nt} (h : Notes w A zs) (ho : Only Nil w w') : Notes w' A zs := fun h0 => by
  obtain ⟨b, q, e, hb, hc⟩ := h h0
  exact ⟨b, q, e, Nat.lt_of_lt_of_le hb ho.size, fun i n hi => (hc i n hi).only ho hb⟩

/-- A list of these notes, that the call made. -/
def OwnN (base : Nat) (w : World) (v : Value) (zs : List Nt) : Prop := w.ownsRow base 59 4 v zs.length (flat zs)

theorem OwnN.only {base : Nat} {w w' : World} {v : Value} {zs : List Nt} (h : OwnN base w v zs) (ho : Only Nil w w') : OwnN base w' v zs := own_only h ho (fun _ _ => id)

theorem ownN_nil (base : Nat) (w : World) : OwnN base w (.slice none 0 0) [] := World.ownsRow_nil _ _ _ _

/-- It is a list of these notes. -/
def ListN (w : World) (v : Value) (zs : List Nt) : Prop := ∃ A c, v = .slice A zs.length c ∧ Notes w A zs

theorem ListN.only {w w' : World} {v : Value} {zs : List Nt} (h : ListN w v zs) (ho : Only Nil w w') : ListN w' v zs := by
  obtain ⟨A, c, hv, hn⟩ := h
  exact ⟨A, c, hv, hn.only ho⟩

theorem OwnN.list {base : Nat} {w : World} {v : Value} {zs : List Nt} (h : OwnN base w v zs) : ListN w v zs := by
  rcases h.2 with ⟨rfl, hn⟩ | ⟨g, cap, cur, hv, hb, hg, hc, _⟩
  · obtain rfl := List.eq_nil_of_length_eq_zero hn
    exact ⟨none, 0, rfl, fun h => absurd h (by simp)⟩
  · refine ⟨_, cap, hv, fun _ => ⟨g, 0, rfl, (Array.getElem?_eq_some_iff.1 hg).1, fun i n hi => ?_⟩⟩
    have hcell : ∀ j u, (flat1 n)[j]? = some u → w.cell? ⟨g, 0 + i * 4 + j, none⟩ = some u := fun j u hj => by
      have h1 := World.ownsRow.cells h (g := g) (by rw [hv]; rfl) (i * 4 + j) u (by rw [flat_get zs i n j hi (List.getElem?_eq_some_iff.1 hj).1]; exact hj)
      rwa [add_at, ← Nat.add_assoc] at h1
    exact ⟨hcell 0 _ rfl, hcell 1 _ rfl, hcell 2 _ rfl, hcell 3 _ rfl⟩

theorem infoN : (Tryz.prog.info? 59).map (fun i => (i.zero, i.size, i.bytes)) = some (some (.agg #[.int .i64 0, .int .i64 0, .int .i64 0, .int .i64 0]), 4, 32) := by kernel_rfl

theorem wp_appN {w : World} {ops : Array Oper} {rest : List Oper} {o : Oper} {a : Act} {Q : Exit → Act → World → Prop} (hgd : o.guard = none) (s x : Operand)
    (ho : o.op = .call { callee := .builtin .append, args := #[s, x], argTypes := #[29, 29] })
    (base : Nat) (v : Value) (zs : List Nt) (hs : a.eval s = v) (hown : OwnN base w v zs)
    (g : Nat) (n : Nt) (hx : a.eval x = .slice (some ⟨g, 0, none⟩) 1 1) (hrow : Row w g 59 #[.int .i64 n.t, .int .i64 n.w, .int .i64 n.o, .int .i64 n.a])
    (h1 : zs.length ≤ 1000) (hbase : base ≤ w.heap.size)
    (h : ∀ v' w', OwnN base w' v' (zs ++ [n]) → (∀ w0, Only Nil w0 w → w0.heap.size ≤ base → Only Nil w0 w') → wpList Tryz.prog ops Q rest (a.put o.dst v') w') : wpList Tryz.prog ops Q (o :: rest) a w := by
  obtain ⟨i0, hi, hz0, hz1, hz2⟩ := info_parts infoN
  refine wpList_append_own w hgd s x 29 ho base 59 i0 (.agg #[.int .i64 0, .int .i64 0, .int .i64 0, .int .i64 0]) 4 32 Tryz.underlying29 hi hz0 hz1 hz2 rfl (by decide) v zs.length (flat zs) hs hown ⟨g, 0, none⟩ 1 1 (flat1 n) hx rfl (fun j u hj => ?_) (fun u hu => ?_) (by unfold maxLen; omega) (by omega) hbase (fun v' w' hO hG _ => ?_)
  · rw [add_at, Nat.zero_add]
    exact hrow.cell_ (by rw [← hj]; simp [flat1])
  · unfold flat1 at hu
    simp only [List.mem_cons, List.not_mem_nil, or_false] at hu
    rcases hu with rfl | rfl | rfl | rfl <;> rfl
  · refine h v' w' ?_ (fun w0 h0 hb => h0.grown hG (fun k hk => .inl ?_))
    · unfold OwnN
      rw [flat_app, List.length_append, show flat [n] = flat1 n from List.append_nil _]
      exact hO
    · obtain ⟨hk1, _⟩ := World.ownsRow.lt hown k hk
      omega
end Go.Proofs.YtigdbokfapedcaaGreat
/- What is waited for, plain: the law's Until. -/
set_option linter.unusedVariables false
set_option linter.unusedSimpArgs false
namespace Go.Proofs.YtigdbokfapedcaaGreat
open Go.RowKit

/-- Does it hold of a word? -/
def uIs (k m x v : Int) : Bool :=
  if k = 0 then bits .and .u32 v m == x else if k = 1 then bits .and .u32 v m != x else if k = 2 then v / 256 % 256 == v / 65536 % 256 else if k = 3 then decide (v / 256 % 256 = x) && (v % 256 == 0) else false

theorem ret_bool {a b : Bool} (h : a = b) : Ending.returned (.bool a) = .returned (.bool b) := by rw [h]
end Go.Proofs.YtigdbokfapedcaaGreat
/- A run, in plain words: what it keeps, its cells; what each call leaves of it. -/
set_option linter.unusedVariables false
set_option linter.unusedSimpArgs false
namespace Go.Proofs.YtigdbokfapedcaaGreat
open Go.RowKit

/-- An access as told. -/
structure Acc5 where
  k : Int
  c : Int
  x : Int
  y : Int
  o : Int
def Acc5.v (a : Acc5) : Value := .agg #[.int .i64 a.k, .int .i64 a.c, .int .u32 a.x, .int .u32 a.y, .int .u32 a.o]
def acc0 : Acc5 := ⟨0, 0, 0, 0, 0⟩
/-- What an access tells. -/
def accI (xs : List Int) (k c x y : Int) : Acc5 := if doOk xs k c then ⟨k, c, x, y, wordAt xs c⟩ else acc0
theorem doVal_acc (xs : List Int) (k c x y : Int) : doVal xs k c x y = (accI xs k c x y).v := by
  unfold doVal accI accOf
  split <;> rfl
theorem acc_old {xs : List Int} {k c x y : Int} (hk : isKind k = true) : (accI xs k c x y).o = wordAt xs c := by
  unfold accI
  by_cases h : doOk xs k c = true
  · rw [if_pos h]
  · rw [if_neg h]
    have ht : there xs c = false := by
      cases e : there xs c
      · rfl
      · exact absurd (by simp [doOk, e, hk]) h
    simp [wordAt, ht, acc0]
/-- The access that a value is. -/
def ofV : Value → Acc5
  | .agg ⟨[.int _ k, .int _ c, .int _ x, .int _ y, .int _ o]⟩ => ⟨k, c, x, y, o⟩
  | _ => acc0
theorem ofV_eq {v : Value} (h : ∃ ka ca xa ya oa : Int, v = .agg #[.int .i64 ka, .int .i64 ca, .int .u32 xa, .int .u32 ya, .int .u32 oa]) : v = (ofV v).v := by
  obtain ⟨ka, ca, xa, ya, oa, rfl⟩ := h
  rfl
theorem ofV_step (xs : List Int) (n mode i s c : Int) (q : Int → Bool) : (stepI xs n mode i s c q).acc = (ofV (stepI xs n mode i s c q).acc).v := by
  obtain ⟨ka, ca, xa, ya, oa, h, _⟩ := step_access xs n mode i s c q
  exact ofV_eq ⟨ka, ca, xa, ya, oa, h⟩
theorem wake_form5 (xs : List Int) (n : Int) (on : Bool) (c i : Int) (hit : Bool) : ∃ ka ca xa ya oa : Int, (wakeI xs n on c i hit).acc = .agg #[.int .i64 ka, .int .i64 ca, .int .u32 xa, .int .u32 ya, .int .u32 oa] := by
  have hv := fun k c x y => doVal_form xs k c x y
  unfold wakeI giveI lookI restI
  repeat' split
  all_goals first | exact ⟨0, 0, 0, 0, 0, rfl⟩ | (obtain ⟨k', c', x', y', e⟩ := hv 2 (pc n i) 1 0; exact ⟨_, _, _, _, _, e⟩) | (obtain ⟨k', c', x', y', e⟩ := hv 1 (wc n i) 0 0; exact ⟨_, _, _, _, _, e⟩)
theorem ofV_wake (xs : List Int) (n : Int) (on : Bool) (c i : Int) (hit : Bool) : (wakeI xs n on c i hit).acc = (ofV (wakeI xs n on c i hit).acc).v := ofV_eq (wake_form5 xs n on c i hit)

/-- A run: the lock's number of tasks, the mode, the task, its frame, the access, the notes; the words. -/
structure LS where
  n : Int
  mode : Int
  task : Int
  op : Int
  line : Int
  a : Int
  b : Int
  s : Int
  k : WkV
  ret : Int
  acc : Acc5
  ns : List Nt
  xs : List Int

/-- Its cells: h is the memory's pointer, or the words' list, nv the notes' list. -/
def LS.cells (r : LS) (h nv : Value) : Array Value :=
  #[h, .int .i64 r.n, .int .i64 r.mode, .int .i64 r.task, .int .i64 r.op, .int .i64 r.line, .int .u32 r.a, .int .u32 r.b, .int .i64 r.s, .bool r.k.on, .int .i64 r.k.c, .int .i64 r.k.i, .bool r.k.hit, .int .i64 r.ret,
    .int .i64 r.acc.k, .int .i64 r.acc.c, .int .u32 r.acc.x, .int .u32 r.acc.y, .int .u32 r.acc.o, nv]
/-- Its frame's cells. -/
def LS.frame (r : LS) : Array Value := #[.int .i64 r.op, .int .i64 r.line, .int .u32 r.a, .int .u32 r.b, .int .i64 r.s, .bool r.k.on, .int .i64 r.k.c, .int .i64 r.k.i, .bool r.k.hit, .int .i64 r.ret]

def LS.doA (r : LS) (k c x y : Int) : LS := { r with acc := accI r.xs k c x y, xs := doNew r.xs k c x y }
def LS.stepR (r : LS) (c : Int) (q : Int → Bool) : StepR := stepI r.xs r.n r.mode r.task r.s c q
def LS.wait (r : LS) (c : Int) (q : Int → Bool) : LS := { r with s := (r.stepR c q).next, acc := ofV (r.stepR c q).acc, xs := (r.stepR c q).xs }
def LS.note (r : LS) (what arg : Int) : LS := { r with ns := r.ns ++ [⟨r.task, what, 0, arg⟩] }
def LS.go (r : LS) (l : Int) : LS := { r with line := l }
def LS.fin (r : LS) (ok : Bool) : LS := { r with ret := if ok then 2 else 1 }
def LS.wake (r : LS) (c : Int) : LS := { r with k := beginI r.mode c }
def LS.fresh (r : LS) : LS := { r with acc := acc0, ns := [] }
def LS.wakeR (r : LS) : WakeR := wakeI r.xs r.n r.k.on r.k.c r.k.i r.k.hit
def LS.waking (r : LS) : LS := { r with acc := ofV r.wakeR.acc, ns := [], k := r.wakeR.next, xs := r.wakeR.xs }
def LS.over (r : LS) : Bool := (r.ret != 0) && !r.k.on
def LS.stuck (r : LS) : Bool := !r.k.on && stuckB r.xs r.n r.mode r.task r.s

/-- A call within a step. -/
structure OpV where
  k : Int
  c : Int
  n : Int
  x : Int
  y : Int
  uk : Int
  um : Int
  ux : Int

/-- What a call leaves, and tells. -/
structure OpR where
  r : LS
  v : Int
  b : Bool
  c : Bool
def LS.opR (r : LS) (o : OpV) : OpR :=
  if o.k = 0 then ⟨r.doA 1 o.c 0 0, wordAt r.xs o.c, false, false⟩
  else if o.k = 1 then ⟨r.doA 2 o.c o.x 0, 0, false, false⟩
  else if o.k = 2 then ⟨r.doA 3 o.c o.x 0, wordAt r.xs o.c, false, false⟩
  else if o.k = 3 then ⟨r.doA 4 o.c o.x 0, wordAt r.xs o.c, false, false⟩
  else if o.k = 4 then ⟨r.doA 5 o.c o.x o.y, 0, there r.xs o.c && (wordAt r.xs o.c == o.x), false⟩
  else if o.k = 5 then ⟨r.wait o.c (uIs o.uk o.um o.ux), 0, (r.stepR o.c (uIs o.uk o.um o.ux)).seen, (r.stepR o.c (uIs o.uk o.um o.ux)).done⟩
  else if o.k = 6 then ⟨r.note o.n o.c, 0, false, false⟩
  else if o.k = 7 then ⟨r.go o.n, 0, false, false⟩
  else if o.k = 8 then ⟨r.fin (o.x % 2 == 0), 0, false, false⟩
  else if o.k = 9 then ⟨r.wake o.c, 0, false, false⟩
  else ⟨r, 0, false, false⟩
def bitI (b : Bool) : Int := if b then 1 else 0
/-- What a call tells, as words. -/
def OpR.out (t : OpR) : List Int := [t.v, bitI t.b, bitI t.c]
/-- One call more. -/
def opNext (p : LS × List Int) (o : OpV) : LS × List Int := ((p.1.opR o).r, p.2 ++ (p.1.opR o).out)
/-- The calls, one by one. -/
def LS.opsI (r : LS) (l : List OpV) : LS × List Int := l.foldl opNext (r, [])
theorem ops_next {r : LS} {l : List OpV} {k : Nat} {o : OpV} (h : l[k]? = some o) : r.opsI (l.take (k + 1)) = opNext (r.opsI (l.take k)) o := by
  unfold LS.opsI
  rw [List.take_add_one, h, List.foldl_append]
  rfl

/-- What never changes; the words stay words, as many as they were. -/
structure LS.Keeps (r r' : LS) : Prop where
  n : r'.n = r.n
  mode : r'.mode = r.mode
  task : r'.task = r.task
  len : r'.xs.length = r.xs.length
  words : Words r.xs → Words r'.xs
theorem LS.Keeps.refl (r : LS) : r.Keeps r := ⟨rfl, rfl, rfl, rfl, id⟩
theorem LS.Keeps.trans {r r' r'' : LS} (h : r.Keeps r') (k : r'.Keeps r'') : r.Keeps r'' := ⟨k.n.trans h.n, k.mode.trans h.mode, k.task.trans h.task, k.len.trans h.len, k.words ∘ h.words⟩
end Go.Proofs.YtigdbokfapedcaaGreat
/- A step of a run, in plain words, whatever its lines are. -/
set_option linter.unusedVariables false
set_option linter.unusedSimpArgs false
namespace Go.Proofs.YtigdbokfapedcaaGreat
open Go.RowKit

/-- A step of a run whose operation's lines do L. -/
def LS.next (L : LS → LS) (r : LS) : LS := if r.k.on then r.waking else L r.fresh
end Go.Proofs.YtigdbokfapedcaaGreat
/- A lock that nobody waits for, in plain words: its own eight cells, and all others 0; an operation by itself. -/
set_option linter.unusedVariables false
set_option linter.unusedSimpArgs false
namespace Go.Proofs.YtigdbokfapedcaaGreat
open Go.RowKit

/-- The words: the lock's own, then those of k tasks, all 0. -/
def clean (os : List Int) (k : Nat) : List Int := os ++ List.replicate (4 * k) 0

section
variable {os : List Int} {k : Nat}
theorem clean_len (h : os.length = 8) : (clean os k).length = 8 + 4 * k := by simp [clean, h]
theorem clean_own (h : os.length = 8) {i : Nat} (hi : i < 8) : wordAt (clean os k) i = os.getD i 0 := by
  have ht : there (clean os k) i = true := by simp [there, clean_len h]; omega
  unfold wordAt
  rw [if_pos ht]
  simp only [Int.toNat_natCast, clean, List.getD]
  rw [List.getElem?_append_left (by omega)]
theorem clean_there (h : os.length = 8) {i : Nat} (hi : i < 8 + 4 * k) : there (clean os k) i = true := by simp [there, clean_len h]; omega
theorem clean_zero (h : os.length = 8) {i : Nat} (hi : 8 ≤ i) : wordAt (clean os k) i = 0 := by
  unfold wordAt
  split
  · simp only [Int.toNat_natCast, clean, List.getD]
    rw [List.getElem?_append_right (by omega), List.getElem?_replicate]
    split <;> rfl
  · rfl
theorem clean_set (h : os.length = 8) {i : Nat} (hi : i < 8) (v : Int) : (clean os k).set i v = clean (os.set i v) k := by
  unfold clean
  rw [List.set_append, if_pos (by omega)]
theorem clean_do (h : os.length = 8) {i : Nat} (hi : i < 8) {kd : Int} (hk : isKind kd = true) (x y : Int) : doNew (clean os k) kd i x y = clean (os.set i (leftOf kd x y (os.getD i 0))) k := by
  have ht : there (clean os k) i = true := clean_there h (by omega)
  rw [← clean_own (k := k) h hi, ← clean_set h hi]
  simp [doNew, doOk, ht, hk]
theorem wc_clean (h : os.length = 8) (hk : 1 ≤ k ∧ k ≤ 64) {i : Nat} (hi : i < k) : there (clean os k) (wc k i) = true ∧ wordAt (clean os k) (wc k i) = 0 := by
  have e : wc (k : Int) (i : Int) = ((8 + 2 * k + i : Nat) : Int) := by
    unfold wc cellI
    rw [if_pos (by omega)]
    push_cast
    omega
  rw [e]
  exact ⟨clean_there h (by omega), clean_zero h (by omega)⟩
end

/-- An operation by itself: in so many steps at most, and as long as it isn't stopped: its result (0: it isn't over), and the words then. -/
def aloneG (chk : LS → Bool) (L : LS → LS) : Nat → LS → Int × List Int
  | 0, r => (0, r.xs)
  | m + 1, r => if chk r then (0, r.xs) else if (r.next L).over then ((r.next L).ret, (r.next L).xs) else aloneG chk L m (r.next L)
/-- What never stops. -/
def chkN : LS → Bool := fun _ => false
def aloneL (L : LS → LS) (m : Nat) (r : LS) : Int × List Int := aloneG chkN L m r
/-- What stops only one that waits. -/
structure Chk (chk : LS → Bool) : Prop where
  fresh : ∀ r : LS, chk r.fresh = chk r
  free : ∀ r : LS, r.s = 0 → chk r = false
theorem chk_n : Chk chkN := ⟨fun _ => rfl, fun _ _ => rfl⟩
theorem chk_stuck : Chk LS.stuck := ⟨fun _ => rfl, fun r h => by
  unfold LS.stuck stuckB
  rw [h]
  simp⟩

section
variable {chk : LS → Bool} {L : LS → LS} {r : LS}
theorem next_fresh : r.fresh.next L = r.next L := by unfold LS.next; show (if r.k.on = true then _ else _) = _; split <;> rfl
theorem alone_fresh (hk0 : Chk chk) {m : Nat} (hm : 0 < m) : aloneG chk L m r.fresh = aloneG chk L m r := by
  cases m with
  | zero => omega
  | succ m => unfold aloneG; rw [next_fresh, hk0.fresh]; rfl
/-- Runs that are alike but for what the last step told. -/
theorem alone_like (hk0 : Chk chk) {m : Nat} {r' : LS} (hm : 0 < m) (h : r.fresh = r'.fresh) : aloneG chk L m r = aloneG chk L m r' := by rw [← alone_fresh hk0 hm, h, alone_fresh hk0 hm]
theorem alone_on (hk0 : Chk chk) (h0 : r.s = 0) {m : Nat} (h : (r.next L).over = false) : aloneG chk L (m + 1) r = aloneG chk L m (r.next L) := by
  show (if _ then _ else if _ then _ else _) = _
  rw [if_neg (by rw [hk0.free r h0]; exact Bool.false_ne_true), if_neg (by rw [h]; exact Bool.false_ne_true)]
theorem alone_end (hk0 : Chk chk) (h0 : r.s = 0) {m : Nat} (h : (r.next L).over = true) : aloneG chk L (m + 1) r = ((r.next L).ret, (r.next L).xs) := by
  show (if _ then _ else if _ then _ else _) = _
  rw [if_neg (by rw [hk0.free r h0]; exact Bool.false_ne_true), if_pos h]

/-- A wake-up of a lock that nobody waits for: it looks at each watch, and that is all. -/
theorem alone_sweep (hk0 : Chk chk) {os : List Int} {k : Nat} (ho : os.length = 8) (hk : 1 ≤ k ∧ k ≤ 64) {c : Int} (hc : 0 ≤ c ∧ c < 8) (m : Nat) : ∀ (j : Nat) (r : LS), j < k → r.n = k → r.xs = clean os k → r.k = ⟨true, c, ((k - 1 - j : Nat) : Int), false⟩ → r.s = 0 →
    0 < m ∨ r.ret ≠ 0 → aloneG chk L (j + 1 + m) r = if r.ret ≠ 0 then (r.ret, r.xs) else aloneG chk L m { r with k := wk0 } := by
  intro j
  induction j with
  | zero =>
    intro r hj hn hx hr hs0 hm
    have hw : r.next L = { r with acc := ofV r.wakeR.acc, ns := [], k := wk0 } := by
      unfold LS.next
      rw [show r.k.on = true by rw [hr], if_pos rfl]
      unfold LS.waking LS.wakeR
      rw [hr, hn, hx]
      have hcl := wc_clean (os := os) (k := k) ho hk (i := k - 1 - 0) (by omega)
      simp only [wakeI, lookI, if_true, hcl.1, hcl.2, Bool.false_eq_true, if_false]
      rw [if_neg (by omega)]
      simp only [nextI]
      rw [if_pos (by omega)]
    by_cases hret : r.ret = 0
    · rw [if_neg (by simpa using hret)]
      have hm0 : 0 < m := by rcases hm with h | h; exact h; exact absurd hret h
      rw [show 0 + 1 + m = m + 1 by omega, alone_on hk0 hs0 (by rw [hw]; simp [LS.over, hret]), hw]
      exact alone_like hk0 hm0 rfl
    · rw [if_pos hret, show 0 + 1 + m = m + 1 by omega, alone_end hk0 hs0 (by rw [hw]; simp [LS.over, hret, wk0]), hw]
  | succ j ih =>
    intro r hj hn hx hr hs0 hm
    have hw : r.next L = { r with acc := ofV r.wakeR.acc, ns := [], k := ⟨true, c, ((k - 1 - j : Nat) : Int), false⟩ } := by
      unfold LS.next
      rw [show r.k.on = true by rw [hr], if_pos rfl]
      unfold LS.waking LS.wakeR
      rw [hr, hn, hx]
      have hcl := wc_clean (os := os) (k := k) ho hk (i := k - 1 - (j + 1)) (by omega)
      simp only [wakeI, lookI, if_true, hcl.1, hcl.2, Bool.false_eq_true, if_false]
      rw [if_neg (by omega)]
      simp only [nextI]
      rw [if_neg (by omega), show ((k - 1 - (j + 1) : Nat) : Int) + 1 = ((k - 1 - j : Nat) : Int) by omega]
    rw [show j + 1 + 1 + m = (j + 1 + m) + 1 by omega, alone_on hk0 hs0 (by rw [hw]; simp [LS.over]), hw]
    refine (ih { r with acc := ofV r.wakeR.acc, ns := [], k := ⟨true, c, ((k - 1 - j : Nat) : Int), false⟩ } (by omega) hn hx rfl hs0 hm).trans ?_
    by_cases hret : r.ret = 0
    · rw [if_neg (by simpa using hret), if_neg (by simpa using hret)]
      exact alone_like hk0 (hm.resolve_right (by simpa using hret)) rfl
    · rw [if_pos hret, if_pos hret]

/-- Behind a line that begins a wake-up, and in so many steps as it takes in either mode. -/
theorem alone_woken (hk0 : Chk chk) {os : List Int} {k : Nat} (ho : os.length = 8) (hk : 1 ≤ k ∧ k ≤ 64) {c : Int} (hc : 0 ≤ c ∧ c < 8) {m : Nat} {r : LS} {mode : Int} (hn : r.n = k) (hx : r.xs = clean os k) (hr : r.k = beginI mode c) (hret : r.ret = 0) (hs0 : r.s = 0) (hm : k < m) :
    ∃ m', m ≤ m' + k ∧ aloneG chk L m r = aloneG chk L m' { r with k := wk0 } := by
  by_cases h2 : mode = 2
  · subst h2
    refine ⟨m - k, by omega, ?_⟩
    have e := alone_sweep (L := L) hk0 ho hk hc (m - k) (k - 1) r (by omega) hn hx (by rw [hr, beginI_2]; simp) hs0 (.inl (by omega))
    rw [show k - 1 + 1 + (m - k) = m by omega, if_neg (by simpa using hret)] at e
    exact e
  · refine ⟨m, by omega, ?_⟩
    rw [beginI_no h2] at hr
    have : { r with k := wk0 } = r := by cases r; simp only at hr; subst hr; rfl
    rw [this]
/-- Behind the last line, whether it begins a wake-up or not. -/
theorem alone_done (hk0 : Chk chk) {os : List Int} {k : Nat} (ho : os.length = 8) (hk : 1 ≤ k ∧ k ≤ 64) {c : Int} (hc : 0 ≤ c ∧ c < 8) {m : Nat} {r r' : LS} {mode : Int} (he : r.next L = r') (hn : r'.n = k) (hx : r'.xs = clean os k) (hr : r'.k = beginI mode c) (hret : r'.ret ≠ 0) (hs0 : r.s = 0) (hs1 : r'.s = 0) (hm : k < m) :
    aloneG chk L m r = (r'.ret, r'.xs) := by
  obtain ⟨m, rfl⟩ : ∃ q, m = q + 1 := ⟨m - 1, by omega⟩
  by_cases h2 : mode = 2
  · subst h2
    rw [alone_on hk0 hs0 (by rw [he]; simp [LS.over, hr, beginI_2]), he]
    have e := alone_sweep (L := L) hk0 ho hk hc (m - k) (k - 1) r' (by omega) hn hx (by rw [hr, beginI_2]; simp) hs1 (.inr hret)
    rw [show k - 1 + 1 + (m - k) = m by omega, if_pos hret] at e
    exact e
  · rw [beginI_no h2] at hr
    rw [alone_end hk0 hs0 (by rw [he]; simp [LS.over, hr, wk0, hret]), he]
end
end Go.Proofs.YtigdbokfapedcaaGreat
/- Some tasks over one lock, in plain words: what a pick leaves. -/
set_option linter.unusedVariables false
set_option linter.unusedSimpArgs false
namespace Go.Proofs.YtigdbokfapedcaaGreat
open Go.RowKit

def upd {α : Type} (f : Nat → α) (t : Nat) (v : α) : Nat → α := fun i => if i = t then v else f i
theorem upd_same {α : Type} (f : Nat → α) (t : Nat) (v : α) : upd f t v t = v := if_pos rfl
theorem upd_other {α : Type} (f : Nat → α) {t i : Nat} (v : α) (h : i ≠ t) : upd f t v i = f i := if_neg h

/-- The tasks' runs, what each holds, the words. -/
structure MV where
  rs : Nat → LS
  hold : Nat → Int
  xs : List Int
def MV.at (m : MV) (t : Nat) : LS := { m.rs t with xs := m.xs }
def MV.setR (m : MV) (t : Nat) (r : LS) : MV := ⟨upd m.rs t r, m.hold, r.xs⟩
def MV.setH (m : MV) (t : Nat) (h : Int) : MV := ⟨m.rs, upd m.hold t h, m.xs⟩
/-- A frame that begins op. -/
def zeroF (r : LS) (op : Int) : LS := { r with op := op, line := 0, a := 0, b := 0, s := 0, k := wk0, ret := 0 }
def mayI (op hold : Int) : Bool := if hold = 0 then (op == 1 || op == 3 || op == 5 || op == 6) else if hold = 1 then (op == 2 || op == 7) else (op == 4 || op == 8)
def fromI (op hold : Int) : Int := if op = 2 ∨ op = 4 then 0 else if op = 8 then 1 else hold
def behindI (op ret hold : Int) : Int := if ret ≠ 2 then hold else if op = 1 ∨ op = 5 then 1 else if op = 3 ∨ op = 6 ∨ op = 7 then 2 else hold
def MV.start (m : MV) (t : Nat) (op : Int) : MV := (m.setH t (fromI op (m.hold t))).setR t (zeroF (m.at t) op)
/-- A step of a task that is with an operation. -/
def MV.go (L : LS → LS) (m : MV) (t : Nat) : MV :=
  if (m.at t).stuck then m
  else if ((m.at t).next L).over then ((m.setR t ((m.at t).next L)).setH t (behindI ((m.at t).next L).op ((m.at t).next L).ret (m.hold t))).setR t (zeroF ((m.at t).next L) 0)
  else m.setR t ((m.at t).next L)
/-- A pick. -/
def playI (L : LS → LS) (m : MV) (t : Nat) (op : Int) : MV := if (m.at t).op = 0 then (if mayI op (m.hold t) then (m.start t op).go L t else m) else m.go L t
/-- Picks of a task while it is with an operation. -/
def whileI (L : LS → LS) (t : Nat) : Nat → MV → MV
  | 0, m => m
  | n + 1, m => if (m.at t).op = 0 then m else whileI L t n (playI L m t 0)
def wholeI (L : LS → LS) (m : MV) (t : Nat) (op : Int) : MV := whileI L t 200 (playI L m t op)
/-- How many hold so. -/
def manyI (m : MV) (what : Int) : Nat → Nat
  | 0 => 0
  | k + 1 => if m.hold k = what then manyI m what k + 1 else manyI m what k

section
variable {m : MV} {t i : Nat} {r : LS} {h : Int}
theorem at_setR : (m.setR t r).at t = r := by
  unfold MV.setR MV.at
  simp only [upd_same]
theorem at_setR_other (hi : i ≠ t) : (m.setR t r).at i = { m.rs i with xs := r.xs } := by
  unfold MV.setR MV.at
  simp only [upd_other m.rs r hi]
theorem at_setH : (m.setH t h).at i = m.at i := rfl
theorem at_start {op : Int} : (m.start t op).at t = zeroF (m.at t) op := at_setR
end
end Go.Proofs.YtigdbokfapedcaaGreat
/- What lines keep of a run, whatever the lock is. -/
set_option linter.unusedVariables false
set_option linter.unusedSimpArgs false
namespace Go.Proofs.YtigdbokfapedcaaGreat
open Go.RowKit

def LS.keepA (r : LS) (v : Int) : LS := { r with a := v }
def LS.keepB (r : LS) (v : Int) : LS := { r with b := v }
def LS.mine (r : LS) (v : Int) : Bool := v == r.a
def LS.noteIf (r : LS) (b : Bool) (what : Int) : LS := if b then r.note what 0 else r
end Go.Proofs.YtigdbokfapedcaaGreat
/- What steps leave of a run, whatever the lock's lines are. -/
set_option linter.unusedVariables false
set_option linter.unusedSimpArgs false
namespace Go.Proofs.YtigdbokfapedcaaGreat
open Go.RowKit

theorem word_bd {xs : List Int} (h : Words xs) (c : Int) : 0 ≤ wordAt xs c ∧ wordAt xs c < 4294967296 := word_wf h c
/-- What an access leaves: words, as many as they were. -/
theorem doNew_wordsK {xs : List Int} (h : Words xs) (k c x y : Int) (hl : 0 ≤ leftOf k x y (wordAt xs c) ∧ leftOf k x y (wordAt xs c) < 4294967296) : Words (doNew xs k c x y) := by
  unfold doNew
  split
  · intro n hn
    rcases List.mem_or_eq_of_mem_set hn with hn | rfl
    · exact h n hn
    · exact wf_mk hl.1 hl.2
  · exact h
theorem wake_wordsK {xs : List Int} (h : Words xs) (n : Int) (on : Bool) (c i : Int) (hit : Bool) : Words (wakeI xs n on c i hit).xs := by
  unfold wakeI giveI lookI restI
  repeat' split
  all_goals first | exact h | exact h.st _ (by omega) (by omega)
theorem wake_lenK (xs : List Int) (n : Int) (on : Bool) (c i : Int) (hit : Bool) : (wakeI xs n on c i hit).xs.length = xs.length := by
  unfold wakeI giveI lookI restI
  repeat' split
  all_goals first | rfl | exact st_len _ _ _

/-- What a step may leave of a run: its constants are as they were, its words are words, and so is what it keeps. -/
structure LS.Good (r r' : LS) (m : Nat) : Prop where
  n : r'.n = r.n
  mode : r'.mode = r.mode
  task : r'.task = r.task
  op : r'.op = r.op
  len : r'.xs.length = r.xs.length
  words : Words r.xs → Words r'.xs
  notes : r'.ns.length ≤ r.ns.length + m
section
variable {r : LS}
theorem good_refl (r : LS) : r.Good r 0 := ⟨rfl, rfl, rfl, rfl, rfl, id, Nat.le_refl _⟩
theorem LS.Good.trans {r r' r'' : LS} {m m' : Nat} (h : r.Good r' m) (k : r'.Good r'' m') : r.Good r'' (m + m') :=
  ⟨k.n.trans h.n, k.mode.trans h.mode, k.task.trans h.task, k.op.trans h.op, k.len.trans h.len, k.words ∘ h.words, by have := h.notes; have := k.notes; omega⟩
theorem LS.Good.le {r r' : LS} {m m' : Nat} (h : r.Good r' m) (hm : m ≤ m') : r.Good r' m' := ⟨h.n, h.mode, h.task, h.op, h.len, h.words, by have := h.notes; omega⟩
theorem good_do {k c x y : Int} (hl : Words r.xs → 0 ≤ leftOf k x y (wordAt r.xs c) ∧ leftOf k x y (wordAt r.xs c) < 4294967296) : r.Good (r.doA k c x y) 0 := ⟨rfl, rfl, rfl, rfl, doNew_len _ _ _ _ _, fun h => doNew_wordsK h _ _ _ _ (hl h), Nat.le_refl _⟩
theorem good_load (c : Int) : r.Good (r.doA 1 c 0 0) 0 := good_do (fun h => word_bd h c)
theorem good_add (c x : Int) : r.Good (r.doA 3 c x 0) 0 := good_do (fun h => by show 0 ≤ (x + wordAt r.xs c) % 4294967296 ∧ (x + wordAt r.xs c) % 4294967296 < 4294967296; omega)
theorem good_cas (c x y : Int) (hy : 0 ≤ y ∧ y < 4294967296) : r.Good (r.doA 5 c x y) 0 := good_do (fun h => by
  show 0 ≤ (if wordAt r.xs c = x then y else wordAt r.xs c) ∧ (if wordAt r.xs c = x then y else wordAt r.xs c) < 4294967296
  split
  · exact hy
  · exact word_bd h c)
theorem good_note (what arg : Int) : r.Good (r.note what arg) 1 := ⟨rfl, rfl, rfl, rfl, rfl, id, by simp [LS.note]⟩
theorem good_go (l : Int) : r.Good (r.go l) 0 := ⟨rfl, rfl, rfl, rfl, rfl, id, Nat.le_refl _⟩
theorem good_fin (b : Bool) : r.Good (r.fin b) 0 := ⟨rfl, rfl, rfl, rfl, rfl, id, Nat.le_refl _⟩
theorem good_wake (c : Int) : r.Good (r.wake c) 0 := ⟨rfl, rfl, rfl, rfl, rfl, id, Nat.le_refl _⟩
theorem good_keepA (v : Int) : r.Good (r.keepA v) 0 := ⟨rfl, rfl, rfl, rfl, rfl, id, Nat.le_refl _⟩
theorem good_keepB (v : Int) : r.Good (r.keepB v) 0 := ⟨rfl, rfl, rfl, rfl, rfl, id, Nat.le_refl _⟩
theorem good_wait (c : Int) (q : Int → Bool) : r.Good (r.wait c q) 0 := ⟨rfl, rfl, rfl, rfl, step_len _ _ _ _ _ _ _, fun h => Words.step h _ _ _ _ _ _, Nat.le_refl _⟩
theorem good_fresh : r.Good r.fresh 0 := ⟨rfl, rfl, rfl, rfl, rfl, id, Nat.zero_le _⟩
theorem good_waking : r.Good r.waking 0 := ⟨rfl, rfl, rfl, rfl, wake_lenK _ _ _ _ _ _, fun h => wake_wordsK h _ _ _ _ _, Nat.zero_le _⟩

theorem good_noteIf (b : Bool) (what : Int) : r.Good (r.noteIf b what) 1 := by
  cases b
  · exact (good_refl r).le (by decide)
  · exact good_note _ _
/-- What a step leaves, of any lines that do so. -/
theorem good_next {L : LS → LS} (hL : ∀ r : LS, r.Good (L r) 2) (r : LS) : r.Good (r.next L) 2 ∧ (r.next L).ns.length ≤ 2 := by
  unfold LS.next
  split
  · exact ⟨good_waking.le (by decide), Nat.zero_le _⟩
  · exact ⟨(good_fresh.trans (hL r.fresh)).le (by decide), Nat.le_trans (hL r.fresh).notes (by simp [LS.fresh])⟩
end
end Go.Proofs.YtigdbokfapedcaaGreat
/- How far a word is ahead of another, round the word. -/
namespace Go.Proofs.YtigdbokfapedcaaGreat

/-- How far a is ahead of b, round the word. -/
def aheadI (a b : Int) : Int := (a - b + 2147483648) % 4294967296 - 2147483648
theorem ahead_bd (a b : Int) : -2147483648 ≤ aheadI a b ∧ aheadI a b < 2147483648 := by unfold aheadI; omega

end Go.Proofs.YtigdbokfapedcaaGreat
/- The task-fair lock's lines, in plain words. -/
set_option linter.unusedVariables false
set_option linter.unusedSimpArgs false
namespace Go.Proofs.YtigdbokfapedcaaGreat
open Go.RowKit

/-- Which line it is: 0: none. -/
def tfCase (op line : Int) : Nat :=
  if op = 1 ∧ line = 0 then 1 else if op = 1 ∧ line = 1 then 2 else if op = 1 ∧ line = 2 then 3 else if op = 2 ∧ line = 0 then 4 else if op = 3 ∧ line = 0 then 5 else if op = 3 ∧ line = 1 then 6
  else if op = 4 ∧ line = 0 then 7 else if op = 4 ∧ line = 1 then 8 else if op = 5 ∧ line = 0 then 9 else if op = 5 ∧ line = 1 then 10 else if op = 5 ∧ line = 2 then 11 else if op = 5 ∧ line = 3 then 12
  else if op = 6 ∧ line = 0 then 13 else if op = 6 ∧ line = 1 then 14 else if op = 6 ∧ line = 2 then 15 else if op = 7 ∧ line = 0 then 16 else if op = 7 ∧ line = 1 then 17 else if op = 7 ∧ line = 2 then 18 else if op = 7 ∧ line = 3 then 19
  else if op = 8 ∧ line = 0 then 20 else 0

def LS.draw (r : LS) (cl : Int) : LS := (((r.doA 3 0 1 0).keepA (wordAt r.xs 0)).note 2 cl).go 1
def LS.awaitR (r : LS) : LS := if (r.stepR 1 r.mine).done then (r.wait 1 r.mine).go 2 else r.wait 1 r.mine
def LS.awaitW (r : LS) : LS := if (r.stepR 2 r.mine).done then ((r.wait 2 r.mine).noteIf (r.stepR 2 r.mine).seen 4).fin true else (r.wait 2 r.mine).noteIf (r.stepR 2 r.mine).seen 4
def LS.turn (r : LS) (c what : Int) : LS := (((r.doA 3 c 1 0).note what 0).wake c).fin true
def LS.leave (r : LS) : LS := (((r.doA 3 1 1 0).note 7 0).wake 1).go 1
def LS.look (r : LS) : LS := ((r.doA 1 0 0 0).keepA (wordAt r.xs 0)).go 1
def LS.weigh (r : LS) (c own : Int) : LS :=
  if own < aheadI r.a (wordAt r.xs c) then (((r.doA 1 c 0 0).keepB (wordAt r.xs c)).note 5 0).fin false
  else if aheadI r.a (wordAt r.xs c) < own then ((r.doA 1 c 0 0).keepB (wordAt r.xs c)).go 0 else ((r.doA 1 c 0 0).keepB (wordAt r.xs c)).go 2
def LS.claimed (r : LS) : Bool := there r.xs 0 && (wordAt r.xs 0 == r.a)
def LS.claim (r : LS) : LS := r.doA 5 0 r.a ((r.a + 1) % 4294967296)
def LS.giveBack (r : LS) : LS := (r.doA 3 2 1 0).fin true

/-- What the line of r's frame leaves. -/
def LS.tf (r : LS) : LS :=
  match tfCase r.op r.line with
  | 1 => r.draw 1
  | 2 => r.awaitR
  | 3 => r.turn 1 4
  | 4 => r.turn 2 6
  | 5 => r.draw 2
  | 6 => r.awaitW
  | 7 => r.leave
  | 8 => r.turn 2 8
  | 9 => r.look
  | 10 => r.weigh 1 0
  | 11 => if r.claimed then (r.claim.note 2 1).go 3 else r.claim.go 0
  | 12 => r.turn 1 4
  | 13 => r.look
  | 14 => r.weigh 2 0
  | 15 => if r.claimed then ((r.claim.note 2 2).note 4 0).fin true else r.claim.go 0
  | 16 => r.look
  | 17 => r.weigh 2 1
  | 18 => if r.claimed then (r.claim.note 9 0).go 3 else r.claim.go 0
  | 19 => r.giveBack
  | 20 => r.turn 1 10
  | _ => r
end Go.Proofs.YtigdbokfapedcaaGreat
/- The phase-fair lock's lines, in plain words. -/
set_option linter.unusedVariables false
set_option linter.unusedSimpArgs false
namespace Go.Proofs.YtigdbokfapedcaaGreat
open Go.RowKit

/-- Which line it is: 0: none. -/
def pfCase (op line : Int) : Nat :=
  if op = 1 ∧ line = 0 then 1 else if op = 1 ∧ line = 1 then 2 else if op = 2 ∧ line = 0 then 3 else if op = 3 ∧ line = 0 then 4 else if op = 3 ∧ line = 1 then 5 else if op = 3 ∧ line = 2 then 6
  else if op = 3 ∧ line = 3 then 7 else if op = 3 ∧ line = 4 then 8 else if op = 4 ∧ line = 0 then 9 else if op = 8 ∧ line = 0 then 9 else if op = 4 ∧ line = 1 then 10 else if op = 8 ∧ line = 1 then 11
  else if op = 4 ∧ line = 2 then 12 else if op = 8 ∧ line = 2 then 12 else if op = 4 ∧ line = 3 then 13 else if op = 8 ∧ line = 3 then 13 else if op = 5 ∧ line = 0 then 14 else if op = 5 ∧ line = 1 then 15
  else if op = 6 ∧ line = 0 then 16 else if op = 7 ∧ line = 0 then 16 else if op = 6 ∧ line = 1 then 17 else if op = 7 ∧ line = 1 then 17 else if op = 6 ∧ line = 2 then 18 else if op = 7 ∧ line = 2 then 18
  else if op = 6 ∧ line = 3 then 19 else if op = 7 ∧ line = 3 then 19 else if op = 6 ∧ line = 4 then 20 else if op = 7 ∧ line = 4 then 21 else if op = 6 ∧ line = 5 then 22 else if op = 7 ∧ line = 5 then 22
  else if op = 6 ∧ line = 6 then 23 else if op = 7 ∧ line = 6 then 23 else if op = 6 ∧ line = 7 then 24 else if op = 7 ∧ line = 7 then 25 else if op = 7 ∧ line = 8 then 26 else if op = 6 ∧ line = 9 then 27
  else if op = 7 ∧ line = 9 then 27 else 0

/-- The bits of a word in which a presence stands; the bits of a presence. -/
def bitsI (v : Int) : Int := v % 4
def presI (b : Int) : Int := 2 + b % 2

def LS.pCome (r : LS) : LS := if bitsI (wordAt r.xs 0) = 0 then ((((r.doA 3 0 256 0).keepA (wordAt r.xs 0)).note 2 1).note 4 0).fin true else (((r.doA 3 0 256 0).keepA (wordAt r.xs 0)).note 2 1).go 1
def LS.left (r : LS) (v : Int) : Bool := bitsI v != bitsI r.a
/-- A wait whose step that sees what it waits for admits. -/
def LS.pAdmit (r : LS) (c : Int) (q : Int → Bool) : LS := if (r.stepR c q).done then ((r.wait c q).noteIf (r.stepR c q).seen 4).fin true else (r.wait c q).noteIf (r.stepR c q).seen 4
def LS.pDepart (r : LS) : LS := (((r.doA 3 1 256 0).note 6 0).wake 1).fin true
def LS.pDraw (r : LS) : LS := (((r.doA 3 2 1 0).keepA (wordAt r.xs 2)).note 2 2).go 1
def LS.pTurn (r : LS) : LS := if (r.stepR 3 r.mine).done then (r.wait 3 r.mine).go 2 else r.wait 3 r.mine
def LS.pKeep (r : LS) (n : Int) : LS := ((r.doA 1 4 0 0).keepB (wordAt r.xs 4)).go n
def LS.pAppear (r : LS) (n : Int) : LS := (((r.doA 3 0 (presI r.b) 0).keepA (wordAt r.xs 0)).note 3 0).go n
def LS.pVanish (r : LS) (inn what : Int) : LS := (((r.doA 3 0 ((inn - presI r.b) % 4294967296) 0).note what 0).wake 0).go 2
def LS.pCount (r : LS) : LS := (r.doA 2 4 ((r.b + 1) % 4294967296) 0).go 3
def LS.pPass (r : LS) (ok : Bool) : LS := (((r.doA 3 3 1 0).note 8 0).wake 3).fin ok
def LS.pLookIn (r : LS) : LS := if bitsI (wordAt r.xs 0) = 0 then ((r.doA 1 0 0 0).keepA (wordAt r.xs 0)).go 1 else (((r.doA 1 0 0 0).keepA (wordAt r.xs 0)).note 5 0).fin false
def LS.was (r : LS) (c : Int) : Bool := there r.xs c && (wordAt r.xs c == r.a)
def LS.pSlip (r : LS) : LS := if r.was 0 then (((r.doA 5 0 r.a ((r.a + 256) % 4294967296)).note 2 1).note 4 0).fin true else (r.doA 5 0 r.a ((r.a + 256) % 4294967296)).go 0
def LS.pLook (r : LS) (c n : Int) : LS := ((r.doA 1 c 0 0).keepA (wordAt r.xs c)).go n
def LS.pWeighT (r : LS) : LS :=
  if 0 < aheadI r.a (wordAt r.xs 3) then (((r.doA 1 3 0 0).keepB (wordAt r.xs 3)).note 5 0).fin false
  else if aheadI r.a (wordAt r.xs 3) < 0 then ((r.doA 1 3 0 0).keepB (wordAt r.xs 3)).go 0 else ((r.doA 1 3 0 0).keepB (wordAt r.xs 3)).go 2
def LS.pClaim (r : LS) : LS := if r.was 2 then ((r.doA 5 2 r.a ((r.a + 1) % 4294967296)).note 2 2).go 3 else (r.doA 5 2 r.a ((r.a + 1) % 4294967296)).go 0
def LS.pWeighR (r : LS) (own : Int) : LS := if aheadI r.a (wordAt r.xs 1) ≤ own then ((r.doA 1 1 0 0).keepB (wordAt r.xs 1)).go 5 else (((r.doA 1 1 0 0).keepB (wordAt r.xs 1)).note 5 0).go 9
/-- The last reader but the task itself. -/
def LS.butMe (r : LS) (v : Int) : Bool := v == (r.a - 256) % 4294967296
def LS.pOthers (r : LS) : LS := if (r.stepR 1 r.butMe).done then ((r.wait 1 r.butMe).noteIf (r.stepR 1 r.butMe).seen 9).go 8 else (r.wait 1 r.butMe).noteIf (r.stepR 1 r.butMe).seen 9
def LS.pStop (r : LS) : LS := (r.doA 3 1 256 0).fin true

/-- What the line of r's frame leaves. -/
def LS.pf (r : LS) : LS :=
  match pfCase r.op r.line with
  | 1 => r.pCome
  | 2 => r.pAdmit 0 r.left
  | 3 => r.pDepart
  | 4 => r.pDraw
  | 5 => r.pTurn
  | 6 => r.pKeep 3
  | 7 => r.pAppear 4
  | 8 => r.pAdmit 1 r.mine
  | 9 => r.pKeep 1
  | 10 => r.pVanish 0 7
  | 11 => r.pVanish 256 10
  | 12 => r.pCount
  | 13 => r.pPass true
  | 14 => r.pLookIn
  | 15 => r.pSlip
  | 16 => r.pLook 2 1
  | 17 => r.pWeighT
  | 18 => r.pClaim
  | 19 => r.pLook 0 4
  | 20 => r.pWeighR 0
  | 21 => r.pWeighR 256
  | 22 => r.pKeep 6
  | 23 => r.pAppear 7
  | 24 => r.pAdmit 1 r.mine
  | 25 => r.pOthers
  | 26 => r.pStop
  | 27 => r.pPass false
  | _ => r
end Go.Proofs.YtigdbokfapedcaaGreat
/- The mutex's lines, in plain words: entering, giving on, a try: what each leaves, and tells. -/
set_option linter.unusedVariables false
set_option linter.unusedSimpArgs false
namespace Go.Proofs.YtigdbokfapedcaaGreat
open Go.RowKit

/-- A task's link's and block's cells. -/
def nc (n i : Int) : Int := cellI n 0 i
def bc (n i : Int) : Int := cellI n 1 i
/-- A task's number in the queue. -/
def LS.me (r : LS) : Int := (r.task + 1) % 4294967296
def isZ (v : Int) : Bool := v == 0
def isN (v : Int) : Bool := v != 0
def LS.notes (r : LS) (whats : List Int) : LS := whats.foldl (fun r w => r.note w 0) r

def LS.link (r : LS) : LS := (((r.doA 2 (nc r.n (r.a - 1)) r.me 0).wake (nc r.n (r.a - 1))).go 4)
def LS.swapIn (r : LS) (tail cl : Int) : LS := ((r.doA 4 tail r.me 0).keepA (wordAt r.xs tail)).note 2 cl
/-- Entering. -/
def LS.mxEnter (r : LS) (tail cl : Int) : LS × Bool :=
  if r.line = 0 then ((r.doA 2 (nc r.n r.task) 0 0).go 1, false)
  else if r.line = 1 then ((r.doA 2 (bc r.n r.task) 1 0).go 2, false)
  else if r.line = 2 then (if wordAt r.xs tail = 0 then (r.swapIn tail cl, true) else ((r.swapIn tail cl).go 3, false))
  else if r.line = 3 then (r.link, false)
  else if r.line = 4 then (r.wait (bc r.n r.task) isZ, (r.stepR (bc r.n r.task) isZ).done)
  else (r, false)

def LS.seeN (r : LS) : LS := if (r.stepR (nc r.n r.task) isN).seen then (r.wait (nc r.n r.task) isN).keepA (wordAt r.xs (nc r.n r.task)) else r.wait (nc r.n r.task) isN
def LS.handOn (r : LS) (whats : List Int) : LS := ((r.doA 2 (bc r.n (r.a - 1)) 0 0).notes whats).wake (bc r.n (r.a - 1))
def LS.peek (r : LS) : LS := (r.doA 1 (nc r.n r.task) 0 0).keepA (wordAt r.xs (nc r.n r.task))
def LS.casOut (r : LS) (tail : Int) : Bool := there r.xs tail && (wordAt r.xs tail == r.me)
/-- Giving on, from the line a on. -/
def LS.mxGive (r : LS) (tail a : Int) (whats : List Int) : LS × Bool :=
  if r.line = a then (if wordAt r.xs (nc r.n r.task) = 0 then r.peek.go (a + 1) else r.peek.go (a + 3), false)
  else if r.line = a + 1 then (if r.casOut tail then ((r.doA 5 tail r.me 0).notes whats, true) else ((r.doA 5 tail r.me 0).go (a + 2), false))
  else if r.line = a + 2 then (if (r.stepR (nc r.n r.task) isN).done then r.seeN.go (a + 3) else r.seeN, false)
  else if r.line = a + 3 then (r.handOn whats, true)
  else (r, false)
/-- A try, from the line a on. -/
def LS.mxTry (r : LS) (tail a : Int) : LS × Bool × Bool :=
  if r.line = a then ((r.doA 2 (nc r.n r.task) 0 0).go (a + 1), false, false)
  else if r.line = a + 1 then (r.doA 5 tail 0 r.me, true, there r.xs tail && (wordAt r.xs tail == 0))
  else (r, false, false)
end Go.Proofs.YtigdbokfapedcaaGreat
/- The phase-fair queue lock's lines, in plain words. -/
set_option linter.unusedVariables false
set_option linter.unusedSimpArgs false
namespace Go.Proofs.YtigdbokfapedcaaGreat
open Go.RowKit

/-- Which line it is: 0: none. -/
def pqCase (op line : Int) : Nat :=
  if op = 1 ∧ line = 0 then 1 else if op = 1 ∧ line = 1 then 2 else if op = 2 ∧ line = 0 then 3 else if op = 5 ∧ line = 0 then 4 else if op = 5 ∧ line = 1 then 5
  else if op = 3 ∧ 0 ≤ line ∧ line ≤ 4 then 6 else if op = 3 ∧ line = 5 then 7 else if op = 3 ∧ line = 6 then 8 else if op = 3 ∧ line = 7 then 9
  else if (op = 4 ∨ op = 8) ∧ line = 0 then 10 else if op = 4 ∧ line = 1 then 11 else if op = 8 ∧ line = 1 then 12 else if (op = 4 ∨ op = 8) ∧ line = 2 then 13 else if op = 4 ∨ op = 8 then 14
  else if (op = 6 ∨ op = 7) ∧ 0 ≤ line ∧ line ≤ 1 then 15 else if (op = 6 ∨ op = 7) ∧ line = 2 then 16 else if op = 6 ∧ line = 3 then 17 else if op = 7 ∧ line = 3 then 18
  else if (op = 6 ∨ op = 7) ∧ line = 4 then 19 else if (op = 6 ∨ op = 7) ∧ line = 5 then 20 else if op = 6 ∧ line = 6 then 21 else if op = 7 ∧ line = 6 then 22 else if op = 7 ∧ line = 7 then 23
  else if op = 6 ∨ op = 7 then 24 else 0

def LS.wEnter (r : LS) : LS := if (r.mxEnter 2 2).2 then (r.mxEnter 2 2).1.go 5 else (r.mxEnter 2 2).1
def LS.wKeep (r : LS) (n : Int) : LS := ((r.doA 1 3 0 0).keepB (wordAt r.xs 3)).go n
def LS.wCount (r : LS) : LS := (r.doA 2 3 ((r.b + 1) % 4294967296) 0).go 3
def LS.wGive (r : LS) (a : Int) (ok : Bool) : LS := if (r.mxGive 2 a [8]).2 then (r.mxGive 2 a [8]).1.fin ok else (r.mxGive 2 a [8]).1
def LS.wTry (r : LS) : LS :=
  if (r.mxTry 2 0).2.1 then (if (r.mxTry 2 0).2.2 then ((r.mxTry 2 0).1.note 2 2).go 2 else ((r.mxTry 2 0).1.note 5 0).fin false) else (r.mxTry 2 0).1
def LS.wWeigh (r : LS) (own : Int) : LS := if aheadI r.a (wordAt r.xs 1) ≤ own then ((r.doA 1 1 0 0).keepB (wordAt r.xs 1)).go 4 else (((r.doA 1 1 0 0).keepB (wordAt r.xs 1)).note 5 0).go 8
def LS.wOthers (r : LS) : LS := if (r.stepR 1 r.butMe).done then ((r.wait 1 r.butMe).noteIf (r.stepR 1 r.butMe).seen 9).go 7 else (r.wait 1 r.butMe).noteIf (r.stepR 1 r.butMe).seen 9

/-- What the line of r's frame leaves. -/
def LS.pq (r : LS) : LS :=
  match pqCase r.op r.line with
  | 1 => r.pCome
  | 2 => r.pAdmit 0 r.left
  | 3 => r.pDepart
  | 4 => r.pLookIn
  | 5 => r.pSlip
  | 6 => r.wEnter
  | 7 => r.wKeep 6
  | 8 => r.pAppear 7
  | 9 => r.pAdmit 1 r.mine
  | 10 => r.wKeep 1
  | 11 => r.pVanish 0 7
  | 12 => r.pVanish 256 10
  | 13 => r.wCount
  | 14 => r.wGive 3 true
  | 15 => r.wTry
  | 16 => r.pLook 0 3
  | 17 => r.wWeigh 0
  | 18 => r.wWeigh 256
  | 19 => r.wKeep 5
  | 20 => r.pAppear 6
  | 21 => r.pAdmit 1 r.mine
  | 22 => r.wOthers
  | 23 => r.pStop
  | 24 => r.wGive 8 false
  | _ => r
end Go.Proofs.YtigdbokfapedcaaGreat
