import Derived.Test.YtlepokgagickmaaGreatChecked
import Derived.Laws.AppendOwn
import Derived.OwnWalk
import Derived.WalkKit
import Derived.Test.YtlepokgagickmaaGreatG1
set_option linter.unusedVariables false
set_option linter.unusedSimpArgs false
namespace Go.Proofs.YtlepokgagickmaaGreat
open Go.RowKit
def pc (n i : Int) : Int := cellI n 3 i
def hasP (xs : List Int) (n i : Int) : Bool := wordAt xs (pc n i) != 0
theorem five {w : World} {g : Nat} {t : TypeId} {a0 a1 a2 a3 a4 : Value} (h : Row w g t #[a0, a1, a2, a3, a4]) (v0 v1 v2 v3 v4 : Value) :
    Row (((((w.setCell ⟨g, 0, none⟩ v0).setCell ⟨g, 1, none⟩ v1).setCell ⟨g, 2, none⟩ v2).setCell ⟨g, 3, none⟩ v3).setCell ⟨g, 4, none⟩ v4) g t #[v0, v1, v2, v3, v4] := by
  simpa using ((((h.set 0 v0).set 1 v1).set 2 v2).set 3 v3).set 4 v4
theorem five_only {S : Nat → Prop} {w w' : World} (h : Only S w w') {g : Nat} (hg : w.heap.size ≤ g ∨ S g) (v0 v1 v2 v3 v4 : Value) :
    Only S w (((((w'.setCell ⟨g, 0, none⟩ v0).setCell ⟨g, 1, none⟩ v1).setCell ⟨g, 2, none⟩ v2).setCell ⟨g, 3, none⟩ v3).setCell ⟨g, 4, none⟩ v4) :=
  ((((h.setCell (p := ⟨g, 0, none⟩) hg v0).setCell (p := ⟨g, 1, none⟩) hg v1).setCell (p := ⟨g, 2, none⟩) hg v2).setCell (p := ⟨g, 3, none⟩) hg v3).setCell (p := ⟨g, 4, none⟩) hg v4
def Memo (w : World) (p A : Option Addr) (cp : Nat) (xs : List Int) : Prop := (p = none ∧ xs = [] ∧ A = none) ∨ ∃ b, p = some ⟨b, 0, none⟩ ∧ Mem w b A cp xs
theorem Memo.of {w : World} {b : Nat} {A : Option Addr} {cp : Nat} {xs : List Int} (h : Mem w b A cp xs) : Memo w (some ⟨b, 0, none⟩) A cp xs := .inr ⟨b, rfl, h⟩
theorem Memo.far {w w' : World} {p A : Option Addr} {cp : Nat} {xs : List Int} {S : Nat → Prop} (h : Memo w p A cp xs) (ho : Only S w w') (hS : ∀ j, At p j ∨ At A j → ¬ S j) : Memo w' p A cp xs := by
  rcases h with h | ⟨b, rfl, h⟩
  · exact .inl h
  · exact .inr ⟨b, rfl, h.only ho (hS b (.inl ⟨_, rfl, rfl⟩)) (fun j hj => hS j (.inr hj))⟩
theorem Memo.keep {w w' : World} {p A : Option Addr} {cp : Nat} {xs : List Int} (h : Memo w p A cp xs) (ho : Only Nil w w') : Memo w' p A cp xs := h.far ho (fun _ _ => id)
theorem Memo.lt {w : World} {p A : Option Addr} {cp : Nat} {xs : List Int} (h : Memo w p A cp xs) : ∀ j, At p j ∨ At A j → j < w.heap.size := by
  rcases h with ⟨rfl, _, rfl⟩ | ⟨b, rfl, h⟩
  · rintro j (⟨a, h, _⟩ | ⟨a, h, _⟩) <;> cases h
  · rintro j (⟨a, h2, rfl⟩ | h2)
    · cases h2; exact h.hdr.lt
    · exact h.own.lt j h2
theorem do_memo (p A : Option Addr) (cp : Nat) (xs : List Int) (k c x y o : Int) (w : World) (h : Memo w p A cp xs) :
    Calls Tryz.prog 212 #[.pointer p, .agg #[.int .i64 k, .int .i64 c, .int .u32 x, .int .u32 y, .int .u32 o]] w fun e w' =>
      e = .returned (.tuple #[doVal xs k c x y, .bool (doOk xs k c)]) ∧ Only (At A) w w' ∧ Memo w' p A cp (doNew xs k c x y) := by
  rcases h with ⟨rfl, rfl, rfl⟩ | ⟨b, rfl, h⟩
  · have ht : there [] c = false := by
      have : ¬ (0 ≤ c ∧ c < ((0 : Nat) : Int)) := by omega
      simp only [there, List.length_nil, decide_eq_false_iff_not]; exact this
    have hok : doOk [] k c = false := by simp [doOk, ht]
    refine (do_nil k c x y o w).mono fun e w' ⟨he, hO⟩ => ⟨by rw [he]; simp [doVal, hok, accOf], hO.mono (fun _ _ h => h.elim), .inl ⟨rfl, by simp [doNew, hok], rfl⟩⟩
  · exact (do_any b A cp xs k c x y o w h).mono fun e w' ⟨he, hO, hM⟩ => ⟨he, hO, .inr ⟨b, rfl, hM⟩⟩
def takeVal (xs : List Int) (n i : Int) : Value := if hasP xs n i then accOf 4 (pc n i) 0 0 (wordAt xs (pc n i)) else accOf 0 0 0 0 0
theorem hasP_there {xs : List Int} {n i : Int} (h : hasP xs n i = true) : there xs (pc n i) = true := by
  unfold hasP wordAt at h
  cases ht : there xs (pc n i)
  · rw [ht] at h; simp at h
  · rfl
theorem st_none {xs : List Int} {n i : Int} (h : hasP xs n i = false) : st xs (pc n i) 0 = xs := by
  have hw : wordAt xs (pc n i) = 0 := by simpa [hasP] using h
  have := st_word xs (pc n i)
  rwa [hw] at this
theorem Memo.mem {w : World} {b : Nat} {A : Option Addr} {cp : Nat} {xs : List Int} (h : Memo w (some ⟨b, 0, none⟩) A cp xs) : Mem w b A cp xs := by
  rcases h with ⟨h, _⟩ | ⟨b', hb, h⟩
  · cases h
  · cases hb; exact h
theorem five_far {w : World} {g q : Nat} {t : TypeId} {cs : Array Value} (h : Row w q t cs) (hq : q ≠ g) (v0 v1 v2 v3 v4 : Value) :
    Row (((((w.setCell ⟨g, 0, none⟩ v0).setCell ⟨g, 1, none⟩ v1).setCell ⟨g, 2, none⟩ v2).setCell ⟨g, 3, none⟩ v3).setCell ⟨g, 4, none⟩ v4) q t cs :=
  h.only (five_only (Only.refl (· = g) w) (.inr rfl) v0 v1 v2 v3 v4) hq
theorem takeVal_form (xs : List Int) (n i : Int) : ∃ k c x y o, takeVal xs n i = .agg #[.int .i64 k, .int .i64 c, .int .u32 x, .int .u32 y, .int .u32 o] := by
  unfold takeVal accOf
  split
  · exact ⟨_, _, _, _, _, rfl⟩
  · exact ⟨_, _, _, _, _, rfl⟩
end Go.Proofs.YtlepokgagickmaaGreat
set_option linter.unusedVariables false
set_option linter.unusedSimpArgs false
namespace Go.Proofs.YtlepokgagickmaaGreat
open Go.RowKit
def wc (n i : Int) : Int := cellI n 2 i
def Words (xs : List Int) : Prop := ∀ n ∈ xs, (Lit.int .u32 n).wf = true
structure StepR where
  next : Int
  acc : Value
  seen : Bool
  done : Bool
  xs : List Int
def stepI (xs : List Int) (n mode i s c : Int) (q : Int → Bool) : StepR :=
  if mode ≠ 2 then ⟨0, doVal xs 1 c 0 0, q (wordAt xs c), q (wordAt xs c), xs⟩
  else if s = 1 then ⟨2, doVal xs 2 (wc n i) ((c + 1) % 4294967296) 0, false, false, st xs (wc n i) ((c + 1) % 4294967296)⟩
  else if s = 2 then ⟨if q (wordAt xs c) then 4 else 3, doVal xs 1 c 0 0, q (wordAt xs c), false, xs⟩
  else if s = 3 then ⟨if hasP xs n i then 2 else 3, takeVal xs n i, false, false, st xs (pc n i) 0⟩
  else if s = 4 then ⟨0, doVal xs 2 (wc n i) 0 0, false, true, st xs (wc n i) 0⟩
  else ⟨if q (wordAt xs c) then 0 else 1, doVal xs 1 c 0 0, q (wordAt xs c), q (wordAt xs c), xs⟩
def stuckB (xs : List Int) (n mode i s : Int) : Bool := (mode == 2) && (s == 3) && !hasP xs n i
section
variable {xs : List Int} {n mode i s c : Int} {q : Int → Bool}
theorem stepI_spin (h : mode ≠ 2) : stepI xs n mode i s c q = ⟨0, doVal xs 1 c 0 0, q (wordAt xs c), q (wordAt xs c), xs⟩ := if_pos h
theorem stepI_0 (h1 : s ≠ 1) (h2 : s ≠ 2) (h3 : s ≠ 3) (h4 : s ≠ 4) : stepI xs n 2 i s c q = ⟨if q (wordAt xs c) then 0 else 1, doVal xs 1 c 0 0, q (wordAt xs c), q (wordAt xs c), xs⟩ := by
  unfold stepI
  rw [if_neg (by simp), if_neg h1, if_neg h2, if_neg h3, if_neg h4]
end
theorem post_two_tmps {P : Program} {fn : Func} {R : Ending → World → Prop} {a : Act} {w : World} {p q u v : Tmp} {ty ty' : TypeId} (h : fn.results = #[.cell p ty, .cell q ty', .tmp u, .tmp v]) {g g' : Nat} {t t' : TypeId} {cs cs' : Array Value} {d d' : TypeDesc}
    (hp : a.tmps.getD p undef = .pointer (some ⟨g, 0, none⟩)) (hg : Row w g t cs) (hu : P.underlying ty = some d) (hd : (match d with | .struct _ | .array _ _ => true | _ => false) = true) (hi : (P.info? ty).map (·.size) = some cs.size)
    (hq : a.tmps.getD q undef = .pointer (some ⟨g', 0, none⟩)) (hg' : Row w g' t' cs') (hu' : P.underlying ty' = some d') (hd' : (match d' with | .struct _ | .array _ _ => true | _ => false) = true) (hi' : (P.info? ty').map (·.size) = some cs'.size)
    (hf : a.defers = []) (hR : R (.returned (.tuple #[.agg cs, .agg cs', a.tmps.getD u undef, a.tmps.getD v undef])) w) : bodyPost P fn R .ret a w := by
  refine ⟨hf, _, ?_, hR⟩
  have hp' : a.tmps[p]?.getD undef = .pointer (some ⟨g, 0, none⟩) := by simpa using hp
  have hq' : a.tmps[q]?.getD undef = .pointer (some ⟨g', 0, none⟩) := by simpa using hq
  simp [results, h, hp', hq', asAddr, run_loadVar_row w g t ty cs (0, 0) d hg hu hd hi, run_loadVar_row w g' t' ty' cs' (0, 0) d' hg' hu' hd' hi']
end Go.Proofs.YtlepokgagickmaaGreat
set_option linter.unusedVariables false
set_option linter.unusedSimpArgs false
namespace Go.Proofs.YtlepokgagickmaaGreat
open Go.RowKit
structure Pr (w0 : World) (L M B C : Nat) (p A : Option Addr) (cp : Nat) (A2 : Option Addr) (c2 : Nat) (w : World) (xs ys : List Int) : Prop where
  only : Only Nil w0 w
  memo : Memo w p A cp xs
  own : Own w B A2 c2 ys
  far : ∀ j, At p j ∨ At A j → L ≤ j ∧ j < M
  lt : ∀ j, At A2 j → j < C
  mb : M ≤ B
  hw : w0.heap.size ≤ L
  hl : L ≤ M
section
variable {w0 w w' : World} {L M B C cp c2 g : Nat} {p A A2 : Option Addr} {xs ys zs : List Int} {S : Nat → Prop} {t : TypeId} {cs : Array Value}
theorem Pr.prog (h : Pr w0 L M B C p A cp A2 c2 w xs ys) (ho : Only (At A) w w') (hm : Memo w' p A cp zs) : Pr w0 L M B C p A cp A2 c2 w' zs ys :=
  ⟨h.only.step ho (fun i hi hA => by have := (h.far i (.inr hA)).1; have := h.hw; omega), hm, h.own.only ho (fun j hj hA => by have := (h.far j (.inr hA)).2; have := h.own.base j hj; have := h.mb; omega), h.far, h.lt, h.mb, h.hw, h.hl⟩
end
theorem step_access (xs : List Int) (n mode i s c : Int) (q : Int → Bool) : ∃ ka ca xa ya oa : Int, (stepI xs n mode i s c q).acc = .agg #[.int .i64 ka, .int .i64 ca, .int .u32 xa, .int .u32 ya, .int .u32 oa] ∧
    ((ka = 0 ∧ ca = 0 ∧ xa = 0 ∧ ya = 0 ∧ oa = 0 ∧ (stepI xs n mode i s c q).xs = xs) ∨
     (ka ≠ 0 ∧ doVal xs ka ca xa ya = .agg #[.int .i64 ka, .int .i64 ca, .int .u32 xa, .int .u32 ya, .int .u32 oa] ∧ doOk xs ka ca = true ∧ doNew xs ka ca xa ya = (stepI xs n mode i s c q).xs ∧ (ca = wc n i ∨ ca = pc n i ∨ (ka = 1 ∧ ca = c)))) := by
  have ld : ∀ r : StepR, r.acc = doVal xs 1 c 0 0 → r.xs = xs → ∃ ka ca xa ya oa : Int, r.acc = .agg #[.int .i64 ka, .int .i64 ca, .int .u32 xa, .int .u32 ya, .int .u32 oa] ∧
      ((ka = 0 ∧ ca = 0 ∧ xa = 0 ∧ ya = 0 ∧ oa = 0 ∧ r.xs = xs) ∨ (ka ≠ 0 ∧ doVal xs ka ca xa ya = .agg #[.int .i64 ka, .int .i64 ca, .int .u32 xa, .int .u32 ya, .int .u32 oa] ∧ doOk xs ka ca = true ∧ doNew xs ka ca xa ya = r.xs ∧ (ca = wc n i ∨ ca = pc n i ∨ (ka = 1 ∧ ca = c)))) := fun r h1 h2 => by
    cases hk : doOk xs 1 c
    · exact ⟨0, 0, 0, 0, 0, by rw [h1]; simp [doVal, hk, accOf], .inl ⟨rfl, rfl, rfl, rfl, rfl, h2⟩⟩
    · exact ⟨1, c, 0, 0, wordAt xs c, by rw [h1]; simp [doVal, hk, accOf], .inr ⟨by decide, by simp [doVal, hk, accOf], hk, by rw [doNew_load, h2], .inr (.inr ⟨rfl, rfl⟩)⟩⟩
  have sw : ∀ (r : StepR) (v : Int), r.acc = doVal xs 2 (wc n i) v 0 → r.xs = st xs (wc n i) v → ∃ ka ca xa ya oa : Int, r.acc = .agg #[.int .i64 ka, .int .i64 ca, .int .u32 xa, .int .u32 ya, .int .u32 oa] ∧
      ((ka = 0 ∧ ca = 0 ∧ xa = 0 ∧ ya = 0 ∧ oa = 0 ∧ r.xs = xs) ∨ (ka ≠ 0 ∧ doVal xs ka ca xa ya = .agg #[.int .i64 ka, .int .i64 ca, .int .u32 xa, .int .u32 ya, .int .u32 oa] ∧ doOk xs ka ca = true ∧ doNew xs ka ca xa ya = r.xs ∧ (ca = wc n i ∨ ca = pc n i ∨ (ka = 1 ∧ ca = c)))) := fun r v h1 h2 => by
    cases hk : doOk xs 2 (wc n i)
    · have ht : there xs (wc n i) = false := by simpa [doOk, isKind] using hk
      exact ⟨0, 0, 0, 0, 0, by rw [h1]; simp [doVal, hk, accOf], .inl ⟨rfl, rfl, rfl, rfl, rfl, by rw [h2]; simp [st, ht]⟩⟩
    · exact ⟨2, wc n i, v, 0, wordAt xs (wc n i), by rw [h1]; simp [doVal, hk, accOf], .inr ⟨by decide, by simp [doVal, hk, accOf], hk, by rw [h2, doNew_st xs 2 _ _ 0 rfl]; rfl, .inl rfl⟩⟩
  unfold stepI
  split
  · exact ld _ rfl rfl
  split
  · exact sw _ _ rfl rfl
  split
  · exact ld _ rfl rfl
  split
  · cases hp : hasP xs n i
    · exact ⟨0, 0, 0, 0, 0, by simp [takeVal, hp, accOf], .inl ⟨rfl, rfl, rfl, rfl, rfl, st_none hp⟩⟩
    · have ht := hasP_there hp
      have hok : doOk xs 4 (pc n i) = true := by simp [doOk, isKind, ht]
      exact ⟨4, pc n i, 0, 0, wordAt xs (pc n i), by simp [takeVal, hp, accOf], .inr ⟨by decide, by simp [doVal, hok, accOf], hok, by rw [doNew_st xs 4 _ _ 0 rfl]; rfl, .inr (.inl rfl)⟩⟩
  split
  · exact sw _ _ rfl rfl
  · exact ld _ rfl rfl
end Go.Proofs.YtlepokgagickmaaGreat
set_option linter.unusedVariables false
set_option linter.unusedSimpArgs false
namespace Go.Proofs.YtlepokgagickmaaGreat
open Go.RowKit
theorem wf_mk {n : Int} (h0 : 0 ≤ n) (h1 : n < 4294967296) : (Lit.int .u32 n).wf = true := by
  have e1 : IntKind.u32.min = 0 := rfl
  have e2 : IntKind.u32.max = 4294967295 := rfl
  simp only [Lit.wf, Bool.and_eq_true, decide_eq_true_eq]
  omega
theorem Words.st {xs : List Int} (h : Words xs) (c : Int) {u : Int} (h0 : 0 ≤ u) (h1 : u < 4294967296) : Words (Go.Proofs.YtlepokgagickmaaGreat.st xs c u) := by
  unfold Go.Proofs.YtlepokgagickmaaGreat.st
  split
  · intro n hn
    rcases List.mem_or_eq_of_mem_set hn with hn | rfl
    · exact h n hn
    · exact wf_mk h0 h1
  · exact h
theorem Words.step {xs : List Int} (h : Words xs) (n mode i s c : Int) (q : Int → Bool) : Words (stepI xs n mode i s c q).xs := by
  unfold stepI
  split
  · exact h
  split
  · exact h.st _ (by omega) (by omega)
  split
  · exact h
  split
  · exact h.st _ (by omega) (by omega)
  split
  · exact h.st _ (by omega) (by omega)
  · exact h
theorem step_len (xs : List Int) (n mode i s c : Int) (q : Int → Bool) : (stepI xs n mode i s c q).xs.length = xs.length := by
  unfold stepI
  split
  · rfl
  split
  · exact st_len _ _ _
  split
  · rfl
  split
  · exact st_len _ _ _
  split
  · exact st_len _ _ _
  · rfl
end Go.Proofs.YtlepokgagickmaaGreat
set_option linter.unusedVariables false
set_option linter.unusedSimpArgs false
namespace Go.Proofs.YtlepokgagickmaaGreat
open Go.RowKit
structure WkV where
  on : Bool
  c : Int
  i : Int
  hit : Bool
def WkV.v (k : WkV) : Value := .agg #[.bool k.on, .int .i64 k.c, .int .i64 k.i, .bool k.hit]
def wk0 : WkV := ⟨false, 0, 0, false⟩
structure WakeR where
  next : WkV
  acc : Value
  xs : List Int
def nextI (n c i : Int) : WkV := if i + 1 = n then wk0 else ⟨true, c, i + 1, false⟩
def restI (xs : List Int) : WakeR := ⟨wk0, accOf 0 0 0 0 0, xs⟩
def giveI (xs : List Int) (n c i : Int) : WakeR := if there xs (pc n i) then ⟨nextI n c i, doVal xs 2 (pc n i) 1 0, st xs (pc n i) 1⟩ else restI xs
def lookI (xs : List Int) (n c i : Int) : WakeR :=
  if there xs (wc n i) then
    (if wordAt xs (wc n i) = (c + 1) % 4294967296 then ⟨⟨true, c, i, true⟩, doVal xs 1 (wc n i) 0 0, xs⟩ else ⟨nextI n c i, doVal xs 1 (wc n i) 0 0, xs⟩)
  else restI xs
def wakeI (xs : List Int) (n : Int) (on : Bool) (c i : Int) (hit : Bool) : WakeR := if on then (if hit then giveI xs n c i else lookI xs n c i) else restI xs
theorem post_two {P : Program} {fn : Func} {R : Ending → World → Prop} {a : Act} {w : World} {p q : Tmp} {ty ty' : TypeId} (h : fn.results = #[.cell p ty, .cell q ty']) {g g' : Nat} {t t' : TypeId} {cs cs' : Array Value} {d d' : TypeDesc}
    (hp : a.tmps.getD p undef = .pointer (some ⟨g, 0, none⟩)) (hg : Row w g t cs) (hu : P.underlying ty = some d) (hd : (match d with | .struct _ | .array _ _ => true | _ => false) = true) (hi : (P.info? ty).map (·.size) = some cs.size)
    (hq : a.tmps.getD q undef = .pointer (some ⟨g', 0, none⟩)) (hg' : Row w g' t' cs') (hu' : P.underlying ty' = some d') (hd' : (match d' with | .struct _ | .array _ _ => true | _ => false) = true) (hi' : (P.info? ty').map (·.size) = some cs'.size)
    (hf : a.defers = []) (hR : R (.returned (.tuple #[.agg cs, .agg cs'])) w) : bodyPost P fn R .ret a w := by
  refine ⟨hf, _, ?_, hR⟩
  have hp' : a.tmps[p]?.getD undef = .pointer (some ⟨g, 0, none⟩) := by simpa using hp
  have hq' : a.tmps[q]?.getD undef = .pointer (some ⟨g', 0, none⟩) := by simpa using hq
  simp [results, h, hp', hq', asAddr, run_loadVar_row w g t ty cs (0, 0) d hg hu hd hi, run_loadVar_row w g' t' ty' cs' (0, 0) d' hg' hu' hd' hi']
theorem post_two_tmp {P : Program} {fn : Func} {R : Ending → World → Prop} {a : Act} {w : World} {p q u : Tmp} {ty ty' : TypeId} (h : fn.results = #[.cell p ty, .cell q ty', .tmp u]) {g g' : Nat} {t t' : TypeId} {cs cs' : Array Value} {d d' : TypeDesc}
    (hp : a.tmps.getD p undef = .pointer (some ⟨g, 0, none⟩)) (hg : Row w g t cs) (hu : P.underlying ty = some d) (hd : (match d with | .struct _ | .array _ _ => true | _ => false) = true) (hi : (P.info? ty).map (·.size) = some cs.size)
    (hq : a.tmps.getD q undef = .pointer (some ⟨g', 0, none⟩)) (hg' : Row w g' t' cs') (hu' : P.underlying ty' = some d') (hd' : (match d' with | .struct _ | .array _ _ => true | _ => false) = true) (hi' : (P.info? ty').map (·.size) = some cs'.size)
    (hf : a.defers = []) (hR : R (.returned (.tuple #[.agg cs, .agg cs', a.tmps.getD u undef])) w) : bodyPost P fn R .ret a w := by
  refine ⟨hf, _, ?_, hR⟩
  have hp' : a.tmps[p]?.getD undef = .pointer (some ⟨g, 0, none⟩) := by simpa using hp
  have hq' : a.tmps[q]?.getD undef = .pointer (some ⟨g', 0, none⟩) := by simpa using hq
  simp [results, h, hp', hq', asAddr, run_loadVar_row w g t ty cs (0, 0) d hg hu hd hi, run_loadVar_row w g' t' ty' cs' (0, 0) d' hg' hu' hd' hi']
theorem four {w : World} {g : Nat} {t : TypeId} {a0 a1 a2 a3 : Value} (h : Row w g t #[a0, a1, a2, a3]) (v0 v1 v2 v3 : Value) :
    Row ((((w.setCell ⟨g, 0, none⟩ v0).setCell ⟨g, 1, none⟩ v1).setCell ⟨g, 2, none⟩ v2).setCell ⟨g, 3, none⟩ v3) g t #[v0, v1, v2, v3] := by
  simpa using (((h.set 0 v0).set 1 v1).set 2 v2).set 3 v3
theorem four_only {S : Nat → Prop} {w w' : World} (h : Only S w w') {g : Nat} (hg : w.heap.size ≤ g ∨ S g) (v0 v1 v2 v3 : Value) :
    Only S w ((((w'.setCell ⟨g, 0, none⟩ v0).setCell ⟨g, 1, none⟩ v1).setCell ⟨g, 2, none⟩ v2).setCell ⟨g, 3, none⟩ v3) :=
  (((h.setCell (p := ⟨g, 0, none⟩) hg v0).setCell (p := ⟨g, 1, none⟩) hg v1).setCell (p := ⟨g, 2, none⟩) hg v2).setCell (p := ⟨g, 3, none⟩) hg v3
end Go.Proofs.YtlepokgagickmaaGreat
set_option linter.unusedVariables false
set_option linter.unusedSimpArgs false
namespace Go.Proofs.YtlepokgagickmaaGreat
open Go.RowKit
def beginI (mode c : Int) : WkV := if mode = 2 then ⟨true, c, 0, false⟩ else wk0
theorem beginI_2 (c : Int) : beginI 2 c = ⟨true, c, 0, false⟩ := rfl
theorem beginI_no {mode : Int} (h : mode ≠ 2) (c : Int) : beginI mode c = wk0 := if_neg h
theorem begin_any (mode c : Int) (w : World) : Calls Tryz.prog 228 #[.int .i64 mode, .int .i64 c] w fun e w' => e = .returned (beginI mode c).v ∧ Only Nil w w' := by
  by_cases hm : mode = 2
  · subst hm
    rw [beginI_2]
    go_enter Tryz.func228, Tryz.ntmps228
    go_wp2
    exact post_row (P := Tryz.prog) Tryz.results228 (t := 55) (by rfl) (Row.new _ _ _) Tryz.underlying55 rfl (by kernel_rfl) rfl ⟨rfl, (Only.refl _ _).alloc _⟩
  · rw [beginI_no hm]
    have h2 : (mode != 2) = true := bne_iff_ne.2 hm
    clear hm
    go_enter Tryz.func228, Tryz.ntmps228
    go_wp2
    exact post_row (P := Tryz.prog) Tryz.results228 (t := 55) (by rfl) (Row.new _ _ _) Tryz.underlying55 rfl (by kernel_rfl) rfl ⟨rfl, (Only.refl _ _).alloc _⟩
end Go.Proofs.YtlepokgagickmaaGreat
namespace Go.Proofs.YtlepokgagickmaaGreat
open Go.RowKit
structure Nt where
  t : Int
  w : Int
  o : Int
  a : Int
end Go.Proofs.YtlepokgagickmaaGreat
set_option linter.unusedVariables false
set_option linter.unusedSimpArgs false
namespace Go.Proofs.YtlepokgagickmaaGreat
open Go.RowKit
def flat1 (n : Nt) : List Value := [.int .i64 n.t, .int .i64 n.w, .int .i64 n.o, .int .i64 n.a]
def flat : List Nt → List Value
  | [] => []
  | n :: r => flat1 n ++ flat r
theorem flat_len : ∀ zs, (flat zs).length = zs.length * 4
  | [] => rfl
  | n :: r => by rw [flat, List.length_append, flat_len r, List.length_cons]; show 4 + _ = _; omega
theorem flat_app : ∀ zs ys, flat (zs ++ ys) = flat zs ++ flat ys
  | [], ys => rfl
  | n :: r, ys => by rw [List.cons_append, flat, flat, flat_app r ys, List.append_assoc]
theorem flat_get : ∀ (zs : List Nt) (i : Nat) (n : Nt) (j : Nat), zs[i]? = some n → j < 4 → (flat zs)[i * 4 + j]? = (flat1 n)[j]?
  | [], i, n, j, h, _ => by simp at h
  | m :: r, 0, n, j, h, hj => by
    simp only [List.getElem?_cons_zero, Option.some.injEq] at h
    subst h
    rw [flat, List.getElem?_append_left (by show _ < 4; omega), Nat.zero_mul, Nat.zero_add]
  | m :: r, i + 1, n, j, h, hj => by
    rw [flat, List.getElem?_append_right (by show 4 ≤ _; omega), show (i + 1) * 4 + j - (flat1 m).length = i * 4 + j by show (i + 1) * 4 + j - 4 = _; omega]
    exact flat_get r i n j (by simpa using h) hj
structure At4 (w : World) (b q : Nat) (n : Nt) : Prop where
  c0 : w.cell? ⟨b, q, none⟩ = some (.int .i64 n.t)
  c1 : w.cell? ⟨b, q + 1, none⟩ = some (.int .i64 n.w)
  c2 : w.cell? ⟨b, q + 2, none⟩ = some (.int .i64 n.o)
  c3 : w.cell? ⟨b, q + 3, none⟩ = some (.int .i64 n.a)
def Notes (w : World) (A : Option Addr) (zs : List Nt) : Prop := 0 < zs.length → ∃ b q, A = some ⟨b, q, none⟩ ∧ b < w.heap.size ∧ ∀ (i : Nat) (n : Nt), zs[i]? = some n → At4 w b (q + i * 4) n
theorem At4.only {w w' : World} {b q : Nat} {n : Nt} (h : At4 w b q n) (ho : Only Nil w w') (hb : b < w.heap.size) : At4 w' b q n :=
  ⟨(ho.cell (p := ⟨b, q, none⟩) hb id).trans h.c0, (ho.cell (p := ⟨b, q + 1, none⟩) hb id).trans h.c1, (ho.cell (p := ⟨b, q + 2, none⟩) hb id).trans h.c2, (ho.cell (p := ⟨b, q + 3, none⟩) hb id).trans h.c3⟩
theorem Notes.only {w w' : World} {A : Option Addr} {zs : List Nt} (h : Notes w A zs) (ho : Only Nil w w') : Notes w' A zs := fun h0 => by
  obtain ⟨b, q, e, hb, hc⟩ := h h0
  exact ⟨b, q, e, Nat.lt_of_lt_of_le hb ho.size, fun i n hi => (hc i n hi).only ho hb⟩
def OwnN (base : Nat) (w : World) (v : Value) (zs : List Nt) : Prop := w.ownsRow base 50 4 v zs.length (flat zs)
theorem OwnN.only {base : Nat} {w w' : World} {v : Value} {zs : List Nt} (h : OwnN base w v zs) (ho : Only Nil w w') : OwnN base w' v zs := own_only h ho (fun _ _ => id)
theorem ownN_nil (base : Nat) (w : World) : OwnN base w (.slice none 0 0) [] := World.ownsRow_nil _ _ _ _
def ListN (w : World) (v : Value) (zs : List Nt) : Prop := ∃ A c, v = .slice A zs.length c ∧ Notes w A zs
theorem OwnN.list {base : Nat} {w : World} {v : Value} {zs : List Nt} (h : OwnN base w v zs) : ListN w v zs := by
  rcases h.2 with ⟨rfl, hn⟩ | ⟨g, cap, cur, hv, hb, hg, hc, _⟩
  · obtain rfl := List.eq_nil_of_length_eq_zero hn
    exact ⟨none, 0, rfl, fun h => absurd h (by simp)⟩
  · refine ⟨_, cap, hv, fun _ => ⟨g, 0, rfl, (Array.getElem?_eq_some_iff.1 hg).1, fun i n hi => ?_⟩⟩
    have hcell : ∀ j u, (flat1 n)[j]? = some u → w.cell? ⟨g, 0 + i * 4 + j, none⟩ = some u := fun j u hj => by
      have h1 := World.ownsRow.cells h (g := g) (by rw [hv]; rfl) (i * 4 + j) u (by rw [flat_get zs i n j hi (List.getElem?_eq_some_iff.1 hj).1]; exact hj)
      rwa [add_at, ← Nat.add_assoc] at h1
    exact ⟨hcell 0 _ rfl, hcell 1 _ rfl, hcell 2 _ rfl, hcell 3 _ rfl⟩
theorem infoN : (Tryz.prog.info? 50).map (fun i => (i.zero, i.size, i.bytes)) = some (some (.agg #[.int .i64 0, .int .i64 0, .int .i64 0, .int .i64 0]), 4, 32) := by kernel_rfl
end Go.Proofs.YtlepokgagickmaaGreat
set_option linter.unusedVariables false
set_option linter.unusedSimpArgs false
namespace Go.Proofs.YtlepokgagickmaaGreat
open Go.RowKit
theorem ret_bool {a b : Bool} (h : a = b) : Ending.returned (.bool a) = .returned (.bool b) := by rw [h]
end Go.Proofs.YtlepokgagickmaaGreat
set_option linter.unusedVariables false
set_option linter.unusedSimpArgs false
namespace Go.Proofs.YtlepokgagickmaaGreat
open Go.RowKit
structure Acc5 where
  k : Int
  c : Int
  x : Int
  y : Int
  o : Int
def Acc5.v (a : Acc5) : Value := .agg #[.int .i64 a.k, .int .i64 a.c, .int .u32 a.x, .int .u32 a.y, .int .u32 a.o]
def acc0 : Acc5 := ⟨0, 0, 0, 0, 0⟩
def accI (xs : List Int) (k c x y : Int) : Acc5 := if doOk xs k c then ⟨k, c, x, y, wordAt xs c⟩ else acc0
theorem doVal_acc (xs : List Int) (k c x y : Int) : doVal xs k c x y = (accI xs k c x y).v := by
  unfold doVal accI accOf
  split <;> rfl
theorem acc_old {xs : List Int} {k c x y : Int} (hk : isKind k = true) : (accI xs k c x y).o = wordAt xs c := by
  unfold accI
  by_cases h : doOk xs k c = true
  · rw [if_pos h]
  · rw [if_neg h]
    have ht : there xs c = false := by
      cases e : there xs c
      · rfl
      · exact absurd (by simp [doOk, e, hk]) h
    simp [wordAt, ht, acc0]
def ofV : Value → Acc5
  | .agg ⟨[.int _ k, .int _ c, .int _ x, .int _ y, .int _ o]⟩ => ⟨k, c, x, y, o⟩
  | _ => acc0
theorem ofV_eq {v : Value} (h : ∃ ka ca xa ya oa : Int, v = .agg #[.int .i64 ka, .int .i64 ca, .int .u32 xa, .int .u32 ya, .int .u32 oa]) : v = (ofV v).v := by
  obtain ⟨ka, ca, xa, ya, oa, rfl⟩ := h
  rfl
theorem ofV_step (xs : List Int) (n mode i s c : Int) (q : Int → Bool) : (stepI xs n mode i s c q).acc = (ofV (stepI xs n mode i s c q).acc).v := by
  obtain ⟨ka, ca, xa, ya, oa, h, _⟩ := step_access xs n mode i s c q
  exact ofV_eq ⟨ka, ca, xa, ya, oa, h⟩
theorem wake_form5 (xs : List Int) (n : Int) (on : Bool) (c i : Int) (hit : Bool) : ∃ ka ca xa ya oa : Int, (wakeI xs n on c i hit).acc = .agg #[.int .i64 ka, .int .i64 ca, .int .u32 xa, .int .u32 ya, .int .u32 oa] := by
  have hv := fun k c x y => doVal_form xs k c x y
  unfold wakeI giveI lookI restI
  repeat' split
  all_goals first | exact ⟨0, 0, 0, 0, 0, rfl⟩ | (obtain ⟨k', c', x', y', e⟩ := hv 2 (pc n i) 1 0; exact ⟨_, _, _, _, _, e⟩) | (obtain ⟨k', c', x', y', e⟩ := hv 1 (wc n i) 0 0; exact ⟨_, _, _, _, _, e⟩)
theorem ofV_wake (xs : List Int) (n : Int) (on : Bool) (c i : Int) (hit : Bool) : (wakeI xs n on c i hit).acc = (ofV (wakeI xs n on c i hit).acc).v := ofV_eq (wake_form5 xs n on c i hit)
structure LS where
  n : Int
  mode : Int
  task : Int
  op : Int
  line : Int
  a : Int
  b : Int
  s : Int
  k : WkV
  ret : Int
  acc : Acc5
  ns : List Nt
  xs : List Int
def LS.cells (r : LS) (h nv : Value) : Array Value :=
  #[h, .int .i64 r.n, .int .i64 r.mode, .int .i64 r.task, .int .i64 r.op, .int .i64 r.line, .int .u32 r.a, .int .u32 r.b, .int .i64 r.s, .bool r.k.on, .int .i64 r.k.c, .int .i64 r.k.i, .bool r.k.hit, .int .i64 r.ret,
    .int .i64 r.acc.k, .int .i64 r.acc.c, .int .u32 r.acc.x, .int .u32 r.acc.y, .int .u32 r.acc.o, nv]
def LS.frame (r : LS) : Array Value := #[.int .i64 r.op, .int .i64 r.line, .int .u32 r.a, .int .u32 r.b, .int .i64 r.s, .bool r.k.on, .int .i64 r.k.c, .int .i64 r.k.i, .bool r.k.hit, .int .i64 r.ret]
def LS.doA (r : LS) (k c x y : Int) : LS := { r with acc := accI r.xs k c x y, xs := doNew r.xs k c x y }
def LS.stepR (r : LS) (c : Int) (q : Int → Bool) : StepR := stepI r.xs r.n r.mode r.task r.s c q
def LS.wait (r : LS) (c : Int) (q : Int → Bool) : LS := { r with s := (r.stepR c q).next, acc := ofV (r.stepR c q).acc, xs := (r.stepR c q).xs }
def LS.note (r : LS) (what arg : Int) : LS := { r with ns := r.ns ++ [⟨r.task, what, 0, arg⟩] }
def LS.go (r : LS) (l : Int) : LS := { r with line := l }
def LS.fin (r : LS) (ok : Bool) : LS := { r with ret := if ok then 2 else 1 }
def LS.wake (r : LS) (c : Int) : LS := { r with k := beginI r.mode c }
def LS.fresh (r : LS) : LS := { r with acc := acc0, ns := [] }
def LS.wakeR (r : LS) : WakeR := wakeI r.xs r.n r.k.on r.k.c r.k.i r.k.hit
def LS.waking (r : LS) : LS := { r with acc := ofV r.wakeR.acc, ns := [], k := r.wakeR.next, xs := r.wakeR.xs }
def LS.over (r : LS) : Bool := (r.ret != 0) && !r.k.on
def LS.stuck (r : LS) : Bool := !r.k.on && stuckB r.xs r.n r.mode r.task r.s
end Go.Proofs.YtlepokgagickmaaGreat
set_option linter.unusedVariables false
set_option linter.unusedSimpArgs false
namespace Go.Proofs.YtlepokgagickmaaGreat
open Go.RowKit
def LS.next (L : LS → LS) (r : LS) : LS := if r.k.on then r.waking else L r.fresh
end Go.Proofs.YtlepokgagickmaaGreat
set_option linter.unusedVariables false
set_option linter.unusedSimpArgs false
namespace Go.Proofs.YtlepokgagickmaaGreat
open Go.RowKit
structure Chk (chk : LS → Bool) : Prop where
  fresh : ∀ r : LS, chk r.fresh = chk r
  free : ∀ r : LS, r.s = 0 → chk r = false
theorem chk_stuck : Chk LS.stuck := ⟨fun _ => rfl, fun r h => by
  unfold LS.stuck stuckB
  rw [h]
  simp⟩
section
variable {chk : LS → Bool} {L : LS → LS} {r : LS}
theorem next_fresh : r.fresh.next L = r.next L := by unfold LS.next; show (if r.k.on = true then _ else _) = _; split <;> rfl
end
end Go.Proofs.YtlepokgagickmaaGreat
set_option linter.unusedVariables false
set_option linter.unusedSimpArgs false
namespace Go.Proofs.YtlepokgagickmaaGreat
open Go.RowKit
def upd {α : Type} (f : Nat → α) (t : Nat) (v : α) : Nat → α := fun i => if i = t then v else f i
theorem upd_same {α : Type} (f : Nat → α) (t : Nat) (v : α) : upd f t v t = v := if_pos rfl
theorem upd_other {α : Type} (f : Nat → α) {t i : Nat} (v : α) (h : i ≠ t) : upd f t v i = f i := if_neg h
structure MV where
  rs : Nat → LS
  hold : Nat → Int
  xs : List Int
def MV.at (m : MV) (t : Nat) : LS := { m.rs t with xs := m.xs }
def MV.setR (m : MV) (t : Nat) (r : LS) : MV := ⟨upd m.rs t r, m.hold, r.xs⟩
def MV.setH (m : MV) (t : Nat) (h : Int) : MV := ⟨m.rs, upd m.hold t h, m.xs⟩
def zeroF (r : LS) (op : Int) : LS := { r with op := op, line := 0, a := 0, b := 0, s := 0, k := wk0, ret := 0 }
def mayI (op hold : Int) : Bool := if hold = 0 then (op == 1 || op == 3 || op == 5 || op == 6) else if hold = 1 then (op == 2 || op == 7) else (op == 4 || op == 8)
def fromI (op hold : Int) : Int := if op = 2 ∨ op = 4 then 0 else if op = 8 then 1 else hold
def behindI (op ret hold : Int) : Int := if ret ≠ 2 then hold else if op = 1 ∨ op = 5 then 1 else if op = 3 ∨ op = 6 ∨ op = 7 then 2 else hold
def MV.start (m : MV) (t : Nat) (op : Int) : MV := (m.setH t (fromI op (m.hold t))).setR t (zeroF (m.at t) op)
end Go.Proofs.YtlepokgagickmaaGreat
set_option linter.unusedVariables false
set_option linter.unusedSimpArgs false
namespace Go.Proofs.YtlepokgagickmaaGreat
open Go.RowKit
def LS.keepA (r : LS) (v : Int) : LS := { r with a := v }
def LS.keepB (r : LS) (v : Int) : LS := { r with b := v }
def LS.mine (r : LS) (v : Int) : Bool := v == r.a
def LS.noteIf (r : LS) (b : Bool) (what : Int) : LS := if b then r.note what 0 else r
end Go.Proofs.YtlepokgagickmaaGreat
set_option linter.unusedVariables false
set_option linter.unusedSimpArgs false
namespace Go.Proofs.YtlepokgagickmaaGreat
open Go.RowKit
theorem word_bd {xs : List Int} (h : Words xs) (c : Int) : 0 ≤ wordAt xs c ∧ wordAt xs c < 4294967296 := word_wf h c
theorem doNew_wordsK {xs : List Int} (h : Words xs) (k c x y : Int) (hl : 0 ≤ leftOf k x y (wordAt xs c) ∧ leftOf k x y (wordAt xs c) < 4294967296) : Words (doNew xs k c x y) := by
  unfold doNew
  split
  · intro n hn
    rcases List.mem_or_eq_of_mem_set hn with hn | rfl
    · exact h n hn
    · exact wf_mk hl.1 hl.2
  · exact h
theorem wake_wordsK {xs : List Int} (h : Words xs) (n : Int) (on : Bool) (c i : Int) (hit : Bool) : Words (wakeI xs n on c i hit).xs := by
  unfold wakeI giveI lookI restI
  repeat' split
  all_goals first | exact h | exact h.st _ (by omega) (by omega)
theorem wake_lenK (xs : List Int) (n : Int) (on : Bool) (c i : Int) (hit : Bool) : (wakeI xs n on c i hit).xs.length = xs.length := by
  unfold wakeI giveI lookI restI
  repeat' split
  all_goals first | rfl | exact st_len _ _ _
end Go.Proofs.YtlepokgagickmaaGreat
namespace Go.Proofs.YtlepokgagickmaaGreat
def aheadI (a b : Int) : Int := (a - b + 2147483648) % 4294967296 - 2147483648
end Go.Proofs.YtlepokgagickmaaGreat
set_option linter.unusedVariables false
set_option linter.unusedSimpArgs false
namespace Go.Proofs.YtlepokgagickmaaGreat
open Go.RowKit
def tfCase (op line : Int) : Nat :=
  if op = 1 ∧ line = 0 then 1 else if op = 1 ∧ line = 1 then 2 else if op = 1 ∧ line = 2 then 3 else if op = 2 ∧ line = 0 then 4 else if op = 3 ∧ line = 0 then 5 else if op = 3 ∧ line = 1 then 6
  else if op = 4 ∧ line = 0 then 7 else if op = 4 ∧ line = 1 then 8 else if op = 5 ∧ line = 0 then 9 else if op = 5 ∧ line = 1 then 10 else if op = 5 ∧ line = 2 then 11 else if op = 5 ∧ line = 3 then 12
  else if op = 6 ∧ line = 0 then 13 else if op = 6 ∧ line = 1 then 14 else if op = 6 ∧ line = 2 then 15 else if op = 7 ∧ line = 0 then 16 else if op = 7 ∧ line = 1 then 17 else if op = 7 ∧ line = 2 then 18 else if op = 7 ∧ line = 3 then 19
  else if op = 8 ∧ line = 0 then 20 else 0
def LS.draw (r : LS) (cl : Int) : LS := (((r.doA 3 0 1 0).keepA (wordAt r.xs 0)).note 2 cl).go 1
def LS.awaitR (r : LS) : LS := if (r.stepR 1 r.mine).done then (r.wait 1 r.mine).go 2 else r.wait 1 r.mine
def LS.awaitW (r : LS) : LS := if (r.stepR 2 r.mine).done then ((r.wait 2 r.mine).noteIf (r.stepR 2 r.mine).seen 4).fin true else (r.wait 2 r.mine).noteIf (r.stepR 2 r.mine).seen 4
def LS.turn (r : LS) (c what : Int) : LS := (((r.doA 3 c 1 0).note what 0).wake c).fin true
def LS.leave (r : LS) : LS := (((r.doA 3 1 1 0).note 7 0).wake 1).go 1
def LS.look (r : LS) : LS := ((r.doA 1 0 0 0).keepA (wordAt r.xs 0)).go 1
def LS.weigh (r : LS) (c own : Int) : LS :=
  if own < aheadI r.a (wordAt r.xs c) then (((r.doA 1 c 0 0).keepB (wordAt r.xs c)).note 5 0).fin false
  else if aheadI r.a (wordAt r.xs c) < own then ((r.doA 1 c 0 0).keepB (wordAt r.xs c)).go 0 else ((r.doA 1 c 0 0).keepB (wordAt r.xs c)).go 2
def LS.claimed (r : LS) : Bool := there r.xs 0 && (wordAt r.xs 0 == r.a)
def LS.claim (r : LS) : LS := r.doA 5 0 r.a ((r.a + 1) % 4294967296)
def LS.giveBack (r : LS) : LS := (r.doA 3 2 1 0).fin true
def LS.tf (r : LS) : LS :=
  match tfCase r.op r.line with
  | 1 => r.draw 1
  | 2 => r.awaitR
  | 3 => r.turn 1 4
  | 4 => r.turn 2 6
  | 5 => r.draw 2
  | 6 => r.awaitW
  | 7 => r.leave
  | 8 => r.turn 2 8
  | 9 => r.look
  | 10 => r.weigh 1 0
  | 11 => if r.claimed then (r.claim.note 2 1).go 3 else r.claim.go 0
  | 12 => r.turn 1 4
  | 13 => r.look
  | 14 => r.weigh 2 0
  | 15 => if r.claimed then ((r.claim.note 2 2).note 4 0).fin true else r.claim.go 0
  | 16 => r.look
  | 17 => r.weigh 2 1
  | 18 => if r.claimed then (r.claim.note 9 0).go 3 else r.claim.go 0
  | 19 => r.giveBack
  | 20 => r.turn 1 10
  | _ => r
end Go.Proofs.YtlepokgagickmaaGreat
