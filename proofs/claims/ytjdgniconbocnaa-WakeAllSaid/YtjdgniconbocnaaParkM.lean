/- Permits: plain functions; a memory, or none; a law's lock. -/
import Derived.Test.YtjdgniconbocnaaDoAny
import Derived.Test.YtjdgniconbocnaaPlaceC
set_option linter.unusedVariables false
set_option linter.unusedSimpArgs false
namespace Go.Proofs.Ytjdgniconbocnaa
open Go.RowKit

/-- A task's permit's cell. -/
def pc (n i : Int) : Int := cellI n 3 i

/-- Is the permit there? -/
def hasP (xs : List Int) (n i : Int) : Bool := wordAt xs (pc n i) != 0

/-- A struct of five cells stored into a block. -/
theorem five {w : World} {g : Nat} {t : TypeId} {a0 a1 a2 a3 a4 : Value} (h : Row w g t #[a0, a1, a2, a3, a4]) (v0 v1 v2 v3 v4 : Value) :
    Row (((((w.setCell ⟨g, 0, none⟩ v0).setCell ⟨g, 1, none⟩ v1).setCell ⟨g, 2, none⟩ v2).setCell ⟨g, 3, none⟩ v3).setCell ⟨g, 4, none⟩ v4) g t #[v0, v1, v2, v3, v4] := by
  simpa using ((((h.set 0 v0).set 1 v1).set 2 v2).set 3 v3).set 4 v4

theorem five_only {S : Nat → Prop} {w w' : World} (h : Only S w w') {g : Nat} (hg : w.heap.size ≤ g ∨ S g) (v0 v1 v2 v3 v4 : Value) :
    Only S w (((((w'.setCell ⟨g, 0, none⟩ v0).setCell ⟨g, 1, none⟩ v1).setCell ⟨g, 2, none⟩ v2).setCell ⟨g, 3, none⟩ v3).setCell ⟨g, 4, none⟩ v4) :=
  ((((h.setCell (p := ⟨g, 0, none⟩) hg v0).setCell (p := ⟨g, 1, none⟩) hg v1).setCell (p := ⟨g, 2, none⟩) hg v2).setCell (p := ⟨g, 3, none⟩) hg v3).setCell (p := ⟨g, 4, none⟩) hg v4

/-- A memory, or none. -/
def Memo (w : World) (p A : Option Addr) (cp : Nat) (xs : List Int) : Prop := (p = none ∧ xs = [] ∧ A = none) ∨ ∃ b, p = some ⟨b, 0, none⟩ ∧ Mem w b A cp xs

theorem Memo.of {w : World} {b : Nat} {A : Option Addr} {cp : Nat} {xs : List Int} (h : Mem w b A cp xs) : Memo w (some ⟨b, 0, none⟩) A cp xs := .inr ⟨b, rfl, h⟩

theorem Memo.far {w w' : World} {p A : Option Addr} {cp : Nat} {xs : List Int} {S : Nat → Prop} (h : Memo w p A cp xs) (ho : Only S w w') (hS : ∀ j, At p j ∨ At A j → ¬ S j) : Memo w' p A cp xs := by
  rcases h with h | ⟨b, rfl, h⟩
  · exact .inl h
  · exact .inr ⟨b, rfl, h.only ho (hS b (.inl ⟨_, rfl, rfl⟩)) (fun j hj => hS j (.inr hj))⟩

theorem Memo.keep {w w' : World} {p A : Option Addr} {cp : Nat} {xs : List Int} (h : Memo w p A cp xs) (ho : Only Nil w w') : Memo w' p A cp xs := h.far ho (fun _ _ => id)

theorem Memo.lt {w : World} {p A : Option Addr} {cp : Nat} {xs : List Int} (h : Memo w p A cp xs) : ∀ j, At p j ∨ At A j → j < w.heap.size := by
  rcases h with ⟨rfl, _, rfl⟩ | ⟨b, rfl, h⟩
  · rintro j (⟨a, h, _⟩ | ⟨a, h, _⟩) <;> cases h
  · rintro j (⟨a, h2, rfl⟩ | h2)
    · cases h2; exact h.hdr.lt
    · exact h.own.lt j h2

theorem do_memo (p A : Option Addr) (cp : Nat) (xs : List Int) (k c x y o : Int) (w : World) (h : Memo w p A cp xs) :
    Calls Try.prog 27 #[.pointer p, .agg #[.int .i64 k, .int .i64 c, .int .u32 x, .int .u32 y, .int .u32 o]] w fun e w' =>
      e = .returned (.tuple #[doVal xs k c x y, .bool (doOk xs k c)]) ∧ Only (At A) w w' ∧ Memo w' p A cp (doNew xs k c x y) := by
  rcases h with ⟨rfl, rfl, rfl⟩ | ⟨b, rfl, h⟩
  · have ht : there [] c = false := by
      have : ¬ (0 ≤ c ∧ c < ((0 : Nat) : Int)) := by omega
      simp only [there, List.length_nil, decide_eq_false_iff_not]; exact this
    have hok : doOk [] k c = false := by simp [doOk, ht]
    refine (do_nil k c x y o w).mono fun e w' ⟨he, hO⟩ => ⟨by rw [he]; simp [doVal, hok, accOf], hO.mono (fun _ _ h => h.elim), .inl ⟨rfl, by simp [doNew, hok], rfl⟩⟩
  · exact (do_any b A cp xs k c x y o w h).mono fun e w' ⟨he, hO, hM⟩ => ⟨he, hO, .inr ⟨b, rfl, hM⟩⟩

/-- The access that a permit is taken by. -/
def takeVal (xs : List Int) (n i : Int) : Value := if hasP xs n i then accOf 4 (pc n i) 0 0 (wordAt xs (pc n i)) else accOf 0 0 0 0 0

theorem hasP_there {xs : List Int} {n i : Int} (h : hasP xs n i = true) : there xs (pc n i) = true := by
  unfold hasP wordAt at h
  cases ht : there xs (pc n i)
  · rw [ht] at h; simp at h
  · rfl

theorem st_none {xs : List Int} {n i : Int} (h : hasP xs n i = false) : st xs (pc n i) 0 = xs := by
  have hw : wordAt xs (pc n i) = 0 := by simpa [hasP] using h
  have := st_word xs (pc n i)
  rwa [hw] at this

/-- A law's lock: its memory, made since w0, ahead of block B, which holds the map. -/
structure Lk (w0 : World) (B : Nat) (p A : Option Addr) (cp : Nat) (n : Int) (w : World) (xs : List Int) : Prop where
  only : Only Nil w0 w
  memo : Memo w p A cp xs
  map : Row w B 37 #[.int .i64 n]
  far : ∀ j, At p j ∨ At A j → w0.heap.size ≤ j ∧ j < B

theorem Lk.keep {w0 w w' : World} {B : Nat} {p A : Option Addr} {cp : Nat} {n : Int} {xs : List Int} (h : Lk w0 B p A cp n w xs) (ho : Only Nil w w') : Lk w0 B p A cp n w' xs :=
  ⟨h.only.trans ho, h.memo.keep ho, h.map.only ho id, h.far⟩

theorem Lk.alloc {w0 w : World} {B : Nat} {p A : Option Addr} {cp : Nat} {n : Int} {xs : List Int} (h : Lk w0 B p A cp n w xs) (o : Obj) : Lk w0 B p A cp n (w.alloc o) xs := h.keep ((Only.refl Nil w).alloc o)

theorem Lk.call {w0 w w' : World} {B : Nat} {p A : Option Addr} {cp : Nat} {n : Int} {xs ys : List Int} (h : Lk w0 B p A cp n w xs) (ho : Only (At A) w w') (hm : Memo w' p A cp ys) : Lk w0 B p A cp n w' ys :=
  ⟨h.only.step ho (fun i hi hA => by have := (h.far i (.inr hA)).1; omega), hm, h.map.only ho (fun hA => by have := (h.far _ (.inr hA)).2; omega), h.far⟩

theorem Memo.mem {w : World} {b : Nat} {A : Option Addr} {cp : Nat} {xs : List Int} (h : Memo w (some ⟨b, 0, none⟩) A cp xs) : Mem w b A cp xs := by
  rcases h with ⟨h, _⟩ | ⟨b', hb, h⟩
  · cases h
  · cases hb; exact h

theorem pc_of {n i : Int} (hn : 1 ≤ n ∧ n ≤ 64) (hi : 0 ≤ i ∧ i < n) : pc n i = 8 + 3 * n + i := if_pos ⟨hn.1, hn.2, hi.1, hi.2⟩

theorem pc_none {n i : Int} (h : ¬ (1 ≤ n ∧ n ≤ 64 ∧ 0 ≤ i ∧ i < n)) : pc n i = -1 := if_neg h

theorem hasP_st {xs : List Int} {n i : Int} (u : Int) (h : there xs (pc n i) = true) : hasP (st xs (pc n i) u) n i = (u != 0) := by
  unfold hasP
  rw [word_st, h]
  rfl

theorem word_far {xs : List Int} {c d : Int} (u : Int) (h : c ≠ d) : wordAt (st xs c u) d = wordAt xs d := by
  unfold wordAt
  rw [there_st]
  cases hd : there xs d
  · rfl
  · unfold st
    cases hc : there xs c
    · rfl
    · simp only [there, decide_eq_true_eq] at hd hc
      simp only [if_true, List.getD]
      rw [List.getElem?_set_ne (by omega)]

theorem hasP_far {xs : List Int} {n i j : Int} (u : Int) (h : pc n i ≠ pc n j) : hasP (st xs (pc n i) u) n j = hasP xs n j := by
  unfold hasP
  rw [word_far u h]

theorem five_far {w : World} {g q : Nat} {t : TypeId} {cs : Array Value} (h : Row w q t cs) (hq : q ≠ g) (v0 v1 v2 v3 v4 : Value) :
    Row (((((w.setCell ⟨g, 0, none⟩ v0).setCell ⟨g, 1, none⟩ v1).setCell ⟨g, 2, none⟩ v2).setCell ⟨g, 3, none⟩ v3).setCell ⟨g, 4, none⟩ v4) q t cs :=
  h.only (five_only (Only.refl (· = g) w) (.inr rfl) v0 v1 v2 v3 v4) hq

/-- What a call of Take tells, field by field. -/
theorem takeVal_form (xs : List Int) (n i : Int) : ∃ k c x y o, takeVal xs n i = .agg #[.int .i64 k, .int .i64 c, .int .u32 x, .int .u32 y, .int .u32 o] := by
  unfold takeVal accOf
  split
  · exact ⟨_, _, _, _, _, rfl⟩
  · exact ⟨_, _, _, _, _, rfl⟩
end Go.Proofs.Ytjdgniconbocnaa
