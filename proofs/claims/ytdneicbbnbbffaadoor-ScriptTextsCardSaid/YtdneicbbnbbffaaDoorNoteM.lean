/- Notes as texts, in plain mathematics. Nothing here speaks of a program. -/
import Derived.Test.YtdneicbbnbbffaaDoorAccM
import Derived.Test.YtdneicbbnbbffaaDoorNoteNt
namespace Go.Proofs.YtdneicbbnbbffaaDoor
open Go
set_option linter.unusedVariables false
set_option linter.unusedSimpArgs false

/-- The operations' words, by their numbers. -/
def opWs : List Bs := [[], [114, 108, 111, 99, 107], [114, 117, 110, 108, 111, 99, 107], [108, 111, 99, 107], [117, 110, 108, 111, 99, 107], [116, 114, 121, 114, 108, 111, 99, 107], [116, 114, 121, 108, 111, 99, 107], [117, 112, 103, 114, 97, 100, 101], [100, 111, 119, 110, 103, 114, 97, 100, 101]]
/-- The words of what is told. -/
def whWs : List Bs := [[], [99, 97, 108, 108], [114, 101, 103], [112, 114, 101, 115, 101, 110, 116], [97, 100, 109, 105, 116], [114, 101, 102, 117, 115, 101], [114, 101, 108, 101, 97, 115, 101], [108, 101, 97, 118, 101], [112, 97, 115, 115], [117, 112], [100, 111, 119, 110], [114, 101, 116, 117, 114, 110]]
def clWs : List Bs := [[], [114, 101, 97, 100], [119, 114, 105, 116, 101]]
def rtWs : List Bs := [[], [102, 97, 108, 115, 101], [116, 114, 117, 101], [109, 105, 115, 117, 115, 101]]
/-- The words that Op, Arg has beside What. -/
def opOf (w : Int) : List Bs := if w = 1 ∨ w = 11 then opWs else []
def argOf (w : Int) : List Bs := if w = 2 then clWs else if w = 11 then rtWs else []
/-- The word with that number. -/
def wordI (ws : List Bs) (x : Int) : Bs := if x < 0 then [] else ws.getD x.toNat []
/-- The number of the word, of those from i on. -/
def numFrom : List Bs → Nat → Bs → Int
  | [], _, _ => -1
  | x :: r, i, l => if x = l then i else numFrom r (i + 1) l
def numI (ws : List Bs) (l : Bs) : Int := if 0 < numFrom ws 0 l then numFrom ws 0 l else 0
def fitB (ws : List Bs) (x : Int) : Bool := if ws = [] then decide (x = 0) else !decide (wordI ws x = [])

/-- What, Op and Arg are right. -/
def tripB (w o a : Int) : Bool := fitB whWs w && (fitB (opOf w) o && fitB (argOf w) a)
/-- It is right. -/
def rightN (t w o a : Int) : Bool := decide (0 ≤ t) && (decide (t < 64) && tripB w o a)

theorem word_out {ws : List Bs} {x : Int} (h : x < 0 ∨ (ws.length : Int) ≤ x) : wordI ws x = [] := by
  unfold wordI
  rcases h with h | h
  · rw [if_pos h]
  · rw [if_neg (by omega), List.getD_eq_getElem?_getD, List.getElem?_eq_none (by omega)]; rfl
theorem fit_in {ws : List Bs} {x : Int} (h : fitB ws x = true) : (ws = [] ∧ x = 0) ∨ (ws ≠ [] ∧ 0 ≤ x ∧ x < ws.length) := by
  unfold fitB at h
  by_cases h0 : ws = []
  · rw [if_pos h0] at h; exact .inl ⟨h0, of_decide_eq_true h⟩
  · rw [if_neg h0] at h
    refine .inr ⟨h0, ?_⟩
    by_cases hx : x < 0 ∨ (ws.length : Int) ≤ x
    · rw [word_out hx] at h; simp at h
    · omega
theorem what_in {w : Int} (h : fitB whWs w = true) : 0 ≤ w ∧ w < 12 := by
  rcases fit_in h with ⟨h, _⟩ | ⟨_, h1, h2⟩
  · simp [whWs] at h
  · exact ⟨h1, h2⟩
theorem op_in {w o : Int} (h : fitB (opOf w) o = true) : 0 ≤ o ∧ o < 9 := by
  rcases fit_in h with ⟨_, h⟩ | ⟨_, h1, h2⟩
  · omega
  · refine ⟨h1, ?_⟩
    unfold opOf at h2
    split at h2
    · exact h2
    · simp at h2; omega
theorem arg_in {w a : Int} (h : fitB (argOf w) a = true) : 0 ≤ a ∧ a < 4 := by
  rcases fit_in h with ⟨_, h⟩ | ⟨_, h1, h2⟩
  · omega
  · refine ⟨h1, ?_⟩
    unfold argOf at h2
    split at h2
    · have : (clWs.length : Int) = 3 := rfl
      omega
    · split at h2
      · exact h2
      · simp at h2; omega
theorem trip_in {w o a : Int} (h : tripB w o a = true) : (0 ≤ w ∧ w < 12) ∧ (0 ≤ o ∧ o < 9) ∧ (0 ≤ a ∧ a < 4) := by
  unfold tripB at h
  simp only [Bool.and_eq_true] at h
  exact ⟨what_in h.1, op_in h.2.1, arg_in h.2.2⟩
theorem right_in {t w o a : Int} (h : rightN t w o a = true) : 0 ≤ t ∧ t < 64 ∧ tripB w o a = true := by
  unfold rightN at h
  simp only [Bool.and_eq_true, decide_eq_true_eq] at h
  exact h

/-- The parts behind the task's number. -/
def restL (w o a : Int) : List Bs := [wordI whWs w, wordI (opOf w) o, wordI (argOf w) a].filter (fun l => !decide (l = []))
def partsN (t w o a : Int) : List Bs := [decL t, wordI whWs w, wordI (opOf w) o, wordI (argOf w) a].filter (fun l => !decide (l = []))
theorem dec_some (u : Nat) : Lib.decDigits u ≠ [] := fun h => by
  have := dval_dec u
  rw [h] at this
  have h0 : u = 0 := this.symm
  subst h0
  rw [Lib.decDigits_one (by omega)] at h
  cases h
theorem partsN_cons (t w o a : Int) : partsN t w o a = decL t :: restL w o a := by
  unfold partsN restL
  rw [List.filter_cons_of_pos]
  show (!decide (Lib.decDigits t.toNat = [])) = true
  rw [decide_eq_false (dec_some _)]; rfl
def textN (n : Nt) : Bs := glue (partsN n.t n.w n.o n.a)
/-- All that is asked of the finitely many. -/
def goodB (w o a : Int) : Bool := !tripB w o a || ((restL w o a).all (fun l => !l.contains 32) && (!decide (restL w o a = []) && (decide (numI whWs ((restL w o a).getD 0 []) = w) && (decide (numI (opOf w) ((restL w o a).getD 1 []) = o) && (decide (numI (argOf w) ((restL w o a).getLastD []) = a) && decide ((restL w o a).length ≤ 3))))))
set_option maxRecDepth 100000 in
theorem good_all : ∀ w : Fin 12, ∀ o : Fin 9, ∀ a : Fin 4, goodB (w : Nat) (o : Nat) (a : Nat) = true := by decide +kernel
theorem good {w o a : Int} (h : tripB w o a = true) : (∀ l ∈ restL w o a, (32 : UInt8) ∉ l) ∧ restL w o a ≠ [] ∧ numI whWs ((restL w o a).getD 0 []) = w ∧ numI (opOf w) ((restL w o a).getD 1 []) = o ∧ numI (argOf w) ((restL w o a).getLastD []) = a ∧ (restL w o a).length ≤ 3 := by
  obtain ⟨⟨w0, w1⟩, ⟨o0, o1⟩, a0, a1⟩ := trip_in h
  have hg := good_all ⟨w.toNat, by omega⟩ ⟨o.toNat, by omega⟩ ⟨a.toNat, by omega⟩
  simp only [Int.toNat_of_nonneg w0, Int.toNat_of_nonneg o0, Int.toNat_of_nonneg a0] at hg
  unfold goodB at hg
  rw [h] at hg
  simp only [Bool.not_true, Bool.false_or, Bool.and_eq_true, decide_eq_true_eq, List.all_eq_true, Bool.not_eq_true', decide_eq_false_iff_not] at hg
  obtain ⟨h1, h2, h3, h4, h5, h6⟩ := hg
  exact ⟨fun l hl => by simpa using h1 l hl, h2, h3, h4, h5, h6⟩

/-- l is the text of the right note n. -/
def HasN (l : Bs) (n : Nt) : Prop := rightN n.t n.w n.o n.a = true ∧ l = textN n
theorem HasN.cutN {l : Bs} {n : Nt} (h : HasN l n) : cut l = decL n.t :: restL n.w n.o n.a := by
  obtain ⟨h1, rfl⟩ := h
  obtain ⟨_, _, h3⟩ := right_in h1
  obtain ⟨g1, g2, _⟩ := good h3
  rw [textN, partsN_cons]
  refine cut_glue _ (by simp) ?_
  intro w hw
  rcases List.mem_cons.1 hw with rfl | hw
  · exact dec_blank _
  · exact g1 w hw
/-- What a text tells of the note whose text it is. -/
theorem HasN.facts {l : Bs} {n : Nt} (h : HasN l n) : (0 ≤ n.t ∧ n.t < 64) ∧ (cut l)[0]? = some (decL n.t) ∧ numI whWs ((cut l).getD 1 []) = n.w ∧ numI (opOf n.w) ((cut l).getD 2 []) = n.o ∧ numI (argOf n.w) ((cut l).getLastD []) = n.a := by
  obtain ⟨h1, h2, h3⟩ := right_in h.1
  obtain ⟨_, g2, g3, g4, g5, _⟩ := good h3
  rw [h.cutN]
  refine ⟨⟨h1, h2⟩, rfl, by simpa using g3, by simpa using g4, ?_⟩
  rw [show (decL n.t :: restL n.w n.o n.a).getLastD [] = (restL n.w n.o n.a).getLastD [] by
    cases h : restL n.w n.o n.a with
    | nil => exact absurd h g2
    | cons x r => rfl]
  exact g5
theorem HasN.inj {l : Bs} {a b : Nt} (h : HasN l a) (k : HasN l b) : a = b := by
  obtain ⟨⟨t0, _⟩, h1, h2, h3, h4⟩ := h.facts
  obtain ⟨⟨u0, _⟩, k1, k2, k3, k4⟩ := k.facts
  have ht : a.t = b.t := by
    have e := h1.symm.trans k1
    have := dec_inj (Option.some.inj e)
    omega
  have hw : a.w = b.w := h2.symm.trans k2
  rw [hw] at h3 h4
  exact Nt.ext_ ht hw (h3.symm.trans k3) (h4.symm.trans k4)
theorem textN_ne {n : Nt} (h : rightN n.t n.w n.o n.a = true) : textN n ≠ [] := fun e => by
  have hh := (show HasN (textN n) n from ⟨h, rfl⟩).cutN
  rw [e] at hh
  simp only [cut, List.cons.injEq] at hh
  exact dec_some _ hh.1.symm
/-- The text as it is told; none of what isn't right. -/
def txtN (t w o a : Int) : Bs := if rightN t w o a then textN ⟨t, w, o, a⟩ else []
theorem txtN_iff {t w o a : Int} : txtN t w o a = [] ↔ rightN t w o a = false := by
  unfold txtN
  cases h : rightN t w o a
  · simp
  · simp only [if_true]
    exact ⟨fun e => absurd e (textN_ne (n := ⟨t, w, o, a⟩) h), fun e => by cases e⟩
theorem txtN_inj {t w o a t' w' o' a' : Int} (h : rightN t w o a = true) (h' : rightN t' w' o' a' = true) : txtN t w o a = txtN t' w' o' a' ↔ (t = t' ∧ w = w' ∧ o = o' ∧ a = a') := by
  unfold txtN
  rw [if_pos h, if_pos h']
  constructor
  · intro e
    have := HasN.inj (a := ⟨t, w, o, a⟩) (b := ⟨t', w', o', a'⟩) ⟨h, rfl⟩ ⟨h', e⟩
    simpa using this
  · rintro ⟨rfl, rfl, rfl, rfl⟩; rfl
end Go.Proofs.YtdneicbbnbbffaaDoor
