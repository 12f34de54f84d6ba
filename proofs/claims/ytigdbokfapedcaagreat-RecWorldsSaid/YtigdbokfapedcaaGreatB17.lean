/- RcM, Str, StrEq, NoteW, Note. -/
import Derived.Test.YtigdbokfapedcaaGreatChecked
import Derived.Sort.Grow
import Derived.Laws.Strings3
import Derived.IntWalk
import Derived.Test.YtigdbokfapedcaaGreatB2
import Derived.Test.YtigdbokfapedcaaGreatB1
/- rec.Calls in plain words: which calls of a list are open; what one note more makes of a list, call by call; who is within what, as a map has it. Nothing here speaks of a program. -/
set_option linter.unusedVariables false
set_option linter.unusedSimpArgs false
namespace Go.Proofs.YtigdbokfapedcaaGreat
open Go
/-- The places of the open calls of task t. -/
def openF (t : Int) : Nat → List Cal → List Nat
  | _, [] => []
  | n, c :: cs => if c.g < 0 ∧ c.t = t then n :: openF t (n + 1) cs else openF t (n + 1) cs
theorem openF_lt {t : Int} : ∀ (cs : List Cal) (n i : Nat), i ∈ openF t n cs → n ≤ i ∧ i < n + cs.length
  | [], _, _, h => by simp [openF] at h
  | c :: cs, n, i, h => by
    have ih := openF_lt (t := t) cs (n + 1) i
    rw [List.length_cons]
    rw [openF] at h
    split at h
    · rcases List.mem_cons.1 h with rfl | h
      · omega
      · have := ih h; omega
    · have := ih h; omega
theorem openF_len {t : Int} : ∀ (cs : List Cal) (n : Nat), (openF t n cs).length ≤ cs.length
  | [], _ => Nat.le_refl _
  | c :: cs, n => by
    have ih := openF_len (t := t) cs (n + 1)
    rw [openF]
    split
    · rw [List.length_cons, List.length_cons]; omega
    · rw [List.length_cons]; omega
theorem openF_snoc {t : Int} (c : Cal) : ∀ (cs : List Cal) (n : Nat), openF t n (cs ++ [c]) = openF t n cs ++ (if c.g < 0 ∧ c.t = t then [n + cs.length] else [])
  | [], n => by
    rw [List.nil_append, openF, openF, openF]
    split <;> simp
  | d :: cs, n => by
    have ih := openF_snoc (t := t) c cs (n + 1)
    rw [List.cons_append, openF, openF, ih, List.length_cons, show n + 1 + cs.length = n + (cs.length + 1) by omega]
    split <;> simp
/-- Calls that stay as open as they were, and whose tasks stay. -/
theorem openF_same {t : Int} (f : Cal → Cal) : ∀ (cs : List Cal) (n : Nat), (∀ c ∈ cs, ((f c).g < 0 ∧ (f c).t = t ↔ c.g < 0 ∧ c.t = t)) → openF t n (cs.map f) = openF t n cs
  | [], _, _ => rfl
  | c :: cs, n, h => by
    have ih := openF_same (t := t) f cs (n + 1) (fun d hd => h d (List.mem_cons_of_mem _ hd))
    rw [List.map_cons, openF, openF, ih]
    by_cases hc : c.g < 0 ∧ c.t = t
    · rw [if_pos hc, if_pos ((h c List.mem_cons_self).2 hc)]
    · rw [if_neg hc, if_neg (fun e => hc ((h c List.mem_cons_self).1 e))]
theorem openF_none {t : Int} (f : Cal → Cal) : ∀ (cs : List Cal) (n : Nat), (∀ c ∈ cs, ¬ ((f c).g < 0 ∧ (f c).t = t)) → openF t n (cs.map f) = []
  | [], _, _ => rfl
  | c :: cs, n, h => by
    rw [List.map_cons, openF, if_neg (h c List.mem_cons_self)]
    exact openF_none (t := t) f cs (n + 1) (fun d hd => h d (List.mem_cons_of_mem _ hd))
/-- One call changed. -/
def modN (u : Cal → Cal) : Nat → List Cal → List Cal
  | _, [] => []
  | 0, c :: cs => u c :: cs
  | n + 1, c :: cs => c :: modN u n cs
theorem modN_set (u : Cal → Cal) : ∀ (cs : List Cal) (i : Nat) (c : Cal), cs[i]? = some c → modN u i cs = cs.set i (u c)
  | [], _, _, h => by simp at h
  | d :: cs, 0, c, h => by
    obtain rfl : d = c := by simpa using h
    rfl
  | d :: cs, i + 1, c, h => by
    rw [modN, List.set_cons_succ, modN_set u cs i c (by simpa using h)]
theorem modN_nil (u : Cal → Cal) : ∀ i : Nat, modN u i [] = []
  | 0 => rfl
  | _ + 1 => rfl
theorem modN_len (u : Cal → Cal) : ∀ (cs : List Cal) (i : Nat), (modN u i cs).length = cs.length
  | [], i => by rw [modN_nil]
  | d :: cs, 0 => rfl
  | d :: cs, i + 1 => by rw [modN, List.length_cons, List.length_cons, modN_len u cs i]
theorem modN_app (u : Cal → Cal) (c : Cal) (cs : List Cal) : ∀ pre : List Cal, modN u pre.length (pre ++ c :: cs) = pre ++ u c :: cs
  | [] => rfl
  | d :: pre => by rw [List.length_cons, List.cons_append, modN, modN_app u c cs pre, List.cons_append]
/-- Those at these places changed, one by one. -/
def bump (u : Cal → Cal) (is : List Nat) (cs : List Cal) : List Cal := is.foldl (fun cs i => modN u i cs) cs
theorem bump_snoc (u : Cal → Cal) (is : List Nat) (i : Nat) (cs : List Cal) : bump u (is ++ [i]) cs = modN u i (bump u is cs) := by unfold bump; rw [List.foldl_append]; rfl
theorem bump_len (u : Cal → Cal) : ∀ (is : List Nat) (cs : List Cal), (bump u is cs).length = cs.length
  | [], _ => rfl
  | i :: is, cs => by
    have := bump_len u is (modN u i cs)
    rw [modN_len] at this
    exact this
theorem bump_open (t : Int) (u : Cal → Cal) : ∀ (cs pre : List Cal), bump u (openF t pre.length cs) (pre ++ cs) = pre ++ cs.map fun c => if c.g < 0 ∧ c.t = t then u c else c
  | [], pre => rfl
  | c :: cs, pre => by
    rw [openF, List.map_cons]
    by_cases h : c.g < 0 ∧ c.t = t
    · have ih := bump_open t u cs (pre ++ [u c])
      rw [List.length_append, List.length_singleton, List.append_assoc, List.append_assoc] at ih
      rw [if_pos h, if_pos h]
      show bump u (openF t (pre.length + 1) cs) (modN u pre.length (pre ++ c :: cs)) = _
      rw [modN_app]
      exact ih
    · have ih := bump_open t u cs (pre ++ [c])
      rw [List.length_append, List.length_singleton, List.append_assoc, List.append_assoc] at ih
      rw [if_neg h, if_neg h]
      exact ih
def retU (i a : Int) (c : Cal) : Cal := { c with g := i, r := a }
def pntU (i : Int) (c : Cal) : Cal := { c with ps := c.ps ++ [i] }
theorem touch_ret {i : Int} {x : Nt} (h : x.w = 11) (cs : List Cal) : cs.map (fun c => c.touch i x) = bump (retU i x.a) (openF x.t 0 cs) cs := by
  have e := bump_open x.t (retU i x.a) cs []
  rw [List.nil_append, List.nil_append] at e
  refine Eq.trans ?_ e.symm
  refine List.map_congr_left fun c _ => ?_
  unfold Cal.touch
  by_cases hc : c.g < 0 ∧ c.t = x.t
  · rw [if_pos ⟨hc.1, hc.2.symm⟩, if_pos hc, if_pos h]; rfl
  · rw [if_neg (fun e => hc ⟨e.1, e.2.symm⟩), if_neg hc]
theorem touch_pnt {i : Int} {x : Nt} (h : ¬ x.w = 11) (h1 : ¬ x.w = 1) (cs : List Cal) : cs.map (fun c => c.touch i x) = bump (pntU i) (openF x.t 0 cs) cs := by
  have e := bump_open x.t (pntU i) cs []
  rw [List.nil_append, List.nil_append] at e
  refine Eq.trans ?_ e.symm
  refine List.map_congr_left fun c _ => ?_
  unfold Cal.touch
  by_cases hc : c.g < 0 ∧ c.t = x.t
  · rw [if_pos ⟨hc.1, hc.2.symm⟩, if_pos hc, if_neg h, if_neg h1]; rfl
  · rw [if_neg (fun e => hc ⟨e.1, e.2.symm⟩), if_neg hc]
theorem touch_call {i : Int} {x : Nt} (h1 : x.w = 1) (cs : List Cal) : cs.map (fun c => c.touch i x) = cs := by
  refine (List.map_congr_left fun c _ => ?_).trans (List.map_id cs)
  unfold Cal.touch
  by_cases hc : c.g < 0 ∧ x.t = c.t
  · rw [if_pos hc, if_neg (by omega), if_pos h1]; rfl
  · rw [if_neg hc]; rfl
/-- Points of calls: each of the places touches each once at most. -/
theorem modN_mem {u : Cal → Cal} {c : Cal} : ∀ (cs : List Cal) (i : Nat), c ∈ modN u i cs → c ∈ cs ∨ ∃ d ∈ cs, c = u d
  | [], i, h => by rw [modN_nil] at h; exact .inl h
  | d :: cs, 0, h => by
    rcases List.mem_cons.1 h with rfl | h
    · exact .inr ⟨d, List.mem_cons_self, rfl⟩
    · exact .inl (List.mem_cons_of_mem _ h)
  | d :: cs, i + 1, h => by
    rcases List.mem_cons.1 h with rfl | h
    · exact .inl List.mem_cons_self
    · rcases modN_mem cs i h with h | ⟨e, h, e'⟩
      · exact .inl (List.mem_cons_of_mem _ h)
      · exact .inr ⟨e, List.mem_cons_of_mem _ h, e'⟩
theorem bump_pts {n : Nat} (y : Int) : ∀ (cs : List Cal) (_ : ∀ c ∈ cs, c.ps.length ≤ n) (is : List Nat), ∀ c ∈ bump (pntU y) is cs, c.ps.length ≤ n + is.length
  | cs, h, [], c, hc => h c hc
  | cs, h, i :: is, c, hc => by
    have ih := bump_pts (n := n + 1) y (modN (pntU y) i cs) (fun d hd => by
      rcases modN_mem cs i hd with hd | ⟨e, he, rfl⟩
      · have := h d hd; omega
      · have := h e he
        show (e.ps ++ [y]).length ≤ n + 1
        rw [List.length_append, List.length_singleton]; omega) is c hc
    rw [List.length_cons]; omega
  termination_by _ _ is => is.length
/-- The open calls' places behind a note more. -/
theorem open_call {i : Int} {x : Nt} (h1 : x.w = 1) (cs : List Cal) (t : Int) : openF t 0 (cs.map (fun c => c.touch i x) ++ [⟨x.t, x.o, i, -1, 0, []⟩]) = openF t 0 cs ++ (if x.t = t then [cs.length] else []) := by
  rw [touch_call h1, openF_snoc]
  congr 1
  by_cases h : x.t = t
  · rw [if_pos h, if_pos ⟨by show (-1 : Int) < 0; decide, h⟩, Nat.zero_add]
  · rw [if_neg h, if_neg (fun e => h e.2)]
theorem open_ret {i : Int} {x : Nt} (hi : 0 ≤ i) (h : x.w = 11) (cs : List Cal) (t : Int) : openF t 0 (cs.map fun c => c.touch i x) = if t = x.t then [] else openF t 0 cs := by
  by_cases ht : t = x.t
  · rw [if_pos ht]
    refine openF_none _ cs 0 fun c _ => ?_
    unfold Cal.touch
    by_cases hc : c.g < 0 ∧ x.t = c.t
    · rw [if_pos hc, if_pos h]; rintro ⟨h1, _⟩; have h1 : i < 0 := h1; omega
    · rw [if_neg hc]; rintro ⟨h1, h2⟩; exact hc ⟨h1, by omega⟩
  · rw [if_neg ht]
    refine openF_same _ cs 0 fun c _ => ?_
    unfold Cal.touch
    by_cases hc : c.g < 0 ∧ x.t = c.t
    · rw [if_pos hc, if_pos h]
      constructor
      · rintro ⟨h1, _⟩; have h1 : i < 0 := h1; omega
      · rintro ⟨_, h2⟩; omega
    · rw [if_neg hc]
theorem open_pnt {i : Int} {x : Nt} (h : ¬ x.w = 11) (cs : List Cal) (t : Int) : openF t 0 (cs.map fun c => c.touch i x) = openF t 0 cs := by
  refine openF_same _ cs 0 fun c _ => ?_
  unfold Cal.touch
  by_cases hc : c.g < 0 ∧ x.t = c.t
  · rw [if_pos hc, if_neg h]
    by_cases h1 : x.w = 1
    · rw [if_pos h1]
    · rw [if_neg h1]
  · rw [if_neg hc]
theorem callsF_len : ∀ (l : List Nt) (i : Int), (callsF i l).length ≤ l.length
  | [], _ => Nat.le_refl _
  | x :: l, i => by
    have ih := callsF_len l (i + 1)
    rw [callsF]
    split
    · rw [List.length_cons, List.length_cons]; omega
    · rw [List.length_cons]; omega
/-- Points of a call: no more than notes. -/
theorem retF_len (t : Int) : ∀ (l : List Nt) (i : Int), (retF t i l).2.2.length ≤ l.length
  | [], _ => Nat.le_refl _
  | x :: l, i => by
    have ih := retF_len t l (i + 1)
    rw [retF]
    split
    · exact Nat.zero_le _
    · split
      · show (i :: (retF t (i + 1) l).2.2).length ≤ _
        rw [List.length_cons, List.length_cons]; omega
      · rw [List.length_cons]; omega
theorem calls_pts {c : Cal} : ∀ (l : List Nt) (i : Int), c ∈ callsF i l → c.ps.length ≤ l.length
  | [], _, h => by simp [callsF] at h
  | x :: l, i, h => by
    rw [callsF] at h
    have hr : c ∈ callsF (i + 1) l → c.ps.length ≤ (x :: l).length := fun h => Nat.le_trans (calls_pts l _ h) (by simp)
    split at h
    · rcases List.mem_cons.1 h with rfl | h
      · exact Nat.le_trans (retF_len x.t l (i + 1)) (by simp)
      · exact hr h
    · exact hr h
/-- Behind a return nothing more comes of a call. -/
theorem retF_done (t : Int) (i : Int) (hi : 0 ≤ i) : ∀ (r l : List Nt), 0 ≤ (retF t i l).1 → retF t i (l ++ r) = retF t i l
  | [], l, _ => by rw [List.append_nil]
  | x :: r, l, h => by
    have e : retF t i (l ++ [x]) = retF t i l := by rw [retF_snoc t x l i hi, if_neg (by omega)]
    have ih := retF_done t i hi r (l ++ [x]) (by rw [e]; exact h)
    rw [show l ++ x :: r = (l ++ [x]) ++ r by simp, ih, e]
/-- Who is within what, as a map has it. -/
def mpN (t : Int) (o : Option Int) (x : Nt) : Option Int := if x.t = t then (if x.w = 1 then some x.o else if x.w = 11 then none else o) else o
def mpF (l : List Nt) (t : Int) : Option Int := l.foldl (mpN t) none
theorem mpF_snoc (l : List Nt) (x : Nt) (t : Int) : mpF (l ++ [x]) t = mpN t (mpF l t) x := by unfold mpF; rw [List.foldl_append]; rfl
theorem mpF_last (t : Int) : ∀ (l : List Nt) (o : Option Int) (b : Bool), o.isSome = b → (l.foldl (mpN t) o).isSome = l.foldl (lastN t) b
  | [], _, _, h => h
  | x :: l, o, b, h => by
    rw [List.foldl_cons, List.foldl_cons]
    refine mpF_last t l _ _ ?_
    unfold mpN lastN
    split
    · split
      · rfl
      · split
        · rfl
        · exact h
    · exact h
theorem mpF_some {l : List Nt} {t : Int} : (mpF l t).isSome = lastB l t := mpF_last t l none false rfl
theorem mpF_in (t : Int) : ∀ (l : List Nt) (o : Option Int), (l.foldl (mpN t) o).getD 0 = l.foldl (inN t) (o.getD 0)
  | [], _ => rfl
  | x :: l, o => by
    rw [List.foldl_cons, List.foldl_cons, mpF_in t l]
    congr 1
    unfold mpN inN
    split
    · split
      · rfl
      · split <;> rfl
    · rfl
theorem mpF_op {l : List Nt} {t : Int} : (mpF l t).getD 0 = inOp l t := mpF_in t l none
/-- Why a note is wrong, as the program finds it: of a task that is within 'o' by the map. -/
def faultM (n : Int) (o : Option Int) (x : Nt) : Int := if rightN x.t x.w x.o x.a = false then 4 else if n ≤ x.t then 2 else if o.isSome = decide (x.w = 1) then 8 else if x.w = 11 ∧ x.o ≠ o.getD 0 then 8 else 0
theorem fault_wrong {n : Int} {o : Option Int} {x : Nt} (h : o.isSome = true ↔ o.getD 0 ≠ 0) : faultM n o x = wrongN n (o.getD 0) x := by
  unfold faultM wrongN
  split
  · rfl
  · split
    · rfl
    · by_cases h1 : x.w = 1
      · rw [decide_eq_true h1]
        by_cases ho : o.isSome = true
        · rw [if_pos ho, if_pos (.inl ⟨h1, h.1 ho⟩)]
        · have h0 : o.getD 0 = 0 := by
            by_cases h0 : o.getD 0 = 0
            · exact h0
            · exact absurd (h.2 h0) ho
          rw [if_neg ho, if_neg (by omega), h0, if_neg (by rintro (h | h | h) <;> omega)]
      · rw [decide_eq_false h1]
        by_cases ho : o.isSome = true
        · have h0 := h.1 ho
          rw [if_neg (by rw [ho]; decide)]
          by_cases h11 : x.w = 11 ∧ x.o ≠ o.getD 0
          · rw [if_pos h11, if_pos (.inr (.inr h11))]
          · rw [if_neg h11, if_neg]
            rintro (h | h | h)
            · exact h1 h.1
            · exact h0 h.2
            · exact h11 h
        · have h0 : o.getD 0 = 0 := by
            by_cases h0 : o.getD 0 = 0
            · exact h0
            · exact absurd (h.2 h0) ho
          rw [if_pos (by simpa using ho), if_pos (.inr (.inl ⟨h1, h0⟩))]
/-- Behind right notes: within an operation, or none. -/
theorem mpF_right (t : Int) : ∀ (l : List Nt) (o : Option Int), (∀ x ∈ l, rightN x.t x.w x.o x.a = true) → (o.isSome = true ↔ o.getD 0 ≠ 0) → ((l.foldl (mpN t) o).isSome = true ↔ (l.foldl (mpN t) o).getD 0 ≠ 0)
  | [], _, _, h => h
  | x :: l, o, hr, h => by
    rw [List.foldl_cons]
    refine mpF_right t l _ (fun y hy => hr y (List.mem_cons_of_mem _ hy)) ?_
    have hx := hr x List.mem_cons_self
    unfold mpN
    split
    · split
      · rename_i hw
        refine ⟨fun _ h0 => ?_, fun _ => rfl⟩
        rw [show x.o = 0 from h0, hw] at hx
        simp [rightN, tripB, fitB, opOf, opWs, wordI] at hx
      · split
        · simp
        · exact h
    · exact h
theorem wrong_right {n o : Int} {x : Nt} (h : wrongN n o x = 0) : rightN x.t x.w x.o x.a = true := (wrong_call h).2.2.2.2
end Go.Proofs.YtigdbokfapedcaaGreat
/- Texts as lists of bytes. -/
namespace Go.Proofs.YtigdbokfapedcaaGreat
open Go.RowKit
/-- A text of these bytes. -/
def bs (l : Bs) : ByteArray := ⟨l.toArray⟩
theorem bs_size (l : Bs) : (bs l).size = l.length := rfl
theorem bs_list (l : Bs) : (bs l).data.toList = l := rfl
theorem bs_app (l r : Bs) : bs l ++ bs r = bs (l ++ r) := by
  apply ByteArray.ext
  simp [bs]
theorem bs_inj {l r : Bs} (h : bs l = bs r) : l = r := by rw [← bs_list l, h, bs_list]
theorem bs_data (s : ByteArray) : bs s.data.toList = s := rfl
/-- A number's digits. -/
def decB (c : Nat) : ByteArray := bs (Lib.decDigits c)
theorem grow_only (w : World) (os : Array Obj) : Only Nil w (Go.Sort.grow w os) :=
  ⟨rfl, rfl, rfl, by simp [Go.Sort.grow], fun k hk _ => by simp [Go.Sort.grow, Array.getElem?_append, hk]⟩
end Go.Proofs.YtigdbokfapedcaaGreat
/- Texts, compared. -/
namespace Go.Proofs.YtigdbokfapedcaaGreat
open Go.RowKit
theorem beq_str (X Y : ByteArray) : (X.toList == Y.toList) = decide (X = Y) := by
  rw [Bool.eq_iff_iff]
  simp only [beq_iff_eq, decide_eq_true_eq]
  constructor
  · intro h
    rw [ByteArray.toList_eq, ByteArray.toList_eq] at h
    exact ByteArray.ext (Array.ext' h)
  · rintro rfl; rfl
theorem eql_str (X Y : ByteArray) (W : World) : (binOp .eql 9 (.string X) (.string Y)).run Tryz.prog W = .ok (.bool (decide (X = Y))) W := by
  have e := beq_str X Y
  simp [go_sem]
  first
    | exact e
    | (by_cases h : X = Y <;> simp [h] at e ⊢ <;> first | exact e | simp_all)
theorem neq_str (X Y : ByteArray) (W : World) : (binOp .neq 9 (.string X) (.string Y)).run Tryz.prog W = .ok (.bool (!decide (X = Y))) W := by
  have e := beq_str X Y
  simp [go_sem]
  first
    | exact e
    | (by_cases h : X = Y <;> simp [h] at e ⊢ <;> first | exact e | simp_all)
end Go.Proofs.YtigdbokfapedcaaGreat
/- Lists of words; a word by its number. -/
set_option linter.unusedVariables false
set_option linter.unusedSimpArgs false
namespace Go.Proofs.YtigdbokfapedcaaGreat
open Go.RowKit

/-- v is a list of these words. -/
def Strs (w : World) (v : Value) (ws : List Bs) : Prop := (ws = [] ∧ v = .slice none 0 0) ∨ ∃ g c, v = .slice (some ⟨g, 0, none⟩) ws.length c ∧ g < w.heap.size ∧ ∀ (j : Nat) (x : Bs), ws[j]? = some x → w.cell? ⟨g, j, none⟩ = some (.string (bs x))

theorem Strs.only {w w' : World} {v : Value} {ws : List Bs} (h : Strs w v ws) (ho : Only Nil w w') : Strs w' v ws := by
  rcases h with h | ⟨g, c, hv, hg, hc⟩
  · exact .inl h
  · exact .inr ⟨g, c, hv, Nat.lt_of_lt_of_le hg ho.size, fun j x hj => (ho.cell (p := ⟨g, j, none⟩) hg id).trans (hc j x hj)⟩

theorem strs_new (w : World) (ws : List Bs) : Strs (w.alloc (.cells ((ws.map bs).map Value.string).toArray 9)) (.slice (some ⟨w.heap.size, 0, none⟩) ws.length ws.length) ws :=
  .inr ⟨w.heap.size, ws.length, rfl, by simp, fun j x hj => (Row.new w _ _).cell_ (by rw [List.getElem?_toArray, List.getElem?_map, List.getElem?_map, hj]; rfl)⟩

/-- A list of these words comes back. -/
def Gives (ws : List Bs) (w : World) (e : Ending) (w' : World) : Prop := ∃ v, e = .returned v ∧ Strs w' v ws ∧ Only Nil w w'

theorem gives_nil (w : World) : Gives [] w (.returned (.slice none 0 0)) w := ⟨_, rfl, .inl ⟨rfl, rfl⟩, Only.refl _ _⟩

theorem gives_new (w : World) (ws : List Bs) : Gives ws w (.returned (.slice (some ⟨w.heap.size, 0, none⟩) ws.length ws.length)) (w.alloc (.cells ((ws.map bs).map Value.string).toArray 9)) :=
  ⟨_, rfl, strs_new w ws, (Only.refl _ _).alloc _⟩

theorem opWords_any (w : World) : Calls Tryz.prog 75 #[] w (Gives opWs w) := by
  go_enter Tryz.func75, Tryz.ntmps75
  go_wp2
  go_ret
  exact gives_new w opWs

theorem word_at {ws : List Bs} {k : Nat} (h : k < ws.length) : ws[k]? = some (wordI ws k) := by
  unfold wordI
  rw [if_neg (by omega), Int.toNat_natCast, List.getD_eq_getElem?_getD, List.getElem?_eq_getElem h]; rfl

theorem word_any (v : Value) (ws : List Bs) (x : Int) (w : World) (h : Strs w v ws) : Calls Tryz.prog 74 #[v, .int .i64 x] w fun e w' => e = .returned (.string (bs (wordI ws x))) ∧ w = w' := by
  by_cases h0 : x < 0
  · rw [word_out (.inl h0), show bs [] = ⟨#[]⟩ from rfl]
    rcases h with ⟨_, rfl⟩ | ⟨g, c, rfl, _, _⟩
    all_goals
      go_enter Tryz.func74, Tryz.ntmps74
      go_wp2
      go_ret
      exact ⟨rfl, rfl⟩
  · by_cases h1 : (ws.length : Int) ≤ x
    · rw [word_out (.inr h1), show bs [] = ⟨#[]⟩ from rfl]
      rcases h with ⟨rfl, rfl⟩ | ⟨g, c, rfl, _, _⟩
      · have h1' : (0 : Int) ≤ x := by omega
        clear h1 h0
        go_enter Tryz.func74, Tryz.ntmps74
        go_wp2
        go_ret
        exact ⟨rfl, rfl⟩
      · generalize ws.length = n at *
        go_enter Tryz.func74, Tryz.ntmps74
        go_wp2
        go_ret
        exact ⟨rfl, rfl⟩
    · obtain ⟨k, rfl⟩ : ∃ k : Nat, x = k := ⟨x.toNat, by omega⟩
      have hk : k < ws.length := by omega
      rcases h with ⟨rfl, rfl⟩ | ⟨g, c, rfl, hg, hc⟩
      · simp at hk
      · have hcell := hc k _ (word_at hk)
        generalize bs (wordI ws k) = X at *
        generalize ws.length = n at *
        clear hc h0 h1 hg
        have h0 : decide ((k : Int) < 0) = false := by simp
        have h1 : ¬ (n : Int) ≤ k := by omega
        go_enter Tryz.func74, Tryz.ntmps74
        go_wp2
        go_ret
        exact ⟨rfl, rfl⟩
end Go.Proofs.YtigdbokfapedcaaGreat
/- Notes as texts: lists of words, and the small functions of note. -/
namespace Go.Proofs.YtigdbokfapedcaaGreat
open Go.RowKit

set_option linter.unusedVariables false
set_option linter.unusedSimpArgs false

theorem whatWords_any (w : World) : Calls Tryz.prog 80 #[] w (Gives whWs w) := by
  go_enter Tryz.func80, Tryz.ntmps80
  go_wp2
  go_ret
  exact gives_new w whWs

theorem opOf_any (k : Int) (w : World) : Calls Tryz.prog 81 #[.int .i64 k] w (Gives (opOf k) w) := by
  by_cases h : k = 1 ∨ k = 11
  · rw [show opOf k = opWs by unfold opOf; rw [if_pos h]]
    have H := Lib.hid (opWords_any)
    rcases h with rfl | rfl
    all_goals
      go_enter Tryz.func81, Tryz.ntmps81
      go_wp2_with fail
      refine (H.out _).mono ?_
      rintro e w' ⟨v, rfl, hs, hO⟩
      have HS := Lib.hid hs
      have HO := Lib.hid hO
      clear hs hO
      go_wp2
      go_ret
      exact ⟨_, rfl, HS.out, HO.out⟩
  · rw [show opOf k = [] by unfold opOf; rw [if_neg h]]
    have h1 : ¬ k = 1 := by omega
    have h2 : ¬ k = 11 := by omega
    clear h
    go_enter Tryz.func81, Tryz.ntmps81
    go_wp2
    go_ret
    exact gives_nil w

theorem argOf_any (k : Int) (w : World) : Calls Tryz.prog 82 #[.int .i64 k] w (Gives (argOf k) w) := by
  by_cases h2 : k = 2
  · subst h2
    go_enter Tryz.func82, Tryz.ntmps82
    go_wp2
    go_ret
    exact gives_new w clWs
  · by_cases h11 : k = 11
    · subst h11
      go_enter Tryz.func82, Tryz.ntmps82
      go_wp2
      go_ret
      exact gives_new w rtWs
    · rw [show argOf k = [] by unfold argOf; rw [if_neg h2, if_neg h11]]
      go_enter Tryz.func82, Tryz.ntmps82
      go_wp2
      go_ret
      exact gives_nil w

/-- What the comparison with the empty text tells of a text of these bytes. -/
theorem bs_some {l : Bs} (h : l ≠ []) : ¬ (bs l).toList = [] ∧ (bs l).toList.isEmpty = false := by
  have e : ¬ (bs l).toList = [] := by rw [ByteArray.toList_eq]; exact h
  exact ⟨e, by simpa using e⟩

theorem fits_any (v : Value) (ws : List Bs) (x : Int) (w : World) (h : Strs w v ws) : Calls Tryz.prog 79 #[v, .int .i64 x] w fun e w' => e = .returned (.bool (fitB ws x)) ∧ w = w' := by
  have HW := Lib.hid (word_any v ws x w h)
  rcases h with ⟨rfl, rfl⟩ | ⟨g, c, rfl, hg, hc⟩
  · clear HW
    rw [show fitB [] x = decide (x = 0) from rfl]
    by_cases hx : x = 0
    · subst hx
      go_enter Tryz.func79, Tryz.ntmps79
      go_wp2
      go_ret
      exact ⟨rfl, rfl⟩
    · have hb : (x == 0) = false := by simpa using hx
      rw [decide_eq_false hx]
      go_enter Tryz.func79, Tryz.ntmps79
      go_wp2
      go_ret
      exact ⟨rfl, rfl⟩
  · clear hg hc
    by_cases h0 : ws = []
    · subst h0
      rw [show fitB [] x = decide (x = 0) from rfl]
      clear HW
      rw [show (([] : List Bs).length) = 0 from rfl]
      by_cases hx : x = 0
      · subst hx
        go_enter Tryz.func79, Tryz.ntmps79
        go_wp2
        go_ret
        exact ⟨rfl, rfl⟩
      · have hb : (x == 0) = false := by simpa using hx
        rw [decide_eq_false hx]
        go_enter Tryz.func79, Tryz.ntmps79
        go_wp2
        go_ret
        exact ⟨rfl, rfl⟩
    · have hfit : fitB ws x = !decide (wordI ws x = []) := by unfold fitB; rw [if_neg h0]
      have hn : ((ws.length : Int) == 0) = false := by
        have := List.length_pos_iff.2 h0
        simp; omega
      generalize ws.length = n at *
      by_cases hx : wordI ws x = []
      · rw [hfit, decide_eq_true hx]
        rw [hx, show bs [] = ⟨#[]⟩ from rfl] at HW
        clear hx hfit h0
        go_enter Tryz.func79, Tryz.ntmps79
        go_wp2_with fail
        refine HW.out.mono ?_
        rintro e w' ⟨rfl, rfl⟩
        go_wp2
        go_ret
        exact ⟨rfl, rfl⟩
      · obtain ⟨hx1, hx2⟩ := bs_some hx
        rw [hfit, decide_eq_false hx]
        generalize bs (wordI ws x) = X at *
        clear hx hfit h0
        go_enter Tryz.func79, Tryz.ntmps79
        go_wp2_with fail
        refine HW.out.mono ?_
        rintro e w' ⟨rfl, rfl⟩
        go_wp2
        go_ret
        exact ⟨rfl, rfl⟩
end Go.Proofs.YtigdbokfapedcaaGreat
