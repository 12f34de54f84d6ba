import Derived.Laws.AppendOwnNone
import Derived.Test.YtkkldcggbekleaaGreatS19
import Derived.Test.YtkkldcggbekleaaGreatS18
import Derived.Test.YtkkldcggbekleaaGreatS20
import Derived.Test.YtkkldcggbekleaaGreatS7
import Derived.Test.YtkkldcggbekleaaGreatS37
import Derived.Test.YtkkldcggbekleaaGreatS5
import Derived.Test.YtkkldcggbekleaaGreatS23
import Derived.Test.YtkkldcggbekleaaGreatS6
set_option linter.unusedVariables false
set_option linter.unusedSimpArgs false
namespace Go.Proofs.YtkkldcggbekleaaGreat
open Go.RowKit
theorem word_bd {xs : List Int} (h : Words xs) (c : Int) : 0 ≤ wordAt xs c ∧ wordAt xs c < 4294967296 := word_wf h c
theorem doNew_wordsK {xs : List Int} (h : Words xs) (k c x y : Int) (hl : 0 ≤ leftOf k x y (wordAt xs c) ∧ leftOf k x y (wordAt xs c) < 4294967296) : Words (doNew xs k c x y) := by
  unfold doNew
  split
  · intro n hn
    rcases List.mem_or_eq_of_mem_set hn with hn | rfl
    · exact h n hn
    · exact wf_mk hl.1 hl.2
  · exact h
theorem wake_wordsK {xs : List Int} (h : Words xs) (n : Int) (on : Bool) (c i : Int) (hit : Bool) : Words (wakeI xs n on c i hit).xs := by
  unfold wakeI giveI lookI restI
  repeat' split
  all_goals first | exact h | exact h.st _ (by omega) (by omega)
theorem wake_lenK (xs : List Int) (n : Int) (on : Bool) (c i : Int) (hit : Bool) : (wakeI xs n on c i hit).xs.length = xs.length := by
  unfold wakeI giveI lookI restI
  repeat' split
  all_goals first | rfl | exact st_len _ _ _
structure LS.Good (r r' : LS) (m : Nat) : Prop where
  n : r'.n = r.n
  mode : r'.mode = r.mode
  task : r'.task = r.task
  op : r'.op = r.op
  len : r'.xs.length = r.xs.length
  words : Words r.xs → Words r'.xs
  notes : r'.ns.length ≤ r.ns.length + m
section
variable {r : LS}
theorem good_refl (r : LS) : r.Good r 0 := ⟨rfl, rfl, rfl, rfl, rfl, id, Nat.le_refl _⟩
theorem LS.Good.trans {r r' r'' : LS} {m m' : Nat} (h : r.Good r' m) (k : r'.Good r'' m') : r.Good r'' (m + m') :=
  ⟨k.n.trans h.n, k.mode.trans h.mode, k.task.trans h.task, k.op.trans h.op, k.len.trans h.len, k.words ∘ h.words, by have := h.notes; have := k.notes; omega⟩
theorem LS.Good.le {r r' : LS} {m m' : Nat} (h : r.Good r' m) (hm : m ≤ m') : r.Good r' m' := ⟨h.n, h.mode, h.task, h.op, h.len, h.words, by have := h.notes; omega⟩
theorem good_do {k c x y : Int} (hl : Words r.xs → 0 ≤ leftOf k x y (wordAt r.xs c) ∧ leftOf k x y (wordAt r.xs c) < 4294967296) : r.Good (r.doA k c x y) 0 := ⟨rfl, rfl, rfl, rfl, doNew_len _ _ _ _ _, fun h => doNew_wordsK h _ _ _ _ (hl h), Nat.le_refl _⟩
theorem good_load (c : Int) : r.Good (r.doA 1 c 0 0) 0 := good_do (fun h => word_bd h c)
theorem good_add (c x : Int) : r.Good (r.doA 3 c x 0) 0 := good_do (fun h => by show 0 ≤ (x + wordAt r.xs c) % 4294967296 ∧ (x + wordAt r.xs c) % 4294967296 < 4294967296; omega)
theorem good_cas (c x y : Int) (hy : 0 ≤ y ∧ y < 4294967296) : r.Good (r.doA 5 c x y) 0 := good_do (fun h => by
  show 0 ≤ (if wordAt r.xs c = x then y else wordAt r.xs c) ∧ (if wordAt r.xs c = x then y else wordAt r.xs c) < 4294967296
  split
  · exact hy
  · exact word_bd h c)
theorem good_note (what arg : Int) : r.Good (r.note what arg) 1 := ⟨rfl, rfl, rfl, rfl, rfl, id, by simp [LS.note]⟩
theorem good_go (l : Int) : r.Good (r.go l) 0 := ⟨rfl, rfl, rfl, rfl, rfl, id, Nat.le_refl _⟩
theorem good_fin (b : Bool) : r.Good (r.fin b) 0 := ⟨rfl, rfl, rfl, rfl, rfl, id, Nat.le_refl _⟩
theorem good_wake (c : Int) : r.Good (r.wake c) 0 := ⟨rfl, rfl, rfl, rfl, rfl, id, Nat.le_refl _⟩
theorem good_keepA (v : Int) : r.Good (r.keepA v) 0 := ⟨rfl, rfl, rfl, rfl, rfl, id, Nat.le_refl _⟩
theorem good_wait (c : Int) (q : Int → Bool) : r.Good (r.wait c q) 0 := ⟨rfl, rfl, rfl, rfl, step_len _ _ _ _ _ _ _, fun h => Words.step h _ _ _ _ _ _, Nat.le_refl _⟩
theorem good_fresh : r.Good r.fresh 0 := ⟨rfl, rfl, rfl, rfl, rfl, id, Nat.zero_le _⟩
theorem good_waking : r.Good r.waking 0 := ⟨rfl, rfl, rfl, rfl, wake_lenK _ _ _ _ _ _, fun h => wake_wordsK h _ _ _ _ _, Nat.zero_le _⟩
theorem good_noteIf (b : Bool) (what : Int) : r.Good (r.noteIf b what) 1 := by
  cases b
  · exact (good_refl r).le (by decide)
  · exact good_note _ _
theorem good_next {L : LS → LS} (hL : ∀ r : LS, r.Good (L r) 2) (r : LS) : r.Good (r.next L) 2 ∧ (r.next L).ns.length ≤ 2 := by
  unfold LS.next
  split
  · exact ⟨good_waking.le (by decide), Nat.zero_le _⟩
  · exact ⟨(good_fresh.trans (hL r.fresh)).le (by decide), Nat.le_trans (hL r.fresh).notes (by simp [LS.fresh])⟩
end
end Go.Proofs.YtkkldcggbekleaaGreat
set_option linter.unusedVariables false
set_option linter.unusedSimpArgs false
namespace Go.Proofs.YtkkldcggbekleaaGreat
open Go.RowKit
structure LS.WB (r : LS) : Prop where
  words : Words r.xs
  a : 0 ≤ r.a ∧ r.a < 4294967296
  b : 0 ≤ r.b ∧ r.b < 4294967296
end Go.Proofs.YtkkldcggbekleaaGreat
set_option linter.unusedVariables false
set_option linter.unusedSimpArgs false
namespace Go.Proofs.YtkkldcggbekleaaGreat
open Go.RowKit
section
variable {r : LS}
theorem me_bd : 0 ≤ r.me ∧ r.me < 4294967296 := by unfold LS.me; omega
theorem good_store (c x : Int) (hx : 0 ≤ x ∧ x < 4294967296) : r.Good (r.doA 2 c x 0) 0 := good_do (fun _ => hx)
theorem good_swap (c x : Int) (hx : 0 ≤ x ∧ x < 4294967296) : r.Good (r.doA 4 c x 0) 0 := good_do (fun _ => hx)
theorem good_notes (l : List Int) : ∀ r : LS, r.Good (r.notes l) l.length := by
  induction l with
  | nil => exact fun r => good_refl r
  | cons x l ih =>
    intro r
    have h := (good_note (r := r) x 0).trans (ih (r.note x 0))
    exact h.le (by simp; omega)
theorem notes_a (l : List Int) : ∀ r : LS, (r.notes l).a = r.a ∧ (r.notes l).b = r.b := by
  induction l with
  | nil => exact fun r => ⟨rfl, rfl⟩
  | cons x l ih => exact fun r => ih (r.note x 0)
def LS.Keep (r r' : LS) (m : Nat) : Prop := r.Good r' m ∧ (r'.a = r.a ∨ ∃ c, r'.a = wordAt r.xs c)
theorem keep_enter (r : LS) (tail cl : Int) : r.Keep (r.mxEnter tail cl).1 1 := by
  unfold LS.mxEnter
  by_cases l0 : r.line = 0
  · rw [if_pos l0]
    exact ⟨((good_store _ _ (by decide)).trans (good_go _)).le (by decide), .inl rfl⟩
  by_cases l1 : r.line = 1
  · rw [if_neg l0, if_pos l1]
    exact ⟨((good_store _ _ (by decide)).trans (good_go _)).le (by decide), .inl rfl⟩
  by_cases l2 : r.line = 2
  · rw [if_neg l0, if_neg l1, if_pos l2]
    have h := ((good_swap (r := r) tail r.me me_bd).trans (good_keepA (wordAt r.xs tail))).trans (good_note 2 cl)
    by_cases hz : wordAt r.xs tail = 0
    · rw [if_pos hz]
      exact ⟨h, .inr ⟨tail, rfl⟩⟩
    · rw [if_neg hz]
      exact ⟨h.trans (good_go _), .inr ⟨tail, rfl⟩⟩
  by_cases l3 : r.line = 3
  · rw [if_neg l0, if_neg l1, if_neg l2, if_pos l3]
    exact ⟨(((good_store _ _ me_bd).trans (good_wake _)).trans (good_go _)).le (by decide), .inl rfl⟩
  by_cases l4 : r.line = 4
  · rw [if_neg l0, if_neg l1, if_neg l2, if_neg l3, if_pos l4]
    exact ⟨(good_wait _ _).le (by decide), .inl rfl⟩
  · rw [if_neg l0, if_neg l1, if_neg l2, if_neg l3, if_neg l4]
    exact ⟨(good_refl r).le (by decide), .inl rfl⟩
theorem keep_seeN (r : LS) : r.Keep r.seeN 0 := by
  unfold LS.seeN
  by_cases h : (r.stepR (nc r.n r.task) isN).seen = true
  · rw [if_pos h]
    exact ⟨(good_wait _ _).trans (good_keepA _), .inr ⟨_, rfl⟩⟩
  · rw [if_neg h]
    exact ⟨good_wait _ _, .inl rfl⟩
theorem keep_give (r : LS) (tail a : Int) (l : List Int) : r.Keep (r.mxGive tail a l).1 l.length := by
  unfold LS.mxGive
  by_cases l0 : r.line = a
  · rw [if_pos l0]
    have h := (good_load (r := r) (nc r.n r.task)).trans (good_keepA (wordAt r.xs (nc r.n r.task)))
    by_cases hz : wordAt r.xs (nc r.n r.task) = 0
    · rw [if_pos hz]
      exact ⟨(h.trans (good_go _)).le (Nat.zero_le _), .inr ⟨nc r.n r.task, rfl⟩⟩
    · rw [if_neg hz]
      exact ⟨(h.trans (good_go _)).le (Nat.zero_le _), .inr ⟨nc r.n r.task, rfl⟩⟩
  by_cases l1 : r.line = a + 1
  · rw [if_neg l0, if_pos l1]
    by_cases hz : r.casOut tail = true
    · rw [if_pos hz]
      refine ⟨((good_cas _ _ _ (by decide)).trans (good_notes l _)).le (by omega), .inl ?_⟩
      exact (notes_a l _).1
    · rw [if_neg hz]
      exact ⟨((good_cas _ _ _ (by decide)).trans (good_go _)).le (Nat.zero_le _), .inl rfl⟩
  by_cases l2 : r.line = a + 2
  · rw [if_neg l0, if_neg l1, if_pos l2]
    by_cases hz : (r.stepR (nc r.n r.task) isN).done = true
    · rw [if_pos hz]
      exact ⟨((keep_seeN r).1.trans (good_go _)).le (Nat.zero_le _), (keep_seeN r).2⟩
    · rw [if_neg hz]
      exact ⟨(keep_seeN r).1.le (Nat.zero_le _), (keep_seeN r).2⟩
  by_cases l3 : r.line = a + 3
  · rw [if_neg l0, if_neg l1, if_neg l2, if_pos l3]
    refine ⟨(((good_store _ _ (by decide)).trans (good_notes l _)).trans (good_wake _)).le (by omega), .inl ?_⟩
    exact (notes_a l _).1
  · rw [if_neg l0, if_neg l1, if_neg l2, if_neg l3]
    exact ⟨(good_refl r).le (Nat.zero_le _), .inl rfl⟩
theorem LS.Keep.ab {r r' : LS} {m : Nat} (h : r.Keep r' m) (hx : Words r.xs) (ha : 0 ≤ r.a ∧ r.a < 4294967296) : Words r'.xs ∧ 0 ≤ r'.a ∧ r'.a < 4294967296 := by
  refine ⟨h.1.words hx, ?_⟩
  rcases h.2 with e | ⟨c, e⟩
  · rw [e]; exact ha
  · rw [e]; exact word_bd hx c
end
end Go.Proofs.YtkkldcggbekleaaGreat
set_option linter.unusedVariables false
set_option linter.unusedSimpArgs false
namespace Go.Proofs.YtkkldcggbekleaaGreat
open Go.RowKit
section
variable {r : LS}
theorem LS.Keep.le {r' : LS} {m m' : Nat} (h : r.Keep r' m) (hm : m ≤ m') : r.Keep r' m' := ⟨h.1.le hm, h.2⟩
theorem LS.Keep.next {r' r'' : LS} {m m' : Nat} (h : r.Keep r' m) (g : r'.Good r'' m') (ha : r''.a = r'.a) : r.Keep r'' (m + m') := ⟨h.1.trans g, by rw [ha]; exact h.2⟩
theorem keep_self {r' : LS} {m : Nat} (g : r.Good r' m) (ha : r'.a = r.a) : r.Keep r' m := ⟨g, .inl ha⟩
theorem keep_qEnter (cl : Int) : r.Keep (r.qEnter cl) 2 := by
  unfold LS.qEnter
  have h := keep_enter r 0 cl
  generalize r.mxEnter 0 cl = p at h ⊢
  split
  · exact (h.next (good_go 5) rfl).le (by decide)
  · exact h.le (by decide)
theorem keep_qGive (a : Int) (ok : Bool) (l : List Int) (hl : l.length ≤ 2) : r.Keep (r.qGive a ok l) 2 := by
  unfold LS.qGive
  have h := keep_give r 0 a l
  generalize r.mxGive 0 a l = p at h ⊢
  split
  · exact (h.next (good_fin ok) rfl).le (by omega)
  · exact h.le hl
theorem keep_mxTry (r : LS) (tail a : Int) : r.Keep (r.mxTry tail a).1 0 := by
  unfold LS.mxTry
  by_cases l0 : r.line = a
  · rw [if_pos l0]
    exact ⟨(good_store _ _ (by decide)).trans (good_go _), .inl rfl⟩
  by_cases l1 : r.line = a + 1
  · rw [if_neg l0, if_pos l1]
    have h := good_cas (r := r) tail 0 r.me me_bd
    generalize r.me = x at h ⊢
    exact ⟨h, .inl rfl⟩
  · rw [if_neg l0, if_neg l1]
    exact ⟨good_refl r, .inl rfl⟩
theorem keep_qTry : r.Keep r.qTry 2 := by
  unfold LS.qTry
  have h := keep_mxTry r 0 0
  generalize r.mxTry 0 0 = p at h ⊢
  split
  · split
    · split
      · exact ((h.next (good_note 2 1) rfl).next (good_go 5) rfl).le (by decide)
      · exact ((h.next (good_note 2 2) rfl).next (good_go 2) rfl).le (by decide)
    · exact ((h.next (good_note 5 0) rfl).next (good_fin false) rfl).le (by decide)
  · exact h.le (by decide)
theorem keep_qCount : r.Keep r.qCount 0 := ⟨(good_load 1).trans (good_keepA _), .inr ⟨1, rfl⟩⟩
theorem keep_fq : r.Keep r.fq 2 := by
  unfold LS.fq
  split
  · exact keep_qEnter _
  · exact keep_qTry
  · exact (keep_self ((good_add 1 1).trans (good_go 6)) rfl).le (by decide)
  · exact keep_qGive _ _ _ (by decide)
  · exact (keep_self ((((good_add 1 4294967295).trans (good_note 6 0)).trans (good_wake 1)).trans (good_fin true)) rfl).le (by decide)
  · have hN : ∀ (R : LS) (b : Bool), (R.noteIf b 4).a = R.a := fun R b => by cases b <;> rfl
    have hw : (r.wait 1 isZ).a = r.a := rfl
    have h : r.Keep ((r.wait 1 isZ).noteIf (r.stepR 1 isZ).seen 4) 1 := keep_self (((good_wait 1 isZ).trans (good_noteIf _ _)).le (by decide)) ((hN _ _).trans hw)
    split
    · exact (h.next (good_fin true) rfl).le (by decide)
    · exact h.le (by decide)
  · exact keep_qGive _ _ _ (by decide)
  · split
    · exact ((keep_qCount.next (good_note 4 0) rfl).next (good_fin true) rfl).le (by decide)
    · exact ((keep_qCount.next (good_note 5 0) rfl).next (good_go 6) rfl).le (by decide)
  · split
    · exact (keep_qCount.next (good_go 3) rfl).le (by decide)
    · exact ((keep_qCount.next (good_note 5 0) rfl).next (good_go 6) rfl).le (by decide)
  · exact (keep_self (((good_add 1 4294967295).trans (good_note 9 0)).trans (good_fin true)) rfl).le (by decide)
  · exact keep_qGive _ _ _ (by decide)
  · exact (keep_self ((good_add 1 1).trans (good_go 1)) rfl).le (by decide)
  · exact keep_qGive _ _ _ (by decide)
  · exact (keep_self (good_refl r) rfl).le (by decide)
end
end Go.Proofs.YtkkldcggbekleaaGreat
set_option linter.unusedVariables false
set_option linter.unusedSimpArgs false
namespace Go.Proofs.YtkkldcggbekleaaGreat
open Go.RowKit
theorem good_fq {r : LS} : r.Good r.fq 2 := keep_fq.1
structure LS.WA (r : LS) : Prop where
  words : Words r.xs
  a : 0 ≤ r.a ∧ r.a < 4294967296
theorem wa_new {k mode task op : Int} {xs : List Int} (h : Words xs) : (newR k mode task op xs).WA := ⟨h, ⟨Int.le_refl _, by show (0 : Int) < _; decide⟩⟩
theorem wa_next {r : LS} (h : r.WA) : (r.next LS.fq).WA := by
  unfold LS.next
  split
  · exact ⟨good_waking.words h.words, h.a⟩
  · obtain ⟨h1, h2⟩ := (keep_fq (r := r.fresh)).ab h.words h.a
    exact ⟨h1, h2⟩
end Go.Proofs.YtkkldcggbekleaaGreat
set_option linter.unusedVariables false
set_option linter.unusedSimpArgs false
namespace Go.Proofs.YtkkldcggbekleaaGreat
open Go.RowKit
theorem flat_cells : ∀ (zs : List Nt) (u : Value), u ∈ flat zs → u.oneCell' = true
  | [], u, h => by simp [flat] at h
  | n :: r, u, h => by
    rw [flat, List.mem_append] at h
    rcases h with h | h
    · unfold flat1 at h
      simp only [List.mem_cons, List.not_mem_nil, or_false] at h
      rcases h with rfl | rfl | rfl | rfl <;> rfl
    · exact flat_cells r u h
theorem wp_appNs {w : World} {ops : Array Oper} {rest : List Oper} {o : Oper} {a : Act} {Q : Exit → Act → World → Prop} (hgd : o.guard = none) (s x : Operand)
    (ho : o.op = .call { callee := .builtin .append, args := #[s, x], argTypes := #[40, 40] })
    (base : Nat) (v : Value) (zs : List Nt) (hs : a.eval s = v) (hown : OwnN base w v zs)
    (u : Value) (ys : List Nt) (hx : a.eval x = u) (hu : OwnN 0 w u ys)
    (h1 : zs.length ≤ 4000) (h2 : ys.length ≤ 1000) (hbase : base ≤ w.heap.size)
    (h : ∀ v' w', OwnN base w' v' (zs ++ ys) → Only (fun k => v.ownBlock = some k) w w' → wpList Tryz.prog ops Q rest (a.put o.dst v') w') : wpList Tryz.prog ops Q (o :: rest) a w := by
  obtain ⟨i0, hi, hz0, hz1, hz2⟩ := info_parts infoN
  rcases hu.2 with ⟨rfl, hn⟩ | ⟨g, cap, cur, rfl, _, hg, hc, hm, hsz, ht⟩
  · obtain rfl := List.eq_nil_of_length_eq_zero hn
    refine wpList_append_own_none hgd s x 40 ho base 81 i0 4 Tryz.underlying40 hi v zs.length (flat zs) hs hown hx ?_
    exact h v w (by rw [List.append_nil]; exact hown) (Only.refl _ _)
  · refine wpList_append_own w hgd s x 40 ho base 81 i0 (.agg #[.int .i64 0, .int .i64 0, .int .i64 0, .int .i64 0]) 4 32 Tryz.underlying40 hi hz0 hz1 hz2 rfl (by decide) v zs.length (flat zs) hs hown ⟨g, 0, none⟩ ys.length cap (flat ys) hx (flat_len ys) (fun j u hj => World.ownsRow.cells hu (g := g) rfl j u hj) (fun u hu => flat_cells ys u hu) (by unfold maxLen; omega) (by omega) hbase (fun v' w' hO hG _ => ?_)
    refine h v' w' ?_ ((Only.refl _ w).grown hG (fun k hk => .inr hk))
    have e : (zs ++ ys).length = zs.length + ys.length := List.length_append
    unfold OwnN
    rw [e, flat_app]
    exact hO
end Go.Proofs.YtkkldcggbekleaaGreat
set_option linter.unusedVariables false
set_option linter.unusedSimpArgs false
namespace Go.Proofs.YtkkldcggbekleaaGreat
open Go.RowKit
structure AloneI (w0 : World) (B : Nat) (p A : Option Addr) (cp : Nat) (r0 : LS) (most j : Nat) (v : Value) (wr : World) : Prop where
  run : ∃ nv r, RunQ wr B p A cp nv r ∧ r.WA ∧ aloneL LS.fq most r0 = aloneL LS.fq (most - j) r
  notes : ∃ zs, OwnN w0.heap.size wr v zs ∧ zs.length ≤ 2 * j
  only : Only (At A) w0 wr
  new : w0.heap.size ≤ B
  old : ∀ j, At p j ∨ At A j → j < w0.heap.size
def AloneP (p A : Option Addr) (cp : Nat) (w : World) (t : Int × List Int) (e : Ending) (w' : World) : Prop := ∃ nv, e = .returned (.tuple #[.int .i64 t.1, nv]) ∧ Only (At A) w w' ∧ Memo w' p A cp t.2 ∧ Words t.2
theorem ownN_form {base : Nat} {w : World} {v : Value} {zs : List Nt} (h : OwnN base w v zs) : ∃ A n c, v = .slice A n c := by
  rcases h.2 with ⟨rfl, _⟩ | ⟨g, cap, cur, rfl, _⟩
  · exact ⟨none, 0, 0, rfl⟩
  · exact ⟨_, _, _, rfl⟩
set_option maxRecDepth 100000 in
set_option maxHeartbeats 2000000 in
theorem alone_any (p A : Option Addr) (cp : Nat) (k mode op : Int) (most : Nat) (xs : List Int) (w : World) (h : Memo w p A cp xs) (hx : Words xs) (hmost : most ≤ 1000) :
    Calls Tryz.prog 16 #[.pointer p, .int .i64 k, .int .i64 mode, .int .i64 op, .int .i64 most] w (AloneP p A cp w (aloneL LS.fq most (newR k mode 0 op xs))) := by
  have e0 := (Only.refl Nil w).alloc (.cells ((newR k mode 0 op xs).cells (.pointer p) (.slice none 0 0)) 42)
  have HI0 : Hid (AloneI w w.heap.size p A cp (newR k mode 0 op xs) most 0 (.slice none 0 0) (w.alloc (.cells ((newR k mode 0 op xs).cells (.pointer p) (.slice none 0 0)) 42))) :=
    Lib.hid ⟨⟨_, _, ⟨Row.new w _ _, h.keep e0⟩, wa_new hx, rfl⟩, ⟨[], ownN_nil _ _, Nat.zero_le _⟩, e0.mono (fun _ _ h => h.elim), Nat.le_refl _, h.lt⟩
  rw [show (newR k mode 0 op xs).cells (.pointer p) (.slice none 0 0) = newCells p k mode 0 op from rfl] at HI0
  unfold newCells at HI0
  clear e0 h hx
  generalize hr0 : newR k mode 0 op xs = r0 at *
  clear hr0
  go_enter Tryz.func16, Tryz.ntmps16
  go_upto_region 2 with (fail)
  generalize w.alloc (.cells #[.pointer p, .int .i64 k, .int .i64 mode, .int .i64 0, .int .i64 op, .int .i64 0, .int .u32 0, .int .u32 0, .int .i64 0, .bool false, .int .i64 0, .int .i64 0, .bool false, .int .i64 0, .int .i64 0, .int .i64 0, .int .u32 0, .int .u32 0, .int .u32 0, .slice none 0 0] 42) = w1 at *
  generalize hB : w.heap.size = B at *
  have HB := Lib.hid hB
  clear hB
  go_wp2_with fail
  go_loopw [13, 14] (fun nv i wr => ∃ j : Nat, j ≤ most ∧ i = .int .i64 j ∧ AloneI w B p A cp r0 most j nv wr) (fun _ i _ => most - (intOf i).toNat)
  case atStart => exact ⟨0, Nat.zero_le _, rfl, HI0.out⟩
  case round =>
    obtain ⟨j, hj, rfl, hI⟩ := hrel
    clear HI0
    obtain ⟨nvr, r, hQ, hW, hA⟩ := hI.run
    have HI := Lib.hid hI
    have HQ := Lib.hid hQ
    have HW := Lib.hid hW
    have HA := Lib.hid hA
    clear hI hQ hW hA
    by_cases hlt : j < most
    · go_wp2_with fail
      refine (fq_step B p A cp nvr r _ HQ.out HW.out.words HW.out.a).mono ?_
      obtain ⟨hg, hn2⟩ := good_next (L := LS.fq) (fun r => good_fq) r
      have HG := Lib.hid hg
      have HN2 := Lib.hid hn2
      clear hg hn2
      have HNW := Lib.hid (wa_next HW.out)
      rintro e w2 ⟨rfl, hO, _, nv2, hP⟩
      have HO := Lib.hid hO
      have HP := Lib.hid hP
      clear hO hP
      obtain ⟨zs, hzs, hzl⟩ := HI.out.notes
      have HZ := Lib.hid (show OwnN w.heap.size w2 _ zs from own_only hzs HO.out (fun i hi e => by
        obtain ⟨cur, hc⟩ := ownN_tag hzs hi
        rcases e with e | e
        · exact row_ne hc HQ.out.row (by decide) e
        · exact memo_not HQ.out.memo hc (by decide) (by decide) (.inr e)))
      have HZL := Lib.hid hzl
      clear hzs hzl
      have HSTEP : Hid (aloneL LS.fq most r0 = if (r.next LS.fq).over then ((r.next LS.fq).ret, (r.next LS.fq).xs) else aloneL LS.fq (most - (j + 1)) (r.next LS.fq)) := Lib.hid (by
        rw [HA.out, show most - j = (most - (j + 1)) + 1 by omega]
        rfl)
      generalize r.next LS.fq = r2 at *
      have c19 : w2.cell? ⟨B, 19, none⟩ = some nv2 := HP.out.row.cell_ (i := 19) rfl
      have hbase : w.heap.size ≤ w2.heap.size := Nat.le_trans HI.out.only.size HO.out.size
      have HBA := Lib.hid hbase
      clear hbase
      go_wp2_with (at_builtin; refine wp_appNs rfl (.tmp 31) (.tmp 35) rfl w.heap.size _ _ (by rfl) HZ.out nv2 r2.ns (by rfl) HP.out.notes (by have := HZL.out; omega) (by have := HN2.out; omega) HBA.out ?_)
      intro v' w3 hown hO3
      clear c19
      have HRQ : Hid (RunQ w3 B p A cp nv2 r2) := Lib.hid ⟨HP.out.row.only hO3 (fun e => by
          obtain ⟨cur, hc⟩ := ownN_tag HZ.out e
          exact absurd (HP.out.row.same hc).1 (by decide)), HP.out.memo.far hO3 (fun j hj e => by
          obtain ⟨cur, hc⟩ := ownN_tag HZ.out e
          exact memo_not HP.out.memo hc (by decide) (by decide) hj)⟩
      have HO3 : Hid (Only (At A) w w3) := Lib.hid ((HI.out.only.step HO.out (fun i hi e => by
          rcases e with e | e
          · have := HI.out.new; omega
          · exact e)).step hO3 (fun i hi e => by
          have := (World.ownsRow.lt HZ.out i e).1
          omega))
      have HOW := Lib.hid hown
      obtain ⟨A9, n9, c9, rfl⟩ := ownN_form hown
      clear hown hO3
      cases hov : r2.over
      · have HSTEP2 := Lib.hid (HSTEP.out.trans (by rw [hov, if_neg Bool.false_ne_true]))
        clear hov
        go_wp2
        go_roundw
        case rel => exact ⟨j + 1, by omega, by go_num, ⟨⟨nv2, r2, HRQ.out, HNW.out, HSTEP2.out⟩, ⟨_, HOW.out, by rw [List.length_append]; have := HZL.out; have := HN2.out; omega⟩, HO3.out, HI.out.new, HI.out.old⟩⟩
        case measure => simp [intOf]; omega
      · have HSTEP2 := Lib.hid (HSTEP.out.trans (by rw [hov, if_pos rfl]))
        clear hov
        have c13 : w3.cell? ⟨B, 13, none⟩ = some (.int .i64 r2.ret) := HRQ.out.row.cell_ (i := 13) rfl
        go_wp2
        go_ret2
        rw [HSTEP2.out]
        exact ⟨_, rfl, HO3.out, HRQ.out.memo, HNW.out.words⟩
    · obtain rfl : j = most := by omega
      have HE := Lib.hid (show aloneL LS.fq j r0 = (0, r.xs) by rw [HA.out, Nat.sub_self]; rfl)
      go_wp2
      go_ret2
      rw [HE.out]
      exact ⟨_, rfl, HI.out.only, HQ.out.memo, HW.out.words⟩
end Go.Proofs.YtkkldcggbekleaaGreat
set_option linter.unusedVariables false
set_option linter.unusedSimpArgs false
namespace Go.Proofs.YtkkldcggbekleaaGreat
open Go.RowKit
def Fresh (w : World) (xs : List Int) (e : Ending) (w' : World) : Prop := ∃ b A' c', e = .returned (.tuple #[.pointer (some ⟨b, 0, none⟩), .int .i64 0]) ∧ w.heap.size ≤ b ∧ (∀ i, At A' i → w.heap.size ≤ i) ∧ Mem w' b A' c' xs ∧ Only Nil w w'
theorem from_ok (A : Option Addr) (n cap : Nat) (xs : List Int) (w : World) (hm : n ≤ 1024) (h : Held w A n cap xs) :
    Calls Tryz.prog 5 #[.slice A n cap] w (Fresh w xs) := by
  have hl := h.1
  have hm' : (n : Int) ≤ 1024 := by omega
  have HH := Lib.hid h
  have HL := Lib.hid hl
  clear h hl
  go_enter Tryz.func5, Tryz.ntmps5
  go_wp2_with (go_at_call 18; refine (clone_held A n cap xs _ (by omega) HH.out).mono ?_; rintro e w1 ⟨A', c', rfl, ho, hO⟩)
  have HO := Lib.hid ho
  have HW := Lib.hid hO
  clear ho hO
  go_ret2
  refine ⟨w1.heap.size, A', c', rfl, HW.out.size, HO.out.base, ⟨Row.new w1 _ _, ?_, ?_⟩, HW.out.alloc _⟩
  · exact ⟨own_base (own_only HO.out.own ((Only.refl Nil w1).alloc _) (fun _ _ h => h)) (Nat.zero_le _), HO.out.nil, fun _ _ => Nat.zero_le _⟩
  · rw [HL.out]; exact hm
end Go.Proofs.YtkkldcggbekleaaGreat
set_option linter.unusedVariables false
set_option linter.unusedSimpArgs false
namespace Go.Proofs.YtkkldcggbekleaaGreat
open Go.RowKit
structure Made (w0 : World) (b : Nat) (A : Option Addr) (cp : Nat) (xs : List Int) (W : World) : Prop where
  mem : Mem W b A cp xs
  new : ∀ j, At A j → w0.heap.size ≤ j
  only : Only Nil w0 W
theorem Made.call {w0 W W' : World} {b : Nat} {A : Option Addr} {cp : Nat} {xs ys : List Int} (h : Made w0 b A cp xs W) (ho : Only (At A) W W') (hm : Mem W' b A cp ys) : Made w0 b A cp ys W' :=
  ⟨hm, h.new, h.only.step ho (fun i hi e => by have := h.new i e; omega)⟩
end Go.Proofs.YtkkldcggbekleaaGreat
set_option linter.unusedVariables false
set_option linter.unusedSimpArgs false
namespace Go.Proofs.YtkkldcggbekleaaGreat
open Go.RowKit
theorem load_raw (b : Nat) (A : Option Addr) (cp : Nat) (xs : List Int) (c : Int) (w : World) (h : Mem w b A cp xs) :
    Calls Tryz.prog 17 #[.pointer (some ⟨b, 0, none⟩), .int .i64 c] w fun e w' => e = .returned (.int .u32 (wordAt xs c)) ∧ Only (At A) w w' ∧ Mem w' b A cp (doNew xs 1 c 0 0) := by
  have HH := Lib.hid h
  clear h
  go_enter Tryz.func17, Tryz.ntmps17
  go_wp2_with fail
  refine (do_any b A cp xs 1 c 0 0 0 _ HH.out).mono ?_
  obtain ⟨k', c', x', y', hv⟩ := doVal_form xs 1 c 0 0
  rw [oldAt xs 1 c rfl] at hv
  rintro e w1 ⟨rfl, hO, hM⟩
  rw [hv]
  have HO := Lib.hid hO
  have HM := Lib.hid hM
  clear hO hM hv
  go_wp2
  go_ret
  exact ⟨rfl, HO.out.alloc _, HM.out.only ((Only.refl Nil w1).alloc _) id (fun _ _ => id)⟩
theorem load_any (b : Nat) (A : Option Addr) (cp : Nat) (xs : List Int) (c : Int) (w : World) (h : Mem w b A cp xs) :
    Calls Tryz.prog 17 #[.pointer (some ⟨b, 0, none⟩), .int .i64 c] w fun e w' => e = .returned (.int .u32 (wordAt xs c)) ∧ Only (At A) w w' ∧ Mem w' b A cp xs :=
  (load_raw b A cp xs c w h).mono fun _ _ ⟨h1, h2, h3⟩ => ⟨h1, h2, by rw [doNew_load] at h3; exact h3⟩
end Go.Proofs.YtkkldcggbekleaaGreat
set_option linter.unusedVariables false
set_option linter.unusedSimpArgs false
namespace Go.Proofs.YtkkldcggbekleaaGreat
open Go.RowKit
theorem aw_alone : aloneL LS.fq 6 (newR 1 1 0 1 (fqXs 1)) = (2, [0, 1, 0, 0, 0, 0, 0, 0, 0, 1, 0, 0]) := by
  decide +kernel
set_option maxHeartbeats 1000000 in
theorem awake_any (w : World) : Calls Tryz.prog 4 #[] w fun e w' => e = .returned (.bool true) ∧ Only Nil w w' := by
  go_enter Tryz.func4, Tryz.ntmps4
  go_wp2_with fail
  refine (first_fq 1 0 _ (by decide) (by decide)).mono ?_
  rintro e w1 ⟨g, rfl, hg, hH, hO⟩
  have HH := Lib.hid hH
  have HO := Lib.hid hO
  clear hg hH hO
  go_wp2_with fail
  refine (from_ok _ _ _ _ _ (by decide) HH.out).mono ?_
  rintro e w2 ⟨b, A', c', rfl, hb, hA, hM, hO⟩
  have HM : Hid (Made w b A' c' _ w2) := Lib.hid ⟨hM, fun j hj => Nat.le_trans HO.out.size (hA j hj), HO.out.trans hO⟩
  clear hb hA hM hO HO HH
  go_wp2_with fail
  refine (alone_any (some ⟨b, 0, none⟩) A' c' 1 1 1 6 _ _ (Memo.of HM.out.mem) (fq_words 1) (by decide)).mono ?_
  rw [aw_alone]
  rintro e w3 ⟨nv, rfl, hO, hM, _⟩
  have HM3 := Lib.hid (HM.out.call hO hM.mem)
  clear hO hM HM
  go_wp2_with fail
  refine (load_any b A' c' _ 0 _ HM3.out.mem).mono ?_
  rw [show wordAt [0, 1, 0, 0, 0, 0, 0, 0, 0, 1, 0, 0] 0 = 0 from rfl]
  rintro e w4 ⟨rfl, hO, hM⟩
  have HM4 := Lib.hid (HM3.out.call hO hM)
  clear hO hM HM3
  go_wp2_with fail
  refine (load_any b A' c' _ 1 _ HM4.out.mem).mono ?_
  rw [show wordAt [0, 1, 0, 0, 0, 0, 0, 0, 0, 1, 0, 0] 1 = 1 from rfl]
  rintro e w5 ⟨rfl, hO, hM⟩
  have HM5 := Lib.hid (HM4.out.call hO hM)
  clear hO hM HM4
  go_wp2
  go_ret
  exact ⟨rfl, HM5.out.only⟩
end Go.Proofs.YtkkldcggbekleaaGreat
