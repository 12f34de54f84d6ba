import Derived.Test.YtaifeejciglkpaaChecked
import Derived.Laws.AppendOwn
import Derived.OwnWalk
import Derived.Test.YtaifeejciglkpaaMF3
import Derived.Test.YtaifeejciglkpaaMF4
import Derived.Test.YtaifeejciglkpaaMF1
set_option linter.unusedVariables false
set_option linter.unusedSimpArgs false
namespace Go.Proofs.Ytaifeejciglkpaa
open Go.RowKit
theorem word_bd {xs : List Int} (h : Words xs) (c : Int) : 0 ≤ wordAt xs c ∧ wordAt xs c < 4294967296 := word_wf h c
theorem doNew_wordsK {xs : List Int} (h : Words xs) (k c x y : Int) (hl : 0 ≤ leftOf k x y (wordAt xs c) ∧ leftOf k x y (wordAt xs c) < 4294967296) : Words (doNew xs k c x y) := by
  unfold doNew
  split
  · intro n hn
    rcases List.mem_or_eq_of_mem_set hn with hn | rfl
    · exact h n hn
    · exact wf_mk hl.1 hl.2
  · exact h
theorem wake_wordsK {xs : List Int} (h : Words xs) (n : Int) (on : Bool) (c i : Int) (hit : Bool) : Words (wakeI xs n on c i hit).xs := by
  unfold wakeI giveI lookI restI
  repeat' split
  all_goals first | exact h | exact h.st _ (by omega) (by omega)
theorem wake_lenK (xs : List Int) (n : Int) (on : Bool) (c i : Int) (hit : Bool) : (wakeI xs n on c i hit).xs.length = xs.length := by
  unfold wakeI giveI lookI restI
  repeat' split
  all_goals first | rfl | exact st_len _ _ _
structure LS.Good (r r' : LS) (m : Nat) : Prop where
  n : r'.n = r.n
  mode : r'.mode = r.mode
  task : r'.task = r.task
  op : r'.op = r.op
  len : r'.xs.length = r.xs.length
  words : Words r.xs → Words r'.xs
  notes : r'.ns.length ≤ r.ns.length + m
section
variable {r : LS}
theorem good_refl (r : LS) : r.Good r 0 := ⟨rfl, rfl, rfl, rfl, rfl, id, Nat.le_refl _⟩
theorem LS.Good.trans {r r' r'' : LS} {m m' : Nat} (h : r.Good r' m) (k : r'.Good r'' m') : r.Good r'' (m + m') :=
  ⟨k.n.trans h.n, k.mode.trans h.mode, k.task.trans h.task, k.op.trans h.op, k.len.trans h.len, k.words ∘ h.words, by have := h.notes; have := k.notes; omega⟩
theorem LS.Good.le {r r' : LS} {m m' : Nat} (h : r.Good r' m) (hm : m ≤ m') : r.Good r' m' := ⟨h.n, h.mode, h.task, h.op, h.len, h.words, by have := h.notes; omega⟩
theorem good_do {k c x y : Int} (hl : Words r.xs → 0 ≤ leftOf k x y (wordAt r.xs c) ∧ leftOf k x y (wordAt r.xs c) < 4294967296) : r.Good (r.doA k c x y) 0 := ⟨rfl, rfl, rfl, rfl, doNew_len _ _ _ _ _, fun h => doNew_wordsK h _ _ _ _ (hl h), Nat.le_refl _⟩
theorem good_load (c : Int) : r.Good (r.doA 1 c 0 0) 0 := good_do (fun h => word_bd h c)
theorem good_cas (c x y : Int) (hy : 0 ≤ y ∧ y < 4294967296) : r.Good (r.doA 5 c x y) 0 := good_do (fun h => by
  show 0 ≤ (if wordAt r.xs c = x then y else wordAt r.xs c) ∧ (if wordAt r.xs c = x then y else wordAt r.xs c) < 4294967296
  split
  · exact hy
  · exact word_bd h c)
theorem good_note (what arg : Int) : r.Good (r.note what arg) 1 := ⟨rfl, rfl, rfl, rfl, rfl, id, by simp [LS.note]⟩
theorem good_go (l : Int) : r.Good (r.go l) 0 := ⟨rfl, rfl, rfl, rfl, rfl, id, Nat.le_refl _⟩
theorem good_wake (c : Int) : r.Good (r.wake c) 0 := ⟨rfl, rfl, rfl, rfl, rfl, id, Nat.le_refl _⟩
theorem good_keepA (v : Int) : r.Good (r.keepA v) 0 := ⟨rfl, rfl, rfl, rfl, rfl, id, Nat.le_refl _⟩
theorem good_wait (c : Int) (q : Int → Bool) : r.Good (r.wait c q) 0 := ⟨rfl, rfl, rfl, rfl, step_len _ _ _ _ _ _ _, fun h => Words.step h _ _ _ _ _ _, Nat.le_refl _⟩
theorem good_fresh : r.Good r.fresh 0 := ⟨rfl, rfl, rfl, rfl, rfl, id, Nat.zero_le _⟩
theorem good_waking : r.Good r.waking 0 := ⟨rfl, rfl, rfl, rfl, wake_lenK _ _ _ _ _ _, fun h => wake_wordsK h _ _ _ _ _, Nat.zero_le _⟩
end
end Go.Proofs.Ytaifeejciglkpaa
set_option linter.unusedVariables false
set_option linter.unusedSimpArgs false
namespace Go.Proofs.Ytaifeejciglkpaa
open Go.RowKit
def newR (k mode task op : Int) (xs : List Int) : LS := ⟨k, mode, task, op, 0, 0, 0, 0, wk0, 0, acc0, [], xs⟩
def newCells (p : Option Addr) (k mode task op : Int) : Array Value := #[.pointer p, .int .i64 k, .int .i64 mode, .int .i64 task, .int .i64 op, .int .i64 0, .int .u32 0, .int .u32 0, .int .i64 0, .bool false, .int .i64 0, .int .i64 0, .bool false, .int .i64 0, .int .i64 0, .int .i64 0, .int .u32 0, .int .u32 0, .int .u32 0, .slice none 0 0]
end Go.Proofs.Ytaifeejciglkpaa
set_option linter.unusedVariables false
set_option linter.unusedSimpArgs false
namespace Go.Proofs.Ytaifeejciglkpaa
open Go.RowKit
structure LS.WB (r : LS) : Prop where
  words : Words r.xs
  a : 0 ≤ r.a ∧ r.a < 4294967296
  b : 0 ≤ r.b ∧ r.b < 4294967296
end Go.Proofs.Ytaifeejciglkpaa
set_option linter.unusedVariables false
set_option linter.unusedSimpArgs false
namespace Go.Proofs.Ytaifeejciglkpaa
open Go.RowKit
section
variable {r : LS}
theorem me_bd : 0 ≤ r.me ∧ r.me < 4294967296 := by unfold LS.me; omega
theorem good_store (c x : Int) (hx : 0 ≤ x ∧ x < 4294967296) : r.Good (r.doA 2 c x 0) 0 := good_do (fun _ => hx)
theorem good_swap (c x : Int) (hx : 0 ≤ x ∧ x < 4294967296) : r.Good (r.doA 4 c x 0) 0 := good_do (fun _ => hx)
theorem good_notes (l : List Int) : ∀ r : LS, r.Good (r.notes l) l.length := by
  induction l with
  | nil => exact fun r => good_refl r
  | cons x l ih =>
    intro r
    have h := (good_note (r := r) x 0).trans (ih (r.note x 0))
    exact h.le (by simp; omega)
theorem notes_a (l : List Int) : ∀ r : LS, (r.notes l).a = r.a ∧ (r.notes l).b = r.b := by
  induction l with
  | nil => exact fun r => ⟨rfl, rfl⟩
  | cons x l ih => exact fun r => ih (r.note x 0)
def LS.Keep (r r' : LS) (m : Nat) : Prop := r.Good r' m ∧ (r'.a = r.a ∨ ∃ c, r'.a = wordAt r.xs c)
theorem keep_enter (r : LS) (tail cl : Int) : r.Keep (r.mxEnter tail cl).1 1 := by
  unfold LS.mxEnter
  by_cases l0 : r.line = 0
  · rw [if_pos l0]
    exact ⟨((good_store _ _ (by decide)).trans (good_go _)).le (by decide), .inl rfl⟩
  by_cases l1 : r.line = 1
  · rw [if_neg l0, if_pos l1]
    exact ⟨((good_store _ _ (by decide)).trans (good_go _)).le (by decide), .inl rfl⟩
  by_cases l2 : r.line = 2
  · rw [if_neg l0, if_neg l1, if_pos l2]
    have h := ((good_swap (r := r) tail r.me me_bd).trans (good_keepA (wordAt r.xs tail))).trans (good_note 2 cl)
    by_cases hz : wordAt r.xs tail = 0
    · rw [if_pos hz]
      exact ⟨h, .inr ⟨tail, rfl⟩⟩
    · rw [if_neg hz]
      exact ⟨h.trans (good_go _), .inr ⟨tail, rfl⟩⟩
  by_cases l3 : r.line = 3
  · rw [if_neg l0, if_neg l1, if_neg l2, if_pos l3]
    exact ⟨(((good_store _ _ me_bd).trans (good_wake _)).trans (good_go _)).le (by decide), .inl rfl⟩
  by_cases l4 : r.line = 4
  · rw [if_neg l0, if_neg l1, if_neg l2, if_neg l3, if_pos l4]
    exact ⟨(good_wait _ _).le (by decide), .inl rfl⟩
  · rw [if_neg l0, if_neg l1, if_neg l2, if_neg l3, if_neg l4]
    exact ⟨(good_refl r).le (by decide), .inl rfl⟩
theorem keep_seeN (r : LS) : r.Keep r.seeN 0 := by
  unfold LS.seeN
  by_cases h : (r.stepR (nc r.n r.task) isN).seen = true
  · rw [if_pos h]
    exact ⟨(good_wait _ _).trans (good_keepA _), .inr ⟨_, rfl⟩⟩
  · rw [if_neg h]
    exact ⟨good_wait _ _, .inl rfl⟩
theorem keep_give (r : LS) (tail a : Int) (l : List Int) : r.Keep (r.mxGive tail a l).1 l.length := by
  unfold LS.mxGive
  by_cases l0 : r.line = a
  · rw [if_pos l0]
    have h := (good_load (r := r) (nc r.n r.task)).trans (good_keepA (wordAt r.xs (nc r.n r.task)))
    by_cases hz : wordAt r.xs (nc r.n r.task) = 0
    · rw [if_pos hz]
      exact ⟨(h.trans (good_go _)).le (Nat.zero_le _), .inr ⟨nc r.n r.task, rfl⟩⟩
    · rw [if_neg hz]
      exact ⟨(h.trans (good_go _)).le (Nat.zero_le _), .inr ⟨nc r.n r.task, rfl⟩⟩
  by_cases l1 : r.line = a + 1
  · rw [if_neg l0, if_pos l1]
    by_cases hz : r.casOut tail = true
    · rw [if_pos hz]
      refine ⟨((good_cas _ _ _ (by decide)).trans (good_notes l _)).le (by omega), .inl ?_⟩
      exact (notes_a l _).1
    · rw [if_neg hz]
      exact ⟨((good_cas _ _ _ (by decide)).trans (good_go _)).le (Nat.zero_le _), .inl rfl⟩
  by_cases l2 : r.line = a + 2
  · rw [if_neg l0, if_neg l1, if_pos l2]
    by_cases hz : (r.stepR (nc r.n r.task) isN).done = true
    · rw [if_pos hz]
      exact ⟨((keep_seeN r).1.trans (good_go _)).le (Nat.zero_le _), (keep_seeN r).2⟩
    · rw [if_neg hz]
      exact ⟨(keep_seeN r).1.le (Nat.zero_le _), (keep_seeN r).2⟩
  by_cases l3 : r.line = a + 3
  · rw [if_neg l0, if_neg l1, if_neg l2, if_pos l3]
    refine ⟨(((good_store _ _ (by decide)).trans (good_notes l _)).trans (good_wake _)).le (by omega), .inl ?_⟩
    exact (notes_a l _).1
  · rw [if_neg l0, if_neg l1, if_neg l2, if_neg l3]
    exact ⟨(good_refl r).le (Nat.zero_le _), .inl rfl⟩
theorem keep_mxStep (r : LS) (s : Int) : r.Keep (r.mxStep s).1 1 := by
  unfold LS.mxStep
  by_cases hk : r.k.on = true
  · rw [if_pos hk]
    exact ⟨good_waking.le (by decide), .inl rfl⟩
  rw [if_neg hk]
  by_cases hs : s = 0
  · rw [if_pos hs]
    have h := keep_enter r.fresh 0 2
    exact ⟨(good_fresh.trans h.1).le (by decide), h.2⟩
  · rw [if_neg hs]
    have h := keep_give r.fresh 0 6 [8]
    exact ⟨(good_fresh.trans h.1).le (by decide), h.2⟩
theorem notes_mxStep (r : LS) (s : Int) : (r.mxStep s).1.ns.length ≤ 1 := by
  unfold LS.mxStep
  by_cases hk : r.k.on = true
  · rw [if_pos hk]; exact Nat.zero_le _
  rw [if_neg hk]
  by_cases hs : s = 0
  · rw [if_pos hs]; exact (keep_enter r.fresh 0 2).1.notes
  · rw [if_neg hs]; exact (keep_give r.fresh 0 6 [8]).1.notes
theorem LS.Keep.ab {r r' : LS} {m : Nat} (h : r.Keep r' m) (hx : Words r.xs) (ha : 0 ≤ r.a ∧ r.a < 4294967296) : Words r'.xs ∧ 0 ≤ r'.a ∧ r'.a < 4294967296 := by
  refine ⟨h.1.words hx, ?_⟩
  rcases h.2 with e | ⟨c, e⟩
  · rw [e]; exact ha
  · rw [e]; exact word_bd hx c
end
def regsT (ns : List Nt) (t : Nat) : List Int := (ns.filter (fun n => n.w == 2)).map (fun _ => (t : Int))
theorem regs_next {ns : List Nt} {j t : Nat} {n : Nt} (h : ns[j]? = some n) : regsT (ns.take (j + 1)) t = regsT (ns.take j) t ++ (if n.w = 2 then [(t : Int)] else []) := by
  unfold regsT
  rw [List.take_add_one, h, List.filter_append, List.map_append]
  congr 1
  by_cases e : n.w = 2
  · rw [if_pos e]; simp [e]
  · rw [if_neg e]; simp [e]
end Go.Proofs.Ytaifeejciglkpaa
set_option linter.unusedVariables false
set_option linter.unusedSimpArgs false
namespace Go.Proofs.Ytaifeejciglkpaa
open Go.RowKit
theorem infoO : (Try.prog.info? 3).map (fun i => (i.zero, i.size, i.bytes)) = some (some (.int .i64 0), 1, 8) := by kernel_rfl
def OrdL (base : Nat) (w : World) (A : Option Addr) (cap : Nat) (l : List Int) : Prop :=
  (A = none ∧ cap = 0 ∧ l = []) ∨ ∃ g o cur, A = some ⟨g, o, none⟩ ∧ base ≤ g ∧ Row w g 3 cur ∧ l.length ≤ cap ∧ o + cap ≤ cur.size ∧ ∀ i x, l[i]? = some x → cur[o + i]? = some (.int .i64 x)
theorem ordL_nil (base : Nat) (w : World) : OrdL base w none 0 [] := .inl ⟨rfl, rfl, rfl⟩
section
variable {base : Nat} {w w' : World} {A : Option Addr} {cap : Nat} {l : List Int} {S : Nat → Prop}
theorem OrdL.only (h : OrdL base w A cap l) (ho : Only S w w') (hS : ∀ j, At A j → ¬ S j) : OrdL base w' A cap l := by
  rcases h with h | ⟨g, o, cur, rfl, hb, hr, h1, h2, h3⟩
  · exact .inl h
  · exact .inr ⟨g, o, cur, rfl, hb, hr.only ho (hS g ⟨_, rfl, rfl⟩), h1, h2, h3⟩
theorem OrdL.tag (h : OrdL base w A cap l) {j : Nat} (hj : At A j) : base ≤ j ∧ ∃ cur, Row w j 3 cur := by
  obtain ⟨a, ha, rfl⟩ := hj
  rcases h with ⟨h, _⟩ | ⟨g, o, cur, rfl, hb, hr, _⟩
  · rw [h] at ha; cases ha
  · cases ha; exact ⟨hb, cur, hr⟩
theorem OrdL.head {x : Int} (h : OrdL base w A cap (x :: l)) : ∃ g o, A = some ⟨g, o, none⟩ ∧ w.cell? ⟨g, o, none⟩ = some (.int .i64 x) ∧ 1 ≤ cap := by
  rcases h with ⟨_, _, h⟩ | ⟨g, o, cur, rfl, hb, hr, h1, h2, h3⟩
  · cases h
  · exact ⟨g, o, rfl, hr.cell_ (by have := h3 0 x rfl; rwa [Nat.add_zero] at this), by rw [List.length_cons] at h1; omega⟩
theorem OrdL.tail1 {x : Int} {g o : Nat} (h : OrdL base w (some ⟨g, o, none⟩) 1 (x :: l)) : OrdL base w (some ⟨g, o, none⟩) 0 l := by
  rcases h with ⟨h, _⟩ | ⟨g', o', cur, e, hb, hr, h1, h2, h3⟩
  · cases h
  · cases e
    have hl : l.length = 0 := by rw [List.length_cons] at h1; omega
    obtain rfl := List.eq_nil_of_length_eq_zero hl
    exact .inr ⟨g, o, cur, rfl, hb, hr, Nat.le_refl _, by omega, fun i x hx => by simp at hx⟩
theorem OrdL.tail {x : Int} {g o : Nat} (h : OrdL base w (some ⟨g, o, none⟩) cap (x :: l)) : OrdL base w (some ⟨g, o + 1, none⟩) (cap - 1) l := by
  rcases h with ⟨h, _⟩ | ⟨g', o', cur, e, hb, hr, h1, h2, h3⟩
  · cases h
  · cases e
    refine .inr ⟨g, o + 1, cur, rfl, hb, hr, by rw [List.length_cons] at h1; omega, by rw [List.length_cons] at h1; omega, fun i y hy => ?_⟩
    rw [show o + 1 + i = o + (i + 1) by omega]
    exact h3 (i + 1) y (by simpa using hy)
end
theorem run_append_room_at {P : Program} (w : World) (t ty e : TypeId) (i : TypeInfo) (ht : P.underlying t = some (.slice e)) (hi : P.info? e = some i)
    (g o sLen sCap : Nat) (cur : Array Value) (hg : w.heap[g]? = some (.cells cur e (0, 0)))
    (a : Addr) (m c : Nat) (news : List Value) (hl : news.length = m * i.size) (hnews : ∀ j u, news[j]? = some u → w.cell? (a.add j) = some u) (h1 : ∀ u ∈ news, u.oneCell' = true)
    (hroom : sLen + m ≤ sCap) (hfit : o + sLen * i.size + news.length ≤ cur.size) :
    (Builtin.append_ #[t, t] ty #[.slice (some ⟨g, o, none⟩) sLen sCap, .slice (some a) m c]).run P w =
      .ok (.slice (some ⟨g, o, none⟩) (sLen + m) sCap) (w.setRow g (cur.toList.take (o + sLen * i.size) ++ news ++ cur.toList.drop (o + sLen * i.size + news.length)).toArray) := by
  have hf := run_firstCells_some (P := P) w i.size m a m c news hl hnews
  have hst := run_storeCells_at P g (o + sLen * i.size) e news 0 cur w hg (by simpa using hfit) h1
  simp only [Nat.add_zero] at hst
  simp [Builtin.append_, run_underlying ht, sizeOf, typeInfo, hi, Builtin.lenOf, hroom, hf, Addr.add_lit, hst]
theorem run_appO (ty : TypeId) (base : Nat) (w : World) (A : Option Addr) (cap : Nat) (l : List Int) (hown : OrdL base w A cap l) (g : Nat) (k : Int) (hrow : Row w g 3 #[.int .i64 k]) (h1 : l.length ≤ 100000) (hbase : base ≤ w.heap.size) :
    ∃ A' cap' w', (Builtin.append_ #[30, 30] ty #[.slice A l.length cap, .slice (some ⟨g, 0, none⟩) 1 1]).run Try.prog w = .ok (.slice A' (l.length + 1) cap') w' ∧ OrdL base w' A' cap' (l ++ [k]) ∧ Only (At A) w w' ∧ (∀ j, At A' j → At A j ∨ w.heap.size ≤ j) := by
  obtain ⟨i0, hi, hz0, hz1, hz2⟩ := info_parts infoO
  have hnews : ∀ j u, [Value.int .i64 k][j]? = some u → w.cell? ((⟨g, 0, none⟩ : Addr).add j) = some u := fun j u hj => by
    rw [add_at, Nat.zero_add]
    exact hrow.cell_ (by rw [← hj]; simp)
  have hlen : (l.map (Value.int .i64)).length = l.length := List.length_map _
  have grown : ∀ old, OrdL base (w.drew.alloc (.cells ((l.map (Value.int .i64)).toArray ++ [Value.int .i64 k].toArray ++ Builtin.zeroCells (Value.int .i64 0).cells (grownCap w (l.length + 1) old 3 - (l.length + 1))) 3)) (some ⟨w.heap.size, 0, none⟩) (grownCap w (l.length + 1) old 3) (l ++ [k]) := by
    intro old
    have hge := grownCap_ge w (l.length + 1) old 3
    refine .inr ⟨w.heap.size, 0, _, rfl, hbase, heap_alloc_new w.drew _, by rw [List.length_append]; exact hge, ?_, fun i x hx => ?_⟩
    · simp only [Array.size_append, List.size_toArray, size_zeroCells, hlen]
      show 0 + _ ≤ _ + 1 + _ * 1
      omega
    · rw [Nat.zero_add, ← Array.getElem?_toList]
      simp only [Array.toList_append]
      have hm : ((l ++ [k]).map (Value.int .i64))[i]? = some (.int .i64 x) := by rw [List.getElem?_map, hx]; rfl
      rw [List.map_append] at hm
      rw [List.getElem?_append_left (by
        have := (List.getElem?_eq_some_iff.1 hm).1
        exact this)]
      exact hm
  rcases hown with ⟨rfl, rfl, rfl⟩ | ⟨q, o, cur, rfl, hb, hq, hc, hs, hx⟩
  · have hr := run_append_nil (P := Try.prog) w 30 ty 3 i0 _ Try.underlying30 hi hz0 ⟨g, 0, none⟩ 1 1 [Value.int .i64 k] (by rw [hz1]; rfl) hnews (by decide) (by decide) (by rw [hz2]; decide)
    have hg := grown 0
    simp only [List.length_nil, List.map_nil, Nat.zero_add, Array.empty_append] at hg
    exact ⟨_, _, _, hr, hg, (Only.refl _ w).drew.alloc _, fun j ⟨a, ha, hj⟩ => by cases ha; exact .inr (by rw [← hj]; exact Nat.le_refl _)⟩
  · by_cases hroom : l.length + 1 ≤ cap
    · have hr := run_append_room_at (P := Try.prog) w 30 ty 3 i0 Try.underlying30 hi q o l.length cap cur hq ⟨g, 0, none⟩ 1 1 [Value.int .i64 k] (by rw [hz1]; rfl) hnews (fun u hu => by simp at hu; subst hu; rfl) hroom (by rw [hz1]; show o + l.length * 1 + 1 ≤ _; omega)
      rw [hz1, Nat.mul_one] at hr
      refine ⟨_, _, _, hr, .inr ⟨q, o, _, rfl, hb, setRow_heap w q cur _ 3 _ hq, by rw [List.length_append]; exact hroom, ?_, fun i x hi => ?_⟩, ⟨rfl, rfl, rfl, by simp, fun i _ hi => setRow_other w q i _ (fun e => hi ⟨_, rfl, e.symm⟩)⟩, fun j h => .inl h⟩
      · rw [List.size_toArray, List.length_append, List.length_append, List.length_take, List.length_drop]
        simp only [List.length_cons, List.length_nil]
        have hcl : cur.toList.length = cur.size := Array.length_toList
        omega
      · rw [← Array.getElem?_toList]
        show (List.take (o + l.length) cur.toList ++ [Value.int .i64 k] ++ List.drop (o + l.length + 1) cur.toList)[o + i]? = _
        have ht : (List.take (o + l.length) cur.toList).length = o + l.length := by rw [List.length_take]; have hcl : cur.toList.length = cur.size := Array.length_toList; omega
        by_cases hil : i < l.length
        · rw [List.getElem?_append_left hil] at hi
          rw [List.append_assoc, List.getElem?_append_left (by omega), List.getElem?_take, if_pos (by omega), Array.getElem?_toList]
          exact hx i x hi
        · rw [List.getElem?_append_right (by omega)] at hi
          have e : i = l.length := by
            by_cases e : i = l.length
            · exact e
            · rw [List.getElem?_eq_none (by simp; omega)] at hi; cases hi
          subst e
          rw [Nat.sub_self] at hi
          cases hi
          rw [List.getElem?_append_left (by rw [List.length_append, ht]; simp), List.getElem?_append_right (by omega), ht, Nat.sub_self]
          rfl
    · have holds : ∀ j u, (l.map (Value.int .i64))[j]? = some u → w.cell? ((⟨q, o, none⟩ : Addr).add j) = some u := fun j u hj => by
        rw [List.getElem?_map] at hj
        obtain ⟨x, hxx, rfl⟩ := Option.map_eq_some_iff.1 hj
        rw [add_at]
        exact hq.cell_ (hx j x hxx)
      have hr := run_append_grow (P := Try.prog) w 30 ty 3 i0 _ Try.underlying30 hi hz0 ⟨q, o, none⟩ l.length cap (l.map (Value.int .i64)) (by rw [hz1, hlen]; omega) holds ⟨g, 0, none⟩ 1 1 [Value.int .i64 k] (by rw [hz1]; rfl) hnews (by omega) (by omega) (growslice_fits (by omega) (by rw [hz2]; omega))
      exact ⟨_, _, _, hr, grown _, (Only.refl _ w).drew.alloc _, fun j ⟨a, ha, hj⟩ => by cases ha; exact .inr (by rw [← hj]; exact Nat.le_refl _)⟩
theorem wp_appO {w : World} {ops : Array Oper} {rest : List Oper} {o : Oper} {a : Act} {Q : Exit → Act → World → Prop} (hgd : o.guard = none) (s x : Operand)
    (ho : o.op = .call { callee := .builtin .append, args := #[s, x], argTypes := #[30, 30] })
    (base : Nat) (A : Option Addr) (cap : Nat) (l : List Int) (n : Nat) (hn : l.length = n) (hs : a.eval s = .slice A n cap) (hown : OrdL base w A cap l) (g : Nat) (k : Int) (hx : a.eval x = .slice (some ⟨g, 0, none⟩) 1 1) (hrow : Row w g 3 #[.int .i64 k]) (h1 : l.length ≤ 100000) (hbase : base ≤ w.heap.size)
    (h : ∀ A' cap' w', OrdL base w' A' cap' (l ++ [k]) → Only (At A) w w' → (∀ j, At A' j → At A j ∨ w.heap.size ≤ j) → wpList Try.prog ops Q rest (a.put o.dst (.slice A' (n + 1) cap')) w') : wpList Try.prog ops Q (o :: rest) a w := by
  subst hn
  refine wpList_plain hgd fun K hK => ?_
  obtain ⟨A', cap', w', hr, h2, h3, h4⟩ := run_appO o.type base w A cap l hown g k hrow h1 hbase
  unfold Oper.wp execOp
  simp only [ho, resolve, invoke, builtin, Sem.run_bind, Sem.run_pure, Result.andThen_ok, List.map_toArray, List.map_cons, List.map_nil, hs, hx, hr]
  exact hK _ _ (h A' cap' w' h2 h3 h4)
end Go.Proofs.Ytaifeejciglkpaa
