/- Whether a note is of the task and of one of the Whats: the closure that note.Of hands to pick. -/
import Derived.Test.YtakbbabmbhencaaDoorNoteM
import Derived.Test.YtakbbabmbhencaaDoorKit
import Derived.Test.YtakbbabmbhencaaDoorChecked
import Derived.IntWalk
namespace Go.Proofs.YtakbbabmbhencaaDoor
open Go.RowKit
set_option linter.unusedVariables false
set_option linter.unusedSimpArgs false
/-- It is of the task, and of one of the Whats. -/
def inB (task : Int) (ws : List Int) (n : Nt) : Bool := (decide (task < 0) || decide (n.t = task)) && (decide (ws = []) || decide (n.w ∈ ws))
/-- A place of x, or -1. -/
def Place (xs : List Int) (x : Int) (e : Ending) : Prop := ∃ r : Int, e = .returned (.int .i64 r) ∧ (0 ≤ r ↔ x ∈ xs)
theorem mem_get {xs : List Int} {x : Int} (h : x ∈ xs) : ∃ j, j < xs.length ∧ xs.getD j 0 = x := by
  obtain ⟨j, hj, he⟩ := List.getElem_of_mem h
  exact ⟨j, hj, by simp [List.getD, List.getElem?_eq_getElem hj, he]⟩
theorem index_ints (x : Int) (A : Option Addr) (n cap B : Nat) (xs : List Int) (w : World) (hn : xs.length = n) (hx : Ints w B .i64 A xs) (hm : n ≤ 100) :
    Calls Tryd.prog 47 #[.slice A n cap, .int .i64 x] w fun e w' => Place xs x e ∧ w = w' := by
  have HX := Lib.hid hx
  have HN := Lib.hid hn
  clear hx hn
  go_enter Tryd.func47, Tryd.ntmps47
  go_wp2
  go_loop [8] (fun i => ∃ k : Nat, k ≤ n ∧ i = .int .i64 k ∧ Hid (∀ j : Nat, j < k → xs.getD j 0 ≠ x)) (fun i => n - (intOf i).toNat)
  case atStart => exact ⟨0, Nat.zero_le _, rfl, Lib.hid (fun j hj => absurd hj (by omega))⟩
  case round =>
    obtain ⟨k, hk, rfl, HD⟩ := hrel
    by_cases hlt : k < n
    · obtain ⟨b1, o1, hA, _, hc1⟩ := HX.out (by rw [HN.out]; omega)
      subst hA
      have c1 := hc1 k (by rw [HN.out]; omega)
      have HY := Lib.hid (show xs.getD k 0 ∈ xs by
        have hl : k < xs.length := by rw [HN.out]; exact hlt
        simp [List.getD, List.getElem?_eq_getElem hl])
      clear hc1
      by_cases he : xs.getD k 0 = x
      · rw [he] at c1 HY
        clear he
        go_wp2
        go_ret
        exact ⟨⟨k, rfl, ⟨fun _ => HY.out, fun _ => by omega⟩⟩, rfl⟩
      · have HD1 : Hid (∀ j : Nat, j < k + 1 → xs.getD j 0 ≠ x) := Lib.hid (fun j hj => by
          rcases Nat.lt_or_ge j k with h | h
          · exact HD.out j h
          · rw [show j = k by omega]; exact he)
        generalize xs.getD k 0 = y at *
        have hb : (x == y) = false := by simpa using fun e => he e.symm
        clear he
        go_wp2
        exact ⟨⟨k + 1, by omega, by go_num, HD1⟩, by simp [intOf]; omega⟩
    · obtain rfl : k = n := by omega
      clear hlt hk
      go_wp2
      go_ret
      refine ⟨⟨-1, rfl, ⟨fun h => by omega, fun h => ?_⟩⟩, rfl⟩
      obtain ⟨j, hj, he⟩ := mem_get h
      exact absurd he (HD.out j (by rw [HN.out] at hj; exact hj))
theorem contains_ints (x : Int) (A : Option Addr) (n cap B : Nat) (xs : List Int) (w : World) (hn : xs.length = n) (hx : Ints w B .i64 A xs) (hm : n ≤ 100) :
    Calls Tryd.prog 39 #[.slice A n cap, .int .i64 x] w fun e w' => e = .returned (.bool (decide (x ∈ xs))) ∧ w = w' := by
  have HI := Lib.hid (index_ints x A n cap B xs w hn hx hm)
  clear hx hn hm
  go_enter Tryd.func39, Tryd.ntmps39
  go_wp2_with fail
  refine HI.out.mono ?_
  rintro e w' ⟨⟨r, rfl, hr⟩, rfl⟩
  have HR := Lib.hid (show decide (x ∈ xs) = decide (0 ≤ r) from decide_eq_decide.2 hr.symm)
  clear hr HI
  go_wp2
  go_ret
  exact ⟨by rw [HR.out]; rfl, rfl⟩

theorem cl_any (t q o a task : Int) (b1 b2 : Nat) (A : Option Addr) (n cap : Nat) (xs : List Int) (w : World) (h1 : w.cell? ⟨b1, 0, none⟩ = some (.int .i64 task)) (h2 : w.cell? ⟨b2, 0, none⟩ = some (.slice A n cap))
    (hn : xs.length = n) (hx : Ints w w.heap.size .i64 A xs) (hm : n ≤ 100) :
    Calls Tryd.prog 38 #[.agg #[.int .i64 t, .int .i64 q, .int .i64 o, .int .i64 a], .pointer (some ⟨b1, 0, none⟩), .pointer (some ⟨b2, 0, none⟩)] w fun e w' => e = .returned (.bool (inB task xs ⟨t, q, o, a⟩)) ∧ Only Nil w w' := by
  unfold inB
  dsimp only
  by_cases ht : task < 0
  · rw [decide_eq_true ht, Bool.true_or, Bool.true_and]
    by_cases h0 : n = 0
    · subst h0
      obtain rfl := List.eq_nil_of_length_eq_zero hn
      rw [show decide (([] : List Int) = []) = true from rfl, Bool.true_or]
      have HO := Lib.hid ((Only.refl Nil w).alloc (.cells #[.int .i64 t, .int .i64 q, .int .i64 o, .int .i64 a] 23))
      have HR := Lib.hid (Row.new w 23 #[.int .i64 t, .int .i64 q, .int .i64 o, .int .i64 a])
      have e1 : ∀ ob, (w.alloc ob).cell? ⟨b1, 0, none⟩ = some (.int .i64 task) := fun ob => (World.cell?_alloc_lt w ob _ (World.block_lt_of_cell? w _ h1)).trans h1
      have e2 : ∀ ob, (w.alloc ob).cell? ⟨b2, 0, none⟩ = some (.slice A 0 cap) := fun ob => (World.cell?_alloc_lt w ob _ (World.block_lt_of_cell? w _ h2)).trans h2
      have HC := Lib.hid (fun W => contains_ints q A 0 cap w.heap.size ([] : List Int) (w.alloc W) hn (hx.alloc (Nat.le_refl _) W) hm)
      clear h1 h2 hx hn
      go_enter Tryd.func38, Tryd.ntmps38
      go_wp2_with (go_at_call 39; refine (HC.out _).mono ?_; rintro e w' ⟨rfl, rfl⟩)
      go_ret
      exact ⟨rfl, HO.out⟩
    · have hne : decide (xs = []) = false := decide_eq_false (fun e => h0 (by rw [← hn, e]; rfl))
      rw [hne, Bool.false_or]
      have hb : ((n : Int) == 0) = false := by simp; omega
      clear hne
      generalize hd : decide (q ∈ xs) = d
      have HO := Lib.hid ((Only.refl Nil w).alloc (.cells #[.int .i64 t, .int .i64 q, .int .i64 o, .int .i64 a] 23))
      have HR := Lib.hid (Row.new w 23 #[.int .i64 t, .int .i64 q, .int .i64 o, .int .i64 a])
      have e1 : ∀ ob, (w.alloc ob).cell? ⟨b1, 0, none⟩ = some (.int .i64 task) := fun ob => (World.cell?_alloc_lt w ob _ (World.block_lt_of_cell? w _ h1)).trans h1
      have e2 : ∀ ob, (w.alloc ob).cell? ⟨b2, 0, none⟩ = some (.slice A n cap) := fun ob => (World.cell?_alloc_lt w ob _ (World.block_lt_of_cell? w _ h2)).trans h2
      have HC := Lib.hid (fun W => contains_ints q A n cap w.heap.size xs (w.alloc W) hn (hx.alloc (Nat.le_refl _) W) hm)
      clear h1 h2 hx hn
      go_enter Tryd.func38, Tryd.ntmps38
      go_wp2_with (go_at_call 39; refine (HC.out _).mono ?_; rintro e w' ⟨rfl, rfl⟩)
      go_ret
      exact ⟨rfl, HO.out⟩
  · by_cases he : t = task
    · subst he
      rw [show decide (t = t) = true from decide_eq_true rfl, Bool.or_true, Bool.true_and]
      by_cases h0 : n = 0
      · subst h0
        obtain rfl := List.eq_nil_of_length_eq_zero hn
        rw [show decide (([] : List Int) = []) = true from rfl, Bool.true_or]
        have HO := Lib.hid ((Only.refl Nil w).alloc (.cells #[.int .i64 t, .int .i64 q, .int .i64 o, .int .i64 a] 23))
        have HR := Lib.hid (Row.new w 23 #[.int .i64 t, .int .i64 q, .int .i64 o, .int .i64 a])
        have e1 : ∀ ob, (w.alloc ob).cell? ⟨b1, 0, none⟩ = some (.int .i64 t) := fun ob => (World.cell?_alloc_lt w ob _ (World.block_lt_of_cell? w _ h1)).trans h1
        have e2 : ∀ ob, (w.alloc ob).cell? ⟨b2, 0, none⟩ = some (.slice A 0 cap) := fun ob => (World.cell?_alloc_lt w ob _ (World.block_lt_of_cell? w _ h2)).trans h2
        have HC := Lib.hid (fun W => contains_ints q A 0 cap w.heap.size ([] : List Int) (w.alloc W) hn (hx.alloc (Nat.le_refl _) W) hm)
        clear h1 h2 hx hn
        go_enter Tryd.func38, Tryd.ntmps38
        go_wp2_with (go_at_call 39; refine (HC.out _).mono ?_; rintro e w' ⟨rfl, rfl⟩)
        go_ret
        exact ⟨rfl, HO.out⟩
      · have hne : decide (xs = []) = false := decide_eq_false (fun e => h0 (by rw [← hn, e]; rfl))
        rw [hne, Bool.false_or]
        have hb : ((n : Int) == 0) = false := by simp; omega
        clear hne
        have HO := Lib.hid ((Only.refl Nil w).alloc (.cells #[.int .i64 t, .int .i64 q, .int .i64 o, .int .i64 a] 23))
        have HR := Lib.hid (Row.new w 23 #[.int .i64 t, .int .i64 q, .int .i64 o, .int .i64 a])
        have e1 : ∀ ob, (w.alloc ob).cell? ⟨b1, 0, none⟩ = some (.int .i64 t) := fun ob => (World.cell?_alloc_lt w ob _ (World.block_lt_of_cell? w _ h1)).trans h1
        have e2 : ∀ ob, (w.alloc ob).cell? ⟨b2, 0, none⟩ = some (.slice A n cap) := fun ob => (World.cell?_alloc_lt w ob _ (World.block_lt_of_cell? w _ h2)).trans h2
        have HC := Lib.hid (fun W => contains_ints q A n cap w.heap.size xs (w.alloc W) hn (hx.alloc (Nat.le_refl _) W) hm)
        clear h1 h2 hx hn
        go_enter Tryd.func38, Tryd.ntmps38
        go_wp2_with (go_at_call 39; refine (HC.out _).mono ?_; rintro e w' ⟨rfl, rfl⟩)
        go_ret
        exact ⟨rfl, HO.out⟩
    · rw [decide_eq_false ht, decide_eq_false he, Bool.false_or, Bool.false_and]
      have hb : (t == task) = false := by simpa using he
      clear he
      have HO := Lib.hid ((Only.refl Nil w).alloc (.cells #[.int .i64 t, .int .i64 q, .int .i64 o, .int .i64 a] 23))
      have HR := Lib.hid (Row.new w 23 #[.int .i64 t, .int .i64 q, .int .i64 o, .int .i64 a])
      have e1 : ∀ ob, (w.alloc ob).cell? ⟨b1, 0, none⟩ = some (.int .i64 task) := fun ob => (World.cell?_alloc_lt w ob _ (World.block_lt_of_cell? w _ h1)).trans h1
      have e2 : ∀ ob, (w.alloc ob).cell? ⟨b2, 0, none⟩ = some (.slice A n cap) := fun ob => (World.cell?_alloc_lt w ob _ (World.block_lt_of_cell? w _ h2)).trans h2
      have HC := Lib.hid (fun W => contains_ints q A n cap w.heap.size xs (w.alloc W) hn (hx.alloc (Nat.le_refl _) W) hm)
      clear h1 h2 hx hn
      go_enter Tryd.func38, Tryd.ntmps38
      go_wp2_with (go_at_call 39; refine (HC.out _).mono ?_; rintro e w' ⟨rfl, rfl⟩)
      go_ret
      exact ⟨rfl, HO.out⟩
end Go.Proofs.YtakbbabmbhencaaDoor
