/- Notes of a task and of some Whats: note.Of, the answer's Of, and its Same. -/
import Derived.Test.YtakbbabmbhencaaDoorNoteL
import Derived.Test.YtakbbabmbhencaaDoorNoteE
import Derived.BigQuiet
namespace Go.Proofs.YtakbbabmbhencaaDoor
open Go.RowKit
set_option linter.unusedVariables false
set_option linter.unusedSimpArgs false
theorem of_note (A : Option Addr) (m cap : Nat) (zs : List Nt) (task : Int) (A2 : Option Addr) (n cap2 : Nat) (xs : List Int) (w : World) (hz : zs.length = m) (hN : Notes w A zs) (hm1 : m ≤ 100) (hn : xs.length = n) (hx : Ints w w.heap.size .i64 A2 xs) (hm : n ≤ 100) :
    Calls Tryd.prog 20 #[.slice A m cap, .int .i64 task, .slice A2 n cap2] w fun e w' => ∃ v', e = .returned v' ∧ ListN w' v' (picks task xs zs m) ∧ Only Nil w w' := by
  have ho := ((Only.refl Nil w).alloc (.cells #[.int .i64 task] 3)).alloc (.cells #[.slice A2 n cap2] 36)
  have HO := Lib.hid ho
  have HP := Lib.hid (pick_notes A m cap zs task w.heap.size (w.heap.size + 1) A2 n cap2 xs _ hz (hN.only ho) hm1 (((Row.new w 3 #[.int .i64 task]).alloc _).cell_ (i := 0) rfl) ((Row.new2 w (.cells #[.int .i64 task] 3) 36 #[.slice A2 n cap2]).cell_ (i := 0) rfl) hn ((hx.only ho (Nat.le_refl _) (fun _ _ => id)).more ho.size) hm)
  clear ho hz hN hn hx hm
  go_enter Tryd.func20, Tryd.ntmps20
  go_wp2_with fail
  refine HP.out.mono ?_
  rintro e w1 ⟨v, rfl, hown, hO⟩
  have HL := Lib.hid hown.list
  have HO1 := Lib.hid (HO.out.trans hO)
  clear hown hO
  go_wp2
  go_ret
  exact ⟨_, rfl, HL.out, HO1.out⟩

/-- So far. -/
def inK (xs : List Int) (x : Int) (k : Nat) : Bool := decide (xs = []) || decide (x ∈ xs.take k)
theorem inK_next {xs : List Int} {x : Int} {k : Nat} (h : k < xs.length) : inK xs x (k + 1) = (inK xs x k || decide (xs.getD k 0 = x)) := by
  unfold inK
  rw [List.take_add_one, List.getElem?_eq_getElem h, Bool.or_assoc]
  congr 1
  rw [show xs.getD k 0 = xs[k] by simp [List.getD, List.getElem?_eq_getElem h], ← Bool.decide_or]
  refine decide_eq_decide.2 ?_
  simp only [List.mem_append, Option.toList_some, List.mem_singleton]
  exact ⟨fun h => h.elim .inl (fun e => .inr e.symm), fun h => h.elim .inl (fun e => .inr e.symm)⟩
theorem inK_end {xs : List Int} {x : Int} : inK xs x xs.length = (decide (xs = []) || decide (x ∈ xs)) := by unfold inK; rw [List.take_length]
theorem inK_zero {xs : List Int} {x : Int} : inK xs x 0 = decide (xs = []) := by unfold inK; simp

set_option maxRecDepth 100000 in
set_option maxHeartbeats 2000000 in
theorem of_ref (A : Option Addr) (m cap : Nat) (zs : List Nt) (task : Int) (A2 : Option Addr) (n cap2 : Nat) (xs : List Int) (w : World) (hz : zs.length = m) (hN : Notes w A zs) (hm1 : m ≤ 100) (hn : xs.length = n) (hx : Ints w w.heap.size .i64 A2 xs) (hm : n ≤ 100) :
    Calls Tryd.prog 21 #[.slice A m cap, .int .i64 task, .slice A2 n cap2] w fun e w' => ∃ v', e = .returned v' ∧ ListN w' v' (picks task xs zs m) ∧ Only Nil w w' := by
  have HZ := Lib.hid hz
  have HN := Lib.hid hN
  have HX := Lib.hid hx
  have HXN := Lib.hid hn
  clear hz hN hx hn
  go_enter Tryd.func21, Tryd.ntmps21
  go_wp2
  go_loopw [7, 8] (fun p i wr => ∃ k : Nat, k ≤ m ∧ i = .int .i64 k ∧ Hid (OwnN w.heap.size wr p (picks task xs zs k)) ∧ Hid (Only Nil w wr)) (fun _ i _ => m - (intOf i).toNat)
  case atStart => exact ⟨0, Nat.zero_le _, rfl, Lib.hid (ownN_nil _ _), Lib.hid (Only.refl _ _)⟩
  case round =>
    rename_i p i
    obtain ⟨k, hk, rfl, HP, HO⟩ := hrel
    by_cases hlt : k < m
    · obtain ⟨z, hzk⟩ : ∃ z, zs[k]? = some z := ⟨_, List.getElem?_eq_getElem (by rw [HZ.out]; exact hlt)⟩
      have HZK := Lib.hid hzk
      obtain ⟨b, q, rfl, hb, hat⟩ := (HN.out.only HO.out) (by rw [HZ.out]; omega)
      have HAT := Lib.hid hat
      have HB := Lib.hid hb
      have HL := Lib.hid (show (picks task xs zs k).length ≤ 1000 by have := picks_len task xs zs k; omega)
      have HI := Lib.hid (show inB task xs z = ((decide (task < 0) || decide (z.t = task)) && inK xs z.w n) by unfold inB; rw [← HXN.out, inK_end])
      have HI0 := Lib.hid (show inK xs z.w 0 = ((n : Int) == 0) by
        rw [inK_zero, ← HXN.out]
        cases xs with
        | nil => rfl
        | cons x r => simp; omega)
      clear hzk hat hb
      go_wp2
      go_loopw [9, 10] (fun d j wq => ∃ k2 : Nat, k2 ≤ n ∧ j = .int .i64 k2 ∧ d = .bool (inK xs z.w k2) ∧ Hid (Drew wr wq)) (fun _ j _ => n - (intOf j).toNat)
      case atStart => exact ⟨0, Nat.zero_le _, rfl, by rw [HI0.out], Lib.hid (Drew.refl _)⟩
      case round =>
        obtain ⟨k2, hk2, rfl, rfl, HD⟩ := hrel
        have hb := HB.out
        have hat := HAT.out
        by_cases hlt2 : k2 < n
        · have HNX := Lib.hid (inK_next (xs := xs) (x := z.w) (k := k2) (by rw [HXN.out]; exact hlt2))
          obtain ⟨b2, q2, rfl, hb2, hc2⟩ := ((HX.out.only HO.out (Nat.le_refl _) (fun _ _ => id)).drewd HD.out) (by rw [HXN.out]; omega)
          have g0 := hc2 k2 (by rw [HXN.out]; exact hlt2)
          have f0 := ((hat k z HZK.out).only HD.out.only hb).c0
          have f1 := ((hat k z HZK.out).only HD.out.only hb).c1
          have f2 := ((hat k z HZK.out).only HD.out.only hb).c2
          have f3 := ((hat k z HZK.out).only HD.out.only hb).c3
          clear hat hc2
          generalize xs.getD k2 0 = x at *
          cases hin : inK xs z.w k2
          · rw [hin, Bool.false_or] at HNX
            by_cases he : x = z.w
            · have HNY := Lib.hid (show inK xs z.w (k2 + 1) = true by rw [HNX.out]; exact decide_eq_true he)
              have hbq : (x == z.w) = true := by simpa using he
              clear hin he
              go_wp2
              go_quiet (fail)
              go_wp2
              exact ⟨⟨k2 + 1, by omega, by go_num, by rw [HNY.out], Lib.hid (HD.out.trans (Drew.n _ _))⟩, by simp [intOf]; omega⟩
            · have HNY := Lib.hid (show inK xs z.w (k2 + 1) = false by rw [HNX.out]; exact decide_eq_false he)
              have hbq : (x == z.w) = false := by simpa using he
              clear hin he
              go_wp2
              go_quiet (fail)
              go_wp2
              exact ⟨⟨k2 + 1, by omega, by go_num, by rw [HNY.out], Lib.hid (HD.out.trans (Drew.n _ _))⟩, by simp [intOf]; omega⟩
          · have HNY := Lib.hid (show inK xs z.w (k2 + 1) = true by rw [HNX.out, hin, Bool.true_or])
            clear hin
            go_wp2
            go_quiet (fail)
            go_wp2
            exact ⟨⟨k2 + 1, by omega, by go_num, by rw [HNY.out], Lib.hid (HD.out.trans (Drew.n _ _))⟩, by simp [intOf]; omega⟩
        · obtain rfl : k2 = n := by omega
          have f0 := ((hat k z HZK.out).only HD.out.only hb).c0
          have f1 := ((hat k z HZK.out).only HD.out.only hb).c1
          have f2 := ((hat k z HZK.out).only HD.out.only hb).c2
          have f3 := ((hat k z HZK.out).only HD.out.only hb).c3
          clear hat hlt2 hk2
          cases hin : inK xs z.w k2
          · have HK := Lib.hid (picks_no (task := task) (ws := xs) HZK.out (by rw [HI.out, hin, Bool.and_false]))
            clear hin
            go_wp2
            exact ⟨⟨k + 1, by omega, by go_num, Lib.hid (by rw [HK.out]; exact HP.out.only HD.out.only), Lib.hid (HO.out.trans HD.out.only)⟩, by simp [intOf]; omega⟩
          · rw [hin, Bool.and_true] at HI
            clear hin
            by_cases ht : task < 0
            · have HK := Lib.hid (picks_yes (task := task) (ws := xs) HZK.out (by rw [HI.out, decide_eq_true ht, Bool.true_or]))
              go_wp2_with (at_builtin; refine wp_appN rfl (.tmp 53) (.tmp 58) rfl w.heap.size _ _ rfl ((HP.out.only HD.out.only).only ((Only.refl _ _).alloc _)) _ z rfl (Row.new _ _ _) HL.out (by have h1 := (HO.out.trans HD.out.only).size; simp; omega) ?_)
              intro V4 W4 hown hon
              have HO4 := Lib.hid (hon w ((HO.out.trans HD.out.only).alloc _) (Nat.le_refl _))
              have HS4 := Lib.hid (show OwnN w.heap.size W4 V4 (picks task xs zs (k + 1)) by rw [HK.out]; exact hown)
              clear hown hon
              go_wp2
              exact ⟨⟨k + 1, by omega, by go_num, HS4, HO4⟩, by simp [intOf]; omega⟩
            · by_cases he : z.t = task
              · have HK := Lib.hid (picks_yes (task := task) (ws := xs) HZK.out (by rw [HI.out, decide_eq_true he, Bool.or_true]))
                have hbq : (z.t == task) = true := by simpa using he
                clear he
                go_wp2_with (at_builtin; refine wp_appN rfl (.tmp 53) (.tmp 58) rfl w.heap.size _ _ rfl ((HP.out.only HD.out.only).only ((Only.refl _ _).alloc _)) _ z rfl (Row.new _ _ _) HL.out (by have h1 := (HO.out.trans HD.out.only).size; simp; omega) ?_)
                intro V4 W4 hown hon
                have HO4 := Lib.hid (hon w ((HO.out.trans HD.out.only).alloc _) (Nat.le_refl _))
                have HS4 := Lib.hid (show OwnN w.heap.size W4 V4 (picks task xs zs (k + 1)) by rw [HK.out]; exact hown)
                clear hown hon
                go_wp2
                exact ⟨⟨k + 1, by omega, by go_num, HS4, HO4⟩, by simp [intOf]; omega⟩
              · have HK := Lib.hid (picks_no (task := task) (ws := xs) HZK.out (by rw [HI.out, decide_eq_false ht, decide_eq_false he, Bool.or_false]))
                have hbq : (z.t == task) = false := by simpa using he
                clear he
                go_wp2
                exact ⟨⟨k + 1, by omega, by go_num, Lib.hid (by rw [HK.out]; exact HP.out.only HD.out.only), Lib.hid (HO.out.trans HD.out.only)⟩, by simp [intOf]; omega⟩
    · obtain rfl : k = m := by omega
      clear hlt hk
      go_wp2
      go_ret
      exact ⟨_, rfl, HP.out.list, HO.out⟩
theorem same_any (v1 v2 : Value) (zs : List Nt) (w : World) (h1 : ListN w v1 zs) (h2 : ListN w v2 zs) (hm : zs.length ≤ 100) :
    Calls Tryd.prog 19 #[v1, v2] w fun e w' => e = .returned (.bool true) ∧ Only Nil w w' := by
  obtain ⟨A1, c1, rfl, hn1⟩ := h1
  obtain ⟨A2, c2, rfl, hn2⟩ := h2
  have H1 := Lib.hid hn1
  have H2 := Lib.hid hn2
  generalize hn : zs.length = n at *
  have HN := Lib.hid hn
  clear hn1 hn2 hn
  go_enter Tryd.func19, Tryd.ntmps19
  go_wp2
  go_loopw [5] (fun i wr => ∃ k : Nat, k ≤ n ∧ i = .int .i64 k ∧ Hid (Drew w wr)) (fun i _ => n - (intOf i).toNat)
  case atStart => exact ⟨0, Nat.zero_le _, rfl, Lib.hid (Drew.refl _)⟩
  case round =>
    obtain ⟨k, hk, rfl, HD⟩ := hrel
    by_cases hlt : k < n
    · obtain ⟨z, hzk⟩ : ∃ z, zs[k]? = some z := ⟨_, List.getElem?_eq_getElem (by rw [HN.out]; exact hlt)⟩
      obtain ⟨b, q, rfl, hb, hat⟩ := (H1.out.only HD.out.only) (by rw [HN.out]; omega)
      obtain ⟨b', q', rfl, hb', hat'⟩ := (H2.out.only HD.out.only) (by rw [HN.out]; omega)
      obtain ⟨f0, f1, f2, f3⟩ := hat k z hzk
      obtain ⟨g0, g1, g2, g3⟩ := hat' k z hzk
      have hq := fun W => (neq_note z.t z.w z.o z.a z.t z.w z.o z.a W).trans (by rw [sameN_iff.2 ⟨rfl, rfl, rfl, rfl⟩])
      clear hat hat' hzk
      go_wp2
      go_quiet (fail)
      go_wp2
      exact ⟨⟨k + 1, by omega, by go_num, Lib.hid (HD.out.trans (Drew.n _ _))⟩, by simp [intOf]; omega⟩
    · obtain rfl : k = n := by omega
      clear hlt hk
      go_wp2
      go_ret
      exact ⟨rfl, HD.out.only⟩
end Go.Proofs.YtakbbabmbhencaaDoor
