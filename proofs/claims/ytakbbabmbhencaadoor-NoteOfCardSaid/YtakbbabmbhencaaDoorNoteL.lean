/- Lists of notes; those picked out. -/
import Derived.Test.YtakbbabmbhencaaDoorNoteCl
import Derived.Laws.AppendOwn
import Derived.OwnWalk
namespace Go.Proofs.YtakbbabmbhencaaDoor
open Go.RowKit
set_option linter.unusedVariables false
set_option linter.unusedSimpArgs false
def flat1 (n : Nt) : List Value := [.int .i64 n.t, .int .i64 n.w, .int .i64 n.o, .int .i64 n.a]
def flat : List Nt → List Value
  | [] => []
  | n :: r => flat1 n ++ flat r
theorem flat_len : ∀ zs, (flat zs).length = zs.length * 4
  | [] => rfl
  | n :: r => by rw [flat, List.length_append, flat_len r, List.length_cons]; show 4 + _ = _; omega
theorem flat_app : ∀ zs ys, flat (zs ++ ys) = flat zs ++ flat ys
  | [], ys => rfl
  | n :: r, ys => by rw [List.cons_append, flat, flat, flat_app r ys, List.append_assoc]
theorem flat_get : ∀ (zs : List Nt) (i : Nat) (n : Nt) (j : Nat), zs[i]? = some n → j < 4 → (flat zs)[i * 4 + j]? = (flat1 n)[j]?
  | [], i, n, j, h, _ => by simp at h
  | m :: r, 0, n, j, h, hj => by
    simp only [List.getElem?_cons_zero, Option.some.injEq] at h
    subst h
    rw [flat, List.getElem?_append_left (by show _ < 4; omega), Nat.zero_mul, Nat.zero_add]
  | m :: r, i + 1, n, j, h, hj => by
    rw [flat, List.getElem?_append_right (by show 4 ≤ _; omega), show (i + 1) * 4 + j - (flat1 m).length = i * 4 + j by show (i + 1) * 4 + j - 4 = _; omega]
    exact flat_get r i n j (by simpa using h) hj
/-- What stands at a note's four cells. -/
structure At4 (w : World) (b q : Nat) (n : Nt) : Prop where
  c0 : w.cell? ⟨b, q, none⟩ = some (.int .i64 n.t)
  c1 : w.cell? ⟨b, q + 1, none⟩ = some (.int .i64 n.w)
  c2 : w.cell? ⟨b, q + 2, none⟩ = some (.int .i64 n.o)
  c3 : w.cell? ⟨b, q + 3, none⟩ = some (.int .i64 n.a)
/-- A slice at A, as long as zs is, reads as these notes. -/
def Notes (w : World) (A : Option Addr) (zs : List Nt) : Prop := 0 < zs.length → ∃ b q, A = some ⟨b, q, none⟩ ∧ b < w.heap.size ∧ ∀ (i : Nat) (n : Nt), zs[i]? = some n → At4 w b (q + i * 4) n
theorem At4.only {w w' : World} {b q : Nat} {n : Nt} (h : At4 w b q n) (ho : Only Nil w w') (hb : b < w.heap.size) : At4 w' b q n :=
  ⟨(ho.cell (p := ⟨b, q, none⟩) hb id).trans h.c0, (ho.cell (p := ⟨b, q + 1, none⟩) hb id).trans h.c1, (ho.cell (p := ⟨b, q + 2, none⟩) hb id).trans h.c2, (ho.cell (p := ⟨b, q + 3, none⟩) hb id).trans h.c3⟩
theorem Notes.only {w w' : World} {A : Option Addr} {zs : List Nt} (h : Notes w A zs) (ho : Only Nil w w') : Notes w' A zs := fun h0 => by
  obtain ⟨b, q, e, hb, hc⟩ := h h0
  exact ⟨b, q, e, Nat.lt_of_lt_of_le hb ho.size, fun i n hi => (hc i n hi).only ho hb⟩
/-- A list of these notes, that the call made. -/
def OwnN (base : Nat) (w : World) (v : Value) (zs : List Nt) : Prop := w.ownsRow base 23 4 v zs.length (flat zs)
theorem OwnN.only {base : Nat} {w w' : World} {v : Value} {zs : List Nt} (h : OwnN base w v zs) (ho : Only Nil w w') : OwnN base w' v zs := own_only h ho (fun _ _ => id)
theorem ownN_nil (base : Nat) (w : World) : OwnN base w (.slice none 0 0) [] := World.ownsRow_nil _ _ _ _
/-- It is a list of these notes. -/
def ListN (w : World) (v : Value) (zs : List Nt) : Prop := ∃ A c, v = .slice A zs.length c ∧ Notes w A zs
theorem ListN.only {w w' : World} {v : Value} {zs : List Nt} (h : ListN w v zs) (ho : Only Nil w w') : ListN w' v zs := by
  obtain ⟨A, c, hv, hn⟩ := h
  exact ⟨A, c, hv, hn.only ho⟩
theorem OwnN.list {base : Nat} {w : World} {v : Value} {zs : List Nt} (h : OwnN base w v zs) : ListN w v zs := by
  rcases h.2 with ⟨rfl, hn⟩ | ⟨g, cap, cur, hv, hb, hg, hc, _⟩
  · obtain rfl := List.eq_nil_of_length_eq_zero hn
    exact ⟨none, 0, rfl, fun h => absurd h (by simp)⟩
  · refine ⟨_, cap, hv, fun _ => ⟨g, 0, rfl, (Array.getElem?_eq_some_iff.1 hg).1, fun i n hi => ?_⟩⟩
    have hcell : ∀ j u, (flat1 n)[j]? = some u → w.cell? ⟨g, 0 + i * 4 + j, none⟩ = some u := fun j u hj => by
      have h1 := World.ownsRow.cells h (g := g) (by rw [hv]; rfl) (i * 4 + j) u (by rw [flat_get zs i n j hi (List.getElem?_eq_some_iff.1 hj).1]; exact hj)
      rwa [add_at, ← Nat.add_assoc] at h1
    exact ⟨hcell 0 _ rfl, hcell 1 _ rfl, hcell 2 _ rfl, hcell 3 _ rfl⟩
theorem infoN : (Tryd.prog.info? 23).map (fun i => (i.zero, i.size, i.bytes)) = some (some (.agg #[.int .i64 0, .int .i64 0, .int .i64 0, .int .i64 0]), 4, 32) := by kernel_rfl
theorem wp_appN {w : World} {ops : Array Oper} {rest : List Oper} {o : Oper} {a : Act} {Q : Exit → Act → World → Prop} (hgd : o.guard = none) (s x : Operand)
    (ho : o.op = .call { callee := .builtin .append, args := #[s, x], argTypes := #[35, 35] })
    (base : Nat) (v : Value) (zs : List Nt) (hs : a.eval s = v) (hown : OwnN base w v zs)
    (g : Nat) (n : Nt) (hx : a.eval x = .slice (some ⟨g, 0, none⟩) 1 1) (hrow : Row w g 23 #[.int .i64 n.t, .int .i64 n.w, .int .i64 n.o, .int .i64 n.a])
    (h1 : zs.length ≤ 1000) (hbase : base ≤ w.heap.size)
    (h : ∀ v' w', OwnN base w' v' (zs ++ [n]) → (∀ w0, Only Nil w0 w → w0.heap.size ≤ base → Only Nil w0 w') → wpList Tryd.prog ops Q rest (a.put o.dst v') w') : wpList Tryd.prog ops Q (o :: rest) a w := by
  obtain ⟨i0, hi, hz0, hz1, hz2⟩ := info_parts infoN
  refine wpList_append_own w hgd s x 35 ho base 23 i0 (.agg #[.int .i64 0, .int .i64 0, .int .i64 0, .int .i64 0]) 4 32 Tryd.underlying35 hi hz0 hz1 hz2 rfl (by decide) v zs.length (flat zs) hs hown ⟨g, 0, none⟩ 1 1 (flat1 n) hx rfl (fun j u hj => ?_) (fun u hu => ?_) (by unfold maxLen; omega) (by omega) hbase (fun v' w' hO hG _ => ?_)
  · rw [add_at, Nat.zero_add]
    exact hrow.cell_ (by rw [← hj]; simp [flat1])
  · unfold flat1 at hu
    simp only [List.mem_cons, List.not_mem_nil, or_false] at hu
    rcases hu with rfl | rfl | rfl | rfl <;> rfl
  · refine h v' w' ?_ (fun w0 h0 hb => h0.grown hG (fun k hk => .inl ?_))
    · unfold OwnN
      rw [flat_app, List.length_append, show flat [n] = flat1 n from List.append_nil _]
      exact hO
    · obtain ⟨hk1, _⟩ := World.ownsRow.lt hown k hk
      omega

/-- Those of the first k notes. -/
def picks (task : Int) (ws : List Int) (zs : List Nt) (k : Nat) : List Nt := (zs.take k).filter (inB task ws)
theorem picks_yes {task : Int} {ws : List Int} {zs : List Nt} {k : Nat} {n : Nt} (h : zs[k]? = some n) (hx : inB task ws n = true) : picks task ws zs (k + 1) = picks task ws zs k ++ [n] := by
  unfold picks
  rw [List.take_add_one, h, List.filter_append]
  simp [hx]
theorem picks_no {task : Int} {ws : List Int} {zs : List Nt} {k : Nat} {n : Nt} (h : zs[k]? = some n) (hx : inB task ws n = false) : picks task ws zs (k + 1) = picks task ws zs k := by
  unfold picks
  rw [List.take_add_one, h, List.filter_append]
  simp [hx]
theorem picks_len (task : Int) (ws : List Int) (zs : List Nt) (k : Nat) : (picks task ws zs k).length ≤ k := by
  unfold picks
  exact Nat.le_trans (List.length_filter_le _ _) (by rw [List.length_take]; omega)

set_option maxRecDepth 100000 in
set_option maxHeartbeats 1000000 in
theorem pick_notes (A : Option Addr) (m cap : Nat) (zs : List Nt) (task : Int) (b1 b2 : Nat) (A2 : Option Addr) (n cap2 : Nat) (xs : List Int) (w : World) (hz : zs.length = m) (hN : Notes w A zs) (hm1 : m ≤ 100)
    (h1 : w.cell? ⟨b1, 0, none⟩ = some (.int .i64 task)) (h2 : w.cell? ⟨b2, 0, none⟩ = some (.slice A2 n cap2)) (hn : xs.length = n) (hx : Ints w w.heap.size .i64 A2 xs) (hm : n ≤ 100) :
    Calls Tryd.prog 37 #[.slice A m cap, .func (.func 38) #[] #[.pointer (some ⟨b1, 0, none⟩), .pointer (some ⟨b2, 0, none⟩)]] w fun e w' => ∃ v', e = .returned v' ∧ OwnN w.heap.size w' v' (picks task xs zs m) ∧ Only Nil w w' := by
  have HZ := Lib.hid hz
  have HN := Lib.hid hN
  have HCL := Lib.hid (fun t q o a W (ho : Only Nil w W) => cl_any t q o a task b1 b2 A2 n cap2 xs W ((ho.cell (World.block_lt_of_cell? w _ h1) id).trans h1) ((ho.cell (World.block_lt_of_cell? w _ h2) id).trans h2) hn ((hx.only ho (Nat.le_refl _) (fun _ _ => id)).more ho.size) hm)
  clear hz hN h1 h2 hn hx hm
  go_enter Tryd.func37, Tryd.ntmps37
  go_wp2
  go_loopw [5, 10] (fun p i wr => ∃ k : Nat, k ≤ m ∧ i = .int .i64 k ∧ Hid (OwnN w.heap.size wr p (picks task xs zs k)) ∧ Hid (Only Nil w wr)) (fun _ i _ => m - (intOf i).toNat)
  case atStart => exact ⟨0, Nat.zero_le _, rfl, Lib.hid (ownN_nil _ _), Lib.hid (Only.refl _ _)⟩
  case round =>
    rename_i p i
    obtain ⟨k, hk, rfl, HP, HO⟩ := hrel
    by_cases hlt : k < m
    · obtain ⟨z, hzk⟩ : ∃ z, zs[k]? = some z := ⟨_, List.getElem?_eq_getElem (by rw [HZ.out]; exact hlt)⟩
      have HZK := Lib.hid hzk
      obtain ⟨b, q, rfl, hb, hat⟩ := (HN.out.only HO.out) (by rw [HZ.out]; omega)
      obtain ⟨f0, f1, f2, f3⟩ := hat k z hzk
      clear hat hzk
      have HL := Lib.hid (show (picks task xs zs k).length ≤ 1000 by have := picks_len task xs zs k; omega)
      have HO1 := Lib.hid (HO.out.alloc (.cells #[.int .i64 z.t, .int .i64 z.w, .int .i64 z.o, .int .i64 z.a] 23))
      have HR1 := Lib.hid (Row.new wr 23 #[.int .i64 z.t, .int .i64 z.w, .int .i64 z.o, .int .i64 z.a])
      have HP1 := Lib.hid (HP.out.only ((Only.refl _ _).alloc (.cells #[.int .i64 z.t, .int .i64 z.w, .int .i64 z.o, .int .i64 z.a] 23)))
      cases hin : inB task xs z
      · have HK := Lib.hid (picks_no HZK.out hin)
        have HIN := Lib.hid hin
        clear hin
        go_wp2_with fail
        refine (HCL.out _ _ _ _ _ HO1.out).mono ?_
        rw [show inB task xs ⟨z.t, z.w, z.o, z.a⟩ = false from HIN.out]
        rintro e w2 ⟨rfl, hO⟩
        have HO2 := Lib.hid (HO1.out.trans hO)
        have HP2 := Lib.hid (HP1.out.only hO)
        clear hO f0 f1 f2 f3
        go_wp2
        exact ⟨⟨k + 1, by omega, by go_num, Lib.hid (by rw [HK.out]; exact HP2.out), HO2⟩, by simp [intOf]; omega⟩
      · have HK := Lib.hid (picks_yes HZK.out hin)
        have HIN := Lib.hid hin
        clear hin
        go_wp2_with fail
        refine (HCL.out _ _ _ _ _ HO1.out).mono ?_
        rw [show inB task xs ⟨z.t, z.w, z.o, z.a⟩ = true from HIN.out]
        rintro e w2 ⟨rfl, hO⟩
        have HO2 := Lib.hid (HO1.out.trans hO)
        have HP2 := Lib.hid (HP1.out.only hO)
        have HR2 := Lib.hid (HR1.out.only hO id)
        clear hO f0 f1 f2 f3
        have c0 : w2.cell? ⟨wr.heap.size, 0, none⟩ = some (.int .i64 z.t) := HR2.out.cell_ (i := 0) rfl
        have c1 : w2.cell? ⟨wr.heap.size, 1, none⟩ = some (.int .i64 z.w) := HR2.out.cell_ (i := 1) rfl
        have c2 : w2.cell? ⟨wr.heap.size, 2, none⟩ = some (.int .i64 z.o) := HR2.out.cell_ (i := 2) rfl
        have c3 : w2.cell? ⟨wr.heap.size, 3, none⟩ = some (.int .i64 z.a) := HR2.out.cell_ (i := 3) rfl
        go_wp2_with (at_builtin; refine wp_appN rfl (.tmp 17) (.tmp 19) rfl w.heap.size _ _ rfl (HP2.out.only ((Only.refl _ _).alloc _)) _ z rfl (Row.new _ _ _) HL.out (by have h1 := HO2.out.size; simp; omega) ?_)
        intro V4 W4 hown hon
        have HO4 := Lib.hid (hon w (HO2.out.alloc _) (Nat.le_refl _))
        have HS4 := Lib.hid (show OwnN w.heap.size W4 V4 (picks task xs zs (k + 1)) by rw [HK.out]; exact hown)
        clear hown hon
        go_wp2
        exact ⟨⟨k + 1, by omega, by go_num, HS4, HO4⟩, by simp [intOf]; omega⟩
    · obtain rfl : k = m := by omega
      clear hlt hk
      go_wp2
      go_ret
      exact ⟨_, rfl, HP.out, HO.out⟩
end Go.Proofs.YtakbbabmbhencaaDoor
