/- script.Parse. -/
import Derived.Test.YtdneicbbnbbffaaDoorScIter
import Derived.Test.YtdneicbbnbbffaaDoorScPick
import Derived.Test.YtdneicbbnbbffaaDoorScK
import Derived.RangeFuncBox
import Derived.Maps.AppendAt
namespace Go.Proofs.YtdneicbbnbbffaaDoor
open Go.RowKit Go.Shelf
set_option linter.unusedVariables false
set_option linter.unusedSimpArgs false
attribute [local go_sem] Oper.semAt_some
/-- The lines that came. -/
def linesOf (pre : List (Nat × Bs)) : List Bs := pre.map fun x => sh x.2
theorem linesOf_app (pre : List (Nat × Bs)) (x : Nat × Bs) : linesOf (pre ++ [x]) = linesOf pre ++ [sh x.2] := by simp [linesOf]
theorem numb_lines : ∀ (k : Nat) (ls : List Bs), (∀ l ∈ ls, l.length ≤ 100000) → linesOf (numb k ls) = ls
  | _, [], _ => rfl
  | k, l :: ls, h => by
    have ih := numb_lines (k + 1) ls (fun x hx => h x (List.mem_cons_of_mem _ hx))
    unfold linesOf at ih ⊢
    rw [numb, List.map_cons, ih, sh_id (h l (by simp))]
theorem numb_split : ∀ (ls : List Bs) (k : Nat) (ini : List (Nat × Bs)) (last : Nat × Bs) (suf : List (Nat × Bs)), (∀ l ∈ ls, l.length ≤ 100000) → ini ++ last :: suf = numb k ls → ls = linesOf ini ++ sh last.2 :: linesOf suf ∧ last.1 = k + ini.length
  | [], k, ini, last, suf, _, h => by simp [numb] at h
  | l :: ls, k, [], last, suf, hs, h => by
    rw [numb, List.nil_append, List.cons.injEq] at h
    obtain ⟨rfl, rfl⟩ := h
    refine ⟨?_, by simp⟩
    rw [numb_lines _ _ (fun x hx => hs x (List.mem_cons_of_mem _ hx)), sh_id (hs l (by simp))]; rfl
  | l :: ls, k, x :: ini, last, suf, hs, h => by
    rw [numb, List.cons_append, List.cons.injEq] at h
    obtain ⟨rfl, h⟩ := h
    obtain ⟨e1, e2⟩ := numb_split ls (k + 1) ini last suf (fun x hx => hs x (List.mem_cons_of_mem _ hx)) h
    refine ⟨?_, by rw [e2]; simp; omega⟩
    show _ = sh l :: linesOf ini ++ _
    rw [sh_id (hs l (by simp)), List.cons_append, ← e1]
theorem picksOf_len : ∀ ls : List Bs, (picksOf ls).length ≤ ls.length
  | [] => Nat.le_refl _
  | l :: ls => by
    have := picksOf_len ls
    unfold picksOf at this ⊢
    rw [List.flatMap_cons, List.length_append, List.length_cons]
    have h1 : (pkOf (lineR l)).length ≤ 1 := by unfold pkOf; split <;> simp
    omega
theorem say_err (ws : List Bs) (e : Int) (h : sayL ws = .bad e) : e = 4 ∨ e = 5 := by
  unfold sayL at h
  split at h
  · cases h
  · split at h
    · cases h
    · split at h
      · cases h; exact .inl rfl
      · split at h
        · cases h
        · split at h
          · cases h; exact .inr rfl
          · split at h
            · cases h
            · cases h; exact .inl rfl
theorem bad_err {l : Bs} {e : Int} (h : lineR l = .bad e) : e = 4 ∨ e = 5 := say_err _ _ h
theorem line_not_quiet {l : Bs} (h : quietB l = false) : lineR l ≠ .quiet := by
  rw [line_form h]
  split
  · simp
  · split
    · simp
    · split <;> simp
theorem prsT_good {t : Bs} (h : Good (lineL t)) : prsT t = (picksOf (lineL t), 0, 0) := by
  have e := prsL_app (lineL t) [] 1 [] h
  rw [List.append_nil] at e
  rw [prsT, e]; rfl
theorem prsT_bad {t : Bs} {ini suf : List Bs} {y : Bs} {er : Int} (hs : lineL t = ini ++ y :: suf) (h : Good ini) (hy : lineR y = .bad er) : prsT t = ([], ((1 + ini.length : Nat) : Int), er) := by
  rw [prsT, hs, prsL_app ini _ 1 [] h, prsL, hy]
/-- Between two rounds. -/
structure PkI (w : World) (b0 b1 b2 b3 : Nat) (pre : List (Nat × Bs)) (W : World) : Prop where
  box : ∃ v, Boxed W b3 23 v ∧ OwnK w.heap.size W v (picksOf (linesOf pre))
  r0 : Boxed W b0 23 (.slice none 0 0)
  r1 : Boxed W b1 3 (.int .i64 0)
  r2 : Boxed W b2 24 (.int .i64 0)
  good : Good (linesOf pre)
  bel : Below w.heap.size w W
/-- A round has told of a wrong line. -/
structure PkX (w : World) (b0 b1 b2 : Nat) (c : Code) (pre : List (Nat × Bs)) (W : World) : Prop where
  ret : c = .ret
  bad : ∃ ini last er, pre = ini ++ [last] ∧ Good (linesOf ini) ∧ lineR (sh last.2) = .bad er ∧
    Boxed W b0 23 (.slice none 0 0) ∧ Boxed W b1 3 (.int .i64 last.1) ∧ Boxed W b2 24 (.int .i64 er)
  bel : Below w.heap.size w W
theorem boxed_kept {W W' : World} {row : Option Nat} {B : Nat} {t : TypeId} {v : Value} (h : Boxed W B t v) (hg : W.grownBy W' row) (hr : ∀ r, row = some r → ∃ o : Obj, W.heap[r]? = some o ∧ o.isCells = false) : Boxed W' B t v :=
  h.kept hg (fun e => by obtain ⟨o, ho, hc⟩ := hr B e.symm; rw [show W.heap[B]? = _ from h] at ho; cases ho; cases hc)
theorem OwnK.kept {base : Nat} {W W' : World} {row : Option Nat} {v : Value} {ps : List (Int × Int)} (h : OwnK base W v ps) (hg : W.grownBy W' row) (hr : ∀ r, row = some r → ∃ o : Obj, W.heap[r]? = some o ∧ o.isCells = false) : OwnK base W' v ps := by
  refine World.ownsRow.kept h hg ?_
  rcases h.2 with ⟨rfl, _⟩ | ⟨g, cap, cur, rfl, _, hgb, _⟩
  · exact .inl rfl
  · refine .inr fun e' => ?_
    obtain ⟨o, ho, hc⟩ := hr g (by simpa [Value.ownBlock] using e'.symm)
    rw [hgb] at ho; cases ho; cases hc
theorem Only.others {W W' : World} (h : Only Nil W W') : KeepsOthers W W' := KeepsOthers.of_grownBy h.grownBy (fun j o e _ => by cases e)
theorem only_box {W W' : World} {B : Nat} {t : TypeId} {v : Value} (h : Boxed W B t v) (ho : Only Nil W W') : Boxed W' B t v := h.kept ho.grownBy (by simp)
theorem OwnK.only {base : Nat} {W W' : World} {v : Value} {ps : List (Int × Int)} (h : OwnK base W v ps) (ho : Only Nil W W') : OwnK base W' v ps := h.kept ho.grownBy (fun r e => by cases e)
theorem PkI.keep {w : World} {b0 b1 b2 b3 : Nat} {pre : List (Nat × Bs)} {W W' : World} (h : PkI w b0 b1 b2 b3 pre W) (ho : Only Nil W W') : PkI w b0 b1 b2 b3 pre W' := by
  obtain ⟨v, hv, hr⟩ := h.box
  exact ⟨⟨v, only_box hv ho, hr.only ho⟩, only_box h.r0 ho, only_box h.r1 ho, only_box h.r2 ho, h.good, h.bel.trans (ho.bel h.bel.size)⟩
theorem good_app {ls : List Bs} {y : Bs} (h : Good ls) (hy : ∀ e, lineR y ≠ .bad e) : Good (ls ++ [y]) := fun l hl => by
  rcases List.mem_append.1 hl with h' | h'
  · exact h l h'
  · rw [List.mem_singleton.1 h']; exact hy
theorem picksOf_app (ls : List Bs) (y : Bs) : picksOf (ls ++ [y]) = picksOf ls ++ pkOf (lineR y) := by simp [picksOf]
theorem PkI.quiet {w : World} {b0 b1 b2 b3 : Nat} {pre : List (Nat × Bs)} {x : Nat × Bs} {y : Bs} {W : World} (h : PkI w b0 b1 b2 b3 pre W) (e : linesOf (pre ++ [x]) = linesOf pre ++ [y]) (hq : lineR y = .quiet) : PkI w b0 b1 b2 b3 (pre ++ [x]) W := by
  obtain ⟨v, hv, hr⟩ := h.box
  refine ⟨⟨v, hv, ?_⟩, h.r0, h.r1, h.r2, ?_, h.bel⟩
  · rw [e, picksOf_app, hq]; simpa [pkOf] using hr
  · rw [e]; exact good_app h.good (fun _ hb => by rw [hq] at hb; cases hb)
theorem two_new (W : World) (t : TypeId) (a b : Value) : ∀ (j : Nat) (u : Value), [a, b][j]? = some u → (W.alloc (.cells #[a, b] t)).cell? ((⟨W.heap.size, 0, none⟩ : Addr).add j) = some u := fun j u h => by
  rw [add_at, Nat.zero_add]
  exact (Row.new W t #[a, b]).cell_ (by rw [← h]; simp)
theorem two_new2 (W : World) (o : Obj) (t : TypeId) (a b : Value) : ∀ (j : Nat) (u : Value), [a, b][j]? = some u → ((W.alloc o).alloc (.cells #[a, b] t)).cell? ((⟨W.heap.size + 1, 0, none⟩ : Addr).add j) = some u := by
  rw [← World.size_alloc W o]; exact two_new (W.alloc o) t a b
theorem pkI_own (w : World) (b0 b1 b2 b3 B : Nat) (hB : w.heap.size ≤ B) : OwnFrom B (PkI w b0 b1 b2 b3) := fun s X Y row h hg hr => by
  have hr' : ∀ r, row = some r → ∃ o : Obj, X.heap[r]? = some o ∧ o.isCells = false := fun r e => (hr r e).2
  obtain ⟨v, hv, ho⟩ := h.box
  exact ⟨⟨v, boxed_kept hv hg hr', ho.kept hg hr'⟩, boxed_kept h.r0 hg hr', boxed_kept h.r1 hg hr', boxed_kept h.r2 hg hr', h.good, ownFrom_below (Nat.le_refl _) hB s X Y row h.bel hg hr⟩
theorem pkX_own (w : World) (b0 b1 b2 B : Nat) (hB : w.heap.size ≤ B) (c : Code) : OwnFrom B (PkX w b0 b1 b2 c) := fun s X Y row h hg hr => by
  have hr' : ∀ r, row = some r → ∃ o : Obj, X.heap[r]? = some o ∧ o.isCells = false := fun r e => (hr r e).2
  obtain ⟨ini, last, er, e1, e2, e3, b0, b1, b2⟩ := h.bad
  exact ⟨h.ret, ⟨ini, last, er, e1, e2, e3, boxed_kept b0 hg hr', boxed_kept b1 hg hr', boxed_kept b2 hg hr'⟩, ownFrom_below (Nat.le_refl _) hB s X Y row h.bel hg hr⟩
/-- What Parse tells. -/
def Parsed (r : PR) (w : World) (e : Ending) (w' : World) : Prop := ∃ v, e = .returned (.tuple #[v, .int .i64 r.2.1, .int .i64 r.2.2]) ∧ OwnK w.heap.size w' v r.1 ∧ Only Nil w w'
set_option maxRecDepth 100000 in
set_option maxHeartbeats 2000000 in
theorem parse_any (t : Bs) (w : World) (ht : t.length ≤ 100000) (hL : LiesS w) : Calls Tryd.prog 8 #[.string (bs t)] w (Parsed (prsT t) w) := by
  refine (callsIn_wide (n := 3)).1 ?_
  have HL := Lib.hid hL
  obtain ⟨i0, hi, hz0, hz1, hz2⟩ := info_parts infoPk
  have HLS := Lib.hid (fun W => lines_any t W)
  clear hL
  refine callsIn_of_wp_marks Tryd.func8 rfl trivial ?_ rfl
  simp only [Tryd.ntmps8, List.size_toArray, List.length_cons, List.length_nil, Nat.reduceAdd, Nat.reduceSub, Array.replicate_succ, Array.replicate_zero, List.push_toArray, List.append_toArray, List.nil_append, List.cons_append]
  gi_wp2_with (refine ⟨trivial, ?_⟩; gi_at_call 16; refine (callsIn_wide.2 (HLS.out _)).mono ?_; rintro e w2 ⟨rfl, rfl⟩)
  have X0 := Boxed.new w 23 (.slice none 0 0)
  have X1 := Boxed.new (w.alloc (.cells #[.slice none 0 0] 23)) 3 (.int .i64 0)
  have X2 := Boxed.new ((w.alloc (.cells #[.slice none 0 0] 23)).alloc (.cells #[.int .i64 0] 3)) 24 (.int .i64 0)
  have X3 := Boxed.new (((w.alloc (.cells #[.slice none 0 0] 23)).alloc (.cells #[.int .i64 0] 3)).alloc (.cells #[.int .i64 0] 24)) 23 (.slice none 0 0)
  have X4 := Boxed.new ((((w.alloc (.cells #[.slice none 0 0] 23)).alloc (.cells #[.int .i64 0] 3)).alloc (.cells #[.int .i64 0] 24)).alloc (.cells #[.slice none 0 0] 23)) 9 (.string (bs t))
  have X0 := (((X0.alloc (.cells #[.int .i64 0] 3)).alloc (.cells #[.int .i64 0] 24)).alloc (.cells #[.slice none 0 0] 23)).alloc (.cells #[.string (bs t)] 9)
  have X1 := ((X1.alloc (.cells #[.int .i64 0] 24)).alloc (.cells #[.slice none 0 0] 23)).alloc (.cells #[.string (bs t)] 9)
  have X2 := (X2.alloc (.cells #[.slice none 0 0] 23)).alloc (.cells #[.string (bs t)] 9)
  have X3 := X3.alloc (.cells #[.string (bs t)] 9)
  have hB0 : Below w.heap.size w (((((w.alloc (.cells #[.slice none 0 0] 23)).alloc (.cells #[.int .i64 0] 3)).alloc (.cells #[.int .i64 0] 24)).alloc (.cells #[.slice none 0 0] 23)).alloc (.cells #[.string (bs t)] 9)) :=
    ((((Only.refl Nil w).alloc _).alloc _).alloc _ |>.alloc _ |>.alloc _).bel (Nat.le_refl _)
  simp only [World.size_alloc] at X1 X2 X3 X4
  generalize (((((w.alloc (.cells #[.slice none 0 0] 23)).alloc (.cells #[.int .i64 0] 3)).alloc (.cells #[.int .i64 0] 24)).alloc (.cells #[.slice none 0 0] 23)).alloc (.cells #[.string (bs t)] 9)) = W0 at *
  have D01 : w.heap.size ≠ w.heap.size + 1 ∧ w.heap.size ≠ w.heap.size + 1 + 1 ∧ w.heap.size ≠ w.heap.size + 1 + 1 + 1 := by omega
  have D12 : w.heap.size + 1 ≠ w.heap.size + 1 + 1 ∧ w.heap.size + 1 ≠ w.heap.size + 1 + 1 + 1 ∧ w.heap.size + 1 + 1 ≠ w.heap.size + 1 + 1 + 1 := by omega
  have DB : w.heap.size ≤ w.heap.size + 1 ∧ w.heap.size ≤ w.heap.size + 1 + 1 ∧ w.heap.size ≤ w.heap.size + 1 + 1 + 1 ∧ w.heap.size ≤ w.heap.size + 1 + 1 + 1 + 1 := by omega
  have E01 := Lib.hid D01
  have E12 := Lib.hid D12
  have EB := Lib.hid DB
  clear D01 D12 DB
  have hW0 : w.heap.size + 1 + 1 + 1 + 1 < W0.heap.size := X4.lt
  have HB0 := Lib.hid hB0
  generalize hb4 : w.heap.size + 1 + 1 + 1 + 1 = b4 at *
  generalize hb3 : w.heap.size + 1 + 1 + 1 = b3 at *
  generalize hb2 : w.heap.size + 1 + 1 = b2 at *
  generalize hb1 : w.heap.size + 1 = b1 at *
  clear hb1 hb2 hb3 hb4 HLS hB0
  refine wpIn_rangeFunc_ownG rfl (by omega) (gf := 30) (lb := #[.pointer (some ⟨b4, 0, none⟩)]) rfl trivial (enters_of Tryd.func30 (by kernel_rfl) rfl)
    (lines_stops (3 - 1) b4 t w W0 HL.out (by omega) ht HB0.out X4.cell) belowK_t (belowK_b HB0.out.size) (Below.refl _ _) (fun _ => rfl)
    (PkI w w.heap.size b1 b2 b3) (PkX w w.heap.size b1 b2) (pkI_own w _ b1 b2 b3 _ HB0.out.size) (pkX_own w _ b1 b2 _ HB0.out.size)
    ⟨⟨_, X3, World.ownsRow_nil _ _ _ _⟩, X0, X1, X2, fun l hl => by simp [linesOf] at hl, HB0.out⟩
    (fun x => { tmps := #[.string (bs t), undef, .pointer (some ⟨w.heap.size, 0, none⟩), .pointer (some ⟨b1, 0, none⟩), .pointer (some ⟨b2, 0, none⟩), .pointer (some ⟨b3, 0, none⟩), .int .i64 (x.1 : Int), .string (bs (sh x.2)), undef, undef, .string (bs t), .func (.func 30) #[] #[.pointer (some ⟨b4, 0, none⟩)], .int .i64 (x.1 : Int), .string (bs (sh x.2)), undef, undef, undef, undef, undef, undef, undef, undef, undef, undef, undef, undef, undef, undef, undef, undef, undef, undef, undef, undef, undef, undef, undef], defers := [] }) ?assign ?body ?done ?stop
  case assign =>
    intro l x W K hK
    gi_wp2
    exact hK
  case body =>
    rintro l pre x W h hlt
    have H := Lib.hid h
    have HLW := Lib.hid (HL.out.only (bel_only h.bel))
    obtain ⟨v, hv, hrow⟩ := h.box
    have HX := Lib.hid (sh_len x.2)
    have HRO := Lib.hid hrow
    have HV := Lib.hid hv
    clear h hrow hv
    have HLN := Lib.hid (linesOf_app pre x)
    have HBD := Lib.hid (fun e (h : lineR (sh x.2) = .bad e) => bad_err h)
    have HLQ := Lib.hid (fun (h : quietB (sh x.2) = true) => line_quiet h)
    have HLNQ := Lib.hid (fun (h : quietB (sh x.2) = false) => line_not_quiet h)
    have HCNT := Lib.hid (Nat.le_trans (picksOf_len (linesOf pre)) (show (linesOf pre).length ≤ 100000 by rw [linesOf, List.length_map]; omega))
    have hnq : quietB (sh x.2) = false → Hid (∀ W', Only Nil W W' → Calls Tryd.prog 18 #[.string (bs (sh x.2))] W' fun e w' => e = .returned (pickV (lineR (sh x.2))) ∧ Only Nil W' w') := fun hq => Lib.hid fun W' ho => pick_any (sh x.2) W' HX.out hq (HLW.out.only ho)
    have HQ := Lib.hid (quiet_any (sh x.2) W HX.out HLW.out)
    clear X0 X1 X2 X3 X4 hW0
    generalize hy : sh x.2 = y at *
    have HY := Lib.hid hy
    clear hy
    obtain ⟨av, cv, rfl⟩ := HRO.out.shape
    cases hq : quietB y with
    | true =>
      rw [hq] at HQ
      have HE := Lib.hid (HLQ.out hq)
      clear hnq hq
      gi_wp2_with (refine ⟨trivial, ?_⟩; gi_at_call 17; refine (CallsIn.inRound l (callsIn_wide.2 HQ.out)).mono ?_; rintro e w2 ⟨rfl, hO⟩; have HO2 := Lib.hid hO; clear hO HQ)
      exact ⟨HO2.out.others.from _, HO2.out.bel H.out.bel.size, (H.out.keep HO2.out).quiet HLN.out HE.out⟩
    | false =>
      rw [hq] at HQ
      have HP := hnq hq
      have HE := Lib.hid (HLNQ.out hq)
      clear hnq hq
      cases hl : lineR y with
      | quiet => exact absurd hl HE.out
      | bad er =>
        rw [hl] at HP
        unfold pickV at HP
        simp only at HP
        have he := HBD.out _ hl
        have HL2 := Lib.hid hl
        clear hl
        obtain ⟨n1, n2, _⟩ := E01.out
        obtain ⟨n3, _, _⟩ := E12.out
        rcases he with rfl | rfl
        · skip
          gi_wp2_with (first
            | (refine ⟨trivial, ?_⟩; gi_at_call 17; refine (CallsIn.inRound l (callsIn_wide.2 HQ.out)).mono ?_; rintro e w2 ⟨rfl, hO⟩; have HO2 := Lib.hid hO; clear hO HQ)
            | (refine ⟨trivial, ?_⟩; gi_at_call 18; refine (CallsIn.inRound l (callsIn_wide.2 (HP.out _ HO2.out))).mono ?_; rintro e w3 ⟨rfl, hO⟩; have HO3 := Lib.hid (HO2.out.trans hO); clear hO HO2; have Q0 := only_box H.out.r0 (HO3.out.alloc (.cells #[.int .i64 0, .int .i64 0] 42)); have Q1 := only_box H.out.r1 (HO3.out.alloc (.cells #[.int .i64 0, .int .i64 0] 42)); have Q2 := only_box H.out.r2 (HO3.out.alloc (.cells #[.int .i64 0, .int .i64 0] 42)); have k0 := Q0.cell; have k1 := Q1.cell; have k2 := Q2.cell; have f0 := Q0.frozen; have f1 := Q1.frozen; have f2 := Q2.frozen; have HQ0 := Lib.hid Q0; have HQ1 := Lib.hid Q1; have HQ2 := Lib.hid Q2; clear Q0 Q1 Q2))
          refine ⟨((((HO3.out.alloc _).others.trans (KeepsOthers.setCell _ _ _)).trans (KeepsOthers.setCell _ _ _)).trans (KeepsOthers.setCell _ _ _)).from _, rfl, ⟨pre, x, 4, rfl, H.out.good, by rw [HY.out]; exact HL2.out, ((HQ0.out.set _).other n1 _).other n2 _, ((HQ1.out.other n1.symm _).set _).other n3 _, ((HQ2.out.other n2.symm _).other n3.symm _).set _⟩, ?_⟩
          exact (((H.out.bel.trans ((HO3.out.alloc _).bel H.out.bel.size)).setCell (p := ⟨w.heap.size, 0, none⟩) (Nat.le_refl _) _).setCell (p := ⟨b1, 0, none⟩) EB.out.1 _).setCell (p := ⟨b2, 0, none⟩) EB.out.2.1 _
        · skip
          gi_wp2_with (first
            | (refine ⟨trivial, ?_⟩; gi_at_call 17; refine (CallsIn.inRound l (callsIn_wide.2 HQ.out)).mono ?_; rintro e w2 ⟨rfl, hO⟩; have HO2 := Lib.hid hO; clear hO HQ)
            | (refine ⟨trivial, ?_⟩; gi_at_call 18; refine (CallsIn.inRound l (callsIn_wide.2 (HP.out _ HO2.out))).mono ?_; rintro e w3 ⟨rfl, hO⟩; have HO3 := Lib.hid (HO2.out.trans hO); clear hO HO2; have Q0 := only_box H.out.r0 (HO3.out.alloc (.cells #[.int .i64 0, .int .i64 0] 42)); have Q1 := only_box H.out.r1 (HO3.out.alloc (.cells #[.int .i64 0, .int .i64 0] 42)); have Q2 := only_box H.out.r2 (HO3.out.alloc (.cells #[.int .i64 0, .int .i64 0] 42)); have k0 := Q0.cell; have k1 := Q1.cell; have k2 := Q2.cell; have f0 := Q0.frozen; have f1 := Q1.frozen; have f2 := Q2.frozen; have HQ0 := Lib.hid Q0; have HQ1 := Lib.hid Q1; have HQ2 := Lib.hid Q2; clear Q0 Q1 Q2))
          refine ⟨((((HO3.out.alloc _).others.trans (KeepsOthers.setCell _ _ _)).trans (KeepsOthers.setCell _ _ _)).trans (KeepsOthers.setCell _ _ _)).from _, rfl, ⟨pre, x, 5, rfl, H.out.good, by rw [HY.out]; exact HL2.out, ((HQ0.out.set _).other n1 _).other n2 _, ((HQ1.out.other n1.symm _).set _).other n3 _, ((HQ2.out.other n2.symm _).other n3.symm _).set _⟩, ?_⟩
          exact (((H.out.bel.trans ((HO3.out.alloc _).bel H.out.bel.size)).setCell (p := ⟨w.heap.size, 0, none⟩) (Nat.le_refl _) _).setCell (p := ⟨b1, 0, none⟩) EB.out.1 _).setCell (p := ⟨b2, 0, none⟩) EB.out.2.1 _
      | pick t o =>
        rw [hl] at HP
        unfold pickV at HP
        simp only at HP
        have HL2 := Lib.hid hl
        clear hl
        have hcn : ¬ ((picksOf (linesOf pre)).length : Int) = 1048576 := by have := HCNT.out; omega
        have hcb : (((picksOf (linesOf pre)).length : Int) == 1048576) = false := by simp [hcn]
        gi_wp2_with (first
          | (refine ⟨trivial, ?_⟩; gi_at_call 17; refine (CallsIn.inRound l (callsIn_wide.2 HQ.out)).mono ?_; rintro e w2 ⟨rfl, hO⟩; have HO2 := Lib.hid hO; clear hO HQ)
          | (refine ⟨trivial, ?_⟩; gi_at_call 18; refine (CallsIn.inRound l (callsIn_wide.2 (HP.out _ HO2.out))).mono ?_; rintro e w3 ⟨rfl, hO⟩; have HO3 := Lib.hid (HO2.out.trans hO); clear hO HO2; have hO4 := HO3.out.alloc (.cells #[.int .i64 t, .int .i64 o] 42); have k3 := (only_box HV.out hO4).cell; have f3 := (only_box HV.out hO4).frozen; have HO4 := Lib.hid hO4; have HB4 := Lib.hid (H.out.bel.trans (hO4.bel H.out.bel.size)); have HR4 := Lib.hid (HRO.out.only hO4); have HV4 := Lib.hid (only_box HV.out hO4); clear hO4)
          | (gi_at_builtin; refine wpListIn_append_own _ rfl _ _ 23 rfl w.heap.size 42 i0 (.agg #[.int .i64 0, .int .i64 0]) 2 16 Tryd.underlying23 hi hz0 hz1 hz2 rfl (by decide) _ _ _ rfl (World.ownsRow.alloc HR4.out _) ⟨w3.heap.size + 1, 0, none⟩ 1 1 [.int .i64 t, .int .i64 o] rfl rfl (two_new2 _ _ _ _ _) (by simp [Value.oneCell']) (by have := HCNT.out; unfold maxLen; omega) (by have := HCNT.out; omega) (by have := HB4.out.size; simp only [World.size_alloc] at this ⊢; omega) ?_; intro v' w1 hown' hgrow _; obtain ⟨g', cap', rfl⟩ := ownsRow_succ hown'; obtain ⟨hv1, hv2, hr2, hk2, hb2⟩ := HV4.out.appended (by decide) HR4.out HB4.out.size EB.out.2.2.1 hown' hgrow; have hc1 := hv1.cell; have hf1 := hv1.frozen; have HG1 := Lib.hid hgrow; have HV1 := Lib.hid (And.intro hv2 hr2); have HK1 := Lib.hid (And.intro hk2 hb2); clear hgrow hv2 hr2 hk2 hb2 hown' hv1))
        have m0 := ((only_box H.out.r0 HO4.out).alloc (.cells #[.int .i64 t, .int .i64 o] 42)).kept HG1.out ((only_box H.out.r0 HO4.out).not_row (by decide) HR4.out)
        have m1 := ((only_box H.out.r1 HO4.out).alloc (.cells #[.int .i64 t, .int .i64 o] 42)).kept HG1.out ((only_box H.out.r1 HO4.out).not_row (by decide) HR4.out)
        have m2 := ((only_box H.out.r2 HO4.out).alloc (.cells #[.int .i64 t, .int .i64 o] 42)).kept HG1.out ((only_box H.out.r2 HO4.out).not_row (by decide) HR4.out)
        refine ⟨(HO4.out.others.trans HK1.out.1).from _, (HO4.out.bel H.out.bel.size).trans HK1.out.2, ⟨_, HV1.out.1, ?_⟩, m0.other E01.out.2.2 _, m1.other E12.out.2.1 _, m2.other E12.out.2.2 _, ?_, HB4.out.trans HK1.out.2⟩
        · rw [HLN.out, picksOf_app, HL2.out, show pkOf (LR.pick t o) = [(t, o)] from rfl]
          unfold OwnK
          rw [flatP_app, List.length_append]
          exact HV1.out.2
        · rw [HLN.out]; exact good_app H.out.good (by rw [HL2.out]; intro e h; cases h)
  case done =>
    rintro D ys W hD rfl h hK
    obtain ⟨v, hv, hrow⟩ := h.box
    have H := Lib.hid h
    have k0 := h.r0.cell
    have k1 := h.r1.cell
    have k2 := h.r2.cell
    have k3 := hv.cell
    have f0 := h.r0.frozen
    have f1 := h.r1.frozen
    have f2 := h.r2.frozen
    have HRO := Lib.hid hrow
    have HV := Lib.hid hv
    obtain ⟨av, cv, rfl⟩ := hrow.shape
    clear hrow hv h X0 X1 X2 X3 X4 hW0
    obtain ⟨n1, n2, _⟩ := E01.out
    obtain ⟨n3, _, _⟩ := E12.out
    gi_wp2
    have hK' := (((KeepsOthers.setCell W ⟨w.heap.size, 0, none⟩ (.slice av (picksOf (linesOf (numb 1 (lineL t)))).length cv)).trans (KeepsOthers.setCell _ ⟨b1, 0, none⟩ (.int .i64 0))).trans (KeepsOthers.setCell _ ⟨b2, 0, none⟩ (.int .i64 0))).same D _ hK rfl
    have g0 := ((H.out.r0.set (.slice av (picksOf (linesOf (numb 1 (lineL t)))).length cv)).other n1 (.int .i64 0)).other n2 (.int .i64 0)
    have g1 := ((H.out.r1.other n1.symm (.slice av (picksOf (linesOf (numb 1 (lineL t)))).length cv)).set (.int .i64 0)).other n3 (.int .i64 0)
    have g2 := ((H.out.r2.other n2.symm (.slice av (picksOf (linesOf (numb 1 (lineL t)))).length cv)).other n3.symm (.int .i64 0)).set (.int .i64 0)
    have hgb := grownBy_putObj' (((W.setCell ⟨w.heap.size, 0, none⟩ (.slice av (picksOf (linesOf (numb 1 (lineL t)))).length cv)).setCell ⟨b1, 0, none⟩ (.int .i64 0)).setCell ⟨b2, 0, none⟩ (.int .i64 0)) D (.deferred none)
    have hgo : ∀ r, some D = some r → ∃ o : Obj, (((W.setCell ⟨w.heap.size, 0, none⟩ (.slice av (picksOf (linesOf (numb 1 (lineL t)))).length cv)).setCell ⟨b1, 0, none⟩ (.int .i64 0)).setCell ⟨b2, 0, none⟩ (.int .i64 0)).heap[r]? = some o ∧ o.isCells = false := fun r e => by cases e; exact ⟨_, hK', rfl⟩
    have c0 := (boxed_kept g0 hgb hgo).cell
    have c1 := (boxed_kept g1 hgb hgo).cell
    have c2 := (boxed_kept g2 hgb hgo).cell
    refine ⟨by simp, .inl ⟨_, _, rfl, run_takeDeferred hK', ?_⟩⟩
    have hls := numb_lines 1 (lineL t) (fun l hl => Nat.le_trans (lineL_short t l hl) ht)
    have hgood := H.out.good
    rw [hls] at hgood
    refine ⟨.tuple #[.slice av (picksOf (linesOf (numb 1 (lineL t)))).length cv, .int .i64 0, .int .i64 0], ?_, _, by rw [prsT_good hgood], ?_, ?_⟩
    · simp [results, Tryd.f8, go_sem, c0, c1, c2]
    · have e : picksOf (linesOf (numb 1 (lineL t))) = picksOf (lineL t) := by rw [hls]
      rw [prsT_good hgood]
      show OwnK w.heap.size _ _ (picksOf (lineL t))
      rw [← e]
      have o1 := World.ownsRow.kept HRO.out (grownBy_setCell' W w.heap.size (.slice av (picksOf (linesOf (numb 1 (lineL t)))).length cv)) (.inr (H.out.r0.not_row (by decide) HRO.out).symm)
      have o2 := World.ownsRow.kept o1 (grownBy_setCell' _ b1 (.int .i64 0)) (.inr ((H.out.r1.other n1.symm _).not_row (by decide) o1).symm)
      have o3 := World.ownsRow.kept o2 (grownBy_setCell' _ b2 (.int .i64 0)) (.inr (((H.out.r2.other n2.symm _).other n3.symm _).not_row (by decide) o2).symm)
      exact OwnK.kept o3 hgb hgo
    · exact bel_only ((((H.out.bel.setCell (p := ⟨w.heap.size, 0, none⟩) (Nat.le_refl _) _).setCell (p := ⟨b1, 0, none⟩) EB.out.1 _).setCell (p := ⟨b2, 0, none⟩) EB.out.2.1 _).trans (belowK_b (w := w) (Nat.le_refl _) _ D _ _ (Nat.le_trans HB0.out.size hD) hK' rfl rfl))
  case stop =>
    rintro D c pre W hD hpre h hK
    obtain ⟨rfl, ⟨ini, last, er, rfl, hg, hb, x0, x1, x2⟩, hbel⟩ := h
    have HH := Lib.hid (And.intro hg hb)
    clear hg hb X0 X1 X2 X3 X4 hW0
    gi_wp2
    have hgb := grownBy_putObj' W D (.deferred none)
    have hgo : ∀ r, some D = some r → ∃ o : Obj, W.heap[r]? = some o ∧ o.isCells = false := fun r e => by cases e; exact ⟨_, hK, rfl⟩
    have c0 := (boxed_kept x0 hgb hgo).cell
    have c1 := (boxed_kept x1 hgb hgo).cell
    have c2 := (boxed_kept x2 hgb hgo).cell
    obtain ⟨suf, hs⟩ := hpre
    rw [List.append_assoc, List.singleton_append] at hs
    obtain ⟨e1, e2⟩ := numb_split (lineL t) 1 ini last suf (fun l hl => Nat.le_trans (lineL_short t l hl) ht) hs
    have e3 : (linesOf ini).length = ini.length := by unfold linesOf; rw [List.length_map]
    refine ⟨by simp, .inl ⟨_, _, rfl, run_takeDeferred hK, ?_⟩⟩
    refine ⟨.tuple #[.slice none 0 0, .int .i64 last.1, .int .i64 er], ?_, _, by rw [prsT_bad e1 HH.out.1 HH.out.2, e3, e2], ?_, ?_⟩
    · simp [results, Tryd.f8, go_sem, c0, c1, c2]
    · rw [prsT_bad e1 HH.out.1 HH.out.2]
      exact World.ownsRow_nil _ _ _ _
    · exact bel_only (hbel.trans (belowK_b (w := w) (Nat.le_refl _) _ D _ _ (Nat.le_trans HB0.out.size hD) hK rfl rfl))
end Go.Proofs.YtdneicbbnbbffaaDoor
