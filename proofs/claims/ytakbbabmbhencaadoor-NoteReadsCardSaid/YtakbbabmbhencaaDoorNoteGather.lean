/- Notes read from texts: note.gather. -/
import Derived.Test.YtakbbabmbhencaaDoorNoteN
import Derived.Test.YtakbbabmbhencaaDoorNum
import Derived.Test.YtakbbabmbhencaaDoorNLies
import Derived.Test.YtakbbabmbhencaaDoorTake
import Derived.RegionTactic
import Derived.BigRegion
namespace Go.Proofs.YtakbbabmbhencaaDoor
open Go.RowKit
set_option linter.unusedVariables false
set_option linter.unusedSimpArgs false
/-- Some note; that of the parts. -/
def GathN (l : Bs) (w : World) (e : Ending) (w' : World) : Prop := ∃ t q o a : Int, e = .returned (.agg #[.int .i64 t, .int .i64 q, .int .i64 o, .int .i64 a]) ∧ Only Nil w w' ∧ ∀ b, HasN l b → b = ⟨t, q, o, a⟩
theorem word_getD (ws : List Bs) (k : Nat) : wordI ws k = ws.getD k [] := by
  unfold wordI
  rw [if_neg (by omega), Int.toNat_natCast]
theorem word_last {ws : List Bs} {k : Nat} (h : ws.length = k + 1) : wordI ws k = ws.getLastD [] := by
  rw [word_getD]
  obtain ⟨r, x, rfl⟩ : ∃ r x, ws = r ++ [x] := ⟨ws.dropLast, ws.getLast (by intro e; rw [e] at h; cases h), (List.dropLast_concat_getLast _).symm⟩
  have hr : r.length = k := by simpa using h
  subst hr
  simp [List.getD]
theorem gathN_of {l X0 : Bs} {v : Int} {k : Nat} (hn : (cut l).length = k + 1) (h0 : (cut l)[0]? = some X0) (hv : ∀ c : Nat, c ≤ 1023 → X0 = Lib.decDigits c → v = c) :
    ∀ b, HasN l b → b = ⟨v, numI whWs (wordI (cut l) 1), numI (opOf (numI whWs (wordI (cut l) 1))) (wordI (cut l) 2), numI (argOf (numI whWs (wordI (cut l) 1))) (wordI (cut l) k)⟩ := fun b hb => by
  obtain ⟨⟨t0, t1⟩, h1, h2, h3, h4⟩ := hb.facts
  rw [h0] at h1
  injection h1 with h1
  have ht := hv b.t.toNat (by omega) h1
  have e1 : wordI (cut l) 1 = (cut l).getD 1 [] := word_getD _ 1
  have e2 : wordI (cut l) 2 = (cut l).getD 2 [] := word_getD _ 2
  rw [e1, e2, word_last hn, h2, h3, h4]
  exact Nt.ext_ (by simp only; omega) rfl rfl rfl
set_option maxRecDepth 100000 in
set_option maxHeartbeats 1000000 in
theorem gather_note (l : Bs) (gp k : Nat) (w : World) (hn : (cut l).length = k + 1) (hk : k ≤ 900) (hgp : gp < w.heap.size) (hc : ∀ (j : Nat) (x : Bs), (cut l)[j]? = some x → w.cell? ⟨gp, j, none⟩ = some (.string (bs x)))
    (hsz : ∀ (j : Nat) (x : Bs), (cut l)[j]? = some x → (bs x).size ≤ 900) (h : LiesN w) : Calls Tryd.prog 35 #[.slice (some ⟨gp, 0, none⟩) (k + 1) (k + 1)] w (GathN l w) := by
  have HS := Lib.hid (show Strs w (.slice (some ⟨gp, 0, none⟩) (k + 1) (k + 1)) (cut l) from .inr ⟨gp, k + 1, by rw [hn], hgp, hc⟩)
  obtain ⟨X0, hX0⟩ : ∃ x, (cut l)[0]? = some x := ⟨_, List.getElem?_eq_getElem (by omega)⟩
  have H0 := Lib.hid hX0
  have HC0 := Lib.hid (hc 0 X0 hX0)
  have HCK := Lib.hid (hc k _ (word_at (ws := cut l) (k := k) (by omega)))
  have HZ0 := Lib.hid (hsz 0 X0 hX0)
  have HN := Lib.hid hn
  have HL := Lib.hid h
  have HGP := Lib.hid hgp
  have HG := Lib.hid (fun v hv => gathN_of (v := v) hn hX0 hv)
  have ho := (Only.refl Nil w).alloc (.cells #[.int .i64 0, .int .i64 0, .int .i64 0, .int .i64 0] 23)
  have HO := Lib.hid ho
  have HR := Lib.hid (Row.new w 23 #[.int .i64 0, .int .i64 0, .int .i64 0, .int .i64 0])
  clear hn hc hsz h hX0 hgp ho
  go_enter Tryd.func35, Tryd.ntmps35
  go_wp2_with fail
  refine (whatWords_any _).mono ?_
  rintro e w1 ⟨v1, rfl, hs, hO⟩
  have HO1 := Lib.hid (HO.out.trans hO)
  have HR1 := Lib.hid (HR.out.only hO id)
  have HS1 := Lib.hid hs
  clear hs hO
  go_wp2_with fail
  refine (word_any _ _ _ _ (HS.out.only HO1.out)).mono ?_
  rintro e w' ⟨rfl, rfl⟩
  go_wp2_with fail
  refine (number_any _ _ _ _ HS1.out (by decide)).mono ?_
  rintro e w' ⟨rfl, rfl⟩
  rw [show (bs (wordI (cut l) 1)).data.toList = wordI (cut l) 1 from rfl]
  generalize numI whWs (wordI (cut l) 1) = q at *
  have HO2 := Lib.hid (HO1.out.alloc (.cells #[.int .i64 0, .int .i64 q, .int .i64 0, .int .i64 0] 23))
  have HA2 := Lib.hid (HR1.out.alloc (.cells #[.int .i64 0, .int .i64 q, .int .i64 0, .int .i64 0] 23))
  have HB2 := Lib.hid (Row.new w1 23 #[.int .i64 0, .int .i64 q, .int .i64 0, .int .i64 0])
  have hc0 : ∀ ob, (w1.alloc ob).cell? ⟨gp, 0, none⟩ = some (.string (bs X0)) := fun ob => ((HO1.out.alloc ob).cell (p := ⟨gp, 0, none⟩) HGP.out id).trans HC0.out
  have HNE := Lib.hid (show ¬ gp = w1.heap.size ∧ w.heap.size < w1.heap.size from ⟨by have := HO1.out.size; have := HGP.out; omega, HR1.out.lt⟩)
  have hk1 : (0 : Int) < (k : Int) + 1 := by omega
  go_wp2_with fail
  generalize w1.alloc (.cells #[.int .i64 0, .int .i64 q, .int .i64 0, .int .i64 0] 23) = w2 at *
  generalize w1.heap.size = g3 at *
  generalize hgg : w.heap.size = g at *
  have HGG := Lib.hid hgg
  clear hgg
  have HGW := Lib.hid (show gp < w.heap.size by rw [HGG.out]; exact HGP.out)
  obtain ⟨hne1, hne2⟩ := HNE.out
  have hne3 : ¬ g3 = gp := fun e => hne1 e.symm
  have hne4 : ¬ g = g3 := by omega
  have hne5 : ¬ g3 = g := by omega
  clear hc0 HO1 HR1 HS1
  refine (atoi_gen (bs X0) _ HZ0.out (HL.out.only HO2.out).syn (HL.out.only HO2.out).rng).mono ?_
  rintro e w3 ⟨v, er, rfl, hO, lo, hi, hx⟩
  have HO3 := Lib.hid (HO2.out.trans hO)
  have HA3 := Lib.hid (HA2.out.only hO id)
  have HB3 := Lib.hid (HB2.out.only hO id)
  have HV := Lib.hid (HG.out v hx)
  clear hO lo hi hx HG HO2 HA2 HB2
  have c0 : w3.cell? ⟨g3, 0, none⟩ = some (.int .i64 0) := HB3.out.cell_ (i := 0) rfl
  have c1 : w3.cell? ⟨g3, 1, none⟩ = some (.int .i64 q) := HB3.out.cell_ (i := 1) rfl
  have c2 : w3.cell? ⟨g3, 2, none⟩ = some (.int .i64 0) := HB3.out.cell_ (i := 2) rfl
  have c3 : w3.cell? ⟨g3, 3, none⟩ = some (.int .i64 0) := HB3.out.cell_ (i := 3) rfl
  have f0 : w3.frozen? ⟨g3, 0, none⟩ = false := HB3.out.frozen 0
  have f1 : w3.frozen? ⟨g3, 1, none⟩ = false := HB3.out.frozen 1
  have f2 : w3.frozen? ⟨g3, 2, none⟩ = false := HB3.out.frozen 2
  have f3 : w3.frozen? ⟨g3, 3, none⟩ = false := HB3.out.frozen 3
  go_wp2_with fail
  clear c0 c1 c2 c3 f0 f1 f2 f3
  generalize hw4 : w3.setCell ⟨g3, 0, none⟩ (.int .i64 v) = w4 at *
  have HO4 := Lib.hid (show Only Nil w w4 by rw [← hw4]; exact HO3.out.setCell (.inl (by have := HGG.out; show w.heap.size ≤ g3; omega)) _)
  have HA4 := Lib.hid (show Row w4 g 23 #[.int .i64 0, .int .i64 0, .int .i64 0, .int .i64 0] by rw [← hw4]; exact HA3.out.far hne4 _)
  have HB4 := Lib.hid (show Row w4 g3 23 #[.int .i64 v, .int .i64 q, .int .i64 0, .int .i64 0] by rw [← hw4]; exact HB3.out.set 0 _)
  clear hw4 HO3 HA3 HB3
  refine (opOf_any q _).mono ?_
  rintro e w5 ⟨v5, rfl, hs, hO⟩
  have HO5 := Lib.hid (HO4.out.trans hO)
  have HA5 := Lib.hid (HA4.out.only hO id)
  have HB5 := Lib.hid (HB4.out.only hO id)
  have HS5 := Lib.hid hs
  clear hs hO HO4 HA4 HB4
  go_wp2_with fail
  refine (word_any _ _ _ _ (HS.out.only HO5.out)).mono ?_
  rintro e w' ⟨rfl, rfl⟩
  go_wp2_with fail
  refine (number_any _ _ _ _ HS5.out (by unfold opOf; split <;> decide)).mono ?_
  rintro e w' ⟨rfl, rfl⟩
  rw [show (bs (wordI (cut l) 2)).data.toList = wordI (cut l) 2 from rfl]
  generalize numI (opOf q) (wordI (cut l) 2) = o at *
  have c0 : w5.cell? ⟨g3, 0, none⟩ = some (.int .i64 v) := HB5.out.cell_ (i := 0) rfl
  have c1 : w5.cell? ⟨g3, 1, none⟩ = some (.int .i64 q) := HB5.out.cell_ (i := 1) rfl
  have c2 : w5.cell? ⟨g3, 2, none⟩ = some (.int .i64 0) := HB5.out.cell_ (i := 2) rfl
  have c3 : w5.cell? ⟨g3, 3, none⟩ = some (.int .i64 0) := HB5.out.cell_ (i := 3) rfl
  have f0 : w5.frozen? ⟨g3, 0, none⟩ = false := HB5.out.frozen 0
  have f1 : w5.frozen? ⟨g3, 1, none⟩ = false := HB5.out.frozen 1
  have f2 : w5.frozen? ⟨g3, 2, none⟩ = false := HB5.out.frozen 2
  have f3 : w5.frozen? ⟨g3, 3, none⟩ = false := HB5.out.frozen 3
  go_wp2_with fail
  clear c0 c1 c2 c3 f0 f1 f2 f3
  generalize hw6 : w5.setCell ⟨g3, 2, none⟩ (.int .i64 o) = w6 at *
  have HO6 := Lib.hid (show Only Nil w w6 by rw [← hw6]; exact HO5.out.setCell (.inl (by have := HGG.out; show w.heap.size ≤ g3; omega)) _)
  have HA6 := Lib.hid (show Row w6 g 23 #[.int .i64 0, .int .i64 0, .int .i64 0, .int .i64 0] by rw [← hw6]; exact HA5.out.far hne4 _)
  have HB6 := Lib.hid (show Row w6 g3 23 #[.int .i64 v, .int .i64 q, .int .i64 o, .int .i64 0] by rw [← hw6]; exact HB5.out.set 2 _)
  clear hw6 HO5 HA5 HB5 HS5
  have c1 : w6.cell? ⟨g3, 1, none⟩ = some (.int .i64 q) := HB6.out.cell_ (i := 1) rfl
  have d1 : w6.cell? ⟨gp, k, none⟩ = some (.string (bs (wordI (cut l) k))) := (HO6.out.cell (p := ⟨gp, k, none⟩) HGW.out id).trans HCK.out
  generalize hlk : wordI (cut l) k = lk at *
  have hki : (k : Int) < 9223372036854775807 := by omega
  have hk2 : (k : Int) + 1 - 1 = k := by omega
  refine wp_region_held_drew (S := fun w' => w'.cell? ⟨g3, 1, none⟩ = some (.int .i64 q) ∧ w'.cell? ⟨gp, k, none⟩ = some (.string (bs lk)) ∧ Only Nil w w') (by kernel_rfl) ⟨c1, d1, HO6.out.drew⟩ (fun hHeld => ?_)
  refine take_0 (.pointer (some ⟨g3, 1, none⟩)) (by kernel_rfl) (by kernel_rfl) (by kernel_rfl) (fun _ _ _ h => h) (by rfl) (fun w hSw => ?_) (by assumption) ?_
  · (try dsimp only at hSw)
    go_split_ands
    go_simp
  (try simp only [Act.put, List.setIfInBounds_toArray, List.set_cons_zero, List.set_cons_succ])
  refine take_1 (.int .i64 q) (by kernel_rfl) (by kernel_rfl) (by kernel_rfl) (fun _ _ _ h => h) (by rfl) (fun w hSw => ?_) (by assumption) ?_
  · (try dsimp only at hSw)
    go_split_ands
    go_simp
  (try simp only [Act.put, List.setIfInBounds_toArray, List.set_cons_zero, List.set_cons_succ])
  refine take_3 (.slice (some ⟨gp, 0, none⟩) (k + 1) (k + 1)) (by kernel_rfl) (by kernel_rfl) (by kernel_rfl) (fun _ _ _ h => h) (by rfl) (fun w hSw => ?_) (by assumption) ?_
  · (try dsimp only at hSw)
    go_split_ands
    go_simp
  (try simp only [Act.put, List.setIfInBounds_toArray, List.set_cons_zero, List.set_cons_succ])
  refine take_4 (.slice (some ⟨gp, 0, none⟩) (k + 1) (k + 1)) (by kernel_rfl) (by kernel_rfl) (by kernel_rfl) (fun _ _ _ h => h) (by rfl) (fun w hSw => ?_) (by assumption) ?_
  · (try dsimp only at hSw)
    go_split_ands
    go_simp
  (try simp only [Act.put, List.setIfInBounds_toArray, List.set_cons_zero, List.set_cons_succ])
  refine take_5 (.int .i64 ((k : Int) + 1)) (by kernel_rfl) (by kernel_rfl) (by kernel_rfl) (fun _ _ _ h => h) (by rfl) (fun w hSw => ?_) (by assumption) ?_
  · (try dsimp only at hSw)
    go_split_ands
    go_simp
  (try simp only [Act.put, List.setIfInBounds_toArray, List.set_cons_zero, List.set_cons_succ])
  refine take_6 (.int .i64 k) (by kernel_rfl) (by kernel_rfl) (by kernel_rfl) (fun _ _ _ h => h) (by rfl) (fun w hSw => ?_) (by assumption) ?_
  · (try dsimp only at hSw)
    go_split_ands
    go_simp
    exact IntWalk.i64_in _ (by omega)
  (try simp only [Act.put, List.setIfInBounds_toArray, List.set_cons_zero, List.set_cons_succ])
  refine take_7 (.pointer (some ⟨gp, k, none⟩)) (by kernel_rfl) (by kernel_rfl) (by kernel_rfl) (fun _ _ _ h => h) (by rfl) (fun w hSw => ?_) (by assumption) ?_
  · (try dsimp only at hSw)
    go_split_ands
    go_simp
    exact fun h => absurd h (by omega)
  (try simp only [Act.put, List.setIfInBounds_toArray, List.set_cons_zero, List.set_cons_succ])
  refine take_8 (.string (bs lk)) (by kernel_rfl) (by kernel_rfl) (by kernel_rfl) (fun _ _ _ h => h) (by rfl) (fun w hSw => ?_) (by assumption) ?_
  · (try dsimp only at hSw)
    go_split_ands
    go_simp
  (try simp only [Act.put, List.setIfInBounds_toArray, List.set_cons_zero, List.set_cons_succ])
  refine call_2 (by kernel_rfl) (by rfl) (fun K hK => ?_)
  go_simp
  refine (argOf_any q _).mono ?_
  rintro e w7 ⟨v7, rfl, hs, hO⟩
  have HO7 := Lib.hid (HO6.out.drew.trans hO)
  have HA7 := Lib.hid (HA6.out.drew.only hO id)
  have HB7 := Lib.hid (HB6.out.drew.only hO id)
  have HS7 := Lib.hid hs
  refine hK.out _ _ ⟨HB7.out.cell_ (i := 1) rfl, (HO7.out.cell (p := ⟨gp, k, none⟩) HGW.out id).trans HCK.out, HO7.out⟩ (fun hHeld2 => ?_)
  clear hK K hHeld hs hO c1 d1 HO6 HA6 HB6
  (try simp only [Act.put, List.setIfInBounds_toArray, List.set_cons_zero, List.set_cons_succ])
  refine call_9 (by kernel_rfl) (by rfl) (fun K hK => ?_)
  go_simp
  refine (number_any _ _ _ _ HS7.out (by unfold argOf; split; · decide
                                         · split <;> decide)).mono ?_
  rintro e w' ⟨rfl, rfl⟩
  rw [show (bs lk).data.toList = lk from rfl]
  generalize numI (argOf q) lk = a at *
  refine hK.out _ _ hHeld2 (fun hHeld3 => ?_)
  clear hK K hHeld2
  (try simp only [Act.put, List.setIfInBounds_toArray, List.set_cons_zero, List.set_cons_succ])
  refine take_10 (.pointer (some ⟨g3, 3, none⟩)) (by kernel_rfl) (by kernel_rfl) (by kernel_rfl) (fun _ _ _ h => h) (by rfl) (fun w hSw => ?_) (by assumption) ?_
  · (try dsimp only at hSw)
    go_split_ands
    go_simp
  (try simp only [Act.put, List.setIfInBounds_toArray, List.set_cons_zero, List.set_cons_succ])
  have c0 : w7.cell? ⟨g3, 0, none⟩ = some (.int .i64 v) := HB7.out.cell_ (i := 0) rfl
  have c1 : w7.cell? ⟨g3, 1, none⟩ = some (.int .i64 q) := HB7.out.cell_ (i := 1) rfl
  have c2 : w7.cell? ⟨g3, 2, none⟩ = some (.int .i64 o) := HB7.out.cell_ (i := 2) rfl
  have c3 : w7.cell? ⟨g3, 3, none⟩ = some (.int .i64 0) := HB7.out.cell_ (i := 3) rfl
  have f0 : w7.frozen? ⟨g3, 0, none⟩ = false := HB7.out.frozen 0
  have f1 : w7.frozen? ⟨g3, 1, none⟩ = false := HB7.out.frozen 1
  have f2 : w7.frozen? ⟨g3, 2, none⟩ = false := HB7.out.frozen 2
  have f3 : w7.frozen? ⟨g3, 3, none⟩ = false := HB7.out.frozen 3
  have HB8 := Lib.hid (show Row (w7.setCell ⟨g3, 3, none⟩ (.int .i64 a)) g3 23 #[.int .i64 v, .int .i64 q, .int .i64 o, .int .i64 a] from HB7.out.set 3 _)
  have HA8 := Lib.hid (HA7.out.far (p := ⟨g3, 3, none⟩) hne4 (.int .i64 a))
  have HO8 := Lib.hid (HO7.out.setCell (p := ⟨g3, 3, none⟩) (.inl (by have := HGG.out; show w.heap.size ≤ g3; omega)) (.int .i64 a))
  refine call_11 (by kernel_rfl) (by rfl) (fun K hK => ?_)
  go_simp
  refine hK.out _ _ ⟨HB8.out.cell_ (i := 1) rfl, (HO8.out.cell (p := ⟨gp, k, none⟩) HGW.out id).trans HCK.out, HO8.out⟩ (fun hHeld4 => ?_)
  clear hK K hHeld3 hHeld4 c0 c1 c2 c3 f0 f1 f2 f3 HB7 HA7 HO7 HS7
  (try simp only [Act.put, List.setIfInBounds_toArray, List.set_cons_zero, List.set_cons_succ])
  refine wpAnyH_done (by kernel_rfl) ?_ _
  generalize w7.setCell ⟨g3, 3, none⟩ (.int .i64 a) = w8 at *
  have c0 : w8.cell? ⟨g3, 0, none⟩ = some (.int .i64 v) := HB8.out.cell_ (i := 0) rfl
  have c1 : w8.cell? ⟨g3, 1, none⟩ = some (.int .i64 q) := HB8.out.cell_ (i := 1) rfl
  have c2 : w8.cell? ⟨g3, 2, none⟩ = some (.int .i64 o) := HB8.out.cell_ (i := 2) rfl
  have c3 : w8.cell? ⟨g3, 3, none⟩ = some (.int .i64 a) := HB8.out.cell_ (i := 3) rfl
  have d0 : w8.cell? ⟨g, 0, none⟩ = some (.int .i64 0) := HA8.out.cell_ (i := 0) rfl
  have d1 : w8.cell? ⟨g, 1, none⟩ = some (.int .i64 0) := HA8.out.cell_ (i := 1) rfl
  have d2 : w8.cell? ⟨g, 2, none⟩ = some (.int .i64 0) := HA8.out.cell_ (i := 2) rfl
  have d3 : w8.cell? ⟨g, 3, none⟩ = some (.int .i64 0) := HA8.out.cell_ (i := 3) rfl
  have f0 : w8.frozen? ⟨g, 0, none⟩ = false := HA8.out.frozen 0
  have f1 : w8.frozen? ⟨g, 1, none⟩ = false := HA8.out.frozen 1
  have f2 : w8.frozen? ⟨g, 2, none⟩ = false := HA8.out.frozen 2
  have f3 : w8.frozen? ⟨g, 3, none⟩ = false := HA8.out.frozen 3
  have hgw := HGG.out
  go_wp2
  refine post_row Tryd.results35 (by rfl) ((((HA8.out.set 0 _).set 1 _).set 2 _).set 3 _) Tryd.underlying23 rfl (by kernel_rfl) rfl ⟨v, q, o, a, rfl, ?_, HV.out⟩
  have hO := HO8.out
  (repeat' (first | (with_reducible exact Only.refl _ _) | (with_reducible assumption) | (with_reducible refine Only.setCell ?_ ?_ _) | (with_reducible refine Only.drewN ?_ _) | (with_reducible refine Only.drew ?_) | (with_reducible refine Only.alloc ?_ _) | (left; simp; done) | (left; simp; omega) | (right; rfl)))
end Go.Proofs.YtakbbabmbhencaaDoor
