/- WdGo, WdBegin, WdPick, WdRuns, RecRun, WdWo, WdArg. -/
import Derived.Test.YtigdbokfapedcaaGreatB49
import Derived.Test.YtigdbokfapedcaaGreatB15
import Derived.Test.YtigdbokfapedcaaGreatB4
import Derived.Test.YtigdbokfapedcaaGreatB16
/- A task goes on with its operation, the program's. -/
set_option linter.unusedVariables false
set_option linter.unusedSimpArgs false
namespace Go.Proofs.YtigdbokfapedcaaGreat
open Go.RowKit
/-- A pick's event comes back; the world is m' then. -/
def Told (W : World) (g gt b : Nat) (A : Option Addr) (cp : Nat) (kind mode : Int) (k : Nat) (ev : Ev) (m' : MV) (e : Ending) (w' : World) : Prop :=
  ∃ nv, e = .returned (.agg (evCs ev.ran ev.acc nv)) ∧ OwnN 0 w' nv ev.ns ∧ Only (TurnW gt A) W w' ∧ WdP w' g gt b A cp kind mode k m'
/-- An event in a call's own block, returned. -/
theorem told_of {W w : World} {g gt b E cp k : Nat} {A : Option Addr} {kind mode : Int} {m' : MV} {ev : Ev} {nv : Value} {cs : Array Value} (hE : W.heap.size ≤ E) (he : Row w E 65 cs) (hn : OwnN 0 w nv ev.ns) (ho : Only (TurnW gt A) W w) (hw : WdP w g gt b A cp kind mode k m') :
    Told W g gt b A cp kind mode k ev m' (.returned (.agg (evCs ev.ran ev.acc nv))) (w.setRow E (evCs ev.ran ev.acc nv)) := by
  have eE := (Only.refl (· = E) w).setRow (g := E) (.inr rfl) (evCs ev.ran ev.acc nv)
  exact ⟨nv, rfl, hn.farE he eE, ho.setRow (.inl hE) _, hw.farE he eE⟩
theorem nsNil (w : World) : OwnN 0 w (.slice none 0 0) ev0.ns := ownN_nil 0 w
set_option maxRecDepth 100000 in
set_option maxHeartbeats 4000000 in
theorem woGo_any (g gt b : Nat) (A : Option Addr) (cp : Nat) (kind mode : Int) (k t : Nat) (m : MV) (W : World) (h : WdP W g gt b A cp kind mode k m) (hi : WdI mode k m) (hk : 1 ≤ kind ∧ kind ≤ 6) (ht : t < k) :
    Calls Tryz.prog 36 #[.pointer (some ⟨g, 0, none⟩), .int .i64 t] W (Told W g gt b A cp kind mode k (if (m.at t).stuck then ev0 else stepE (linesI kind) m t []) (if (m.at t).stuck then m else m.step (linesI kind) t)) := by
  have HI := Lib.hid hi
  have HK := Lib.hid hk
  have HT := Lib.hid ht
  have HW := Lib.hid h
  obtain ⟨q, hq⟩ : ∃ q, (m.at t).stuck = q := ⟨_, rfl⟩
  rw [hq]
  have HQ := Lib.hid hq
  clear hq h hi hk ht
  cases q
  · rw [if_neg Bool.false_ne_true, if_neg Bool.false_ne_true]
    go_enter Tryz.func36, Tryz.ntmps36
    go_upto_region 1 with (fail)
    have e0 := (Only.refl Nil W).alloc (.cells (evCs false acc0 (.slice none 0 0)) 65)
    have HO1 := Lib.hid (e0.mono (T := TurnW gt A) (fun _ _ h => h.elim))
    have HW1 := Lib.hid (HW.out.keep e0)
    have HE1 := Lib.hid (Row.new W 65 (evCs false acc0 (.slice none 0 0)))
    have HB := Lib.hid (show ∀ V : World, V = W → V.heap.size ≤ W.heap.size from fun _ h => h ▸ Nat.le_refl _)
    unfold evCs acc0 at e0 HO1 HW1 HE1
    clear e0 HW
    generalize W.alloc _ = w1 at *
    generalize W.heap.size = E at *
    have HEL := Lib.hid (HB.out W rfl)
    clear HB
    go_wp2_with fail
    refine (woStuck_in g gt b A cp kind mode k t m _ HW1.out HI.out HT.out).mono ?_
    rw [HQ.out]
    rintro e w2 ⟨rfl, hO, hW⟩
    have HO2 := Lib.hid (HO1.out.trans (hO.mono (T := TurnW gt A) (fun _ _ h => .inr h)))
    have HE2 := Lib.hid (HE1.out.only hO (fun hA => by
      obtain ⟨cur, hc⟩ := own_tag HW1.out.mem.own hA
      exact row_ne HE1.out hc (by decide) rfl))
    have HW2 := Lib.hid hW
    clear hO hW HO1 HE1 HW1
    go_wp2_with fail
    refine (woStep_any g gt b A cp kind mode k t m (.slice none 0 0) [] _ _ HW2.out HI.out HK.out HT.out (ownN_nil 0 _) (Nat.zero_le _) rfl).mono ?_
    rintro e w3 ⟨nv, rfl, hN, hO, hW⟩
    obtain ⟨A1, n1, c1, rfl⟩ := ownN_form hN
    have HE3 := Lib.hid (HE2.out.only hO (by
      rintro (rfl | hA)
      · obtain ⟨ct, hr⟩ := HW2.out.tasks.rowT
        exact row_ne HE2.out hr (by decide) rfl
      · obtain ⟨cur, hc⟩ := own_tag HW2.out.mem.own hA
        exact row_ne HE2.out hc (by decide) rfl))
    have HZ := Lib.hid (told_of (ev := stepE (linesI kind) m t []) (m' := m.step (linesI kind) t) HEL.out HE3.out hN (HO2.out.trans hO) hW)
    clear hN hO hW
    go_wp2_with (refine wp_storeR rfl 65 (.tmp 4) (.tmp 11) rfl (by rfl) (by rfl) HE3.out (by kernel_rfl) (Nat.le_refl 7) (by kernel_rfl) ?_)
    rw [putL_all (by rfl)]
    exact post_row Tryz.results36 (by rfl) (HE3.out.setRow _) Tryz.underlying65 rfl (by kernel_rfl) rfl HZ.out
  · rw [if_pos rfl, if_pos rfl]
    go_enter Tryz.func36, Tryz.ntmps36
    go_upto_region 1 with (fail)
    have e0 := (Only.refl Nil W).alloc (.cells (evCs false acc0 (.slice none 0 0)) 65)
    have HO1 := Lib.hid (e0.mono (T := TurnW gt A) (fun _ _ h => h.elim))
    have HW1 := Lib.hid (HW.out.keep e0)
    have HE1 := Lib.hid (Row.new W 65 (evCs false acc0 (.slice none 0 0)))
    have HB := Lib.hid (show ∀ V : World, V = W → V.heap.size ≤ W.heap.size from fun _ h => h ▸ Nat.le_refl _)
    unfold evCs acc0 at e0 HO1 HW1 HE1
    clear e0 HW
    generalize W.alloc _ = w1 at *
    generalize W.heap.size = E at *
    have HEL := Lib.hid (HB.out W rfl)
    clear HB
    go_wp2_with fail
    refine (woStuck_in g gt b A cp kind mode k t m _ HW1.out HI.out HT.out).mono ?_
    rw [HQ.out]
    rintro e w2 ⟨rfl, hO, hW⟩
    have HO2 := Lib.hid (HO1.out.trans (hO.mono (T := TurnW gt A) (fun _ _ h => .inr h)))
    have HE2 := Lib.hid (HE1.out.only hO (fun hA => by
      obtain ⟨cur, hc⟩ := own_tag HW1.out.mem.own hA
      exact row_ne HE1.out hc (by decide) rfl))
    have HZ := Lib.hid (told_of (ev := ev0) (m' := m) HEL.out HE2.out (nsNil _) HO2.out hW)
    clear hO hW HO1 HE1 HW1
    go_wp2_with (refine wp_storeR rfl 65 (.tmp 4) (.tmp 8) rfl (by rfl) (by rfl) HE2.out (by kernel_rfl) (Nat.le_refl 7) (by kernel_rfl) ?_)
    rw [putL_all (by rfl)]
    exact post_row Tryz.results36 (by rfl) (HE2.out.setRow _) Tryz.underlying65 rfl (by kernel_rfl) rfl HZ.out
end Go.Proofs.YtigdbokfapedcaaGreat
/- An idle task begins an operation, the program's. -/
set_option linter.unusedVariables false
set_option linter.unusedSimpArgs false
namespace Go.Proofs.YtigdbokfapedcaaGreat
open Go.RowKit
theorem may_eq {o h : Int} (ho : 1 ≤ o ∧ o ≤ 8) (hh : h = 0 ∨ h = 1 ∨ h = 2) : suMay o h = mayI o h := by
  have hc : o = 1 ∨ o = 2 ∨ o = 3 ∨ o = 4 ∨ o = 5 ∨ o = 6 ∨ o = 7 ∨ o = 8 := by omega
  rcases hc with rfl | rfl | rfl | rfl | rfl | rfl | rfl | rfl <;> rcases hh with rfl | rfl | rfl <;> rfl
theorem ownN_two {w : World} {G : Nat} {n m : Nt} (h : Row w G 59 #[.int .i64 n.t, .int .i64 n.w, .int .i64 n.o, .int .i64 n.a, .int .i64 m.t, .int .i64 m.w, .int .i64 m.o, .int .i64 m.a]) : OwnN 0 w (.slice (some ⟨G, 0, none⟩) 2 2) [n, m] :=
  ⟨rfl, .inr ⟨G, 2, _, rfl, Nat.zero_le _, h, Nat.le_refl _, by unfold maxLen; decide, rfl, rfl⟩⟩
set_option maxRecDepth 100000 in
set_option maxHeartbeats 4000000 in
theorem woBegin_any (g gt b : Nat) (A : Option Addr) (cp : Nat) (kind mode : Int) (k t : Nat) (o : Int) (m : MV) (W : World) (h : WdP W g gt b A cp kind mode k m) (hi : WdI mode k m) (hk : 1 ≤ kind ∧ kind ≤ 6) (ht : t < k) (ho : 1 ≤ o ∧ o ≤ 8) (hid : (m.rs t).op = 0) :
    Calls Tryz.prog 38 #[.pointer (some ⟨g, 0, none⟩), .agg #[.int .i64 t, .int .i64 o]] W (Told W g gt b A cp kind mode k (if mayI o (m.hold t) then stepE (linesI kind) (m.start t o) t [⟨t, 1, o, 0⟩] else ⟨true, acc0, [⟨t, 1, o, 0⟩, ⟨t, 11, o, 3⟩]⟩) (if mayI o (m.hold t) then (m.start t o).step (linesI kind) t else m)) := by
  have HI := Lib.hid hi
  have HK := Lib.hid hk
  have HT := Lib.hid ht
  have HW := Lib.hid h
  have HOP := Lib.hid ho
  have hm := may_any o (m.hold t)
  rw [may_eq ho (hi.hold t ht)] at hm
  have q2 : (t : Int) < k := by omega
  have q3 : (0 : Int) ≤ t := by omega
  have q4 : (t : Int).toNat = t := rfl
  have q5 := ht
  obtain ⟨q, hq⟩ : ∃ q, mayI o (m.hold t) = q := ⟨_, rfl⟩
  rw [hq] at hm ⊢
  have HM := Lib.hid hm
  clear hq h hi hk ht ho hm
  cases q
  · rw [if_neg Bool.false_ne_true, if_neg Bool.false_ne_true]
    go_enter Tryz.func38, Tryz.ntmps38
    go_upto_region 1 with (fail)
    have e0 := ((Only.refl Nil W).alloc (.cells #[.int .i64 t, .int .i64 o] 61)).alloc (.cells (evCs false acc0 (.slice none 0 0)) 65)
    have HO1 := Lib.hid (e0.mono (T := TurnW gt A) (fun _ _ h => h.elim))
    have HW1 := Lib.hid (HW.out.keep e0)
    have HP1 := Lib.hid ((Row.new W 61 #[.int .i64 t, .int .i64 o]).alloc (.cells (evCs false acc0 (.slice none 0 0)) 65))
    have HE1 := Lib.hid (Row.new2 W (.cells #[.int .i64 t, .int .i64 o] 61) 65 (evCs false acc0 (.slice none 0 0)))
    have HB := Lib.hid (show ∀ V : World, V = W → V.heap.size ≤ W.heap.size + 1 from fun _ h => h ▸ Nat.le_succ _)
    unfold evCs acc0 at e0 HO1 HW1 HE1 HP1
    clear e0 HW
    generalize (W.alloc _).alloc _ = w1 at *
    generalize W.heap.size + 1 = E at *
    generalize W.heap.size = P at *
    have HEL := Lib.hid (HB.out W rfl)
    clear HB
    have p0 : w1.cell? ⟨P, 0, none⟩ = some (.int .i64 t) := HP1.out.cell_ (i := 0) rfl
    have p1 : w1.cell? ⟨P, 1, none⟩ = some (.int .i64 o) := HP1.out.cell_ (i := 1) rfl
    have a5 : w1.cell? ⟨g, 5, none⟩ = some (.slice (some ⟨gt, 0, none⟩) k k) := HW1.out.row.cell_ (i := 5) rfl
    go_still_tail 7, (by kernel_rfl)
    go_upto_region 3 with (fail)
    have e2 := ((Only.refl Nil w1).alloc (.cells #[.int .i64 t, .int .i64 1, .int .i64 o, .int .i64 0] 59)).drew
    have HO2 := Lib.hid (HO1.out.trans (e2.mono (T := TurnW gt A) (fun _ _ h => h.elim)))
    have HW2 := Lib.hid (HW1.out.keep e2)
    have HP2 := Lib.hid (HP1.out.only e2 id)
    have HE2 := Lib.hid (HE1.out.only e2 id)
    have HG2 := Lib.hid (Row.new w1 59 #[.int .i64 t, .int .i64 1, .int .i64 o, .int .i64 0]).drew
    clear e2 HO1 HW1 HP1 HE1 p0 p1 a5
    generalize (w1.alloc _).drew = w2 at *
    generalize w1.heap.size = G at *
    have p1 : w2.cell? ⟨P, 1, none⟩ = some (.int .i64 o) := HP2.out.cell_ (i := 1) rfl
    have d0 : w2.cell? ⟨gt, t * 11, none⟩ = some (.int .i64 (m.hold t)) := HW2.out.tasks.cell HT.out 0 rfl
    go_still_tail 7, (by kernel_rfl)
    still_call ((HM.out _).mono (fun e w' ⟨h1, h2⟩ => ⟨h1, h2.symm⟩))
    refine wpStill_nil ?_
    clear p1 d0
    go_upto_region 4 with (fail)
    have HO3 := Lib.hid HO2.out.drew
    have HW3 := Lib.hid (HW2.out.keep (Only.refl Nil w2).drew)
    have HP3 := Lib.hid HP2.out.drew
    have HE3 := Lib.hid HE2.out.drew
    have HG3 := Lib.hid HG2.out.drew
    clear HO2 HW2 HP2 HE2 HG2
    generalize w2.drew = w3 at *
    have p0 : w3.cell? ⟨P, 0, none⟩ = some (.int .i64 t) := HP3.out.cell_ (i := 0) rfl
    have p1 : w3.cell? ⟨P, 1, none⟩ = some (.int .i64 o) := HP3.out.cell_ (i := 1) rfl
    have g0 : w3.cell? ⟨G, 0, none⟩ = some (.int .i64 t) := HG3.out.cell_ (i := 0) rfl
    have g1 : w3.cell? ⟨G, 1, none⟩ = some (.int .i64 1) := HG3.out.cell_ (i := 1) rfl
    have g2 : w3.cell? ⟨G, 2, none⟩ = some (.int .i64 o) := HG3.out.cell_ (i := 2) rfl
    have g3 : w3.cell? ⟨G, 3, none⟩ = some (.int .i64 0) := HG3.out.cell_ (i := 3) rfl
    refine wp_region_phase (n := 9) 8 (fun w => w.cell? ⟨P, 0, none⟩ = some (.int .i64 t) ∧ w.cell? ⟨P, 1, none⟩ = some (.int .i64 o) ∧ w.cell? ⟨G, 0, none⟩ = some (.int .i64 t) ∧ w.cell? ⟨G, 1, none⟩ = some (.int .i64 1) ∧ w.cell? ⟨G, 2, none⟩ = some (.int .i64 o) ∧ w.cell? ⟨G, 3, none⟩ = some (.int .i64 0)) rfl (by kernel_rfl) ⟨p0, p1, g0, g1, g2, g3⟩ (fun hHeld => ?_)
    have HO4 := Lib.hid HO3.out.drew
    have HW4 := Lib.hid (HW3.out.keep (Only.refl Nil w3).drew)
    have HP4 := Lib.hid HP3.out.drew
    have HE4 := Lib.hid HE3.out.drew
    have HG4 := Lib.hid HG3.out.drew
    clear HO3 HW3 HP3 HE3 HG3 p0 p1 g0 g1 g2 g3
    generalize w3.drew = w4 at *
    refine zt 0 rfl ?_
    refine zt 1 rfl ?_
    refine zt 2 rfl ?_
    refine zt 3 rfl ?_
    refine zt 4 rfl ?_
    refine mpc 5 rfl (by kernel_rfl) (by rfl) (fun K hK => ?_)
    go_simp
    refine (returned_any _ _ _ _).mono ?_
    rintro e w5 ⟨rfl, hO⟩
    have HO5 := Lib.hid (HO4.out.trans (hO.mono (T := TurnW gt A) (fun _ _ h => h.elim)))
    have HW5 := Lib.hid (HW4.out.keep hO)
    have HP5 := Lib.hid (HP4.out.only hO id)
    have HE5 := Lib.hid (HE4.out.only hO id)
    have HG5 := Lib.hid (HG4.out.only hO id)
    refine hK.out _ _ (.inr ⟨HP5.out.cell_ (i := 0) rfl, HP5.out.cell_ (i := 1) rfl, HG5.out.cell_ (i := 0) rfl, HG5.out.cell_ (i := 1) rfl, HG5.out.cell_ (i := 2) rfl, HG5.out.cell_ (i := 3) rfl⟩) ?_
    clear hK K hHeld hO HO4 HW4 HP4 HE4 HG4

    refine mpc 6 rfl (by kernel_rfl) (by rfl) (fun K hK => ?_)
    go_simp
    have e6 := (Only.refl Nil w5).alloc (.cells #[.int .i64 t, .int .i64 1, .int .i64 o, .int .i64 0, .int .i64 t, .int .i64 11, .int .i64 o, .int .i64 3] 59)
    have HO6 := Lib.hid (HO5.out.trans (e6.mono (T := TurnW gt A) (fun _ _ h => h.elim)))
    have HW6 := Lib.hid (HW5.out.keep e6)
    have HP6 := Lib.hid (HP5.out.only e6 id)
    have HE6 := Lib.hid (HE5.out.only e6 id)
    have HG6 := Lib.hid (HG5.out.only e6 id)
    have HN6 := Lib.hid (ownN_two (n := ⟨t, 1, o, 0⟩) (m := ⟨t, 11, o, 3⟩) (Row.new w5 59 #[.int .i64 t, .int .i64 1, .int .i64 o, .int .i64 0, .int .i64 t, .int .i64 11, .int .i64 o, .int .i64 3]))
    have hH6 : (w5.alloc (.cells #[.int .i64 t, .int .i64 1, .int .i64 o, .int .i64 0, .int .i64 t, .int .i64 11, .int .i64 o, .int .i64 3] 59)).cell? ⟨P, 0, none⟩ = some (.int .i64 t) ∧ _ ∧ _ ∧ _ ∧ _ ∧ _ := ⟨HP6.out.cell_ (i := 0) rfl, HP6.out.cell_ (i := 1) rfl, HG6.out.cell_ (i := 0) rfl, HG6.out.cell_ (i := 1) rfl, HG6.out.cell_ (i := 2) rfl, HG6.out.cell_ (i := 3) rfl⟩
    refine hK.out _ _ (.inr hH6) ?_
    clear hK K e6 HO5 HW5 HP5 HE5 HG5
    generalize w5.alloc _ = w6 at *
    generalize w5.heap.size = Z at *

    refine za 7 rfl ?_
    have HZ := Lib.hid (told_of (ev := ⟨true, acc0, [⟨t, 1, o, 0⟩, ⟨t, 11, o, 3⟩]⟩) (m' := m) HEL.out HE6.out HN6.out HO6.out HW6.out)
    refine mpc 8 rfl (by kernel_rfl) (by rfl) (fun K hK => ?_)
    refine wp_storeR' 65 (.tmp 4) (.tmp 34) rfl (by rfl) (by rfl) HE6.out (by kernel_rfl) (Nat.le_refl 7) (by kernel_rfl) ?_
    rw [putL_all (by rfl)]
    refine hK.out _ _ (.inl (by kernel_rfl)) ?_
    clear hK K

    refine wpAnyP_done (by kernel_rfl) ?_ _
    go_wp2_with fail
    exact post_row Tryz.results38 (by rfl) (HE6.out.setRow _) Tryz.underlying65 rfl (by kernel_rfl) rfl HZ.out
  · rw [if_pos rfl, if_pos rfl]
    go_enter Tryz.func38, Tryz.ntmps38
    go_upto_region 1 with (fail)
    have e0 := ((Only.refl Nil W).alloc (.cells #[.int .i64 t, .int .i64 o] 61)).alloc (.cells (evCs false acc0 (.slice none 0 0)) 65)
    have HO1 := Lib.hid (e0.mono (T := TurnW gt A) (fun _ _ h => h.elim))
    have HW1 := Lib.hid (HW.out.keep e0)
    have HP1 := Lib.hid ((Row.new W 61 #[.int .i64 t, .int .i64 o]).alloc (.cells (evCs false acc0 (.slice none 0 0)) 65))
    have HE1 := Lib.hid (Row.new2 W (.cells #[.int .i64 t, .int .i64 o] 61) 65 (evCs false acc0 (.slice none 0 0)))
    have HB := Lib.hid (show ∀ V : World, V = W → V.heap.size ≤ W.heap.size + 1 from fun _ h => h ▸ Nat.le_succ _)
    unfold evCs acc0 at e0 HO1 HW1 HE1 HP1
    clear e0 HW
    generalize (W.alloc _).alloc _ = w1 at *
    generalize W.heap.size + 1 = E at *
    generalize W.heap.size = P at *
    have HEL := Lib.hid (HB.out W rfl)
    clear HB
    have p0 : w1.cell? ⟨P, 0, none⟩ = some (.int .i64 t) := HP1.out.cell_ (i := 0) rfl
    have p1 : w1.cell? ⟨P, 1, none⟩ = some (.int .i64 o) := HP1.out.cell_ (i := 1) rfl
    have a5 : w1.cell? ⟨g, 5, none⟩ = some (.slice (some ⟨gt, 0, none⟩) k k) := HW1.out.row.cell_ (i := 5) rfl
    go_still_tail 7, (by kernel_rfl)
    go_upto_region 3 with (fail)
    have e2 := ((Only.refl Nil w1).alloc (.cells #[.int .i64 t, .int .i64 1, .int .i64 o, .int .i64 0] 59)).drew
    have HO2 := Lib.hid (HO1.out.trans (e2.mono (T := TurnW gt A) (fun _ _ h => h.elim)))
    have HW2 := Lib.hid (HW1.out.keep e2)
    have HP2 := Lib.hid (HP1.out.only e2 id)
    have HE2 := Lib.hid (HE1.out.only e2 id)
    have HG2 := Lib.hid (Row.new w1 59 #[.int .i64 t, .int .i64 1, .int .i64 o, .int .i64 0]).drew
    clear e2 HO1 HW1 HP1 HE1 p0 p1 a5
    generalize (w1.alloc _).drew = w2 at *
    generalize w1.heap.size = G at *
    have p1 : w2.cell? ⟨P, 1, none⟩ = some (.int .i64 o) := HP2.out.cell_ (i := 1) rfl
    have d0 : w2.cell? ⟨gt, t * 11, none⟩ = some (.int .i64 (m.hold t)) := HW2.out.tasks.cell HT.out 0 rfl
    go_still_tail 7, (by kernel_rfl)
    still_call ((HM.out _).mono (fun e w' ⟨h1, h2⟩ => ⟨h1, h2.symm⟩))
    refine wpStill_nil ?_
    clear p1 d0
    go_upto_region 5 with (fail)
    have HO3 := Lib.hid HO2.out.drew
    have HW3 := Lib.hid (HW2.out.keep (Only.refl Nil w2).drew)
    have HP3 := Lib.hid HP2.out.drew
    have HE3 := Lib.hid HE2.out.drew
    have HG3 := Lib.hid HG2.out.drew
    clear HO2 HW2 HP2 HE2 HG2 HM
    generalize w2.drew = w3 at *
    have p1 : w3.cell? ⟨P, 1, none⟩ = some (.int .i64 o) := HP3.out.cell_ (i := 1) rfl
    have d0 : w3.cell? ⟨gt, t * 11, none⟩ = some (.int .i64 (m.hold t)) := HW3.out.tasks.cell HT.out 0 rfl
    have d1 : w3.frozen? ⟨gt, t * 11, none⟩ = false := by
      obtain ⟨cs, hr⟩ := HW3.out.tasks.rowT
      exact hr.frozen _
    go_still_tail 10, (by kernel_rfl)
    still_call ((suat_any _ _ _).mono (fun e w' ⟨h1, h2⟩ => ⟨h1, h2.symm⟩))
    repeat still_step
    refine wpStill_nil ?_
    go_upto_region 6 with (fail)
    have eg := ((Only.refl (· = gt) w3).setCell (p := ⟨gt, t * 11, none⟩) (.inr rfl) (.int .i64 (atI o (m.hold t)))).drew
    obtain ⟨ct, hrt⟩ := HW3.out.tasks.rowT
    have HO5 := Lib.hid (HO3.out.trans (eg.mono (T := TurnW gt A) (fun _ _ h => .inl h)))
    have HW5 := Lib.hid ((HW3.out.putH HT.out (atI o (m.hold t))).keep (Only.refl Nil _).drew)
    have HP5 := Lib.hid (HP3.out.only eg (row_ne HP3.out hrt (by decide)))
    have HE5 := Lib.hid (HE3.out.only eg (row_ne HE3.out hrt (by decide)))
    have HG5 := Lib.hid (HG3.out.only eg (row_ne HG3.out hrt (by decide)))
    clear eg hrt HO3 HW3 HP3 HE3 HG3 p1 d0 d1
    generalize (w3.setCell _ _).drew = w5 at *
    have p1 : w5.cell? ⟨P, 1, none⟩ = some (.int .i64 o) := HP5.out.cell_ (i := 1) rfl
    obtain ⟨cs, hcs, hsz, _⟩ := HW5.out.tasks.row
    have HC := Lib.hid hcs
    have hsz' : t * 11 + 1 + 10 ≤ cs.size := by omega
    clear hcs hsz
    go_upto_region 7 with (refine wp_storeR rfl 84 (.tmp 50) (.tmp 48) rfl (by rfl) (by rfl) HC.out (by kernel_rfl) hsz' (by kernel_rfl) ?_)
    have eg := (Only.refl (· = gt) w5).setRow (g := gt) (.inr rfl) (putL cs (t * 11 + 1) [.int .i64 o, .int .i64 0, .int .u32 0, .int .u32 0, .int .i64 0, .bool false, .int .i64 0, .int .i64 0, .bool false, .int .i64 0])
    have HO6 := Lib.hid (HO5.out.trans (eg.mono (T := TurnW gt A) (fun _ _ h => .inl h)))
    have HW6 := Lib.hid (show WdP (w5.setRow gt (putL cs (t * 11 + 1) [.int .i64 o, .int .i64 0, .int .u32 0, .int .u32 0, .int .i64 0, .bool false, .int .i64 0, .int .i64 0, .bool false, .int .i64 0])) g gt b A cp kind mode k (m.start t o) from HW5.out.putF HT.out HC.out (zeroF (m.at t) o))
    have HP6 := Lib.hid (HP5.out.only eg (row_ne HP5.out HC.out (by decide)))
    have HE6 := Lib.hid (HE5.out.only eg (row_ne HE5.out HC.out (by decide)))
    have HG6 := Lib.hid (HG5.out.only eg (row_ne HG5.out HC.out (by decide)))
    clear eg HO5 HW5 HP5 HE5 HG5 HC hsz' p1
    generalize w5.setRow gt _ = w6 at *
    have p0 : w6.cell? ⟨P, 0, none⟩ = some (.int .i64 t) := HP6.out.cell_ (i := 0) rfl
    have g0 : w6.cell? ⟨G, 0, none⟩ = some (.int .i64 t) := HG6.out.cell_ (i := 0) rfl
    have g1 : w6.cell? ⟨G, 1, none⟩ = some (.int .i64 1) := HG6.out.cell_ (i := 1) rfl
    have g2 : w6.cell? ⟨G, 2, none⟩ = some (.int .i64 o) := HG6.out.cell_ (i := 2) rfl
    have g3 : w6.cell? ⟨G, 3, none⟩ = some (.int .i64 0) := HG6.out.cell_ (i := 3) rfl
    go_wp2_with fail
    have e6 := (Only.refl Nil w6).alloc (.cells #[.int .i64 t, .int .i64 1, .int .i64 o, .int .i64 0] 59)
    refine (woStep_any g gt b A cp kind mode k t (m.start t o) _ [⟨t, 1, o, 0⟩] _ _ (HW6.out.keep e6) (HI.out.start HT.out HOP.out) HK.out HT.out (ownN_one (n := ⟨t, 1, o, 0⟩) (Row.new w6 59 #[.int .i64 t, .int .i64 1, .int .i64 o, .int .i64 0])) (Nat.le_refl 1) rfl).mono ?_
    rintro e w7 ⟨nv, rfl, hN, hO, hW⟩
    obtain ⟨A1, n1, c1, rfl⟩ := ownN_form hN
    have HE7 := Lib.hid ((HE6.out.only e6 id).only hO (by
      rintro (rfl | hA)
      · obtain ⟨ct, hr⟩ := HW6.out.tasks.rowT
        exact row_ne HE6.out hr (by decide) rfl
      · obtain ⟨cur, hc⟩ := own_tag HW6.out.mem.own hA
        exact row_ne HE6.out hc (by decide) rfl))
    have HZ := Lib.hid (told_of (ev := stepE (linesI kind) (m.start t o) t [⟨t, 1, o, 0⟩]) (m' := (m.start t o).step (linesI kind) t) HEL.out HE7.out hN ((HO6.out.trans (e6.mono (T := TurnW gt A) (fun _ _ h => h.elim))).trans hO) hW)
    clear hN hO hW e6 p0 g0 g1 g2 g3
    go_wp2_with (refine wp_storeR rfl 65 (.tmp 4) (.tmp 56) rfl (by rfl) (by rfl) HE7.out (by kernel_rfl) (Nat.le_refl 7) (by kernel_rfl) ?_)
    rw [putL_all (by rfl)]
    exact post_row Tryz.results38 (by rfl) (HE7.out.setRow _) Tryz.underlying65 rfl (by kernel_rfl) rfl HZ.out
end Go.Proofs.YtigdbokfapedcaaGreat
/- A pick, the program's. -/
set_option linter.unusedVariables false
set_option linter.unusedSimpArgs false
namespace Go.Proofs.YtigdbokfapedcaaGreat
open Go.RowKit
set_option maxRecDepth 100000 in
set_option maxHeartbeats 4000000 in
theorem woPick_any (g gt b : Nat) (A : Option Addr) (cp : Nat) (kind mode : Int) (k : Nat) (ti o : Int) (m : MV) (W : World) (h : WdP W g gt b A cp kind mode k m) (hi : WdI mode k m) (hk : 1 ≤ kind ∧ kind ≤ 6) :
    Calls Tryz.prog 16 #[.pointer (some ⟨g, 0, none⟩), .agg #[.int .i64 ti, .int .i64 o]] W (Told W g gt b A cp kind mode k (eventW (linesI kind) k m ti o) (pickW (linesI kind) k m ti o)) := by
  have HI := Lib.hid hi
  have HK := Lib.hid hk
  have HW := Lib.hid h
  clear h hi hk
  unfold eventW pickW
  by_cases ht : 0 ≤ ti ∧ ti < k
  · rw [if_pos ht, if_pos ht]
    obtain ⟨t, rfl⟩ : ∃ t : Nat, ti = t := ⟨ti.toNat, by omega⟩
    rw [show (t : Int).toNat = t from rfl]
    have HT := Lib.hid (show t < k by omega)
    have HH := Lib.hid (show decide ((0 : Int) ≤ t ∧ (t : Int) < k) = true from decide_eq_true ht)
    have q2 : (t : Int) < k := by omega
    have q3 : (0 : Int) ≤ t := by omega
    have q4 : (t : Int).toNat = t := rfl
    have q5 := HT.out
    clear ht
    unfold pickE pickI
    by_cases h0 : (m.rs t).op = 0
    · rw [if_pos h0, if_pos h0]
      have HOPP := Lib.hid h0
      by_cases ho : 1 ≤ o ∧ o ≤ 8
      · rw [if_pos ho, if_pos ho]
        have HOR := Lib.hid ho
        have HX := Lib.hid (opW_some ho)
        have HBG := Lib.hid (fun w (h : WdP w g gt b A cp kind mode k m) => woBegin_any g gt b A cp kind mode k t o m w h HI.out HK.out HT.out HOR.out HOPP.out)
        generalize (if mayI o (m.hold t) = true then stepE (linesI kind) (m.start t o) t [⟨t, 1, o, 0⟩] else (⟨true, acc0, [⟨t, 1, o, 0⟩, ⟨t, 11, o, 3⟩]⟩ : Ev)) = ev at *
        generalize (if mayI o (m.hold t) = true then (m.start t o).step (linesI kind) t else m) = m' at *
        clear ho h0
        go_enter Tryz.func16, Tryz.ntmps16
        go_upto_region 1 with (fail)
        have e0 := ((Only.refl Nil W).alloc (.cells #[.int .i64 (t : Int), .int .i64 o] 61)).alloc (.cells (evCs false acc0 (.slice none 0 0)) 65)
        have HO1 := Lib.hid (e0.mono (T := TurnW gt A) (fun _ _ h => h.elim))
        have HW1 := Lib.hid (HW.out.keep e0)
        have HP1 := Lib.hid ((Row.new W 61 #[.int .i64 (t : Int), .int .i64 o]).alloc (.cells (evCs false acc0 (.slice none 0 0)) 65))
        have HE1 := Lib.hid (Row.new2 W (.cells #[.int .i64 (t : Int), .int .i64 o] 61) 65 (evCs false acc0 (.slice none 0 0)))
        have HB := Lib.hid (show ∀ V : World, V = W → V.heap.size ≤ W.heap.size + 1 from fun _ h => h ▸ Nat.le_succ _)
        unfold evCs acc0 at e0 HO1 HW1 HE1 HP1
        clear e0 HW
        generalize (W.alloc _).alloc _ = w1 at *
        generalize W.heap.size + 1 = E at *
        generalize W.heap.size = P at *
        have HEL := Lib.hid (HB.out W rfl)
        clear HB
        have p0 : w1.cell? ⟨P, 0, none⟩ = some (.int .i64 (t : Int)) := HP1.out.cell_ (i := 0) rfl
        have p1 : w1.cell? ⟨P, 1, none⟩ = some (.int .i64 o) := HP1.out.cell_ (i := 1) rfl
        have a5 : w1.cell? ⟨g, 5, none⟩ = some (.slice (some ⟨gt, 0, none⟩) k k) := HW1.out.row.cell_ (i := 5) rfl
        go_wp2_with fail
        refine (woHas_any g gt b A cp kind mode k m (t : Int) _ HW1.out).mono ?_
        rw [HH.out]
        rintro e w2 ⟨rfl, rfl⟩
        go_upto_region 3 with (fail)
        have d1 : w1.cell? ⟨gt, t * 11 + 1, none⟩ = some (.int .i64 (m.rs t).op) := HW1.out.tasks.cell HT.out 1 rfl
        rw [HOPP.out] at d1
        go_still_tail 10, (by kernel_rfl)
        go_wp2_with fail
        have HOO := Lib.hid HO1.out.drew
        have HWW := Lib.hid (HW1.out.keep (Only.refl Nil w1).drew)
        have HPP := Lib.hid HP1.out.drew
        have HEE := Lib.hid HE1.out.drew
        clear HO1 HW1 HP1 HE1 a5 d1 p0 p1
        generalize w1.drew = w2 at *
        have p0 : w2.cell? ⟨P, 0, none⟩ = some (.int .i64 t) := HPP.out.cell_ (i := 0) rfl
        have p1 : w2.cell? ⟨P, 1, none⟩ = some (.int .i64 o) := HPP.out.cell_ (i := 1) rfl
        refine (op_any o _).mono ?_
        rintro e w3 ⟨rfl, hO⟩
        have HO3 := Lib.hid hO
        have hx := HX.out
        generalize opW o = X at *
        clear hO
        have HW3 := Lib.hid (HWW.out.keep HO3.out)
        have HE3 := Lib.hid (HEE.out.only HO3.out id)
        have HP3 := Lib.hid (HPP.out.only HO3.out id)
        have HOO3 := Lib.hid (HOO.out.trans (HO3.out.mono (T := TurnW gt A) (fun _ _ h => h.elim)))
        clear p0 p1 HOO HWW HPP HEE HO3
        have HOO := HOO3
        have HWW := HW3
        have HEE := HE3
        have p0 : w3.cell? ⟨P, 0, none⟩ = some (.int .i64 t) := HP3.out.cell_ (i := 0) rfl
        have p1 : w3.cell? ⟨P, 1, none⟩ = some (.int .i64 o) := HP3.out.cell_ (i := 1) rfl
        clear HOO3 HW3 HE3 HP3
        go_wp2_with fail
        refine (HBG.out _ HWW.out).mono ?_
        rintro e wZ ⟨nv, rfl, hN, hO, hW⟩
        obtain ⟨A1, n1, c1, rfl⟩ := ownN_form hN
        have HEZ := Lib.hid (HEE.out.only hO (by
          rintro (rfl | hA)
          · obtain ⟨ct, hr⟩ := HWW.out.tasks.rowT
            exact row_ne HEE.out hr (by decide) rfl
          · obtain ⟨cur, hc⟩ := own_tag HWW.out.mem.own hA
            exact row_ne HEE.out hc (by decide) rfl))
        have HZ := Lib.hid (told_of (ev := ev) (m' := m') HEL.out HEZ.out hN (HOO.out.trans hO) hW)
        clear hN hO hW
        go_wp2_with (refine wp_storeR rfl 65 (.tmp 4) (.tmp 33) rfl (by rfl) (by rfl) HEZ.out (by kernel_rfl) (Nat.le_refl 7) (by kernel_rfl) ?_)
        rw [putL_all (by rfl)]
        exact post_row Tryz.results16 (by rfl) (HEZ.out.setRow _) Tryz.underlying65 rfl (by kernel_rfl) rfl HZ.out
      · rw [if_neg ho, if_neg ho]
        have HX := Lib.hid (opW_none ho)
        clear ho h0
        go_enter Tryz.func16, Tryz.ntmps16
        go_upto_region 1 with (fail)
        have e0 := ((Only.refl Nil W).alloc (.cells #[.int .i64 (t : Int), .int .i64 o] 61)).alloc (.cells (evCs false acc0 (.slice none 0 0)) 65)
        have HO1 := Lib.hid (e0.mono (T := TurnW gt A) (fun _ _ h => h.elim))
        have HW1 := Lib.hid (HW.out.keep e0)
        have HP1 := Lib.hid ((Row.new W 61 #[.int .i64 (t : Int), .int .i64 o]).alloc (.cells (evCs false acc0 (.slice none 0 0)) 65))
        have HE1 := Lib.hid (Row.new2 W (.cells #[.int .i64 (t : Int), .int .i64 o] 61) 65 (evCs false acc0 (.slice none 0 0)))
        have HB := Lib.hid (show ∀ V : World, V = W → V.heap.size ≤ W.heap.size + 1 from fun _ h => h ▸ Nat.le_succ _)
        unfold evCs acc0 at e0 HO1 HW1 HE1 HP1
        clear e0 HW
        generalize (W.alloc _).alloc _ = w1 at *
        generalize W.heap.size + 1 = E at *
        generalize W.heap.size = P at *
        have HEL := Lib.hid (HB.out W rfl)
        clear HB
        have p0 : w1.cell? ⟨P, 0, none⟩ = some (.int .i64 (t : Int)) := HP1.out.cell_ (i := 0) rfl
        have p1 : w1.cell? ⟨P, 1, none⟩ = some (.int .i64 o) := HP1.out.cell_ (i := 1) rfl
        have a5 : w1.cell? ⟨g, 5, none⟩ = some (.slice (some ⟨gt, 0, none⟩) k k) := HW1.out.row.cell_ (i := 5) rfl
        go_wp2_with fail
        refine (woHas_any g gt b A cp kind mode k m (t : Int) _ HW1.out).mono ?_
        rw [HH.out]
        rintro e w2 ⟨rfl, rfl⟩
        go_upto_region 3 with (fail)
        have d1 : w1.cell? ⟨gt, t * 11 + 1, none⟩ = some (.int .i64 (m.rs t).op) := HW1.out.tasks.cell HT.out 1 rfl
        rw [HOPP.out] at d1
        go_still_tail 10, (by kernel_rfl)
        go_wp2_with fail
        have HOO := Lib.hid HO1.out.drew
        have HWW := Lib.hid (HW1.out.keep (Only.refl Nil w1).drew)
        have HPP := Lib.hid HP1.out.drew
        have HEE := Lib.hid HE1.out.drew
        clear HO1 HW1 HP1 HE1 a5 d1 p0 p1
        generalize w1.drew = w2 at *
        have p0 : w2.cell? ⟨P, 0, none⟩ = some (.int .i64 t) := HPP.out.cell_ (i := 0) rfl
        have p1 : w2.cell? ⟨P, 1, none⟩ = some (.int .i64 o) := HPP.out.cell_ (i := 1) rfl
        refine (op_any o _).mono ?_
        rw [HX.out]
        rintro e w3 ⟨rfl, hO⟩
        have HO3 := Lib.hid hO
        clear hO
        have HW3 := Lib.hid (HWW.out.keep HO3.out)
        have HE3 := Lib.hid (HEE.out.only HO3.out id)
        have HOO3 := Lib.hid (HOO.out.trans (HO3.out.mono (T := TurnW gt A) (fun _ _ h => h.elim)))
        clear p0 p1 HOO HWW HPP HEE HO3
        have HOO := HOO3
        have HWW := HW3
        have HEE := HE3
        clear HOO3 HW3 HE3
        have HZ := Lib.hid (told_of (ev := ev0) (m' := m) HEL.out HEE.out (nsNil _) HOO.out HWW.out)
        go_wp2_with (refine wp_storeR rfl 65 (.tmp 4) (.tmp 30) rfl (by rfl) (by rfl) HEE.out (by kernel_rfl) (Nat.le_refl 7) (by kernel_rfl) ?_)
        rw [putL_all (by rfl)]
        exact post_row Tryz.results16 (by rfl) (HEE.out.setRow _) Tryz.underlying65 rfl (by kernel_rfl) rfl HZ.out
    · rw [if_neg h0, if_neg h0]
      obtain ⟨op, hop⟩ : ∃ op, (m.rs t).op = op := ⟨_, rfl⟩
      have HOPP := Lib.hid hop
      have hn : ¬ op = 0 := hop ▸ h0
      have hn2 : (op != 0) = true := bne_iff_ne.2 hn
      have HBG := Lib.hid (fun w (h : WdP w g gt b A cp kind mode k m) => woGo_any g gt b A cp kind mode k t m w h HI.out HK.out HT.out)
      generalize (if (m.at t).stuck = true then ev0 else stepE (linesI kind) m t []) = ev at *
      generalize (if (m.at t).stuck = true then m else m.step (linesI kind) t) = m' at *
      clear h0 hop
      go_enter Tryz.func16, Tryz.ntmps16
      go_upto_region 1 with (fail)
      have e0 := ((Only.refl Nil W).alloc (.cells #[.int .i64 (t : Int), .int .i64 o] 61)).alloc (.cells (evCs false acc0 (.slice none 0 0)) 65)
      have HO1 := Lib.hid (e0.mono (T := TurnW gt A) (fun _ _ h => h.elim))
      have HW1 := Lib.hid (HW.out.keep e0)
      have HP1 := Lib.hid ((Row.new W 61 #[.int .i64 (t : Int), .int .i64 o]).alloc (.cells (evCs false acc0 (.slice none 0 0)) 65))
      have HE1 := Lib.hid (Row.new2 W (.cells #[.int .i64 (t : Int), .int .i64 o] 61) 65 (evCs false acc0 (.slice none 0 0)))
      have HB := Lib.hid (show ∀ V : World, V = W → V.heap.size ≤ W.heap.size + 1 from fun _ h => h ▸ Nat.le_succ _)
      unfold evCs acc0 at e0 HO1 HW1 HE1 HP1
      clear e0 HW
      generalize (W.alloc _).alloc _ = w1 at *
      generalize W.heap.size + 1 = E at *
      generalize W.heap.size = P at *
      have HEL := Lib.hid (HB.out W rfl)
      clear HB
      have p0 : w1.cell? ⟨P, 0, none⟩ = some (.int .i64 (t : Int)) := HP1.out.cell_ (i := 0) rfl
      have p1 : w1.cell? ⟨P, 1, none⟩ = some (.int .i64 o) := HP1.out.cell_ (i := 1) rfl
      have a5 : w1.cell? ⟨g, 5, none⟩ = some (.slice (some ⟨gt, 0, none⟩) k k) := HW1.out.row.cell_ (i := 5) rfl
      go_wp2_with fail
      refine (woHas_any g gt b A cp kind mode k m (t : Int) _ HW1.out).mono ?_
      rw [HH.out]
      rintro e w2 ⟨rfl, rfl⟩
      go_upto_region 3 with (fail)
      have d1 : w1.cell? ⟨gt, t * 11 + 1, none⟩ = some (.int .i64 (m.rs t).op) := HW1.out.tasks.cell HT.out 1 rfl
      rw [HOPP.out] at d1
      go_still_tail 10, (by kernel_rfl)
      go_wp2_with fail
      have HOO := Lib.hid HO1.out.drew
      have HWW := Lib.hid (HW1.out.keep (Only.refl Nil w1).drew)
      have HPP := Lib.hid HP1.out.drew
      have HEE := Lib.hid HE1.out.drew
      clear HO1 HW1 HP1 HE1 a5 d1 p0 p1
      generalize w1.drew = w2 at *
      have p0 : w2.cell? ⟨P, 0, none⟩ = some (.int .i64 t) := HPP.out.cell_ (i := 0) rfl
      have p1 : w2.cell? ⟨P, 1, none⟩ = some (.int .i64 o) := HPP.out.cell_ (i := 1) rfl
      refine (HBG.out _ HWW.out).mono ?_
      rintro e wZ ⟨nv, rfl, hN, hO, hW⟩
      obtain ⟨A1, n1, c1, rfl⟩ := ownN_form hN
      have HEZ := Lib.hid (HEE.out.only hO (by
        rintro (rfl | hA)
        · obtain ⟨ct, hr⟩ := HWW.out.tasks.rowT
          exact row_ne HEE.out hr (by decide) rfl
        · obtain ⟨cur, hc⟩ := own_tag HWW.out.mem.own hA
          exact row_ne HEE.out hc (by decide) rfl))
      have HZ := Lib.hid (told_of (ev := ev) (m' := m') HEL.out HEZ.out hN (HOO.out.trans hO) hW)
      clear hN hO hW
      go_wp2_with (refine wp_storeR rfl 65 (.tmp 4) (.tmp 25) rfl (by rfl) (by rfl) HEZ.out (by kernel_rfl) (Nat.le_refl 7) (by kernel_rfl) ?_)
      rw [putL_all (by rfl)]
      exact post_row Tryz.results16 (by rfl) (HEZ.out.setRow _) Tryz.underlying65 rfl (by kernel_rfl) rfl HZ.out
  · rw [if_neg ht, if_neg ht]
    have HH := Lib.hid (show decide (0 ≤ ti ∧ ti < k) = false from decide_eq_false ht)
    clear ht
    go_enter Tryz.func16, Tryz.ntmps16
    go_upto_region 1 with (fail)
    have e0 := ((Only.refl Nil W).alloc (.cells #[.int .i64 ti, .int .i64 o] 61)).alloc (.cells (evCs false acc0 (.slice none 0 0)) 65)
    have HO1 := Lib.hid (e0.mono (T := TurnW gt A) (fun _ _ h => h.elim))
    have HW1 := Lib.hid (HW.out.keep e0)
    have HP1 := Lib.hid ((Row.new W 61 #[.int .i64 ti, .int .i64 o]).alloc (.cells (evCs false acc0 (.slice none 0 0)) 65))
    have HE1 := Lib.hid (Row.new2 W (.cells #[.int .i64 ti, .int .i64 o] 61) 65 (evCs false acc0 (.slice none 0 0)))
    have HB := Lib.hid (show ∀ V : World, V = W → V.heap.size ≤ W.heap.size + 1 from fun _ h => h ▸ Nat.le_succ _)
    unfold evCs acc0 at e0 HO1 HW1 HE1 HP1
    clear e0 HW
    generalize (W.alloc _).alloc _ = w1 at *
    generalize W.heap.size + 1 = E at *
    generalize W.heap.size = P at *
    have HEL := Lib.hid (HB.out W rfl)
    clear HB
    have p0 : w1.cell? ⟨P, 0, none⟩ = some (.int .i64 ti) := HP1.out.cell_ (i := 0) rfl
    have p1 : w1.cell? ⟨P, 1, none⟩ = some (.int .i64 o) := HP1.out.cell_ (i := 1) rfl
    have a5 : w1.cell? ⟨g, 5, none⟩ = some (.slice (some ⟨gt, 0, none⟩) k k) := HW1.out.row.cell_ (i := 5) rfl
    go_wp2_with fail
    refine (woHas_any g gt b A cp kind mode k m ti _ HW1.out).mono ?_
    rw [HH.out]
    rintro e w2 ⟨rfl, rfl⟩
    have HOO := HO1
    have HWW := HW1
    have HEE := HE1
    clear HO1 HW1 HE1
    have HZ := Lib.hid (told_of (ev := ev0) (m' := m) HEL.out HEE.out (nsNil _) HOO.out HWW.out)
    go_wp2_with (refine wp_storeR rfl 65 (.tmp 4) (.tmp 10) rfl (by rfl) (by rfl) HEE.out (by kernel_rfl) (Nat.le_refl 7) (by kernel_rfl) ?_)
    rw [putL_all (by rfl)]
    exact post_row Tryz.results16 (by rfl) (HEE.out.setRow _) Tryz.underlying65 rfl (by kernel_rfl) rfl HZ.out
end Go.Proofs.YtigdbokfapedcaaGreat
/- Picks, one by one, the program's Run; a world among a law's memory. -/
set_option linter.unusedVariables false
set_option linter.unusedSimpArgs false
namespace Go.Proofs.YtigdbokfapedcaaGreat
open Go.RowKit
set_option maxRecDepth 100000 in
theorem ev_notes (r : Bool) (a : Acc5) (A : Option Addr) (n cp : Nat) (w : World) : (Instr.field 65 (.agg #[.bool r, .int .i64 a.k, .int .i64 a.c, .int .u32 a.x, .int .u32 a.y, .int .u32 a.o, .slice A n cp]) 2).run Tryz.prog w = .ok (.slice A n cp) w := by
  first | rfl | kernel_rfl
/-- Picks that lie somewhere. -/
def PicksIn (w : World) (A : Option Addr) (l : List (Int × Int)) : Prop := ∀ (i : Nat) (p : Int × Int), l[i]? = some p → ∃ b q, A = some ⟨b, q, none⟩ ∧ w.cell? ⟨b, q + i * 2, none⟩ = some (.int .i64 p.1) ∧ w.cell? ⟨b, q + i * 2 + 1, none⟩ = some (.int .i64 p.2)
/-- A pick more. -/
def runStep (L : LS → LS) (k : Nat) (s : MV × List Nt) (p : Int × Int) : MV × List Nt := (pickW L k s.1 p.1 p.2, s.2 ++ (eventW L k s.1 p.1 p.2).ns)
def runI (L : LS → LS) (k : Nat) (m : MV) (l : List (Int × Int)) : MV × List Nt := l.foldl (runStep L k) (m, [])
theorem run_next {L : LS → LS} {k : Nat} {m : MV} {l : List (Int × Int)} {i : Nat} {p : Int × Int} (h : l[i]? = some p) : runI L k m (l.take (i + 1)) = runStep L k (runI L k m (l.take i)) p := by
  unfold runI
  rw [List.take_add_one, h, List.foldl_append]
  rfl
section
variable {mode kind : Int} {k : Nat} {m : MV}
theorem event_len (h : WdI mode k m) (t o : Int) : (eventW (linesI kind) k m t o).ns.length ≤ 4 := by
  unfold eventW
  split
  case isFalse => exact Nat.zero_le _
  case isTrue ht =>
    have ht' : t.toNat < k := by omega
    have hs : ∀ (m' : MV) (told : List Nt), WdI mode k m' → told.length ≤ 1 → (stepE (linesI kind) m' t.toNat told).ns.length ≤ 4 := fun m' told h' hl => by
      have hn := (h'.next (kind := kind) ht').2.2.2.2.1
      unfold stepE stepNs
      dsimp only
      split
      · simp only [List.length_append, List.length_cons, List.length_nil]; omega
      · simp only [List.length_append]; omega
    unfold pickE
    repeat' split
    · rename_i _ ho _; exact hs _ _ (h.start ht' ho) (Nat.le_refl 1)
    · show 2 ≤ 4; decide
    · exact Nat.zero_le _
    · exact Nat.zero_le _
    · exact hs _ _ h (Nat.zero_le _)
theorem run_ok (h : WdI mode k m) (l : List (Int × Int)) : ∀ i, i ≤ l.length → WdI mode k (runI (linesI kind) k m (l.take i)).1 ∧ (runI (linesI kind) k m (l.take i)).2.length ≤ 4 * i
  | 0, _ => ⟨h, Nat.zero_le _⟩
  | i + 1, hi => by
    obtain ⟨h1, h2⟩ := run_ok h l i (by omega)
    rw [run_next (List.getElem?_eq_getElem (by omega))]
    refine ⟨h1.pick _ _, ?_⟩
    unfold runStep
    dsimp only
    rw [List.length_append]
    have := event_len (kind := kind) h1 (l[i]'(by omega)).1 (l[i]'(by omega)).2
    omega
end
set_option maxRecDepth 100000 in
set_option maxHeartbeats 2000000 in
theorem woRuns_any (g gt b : Nat) (A : Option Addr) (cp : Nat) (kind mode : Int) (k : Nat) (m : MV) (A0 : Option Addr) (n cap : Nat) (l : List (Int × Int)) (W : World) (h : WdP W g gt b A cp kind mode k m) (hi : WdI mode k m) (hk : 1 ≤ kind ∧ kind ≤ 6) (hn : l.length = n) (hm : n ≤ 1000)
    (hp : ∀ w', Only (TurnW gt A) W w' → PicksIn w' A0 l) :
    Calls Tryz.prog 6 #[.pointer (some ⟨g, 0, none⟩), .slice A0 n cap] W fun e w' => ∃ v, e = .returned v ∧ OwnN W.heap.size w' v (runI (linesI kind) k m l).2 ∧ Only (TurnW gt A) W w' ∧ WdP w' g gt b A cp kind mode k (runI (linesI kind) k m l).1 := by
  have HW := Lib.hid h
  have HI := Lib.hid hi
  have HK := Lib.hid hk
  have HP := Lib.hid hp
  have HM := Lib.hid (And.intro hn hm)
  have q0 : (n : Int) ≤ 9223372036854775806 := by omega
  clear h hi hk hp hm hn
  have hf := ev_notes
  go_enter Tryz.func6, Tryz.ntmps6
  go_wp2_with fail
  go_loopw [5, 10] (fun nv iv wr => ∃ i : Nat, i ≤ n ∧ iv = .int .i64 i ∧ OwnN W.heap.size wr nv (runI (linesI kind) k m (l.take i)).2 ∧ Only (TurnW gt A) W wr ∧ WdP wr g gt b A cp kind mode k (runI (linesI kind) k m (l.take i)).1) (fun _ iv _ => n - (intOf iv).toNat)
  case atStart => exact ⟨0, Nat.zero_le _, rfl, ownN_nil _ _, Only.refl _ _, HW.out⟩
  case round =>
    obtain ⟨i, hi, rfl, hN, hO, hW⟩ := hrel
    obtain ⟨A1, n1, c1, rfl⟩ := ownN_form hN
    have HR := Lib.hid (And.intro hN (And.intro hO hW))
    clear hN hO hW
    by_cases hlt : i < n
    · obtain ⟨p, hp⟩ : ∃ p, l[i]? = some p := ⟨_, List.getElem?_eq_getElem (by rw [HM.out.1]; exact hlt)⟩
      have HX := Lib.hid (run_next (L := linesI kind) (k := k) (m := m) hp)
      have HQ := Lib.hid (run_ok (kind := kind) HI.out l i (by rw [HM.out.1]; exact hi))
      obtain ⟨pb, pq, rfl, c0, c1⟩ := HP.out _ HR.out.2.1 i p hp
      obtain ⟨t, o⟩ := p
      dsimp only at c0 c1
      have q1 : (i : Int) < n := by omega
      have HLT := Lib.hid hlt
      clear hp hi
      generalize runI (linesI kind) k m (l.take i) = s at *
      go_wp2_with fail
      have e1 := (Only.refl Nil wr).alloc (.cells #[.int .i64 t, .int .i64 o] 61)
      refine (woPick_any g gt b A cp kind mode k t o s.1 _ (HR.out.2.2.keep e1) HQ.out.1 HK.out).mono ?_
      rintro e w2 ⟨nv, rfl, hN2, hO2, hW2⟩
      obtain ⟨A2, n2, c2, rfl⟩ := ownN_form hN2
      have HL := Lib.hid (event_len (kind := kind) HQ.out.1 t o)
      have HN1 := Lib.hid (own_only (OwnN.only HR.out.1 e1) hO2 (fun j hj e => by
        obtain ⟨cur, hc⟩ := ownN_tag HR.out.1 hj
        obtain ⟨ct, hr⟩ := HR.out.2.2.tasks.rowT
        rcases e with rfl | hA
        · exact row_ne hc hr (by decide) rfl
        · obtain ⟨cu, hcu⟩ := own_tag HR.out.2.2.mem.own hA
          exact row_ne hc hcu (by decide) rfl))
      have HO2 := Lib.hid ((HR.out.2.1.trans (e1.mono (T := TurnW gt A) (fun _ _ h => h.elim))).trans hO2)
      have HW2 := Lib.hid hW2
      have HN2 := Lib.hid hN2
      clear hN2 hO2 hW2 e1 HR c0 c1
      unfold evCs
      go_wp2_with (at_builtin; refine wp_appNs rfl (.tmp 14) (.tmp 18) rfl W.heap.size _ s.2 rfl HN1.out _ (eventW (linesI kind) k s.1 t o).ns rfl HN2.out (by have h1 := HQ.out.2; have h2 := HM.out.2; omega) (by have h1 := HL.out; omega) HO2.out.size ?_)
      intro v' w3 hv ho
      have HV := Lib.hid (And.intro hv (And.intro (HO2.out.step ho (fun i hi e => by have := (HN1.out.lt i e).1; omega)) (HW2.out.apartN HN1.out ho)))
      clear hv ho
      go_wp2
      go_roundw
      case rel => exact ⟨i + 1, by have := HLT.out; omega, by go_num, by rw [HX.out]; exact HV.out.1, HV.out.2.1, by rw [HX.out]; exact HV.out.2.2⟩
      case measure => have := HLT.out; simp [intOf]; omega
    · obtain rfl : i = n := by omega
      have HE := Lib.hid (show l.take i = l by rw [← HM.out.1]; exact List.take_length)
      rw [HE.out] at HR
      clear HE
      go_wp2
      go_ret
      exact ⟨_, rfl, HR.out.1, HR.out.2.1, HR.out.2.2⟩
end Go.Proofs.YtigdbokfapedcaaGreat
/- What a world notes through any picks is a history: in plain words, over the program's picks. -/
set_option linter.unusedVariables false
set_option linter.unusedSimpArgs false
namespace Go.Proofs.YtigdbokfapedcaaGreat
open Go.RowKit
theorem hw_init {kind mode : Int} {k : Nat} {b : Int} (hb : Wrd b) : HW mode k (mv0 kind mode k b) [] := ⟨mv0_ok hb, hist_nil _, fun t ht => rfl⟩
theorem hw_fold {mode kind : Int} {k : Nat} (hk : k ≤ 64) : ∀ (l : List (Int × Int)) (m : MV) (H : List Nt), HW mode k m H → HW mode k (l.foldl (runStep (linesI kind) k) (m, H)).1 (l.foldl (runStep (linesI kind) k) (m, H)).2
  | [], m, H, h => h
  | p :: l, m, H, h => by
    rw [List.foldl_cons]
    exact hw_fold hk l _ _ (h.pick (kind := kind) hk p.1 p.2)
theorem hw_run {mode kind : Int} {k : Nat} {b : Int} (hb : Wrd b) (hk : k ≤ 64) (l : List (Int × Int)) : HW mode k (runI (linesI kind) k (mv0 kind mode k b) l).1 (runI (linesI kind) k (mv0 kind mode k b) l).2 :=
  hw_fold hk l _ _ (hw_init hb)
theorem hist_wf {n : Int} {l : List Nt} (h : Hist n l) : ∀ x ∈ l, 0 ≤ x.t ∧ x.t < 64 := fun x hx => by
  obtain ⟨pre, post, e⟩ := List.append_of_mem hx
  obtain ⟨_, _, _, _, hr⟩ := wrong_call (h pre x post e)
  exact ⟨(right_in hr).1, (right_in hr).2.1⟩
end Go.Proofs.YtigdbokfapedcaaGreat
/- A world among a law's memory. -/
set_option linter.unusedVariables false
set_option linter.unusedSimpArgs false
namespace Go.Proofs.YtigdbokfapedcaaGreat
open Go.RowKit
/-- A world among a law's memory: all that it has is new since W. -/
structure Wo (W : World) (g gt b : Nat) (A : Option Addr) (cp : Nat) (kind mode : Int) (k : Nat) (m : MV) (w : World) : Prop where
  only : Only Nil W w
  wd : WdP w g gt b A cp kind mode k m
  inv : WdI mode k m
  gn : W.heap.size ≤ g ∧ W.heap.size ≤ gt ∧ W.heap.size ≤ b ∧ ∀ j, At A j → W.heap.size ≤ j
section
variable {W w w' : World} {g gt b cp k : Nat} {A : Option Addr} {kind mode : Int} {m m' : MV}
theorem Wo.keep (h : Wo W g gt b A cp kind mode k m w) (ho : Only Nil w w') : Wo W g gt b A cp kind mode k m w' := ⟨h.only.trans ho, h.wd.keep ho, h.inv, h.gn⟩
theorem Wo.turn (h : Wo W g gt b A cp kind mode k m w) (ho : Only (TurnW gt A) w w') (hw : WdP w' g gt b A cp kind mode k m') (hi : WdI mode k m') : Wo W g gt b A cp kind mode k m' w' :=
  ⟨h.only.step ho (fun i hi' e => by
    rcases e with rfl | hA
    · have := h.gn.2.1; omega
    · have := h.gn.2.2.2 i hA; omega), hw, hi, h.gn⟩
theorem wo_new {k : Nat} {b0 : Int} (hb : Wrd b0) {e : Ending} (h : WNew W kind mode k (mv0 kind mode k b0) e w') : ∃ g gt b A cp, e = .returned (.tuple #[.pointer (some ⟨g, 0, none⟩), .int .i64 0]) ∧ Wo W g gt b A cp kind mode k (mv0 kind mode k b0) w' := by
  obtain ⟨g, gt, b, A, cp, he, hw, ho, h1, h2, h3, h4⟩ := h
  exact ⟨g, gt, b, A, cp, he, ho, hw, mv0_ok hb, h1, h2, h3, h4⟩
end
end Go.Proofs.YtigdbokfapedcaaGreat
/- Picks that came in; a law's first steps. -/
set_option linter.unusedVariables false
set_option linter.unusedSimpArgs false
namespace Go.Proofs.YtigdbokfapedcaaGreat
open Go.RowKit

theorem picks_list {w : World} {A : Option Addr} {len : Nat} (h : IsPicks w A len) : ∃ l : List (Int × Int), l.length = len ∧ ∀ w', Only Nil w w' → PicksIn w' A l := by
  have hc : ∃ f : Nat → Int × Int, ∀ i, i < len → ∃ b q, A = some ⟨b, q, none⟩ ∧ b < w.heap.size ∧ w.cell? ⟨b, q + i * 2, none⟩ = some (.int .i64 (f i).1) ∧ w.cell? ⟨b, q + i * 2 + 1, none⟩ = some (.int .i64 (f i).2) := by
    have h' : ∀ i, ∃ p : Int × Int, i < len → ∃ b q, A = some ⟨b, q, none⟩ ∧ b < w.heap.size ∧ w.cell? ⟨b, q + i * 2, none⟩ = some (.int .i64 p.1) ∧ w.cell? ⟨b, q + i * 2 + 1, none⟩ = some (.int .i64 p.2) := fun i => by
      by_cases hi : i < len
      · obtain ⟨b, q, t, o, h1, h2, h3, h4⟩ := h i hi
        exact ⟨(t, o), fun _ => ⟨b, q, h1, h2, h3, h4⟩⟩
      · exact ⟨(0, 0), fun h => absurd h hi⟩
    exact ⟨fun i => Classical.choose (h' i), fun i hi => Classical.choose_spec (h' i) hi⟩
  obtain ⟨f, hf⟩ := hc
  refine ⟨(List.range len).map f, by simp, fun w' ho i p hp => ?_⟩
  rw [List.getElem?_map] at hp
  obtain ⟨j, hj, rfl⟩ := Option.map_eq_some_iff.1 hp
  have hlt : i < len := by
    have := (List.getElem?_eq_some_iff.1 hj).1
    simpa using this
  rw [List.getElem?_range hlt] at hj
  obtain rfl := Option.some.inj hj
  obtain ⟨b, q, h1, h2, h3, h4⟩ := hf i hlt
  exact ⟨b, q, h1, (ho.cell (p := ⟨b, q + i * 2, none⟩) h2 id).trans h3, (ho.cell (p := ⟨b, q + i * 2 + 1, none⟩) h2 id).trans h4⟩

theorem wnew_case (kind mode n b : Int) : (∃ er, (er = 1 ∨ er = 2 ∨ er = 3) ∧ ∀ W, Calls Tryz.prog 4 #[.int .i64 kind, .int .i64 mode, .int .i64 n, .int .u32 b] W (WNone W er)) ∨ ((1 ≤ kind ∧ kind ≤ 6) ∧ (mode = 1 ∨ mode = 2) ∧ 1 ≤ n ∧ n ≤ 64) := by
  by_cases hk : 1 ≤ kind ∧ kind ≤ 6
  · by_cases hm : mode = 1 ∨ mode = 2
    · by_cases hn : 1 ≤ n ∧ n ≤ 64
      · exact .inr ⟨hk, hm, hn⟩
      · exact .inl ⟨2, by decide, fun W => wnew_n kind mode n b W hk hm hn⟩
    · exact .inl ⟨1, by decide, fun W => wnew_mode kind mode n b W hk hm⟩
  · exact .inl ⟨3, by decide, fun W => wnew_kind kind mode n b W hk⟩
end Go.Proofs.YtigdbokfapedcaaGreat
