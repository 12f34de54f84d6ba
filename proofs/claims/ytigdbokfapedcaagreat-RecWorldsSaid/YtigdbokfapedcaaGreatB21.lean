/- RcOv, RcS. -/
import Derived.Test.YtigdbokfapedcaaGreatChecked
import Derived.Deep.Cut
import Derived.Test.YtigdbokfapedcaaGreatB1
import Derived.Test.YtigdbokfapedcaaGreatB19
import Derived.Test.YtigdbokfapedcaaGreatB16
import Derived.Test.YtigdbokfapedcaaGreatB17
/- rec.Overlap. -/
set_option linter.unusedVariables false
set_option linter.unusedSimpArgs false
namespace Go.Proofs.YtigdbokfapedcaaGreat
open Go.RowKit
/-- It is over ahead of the other one's beginning. -/
def aheadB (c d : Cal) : Bool := decide (0 ≤ c.g) && decide (c.g < d.f)
def overB (c d : Cal) : Bool := !aheadB c d && !aheadB d c
set_option maxRecDepth 100000 in
theorem rcAhead_any (c d : Cal) (p q : Value) (w : World) : Calls Tryz.prog 21 #[.agg #[.int .i64 c.t, .int .i64 c.o, .int .i64 c.f, .int .i64 c.g, .int .i64 c.r, p], .agg #[.int .i64 d.t, .int .i64 d.o, .int .i64 d.f, .int .i64 d.g, .int .i64 d.r, q]] w fun e w' => e = .returned (.bool (aheadB c d)) ∧ Only Nil w w' := by
  unfold aheadB
  by_cases h : 0 ≤ c.g
  · have hd : decide (c.g ≥ 0) = true := by simpa using h
    rw [decide_eq_true h, Bool.true_and]
    have e1 := (Only.refl Nil w).alloc (.cells #[.int .i64 c.t, .int .i64 c.o, .int .i64 c.f, .int .i64 c.g, .int .i64 c.r, p] 37)
    have HO := Lib.hid (e1.alloc (.cells #[.int .i64 d.t, .int .i64 d.o, .int .i64 d.f, .int .i64 d.g, .int .i64 d.r, q] 37))
    have HA := Lib.hid ((Row.new w 37 #[.int .i64 c.t, .int .i64 c.o, .int .i64 c.f, .int .i64 c.g, .int .i64 c.r, p]).alloc (.cells #[.int .i64 d.t, .int .i64 d.o, .int .i64 d.f, .int .i64 d.g, .int .i64 d.r, q] 37))
    have HB := Lib.hid (Row.new2 w (.cells #[.int .i64 c.t, .int .i64 c.o, .int .i64 c.f, .int .i64 c.g, .int .i64 c.r, p] 37) 37 #[.int .i64 d.t, .int .i64 d.o, .int .i64 d.f, .int .i64 d.g, .int .i64 d.r, q])
    clear e1
    go_enter Tryz.func21, Tryz.ntmps21
    go_upto_region 1 with (fail)
    generalize (w.alloc (.cells #[.int .i64 c.t, .int .i64 c.o, .int .i64 c.f, .int .i64 c.g, .int .i64 c.r, p] 37)).alloc (.cells #[.int .i64 d.t, .int .i64 d.o, .int .i64 d.f, .int .i64 d.g, .int .i64 d.r, q] 37) = w1 at *
    generalize w.heap.size = B at *
    have a3 : w1.cell? ⟨B, 3, none⟩ = some (.int .i64 c.g) := HA.out.cell_ (i := 3) rfl
    have b2 : w1.cell? ⟨B + 1, 2, none⟩ = some (.int .i64 d.f) := HB.out.cell_ (i := 2) rfl
    go_wp2
    go_ret
    exact ⟨rfl, HO.out⟩
  · have hd : decide (c.g ≥ 0) = false := by simpa using h
    rw [decide_eq_false h, Bool.false_and]
    have e1 := (Only.refl Nil w).alloc (.cells #[.int .i64 c.t, .int .i64 c.o, .int .i64 c.f, .int .i64 c.g, .int .i64 c.r, p] 37)
    have HO := Lib.hid (e1.alloc (.cells #[.int .i64 d.t, .int .i64 d.o, .int .i64 d.f, .int .i64 d.g, .int .i64 d.r, q] 37))
    have HA := Lib.hid ((Row.new w 37 #[.int .i64 c.t, .int .i64 c.o, .int .i64 c.f, .int .i64 c.g, .int .i64 c.r, p]).alloc (.cells #[.int .i64 d.t, .int .i64 d.o, .int .i64 d.f, .int .i64 d.g, .int .i64 d.r, q] 37))
    have HB := Lib.hid (Row.new2 w (.cells #[.int .i64 c.t, .int .i64 c.o, .int .i64 c.f, .int .i64 c.g, .int .i64 c.r, p] 37) 37 #[.int .i64 d.t, .int .i64 d.o, .int .i64 d.f, .int .i64 d.g, .int .i64 d.r, q])
    clear e1
    go_enter Tryz.func21, Tryz.ntmps21
    go_upto_region 1 with (fail)
    generalize (w.alloc (.cells #[.int .i64 c.t, .int .i64 c.o, .int .i64 c.f, .int .i64 c.g, .int .i64 c.r, p] 37)).alloc (.cells #[.int .i64 d.t, .int .i64 d.o, .int .i64 d.f, .int .i64 d.g, .int .i64 d.r, q] 37) = w1 at *
    generalize w.heap.size = B at *
    have a3 : w1.cell? ⟨B, 3, none⟩ = some (.int .i64 c.g) := HA.out.cell_ (i := 3) rfl
    go_wp2
    go_ret
    exact ⟨rfl, HO.out⟩
set_option maxRecDepth 100000 in
set_option maxHeartbeats 1000000 in
theorem overlap_any (c d : Cal) (p q : Value) (w : World) : Calls Tryz.prog 9 #[.agg #[.int .i64 c.t, .int .i64 c.o, .int .i64 c.f, .int .i64 c.g, .int .i64 c.r, p], .agg #[.int .i64 d.t, .int .i64 d.o, .int .i64 d.f, .int .i64 d.g, .int .i64 d.r, q]] w fun e w' => e = .returned (.bool (overB c d)) ∧ Only Nil w w' := by
  unfold overB
  have H1 := Lib.hid (fun W => rcAhead_any c d p q W)
  have H2 := Lib.hid (fun W => rcAhead_any d c q p W)
  generalize aheadB c d = x at *
  generalize aheadB d c = y at *
  have e1 := (Only.refl Nil w).alloc (.cells #[.int .i64 c.t, .int .i64 c.o, .int .i64 c.f, .int .i64 c.g, .int .i64 c.r, p] 37)
  have HO := Lib.hid (e1.alloc (.cells #[.int .i64 d.t, .int .i64 d.o, .int .i64 d.f, .int .i64 d.g, .int .i64 d.r, q] 37))
  have HA := Lib.hid ((Row.new w 37 #[.int .i64 c.t, .int .i64 c.o, .int .i64 c.f, .int .i64 c.g, .int .i64 c.r, p]).alloc (.cells #[.int .i64 d.t, .int .i64 d.o, .int .i64 d.f, .int .i64 d.g, .int .i64 d.r, q] 37))
  have HB := Lib.hid (Row.new2 w (.cells #[.int .i64 c.t, .int .i64 c.o, .int .i64 c.f, .int .i64 c.g, .int .i64 c.r, p] 37) 37 #[.int .i64 d.t, .int .i64 d.o, .int .i64 d.f, .int .i64 d.g, .int .i64 d.r, q])
  clear e1
  go_enter Tryz.func9, Tryz.ntmps9
  go_upto_region 1 with (fail)
  generalize (w.alloc (.cells #[.int .i64 c.t, .int .i64 c.o, .int .i64 c.f, .int .i64 c.g, .int .i64 c.r, p] 37)).alloc (.cells #[.int .i64 d.t, .int .i64 d.o, .int .i64 d.f, .int .i64 d.g, .int .i64 d.r, q] 37) = w1 at *
  generalize w.heap.size = B at *
  have a0 : w1.cell? ⟨B, 0, none⟩ = some (.int .i64 c.t) := HA.out.cell_ (i := 0) rfl
  have a1 : w1.cell? ⟨B, 1, none⟩ = some (.int .i64 c.o) := HA.out.cell_ (i := 1) rfl
  have a2 : w1.cell? ⟨B, 2, none⟩ = some (.int .i64 c.f) := HA.out.cell_ (i := 2) rfl
  have a3 : w1.cell? ⟨B, 3, none⟩ = some (.int .i64 c.g) := HA.out.cell_ (i := 3) rfl
  have a4 : w1.cell? ⟨B, 4, none⟩ = some (.int .i64 c.r) := HA.out.cell_ (i := 4) rfl
  have a5 : w1.cell? ⟨B, 5, none⟩ = some p := HA.out.cell_ (i := 5) rfl
  have b0 : w1.cell? ⟨B + 1, 0, none⟩ = some (.int .i64 d.t) := HB.out.cell_ (i := 0) rfl
  have b1 : w1.cell? ⟨B + 1, 1, none⟩ = some (.int .i64 d.o) := HB.out.cell_ (i := 1) rfl
  have b2 : w1.cell? ⟨B + 1, 2, none⟩ = some (.int .i64 d.f) := HB.out.cell_ (i := 2) rfl
  have b3 : w1.cell? ⟨B + 1, 3, none⟩ = some (.int .i64 d.g) := HB.out.cell_ (i := 3) rfl
  have b4 : w1.cell? ⟨B + 1, 4, none⟩ = some (.int .i64 d.r) := HB.out.cell_ (i := 4) rfl
  have b5 : w1.cell? ⟨B + 1, 5, none⟩ = some q := HB.out.cell_ (i := 5) rfl
  go_wp2_with fail
  clear a0 a1 a2 a3 a4 a5 b0 b1 b2 b3 b4 b5
  refine (H1.out w1).mono ?_
  rintro e w2 ⟨rfl, hO⟩
  have HO2 := Lib.hid (HO.out.trans hO)
  have HA2 := Lib.hid (HA.out.only hO id)
  have HB2 := Lib.hid (HB.out.only hO id)
  clear hO HA HB HO
  cases x
  · skip
    have a0 : w2.cell? ⟨B, 0, none⟩ = some (.int .i64 c.t) := HA2.out.cell_ (i := 0) rfl
    have a1 : w2.cell? ⟨B, 1, none⟩ = some (.int .i64 c.o) := HA2.out.cell_ (i := 1) rfl
    have a2 : w2.cell? ⟨B, 2, none⟩ = some (.int .i64 c.f) := HA2.out.cell_ (i := 2) rfl
    have a3 : w2.cell? ⟨B, 3, none⟩ = some (.int .i64 c.g) := HA2.out.cell_ (i := 3) rfl
    have a4 : w2.cell? ⟨B, 4, none⟩ = some (.int .i64 c.r) := HA2.out.cell_ (i := 4) rfl
    have a5 : w2.cell? ⟨B, 5, none⟩ = some p := HA2.out.cell_ (i := 5) rfl
    have b0 : w2.cell? ⟨B + 1, 0, none⟩ = some (.int .i64 d.t) := HB2.out.cell_ (i := 0) rfl
    have b1 : w2.cell? ⟨B + 1, 1, none⟩ = some (.int .i64 d.o) := HB2.out.cell_ (i := 1) rfl
    have b2 : w2.cell? ⟨B + 1, 2, none⟩ = some (.int .i64 d.f) := HB2.out.cell_ (i := 2) rfl
    have b3 : w2.cell? ⟨B + 1, 3, none⟩ = some (.int .i64 d.g) := HB2.out.cell_ (i := 3) rfl
    have b4 : w2.cell? ⟨B + 1, 4, none⟩ = some (.int .i64 d.r) := HB2.out.cell_ (i := 4) rfl
    have b5 : w2.cell? ⟨B + 1, 5, none⟩ = some q := HB2.out.cell_ (i := 5) rfl
    go_wp2_with fail
    clear a0 a1 a2 a3 a4 a5 b0 b1 b2 b3 b4 b5
    refine (H2.out w2).mono ?_
    rintro e w3 ⟨rfl, hO⟩
    have HO3 := Lib.hid (HO2.out.trans hO)
    go_wp2
    go_ret
    exact ⟨rfl, HO3.out⟩
  · go_wp2
    go_ret
    exact ⟨rfl, HO2.out⟩
end Go.Proofs.YtigdbokfapedcaaGreat
/- The state of rec.Calls: a list of calls with a list of points each, and a list of places for each task in a map; no two of these lists in one block. -/
set_option linter.unusedVariables false
set_option linter.unusedSimpArgs false
namespace Go.Proofs.YtigdbokfapedcaaGreat
open Go.RowKit
/-- Which list: of a call's points, of a task's places. -/
abbrev Ky := Sum Nat Int
def updK {α : Type} (F : Ky → α) (k : Ky) (v : α) : Ky → α := fun j => if j = k then v else F j
theorem updK_same {α : Type} (F : Ky → α) (k : Ky) (v : α) : updK F k v k = v := if_pos rfl
theorem updK_other {α : Type} (F : Ky → α) {k j : Ky} (v : α) (h : j ≠ k) : updK F k v j = F j := if_neg h
/-- Lists that the call made, no two in one block. -/
structure Fam (base : Nat) (w : World) (F : Ky → Value) (L : Ky → List Int) : Prop where
  own : ∀ k, OwnI base w (F k) (L k)
  ap : ∀ j k, j ≠ k → ∀ b, (F j).ownBlock = some b → (F k).ownBlock ≠ some b
theorem ownI_tag {base : Nat} {w : World} {v : Value} {xs : List Int} (h : OwnI base w v xs) {b : Nat} (hb : v.ownBlock = some b) : ∃ cur, Row w b 3 cur := by
  rcases h.2 with ⟨rfl, _⟩ | ⟨g, cap, cur, rfl, _, hg, _⟩
  · cases hb
  · injection hb with hb; subst hb; exact ⟨cur, hg⟩
theorem ownC_tag {base : Nat} {w : World} {v : Value} {zs : List (Cal × Value)} (h : OwnC base w v zs) {b : Nat} (hb : v.ownBlock = some b) : ∃ cur, Row w b 37 cur := by
  rcases h.2 with ⟨rfl, _⟩ | ⟨g, cap, cur, rfl, _, hg, _⟩
  · cases hb
  · injection hb with hb; subst hb; exact ⟨cur, hg⟩
theorem row_apart {w : World} {g g' : Nat} {t t' : TypeId} {cs cs' : Array Value} (h : Row w g t cs) (h' : Row w g' t' cs') (ht : t ≠ t') : g ≠ g' := fun e => by
  subst e
  exact ht (h.same h').1
section
variable {base : Nat} {w w' : World} {F : Ky → Value} {L : Ky → List Int} {S : Nat → Prop}
theorem Fam.only (h : Fam base w F L) (ho : Only S w w') (hS : ∀ k b, (F k).ownBlock = some b → ¬ S b) : Fam base w' F L := ⟨fun k => own_only (h.own k) ho (fun b hb => hS k b hb), h.ap⟩
/-- One of them grew. -/
theorem Fam.grow (h : Fam base w F L) {k : Ky} {v' : Value} {ys : List Int} (hg : Grown w (F k) v' w') (ho : OwnI base w' v' ys) : Fam base w' (updK F k v') (updK L k ys) := by
  have hv : ∀ j, j ≠ k → ∀ b, v'.ownBlock = some b → (F j).ownBlock ≠ some b := fun j hj b hb e => by
    rcases hg.2 with e' | ⟨g, e', hge⟩
    · exact h.ap j k hj b e (e'.symm.trans hb)
    · rw [hb] at e'; injection e' with e'
      have := ((h.own j).lt b e).2
      omega
  refine ⟨fun j => ?_, fun i j hij b hb => ?_⟩
  · by_cases e : j = k
    · subst e; rw [updK_same, updK_same]; exact ho
    · rw [updK_other _ _ e, updK_other _ _ e]
      exact own_only (h.own j) hg.1 (fun b hb e' => h.ap j k e b hb e')
  · by_cases ei : i = k
    · subst ei
      rw [updK_same] at hb
      rw [updK_other _ _ (Ne.symm hij)]
      exact hv j (Ne.symm hij) b hb
    · rw [updK_other _ _ ei] at hb
      by_cases ej : j = k
      · subst ej
        rw [updK_same]
        exact fun e => hv i ei b e hb
      · rw [updK_other _ _ ej]
        exact h.ap i j hij b hb
theorem Fam.drop (h : Fam base w F L) (k : Ky) : Fam base w (updK F k (.slice none 0 0)) (updK L k []) := by
  refine ⟨fun j => ?_, fun i j hij b hb => ?_⟩
  · by_cases e : j = k
    · subst e; rw [updK_same, updK_same]; exact ownI_nil _ _
    · rw [updK_other _ _ e, updK_other _ _ e]; exact h.own j
  · by_cases ei : i = k
    · subst ei; rw [updK_same] at hb; cases hb
    · rw [updK_other _ _ ei] at hb
      by_cases ej : j = k
      · subst ej; rw [updK_same]; exact fun e => by cases e
      · rw [updK_other _ _ ej]; exact h.ap i j hij b hb
end
theorem ownC_set {base : Nat} {w : World} {v : Value} {zs : List (Cal × Value)} {g n c : Nat} (h : OwnC base w v zs) (hv : v = .slice (some ⟨g, 0, none⟩) n c) {i : Nat} {z z' : Cal × Value} (hz : zs[i]? = some z) {j : Nat} (hj : j < 6) {u : Value} (hu : flat1C z' = (flat1C z).set j u) :
    OwnC base (w.setCell ⟨g, i * 6 + j, none⟩ u) v (zs.set i z') := by
  obtain ⟨hl, h2⟩ := h
  have hi : i < zs.length := (List.getElem?_eq_some_iff.1 hz).1
  refine ⟨by rw [flatC_len, List.length_set], ?_⟩
  rcases h2 with ⟨rfl, _⟩ | ⟨g', cap, cur, hv', hb, hg, hc, hm, hs, ht⟩
  · cases hv
  · rw [hv] at hv'
    injection hv' with e1 e2 e3
    injection e1 with e1
    injection e1 with e1
    subst e1 e3
    rw [List.length_set]
    refine .inr ⟨g, c, cur.setIfInBounds (i * 6 + j) u, by rw [hv, e2], hb, Row.set hg _ _, hc, hm, by rw [Array.size_setIfInBounds]; exact hs, ?_⟩
    rw [← flatC_set zs i z z' j u hz hj hu, ← ht, Array.toList_setIfInBounds, List.take_set]
/-- The state: the map M of at most n entries, the calls' list cv; cs: the calls; ix: each task's places. -/
def RcS (base : Nat) (w : World) (M n : Nat) (cv : Value) (cs : List Cal) (ix : Int → List Int) (V : Int → Value) : Prop :=
  ∃ (zs : List (Cal × Value)) (f : Int → Option Value) (F : Ky → Value) (L : Ky → List Int), zs.map Prod.fst = cs ∧ Mp w M n f ∧ OwnC base w cv zs ∧ Fam base w F L ∧
    (∀ (i : Nat) (z : Cal × Value), zs[i]? = some z → z.2 = F (.inl i) ∧ L (.inl i) = z.1.ps ∧ z.2.oneCell' = true) ∧ (∀ i, zs.length ≤ i → F (.inl i) = .slice none 0 0 ∧ L (.inl i) = []) ∧
    (∀ t, (Lit.int .i64 t).wf = true → F (.inr t) = (f t).getD (.slice none 0 0) ∧ L (.inr t) = ix t ∧ F (.inr t) = V t)
theorem own_one {base : Nat} {w : World} {v : Value} {xs : List Int} (h : OwnI base w v xs) : v.oneCell' = true := by
  rcases h.2 with ⟨rfl, _⟩ | ⟨g, cap, cur, rfl, _⟩ <;> rfl
section
variable {base M n : Nat} {w w' : World} {cv : Value} {cs : List Cal} {ix : Int → List Int} {V : Int → Value}
theorem rcs_made (w : World) : RcS (w.heap.size + 1) (w.alloc (.map #[] 0)) w.heap.size 0 (.slice none 0 0) [] (fun _ => []) (fun _ => .slice none 0 0) :=
  ⟨[], fun _ => none, fun _ => .slice none 0 0, fun _ => [], rfl, mp_made w, ownC_nil _ _, ⟨fun _ => ownI_nil _ _, fun _ _ _ b hb => by cases hb⟩, fun i z h => by simp at h, fun _ _ => ⟨rfl, rfl⟩, fun _ _ => ⟨rfl, rfl, rfl⟩⟩
theorem RcS.only (h : RcS base w M n cv cs ix V) (ho : Only Nil w w') : RcS base w' M n cv cs ix V := by
  obtain ⟨zs, f, F, L, h1, h2, h3, h4, h5⟩ := h
  exact ⟨zs, f, F, L, h1, h2.only ho id, own_only h3 ho (fun _ _ => id), h4.only ho (fun _ _ _ => id), h5⟩
theorem RcS.lt (h : RcS base w M n cv cs ix V) : M < w.heap.size := by
  obtain ⟨zs, f, F, L, h1, h2, _⟩ := h
  exact h2.lt
theorem RcS.form (h : RcS base w M n cv cs ix V) : ∃ A c, cv = .slice A cs.length c := by
  obtain ⟨zs, f, F, L, h1, _, h3, _⟩ := h
  have hl : zs.length = cs.length := by rw [← h1, List.length_map]
  rcases h3.2 with ⟨rfl, h0⟩ | ⟨g, cap, cur, rfl, _⟩
  · exact ⟨none, 0, by rw [← hl, h0]⟩
  · exact ⟨_, _, by rw [hl]⟩
set_option maxRecDepth 100000 in
/-- A task's places: looked up, held, and what may be stored there. -/
theorem RcS.look (h : RcS base w M n cv cs ix V) {t : Int} (hw : (Lit.int .i64 t).wf = true) :
    (∀ w', Only (fun i => (V t).ownBlock = some i) w w' → (Instr.lookup 71 (.map (some M)) (.int .i64 t) false).run Tryz.prog w' = .ok (V t) w') ∧ OwnI base w (V t) (ix t) ∧
      ∀ w1 v', Grown w (V t) v' w1 → OwnI base w1 v' (ix t ++ [(cs.length : Int)]) → n < 1000000 →
        ∃ w2, (Instr.mapUpdate 71 (.map (some M)) (.int .i64 t) v').run Tryz.prog w1 = .ok () w2 ∧ RcS base w2 M (n + 1) cv cs (updM ix t (ix t ++ [(cs.length : Int)])) (updM V t v') ∧ Only (fun i => (V t).ownBlock = some i ∨ i = M) w w2 := by
  obtain ⟨zs, f, F, L, h1, h2, h3, h4, h5, h6, h7⟩ := h
  obtain ⟨e1, e2, e3⟩ := h7 t hw
  have hown := h4.own (.inr t)
  rw [e2] at hown
  rw [← e3]
  have hM : ∀ k b, (F k).ownBlock = some b → b ≠ M := fun k b hb e => by
    obtain ⟨cur, hr⟩ := ownI_tag (h4.own k) hb
    exact h2.ne hr e.symm
  refine ⟨fun w' ho => ?_, hown, fun w1 v' hg hv' hn => ?_⟩
  · have := (h2.only ho (fun e => hM _ _ e rfl)).get Tryz.underlying71 (z := .slice none 0 0) (by kernel_rfl) hw
    rw [← e1] at this
    exact this
  · have hmp := h2.only hg.1 (fun e => hM _ _ e rfl)
    obtain ⟨w2, hrun, hm2, ho⟩ := hmp.put Tryz.underlying71 hn hw v'
    have hF := (h4.grow hg hv').only ho (fun k b hb e => by
      obtain ⟨cur, hr⟩ := ownI_tag ((h4.grow hg hv').own k) hb
      exact hmp.ne hr e.symm)
    have hC : OwnC base w2 cv zs := by
      have h3' := own_only h3 hg.1 (fun b hb e => by
        obtain ⟨c1, r1⟩ := ownC_tag h3 hb
        obtain ⟨c2, r2⟩ := ownI_tag (h4.own _) e
        exact row_apart r1 r2 (by decide) rfl)
      exact own_only h3' ho (fun b hb e => by
        obtain ⟨c1, r1⟩ := ownC_tag (h3' : OwnC base w1 cv zs) hb
        exact hmp.ne r1 e.symm)
    refine ⟨w2, hrun, ⟨zs, _, _, _, h1, hm2, hC, hF, fun i z hz => ?_, fun i hi => ?_, fun u hu => ?_⟩, ?_⟩
    · rw [updK_other _ _ (by simp), updK_other _ _ (by simp)]; exact h5 i z hz
    · rw [updK_other _ _ (by simp), updK_other _ _ (by simp)]; exact h6 i hi
    · by_cases e : u = t
      · subst e
        rw [updK_same, updK_same, updM_same, updM_same, updM_same]
        exact ⟨rfl, rfl, rfl⟩
      · rw [updK_other _ _ (by simpa using e), updK_other _ _ (by simpa using e), updM_other _ _ e, updM_other _ _ e, updM_other _ _ e]
        exact h7 u hu
    · exact (hg.1.mono (T := fun i => (F (.inr t)).ownBlock = some i ∨ i = M) (fun i _ h => .inl h)).step ho (fun i _ e => .inr e)
/-- A call more. -/
theorem RcS.call (h : RcS base w M n cv cs ix V) (c : Cal) (hc : c.ps = []) : ∃ zs, OwnC base w cv zs ∧ zs.length = cs.length ∧ ∀ cv' w', Grown w cv cv' w' → OwnC base w' cv' (zs ++ [(c, .slice none 0 0)]) → RcS base w' M n cv' (cs ++ [c]) ix V := by
  obtain ⟨zs, f, F, L, h1, h2, h3, h4, h5, h6, h7⟩ := h
  refine ⟨zs, h3, by rw [← h1, List.length_map], fun cv' w' hg hv => ?_⟩
  refine ⟨zs ++ [(c, .slice none 0 0)], f, F, L, by rw [List.map_append, h1]; rfl, h2.only hg.1 (fun e => ?_), hv, h4.only hg.1 (fun k b hb e => ?_), fun i z hz => ?_, fun i hi => ?_, h7⟩
  · obtain ⟨c1, r1⟩ := ownC_tag h3 e
    exact h2.ne r1 rfl
  · obtain ⟨c1, r1⟩ := ownC_tag h3 e
    obtain ⟨c2, r2⟩ := ownI_tag (h4.own _) hb
    exact row_apart r1 r2 (by decide) rfl
  · rcases Nat.lt_or_ge i zs.length with hi | hi
    · rw [List.getElem?_append_left hi] at hz; exact h5 i z hz
    · have hil : i < zs.length + 1 := by
        have := (List.getElem?_eq_some_iff.1 hz).1
        rwa [List.length_append, List.length_singleton] at this
      obtain rfl : i = zs.length := by omega
      rw [List.getElem?_append_right (Nat.le_refl _), Nat.sub_self, List.getElem?_cons_zero] at hz
      injection hz with hz
      subst hz
      obtain ⟨a, b⟩ := h6 zs.length (Nat.le_refl _)
      exact ⟨a.symm, b.trans hc.symm, rfl⟩
  · rw [List.length_append, List.length_singleton] at hi
    exact h6 i (by omega)
/-- A field of a call is stored into (2 to 4: numbers). -/
theorem RcS.set (h : RcS base w M n cv cs ix V) {g m c i : Nat} (hcv : cv = .slice (some ⟨g, 0, none⟩) m c) {x x' : Cal} (hx : cs[i]? = some x) {j : Nat} (hj : j < 6) {u : Value} (hu : ∀ p, flat1C (x', p) = (flat1C (x, p)).set j u) (hps : x'.ps = x.ps) :
    RcS base (w.setCell ⟨g, i * 6 + j, none⟩ u) M n cv (cs.set i x') ix V := by
  obtain ⟨zs, f, F, L, h1, h2, h3, h4, h5, h6, h7⟩ := h
  have hi : i < zs.length := by have := (List.getElem?_eq_some_iff.1 hx).1; rw [← h1, List.length_map] at this; exact this
  obtain ⟨z, hz⟩ : ∃ z, zs[i]? = some z := ⟨_, List.getElem?_eq_getElem hi⟩
  have hzx : z.1 = x := by
    rw [← h1, List.getElem?_map, hz] at hx
    injection hx
  have hgb : cv.ownBlock = some g := by rw [hcv]; rfl
  obtain ⟨c1, r1⟩ := ownC_tag h3 hgb
  have ho : Only (· = g) w (w.setCell ⟨g, i * 6 + j, none⟩ u) := (Only.refl (· = g) w).setCell (p := ⟨g, i * 6 + j, none⟩) (.inr rfl) _
  obtain ⟨z1, z2⟩ := z
  subst hzx
  refine ⟨zs.set i (x', z2), f, F, L, by rw [List.map_set, h1], h2.only ho (h2.ne r1), ownC_set h3 hcv hz hj (hu z2), h4.only ho (fun k b hb e => ?_), fun k z hk => ?_, fun k hk => h6 k (by rwa [List.length_set] at hk), h7⟩
  · obtain ⟨c2, r2⟩ := ownI_tag (h4.own _) hb
    exact row_apart r1 r2 (by decide) e.symm
  · by_cases e : i = k
    · subst e
      rw [List.getElem?_set_self hi] at hk
      injection hk with hk
      subst hk
      obtain ⟨a, b, d⟩ := h5 i _ hz
      exact ⟨a, b.trans hps.symm, d⟩
    · rw [List.getElem?_set_ne e] at hk
      exact h5 k z hk
/-- A call's cells; its points' list, and what may be stored there. -/
theorem RcS.at_ (h : RcS base w M n cv cs ix V) {i : Nat} {x : Cal} (hx : cs[i]? = some x) : ∃ g c p, cv = .slice (some ⟨g, 0, none⟩) cs.length c ∧ (i < cs.length ∧ base ≤ g) ∧ (∃ cur, Row w g 37 cur ∧ (∀ (j : Nat) (u : Value), (flat1C (x, p))[j]? = some u → cur[i * 6 + j]? = some u)) ∧ OwnI base w p x.ps ∧
    ∀ w1 v' (y : Int), Grown w p v' w1 → OwnI base w1 v' (x.ps ++ [y]) → Only (fun k => p.ownBlock = some k ∨ k = g) w (w1.setCell ⟨g, i * 6 + 5, none⟩ v') ∧ RcS base (w1.setCell ⟨g, i * 6 + 5, none⟩ v') M n cv (cs.set i (pntU y x)) ix V := by
  obtain ⟨zs, f, F, L, h1, h2, h3, h4, h5, h6, h7⟩ := h
  have hlen : zs.length = cs.length := by rw [← h1, List.length_map]
  have hi : i < zs.length := by have := (List.getElem?_eq_some_iff.1 hx).1; omega
  obtain ⟨z, hz⟩ : ∃ z, zs[i]? = some z := ⟨_, List.getElem?_eq_getElem hi⟩
  have hzx : z.1 = x := by
    rw [← h1, List.getElem?_map, hz] at hx
    injection hx
  obtain ⟨z1, p⟩ := z
  subst hzx
  obtain ⟨hp, hL, hone⟩ := h5 i _ hz
  have hown := h4.own (.inl i)
  rw [← hp, hL] at hown
  have h3' := h3
  rcases h3.2 with ⟨_, h0⟩ | ⟨g, cap, cur, hcv, hb, hg, hc, hm, hs, ht⟩
  · omega
  have hgb : cv.ownBlock = some g := by rw [hcv]; rfl
  refine ⟨g, cap, p, by rw [hcv, hlen], ⟨by omega, hb⟩, ⟨cur, hg, fun j u hju => ?_⟩, hown, fun w1 v' y hgr hv' => ?_⟩
  · have e1 := flatC_get zs i _ j hz (List.getElem?_eq_some_iff.1 hju).1
    rw [← ht, List.getElem?_take, if_pos (by have h8 : j < 6 := (List.getElem?_eq_some_iff.1 hju).1; omega), Array.getElem?_toList] at e1
    rw [e1]; exact hju
  · have hgr' : Grown w (F (.inl i)) v' w1 := by rw [← hp]; exact hgr
    have hF := h4.grow hgr' hv'
    have hpg : p.ownBlock ≠ some g := fun e => by
      obtain ⟨c2, r2⟩ := ownI_tag hown e
      exact row_apart hg r2 (by decide) rfl
    have h31 : OwnC base w1 cv zs := own_only h3 hgr.1 (fun b hb e => by rw [hgb] at hb; injection hb with hb; subst hb; exact hpg e)
    obtain ⟨c1, r1⟩ := ownC_tag h31 hgb
    have hm1 : Mp w1 M n f := h2.only hgr.1 (fun e => by
      obtain ⟨c2, r2⟩ := ownI_tag hown e
      exact h2.ne r2 rfl)
    have ho : Only (· = g) w1 (w1.setCell ⟨g, i * 6 + 5, none⟩ v') := (Only.refl (· = g) w1).setCell (p := ⟨g, i * 6 + 5, none⟩) (.inr rfl) _
    refine ⟨(hgr.1.mono (T := fun k => p.ownBlock = some k ∨ k = g) (fun i _ h => .inl h)).step ho (fun i _ e => .inr e), ⟨zs.set i (pntU y z1, v'), f, _, _, by rw [List.map_set, h1], hm1.only ho (hm1.ne r1), ownC_set h31 hcv hz (by decide) rfl, hF.only ho (fun k b hb e => ?_), fun k z hk => ?_, fun k hk => ?_, fun t htw => ?_⟩⟩
    · obtain ⟨c2, r2⟩ := ownI_tag (hF.own _) hb
      exact row_apart r1 r2 (by decide) e.symm
    · by_cases e : i = k
      · subst e
        rw [List.getElem?_set_self hi] at hk
        injection hk with hk
        subst hk
        rw [updK_same, updK_same]
        exact ⟨rfl, rfl, own_one hv'⟩
      · rw [List.getElem?_set_ne e] at hk
        rw [updK_other _ _ (by simpa using Ne.symm e), updK_other _ _ (by simpa using Ne.symm e)]
        exact h5 k z hk
    · rw [List.length_set] at hk
      rw [updK_other _ _ (by simp; omega), updK_other _ _ (by simp; omega)]
      exact h6 k hk
    · rw [updK_other _ _ (by simp), updK_other _ _ (by simp)]
      exact h7 t htw
set_option maxRecDepth 100000 in
/-- A task's places are gone. -/
theorem RcS.drop (h : RcS base w M n cv cs ix V) {t : Int} (hw : (Lit.int .i64 t).wf = true) (ty : TypeId) :
    ∃ w2, (Builtin.delete_ #[71, 3] ty #[.map (some M), .int .i64 t]).run Tryz.prog w = .ok (.tuple #[]) w2 ∧ RcS base w2 M n cv cs (updM ix t []) (updM V t (.slice none 0 0)) ∧ Only (· = M) w w2 := by
  obtain ⟨zs, f, F, L, h1, h2, h3, h4, h5, h6, h7⟩ := h
  obtain ⟨w2, hrun, hm2, ho⟩ := h2.del Tryz.underlying71 hw ty
  refine ⟨w2, hrun, ⟨zs, _, _, _, h1, hm2, own_only h3 ho (fun b hb e => ?_), (h4.drop (.inr t)).only ho (fun k b hb e => ?_), fun i z hz => ?_, fun i hi => ?_, fun u hu => ?_⟩, ho⟩
  · obtain ⟨c1, r1⟩ := ownC_tag h3 hb
    exact h2.ne r1 e.symm
  · obtain ⟨c2, r2⟩ := ownI_tag ((h4.drop (.inr t)).own _) hb
    exact h2.ne r2 e.symm
  · rw [updK_other _ _ (by simp), updK_other _ _ (by simp)]; exact h5 i z hz
  · rw [updK_other _ _ (by simp), updK_other _ _ (by simp)]; exact h6 i hi
  · by_cases e : u = t
    · subst e
      rw [updK_same, updK_same, updM_same, updM_same, updM_same]
      exact ⟨rfl, rfl, rfl⟩
    · rw [updK_other _ _ (by simpa using e), updK_other _ _ (by simpa using e), updM_other _ _ e, updM_other _ _ e, updM_other _ _ e]
      exact h7 u hu
theorem RcS.places (h : RcS base w M n cv cs ix V) {t : Int} (hw : (Lit.int .i64 t).wf = true) : OwnI base w (V t) (ix t) := by
  obtain ⟨zs, f, F, L, h1, h2, h3, h4, h5, h6, h7⟩ := h
  obtain ⟨e1, e2, e3⟩ := h7 t hw
  have hown := h4.own (.inr t)
  rw [e2, e3] at hown
  exact hown
theorem ownI_form {w : World} {v : Value} {xs : List Int} (h : OwnI base w v xs) : ∃ A c, v = .slice A xs.length c ∧ Ints w w.heap.size .i64 A xs := by
  rcases h.2 with ⟨rfl, h0⟩ | ⟨g, cap, cur, rfl, _⟩
  · exact ⟨none, 0, by rw [h0], fun hn => by omega⟩
  · exact ⟨_, _, rfl, Ints.of_own h⟩
/-- A call as it lies at the end. -/
structure CalAt (w : World) (b q : Nat) (c : Cal) : Prop where
  c0 : w.cell? ⟨b, q, none⟩ = some (.int .i64 c.t)
  c1 : w.cell? ⟨b, q + 1, none⟩ = some (.int .i64 c.o)
  c2 : w.cell? ⟨b, q + 2, none⟩ = some (.int .i64 c.f)
  c3 : w.cell? ⟨b, q + 3, none⟩ = some (.int .i64 c.g)
  c4 : w.cell? ⟨b, q + 4, none⟩ = some (.int .i64 c.r)
  c5 : ∃ A k, w.cell? ⟨b, q + 5, none⟩ = some (.slice A c.ps.length k) ∧ Ints w w.heap.size .i64 A c.ps
/-- A list of calls. -/
def CalsAt (w : World) (v : Value) (cs : List Cal) : Prop := ∃ A k, v = .slice A cs.length k ∧ ∀ (i : Nat) (c : Cal), cs[i]? = some c → ∃ b q, A = some ⟨b, q, none⟩ ∧ b < w.heap.size ∧ CalAt w b (q + i * 6) c
theorem CalAt.only {b q : Nat} {c : Cal} (h : CalAt w b q c) (ho : Only Nil w w') (hb : b < w.heap.size) : CalAt w' b q c := by
  obtain ⟨A, k, h5, h6⟩ := h.c5
  exact ⟨(ho.cell (p := ⟨b, q, none⟩) hb id).trans h.c0, (ho.cell (p := ⟨b, q + 1, none⟩) hb id).trans h.c1, (ho.cell (p := ⟨b, q + 2, none⟩) hb id).trans h.c2, (ho.cell (p := ⟨b, q + 3, none⟩) hb id).trans h.c3, (ho.cell (p := ⟨b, q + 4, none⟩) hb id).trans h.c4,
    A, k, (ho.cell (p := ⟨b, q + 5, none⟩) hb id).trans h5, (h6.only ho (Nat.le_refl _) (fun _ _ => id)).more ho.size⟩
theorem CalsAt.only {v : Value} (h : CalsAt w v cs) (ho : Only Nil w w') : CalsAt w' v cs := by
  obtain ⟨A, k, e, hc⟩ := h
  exact ⟨A, k, e, fun i c hi => by
    obtain ⟨b, q, e, hb, hcc⟩ := hc i c hi
    exact ⟨b, q, e, Nat.lt_of_lt_of_le hb ho.size, hcc.only ho hb⟩⟩
theorem RcS.cals (h : RcS base w M n cv cs ix V) : CalsAt w cv cs := by
  obtain ⟨A, c, e⟩ := h.form
  refine ⟨A, c, e, fun i x hx => ?_⟩
  obtain ⟨g, c', p, e', hi, ⟨cur, hr, hcs⟩, hp, _⟩ := h.at_ hx
  rw [e'] at e
  injection e with e
  obtain ⟨B, k, rfl, hI⟩ := ownI_form hp
  exact ⟨g, 0, e.symm, hr.lt, ⟨by rw [Nat.zero_add]; exact hr.cell_ (hcs 0 _ rfl), by rw [Nat.zero_add]; exact hr.cell_ (hcs 1 _ rfl), by rw [Nat.zero_add]; exact hr.cell_ (hcs 2 _ rfl), by rw [Nat.zero_add]; exact hr.cell_ (hcs 3 _ rfl), by rw [Nat.zero_add]; exact hr.cell_ (hcs 4 _ rfl), B, k, by rw [Nat.zero_add]; exact hr.cell_ (hcs 5 _ rfl), hI⟩⟩
end
end Go.Proofs.YtigdbokfapedcaaGreat
