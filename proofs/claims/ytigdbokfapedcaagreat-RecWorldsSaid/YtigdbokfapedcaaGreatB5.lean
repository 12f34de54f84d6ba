/- Phase. -/
import Derived.Deep.RegionHeld3
import Derived.StillTail
/- A region that draws its order: a condition on the world that holds as long as a given operation has not come up (a load may be taken first though its cell is stored into later). -/
namespace Go.Proofs.YtigdbokfapedcaaGreat
open Go
section
variable {P : Program} {ops : Array Oper} {Q : Exit → Act → World → Prop} {md : Region.Mode} {S : World → Prop} {c : Nat}

/-- Whatever order is picked from here on; behind each operation S holds, if number c has not come up. -/
def wpAnyP (P : Program) (md : Region.Mode) (ops : Array Oper) (Q : Exit → Act → World → Prop) (S : World → Prop) (c : Nat) : Nat → Array Bool → Act → World → Prop
  | 0, listed, a, w => Region.ready md ops listed = [] ∧ Q .normal a w
  | fuel + 1, listed, a, w =>
    (Region.ready md ops listed = [] → Q .normal a w) ∧
    ∀ i ∈ Region.ready md ops listed, wpOp P ops Q i (fun a' w' => ((listed.setIfInBounds i true).getD c false = false → S w') ∧ wpAnyP P md ops Q S c fuel (listed.setIfInBounds i true) a' w') a w

theorem wpAny_of_phase : ∀ (fuel : Nat) (listed : Array Bool) (a : Act) (w : World), wpAnyP P md ops Q S c fuel listed a w → wpAny P md ops Q fuel listed a w
  | 0, _, _, _, h => h
  | fuel + 1, _, _, _, h => ⟨h.1, fun i hi => wpOp_mono (fun a' w' h' => wpAny_of_phase fuel _ a' w' h'.2) (h.2 i hi)⟩

/-- What has come up waited for nothing that has not. -/
def closedB (md : Region.Mode) (ops : Array Oper) (listed : Array Bool) : Bool :=
  (List.range ops.size).all fun j => !(listed.getD j false) || (match ops[j]? with | some oj => oj.after.all fun e => !(Region.binds md e) || listed.getD e.on false | none => true)
def Cl (md : Region.Mode) (ops : Array Oper) (listed : Array Bool) : Prop :=
  ∀ j oj, ops[j]? = some oj → listed.getD j false = true → ∀ e ∈ oj.after, Region.binds md e = true → listed.getD e.on false = true
theorem cl_of {listed : Array Bool} (h : closedB md ops listed = true) : Cl md ops listed := by
  intro j oj hj hl e he hb
  have hlt : j < ops.size := (Array.getElem?_eq_some_iff.1 hj).1
  have h1 := List.all_eq_true.1 h j (List.mem_range.2 hlt)
  rw [hl, hj] at h1
  simp only [Bool.not_true, Bool.false_or] at h1
  have h2 := Array.all_eq_true'.1 h1 e he
  simpa [hb] using h2
theorem Cl.set {listed : Array Bool} {i : Nat} (hc : Cl md ops listed) (hi : i ∈ Region.ready md ops listed) : Cl md ops (listed.setIfInBounds i true) := by
  obtain ⟨_, oi, hoi, hall⟩ := mem_ready.1 hi
  intro j oj hj hl e he hb
  by_cases hij : i = j
  · subst hij
    have : oj = oi := Option.some.inj (hj.symm.trans hoi)
    subst this
    exact getD_set_true (hall e he hb)
  · rw [getD_set_ne false hij] at hl
    exact getD_set_true (hc j oj hj hl e he hb)
/-- Number c waits for number i, or for one that waits for it, and so on. -/
def leads (md : Region.Mode) (ops : Array Oper) (c : Nat) : Nat → Nat → Bool
  | 0, _ => false
  | n + 1, i => Region.waitsFor md ops c i || (List.range ops.size).any fun j => Region.waitsFor md ops j i && leads md ops c n j
theorem unlisted {listed : Array Bool} (hc : Cl md ops listed) : ∀ (n i : Nat), leads md ops c n i = true → listed.getD i false = false → listed.getD c false = false ∧ c ∉ Region.ready md ops listed := by
  intro n
  induction n with
  | zero => intro i h; cases h
  | succ n ih =>
    intro i h hu
    rcases Bool.or_eq_true_iff.1 h with h | h
    · obtain ⟨oc, hoc, e, he, hb, hon⟩ := Region.waitsFor_spec h
      refine ⟨?_, fun hr => ?_⟩
      · cases hl : listed.getD c false
        · rfl
        · have := hc c oc hoc hl e he hb
          rw [hon, hu] at this
          cases this
      · obtain ⟨_, oc', hoc', hall⟩ := mem_ready.1 hr
        have : oc' = oc := Option.some.inj (hoc'.symm.trans hoc)
        subst this
        have := hall e he hb
        rw [hon, hu] at this
        cases this
    · obtain ⟨j, _, hj⟩ := List.any_eq_true.1 h
      rw [Bool.and_eq_true] at hj
      obtain ⟨oj, hoj, e, he, hb, hon⟩ := Region.waitsFor_spec hj.1
      refine ih j hj.2 ?_
      cases hl : listed.getD j false
      · rfl
      · have := hc j oj hoj hl e he hb
        rw [hon, hu] at this
        cases this

/-- An operation that yields its value in every world that meets T may be taken first: T is S, and number c waits for it, or T asks nothing. -/
theorem wpAnyP_first {T : World → Prop} {i : Nat} {oi : Oper} {v : Value} (hi : ops[i]? = some oi) (hsel : ∀ (j : Nat) (o : Oper) cs b, ops[j]? = some o → o.op ≠ .select cs b)
    (hQ : ∀ c a w, Q (.panic c) (a.put oi.dst v) w → Q (.panic c) a w)
    (hci : i ≠ c) (hT : ∀ (listed : Array Bool) (w : World), Cl md ops listed → i ∈ Region.ready md ops listed → (listed.getD c false = false → S w) → T w) :
    ∀ (fuel : Nat) (listed : Array Bool) (a : Act) (w : World), Cl md ops listed →
      (∀ j oj, ops[j]? = some oj → j ≠ i → listed.getD j true = false → (∀ e ∈ oj.after, Region.binds md e = true → e.on ≠ i) → oi.apart ops oj = true) →
      i ∈ Region.ready md ops listed → YieldsIf P ops T oi v a → (listed.getD c false = false → S w) →
      wpAnyP P md ops Q S c fuel (listed.setIfInBounds i true) (a.put oi.dst v) w → wpAnyP P md ops Q S c (fuel + 1) listed a w := by
  intro fuel
  have weak : ∀ (listed : Array Bool) (i : Nat), (listed.setIfInBounds i true).getD c false = false → listed.getD c false = false := by
    intro listed i h
    cases hl : listed.getD c false
    · rfl
    · rw [getD_set_true hl] at h; cases h
  induction fuel with
  | zero =>
    intro listed a w hcl _ hr hy hS H
    refine ⟨fun h => (by rw [h] at hr; cases hr), fun j hj => ?_⟩
    by_cases hji : j = i
    · subst hji; exact hy.wpOp hi (hT listed w hcl hr hS) ⟨fun h => hS (weak _ _ h), H⟩
    · have := ready_mono hj hji
      rw [H.1] at this
      cases this
  | succ fuel ih =>
    intro listed a w hcl hfree hr hy hS H
    refine ⟨fun h => (by rw [h] at hr; cases hr), fun j hj => ?_⟩
    by_cases hji : j = i
    · subst hji; exact hy.wpOp hi (hT listed w hcl hr hS) ⟨fun h => hS (weak _ _ h), H⟩
    · have h1 := H.2 j (ready_mono hj hji)
      obtain ⟨hjun, oj, hoj, hall⟩ := mem_ready.1 hj
      have hnot : ∀ e ∈ oj.after, Region.binds md e = true → e.on ≠ i := fun e he hb heq => by
        have h1 := hall e he hb
        have h0 := (mem_ready.1 hr).1
        rw [heq] at h1
        rcases Nat.lt_or_ge i listed.size with h' | h'
        · simp [h'] at h0 h1; rw [h0] at h1; cases h1
        · simp [Array.getElem?_eq_none h'] at h1
      have h2 := wpOp_putIf hoj (hfree j oj hoj hji hjun hnot) (fun cs b => hsel i oi cs b hi) (fun cs b => hsel j oj cs b hoj) hQ hy h1
      have hfree' : ∀ k ok, ops[k]? = some ok → k ≠ i → (listed.setIfInBounds j true).getD k true = false →
          (∀ e ∈ ok.after, Region.binds md e = true → e.on ≠ i) → oi.apart ops ok = true := fun k ok hk hki hun hno => by
        refine hfree k ok hk hki ?_ hno
        by_cases hjk : j = k
        · subst hjk; exact hjun
        · rw [getD_set_ne true hjk] at hun; exact hun
      refine wpOp_mono (fun a' w' h3 => ?_) h2
      have hs : (listed.setIfInBounds j true).getD c false = false → S w' := fun h => h3.2.1 (by rw [Array.setIfInBounds_comm _ _ (Ne.symm hji), getD_set_ne false hci]; exact h)
      refine ⟨hs, ih (listed.setIfInBounds j true) a' w' (hcl.set hj) hfree' (ready_mono hr (Ne.symm hji)) h3.1 hs ?_⟩
      rw [Array.setIfInBounds_comm _ _ hji]
      exact h3.2.2

theorem wp_region_phase {id n : Nat} {a : Act} {w : World} (c : Nat) (S : World → Prop) (hn : ops.size = n) (hm : P.follows .mixedOrders = true) (hS : S w.drew)
    (h : S w.drew → wpAnyP P .any ops Q S c n (List.toArray (List.replicate n false)) a w.drew) : (Code.region id ops true).wp P Q a w := by
  subst hn
  refine wp_region_any hm (wpAny_of_phase (S := S) (c := c) _ _ _ _ ?_)
  have h1 := h hS
  rwa [show List.toArray (List.replicate ops.size false) = Array.replicate ops.size false by simp] at h1

theorem wpAnyP_done {listed : Array Bool} {a : Act} {w : World} (hr : Region.ready md ops listed = []) (h : Q .normal a w) : ∀ fuel, wpAnyP P md ops Q S c fuel listed a w
  | 0 => ⟨hr, h⟩
  | _ + 1 => ⟨fun _ => h, by rw [hr]; simp⟩

/-- Number i, which number c waits for. -/
theorem wpAnyP_take {i : Nat} {oi : Oper} {v : Value} {fuel n : Nat} {listed : Array Bool} {a : Act} {w : World} (hi : ops[i]? = some oi) (hs : Region.noSelect ops = true) (hf : Region.free md ops listed i = true) (hr : (Region.ready md ops listed).contains i = true)
    (hld : leads md ops c n i = true) (hcl : closedB md ops listed = true) (hQ : ∀ c a w, Q (.panic c) (a.put oi.dst v) w → Q (.panic c) a w) (hy : YieldsIf P ops S oi v a) (hS : S w)
    (h : wpAnyP P md ops Q S c fuel (listed.setIfInBounds i true) (a.put oi.dst v) w) : wpAnyP P md ops Q S c (fuel + 1) listed a w := by
  have unl : ∀ {l : Array Bool}, i ∈ Region.ready md ops l → l.getD i false = false := fun h => by
    have h0 := (mem_ready.1 h).1
    rename_i l
    rcases Nat.lt_or_ge i l.size with h' | h'
    · simp [h'] at h0 ⊢; exact h0
    · simp [Array.getElem?_eq_none h'] at h0
  have hri : i ∈ Region.ready md ops listed := by simpa using hr
  have hne : i ≠ c := fun e => by
    have := (unlisted (cl_of hcl) n i hld (unl hri)).2
    rw [← e] at this
    exact this hri
  exact wpAnyP_first (T := S) hi (Region.noSelect_spec hs) hQ hne (fun l w hc hrl hS => hS (unlisted hc n i hld (unl hrl)).1) fuel listed a w (cl_of hcl) (Region.free_spec hi hf) hri hy (fun _ => hS) h

/-- Number i, which yields its value whatever the world. -/
theorem wpAnyP_any {i : Nat} {oi : Oper} {v : Value} {fuel : Nat} {listed : Array Bool} {a : Act} {w : World} (hi : ops[i]? = some oi) (hs : Region.noSelect ops = true) (hf : Region.free md ops listed i = true) (hr : (Region.ready md ops listed).contains i = true)
    (hne : i ≠ c) (hcl : closedB md ops listed = true) (hQ : ∀ c a w, Q (.panic c) (a.put oi.dst v) w → Q (.panic c) a w) (hy : YieldsIf P ops (fun _ => True) oi v a) (hS : listed.getD c false = true ∨ S w)
    (h : wpAnyP P md ops Q S c fuel (listed.setIfInBounds i true) (a.put oi.dst v) w) : wpAnyP P md ops Q S c (fuel + 1) listed a w :=
  wpAnyP_first (T := fun _ => True) hi (Region.noSelect_spec hs) hQ hne (fun _ _ _ _ _ => trivial) fuel listed a w (cl_of hcl) (Region.free_spec hi hf) (by simpa using hr) hy
    (fun h0 => by
      rcases hS with h1 | h1
      · rw [h1] at h0; cases h0
      · exact h1) h

/-- Number i is the one that may come up. -/
theorem wpAnyP_one {i : Nat} {oi : Oper} {fuel : Nat} {listed : Array Bool} {a : Act} {w : World} (hi : ops[i]? = some oi) (hr : Region.ready md ops listed = [i]) (hw : Region.wanted oi (yielded ops a.tmps) = true)
    (h : ∀ K' : Act → World → Prop, Shut (∀ a w, ((listed.setIfInBounds i true).getD c false = true ∨ S w) → wpAnyP P md ops Q S c fuel (listed.setIfInBounds i true) a w → K' a w) → Oper.wp P oi a w K' Q) : wpAnyP P md ops Q S c (fuel + 1) listed a w := by
  refine ⟨fun h0 => (by rw [hr] at h0; cases h0), fun j hj => ?_⟩
  rw [hr] at hj
  obtain rfl : j = i := by simpa using hj
  refine wpOp_step hi (fun K' hK => ?_)
  rw [if_pos hw]
  refine h K' (fun a w hS hW => hK a w ⟨fun h0 => ?_, hW⟩)
  rcases hS with h1 | h1
  · rw [h1] at h0; cases h0
  · exact h1

theorem set_l {l : List Bool} {i : Nat} : (List.toArray l).setIfInBounds i true = List.toArray (l.set i true) := by simp
theorem phase_step {i : Nat} {oi : Oper} {fuel : Nat} {listed : Array Bool} {a : Act} {w : World} (hi : ops[i]? = some oi) (hw : Region.wanted oi (yielded ops a.tmps) = true)
    (h : ∀ K' : Act → World → Prop, Shut (∀ a w, ((listed.setIfInBounds i true).getD c false = true ∨ S w) → wpAnyP P md ops Q S c fuel (listed.setIfInBounds i true) a w → K' a w) → Oper.wp P oi a w K' Q) :
    wpOp P ops Q i (fun a' w' => ((listed.setIfInBounds i true).getD c false = false → S w') ∧ wpAnyP P md ops Q S c fuel (listed.setIfInBounds i true) a' w') a w := by
  refine wpOp_step hi (fun K' hK => ?_)
  rw [if_pos hw]
  refine h K' (fun a w hS hW => hK a w ⟨fun h0 => ?_, hW⟩)
  rcases hS with h1 | h1
  · rw [h1] at h0; cases h0
  · exact h1
/-- Numbers i and j are those that may come up. -/
theorem wpAnyP_two {i j : Nat} {oi oj : Oper} {fuel : Nat} {listed : Array Bool} {a : Act} {w : World} (hi : ops[i]? = some oi) (hj : ops[j]? = some oj) (hr : Region.ready md ops listed = [i, j]) (hwi : Region.wanted oi (yielded ops a.tmps) = true) (hwj : Region.wanted oj (yielded ops a.tmps) = true)
    (h1 : ∀ K' : Act → World → Prop, Shut (∀ a w, ((listed.setIfInBounds i true).getD c false = true ∨ S w) → wpAnyP P md ops Q S c fuel (listed.setIfInBounds i true) a w → K' a w) → Oper.wp P oi a w K' Q)
    (h2 : ∀ K' : Act → World → Prop, Shut (∀ a w, ((listed.setIfInBounds j true).getD c false = true ∨ S w) → wpAnyP P md ops Q S c fuel (listed.setIfInBounds j true) a w → K' a w) → Oper.wp P oj a w K' Q) : wpAnyP P md ops Q S c (fuel + 1) listed a w := by
  refine ⟨fun h0 => (by rw [hr] at h0; cases h0), fun k hk => ?_⟩
  rw [hr] at hk
  rcases List.mem_cons.1 hk with rfl | hk
  · exact phase_step hi hwi h1
  · obtain rfl : k = j := by simpa using hk
    exact phase_step hj hwj h2
/-- Numbers i, j and k are those that may come up. -/
theorem wpAnyP_three {i j k : Nat} {oi oj ok : Oper} {fuel : Nat} {listed : Array Bool} {a : Act} {w : World} (hi : ops[i]? = some oi) (hj : ops[j]? = some oj) (hk : ops[k]? = some ok) (hr : Region.ready md ops listed = [i, j, k]) (hwi : Region.wanted oi (yielded ops a.tmps) = true) (hwj : Region.wanted oj (yielded ops a.tmps) = true) (hwk : Region.wanted ok (yielded ops a.tmps) = true)
    (h1 : ∀ K' : Act → World → Prop, Shut (∀ a w, ((listed.setIfInBounds i true).getD c false = true ∨ S w) → wpAnyP P md ops Q S c fuel (listed.setIfInBounds i true) a w → K' a w) → Oper.wp P oi a w K' Q)
    (h2 : ∀ K' : Act → World → Prop, Shut (∀ a w, ((listed.setIfInBounds j true).getD c false = true ∨ S w) → wpAnyP P md ops Q S c fuel (listed.setIfInBounds j true) a w → K' a w) → Oper.wp P oj a w K' Q)
    (h3 : ∀ K' : Act → World → Prop, Shut (∀ a w, ((listed.setIfInBounds k true).getD c false = true ∨ S w) → wpAnyP P md ops Q S c fuel (listed.setIfInBounds k true) a w → K' a w) → Oper.wp P ok a w K' Q) : wpAnyP P md ops Q S c (fuel + 1) listed a w := by
  refine ⟨fun h0 => (by rw [hr] at h0; cases h0), fun q hq => ?_⟩
  rw [hr] at hq
  rcases List.mem_cons.1 hq with rfl | hq
  · exact phase_step hi hwi h1
  rcases List.mem_cons.1 hq with rfl | hq
  · exact phase_step hj hwj h2
  · obtain rfl : q = k := by simpa using hq
    exact phase_step hk hwk h3
end
section
variable {P : Program} {md : Region.Mode} {Q : Exit → Act → World → Prop} {S : World → Prop} {c fuel n : Nat} {listed : Array Bool} {a : Act} {w : World} {ops : Array Oper} {rest : List Oper}
theorem pd_5_13 {o0 o1 o2 o3 o4 oi o6 o7 o8 o9 o10 o11 o12 oj : Oper} (hops : ops = List.toArray (o0 :: o1 :: o2 :: o3 :: o4 :: oi :: o6 :: o7 :: o8 :: o9 :: o10 :: o11 :: o12 :: oj :: rest)) {b0 b1 b2 b3 b4 b5 b6 b7 b8 b9 b10 b11 b12 b13 : Bool} {brest : List Bool} (hl : listed = List.toArray (b0 :: b1 :: b2 :: b3 :: b4 :: b5 :: b6 :: b7 :: b8 :: b9 :: b10 :: b11 :: b12 :: b13 :: brest)) (hr : Region.ready md ops listed = [5, 13]) (hwoi : Region.wanted oi (yielded ops a.tmps) = true) (hoi : ∀ K' : Act → World → Prop, Shut (∀ a w, ((List.toArray (b0 :: b1 :: b2 :: b3 :: b4 :: true :: b6 :: b7 :: b8 :: b9 :: b10 :: b11 :: b12 :: b13 :: brest)).getD c false = true ∨ S w) → wpAnyP P md ops Q S c fuel (List.toArray (b0 :: b1 :: b2 :: b3 :: b4 :: true :: b6 :: b7 :: b8 :: b9 :: b10 :: b11 :: b12 :: b13 :: brest)) a w → K' a w) → Oper.wp P oi a w K' Q) (hwoj : Region.wanted oj (yielded ops a.tmps) = true) (hoj : ∀ K' : Act → World → Prop, Shut (∀ a w, ((List.toArray (b0 :: b1 :: b2 :: b3 :: b4 :: b5 :: b6 :: b7 :: b8 :: b9 :: b10 :: b11 :: b12 :: true :: brest)).getD c false = true ∨ S w) → wpAnyP P md ops Q S c fuel (List.toArray (b0 :: b1 :: b2 :: b3 :: b4 :: b5 :: b6 :: b7 :: b8 :: b9 :: b10 :: b11 :: b12 :: true :: brest)) a w → K' a w) → Oper.wp P oj a w K' Q) : wpAnyP P md ops Q S c (fuel + 1) listed a w := by
  subst hops hl
  exact wpAnyP_two (i := 5) (j := 13) (oi := oi) (oj := oj) rfl rfl hr hwoi hwoj (by rw [set_l]; exact hoi) (by rw [set_l]; exact hoj)
end
end Go.Proofs.YtigdbokfapedcaaGreat
