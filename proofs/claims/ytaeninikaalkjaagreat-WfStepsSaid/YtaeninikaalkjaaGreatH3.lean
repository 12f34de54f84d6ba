import Derived.Test.YtaeninikaalkjaaGreatH2
namespace Go.Proofs.YtaeninikaalkjaaGreat
open Go
section
variable {P : Program} {ops : Array Oper} {Q : Exit → Act → World → Prop} {md : Region.Mode} {S : World → Prop} {c : Nat}
def freeB (md : Region.Mode) (ops : Array Oper) : Bool :=
  (List.range ops.size).all fun i => match ops[i]? with
    | none => true
    | some oi => (List.range ops.size).all fun j => j == i || match ops[j]? with
      | some oj => oj.after.any (fun e => Region.binds md e && e.on == i) || (oi.after.any (fun e => Region.binds md e && e.on == j) || oi.apart ops oj)
      | none => true
theorem free_all (h : freeB md ops = true) {i : Nat} {oi : Oper} (hi : ops[i]? = some oi) (j : Nat) (oj : Oper) (hj : ops[j]? = some oj) (hne : j ≠ i) (hno : ∀ e ∈ oj.after, Region.binds md e = true → e.on ≠ i) (hni : ∀ e ∈ oi.after, Region.binds md e = true → e.on ≠ j) : oi.apart ops oj = true := by
  have h1 := List.all_eq_true.1 h i (List.mem_range.2 (Array.getElem?_eq_some_iff.1 hi).1)
  rw [hi] at h1
  have h2 := List.all_eq_true.1 h1 j (List.mem_range.2 (Array.getElem?_eq_some_iff.1 hj).1)
  simp only [hj, Bool.or_eq_true, beq_iff_eq, hne, false_or] at h2
  rcases h2 with h2 | h2
  · obtain ⟨e, he, hb⟩ := Array.any_eq_true'.1 h2
    simp only [Bool.and_eq_true, beq_iff_eq] at hb
    exact absurd hb.2 (hno e he hb.1)
  rcases h2 with h2 | h2
  · obtain ⟨e, he, hb⟩ := Array.any_eq_true'.1 h2
    simp only [Bool.and_eq_true, beq_iff_eq] at hb
    exact absurd hb.2 (hni e he hb.1)
  · exact h2
def rdyB (md : Region.Mode) (oi : Oper) (listed : Array Bool) (i : Nat) : Bool := !listed.getD i true && oi.after.all fun e => !Region.binds md e || listed.getD e.on false
theorem rdy_of {listed : Array Bool} {i : Nat} {oi : Oper} (hi : ops[i]? = some oi) (h : rdyB md oi listed i = true) : i ∈ Region.ready md ops listed := by
  simp only [rdyB, Bool.and_eq_true, Bool.not_eq_true'] at h
  refine mem_ready.2 ⟨h.1, oi, hi, fun e he hb => ?_⟩
  have := Array.all_eq_true'.1 h.2 e he
  simpa [hb] using this
theorem free_at {listed : Array Bool} (hf : freeB md ops = true) {i : Nat} {oi : Oper} (hi : ops[i]? = some oi) (hr : rdyB md oi listed i = true) (j : Nat) (oj : Oper) (hj : ops[j]? = some oj) (hne : j ≠ i) (hun : listed.getD j true = false) (hno : ∀ e ∈ oj.after, Region.binds md e = true → e.on ≠ i) : oi.apart ops oj = true := by
  refine free_all hf hi j oj hj hne hno (fun e he hb hon => ?_)
  simp only [rdyB, Bool.and_eq_true] at hr
  have h1 := Array.all_eq_true'.1 hr.2 e he
  simp only [hb, Bool.not_true, Bool.false_or, hon] at h1
  rcases Nat.lt_or_ge j listed.size with h' | h'
  · simp [h'] at hun h1; rw [hun] at h1; cases h1
  · simp [Array.getElem?_eq_none h'] at hun
theorem wpAnyP_qa {i : Nat} {oi : Oper} {v : Value} {fuel : Nat} {listed : Array Bool} {a : Act} {w : World} (hi : ops[i]? = some oi) (hs : Region.noSelect ops = true) (hf : freeB md ops = true) (hC : Cl md ops listed) (hr : rdyB md oi listed i = true)
    (hne : i ≠ c) (hQ : ∀ c a w, Q (.panic c) (a.put oi.dst v) w → Q (.panic c) a w) (hy : YieldsIf P ops (fun _ => True) oi v a) (hS : listed.getD c false = true ∨ S w)
    (h : Cl md ops (listed.setIfInBounds i true) → wpAnyP P md ops Q S c fuel (listed.setIfInBounds i true) (a.put oi.dst v) w) : wpAnyP P md ops Q S c (fuel + 1) listed a w :=
  wpAnyP_first (T := fun _ => True) hi (Region.noSelect_spec hs) hQ hne (fun _ _ _ _ _ => trivial) fuel listed a w hC (fun j oj hj hji hun hno => free_at hf hi hr j oj hj hji hun hno) (rdy_of hi hr) hy
    (fun h0 => by
      rcases hS with h1 | h1
      · rw [h1] at h0; cases h0
      · exact h1) (h (hC.set (rdy_of hi hr)))
theorem wpAnyP_qt {i : Nat} {oi : Oper} {v : Value} {fuel n : Nat} {listed : Array Bool} {a : Act} {w : World} (hi : ops[i]? = some oi) (hs : Region.noSelect ops = true) (hf : freeB md ops = true) (hC : Cl md ops listed) (hr : rdyB md oi listed i = true)
    (hld : leads md ops c n i = true) (hQ : ∀ c a w, Q (.panic c) (a.put oi.dst v) w → Q (.panic c) a w) (hy : YieldsIf P ops S oi v a) (hS : S w)
    (h : Cl md ops (listed.setIfInBounds i true) → wpAnyP P md ops Q S c fuel (listed.setIfInBounds i true) (a.put oi.dst v) w) : wpAnyP P md ops Q S c (fuel + 1) listed a w := by
  have unl : ∀ {l : Array Bool}, i ∈ Region.ready md ops l → l.getD i false = false := fun h => by
    have h0 := (mem_ready.1 h).1
    rename_i l
    rcases Nat.lt_or_ge i l.size with h' | h'
    · simp [h'] at h0 ⊢; exact h0
    · simp [Array.getElem?_eq_none h'] at h0
  have hri := rdy_of hi hr
  have hne : i ≠ c := fun e => by
    have := (unlisted hC n i hld (unl hri)).2
    rw [← e] at this
    exact this hri
  exact wpAnyP_first (T := S) hi (Region.noSelect_spec hs) hQ hne (fun l w hc hrl hS => hS (unlisted hc n i hld (unl hrl)).1) fuel listed a w hC (fun j oj hj hji hun hno => free_at hf hi hr j oj hj hji hun hno) hri hy (fun _ => hS) (h (hC.set hri))
theorem wpAnyP_qc {i : Nat} {oi : Oper} {fuel : Nat} {listed : Array Bool} {a : Act} {w : World} (hi : ops[i]? = some oi) (hC : Cl md ops listed) (hr : Region.ready md ops listed = [i]) (hw : Region.wanted oi (yielded ops a.tmps) = true)
    (h : ∀ K' : Act → World → Prop, Shut (∀ a w, ((listed.setIfInBounds i true).getD c false = true ∨ S w) → (Cl md ops (listed.setIfInBounds i true) → wpAnyP P md ops Q S c fuel (listed.setIfInBounds i true) a w) → K' a w) → Oper.wp P oi a w K' Q) : wpAnyP P md ops Q S c (fuel + 1) listed a w :=
  wpAnyP_one hi hr hw (fun K' hK => h K' (fun a w hS hW => hK a w hS (hW (hC.set (by rw [hr]; exact .head _)))))
def pathB (md : Region.Mode) (ops : Array Oper) (c : Nat) : Nat → List Nat → Bool
  | i, [] => Region.waitsFor md ops c i
  | i, j :: r => Region.waitsFor md ops j i && pathB md ops c j r
theorem path_leads : ∀ (l : List Nat) (i : Nat), pathB md ops c i l = true → leads md ops c (l.length + 1) i = true
  | [], i, h => by simp only [leads, Bool.or_eq_true]; exact .inl h
  | j :: r, i, h => by
    simp only [pathB, Bool.and_eq_true] at h
    obtain ⟨oj, hj, _⟩ := Region.waitsFor_spec h.1
    have hlt : j < ops.size := (Array.getElem?_eq_some_iff.1 hj).1
    show leads md ops c (r.length + 1 + 1) i = true
    unfold leads
    rw [Bool.or_eq_true]
    exact .inr (List.any_eq_true.2 ⟨j, List.mem_range.2 hlt, by rw [h.1, path_leads r j h.2]; rfl⟩)
theorem with_cl {n : Nat} {a : Act} {w : World} (h : Cl md ops (List.toArray (List.replicate n false)) → wpAnyP P md ops Q S c n (List.toArray (List.replicate n false)) a w) : wpAnyP P md ops Q S c n (List.toArray (List.replicate n false)) a w := h (fun j oj _ hl => by
  rw [show List.toArray (List.replicate n false) = Array.replicate n false by simp, getD_replicate_false] at hl
  cases hl)
end
section
variable {P : Program} {md : Region.Mode} {Q : Exit → Act → World → Prop} {S : World → Prop} {c fuel n : Nat} {listed : Array Bool} {a : Act} {w : World} {ops : Array Oper} {rest : List Oper}
end
end Go.Proofs.YtaeninikaalkjaaGreat
