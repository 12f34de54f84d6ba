/- Proved: for every input, the law WakeSteps of stilemanlaw08 returns true, and each argument reads behind the call as it read before. Conditions: none. -/
import Derived.Test.YtjdgniconbocnaaRows
import Derived.Test.YtjdgniconbocnaaWakeSteps
import Derived.OpenShut
import Derived.Deep.Slices
import Derived.Deep.Fields
import Derived.ChangeSame
import Derived.ShutString
import Derived.ChangeOld
import Derived.Below
namespace Go.Proofs.Ytjdgniconbocnaa.wakeSteps
open Go.ChangeShapes Go.WideShapes Go.ChangeAt Go.RowKit
open Go.ChangeMaps (open_string shut_string)

section
open Go.Deep
variable {H : Type} {enc : TypeId × Value → H} {w : World} {base : Nat} {spare : Nat → Bool} {held : Bool}
theorem field_num {k : IntKind} {t : TypeId} {n : Nat} {l : List Value} {v : Value} {o : Option (DataW H × List MemPlace)} {y : DataW H × List MemPlace} (ht : Try.prog.underlying t = some (.int k)) (hl : l = [v]) (ho : o = some y)
    (h : DataW.trod enc Try.prog w base spare held n t l = o) : ∃ a, v = .int k a ∧ (Lit.int k a).wf = true := by
  subst hl ho
  obtain ⟨a, hc, _, hw⟩ := DataW.trod_int ht h
  simp only [List.cons.injEq, and_true] at hc
  exact ⟨a, hc, hw⟩
theorem field_bool {t : TypeId} {n : Nat} {l : List Value} {v : Value} {o : Option (DataW H × List MemPlace)} {y : DataW H × List MemPlace} (ht : Try.prog.underlying t = some .bool) (hl : l = [v]) (ho : o = some y)
    (h : DataW.trod enc Try.prog w base spare held n t l = o) : ∃ a, v = .bool a := by
  subst hl ho
  obtain ⟨a, hc, _⟩ := DataW.trod_bool ht h
  simp only [List.cons.injEq, and_true] at hc
  exact ⟨a, hc⟩
set_option maxRecDepth 100000 in
theorem open_wake {r : Reach} {b0 : Nat} {v : Value} {d : DataW H} {p : List MemPlace} (hv : Value.okWide Try.prog w r b0 24 v) (h : DataW.Trod enc Try.prog w base spare held 24 v d p) :
    ∃ (f0 : Bool) (f1 : Int) (f2 : Int) (f3 : Bool), v = .agg #[.bool f0, .int .i64 f1, .int .i64 f2, .bool f3] ∧ (Lit.int .i64 f1).wf = true ∧ (Lit.int .i64 f2).wf = true := by
  obtain ⟨cs, rfl, hsz⟩ := okWide_struct Try.underlying24 hv
  have hC : Try.prog.cellsOf 24 = 4 := by kernel_rfl
  obtain ⟨l⟩ := cs
  match l, hsz.trans hC with
  | [v0, v1, v2, v3], _ =>
    obtain ⟨fuel, hf⟩ := h
    obtain ⟨xs, n, _, _, _, hl, hg⟩ := DataW.trod_struct Try.underlying24 hf
    have c_bool : Try.prog.cellsOf 4 = 1 := by kernel_rfl
    have c_int : Try.prog.cellsOf 3 = 1 := by kernel_rfl
    have hx : ∀ i, i < 4 → ∃ y, xs[i]? = some y := fun i hi => ⟨_, List.getElem?_eq_getElem (by rw [hl]; exact hi)⟩
    obtain ⟨y0, e0⟩ := hx 0 (by decide)
    obtain ⟨f0, rfl⟩ := field_bool (v := v0) Try.underlying4 (by show List.take (Try.prog.cellsOf 4) _ = _; rw [c_bool]; rfl) e0 (hg 0 _ rfl)
    obtain ⟨y1, e1⟩ := hx 1 (by decide)
    obtain ⟨f1, rfl, q1⟩ := field_num (v := v1) Try.underlying3 (by show List.take (Try.prog.cellsOf 3) _ = _; rw [c_int]; rfl) e1 (hg 1 _ rfl)
    obtain ⟨y2, e2⟩ := hx 2 (by decide)
    obtain ⟨f2, rfl, q2⟩ := field_num (v := v2) Try.underlying3 (by show List.take (Try.prog.cellsOf 3) _ = _; rw [c_int]; rfl) e2 (hg 2 _ rfl)
    obtain ⟨y3, e3⟩ := hx 3 (by decide)
    obtain ⟨f3, rfl⟩ := field_bool (v := v3) Try.underlying4 (by show List.take (Try.prog.cellsOf 4) _ = _; rw [c_bool]; rfl) e3 (hg 3 _ rfl)
    exact ⟨f0, f1, f2, f3, rfl, q1, q2⟩
end

theorem own : ownKnob Try.prog.godebug = none := by kernel_rfl
theorem laidOut : laidOutB Try.prog = true := by kernel_rfl

set_option maxRecDepth 100000 in
theorem lifted (os : Os) (started : os.Started) (H : Type) (enc : TypeId × Value → H) :
    ReturnsInHanded {} Try.checked os 3 .any (Rows.wakeStepsSpec.pre6 enc Try.prog Try.f3 Rows.wakeStepsRow.domain false) (Rows.wakeStepsSpec.post enc Try.prog Try.f3 false true false false) := by
  refine returnsInHanded_of_change (C := Try.checked) own started (by kernel_rfl) Try.func3
    (ChangeSpec.witness6 (enc := enc) (C := Try.checked) false ⟨#[], #[.slice none 0 0, .int .i64 0, .int .i64 0, .agg #[.bool false, .int .i64 0, .int .i64 0, .bool false]], []⟩ 8 (by kernel_rfl) (by kernel_rfl) (by kernel_rfl) (by kernel_rfl)) ?_
  intro W base args ds gs before hval0 hW _ _
  have hval : ∀ (j : Nat) t v, Try.f3.params[j]? = some t → args[j]? = some v → Value.okWide Try.prog W .any base t v := hval0
  have hW' := hW
  obtain ⟨p, q, hA0, hV, rfl, _, _⟩ := hW
  have hA : DataW.TrodAll enc Try.prog W 0 (fun _ => true) true Try.f3.params.toList args.toList ds p := hA0
  rw [Try.params3] at hA hval
  obtain ⟨v0, vs0, d0, ds0, p0, q0, hargs, rfl, rfl, h0, r0⟩ := trodAll_cons hA
  obtain ⟨v1, vs1, d1, ds1, p1, q1, rfl, rfl, rfl, h1, r1⟩ := trodAll_cons r0
  obtain ⟨v2, vs2, d2, ds2, p2, q2, rfl, rfl, rfl, h2, r2⟩ := trodAll_cons r1
  obtain ⟨v3, vs3, d3, ds3, p3, q3, rfl, rfl, rfl, h3, r3⟩ := trodAll_cons r2
  obtain ⟨rfl, rfl, rfl⟩ := trodAll_nil r3
  obtain rfl : args = #[v0, v1, v2, v3] := by cases args; simp_all
  obtain ⟨rfl, rfl⟩ := trodVars_none hV
  obtain ⟨a0, len0, cap0, rfl⟩ := okWide_slice Try.underlying22 (hval 0 22 v0 rfl rfl)
  have k0 := h0
  have lt0 : ∀ x ∈ p0, x.block < W.heap.size := by obtain ⟨m, hm⟩ := k0; exact DataW.trod_lt m _ _ _ hm
  obtain ⟨z0, w0⟩ : ∃ zs, IsRow .u32 W a0 len0 cap0 zs := by
    obtain ⟨fuel, hf⟩ := h0
    rcases open_ints Try.underlying22 Try.underlying31 (by kernel_rfl) hf with ⟨hcs, _⟩ | ⟨x, l, c, zs, hcs, _, hl, _, hz, _, hcell, hwz⟩
    · simp [Value.cells] at hcs
      obtain ⟨rfl, rfl, rfl⟩ := hcs
      exact ⟨[], isRow_nil⟩
    · simp [Value.cells] at hcs
      obtain ⟨rfl, rfl, rfl⟩ := hcs
      exact ⟨_, isRow_of hl (by simpa using hz) hcell hwz⟩
  obtain ⟨a1, rfl, rfl, rfl, w1⟩ := open_int Try.underlying3 (hval 1 3 v1 rfl rfl) h1
  obtain ⟨a2, rfl, rfl, rfl, w2⟩ := open_int Try.underlying3 (hval 2 3 v2 rfl rfl) h2
  have k_3 := h3
  have lt3 : ∀ x ∈ p3, x.block < W.heap.size := by obtain ⟨m, hm⟩ := k_3; exact DataW.trod_lt m _ _ _ hm
  obtain ⟨u3x0, u3x1, u3x2, u3x3, rfl, w3⟩ := open_wake (hval 3 24 v3 rfl rfl) h3
  clear hA0 hval0
  refine (walk_wakeSteps a0 len0 cap0 z0 a1 a2 u3x0 u3x1 u3x2 u3x3 W w0 w1 w2 w3).mono fun e W' ⟨he, bel⟩ => ?_
  subst he
  exact ⟨_, rfl, _, _, _, [], _, [], hW', trodAll_mk1 (shut_bool Try.underlying4 _), (trodAll_cons_mk (Below.trod laidOut (by kernel_rfl) (of_decide_eq_true (by kernel_rfl)) k0 bel lt0) (trodAll_cons_mk (shut_int Try.underlying3 w1) (trodAll_cons_mk (shut_int Try.underlying3 w2) (trodAll_cons_mk (Below.trod laidOut (by kernel_rfl) (of_decide_eq_true (by kernel_rfl)) k_3 bel lt3) trodAll_mk0)))), rfl, bel.frame _, fun h => by cases h⟩

theorem over : Rows.wakeStepsRow.holds Try.pinned (OpenSpec.ofChange Rows.wakeStepsSpec) :=
  OpenClaim.holds_of_wide 3 Try.f3 rfl rfl rfl rfl rfl rfl rfl ⟨rfl, rfl, rfl, rfl, rfl⟩ rfl rfl rfl rfl rfl (by kernel_rfl) Try.func3 (by kernel_rfl)
    (of_decide_eq_true (by kernel_rfl)) (by unfold Func.isWrapper; first | (rw [if_pos (by decide +kernel)]; kernel_rfl) | (rw [if_neg (by decide +kernel)]; exact ⟨rfl, rfl⟩))
    (fun os started H enc _ => lifted os started H enc)

/-- The statement. -/
theorem proved : Rows.WakeStepsSaid := over
end Go.Proofs.Ytjdgniconbocnaa.wakeSteps
