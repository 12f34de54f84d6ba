/- Proved: for every input, the law WaitWakes of stilemanlaw07 returns true, and each argument reads behind the call as it read before. Conditions: none. -/
import Derived.Test.YtmhbidokpboomaaRows
import Derived.Test.YtmhbidokpboomaaWaitWakes
import Derived.OpenShut
import Derived.Deep.Slices
import Derived.Deep.Fields
import Derived.ChangeSame
import Derived.ShutString
import Derived.ChangeOld
import Derived.Below
namespace Go.Proofs.Ytmhbidokpboomaa.waitWakes
open Go.ChangeShapes Go.WideShapes Go.ChangeAt Go.RowKit
open Go.ChangeMaps (open_string shut_string)

section
open Go.Deep
variable {H : Type} {enc : TypeId × Value → H} {w : World} {base : Nat} {spare : Nat → Bool} {held : Bool}
theorem field_num {k : IntKind} {t : TypeId} {n : Nat} {l : List Value} {v : Value} {o : Option (DataW H × List MemPlace)} {y : DataW H × List MemPlace} (ht : Try.prog.underlying t = some (.int k)) (hl : l = [v]) (ho : o = some y)
    (h : DataW.trod enc Try.prog w base spare held n t l = o) : ∃ a, v = .int k a ∧ (Lit.int k a).wf = true := by
  subst hl ho
  obtain ⟨a, hc, _, hw⟩ := DataW.trod_int ht h
  simp only [List.cons.injEq, and_true] at hc
  exact ⟨a, hc, hw⟩
set_option maxRecDepth 100000 in
theorem open_until {r : Reach} {b0 : Nat} {v : Value} {d : DataW H} {p : List MemPlace} (hv : Value.okWide Try.prog w r b0 27 v) (h : DataW.Trod enc Try.prog w base spare held 27 v d p) :
    ∃ f0 f1 f2 : Int, v = .agg #[.int .i64 f0, .int .u32 f1, .int .u32 f2] ∧ (Lit.int .i64 f0).wf = true ∧ (Lit.int .u32 f1).wf = true ∧ (Lit.int .u32 f2).wf = true := by
  obtain ⟨cs, rfl, hsz⟩ := okWide_struct Try.underlying27 hv
  have hC : Try.prog.cellsOf 27 = 3 := by kernel_rfl
  obtain ⟨l⟩ := cs
  match l, hsz.trans hC with
  | [v0, v1, v2], _ =>
    obtain ⟨fuel, hf⟩ := h
    obtain ⟨xs, n, _, _, _, hl, hg⟩ := DataW.trod_struct Try.underlying27 hf
    have c_int : Try.prog.cellsOf 3 = 1 := by kernel_rfl
    have c_uint32 : Try.prog.cellsOf 25 = 1 := by kernel_rfl
    have hx : ∀ i, i < 3 → ∃ y, xs[i]? = some y := fun i hi => ⟨_, List.getElem?_eq_getElem (by rw [hl]; exact hi)⟩
    obtain ⟨y0, e0⟩ := hx 0 (by decide)
    obtain ⟨f0, rfl, q0⟩ := field_num (v := v0) Try.underlying3 (by show List.take (Try.prog.cellsOf 3) _ = _; rw [c_int]; rfl) e0 (hg 0 _ rfl)
    obtain ⟨y1, e1⟩ := hx 1 (by decide)
    obtain ⟨f1, rfl, q1⟩ := field_num (v := v1) Try.underlying25 (by show List.take (Try.prog.cellsOf 25) _ = _; rw [c_uint32]; rfl) e1 (hg 1 _ rfl)
    obtain ⟨y2, e2⟩ := hx 2 (by decide)
    obtain ⟨f2, rfl, q2⟩ := field_num (v := v2) Try.underlying25 (by show List.take (Try.prog.cellsOf 25) _ = _; rw [c_uint32]; rfl) e2 (hg 2 _ rfl)
    exact ⟨f0, f1, f2, rfl, q0, q1, q2⟩
end

theorem own : ownKnob Try.prog.godebug = none := by kernel_rfl
theorem laidOut : laidOutB Try.prog = true := by kernel_rfl

set_option maxRecDepth 100000 in
theorem lifted (os : Os) (started : os.Started) (H : Type) (enc : TypeId × Value → H) :
    ReturnsInHanded {} Try.checked os 4 .any (Rows.waitWakesSpec.pre6 enc Try.prog Try.f4 Rows.waitWakesRow.domain false) (Rows.waitWakesSpec.post enc Try.prog Try.f4 false true false false) := by
  refine returnsInHanded_of_change (C := Try.checked) own started (by kernel_rfl) Try.func4
    (ChangeSpec.witness6 (enc := enc) (C := Try.checked) false ⟨#[], #[.slice none 0 0, .agg #[.int .i64 0, .int .u32 0, .int .u32 0]], []⟩ 8 (by kernel_rfl) (by kernel_rfl) (by kernel_rfl) (by kernel_rfl)) ?_
  intro W base args ds gs before hval0 hW _ _
  have hval : ∀ (j : Nat) t v, Try.f4.params[j]? = some t → args[j]? = some v → Value.okWide Try.prog W .any base t v := hval0
  have hW' := hW
  obtain ⟨p, q, hA0, hV, rfl, _, _⟩ := hW
  have hA : DataW.TrodAll enc Try.prog W 0 (fun _ => true) true Try.f4.params.toList args.toList ds p := hA0
  rw [Try.params4] at hA hval
  obtain ⟨v0, vs0, d0, ds0, p0, q0, hargs, rfl, rfl, h0, r0⟩ := trodAll_cons hA
  obtain ⟨v1, vs1, d1, ds1, p1, q1, rfl, rfl, rfl, h1, r1⟩ := trodAll_cons r0
  obtain ⟨rfl, rfl, rfl⟩ := trodAll_nil r1
  obtain rfl : args = #[v0, v1] := by cases args; simp_all
  obtain ⟨rfl, rfl⟩ := trodVars_none hV
  obtain ⟨a0, len0, cap0, rfl⟩ := okWide_slice Try.underlying47 (hval 0 47 v0 rfl rfl)
  have k0 := h0
  have lt0 : ∀ x ∈ p0, x.block < W.heap.size := by obtain ⟨m, hm⟩ := k0; exact DataW.trod_lt m _ _ _ hm
  have w0 : IsDeeds W a0 len0 := by obtain ⟨fuel, hf⟩ := h0; exact isDeeds_of hf
  have k_1 := h1
  have lt1 : ∀ x ∈ p1, x.block < W.heap.size := by obtain ⟨m, hm⟩ := k_1; exact DataW.trod_lt m _ _ _ hm
  obtain ⟨u1x0, u1x1, u1x2, rfl, w1⟩ := open_until (hval 1 27 v1 rfl rfl) h1
  clear hA0 hval0
  refine (walk_waitWakes a0 len0 cap0 u1x0 u1x1 u1x2 W w0 w1).mono fun e W' ⟨he, bel⟩ => ?_
  subst he
  exact ⟨_, rfl, _, _, _, [], _, [], hW', trodAll_mk1 (shut_bool Try.underlying4 _), (trodAll_cons_mk (Below.trod laidOut (by kernel_rfl) (of_decide_eq_true (by kernel_rfl)) k0 bel lt0) (trodAll_cons_mk (Below.trod laidOut (by kernel_rfl) (of_decide_eq_true (by kernel_rfl)) k_1 bel lt1) trodAll_mk0)), rfl, bel.frame _, fun h => by cases h⟩

theorem over : Rows.waitWakesRow.holds Try.pinned (OpenSpec.ofChange Rows.waitWakesSpec) :=
  OpenClaim.holds_of_wide 4 Try.f4 rfl rfl rfl rfl rfl rfl rfl ⟨rfl, rfl, rfl, rfl, rfl⟩ rfl rfl rfl rfl rfl (by kernel_rfl) Try.func4 (by kernel_rfl)
    (of_decide_eq_true (by kernel_rfl)) (by unfold Func.isWrapper; first | (rw [if_pos (by decide +kernel)]; kernel_rfl) | (rw [if_neg (by decide +kernel)]; exact ⟨rfl, rfl⟩))
    (fun os started H enc _ => lifted os started H enc)

/-- The statement. -/
theorem proved : Rows.WaitWakesSaid := over
end Go.Proofs.Ytmhbidokpboomaa.waitWakes
