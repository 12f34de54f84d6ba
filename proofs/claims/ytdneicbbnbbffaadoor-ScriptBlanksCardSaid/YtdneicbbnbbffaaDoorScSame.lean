/- The answer's Same of picks. -/
import Derived.Test.YtdneicbbnbbffaaDoorScK
import Derived.BigQuiet
import Derived.Laws.StructEq
set_option linter.unusedVariables false
set_option linter.unusedSimpArgs false
namespace Go.Proofs.YtdneicbbnbbffaaDoor
open Go.RowKit
theorem neq_pick (t o : Int) (W : World) : (binOp .neq 42 (.agg #[.int .i64 t, .int .i64 o]) (.agg #[.int .i64 t, .int .i64 o])).run Tryd.prog W = .ok (.bool false) W := by
  simp [go_sem]
theorem same_pk (v1 v2 : Value) (zs : List (Int × Int)) (w : World) (h1 : PkAt w v1 zs) (h2 : PkAt w v2 zs) (hm : zs.length ≤ 1048576) :
    Calls Tryd.prog 10 #[v1, v2] w fun e w' => e = .returned (.bool true) ∧ Only Nil w w' := by
  obtain ⟨A1, c1, rfl, hn1⟩ := h1
  obtain ⟨A2, c2, rfl, hn2⟩ := h2
  have H1 := Lib.hid hn1
  have H2 := Lib.hid hn2
  generalize hn : zs.length = n at *
  have HN := Lib.hid hn
  have q0 : (n : Int) ≤ 9223372036854775806 := by omega
  clear hn1 hn2 hn hm
  go_enter Tryd.func10, Tryd.ntmps10
  go_wp2
  go_loopw [5] (fun i wr => ∃ k : Nat, k ≤ n ∧ i = .int .i64 k ∧ Hid (Drew w wr)) (fun i _ => n - (intOf i).toNat)
  case atStart => exact ⟨0, Nat.zero_le _, rfl, Lib.hid (Drew.refl _)⟩
  case round =>
    obtain ⟨k, hk, rfl, HD⟩ := hrel
    by_cases hlt : k < n
    · have q1 : (k : Int) < n := by omega
      have HLT := Lib.hid hlt
      obtain ⟨z, hzk⟩ : ∃ z, zs[k]? = some z := ⟨_, List.getElem?_eq_getElem (by rw [HN.out]; exact hlt)⟩
      obtain ⟨b, q, rfl, hb, x0, x1⟩ := H1.out k z hzk
      obtain ⟨b', q', rfl, hb', y0, y1⟩ := H2.out k z hzk
      have hdo : Only Nil w wr := HD.out.only
      have f0 := (hdo.cell (p := ⟨b, q + k * 2, none⟩) hb id).trans x0
      have f1 := (hdo.cell (p := ⟨b, q + k * 2 + 1, none⟩) hb id).trans x1
      have g0 := (hdo.cell (p := ⟨b', q' + k * 2, none⟩) hb' id).trans y0
      have g1 := (hdo.cell (p := ⟨b', q' + k * 2 + 1, none⟩) hb' id).trans y1
      have hq := fun W => neq_pick z.1 z.2 W
      clear x0 x1 y0 y1 hzk hdo
      go_wp2
      go_quiet (fail)
      go_wp2
      exact ⟨⟨k + 1, by have := HLT.out; omega, by go_num, Lib.hid (HD.out.trans (Drew.n _ _))⟩, by have := HLT.out; simp [intOf]; omega⟩
    · obtain rfl : k = n := by omega
      clear hlt hk
      go_wp2
      go_ret
      exact ⟨rfl, HD.out.only⟩
end Go.Proofs.YtdneicbbnbbffaaDoor
