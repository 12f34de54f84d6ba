/- A script's lines, gone through by a function. -/
import Derived.Test.YtdneicbbnbbffaaDoorScCut
import Derived.RangeFuncNested
import Derived.RangeFuncBound
import Derived.RangeFuncCalls
import Derived.RangeFuncLeaves
import Derived.Shelf.Abstract
import Derived.Shelf.RegionOpen
import Derived.WalkKit
import Derived.OwnWalkIn
import Derived.TacticsInMore
import Derived.LoopNIn
import Derived.LoopIn
namespace Go.Proofs.YtdneicbbnbbffaaDoor
open Go.RowKit Go.Shelf
set_option linter.unusedVariables false
set_option linter.unusedSimpArgs false
attribute [local go_sem] Oper.semAt_some
theorem Only.grownBy {w w' : World} (h : Only Nil w w') : w.grownBy w' none := ⟨h.os, h.tape, h.output, h.size, fun k hk _ => h.block k hk id⟩
theorem Only.bel {w w' : World} (h : Only Nil w w') {B : Nat} (hB : B ≤ w.heap.size) : Below B w w' := h.below hB (fun _ _ => id)
theorem bel_only {w w' : World} (h : Below w.heap.size w w') : Only Nil w w' := Only.of_below h (fun k h1 h2 => absurd h1 (by omega))
/-- Lines with their numbers. -/
def numb : Nat → List Bs → List (Nat × Bs)
  | _, [] => []
  | k, l :: ls => (k, l) :: numb (k + 1) ls
def strLen : Value → Nat
  | .string s => s.size
  | _ => 0
theorem lines_any (l : Bs) (w : World) : Calls Tryd.prog 16 #[.string (bs l)] w fun e w' => e = .returned (.func (.func 30) #[] #[.pointer (some ⟨w.heap.size, 0, none⟩)]) ∧ w' = w.alloc (.cells #[.string (bs l)] 9) := by
  go_enter Tryd.func16, Tryd.ntmps16
  go_wp2
  go_ret
  exact ⟨rfl, rfl⟩
set_option maxRecDepth 100000 in
set_option maxHeartbeats 2000000 in
theorem lines1_in (n l Bn : Nat) (t : Bs) (w0 : World) (hL : LiesS w0) (hn : 1 ≤ n) (ht : t.length ≤ 100000) (J Jx : List (Nat × Bs) → World → Prop) (W : World) (hJ : AbidesFrom W.heap.size J)
    (hY : ∀ pre x W1, J pre W1 → pre.length < t.length → YieldAt Fence.wide (n - 1) Tryd.prog l #[.int .i64 (x.1 : Int), .string (bs (sh x.2))] W1 fun e W' =>
      (e = .returned (.bool true) ∧ J (pre ++ [x]) W' ∧ Below w0.heap.size W1 W') ∨ (e = .returned (.bool false) ∧ Jx (pre ++ [x]) W'))
    (hW : Below w0.heap.size w0 W) (hBn : W.cell? ⟨Bn, 0, none⟩ = some (.string (bs t))) (h0 : J [] W) :
    CallsIn Fence.wide n Tryd.prog 30 #[.func (.yield l) #[] #[], .pointer (some ⟨Bn, 0, none⟩)] W fun e W' => (∃ v, e = .returned v) ∧
      ((∃ ys, ys = numb 1 (lineL t) ∧ J ys W') ∨ (∃ pre, pre <+: numb 1 (lineL t) ∧ Jx pre W')) := by
  have HY := Lib.hid hY
  have HL := Lib.hid hL
  have HJ := Lib.hid hJ
  clear hY hL hJ
  refine callsIn_of_wp Tryd.func30 rfl trivial ?_ rfl
  simp only [Tryd.ntmps30, List.size_toArray, List.length_cons, List.length_nil, Nat.reduceAdd, Nat.reduceSub, Array.replicate_succ, Array.replicate_zero, List.push_toArray, List.append_toArray, List.nil_append, List.cons_append]
  gi_wp2
  gi_loopw [3, 4] (fun r k wr => ∃ (pre : List (Nat × Bs)) (rest : Bs) (j : Nat), r = .string (bs rest) ∧ k = .int .i64 j ∧ Hid (numb 1 (lineL t) = pre ++ numb j (lineL rest)) ∧ rest.length + pre.length ≤ t.length ∧ Hid (j = pre.length + 1) ∧ Hid (J pre wr) ∧ Hid (Below w0.heap.size w0 wr ∧ W.heap.size ≤ wr.heap.size))
    (fun r _ _ => strLen r)
  case atStart =>
    exact ⟨[], t, 1, rfl, rfl, Lib.hid rfl, by simp, Lib.hid rfl, Lib.hid h0, Lib.hid ⟨hW, Nat.le_refl _⟩⟩
  case round =>
    obtain ⟨pre, rest, j, rfl, rfl, HX, hlen, HJ0, HJs, HB⟩ := hrel
    by_cases hr : rest = []
    · obtain ⟨q1, q2⟩ := em_yes hr
      have HE : Hid (numb 1 (lineL t) = pre) := Lib.hid (by rw [HX.out, hr]; simp [lineL, numb])
      clear hr
      gi_wp2
      go_end0
      exact ⟨⟨_, rfl⟩, .inl ⟨_, HE.out.symm, HJs.out⟩⟩
    · obtain ⟨q1, q2⟩ := em_no hr
      have HC := Lib.hid (scut_any 10 rest wr (by omega) (HL.out.only (bel_only HB.out.1)))
      have HS := Lib.hid (lineL_step hr)
      have hd := dw_len 10 rest
      have hp : 0 < rest.length := List.length_pos_iff.2 hr
      clear hr
      gi_wp2_with (refine ⟨trivial, ?_⟩; gi_at_call 31; refine (callsIn_wide.2 HC.out).mono ?_; rintro e w2 ⟨⟨f, rfl⟩, hO⟩; have HO := Lib.hid hO; have HJ2 := Lib.hid (HJ.out _ _ _ none HJs.out hO.grownBy (fun r e => by cases e)); clear hO HC HJs; obtain ⟨fn, tmps, assign, body, hy, hR⟩ := HY.out pre (j, tw 10 rest) w2 HJ2.out (by omega); dsimp only at hy; rw [sh_id (by have := tw_len 10 rest; omega)] at hy; have HR := Lib.hid hR; clear hR)
      refine HR.out.mono ?_
      rintro e w3 (⟨rfl, hJ3, hk3⟩ | ⟨rfl, hJx3⟩)
      · have HJ3 := Lib.hid hJ3
        have HB3 := Lib.hid ((HB.out.1.trans (HO.out.bel HB.out.1.size)).trans hk3)
        have hk4 := hk3.size
        clear hJ3 hk3
        gi_wp2
        go_roundw
        case rel =>
          exact ⟨pre ++ [(j, tw 10 rest)], dw 10 rest, j + 1, rfl, by have hj := HJ0.out; have : (j : Int) < 200000 := (by omega); exact congrArg _ (show wrap64 _ = _ by unfold wrap64; omega), Lib.hid (by rw [HX.out, HS.out]; simp [numb]), by simp; omega, Lib.hid (by rw [HJ0.out]; simp), HJ3, Lib.hid ⟨HB3.out, Nat.le_trans HB.out.2 (Nat.le_trans HO.out.size hk4)⟩⟩
        case measure =>
          show (bs (dw 10 rest)).size < (bs rest).size
          rw [bs_size, bs_size]; omega
      · gi_wp2
        refine bodyPost_ret (results_none rfl _ _ _) rfl ?_
        exact ⟨⟨_, rfl⟩, .inr ⟨_, by rw [HX.out, HS.out]; exact ⟨numb (j + 1) (lineL (dw 10 rest)), by simp [numb]⟩, hJx3⟩⟩
theorem numb_len : ∀ (k : Nat) (ls : List Bs), (numb k ls).length = ls.length
  | _, [] => rfl
  | k, l :: ls => by simp [numb, numb_len (k + 1) ls]
theorem numb_snd : ∀ (k : Nat) (ls : List Bs), (numb k ls).map (·.2) = ls
  | _, [] => rfl
  | k, l :: ls => by simp [numb, numb_snd (k + 1) ls]
theorem lines_stops (n Bn : Nat) (t : Bs) (w0 w : World) (hL : LiesS w0) (hn : 1 ≤ n) (ht : t.length ≤ 100000) (hb : Below w0.heap.size w0 w) (hBn : w.cell? ⟨Bn, 0, none⟩ = some (.string (bs t))) :
    SeqStopsK Fence.wide n Tryd.prog 30 #[.pointer (some ⟨Bn, 0, none⟩)] (fun x : Nat × Bs => #[Value.int .i64 (x.1 : Int), Value.string (bs (sh x.2))]) (Below w0.heap.size) (fun ys => ys = numb 1 (lineL t)) (fun pre => pre <+: numb 1 (lineL t)) t.length w := fun l J Jx W hW hJ _ hY h0 =>
  lines1_in n l Bn t w0 hL hn ht J Jx W hJ hY (hb.trans (hW.mono hb.size)) ((hW.cell (p := ⟨Bn, 0, none⟩) (World.block_lt_of_cell? _ _ hBn)).trans hBn) h0
end Go.Proofs.YtdneicbbnbbffaaDoor
