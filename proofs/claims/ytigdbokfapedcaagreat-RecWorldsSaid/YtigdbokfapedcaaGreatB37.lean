/- FqSo2. -/
import Derived.Test.YtigdbokfapedcaaGreatB35
import Derived.Test.YtigdbokfapedcaaGreatB13
/- fq.stepOf, the program's: which line it is. -/
set_option linter.unusedVariables false
set_option linter.unusedSimpArgs false
namespace Go.Proofs.YtigdbokfapedcaaGreat
open Go.RowKit
set_option maxRecDepth 100000 in
set_option maxHeartbeats 40000000 in
theorem fq_so2 (B : Nat) (p A : Option Addr) (cp : Nat) (nv : Value) (r : LS) (w : World) (h : RunP w B p A cp nv r) (hl : r.ns.length ≤ 900) (hx : Words r.xs) (ha : 0 ≤ r.a ∧ r.a < 4294967296) (ho : r.op = 5 ∨ r.op = 3) : Calls Tryz.prog 60 #[Value.pointer (some ⟨B, 0, none⟩)] w (ClS [213, 215, 219, 214, 216, 222, 217, 221] B p A cp r r.fq w) := by
  have HQ := Lib.hid ho
  clear ho
  obtain ⟨ol, H1⟩ : ∃ ol, Hid (r.op = ol) := ⟨_, Lib.hid rfl⟩
  obtain ⟨ln, H2⟩ : ∃ ln, Hid (r.line = ln) := ⟨_, Lib.hid rfl⟩
  have HX := Lib.hid hx
  have HL := Lib.hid hl
  have HA := Lib.hid ha
  have e0 := (Only.refl Nil w).alloc (.cells #[Value.pointer (some ⟨B, 0, none⟩)] 99)
  have HP := Lib.hid (h.keep e0)
  have HO := Lib.hid e0
  have HR := Lib.hid (Row.new w 99 #[Value.pointer (some ⟨B, 0, none⟩)])
  clear h hl hx ha e0
  go_enter Tryz.func60, Tryz.ntmps60
  go_upto_region 1 with (fail)
  generalize w.alloc (.cells #[Value.pointer (some ⟨B, 0, none⟩)] 99) = w1 at *
  generalize w.heap.size = gs at *
  refine wp_region_phase (n := 11) 10 (fun w => w.cell? ⟨gs, 0, none⟩ = some (Value.pointer (some ⟨B, 0, none⟩)) ∧ w.cell? ⟨B, 4, none⟩ = some (.int .i64 ol) ∧ w.cell? ⟨B, 5, none⟩ = some (.int .i64 ln)) rfl (by kernel_rfl) ⟨HR.out.one, by rw [← H1.out]; exact HP.out.row.cell_ (i := 4) rfl, by rw [← H2.out]; exact HP.out.row.cell_ (i := 5) rfl⟩ (fun hHeld => ?_)
  have HP1 := Lib.hid (HP.out.keep (Only.refl Nil w1).drew)
  have HR1 := Lib.hid HR.out.drew
  have HO1 := Lib.hid HO.out.drew
  clear HP HR HO
  generalize w1.drew = w2 at *
  refine zt 0 rfl ?_
  refine za 1 rfl ?_
  refine za 2 rfl ?_
  refine za 3 rfl ?_
  refine zt 4 rfl ?_
  refine zt 5 rfl ?_
  refine za 6 rfl ?_
  refine za 7 rfl ?_
  refine za 8 rfl ?_
  refine zt 9 rfl ?_
  refine mpc 10 rfl (by kernel_rfl) (by rfl) (fun K hK => ?_)
  go_simp
  refine hK.out _ _ (.inl (by kernel_rfl)) ?_
  clear hK K hHeld
  refine wpAnyP_done (by kernel_rfl) ?_ _
  have b0 : w2.cell? ⟨gs, 0, none⟩ = some (Value.pointer (some ⟨B, 0, none⟩)) := HR1.out.one
  by_cases o5 : ol = 5
  · rcases o5 with rfl
    by_cases g : ln = 5
    · rcases g with rfl
      go_wp2_with fail
      refine arm (FS := [213, 215, 219, 214, 216, 222, 217, 221]) (r := r) (r' := r.fq) (cin_make 6 HP1.out HL.out) HO1.out (by unfold LS.fq; rw [H1.out, H2.out]; rfl) (by decide) fun caps w3 H => ?_
      go_wp2
      go_ret
      exact H.out
    by_cases g : ln = 6 ∨ ln = 7 ∨ ln = 8 ∨ ln = 9
    · rcases g with rfl | rfl | rfl | rfl
      all_goals
        go_wp2_with fail
        refine arm (FS := [213, 215, 219, 214, 216, 222, 217, 221]) (r := r) (r' := r.fq) (give_make 6 true (HP1.out.keep ((Only.refl Nil w2).alloc _)) HL.out HX.out HA.out (whats_1 HP1.out 4) (by decide) (by decide) (by decide)) (HO1.out.alloc _) (by unfold LS.fq; rw [H1.out, H2.out]; rfl) (by decide) fun caps w3 H => ?_
        go_wp2
        go_ret
        exact H.out
    by_cases g : ln = 0 ∨ ln = 1
    · rcases g with rfl | rfl
      all_goals
        go_wp2_with fail
        refine arm (FS := [213, 215, 219, 214, 216, 222, 217, 221]) (r := r) (r' := r.fq) (try_make 1 5 HP1.out HL.out HX.out HA.out) HO1.out (by unfold LS.fq; rw [H1.out, H2.out]; exact qTry_5 H1.out) (by decide) fun caps w3 H => ?_
        go_wp2
        go_ret
        exact H.out
    go_wp2
    go_ret
    exact .inr ⟨rfl, HO1.out, by unfold LS.fq; rw [H1.out, H2.out, show fqCase 5 ln = 4 from (by unfold fqCase; repeat (first | rw [if_neg (by omega)] | rw [if_pos (by omega)]))]; exact qGive_no (a := 6) (by rw [H2.out]; omega) (by rw [H2.out]; omega) (by rw [H2.out]; omega) (by rw [H2.out]; omega)⟩
  by_cases o3 : ol = 3
  · rcases o3 with rfl
    by_cases g : ln = 0 ∨ ln = 1 ∨ ln = 2 ∨ ln = 3 ∨ ln = 4
    · rcases g with rfl | rfl | rfl | rfl | rfl
      all_goals
        go_wp2_with fail
        refine arm (FS := [213, 215, 219, 214, 216, 222, 217, 221]) (r := r) (r' := r.fq) (enter_make 2 HP1.out HL.out HX.out HA.out) HO1.out (by unfold LS.fq; rw [H1.out, H2.out]; rfl) (by decide) fun caps w3 H => ?_
        go_wp2
        go_ret
        exact H.out
    by_cases g : ln = 5
    · rcases g with rfl
      go_wp2_with fail
      refine arm (FS := [213, 215, 219, 214, 216, 222, 217, 221]) (r := r) (r' := r.fq) (await_make HP1.out HL.out HX.out) HO1.out (by unfold LS.fq; rw [H1.out, H2.out]; rfl) (by decide) fun caps w3 H => ?_
      go_wp2
      go_ret
      exact H.out
    go_wp2
    go_ret
    exact .inr ⟨rfl, HO1.out, fq_is0 (by rw [H1.out, H2.out]; exact (by unfold fqCase; repeat (first | rw [if_neg (by omega)])))⟩
  exact absurd HQ.out (by rw [H1.out]; omega)
end Go.Proofs.YtigdbokfapedcaaGreat
