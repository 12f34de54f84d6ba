/- TfSo. -/
import Derived.Test.YtigdbokfapedcaaGreatB24
import Derived.Test.YtigdbokfapedcaaGreatB13
/- tf.stepOf, the program's: which line it is. -/
set_option linter.unusedVariables false
set_option linter.unusedSimpArgs false
namespace Go.Proofs.YtigdbokfapedcaaGreat
open Go.RowKit
theorem tf_is0 {r : LS} (h : tfCase r.op r.line = 0) : r.tf = r := by unfold LS.tf; rw [h]; rfl
set_option maxRecDepth 100000 in
set_option maxHeartbeats 40000000 in
theorem tf_so (B : Nat) (p A : Option Addr) (cp : Nat) (nv : Value) (r : LS) (w : World) (h : RunP w B p A cp nv r) (hl : r.ns.length ≤ 900) (hx : Words r.xs) : Calls Tryz.prog 44 #[Value.pointer (some ⟨B, 0, none⟩)] w (ClS [178, 181, 183, 184, 188, 179, 182, 185, 187] B p A cp r r.tf w) := by
  obtain ⟨ol, H1⟩ : ∃ ol, Hid (r.op = ol) := ⟨_, Lib.hid rfl⟩
  obtain ⟨ln, H2⟩ : ∃ ln, Hid (r.line = ln) := ⟨_, Lib.hid rfl⟩
  have HX := Lib.hid hx
  have HL := Lib.hid hl
  have e0 := (Only.refl Nil w).alloc (.cells #[Value.pointer (some ⟨B, 0, none⟩)] 99)
  have HP := Lib.hid (h.keep e0)
  have HO := Lib.hid e0
  have HR := Lib.hid (Row.new w 99 #[Value.pointer (some ⟨B, 0, none⟩)])
  clear h hl hx e0
  go_enter Tryz.func44, Tryz.ntmps44
  go_upto_region 1 with (fail)
  generalize w.alloc (.cells #[Value.pointer (some ⟨B, 0, none⟩)] 99) = w1 at *
  generalize w.heap.size = gs at *
  refine wp_region_phase (n := 11) 10 (fun w => w.cell? ⟨gs, 0, none⟩ = some (Value.pointer (some ⟨B, 0, none⟩)) ∧ w.cell? ⟨B, 4, none⟩ = some (.int .i64 ol) ∧ w.cell? ⟨B, 5, none⟩ = some (.int .i64 ln)) rfl (by kernel_rfl) ⟨HR.out.one, by rw [← H1.out]; exact HP.out.row.cell_ (i := 4) rfl, by rw [← H2.out]; exact HP.out.row.cell_ (i := 5) rfl⟩ (fun hHeld => ?_)
  have HP1 := Lib.hid (HP.out.keep (Only.refl Nil w1).drew)
  have HR1 := Lib.hid HR.out.drew
  have HO1 := Lib.hid HO.out.drew
  clear HP HR HO
  generalize w1.drew = w2 at *
  refine zt 0 rfl ?_
  refine za 1 rfl ?_
  refine za 2 rfl ?_
  refine za 3 rfl ?_
  refine zt 4 rfl ?_
  refine zt 5 rfl ?_
  refine za 6 rfl ?_
  refine za 7 rfl ?_
  refine za 8 rfl ?_
  refine zt 9 rfl ?_
  refine mpc 10 rfl (by kernel_rfl) (by rfl) (fun K hK => ?_)
  go_simp
  refine hK.out _ _ (.inl (by kernel_rfl)) ?_
  clear hK K hHeld
  refine wpAnyP_done (by kernel_rfl) ?_ _
  have b0 : w2.cell? ⟨gs, 0, none⟩ = some (Value.pointer (some ⟨B, 0, none⟩)) := HR1.out.one
  by_cases o1 : ol = 1
  · rcases o1 with rfl
    by_cases g : ln = 0
    · rcases g with rfl
      go_wp2_with fail
      refine arm (FS := [178, 181, 183, 184, 188, 179, 182, 185, 187]) (r := r) (r' := r.tf) (draw_make 1 HP1.out HL.out) HO1.out (by unfold LS.tf; rw [H1.out, H2.out]; rfl) (by decide) fun caps w3 H => ?_
      go_wp2
      go_ret
      exact H.out
    by_cases g : ln = 1
    · rcases g with rfl
      go_wp2_with fail
      refine arm (FS := [178, 181, 183, 184, 188, 179, 182, 185, 187]) (r := r) (r' := r.tf) (awaitR_make HP1.out HL.out HX.out) HO1.out (by unfold LS.tf; rw [H1.out, H2.out]; rfl) (by decide) fun caps w3 H => ?_
      go_wp2
      go_ret
      exact H.out
    by_cases g : ln = 2
    · rcases g with rfl
      go_wp2_with fail
      refine arm (FS := [178, 181, 183, 184, 188, 179, 182, 185, 187]) (r := r) (r' := r.tf) (turn_make 1 4 HP1.out HL.out) HO1.out (by unfold LS.tf; rw [H1.out, H2.out]; rfl) (by decide) fun caps w3 H => ?_
      go_wp2
      go_ret
      exact H.out
    go_wp2
    go_ret
    exact .inr ⟨rfl, HO1.out, tf_is0 (by rw [H1.out, H2.out]; exact (by unfold tfCase; repeat (first | rw [if_neg (by omega)])))⟩
  by_cases o2 : ol = 2
  · rcases o2 with rfl
    by_cases g : ln = 0
    · rcases g with rfl
      go_wp2_with fail
      refine arm (FS := [178, 181, 183, 184, 188, 179, 182, 185, 187]) (r := r) (r' := r.tf) (turn_make 2 6 HP1.out HL.out) HO1.out (by unfold LS.tf; rw [H1.out, H2.out]; rfl) (by decide) fun caps w3 H => ?_
      go_wp2
      go_ret
      exact H.out
    go_wp2
    go_ret
    exact .inr ⟨rfl, HO1.out, tf_is0 (by rw [H1.out, H2.out]; exact (by unfold tfCase; repeat (first | rw [if_neg (by omega)])))⟩
  by_cases o3 : ol = 3
  · rcases o3 with rfl
    by_cases g : ln = 0
    · rcases g with rfl
      go_wp2_with fail
      refine arm (FS := [178, 181, 183, 184, 188, 179, 182, 185, 187]) (r := r) (r' := r.tf) (draw_make 2 HP1.out HL.out) HO1.out (by unfold LS.tf; rw [H1.out, H2.out]; rfl) (by decide) fun caps w3 H => ?_
      go_wp2
      go_ret
      exact H.out
    by_cases g : ln = 1
    · rcases g with rfl
      go_wp2_with fail
      refine arm (FS := [178, 181, 183, 184, 188, 179, 182, 185, 187]) (r := r) (r' := r.tf) (awaitW_make HP1.out HL.out HX.out) HO1.out (by unfold LS.tf; rw [H1.out, H2.out]; rfl) (by decide) fun caps w3 H => ?_
      go_wp2
      go_ret
      exact H.out
    go_wp2
    go_ret
    exact .inr ⟨rfl, HO1.out, tf_is0 (by rw [H1.out, H2.out]; exact (by unfold tfCase; repeat (first | rw [if_neg (by omega)])))⟩
  by_cases o4 : ol = 4
  · rcases o4 with rfl
    by_cases g : ln = 0
    · rcases g with rfl
      go_wp2_with fail
      refine arm (FS := [178, 181, 183, 184, 188, 179, 182, 185, 187]) (r := r) (r' := r.tf) (leave_make HP1.out HL.out) HO1.out (by unfold LS.tf; rw [H1.out, H2.out]; rfl) (by decide) fun caps w3 H => ?_
      go_wp2
      go_ret
      exact H.out
    by_cases g : ln = 1
    · rcases g with rfl
      go_wp2_with fail
      refine arm (FS := [178, 181, 183, 184, 188, 179, 182, 185, 187]) (r := r) (r' := r.tf) (turn_make 2 8 HP1.out HL.out) HO1.out (by unfold LS.tf; rw [H1.out, H2.out]; rfl) (by decide) fun caps w3 H => ?_
      go_wp2
      go_ret
      exact H.out
    go_wp2
    go_ret
    exact .inr ⟨rfl, HO1.out, tf_is0 (by rw [H1.out, H2.out]; exact (by unfold tfCase; repeat (first | rw [if_neg (by omega)])))⟩
  by_cases o5 : ol = 5
  · rcases o5 with rfl
    by_cases g : ln = 0
    · rcases g with rfl
      go_wp2_with fail
      refine arm (FS := [178, 181, 183, 184, 188, 179, 182, 185, 187]) (r := r) (r' := r.tf) (look_make HP1.out HL.out) HO1.out (by unfold LS.tf; rw [H1.out, H2.out]; rfl) (by decide) fun caps w3 H => ?_
      go_wp2
      go_ret
      exact H.out
    by_cases g : ln = 1
    · rcases g with rfl
      go_wp2_with fail
      refine arm (FS := [178, 181, 183, 184, 188, 179, 182, 185, 187]) (r := r) (r' := r.tf) (weigh_make 1 0 HP1.out HL.out) HO1.out (by unfold LS.tf; rw [H1.out, H2.out]; rfl) (by decide) fun caps w3 H => ?_
      go_wp2
      go_ret
      exact H.out
    by_cases g : ln = 2
    · rcases g with rfl
      go_wp2_with fail
      refine arm (FS := [178, 181, 183, 184, 188, 179, 182, 185, 187]) (r := r) (r' := r.tf) (claim_make 94 tf_enters_1 (fun r => (r.note 2 1).go 3) ⟨tf_then_1⟩ (g2 := gs) HP1.out HL.out HR1.out) HO1.out (by unfold LS.tf; rw [H1.out, H2.out]; rfl) (by decide) fun caps w3 H => ?_
      go_wp2
      go_ret
      exact H.out
    by_cases g : ln = 3
    · rcases g with rfl
      go_wp2_with fail
      refine arm (FS := [178, 181, 183, 184, 188, 179, 182, 185, 187]) (r := r) (r' := r.tf) (turn_make 1 4 HP1.out HL.out) HO1.out (by unfold LS.tf; rw [H1.out, H2.out]; rfl) (by decide) fun caps w3 H => ?_
      go_wp2
      go_ret
      exact H.out
    go_wp2
    go_ret
    exact .inr ⟨rfl, HO1.out, tf_is0 (by rw [H1.out, H2.out]; exact (by unfold tfCase; repeat (first | rw [if_neg (by omega)])))⟩
  by_cases o6 : ol = 6
  · rcases o6 with rfl
    by_cases g : ln = 0
    · rcases g with rfl
      go_wp2_with fail
      refine arm (FS := [178, 181, 183, 184, 188, 179, 182, 185, 187]) (r := r) (r' := r.tf) (look_make HP1.out HL.out) HO1.out (by unfold LS.tf; rw [H1.out, H2.out]; rfl) (by decide) fun caps w3 H => ?_
      go_wp2
      go_ret
      exact H.out
    by_cases g : ln = 1
    · rcases g with rfl
      go_wp2_with fail
      refine arm (FS := [178, 181, 183, 184, 188, 179, 182, 185, 187]) (r := r) (r' := r.tf) (weigh_make 2 0 HP1.out HL.out) HO1.out (by unfold LS.tf; rw [H1.out, H2.out]; rfl) (by decide) fun caps w3 H => ?_
      go_wp2
      go_ret
      exact H.out
    by_cases g : ln = 2
    · rcases g with rfl
      go_wp2_with fail
      refine arm (FS := [178, 181, 183, 184, 188, 179, 182, 185, 187]) (r := r) (r' := r.tf) (claim_make 96 tf_enters_2 (fun r => ((r.note 2 2).note 4 0).fin true) ⟨tf_then_2⟩ (g2 := gs) HP1.out HL.out HR1.out) HO1.out (by unfold LS.tf; rw [H1.out, H2.out]; rfl) (by decide) fun caps w3 H => ?_
      go_wp2
      go_ret
      exact H.out
    go_wp2
    go_ret
    exact .inr ⟨rfl, HO1.out, tf_is0 (by rw [H1.out, H2.out]; exact (by unfold tfCase; repeat (first | rw [if_neg (by omega)])))⟩
  by_cases o7 : ol = 7
  · rcases o7 with rfl
    by_cases g : ln = 0
    · rcases g with rfl
      go_wp2_with fail
      refine arm (FS := [178, 181, 183, 184, 188, 179, 182, 185, 187]) (r := r) (r' := r.tf) (look_make HP1.out HL.out) HO1.out (by unfold LS.tf; rw [H1.out, H2.out]; rfl) (by decide) fun caps w3 H => ?_
      go_wp2
      go_ret
      exact H.out
    by_cases g : ln = 1
    · rcases g with rfl
      go_wp2_with fail
      refine arm (FS := [178, 181, 183, 184, 188, 179, 182, 185, 187]) (r := r) (r' := r.tf) (weigh_make 2 1 HP1.out HL.out) HO1.out (by unfold LS.tf; rw [H1.out, H2.out]; rfl) (by decide) fun caps w3 H => ?_
      go_wp2
      go_ret
      exact H.out
    by_cases g : ln = 2
    · rcases g with rfl
      go_wp2_with fail
      refine arm (FS := [178, 181, 183, 184, 188, 179, 182, 185, 187]) (r := r) (r' := r.tf) (claim_make 98 tf_enters_3 (fun r => (r.note 9 0).go 3) ⟨tf_then_3⟩ (g2 := gs) HP1.out HL.out HR1.out) HO1.out (by unfold LS.tf; rw [H1.out, H2.out]; rfl) (by decide) fun caps w3 H => ?_
      go_wp2
      go_ret
      exact H.out
    by_cases g : ln = 3
    · rcases g with rfl
      go_wp2_with fail
      refine arm (FS := [178, 181, 183, 184, 188, 179, 182, 185, 187]) (r := r) (r' := r.tf) (back_make HP1.out HL.out) HO1.out (by unfold LS.tf; rw [H1.out, H2.out]; rfl) (by decide) fun caps w3 H => ?_
      go_wp2
      go_ret
      exact H.out
    go_wp2
    go_ret
    exact .inr ⟨rfl, HO1.out, tf_is0 (by rw [H1.out, H2.out]; exact (by unfold tfCase; repeat (first | rw [if_neg (by omega)])))⟩
  by_cases o8 : ol = 8
  · rcases o8 with rfl
    by_cases g : ln = 0
    · rcases g with rfl
      go_wp2_with fail
      refine arm (FS := [178, 181, 183, 184, 188, 179, 182, 185, 187]) (r := r) (r' := r.tf) (turn_make 1 10 HP1.out HL.out) HO1.out (by unfold LS.tf; rw [H1.out, H2.out]; rfl) (by decide) fun caps w3 H => ?_
      go_wp2
      go_ret
      exact H.out
    go_wp2
    go_ret
    exact .inr ⟨rfl, HO1.out, tf_is0 (by rw [H1.out, H2.out]; exact (by unfold tfCase; repeat (first | rw [if_neg (by omega)])))⟩
  go_wp2
  go_ret
  exact .inr ⟨rfl, HO1.out, tf_is0 (by rw [H1.out, H2.out]; exact (by unfold tfCase; repeat (first | rw [if_neg (by omega)])))⟩
end Go.Proofs.YtigdbokfapedcaaGreat
