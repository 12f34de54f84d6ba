import Derived.Test.YtkmkeleifkkbnaaGreatH28
import Derived.Test.YtkmkeleifkkbnaaGreatH30
import Derived.Test.YtkmkeleifkkbnaaGreatH27
import Derived.Test.YtkmkeleifkkbnaaGreatH31
import Derived.Test.YtkmkeleifkkbnaaGreatH32
set_option linter.unusedVariables false
set_option linter.unusedSimpArgs false
namespace Go.Proofs.YtkmkeleifkkbnaaGreat
open Go.RowKit
set_option maxRecDepth 100000 in
set_option maxHeartbeats 4000000 in
theorem rfr_none (B base : Nat) (A : Option Addr) (l cp : Nat) (nv : Value) (r : LS) (w : World) (h : RunR w B base A l cp nv r) (hl : r.ns.length ≤ 900) (hx : Words r.xs) (op ln : Int) (hi : (op, ln) ∈ [(1, 2), (2, 1), (2, 2), (4, 1), (4, 2), (5, 2), (6, 2), (7, 2), (8, 1), (8, 2)]) (h1 : r.op = op) (h2 : r.line = ln) :
    Calls Tryz.prog 10 #[Value.pointer (some ⟨B, 0, none⟩)] w (DoneR B base A l cp w (.tuple #[]) r) := by
  have H1 := Lib.hid h1
  have H2 := Lib.hid h2
  clear h1 h2
  simp only [List.mem_cons, List.not_mem_nil, or_false, Prod.mk.injEq] at hi
  rcases hi with ⟨rfl, rfl⟩ | ⟨rfl, rfl⟩ | ⟨rfl, rfl⟩ | ⟨rfl, rfl⟩ | ⟨rfl, rfl⟩ | ⟨rfl, rfl⟩ | ⟨rfl, rfl⟩ | ⟨rfl, rfl⟩ | ⟨rfl, rfl⟩ | ⟨rfl, rfl⟩
  · skip
    have HX := Lib.hid hx
    have HL := Lib.hid hl
    have HH := Lib.hid h
    clear h hl hx
    have c4 : w.cell? ⟨B, 4, none⟩ = some (.int .i64 (1)) := by rw [← H1.out]; exact HH.out.row.cell_ (i := 4) rfl
    have c5 : w.cell? ⟨B, 5, none⟩ = some (.int .i64 (2)) := by rw [← H2.out]; exact HH.out.row.cell_ (i := 5) rfl
    go_enter Tryz.func10, Tryz.ntmps10
    go_upto_region 3 with (fail)
    have hw1 : IntKind.i64.wrap (10) = 10 := rfl
    have hw2 : IntKind.i64.wrap (12) = 12 := rfl
    refine wp_region_phase (n := 10) 9 (fun w => w.cell? ⟨B, 4, none⟩ = some (.int .i64 (1)) ∧ w.cell? ⟨B, 5, none⟩ = some (.int .i64 (2))) rfl (by kernel_rfl) ⟨c4, c5⟩ (fun hHeld => ?_)
    have HP0 := Lib.hid (HH.out.keep (Only.refl Nil w).drew)
    have HO0 := Lib.hid ((Only.refl (TurnB B A) w).drew)
    clear HH c4 c5
    generalize w.drew = w2 at *
    refine za 0 rfl ?_
    refine za 1 rfl ?_
    refine za 2 rfl ?_
    refine zt 3 rfl ?_
    refine mpa 4 rfl (.int .i64 (10)) (fun w => ?_) ?_
    · go_simp
    refine za 5 rfl ?_
    refine za 6 rfl ?_
    refine za 7 rfl ?_
    refine zt 8 rfl ?_
    refine mpc 9 rfl (by kernel_rfl) (by rfl) (fun K hK => ?_)
    go_simp
    refine hK.out _ _ (.inl (by kernel_rfl)) ?_
    clear hK K hHeld hw1 hw2
    refine wpAnyP_done (by kernel_rfl) ?_ _
    go_wp2
    go_returns
    exact ⟨rfl, HO0.out, nv, HP0.out⟩
  · skip
    have HX := Lib.hid hx
    have HL := Lib.hid hl
    have HH := Lib.hid h
    clear h hl hx
    have c4 : w.cell? ⟨B, 4, none⟩ = some (.int .i64 (2)) := by rw [← H1.out]; exact HH.out.row.cell_ (i := 4) rfl
    have c5 : w.cell? ⟨B, 5, none⟩ = some (.int .i64 (1)) := by rw [← H2.out]; exact HH.out.row.cell_ (i := 5) rfl
    go_enter Tryz.func10, Tryz.ntmps10
    go_upto_region 3 with (fail)
    have hw1 : IntKind.i64.wrap (20) = 20 := rfl
    have hw2 : IntKind.i64.wrap (21) = 21 := rfl
    refine wp_region_phase (n := 10) 9 (fun w => w.cell? ⟨B, 4, none⟩ = some (.int .i64 (2)) ∧ w.cell? ⟨B, 5, none⟩ = some (.int .i64 (1))) rfl (by kernel_rfl) ⟨c4, c5⟩ (fun hHeld => ?_)
    have HP0 := Lib.hid (HH.out.keep (Only.refl Nil w).drew)
    have HO0 := Lib.hid ((Only.refl (TurnB B A) w).drew)
    clear HH c4 c5
    generalize w.drew = w2 at *
    refine za 0 rfl ?_
    refine za 1 rfl ?_
    refine za 2 rfl ?_
    refine zt 3 rfl ?_
    refine mpa 4 rfl (.int .i64 (20)) (fun w => ?_) ?_
    · go_simp
    refine za 5 rfl ?_
    refine za 6 rfl ?_
    refine za 7 rfl ?_
    refine zt 8 rfl ?_
    refine mpc 9 rfl (by kernel_rfl) (by rfl) (fun K hK => ?_)
    go_simp
    refine hK.out _ _ (.inl (by kernel_rfl)) ?_
    clear hK K hHeld hw1 hw2
    refine wpAnyP_done (by kernel_rfl) ?_ _
    go_wp2
    go_returns
    exact ⟨rfl, HO0.out, nv, HP0.out⟩
  · skip
    have HX := Lib.hid hx
    have HL := Lib.hid hl
    have HH := Lib.hid h
    clear h hl hx
    have c4 : w.cell? ⟨B, 4, none⟩ = some (.int .i64 (2)) := by rw [← H1.out]; exact HH.out.row.cell_ (i := 4) rfl
    have c5 : w.cell? ⟨B, 5, none⟩ = some (.int .i64 (2)) := by rw [← H2.out]; exact HH.out.row.cell_ (i := 5) rfl
    go_enter Tryz.func10, Tryz.ntmps10
    go_upto_region 3 with (fail)
    have hw1 : IntKind.i64.wrap (20) = 20 := rfl
    have hw2 : IntKind.i64.wrap (22) = 22 := rfl
    refine wp_region_phase (n := 10) 9 (fun w => w.cell? ⟨B, 4, none⟩ = some (.int .i64 (2)) ∧ w.cell? ⟨B, 5, none⟩ = some (.int .i64 (2))) rfl (by kernel_rfl) ⟨c4, c5⟩ (fun hHeld => ?_)
    have HP0 := Lib.hid (HH.out.keep (Only.refl Nil w).drew)
    have HO0 := Lib.hid ((Only.refl (TurnB B A) w).drew)
    clear HH c4 c5
    generalize w.drew = w2 at *
    refine za 0 rfl ?_
    refine za 1 rfl ?_
    refine za 2 rfl ?_
    refine zt 3 rfl ?_
    refine mpa 4 rfl (.int .i64 (20)) (fun w => ?_) ?_
    · go_simp
    refine za 5 rfl ?_
    refine za 6 rfl ?_
    refine za 7 rfl ?_
    refine zt 8 rfl ?_
    refine mpc 9 rfl (by kernel_rfl) (by rfl) (fun K hK => ?_)
    go_simp
    refine hK.out _ _ (.inl (by kernel_rfl)) ?_
    clear hK K hHeld hw1 hw2
    refine wpAnyP_done (by kernel_rfl) ?_ _
    go_wp2
    go_returns
    exact ⟨rfl, HO0.out, nv, HP0.out⟩
  · skip
    have HX := Lib.hid hx
    have HL := Lib.hid hl
    have HH := Lib.hid h
    clear h hl hx
    have c4 : w.cell? ⟨B, 4, none⟩ = some (.int .i64 (4)) := by rw [← H1.out]; exact HH.out.row.cell_ (i := 4) rfl
    have c5 : w.cell? ⟨B, 5, none⟩ = some (.int .i64 (1)) := by rw [← H2.out]; exact HH.out.row.cell_ (i := 5) rfl
    go_enter Tryz.func10, Tryz.ntmps10
    go_upto_region 3 with (fail)
    have hw1 : IntKind.i64.wrap (40) = 40 := rfl
    have hw2 : IntKind.i64.wrap (41) = 41 := rfl
    refine wp_region_phase (n := 10) 9 (fun w => w.cell? ⟨B, 4, none⟩ = some (.int .i64 (4)) ∧ w.cell? ⟨B, 5, none⟩ = some (.int .i64 (1))) rfl (by kernel_rfl) ⟨c4, c5⟩ (fun hHeld => ?_)
    have HP0 := Lib.hid (HH.out.keep (Only.refl Nil w).drew)
    have HO0 := Lib.hid ((Only.refl (TurnB B A) w).drew)
    clear HH c4 c5
    generalize w.drew = w2 at *
    refine za 0 rfl ?_
    refine za 1 rfl ?_
    refine za 2 rfl ?_
    refine zt 3 rfl ?_
    refine mpa 4 rfl (.int .i64 (40)) (fun w => ?_) ?_
    · go_simp
    refine za 5 rfl ?_
    refine za 6 rfl ?_
    refine za 7 rfl ?_
    refine zt 8 rfl ?_
    refine mpc 9 rfl (by kernel_rfl) (by rfl) (fun K hK => ?_)
    go_simp
    refine hK.out _ _ (.inl (by kernel_rfl)) ?_
    clear hK K hHeld hw1 hw2
    refine wpAnyP_done (by kernel_rfl) ?_ _
    go_wp2
    go_returns
    exact ⟨rfl, HO0.out, nv, HP0.out⟩
  · skip
    have HX := Lib.hid hx
    have HL := Lib.hid hl
    have HH := Lib.hid h
    clear h hl hx
    have c4 : w.cell? ⟨B, 4, none⟩ = some (.int .i64 (4)) := by rw [← H1.out]; exact HH.out.row.cell_ (i := 4) rfl
    have c5 : w.cell? ⟨B, 5, none⟩ = some (.int .i64 (2)) := by rw [← H2.out]; exact HH.out.row.cell_ (i := 5) rfl
    go_enter Tryz.func10, Tryz.ntmps10
    go_upto_region 3 with (fail)
    have hw1 : IntKind.i64.wrap (40) = 40 := rfl
    have hw2 : IntKind.i64.wrap (42) = 42 := rfl
    refine wp_region_phase (n := 10) 9 (fun w => w.cell? ⟨B, 4, none⟩ = some (.int .i64 (4)) ∧ w.cell? ⟨B, 5, none⟩ = some (.int .i64 (2))) rfl (by kernel_rfl) ⟨c4, c5⟩ (fun hHeld => ?_)
    have HP0 := Lib.hid (HH.out.keep (Only.refl Nil w).drew)
    have HO0 := Lib.hid ((Only.refl (TurnB B A) w).drew)
    clear HH c4 c5
    generalize w.drew = w2 at *
    refine za 0 rfl ?_
    refine za 1 rfl ?_
    refine za 2 rfl ?_
    refine zt 3 rfl ?_
    refine mpa 4 rfl (.int .i64 (40)) (fun w => ?_) ?_
    · go_simp
    refine za 5 rfl ?_
    refine za 6 rfl ?_
    refine za 7 rfl ?_
    refine zt 8 rfl ?_
    refine mpc 9 rfl (by kernel_rfl) (by rfl) (fun K hK => ?_)
    go_simp
    refine hK.out _ _ (.inl (by kernel_rfl)) ?_
    clear hK K hHeld hw1 hw2
    refine wpAnyP_done (by kernel_rfl) ?_ _
    go_wp2
    go_returns
    exact ⟨rfl, HO0.out, nv, HP0.out⟩
  · skip
    have HX := Lib.hid hx
    have HL := Lib.hid hl
    have HH := Lib.hid h
    clear h hl hx
    have c4 : w.cell? ⟨B, 4, none⟩ = some (.int .i64 (5)) := by rw [← H1.out]; exact HH.out.row.cell_ (i := 4) rfl
    have c5 : w.cell? ⟨B, 5, none⟩ = some (.int .i64 (2)) := by rw [← H2.out]; exact HH.out.row.cell_ (i := 5) rfl
    go_enter Tryz.func10, Tryz.ntmps10
    go_upto_region 3 with (fail)
    have hw1 : IntKind.i64.wrap (50) = 50 := rfl
    have hw2 : IntKind.i64.wrap (52) = 52 := rfl
    refine wp_region_phase (n := 10) 9 (fun w => w.cell? ⟨B, 4, none⟩ = some (.int .i64 (5)) ∧ w.cell? ⟨B, 5, none⟩ = some (.int .i64 (2))) rfl (by kernel_rfl) ⟨c4, c5⟩ (fun hHeld => ?_)
    have HP0 := Lib.hid (HH.out.keep (Only.refl Nil w).drew)
    have HO0 := Lib.hid ((Only.refl (TurnB B A) w).drew)
    clear HH c4 c5
    generalize w.drew = w2 at *
    refine za 0 rfl ?_
    refine za 1 rfl ?_
    refine za 2 rfl ?_
    refine zt 3 rfl ?_
    refine mpa 4 rfl (.int .i64 (50)) (fun w => ?_) ?_
    · go_simp
    refine za 5 rfl ?_
    refine za 6 rfl ?_
    refine za 7 rfl ?_
    refine zt 8 rfl ?_
    refine mpc 9 rfl (by kernel_rfl) (by rfl) (fun K hK => ?_)
    go_simp
    refine hK.out _ _ (.inl (by kernel_rfl)) ?_
    clear hK K hHeld hw1 hw2
    refine wpAnyP_done (by kernel_rfl) ?_ _
    go_wp2
    go_returns
    exact ⟨rfl, HO0.out, nv, HP0.out⟩
  · skip
    have HX := Lib.hid hx
    have HL := Lib.hid hl
    have HH := Lib.hid h
    clear h hl hx
    have c4 : w.cell? ⟨B, 4, none⟩ = some (.int .i64 (6)) := by rw [← H1.out]; exact HH.out.row.cell_ (i := 4) rfl
    have c5 : w.cell? ⟨B, 5, none⟩ = some (.int .i64 (2)) := by rw [← H2.out]; exact HH.out.row.cell_ (i := 5) rfl
    go_enter Tryz.func10, Tryz.ntmps10
    go_upto_region 3 with (fail)
    have hw1 : IntKind.i64.wrap (60) = 60 := rfl
    have hw2 : IntKind.i64.wrap (62) = 62 := rfl
    refine wp_region_phase (n := 10) 9 (fun w => w.cell? ⟨B, 4, none⟩ = some (.int .i64 (6)) ∧ w.cell? ⟨B, 5, none⟩ = some (.int .i64 (2))) rfl (by kernel_rfl) ⟨c4, c5⟩ (fun hHeld => ?_)
    have HP0 := Lib.hid (HH.out.keep (Only.refl Nil w).drew)
    have HO0 := Lib.hid ((Only.refl (TurnB B A) w).drew)
    clear HH c4 c5
    generalize w.drew = w2 at *
    refine za 0 rfl ?_
    refine za 1 rfl ?_
    refine za 2 rfl ?_
    refine zt 3 rfl ?_
    refine mpa 4 rfl (.int .i64 (60)) (fun w => ?_) ?_
    · go_simp
    refine za 5 rfl ?_
    refine za 6 rfl ?_
    refine za 7 rfl ?_
    refine zt 8 rfl ?_
    refine mpc 9 rfl (by kernel_rfl) (by rfl) (fun K hK => ?_)
    go_simp
    refine hK.out _ _ (.inl (by kernel_rfl)) ?_
    clear hK K hHeld hw1 hw2
    refine wpAnyP_done (by kernel_rfl) ?_ _
    go_wp2
    go_returns
    exact ⟨rfl, HO0.out, nv, HP0.out⟩
  · skip
    have HX := Lib.hid hx
    have HL := Lib.hid hl
    have HH := Lib.hid h
    clear h hl hx
    have c4 : w.cell? ⟨B, 4, none⟩ = some (.int .i64 (7)) := by rw [← H1.out]; exact HH.out.row.cell_ (i := 4) rfl
    have c5 : w.cell? ⟨B, 5, none⟩ = some (.int .i64 (2)) := by rw [← H2.out]; exact HH.out.row.cell_ (i := 5) rfl
    go_enter Tryz.func10, Tryz.ntmps10
    go_upto_region 3 with (fail)
    have hw1 : IntKind.i64.wrap (70) = 70 := rfl
    have hw2 : IntKind.i64.wrap (72) = 72 := rfl
    refine wp_region_phase (n := 10) 9 (fun w => w.cell? ⟨B, 4, none⟩ = some (.int .i64 (7)) ∧ w.cell? ⟨B, 5, none⟩ = some (.int .i64 (2))) rfl (by kernel_rfl) ⟨c4, c5⟩ (fun hHeld => ?_)
    have HP0 := Lib.hid (HH.out.keep (Only.refl Nil w).drew)
    have HO0 := Lib.hid ((Only.refl (TurnB B A) w).drew)
    clear HH c4 c5
    generalize w.drew = w2 at *
    refine za 0 rfl ?_
    refine za 1 rfl ?_
    refine za 2 rfl ?_
    refine zt 3 rfl ?_
    refine mpa 4 rfl (.int .i64 (70)) (fun w => ?_) ?_
    · go_simp
    refine za 5 rfl ?_
    refine za 6 rfl ?_
    refine za 7 rfl ?_
    refine zt 8 rfl ?_
    refine mpc 9 rfl (by kernel_rfl) (by rfl) (fun K hK => ?_)
    go_simp
    refine hK.out _ _ (.inl (by kernel_rfl)) ?_
    clear hK K hHeld hw1 hw2
    refine wpAnyP_done (by kernel_rfl) ?_ _
    go_wp2
    go_returns
    exact ⟨rfl, HO0.out, nv, HP0.out⟩
  · skip
    have HX := Lib.hid hx
    have HL := Lib.hid hl
    have HH := Lib.hid h
    clear h hl hx
    have c4 : w.cell? ⟨B, 4, none⟩ = some (.int .i64 (8)) := by rw [← H1.out]; exact HH.out.row.cell_ (i := 4) rfl
    have c5 : w.cell? ⟨B, 5, none⟩ = some (.int .i64 (1)) := by rw [← H2.out]; exact HH.out.row.cell_ (i := 5) rfl
    go_enter Tryz.func10, Tryz.ntmps10
    go_upto_region 3 with (fail)
    have hw1 : IntKind.i64.wrap (80) = 80 := rfl
    have hw2 : IntKind.i64.wrap (81) = 81 := rfl
    refine wp_region_phase (n := 10) 9 (fun w => w.cell? ⟨B, 4, none⟩ = some (.int .i64 (8)) ∧ w.cell? ⟨B, 5, none⟩ = some (.int .i64 (1))) rfl (by kernel_rfl) ⟨c4, c5⟩ (fun hHeld => ?_)
    have HP0 := Lib.hid (HH.out.keep (Only.refl Nil w).drew)
    have HO0 := Lib.hid ((Only.refl (TurnB B A) w).drew)
    clear HH c4 c5
    generalize w.drew = w2 at *
    refine za 0 rfl ?_
    refine za 1 rfl ?_
    refine za 2 rfl ?_
    refine zt 3 rfl ?_
    refine mpa 4 rfl (.int .i64 (80)) (fun w => ?_) ?_
    · go_simp
    refine za 5 rfl ?_
    refine za 6 rfl ?_
    refine za 7 rfl ?_
    refine zt 8 rfl ?_
    refine mpc 9 rfl (by kernel_rfl) (by rfl) (fun K hK => ?_)
    go_simp
    refine hK.out _ _ (.inl (by kernel_rfl)) ?_
    clear hK K hHeld hw1 hw2
    refine wpAnyP_done (by kernel_rfl) ?_ _
    go_wp2
    go_returns
    exact ⟨rfl, HO0.out, nv, HP0.out⟩
  · skip
    have HX := Lib.hid hx
    have HL := Lib.hid hl
    have HH := Lib.hid h
    clear h hl hx
    have c4 : w.cell? ⟨B, 4, none⟩ = some (.int .i64 (8)) := by rw [← H1.out]; exact HH.out.row.cell_ (i := 4) rfl
    have c5 : w.cell? ⟨B, 5, none⟩ = some (.int .i64 (2)) := by rw [← H2.out]; exact HH.out.row.cell_ (i := 5) rfl
    go_enter Tryz.func10, Tryz.ntmps10
    go_upto_region 3 with (fail)
    have hw1 : IntKind.i64.wrap (80) = 80 := rfl
    have hw2 : IntKind.i64.wrap (82) = 82 := rfl
    refine wp_region_phase (n := 10) 9 (fun w => w.cell? ⟨B, 4, none⟩ = some (.int .i64 (8)) ∧ w.cell? ⟨B, 5, none⟩ = some (.int .i64 (2))) rfl (by kernel_rfl) ⟨c4, c5⟩ (fun hHeld => ?_)
    have HP0 := Lib.hid (HH.out.keep (Only.refl Nil w).drew)
    have HO0 := Lib.hid ((Only.refl (TurnB B A) w).drew)
    clear HH c4 c5
    generalize w.drew = w2 at *
    refine za 0 rfl ?_
    refine za 1 rfl ?_
    refine za 2 rfl ?_
    refine zt 3 rfl ?_
    refine mpa 4 rfl (.int .i64 (80)) (fun w => ?_) ?_
    · go_simp
    refine za 5 rfl ?_
    refine za 6 rfl ?_
    refine za 7 rfl ?_
    refine zt 8 rfl ?_
    refine mpc 9 rfl (by kernel_rfl) (by rfl) (fun K hK => ?_)
    go_simp
    refine hK.out _ _ (.inl (by kernel_rfl)) ?_
    clear hK K hHeld hw1 hw2
    refine wpAnyP_done (by kernel_rfl) ?_ _
    go_wp2
    go_returns
    exact ⟨rfl, HO0.out, nv, HP0.out⟩
theorem rf_none {r : LS} (h : r.line < 0 ∨ 2 < r.line ∨ r.op < 1 ∨ 8 < r.op) : r.rf = r := by
  have hc : rfCase r.op r.line = 0 := by
    unfold rfCase
    repeat (first | rw [if_neg (by omega)])
  unfold LS.rf
  rw [hc]
  rfl
theorem rfref_lines (B base : Nat) (A : Option Addr) (l cp : Nat) (nv : Value) (r : LS) (w : World) (h : RunR w B base A l cp nv r) (hl : r.ns.length ≤ 900) (hx : Words r.xs) : Calls Tryz.prog 10 #[Value.pointer (some ⟨B, 0, none⟩)] w (DoneR B base A l cp w (.tuple #[]) r.rf) := by
  by_cases hi : r.line < 0 ∨ 2 < r.line ∨ r.op < 1 ∨ 8 < r.op
  · rw [show r.rf = r from rf_none hi]
    exact rfr_out B base A l cp nv r w h hl hx hi
  obtain ⟨op, h1⟩ : ∃ op, r.op = op := ⟨_, rfl⟩
  obtain ⟨ln, h2⟩ : ∃ ln, r.line = ln := ⟨_, rfl⟩
  have ho : op = 1 ∨ op = 2 ∨ op = 3 ∨ op = 4 ∨ op = 5 ∨ op = 6 ∨ op = 7 ∨ op = 8 := by omega
  have hn : ln = 0 ∨ ln = 1 ∨ ln = 2 := by omega
  rcases ho with rfl | rfl | rfl | rfl | rfl | rfl | rfl | rfl <;> rcases hn with rfl | rfl | rfl
  · exact rfr_1_0 B base A l cp nv r w h hl hx h1 h2
  · exact rfr_1_1 B base A l cp nv r w h hl hx h1 h2
  · rw [show r.rf = r by unfold LS.rf; rw [h1, h2]; rfl]
    exact rfr_none B base A l cp nv r w h hl hx 1 2 (by decide) h1 h2
  · exact rfr_2_0 B base A l cp nv r w h hl hx h1 h2
  · rw [show r.rf = r by unfold LS.rf; rw [h1, h2]; rfl]
    exact rfr_none B base A l cp nv r w h hl hx 2 1 (by decide) h1 h2
  · rw [show r.rf = r by unfold LS.rf; rw [h1, h2]; rfl]
    exact rfr_none B base A l cp nv r w h hl hx 2 2 (by decide) h1 h2
  · exact rfr_3_0 B base A l cp nv r w h hl hx h1 h2
  · exact rfr_3_1 B base A l cp nv r w h hl hx h1 h2
  · exact rfr_3_2 B base A l cp nv r w h hl hx h1 h2
  · exact rfr_4_0 B base A l cp nv r w h hl hx h1 h2
  · rw [show r.rf = r by unfold LS.rf; rw [h1, h2]; rfl]
    exact rfr_none B base A l cp nv r w h hl hx 4 1 (by decide) h1 h2
  · rw [show r.rf = r by unfold LS.rf; rw [h1, h2]; rfl]
    exact rfr_none B base A l cp nv r w h hl hx 4 2 (by decide) h1 h2
  · exact rfr_5_0 B base A l cp nv r w h hl hx h1 h2
  · exact rfr_5_1 B base A l cp nv r w h hl hx h1 h2
  · rw [show r.rf = r by unfold LS.rf; rw [h1, h2]; rfl]
    exact rfr_none B base A l cp nv r w h hl hx 5 2 (by decide) h1 h2
  · exact rfr_6_0 B base A l cp nv r w h hl hx h1 h2
  · exact rfr_6_1 B base A l cp nv r w h hl hx h1 h2
  · rw [show r.rf = r by unfold LS.rf; rw [h1, h2]; rfl]
    exact rfr_none B base A l cp nv r w h hl hx 6 2 (by decide) h1 h2
  · exact rfr_7_0 B base A l cp nv r w h hl hx h1 h2
  · exact rfr_7_1 B base A l cp nv r w h hl hx h1 h2
  · rw [show r.rf = r by unfold LS.rf; rw [h1, h2]; rfl]
    exact rfr_none B base A l cp nv r w h hl hx 7 2 (by decide) h1 h2
  · exact rfr_8_0 B base A l cp nv r w h hl hx h1 h2
  · rw [show r.rf = r by unfold LS.rf; rw [h1, h2]; rfl]
    exact rfr_none B base A l cp nv r w h hl hx 8 1 (by decide) h1 h2
  · rw [show r.rf = r by unfold LS.rf; rw [h1, h2]; rfl]
    exact rfr_none B base A l cp nv r w h hl hx 8 2 (by decide) h1 h2
end Go.Proofs.YtkmkeleifkkbnaaGreat
set_option linter.unusedVariables false
set_option linter.unusedSimpArgs false
namespace Go.Proofs.YtkmkeleifkkbnaaGreat
open Go.RowKit
theorem RunR.reset {w : World} {B base : Nat} {A : Option Addr} {l cp : Nat} {nv : Value} {r : LS} (h : RunR w B base A l cp nv r) :
    RunR ((((((w.setCell ⟨B, 14, none⟩ (.int .i64 0)).setCell ⟨B, 15, none⟩ (.int .i64 0)).setCell ⟨B, 16, none⟩ (.int .u32 0)).setCell ⟨B, 17, none⟩ (.int .u32 0)).setCell ⟨B, 18, none⟩ (.int .u32 0)).setCell ⟨B, 19, none⟩ (.slice none 0 0)) B base A l cp (.slice none 0 0) r.fresh :=
  (h.setAcc acc0).setNotes (ownN_nil _ _)
theorem rwaking_off (B base : Nat) (A : Option Addr) (l cp : Nat) (nv : Value) (r : LS) (w : World) (h : RunR w B base A l cp nv r) (hon : r.k.on = false) :
    Calls Tryz.prog 9 #[.pointer (some ⟨B, 0, none⟩)] w (DoneR B base A l cp w (.bool false) r.fresh) := by
  have HON := Lib.hid hon
  have a14 : w.cell? ⟨B, 14, none⟩ = some (.int .i64 r.acc.k) := h.row.cell_ (i := 14) rfl
  have a15 : w.cell? ⟨B, 15, none⟩ = some (.int .i64 r.acc.c) := h.row.cell_ (i := 15) rfl
  have a16 : w.cell? ⟨B, 16, none⟩ = some (.int .u32 r.acc.x) := h.row.cell_ (i := 16) rfl
  have a17 : w.cell? ⟨B, 17, none⟩ = some (.int .u32 r.acc.y) := h.row.cell_ (i := 17) rfl
  have a18 : w.cell? ⟨B, 18, none⟩ = some (.int .u32 r.acc.o) := h.row.cell_ (i := 18) rfl
  have a19 : w.cell? ⟨B, 19, none⟩ = some (nv) := h.row.cell_ (i := 19) rfl
  have f14 : w.frozen? ⟨B, 14, none⟩ = false := h.row.frozen 14
  have f15 : w.frozen? ⟨B, 15, none⟩ = false := h.row.frozen 15
  have f16 : w.frozen? ⟨B, 16, none⟩ = false := h.row.frozen 16
  have f17 : w.frozen? ⟨B, 17, none⟩ = false := h.row.frozen 17
  have f18 : w.frozen? ⟨B, 18, none⟩ = false := h.row.frozen 18
  have f19 : w.frozen? ⟨B, 19, none⟩ = false := h.row.frozen 19
  have HP0 := Lib.hid h.reset
  have HO0 := Lib.hid (reset_only (Only.refl (TurnB B A) w) (B := B) (.inl rfl))
  clear h hon
  go_enter Tryz.func9, Tryz.ntmps9
  go_upto_region 3 with (fail)
  clear a14 a15 a16 a17 a18 a19 f14 f15 f16 f17 f18 f19
  generalize ((((((w.setCell ⟨B, 14, none⟩ (.int .i64 0)).setCell ⟨B, 15, none⟩ (.int .i64 0)).setCell ⟨B, 16, none⟩ (.int .u32 0)).setCell ⟨B, 17, none⟩ (.int .u32 0)).setCell ⟨B, 18, none⟩ (.int .u32 0)).setCell ⟨B, 19, none⟩ (.slice none 0 0)) = w1 at *
  have c9 : w1.cell? ⟨B, 9, none⟩ = some (.bool r.k.on) := HP0.out.row.cell_ (i := 9) rfl
  rw [HON.out] at c9
  go_wp2
  go_ret
  exact ⟨rfl, HO0.out, _, HP0.out⟩
set_option maxRecDepth 100000 in
set_option maxHeartbeats 1000000 in
theorem rwaking_on (B base : Nat) (A : Option Addr) (l cp : Nat) (nv : Value) (r : LS) (w : World) (h : RunR w B base A l cp nv r) (hon : r.k.on = true) :
    Calls Tryz.prog 9 #[.pointer (some ⟨B, 0, none⟩)] w (DoneR B base A l cp w (.bool true) r.waking) := by
  have hacc := ofV_wake r.xs r.n r.k.on r.k.c r.k.i r.k.hit
  rw [show r.waking = { r.fresh with acc := ofV (wakeI r.xs r.n r.k.on r.k.c r.k.i r.k.hit).acc, k := (wakeI r.xs r.n r.k.on r.k.c r.k.i r.k.hit).next, xs := (wakeI r.xs r.n r.k.on r.k.c r.k.i r.k.hit).xs } from rfl]
  have hzl : (wakeI r.xs r.n r.k.on r.k.c r.k.i r.k.hit).xs.length = l := by
    rw [← h.len]
    unfold wakeI giveI lookI restI
    repeat' split
    all_goals first | rfl | exact st_len _ _ _
  generalize hst : wakeI r.xs r.n r.k.on r.k.c r.k.i r.k.hit = t at *
  obtain ⟨nx, ac, zs⟩ := t
  dsimp only at hacc hzl ⊢
  generalize ha5 : ofV ac = a5 at *
  have HST := Lib.hid hst
  have HAC := Lib.hid hacc
  have HZL := Lib.hid hzl
  clear hst hacc hzl ha5
  have HON := Lib.hid hon
  have a14 : w.cell? ⟨B, 14, none⟩ = some (.int .i64 r.acc.k) := h.row.cell_ (i := 14) rfl
  have a15 : w.cell? ⟨B, 15, none⟩ = some (.int .i64 r.acc.c) := h.row.cell_ (i := 15) rfl
  have a16 : w.cell? ⟨B, 16, none⟩ = some (.int .u32 r.acc.x) := h.row.cell_ (i := 16) rfl
  have a17 : w.cell? ⟨B, 17, none⟩ = some (.int .u32 r.acc.y) := h.row.cell_ (i := 17) rfl
  have a18 : w.cell? ⟨B, 18, none⟩ = some (.int .u32 r.acc.o) := h.row.cell_ (i := 18) rfl
  have a19 : w.cell? ⟨B, 19, none⟩ = some (nv) := h.row.cell_ (i := 19) rfl
  have f14 : w.frozen? ⟨B, 14, none⟩ = false := h.row.frozen 14
  have f15 : w.frozen? ⟨B, 15, none⟩ = false := h.row.frozen 15
  have f16 : w.frozen? ⟨B, 16, none⟩ = false := h.row.frozen 16
  have f17 : w.frozen? ⟨B, 17, none⟩ = false := h.row.frozen 17
  have f18 : w.frozen? ⟨B, 18, none⟩ = false := h.row.frozen 18
  have f19 : w.frozen? ⟨B, 19, none⟩ = false := h.row.frozen 19
  have HP0 := Lib.hid h.reset
  have HO0 := Lib.hid (reset_only (Only.refl (TurnB B A) w) (B := B) (.inl rfl))
  clear h hon
  go_enter Tryz.func9, Tryz.ntmps9
  go_upto_region 3 with (fail)
  clear a14 a15 a16 a17 a18 a19 f14 f15 f16 f17 f18 f19
  generalize ((((((w.setCell ⟨B, 14, none⟩ (.int .i64 0)).setCell ⟨B, 15, none⟩ (.int .i64 0)).setCell ⟨B, 16, none⟩ (.int .u32 0)).setCell ⟨B, 17, none⟩ (.int .u32 0)).setCell ⟨B, 18, none⟩ (.int .u32 0)).setCell ⟨B, 19, none⟩ (.slice none 0 0)) = w1 at *
  have c9 : w1.cell? ⟨B, 9, none⟩ = some (.bool r.k.on) := HP0.out.row.cell_ (i := 9) rfl
  rw [HON.out] at c9
  go_upto_region 5 with (fail)
  clear c9
  have HQ : r.fresh.xs = r.xs ∧ r.fresh.n = r.n ∧ r.fresh.k = r.k := ⟨rfl, rfl, rfl⟩
  have HQ2 := Lib.hid HQ
  clear HQ
  refine wp_region_phase (n := 26) 15 (fun w => w.cell? ⟨B, 0, none⟩ = some (.slice A l cp) ∧ w.cell? ⟨B, 1, none⟩ = some (.int .i64 r.n) ∧ w.cell? ⟨B, 9, none⟩ = some (.bool r.k.on) ∧ w.cell? ⟨B, 10, none⟩ = some (.int .i64 r.k.c) ∧ w.cell? ⟨B, 11, none⟩ = some (.int .i64 r.k.i) ∧ w.cell? ⟨B, 12, none⟩ = some (.bool r.k.hit)) rfl (by kernel_rfl)
    ⟨HP0.out.row.cell_ (i := 0) rfl, HP0.out.row.cell_ (i := 1) rfl, HP0.out.row.cell_ (i := 9) rfl, HP0.out.row.cell_ (i := 10) rfl, HP0.out.row.cell_ (i := 11) rfl, HP0.out.row.cell_ (i := 12) rfl⟩ (fun hHeld => ?_)
  have HP1 := Lib.hid (HP0.out.keep (Only.refl Nil w1).drew)
  have HO1 := Lib.hid HO0.out.drew
  clear HP0 HO0
  generalize w1.drew = w2 at *
  refine za 0 rfl ?_
  refine za 1 rfl ?_
  refine za 2 rfl ?_
  refine za 3 rfl ?_
  refine za 4 rfl ?_
  refine zt 5 rfl ?_
  refine za 6 rfl ?_
  refine za 7 rfl ?_
  refine za 8 rfl ?_
  refine zt 9 rfl ?_
  refine za 10 rfl ?_
  refine za 11 rfl ?_
  refine za 12 rfl ?_
  refine za 13 rfl ?_
  refine zt 14 rfl ?_
  refine mpc 15 rfl (by kernel_rfl) (by rfl) (fun K hK => ?_)
  go_simp
  refine (rwake_any base A l cp r.xs r.n r.k.on r.k.c r.k.i r.k.hit _ HP1.out.own HP1.out.len).mono ?_
  rw [HST.out]
  intro e w3 hF
  obtain ⟨rfl, hO, hM⟩ := hF
  dsimp only at hM ⊢
  rw [HAC.out]
  clear HAC
  dsimp only [Acc5.v, WkV.v]
  have HP2 := Lib.hid (HP1.out.call hO hM HZL.out)
  have HO2 := Lib.hid (HO1.out.trans hO.turned2)
  refine hK.out _ _ (.inl (by kernel_rfl)) ?_
  clear hK K hHeld hO hM HP1 HO1
  refine za 16 rfl ?_
  refine za 17 rfl ?_
  refine za 18 rfl ?_
  refine za 19 rfl ?_
  refine za 20 rfl ?_
  refine za 21 rfl ?_
  have a9 : w3.cell? ⟨B, 9, none⟩ = some (.bool r.k.on) := HP2.out.row.cell_ (i := 9) rfl
  have a10 : w3.cell? ⟨B, 10, none⟩ = some (.int .i64 r.k.c) := HP2.out.row.cell_ (i := 10) rfl
  have a11 : w3.cell? ⟨B, 11, none⟩ = some (.int .i64 r.k.i) := HP2.out.row.cell_ (i := 11) rfl
  have a12 : w3.cell? ⟨B, 12, none⟩ = some (.bool r.k.hit) := HP2.out.row.cell_ (i := 12) rfl
  have f9 : w3.frozen? ⟨B, 9, none⟩ = false := HP2.out.row.frozen 9
  have f10 : w3.frozen? ⟨B, 10, none⟩ = false := HP2.out.row.frozen 10
  have f11 : w3.frozen? ⟨B, 11, none⟩ = false := HP2.out.row.frozen 11
  have f12 : w3.frozen? ⟨B, 12, none⟩ = false := HP2.out.row.frozen 12
  refine mpc 22 rfl (by kernel_rfl) (by rfl) (fun K hK => ?_)
  go_simp
  have HP3 := Lib.hid (HP2.out.setWake nx)
  have HO3 := Lib.hid (set_wake_only HO2.out (B := B) (.inl rfl) (.bool nx.on) (.int .i64 nx.c) (.int .i64 nx.i) (.bool nx.hit))
  refine hK.out _ _ (.inl (by kernel_rfl)) ?_
  clear hK K a9 a10 a11 a12 f9 f10 f11 f12 HP2 HO2
  generalize (((w3.setCell ⟨B, 9, none⟩ (.bool nx.on)).setCell ⟨B, 10, none⟩ (.int .i64 nx.c)).setCell ⟨B, 11, none⟩ (.int .i64 nx.i)).setCell ⟨B, 12, none⟩ (.bool nx.hit) = w4 at *
  refine za 23 rfl ?_
  refine za 24 rfl ?_
  have b14 : w4.cell? ⟨B, 14, none⟩ = some (.int .i64 0) := HP3.out.row.cell_ (i := 14) rfl
  have b15 : w4.cell? ⟨B, 15, none⟩ = some (.int .i64 0) := HP3.out.row.cell_ (i := 15) rfl
  have b16 : w4.cell? ⟨B, 16, none⟩ = some (.int .u32 0) := HP3.out.row.cell_ (i := 16) rfl
  have b17 : w4.cell? ⟨B, 17, none⟩ = some (.int .u32 0) := HP3.out.row.cell_ (i := 17) rfl
  have b18 : w4.cell? ⟨B, 18, none⟩ = some (.int .u32 0) := HP3.out.row.cell_ (i := 18) rfl
  have f14 : w4.frozen? ⟨B, 14, none⟩ = false := HP3.out.row.frozen 14
  have f15 : w4.frozen? ⟨B, 15, none⟩ = false := HP3.out.row.frozen 15
  have f16 : w4.frozen? ⟨B, 16, none⟩ = false := HP3.out.row.frozen 16
  have f17 : w4.frozen? ⟨B, 17, none⟩ = false := HP3.out.row.frozen 17
  have f18 : w4.frozen? ⟨B, 18, none⟩ = false := HP3.out.row.frozen 18
  refine mpc 25 rfl (by kernel_rfl) (by rfl) (fun K hK => ?_)
  go_simp
  have HP4 := Lib.hid (HP3.out.setAcc a5)
  have HO4 := Lib.hid (set_acc_only HO3.out (B := B) (.inl rfl) (.int .i64 a5.k) (.int .i64 a5.c) (.int .u32 a5.x) (.int .u32 a5.y) (.int .u32 a5.o))
  refine hK.out _ _ (.inl (by kernel_rfl)) ?_
  clear hK K b14 b15 b16 b17 b18 f14 f15 f16 f17 f18 HP3 HO3
  generalize ((((w4.setCell ⟨B, 14, none⟩ (.int .i64 a5.k)).setCell ⟨B, 15, none⟩ (.int .i64 a5.c)).setCell ⟨B, 16, none⟩ (.int .u32 a5.x)).setCell ⟨B, 17, none⟩ (.int .u32 a5.y)).setCell ⟨B, 18, none⟩ (.int .u32 a5.o) = w5 at *
  refine wpAnyP_done (by kernel_rfl) ?_ _
  go_wp2
  go_ret
  exact ⟨rfl, HO4.out, _, HP4.out⟩
end Go.Proofs.YtkmkeleifkkbnaaGreat
