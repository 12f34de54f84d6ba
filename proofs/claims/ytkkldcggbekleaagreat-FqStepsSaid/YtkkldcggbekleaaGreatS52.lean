import Derived.Test.YtkkldcggbekleaaGreatS47
import Derived.Test.YtkkldcggbekleaaGreatS48
import Derived.Test.YtkkldcggbekleaaGreatS49
import Derived.Test.YtkkldcggbekleaaGreatS50
import Derived.Test.YtkkldcggbekleaaGreatS51
import Derived.Test.YtkkldcggbekleaaGreatS41
set_option linter.unusedVariables false
set_option linter.unusedSimpArgs false
namespace Go.Proofs.YtkkldcggbekleaaGreat
open Go.RowKit
def LS.fqOf (r : LS) (op : Int) (c : Nat) : LS := match c with
  | 1 => r.qEnter (if op = 1 then 1 else 2) | 2 => r.qTry | 3 => (r.doA 3 1 1 0).go 6 | 4 => r.qGive 6 true [4] | 5 => (((r.doA 3 1 4294967295 0).note 6 0).wake 1).fin true | 6 => r.awaitQ | 7 => r.qGive 0 true [7, 8]
  | 8 => if wordAt r.xs 1 = 0 then (r.qCount.note 4 0).fin true else (r.qCount.note 5 0).go 6
  | 9 => if wordAt r.xs 1 = 1 then r.qCount.go 3 else (r.qCount.note 5 0).go 6
  | 10 => ((r.doA 3 1 4294967295 0).note 9 0).fin true | 11 => r.qGive 6 false [8] | 12 => (r.doA 3 1 1 0).go 1 | 13 => r.qGive 1 true [10] | _ => r
theorem fq_is {r : LS} {op : Int} (h1 : r.op = op) (c : Nat) (hc : fqCase op r.line = c) : r.fq = r.fqOf op c := by
  subst h1
  subst hc
  unfold LS.fq LS.fqOf LS.awaitQ
  rfl
theorem fqref_lines (B base : Nat) (A : Option Addr) (l cp : Nat) (nv : Value) (r : LS) (w : World) (h : RunR w B base A l cp nv r) (hl : r.ns.length ≤ 900) (hx : Words r.xs) (ha : 0 ≤ r.a ∧ r.a < 4294967296) : Calls Tryz.prog 10 #[Value.pointer (some ⟨B, 0, none⟩)] w (DoneR B base A l cp w (.tuple #[]) r.fq) := by
  have cs : ∀ {op : Int} (h1 : r.op = op) (c : Nat), fqCase op r.line = c → r.fq = r.fqOf op c := fun h1 c hc => fq_is h1 c hc
  by_cases o1 : r.op = 1
  · by_cases a : r.line < 0
    · rw [cs o1 4 (by unfold fqCase; repeat (first | rw [if_pos (by omega)] | rw [if_neg (by omega)]))]; exact fqr_g1_a B base A l cp nv r w h hl hx ha o1 a
    by_cases b : r.line ≤ 4
    · rw [cs o1 1 (by unfold fqCase; repeat (first | rw [if_pos (by omega)] | rw [if_neg (by omega)]))]
      exact fqr_e1 B base A l cp nv r w h hl hx ha o1 ⟨by omega, b⟩
    by_cases c : r.line = 5
    · rw [cs o1 3 (by unfold fqCase; repeat (first | rw [if_pos (by omega)] | rw [if_neg (by omega)]))]; exact fqr_c1 B base A l cp nv r w h hl hx ha o1 c
    · rw [cs o1 4 (by unfold fqCase; repeat (first | rw [if_pos (by omega)] | rw [if_neg (by omega)]))]; exact fqr_g1_b B base A l cp nv r w h hl hx ha o1 (by omega) c
  by_cases o2 : r.op = 2
  · by_cases a : r.line = 0
    · rw [cs o2 5 (by unfold fqCase; repeat (first | rw [if_pos (by omega)] | rw [if_neg (by omega)]))]; exact fqr_o2 B base A l cp nv r w h hl hx ha o2 a
    · rw [cs o2 0 (by unfold fqCase; repeat (first | rw [if_pos (by omega)] | rw [if_neg (by omega)]))]; exact fqr_n2 B base A l cp nv r w h hl hx ha o2 a
  by_cases o3 : r.op = 3
  · by_cases a : r.line < 0
    · rw [cs o3 0 (by unfold fqCase; repeat (first | rw [if_pos (by omega)] | rw [if_neg (by omega)]))]; exact fqr_n3_a B base A l cp nv r w h hl hx ha o3 a
    by_cases b : r.line ≤ 4
    · rw [cs o3 1 (by unfold fqCase; repeat (first | rw [if_pos (by omega)] | rw [if_neg (by omega)]))]
      exact fqr_e3 B base A l cp nv r w h hl hx ha o3 ⟨by omega, b⟩
    by_cases c : r.line = 5
    · rw [cs o3 6 (by unfold fqCase; repeat (first | rw [if_pos (by omega)] | rw [if_neg (by omega)]))]
      exact fqr_w B base A l cp nv r w h hl hx ha o3 c
    · rw [cs o3 0 (by unfold fqCase; repeat (first | rw [if_pos (by omega)] | rw [if_neg (by omega)]))]; exact fqr_n3_b B base A l cp nv r w h hl hx ha o3 (by omega) c
  by_cases o4 : r.op = 4
  · rw [cs o4 7 (by unfold fqCase; repeat (first | rw [if_pos (by omega)] | rw [if_neg (by omega)]))]; exact fqr_g4 B base A l cp nv r w h hl hx ha o4
  by_cases o5 : r.op = 5
  · by_cases a : r.line < 0
    · rw [cs o5 4 (by unfold fqCase; repeat (first | rw [if_pos (by omega)] | rw [if_neg (by omega)]))]; exact fqr_g5_a B base A l cp nv r w h hl hx ha o5 a
    by_cases b : r.line ≤ 1
    · rw [cs o5 2 (by unfold fqCase; repeat (first | rw [if_pos (by omega)] | rw [if_neg (by omega)]))]
      show Calls _ _ _ _ (DoneR _ _ _ _ _ _ _ r.qTry)
      rw [qTry_5 o5]
      exact fqr_t5 B base A l cp nv r w h hl hx ha o5 ⟨by omega, b⟩
    by_cases c : r.line = 5
    · rw [cs o5 3 (by unfold fqCase; repeat (first | rw [if_pos (by omega)] | rw [if_neg (by omega)]))]; exact fqr_c5 B base A l cp nv r w h hl hx ha o5 c
    · rw [cs o5 4 (by unfold fqCase; repeat (first | rw [if_pos (by omega)] | rw [if_neg (by omega)]))]; exact fqr_g5_b B base A l cp nv r w h hl hx ha o5 (by omega) c
  by_cases o6 : r.op = 6
  · by_cases a : r.line < 0
    · rw [cs o6 11 (by unfold fqCase; repeat (first | rw [if_pos (by omega)] | rw [if_neg (by omega)]))]; exact fqr_g6_a B base A l cp nv r w h hl hx ha o6 a
    by_cases b : r.line ≤ 1
    · rw [cs o6 2 (by unfold fqCase; repeat (first | rw [if_pos (by omega)] | rw [if_neg (by omega)]))]
      show Calls _ _ _ _ (DoneR _ _ _ _ _ _ _ r.qTry)
      rw [qTry_6 o5]
      exact fqr_t6 B base A l cp nv r w h hl hx ha o6 ⟨by omega, b⟩
    by_cases c : r.line = 2
    · rw [cs o6 8 (by unfold fqCase; repeat (first | rw [if_pos (by omega)] | rw [if_neg (by omega)]))]
      exact fqr_y6 B base A l cp nv r w h hl hx ha o6 c
    · rw [cs o6 11 (by unfold fqCase; repeat (first | rw [if_pos (by omega)] | rw [if_neg (by omega)]))]; exact fqr_g6_b B base A l cp nv r w h hl hx ha o6 (by omega) c
  by_cases o7 : r.op = 7
  · by_cases a : r.line < 0
    · rw [cs o7 11 (by unfold fqCase; repeat (first | rw [if_pos (by omega)] | rw [if_neg (by omega)]))]; exact fqr_g7_a B base A l cp nv r w h hl hx ha o7 a
    by_cases b : r.line ≤ 1
    · rw [cs o7 2 (by unfold fqCase; repeat (first | rw [if_pos (by omega)] | rw [if_neg (by omega)]))]
      show Calls _ _ _ _ (DoneR _ _ _ _ _ _ _ r.qTry)
      rw [qTry_6 o5]
      exact fqr_t7 B base A l cp nv r w h hl hx ha o7 ⟨by omega, b⟩
    by_cases c : r.line = 2
    · rw [cs o7 9 (by unfold fqCase; repeat (first | rw [if_pos (by omega)] | rw [if_neg (by omega)]))]
      exact fqr_y7 B base A l cp nv r w h hl hx ha o7 c
    by_cases c3 : r.line = 3
    · rw [cs o7 10 (by unfold fqCase; repeat (first | rw [if_pos (by omega)] | rw [if_neg (by omega)]))]; exact fqr_s7 B base A l cp nv r w h hl hx ha o7 c3
    · rw [cs o7 11 (by unfold fqCase; repeat (first | rw [if_pos (by omega)] | rw [if_neg (by omega)]))]; exact fqr_g7_b B base A l cp nv r w h hl hx ha o7 (by omega) c c3
  by_cases o8 : r.op = 8
  · by_cases a : r.line = 0
    · rw [cs o8 12 (by unfold fqCase; repeat (first | rw [if_pos (by omega)] | rw [if_neg (by omega)]))]; exact fqr_c8 B base A l cp nv r w h hl hx ha o8 a
    · rw [cs o8 13 (by unfold fqCase; repeat (first | rw [if_pos (by omega)] | rw [if_neg (by omega)]))]; exact fqr_g8 B base A l cp nv r w h hl hx ha o8 a
  · rw [cs (op := r.op) rfl 0 (by unfold fqCase; repeat (first | rw [if_pos (by omega)] | rw [if_neg (by omega)]))]; exact fqr_n0 B base A l cp nv r w h hl hx ha (by omega)
end Go.Proofs.YtkkldcggbekleaaGreat
set_option linter.unusedVariables false
set_option linter.unusedSimpArgs false
namespace Go.Proofs.YtkkldcggbekleaaGreat
open Go.RowKit
theorem RunR.reset {w : World} {B base : Nat} {A : Option Addr} {l cp : Nat} {nv : Value} {r : LS} (h : RunR w B base A l cp nv r) :
    RunR ((((((w.setCell ⟨B, 14, none⟩ (.int .i64 0)).setCell ⟨B, 15, none⟩ (.int .i64 0)).setCell ⟨B, 16, none⟩ (.int .u32 0)).setCell ⟨B, 17, none⟩ (.int .u32 0)).setCell ⟨B, 18, none⟩ (.int .u32 0)).setCell ⟨B, 19, none⟩ (.slice none 0 0)) B base A l cp (.slice none 0 0) r.fresh :=
  (h.setAcc acc0).setNotes (ownN_nil _ _)
theorem rwaking_off (B base : Nat) (A : Option Addr) (l cp : Nat) (nv : Value) (r : LS) (w : World) (h : RunR w B base A l cp nv r) (hon : r.k.on = false) :
    Calls Tryz.prog 9 #[.pointer (some ⟨B, 0, none⟩)] w (DoneR B base A l cp w (.bool false) r.fresh) := by
  have HON := Lib.hid hon
  have a14 : w.cell? ⟨B, 14, none⟩ = some (.int .i64 r.acc.k) := h.row.cell_ (i := 14) rfl
  have a15 : w.cell? ⟨B, 15, none⟩ = some (.int .i64 r.acc.c) := h.row.cell_ (i := 15) rfl
  have a16 : w.cell? ⟨B, 16, none⟩ = some (.int .u32 r.acc.x) := h.row.cell_ (i := 16) rfl
  have a17 : w.cell? ⟨B, 17, none⟩ = some (.int .u32 r.acc.y) := h.row.cell_ (i := 17) rfl
  have a18 : w.cell? ⟨B, 18, none⟩ = some (.int .u32 r.acc.o) := h.row.cell_ (i := 18) rfl
  have a19 : w.cell? ⟨B, 19, none⟩ = some (nv) := h.row.cell_ (i := 19) rfl
  have f14 : w.frozen? ⟨B, 14, none⟩ = false := h.row.frozen 14
  have f15 : w.frozen? ⟨B, 15, none⟩ = false := h.row.frozen 15
  have f16 : w.frozen? ⟨B, 16, none⟩ = false := h.row.frozen 16
  have f17 : w.frozen? ⟨B, 17, none⟩ = false := h.row.frozen 17
  have f18 : w.frozen? ⟨B, 18, none⟩ = false := h.row.frozen 18
  have f19 : w.frozen? ⟨B, 19, none⟩ = false := h.row.frozen 19
  have HP0 := Lib.hid h.reset
  have HO0 := Lib.hid (reset_only (Only.refl (TurnB B A) w) (B := B) (.inl rfl))
  clear h hon
  go_enter Tryz.func9, Tryz.ntmps9
  go_upto_region 3 with (fail)
  clear a14 a15 a16 a17 a18 a19 f14 f15 f16 f17 f18 f19
  generalize ((((((w.setCell ⟨B, 14, none⟩ (.int .i64 0)).setCell ⟨B, 15, none⟩ (.int .i64 0)).setCell ⟨B, 16, none⟩ (.int .u32 0)).setCell ⟨B, 17, none⟩ (.int .u32 0)).setCell ⟨B, 18, none⟩ (.int .u32 0)).setCell ⟨B, 19, none⟩ (.slice none 0 0)) = w1 at *
  have c9 : w1.cell? ⟨B, 9, none⟩ = some (.bool r.k.on) := HP0.out.row.cell_ (i := 9) rfl
  rw [HON.out] at c9
  go_wp2
  go_ret
  exact ⟨rfl, HO0.out, _, HP0.out⟩
set_option maxRecDepth 100000 in
set_option maxHeartbeats 1000000 in
theorem rwaking_on (B base : Nat) (A : Option Addr) (l cp : Nat) (nv : Value) (r : LS) (w : World) (h : RunR w B base A l cp nv r) (hon : r.k.on = true) :
    Calls Tryz.prog 9 #[.pointer (some ⟨B, 0, none⟩)] w (DoneR B base A l cp w (.bool true) r.waking) := by
  have hacc := ofV_wake r.xs r.n r.k.on r.k.c r.k.i r.k.hit
  rw [show r.waking = { r.fresh with acc := ofV (wakeI r.xs r.n r.k.on r.k.c r.k.i r.k.hit).acc, k := (wakeI r.xs r.n r.k.on r.k.c r.k.i r.k.hit).next, xs := (wakeI r.xs r.n r.k.on r.k.c r.k.i r.k.hit).xs } from rfl]
  have hzl : (wakeI r.xs r.n r.k.on r.k.c r.k.i r.k.hit).xs.length = l := by
    rw [← h.len]
    unfold wakeI giveI lookI restI
    repeat' split
    all_goals first | rfl | exact st_len _ _ _
  generalize hst : wakeI r.xs r.n r.k.on r.k.c r.k.i r.k.hit = t at *
  obtain ⟨nx, ac, zs⟩ := t
  dsimp only at hacc hzl ⊢
  generalize ha5 : ofV ac = a5 at *
  have HST := Lib.hid hst
  have HAC := Lib.hid hacc
  have HZL := Lib.hid hzl
  clear hst hacc hzl ha5
  have HON := Lib.hid hon
  have a14 : w.cell? ⟨B, 14, none⟩ = some (.int .i64 r.acc.k) := h.row.cell_ (i := 14) rfl
  have a15 : w.cell? ⟨B, 15, none⟩ = some (.int .i64 r.acc.c) := h.row.cell_ (i := 15) rfl
  have a16 : w.cell? ⟨B, 16, none⟩ = some (.int .u32 r.acc.x) := h.row.cell_ (i := 16) rfl
  have a17 : w.cell? ⟨B, 17, none⟩ = some (.int .u32 r.acc.y) := h.row.cell_ (i := 17) rfl
  have a18 : w.cell? ⟨B, 18, none⟩ = some (.int .u32 r.acc.o) := h.row.cell_ (i := 18) rfl
  have a19 : w.cell? ⟨B, 19, none⟩ = some (nv) := h.row.cell_ (i := 19) rfl
  have f14 : w.frozen? ⟨B, 14, none⟩ = false := h.row.frozen 14
  have f15 : w.frozen? ⟨B, 15, none⟩ = false := h.row.frozen 15
  have f16 : w.frozen? ⟨B, 16, none⟩ = false := h.row.frozen 16
  have f17 : w.frozen? ⟨B, 17, none⟩ = false := h.row.frozen 17
  have f18 : w.frozen? ⟨B, 18, none⟩ = false := h.row.frozen 18
  have f19 : w.frozen? ⟨B, 19, none⟩ = false := h.row.frozen 19
  have HP0 := Lib.hid h.reset
  have HO0 := Lib.hid (reset_only (Only.refl (TurnB B A) w) (B := B) (.inl rfl))
  clear h hon
  go_enter Tryz.func9, Tryz.ntmps9
  go_upto_region 3 with (fail)
  clear a14 a15 a16 a17 a18 a19 f14 f15 f16 f17 f18 f19
  generalize ((((((w.setCell ⟨B, 14, none⟩ (.int .i64 0)).setCell ⟨B, 15, none⟩ (.int .i64 0)).setCell ⟨B, 16, none⟩ (.int .u32 0)).setCell ⟨B, 17, none⟩ (.int .u32 0)).setCell ⟨B, 18, none⟩ (.int .u32 0)).setCell ⟨B, 19, none⟩ (.slice none 0 0)) = w1 at *
  have c9 : w1.cell? ⟨B, 9, none⟩ = some (.bool r.k.on) := HP0.out.row.cell_ (i := 9) rfl
  rw [HON.out] at c9
  go_upto_region 5 with (fail)
  clear c9
  have HQ : r.fresh.xs = r.xs ∧ r.fresh.n = r.n ∧ r.fresh.k = r.k := ⟨rfl, rfl, rfl⟩
  have HQ2 := Lib.hid HQ
  clear HQ
  refine wp_region_phase (n := 26) 15 (fun w => w.cell? ⟨B, 0, none⟩ = some (.slice A l cp) ∧ w.cell? ⟨B, 1, none⟩ = some (.int .i64 r.n) ∧ w.cell? ⟨B, 9, none⟩ = some (.bool r.k.on) ∧ w.cell? ⟨B, 10, none⟩ = some (.int .i64 r.k.c) ∧ w.cell? ⟨B, 11, none⟩ = some (.int .i64 r.k.i) ∧ w.cell? ⟨B, 12, none⟩ = some (.bool r.k.hit)) rfl (by kernel_rfl)
    ⟨HP0.out.row.cell_ (i := 0) rfl, HP0.out.row.cell_ (i := 1) rfl, HP0.out.row.cell_ (i := 9) rfl, HP0.out.row.cell_ (i := 10) rfl, HP0.out.row.cell_ (i := 11) rfl, HP0.out.row.cell_ (i := 12) rfl⟩ (fun hHeld => ?_)
  have HP1 := Lib.hid (HP0.out.keep (Only.refl Nil w1).drew)
  have HO1 := Lib.hid HO0.out.drew
  clear HP0 HO0
  generalize w1.drew = w2 at *
  refine mpa 0 rfl (.pointer (some ⟨B, 0, none⟩)) (fun w => ?_) ?_
  · go_simp
  (try simp only [Act.put, k1, k2, k3])
  refine mpa 1 rfl (.pointer (some ⟨B, 0, none⟩)) (fun w => ?_) ?_
  · go_simp
  (try simp only [Act.put, k1, k2, k3])
  refine mpa 2 rfl (.pointer (some ⟨B, 0, none⟩)) (fun w => ?_) ?_
  · go_simp
  (try simp only [Act.put, k1, k2, k3])
  refine mpa 3 rfl (.pointer (some ⟨B, 0, none⟩)) (fun w => ?_) ?_
  · go_simp
  (try simp only [Act.put, k1, k2, k3])
  refine mpa 4 rfl (.pointer (some ⟨B, 0, none⟩)) (fun w => ?_) ?_
  · go_simp
  (try simp only [Act.put, k1, k2, k3])
  refine mpt 5 rfl (.slice A l cp) (fun w hSw => ?_) ?_
  · (try dsimp only at hSw)
    go_split_ands
    go_simp
  (try simp only [Act.put, k1, k2, k3])
  refine mpa 6 rfl (.pointer (some ⟨B, 0, none⟩)) (fun w => ?_) ?_
  · go_simp
  (try simp only [Act.put, k1, k2, k3])
  refine mpa 7 rfl (.pointer (some ⟨B, 0, none⟩)) (fun w => ?_) ?_
  · go_simp
  (try simp only [Act.put, k1, k2, k3])
  refine mpa 8 rfl (.pointer (some ⟨B, 1, none⟩)) (fun w => ?_) ?_
  · go_simp
  (try simp only [Act.put, k1, k2, k3])
  refine mpt 9 rfl (.int .i64 r.n) (fun w hSw => ?_) ?_
  · (try dsimp only at hSw)
    go_split_ands
    go_simp
  (try simp only [Act.put, k1, k2, k3])
  refine mpa 10 rfl (.pointer (some ⟨B, 0, none⟩)) (fun w => ?_) ?_
  · go_simp
  (try simp only [Act.put, k1, k2, k3])
  refine mpa 11 rfl (.pointer (some ⟨B, 0, none⟩)) (fun w => ?_) ?_
  · go_simp
  (try simp only [Act.put, k1, k2, k3])
  refine mpa 12 rfl (.pointer (some ⟨B, 4, none⟩)) (fun w => ?_) ?_
  · go_simp
  (try simp only [Act.put, k1, k2, k3])
  refine mpa 13 rfl (.pointer (some ⟨B, 9, none⟩)) (fun w => ?_) ?_
  · go_simp
  (try simp only [Act.put, k1, k2, k3])
  refine mpt 14 rfl (.agg #[.bool r.k.on, .int .i64 r.k.c, .int .i64 r.k.i, .bool r.k.hit]) (fun w hSw => ?_) ?_
  · (try dsimp only at hSw)
    go_split_ands
    go_simp
  (try simp only [Act.put, k1, k2, k3])
  refine mpc 15 rfl (by kernel_rfl) (by rfl) (fun K hK => ?_)
  go_simp
  refine (rwake_any base A l cp r.xs r.n r.k.on r.k.c r.k.i r.k.hit _ HP1.out.own HP1.out.len).mono ?_
  rw [HST.out]
  intro e w3 hF
  obtain ⟨rfl, hO, hM⟩ := hF
  dsimp only at hM ⊢
  rw [HAC.out]
  clear HAC
  dsimp only [Acc5.v, WkV.v]
  have HP2 := Lib.hid (HP1.out.call hO hM HZL.out)
  have HO2 := Lib.hid (HO1.out.trans hO.turned2)
  refine hK.out _ _ (.inl (by kernel_rfl)) ?_
  clear hK K hHeld hO hM HP1 HO1
  (try simp only [Act.put, k1, k2, k3])
  refine mpa 16 rfl (.tuple #[.agg #[.bool nx.on, .int .i64 nx.c, .int .i64 nx.i, .bool nx.hit], .agg #[.int .i64 a5.k, .int .i64 a5.c, .int .u32 a5.x, .int .u32 a5.y, .int .u32 a5.o]]) (fun w => ?_) ?_
  · go_simp
  (try simp only [Act.put, k1, k2, k3])
  refine mpa 17 rfl (.agg #[.bool nx.on, .int .i64 nx.c, .int .i64 nx.i, .bool nx.hit]) (fun w => ?_) ?_
  · go_simp
  (try simp only [Act.put, k1, k2, k3])
  refine mpa 18 rfl (.agg #[.int .i64 a5.k, .int .i64 a5.c, .int .u32 a5.x, .int .u32 a5.y, .int .u32 a5.o]) (fun w => ?_) ?_
  · go_simp
  (try simp only [Act.put, k1, k2, k3])
  refine mpa 19 rfl (.pointer (some ⟨B, 0, none⟩)) (fun w => ?_) ?_
  · go_simp
  (try simp only [Act.put, k1, k2, k3])
  refine mpa 20 rfl (.pointer (some ⟨B, 4, none⟩)) (fun w => ?_) ?_
  · go_simp
  (try simp only [Act.put, k1, k2, k3])
  refine mpa 21 rfl (.pointer (some ⟨B, 9, none⟩)) (fun w => ?_) ?_
  · go_simp
  (try simp only [Act.put, k1, k2, k3])
  have a9 : w3.cell? ⟨B, 9, none⟩ = some (.bool r.k.on) := HP2.out.row.cell_ (i := 9) rfl
  have a10 : w3.cell? ⟨B, 10, none⟩ = some (.int .i64 r.k.c) := HP2.out.row.cell_ (i := 10) rfl
  have a11 : w3.cell? ⟨B, 11, none⟩ = some (.int .i64 r.k.i) := HP2.out.row.cell_ (i := 11) rfl
  have a12 : w3.cell? ⟨B, 12, none⟩ = some (.bool r.k.hit) := HP2.out.row.cell_ (i := 12) rfl
  have f9 : w3.frozen? ⟨B, 9, none⟩ = false := HP2.out.row.frozen 9
  have f10 : w3.frozen? ⟨B, 10, none⟩ = false := HP2.out.row.frozen 10
  have f11 : w3.frozen? ⟨B, 11, none⟩ = false := HP2.out.row.frozen 11
  have f12 : w3.frozen? ⟨B, 12, none⟩ = false := HP2.out.row.frozen 12
  refine mpc 22 rfl (by kernel_rfl) (by rfl) (fun K hK => ?_)
  go_simp
  have HP3 := Lib.hid (HP2.out.setWake nx)
  have HO3 := Lib.hid (set_wake_only HO2.out (B := B) (.inl rfl) (.bool nx.on) (.int .i64 nx.c) (.int .i64 nx.i) (.bool nx.hit))
  refine hK.out _ _ (.inl (by kernel_rfl)) ?_
  clear hK K a9 a10 a11 a12 f9 f10 f11 f12 HP2 HO2
  generalize (((w3.setCell ⟨B, 9, none⟩ (.bool nx.on)).setCell ⟨B, 10, none⟩ (.int .i64 nx.c)).setCell ⟨B, 11, none⟩ (.int .i64 nx.i)).setCell ⟨B, 12, none⟩ (.bool nx.hit) = w4 at *
  (try simp only [Act.put, k1, k2, k3])
  refine mpa 23 rfl (.pointer (some ⟨B, 0, none⟩)) (fun w => ?_) ?_
  · go_simp
  (try simp only [Act.put, k1, k2, k3])
  refine mpa 24 rfl (.pointer (some ⟨B, 14, none⟩)) (fun w => ?_) ?_
  · go_simp
  (try simp only [Act.put, k1, k2, k3])
  have b14 : w4.cell? ⟨B, 14, none⟩ = some (.int .i64 0) := HP3.out.row.cell_ (i := 14) rfl
  have b15 : w4.cell? ⟨B, 15, none⟩ = some (.int .i64 0) := HP3.out.row.cell_ (i := 15) rfl
  have b16 : w4.cell? ⟨B, 16, none⟩ = some (.int .u32 0) := HP3.out.row.cell_ (i := 16) rfl
  have b17 : w4.cell? ⟨B, 17, none⟩ = some (.int .u32 0) := HP3.out.row.cell_ (i := 17) rfl
  have b18 : w4.cell? ⟨B, 18, none⟩ = some (.int .u32 0) := HP3.out.row.cell_ (i := 18) rfl
  have f14 : w4.frozen? ⟨B, 14, none⟩ = false := HP3.out.row.frozen 14
  have f15 : w4.frozen? ⟨B, 15, none⟩ = false := HP3.out.row.frozen 15
  have f16 : w4.frozen? ⟨B, 16, none⟩ = false := HP3.out.row.frozen 16
  have f17 : w4.frozen? ⟨B, 17, none⟩ = false := HP3.out.row.frozen 17
  have f18 : w4.frozen? ⟨B, 18, none⟩ = false := HP3.out.row.frozen 18
  refine mpc 25 rfl (by kernel_rfl) (by rfl) (fun K hK => ?_)
  go_simp
  have HP4 := Lib.hid (HP3.out.setAcc a5)
  have HO4 := Lib.hid (set_acc_only HO3.out (B := B) (.inl rfl) (.int .i64 a5.k) (.int .i64 a5.c) (.int .u32 a5.x) (.int .u32 a5.y) (.int .u32 a5.o))
  refine hK.out _ _ (.inl (by kernel_rfl)) ?_
  clear hK K b14 b15 b16 b17 b18 f14 f15 f16 f17 f18 HP3 HO3
  generalize ((((w4.setCell ⟨B, 14, none⟩ (.int .i64 a5.k)).setCell ⟨B, 15, none⟩ (.int .i64 a5.c)).setCell ⟨B, 16, none⟩ (.int .u32 a5.x)).setCell ⟨B, 17, none⟩ (.int .u32 a5.y)).setCell ⟨B, 18, none⟩ (.int .u32 a5.o) = w5 at *
  (try simp only [Act.put, k1, k2, k3])
  refine wpAnyP_done (by kernel_rfl) ?_ _
  go_wp2
  go_ret
  exact ⟨rfl, HO4.out, _, HP4.out⟩
end Go.Proofs.YtkkldcggbekleaaGreat
