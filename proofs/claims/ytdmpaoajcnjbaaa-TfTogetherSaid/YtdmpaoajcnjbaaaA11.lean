/- TfPlay, TfWhole, TfBegun, IdleM, TfTogM, TfTogether. -/
import Derived.Deep.OwnRows
import Derived.Test.YtdmpaoajcnjbaaaA10
import Derived.Test.YtdmpaoajcnjbaaaA2
/- The law's play: a pick of a task. -/
set_option linter.unusedVariables false
set_option linter.unusedSimpArgs false
namespace Go.Proofs.Ytdmpaoajcnjbaaa
open Go.RowKit

theorem may_any (op h : Int) (w : World) : Calls Try.prog 26 #[.int .i64 op, .int .i64 h] w fun e w' => e = .returned (.bool (mayI op h)) ∧ w = w' := by
  by_cases h0 : h = 0
  · subst h0
    have E := Lib.hid (show mayI op 0 = (op == 1 || op == 3 || op == 5 || op == 6) from rfl)
    go_enter Try.func26, Try.ntmps26
    go_wp2
    all_goals
      go_ret
      exact ⟨ret_bool (by rw [E.out]; first | done | simp_all), rfl⟩
  by_cases h1 : h = 1
  · subst h1
    have E := Lib.hid (show mayI op 1 = (op == 2 || op == 7) from rfl)
    go_enter Try.func26, Try.ntmps26
    go_wp2
    all_goals
      go_ret
      exact ⟨ret_bool (by rw [E.out]; first | done | simp_all), rfl⟩
  · have E := Lib.hid (show mayI op h = (op == 4 || op == 8) by unfold mayI; rw [if_neg h0, if_neg h1])
    go_enter Try.func26, Try.ntmps26
    go_wp2
    all_goals
      go_ret
      exact ⟨ret_bool (by rw [E.out]; first | done | simp_all), rfl⟩

theorem from_any (op h : Int) (w : World) : Calls Try.prog 27 #[.int .i64 op, .int .i64 h] w fun e w' => e = .returned (.int .i64 (fromI op h)) ∧ w = w' := by
  have hf : ∀ v, fromI op h = v → Hid (fromI op h = v) := fun _ e => Lib.hid e
  by_cases h2 : op = 2
  · subst h2
    have E := hf 0 rfl
    clear hf
    go_enter Try.func27, Try.ntmps27
    go_wp2
    go_ret
    exact ⟨ret_int (by rw [E.out]), rfl⟩
  by_cases h4 : op = 4
  · subst h4
    have E := hf 0 rfl
    clear hf
    go_enter Try.func27, Try.ntmps27
    go_wp2
    go_ret
    exact ⟨ret_int (by rw [E.out]), rfl⟩
  by_cases h8 : op = 8
  · subst h8
    have E := hf 1 rfl
    clear hf
    go_enter Try.func27, Try.ntmps27
    go_wp2
    go_ret
    exact ⟨ret_int (by rw [E.out]), rfl⟩
  · have E := hf h (by unfold fromI; rw [if_neg (by omega), if_neg h8])
    have b2 : (op == 2) = false := beq_eq_false_iff_ne.2 h2
    have b4 : (op == 4) = false := beq_eq_false_iff_ne.2 h4
    have b8 : (op == 8) = false := beq_eq_false_iff_ne.2 h8
    clear h2 h4 h8
    clear hf
    go_enter Try.func27, Try.ntmps27
    go_wp2
    go_ret
    exact ⟨ret_int (by rw [E.out]), rfl⟩

theorem behind_of (op ret h : Int) (w : World) : Calls Try.prog 29 #[.int .i64 op, .int .i64 ret, .int .i64 h] w fun e w' => e = .returned (.int .i64 (behindI op ret h)) ∧ w = w' := by
  have hf : ∀ v, behindI op ret h = v → Hid (behindI op ret h = v) := fun _ e => Lib.hid e
  by_cases hr : ret = 2
  · subst hr
    by_cases h1 : op = 1
    · subst h1
      have E := hf 1 rfl
      clear hf
      go_enter Try.func29, Try.ntmps29
      go_wp2
      go_ret
      exact ⟨ret_int (by rw [E.out]), rfl⟩
    by_cases h5 : op = 5
    · subst h5
      have E := hf 1 rfl
      clear hf
      go_enter Try.func29, Try.ntmps29
      go_wp2
      go_ret
      exact ⟨ret_int (by rw [E.out]), rfl⟩
    by_cases h3 : op = 3
    · subst h3
      have E := hf 2 rfl
      clear hf
      go_enter Try.func29, Try.ntmps29
      go_wp2
      go_ret
      exact ⟨ret_int (by rw [E.out]), rfl⟩
    by_cases h6 : op = 6
    · subst h6
      have E := hf 2 rfl
      clear hf
      go_enter Try.func29, Try.ntmps29
      go_wp2
      go_ret
      exact ⟨ret_int (by rw [E.out]), rfl⟩
    by_cases h7 : op = 7
    · subst h7
      have E := hf 2 rfl
      clear hf
      go_enter Try.func29, Try.ntmps29
      go_wp2
      go_ret
      exact ⟨ret_int (by rw [E.out]), rfl⟩
    · have E := hf h (by unfold behindI; rw [if_neg (by omega), if_neg (by omega), if_neg (by omega)])
      have b1 : (op == 1) = false := beq_eq_false_iff_ne.2 h1
      have b5 : (op == 5) = false := beq_eq_false_iff_ne.2 h5
      have b3 : (op == 3) = false := beq_eq_false_iff_ne.2 h3
      have b6 : (op == 6) = false := beq_eq_false_iff_ne.2 h6
      have b7 : (op == 7) = false := beq_eq_false_iff_ne.2 h7
      clear h1 h5 h3 h6 h7
      clear hf
      go_enter Try.func29, Try.ntmps29
      go_wp2
      go_ret
      exact ⟨ret_int (by rw [E.out]), rfl⟩
  · have E := hf h (by unfold behindI; rw [if_pos hr])
    have br : (ret == 2) = false := beq_eq_false_iff_ne.2 hr
    clear hr
    clear hf
    go_enter Try.func29, Try.ntmps29
    go_wp2
    go_ret
    exact ⟨ret_int (by rw [E.out]), rfl⟩

theorem exec_loadR {P : Program} {a : Act} {o : Oper} {ty t : TypeId} {x : Operand} {B : Nat} {w : World} {cs : Array Value} {d : TypeDesc} (ho : o.op = .load ty x) (hx : a.eval x = .pointer (some ⟨B, 0, none⟩)) (hg : Row w B t cs)
    (hu : P.underlying ty = some d) (hd : (match d with | .struct _ | .array _ _ => true | _ => false) = true) (hi : (P.info? ty).map (·.size) = some cs.size) : (execOp a.eval o).run P w = .ok (.value (.agg cs)) w := by
  have h := run_loadVar_row (P := P) w B t ty cs (0, 0) d hg hu hd hi
  unfold execOp
  simp [ho, hx, Instr.loadAt, Instr.sureAddr, h]
/-- A load of a struct that is known whole. -/
theorem wp_loadR {P : Program} {w : World} {ops : Array Oper} {rest : List Oper} {o : Oper} {a : Act} {Q : Exit → Act → World → Prop} (hgd : o.guard = none) (ty : TypeId) (x : Operand) (ho : o.op = .load ty x) {t : TypeId} {B : Nat} {cs : Array Value} {d : TypeDesc}
    (hx : a.eval x = .pointer (some ⟨B, 0, none⟩)) (hg : Row w B t cs) (hu : P.underlying ty = some d) (hd : (match d with | .struct _ | .array _ _ => true | _ => false) = true) (hi : (P.info? ty).map (·.size) = some cs.size)
    (h : wpList P ops Q rest (a.put o.dst (.agg cs)) w) : wpList P ops Q (o :: rest) a w := by
  refine wpList_plain hgd fun K hK => ?_
  unfold Oper.wp
  rw [exec_loadR ho hx hg hu hd hi]
  exact hK _ _ h

-- behind the beginning: the run's state is M.at t
set_option maxRecDepth 100000 in
set_option maxHeartbeats 4000000 in
theorem play_any (L : List (Nat × TypeId × Array Value)) (w0 : World) (X GL GH : Nat) (B : Nat → Nat) (p A : Option Addr) (cp k : Nat) (m : MV) (t : Nat) (op : Int) (w : World) (h : MatchP L w0 X GL GH B p A cp k m w) (ht : t < k) :
    Calls Try.prog 15 #[Value.pointer (some ⟨X, 0, none⟩), .int .i64 t, .int .i64 op] w fun e w' => e = .returned (.tuple #[]) ∧ MatchP L w0 X GL GH B p A cp k (playI LS.tf m t op) w' := by
  obtain ⟨b, hb⟩ : ∃ b, B t = b := ⟨_, rfl⟩
  have HBT := Lib.hid hb
  have HM := Lib.hid h
  clear h hb
  have hc4 : w.cell? ⟨b, 4, none⟩ = some (.int .i64 (m.at t).op) := by
    obtain ⟨nv, hq⟩ := HM.out.run t ht
    rw [HBT.out] at hq
    exact hq.row.cell_ (i := 4) rfl
  by_cases hop : (m.at t).op = 0
  · have c4 := hc4
    rw [hop] at c4
    clear hc4
    have HOP := Lib.hid hop
    clear hop
    cases hmay : mayI op (m.hold t)
    · have HMAY := Lib.hid hmay
      clear hmay
      have HPL := Lib.hid (show playI LS.tf m t op = m by unfold playI; rw [if_pos HOP.out, HMAY.out, if_neg Bool.false_ne_true])
      obtain ⟨cl, hx0⟩ := HM.out.x
      obtain ⟨csl, hl0, hl1⟩ := HM.out.l
      obtain ⟨csh, hh0, hh1⟩ := HM.out.h
      have x0 : w.cell? ⟨X, 0, none⟩ = some (.slice (some ⟨GL, 0, none⟩) k cl) := hx0.cell_ (i := 0) rfl
      have x1 : w.cell? ⟨X, 1, none⟩ = some (.slice (some ⟨GH, 0, none⟩) k k) := hx0.cell_ (i := 1) rfl
      have gl : w.cell? ⟨GL, t, none⟩ = some (.pointer (some ⟨b, 0, none⟩)) := by have e := hl0.cell_ (hl1 t ht); rw [HBT.out] at e; exact e
      have gh : w.cell? ⟨GH, t, none⟩ = some (.int .i64 (m.hold t)) := hh0.cell_ (hh1 t ht)
      have fh : w.frozen? ⟨GH, t, none⟩ = false := hh0.frozen t
      clear hx0 hl0 hl1 hh0 hh1
      go_enter Try.func15, Try.ntmps15
      go_wp2_with fail
      clear x0 x1 gl gh fh c4
      refine (may_any op (m.hold t) _).mono ?_
      rw [HMAY.out]
      rintro e w1 ⟨rfl, rfl⟩
      go_wp2
      go_returns
      exact ⟨rfl, by rw [HPL.out]; exact HM.out⟩
    · have HMAY := Lib.hid hmay
      clear hmay
      have HPL := Lib.hid (show playI LS.tf m t op = (m.start t op).go LS.tf t by unfold playI; rw [if_pos HOP.out, HMAY.out, if_pos rfl])
      obtain ⟨cl, hx0⟩ := HM.out.x
      obtain ⟨csl, hl0, hl1⟩ := HM.out.l
      obtain ⟨csh, hh0, hh1⟩ := HM.out.h
      have x0 : w.cell? ⟨X, 0, none⟩ = some (.slice (some ⟨GL, 0, none⟩) k cl) := hx0.cell_ (i := 0) rfl
      have x1 : w.cell? ⟨X, 1, none⟩ = some (.slice (some ⟨GH, 0, none⟩) k k) := hx0.cell_ (i := 1) rfl
      have gl : w.cell? ⟨GL, t, none⟩ = some (.pointer (some ⟨b, 0, none⟩)) := by have e := hl0.cell_ (hl1 t ht); rw [HBT.out] at e; exact e
      have gh : w.cell? ⟨GH, t, none⟩ = some (.int .i64 (m.hold t)) := hh0.cell_ (hh1 t ht)
      have fh : w.frozen? ⟨GH, t, none⟩ = false := hh0.frozen t
      clear hx0 hl0 hl1 hh0 hh1
      go_enter Try.func15, Try.ntmps15
      go_wp2_with fail
      clear x0 gl c4
      refine (may_any op (m.hold t) _).mono ?_
      rw [HMAY.out]
      rintro e w1 ⟨rfl, rfl⟩
      have HFH := Lib.hid fh
      clear fh
      go_upto_region 3 with (fail)
      refine wp_region_phase (n := 16) 15 (fun w => w.cell? ⟨X, 1, none⟩ = some (.slice (some ⟨GH, 0, none⟩) k k) ∧ w.cell? ⟨GH, t, none⟩ = some (.int .i64 (m.hold t))) rfl (by kernel_rfl) ⟨x1, gh⟩ (fun hHeld => ?_)
      have HM1 := Lib.hid (HM.out.keep (Only.refl Nil w).drew)
      have HZF : Hid (w.drew.frozen? ⟨GH, t, none⟩ = false) := Lib.hid HFH.out
      clear x1 gh HFH HM
      generalize w.drew = w1 at *
      refine pa_0 rfl rfl (Value.pointer (some ⟨X, 0, none⟩)) (by kernel_rfl) (by kernel_rfl) (by kernel_rfl) (by decide) (by kernel_rfl) (fun _ _ _ h => h) (by rfl) (fun w => ?_) (by first | (right; assumption) | (left; kernel_rfl)) ?_
      · go_simp
      (try simp only [Act.put, List.setIfInBounds_toArray, List.set_cons_zero, List.set_cons_succ])
      refine pa_1 rfl rfl (Value.pointer (some ⟨X, 0, none⟩)) (by kernel_rfl) (by kernel_rfl) (by kernel_rfl) (by decide) (by kernel_rfl) (fun _ _ _ h => h) (by rfl) (fun w => ?_) (by first | (right; assumption) | (left; kernel_rfl)) ?_
      · go_simp
      (try simp only [Act.put, List.setIfInBounds_toArray, List.set_cons_zero, List.set_cons_succ])
      refine pa_2 rfl rfl (.pointer (some ⟨X, 1, none⟩)) (by kernel_rfl) (by kernel_rfl) (by kernel_rfl) (by decide) (by kernel_rfl) (fun _ _ _ h => h) (by rfl) (fun w => ?_) (by first | (right; assumption) | (left; kernel_rfl)) ?_
      · go_simp
      (try simp only [Act.put, List.setIfInBounds_toArray, List.set_cons_zero, List.set_cons_succ])
      refine pt_3 rfl rfl 9 (.slice (some ⟨GH, 0, none⟩) k k) (by kernel_rfl) (by kernel_rfl) (by kernel_rfl) (by kernel_rfl) (by kernel_rfl) (fun _ _ _ h => h) (by rfl) (fun w hSw => ?_) (by assumption) ?_
      · (try dsimp only at hSw)
        go_split_ands
        go_simp
      (try simp only [Act.put, List.setIfInBounds_toArray, List.set_cons_zero, List.set_cons_succ])
      refine pa_4 rfl rfl (.int .i64 t) (by kernel_rfl) (by kernel_rfl) (by kernel_rfl) (by decide) (by kernel_rfl) (fun _ _ _ h => h) (by rfl) (fun w => ?_) (by first | (right; assumption) | (left; kernel_rfl)) ?_
      · go_simp
      (try simp only [Act.put, List.setIfInBounds_toArray, List.set_cons_zero, List.set_cons_succ])
      refine pa_5 rfl rfl (.int .i64 op) (by kernel_rfl) (by kernel_rfl) (by kernel_rfl) (by decide) (by kernel_rfl) (fun _ _ _ h => h) (by rfl) (fun w => ?_) (by first | (right; assumption) | (left; kernel_rfl)) ?_
      · go_simp
      (try simp only [Act.put, List.setIfInBounds_toArray, List.set_cons_zero, List.set_cons_succ])
      refine pa_6 rfl rfl (Value.pointer (some ⟨X, 0, none⟩)) (by kernel_rfl) (by kernel_rfl) (by kernel_rfl) (by decide) (by kernel_rfl) (fun _ _ _ h => h) (by rfl) (fun w => ?_) (by first | (right; assumption) | (left; kernel_rfl)) ?_
      · go_simp
      (try simp only [Act.put, List.setIfInBounds_toArray, List.set_cons_zero, List.set_cons_succ])
      refine pa_7 rfl rfl (Value.pointer (some ⟨X, 0, none⟩)) (by kernel_rfl) (by kernel_rfl) (by kernel_rfl) (by decide) (by kernel_rfl) (fun _ _ _ h => h) (by rfl) (fun w => ?_) (by first | (right; assumption) | (left; kernel_rfl)) ?_
      · go_simp
      (try simp only [Act.put, List.setIfInBounds_toArray, List.set_cons_zero, List.set_cons_succ])
      refine pa_8 rfl rfl (.pointer (some ⟨X, 1, none⟩)) (by kernel_rfl) (by kernel_rfl) (by kernel_rfl) (by decide) (by kernel_rfl) (fun _ _ _ h => h) (by rfl) (fun w => ?_) (by first | (right; assumption) | (left; kernel_rfl)) ?_
      · go_simp
      (try simp only [Act.put, List.setIfInBounds_toArray, List.set_cons_zero, List.set_cons_succ])
      refine pt_9 rfl rfl 9 (.slice (some ⟨GH, 0, none⟩) k k) (by kernel_rfl) (by kernel_rfl) (by kernel_rfl) (by kernel_rfl) (by kernel_rfl) (fun _ _ _ h => h) (by rfl) (fun w hSw => ?_) (by assumption) ?_
      · (try dsimp only at hSw)
        go_split_ands
        go_simp
      (try simp only [Act.put, List.setIfInBounds_toArray, List.set_cons_zero, List.set_cons_succ])
      refine pa_10 rfl rfl (.int .i64 t) (by kernel_rfl) (by kernel_rfl) (by kernel_rfl) (by decide) (by kernel_rfl) (fun _ _ _ h => h) (by rfl) (fun w => ?_) (by first | (right; assumption) | (left; kernel_rfl)) ?_
      · go_simp
      (try simp only [Act.put, List.setIfInBounds_toArray, List.set_cons_zero, List.set_cons_succ])
      refine pa_11 rfl rfl (.pointer (some ⟨GH, t, none⟩)) (by kernel_rfl) (by kernel_rfl) (by kernel_rfl) (by decide) (by kernel_rfl) (fun _ _ _ h => h) (by rfl) (fun w => ?_) (by first | (right; assumption) | (left; kernel_rfl)) ?_
      · go_simp
      (try simp only [Act.put, List.setIfInBounds_toArray, List.set_cons_zero, List.set_cons_succ])
      refine pt_12 rfl rfl 9 (.int .i64 (m.hold t)) (by kernel_rfl) (by kernel_rfl) (by kernel_rfl) (by kernel_rfl) (by kernel_rfl) (fun _ _ _ h => h) (by rfl) (fun w hSw => ?_) (by assumption) ?_
      · (try dsimp only at hSw)
        go_split_ands
        go_simp
      (try simp only [Act.put, List.setIfInBounds_toArray, List.set_cons_zero, List.set_cons_succ])
      refine pc_13 rfl rfl (by kernel_rfl) (by rfl) (fun K hK => ?_)
      go_simp
      refine (from_any op (m.hold t) _).mono ?_
      rintro e w9 ⟨rfl, rfl⟩
      refine hK.out _ _ (.inr hHeld) ?_
      clear hK K
      (try simp only [Act.put, List.setIfInBounds_toArray, List.set_cons_zero, List.set_cons_succ])
      refine pa_14 rfl rfl (.pointer (some ⟨GH, t, none⟩)) (by kernel_rfl) (by kernel_rfl) (by kernel_rfl) (by decide) (by kernel_rfl) (fun _ _ _ h => h) (by rfl) (fun w => ?_) (by first | (right; assumption) | (left; kernel_rfl)) ?_
      · go_simp
      (try simp only [Act.put, List.setIfInBounds_toArray, List.set_cons_zero, List.set_cons_succ])
      have zf : w1.frozen? ⟨GH, t, none⟩ = false := HZF.out
      have zc : w1.cell? ⟨GH, t, none⟩ = some (.int .i64 (m.hold t)) := hHeld.2
      refine pc_15 rfl rfl (by kernel_rfl) (by rfl) (fun K hK => ?_)
      go_simp
      have HM2 := Lib.hid (HM1.out.held ht (fromI op (m.hold t)))
      refine hK.out _ _ (.inl (by kernel_rfl)) ?_
      clear hK K hHeld zf zc HM1 HZF
      generalize w1.setCell ⟨GH, t, none⟩ (.int .i64 (fromI op (m.hold t))) = w2 at *
      (try simp only [Act.put, List.setIfInBounds_toArray, List.set_cons_zero, List.set_cons_succ])
      refine wpAnyP_done (by kernel_rfl) ?_ _
      obtain ⟨nv0, hq0⟩ := HM2.out.run t ht
      rw [HBT.out, at_setH] at hq0
      generalize hr0 : m.at t = r0 at *
      have HR0 := Lib.hid hr0
      clear hr0
      have a4 : w2.cell? ⟨b, 4, none⟩ = some (.int .i64 r0.op) := hq0.row.cell_ (i := 4) rfl
      have a5 : w2.cell? ⟨b, 5, none⟩ = some (.int .i64 r0.line) := hq0.row.cell_ (i := 5) rfl
      have a6 : w2.cell? ⟨b, 6, none⟩ = some (.int .u32 r0.a) := hq0.row.cell_ (i := 6) rfl
      have a7 : w2.cell? ⟨b, 7, none⟩ = some (.int .u32 r0.b) := hq0.row.cell_ (i := 7) rfl
      have a8 : w2.cell? ⟨b, 8, none⟩ = some (.int .i64 r0.s) := hq0.row.cell_ (i := 8) rfl
      have a9 : w2.cell? ⟨b, 9, none⟩ = some (.bool r0.k.on) := hq0.row.cell_ (i := 9) rfl
      have a10 : w2.cell? ⟨b, 10, none⟩ = some (.int .i64 r0.k.c) := hq0.row.cell_ (i := 10) rfl
      have a11 : w2.cell? ⟨b, 11, none⟩ = some (.int .i64 r0.k.i) := hq0.row.cell_ (i := 11) rfl
      have a12 : w2.cell? ⟨b, 12, none⟩ = some (.bool r0.k.hit) := hq0.row.cell_ (i := 12) rfl
      have a13 : w2.cell? ⟨b, 13, none⟩ = some (.int .i64 r0.ret) := hq0.row.cell_ (i := 13) rfl
      have f4 : w2.frozen? ⟨b, 4, none⟩ = false := hq0.row.frozen 4
      have f5 : w2.frozen? ⟨b, 5, none⟩ = false := hq0.row.frozen 5
      have f6 : w2.frozen? ⟨b, 6, none⟩ = false := hq0.row.frozen 6
      have f7 : w2.frozen? ⟨b, 7, none⟩ = false := hq0.row.frozen 7
      have f8 : w2.frozen? ⟨b, 8, none⟩ = false := hq0.row.frozen 8
      have f9 : w2.frozen? ⟨b, 9, none⟩ = false := hq0.row.frozen 9
      have f10 : w2.frozen? ⟨b, 10, none⟩ = false := hq0.row.frozen 10
      have f11 : w2.frozen? ⟨b, 11, none⟩ = false := hq0.row.frozen 11
      have f12 : w2.frozen? ⟨b, 12, none⟩ = false := hq0.row.frozen 12
      have f13 : w2.frozen? ⟨b, 13, none⟩ = false := hq0.row.frozen 13
      clear hq0
      go_upto_region 5 with (fail)
      clear a4 a5 a6 a7 a8 a9 a10 a11 a12 a13 f4 f5 f6 f7 f8 f9 f10 f11 f12 f13
      have h3 := HM2.out.framed ht op
      rw [HBT.out, at_setH, HR0.out] at h3
      unfold frameW at h3
      have HM := Lib.hid (show MatchP L w0 X GL GH B p A cp k (m.start t op) _ by unfold MV.start; rw [HR0.out]; exact h3)
      clear h3 HM2
      generalize (((((((((w2.setCell ⟨b, 4, none⟩ (.int .i64 op)).setCell ⟨b, 5, none⟩ (.int .i64 0)).setCell ⟨b, 6, none⟩ (.int .u32 0)).setCell ⟨b, 7, none⟩ (.int .u32 0)).setCell ⟨b, 8, none⟩ (.int .i64 0)).setCell ⟨b, 9, none⟩ (.bool false)).setCell ⟨b, 10, none⟩ (.int .i64 0)).setCell ⟨b, 11, none⟩ (.int .i64 0)).setCell ⟨b, 12, none⟩ (.bool false)).setCell ⟨b, 13, none⟩ (.int .i64 0) = w3 at *
      generalize hms : m.start t op = ms at *
      clear HR0 HOP HMAY hms
      obtain ⟨nv, hq⟩ := HM.out.run t ht
      rw [HBT.out] at hq
      have HQ := Lib.hid hq
      clear hq
      generalize hrr : ms.at t = rr at *
      have HRR := Lib.hid hrr
      clear hrr
      go_wp2_with (refine wp_loadR rfl 63 (.tmp 51) rfl (by rfl) HQ.out.row Try.underlying63 rfl (by kernel_rfl) ?_)
      refine (stuckL_any p A cp nv rr _ HQ.out.memo).mono ?_
      cases hsk : rr.stuck
      · have HSK := Lib.hid hsk
        clear hsk
        rintro e w4 ⟨rfl, hO, hM⟩
        have HM4 := Lib.hid (HM.out.same hO (by rw [← HRR.out] at hM; exact hM))
        have HQ4 : Hid (RunQ w4 b p A cp nv rr) := Lib.hid ⟨HQ.out.row.only hO (fun e => HQ.out.far (.inr e) rfl), hM⟩
        clear hO hM HQ
        go_wp2_with fail
        refine (tf_step b p A cp nv rr _ HQ4.out (by rw [← HRR.out]; exact HM4.out.words)).mono ?_
        have HG := Lib.hid (show Words (rr.next LS.tf).xs from (good_next (L := LS.tf) (fun r => good_tf) rr).1.words (by rw [← HRR.out]; exact HM4.out.words))
        have HGO : Hid (ms.go LS.tf t = if (rr.next LS.tf).over then ((ms.setR t (rr.next LS.tf)).setH t (behindI (rr.next LS.tf).op (rr.next LS.tf).ret (ms.hold t))).setR t (zeroF (rr.next LS.tf) 0) else ms.setR t (rr.next LS.tf)) := Lib.hid (by
          unfold MV.go
          rw [HRR.out, HSK.out, if_neg Bool.false_ne_true])
        generalize rr.next LS.tf = r2 at *
        rintro e w5 ⟨rfl, hO, _, nv2, hP⟩
        have HM5 : Hid (MatchP L w0 X GL GH B p A cp k (ms.setR t r2) w5) := Lib.hid (HM4.out.ran ht (by rw [HBT.out]; exact hO) (by rw [HBT.out]; exact hP.q) HG.out)
        have HP5 := Lib.hid hP
        clear hO hP HM4 HQ4 HG
        cases hov : r2.over
        · have HGE := Lib.hid (HGO.out.trans (by rw [hov, if_neg Bool.false_ne_true]))
          clear hov
          go_wp2
          go_returns
          exact ⟨rfl, by rw [HPL.out, HGE.out]; exact HM5.out⟩
        · have HGE := Lib.hid (HGO.out.trans (by rw [hov, if_pos rfl]))
          clear hov
          obtain ⟨cl2, hx2⟩ := HM5.out.x
          obtain ⟨csh2, hh2, hh3⟩ := HM5.out.h
          have y1 : w5.cell? ⟨X, 1, none⟩ = some (.slice (some ⟨GH, 0, none⟩) k k) := hx2.cell_ (i := 1) rfl
          have yh : w5.cell? ⟨GH, t, none⟩ = some (.int .i64 (ms.hold t)) := hh2.cell_ (hh3 t ht)

          have HYF := Lib.hid (hh2.frozen t)
          clear hx2 hh2 hh3
          go_upto_region 7 with (fail)
          refine wp_region_phase (n := 25) 24 (fun w => w.cell? ⟨X, 1, none⟩ = some (.slice (some ⟨GH, 0, none⟩) k k) ∧ w.cell? ⟨GH, t, none⟩ = some (.int .i64 (ms.hold t)) ∧ w.cell? ⟨b, 4, none⟩ = some (.int .i64 r2.op) ∧ w.cell? ⟨b, 13, none⟩ = some (.int .i64 r2.ret)) rfl (by kernel_rfl) ⟨y1, yh, HP5.out.row.cell_ (i := 4) rfl, HP5.out.row.cell_ (i := 13) rfl⟩ (fun hHeld => ?_)
          have HM6 := Lib.hid (HM5.out.keep (Only.refl Nil w5).drew)
          have HZF : Hid (w5.drew.frozen? ⟨GH, t, none⟩ = false) := Lib.hid HYF.out
          have HP6 := Lib.hid (HP5.out.keep (Only.refl Nil w5).drew)
          clear y1 yh HYF HM5 HP5
          generalize w5.drew = w6 at *
          refine pa_0 rfl rfl (Value.pointer (some ⟨X, 0, none⟩)) (by kernel_rfl) (by kernel_rfl) (by kernel_rfl) (by decide) (by kernel_rfl) (fun _ _ _ h => h) (by rfl) (fun w => ?_) (by first | (right; assumption) | (left; kernel_rfl)) ?_
          · go_simp
          (try simp only [Act.put, List.setIfInBounds_toArray, List.set_cons_zero, List.set_cons_succ])
          refine pa_1 rfl rfl (Value.pointer (some ⟨X, 0, none⟩)) (by kernel_rfl) (by kernel_rfl) (by kernel_rfl) (by decide) (by kernel_rfl) (fun _ _ _ h => h) (by rfl) (fun w => ?_) (by first | (right; assumption) | (left; kernel_rfl)) ?_
          · go_simp
          (try simp only [Act.put, List.setIfInBounds_toArray, List.set_cons_zero, List.set_cons_succ])
          refine pa_2 rfl rfl (.pointer (some ⟨X, 1, none⟩)) (by kernel_rfl) (by kernel_rfl) (by kernel_rfl) (by decide) (by kernel_rfl) (fun _ _ _ h => h) (by rfl) (fun w => ?_) (by first | (right; assumption) | (left; kernel_rfl)) ?_
          · go_simp
          (try simp only [Act.put, List.setIfInBounds_toArray, List.set_cons_zero, List.set_cons_succ])
          refine pt_3 rfl rfl 9 (.slice (some ⟨GH, 0, none⟩) k k) (by kernel_rfl) (by kernel_rfl) (by kernel_rfl) (by kernel_rfl) (by kernel_rfl) (fun _ _ _ h => h) (by rfl) (fun w hSw => ?_) (by assumption) ?_
          · (try dsimp only at hSw)
            go_split_ands
            go_simp
          (try simp only [Act.put, List.setIfInBounds_toArray, List.set_cons_zero, List.set_cons_succ])
          refine pa_4 rfl rfl (.int .i64 t) (by kernel_rfl) (by kernel_rfl) (by kernel_rfl) (by decide) (by kernel_rfl) (fun _ _ _ h => h) (by rfl) (fun w => ?_) (by first | (right; assumption) | (left; kernel_rfl)) ?_
          · go_simp
          (try simp only [Act.put, List.setIfInBounds_toArray, List.set_cons_zero, List.set_cons_succ])
          refine pa_5 rfl rfl (.pointer (some ⟨b, 0, none⟩)) (by kernel_rfl) (by kernel_rfl) (by kernel_rfl) (by decide) (by kernel_rfl) (fun _ _ _ h => h) (by rfl) (fun w => ?_) (by first | (right; assumption) | (left; kernel_rfl)) ?_
          · go_simp
          (try simp only [Act.put, List.setIfInBounds_toArray, List.set_cons_zero, List.set_cons_succ])
          refine pa_6 rfl rfl (.pointer (some ⟨b, 0, none⟩)) (by kernel_rfl) (by kernel_rfl) (by kernel_rfl) (by decide) (by kernel_rfl) (fun _ _ _ h => h) (by rfl) (fun w => ?_) (by first | (right; assumption) | (left; kernel_rfl)) ?_
          · go_simp
          (try simp only [Act.put, List.setIfInBounds_toArray, List.set_cons_zero, List.set_cons_succ])
          refine pa_7 rfl rfl (.pointer (some ⟨b, 4, none⟩)) (by kernel_rfl) (by kernel_rfl) (by kernel_rfl) (by decide) (by kernel_rfl) (fun _ _ _ h => h) (by rfl) (fun w => ?_) (by first | (right; assumption) | (left; kernel_rfl)) ?_
          · go_simp
          (try simp only [Act.put, List.setIfInBounds_toArray, List.set_cons_zero, List.set_cons_succ])
          refine pa_8 rfl rfl (.pointer (some ⟨b, 4, none⟩)) (by kernel_rfl) (by kernel_rfl) (by kernel_rfl) (by decide) (by kernel_rfl) (fun _ _ _ h => h) (by rfl) (fun w => ?_) (by first | (right; assumption) | (left; kernel_rfl)) ?_
          · go_simp
          (try simp only [Act.put, List.setIfInBounds_toArray, List.set_cons_zero, List.set_cons_succ])
          refine pt_9 rfl rfl 9 (.int .i64 r2.op) (by kernel_rfl) (by kernel_rfl) (by kernel_rfl) (by kernel_rfl) (by kernel_rfl) (fun _ _ _ h => h) (by rfl) (fun w hSw => ?_) (by assumption) ?_
          · (try dsimp only at hSw)
            go_split_ands
            go_simp
          (try simp only [Act.put, List.setIfInBounds_toArray, List.set_cons_zero, List.set_cons_succ])
          refine pa_10 rfl rfl (.pointer (some ⟨b, 0, none⟩)) (by kernel_rfl) (by kernel_rfl) (by kernel_rfl) (by decide) (by kernel_rfl) (fun _ _ _ h => h) (by rfl) (fun w => ?_) (by first | (right; assumption) | (left; kernel_rfl)) ?_
          · go_simp
          (try simp only [Act.put, List.setIfInBounds_toArray, List.set_cons_zero, List.set_cons_succ])
          refine pa_11 rfl rfl (.pointer (some ⟨b, 0, none⟩)) (by kernel_rfl) (by kernel_rfl) (by kernel_rfl) (by decide) (by kernel_rfl) (fun _ _ _ h => h) (by rfl) (fun w => ?_) (by first | (right; assumption) | (left; kernel_rfl)) ?_
          · go_simp
          (try simp only [Act.put, List.setIfInBounds_toArray, List.set_cons_zero, List.set_cons_succ])
          refine pa_12 rfl rfl (.pointer (some ⟨b, 4, none⟩)) (by kernel_rfl) (by kernel_rfl) (by kernel_rfl) (by decide) (by kernel_rfl) (fun _ _ _ h => h) (by rfl) (fun w => ?_) (by first | (right; assumption) | (left; kernel_rfl)) ?_
          · go_simp
          (try simp only [Act.put, List.setIfInBounds_toArray, List.set_cons_zero, List.set_cons_succ])
          refine pa_13 rfl rfl (.pointer (some ⟨b, 13, none⟩)) (by kernel_rfl) (by kernel_rfl) (by kernel_rfl) (by decide) (by kernel_rfl) (fun _ _ _ h => h) (by rfl) (fun w => ?_) (by first | (right; assumption) | (left; kernel_rfl)) ?_
          · go_simp
          (try simp only [Act.put, List.setIfInBounds_toArray, List.set_cons_zero, List.set_cons_succ])
          refine pt_14 rfl rfl 9 (.int .i64 r2.ret) (by kernel_rfl) (by kernel_rfl) (by kernel_rfl) (by kernel_rfl) (by kernel_rfl) (fun _ _ _ h => h) (by rfl) (fun w hSw => ?_) (by assumption) ?_
          · (try dsimp only at hSw)
            go_split_ands
            go_simp
          (try simp only [Act.put, List.setIfInBounds_toArray, List.set_cons_zero, List.set_cons_succ])
          refine pa_15 rfl rfl (Value.pointer (some ⟨X, 0, none⟩)) (by kernel_rfl) (by kernel_rfl) (by kernel_rfl) (by decide) (by kernel_rfl) (fun _ _ _ h => h) (by rfl) (fun w => ?_) (by first | (right; assumption) | (left; kernel_rfl)) ?_
          · go_simp
          (try simp only [Act.put, List.setIfInBounds_toArray, List.set_cons_zero, List.set_cons_succ])
          refine pa_16 rfl rfl (Value.pointer (some ⟨X, 0, none⟩)) (by kernel_rfl) (by kernel_rfl) (by kernel_rfl) (by decide) (by kernel_rfl) (fun _ _ _ h => h) (by rfl) (fun w => ?_) (by first | (right; assumption) | (left; kernel_rfl)) ?_
          · go_simp
          (try simp only [Act.put, List.setIfInBounds_toArray, List.set_cons_zero, List.set_cons_succ])
          refine pa_17 rfl rfl (.pointer (some ⟨X, 1, none⟩)) (by kernel_rfl) (by kernel_rfl) (by kernel_rfl) (by decide) (by kernel_rfl) (fun _ _ _ h => h) (by rfl) (fun w => ?_) (by first | (right; assumption) | (left; kernel_rfl)) ?_
          · go_simp
          (try simp only [Act.put, List.setIfInBounds_toArray, List.set_cons_zero, List.set_cons_succ])
          refine pt_18 rfl rfl 9 (.slice (some ⟨GH, 0, none⟩) k k) (by kernel_rfl) (by kernel_rfl) (by kernel_rfl) (by kernel_rfl) (by kernel_rfl) (fun _ _ _ h => h) (by rfl) (fun w hSw => ?_) (by assumption) ?_
          · (try dsimp only at hSw)
            go_split_ands
            go_simp
          (try simp only [Act.put, List.setIfInBounds_toArray, List.set_cons_zero, List.set_cons_succ])
          refine pa_19 rfl rfl (.int .i64 t) (by kernel_rfl) (by kernel_rfl) (by kernel_rfl) (by decide) (by kernel_rfl) (fun _ _ _ h => h) (by rfl) (fun w => ?_) (by first | (right; assumption) | (left; kernel_rfl)) ?_
          · go_simp
          (try simp only [Act.put, List.setIfInBounds_toArray, List.set_cons_zero, List.set_cons_succ])
          refine pa_20 rfl rfl (.pointer (some ⟨GH, t, none⟩)) (by kernel_rfl) (by kernel_rfl) (by kernel_rfl) (by decide) (by kernel_rfl) (fun _ _ _ h => h) (by rfl) (fun w => ?_) (by first | (right; assumption) | (left; kernel_rfl)) ?_
          · go_simp
          (try simp only [Act.put, List.setIfInBounds_toArray, List.set_cons_zero, List.set_cons_succ])
          refine pt_21 rfl rfl 9 (.int .i64 (ms.hold t)) (by kernel_rfl) (by kernel_rfl) (by kernel_rfl) (by kernel_rfl) (by kernel_rfl) (fun _ _ _ h => h) (by rfl) (fun w hSw => ?_) (by assumption) ?_
          · (try dsimp only at hSw)
            go_split_ands
            go_simp
          (try simp only [Act.put, List.setIfInBounds_toArray, List.set_cons_zero, List.set_cons_succ])
          refine pc_22 rfl rfl (by kernel_rfl) (by rfl) (fun K hK => ?_)
          go_simp
          refine (behind_of r2.op r2.ret (ms.hold t) _).mono ?_
          rintro e w9 ⟨rfl, rfl⟩
          refine hK.out _ _ (.inr hHeld) ?_
          clear hK K
          (try simp only [Act.put, List.setIfInBounds_toArray, List.set_cons_zero, List.set_cons_succ])
          refine pa_23 rfl rfl (.pointer (some ⟨GH, t, none⟩)) (by kernel_rfl) (by kernel_rfl) (by kernel_rfl) (by decide) (by kernel_rfl) (fun _ _ _ h => h) (by rfl) (fun w => ?_) (by first | (right; assumption) | (left; kernel_rfl)) ?_
          · go_simp
          (try simp only [Act.put, List.setIfInBounds_toArray, List.set_cons_zero, List.set_cons_succ])
          have zf : w6.frozen? ⟨GH, t, none⟩ = false := HZF.out
          have zc : w6.cell? ⟨GH, t, none⟩ = some (.int .i64 (ms.hold t)) := hHeld.2.1
          refine pc_24 rfl rfl (by kernel_rfl) (by rfl) (fun K hK => ?_)
          go_simp
          have HM7 := Lib.hid (HM6.out.held ht (behindI r2.op r2.ret (ms.hold t)))
          have HR7 : Hid (Row (w6.setCell ⟨GH, t, none⟩ (.int .i64 (behindI r2.op r2.ret (ms.hold t)))) b 63 (r2.cells (.pointer p) nv2)) := Lib.hid (by
            obtain ⟨cs9, h9, _⟩ := HM6.out.h
            exact HP6.out.row.far (p := ⟨GH, t, none⟩) (fun e => row_ne HP6.out.row h9 (by decide) e) _)
          refine hK.out _ _ (.inl (by kernel_rfl)) ?_
          clear hK K hHeld zf zc HM6 HZF HP6
          generalize w6.setCell ⟨GH, t, none⟩ (.int .i64 (behindI r2.op r2.ret (ms.hold t))) = w7 at *
          (try simp only [Act.put, List.setIfInBounds_toArray, List.set_cons_zero, List.set_cons_succ])
          refine wpAnyP_done (by kernel_rfl) ?_ _
          have a4 : w7.cell? ⟨b, 4, none⟩ = some (.int .i64 r2.op) := HR7.out.cell_ (i := 4) rfl
          have a5 : w7.cell? ⟨b, 5, none⟩ = some (.int .i64 r2.line) := HR7.out.cell_ (i := 5) rfl
          have a6 : w7.cell? ⟨b, 6, none⟩ = some (.int .u32 r2.a) := HR7.out.cell_ (i := 6) rfl
          have a7 : w7.cell? ⟨b, 7, none⟩ = some (.int .u32 r2.b) := HR7.out.cell_ (i := 7) rfl
          have a8 : w7.cell? ⟨b, 8, none⟩ = some (.int .i64 r2.s) := HR7.out.cell_ (i := 8) rfl
          have a9 : w7.cell? ⟨b, 9, none⟩ = some (.bool r2.k.on) := HR7.out.cell_ (i := 9) rfl
          have a10 : w7.cell? ⟨b, 10, none⟩ = some (.int .i64 r2.k.c) := HR7.out.cell_ (i := 10) rfl
          have a11 : w7.cell? ⟨b, 11, none⟩ = some (.int .i64 r2.k.i) := HR7.out.cell_ (i := 11) rfl
          have a12 : w7.cell? ⟨b, 12, none⟩ = some (.bool r2.k.hit) := HR7.out.cell_ (i := 12) rfl
          have a13 : w7.cell? ⟨b, 13, none⟩ = some (.int .i64 r2.ret) := HR7.out.cell_ (i := 13) rfl
          have f4 : w7.frozen? ⟨b, 4, none⟩ = false := HR7.out.frozen 4
          have f5 : w7.frozen? ⟨b, 5, none⟩ = false := HR7.out.frozen 5
          have f6 : w7.frozen? ⟨b, 6, none⟩ = false := HR7.out.frozen 6
          have f7 : w7.frozen? ⟨b, 7, none⟩ = false := HR7.out.frozen 7
          have f8 : w7.frozen? ⟨b, 8, none⟩ = false := HR7.out.frozen 8
          have f9 : w7.frozen? ⟨b, 9, none⟩ = false := HR7.out.frozen 9
          have f10 : w7.frozen? ⟨b, 10, none⟩ = false := HR7.out.frozen 10
          have f11 : w7.frozen? ⟨b, 11, none⟩ = false := HR7.out.frozen 11
          have f12 : w7.frozen? ⟨b, 12, none⟩ = false := HR7.out.frozen 12
          have f13 : w7.frozen? ⟨b, 13, none⟩ = false := HR7.out.frozen 13
          go_wp2
          clear a4 a5 a6 a7 a8 a9 a10 a11 a12 a13 f4 f5 f6 f7 f8 f9 f10 f11 f12 f13
          go_returns
          have h8 := HM7.out.framed ht 0
          rw [HBT.out, at_setH, at_setR] at h8
          exact ⟨rfl, by rw [HPL.out, HGE.out]; exact h8⟩
      · have HSK := Lib.hid hsk
        clear hsk
        rintro e w4 ⟨rfl, hO, hM⟩
        have HM4 := Lib.hid (HM.out.same hO (by rw [← HRR.out] at hM; exact hM))
        have HGE := Lib.hid (show ms.go LS.tf t = ms by unfold MV.go; rw [HRR.out, HSK.out, if_pos rfl])
        clear hO hM HQ
        go_wp2
        go_returns
        exact ⟨rfl, by rw [HPL.out, HGE.out]; exact HM4.out⟩
  · have HPL := Lib.hid (show playI LS.tf m t op = m.go LS.tf t by unfold playI; rw [if_neg hop])
    have c4 := hc4
    clear hc4
    obtain ⟨cl, hx0⟩ := HM.out.x
    obtain ⟨csl, hl0, hl1⟩ := HM.out.l
    obtain ⟨csh, hh0, hh1⟩ := HM.out.h
    have x0 : w.cell? ⟨X, 0, none⟩ = some (.slice (some ⟨GL, 0, none⟩) k cl) := hx0.cell_ (i := 0) rfl
    have x1 : w.cell? ⟨X, 1, none⟩ = some (.slice (some ⟨GH, 0, none⟩) k k) := hx0.cell_ (i := 1) rfl
    have gl : w.cell? ⟨GL, t, none⟩ = some (.pointer (some ⟨b, 0, none⟩)) := by have e := hl0.cell_ (hl1 t ht); rw [HBT.out] at e; exact e
    have gh : w.cell? ⟨GH, t, none⟩ = some (.int .i64 (m.hold t)) := hh0.cell_ (hh1 t ht)
    have fh : w.frozen? ⟨GH, t, none⟩ = false := hh0.frozen t
    clear hx0 hl0 hl1 hh0 hh1
    go_enter Try.func15, Try.ntmps15
    go_upto_region 5 with (fail)
    clear x0 x1 gl gh fh c4 hop
    obtain ⟨nv, hq⟩ := HM.out.run t ht
    rw [HBT.out] at hq
    have HQ := Lib.hid hq
    clear hq
    generalize hrr : m.at t = rr at *
    have HRR := Lib.hid hrr
    clear hrr
    go_wp2_with (refine wp_loadR rfl 63 (.tmp 51) rfl (by rfl) HQ.out.row Try.underlying63 rfl (by kernel_rfl) ?_)
    refine (stuckL_any p A cp nv rr _ HQ.out.memo).mono ?_
    cases hsk : rr.stuck
    · have HSK := Lib.hid hsk
      clear hsk
      rintro e w4 ⟨rfl, hO, hM⟩
      have HM4 := Lib.hid (HM.out.same hO (by rw [← HRR.out] at hM; exact hM))
      have HQ4 : Hid (RunQ w4 b p A cp nv rr) := Lib.hid ⟨HQ.out.row.only hO (fun e => HQ.out.far (.inr e) rfl), hM⟩
      clear hO hM HQ
      go_wp2_with fail
      refine (tf_step b p A cp nv rr _ HQ4.out (by rw [← HRR.out]; exact HM4.out.words)).mono ?_
      have HG := Lib.hid (show Words (rr.next LS.tf).xs from (good_next (L := LS.tf) (fun r => good_tf) rr).1.words (by rw [← HRR.out]; exact HM4.out.words))
      have HGO : Hid (m.go LS.tf t = if (rr.next LS.tf).over then ((m.setR t (rr.next LS.tf)).setH t (behindI (rr.next LS.tf).op (rr.next LS.tf).ret (m.hold t))).setR t (zeroF (rr.next LS.tf) 0) else m.setR t (rr.next LS.tf)) := Lib.hid (by
        unfold MV.go
        rw [HRR.out, HSK.out, if_neg Bool.false_ne_true])
      generalize rr.next LS.tf = r2 at *
      rintro e w5 ⟨rfl, hO, _, nv2, hP⟩
      have HM5 : Hid (MatchP L w0 X GL GH B p A cp k (m.setR t r2) w5) := Lib.hid (HM4.out.ran ht (by rw [HBT.out]; exact hO) (by rw [HBT.out]; exact hP.q) HG.out)
      have HP5 := Lib.hid hP
      clear hO hP HM4 HQ4 HG
      cases hov : r2.over
      · have HGE := Lib.hid (HGO.out.trans (by rw [hov, if_neg Bool.false_ne_true]))
        clear hov
        go_wp2
        go_returns
        exact ⟨rfl, by rw [HPL.out, HGE.out]; exact HM5.out⟩
      · have HGE := Lib.hid (HGO.out.trans (by rw [hov, if_pos rfl]))
        clear hov
        obtain ⟨cl2, hx2⟩ := HM5.out.x
        obtain ⟨csh2, hh2, hh3⟩ := HM5.out.h
        have y1 : w5.cell? ⟨X, 1, none⟩ = some (.slice (some ⟨GH, 0, none⟩) k k) := hx2.cell_ (i := 1) rfl
        have yh : w5.cell? ⟨GH, t, none⟩ = some (.int .i64 (m.hold t)) := hh2.cell_ (hh3 t ht)

        have HYF := Lib.hid (hh2.frozen t)
        clear hx2 hh2 hh3
        go_upto_region 7 with (fail)
        refine wp_region_phase (n := 25) 24 (fun w => w.cell? ⟨X, 1, none⟩ = some (.slice (some ⟨GH, 0, none⟩) k k) ∧ w.cell? ⟨GH, t, none⟩ = some (.int .i64 (m.hold t)) ∧ w.cell? ⟨b, 4, none⟩ = some (.int .i64 r2.op) ∧ w.cell? ⟨b, 13, none⟩ = some (.int .i64 r2.ret)) rfl (by kernel_rfl) ⟨y1, yh, HP5.out.row.cell_ (i := 4) rfl, HP5.out.row.cell_ (i := 13) rfl⟩ (fun hHeld => ?_)
        have HM6 := Lib.hid (HM5.out.keep (Only.refl Nil w5).drew)
        have HZF : Hid (w5.drew.frozen? ⟨GH, t, none⟩ = false) := Lib.hid HYF.out
        have HP6 := Lib.hid (HP5.out.keep (Only.refl Nil w5).drew)
        clear y1 yh HYF HM5 HP5
        generalize w5.drew = w6 at *
        refine pa_0 rfl rfl (Value.pointer (some ⟨X, 0, none⟩)) (by kernel_rfl) (by kernel_rfl) (by kernel_rfl) (by decide) (by kernel_rfl) (fun _ _ _ h => h) (by rfl) (fun w => ?_) (by first | (right; assumption) | (left; kernel_rfl)) ?_
        · go_simp
        (try simp only [Act.put, List.setIfInBounds_toArray, List.set_cons_zero, List.set_cons_succ])
        refine pa_1 rfl rfl (Value.pointer (some ⟨X, 0, none⟩)) (by kernel_rfl) (by kernel_rfl) (by kernel_rfl) (by decide) (by kernel_rfl) (fun _ _ _ h => h) (by rfl) (fun w => ?_) (by first | (right; assumption) | (left; kernel_rfl)) ?_
        · go_simp
        (try simp only [Act.put, List.setIfInBounds_toArray, List.set_cons_zero, List.set_cons_succ])
        refine pa_2 rfl rfl (.pointer (some ⟨X, 1, none⟩)) (by kernel_rfl) (by kernel_rfl) (by kernel_rfl) (by decide) (by kernel_rfl) (fun _ _ _ h => h) (by rfl) (fun w => ?_) (by first | (right; assumption) | (left; kernel_rfl)) ?_
        · go_simp
        (try simp only [Act.put, List.setIfInBounds_toArray, List.set_cons_zero, List.set_cons_succ])
        refine pt_3 rfl rfl 9 (.slice (some ⟨GH, 0, none⟩) k k) (by kernel_rfl) (by kernel_rfl) (by kernel_rfl) (by kernel_rfl) (by kernel_rfl) (fun _ _ _ h => h) (by rfl) (fun w hSw => ?_) (by assumption) ?_
        · (try dsimp only at hSw)
          go_split_ands
          go_simp
        (try simp only [Act.put, List.setIfInBounds_toArray, List.set_cons_zero, List.set_cons_succ])
        refine pa_4 rfl rfl (.int .i64 t) (by kernel_rfl) (by kernel_rfl) (by kernel_rfl) (by decide) (by kernel_rfl) (fun _ _ _ h => h) (by rfl) (fun w => ?_) (by first | (right; assumption) | (left; kernel_rfl)) ?_
        · go_simp
        (try simp only [Act.put, List.setIfInBounds_toArray, List.set_cons_zero, List.set_cons_succ])
        refine pa_5 rfl rfl (.pointer (some ⟨b, 0, none⟩)) (by kernel_rfl) (by kernel_rfl) (by kernel_rfl) (by decide) (by kernel_rfl) (fun _ _ _ h => h) (by rfl) (fun w => ?_) (by first | (right; assumption) | (left; kernel_rfl)) ?_
        · go_simp
        (try simp only [Act.put, List.setIfInBounds_toArray, List.set_cons_zero, List.set_cons_succ])
        refine pa_6 rfl rfl (.pointer (some ⟨b, 0, none⟩)) (by kernel_rfl) (by kernel_rfl) (by kernel_rfl) (by decide) (by kernel_rfl) (fun _ _ _ h => h) (by rfl) (fun w => ?_) (by first | (right; assumption) | (left; kernel_rfl)) ?_
        · go_simp
        (try simp only [Act.put, List.setIfInBounds_toArray, List.set_cons_zero, List.set_cons_succ])
        refine pa_7 rfl rfl (.pointer (some ⟨b, 4, none⟩)) (by kernel_rfl) (by kernel_rfl) (by kernel_rfl) (by decide) (by kernel_rfl) (fun _ _ _ h => h) (by rfl) (fun w => ?_) (by first | (right; assumption) | (left; kernel_rfl)) ?_
        · go_simp
        (try simp only [Act.put, List.setIfInBounds_toArray, List.set_cons_zero, List.set_cons_succ])
        refine pa_8 rfl rfl (.pointer (some ⟨b, 4, none⟩)) (by kernel_rfl) (by kernel_rfl) (by kernel_rfl) (by decide) (by kernel_rfl) (fun _ _ _ h => h) (by rfl) (fun w => ?_) (by first | (right; assumption) | (left; kernel_rfl)) ?_
        · go_simp
        (try simp only [Act.put, List.setIfInBounds_toArray, List.set_cons_zero, List.set_cons_succ])
        refine pt_9 rfl rfl 9 (.int .i64 r2.op) (by kernel_rfl) (by kernel_rfl) (by kernel_rfl) (by kernel_rfl) (by kernel_rfl) (fun _ _ _ h => h) (by rfl) (fun w hSw => ?_) (by assumption) ?_
        · (try dsimp only at hSw)
          go_split_ands
          go_simp
        (try simp only [Act.put, List.setIfInBounds_toArray, List.set_cons_zero, List.set_cons_succ])
        refine pa_10 rfl rfl (.pointer (some ⟨b, 0, none⟩)) (by kernel_rfl) (by kernel_rfl) (by kernel_rfl) (by decide) (by kernel_rfl) (fun _ _ _ h => h) (by rfl) (fun w => ?_) (by first | (right; assumption) | (left; kernel_rfl)) ?_
        · go_simp
        (try simp only [Act.put, List.setIfInBounds_toArray, List.set_cons_zero, List.set_cons_succ])
        refine pa_11 rfl rfl (.pointer (some ⟨b, 0, none⟩)) (by kernel_rfl) (by kernel_rfl) (by kernel_rfl) (by decide) (by kernel_rfl) (fun _ _ _ h => h) (by rfl) (fun w => ?_) (by first | (right; assumption) | (left; kernel_rfl)) ?_
        · go_simp
        (try simp only [Act.put, List.setIfInBounds_toArray, List.set_cons_zero, List.set_cons_succ])
        refine pa_12 rfl rfl (.pointer (some ⟨b, 4, none⟩)) (by kernel_rfl) (by kernel_rfl) (by kernel_rfl) (by decide) (by kernel_rfl) (fun _ _ _ h => h) (by rfl) (fun w => ?_) (by first | (right; assumption) | (left; kernel_rfl)) ?_
        · go_simp
        (try simp only [Act.put, List.setIfInBounds_toArray, List.set_cons_zero, List.set_cons_succ])
        refine pa_13 rfl rfl (.pointer (some ⟨b, 13, none⟩)) (by kernel_rfl) (by kernel_rfl) (by kernel_rfl) (by decide) (by kernel_rfl) (fun _ _ _ h => h) (by rfl) (fun w => ?_) (by first | (right; assumption) | (left; kernel_rfl)) ?_
        · go_simp
        (try simp only [Act.put, List.setIfInBounds_toArray, List.set_cons_zero, List.set_cons_succ])
        refine pt_14 rfl rfl 9 (.int .i64 r2.ret) (by kernel_rfl) (by kernel_rfl) (by kernel_rfl) (by kernel_rfl) (by kernel_rfl) (fun _ _ _ h => h) (by rfl) (fun w hSw => ?_) (by assumption) ?_
        · (try dsimp only at hSw)
          go_split_ands
          go_simp
        (try simp only [Act.put, List.setIfInBounds_toArray, List.set_cons_zero, List.set_cons_succ])
        refine pa_15 rfl rfl (Value.pointer (some ⟨X, 0, none⟩)) (by kernel_rfl) (by kernel_rfl) (by kernel_rfl) (by decide) (by kernel_rfl) (fun _ _ _ h => h) (by rfl) (fun w => ?_) (by first | (right; assumption) | (left; kernel_rfl)) ?_
        · go_simp
        (try simp only [Act.put, List.setIfInBounds_toArray, List.set_cons_zero, List.set_cons_succ])
        refine pa_16 rfl rfl (Value.pointer (some ⟨X, 0, none⟩)) (by kernel_rfl) (by kernel_rfl) (by kernel_rfl) (by decide) (by kernel_rfl) (fun _ _ _ h => h) (by rfl) (fun w => ?_) (by first | (right; assumption) | (left; kernel_rfl)) ?_
        · go_simp
        (try simp only [Act.put, List.setIfInBounds_toArray, List.set_cons_zero, List.set_cons_succ])
        refine pa_17 rfl rfl (.pointer (some ⟨X, 1, none⟩)) (by kernel_rfl) (by kernel_rfl) (by kernel_rfl) (by decide) (by kernel_rfl) (fun _ _ _ h => h) (by rfl) (fun w => ?_) (by first | (right; assumption) | (left; kernel_rfl)) ?_
        · go_simp
        (try simp only [Act.put, List.setIfInBounds_toArray, List.set_cons_zero, List.set_cons_succ])
        refine pt_18 rfl rfl 9 (.slice (some ⟨GH, 0, none⟩) k k) (by kernel_rfl) (by kernel_rfl) (by kernel_rfl) (by kernel_rfl) (by kernel_rfl) (fun _ _ _ h => h) (by rfl) (fun w hSw => ?_) (by assumption) ?_
        · (try dsimp only at hSw)
          go_split_ands
          go_simp
        (try simp only [Act.put, List.setIfInBounds_toArray, List.set_cons_zero, List.set_cons_succ])
        refine pa_19 rfl rfl (.int .i64 t) (by kernel_rfl) (by kernel_rfl) (by kernel_rfl) (by decide) (by kernel_rfl) (fun _ _ _ h => h) (by rfl) (fun w => ?_) (by first | (right; assumption) | (left; kernel_rfl)) ?_
        · go_simp
        (try simp only [Act.put, List.setIfInBounds_toArray, List.set_cons_zero, List.set_cons_succ])
        refine pa_20 rfl rfl (.pointer (some ⟨GH, t, none⟩)) (by kernel_rfl) (by kernel_rfl) (by kernel_rfl) (by decide) (by kernel_rfl) (fun _ _ _ h => h) (by rfl) (fun w => ?_) (by first | (right; assumption) | (left; kernel_rfl)) ?_
        · go_simp
        (try simp only [Act.put, List.setIfInBounds_toArray, List.set_cons_zero, List.set_cons_succ])
        refine pt_21 rfl rfl 9 (.int .i64 (m.hold t)) (by kernel_rfl) (by kernel_rfl) (by kernel_rfl) (by kernel_rfl) (by kernel_rfl) (fun _ _ _ h => h) (by rfl) (fun w hSw => ?_) (by assumption) ?_
        · (try dsimp only at hSw)
          go_split_ands
          go_simp
        (try simp only [Act.put, List.setIfInBounds_toArray, List.set_cons_zero, List.set_cons_succ])
        refine pc_22 rfl rfl (by kernel_rfl) (by rfl) (fun K hK => ?_)
        go_simp
        refine (behind_of r2.op r2.ret (m.hold t) _).mono ?_
        rintro e w9 ⟨rfl, rfl⟩
        refine hK.out _ _ (.inr hHeld) ?_
        clear hK K
        (try simp only [Act.put, List.setIfInBounds_toArray, List.set_cons_zero, List.set_cons_succ])
        refine pa_23 rfl rfl (.pointer (some ⟨GH, t, none⟩)) (by kernel_rfl) (by kernel_rfl) (by kernel_rfl) (by decide) (by kernel_rfl) (fun _ _ _ h => h) (by rfl) (fun w => ?_) (by first | (right; assumption) | (left; kernel_rfl)) ?_
        · go_simp
        (try simp only [Act.put, List.setIfInBounds_toArray, List.set_cons_zero, List.set_cons_succ])
        have zf : w6.frozen? ⟨GH, t, none⟩ = false := HZF.out
        have zc : w6.cell? ⟨GH, t, none⟩ = some (.int .i64 (m.hold t)) := hHeld.2.1
        refine pc_24 rfl rfl (by kernel_rfl) (by rfl) (fun K hK => ?_)
        go_simp
        have HM7 := Lib.hid (HM6.out.held ht (behindI r2.op r2.ret (m.hold t)))
        have HR7 : Hid (Row (w6.setCell ⟨GH, t, none⟩ (.int .i64 (behindI r2.op r2.ret (m.hold t)))) b 63 (r2.cells (.pointer p) nv2)) := Lib.hid (by
          obtain ⟨cs9, h9, _⟩ := HM6.out.h
          exact HP6.out.row.far (p := ⟨GH, t, none⟩) (fun e => row_ne HP6.out.row h9 (by decide) e) _)
        refine hK.out _ _ (.inl (by kernel_rfl)) ?_
        clear hK K hHeld zf zc HM6 HZF HP6
        generalize w6.setCell ⟨GH, t, none⟩ (.int .i64 (behindI r2.op r2.ret (m.hold t))) = w7 at *
        (try simp only [Act.put, List.setIfInBounds_toArray, List.set_cons_zero, List.set_cons_succ])
        refine wpAnyP_done (by kernel_rfl) ?_ _
        have a4 : w7.cell? ⟨b, 4, none⟩ = some (.int .i64 r2.op) := HR7.out.cell_ (i := 4) rfl
        have a5 : w7.cell? ⟨b, 5, none⟩ = some (.int .i64 r2.line) := HR7.out.cell_ (i := 5) rfl
        have a6 : w7.cell? ⟨b, 6, none⟩ = some (.int .u32 r2.a) := HR7.out.cell_ (i := 6) rfl
        have a7 : w7.cell? ⟨b, 7, none⟩ = some (.int .u32 r2.b) := HR7.out.cell_ (i := 7) rfl
        have a8 : w7.cell? ⟨b, 8, none⟩ = some (.int .i64 r2.s) := HR7.out.cell_ (i := 8) rfl
        have a9 : w7.cell? ⟨b, 9, none⟩ = some (.bool r2.k.on) := HR7.out.cell_ (i := 9) rfl
        have a10 : w7.cell? ⟨b, 10, none⟩ = some (.int .i64 r2.k.c) := HR7.out.cell_ (i := 10) rfl
        have a11 : w7.cell? ⟨b, 11, none⟩ = some (.int .i64 r2.k.i) := HR7.out.cell_ (i := 11) rfl
        have a12 : w7.cell? ⟨b, 12, none⟩ = some (.bool r2.k.hit) := HR7.out.cell_ (i := 12) rfl
        have a13 : w7.cell? ⟨b, 13, none⟩ = some (.int .i64 r2.ret) := HR7.out.cell_ (i := 13) rfl
        have f4 : w7.frozen? ⟨b, 4, none⟩ = false := HR7.out.frozen 4
        have f5 : w7.frozen? ⟨b, 5, none⟩ = false := HR7.out.frozen 5
        have f6 : w7.frozen? ⟨b, 6, none⟩ = false := HR7.out.frozen 6
        have f7 : w7.frozen? ⟨b, 7, none⟩ = false := HR7.out.frozen 7
        have f8 : w7.frozen? ⟨b, 8, none⟩ = false := HR7.out.frozen 8
        have f9 : w7.frozen? ⟨b, 9, none⟩ = false := HR7.out.frozen 9
        have f10 : w7.frozen? ⟨b, 10, none⟩ = false := HR7.out.frozen 10
        have f11 : w7.frozen? ⟨b, 11, none⟩ = false := HR7.out.frozen 11
        have f12 : w7.frozen? ⟨b, 12, none⟩ = false := HR7.out.frozen 12
        have f13 : w7.frozen? ⟨b, 13, none⟩ = false := HR7.out.frozen 13
        go_wp2
        clear a4 a5 a6 a7 a8 a9 a10 a11 a12 a13 f4 f5 f6 f7 f8 f9 f10 f11 f12 f13
        go_returns
        have h8 := HM7.out.framed ht 0
        rw [HBT.out, at_setH, at_setR] at h8
        exact ⟨rfl, by rw [HPL.out, HGE.out]; exact h8⟩
    · have HSK := Lib.hid hsk
      clear hsk
      rintro e w4 ⟨rfl, hO, hM⟩
      have HM4 := Lib.hid (HM.out.same hO (by rw [← HRR.out] at hM; exact hM))
      have HGE := Lib.hid (show m.go LS.tf t = m by unfold MV.go; rw [HRR.out, HSK.out, if_pos rfl])
      clear hO hM HQ
      go_wp2
      go_returns
      exact ⟨rfl, by rw [HPL.out, HGE.out]; exact HM4.out⟩
end Go.Proofs.Ytdmpaoajcnjbaaa
/- The law's whole: an operation of a task, from its beginning to its end. -/
set_option linter.unusedVariables false
set_option linter.unusedSimpArgs false
namespace Go.Proofs.Ytdmpaoajcnjbaaa
open Go.RowKit

set_option maxHeartbeats 1000000 in
theorem whole_any (L : List (Nat × TypeId × Array Value)) (w0 : World) (X GL GH : Nat) (B : Nat → Nat) (p A : Option Addr) (cp k : Nat) (m : MV) (t : Nat) (op : Int) (gx : Nat) (w : World) (h : MatchP L w0 X GL GH B p A cp k m w) (ht : t < k) (hg : (gx, 43, #[Value.pointer (some ⟨X, 0, none⟩)]) ∈ L) :
    Calls Try.prog 17 #[.int .i64 t, .int .i64 op, .pointer (some ⟨gx, 0, none⟩)] w fun e w' => e = .returned (.tuple #[]) ∧ MatchP L w0 X GL GH B p A cp k (wholeI LS.tf m t op) w' := by
  obtain ⟨b, hb⟩ : ∃ b, B t = b := ⟨_, rfl⟩
  have HBT := Lib.hid hb
  have HM := Lib.hid h
  have HG := Lib.hid hg
  clear h hb hg
  have bx : w.cell? ⟨gx, 0, none⟩ = some (Value.pointer (some ⟨X, 0, none⟩)) := (show Row w gx 43 #[Value.pointer (some ⟨X, 0, none⟩)] from HM.out.side _ HG.out).cell_ (i := 0) rfl
  go_enter Try.func17, Try.ntmps17
  go_wp2_with fail
  clear bx
  refine (play_any L w0 X GL GH B p A cp k m t op _ HM.out ht).mono ?_
  have HWI := Lib.hid (show wholeI LS.tf m t op = whileI LS.tf t 200 (playI LS.tf m t op) from rfl)
  generalize playI LS.tf m t op = m1 at *
  rintro e w1 ⟨rfl, hM⟩
  clear HM
  have HM1 := Lib.hid hM
  clear hM
  go_wp2_with fail
  go_loopw [5] (fun iv wr => ∃ i : Nat, i ≤ 200 ∧ iv = .int .i64 i ∧ ∃ m', MatchP L w0 X GL GH B p A cp k m' wr ∧ whileI LS.tf t 200 m1 = whileI LS.tf t (200 - i) m') (fun iv _ => 200 - (intOf iv).toNat)
  case atStart => exact ⟨0, Nat.zero_le _, rfl, m1, HM1.out, rfl⟩
  case round =>
    obtain ⟨i, hi, rfl, m', hM, hE⟩ := hrel
    clear HM1
    have HM := Lib.hid hM
    have HE := Lib.hid hE
    clear hM hE
    by_cases hlt : i < 200
    · have HS := Lib.hid (show whileI LS.tf t (200 - i) m' = if (m'.at t).op = 0 then m' else whileI LS.tf t (200 - (i + 1)) (playI LS.tf m' t 0) by rw [show 200 - i = (200 - (i + 1)) + 1 by omega]; rfl)
      obtain ⟨cl, hx0⟩ := HM.out.x
      obtain ⟨csl, hl0, hl1⟩ := HM.out.l
      obtain ⟨nv, hq⟩ := HM.out.run t ht
      have bx : wr.cell? ⟨gx, 0, none⟩ = some (Value.pointer (some ⟨X, 0, none⟩)) := (show Row wr gx 43 #[Value.pointer (some ⟨X, 0, none⟩)] from HM.out.side _ HG.out).cell_ (i := 0) rfl
      have x0 : wr.cell? ⟨X, 0, none⟩ = some (.slice (some ⟨GL, 0, none⟩) k cl) := hx0.cell_ (i := 0) rfl
      have gl : wr.cell? ⟨GL, t, none⟩ = some (.pointer (some ⟨b, 0, none⟩)) := by have e := hl0.cell_ (hl1 t ht); rw [HBT.out] at e; exact e
      rw [HBT.out] at hq
      have c4 : wr.cell? ⟨b, 4, none⟩ = some (.int .i64 (m'.at t).op) := hq.row.cell_ (i := 4) rfl
      clear hx0 hl0 hl1 hq
      by_cases h0 : (m'.at t).op = 0
      · rw [h0] at c4
        have HF := Lib.hid ((HE.out.trans HS.out).trans (if_pos h0))
        clear h0
        have hlt' : (i : Int) < 200 := by omega
        go_wp2
        clear bx x0 gl c4
        go_returns
        exact ⟨rfl, by rw [HWI.out, HF.out]; exact HM.out⟩
      · have h0' : ((m'.at t).op != 0) = true := bne_iff_ne.2 h0
        have HF := Lib.hid ((HE.out.trans HS.out).trans (if_neg h0))
        clear h0
        generalize (m'.at t).op = o at *
        have hlt' : (i : Int) < 200 := by omega
        go_wp2_with fail
        clear bx x0 gl c4 h0'
        refine (play_any L w0 X GL GH B p A cp k m' t 0 _ HM.out ht).mono ?_
        rintro e w2 ⟨rfl, hM⟩
        have HM2 := Lib.hid hM
        clear hM
        go_wp2
        go_roundw
        case rel => exact ⟨i + 1, by omega, by go_num, _, HM2.out, HF.out⟩
        case measure => simp [intOf]; omega
    · obtain rfl : i = 200 := by omega
      have HF := Lib.hid (show whileI LS.tf t 200 m1 = m' by rw [HE.out]; rfl)
      obtain ⟨cl, hx0⟩ := HM.out.x
      obtain ⟨csl, hl0, hl1⟩ := HM.out.l
      obtain ⟨nv, hq⟩ := HM.out.run t ht
      have bx : wr.cell? ⟨gx, 0, none⟩ = some (Value.pointer (some ⟨X, 0, none⟩)) := (show Row wr gx 43 #[Value.pointer (some ⟨X, 0, none⟩)] from HM.out.side _ HG.out).cell_ (i := 0) rfl
      have x0 : wr.cell? ⟨X, 0, none⟩ = some (.slice (some ⟨GL, 0, none⟩) k cl) := hx0.cell_ (i := 0) rfl
      have gl : wr.cell? ⟨GL, t, none⟩ = some (.pointer (some ⟨b, 0, none⟩)) := by have e := hl0.cell_ (hl1 t ht); rw [HBT.out] at e; exact e
      rw [HBT.out] at hq
      have c4 : wr.cell? ⟨b, 4, none⟩ = some (.int .i64 (m'.at t).op) := hq.row.cell_ (i := 4) rfl
      clear hx0 hl0 hl1 hq
      generalize (m'.at t).op = o at *
      go_wp2
      clear bx x0 gl c4
      go_returns
      exact ⟨rfl, by rw [HWI.out, HF.out]; exact HM.out⟩
end Go.Proofs.Ytdmpaoajcnjbaaa
/- The law's begun, many: some tasks over one lock at first; how many hold so. -/
set_option linter.unusedVariables false
set_option linter.unusedSimpArgs false
namespace Go.Proofs.Ytdmpaoajcnjbaaa
open Go.RowKit

theorem many_bd (m : MV) (what : Int) : ∀ k, manyI m what k ≤ k
  | 0 => Nat.le_refl _
  | k + 1 => by
    have := many_bd m what k
    unfold manyI
    split <;> omega
theorem many_any (L : List (Nat × TypeId × Array Value)) (w0 : World) (X GL GH : Nat) (B : Nat → Nat) (p A : Option Addr) (cp k : Nat) (m : MV) (what : Int) (w : World) (h : MatchP L w0 X GL GH B p A cp k m w) (hk : k ≤ 1000) :
    Calls Try.prog 16 #[Value.pointer (some ⟨X, 0, none⟩), .int .i64 what] w fun e w' => e = .returned (.int .i64 (manyI m what k)) ∧ w = w' := by
  obtain ⟨cl, hx0⟩ := h.x
  obtain ⟨csh, hh0, hh1⟩ := h.h
  have x1 : w.cell? ⟨X, 1, none⟩ = some (.slice (some ⟨GH, 0, none⟩) k k) := hx0.cell_ (i := 1) rfl
  have HH := Lib.hid (show ∀ i, i < k → w.cell? ⟨GH, i, none⟩ = some (.int .i64 (m.hold i)) from fun i hi => hh0.cell_ (hh1 i hi))
  clear h hx0 hh0 hh1
  go_enter Try.func16, Try.ntmps16
  go_wp2_with fail
  go_loop [5, 6] (fun nv iv => ∃ i : Nat, i ≤ k ∧ iv = .int .i64 i ∧ nv = .int .i64 (manyI m what i)) (fun _ iv => k - (intOf iv).toNat)
  case atStart => exact ⟨0, Nat.zero_le _, rfl, rfl⟩
  case round =>
    obtain ⟨i, hi, rfl, rfl⟩ := hrel
    have b1 := many_bd m what i
    by_cases hlt : i < k
    · have gh := HH.out i hlt
      have HS := Lib.hid (show manyI m what (i + 1) = if m.hold i = what then manyI m what i + 1 else manyI m what i from rfl)
      by_cases he : m.hold i = what
      · have he' : (m.hold i == what) = true := beq_iff_eq.2 he
        have HE := Lib.hid (HS.out.trans (if_pos he))
        clear he
        generalize manyI m what i = c at *
        generalize m.hold i = hv at *
        go_wp2
        go_round
        case rel => exact ⟨i + 1, by omega, by go_num, by rw [HE.out]; first | done | go_num⟩
        case measure => simp [intOf]; omega
      · have he' : (m.hold i == what) = false := beq_eq_false_iff_ne.2 he
        have HE := Lib.hid (HS.out.trans (if_neg he))
        clear he
        generalize manyI m what i = c at *
        generalize m.hold i = hv at *
        go_wp2
        go_round
        case rel => exact ⟨i + 1, by omega, by go_num, by rw [HE.out]; first | done | go_num⟩
        case measure => simp [intOf]; omega
    · obtain rfl : i = k := by omega
      go_wp2
      go_ret
      exact ⟨rfl, rfl⟩

/-- A list of runs' blocks, that the call made. -/
def OwnP (base : Nat) (w : World) (v : Value) (bs : List Nat) : Prop := w.ownsRow base 64 1 v bs.length (bs.map fun b => Value.pointer (some ⟨b, 0, none⟩))
theorem infoP : (Try.prog.info? 64).map (fun i => (i.zero, i.size, i.bytes)) = some (some (.pointer none), 1, 8) := by kernel_rfl
theorem infoI : (Try.prog.info? 3).map (fun i => (i.zero, i.size, i.bytes)) = some (some (.int .i64 0), 1, 8) := by kernel_rfl
theorem ownP_nil (base : Nat) (w : World) : OwnP base w (.slice none 0 0) [] := World.ownsRow_nil _ _ _ _
theorem ownP_tag {base : Nat} {w : World} {v : Value} {bs : List Nat} (h : OwnP base w v bs) {i : Nat} (hi : v.ownBlock = some i) : ∃ cur, Row w i 64 cur := by
  rcases h.2 with ⟨rfl, _⟩ | ⟨g, cap, cur, rfl, _, hg, _⟩
  · cases hi
  · have e : g = i := by simpa [Value.ownBlock] using hi
    subst e
    exact ⟨cur, hg⟩
theorem ownP_form {base : Nat} {w : World} {v : Value} {bs : List Nat} (h : OwnP base w v bs) : ∃ A n c, v = .slice A n c := by
  rcases h.2 with ⟨rfl, _⟩ | ⟨g, cap, cur, rfl, _⟩
  · exact ⟨none, 0, 0, rfl⟩
  · exact ⟨_, _, _, rfl⟩
theorem wp_appP {w : World} {ops : Array Oper} {rest : List Oper} {o : Oper} {a : Act} {Q : Exit → Act → World → Prop} (hgd : o.guard = none) (s x : Operand)
    (ho : o.op = .call { callee := .builtin .append, args := #[s, x], argTypes := #[49, 49] })
    (base : Nat) (v : Value) (bs : List Nat) (hs : a.eval s = v) (hown : OwnP base w v bs)
    (g nb : Nat) (hx : a.eval x = .slice (some ⟨g, 0, none⟩) 1 1) (hrow : Row w g 64 #[.pointer (some ⟨nb, 0, none⟩)])
    (h1 : bs.length ≤ 1000) (hbase : base ≤ w.heap.size)
    (h : ∀ v' w', OwnP base w' v' (bs ++ [nb]) → Only (fun k => v.ownBlock = some k) w w' → wpList Try.prog ops Q rest (a.put o.dst v') w') : wpList Try.prog ops Q (o :: rest) a w := by
  obtain ⟨i0, hi, hz0, hz1, hz2⟩ := info_parts infoP
  refine wpList_append_own w hgd s x 49 ho base 64 i0 (.pointer none) 1 8 Try.underlying49 hi hz0 hz1 hz2 rfl (by decide) v bs.length _ hs hown ⟨g, 0, none⟩ 1 1 [.pointer (some ⟨nb, 0, none⟩)] hx rfl (fun j u hj => ?_) (fun u hu => ?_) (by unfold maxLen; omega) (by omega) hbase (fun v' w' hO hG _ => ?_)
  · rw [add_at, Nat.zero_add]
    exact hrow.cell_ (by rw [← hj]; simp)
  · simp only [List.mem_cons, List.not_mem_nil, or_false] at hu
    subst hu
    rfl
  · refine h v' w' ?_ ((Only.refl _ w).grown hG (fun k hk => .inr hk))
    unfold OwnP
    rw [List.length_append, List.map_append]
    exact hO

/-- While the tasks are made. -/
structure BegunI (w0 : World) (X GH b : Nat) (A : Option Addr) (cp k : Nat) (mode : Int) (xs : List Int) (j : Nat) (W : World) : Prop where
  x : ∃ lv bs, Row W X 51 #[lv, .slice (some ⟨GH, 0, none⟩) k k] ∧ OwnP w0.heap.size W lv bs ∧ bs.length = j ∧ (∀ (i : Nat) (b' : Nat), bs[i]? = some b' → Row W b' 63 (newCells (some ⟨b, 0, none⟩) k mode i 0) ∧ w0.heap.size ≤ b') ∧ (∀ (i i' b' : Nat), bs[i]? = some b' → bs[i']? = some b' → i = i')
  h : ∃ cs, Row W GH 3 cs ∧ ∀ i, i < k → cs[i]? = some (.int .i64 0)
  made : Made w0 b A cp xs W
  gh : w0.heap.size ≤ GH
  xb : w0.heap.size ≤ X

theorem made_zero (k i : Nat) (hi : i < k) : (madeCells #[.int .i64 0] k)[i]? = some (.int .i64 0) := by
  rw [← Array.getElem?_toList, toList_madeCells_one, List.getElem?_replicate, if_pos hi]

/-- What begun leaves. -/
def BegunP (k : Nat) (m : MV) (w : World) (e : Ending) (w' : World) : Prop := ∃ X GL GH B p A cp, e = .returned (Value.pointer (some ⟨X, 0, none⟩)) ∧ MatchP [] w X GL GH B p A cp k m w'

set_option maxRecDepth 100000 in
set_option maxHeartbeats 2000000 in
theorem begun_any (k : Nat) (mode b0 : Int) (w : World) (hk : 1 ≤ k ∧ k ≤ 64) (hb : 0 ≤ b0 ∧ b0 < 4294967296) :
    Calls Try.prog 14 #[.int .i64 k, .int .i64 mode, .int .u32 b0] w (BegunP k ⟨fun i => newR k mode i 0 ((⟨b0, b0, b0⟩ : T3).xs k), fun _ => 0, ((⟨b0, b0, b0⟩ : T3).xs k)⟩ w) := by
  have HBD := Lib.hid hb
  have HK := Lib.hid hk
  have hk1 : (1 : Int) ≤ k := by omega
  have hk2 : (k : Int) ≤ 64 := by omega
  have hk3 : k ≤ 64 := by omega
  clear hb hk
  have hmk := fun W => run_make_row' (P := Try.prog) 23 3 (.int .i64 0) 8 Try.underlying23 infoI rfl .i64 .i64 k (by omega) (by omega) W
  go_enter Try.func14, Try.ntmps14
  go_wp2_with fail
  refine (first_tf k b0 _ HK.out HBD.out).mono ?_
  rintro e w1 ⟨gf, rfl, hg, hH, hO⟩
  have HH := Lib.hid hH
  have HO := Lib.hid hO
  clear hg hH hO
  go_wp2_with fail
  refine (from_ok _ _ _ _ _ (by omega) HH.out).mono ?_
  rintro e w2 ⟨b, A', c', rfl, hb, hA, hM, hO⟩
  have HM : Hid (Made w b A' c' _ w2) := Lib.hid ⟨hM, fun j hj => Nat.le_trans HO.out.size (hA j hj), HO.out.trans hO⟩
  clear hb hA hM hO HO HH
  have e1 := (Only.refl Nil w2).alloc (.cells (madeCells #[.int .i64 0] k) 3)
  have e2 := e1.alloc (.cells #[.slice none 0 0, .slice (some ⟨w2.heap.size, 0, none⟩) k k] 51)
  have HI0 : Hid (BegunI w (w2.heap.size + 1) w2.heap.size b A' c' k mode ((⟨b0, b0, b0⟩ : T3).xs k) 0 ((w2.alloc (.cells (madeCells #[.int .i64 0] k) 3)).alloc (.cells #[.slice none 0 0, .slice (some ⟨w2.heap.size, 0, none⟩) k k] 51))) :=
    Lib.hid ⟨⟨_, [], Row.new2 w2 _ _ _, ownP_nil _ _, rfl, fun i b' h => by simp at h, fun i i' b' h => by simp at h⟩, ⟨_, (Row.new w2 _ _).alloc _, fun i hi => made_zero k i hi⟩, ⟨HM.out.mem.only e2 id (fun _ _ => id), HM.out.new, HM.out.only.trans e2⟩, HM.out.only.size, Nat.le_trans HM.out.only.size (Nat.le_succ _)⟩
  clear e1 e2 HM
  go_upto_region 7 with (fail)
  generalize (w2.alloc (.cells (madeCells #[.int .i64 0] k) 3)).alloc (.cells #[.slice none 0 0, .slice (some ⟨w2.heap.size, 0, none⟩) k k] 51) = w3 at *
  generalize w2.heap.size + 1 = X at *
  generalize w2.heap.size = GH at *
  clear hmk
  go_loopw [12] (fun iv wr => ∃ j : Nat, j ≤ k ∧ iv = .int .i64 j ∧ BegunI w X GH b A' c' k mode ((⟨b0, b0, b0⟩ : T3).xs k) j wr) (fun iv _ => k - (intOf iv).toNat)
  case atStart => exact ⟨0, Nat.zero_le _, rfl, HI0.out⟩
  case round =>
    obtain ⟨j, hj, rfl, hI⟩ := hrel
    clear HI0
    obtain ⟨lv, bs, hx, hown, hlen, hruns, hinj⟩ := hI.x
    have HI := Lib.hid hI
    have HX := Lib.hid hx
    have HOW := Lib.hid hown
    have HLN := Lib.hid hlen
    have HRU := Lib.hid hruns
    have HIN := Lib.hid hinj
    clear hI hlen hruns hinj
    by_cases hlt : j < k
    · obtain ⟨A9, n9, c9, rfl⟩ := ownP_form hown
      have cx : wr.cell? ⟨X, 0, none⟩ = some (.slice A9 n9 c9) := hx.cell_ (i := 0) rfl
      clear hx hown
      have e1 := (Only.refl Nil wr).alloc (.cells (newCells (some ⟨b, 0, none⟩) k mode j 0) 63)
      have e2 := e1.alloc (.cells #[.pointer (some ⟨wr.heap.size, 0, none⟩)] 64)
      have HE2 := Lib.hid e2
      have HRN := Lib.hid ((Row.new wr 63 (newCells (some ⟨b, 0, none⟩) k mode j 0)).alloc (.cells #[.pointer (some ⟨wr.heap.size, 0, none⟩)] 64))
      have HPN := Lib.hid (Row.new2 wr (.cells (newCells (some ⟨b, 0, none⟩) k mode j 0) 63) 64 #[.pointer (some ⟨wr.heap.size, 0, none⟩)])
      have HBASE := Lib.hid (Nat.le_trans HI.out.made.only.size e2.size)
      clear e1 e2
      unfold newCells at HE2 HRN HPN HBASE
      go_wp2_with (at_builtin; refine wp_appP rfl (.tmp 43) (.tmp 51) rfl w.heap.size _ bs (by rfl) (own_only HOW.out HE2.out (fun _ _ => id)) (wr.heap.size + 1) wr.heap.size (by rfl) HPN.out (by have := HLN.out; omega) HBASE.out ?_)
      intro v' w5 hown5 hO5
      obtain ⟨A8, n8, c8, rfl⟩ := ownP_form hown5
      clear cx
      have HX5 := Lib.hid ((HX.out.only HE2.out id).only hO5 (fun e => by
        obtain ⟨cur, hc⟩ := ownP_tag HOW.out e
        exact row_ne HX.out hc (by decide) rfl))
      have HFAR := Lib.hid (show ∀ (g : Nat) (t : TypeId) (cs : Array Value), Row wr g t cs → t ≠ 64 → Row w5 g t cs from fun g t cs hr ht => (hr.only HE2.out id).only hO5 (fun e => by
        obtain ⟨cur, hc⟩ := ownP_tag HOW.out e
        exact row_ne hr hc ht rfl))
      have HRN5 := Lib.hid (HRN.out.only hO5 (fun e => by
        have := (World.ownsRow.lt HOW.out _ e).2
        omega))
      have HM5 : Hid (Made w b A' c' ((⟨b0, b0, b0⟩ : T3).xs k) w5) := Lib.hid ⟨(HI.out.made.mem.only HE2.out id (fun _ _ => id)).only hO5 (fun e => by
          obtain ⟨cur, hc⟩ := ownP_tag HOW.out e
          exact row_ne HI.out.made.mem.hdr hc (by decide) rfl) (fun i hi e => by
          obtain ⟨cur, hc⟩ := ownP_tag HOW.out e
          exact memo_not (Memo.of HI.out.made.mem) hc (by decide) (by decide) (.inr hi)), HI.out.made.new, (HI.out.made.only.trans HE2.out).step hO5 (fun i hi e => by
          have := (World.ownsRow.lt HOW.out _ e).1
          omega)⟩
      have HOW5 := Lib.hid hown5
      have HWS := Lib.hid (show wr.heap.size < w5.heap.size from by
        have h1 := hO5.size
        have h2 : wr.heap.size < ((wr.alloc (.cells #[.pointer (some ⟨b, 0, none⟩), .int .i64 k, .int .i64 mode, .int .i64 j, .int .i64 0, .int .i64 0, .int .u32 0, .int .u32 0, .int .i64 0, .bool false, .int .i64 0, .int .i64 0, .bool false, .int .i64 0, .int .i64 0, .int .i64 0, .int .u32 0, .int .u32 0, .int .u32 0, .slice none 0 0] 63)).alloc (.cells #[.pointer (some ⟨wr.heap.size, 0, none⟩)] 64)).heap.size := by simp; omega
        omega)
      have y0 : w5.cell? ⟨X, 0, none⟩ = some (.slice A9 n9 c9) := HX5.out.cell_ (i := 0) rfl
      have yf : w5.frozen? ⟨X, 0, none⟩ = false := HX5.out.frozen 0
      clear hown5 hO5
      go_wp2
      clear y0 yf
      have HO6 := Lib.hid ((Only.refl (· = X) w5).setCell (p := ⟨X, 0, none⟩) (.inr rfl) (.slice A8 n8 c8))
      have hI' : BegunI w X GH b A' c' k mode ((⟨b0, b0, b0⟩ : T3).xs k) (j + 1) (w5.setCell ⟨X, 0, none⟩ (.slice A8 n8 c8)) := by
        refine ⟨⟨.slice A8 n8 c8, bs ++ [wr.heap.size], HX5.out.set 0 (.slice A8 n8 c8), own_only HOW5.out HO6.out (fun i hi e => ?_), by rw [List.length_append, HLN.out]; rfl, fun i b' hb' => ?_, fun i i' b' h1 h2 => ?_⟩, ?_, ⟨HM5.out.mem.only HO6.out (fun e => row_ne HM5.out.mem.hdr HX5.out (by decide) e) (fun i hi e => memo_not (Memo.of HM5.out.mem) HX5.out (by decide) (by decide) (by subst e; exact .inr hi)), HM5.out.new, HM5.out.only.setCell (.inl HI.out.xb) _⟩, HI.out.gh, HI.out.xb⟩
        · obtain ⟨cur, hc⟩ := ownP_tag HOW5.out hi
          exact row_ne hc HX5.out (by decide) e
        · by_cases hi : i < bs.length
          · rw [List.getElem?_append_left hi] at hb'
            obtain ⟨hr, hb0⟩ := HRU.out i b' hb'
            exact ⟨(HFAR.out _ _ _ hr (by decide)).only HO6.out (fun e => row_ne (HFAR.out _ _ _ hr (by decide)) HX5.out (by decide) e), hb0⟩
          · rw [List.getElem?_append_right (by omega)] at hb'
            have hij : i = bs.length := by
              by_cases e : i = bs.length
              · exact e
              · rw [List.getElem?_eq_none (by simp; omega)] at hb'
                cases hb'
            subst hij
            simp only [Nat.sub_self, List.getElem?_cons_zero, Option.some.injEq] at hb'
            subst hb'
            rw [HLN.out]
            exact ⟨HRN5.out.only HO6.out (fun e => row_ne HRN5.out HX5.out (by decide) e), HI.out.made.only.size⟩
        · have hlt1 : ∀ (q : Nat), bs[q]? = some b' → b' < wr.heap.size := fun q hq => (HRU.out q b' hq).1.lt
          by_cases hi : i < bs.length
          · by_cases hi' : i' < bs.length
            · rw [List.getElem?_append_left hi] at h1
              rw [List.getElem?_append_left hi'] at h2
              exact HIN.out i i' b' h1 h2
            · rw [List.getElem?_append_left hi] at h1
              have := hlt1 i h1
              rw [List.getElem?_append_right (by omega)] at h2
              have := List.mem_of_getElem? h2
              simp only [List.mem_cons, List.not_mem_nil, or_false] at this
              omega
          · by_cases hi' : i' < bs.length
            · rw [List.getElem?_append_left hi'] at h2
              have := hlt1 i' h2
              rw [List.getElem?_append_right (by omega)] at h1
              have := List.mem_of_getElem? h1
              simp only [List.mem_cons, List.not_mem_nil, or_false] at this
              omega
            · have l1 := (List.getElem?_eq_some_iff.1 h1).1
              have l2 := (List.getElem?_eq_some_iff.1 h2).1
              rw [List.length_append] at l1 l2
              simp only [List.length_cons, List.length_nil] at l1 l2
              omega
        · obtain ⟨cs, hc, hz⟩ := HI.out.h
          exact ⟨cs, (HFAR.out _ _ _ hc (by decide)).only HO6.out (fun e => row_ne (HFAR.out _ _ _ hc (by decide)) HX5.out (by decide) e), hz⟩
      go_roundw
      case rel => exact ⟨j + 1, by omega, by go_num, hI'⟩
      case measure => simp [intOf]; omega
    · obtain rfl : j = k := by omega
      clear hx hown
      go_wp2
      go_ret
      rcases HOW.out.2 with ⟨_, hn⟩ | ⟨g, cap, cur, rfl, hb, hg, hc, hm, hsz, ht⟩
      · have := HLN.out; have := HK.out; omega
      · have hcur : ∀ i, i < j → cur[i]? = some (.pointer (some ⟨bs.getD i 0, 0, none⟩)) := fun i hi => by
          have e1 : (cur.toList.take (bs.length * 1))[i]? = (bs.map fun b => Value.pointer (some ⟨b, 0, none⟩))[i]? := by rw [ht]
          have hib : i < bs.length := by rw [HLN.out]; exact hi
          rw [List.getElem?_take, if_pos (by omega), List.getElem?_map, List.getElem?_eq_getElem hib] at e1
          simp only [Option.map_some, Array.getElem?_toList] at e1
          rw [e1]
          simp [List.getD, List.getElem?_eq_getElem hib]
        have hget : ∀ i, i < j → bs[i]? = some (bs.getD i 0) := fun i hi => by
          have hib : i < bs.length := by rw [HLN.out]; exact hi
          simp [List.getD, List.getElem?_eq_getElem hib]
        have hX := HX.out
        rw [HLN.out] at hX
        refine ⟨X, g, GH, fun i => bs.getD i 0, some ⟨b, 0, none⟩, A', c', rfl, ⟨⟨cap, hX⟩, ⟨cur, hg, hcur⟩, HI.out.h, fun i hi => ⟨.slice none 0 0, (HRU.out i _ (hget i hi)).1, Memo.of HI.out.made.mem⟩, fun i i' hi hi' e => ?_, Memo.of HI.out.made.mem, (T3.words HBD.out HBD.out HBD.out), HI.out.made.only, ?_, fun x hx => by simp at hx, fun x hx => by simp at hx⟩⟩
        · have h1 := hget i hi
          have h2 := hget i' hi'
          rw [← e] at h2
          exact HIN.out i i' _ h1 h2
        · rintro q (rfl | h | ⟨i, hi, rfl⟩)
          · exact HI.out.gh
          · exact HI.out.made.new q h
          · exact (HRU.out i _ (hget i hi)).2
end Go.Proofs.Ytdmpaoajcnjbaaa
/- Tasks that are idle, one of which does an operation by itself: plain. -/
set_option linter.unusedVariables false
set_option linter.unusedSimpArgs false
namespace Go.Proofs.Ytdmpaoajcnjbaaa
open Go.RowKit

/-- All are idle. -/
def Idle (k : Nat) (mode : Int) (m : MV) : Prop := ∀ i, i < k → (m.at i).fresh = newR k mode i 0 m.xs

section
variable {L : LS → LS} {k : Nat} {mode : Int} {m : MV} {t : Nat}
/-- What never changes. -/
structure Same3 (r r' : LS) : Prop where
  n : r'.n = r.n
  mode : r'.mode = r.mode
  task : r'.task = r.task
  op : r'.op = r.op
theorem fresh_zero {r r' : LS} (h : r.fresh = r'.fresh) (op : Int) : (zeroF r op).fresh = (zeroF r' op).fresh := by
  have h1 : r.n = r'.n := by have e := congrArg LS.n h; exact e
  have h2 : r.mode = r'.mode := by have e := congrArg LS.mode h; exact e
  have h3 : r.task = r'.task := by have e := congrArg LS.task h; exact e
  have h4 : r.xs = r'.xs := by have e := congrArg LS.xs h; exact e
  unfold zeroF LS.fresh
  simp only [h1, h2, h3, h4]

/-- The picks of an operation, from a run with it on, are what it does by itself. -/
theorem while_alone (hL : ∀ r : LS, Same3 r (r.next L)) : ∀ (n : Nat) (m : MV) (ret : Int) (ys : List Int), (m.at t).op ≠ 0 → ret ≠ 0 → aloneG LS.stuck L (n + 1) (m.at t) = (ret, ys) →
    ∃ m', whileI L t (n + 1) m = m' ∧ m'.xs = ys ∧ m'.hold = upd m.hold t (behindI (m.at t).op ret (m.hold t)) ∧ (∀ i, i ≠ t → m'.rs i = m.rs i) ∧ ∃ r, (m'.at t).fresh = (zeroF r 0).fresh ∧ r.n = (m.at t).n ∧ r.mode = (m.at t).mode ∧ r.task = (m.at t).task ∧ r.xs = ys := by
  intro n
  induction n with
  | zero =>
    intro m ret ys hop hret h
    have hs : (m.at t).stuck = false := by
      cases e : (m.at t).stuck
      · rfl
      · have h' : (if (m.at t).stuck = true then ((0 : Int), (m.at t).xs) else _) = (ret, ys) := h
        rw [if_pos e] at h'
        exact absurd (congrArg Prod.fst h').symm hret
    have hov : ((m.at t).next L).over = true := by
      cases e : ((m.at t).next L).over
      · have h' : (if (m.at t).stuck = true then _ else if ((m.at t).next L).over = true then _ else ((0 : Int), ((m.at t).next L).xs)) = (ret, ys) := h
        rw [if_neg (by rw [hs]; exact Bool.false_ne_true), if_neg (by rw [e]; exact Bool.false_ne_true)] at h'
        exact absurd (congrArg Prod.fst h').symm hret
      · rfl
    have h' : (if (m.at t).stuck = true then _ else if ((m.at t).next L).over = true then (((m.at t).next L).ret, ((m.at t).next L).xs) else _) = (ret, ys) := h
    rw [if_neg (by rw [hs]; exact Bool.false_ne_true), if_pos hov] at h'
    obtain ⟨h1, h2⟩ := Prod.mk.inj h'
    have hw : whileI L t (0 + 1) m = m.go L t := by
      show (if (m.at t).op = 0 then m else whileI L t 0 (playI L m t 0)) = _
      rw [if_neg hop]
      show playI L m t 0 = _
      unfold playI
      rw [if_neg hop]
    have hg : m.go L t = ((m.setR t ((m.at t).next L)).setH t (behindI ((m.at t).next L).op ((m.at t).next L).ret (m.hold t))).setR t (zeroF ((m.at t).next L) 0) := by
      unfold MV.go
      rw [if_neg (by rw [hs]; exact Bool.false_ne_true), if_pos hov]
    obtain ⟨q1, q2, q3, q4⟩ := hL (m.at t)
    refine ⟨_, hw.trans hg, h2, ?_, fun i hi => ?_, (m.at t).next L, by rw [at_setR], q1, q2, q3, h2⟩
    · show upd m.hold t _ = upd m.hold t _
      rw [q4, h1]
    · show upd (upd m.rs t _) t _ i = m.rs i
      rw [upd_other _ _ hi, upd_other _ _ hi]
  | succ n ih =>
    intro m ret ys hop hret h
    have hs : (m.at t).stuck = false := by
      cases e : (m.at t).stuck
      · rfl
      · have h' : (if (m.at t).stuck = true then ((0 : Int), (m.at t).xs) else _) = (ret, ys) := h
        rw [if_pos e] at h'
        exact absurd (congrArg Prod.fst h').symm hret
    have h' : (if (m.at t).stuck = true then _ else if ((m.at t).next L).over = true then (((m.at t).next L).ret, ((m.at t).next L).xs) else aloneG LS.stuck L (n + 1) ((m.at t).next L)) = (ret, ys) := h
    rw [if_neg (by rw [hs]; exact Bool.false_ne_true)] at h'
    have hw : whileI L t (n + 1 + 1) m = whileI L t (n + 1) (m.go L t) := by
      show (if (m.at t).op = 0 then m else whileI L t (n + 1) (playI L m t 0)) = _
      rw [if_neg hop]
      unfold playI
      rw [if_neg hop]
    obtain ⟨q1, q2, q3, q4⟩ := hL (m.at t)
    cases hov : ((m.at t).next L).over
    · rw [if_neg (by rw [hov]; exact Bool.false_ne_true)] at h'
      have hg : m.go L t = m.setR t ((m.at t).next L) := by
        unfold MV.go
        rw [if_neg (by rw [hs]; exact Bool.false_ne_true), if_neg (by rw [hov]; exact Bool.false_ne_true)]
      have hat : (m.setR t ((m.at t).next L)).at t = (m.at t).next L := at_setR
      obtain ⟨m', e1, e2, e3, e4, r, e5, e6, e7, e8, e9⟩ := ih (m.setR t ((m.at t).next L)) ret ys (by rw [hat, q4]; exact hop) hret (by rw [hat]; exact h')
      rw [hat, q4] at e3
      rw [hat] at e6 e7 e8
      refine ⟨m', by rw [hw, hg]; exact e1, e2, e3, fun i hi => ?_, r, e5, e6.trans q1, e7.trans q2, e8.trans q3, e9⟩
      rw [e4 i hi]
      show upd m.rs t _ i = _
      rw [upd_other _ _ hi]
    · rw [if_pos hov] at h'
      obtain ⟨h1, h2⟩ := Prod.mk.inj h'
      have hg : m.go L t = ((m.setR t ((m.at t).next L)).setH t (behindI ((m.at t).next L).op ((m.at t).next L).ret (m.hold t))).setR t (zeroF ((m.at t).next L) 0) := by
        unfold MV.go
        rw [if_neg (by rw [hs]; exact Bool.false_ne_true), if_pos hov]
      have hstop : whileI L t (n + 1) (m.go L t) = m.go L t := by
        show (if ((m.go L t).at t).op = 0 then _ else _) = _
        rw [if_pos (by rw [hg, at_setR]; rfl)]
      refine ⟨_, (hw.trans hstop).trans hg, h2, ?_, fun i hi => ?_, (m.at t).next L, by rw [at_setR], q1, q2, q3, h2⟩
      · show upd m.hold t _ = upd m.hold t _
        rw [q4, h1]
      · show upd (upd m.rs t _) t _ i = m.rs i
        rw [upd_other _ _ hi, upd_other _ _ hi]

/-- An operation of an idle task, while all are idle. -/
theorem whole_alone (hL : ∀ r : LS, Same3 r (r.next L)) (hi : Idle k mode m) (ht : t < k) {op ret : Int} {ys : List Int} (hop : op ≠ 0) (hmay : mayI op (m.hold t) = true) (hret : ret ≠ 0)
    (h : aloneG LS.stuck L 201 (newR k mode t op m.xs) = (ret, ys)) : ∃ m', wholeI L m t op = m' ∧ Idle k mode m' ∧ m'.xs = ys ∧ m'.hold = upd m.hold t (behindI op ret (fromI op (m.hold t))) := by
  have hr0 : (m.at t).op = 0 := by
    have e := congrArg LS.op (hi t ht)
    exact e
  have hst : (m.start t op).at t = zeroF (m.at t) op := at_setR
  have hfr : (zeroF (m.at t) op).fresh = newR k mode t op m.xs := by
    have e : (m.at t).fresh = (newR k mode t 0 m.xs).fresh := hi t ht
    rw [fresh_zero e op]
    rfl
  have h0 : aloneG LS.stuck L 201 ((m.start t op).at t) = (ret, ys) := by
    rw [hst, ← alone_fresh chk_stuck (by decide), hfr]
    exact h
  obtain ⟨m', e1, e2, e3, e4, r, e5, e6, e7, e8, e9⟩ := while_alone (t := t) hL 200 (m.start t op) ret ys (by rw [hst]; exact hop) hret h0
  have hw : wholeI L m t op = m' := by
    unfold wholeI
    have hp : playI L m t op = (m.start t op).go L t := by unfold playI; rw [if_pos hr0, if_pos hmay]
    rw [hp, ← e1]
    show _ = (if ((m.start t op).at t).op = 0 then _ else whileI L t 200 (playI L (m.start t op) t 0))
    rw [if_neg (by rw [hst]; exact hop)]
    congr 1
    unfold playI
    rw [if_neg (by rw [hst]; exact hop)]
  refine ⟨m', hw, fun i hik => ?_, e2, ?_⟩
  · by_cases hit : i = t
    · subst hit
      rw [e5]
      have h1 := congrArg LS.n hfr
      have h2 := congrArg LS.mode hfr
      have h3 := congrArg LS.task hfr
      rw [hst] at e6 e7 e8
      unfold zeroF LS.fresh newR
      simp only [e6, e7, e8, e9, e2]
      exact congrArg (fun x => x) (by
        have g1 : (zeroF (m.at i) op).n = k := h1
        have g2 : (zeroF (m.at i) op).mode = mode := h2
        have g3 : (zeroF (m.at i) op).task = i := h3
        rw [g1, g2, g3])
    · have e := hi i hik
      have hrs : m'.rs i = m.rs i := by
        rw [e4 i hit]
        show upd m.rs t _ i = _
        rw [upd_other _ _ hit]
      have e' : (m'.at i).fresh = { (m.at i).fresh with xs := m'.xs } := by unfold MV.at LS.fresh; rw [hrs]
      rw [e', e]
      rfl
  · rw [e3, hst]
    show upd (upd m.hold t (fromI op (m.hold t))) t (behindI op ret (upd m.hold t (fromI op (m.hold t)) t)) = _
    rw [upd_same]
    funext i
    unfold upd
    split <;> rfl
end
end Go.Proofs.Ytdmpaoajcnjbaaa
/- Many read, of a task-fair lock: plain. -/
set_option linter.unusedVariables false
set_option linter.unusedSimpArgs false
namespace Go.Proofs.Ytdmpaoajcnjbaaa
open Go.RowKit

theorem same_next (r : LS) : Same3 r (r.next LS.tf) := ⟨(good_next (L := LS.tf) (fun r => good_tf) r).1.n, (good_next (L := LS.tf) (fun r => good_tf) r).1.mode, (good_next (L := LS.tf) (fun r => good_tf) r).1.task, (good_next (L := LS.tf) (fun r => good_tf) r).1.op⟩

/-- c more than b, round the word. -/
def plus (b : Int) (c : Nat) : Int := (b + c) % 4294967296
theorem plus_up (b : Int) (c : Nat) : up (plus b c) = plus b (c + 1) := by unfold up plus; push_cast; omega
theorem plus_zero {b : Int} (h : 0 ≤ b ∧ b < 4294967296) : plus b 0 = b := by unfold plus; omega
theorem plus_ahead {b : Int} {c d : Nat} (h : d < c) (hc : c ≤ 1000) : 0 < aheadI (plus b c) (plus b d) := by unfold aheadI plus; omega

/-- So many have come, so many have given back; the tasks below a are idle, those from a to c - 1 read. -/
structure Reads (k : Nat) (mode b : Int) (c a : Nat) (m : MV) : Prop where
  idle : Idle k mode m
  xs : m.xs = (⟨plus b c, plus b c, plus b a⟩ : T3).xs k
  hold : ∀ i, m.hold i = if a ≤ i ∧ i < c then 1 else 0
theorem reads_many {k : Nat} {mode b : Int} {c a : Nat} {m : MV} (h : Reads k mode b c a m) : ∀ n, manyI m 1 n = min n c - min n a := by
  intro n
  induction n with
  | zero => unfold manyI; omega
  | succ n ih =>
    unfold manyI
    rw [h.hold n, ih]
    by_cases e : a ≤ n ∧ n < c
    · rw [if_pos (if_pos e)]; omega
    · rw [if_neg (by rw [if_neg e]; decide)]; omega
section
variable {k : Nat} {mode b : Int} {c a : Nat} {m : MV} (hk : 2 ≤ k ∧ k ≤ 16) (h : Reads k mode b c a m)
include hk h
theorem reads_come {op : Int} (hop : op = 1 ∨ op = 5) (hc : c < k) (ha : a ≤ c) : Reads k mode b (c + 1) a (wholeI LS.tf m c op) := by
  have hal : aloneG LS.stuck LS.tf 201 (newR k mode c op m.xs) = (2, (⟨plus b (c + 1), plus b (c + 1), plus b a⟩ : T3).xs k) := by
    rw [h.xs, alone_opG chk_stuck (by omega) (by omega) (show okT op ⟨plus b c, plus b c, plus b a⟩ by unfold okT; rcases hop with rfl | rfl <;> simp)]
    rcases hop with rfl | rfl <;> simp [opT, plus_up]
  have hhold : m.hold c = 0 := by rw [h.hold, if_neg (by omega)]
  obtain ⟨m', e, h1, h2, h3⟩ := whole_alone (t := c) same_next h.idle hc (by rcases hop with rfl | rfl <;> decide) (by rw [hhold]; rcases hop with rfl | rfl <;> rfl) (by decide) hal
  rw [e]
  refine ⟨h1, h2, fun i => ?_⟩
  rw [h3]
  have hb : behindI op 2 (fromI op (m.hold c)) = 1 := by rw [hhold]; rcases hop with rfl | rfl <;> rfl
  rw [hb]
  unfold upd
  by_cases e : i = c
  · rw [if_pos e, if_pos (by omega)]
  · rw [if_neg e, h.hold]
    by_cases e2 : a ≤ i ∧ i < c
    · rw [if_pos e2, if_pos (by omega)]
    · rw [if_neg e2, if_neg (by omega)]
theorem reads_go (hc : c ≤ k) (ha : a < c) : Reads k mode b c (a + 1) (wholeI LS.tf m a 2) := by
  have hal : aloneG LS.stuck LS.tf 201 (newR k mode a 2 m.xs) = (2, (⟨plus b c, plus b c, plus b (a + 1)⟩ : T3).xs k) := by
    rw [h.xs, alone_opG chk_stuck (by omega) (by omega) (show okT 2 ⟨plus b c, plus b c, plus b a⟩ by unfold okT; simp)]
    simp [opT, plus_up]
  have hhold : m.hold a = 1 := by rw [h.hold, if_pos (by omega)]
  obtain ⟨m', e, h1, h2, h3⟩ := whole_alone (t := a) same_next h.idle (by omega) (by decide) (by rw [hhold]; rfl) (by decide) hal
  rw [e]
  refine ⟨h1, h2, fun i => ?_⟩
  rw [h3]
  have hb : behindI 2 2 (fromI 2 (m.hold a)) = 0 := rfl
  rw [hb]
  unfold upd
  by_cases e : i = a
  · rw [if_pos e, if_neg (by omega)]
  · rw [if_neg e, h.hold]
    by_cases e2 : a ≤ i ∧ i < c
    · rw [if_pos e2, if_pos (by omega)]
    · rw [if_neg e2, if_neg (by omega)]
theorem reads_refuse (hc : c < k) (ha : a < c) {t : Nat} (ht : t + 1 = k) (htc : c ≤ t) : Reads k mode b c a (wholeI LS.tf m t 6) := by
  have hal : aloneG LS.stuck LS.tf 201 (newR k mode t 6 m.xs) = (1, (⟨plus b c, plus b c, plus b a⟩ : T3).xs k) := by
    rw [h.xs]
    exact alone_w_noG chk_stuck (by omega) (by omega) (plus_ahead ha (by omega))
  have hhold : m.hold t = 0 := by rw [h.hold, if_neg (by omega)]
  obtain ⟨m', e, h1, h2, h3⟩ := whole_alone (t := t) same_next h.idle (by omega) (by decide) (by rw [hhold]; rfl) (by decide) hal
  rw [e]
  refine ⟨h1, h2, fun i => ?_⟩
  rw [h3, hhold]
  have hb : behindI 6 1 (fromI 6 0) = 0 := rfl
  rw [hb]
  unfold upd
  by_cases e : i = t
  · rw [if_pos e, if_neg (by omega)]
  · rw [if_neg e, h.hold]
theorem reads_last (hc : c < k) (ha : a = c) {t : Nat} (ht : t + 1 = k) (htc : c ≤ t) : (wholeI LS.tf m t 6).hold t = 2 ∧ ∀ i, i ≠ t → (wholeI LS.tf m t 6).hold i = 0 := by
  subst ha
  have hal : aloneG LS.stuck LS.tf 201 (newR k mode t 6 m.xs) = (2, (⟨plus b (a + 1), plus b a, plus b a⟩ : T3).xs k) := by
    rw [h.xs, alone_opG chk_stuck (by omega) (by omega) (show okT 6 ⟨plus b a, plus b a, plus b a⟩ by unfold okT; simp)]
    simp [opT, plus_up]
  have hhold : m.hold t = 0 := by rw [h.hold, if_neg (by omega)]
  obtain ⟨m', e, h1, h2, h3⟩ := whole_alone (t := t) same_next h.idle (by omega) (by decide) (by rw [hhold]; rfl) (by decide) hal
  rw [e, h3]
  refine ⟨?_, fun i hi => ?_⟩
  · rw [upd_same, hhold]; rfl
  · rw [upd_other _ _ hi, h.hold, if_neg (by omega)]
end
theorem reads_first {k : Nat} {mode b : Int} (hb : 0 ≤ b ∧ b < 4294967296) : Reads k mode b 0 0 ⟨fun i => newR k mode i 0 ((⟨b, b, b⟩ : T3).xs k), fun _ => 0, (⟨b, b, b⟩ : T3).xs k⟩ := by
  refine ⟨fun i hi => rfl, ?_, fun i => ?_⟩
  · rw [plus_zero hb]
  · rw [if_neg (by omega)]
/-- Nobody reads. -/
theorem many_none {m : MV} {t : Nat} (h : m.hold t = 2 ∧ ∀ i, i ≠ t → m.hold i = 0) : ∀ n, manyI m 1 n = 0 := by
  intro n
  induction n with
  | zero => rfl
  | succ n ih =>
    unfold manyI
    rw [ih, if_neg]
    by_cases e : n = t
    · subst e; rw [h.1]; decide
    · rw [h.2 n e]; decide
end Go.Proofs.Ytdmpaoajcnjbaaa
/- TfTogether: the walk. -/
set_option linter.unusedVariables false
set_option linter.unusedSimpArgs false
namespace Go.Proofs.Ytdmpaoajcnjbaaa
open Go.RowKit

set_option maxRecDepth 100000 in
set_option maxHeartbeats 4000000 in
theorem walk_tfTogether (a0 a1 a2 : Int) (a3 : Bool) (w : World) (h0 : (Lit.int .u8 a0).wf = true) (h1 : (Lit.int .u8 a1).wf = true) (h2 : (Lit.int .u32 a2).wf = true) :
    Calls Try.prog 6 #[.int .u8 a0, .int .u8 a1, .int .u32 a2, .bool a3] w fun e w' => e = .returned (.bool true) ∧ Only Nil w w' := by
  have HBD := Lib.hid (wf_u32 h2)
  obtain ⟨n0, n1⟩ := wf_u8 h0
  obtain ⟨n2, n3⟩ := wf_u8 h1
  obtain ⟨k, hkk⟩ : ∃ k : Nat, 2 + a0 % 15 = (k : Int) := ⟨(2 + a0 % 15).toNat, by omega⟩
  obtain ⟨mode, hmm⟩ : ∃ mode : Int, 1 + a1 % 2 = mode := ⟨_, rfl⟩
  have HK := Lib.hid (show 2 ≤ k ∧ k ≤ 16 by omega)
  have HKK := Lib.hid hkk
  have HMM := Lib.hid hmm
  clear h0 h1 h2 hkk hmm
  cases a3
  · skip
    go_enter Try.func6, Try.ntmps6
    go_wp2_with fail
    rw [HKK.out, HMM.out]
    refine (begun_any k mode a2 _ (by have := HK.out; omega) HBD.out).mono ?_
    have HFST := Lib.hid (reads_first (k := k) (mode := mode) HBD.out)
    generalize hm0 : (⟨fun i => newR k mode i 0 ((⟨a2, a2, a2⟩ : T3).xs k), fun _ => 0, (⟨a2, a2, a2⟩ : T3).xs k⟩ : MV) = m0 at *
    clear hm0
    rintro e w1 ⟨X, GL, GH, B, p, A, cp, rfl, hM⟩
    have e0 := (Only.refl Nil w1).alloc (.cells #[Value.pointer (some ⟨X, 0, none⟩)] 43)
    have HM1 := Lib.hid ((hM.keep e0).beside (Row.new w1 43 #[Value.pointer (some ⟨X, 0, none⟩)]) ⟨by decide, by decide, by decide⟩ (by decide))
    clear hM e0
    go_upto_region 3 with (fail)
    generalize w1.alloc (.cells #[Value.pointer (some ⟨X, 0, none⟩)] 43) = w2 at *
    generalize w1.heap.size = gx at *
    have bx : w2.cell? ⟨gx, 0, none⟩ = some (Value.pointer (some ⟨X, 0, none⟩)) := (show Row w2 gx 43 #[Value.pointer (some ⟨X, 0, none⟩)] from HM1.out.side _ (.head _)).cell_ (i := 0) rfl
    go_wp2_with fail
    clear bx
    clear n0 n1 n2 n3
    have hk1 : (2 : Int) ≤ k := by have := HK.out; omega
    have hk2 : (k : Int) ≤ 16 := by have := HK.out; omega
    go_loopw [13] (fun iv wr => ∃ c : Nat, c + 1 ≤ k ∧ iv = .int .i64 c ∧ ∃ m, MatchP [(gx, 43, #[Value.pointer (some ⟨X, 0, none⟩)])] w X GL GH B p A cp k m wr ∧ Reads k mode a2 c 0 m) (fun iv _ => k - (intOf iv).toNat)
    case atStart => exact ⟨0, by have := HK.out; omega, rfl, m0, HM1.out, HFST.out⟩
    case round =>
      obtain ⟨c, hc, rfl, m, hM, hR⟩ := hrel
      clear HM1 HFST
      have HM := Lib.hid hM
      have HR := Lib.hid hR
      clear hM hR
      by_cases hlt : c + 1 < k
      · have hlt' : (c : Int) < (k : Int) - 1 := by omega
        have HR2 := Lib.hid (reads_come HK.out HR.out (op := 1) (by simp) (by omega) (Nat.zero_le _))
        have HMN := Lib.hid (show manyI (wholeI LS.tf m c 1) 1 k = c + 1 by rw [reads_many HR2.out k]; omega)
        go_wp2_with fail
        clear hlt'
        refine (whole_any _ w X GL GH B p A cp k m c 1 gx _ HM.out (by omega) (.head _)).mono ?_
        generalize wholeI LS.tf m c 1 = m2 at *
        rintro e w3 ⟨rfl, hM⟩
        have HM3 := Lib.hid hM
        clear hM HM HR
        have bx : w3.cell? ⟨gx, 0, none⟩ = some (Value.pointer (some ⟨X, 0, none⟩)) := (show Row w3 gx 43 #[Value.pointer (some ⟨X, 0, none⟩)] from HM3.out.side _ (.head _)).cell_ (i := 0) rfl
        go_wp2_with fail
        clear bx
        refine (many_any _ w X GL GH B p A cp k m2 1 _ HM3.out (by omega)).mono ?_
        rw [HMN.out]
        rintro e w4 ⟨rfl, rfl⟩
        have hcc : ((c + 1 : Nat) : Int) = (c : Int) + 1 := by push_cast; rfl
        rw [hcc]
        clear hcc
        go_wp2
        go_roundw
        case rel => exact ⟨c + 1, by omega, by go_num, m2, HM3.out, HR2.out⟩
        case measure => simp [intOf]; omega
      · have hlt' : ¬ (c : Int) < (k : Int) - 1 := by omega
        obtain rfl : k = c + 1 := by omega
        go_wp2_with fail
        clear hlt'
        go_loopw [14] (fun iv wr => ∃ a : Nat, a ≤ c ∧ iv = .int .i64 a ∧ ∃ m, MatchP [(gx, 43, #[Value.pointer (some ⟨X, 0, none⟩)])] w X GL GH B p A cp (c + 1) m wr ∧ Reads (c + 1) mode a2 c a m) (fun iv _ => c - (intOf iv).toNat)
        case atStart => exact ⟨0, Nat.zero_le _, rfl, m, HM.out, HR.out⟩
        case round =>
          obtain ⟨a, ha, rfl, m, hM, hR⟩ := hrel
          clear HM HR
          have HM := Lib.hid hM
          have HR := Lib.hid hR
          clear hM hR
          by_cases hlt : a < c
          · have hlt' : (a : Int) < ((c + 1 : Nat) : Int) - 1 := by omega
            have HR2 := Lib.hid (reads_refuse HK.out HR.out (by omega) hlt (t := c) rfl (Nat.le_refl _))
            have HH0 := Lib.hid (show (wholeI LS.tf m c 6).hold c = 0 by rw [HR2.out.hold, if_neg (by omega)])
            go_wp2_with fail
            clear hlt'
            refine (whole_any _ w X GL GH B p A cp (c + 1) m c 6 gx _ HM.out (by omega) (.head _)).mono ?_
            generalize wholeI LS.tf m c 6 = m2 at *
            rintro e w3 ⟨rfl, hM⟩
            have HM3 := Lib.hid hM
            clear hM HM HR
            have bx : w3.cell? ⟨gx, 0, none⟩ = some (Value.pointer (some ⟨X, 0, none⟩)) := (show Row w3 gx 43 #[Value.pointer (some ⟨X, 0, none⟩)] from HM3.out.side _ (.head _)).cell_ (i := 0) rfl
            obtain ⟨cl, hx0⟩ := HM3.out.x
            obtain ⟨csh, hh0, hh1⟩ := HM3.out.h
            have x1 : w3.cell? ⟨X, 1, none⟩ = some (.slice (some ⟨GH, 0, none⟩) (c + 1) (c + 1)) := hx0.cell_ (i := 1) rfl
            have gh : w3.cell? ⟨GH, c, none⟩ = some (.int .i64 0) := by have e := hh0.cell_ (hh1 c (by omega)); rw [HH0.out] at e; exact e
            clear hx0 hh0 hh1
            have hidx : ((c + 1 : Nat) : Int) - 1 = ((c : Nat) : Int) := by push_cast; omega
            go_wp2_with fail
            clear bx x1 gh hidx
            have HR4 := Lib.hid (reads_go HK.out HR2.out (by omega) hlt)
            refine (whole_any _ w X GL GH B p A cp (c + 1) m2 a 2 gx _ HM3.out (by omega) (.head _)).mono ?_
            generalize wholeI LS.tf m2 a 2 = m4 at *
            rintro e w5 ⟨rfl, hM⟩
            have HM5 := Lib.hid hM
            clear hM HM3 HR2
            go_wp2
            go_roundw
            case rel => exact ⟨a + 1, by omega, by go_num, m4, HM5.out, HR4.out⟩
            case measure => simp [intOf]; omega
          · have hlt' : ¬ (a : Int) < ((c + 1 : Nat) : Int) - 1 := by omega
            obtain rfl : a = c := by omega
            have HR2 := Lib.hid (reads_last HK.out HR.out (by omega) rfl (t := a) rfl (Nat.le_refl _))
            go_wp2_with fail
            clear hlt'
            refine (whole_any _ w X GL GH B p A cp (a + 1) m a 6 gx _ HM.out (by omega) (.head _)).mono ?_
            generalize wholeI LS.tf m a 6 = m2 at *
            rintro e w3 ⟨rfl, hM⟩
            have HM3 := Lib.hid hM
            have HMN := Lib.hid (many_none HR2.out (a + 1))
            clear hM HM HR
            have bx : w3.cell? ⟨gx, 0, none⟩ = some (Value.pointer (some ⟨X, 0, none⟩)) := (show Row w3 gx 43 #[Value.pointer (some ⟨X, 0, none⟩)] from HM3.out.side _ (.head _)).cell_ (i := 0) rfl
            obtain ⟨cl, hx0⟩ := HM3.out.x
            obtain ⟨csh, hh0, hh1⟩ := HM3.out.h
            have x1 : w3.cell? ⟨X, 1, none⟩ = some (.slice (some ⟨GH, 0, none⟩) (a + 1) (a + 1)) := hx0.cell_ (i := 1) rfl
            have gh : w3.cell? ⟨GH, a, none⟩ = some (.int .i64 2) := by have e := hh0.cell_ (hh1 a (by omega)); rw [HR2.out.1] at e; exact e
            clear hx0 hh0 hh1
            have hidx : ((a + 1 : Nat) : Int) - 1 = ((a : Nat) : Int) := by push_cast; omega
            go_wp2_with fail
            clear bx x1 gh hidx
            refine (many_any _ w X GL GH B p A cp (a + 1) m2 1 _ HM3.out (by have := HK.out; omega)).mono ?_
            rw [HMN.out]
            rintro e w4 ⟨rfl, rfl⟩
            rw [show ((0 : Nat) : Int) = 0 from rfl]
            go_wp2_with fail
            refine (awake_any _).mono ?_
            rintro e w9 ⟨rfl, hO⟩
            have HO9 := Lib.hid (HM3.out.only.trans hO)
            clear hO
            go_wp2
            go_ret
            exact ⟨rfl, HO9.out⟩
  · skip
    go_enter Try.func6, Try.ntmps6
    go_wp2_with fail
    rw [HKK.out, HMM.out]
    refine (begun_any k mode a2 _ (by have := HK.out; omega) HBD.out).mono ?_
    have HFST := Lib.hid (reads_first (k := k) (mode := mode) HBD.out)
    generalize hm0 : (⟨fun i => newR k mode i 0 ((⟨a2, a2, a2⟩ : T3).xs k), fun _ => 0, (⟨a2, a2, a2⟩ : T3).xs k⟩ : MV) = m0 at *
    clear hm0
    rintro e w1 ⟨X, GL, GH, B, p, A, cp, rfl, hM⟩
    have e0 := (Only.refl Nil w1).alloc (.cells #[Value.pointer (some ⟨X, 0, none⟩)] 43)
    have HM1 := Lib.hid ((hM.keep e0).beside (Row.new w1 43 #[Value.pointer (some ⟨X, 0, none⟩)]) ⟨by decide, by decide, by decide⟩ (by decide))
    clear hM e0
    go_upto_region 3 with (fail)
    generalize w1.alloc (.cells #[Value.pointer (some ⟨X, 0, none⟩)] 43) = w2 at *
    generalize w1.heap.size = gx at *
    have bx : w2.cell? ⟨gx, 0, none⟩ = some (Value.pointer (some ⟨X, 0, none⟩)) := (show Row w2 gx 43 #[Value.pointer (some ⟨X, 0, none⟩)] from HM1.out.side _ (.head _)).cell_ (i := 0) rfl
    go_wp2_with fail
    clear bx
    clear n0 n1 n2 n3
    have hk1 : (2 : Int) ≤ k := by have := HK.out; omega
    have hk2 : (k : Int) ≤ 16 := by have := HK.out; omega
    go_loopw [13] (fun iv wr => ∃ c : Nat, c + 1 ≤ k ∧ iv = .int .i64 c ∧ ∃ m, MatchP [(gx, 43, #[Value.pointer (some ⟨X, 0, none⟩)])] w X GL GH B p A cp k m wr ∧ Reads k mode a2 c 0 m) (fun iv _ => k - (intOf iv).toNat)
    case atStart => exact ⟨0, by have := HK.out; omega, rfl, m0, HM1.out, HFST.out⟩
    case round =>
      obtain ⟨c, hc, rfl, m, hM, hR⟩ := hrel
      clear HM1 HFST
      have HM := Lib.hid hM
      have HR := Lib.hid hR
      clear hM hR
      by_cases hlt : c + 1 < k
      · have hlt' : (c : Int) < (k : Int) - 1 := by omega
        have HR2 := Lib.hid (reads_come HK.out HR.out (op := 5) (by simp) (by omega) (Nat.zero_le _))
        have HMN := Lib.hid (show manyI (wholeI LS.tf m c 5) 1 k = c + 1 by rw [reads_many HR2.out k]; omega)
        go_wp2_with fail
        clear hlt'
        refine (whole_any _ w X GL GH B p A cp k m c 5 gx _ HM.out (by omega) (.head _)).mono ?_
        generalize wholeI LS.tf m c 5 = m2 at *
        rintro e w3 ⟨rfl, hM⟩
        have HM3 := Lib.hid hM
        clear hM HM HR
        have bx : w3.cell? ⟨gx, 0, none⟩ = some (Value.pointer (some ⟨X, 0, none⟩)) := (show Row w3 gx 43 #[Value.pointer (some ⟨X, 0, none⟩)] from HM3.out.side _ (.head _)).cell_ (i := 0) rfl
        go_wp2_with fail
        clear bx
        refine (many_any _ w X GL GH B p A cp k m2 1 _ HM3.out (by omega)).mono ?_
        rw [HMN.out]
        rintro e w4 ⟨rfl, rfl⟩
        have hcc : ((c + 1 : Nat) : Int) = (c : Int) + 1 := by push_cast; rfl
        rw [hcc]
        clear hcc
        go_wp2
        go_roundw
        case rel => exact ⟨c + 1, by omega, by go_num, m2, HM3.out, HR2.out⟩
        case measure => simp [intOf]; omega
      · have hlt' : ¬ (c : Int) < (k : Int) - 1 := by omega
        obtain rfl : k = c + 1 := by omega
        go_wp2_with fail
        clear hlt'
        go_loopw [14] (fun iv wr => ∃ a : Nat, a ≤ c ∧ iv = .int .i64 a ∧ ∃ m, MatchP [(gx, 43, #[Value.pointer (some ⟨X, 0, none⟩)])] w X GL GH B p A cp (c + 1) m wr ∧ Reads (c + 1) mode a2 c a m) (fun iv _ => c - (intOf iv).toNat)
        case atStart => exact ⟨0, Nat.zero_le _, rfl, m, HM.out, HR.out⟩
        case round =>
          obtain ⟨a, ha, rfl, m, hM, hR⟩ := hrel
          clear HM HR
          have HM := Lib.hid hM
          have HR := Lib.hid hR
          clear hM hR
          by_cases hlt : a < c
          · have hlt' : (a : Int) < ((c + 1 : Nat) : Int) - 1 := by omega
            have HR2 := Lib.hid (reads_refuse HK.out HR.out (by omega) hlt (t := c) rfl (Nat.le_refl _))
            have HH0 := Lib.hid (show (wholeI LS.tf m c 6).hold c = 0 by rw [HR2.out.hold, if_neg (by omega)])
            go_wp2_with fail
            clear hlt'
            refine (whole_any _ w X GL GH B p A cp (c + 1) m c 6 gx _ HM.out (by omega) (.head _)).mono ?_
            generalize wholeI LS.tf m c 6 = m2 at *
            rintro e w3 ⟨rfl, hM⟩
            have HM3 := Lib.hid hM
            clear hM HM HR
            have bx : w3.cell? ⟨gx, 0, none⟩ = some (Value.pointer (some ⟨X, 0, none⟩)) := (show Row w3 gx 43 #[Value.pointer (some ⟨X, 0, none⟩)] from HM3.out.side _ (.head _)).cell_ (i := 0) rfl
            obtain ⟨cl, hx0⟩ := HM3.out.x
            obtain ⟨csh, hh0, hh1⟩ := HM3.out.h
            have x1 : w3.cell? ⟨X, 1, none⟩ = some (.slice (some ⟨GH, 0, none⟩) (c + 1) (c + 1)) := hx0.cell_ (i := 1) rfl
            have gh : w3.cell? ⟨GH, c, none⟩ = some (.int .i64 0) := by have e := hh0.cell_ (hh1 c (by omega)); rw [HH0.out] at e; exact e
            clear hx0 hh0 hh1
            have hidx : ((c + 1 : Nat) : Int) - 1 = ((c : Nat) : Int) := by push_cast; omega
            go_wp2_with fail
            clear bx x1 gh hidx
            have HR4 := Lib.hid (reads_go HK.out HR2.out (by omega) hlt)
            refine (whole_any _ w X GL GH B p A cp (c + 1) m2 a 2 gx _ HM3.out (by omega) (.head _)).mono ?_
            generalize wholeI LS.tf m2 a 2 = m4 at *
            rintro e w5 ⟨rfl, hM⟩
            have HM5 := Lib.hid hM
            clear hM HM3 HR2
            go_wp2
            go_roundw
            case rel => exact ⟨a + 1, by omega, by go_num, m4, HM5.out, HR4.out⟩
            case measure => simp [intOf]; omega
          · have hlt' : ¬ (a : Int) < ((c + 1 : Nat) : Int) - 1 := by omega
            obtain rfl : a = c := by omega
            have HR2 := Lib.hid (reads_last HK.out HR.out (by omega) rfl (t := a) rfl (Nat.le_refl _))
            go_wp2_with fail
            clear hlt'
            refine (whole_any _ w X GL GH B p A cp (a + 1) m a 6 gx _ HM.out (by omega) (.head _)).mono ?_
            generalize wholeI LS.tf m a 6 = m2 at *
            rintro e w3 ⟨rfl, hM⟩
            have HM3 := Lib.hid hM
            have HMN := Lib.hid (many_none HR2.out (a + 1))
            clear hM HM HR
            have bx : w3.cell? ⟨gx, 0, none⟩ = some (Value.pointer (some ⟨X, 0, none⟩)) := (show Row w3 gx 43 #[Value.pointer (some ⟨X, 0, none⟩)] from HM3.out.side _ (.head _)).cell_ (i := 0) rfl
            obtain ⟨cl, hx0⟩ := HM3.out.x
            obtain ⟨csh, hh0, hh1⟩ := HM3.out.h
            have x1 : w3.cell? ⟨X, 1, none⟩ = some (.slice (some ⟨GH, 0, none⟩) (a + 1) (a + 1)) := hx0.cell_ (i := 1) rfl
            have gh : w3.cell? ⟨GH, a, none⟩ = some (.int .i64 2) := by have e := hh0.cell_ (hh1 a (by omega)); rw [HR2.out.1] at e; exact e
            clear hx0 hh0 hh1
            have hidx : ((a + 1 : Nat) : Int) - 1 = ((a : Nat) : Int) := by push_cast; omega
            go_wp2_with fail
            clear bx x1 gh hidx
            refine (many_any _ w X GL GH B p A cp (a + 1) m2 1 _ HM3.out (by have := HK.out; omega)).mono ?_
            rw [HMN.out]
            rintro e w4 ⟨rfl, rfl⟩
            rw [show ((0 : Nat) : Int) = 0 from rfl]
            go_wp2_with fail
            refine (awake_any _).mono ?_
            rintro e w9 ⟨rfl, hO⟩
            have HO9 := Lib.hid (HM3.out.only.trans hO)
            clear hO
            go_wp2
            go_ret
            exact ⟨rfl, HO9.out⟩
end Go.Proofs.Ytdmpaoajcnjbaaa
