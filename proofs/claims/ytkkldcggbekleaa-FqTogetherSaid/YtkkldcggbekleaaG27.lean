import Derived.Test.YtkkldcggbekleaaChecked
import Derived.Laws.AppendOwn
import Derived.OwnWalk
import Derived.Deep.OwnRows
import Derived.Test.YtkkldcggbekleaaG26
import Derived.Test.YtkkldcggbekleaaG25
import Derived.Test.YtkkldcggbekleaaG2
set_option linter.unusedVariables false
set_option linter.unusedSimpArgs false
namespace Go.Proofs.Ytkkldcggbekleaa
open Go.RowKit
theorem may_any (op h : Int) (w : World) : Calls Try.prog 24 #[.int .i64 op, .int .i64 h] w fun e w' => e = .returned (.bool (mayI op h)) ∧ w = w' := by
  by_cases h0 : h = 0
  · subst h0
    have E := Lib.hid (show mayI op 0 = (op == 1 || op == 3 || op == 5 || op == 6) from rfl)
    go_enter Try.func24, Try.ntmps24
    go_wp2
    all_goals
      go_ret
      exact ⟨ret_bool (by rw [E.out]; first | done | simp_all), rfl⟩
  by_cases h1 : h = 1
  · subst h1
    have E := Lib.hid (show mayI op 1 = (op == 2 || op == 7) from rfl)
    go_enter Try.func24, Try.ntmps24
    go_wp2
    all_goals
      go_ret
      exact ⟨ret_bool (by rw [E.out]; first | done | simp_all), rfl⟩
  · have E := Lib.hid (show mayI op h = (op == 4 || op == 8) by unfold mayI; rw [if_neg h0, if_neg h1])
    go_enter Try.func24, Try.ntmps24
    go_wp2
    all_goals
      go_ret
      exact ⟨ret_bool (by rw [E.out]; first | done | simp_all), rfl⟩
theorem from_any (op h : Int) (w : World) : Calls Try.prog 25 #[.int .i64 op, .int .i64 h] w fun e w' => e = .returned (.int .i64 (fromI op h)) ∧ w = w' := by
  have hf : ∀ v, fromI op h = v → Hid (fromI op h = v) := fun _ e => Lib.hid e
  by_cases h2 : op = 2
  · subst h2
    have E := hf 0 rfl
    clear hf
    go_enter Try.func25, Try.ntmps25
    go_wp2
    go_ret
    exact ⟨ret_int (by rw [E.out]), rfl⟩
  by_cases h4 : op = 4
  · subst h4
    have E := hf 0 rfl
    clear hf
    go_enter Try.func25, Try.ntmps25
    go_wp2
    go_ret
    exact ⟨ret_int (by rw [E.out]), rfl⟩
  by_cases h8 : op = 8
  · subst h8
    have E := hf 1 rfl
    clear hf
    go_enter Try.func25, Try.ntmps25
    go_wp2
    go_ret
    exact ⟨ret_int (by rw [E.out]), rfl⟩
  · have E := hf h (by unfold fromI; rw [if_neg (by omega), if_neg h8])
    have b2 : (op == 2) = false := beq_eq_false_iff_ne.2 h2
    have b4 : (op == 4) = false := beq_eq_false_iff_ne.2 h4
    have b8 : (op == 8) = false := beq_eq_false_iff_ne.2 h8
    clear h2 h4 h8
    clear hf
    go_enter Try.func25, Try.ntmps25
    go_wp2
    go_ret
    exact ⟨ret_int (by rw [E.out]), rfl⟩
theorem behind_of (op ret h : Int) (w : World) : Calls Try.prog 27 #[.int .i64 op, .int .i64 ret, .int .i64 h] w fun e w' => e = .returned (.int .i64 (behindI op ret h)) ∧ w = w' := by
  have hf : ∀ v, behindI op ret h = v → Hid (behindI op ret h = v) := fun _ e => Lib.hid e
  by_cases hr : ret = 2
  · subst hr
    by_cases h1 : op = 1
    · subst h1
      have E := hf 1 rfl
      clear hf
      go_enter Try.func27, Try.ntmps27
      go_wp2
      go_ret
      exact ⟨ret_int (by rw [E.out]), rfl⟩
    by_cases h5 : op = 5
    · subst h5
      have E := hf 1 rfl
      clear hf
      go_enter Try.func27, Try.ntmps27
      go_wp2
      go_ret
      exact ⟨ret_int (by rw [E.out]), rfl⟩
    by_cases h3 : op = 3
    · subst h3
      have E := hf 2 rfl
      clear hf
      go_enter Try.func27, Try.ntmps27
      go_wp2
      go_ret
      exact ⟨ret_int (by rw [E.out]), rfl⟩
    by_cases h6 : op = 6
    · subst h6
      have E := hf 2 rfl
      clear hf
      go_enter Try.func27, Try.ntmps27
      go_wp2
      go_ret
      exact ⟨ret_int (by rw [E.out]), rfl⟩
    by_cases h7 : op = 7
    · subst h7
      have E := hf 2 rfl
      clear hf
      go_enter Try.func27, Try.ntmps27
      go_wp2
      go_ret
      exact ⟨ret_int (by rw [E.out]), rfl⟩
    · have E := hf h (by unfold behindI; rw [if_neg (by omega), if_neg (by omega), if_neg (by omega)])
      have b1 : (op == 1) = false := beq_eq_false_iff_ne.2 h1
      have b5 : (op == 5) = false := beq_eq_false_iff_ne.2 h5
      have b3 : (op == 3) = false := beq_eq_false_iff_ne.2 h3
      have b6 : (op == 6) = false := beq_eq_false_iff_ne.2 h6
      have b7 : (op == 7) = false := beq_eq_false_iff_ne.2 h7
      clear h1 h5 h3 h6 h7
      clear hf
      go_enter Try.func27, Try.ntmps27
      go_wp2
      go_ret
      exact ⟨ret_int (by rw [E.out]), rfl⟩
  · have E := hf h (by unfold behindI; rw [if_pos hr])
    have br : (ret == 2) = false := beq_eq_false_iff_ne.2 hr
    clear hr
    clear hf
    go_enter Try.func27, Try.ntmps27
    go_wp2
    go_ret
    exact ⟨ret_int (by rw [E.out]), rfl⟩
theorem exec_loadR {P : Program} {a : Act} {o : Oper} {ty t : TypeId} {x : Operand} {B : Nat} {w : World} {cs : Array Value} {d : TypeDesc} (ho : o.op = .load ty x) (hx : a.eval x = .pointer (some ⟨B, 0, none⟩)) (hg : Row w B t cs)
    (hu : P.underlying ty = some d) (hd : (match d with | .struct _ | .array _ _ => true | _ => false) = true) (hi : (P.info? ty).map (·.size) = some cs.size) : (execOp a.eval o).run P w = .ok (.value (.agg cs)) w := by
  have h := run_loadVar_row (P := P) w B t ty cs (0, 0) d hg hu hd hi
  unfold execOp
  simp [ho, hx, Instr.loadAt, Instr.sureAddr, h]
theorem wp_loadR {P : Program} {w : World} {ops : Array Oper} {rest : List Oper} {o : Oper} {a : Act} {Q : Exit → Act → World → Prop} (hgd : o.guard = none) (ty : TypeId) (x : Operand) (ho : o.op = .load ty x) {t : TypeId} {B : Nat} {cs : Array Value} {d : TypeDesc}
    (hx : a.eval x = .pointer (some ⟨B, 0, none⟩)) (hg : Row w B t cs) (hu : P.underlying ty = some d) (hd : (match d with | .struct _ | .array _ _ => true | _ => false) = true) (hi : (P.info? ty).map (·.size) = some cs.size)
    (h : wpList P ops Q rest (a.put o.dst (.agg cs)) w) : wpList P ops Q (o :: rest) a w := by
  refine wpList_plain hgd fun K hK => ?_
  unfold Oper.wp
  rw [exec_loadR ho hx hg hu hd hi]
  exact hK _ _ h
-- behind the beginning: the run's state is M.at t
set_option maxRecDepth 100000 in
set_option maxHeartbeats 4000000 in
theorem play_any (L : List (Nat × TypeId × Array Value)) (w0 : World) (X GL GH : Nat) (B : Nat → Nat) (p A : Option Addr) (cp k : Nat) (m : MV) (t : Nat) (op : Int) (w : World) (h : MatchP L w0 X GL GH B p A cp k m w) (ht : t < k) :
    Calls Try.prog 13 #[Value.pointer (some ⟨X, 0, none⟩), .int .i64 t, .int .i64 op] w fun e w' => e = .returned (.tuple #[]) ∧ MatchP L w0 X GL GH B p A cp k (playI LS.fq m t op) w' := by
  obtain ⟨b, hb⟩ : ∃ b, B t = b := ⟨_, rfl⟩
  have HBT := Lib.hid hb
  have HM := Lib.hid h
  clear h hb
  have hc4 : w.cell? ⟨b, 4, none⟩ = some (.int .i64 (m.at t).op) := by
    obtain ⟨nv, hq⟩ := HM.out.run t ht
    rw [HBT.out] at hq
    exact hq.row.cell_ (i := 4) rfl
  by_cases hop : (m.at t).op = 0
  · have c4 := hc4
    rw [hop] at c4
    clear hc4
    have HOP := Lib.hid hop
    clear hop
    cases hmay : mayI op (m.hold t)
    · have HMAY := Lib.hid hmay
      clear hmay
      have HPL := Lib.hid (show playI LS.fq m t op = m by unfold playI; rw [if_pos HOP.out, HMAY.out, if_neg Bool.false_ne_true])
      obtain ⟨cl, hx0⟩ := HM.out.x
      obtain ⟨csl, hl0, hl1⟩ := HM.out.l
      obtain ⟨csh, hh0, hh1⟩ := HM.out.h
      have x0 : w.cell? ⟨X, 0, none⟩ = some (.slice (some ⟨GL, 0, none⟩) k cl) := hx0.cell_ (i := 0) rfl
      have x1 : w.cell? ⟨X, 1, none⟩ = some (.slice (some ⟨GH, 0, none⟩) k k) := hx0.cell_ (i := 1) rfl
      have gl : w.cell? ⟨GL, t, none⟩ = some (.pointer (some ⟨b, 0, none⟩)) := by have e := hl0.cell_ (hl1 t ht); rw [HBT.out] at e; exact e
      have gh : w.cell? ⟨GH, t, none⟩ = some (.int .i64 (m.hold t)) := hh0.cell_ (hh1 t ht)
      have fh : w.frozen? ⟨GH, t, none⟩ = false := hh0.frozen t
      clear hx0 hl0 hl1 hh0 hh1
      go_enter Try.func13, Try.ntmps13
      go_wp2_with fail
      clear x0 x1 gl gh fh c4
      refine (may_any op (m.hold t) _).mono ?_
      rw [HMAY.out]
      rintro e w1 ⟨rfl, rfl⟩
      go_wp2
      go_returns
      exact ⟨rfl, by rw [HPL.out]; exact HM.out⟩
    · have HMAY := Lib.hid hmay
      clear hmay
      have HPL := Lib.hid (show playI LS.fq m t op = (m.start t op).go LS.fq t by unfold playI; rw [if_pos HOP.out, HMAY.out, if_pos rfl])
      obtain ⟨cl, hx0⟩ := HM.out.x
      obtain ⟨csl, hl0, hl1⟩ := HM.out.l
      obtain ⟨csh, hh0, hh1⟩ := HM.out.h
      have x0 : w.cell? ⟨X, 0, none⟩ = some (.slice (some ⟨GL, 0, none⟩) k cl) := hx0.cell_ (i := 0) rfl
      have x1 : w.cell? ⟨X, 1, none⟩ = some (.slice (some ⟨GH, 0, none⟩) k k) := hx0.cell_ (i := 1) rfl
      have gl : w.cell? ⟨GL, t, none⟩ = some (.pointer (some ⟨b, 0, none⟩)) := by have e := hl0.cell_ (hl1 t ht); rw [HBT.out] at e; exact e
      have gh : w.cell? ⟨GH, t, none⟩ = some (.int .i64 (m.hold t)) := hh0.cell_ (hh1 t ht)
      have fh : w.frozen? ⟨GH, t, none⟩ = false := hh0.frozen t
      clear hx0 hl0 hl1 hh0 hh1
      go_enter Try.func13, Try.ntmps13
      go_wp2_with fail
      clear x0 gl c4
      refine (may_any op (m.hold t) _).mono ?_
      rw [HMAY.out]
      rintro e w1 ⟨rfl, rfl⟩
      have HFH := Lib.hid fh
      clear fh
      go_upto_region 3 with (fail)
      refine wp_region_phase (n := 16) 15 (fun w => w.cell? ⟨X, 1, none⟩ = some (.slice (some ⟨GH, 0, none⟩) k k) ∧ w.cell? ⟨GH, t, none⟩ = some (.int .i64 (m.hold t))) rfl (by kernel_rfl) ⟨x1, gh⟩ (fun hHeld => ?_)
      have HM1 := Lib.hid (HM.out.keep (Only.refl Nil w).drew)
      have HZF : Hid (w.drew.frozen? ⟨GH, t, none⟩ = false) := Lib.hid HFH.out
      clear x1 gh HFH HM
      generalize w.drew = w1 at *
      refine mpa 0 rfl (Value.pointer (some ⟨X, 0, none⟩)) (fun w => ?_) ?_
      · go_simp
      (try simp only [Act.put, k1, k2, k3])
      refine mpa 1 rfl (Value.pointer (some ⟨X, 0, none⟩)) (fun w => ?_) ?_
      · go_simp
      (try simp only [Act.put, k1, k2, k3])
      refine mpa 2 rfl (.pointer (some ⟨X, 1, none⟩)) (fun w => ?_) ?_
      · go_simp
      (try simp only [Act.put, k1, k2, k3])
      refine mpt 3 rfl (.slice (some ⟨GH, 0, none⟩) k k) (fun w hSw => ?_) ?_
      · (try dsimp only at hSw)
        go_split_ands
        go_simp
      (try simp only [Act.put, k1, k2, k3])
      refine mpa 4 rfl (.int .i64 t) (fun w => ?_) ?_
      · go_simp
      (try simp only [Act.put, k1, k2, k3])
      refine mpa 5 rfl (.int .i64 op) (fun w => ?_) ?_
      · go_simp
      (try simp only [Act.put, k1, k2, k3])
      refine mpa 6 rfl (Value.pointer (some ⟨X, 0, none⟩)) (fun w => ?_) ?_
      · go_simp
      (try simp only [Act.put, k1, k2, k3])
      refine mpa 7 rfl (Value.pointer (some ⟨X, 0, none⟩)) (fun w => ?_) ?_
      · go_simp
      (try simp only [Act.put, k1, k2, k3])
      refine mpa 8 rfl (.pointer (some ⟨X, 1, none⟩)) (fun w => ?_) ?_
      · go_simp
      (try simp only [Act.put, k1, k2, k3])
      refine mpt 9 rfl (.slice (some ⟨GH, 0, none⟩) k k) (fun w hSw => ?_) ?_
      · (try dsimp only at hSw)
        go_split_ands
        go_simp
      (try simp only [Act.put, k1, k2, k3])
      refine mpa 10 rfl (.int .i64 t) (fun w => ?_) ?_
      · go_simp
      (try simp only [Act.put, k1, k2, k3])
      refine mpa 11 rfl (.pointer (some ⟨GH, t, none⟩)) (fun w => ?_) ?_
      · go_simp
      (try simp only [Act.put, k1, k2, k3])
      refine mpt 12 rfl (.int .i64 (m.hold t)) (fun w hSw => ?_) ?_
      · (try dsimp only at hSw)
        go_split_ands
        go_simp
      (try simp only [Act.put, k1, k2, k3])
      refine mpc 13 rfl (by kernel_rfl) (by rfl) (fun K hK => ?_)
      go_simp
      refine (from_any op (m.hold t) _).mono ?_
      rintro e w9 ⟨rfl, rfl⟩
      refine hK.out _ _ (.inr hHeld) ?_
      clear hK K
      (try simp only [Act.put, k1, k2, k3])
      refine mpa 14 rfl (.pointer (some ⟨GH, t, none⟩)) (fun w => ?_) ?_
      · go_simp
      (try simp only [Act.put, k1, k2, k3])
      have zf : w1.frozen? ⟨GH, t, none⟩ = false := HZF.out
      have zc : w1.cell? ⟨GH, t, none⟩ = some (.int .i64 (m.hold t)) := hHeld.2
      refine mpc 15 rfl (by kernel_rfl) (by rfl) (fun K hK => ?_)
      go_simp
      have HM2 := Lib.hid (HM1.out.held ht (fromI op (m.hold t)))
      refine hK.out _ _ (.inl (by kernel_rfl)) ?_
      clear hK K hHeld zf zc HM1 HZF
      generalize w1.setCell ⟨GH, t, none⟩ (.int .i64 (fromI op (m.hold t))) = w2 at *
      (try simp only [Act.put, k1, k2, k3])
      refine wpAnyP_done (by kernel_rfl) ?_ _
      obtain ⟨nv0, hq0⟩ := HM2.out.run t ht
      rw [HBT.out, at_setH] at hq0
      generalize hr0 : m.at t = r0 at *
      have HR0 := Lib.hid hr0
      clear hr0
      have a4 : w2.cell? ⟨b, 4, none⟩ = some (.int .i64 r0.op) := hq0.row.cell_ (i := 4) rfl
      have a5 : w2.cell? ⟨b, 5, none⟩ = some (.int .i64 r0.line) := hq0.row.cell_ (i := 5) rfl
      have a6 : w2.cell? ⟨b, 6, none⟩ = some (.int .u32 r0.a) := hq0.row.cell_ (i := 6) rfl
      have a7 : w2.cell? ⟨b, 7, none⟩ = some (.int .u32 r0.b) := hq0.row.cell_ (i := 7) rfl
      have a8 : w2.cell? ⟨b, 8, none⟩ = some (.int .i64 r0.s) := hq0.row.cell_ (i := 8) rfl
      have a9 : w2.cell? ⟨b, 9, none⟩ = some (.bool r0.k.on) := hq0.row.cell_ (i := 9) rfl
      have a10 : w2.cell? ⟨b, 10, none⟩ = some (.int .i64 r0.k.c) := hq0.row.cell_ (i := 10) rfl
      have a11 : w2.cell? ⟨b, 11, none⟩ = some (.int .i64 r0.k.i) := hq0.row.cell_ (i := 11) rfl
      have a12 : w2.cell? ⟨b, 12, none⟩ = some (.bool r0.k.hit) := hq0.row.cell_ (i := 12) rfl
      have a13 : w2.cell? ⟨b, 13, none⟩ = some (.int .i64 r0.ret) := hq0.row.cell_ (i := 13) rfl
      have f4 : w2.frozen? ⟨b, 4, none⟩ = false := hq0.row.frozen 4
      have f5 : w2.frozen? ⟨b, 5, none⟩ = false := hq0.row.frozen 5
      have f6 : w2.frozen? ⟨b, 6, none⟩ = false := hq0.row.frozen 6
      have f7 : w2.frozen? ⟨b, 7, none⟩ = false := hq0.row.frozen 7
      have f8 : w2.frozen? ⟨b, 8, none⟩ = false := hq0.row.frozen 8
      have f9 : w2.frozen? ⟨b, 9, none⟩ = false := hq0.row.frozen 9
      have f10 : w2.frozen? ⟨b, 10, none⟩ = false := hq0.row.frozen 10
      have f11 : w2.frozen? ⟨b, 11, none⟩ = false := hq0.row.frozen 11
      have f12 : w2.frozen? ⟨b, 12, none⟩ = false := hq0.row.frozen 12
      have f13 : w2.frozen? ⟨b, 13, none⟩ = false := hq0.row.frozen 13
      clear hq0
      go_upto_region 5 with (fail)
      clear a4 a5 a6 a7 a8 a9 a10 a11 a12 a13 f4 f5 f6 f7 f8 f9 f10 f11 f12 f13
      have h3 := HM2.out.framed ht op
      rw [HBT.out, at_setH, HR0.out] at h3
      unfold frameW at h3
      have HM := Lib.hid (show MatchP L w0 X GL GH B p A cp k (m.start t op) _ by unfold MV.start; rw [HR0.out]; exact h3)
      clear h3 HM2
      generalize (((((((((w2.setCell ⟨b, 4, none⟩ (.int .i64 op)).setCell ⟨b, 5, none⟩ (.int .i64 0)).setCell ⟨b, 6, none⟩ (.int .u32 0)).setCell ⟨b, 7, none⟩ (.int .u32 0)).setCell ⟨b, 8, none⟩ (.int .i64 0)).setCell ⟨b, 9, none⟩ (.bool false)).setCell ⟨b, 10, none⟩ (.int .i64 0)).setCell ⟨b, 11, none⟩ (.int .i64 0)).setCell ⟨b, 12, none⟩ (.bool false)).setCell ⟨b, 13, none⟩ (.int .i64 0) = w3 at *
      generalize hms : m.start t op = ms at *
      clear HR0 HOP HMAY hms
      obtain ⟨nv, hq⟩ := HM.out.run t ht
      rw [HBT.out] at hq
      have HQ := Lib.hid hq
      clear hq
      generalize hrr : ms.at t = rr at *
      have HRR := Lib.hid hrr
      clear hrr
      go_wp2_with (refine wp_loadR rfl 61 (.tmp 51) rfl (by rfl) HQ.out.row Try.underlying61 rfl (by kernel_rfl) ?_)
      refine (stuckL_any p A cp nv rr _ HQ.out.memo).mono ?_
      cases hsk : rr.stuck
      · have HSK := Lib.hid hsk
        clear hsk
        rintro e w4 ⟨rfl, hO, hM⟩
        have HM4 := Lib.hid (HM.out.same hO (by rw [← HRR.out] at hM; exact hM))
        have HQ4 : Hid (RunQ w4 b p A cp nv rr) := Lib.hid ⟨HQ.out.row.only hO (fun e => HQ.out.far (.inr e) rfl), hM⟩
        have HWB : Hid rr.WA := Lib.hid (by rw [← HRR.out]; exact ⟨HM4.out.words, HM4.out.ab t ht⟩)
        clear hO hM HQ
        go_wp2_with fail
        refine (fq_step b p A cp nv rr _ HQ4.out HWB.out.words HWB.out.a).mono ?_
        have HG := Lib.hid (wa_next HWB.out)
        have HGO : Hid (ms.go LS.fq t = if (rr.next LS.fq).over then ((ms.setR t (rr.next LS.fq)).setH t (behindI (rr.next LS.fq).op (rr.next LS.fq).ret (ms.hold t))).setR t (zeroF (rr.next LS.fq) 0) else ms.setR t (rr.next LS.fq)) := Lib.hid (by
          unfold MV.go
          rw [HRR.out, HSK.out, if_neg Bool.false_ne_true])
        generalize rr.next LS.fq = r2 at *
        rintro e w5 ⟨rfl, hO, _, nv2, hP⟩
        have HM5 : Hid (MatchP L w0 X GL GH B p A cp k (ms.setR t r2) w5) := Lib.hid (HM4.out.ran ht (by rw [HBT.out]; exact hO) (by rw [HBT.out]; exact hP.q) HG.out.words HG.out.a)
        have HP5 := Lib.hid hP
        clear hO hP HM4 HQ4 HG HWB
        cases hov : r2.over
        · have HGE := Lib.hid (HGO.out.trans (by rw [hov, if_neg Bool.false_ne_true]))
          clear hov
          go_wp2
          go_returns
          exact ⟨rfl, by rw [HPL.out, HGE.out]; exact HM5.out⟩
        · have HGE := Lib.hid (HGO.out.trans (by rw [hov, if_pos rfl]))
          clear hov
          obtain ⟨cl2, hx2⟩ := HM5.out.x
          obtain ⟨csh2, hh2, hh3⟩ := HM5.out.h
          have y1 : w5.cell? ⟨X, 1, none⟩ = some (.slice (some ⟨GH, 0, none⟩) k k) := hx2.cell_ (i := 1) rfl
          have yh : w5.cell? ⟨GH, t, none⟩ = some (.int .i64 (ms.hold t)) := hh2.cell_ (hh3 t ht)
          have HYF := Lib.hid (hh2.frozen t)
          clear hx2 hh2 hh3
          go_upto_region 7 with (fail)
          refine wp_region_phase (n := 25) 24 (fun w => w.cell? ⟨X, 1, none⟩ = some (.slice (some ⟨GH, 0, none⟩) k k) ∧ w.cell? ⟨GH, t, none⟩ = some (.int .i64 (ms.hold t)) ∧ w.cell? ⟨b, 4, none⟩ = some (.int .i64 r2.op) ∧ w.cell? ⟨b, 13, none⟩ = some (.int .i64 r2.ret)) rfl (by kernel_rfl) ⟨y1, yh, HP5.out.row.cell_ (i := 4) rfl, HP5.out.row.cell_ (i := 13) rfl⟩ (fun hHeld => ?_)
          have HM6 := Lib.hid (HM5.out.keep (Only.refl Nil w5).drew)
          have HZF : Hid (w5.drew.frozen? ⟨GH, t, none⟩ = false) := Lib.hid HYF.out
          have HP6 := Lib.hid (HP5.out.keep (Only.refl Nil w5).drew)
          clear y1 yh HYF HM5 HP5
          generalize w5.drew = w6 at *
          refine mpa 0 rfl (Value.pointer (some ⟨X, 0, none⟩)) (fun w => ?_) ?_
          · go_simp
          (try simp only [Act.put, k1, k2, k3])
          refine mpa 1 rfl (Value.pointer (some ⟨X, 0, none⟩)) (fun w => ?_) ?_
          · go_simp
          (try simp only [Act.put, k1, k2, k3])
          refine mpa 2 rfl (.pointer (some ⟨X, 1, none⟩)) (fun w => ?_) ?_
          · go_simp
          (try simp only [Act.put, k1, k2, k3])
          refine mpt 3 rfl (.slice (some ⟨GH, 0, none⟩) k k) (fun w hSw => ?_) ?_
          · (try dsimp only at hSw)
            go_split_ands
            go_simp
          (try simp only [Act.put, k1, k2, k3])
          refine mpa 4 rfl (.int .i64 t) (fun w => ?_) ?_
          · go_simp
          (try simp only [Act.put, k1, k2, k3])
          refine mpa 5 rfl (.pointer (some ⟨b, 0, none⟩)) (fun w => ?_) ?_
          · go_simp
          (try simp only [Act.put, k1, k2, k3])
          refine mpa 6 rfl (.pointer (some ⟨b, 0, none⟩)) (fun w => ?_) ?_
          · go_simp
          (try simp only [Act.put, k1, k2, k3])
          refine mpa 7 rfl (.pointer (some ⟨b, 4, none⟩)) (fun w => ?_) ?_
          · go_simp
          (try simp only [Act.put, k1, k2, k3])
          refine mpa 8 rfl (.pointer (some ⟨b, 4, none⟩)) (fun w => ?_) ?_
          · go_simp
          (try simp only [Act.put, k1, k2, k3])
          refine mpt 9 rfl (.int .i64 r2.op) (fun w hSw => ?_) ?_
          · (try dsimp only at hSw)
            go_split_ands
            go_simp
          (try simp only [Act.put, k1, k2, k3])
          refine mpa 10 rfl (.pointer (some ⟨b, 0, none⟩)) (fun w => ?_) ?_
          · go_simp
          (try simp only [Act.put, k1, k2, k3])
          refine mpa 11 rfl (.pointer (some ⟨b, 0, none⟩)) (fun w => ?_) ?_
          · go_simp
          (try simp only [Act.put, k1, k2, k3])
          refine mpa 12 rfl (.pointer (some ⟨b, 4, none⟩)) (fun w => ?_) ?_
          · go_simp
          (try simp only [Act.put, k1, k2, k3])
          refine mpa 13 rfl (.pointer (some ⟨b, 13, none⟩)) (fun w => ?_) ?_
          · go_simp
          (try simp only [Act.put, k1, k2, k3])
          refine mpt 14 rfl (.int .i64 r2.ret) (fun w hSw => ?_) ?_
          · (try dsimp only at hSw)
            go_split_ands
            go_simp
          (try simp only [Act.put, k1, k2, k3])
          refine mpa 15 rfl (Value.pointer (some ⟨X, 0, none⟩)) (fun w => ?_) ?_
          · go_simp
          (try simp only [Act.put, k1, k2, k3])
          refine mpa 16 rfl (Value.pointer (some ⟨X, 0, none⟩)) (fun w => ?_) ?_
          · go_simp
          (try simp only [Act.put, k1, k2, k3])
          refine mpa 17 rfl (.pointer (some ⟨X, 1, none⟩)) (fun w => ?_) ?_
          · go_simp
          (try simp only [Act.put, k1, k2, k3])
          refine mpt 18 rfl (.slice (some ⟨GH, 0, none⟩) k k) (fun w hSw => ?_) ?_
          · (try dsimp only at hSw)
            go_split_ands
            go_simp
          (try simp only [Act.put, k1, k2, k3])
          refine mpa 19 rfl (.int .i64 t) (fun w => ?_) ?_
          · go_simp
          (try simp only [Act.put, k1, k2, k3])
          refine mpa 20 rfl (.pointer (some ⟨GH, t, none⟩)) (fun w => ?_) ?_
          · go_simp
          (try simp only [Act.put, k1, k2, k3])
          refine mpt 21 rfl (.int .i64 (ms.hold t)) (fun w hSw => ?_) ?_
          · (try dsimp only at hSw)
            go_split_ands
            go_simp
          (try simp only [Act.put, k1, k2, k3])
          refine mpc 22 rfl (by kernel_rfl) (by rfl) (fun K hK => ?_)
          go_simp
          refine (behind_of r2.op r2.ret (ms.hold t) _).mono ?_
          rintro e w9 ⟨rfl, rfl⟩
          refine hK.out _ _ (.inr hHeld) ?_
          clear hK K
          (try simp only [Act.put, k1, k2, k3])
          refine mpa 23 rfl (.pointer (some ⟨GH, t, none⟩)) (fun w => ?_) ?_
          · go_simp
          (try simp only [Act.put, k1, k2, k3])
          have zf : w6.frozen? ⟨GH, t, none⟩ = false := HZF.out
          have zc : w6.cell? ⟨GH, t, none⟩ = some (.int .i64 (ms.hold t)) := hHeld.2.1
          refine mpc 24 rfl (by kernel_rfl) (by rfl) (fun K hK => ?_)
          go_simp
          have HM7 := Lib.hid (HM6.out.held ht (behindI r2.op r2.ret (ms.hold t)))
          have HR7 : Hid (Row (w6.setCell ⟨GH, t, none⟩ (.int .i64 (behindI r2.op r2.ret (ms.hold t)))) b 61 (r2.cells (.pointer p) nv2)) := Lib.hid (by
            obtain ⟨cs9, h9, _⟩ := HM6.out.h
            exact HP6.out.row.far (p := ⟨GH, t, none⟩) (fun e => row_ne HP6.out.row h9 (by decide) e) _)
          refine hK.out _ _ (.inl (by kernel_rfl)) ?_
          clear hK K hHeld zf zc HM6 HZF HP6
          generalize w6.setCell ⟨GH, t, none⟩ (.int .i64 (behindI r2.op r2.ret (ms.hold t))) = w7 at *
          (try simp only [Act.put, k1, k2, k3])
          refine wpAnyP_done (by kernel_rfl) ?_ _
          have a4 : w7.cell? ⟨b, 4, none⟩ = some (.int .i64 r2.op) := HR7.out.cell_ (i := 4) rfl
          have a5 : w7.cell? ⟨b, 5, none⟩ = some (.int .i64 r2.line) := HR7.out.cell_ (i := 5) rfl
          have a6 : w7.cell? ⟨b, 6, none⟩ = some (.int .u32 r2.a) := HR7.out.cell_ (i := 6) rfl
          have a7 : w7.cell? ⟨b, 7, none⟩ = some (.int .u32 r2.b) := HR7.out.cell_ (i := 7) rfl
          have a8 : w7.cell? ⟨b, 8, none⟩ = some (.int .i64 r2.s) := HR7.out.cell_ (i := 8) rfl
          have a9 : w7.cell? ⟨b, 9, none⟩ = some (.bool r2.k.on) := HR7.out.cell_ (i := 9) rfl
          have a10 : w7.cell? ⟨b, 10, none⟩ = some (.int .i64 r2.k.c) := HR7.out.cell_ (i := 10) rfl
          have a11 : w7.cell? ⟨b, 11, none⟩ = some (.int .i64 r2.k.i) := HR7.out.cell_ (i := 11) rfl
          have a12 : w7.cell? ⟨b, 12, none⟩ = some (.bool r2.k.hit) := HR7.out.cell_ (i := 12) rfl
          have a13 : w7.cell? ⟨b, 13, none⟩ = some (.int .i64 r2.ret) := HR7.out.cell_ (i := 13) rfl
          have f4 : w7.frozen? ⟨b, 4, none⟩ = false := HR7.out.frozen 4
          have f5 : w7.frozen? ⟨b, 5, none⟩ = false := HR7.out.frozen 5
          have f6 : w7.frozen? ⟨b, 6, none⟩ = false := HR7.out.frozen 6
          have f7 : w7.frozen? ⟨b, 7, none⟩ = false := HR7.out.frozen 7
          have f8 : w7.frozen? ⟨b, 8, none⟩ = false := HR7.out.frozen 8
          have f9 : w7.frozen? ⟨b, 9, none⟩ = false := HR7.out.frozen 9
          have f10 : w7.frozen? ⟨b, 10, none⟩ = false := HR7.out.frozen 10
          have f11 : w7.frozen? ⟨b, 11, none⟩ = false := HR7.out.frozen 11
          have f12 : w7.frozen? ⟨b, 12, none⟩ = false := HR7.out.frozen 12
          have f13 : w7.frozen? ⟨b, 13, none⟩ = false := HR7.out.frozen 13
          go_wp2
          clear a4 a5 a6 a7 a8 a9 a10 a11 a12 a13 f4 f5 f6 f7 f8 f9 f10 f11 f12 f13
          go_returns
          have h8 := HM7.out.framed ht 0
          rw [HBT.out, at_setH, at_setR] at h8
          exact ⟨rfl, by rw [HPL.out, HGE.out]; exact h8⟩
      · have HSK := Lib.hid hsk
        clear hsk
        rintro e w4 ⟨rfl, hO, hM⟩
        have HM4 := Lib.hid (HM.out.same hO (by rw [← HRR.out] at hM; exact hM))
        have HGE := Lib.hid (show ms.go LS.fq t = ms by unfold MV.go; rw [HRR.out, HSK.out, if_pos rfl])
        clear hO hM HQ
        go_wp2
        go_returns
        exact ⟨rfl, by rw [HPL.out, HGE.out]; exact HM4.out⟩
  · have HPL := Lib.hid (show playI LS.fq m t op = m.go LS.fq t by unfold playI; rw [if_neg hop])
    have c4 := hc4
    clear hc4
    obtain ⟨cl, hx0⟩ := HM.out.x
    obtain ⟨csl, hl0, hl1⟩ := HM.out.l
    obtain ⟨csh, hh0, hh1⟩ := HM.out.h
    have x0 : w.cell? ⟨X, 0, none⟩ = some (.slice (some ⟨GL, 0, none⟩) k cl) := hx0.cell_ (i := 0) rfl
    have x1 : w.cell? ⟨X, 1, none⟩ = some (.slice (some ⟨GH, 0, none⟩) k k) := hx0.cell_ (i := 1) rfl
    have gl : w.cell? ⟨GL, t, none⟩ = some (.pointer (some ⟨b, 0, none⟩)) := by have e := hl0.cell_ (hl1 t ht); rw [HBT.out] at e; exact e
    have gh : w.cell? ⟨GH, t, none⟩ = some (.int .i64 (m.hold t)) := hh0.cell_ (hh1 t ht)
    have fh : w.frozen? ⟨GH, t, none⟩ = false := hh0.frozen t
    clear hx0 hl0 hl1 hh0 hh1
    go_enter Try.func13, Try.ntmps13
    go_upto_region 5 with (fail)
    clear x0 x1 gl gh fh c4 hop
    obtain ⟨nv, hq⟩ := HM.out.run t ht
    rw [HBT.out] at hq
    have HQ := Lib.hid hq
    clear hq
    generalize hrr : m.at t = rr at *
    have HRR := Lib.hid hrr
    clear hrr
    go_wp2_with (refine wp_loadR rfl 61 (.tmp 51) rfl (by rfl) HQ.out.row Try.underlying61 rfl (by kernel_rfl) ?_)
    refine (stuckL_any p A cp nv rr _ HQ.out.memo).mono ?_
    cases hsk : rr.stuck
    · have HSK := Lib.hid hsk
      clear hsk
      rintro e w4 ⟨rfl, hO, hM⟩
      have HM4 := Lib.hid (HM.out.same hO (by rw [← HRR.out] at hM; exact hM))
      have HQ4 : Hid (RunQ w4 b p A cp nv rr) := Lib.hid ⟨HQ.out.row.only hO (fun e => HQ.out.far (.inr e) rfl), hM⟩
      have HWB : Hid rr.WA := Lib.hid (by rw [← HRR.out]; exact ⟨HM4.out.words, HM4.out.ab t ht⟩)
      clear hO hM HQ
      go_wp2_with fail
      refine (fq_step b p A cp nv rr _ HQ4.out HWB.out.words HWB.out.a).mono ?_
      have HG := Lib.hid (wa_next HWB.out)
      have HGO : Hid (m.go LS.fq t = if (rr.next LS.fq).over then ((m.setR t (rr.next LS.fq)).setH t (behindI (rr.next LS.fq).op (rr.next LS.fq).ret (m.hold t))).setR t (zeroF (rr.next LS.fq) 0) else m.setR t (rr.next LS.fq)) := Lib.hid (by
        unfold MV.go
        rw [HRR.out, HSK.out, if_neg Bool.false_ne_true])
      generalize rr.next LS.fq = r2 at *
      rintro e w5 ⟨rfl, hO, _, nv2, hP⟩
      have HM5 : Hid (MatchP L w0 X GL GH B p A cp k (m.setR t r2) w5) := Lib.hid (HM4.out.ran ht (by rw [HBT.out]; exact hO) (by rw [HBT.out]; exact hP.q) HG.out.words HG.out.a)
      have HP5 := Lib.hid hP
      clear hO hP HM4 HQ4 HG HWB
      cases hov : r2.over
      · have HGE := Lib.hid (HGO.out.trans (by rw [hov, if_neg Bool.false_ne_true]))
        clear hov
        go_wp2
        go_returns
        exact ⟨rfl, by rw [HPL.out, HGE.out]; exact HM5.out⟩
      · have HGE := Lib.hid (HGO.out.trans (by rw [hov, if_pos rfl]))
        clear hov
        obtain ⟨cl2, hx2⟩ := HM5.out.x
        obtain ⟨csh2, hh2, hh3⟩ := HM5.out.h
        have y1 : w5.cell? ⟨X, 1, none⟩ = some (.slice (some ⟨GH, 0, none⟩) k k) := hx2.cell_ (i := 1) rfl
        have yh : w5.cell? ⟨GH, t, none⟩ = some (.int .i64 (m.hold t)) := hh2.cell_ (hh3 t ht)
        have HYF := Lib.hid (hh2.frozen t)
        clear hx2 hh2 hh3
        go_upto_region 7 with (fail)
        refine wp_region_phase (n := 25) 24 (fun w => w.cell? ⟨X, 1, none⟩ = some (.slice (some ⟨GH, 0, none⟩) k k) ∧ w.cell? ⟨GH, t, none⟩ = some (.int .i64 (m.hold t)) ∧ w.cell? ⟨b, 4, none⟩ = some (.int .i64 r2.op) ∧ w.cell? ⟨b, 13, none⟩ = some (.int .i64 r2.ret)) rfl (by kernel_rfl) ⟨y1, yh, HP5.out.row.cell_ (i := 4) rfl, HP5.out.row.cell_ (i := 13) rfl⟩ (fun hHeld => ?_)
        have HM6 := Lib.hid (HM5.out.keep (Only.refl Nil w5).drew)
        have HZF : Hid (w5.drew.frozen? ⟨GH, t, none⟩ = false) := Lib.hid HYF.out
        have HP6 := Lib.hid (HP5.out.keep (Only.refl Nil w5).drew)
        clear y1 yh HYF HM5 HP5
        generalize w5.drew = w6 at *
        refine mpa 0 rfl (Value.pointer (some ⟨X, 0, none⟩)) (fun w => ?_) ?_
        · go_simp
        (try simp only [Act.put, k1, k2, k3])
        refine mpa 1 rfl (Value.pointer (some ⟨X, 0, none⟩)) (fun w => ?_) ?_
        · go_simp
        (try simp only [Act.put, k1, k2, k3])
        refine mpa 2 rfl (.pointer (some ⟨X, 1, none⟩)) (fun w => ?_) ?_
        · go_simp
        (try simp only [Act.put, k1, k2, k3])
        refine mpt 3 rfl (.slice (some ⟨GH, 0, none⟩) k k) (fun w hSw => ?_) ?_
        · (try dsimp only at hSw)
          go_split_ands
          go_simp
        (try simp only [Act.put, k1, k2, k3])
        refine mpa 4 rfl (.int .i64 t) (fun w => ?_) ?_
        · go_simp
        (try simp only [Act.put, k1, k2, k3])
        refine mpa 5 rfl (.pointer (some ⟨b, 0, none⟩)) (fun w => ?_) ?_
        · go_simp
        (try simp only [Act.put, k1, k2, k3])
        refine mpa 6 rfl (.pointer (some ⟨b, 0, none⟩)) (fun w => ?_) ?_
        · go_simp
        (try simp only [Act.put, k1, k2, k3])
        refine mpa 7 rfl (.pointer (some ⟨b, 4, none⟩)) (fun w => ?_) ?_
        · go_simp
        (try simp only [Act.put, k1, k2, k3])
        refine mpa 8 rfl (.pointer (some ⟨b, 4, none⟩)) (fun w => ?_) ?_
        · go_simp
        (try simp only [Act.put, k1, k2, k3])
        refine mpt 9 rfl (.int .i64 r2.op) (fun w hSw => ?_) ?_
        · (try dsimp only at hSw)
          go_split_ands
          go_simp
        (try simp only [Act.put, k1, k2, k3])
        refine mpa 10 rfl (.pointer (some ⟨b, 0, none⟩)) (fun w => ?_) ?_
        · go_simp
        (try simp only [Act.put, k1, k2, k3])
        refine mpa 11 rfl (.pointer (some ⟨b, 0, none⟩)) (fun w => ?_) ?_
        · go_simp
        (try simp only [Act.put, k1, k2, k3])
        refine mpa 12 rfl (.pointer (some ⟨b, 4, none⟩)) (fun w => ?_) ?_
        · go_simp
        (try simp only [Act.put, k1, k2, k3])
        refine mpa 13 rfl (.pointer (some ⟨b, 13, none⟩)) (fun w => ?_) ?_
        · go_simp
        (try simp only [Act.put, k1, k2, k3])
        refine mpt 14 rfl (.int .i64 r2.ret) (fun w hSw => ?_) ?_
        · (try dsimp only at hSw)
          go_split_ands
          go_simp
        (try simp only [Act.put, k1, k2, k3])
        refine mpa 15 rfl (Value.pointer (some ⟨X, 0, none⟩)) (fun w => ?_) ?_
        · go_simp
        (try simp only [Act.put, k1, k2, k3])
        refine mpa 16 rfl (Value.pointer (some ⟨X, 0, none⟩)) (fun w => ?_) ?_
        · go_simp
        (try simp only [Act.put, k1, k2, k3])
        refine mpa 17 rfl (.pointer (some ⟨X, 1, none⟩)) (fun w => ?_) ?_
        · go_simp
        (try simp only [Act.put, k1, k2, k3])
        refine mpt 18 rfl (.slice (some ⟨GH, 0, none⟩) k k) (fun w hSw => ?_) ?_
        · (try dsimp only at hSw)
          go_split_ands
          go_simp
        (try simp only [Act.put, k1, k2, k3])
        refine mpa 19 rfl (.int .i64 t) (fun w => ?_) ?_
        · go_simp
        (try simp only [Act.put, k1, k2, k3])
        refine mpa 20 rfl (.pointer (some ⟨GH, t, none⟩)) (fun w => ?_) ?_
        · go_simp
        (try simp only [Act.put, k1, k2, k3])
        refine mpt 21 rfl (.int .i64 (m.hold t)) (fun w hSw => ?_) ?_
        · (try dsimp only at hSw)
          go_split_ands
          go_simp
        (try simp only [Act.put, k1, k2, k3])
        refine mpc 22 rfl (by kernel_rfl) (by rfl) (fun K hK => ?_)
        go_simp
        refine (behind_of r2.op r2.ret (m.hold t) _).mono ?_
        rintro e w9 ⟨rfl, rfl⟩
        refine hK.out _ _ (.inr hHeld) ?_
        clear hK K
        (try simp only [Act.put, k1, k2, k3])
        refine mpa 23 rfl (.pointer (some ⟨GH, t, none⟩)) (fun w => ?_) ?_
        · go_simp
        (try simp only [Act.put, k1, k2, k3])
        have zf : w6.frozen? ⟨GH, t, none⟩ = false := HZF.out
        have zc : w6.cell? ⟨GH, t, none⟩ = some (.int .i64 (m.hold t)) := hHeld.2.1
        refine mpc 24 rfl (by kernel_rfl) (by rfl) (fun K hK => ?_)
        go_simp
        have HM7 := Lib.hid (HM6.out.held ht (behindI r2.op r2.ret (m.hold t)))
        have HR7 : Hid (Row (w6.setCell ⟨GH, t, none⟩ (.int .i64 (behindI r2.op r2.ret (m.hold t)))) b 61 (r2.cells (.pointer p) nv2)) := Lib.hid (by
          obtain ⟨cs9, h9, _⟩ := HM6.out.h
          exact HP6.out.row.far (p := ⟨GH, t, none⟩) (fun e => row_ne HP6.out.row h9 (by decide) e) _)
        refine hK.out _ _ (.inl (by kernel_rfl)) ?_
        clear hK K hHeld zf zc HM6 HZF HP6
        generalize w6.setCell ⟨GH, t, none⟩ (.int .i64 (behindI r2.op r2.ret (m.hold t))) = w7 at *
        (try simp only [Act.put, k1, k2, k3])
        refine wpAnyP_done (by kernel_rfl) ?_ _
        have a4 : w7.cell? ⟨b, 4, none⟩ = some (.int .i64 r2.op) := HR7.out.cell_ (i := 4) rfl
        have a5 : w7.cell? ⟨b, 5, none⟩ = some (.int .i64 r2.line) := HR7.out.cell_ (i := 5) rfl
        have a6 : w7.cell? ⟨b, 6, none⟩ = some (.int .u32 r2.a) := HR7.out.cell_ (i := 6) rfl
        have a7 : w7.cell? ⟨b, 7, none⟩ = some (.int .u32 r2.b) := HR7.out.cell_ (i := 7) rfl
        have a8 : w7.cell? ⟨b, 8, none⟩ = some (.int .i64 r2.s) := HR7.out.cell_ (i := 8) rfl
        have a9 : w7.cell? ⟨b, 9, none⟩ = some (.bool r2.k.on) := HR7.out.cell_ (i := 9) rfl
        have a10 : w7.cell? ⟨b, 10, none⟩ = some (.int .i64 r2.k.c) := HR7.out.cell_ (i := 10) rfl
        have a11 : w7.cell? ⟨b, 11, none⟩ = some (.int .i64 r2.k.i) := HR7.out.cell_ (i := 11) rfl
        have a12 : w7.cell? ⟨b, 12, none⟩ = some (.bool r2.k.hit) := HR7.out.cell_ (i := 12) rfl
        have a13 : w7.cell? ⟨b, 13, none⟩ = some (.int .i64 r2.ret) := HR7.out.cell_ (i := 13) rfl
        have f4 : w7.frozen? ⟨b, 4, none⟩ = false := HR7.out.frozen 4
        have f5 : w7.frozen? ⟨b, 5, none⟩ = false := HR7.out.frozen 5
        have f6 : w7.frozen? ⟨b, 6, none⟩ = false := HR7.out.frozen 6
        have f7 : w7.frozen? ⟨b, 7, none⟩ = false := HR7.out.frozen 7
        have f8 : w7.frozen? ⟨b, 8, none⟩ = false := HR7.out.frozen 8
        have f9 : w7.frozen? ⟨b, 9, none⟩ = false := HR7.out.frozen 9
        have f10 : w7.frozen? ⟨b, 10, none⟩ = false := HR7.out.frozen 10
        have f11 : w7.frozen? ⟨b, 11, none⟩ = false := HR7.out.frozen 11
        have f12 : w7.frozen? ⟨b, 12, none⟩ = false := HR7.out.frozen 12
        have f13 : w7.frozen? ⟨b, 13, none⟩ = false := HR7.out.frozen 13
        go_wp2
        clear a4 a5 a6 a7 a8 a9 a10 a11 a12 a13 f4 f5 f6 f7 f8 f9 f10 f11 f12 f13
        go_returns
        have h8 := HM7.out.framed ht 0
        rw [HBT.out, at_setH, at_setR] at h8
        exact ⟨rfl, by rw [HPL.out, HGE.out]; exact h8⟩
    · have HSK := Lib.hid hsk
      clear hsk
      rintro e w4 ⟨rfl, hO, hM⟩
      have HM4 := Lib.hid (HM.out.same hO (by rw [← HRR.out] at hM; exact hM))
      have HGE := Lib.hid (show m.go LS.fq t = m by unfold MV.go; rw [HRR.out, HSK.out, if_pos rfl])
      clear hO hM HQ
      go_wp2
      go_returns
      exact ⟨rfl, by rw [HPL.out, HGE.out]; exact HM4.out⟩
end Go.Proofs.Ytkkldcggbekleaa
set_option linter.unusedVariables false
set_option linter.unusedSimpArgs false
namespace Go.Proofs.Ytkkldcggbekleaa
open Go.RowKit
set_option maxHeartbeats 1000000 in
theorem whole_any (L : List (Nat × TypeId × Array Value)) (w0 : World) (X GL GH : Nat) (B : Nat → Nat) (p A : Option Addr) (cp k : Nat) (m : MV) (t : Nat) (op : Int) (gx : Nat) (w : World) (h : MatchP L w0 X GL GH B p A cp k m w) (ht : t < k) (hg : (gx, 41, #[Value.pointer (some ⟨X, 0, none⟩)]) ∈ L) :
    Calls Try.prog 15 #[.int .i64 t, .int .i64 op, .pointer (some ⟨gx, 0, none⟩)] w fun e w' => e = .returned (.tuple #[]) ∧ MatchP L w0 X GL GH B p A cp k (wholeI LS.fq m t op) w' := by
  obtain ⟨b, hb⟩ : ∃ b, B t = b := ⟨_, rfl⟩
  have HBT := Lib.hid hb
  have HM := Lib.hid h
  have HG := Lib.hid hg
  clear h hb hg
  have bx : w.cell? ⟨gx, 0, none⟩ = some (Value.pointer (some ⟨X, 0, none⟩)) := (show Row w gx 41 #[Value.pointer (some ⟨X, 0, none⟩)] from HM.out.side _ HG.out).cell_ (i := 0) rfl
  go_enter Try.func15, Try.ntmps15
  go_wp2_with fail
  clear bx
  refine (play_any L w0 X GL GH B p A cp k m t op _ HM.out ht).mono ?_
  have HWI := Lib.hid (show wholeI LS.fq m t op = whileI LS.fq t 200 (playI LS.fq m t op) from rfl)
  generalize playI LS.fq m t op = m1 at *
  rintro e w1 ⟨rfl, hM⟩
  clear HM
  have HM1 := Lib.hid hM
  clear hM
  go_wp2_with fail
  go_loopw [5] (fun iv wr => ∃ i : Nat, i ≤ 200 ∧ iv = .int .i64 i ∧ ∃ m', MatchP L w0 X GL GH B p A cp k m' wr ∧ whileI LS.fq t 200 m1 = whileI LS.fq t (200 - i) m') (fun iv _ => 200 - (intOf iv).toNat)
  case atStart => exact ⟨0, Nat.zero_le _, rfl, m1, HM1.out, rfl⟩
  case round =>
    obtain ⟨i, hi, rfl, m', hM, hE⟩ := hrel
    clear HM1
    have HM := Lib.hid hM
    have HE := Lib.hid hE
    clear hM hE
    by_cases hlt : i < 200
    · have HS := Lib.hid (show whileI LS.fq t (200 - i) m' = if (m'.at t).op = 0 then m' else whileI LS.fq t (200 - (i + 1)) (playI LS.fq m' t 0) by rw [show 200 - i = (200 - (i + 1)) + 1 by omega]; rfl)
      obtain ⟨cl, hx0⟩ := HM.out.x
      obtain ⟨csl, hl0, hl1⟩ := HM.out.l
      obtain ⟨nv, hq⟩ := HM.out.run t ht
      have bx : wr.cell? ⟨gx, 0, none⟩ = some (Value.pointer (some ⟨X, 0, none⟩)) := (show Row wr gx 41 #[Value.pointer (some ⟨X, 0, none⟩)] from HM.out.side _ HG.out).cell_ (i := 0) rfl
      have x0 : wr.cell? ⟨X, 0, none⟩ = some (.slice (some ⟨GL, 0, none⟩) k cl) := hx0.cell_ (i := 0) rfl
      have gl : wr.cell? ⟨GL, t, none⟩ = some (.pointer (some ⟨b, 0, none⟩)) := by have e := hl0.cell_ (hl1 t ht); rw [HBT.out] at e; exact e
      rw [HBT.out] at hq
      have c4 : wr.cell? ⟨b, 4, none⟩ = some (.int .i64 (m'.at t).op) := hq.row.cell_ (i := 4) rfl
      clear hx0 hl0 hl1 hq
      by_cases h0 : (m'.at t).op = 0
      · rw [h0] at c4
        have HF := Lib.hid ((HE.out.trans HS.out).trans (if_pos h0))
        clear h0
        have hlt' : (i : Int) < 200 := by omega
        go_wp2
        clear bx x0 gl c4
        go_returns
        exact ⟨rfl, by rw [HWI.out, HF.out]; exact HM.out⟩
      · have h0' : ((m'.at t).op != 0) = true := bne_iff_ne.2 h0
        have HF := Lib.hid ((HE.out.trans HS.out).trans (if_neg h0))
        clear h0
        generalize (m'.at t).op = o at *
        have hlt' : (i : Int) < 200 := by omega
        go_wp2_with fail
        clear bx x0 gl c4 h0'
        refine (play_any L w0 X GL GH B p A cp k m' t 0 _ HM.out ht).mono ?_
        rintro e w2 ⟨rfl, hM⟩
        have HM2 := Lib.hid hM
        clear hM
        go_wp2
        go_roundw
        case rel => exact ⟨i + 1, by omega, by go_num, _, HM2.out, HF.out⟩
        case measure => simp [intOf]; omega
    · obtain rfl : i = 200 := by omega
      have HF := Lib.hid (show whileI LS.fq t 200 m1 = m' by rw [HE.out]; rfl)
      obtain ⟨cl, hx0⟩ := HM.out.x
      obtain ⟨csl, hl0, hl1⟩ := HM.out.l
      obtain ⟨nv, hq⟩ := HM.out.run t ht
      have bx : wr.cell? ⟨gx, 0, none⟩ = some (Value.pointer (some ⟨X, 0, none⟩)) := (show Row wr gx 41 #[Value.pointer (some ⟨X, 0, none⟩)] from HM.out.side _ HG.out).cell_ (i := 0) rfl
      have x0 : wr.cell? ⟨X, 0, none⟩ = some (.slice (some ⟨GL, 0, none⟩) k cl) := hx0.cell_ (i := 0) rfl
      have gl : wr.cell? ⟨GL, t, none⟩ = some (.pointer (some ⟨b, 0, none⟩)) := by have e := hl0.cell_ (hl1 t ht); rw [HBT.out] at e; exact e
      rw [HBT.out] at hq
      have c4 : wr.cell? ⟨b, 4, none⟩ = some (.int .i64 (m'.at t).op) := hq.row.cell_ (i := 4) rfl
      clear hx0 hl0 hl1 hq
      generalize (m'.at t).op = o at *
      go_wp2
      clear bx x0 gl c4
      go_returns
      exact ⟨rfl, by rw [HWI.out, HF.out]; exact HM.out⟩
end Go.Proofs.Ytkkldcggbekleaa
set_option linter.unusedVariables false
set_option linter.unusedSimpArgs false
namespace Go.Proofs.Ytkkldcggbekleaa
open Go.RowKit
def OwnP (base : Nat) (w : World) (v : Value) (bs : List Nat) : Prop := w.ownsRow base 62 1 v bs.length (bs.map fun b => Value.pointer (some ⟨b, 0, none⟩))
theorem infoP : (Try.prog.info? 62).map (fun i => (i.zero, i.size, i.bytes)) = some (some (.pointer none), 1, 8) := by kernel_rfl
theorem ownP_nil (base : Nat) (w : World) : OwnP base w (.slice none 0 0) [] := World.ownsRow_nil _ _ _ _
theorem ownP_tag {base : Nat} {w : World} {v : Value} {bs : List Nat} (h : OwnP base w v bs) {i : Nat} (hi : v.ownBlock = some i) : ∃ cur, Row w i 62 cur := by
  rcases h.2 with ⟨rfl, _⟩ | ⟨g, cap, cur, rfl, _, hg, _⟩
  · cases hi
  · have e : g = i := by simpa [Value.ownBlock] using hi
    subst e
    exact ⟨cur, hg⟩
theorem ownP_form {base : Nat} {w : World} {v : Value} {bs : List Nat} (h : OwnP base w v bs) : ∃ A n c, v = .slice A n c := by
  rcases h.2 with ⟨rfl, _⟩ | ⟨g, cap, cur, rfl, _⟩
  · exact ⟨none, 0, 0, rfl⟩
  · exact ⟨_, _, _, rfl⟩
theorem wp_appP {w : World} {ops : Array Oper} {rest : List Oper} {o : Oper} {a : Act} {Q : Exit → Act → World → Prop} (hgd : o.guard = none) (s x : Operand)
    (ho : o.op = .call { callee := .builtin .append, args := #[s, x], argTypes := #[47, 47] })
    (base : Nat) (v : Value) (bs : List Nat) (hs : a.eval s = v) (hown : OwnP base w v bs)
    (g nb : Nat) (hx : a.eval x = .slice (some ⟨g, 0, none⟩) 1 1) (hrow : Row w g 62 #[.pointer (some ⟨nb, 0, none⟩)])
    (h1 : bs.length ≤ 1000) (hbase : base ≤ w.heap.size)
    (h : ∀ v' w', OwnP base w' v' (bs ++ [nb]) → Only (fun k => v.ownBlock = some k) w w' → wpList Try.prog ops Q rest (a.put o.dst v') w') : wpList Try.prog ops Q (o :: rest) a w := by
  obtain ⟨i0, hi, hz0, hz1, hz2⟩ := info_parts infoP
  refine wpList_append_own w hgd s x 47 ho base 62 i0 (.pointer none) 1 8 Try.underlying47 hi hz0 hz1 hz2 rfl (by decide) v bs.length _ hs hown ⟨g, 0, none⟩ 1 1 [.pointer (some ⟨nb, 0, none⟩)] hx rfl (fun j u hj => ?_) (fun u hu => ?_) (by unfold maxLen; omega) (by omega) hbase (fun v' w' hO hG _ => ?_)
  · rw [add_at, Nat.zero_add]
    exact hrow.cell_ (by rw [← hj]; simp)
  · simp only [List.mem_cons, List.not_mem_nil, or_false] at hu
    subst hu
    rfl
  · refine h v' w' ?_ ((Only.refl _ w).grown hG (fun k hk => .inr hk))
    unfold OwnP
    rw [List.length_append, List.map_append]
    exact hO
theorem made_zero (k i : Nat) (hi : i < k) : (madeCells #[.int .i64 0] k)[i]? = some (.int .i64 0) := by
  rw [← Array.getElem?_toList, toList_madeCells_one, List.getElem?_replicate, if_pos hi]
end Go.Proofs.Ytkkldcggbekleaa
