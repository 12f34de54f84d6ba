import Derived.Test.YtaeninikaalkjaaChecked
import Derived.Maps.Own
import Derived.Test.YtaeninikaalkjaaG9
import Derived.Test.YtaeninikaalkjaaG12
import Derived.Test.YtaeninikaalkjaaG1
set_option linter.unusedVariables false
set_option linter.unusedSimpArgs false
namespace Go.Proofs.Ytaeninikaalkjaa
open Go.RowKit
theorem may_any (op h : Int) (w : World) : Calls Try.prog 24 #[.int .i64 op, .int .i64 h] w fun e w' => e = .returned (.bool (mayI op h)) ∧ w = w' := by
  by_cases h0 : h = 0
  · subst h0
    have E := Lib.hid (show mayI op 0 = (op == 1 || op == 3 || op == 5 || op == 6) from rfl)
    go_enter Try.func24, Try.ntmps24
    go_wp2
    all_goals
      go_ret
      exact ⟨ret_bool (by rw [E.out]; first | done | simp_all), rfl⟩
  by_cases h1 : h = 1
  · subst h1
    have E := Lib.hid (show mayI op 1 = (op == 2 || op == 7) from rfl)
    go_enter Try.func24, Try.ntmps24
    go_wp2
    all_goals
      go_ret
      exact ⟨ret_bool (by rw [E.out]; first | done | simp_all), rfl⟩
  · have E := Lib.hid (show mayI op h = (op == 4 || op == 8) by unfold mayI; rw [if_neg h0, if_neg h1])
    go_enter Try.func24, Try.ntmps24
    go_wp2
    all_goals
      go_ret
      exact ⟨ret_bool (by rw [E.out]; first | done | simp_all), rfl⟩
theorem from_any (op h : Int) (w : World) : Calls Try.prog 25 #[.int .i64 op, .int .i64 h] w fun e w' => e = .returned (.int .i64 (fromI op h)) ∧ w = w' := by
  have hf : ∀ v, fromI op h = v → Hid (fromI op h = v) := fun _ e => Lib.hid e
  by_cases h2 : op = 2
  · subst h2
    have E := hf 0 rfl
    clear hf
    go_enter Try.func25, Try.ntmps25
    go_wp2
    go_ret
    exact ⟨ret_int (by rw [E.out]), rfl⟩
  by_cases h4 : op = 4
  · subst h4
    have E := hf 0 rfl
    clear hf
    go_enter Try.func25, Try.ntmps25
    go_wp2
    go_ret
    exact ⟨ret_int (by rw [E.out]), rfl⟩
  by_cases h8 : op = 8
  · subst h8
    have E := hf 1 rfl
    clear hf
    go_enter Try.func25, Try.ntmps25
    go_wp2
    go_ret
    exact ⟨ret_int (by rw [E.out]), rfl⟩
  · have E := hf h (by unfold fromI; rw [if_neg (by omega), if_neg h8])
    have b2 : (op == 2) = false := beq_eq_false_iff_ne.2 h2
    have b4 : (op == 4) = false := beq_eq_false_iff_ne.2 h4
    have b8 : (op == 8) = false := beq_eq_false_iff_ne.2 h8
    clear h2 h4 h8
    clear hf
    go_enter Try.func25, Try.ntmps25
    go_wp2
    go_ret
    exact ⟨ret_int (by rw [E.out]), rfl⟩
theorem behind_of (op ret h : Int) (w : World) : Calls Try.prog 27 #[.int .i64 op, .int .i64 ret, .int .i64 h] w fun e w' => e = .returned (.int .i64 (behindI op ret h)) ∧ w = w' := by
  have hf : ∀ v, behindI op ret h = v → Hid (behindI op ret h = v) := fun _ e => Lib.hid e
  by_cases hr : ret = 2
  · subst hr
    by_cases h1 : op = 1
    · subst h1
      have E := hf 1 rfl
      clear hf
      go_enter Try.func27, Try.ntmps27
      go_wp2
      go_ret
      exact ⟨ret_int (by rw [E.out]), rfl⟩
    by_cases h5 : op = 5
    · subst h5
      have E := hf 1 rfl
      clear hf
      go_enter Try.func27, Try.ntmps27
      go_wp2
      go_ret
      exact ⟨ret_int (by rw [E.out]), rfl⟩
    by_cases h3 : op = 3
    · subst h3
      have E := hf 2 rfl
      clear hf
      go_enter Try.func27, Try.ntmps27
      go_wp2
      go_ret
      exact ⟨ret_int (by rw [E.out]), rfl⟩
    by_cases h6 : op = 6
    · subst h6
      have E := hf 2 rfl
      clear hf
      go_enter Try.func27, Try.ntmps27
      go_wp2
      go_ret
      exact ⟨ret_int (by rw [E.out]), rfl⟩
    by_cases h7 : op = 7
    · subst h7
      have E := hf 2 rfl
      clear hf
      go_enter Try.func27, Try.ntmps27
      go_wp2
      go_ret
      exact ⟨ret_int (by rw [E.out]), rfl⟩
    · have E := hf h (by unfold behindI; rw [if_neg (by omega), if_neg (by omega), if_neg (by omega)])
      have b1 : (op == 1) = false := beq_eq_false_iff_ne.2 h1
      have b5 : (op == 5) = false := beq_eq_false_iff_ne.2 h5
      have b3 : (op == 3) = false := beq_eq_false_iff_ne.2 h3
      have b6 : (op == 6) = false := beq_eq_false_iff_ne.2 h6
      have b7 : (op == 7) = false := beq_eq_false_iff_ne.2 h7
      clear h1 h5 h3 h6 h7
      clear hf
      go_enter Try.func27, Try.ntmps27
      go_wp2
      go_ret
      exact ⟨ret_int (by rw [E.out]), rfl⟩
  · have E := hf h (by unfold behindI; rw [if_pos hr])
    have br : (ret == 2) = false := beq_eq_false_iff_ne.2 hr
    clear hr
    clear hf
    go_enter Try.func27, Try.ntmps27
    go_wp2
    go_ret
    exact ⟨ret_int (by rw [E.out]), rfl⟩
theorem exec_loadR {P : Program} {a : Act} {o : Oper} {ty t : TypeId} {x : Operand} {B : Nat} {w : World} {cs : Array Value} {d : TypeDesc} (ho : o.op = .load ty x) (hx : a.eval x = .pointer (some ⟨B, 0, none⟩)) (hg : Row w B t cs)
    (hu : P.underlying ty = some d) (hd : (match d with | .struct _ | .array _ _ => true | _ => false) = true) (hi : (P.info? ty).map (·.size) = some cs.size) : (execOp a.eval o).run P w = .ok (.value (.agg cs)) w := by
  have h := run_loadVar_row (P := P) w B t ty cs (0, 0) d hg hu hd hi
  unfold execOp
  simp [ho, hx, Instr.loadAt, Instr.sureAddr, h]
theorem wp_loadR {P : Program} {w : World} {ops : Array Oper} {rest : List Oper} {o : Oper} {a : Act} {Q : Exit → Act → World → Prop} (hgd : o.guard = none) (ty : TypeId) (x : Operand) (ho : o.op = .load ty x) {t : TypeId} {B : Nat} {cs : Array Value} {d : TypeDesc}
    (hx : a.eval x = .pointer (some ⟨B, 0, none⟩)) (hg : Row w B t cs) (hu : P.underlying ty = some d) (hd : (match d with | .struct _ | .array _ _ => true | _ => false) = true) (hi : (P.info? ty).map (·.size) = some cs.size)
    (h : wpList P ops Q rest (a.put o.dst (.agg cs)) w) : wpList P ops Q (o :: rest) a w := by
  refine wpList_plain hgd fun K hK => ?_
  unfold Oper.wp
  rw [exec_loadR ho hx hg hu hd hi]
  exact hK _ _ h
-- behind the beginning: the run's state is M.at t
set_option maxRecDepth 100000 in
set_option maxHeartbeats 4000000 in
theorem play_any (L : List (Nat × TypeId × Array Value)) (w0 : World) (X GL GH : Nat) (B : Nat → Nat) (p A : Option Addr) (cp k : Nat) (m : MV) (t : Nat) (op : Int) (w : World) (h : MatchP L w0 X GL GH B p A cp k m w) (ht : t < k) :
    Calls Try.prog 13 #[Value.pointer (some ⟨X, 0, none⟩), .int .i64 t, .int .i64 op] w fun e w' => e = .returned (.tuple #[]) ∧ MatchP L w0 X GL GH B p A cp k (playI LS.wf m t op) w' := by
  obtain ⟨b, hb⟩ : ∃ b, B t = b := ⟨_, rfl⟩
  have HBT := Lib.hid hb
  have HM := Lib.hid h
  clear h hb
  have hc4 : w.cell? ⟨b, 4, none⟩ = some (.int .i64 (m.at t).op) := by
    obtain ⟨nv, hq⟩ := HM.out.run t ht
    rw [HBT.out] at hq
    exact hq.row.cell_ (i := 4) rfl
  by_cases hop : (m.at t).op = 0
  · have c4 := hc4
    rw [hop] at c4
    clear hc4
    have HOP := Lib.hid hop
    clear hop
    cases hmay : mayI op (m.hold t)
    · have HMAY := Lib.hid hmay
      clear hmay
      have HPL := Lib.hid (show playI LS.wf m t op = m by unfold playI; rw [if_pos HOP.out, HMAY.out, if_neg Bool.false_ne_true])
      obtain ⟨cl, hx0⟩ := HM.out.x
      obtain ⟨csl, hl0, hl1⟩ := HM.out.l
      obtain ⟨csh, hh0, hh1⟩ := HM.out.h
      have x0 : w.cell? ⟨X, 0, none⟩ = some (.slice (some ⟨GL, 0, none⟩) k cl) := hx0.cell_ (i := 0) rfl
      have x1 : w.cell? ⟨X, 1, none⟩ = some (.slice (some ⟨GH, 0, none⟩) k k) := hx0.cell_ (i := 1) rfl
      have gl : w.cell? ⟨GL, t, none⟩ = some (.pointer (some ⟨b, 0, none⟩)) := by have e := hl0.cell_ (hl1 t ht); rw [HBT.out] at e; exact e
      have gh : w.cell? ⟨GH, t, none⟩ = some (.int .i64 (m.hold t)) := hh0.cell_ (hh1 t ht)
      have fh : w.frozen? ⟨GH, t, none⟩ = false := hh0.frozen t
      clear hx0 hl0 hl1 hh0 hh1
      go_enter Try.func13, Try.ntmps13
      go_wp2_with fail
      clear x0 x1 gl gh fh c4
      refine (may_any op (m.hold t) _).mono ?_
      rw [HMAY.out]
      rintro e w1 ⟨rfl, rfl⟩
      go_wp2
      go_returns
      exact ⟨rfl, by rw [HPL.out]; exact HM.out⟩
    · have HMAY := Lib.hid hmay
      clear hmay
      have HPL := Lib.hid (show playI LS.wf m t op = (m.start t op).go LS.wf t by unfold playI; rw [if_pos HOP.out, HMAY.out, if_pos rfl])
      obtain ⟨cl, hx0⟩ := HM.out.x
      obtain ⟨csl, hl0, hl1⟩ := HM.out.l
      obtain ⟨csh, hh0, hh1⟩ := HM.out.h
      have x0 : w.cell? ⟨X, 0, none⟩ = some (.slice (some ⟨GL, 0, none⟩) k cl) := hx0.cell_ (i := 0) rfl
      have x1 : w.cell? ⟨X, 1, none⟩ = some (.slice (some ⟨GH, 0, none⟩) k k) := hx0.cell_ (i := 1) rfl
      have gl : w.cell? ⟨GL, t, none⟩ = some (.pointer (some ⟨b, 0, none⟩)) := by have e := hl0.cell_ (hl1 t ht); rw [HBT.out] at e; exact e
      have gh : w.cell? ⟨GH, t, none⟩ = some (.int .i64 (m.hold t)) := hh0.cell_ (hh1 t ht)
      have fh : w.frozen? ⟨GH, t, none⟩ = false := hh0.frozen t
      clear hx0 hl0 hl1 hh0 hh1
      go_enter Try.func13, Try.ntmps13
      go_wp2_with fail
      clear x0 gl c4
      refine (may_any op (m.hold t) _).mono ?_
      rw [HMAY.out]
      rintro e w1 ⟨rfl, rfl⟩
      have HFH := Lib.hid fh
      clear fh
      go_upto_region 3 with (fail)
      refine wp_region_phase (n := 16) 15 (fun w => w.cell? ⟨X, 1, none⟩ = some (.slice (some ⟨GH, 0, none⟩) k k) ∧ w.cell? ⟨GH, t, none⟩ = some (.int .i64 (m.hold t))) rfl (by kernel_rfl) ⟨x1, gh⟩ (fun hHeld => ?_)
      have HM1 := Lib.hid (HM.out.keep (Only.refl Nil w).drew)
      have HZF : Hid (w.drew.frozen? ⟨GH, t, none⟩ = false) := Lib.hid HFH.out
      clear x1 gh HFH HM
      generalize w.drew = w1 at *
      refine za 0 rfl ?_
      refine za 1 rfl ?_
      refine za 2 rfl ?_
      refine zt 3 rfl ?_
      refine za 4 rfl ?_
      refine za 5 rfl ?_
      refine za 6 rfl ?_
      refine za 7 rfl ?_
      refine za 8 rfl ?_
      refine zt 9 rfl ?_
      refine za 10 rfl ?_
      refine za 11 rfl ?_
      refine zt 12 rfl ?_
      refine mpc 13 rfl (by kernel_rfl) (by rfl) (fun K hK => ?_)
      go_simp
      refine (from_any op (m.hold t) _).mono ?_
      rintro e w9 ⟨rfl, rfl⟩
      refine hK.out _ _ (.inr hHeld) ?_
      clear hK K
      refine za 14 rfl ?_
      have zf : w1.frozen? ⟨GH, t, none⟩ = false := HZF.out
      have zc : w1.cell? ⟨GH, t, none⟩ = some (.int .i64 (m.hold t)) := hHeld.2
      refine mpc 15 rfl (by kernel_rfl) (by rfl) (fun K hK => ?_)
      go_simp
      have HM2 := Lib.hid (HM1.out.held ht (fromI op (m.hold t)))
      refine hK.out _ _ (.inl (by kernel_rfl)) ?_
      clear hK K hHeld zf zc HM1 HZF
      generalize w1.setCell ⟨GH, t, none⟩ (.int .i64 (fromI op (m.hold t))) = w2 at *
      refine wpAnyP_done (by kernel_rfl) ?_ _
      obtain ⟨nv0, hq0⟩ := HM2.out.run t ht
      rw [HBT.out, at_setH] at hq0
      generalize hr0 : m.at t = r0 at *
      have HR0 := Lib.hid hr0
      clear hr0
      have a4 : w2.cell? ⟨b, 4, none⟩ = some (.int .i64 r0.op) := hq0.row.cell_ (i := 4) rfl
      have a5 : w2.cell? ⟨b, 5, none⟩ = some (.int .i64 r0.line) := hq0.row.cell_ (i := 5) rfl
      have a6 : w2.cell? ⟨b, 6, none⟩ = some (.int .u32 r0.a) := hq0.row.cell_ (i := 6) rfl
      have a7 : w2.cell? ⟨b, 7, none⟩ = some (.int .u32 r0.b) := hq0.row.cell_ (i := 7) rfl
      have a8 : w2.cell? ⟨b, 8, none⟩ = some (.int .i64 r0.s) := hq0.row.cell_ (i := 8) rfl
      have a9 : w2.cell? ⟨b, 9, none⟩ = some (.bool r0.k.on) := hq0.row.cell_ (i := 9) rfl
      have a10 : w2.cell? ⟨b, 10, none⟩ = some (.int .i64 r0.k.c) := hq0.row.cell_ (i := 10) rfl
      have a11 : w2.cell? ⟨b, 11, none⟩ = some (.int .i64 r0.k.i) := hq0.row.cell_ (i := 11) rfl
      have a12 : w2.cell? ⟨b, 12, none⟩ = some (.bool r0.k.hit) := hq0.row.cell_ (i := 12) rfl
      have a13 : w2.cell? ⟨b, 13, none⟩ = some (.int .i64 r0.ret) := hq0.row.cell_ (i := 13) rfl
      have f4 : w2.frozen? ⟨b, 4, none⟩ = false := hq0.row.frozen 4
      have f5 : w2.frozen? ⟨b, 5, none⟩ = false := hq0.row.frozen 5
      have f6 : w2.frozen? ⟨b, 6, none⟩ = false := hq0.row.frozen 6
      have f7 : w2.frozen? ⟨b, 7, none⟩ = false := hq0.row.frozen 7
      have f8 : w2.frozen? ⟨b, 8, none⟩ = false := hq0.row.frozen 8
      have f9 : w2.frozen? ⟨b, 9, none⟩ = false := hq0.row.frozen 9
      have f10 : w2.frozen? ⟨b, 10, none⟩ = false := hq0.row.frozen 10
      have f11 : w2.frozen? ⟨b, 11, none⟩ = false := hq0.row.frozen 11
      have f12 : w2.frozen? ⟨b, 12, none⟩ = false := hq0.row.frozen 12
      have f13 : w2.frozen? ⟨b, 13, none⟩ = false := hq0.row.frozen 13
      clear hq0
      go_upto_region 5 with (fail)
      clear a4 a5 a6 a7 a8 a9 a10 a11 a12 a13 f4 f5 f6 f7 f8 f9 f10 f11 f12 f13
      have h3 := HM2.out.framed ht op
      rw [HBT.out, at_setH, HR0.out] at h3
      unfold frameW at h3
      have HM := Lib.hid (show MatchP L w0 X GL GH B p A cp k (m.start t op) _ by unfold MV.start; rw [HR0.out]; exact h3)
      clear h3 HM2
      generalize (((((((((w2.setCell ⟨b, 4, none⟩ (.int .i64 op)).setCell ⟨b, 5, none⟩ (.int .i64 0)).setCell ⟨b, 6, none⟩ (.int .u32 0)).setCell ⟨b, 7, none⟩ (.int .u32 0)).setCell ⟨b, 8, none⟩ (.int .i64 0)).setCell ⟨b, 9, none⟩ (.bool false)).setCell ⟨b, 10, none⟩ (.int .i64 0)).setCell ⟨b, 11, none⟩ (.int .i64 0)).setCell ⟨b, 12, none⟩ (.bool false)).setCell ⟨b, 13, none⟩ (.int .i64 0) = w3 at *
      generalize hms : m.start t op = ms at *
      clear HR0 HOP HMAY hms
      obtain ⟨nv, hq⟩ := HM.out.run t ht
      rw [HBT.out] at hq
      have HQ := Lib.hid hq
      clear hq
      generalize hrr : ms.at t = rr at *
      have HRR := Lib.hid hrr
      clear hrr
      go_wp2_with (refine wp_loadR rfl 61 (.tmp 51) rfl (by rfl) HQ.out.row Try.underlying61 rfl (by kernel_rfl) ?_)
      refine (stuckL_any p A cp nv rr _ HQ.out.memo).mono ?_
      cases hsk : rr.stuck
      · have HSK := Lib.hid hsk
        clear hsk
        rintro e w4 ⟨rfl, hO, hM⟩
        have HM4 := Lib.hid (HM.out.same hO (by rw [← HRR.out] at hM; exact hM))
        have HQ4 : Hid (RunQ w4 b p A cp nv rr) := Lib.hid ⟨HQ.out.row.only hO (fun e => HQ.out.far (.inr e) rfl), hM⟩
        have HWB : Hid rr.WA := Lib.hid (by rw [← HRR.out]; exact ⟨HM4.out.words, HM4.out.ab t ht⟩)
        clear hO hM HQ
        go_wp2_with fail
        refine (wf_step b p A cp nv rr _ HQ4.out HWB.out.words HWB.out.a).mono ?_
        have HG := Lib.hid (wa_next HWB.out)
        have HGO : Hid (ms.go LS.wf t = if (rr.next LS.wf).over then ((ms.setR t (rr.next LS.wf)).setH t (behindI (rr.next LS.wf).op (rr.next LS.wf).ret (ms.hold t))).setR t (zeroF (rr.next LS.wf) 0) else ms.setR t (rr.next LS.wf)) := Lib.hid (by
          unfold MV.go
          rw [HRR.out, HSK.out, if_neg Bool.false_ne_true])
        generalize rr.next LS.wf = r2 at *
        rintro e w5 ⟨rfl, hO, _, nv2, hP⟩
        have HM5 : Hid (MatchP L w0 X GL GH B p A cp k (ms.setR t r2) w5) := Lib.hid (HM4.out.ran ht (by rw [HBT.out]; exact hO) (by rw [HBT.out]; exact hP.q) HG.out.words HG.out.a)
        have HP5 := Lib.hid hP
        clear hO hP HM4 HQ4 HG HWB
        cases hov : r2.over
        · have HGE := Lib.hid (HGO.out.trans (by rw [hov, if_neg Bool.false_ne_true]))
          clear hov
          go_wp2
          go_returns
          exact ⟨rfl, by rw [HPL.out, HGE.out]; exact HM5.out⟩
        · have HGE := Lib.hid (HGO.out.trans (by rw [hov, if_pos rfl]))
          clear hov
          obtain ⟨cl2, hx2⟩ := HM5.out.x
          obtain ⟨csh2, hh2, hh3⟩ := HM5.out.h
          have y1 : w5.cell? ⟨X, 1, none⟩ = some (.slice (some ⟨GH, 0, none⟩) k k) := hx2.cell_ (i := 1) rfl
          have yh : w5.cell? ⟨GH, t, none⟩ = some (.int .i64 (ms.hold t)) := hh2.cell_ (hh3 t ht)
          have HYF := Lib.hid (hh2.frozen t)
          clear hx2 hh2 hh3
          go_upto_region 7 with (fail)
          refine wp_region_phase (n := 25) 24 (fun w => w.cell? ⟨X, 1, none⟩ = some (.slice (some ⟨GH, 0, none⟩) k k) ∧ w.cell? ⟨GH, t, none⟩ = some (.int .i64 (ms.hold t)) ∧ w.cell? ⟨b, 4, none⟩ = some (.int .i64 r2.op) ∧ w.cell? ⟨b, 13, none⟩ = some (.int .i64 r2.ret)) rfl (by kernel_rfl) ⟨y1, yh, HP5.out.row.cell_ (i := 4) rfl, HP5.out.row.cell_ (i := 13) rfl⟩ (fun hHeld => ?_)
          have HM6 := Lib.hid (HM5.out.keep (Only.refl Nil w5).drew)
          have HZF : Hid (w5.drew.frozen? ⟨GH, t, none⟩ = false) := Lib.hid HYF.out
          have HP6 := Lib.hid (HP5.out.keep (Only.refl Nil w5).drew)
          clear y1 yh HYF HM5 HP5
          generalize w5.drew = w6 at *
          refine za 0 rfl ?_
          refine za 1 rfl ?_
          refine za 2 rfl ?_
          refine zt 3 rfl ?_
          refine za 4 rfl ?_
          refine za 5 rfl ?_
          refine za 6 rfl ?_
          refine za 7 rfl ?_
          refine za 8 rfl ?_
          refine zt 9 rfl ?_
          refine za 10 rfl ?_
          refine za 11 rfl ?_
          refine za 12 rfl ?_
          refine za 13 rfl ?_
          refine zt 14 rfl ?_
          refine za 15 rfl ?_
          refine za 16 rfl ?_
          refine za 17 rfl ?_
          refine zt 18 rfl ?_
          refine za 19 rfl ?_
          refine za 20 rfl ?_
          refine zt 21 rfl ?_
          refine mpc 22 rfl (by kernel_rfl) (by rfl) (fun K hK => ?_)
          go_simp
          refine (behind_of r2.op r2.ret (ms.hold t) _).mono ?_
          rintro e w9 ⟨rfl, rfl⟩
          refine hK.out _ _ (.inr hHeld) ?_
          clear hK K
          refine za 23 rfl ?_
          have zf : w6.frozen? ⟨GH, t, none⟩ = false := HZF.out
          have zc : w6.cell? ⟨GH, t, none⟩ = some (.int .i64 (ms.hold t)) := hHeld.2.1
          refine mpc 24 rfl (by kernel_rfl) (by rfl) (fun K hK => ?_)
          go_simp
          have HM7 := Lib.hid (HM6.out.held ht (behindI r2.op r2.ret (ms.hold t)))
          have HR7 : Hid (Row (w6.setCell ⟨GH, t, none⟩ (.int .i64 (behindI r2.op r2.ret (ms.hold t)))) b 61 (r2.cells (.pointer p) nv2)) := Lib.hid (by
            obtain ⟨cs9, h9, _⟩ := HM6.out.h
            exact HP6.out.row.far (p := ⟨GH, t, none⟩) (fun e => row_ne HP6.out.row h9 (by decide) e) _)
          refine hK.out _ _ (.inl (by kernel_rfl)) ?_
          clear hK K hHeld zf zc HM6 HZF HP6
          generalize w6.setCell ⟨GH, t, none⟩ (.int .i64 (behindI r2.op r2.ret (ms.hold t))) = w7 at *
          refine wpAnyP_done (by kernel_rfl) ?_ _
          have a4 : w7.cell? ⟨b, 4, none⟩ = some (.int .i64 r2.op) := HR7.out.cell_ (i := 4) rfl
          have a5 : w7.cell? ⟨b, 5, none⟩ = some (.int .i64 r2.line) := HR7.out.cell_ (i := 5) rfl
          have a6 : w7.cell? ⟨b, 6, none⟩ = some (.int .u32 r2.a) := HR7.out.cell_ (i := 6) rfl
          have a7 : w7.cell? ⟨b, 7, none⟩ = some (.int .u32 r2.b) := HR7.out.cell_ (i := 7) rfl
          have a8 : w7.cell? ⟨b, 8, none⟩ = some (.int .i64 r2.s) := HR7.out.cell_ (i := 8) rfl
          have a9 : w7.cell? ⟨b, 9, none⟩ = some (.bool r2.k.on) := HR7.out.cell_ (i := 9) rfl
          have a10 : w7.cell? ⟨b, 10, none⟩ = some (.int .i64 r2.k.c) := HR7.out.cell_ (i := 10) rfl
          have a11 : w7.cell? ⟨b, 11, none⟩ = some (.int .i64 r2.k.i) := HR7.out.cell_ (i := 11) rfl
          have a12 : w7.cell? ⟨b, 12, none⟩ = some (.bool r2.k.hit) := HR7.out.cell_ (i := 12) rfl
          have a13 : w7.cell? ⟨b, 13, none⟩ = some (.int .i64 r2.ret) := HR7.out.cell_ (i := 13) rfl
          have f4 : w7.frozen? ⟨b, 4, none⟩ = false := HR7.out.frozen 4
          have f5 : w7.frozen? ⟨b, 5, none⟩ = false := HR7.out.frozen 5
          have f6 : w7.frozen? ⟨b, 6, none⟩ = false := HR7.out.frozen 6
          have f7 : w7.frozen? ⟨b, 7, none⟩ = false := HR7.out.frozen 7
          have f8 : w7.frozen? ⟨b, 8, none⟩ = false := HR7.out.frozen 8
          have f9 : w7.frozen? ⟨b, 9, none⟩ = false := HR7.out.frozen 9
          have f10 : w7.frozen? ⟨b, 10, none⟩ = false := HR7.out.frozen 10
          have f11 : w7.frozen? ⟨b, 11, none⟩ = false := HR7.out.frozen 11
          have f12 : w7.frozen? ⟨b, 12, none⟩ = false := HR7.out.frozen 12
          have f13 : w7.frozen? ⟨b, 13, none⟩ = false := HR7.out.frozen 13
          go_wp2
          clear a4 a5 a6 a7 a8 a9 a10 a11 a12 a13 f4 f5 f6 f7 f8 f9 f10 f11 f12 f13
          go_returns
          have h8 := HM7.out.framed ht 0
          rw [HBT.out, at_setH, at_setR] at h8
          exact ⟨rfl, by rw [HPL.out, HGE.out]; exact h8⟩
      · have HSK := Lib.hid hsk
        clear hsk
        rintro e w4 ⟨rfl, hO, hM⟩
        have HM4 := Lib.hid (HM.out.same hO (by rw [← HRR.out] at hM; exact hM))
        have HGE := Lib.hid (show ms.go LS.wf t = ms by unfold MV.go; rw [HRR.out, HSK.out, if_pos rfl])
        clear hO hM HQ
        go_wp2
        go_returns
        exact ⟨rfl, by rw [HPL.out, HGE.out]; exact HM4.out⟩
  · have HPL := Lib.hid (show playI LS.wf m t op = m.go LS.wf t by unfold playI; rw [if_neg hop])
    have c4 := hc4
    clear hc4
    obtain ⟨cl, hx0⟩ := HM.out.x
    obtain ⟨csl, hl0, hl1⟩ := HM.out.l
    obtain ⟨csh, hh0, hh1⟩ := HM.out.h
    have x0 : w.cell? ⟨X, 0, none⟩ = some (.slice (some ⟨GL, 0, none⟩) k cl) := hx0.cell_ (i := 0) rfl
    have x1 : w.cell? ⟨X, 1, none⟩ = some (.slice (some ⟨GH, 0, none⟩) k k) := hx0.cell_ (i := 1) rfl
    have gl : w.cell? ⟨GL, t, none⟩ = some (.pointer (some ⟨b, 0, none⟩)) := by have e := hl0.cell_ (hl1 t ht); rw [HBT.out] at e; exact e
    have gh : w.cell? ⟨GH, t, none⟩ = some (.int .i64 (m.hold t)) := hh0.cell_ (hh1 t ht)
    have fh : w.frozen? ⟨GH, t, none⟩ = false := hh0.frozen t
    clear hx0 hl0 hl1 hh0 hh1
    go_enter Try.func13, Try.ntmps13
    go_upto_region 5 with (fail)
    clear x0 x1 gl gh fh c4 hop
    obtain ⟨nv, hq⟩ := HM.out.run t ht
    rw [HBT.out] at hq
    have HQ := Lib.hid hq
    clear hq
    generalize hrr : m.at t = rr at *
    have HRR := Lib.hid hrr
    clear hrr
    go_wp2_with (refine wp_loadR rfl 61 (.tmp 51) rfl (by rfl) HQ.out.row Try.underlying61 rfl (by kernel_rfl) ?_)
    refine (stuckL_any p A cp nv rr _ HQ.out.memo).mono ?_
    cases hsk : rr.stuck
    · have HSK := Lib.hid hsk
      clear hsk
      rintro e w4 ⟨rfl, hO, hM⟩
      have HM4 := Lib.hid (HM.out.same hO (by rw [← HRR.out] at hM; exact hM))
      have HQ4 : Hid (RunQ w4 b p A cp nv rr) := Lib.hid ⟨HQ.out.row.only hO (fun e => HQ.out.far (.inr e) rfl), hM⟩
      have HWB : Hid rr.WA := Lib.hid (by rw [← HRR.out]; exact ⟨HM4.out.words, HM4.out.ab t ht⟩)
      clear hO hM HQ
      go_wp2_with fail
      refine (wf_step b p A cp nv rr _ HQ4.out HWB.out.words HWB.out.a).mono ?_
      have HG := Lib.hid (wa_next HWB.out)
      have HGO : Hid (m.go LS.wf t = if (rr.next LS.wf).over then ((m.setR t (rr.next LS.wf)).setH t (behindI (rr.next LS.wf).op (rr.next LS.wf).ret (m.hold t))).setR t (zeroF (rr.next LS.wf) 0) else m.setR t (rr.next LS.wf)) := Lib.hid (by
        unfold MV.go
        rw [HRR.out, HSK.out, if_neg Bool.false_ne_true])
      generalize rr.next LS.wf = r2 at *
      rintro e w5 ⟨rfl, hO, _, nv2, hP⟩
      have HM5 : Hid (MatchP L w0 X GL GH B p A cp k (m.setR t r2) w5) := Lib.hid (HM4.out.ran ht (by rw [HBT.out]; exact hO) (by rw [HBT.out]; exact hP.q) HG.out.words HG.out.a)
      have HP5 := Lib.hid hP
      clear hO hP HM4 HQ4 HG HWB
      cases hov : r2.over
      · have HGE := Lib.hid (HGO.out.trans (by rw [hov, if_neg Bool.false_ne_true]))
        clear hov
        go_wp2
        go_returns
        exact ⟨rfl, by rw [HPL.out, HGE.out]; exact HM5.out⟩
      · have HGE := Lib.hid (HGO.out.trans (by rw [hov, if_pos rfl]))
        clear hov
        obtain ⟨cl2, hx2⟩ := HM5.out.x
        obtain ⟨csh2, hh2, hh3⟩ := HM5.out.h
        have y1 : w5.cell? ⟨X, 1, none⟩ = some (.slice (some ⟨GH, 0, none⟩) k k) := hx2.cell_ (i := 1) rfl
        have yh : w5.cell? ⟨GH, t, none⟩ = some (.int .i64 (m.hold t)) := hh2.cell_ (hh3 t ht)
        have HYF := Lib.hid (hh2.frozen t)
        clear hx2 hh2 hh3
        go_upto_region 7 with (fail)
        refine wp_region_phase (n := 25) 24 (fun w => w.cell? ⟨X, 1, none⟩ = some (.slice (some ⟨GH, 0, none⟩) k k) ∧ w.cell? ⟨GH, t, none⟩ = some (.int .i64 (m.hold t)) ∧ w.cell? ⟨b, 4, none⟩ = some (.int .i64 r2.op) ∧ w.cell? ⟨b, 13, none⟩ = some (.int .i64 r2.ret)) rfl (by kernel_rfl) ⟨y1, yh, HP5.out.row.cell_ (i := 4) rfl, HP5.out.row.cell_ (i := 13) rfl⟩ (fun hHeld => ?_)
        have HM6 := Lib.hid (HM5.out.keep (Only.refl Nil w5).drew)
        have HZF : Hid (w5.drew.frozen? ⟨GH, t, none⟩ = false) := Lib.hid HYF.out
        have HP6 := Lib.hid (HP5.out.keep (Only.refl Nil w5).drew)
        clear y1 yh HYF HM5 HP5
        generalize w5.drew = w6 at *
        refine za 0 rfl ?_
        refine za 1 rfl ?_
        refine za 2 rfl ?_
        refine zt 3 rfl ?_
        refine za 4 rfl ?_
        refine za 5 rfl ?_
        refine za 6 rfl ?_
        refine za 7 rfl ?_
        refine za 8 rfl ?_
        refine zt 9 rfl ?_
        refine za 10 rfl ?_
        refine za 11 rfl ?_
        refine za 12 rfl ?_
        refine za 13 rfl ?_
        refine zt 14 rfl ?_
        refine za 15 rfl ?_
        refine za 16 rfl ?_
        refine za 17 rfl ?_
        refine zt 18 rfl ?_
        refine za 19 rfl ?_
        refine za 20 rfl ?_
        refine zt 21 rfl ?_
        refine mpc 22 rfl (by kernel_rfl) (by rfl) (fun K hK => ?_)
        go_simp
        refine (behind_of r2.op r2.ret (m.hold t) _).mono ?_
        rintro e w9 ⟨rfl, rfl⟩
        refine hK.out _ _ (.inr hHeld) ?_
        clear hK K
        refine za 23 rfl ?_
        have zf : w6.frozen? ⟨GH, t, none⟩ = false := HZF.out
        have zc : w6.cell? ⟨GH, t, none⟩ = some (.int .i64 (m.hold t)) := hHeld.2.1
        refine mpc 24 rfl (by kernel_rfl) (by rfl) (fun K hK => ?_)
        go_simp
        have HM7 := Lib.hid (HM6.out.held ht (behindI r2.op r2.ret (m.hold t)))
        have HR7 : Hid (Row (w6.setCell ⟨GH, t, none⟩ (.int .i64 (behindI r2.op r2.ret (m.hold t)))) b 61 (r2.cells (.pointer p) nv2)) := Lib.hid (by
          obtain ⟨cs9, h9, _⟩ := HM6.out.h
          exact HP6.out.row.far (p := ⟨GH, t, none⟩) (fun e => row_ne HP6.out.row h9 (by decide) e) _)
        refine hK.out _ _ (.inl (by kernel_rfl)) ?_
        clear hK K hHeld zf zc HM6 HZF HP6
        generalize w6.setCell ⟨GH, t, none⟩ (.int .i64 (behindI r2.op r2.ret (m.hold t))) = w7 at *
        refine wpAnyP_done (by kernel_rfl) ?_ _
        have a4 : w7.cell? ⟨b, 4, none⟩ = some (.int .i64 r2.op) := HR7.out.cell_ (i := 4) rfl
        have a5 : w7.cell? ⟨b, 5, none⟩ = some (.int .i64 r2.line) := HR7.out.cell_ (i := 5) rfl
        have a6 : w7.cell? ⟨b, 6, none⟩ = some (.int .u32 r2.a) := HR7.out.cell_ (i := 6) rfl
        have a7 : w7.cell? ⟨b, 7, none⟩ = some (.int .u32 r2.b) := HR7.out.cell_ (i := 7) rfl
        have a8 : w7.cell? ⟨b, 8, none⟩ = some (.int .i64 r2.s) := HR7.out.cell_ (i := 8) rfl
        have a9 : w7.cell? ⟨b, 9, none⟩ = some (.bool r2.k.on) := HR7.out.cell_ (i := 9) rfl
        have a10 : w7.cell? ⟨b, 10, none⟩ = some (.int .i64 r2.k.c) := HR7.out.cell_ (i := 10) rfl
        have a11 : w7.cell? ⟨b, 11, none⟩ = some (.int .i64 r2.k.i) := HR7.out.cell_ (i := 11) rfl
        have a12 : w7.cell? ⟨b, 12, none⟩ = some (.bool r2.k.hit) := HR7.out.cell_ (i := 12) rfl
        have a13 : w7.cell? ⟨b, 13, none⟩ = some (.int .i64 r2.ret) := HR7.out.cell_ (i := 13) rfl
        have f4 : w7.frozen? ⟨b, 4, none⟩ = false := HR7.out.frozen 4
        have f5 : w7.frozen? ⟨b, 5, none⟩ = false := HR7.out.frozen 5
        have f6 : w7.frozen? ⟨b, 6, none⟩ = false := HR7.out.frozen 6
        have f7 : w7.frozen? ⟨b, 7, none⟩ = false := HR7.out.frozen 7
        have f8 : w7.frozen? ⟨b, 8, none⟩ = false := HR7.out.frozen 8
        have f9 : w7.frozen? ⟨b, 9, none⟩ = false := HR7.out.frozen 9
        have f10 : w7.frozen? ⟨b, 10, none⟩ = false := HR7.out.frozen 10
        have f11 : w7.frozen? ⟨b, 11, none⟩ = false := HR7.out.frozen 11
        have f12 : w7.frozen? ⟨b, 12, none⟩ = false := HR7.out.frozen 12
        have f13 : w7.frozen? ⟨b, 13, none⟩ = false := HR7.out.frozen 13
        go_wp2
        clear a4 a5 a6 a7 a8 a9 a10 a11 a12 a13 f4 f5 f6 f7 f8 f9 f10 f11 f12 f13
        go_returns
        have h8 := HM7.out.framed ht 0
        rw [HBT.out, at_setH, at_setR] at h8
        exact ⟨rfl, by rw [HPL.out, HGE.out]; exact h8⟩
    · have HSK := Lib.hid hsk
      clear hsk
      rintro e w4 ⟨rfl, hO, hM⟩
      have HM4 := Lib.hid (HM.out.same hO (by rw [← HRR.out] at hM; exact hM))
      have HGE := Lib.hid (show m.go LS.wf t = m by unfold MV.go; rw [HRR.out, HSK.out, if_pos rfl])
      clear hO hM HQ
      go_wp2
      go_returns
      exact ⟨rfl, by rw [HPL.out, HGE.out]; exact HM4.out⟩
end Go.Proofs.Ytaeninikaalkjaa
set_option linter.unusedVariables false
set_option linter.unusedSimpArgs false
namespace Go.Proofs.Ytaeninikaalkjaa
open Go.RowKit
theorem new_yes (n : Int) (w : World) (hn : 1 ≤ n ∧ n ≤ 64) :
    Calls Try.prog 17 #[.int .i64 n] w fun e w' => e = .returned (.tuple #[.agg #[.int .i64 n], .int .i64 0]) ∧ Only Nil w w' := by
  have HK := Lib.hid (okN_yes hn)
  clear hn
  go_enter Try.func17, Try.ntmps17
  go_wp2_with fail
  refine (isCount_any n _).mono ?_
  rw [HK.out]
  rintro e w1 ⟨rfl, rfl⟩
  go_wp2
  exact bodyPost_ret (v := .tuple #[.agg #[.int .i64 n], .int .i64 0]) (by simp [results, Try.results17, go_sem]) rfl ⟨rfl, by (repeat' (first | (with_reducible exact Only.refl _ _) | (with_reducible assumption) | (with_reducible refine Only.setCell ?_ ?_ _) | (with_reducible refine Only.drewN ?_ _) | (with_reducible refine Only.drew ?_) | (with_reducible refine Only.alloc ?_ _) | (left; simp; done) | (left; simp; omega) | (right; rfl)))⟩
end Go.Proofs.Ytaeninikaalkjaa
set_option linter.unusedVariables false
set_option linter.unusedSimpArgs false
namespace Go.Proofs.Ytaeninikaalkjaa
open Go.RowKit
theorem size_any (n : Int) (w : World) :
    Calls Try.prog 18 #[.agg #[.int .i64 n]] w fun e w' => e = .returned (.int .i64 (sizeI n)) ∧ Only Nil w w' := by
  by_cases hn : 1 ≤ n ∧ n ≤ 64
  · have hc : sizeI n = 8 + 4 * n := if_pos hn
    rw [hc]
    clear hc
    have HK := Lib.hid (okN_yes hn)
    obtain ⟨n1, n2⟩ := hn
    go_enter Try.func18, Try.ntmps18
    go_wp2_with fail
    refine (isCount_any n _).mono ?_
    rw [HK.out]
    rintro e w1 ⟨rfl, rfl⟩
    go_wp2
    go_ret
    exact ⟨rfl, by (repeat' (first | (with_reducible exact Only.refl _ _) | (with_reducible assumption) | (with_reducible refine Only.setCell ?_ ?_ _) | (with_reducible refine Only.drewN ?_ _) | (with_reducible refine Only.drew ?_) | (with_reducible refine Only.alloc ?_ _) | (left; simp; done) | (left; simp; omega) | (right; rfl)))⟩
  · have hc : sizeI n = 0 := if_neg hn
    rw [hc]
    clear hc
    have HK := Lib.hid (okN_no hn)
    clear hn
    go_enter Try.func18, Try.ntmps18
    go_wp2_with fail
    refine (isCount_any n _).mono ?_
    rw [HK.out]
    rintro e w1 ⟨rfl, rfl⟩
    go_wp2
    go_ret
    exact ⟨rfl, by (repeat' (first | (with_reducible exact Only.refl _ _) | (with_reducible assumption) | (with_reducible refine Only.setCell ?_ ?_ _) | (with_reducible refine Only.drewN ?_ _) | (with_reducible refine Only.drew ?_) | (with_reducible refine Only.alloc ?_ _) | (left; simp; done) | (left; simp; omega) | (right; rfl)))⟩
end Go.Proofs.Ytaeninikaalkjaa
namespace Go.Proofs.Ytaeninikaalkjaa
open Go.RowKit
def names1 : Array Value := #[.string ⟨#[117, 115, 101, 114, 115]⟩, .string ⟨#[114, 101, 97, 100, 115]⟩, .string ⟨#[119, 114, 105, 116, 101, 115]⟩]
def names2 : Array Value := #[.string ⟨#[114, 105, 110]⟩, .string ⟨#[114, 111, 117, 116]⟩, .string ⟨#[119, 105, 110]⟩, .string ⟨#[119, 111, 117, 116]⟩, .string ⟨#[112, 104, 97, 115, 101]⟩]
def names3 : Array Value := #[.string ⟨#[114, 105, 110]⟩, .string ⟨#[114, 111, 117, 116]⟩, .string ⟨#[116, 97, 105, 108]⟩, .string ⟨#[112, 104, 97, 115, 101]⟩]
def names4 : Array Value := #[.string ⟨#[116, 97, 105, 108]⟩, .string ⟨#[99, 111, 117, 110, 116]⟩]
def names5 : Array Value := #[.string ⟨#[119, 111, 114, 100]⟩]
def names6 : Array Value := #[.string ⟨#[119, 111, 114, 100]⟩]
def ownV (k : Int) : Array Value := if k = 1 then names1 else if k = 2 then names2 else if k = 3 then names3 else if k = 4 then names4 else if k = 5 then names5 else if k = 6 then names6 else #[]
theorem kinds {k : Int} (h : 1 ≤ k ∧ k ≤ 6) : k = 1 ∨ k = 2 ∨ k = 3 ∨ k = 4 ∨ k = 5 ∨ k = 6 := by omega
theorem name_at (k : Int) (hk : 1 ≤ k ∧ k ≤ 6) (c : Nat) (hc : c < (ownV k).size) : ∃ s, (ownV k)[c]? = some (.string s) := by
  rcases kinds hk with rfl | rfl | rfl | rfl | rfl | rfl
  · rcases (show c = 0 ∨ c = 1 ∨ c = 2 by have : c < 3 := hc; omega) with rfl | rfl | rfl <;> exact ⟨_, rfl⟩
  · rcases (show c = 0 ∨ c = 1 ∨ c = 2 ∨ c = 3 ∨ c = 4 by have : c < 5 := hc; omega) with rfl | rfl | rfl | rfl | rfl <;> exact ⟨_, rfl⟩
  · rcases (show c = 0 ∨ c = 1 ∨ c = 2 ∨ c = 3 by have : c < 4 := hc; omega) with rfl | rfl | rfl | rfl <;> exact ⟨_, rfl⟩
  · rcases (show c = 0 ∨ c = 1 by have : c < 2 := hc; omega) with rfl | rfl <;> exact ⟨_, rfl⟩
  · rcases (show c = 0 by have : c < 1 := hc; omega) with rfl; exact ⟨_, rfl⟩
  · rcases (show c = 0 by have : c < 1 := hc; omega) with rfl; exact ⟨_, rfl⟩
theorem own_size (k : Int) (hk : 1 ≤ k ∧ k ≤ 6) : 1 ≤ (ownV k).size ∧ (ownV k).size ≤ 5 := by
  rcases kinds hk with rfl | rfl | rfl | rfl | rfl | rfl <;> exact ⟨by decide, by decide⟩
def NamesAt (k : Int) (w : World) (e : Ending) (w' : World) : Prop :=
  ∃ g, e = .returned (.slice (some ⟨g, 0, none⟩) (ownV k).size (ownV k).size) ∧ w.heap.size ≤ g ∧ Row w' g 9 (ownV k) ∧ Only Nil w w'
def asIs (v : Value) : Option (DataW Value × List MemPlace) := some (.held v, [])
abbrev key (k : Int) : Lit := .int .i64 k
theorem hkeyOf (n : Int) (h : (Lit.int .i64 n).wf = true) : keyOf Try.prog 3 (.int .i64 n) = some (key n) := Maps.keyOf_int_mk Try.underlying3 h
theorem put_list {w : World} {B n : Nat} {D : DataW Value} (h : w.ownsMap Try.prog 3 asIs B n D) (hn : n < 100) (q : Int) (hq : (Lit.int .i64 q).wf = true) (cs : Array Value) (m : Nat) (g : Nat) (hg0 : w.heap.size = g) :
    ∃ w', (Instr.mapUpdate 82 (.map (some B)) (.int .i64 q) (.slice (some ⟨g, 0, none⟩) m m)).run Try.prog (w.alloc (.cells cs 9)) = .ok () w' ∧
      w'.ownsMap Try.prog 3 asIs B (n + 1) (D.put (key q) (.held (.slice (some ⟨g, 0, none⟩) m m))) ∧ Row w' g 9 cs ∧ g < w'.heap.size ∧ Only (fun i => i = B) w w' := by
  subst hg0
  obtain ⟨w', hrun, ho, hg⟩ := (h.alloc (.cells cs 9)).update (Maps.int_keyed Try.underlying3) Try.underlying82 (by unfold maxLen; omega) (hkeyOf q hq) (d := .held (.slice (some ⟨w.heap.size, 0, none⟩) m m)) (ps := []) rfl
  have hlt := h.lt
  have hsz := hg.size
  refine ⟨w', hrun, ho, ?_, by simp at hsz; omega, ((Only.refl _ _).alloc _).grown hg (fun k hk => by injection hk with hk; right; exact hk.symm)⟩
  exact (hg.block w.heap.size (by simp) (by simp; omega)).trans (Row.new w _ _)
theorem zero_list (w : World) : (zeroValue 65).run Try.prog w = .ok (.slice none 0 0) w := by kernel_rfl
def six (v1 v2 v3 v4 v5 v6 : Value) : DataW Value := ((((((DataW.map []).put (key 1) (.held v1)).put (key 2) (.held v2)).put (key 3) (.held v3)).put (key 4) (.held v4)).put (key 5) (.held v5)).put (key 6) (.held v6)
theorem six_is (v1 v2 v3 v4 v5 v6 : Value) : six v1 v2 v3 v4 v5 v6 = .map [(key 1, .held v1), (key 2, .held v2), (key 3, .held v3), (key 4, .held v4), (key 5, .held v5), (key 6, .held v6)] := by
  simp [six, DataW.put, DataW.insert, Lit.before, Lit.sameKey, key]
def pickV (k : Int) (v1 v2 v3 v4 v5 v6 : Value) : Value := if k = 1 then v1 else if k = 2 then v2 else if k = 3 then v3 else if k = 4 then v4 else if k = 5 then v5 else if k = 6 then v6 else .slice none 0 0
theorem six_at (k : Int) (v1 v2 v3 v4 v5 v6 : Value) : (six v1 v2 v3 v4 v5 v6).atKey (key k) (.held (.slice none 0 0)) = .held (pickV k v1 v2 v3 v4 v5 v6) := by
  rw [six_is]
  by_cases hk : 1 ≤ k ∧ k ≤ 6
  · rcases kinds hk with rfl | rfl | rfl | rfl | rfl | rfl <;> simp [DataW.atKey, pickV, Lit.sameKey, key]
  · have h1 : ¬ 1 = k := by omega
    have h2 : ¬ 2 = k := by omega
    have h3 : ¬ 3 = k := by omega
    have h4 : ¬ 4 = k := by omega
    have h5 : ¬ 5 = k := by omega
    have h6 : ¬ 6 = k := by omega
    simp [DataW.atKey, pickV, Lit.sameKey, key, h1, h2, h3, h4, h5, h6, Ne.symm h1, Ne.symm h2, Ne.symm h3, Ne.symm h4, Ne.symm h5, Ne.symm h6]
theorem get_list {w : World} {B n : Nat} {v1 v2 v3 v4 v5 v6 : Value} (h : w.ownsMap Try.prog 3 asIs B n (six v1 v2 v3 v4 v5 v6)) (k : Int) (hk : (Lit.int .i64 k).wf = true) :
    (Instr.lookup 82 (.map (some B)) (.int .i64 k) false).run Try.prog w = .ok (pickV k v1 v2 v3 v4 v5 v6) w := by
  obtain ⟨v, ps, hrun, hv⟩ := h.lookup (Maps.int_keyed Try.underlying3) Try.underlying82 (zero_list w) (zd := .held (.slice none 0 0)) (zp := []) rfl (hkeyOf k hk)
  rw [six_at] at hv
  simp only [asIs, Option.some.injEq, Prod.mk.injEq, DataW.held.injEq] at hv
  rw [hrun, hv.1]
def NamesIn (k : Int) (w : World) (e : Ending) (w' : World) : Prop :=
  ∃ g1 g2 g3 g4 g5 g6, e = .returned (pickV k (.slice (some ⟨g1, 0, none⟩) 3 3) (.slice (some ⟨g2, 0, none⟩) 5 5) (.slice (some ⟨g3, 0, none⟩) 4 4) (.slice (some ⟨g4, 0, none⟩) 2 2) (.slice (some ⟨g5, 0, none⟩) 1 1) (.slice (some ⟨g6, 0, none⟩) 1 1)) ∧
    w.heap.size ≤ g1 ∧ w.heap.size ≤ g2 ∧ w.heap.size ≤ g3 ∧ w.heap.size ≤ g4 ∧ w.heap.size ≤ g5 ∧ w.heap.size ≤ g6 ∧
    Row w' g1 9 names1 ∧ Row w' g2 9 names2 ∧ Row w' g3 9 names3 ∧ Row w' g4 9 names4 ∧ Row w' g5 9 names5 ∧ Row w' g6 9 names6 ∧ Only Nil w w'
set_option maxRecDepth 100000 in
set_option maxHeartbeats 1000000 in
theorem ownNames_in (k : Int) (w : World) (hk : (Lit.int .i64 k).wf = true) : Calls Try.prog 16 #[.int .i64 k] w (NamesIn k w) := by
  have HK := Lib.hid hk
  clear hk
  have hmm := @run_makeMap Try.prog
  have HO0 := Lib.hid (World.ownsMap_made w Try.prog 3 asIs)
  go_enter Try.func16, Try.ntmps16
  go_wp2_with fail
  obtain ⟨wx1, hrun, ho, hR, hz, hO⟩ := put_list HO0.out (by omega) 1 rfl names1 3 (w.heap.size+1) (by simp)
  unfold names1 at hrun
  rw [hrun]
  have HO1 := Lib.hid ho
  have HR1 := Lib.hid hR
  have HZ1 := Lib.hid hz
  have HL1 := Lib.hid hO
  clear hrun ho hR hz hO
  go_wp2_with fail
  obtain ⟨wx2, hrun, ho, hR, hz, hO⟩ := put_list HO1.out (by omega) 2 rfl names2 5 wx1.heap.size (by simp)
  unfold names2 at hrun
  rw [hrun]
  have HO2 := Lib.hid ho
  have HR2 := Lib.hid hR
  have HZ2 := Lib.hid hz
  have HL2 := Lib.hid hO
  clear hrun ho hR hz hO
  go_wp2_with fail
  obtain ⟨wx3, hrun, ho, hR, hz, hO⟩ := put_list HO2.out (by omega) 3 rfl names3 4 wx2.heap.size (by simp)
  unfold names3 at hrun
  rw [hrun]
  have HO3 := Lib.hid ho
  have HR3 := Lib.hid hR
  have HZ3 := Lib.hid hz
  have HL3 := Lib.hid hO
  clear hrun ho hR hz hO
  go_wp2_with fail
  obtain ⟨wx4, hrun, ho, hR, hz, hO⟩ := put_list HO3.out (by omega) 4 rfl names4 2 wx3.heap.size (by simp)
  unfold names4 at hrun
  rw [hrun]
  have HO4 := Lib.hid ho
  have HR4 := Lib.hid hR
  have HZ4 := Lib.hid hz
  have HL4 := Lib.hid hO
  clear hrun ho hR hz hO
  go_wp2_with fail
  obtain ⟨wx5, hrun, ho, hR, hz, hO⟩ := put_list HO4.out (by omega) 5 rfl names5 1 wx4.heap.size (by simp)
  unfold names5 at hrun
  rw [hrun]
  have HO5 := Lib.hid ho
  have HR5 := Lib.hid hR
  have HZ5 := Lib.hid hz
  have HL5 := Lib.hid hO
  clear hrun ho hR hz hO
  go_wp2_with fail
  obtain ⟨wx6, hrun, ho, hR, hz, hO⟩ := put_list HO5.out (by omega) 6 rfl names6 1 wx5.heap.size (by simp)
  unfold names6 at hrun
  rw [hrun]
  have HO6 := Lib.hid ho
  have HR6 := Lib.hid hR
  have HZ6 := Lib.hid hz
  have HL6 := Lib.hid hO
  clear hrun ho hR hz hO
  have hs1 : w.heap.size + 1 < wx1.heap.size := HZ1.out
  have HS1 := Lib.hid hs1
  clear hs1
  have HGET := Lib.hid (get_list HO6.out k HK.out)
  have hget := HGET.out
  go_wp2
  go_ret
  have l2 := HL2.out
  have l3 := HL3.out
  have l4 := HL4.out
  have l5 := HL5.out
  have l6 := HL6.out
  have z1 := HS1.out
  have z2 := l2.size
  have z3 := l3.size
  have z4 := l4.size
  have z5 := l5.size
  have hq := HL1.out
  have q0 : Only Nil w (w.alloc (.map #[] 0)) := (Only.refl _ _).alloc _
  have q1 : Only Nil w wx6 := (((((q0.step hq (fun i hi h => by omega)).step l2 (fun i hi h => by omega)).step l3 (fun i hi h => by omega)).step l4 (fun i hi h => by omega)).step l5 (fun i hi h => by omega)).step l6 (fun i hi h => by omega)
  exact ⟨_, _, _, _, _, _, rfl, by omega, by omega, by omega, by omega, by omega, by omega,
    ((((HR1.out.only l2 (by omega)).only l3 (by omega)).only l4 (by omega)).only l5 (by omega)).only l6 (by omega),
    (((HR2.out.only l3 (by omega)).only l4 (by omega)).only l5 (by omega)).only l6 (by omega),
    ((HR3.out.only l4 (by omega)).only l5 (by omega)).only l6 (by omega),
    (HR4.out.only l5 (by omega)).only l6 (by omega), HR5.out.only l6 (by omega), HR6.out, q1⟩
theorem ownNames_yes (k : Int) (w : World) (hk : 1 ≤ k ∧ k ≤ 6) : Calls Try.prog 16 #[.int .i64 k] w (NamesAt k w) := by
  have hwf : (Lit.int .i64 k).wf = true := by rcases kinds hk with rfl | rfl | rfl | rfl | rfl | rfl <;> rfl
  refine (ownNames_in k w hwf).mono fun e w' ⟨g1, g2, g3, g4, g5, g6, he, b1, b2, b3, b4, b5, b6, r1, r2, r3, r4, r5, r6, hO⟩ => ?_
  rcases kinds hk with rfl | rfl | rfl | rfl | rfl | rfl
  · exact ⟨g1, he, b1, r1, hO⟩
  · exact ⟨g2, he, b2, r2, hO⟩
  · exact ⟨g3, he, b3, r3, hO⟩
  · exact ⟨g4, he, b4, r4, hO⟩
  · exact ⟨g5, he, b5, r5, hO⟩
  · exact ⟨g6, he, b6, r6, hO⟩
end Go.Proofs.Ytaeninikaalkjaa
