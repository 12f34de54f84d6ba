/- TfC, TfW. -/
import Derived.Test.YtigdbokfapedcaaGreatB13
import Derived.Test.YtigdbokfapedcaaGreatB3
/- tf's lines, the program's: the closures that wait for nothing. -/
set_option linter.unusedVariables false
set_option linter.unusedSimpArgs false
namespace Go.Proofs.YtigdbokfapedcaaGreat
open Go.RowKit
section
variable {B g0 g1 g2 : Nat} {p A : Option Addr} {cp : Nat} {nv : Value} {r : LS} {w : World}
theorem turn_clo (c what : Int) (S : St w B p A cp [(g0, 99, #[Value.pointer (some ⟨B, 0, none⟩)]), (g1, 3, #[.int .i64 c]), (g2, 3, #[.int .i64 what])] 900 r w) : Calls Tryz.prog 181 #[.pointer (some ⟨g0, 0, none⟩), .pointer (some ⟨g1, 0, none⟩), .pointer (some ⟨g2, 0, none⟩)] w (Done B p A cp w (.tuple #[]) (r.turn c what)) := by
  have b0 := S.c0
  have b1 := S.rows.c1
  go_enter Tryz.func181, Tryz.ntmps181
  go_wp2_with fail
  refine sAdd S fun w S b0 => ?_
  have b2 := S.rows.c2
  go_wp2_with fail
  refine sNote S fun w S b0 => ?_
  have b1 := S.rows.c1
  go_wp2_with fail
  refine sWake S fun w S b0 => ?_
  go_wp2_with fail
  refine sEnd S fun w S b0 => ?_
  go_wp2
  go_returns
  exact S.done
theorem turn_make (c what : Int) (h : RunP w B p A cp nv r) (hl : r.ns.length ≤ 900) : Calls Tryz.prog 88 #[Value.pointer (some ⟨B, 0, none⟩), .int .i64 c, .int .i64 what] w (Clo 181 B p A cp (r.turn c what) w) := by
  obtain ⟨e, S⟩ := mk3 h hl aside_i aside_i
  have HC := Lib.hid (turn_clo c what S)
  clear S h hl 
  go_enter Tryz.func88, Tryz.ntmps88
  go_wp2
  go_ret
  exact ⟨_, rfl, e, HC.out⟩
theorem leave_clo (S : St w B p A cp [(g0, 99, #[Value.pointer (some ⟨B, 0, none⟩)])] 900 r w) : Calls Tryz.prog 183 #[.pointer (some ⟨g0, 0, none⟩)] w (Done B p A cp w (.tuple #[]) r.leave) := by
  have b0 := S.c0
  go_enter Tryz.func183, Tryz.ntmps183
  go_wp2_with fail
  refine sAdd S fun w S b0 => ?_
  go_wp2_with fail
  refine sNote S fun w S b0 => ?_
  go_wp2_with fail
  refine sWake S fun w S b0 => ?_
  go_wp2_with fail
  refine sGo S fun w S b0 => ?_
  go_wp2
  go_returns
  exact S.done
theorem leave_make (h : RunP w B p A cp nv r) (hl : r.ns.length ≤ 900) : Calls Tryz.prog 90 #[Value.pointer (some ⟨B, 0, none⟩)] w (Clo 183 B p A cp r.leave w) := by
  obtain ⟨e, S⟩ := mk1 h hl
  have HC := Lib.hid (leave_clo S)
  clear S h hl 
  go_enter Tryz.func90, Tryz.ntmps90
  go_wp2
  go_ret
  exact ⟨_, rfl, e, HC.out⟩
theorem back_clo (S : St w B p A cp [(g0, 99, #[Value.pointer (some ⟨B, 0, none⟩)])] 900 r w) : Calls Tryz.prog 188 #[.pointer (some ⟨g0, 0, none⟩)] w (Done B p A cp w (.tuple #[]) r.giveBack) := by
  have b0 := S.c0
  go_enter Tryz.func188, Tryz.ntmps188
  go_wp2_with fail
  refine sAdd S fun w S b0 => ?_
  go_wp2_with fail
  refine sEnd S fun w S b0 => ?_
  go_wp2
  go_returns
  exact S.done
theorem back_make (h : RunP w B p A cp nv r) (hl : r.ns.length ≤ 900) : Calls Tryz.prog 99 #[Value.pointer (some ⟨B, 0, none⟩)] w (Clo 188 B p A cp r.giveBack w) := by
  obtain ⟨e, S⟩ := mk1 h hl
  have HC := Lib.hid (back_clo S)
  clear S h hl 
  go_enter Tryz.func99, Tryz.ntmps99
  go_wp2
  go_ret
  exact ⟨_, rfl, e, HC.out⟩

-- what follows a claim
theorem tf_then_1 (S : St w B p A cp [(g0, 99, #[Value.pointer (some ⟨B, 0, none⟩)])] 900 r w) : Calls Tryz.prog 94 #[.pointer (some ⟨g0, 0, none⟩)] w (Done B p A cp w (.tuple #[]) ((r.note 2 1).go 3)) := by
  have b0 := S.c0
  go_enter Tryz.func94, Tryz.ntmps94
  go_wp2_with fail
  refine sNote S fun w S b0 => ?_
  go_wp2_with fail
  refine sGo S fun w S b0 => ?_
  go_wp2
  go_returns
  exact S.done
theorem tf_then_2 (S : St w B p A cp [(g0, 99, #[Value.pointer (some ⟨B, 0, none⟩)])] 900 r w) : Calls Tryz.prog 96 #[.pointer (some ⟨g0, 0, none⟩)] w (Done B p A cp w (.tuple #[]) (((r.note 2 2).note 4 0).fin true)) := by
  have b0 := S.c0
  go_enter Tryz.func96, Tryz.ntmps96
  go_wp2_with fail
  refine sNote S fun w S b0 => ?_
  go_wp2_with fail
  refine sNote S fun w S b0 => ?_
  go_wp2_with fail
  refine sEnd S fun w S b0 => ?_
  go_wp2
  go_returns
  exact S.done
theorem tf_then_3 (S : St w B p A cp [(g0, 99, #[Value.pointer (some ⟨B, 0, none⟩)])] 900 r w) : Calls Tryz.prog 98 #[.pointer (some ⟨g0, 0, none⟩)] w (Done B p A cp w (.tuple #[]) ((r.note 9 0).go 3)) := by
  have b0 := S.c0
  go_enter Tryz.func98, Tryz.ntmps98
  go_wp2_with fail
  refine sNote S fun w S b0 => ?_
  go_wp2_with fail
  refine sGo S fun w S b0 => ?_
  go_wp2
  go_returns
  exact S.done
theorem tf_enters_1 : Enters1 94 := fun args w => by simp [callFunc, go_sem, Tryz.func94, Tryz.f94]
theorem tf_enters_2 : Enters1 96 := fun args w => by simp [callFunc, go_sem, Tryz.func96, Tryz.f96]
theorem tf_enters_3 : Enters1 98 := fun args w => by simp [callFunc, go_sem, Tryz.func98, Tryz.f98]

set_option maxHeartbeats 1000000 in
theorem draw_clo (cl : Int) (S : St w B p A cp [(g0, 99, #[Value.pointer (some ⟨B, 0, none⟩)]), (g1, 3, #[.int .i64 cl])] 900 r w) : Calls Tryz.prog 178 #[.pointer (some ⟨g0, 0, none⟩), .pointer (some ⟨g1, 0, none⟩)] w (Done B p A cp w (.tuple #[]) (r.draw cl)) := by
  have b0 := S.c0
  go_enter Tryz.func178, Tryz.ntmps178
  go_upto_region 0 with (fail)
  refine wp_region_phase (n := 7) 6 (fun w => w.cell? ⟨g0, 0, none⟩ = some (Value.pointer (some ⟨B, 0, none⟩))) rfl (by kernel_rfl) b0 (fun hHeld => ?_)
  replace S := S.drew
  clear b0
  generalize w.drew = w1 at *
  refine zt 0 rfl ?_
  refine zt 1 rfl ?_
  refine mpc 2 rfl (by kernel_rfl) (by rfl) (fun K hK => ?_)
  go_simp
  refine sAdd S fun w2 S b0 => ?_
  refine hK.out _ _ (.inr b0) ?_
  clear hK K hHeld
  refine za 3 rfl ?_
  refine za 4 rfl ?_
  refine za 5 rfl ?_
  have c6 := S.c6
  have f6 := S.froz 6
  refine mpc 6 rfl (by kernel_rfl) (by rfl) (fun K hK => ?_)
  go_simp
  refine hK.out _ _ (.inl (by kernel_rfl)) ?_
  clear hK K c6 f6 b0
  replace S := S.setA (wordAt r.xs 0)
  generalize w2.setCell ⟨B, 6, none⟩ (.int .u32 (wordAt r.xs 0)) = w3 at *
  refine wpAnyP_done (by kernel_rfl) ?_ _
  have b0 := S.c0
  have b1 := S.rows.c1
  go_wp2_with fail
  refine sNote S fun w S b0 => ?_
  go_wp2_with fail
  refine sGo S fun w S b0 => ?_
  go_wp2
  go_returns
  exact S.done
theorem draw_make (cl : Int) (h : RunP w B p A cp nv r) (hl : r.ns.length ≤ 900) : Calls Tryz.prog 86 #[Value.pointer (some ⟨B, 0, none⟩), .int .i64 cl] w (Clo 178 B p A cp (r.draw cl) w) := by
  obtain ⟨e, S⟩ := mk2 h hl aside_i
  have HC := Lib.hid (draw_clo cl S)
  clear S h hl 
  go_enter Tryz.func86, Tryz.ntmps86
  go_wp2
  go_ret
  exact ⟨_, rfl, e, HC.out⟩
set_option maxHeartbeats 1000000 in
theorem look_clo (S : St w B p A cp [(g0, 99, #[Value.pointer (some ⟨B, 0, none⟩)])] 900 r w) : Calls Tryz.prog 184 #[.pointer (some ⟨g0, 0, none⟩)] w (Done B p A cp w (.tuple #[]) r.look) := by
  have b0 := S.c0
  go_enter Tryz.func184, Tryz.ntmps184
  go_upto_region 0 with (fail)
  refine wp_region_phase (n := 7) 6 (fun w => w.cell? ⟨g0, 0, none⟩ = some (Value.pointer (some ⟨B, 0, none⟩))) rfl (by kernel_rfl) b0 (fun hHeld => ?_)
  replace S := S.drew
  clear b0
  generalize w.drew = w1 at *
  refine zt 0 rfl ?_
  refine zt 1 rfl ?_
  refine mpc 2 rfl (by kernel_rfl) (by rfl) (fun K hK => ?_)
  go_simp
  refine sLoad S fun w2 S b0 => ?_
  refine hK.out _ _ (.inr b0) ?_
  clear hK K hHeld
  refine za 3 rfl ?_
  refine za 4 rfl ?_
  refine za 5 rfl ?_
  have c6 := S.c6
  have f6 := S.froz 6
  refine mpc 6 rfl (by kernel_rfl) (by rfl) (fun K hK => ?_)
  go_simp
  refine hK.out _ _ (.inl (by kernel_rfl)) ?_
  clear hK K c6 f6 b0
  replace S := S.setA (wordAt r.xs 0)
  generalize w2.setCell ⟨B, 6, none⟩ (.int .u32 (wordAt r.xs 0)) = w3 at *
  refine wpAnyP_done (by kernel_rfl) ?_ _
  have b0 := S.c0
  go_wp2_with fail
  refine sGo S fun w S b0 => ?_
  go_wp2
  go_returns
  exact S.done
theorem look_make (h : RunP w B p A cp nv r) (hl : r.ns.length ≤ 900) : Calls Tryz.prog 91 #[Value.pointer (some ⟨B, 0, none⟩)] w (Clo 184 B p A cp r.look w) := by
  obtain ⟨e, S⟩ := mk1 h hl
  have HC := Lib.hid (look_clo S)
  clear S h hl 
  go_enter Tryz.func91, Tryz.ntmps91
  go_wp2
  go_ret
  exact ⟨_, rfl, e, HC.out⟩
end
end Go.Proofs.YtigdbokfapedcaaGreat
/- tf's lines, the program's: the closures that wait, weigh and claim. -/
set_option linter.unusedVariables false
set_option linter.unusedSimpArgs false
namespace Go.Proofs.YtigdbokfapedcaaGreat
open Go.RowKit
theorem ticket_is (B gt : Nat) (a v : Int) (w : World) (hb : Row w gt 99 #[Value.pointer (some ⟨B, 0, none⟩)]) (c6 : w.cell? ⟨B, 6, none⟩ = some (.int .u32 a)) :
    Calls Tryz.prog 243 #[.int .u32 v, .pointer (some ⟨gt, 0, none⟩)] w fun e w' => e = .returned (.bool (v == a)) ∧ Only Nil w w' := by
  have b0 : w.cell? ⟨gt, 0, none⟩ = some (Value.pointer (some ⟨B, 0, none⟩)) := hb.cell_ (i := 0) rfl
  clear hb
  go_enter Tryz.func243, Tryz.ntmps243
  go_wp2
  go_ret
  exact ⟨rfl, Only.refl _ _⟩
theorem ticket_make (B : Nat) (w : World) : Calls Tryz.prog 180 #[Value.pointer (some ⟨B, 0, none⟩)] w fun e w' =>
    e = .returned (.func (.func 243) #[] #[.pointer (some ⟨w.heap.size, 0, none⟩)]) ∧ Row w' w.heap.size 99 #[Value.pointer (some ⟨B, 0, none⟩)] ∧ Only Nil w w' := by
  have HR := Lib.hid (Row.new w 99 #[Value.pointer (some ⟨B, 0, none⟩)])
  have HO := Lib.hid ((Only.refl Nil w).alloc (.cells #[Value.pointer (some ⟨B, 0, none⟩)] 99))
  go_enter Tryz.func180, Tryz.ntmps180
  go_wp2
  go_ret
  exact ⟨rfl, HR.out, HO.out⟩
theorem holds_ticket (B gt : Nat) (p A : Option Addr) (cp : Nat) (nv : Value) (r : LS) (w : World) (h : RunP w B p A cp nv r) (hb : Row w gt 99 #[Value.pointer (some ⟨B, 0, none⟩)]) : Holds A w (.func (.func 243) #[] #[.pointer (some ⟨gt, 0, none⟩)]) r.mine := by
  intro v w1 hO h0 h1
  have hb1 : Row w1 gt 99 #[Value.pointer (some ⟨B, 0, none⟩)] := h.aside hb hO.turned2 aside_p
  have hr1 : Row w1 B 102 (r.cells (.pointer p) nv) := h.row.only hO (fun e => h.far (.inr e) rfl)
  have c6 : w1.cell? ⟨B, 6, none⟩ = some (.int .u32 r.a) := hr1.cell_ (i := 6) rfl
  have HT := Lib.hid (ticket_is B gt r.a v w1 hb1 c6)
  clear h hb hO hb1 hr1 c6
  have hn := neq_fn
  go_enter_defers Tryz.func275, Tryz.ntmps275
  go_wp2_with fail
  refine HT.out.mono ?_
  rintro e w2 ⟨rfl, hO⟩
  have HO := Lib.hid hO
  clear hO HT
  have HQ := Lib.hid (show r.mine v = (v == r.a) from rfl)
  generalize hq : (v == r.a) = q at *
  clear hq
  go_wp2
  refine leaves_cons (f := 284) (args := #[]) (by simp) (by simp [go_sem]) ?_
  refine (rec_idle _).mono ?_
  rintro e u' w'' ⟨rfl, rfl, rfl⟩
  exact ⟨_, results_tmp rfl _ _ _, by rw [HQ.out]; rfl, HO.out⟩

section
variable {B g0 g1 g2 : Nat} {p A : Option Addr} {cp : Nat} {nv : Value} {r : LS} {w : World}
-- waiting
set_option maxHeartbeats 1000000 in
theorem awaitR_clo (S : St w B p A cp [(g0, 99, #[Value.pointer (some ⟨B, 0, none⟩)])] 900 r w) (hx : Words r.xs) : Calls Tryz.prog 179 #[.pointer (some ⟨g0, 0, none⟩)] w (Done B p A cp w (.tuple #[]) r.awaitR) := by
  generalize hsn : (r.stepR 1 r.mine).seen = sn
  generalize hdn : (r.stepR 1 r.mine).done = dn
  obtain ⟨r1, hr1⟩ : ∃ r1, r.wait 1 r.mine = r1 := ⟨_, rfl⟩
  have H := Lib.hid (And.intro hsn (And.intro hdn (And.intro hr1 hx)))
  have b0 := S.c0
  clear hsn hdn hr1 hx
  go_enter Tryz.func179, Tryz.ntmps179
  go_upto_region 0 with (fail)
  refine wp_region_phase (n := 9) 3 (fun w => w.cell? ⟨g0, 0, none⟩ = some (Value.pointer (some ⟨B, 0, none⟩))) rfl (by kernel_rfl) b0 (fun hHeld => ?_)
  replace S := S.drew
  clear b0
  generalize w.drew = w1 at *
  refine zt 0 rfl ?_
  refine zt 1 rfl ?_
  refine mpc 2 rfl (by kernel_rfl) (by rfl) (fun K hK => ?_)
  go_simp
  refine (ticket_make B _).mono ?_
  rintro e w2 ⟨rfl, hT, hO⟩
  replace S := S.keep hO
  generalize w1.heap.size = gt at *
  clear hO
  have b0 := S.c0
  refine hK.out _ _ (.inr b0) ?_
  clear hK K hHeld
  obtain ⟨nv, hP⟩ := S.run
  have HH := Lib.hid (holds_ticket B gt p A cp nv r _ hP hT)
  clear hP hT
  refine mpc 3 rfl (by kernel_rfl) (by rfl) (fun K hK => ?_)
  go_simp
  refine sWait S HH.out H.out.2.2.2 H.out.1 H.out.2.1 H.out.2.2.1 fun w3 S b0 => ?_
  refine hK.out _ _ (.inl (by kernel_rfl)) ?_
  clear hK K HH
  refine za 4 rfl ?_
  refine za 5 rfl ?_
  refine za 6 rfl ?_
  refine za 7 rfl ?_
  refine za 8 rfl ?_
  refine wpAnyP_done (by kernel_rfl) ?_ _
  cases dn
  · skip
    go_wp2
    go_returns
    exact S.fit (by unfold LS.awaitR; rw [H.out.2.1, H.out.2.2.1]; rfl)
  · skip
    go_wp2_with fail
    refine sGo S fun w S b0 => ?_
    go_wp2
    go_returns
    exact S.fit (by unfold LS.awaitR; rw [H.out.2.1, H.out.2.2.1]; rfl)
set_option maxHeartbeats 1000000 in
theorem awaitW_clo (S : St w B p A cp [(g0, 99, #[Value.pointer (some ⟨B, 0, none⟩)])] 900 r w) (hx : Words r.xs) : Calls Tryz.prog 182 #[.pointer (some ⟨g0, 0, none⟩)] w (Done B p A cp w (.tuple #[]) r.awaitW) := by
  generalize hsn : (r.stepR 2 r.mine).seen = sn
  generalize hdn : (r.stepR 2 r.mine).done = dn
  obtain ⟨r1, hr1⟩ : ∃ r1, r.wait 2 r.mine = r1 := ⟨_, rfl⟩
  have H := Lib.hid (And.intro hsn (And.intro hdn (And.intro hr1 hx)))
  have b0 := S.c0
  clear hsn hdn hr1 hx
  go_enter Tryz.func182, Tryz.ntmps182
  go_upto_region 0 with (fail)
  refine wp_region_phase (n := 9) 3 (fun w => w.cell? ⟨g0, 0, none⟩ = some (Value.pointer (some ⟨B, 0, none⟩))) rfl (by kernel_rfl) b0 (fun hHeld => ?_)
  replace S := S.drew
  clear b0
  generalize w.drew = w1 at *
  refine zt 0 rfl ?_
  refine zt 1 rfl ?_
  refine mpc 2 rfl (by kernel_rfl) (by rfl) (fun K hK => ?_)
  go_simp
  refine (ticket_make B _).mono ?_
  rintro e w2 ⟨rfl, hT, hO⟩
  replace S := S.keep hO
  generalize w1.heap.size = gt at *
  clear hO
  have b0 := S.c0
  refine hK.out _ _ (.inr b0) ?_
  clear hK K hHeld
  obtain ⟨nv, hP⟩ := S.run
  have HH := Lib.hid (holds_ticket B gt p A cp nv r _ hP hT)
  clear hP hT
  refine mpc 3 rfl (by kernel_rfl) (by rfl) (fun K hK => ?_)
  go_simp
  refine sWait S HH.out H.out.2.2.2 H.out.1 H.out.2.1 H.out.2.2.1 fun w3 S b0 => ?_
  refine hK.out _ _ (.inl (by kernel_rfl)) ?_
  clear hK K HH
  refine za 4 rfl ?_
  refine za 5 rfl ?_
  refine za 6 rfl ?_
  refine za 7 rfl ?_
  refine za 8 rfl ?_
  refine wpAnyP_done (by kernel_rfl) ?_ _
  cases sn
  all_goals cases dn
  · skip
    go_wp2
    go_returns
    exact S.fit (by unfold LS.awaitW; rw [H.out.1, H.out.2.1, H.out.2.2.1]; rfl)
  · skip
    go_wp2_with fail
    refine sEnd S fun w S b0 => ?_
    go_wp2
    go_returns
    exact S.fit (by unfold LS.awaitW; rw [H.out.1, H.out.2.1, H.out.2.2.1]; rfl)
  · skip
    go_wp2_with fail
    refine sNote S fun w S b0 => ?_
    go_wp2
    go_returns
    exact S.fit (by unfold LS.awaitW; rw [H.out.1, H.out.2.1, H.out.2.2.1]; rfl)
  · skip
    go_wp2_with fail
    refine sNote S fun w S b0 => ?_
    go_wp2_with fail
    refine sEnd S fun w S b0 => ?_
    go_wp2
    go_returns
    exact S.fit (by unfold LS.awaitW; rw [H.out.1, H.out.2.1, H.out.2.2.1]; rfl)
theorem awaitR_make (h : RunP w B p A cp nv r) (hl : r.ns.length ≤ 900) (hx : Words r.xs) : Calls Tryz.prog 87 #[Value.pointer (some ⟨B, 0, none⟩)] w (Clo 179 B p A cp r.awaitR w) := by
  obtain ⟨e, S⟩ := mk1 h hl
  have HC := Lib.hid (awaitR_clo S hx)
  clear S h hl hx
  go_enter Tryz.func87, Tryz.ntmps87
  go_wp2
  go_ret
  exact ⟨_, rfl, e, HC.out⟩
theorem awaitW_make (h : RunP w B p A cp nv r) (hl : r.ns.length ≤ 900) (hx : Words r.xs) : Calls Tryz.prog 89 #[Value.pointer (some ⟨B, 0, none⟩)] w (Clo 182 B p A cp r.awaitW w) := by
  obtain ⟨e, S⟩ := mk1 h hl
  have HC := Lib.hid (awaitW_clo S hx)
  clear S h hl hx
  go_enter Tryz.func89, Tryz.ntmps89
  go_wp2
  go_ret
  exact ⟨_, rfl, e, HC.out⟩

-- weighing
set_option maxHeartbeats 1000000 in
theorem weigh_clo (c own : Int) (S : St w B p A cp [(g0, 99, #[Value.pointer (some ⟨B, 0, none⟩)]), (g1, 3, #[.int .i64 c]), (g2, 3, #[.int .i64 own])] 900 r w) :
    Calls Tryz.prog 185 #[.pointer (some ⟨g0, 0, none⟩), .pointer (some ⟨g1, 0, none⟩), .pointer (some ⟨g2, 0, none⟩)] w (Done B p A cp w (.tuple #[]) (r.weigh c own)) := by
  have b0 := S.c0
  go_enter Tryz.func185, Tryz.ntmps185
  go_upto_region 0 with (fail)
  refine wp_region_phase (n := 8) 7 (fun w => w.cell? ⟨g0, 0, none⟩ = some (Value.pointer (some ⟨B, 0, none⟩)) ∧ w.cell? ⟨g1, 0, none⟩ = some (.int .i64 c)) rfl (by kernel_rfl) ⟨b0, S.rows.c1⟩ (fun hHeld => ?_)
  replace S := S.drew
  clear b0
  generalize w.drew = w1 at *
  refine zt 0 rfl ?_
  refine zt 1 rfl ?_
  refine zt 2 rfl ?_
  refine mpc 3 rfl (by kernel_rfl) (by rfl) (fun K hK => ?_)
  go_simp
  refine sLoad S fun w2 S b0 => ?_
  have b1 : w2.cell? ⟨g0, 0, none⟩ = some (Value.pointer (some ⟨B, 0, none⟩)) ∧ w2.cell? ⟨g1, 0, none⟩ = some (.int .i64 c) := ⟨b0, S.rows.c1⟩
  refine hK.out _ _ (.inr b1) ?_
  clear hK K hHeld
  refine za 4 rfl ?_
  refine za 5 rfl ?_
  refine za 6 rfl ?_
  have c7 := S.c7
  have f7 := S.froz 7
  refine mpc 7 rfl (by kernel_rfl) (by rfl) (fun K hK => ?_)
  go_simp
  refine hK.out _ _ (.inl (by kernel_rfl)) ?_
  clear hK K c7 f7 b0 b1
  replace S := S.setB (wordAt r.xs c)
  generalize w2.setCell ⟨B, 7, none⟩ (.int .u32 (wordAt r.xs c)) = w3 at *
  refine wpAnyP_done (by kernel_rfl) ?_ _
  go_upto_region 1 with (fail)
  refine wp_region_phase (n := 12) 10 (fun w => w.cell? ⟨g0, 0, none⟩ = some (Value.pointer (some ⟨B, 0, none⟩)) ∧ w.cell? ⟨B, 6, none⟩ = some (.int .u32 r.a) ∧ w.cell? ⟨B, 7, none⟩ = some (.int .u32 (wordAt r.xs c))) rfl (by kernel_rfl) ⟨S.c0, S.c6, S.c7⟩ (fun hHeld => ?_)
  replace S := S.drew
  generalize w3.drew = w4 at *
  refine zt 0 rfl ?_
  refine za 1 rfl ?_
  refine za 2 rfl ?_
  refine za 3 rfl ?_
  refine zt 4 rfl ?_
  refine zt 5 rfl ?_
  refine za 6 rfl ?_
  refine za 7 rfl ?_
  refine za 8 rfl ?_
  refine zt 9 rfl ?_
  refine mpc 10 rfl (by kernel_rfl) (by rfl) (fun K hK => ?_)
  go_simp
  refine (ahead_any r.a (wordAt r.xs c) _).mono ?_
  obtain ⟨ah, hz⟩ : ∃ ah, aheadI r.a (wordAt r.xs c) = ah := ⟨_, rfl⟩
  rw [hz]
  have H := Lib.hid hz
  clear hz
  rintro e w9 ⟨rfl, rfl⟩
  refine hK.out _ _ (.inl (by kernel_rfl)) ?_
  clear hK K hHeld
  refine za 11 rfl ?_
  refine wpAnyP_done (by kernel_rfl) ?_ _
  have b0 := S.c0
  have b2 := S.rows.c2
  by_cases h1 : own < ah
  · skip
    go_wp2_with fail
    refine sNote S fun w S b0 => ?_
    go_wp2_with fail
    refine sEnd S fun w S b0 => ?_
    go_wp2
    go_returns
    exact S.fit (by unfold LS.weigh; rw [H.out, if_pos h1])
  by_cases h2 : ah < own
  · skip
    go_wp2_with fail
    refine sGo S fun w S b0 => ?_
    go_wp2
    go_returns
    exact S.fit (by unfold LS.weigh; rw [H.out, if_neg (show ¬ own < ah by omega), if_pos h2])
  · skip
    go_wp2_with fail
    refine sGo S fun w S b0 => ?_
    go_wp2
    go_returns
    exact S.fit (by unfold LS.weigh; rw [H.out, if_neg (show ¬ own < ah by omega), if_neg (show ¬ ah < own by omega)])
theorem weigh_make (c own : Int) (h : RunP w B p A cp nv r) (hl : r.ns.length ≤ 900) : Calls Tryz.prog 92 #[Value.pointer (some ⟨B, 0, none⟩), .int .i64 c, .int .i64 own] w (Clo 185 B p A cp (r.weigh c own) w) := by
  obtain ⟨e, S⟩ := mk3 h hl aside_i aside_i
  have HC := Lib.hid (weigh_clo c own S)
  clear S h hl 
  go_enter Tryz.func92, Tryz.ntmps92
  go_wp2
  go_ret
  exact ⟨_, rfl, e, HC.out⟩

-- claiming
/-- What a claim leaves. -/
def LS.claimT (r : LS) (T : LS → LS) : LS := if r.claimed then T r.claim else r.claim.go 0
theorem tf_aside_f : Aside 1 := ⟨by decide, by decide, by decide⟩
/-- What follows a claim. -/
structure Then1 (FF : FuncId) (T : LS → LS) : Prop where
  of : ∀ {B g0 : Nat} {p A : Option Addr} {cp : Nat} {r : LS} {w : World} (S : St w B p A cp [(g0, 99, #[Value.pointer (some ⟨B, 0, none⟩)])] 900 r w), Calls Tryz.prog FF #[.pointer (some ⟨g0, 0, none⟩)] w (Done B p A cp w (.tuple #[]) (T r))
set_option maxHeartbeats 1000000 in
theorem claim_clo (FF : FuncId) (hcf : Enters1 FF) (T : LS → LS) (ht : Then1 FF T) (S : St w B p A cp [(g0, 99, #[Value.pointer (some ⟨B, 0, none⟩)]), (g1, 1, #[.func (.func FF) #[] #[.pointer (some ⟨g2, 0, none⟩)]]), (g2, 99, #[Value.pointer (some ⟨B, 0, none⟩)])] 900 r w) :
    Calls Tryz.prog 187 #[.pointer (some ⟨g0, 0, none⟩), .pointer (some ⟨g1, 0, none⟩)] w (Done B p A cp w (.tuple #[]) (r.claimT T)) := by
  have HT := Lib.hid ht
  have HCF := Lib.hid hcf
  have b0 := S.c0
  have hx1 : IntKind.u32.wrap (r.a + 1) = (r.a + 1) % 4294967296 := rfl
  clear ht hcf
  go_enter Tryz.func187, Tryz.ntmps187
  go_upto_region 0 with (fail)
  refine wp_region_phase (n := 13) 12 (fun w => w.cell? ⟨g0, 0, none⟩ = some (Value.pointer (some ⟨B, 0, none⟩)) ∧ w.cell? ⟨B, 6, none⟩ = some (.int .u32 r.a)) rfl (by kernel_rfl) ⟨b0, S.c6⟩ (fun hHeld => ?_)
  replace S := S.drew
  clear b0
  generalize w.drew = w1 at *
  refine zt 0 rfl ?_
  refine zt 1 rfl ?_
  refine za 2 rfl ?_
  refine za 3 rfl ?_
  refine za 4 rfl ?_
  refine zt 5 rfl ?_
  refine zt 6 rfl ?_
  refine za 7 rfl ?_
  refine za 8 rfl ?_
  refine za 9 rfl ?_
  refine zt 10 rfl ?_
  refine mpa 11 rfl (.int .u32 ((r.a + 1) % 4294967296)) (fun w => ?_) ?_
  · go_simp
  refine mpc 12 rfl (by kernel_rfl) (by rfl) (fun K hK => ?_)
  go_simp
  refine sCas S fun w2 S b0 => ?_
  refine hK.out _ _ (.inl (by kernel_rfl)) ?_
  clear hK K hHeld hx1
  refine wpAnyP_done (by kernel_rfl) ?_ _
  cases hz : (there r.xs 0 && (wordAt r.xs 0 == r.a))
  · skip
    have H := Lib.hid hz
    clear hz
    go_wp2_with fail
    refine sGo S fun w S b0 => ?_
    go_wp2
    go_returns
    exact S.fit (by unfold LS.claimT LS.claimed; exact ite_f H.out)
  · have b1 := S.rows.c1
    have H := Lib.hid hz
    clear hz
    have hcf : ∀ (args : Array Value) (w : World), (callFunc FF args).run Tryz.prog w = .ok (.enter FF args) w := HCF.out
    go_wp2_with fail
    clear b1 hcf
    refine S.call0 (fun nv h => HT.out.of (st_new h S.len ((rows_nil _).cons (S.rows _ (.tail _ (.tail _ (.head _))))) (asides_cons aside_p asides_nil))) (Nat.le_refl _) fun w3 S b0 => ?_
    go_wp2
    go_returns
    exact S.fit (by unfold LS.claimT LS.claimed; exact ite_t H.out)
theorem claim_make (FF : FuncId) (hcf : Enters1 FF) (T : LS → LS) (ht : Then1 FF T) {g2 : Nat} (h : RunP w B p A cp nv r) (hl : r.ns.length ≤ 900) (hb : Row w g2 99 #[Value.pointer (some ⟨B, 0, none⟩)]) :
    Calls Tryz.prog 93 #[Value.pointer (some ⟨B, 0, none⟩), .func (.func FF) #[] #[.pointer (some ⟨g2, 0, none⟩)]] w (Clo 187 B p A cp (r.claimT T) w) := by
  obtain ⟨e, S⟩ := mk2 (v1 := .func (.func FF) #[] #[.pointer (some ⟨g2, 0, none⟩)]) h hl tf_aside_f
  have HC := Lib.hid (claim_clo FF hcf T ht (g2 := g2) ⟨S.only, (rows_nil _).cons (hb.only e id) |>.cons (S.rows _ (.tail _ (.head _))) |>.cons (S.rows _ (.head _)), asides_cons aside_p (asides_cons tf_aside_f (asides_cons aside_p asides_nil)), S.run, S.len⟩)
  clear S h hl hb hcf ht
  go_enter Tryz.func93, Tryz.ntmps93
  go_wp2
  go_ret
  exact ⟨_, rfl, e, HC.out⟩
end
end Go.Proofs.YtigdbokfapedcaaGreat
