/- WdStep. -/
import Derived.Test.YtigdbokfapedcaaGreatB9
import Derived.Test.YtigdbokfapedcaaGreatB13
import Derived.Test.YtigdbokfapedcaaGreatB26
import Derived.Test.YtigdbokfapedcaaGreatB30
import Derived.Test.YtigdbokfapedcaaGreatB34
import Derived.Test.YtigdbokfapedcaaGreatB41
import Derived.Test.YtigdbokfapedcaaGreatB44
import Derived.Test.YtigdbokfapedcaaGreatB48
import Derived.Test.YtigdbokfapedcaaGreatB15
/- A step of a task's operation, the program's. -/
set_option linter.unusedVariables false
set_option linter.unusedSimpArgs false
namespace Go.Proofs.YtigdbokfapedcaaGreat
open Go.RowKit
/-- A step of a run by a kind's lines. -/
theorem kind_step (kind : Int) (hk : 1 ≤ kind ∧ kind ≤ 6) (B : Nat) (p A : Option Addr) (cp : Nat) (nv : Value) (r : LS) (w : World) (h : RunQ w B p A cp nv r) (hx : Words r.xs) (ha : Wrd r.a) (hb : Wrd r.b) :
    Calls Tryz.prog 164 #[.pointer (some ⟨B, 0, none⟩), linesF kind] w (Stepd B p A cp (r.next (linesI kind)) (TurnB B A) (fun _ => True) w) := by
  have hc : kind = 1 ∨ kind = 2 ∨ kind = 3 ∨ kind = 4 ∨ kind = 5 ∨ kind = 6 := by omega
  rcases hc with rfl | rfl | rfl | rfl | rfl | rfl
  · exact tf_step B p A cp nv r w h hx
  · exact pf_step B p A cp nv r w h hx ha hb
  · exact pq_step B p A cp nv r w h hx ha hb
  · exact fq_step B p A cp nv r w h hx ha
  · exact rf_step B p A cp nv r w h hx
  · exact wf_step B p A cp nv r w h hx ha
theorem returned_any (t o r : Int) (w : World) : Calls Tryz.prog 77 #[.int .i64 t, .int .i64 o, .int .i64 r] w fun e w' => e = .returned (.agg #[.int .i64 t, .int .i64 11, .int .i64 o, .int .i64 r]) ∧ Only Nil w w' := by
  go_enter Tryz.func77, Tryz.ntmps77
  go_wp2
  refine post_row Tryz.results77 (by rfl) (Row.new w _ _) Tryz.underlying59 rfl (by kernel_rfl) rfl ⟨rfl, (Only.refl Nil w).alloc _⟩
def evCs (ran : Bool) (ac : Acc5) (nv : Value) : Array Value := #[.bool ran, .int .i64 ac.k, .int .i64 ac.c, .int .u32 ac.x, .int .u32 ac.y, .int .u32 ac.o, nv]
/-- What a pick may turn. -/
def TurnW (gt : Nat) (A : Option Addr) : Nat → Prop := fun j => j = gt ∨ At A j

theorem Row.apartN {w w' : World} {i : Nat} {t : TypeId} {cs : Array Value} {base : Nat} {v : Value} {zs : List Nt} (h : Row w i t cs) (hv : OwnN base w v zs) (ho : Only (fun k => v.ownBlock = some k) w w') (ht : t ≠ 59) : Row w' i t cs :=
  h.only ho fun e => by
    obtain ⟨cur, hc⟩ := ownN_tag hv e
    exact ht (h.same hc).1
section
variable {w w' : World} {g gt b cp k t : Nat} {A : Option Addr} {kind mode : Int} {m : MV} {r : LS}
theorem WdP.apartN (h : WdP w g gt b A cp kind mode k m) {base : Nat} {v : Value} {zs : List Nt} (hv : OwnN base w v zs) (ho : Only (fun k => v.ownBlock = some k) w w') : WdP w' g gt b A cp kind mode k m := by
  obtain ⟨cs, hr, hs, hc⟩ := h.tasks.row
  refine ⟨h.row.apartN hv ho (by decide), ⟨h.mem.hdr.apartN hv ho (by decide), h.mem.own.only ho fun i hi e => ?_, h.mem.len⟩, ⟨cs, hr.apartN hv ho (by decide), hs, hc⟩⟩
  obtain ⟨cur, hc⟩ := ownN_tag hv e
  obtain ⟨cur', hc'⟩ := own_tag h.mem.own hi
  exact absurd (hc.same hc').1 (by decide)
/-- A task's frame is stored. -/
theorem Tasks.putF {gt : Nat} {h : Nat → Int} {f : Nat → LS} {cs : Array Value} (T : Tasks w gt k h f) (ht : t < k) (hr : Row w gt 86 cs) (r : LS) : Tasks (w.setRow gt (putL cs (t * 11 + 1) (taskCs 0 r).toList.tail)) gt k h (upd f t r) := by
  obtain ⟨cs', hr', hs, hc⟩ := T.row
  obtain rfl := (hr'.same hr).2
  have hlen : t * 11 + 1 + (taskCs 0 r).toList.tail.length ≤ cs'.size := by show t * 11 + 1 + 10 ≤ _; omega
  refine ⟨_, hr.setRow _, by rw [putL_size hlen]; exact hs, fun i hi j v hv => ?_⟩
  have hj : j < 11 := (Array.getElem?_eq_some_iff.1 hv).1
  by_cases e : i = t
  · subst e
    rw [upd_same] at hv
    cases j with
    | zero =>
      rw [putL_far (.inl (by omega)) hlen]
      exact hc i hi 0 v hv
    | succ j =>
      rw [show i * 11 + (j + 1) = i * 11 + 1 + j by omega]
      refine putL_at ?_ hlen
      have hv' : (taskCs (h i) r).toList[j + 1]? = some v := by rw [Array.getElem?_toList]; exact hv
      exact hv'
  · rw [upd_other _ _ e] at hv
    rw [putL_far _ hlen]
    · exact hc i hi j v hv
    · show i * 11 + j < t * 11 + 1 ∨ t * 11 + 1 + 10 ≤ i * 11 + j
      omega
/-- What a task holds is stored. -/
theorem Tasks.putH {gt : Nat} {h : Nat → Int} {f : Nat → LS} (T : Tasks w gt k h f) (ht : t < k) (x : Int) : Tasks (w.setCell ⟨gt, t * 11, none⟩ (.int .i64 x)) gt k (upd h t x) f := by
  obtain ⟨cs, hr, hs, hc⟩ := T.row
  refine ⟨_, hr.set _ _, by rw [Array.size_setIfInBounds]; exact hs, fun i hi j v hv => ?_⟩
  have hj : j < 11 := (Array.getElem?_eq_some_iff.1 hv).1
  by_cases e : i = t ∧ j = 0
  · obtain ⟨rfl, rfl⟩ := e
    rw [upd_same] at hv
    rw [Array.getElem?_setIfInBounds, if_pos (by omega), if_pos (by omega)]
    exact hv
  · rw [Array.getElem?_setIfInBounds, if_neg (by omega)]
    refine hc i hi j v ?_
    by_cases e2 : i = t
    · subst e2
      rw [upd_same] at hv
      cases j with
      | zero => exact absurd ⟨rfl, rfl⟩ e
      | succ j => exact hv
    · rw [upd_other _ _ e2] at hv; exact hv
theorem WdP.putF (h : WdP w g gt b A cp kind mode k m) (ht : t < k) {cs : Array Value} (hr : Row w gt 86 cs) (r : LS) : WdP (w.setRow gt (putL cs (t * 11 + 1) (taskCs 0 r).toList.tail)) g gt b A cp kind mode k ⟨upd m.rs t r, m.hold, m.xs⟩ :=
  h.turnT ((Only.refl (· = gt) w).setRow (.inr rfl) _) (h.tasks.putF ht hr r)
theorem WdP.putH (h : WdP w g gt b A cp kind mode k m) (ht : t < k) (x : Int) : WdP (w.setCell ⟨gt, t * 11, none⟩ (.int .i64 x)) g gt b A cp kind mode k (m.setH t x) :=
  h.turnT ((Only.refl (· = gt) w).setCell (p := ⟨gt, t * 11, none⟩) (.inr rfl) _) (h.tasks.putH ht x)
end
theorem beh_eq (o r h : Int) : behI o r h = behindI o r h := by
  unfold behI behindI
  by_cases hr : r = 2
  · rw [if_pos hr, if_neg (show ¬ r ≠ 2 from fun e => e hr)]
  · rw [if_neg hr, if_pos (show r ≠ 2 from hr)]
theorem ownN_form {w : World} {base : Nat} {v : Value} {zs : List Nt} (h : OwnN base w v zs) : ∃ A n c, v = .slice A n c := by
  obtain ⟨A, c, e, _⟩ := h.list
  exact ⟨A, _, c, e⟩
theorem ownN_one {w : World} {G : Nat} {n : Nt} (h : Row w G 59 #[.int .i64 n.t, .int .i64 n.w, .int .i64 n.o, .int .i64 n.a]) : OwnN 0 w (.slice (some ⟨G, 0, none⟩) 1 1) [n] :=
  ⟨rfl, .inr ⟨G, 1, _, rfl, Nat.zero_le _, h, Nat.le_refl _, by unfold maxLen; decide, rfl, rfl⟩⟩
theorem WdP.farE {w w' : World} {g gt b cp k E : Nat} {A : Option Addr} {kind mode : Int} {m : MV} {cs : Array Value} (h : WdP w g gt b A cp kind mode k m) (he : Row w E 65 cs) (ho : Only (· = E) w w') : WdP w' g gt b A cp kind mode k m := by
  obtain ⟨ct, hr⟩ := h.tasks.rowT
  refine ⟨h.row.only ho (row_ne h.row he (by decide)), h.mem.only ho (row_ne h.mem.hdr he (by decide)) fun i hi e => ?_, h.tasks.only ho (row_ne hr he (by decide))⟩
  obtain ⟨cur, hc⟩ := own_tag h.mem.own hi
  exact row_ne hc he (by decide) e
theorem OwnN.farE {w w' : World} {base E : Nat} {v : Value} {zs : List Nt} {cs : Array Value} (h : OwnN base w v zs) (he : Row w E 65 cs) (ho : Only (· = E) w w') : OwnN base w' v zs := own_only h ho fun i hi e => by
  obtain ⟨cur, hc⟩ := ownN_tag h hi
  exact row_ne hc he (by decide) e
/-- While a step is done. -/
structure Stp (W : World) (g gt b E B : Nat) (A : Option Addr) (cp : Nat) (kind mode : Int) (k : Nat) (m : MV) (r : LS) (nv tv : Value) (told : List Nt) (w : World) : Prop where
  only : Only (TurnW gt A) W w
  wd : WdP w g gt b A cp kind mode k m
  ev : Row w E 65 (evCs false acc0 (.slice none 0 0))
  run : Row w B 102 (r.cells (.pointer (some ⟨b, 0, none⟩)) nv)
  ns : OwnN 0 w nv r.ns
  tv : OwnN 0 w tv told
section
variable {W w w' : World} {g gt b E B cp k t : Nat} {A : Option Addr} {kind mode : Int} {m : MV} {r : LS} {nv tv : Value} {told : List Nt}
theorem Stp.keep (S : Stp W g gt b E B A cp kind mode k m r nv tv told w) (ho : Only Nil w w') : Stp W g gt b E B A cp kind mode k m r nv tv told w' :=
  ⟨S.only.trans (ho.mono fun _ _ h => h.elim), S.wd.keep ho, S.ev.only ho id, S.run.only ho id, S.ns.only ho, S.tv.only ho⟩
theorem Stp.tasks (S : Stp W g gt b E B A cp kind mode k m r nv tv told w) {m' : MV} (ho : Only (· = gt) w w') (hw : WdP w' g gt b A cp kind mode k m') : Stp W g gt b E B A cp kind mode k m' r nv tv told w' := by
  obtain ⟨cs, hr⟩ := S.wd.tasks.rowT
  refine ⟨S.only.trans (ho.mono fun _ _ h => .inl h), hw, S.ev.only ho ?_, S.run.only ho ?_, own_only S.ns ho ?_, own_only S.tv ho ?_⟩
  · exact row_ne S.ev hr (by decide)
  · exact row_ne S.run hr (by decide)
  · rintro i hi rfl
    obtain ⟨cur, hc⟩ := ownN_tag S.ns hi
    exact absurd (hc.same hr).1 (by decide)
  · rintro i hi rfl
    obtain ⟨cur, hc⟩ := ownN_tag S.tv hi
    exact absurd (hc.same hr).1 (by decide)
end


set_option maxRecDepth 100000 in
set_option maxHeartbeats 4000000 in
theorem woStep_any (g gt b : Nat) (A : Option Addr) (cp : Nat) (kind mode : Int) (k t : Nat) (m : MV) (tv : Value) (told : List Nt) (r' : LS) (W : World) (h : WdP W g gt b A cp kind mode k m) (hi : WdI mode k m) (hk : 1 ≤ kind ∧ kind ≤ 6) (ht : t < k) (hv : OwnN 0 W tv told) (hl : told.length ≤ 1) (hr' : (m.at t).next (linesI kind) = r') :
    Calls Tryz.prog 73 #[.pointer (some ⟨g, 0, none⟩), .int .i64 t, tv] W fun e w' => ∃ nv, e = .returned (.agg (evCs true r'.acc nv)) ∧ OwnN 0 w' nv (stepNs t r' told) ∧ Only (TurnW gt A) W w' ∧ WdP w' g gt b A cp kind mode k (m.put t r') := by
  have HI := Lib.hid hi
  have HK := Lib.hid hk
  have HT := Lib.hid ht
  have HL := Lib.hid hl
  obtain ⟨h1, h2, h3, h4, h5, _⟩ := hi.rs t ht
  have HR := Lib.hid (show (m.at t).fresh = ({ m.at t with n := k, mode := mode, task := t } : LS).fresh by
    show LS.mk _ _ _ _ _ _ _ _ _ _ _ _ _ = LS.mk _ _ _ _ _ _ _ _ _ _ _ _ _
    rw [show (m.at t).n = k from h1, show (m.at t).mode = mode from h2, show (m.at t).task = t from h3])
  have HAB := Lib.hid (show Wrd (m.at t).fresh.a ∧ Wrd (m.at t).fresh.b from ⟨h4, h5⟩)
  have HN := Lib.hid (hi.next (kind := kind) ht)
  rw [hr'] at HN
  have HRR := Lib.hid hr'
  have q2 : (t : Int) < k := by omega
  have q3 : (0 : Int) ≤ t := by omega
  have q4 : (t : Int).toNat = t := rfl
  have q5 := ht
  clear hi hk ht hl h1 h2 h3 h4 h5 hr'
  have HW := Lib.hid h
  have HV := Lib.hid hv
  obtain ⟨A0, n0, c0, rfl⟩ := ownN_form hv
  clear h hv
  go_enter Tryz.func73, Tryz.ntmps73
  go_upto_region 1 with (fail)
  have e0 := (Only.refl Nil W).alloc (.cells (evCs false acc0 (.slice none 0 0)) 65)
  have HO1 := Lib.hid (e0.mono (T := TurnW gt A) (fun _ _ h => h.elim))
  have HW1 := Lib.hid (HW.out.keep e0)
  have HV1 := Lib.hid (HV.out.only e0)
  have HE1 := Lib.hid (Row.new W 65 (evCs false acc0 (.slice none 0 0)))
  have HB := Lib.hid (show ∀ V : World, V = W → V.heap.size ≤ W.heap.size from fun _ h => h ▸ Nat.le_refl _)
  unfold evCs acc0 at e0 HO1 HW1 HV1 HE1
  clear e0 HW HV
  generalize W.alloc _ = w1 at *
  generalize W.heap.size = E at *
  go_wp2_with fail
  refine (woRun_any g gt b A cp kind mode k t m _ HW1.out HT.out (m.at t).fresh HR.out).mono ?_
  rintro e w2 ⟨rfl, hO⟩
  have HO2 := Lib.hid (HO1.out.trans (hO.mono (T := TurnW gt A) (fun _ _ h => h.elim)))
  have HW2 := Lib.hid (HW1.out.keep hO)
  have HV2 := Lib.hid (HV1.out.only hO)
  have HE2 := Lib.hid (HE1.out.only hO id)
  clear hO HO1 HW1 HV1 HE1
  go_upto_region 2 with (refine wp_storeR rfl 102 (.tmp 7) (.tmp 13) rfl (by rfl) (by rfl) (Row.new _ _ _) (by kernel_rfl) (Nat.le_refl 20) (by kernel_rfl) ?_)
  rw [putL_all (by rfl)]
  have e3 := ((Only.refl Nil w2).alloc (.cells zeroRun 102)).setRow (g := w2.heap.size) (.inl (Nat.le_refl _)) ((m.at t).fresh.cells (.pointer (some ⟨b, 0, none⟩)) (.slice none 0 0))
  have HQ : Hid (RunQ ((w2.alloc (.cells zeroRun 102)).setRow w2.heap.size ((m.at t).fresh.cells (.pointer (some ⟨b, 0, none⟩)) (.slice none 0 0))) w2.heap.size (some ⟨b, 0, none⟩) A cp (.slice none 0 0) (m.at t).fresh) := Lib.hid ⟨(Row.new w2 102 zeroRun).setRow _, Memo.of (HW2.out.keep e3).mem⟩
  have HO3 := Lib.hid (HO2.out.trans (e3.mono (T := TurnW gt A) (fun _ _ h => h.elim)))
  have HW3 := Lib.hid (HW2.out.keep e3)
  have HV3 := Lib.hid (HV2.out.only e3)
  have HE3 := Lib.hid (HE2.out.only e3 id)
  have HBL := Lib.hid (And.intro HW2.out.lt (And.intro HE2.out.lt (And.intro HO2.out.size (fun i (h : (Value.slice A0 n0 c0).ownBlock = some i) => (HV2.out.lt i h).2))))
  unfold zeroRun at e3 HQ HO3 HW3 HV3 HE3
  clear e3 HO2 HW2 HV2 HE2
  generalize (w2.alloc _).setRow w2.heap.size _ = w3 at *
  generalize w2.heap.size = B at *
  have a2 : w3.cell? ⟨g, 2, none⟩ = some (linesF kind) := HW3.out.row.cell_ (i := 2) rfl
  go_wp2_with fail
  refine (kind_step kind HK.out B _ A cp _ _ _ HQ.out HI.out.words HAB.out.1 HAB.out.2).mono ?_
  rw [next_fresh, HRR.out]
  rintro e w4 ⟨rfl, hO, -, nv, hP⟩
  obtain ⟨A1, n1, c1, rfl⟩ := ownN_form hP.notes
  have hA : ∀ i t cs, Row w3 i t cs → t ≠ 22 → ¬ At A i := fun i t cs hi ht hA => by
    obtain ⟨cur, hc⟩ := own_tag HW3.out.mem.own hA
    exact ht (hi.same hc).1
  have HS : Hid (Stp W g gt b E B A cp kind mode k { m with xs := r'.xs } r' (.slice A1 n1 c1) (.slice A0 n0 c0) told w4) := Lib.hid ⟨HO3.out.step hO (fun i hi hA => by
      rcases hA with rfl | hA
      · have := HBL.out.2.2.1; omega
      · exact .inr hA), HW3.out.words (B := B) ⟨Nat.ne_of_lt HBL.out.1.1, Nat.ne_of_lt HBL.out.1.2.1⟩ hO hP.memo.mem,
      HE3.out.only hO (by
        rintro (e | hA')
        · have := HBL.out.2.1; omega
        · exact hA _ _ _ HE3.out (by decide) hA'), hP.row, hP.notes, own_only HV3.out hO (fun i hi e => by
        rcases e with e | hA'
        · have := HBL.out.2.2.2 i hi; omega
        · obtain ⟨cur, hc⟩ := ownN_tag HV3.out hi
          exact hA _ _ _ hc (by decide) hA')⟩
  have HEL := Lib.hid (HB.out W rfl)
  clear hO hP hA HO3 HW3 HV3 HE3 HQ HBL HB a2 HR HAB
  have a5 : w4.cell? ⟨g, 5, none⟩ = some (.slice (some ⟨gt, 0, none⟩) k k) := HS.out.wd.row.cell_ (i := 5) rfl
  have b4 : w4.cell? ⟨B, 4, none⟩ = some (.int .i64 r'.op) := HS.out.run.cell_ (i := 4) rfl
  have b5 : w4.cell? ⟨B, 5, none⟩ = some (.int .i64 r'.line) := HS.out.run.cell_ (i := 5) rfl
  have b6 : w4.cell? ⟨B, 6, none⟩ = some (.int .u32 r'.a) := HS.out.run.cell_ (i := 6) rfl
  have b7 : w4.cell? ⟨B, 7, none⟩ = some (.int .u32 r'.b) := HS.out.run.cell_ (i := 7) rfl
  have b8 : w4.cell? ⟨B, 8, none⟩ = some (.int .i64 r'.s) := HS.out.run.cell_ (i := 8) rfl
  have b9 : w4.cell? ⟨B, 9, none⟩ = some (.bool r'.k.on) := HS.out.run.cell_ (i := 9) rfl
  have b10 : w4.cell? ⟨B, 10, none⟩ = some (.int .i64 r'.k.c) := HS.out.run.cell_ (i := 10) rfl
  have b11 : w4.cell? ⟨B, 11, none⟩ = some (.int .i64 r'.k.i) := HS.out.run.cell_ (i := 11) rfl
  have b12 : w4.cell? ⟨B, 12, none⟩ = some (.bool r'.k.hit) := HS.out.run.cell_ (i := 12) rfl
  have b13 : w4.cell? ⟨B, 13, none⟩ = some (.int .i64 r'.ret) := HS.out.run.cell_ (i := 13) rfl
  obtain ⟨cs, hcs, hsz, _⟩ := HS.out.wd.tasks.row
  have HC := Lib.hid hcs
  have hsz' : t * 11 + 1 + 10 ≤ cs.size := by omega
  clear hcs
  go_upto_region 5 with (refine wp_storeR rfl 84 (.tmp 29) (.tmp 27) rfl (by rfl) (by rfl) HC.out (by kernel_rfl) hsz' (by kernel_rfl) ?_)
  have HS5 := Lib.hid (show Stp W g gt b E B A cp kind mode k (m.setR t r') r' (.slice A1 n1 c1) (.slice A0 n0 c0) told (w4.setRow gt (putL cs (t * 11 + 1) [.int .i64 r'.op, .int .i64 r'.line, .int .u32 r'.a, .int .u32 r'.b, .int .i64 r'.s, .bool r'.k.on, .int .i64 r'.k.c, .int .i64 r'.k.i, .bool r'.k.hit, .int .i64 r'.ret])) from HS.out.tasks ((Only.refl (· = gt) w4).setRow (.inr rfl) _) (HS.out.wd.putF HT.out HC.out r'))
  clear HS HC a5 b4 b5 b6 b7 b8 b9 b10 b11 b12 b13 hsz hsz'
  generalize w4.setRow gt _ = w5 at *
  have b19 : w5.cell? ⟨B, 19, none⟩ = some (.slice A1 n1 c1) := HS5.out.run.cell_ (i := 19) rfl
  go_wp2_with fail
  clear b19
  have e5 := (Only.refl Nil w5).alloc (.cells #[.slice A0 n0 c0, .slice A1 n1 c1] 29)
  refine (concat_two _ (.slice A0 n0 c0) (.slice A1 n1 c1) told r'.ns _ (Row.new w5 _ _) (HS5.out.tv.only e5) (HS5.out.ns.only e5) (by have := HL.out; omega) (by have := HN.out.2.2.2.2.1; omega)).mono ?_
  rintro e w6 ⟨v, rfl, hv, hO⟩
  have HS6 := Lib.hid (HS5.out.keep (e5.trans hO))
  have HV6 := Lib.hid (own_base hv (Nat.le_trans HS5.out.only.size (Nat.le_of_lt (by rw [show (w5.alloc (.cells #[.slice A0 n0 c0, .slice A1 n1 c1] 29)).heap.size = w5.heap.size + 1 from Array.size_push _]; exact Nat.lt_succ_self _))))
  obtain ⟨A2, n2, c2, rfl⟩ := ownN_form hv
  have HLL := HL
  clear hv hO e5 HS5 HL
  have b4 : w6.cell? ⟨B, 4, none⟩ = some (.int .i64 r'.op) := HS6.out.run.cell_ (i := 4) rfl
  have b13 : w6.cell? ⟨B, 13, none⟩ = some (.int .i64 r'.ret) := HS6.out.run.cell_ (i := 13) rfl
  obtain ⟨ov, hov⟩ : ∃ ov, r'.over = ov := ⟨_, rfl⟩
  rw [hov]
  have HOV := Lib.hid hov
  clear hov
  cases ov
  · clear b4 b13
    have HRN := Lib.hid HS6.out.run
    have HEV := Lib.hid HS6.out.ev
    have HO := Lib.hid HS6.out.only
    have c14 : w6.cell? ⟨B, 14, none⟩ = some (.int .i64 r'.acc.k) := HRN.out.cell_ (i := 14) rfl
    have c15 : w6.cell? ⟨B, 15, none⟩ = some (.int .i64 r'.acc.c) := HRN.out.cell_ (i := 15) rfl
    have c16 : w6.cell? ⟨B, 16, none⟩ = some (.int .u32 r'.acc.x) := HRN.out.cell_ (i := 16) rfl
    have c17 : w6.cell? ⟨B, 17, none⟩ = some (.int .u32 r'.acc.y) := HRN.out.cell_ (i := 17) rfl
    have c18 : w6.cell? ⟨B, 18, none⟩ = some (.int .u32 r'.acc.o) := HRN.out.cell_ (i := 18) rfl
    go_wp2_with (refine wp_storeR rfl 65 (.tmp 6) (.tmp 68) rfl (by rfl) (by rfl) HEV.out (by kernel_rfl) (Nat.le_refl 7) (by kernel_rfl) ?_)
    rw [putL_all (by rfl)]
    have eE := (Only.refl (· = E) w6).setRow (g := E) (.inr rfl) (evCs true r'.acc (.slice A2 n2 c2))
    refine post_row Tryz.results73 (by rfl) (HEV.out.setRow _) Tryz.underlying65 rfl (by kernel_rfl) rfl ⟨(.slice A2 n2 c2), rfl, ?_, HO.out.setRow (.inl HEL.out) _, ?_⟩
    · rw [show stepNs t r' told = told ++ r'.ns by unfold stepNs; rw [HOV.out]; exact if_neg Bool.false_ne_true]
      exact OwnN.farE (own_base HV6.out (Nat.zero_le _)) HEV.out eE
    · rw [show m.put t r' = m.setR t r' by unfold MV.put; rw [HOV.out]; exact if_neg Bool.false_ne_true]
      exact HS6.out.wd.farE HEV.out eE
  · go_wp2_with fail
    refine (returned_any _ _ _ _).mono ?_
    rintro e w7 ⟨rfl, hO⟩
    have HS7 := Lib.hid (HS6.out.keep hO)
    have HV7 := Lib.hid (OwnN.only HV6.out hO)
    clear hO HS6 HV6 b4 b13
    have e7 := (Only.refl Nil w7).alloc (.cells #[.int .i64 t, .int .i64 11, .int .i64 r'.op, .int .i64 r'.ret] 59)
    have HS8 := Lib.hid (HS7.out.keep e7)
    have HV8 := Lib.hid (OwnN.only HV7.out e7)
    have HU8 := Lib.hid (ownN_one (n := ⟨t, 11, r'.op, r'.ret⟩) (Row.new w7 59 #[.int .i64 t, .int .i64 11, .int .i64 r'.op, .int .i64 r'.ret]))
    have HZ8 := Lib.hid (Nat.le_trans HS7.out.only.size e7.size)
    clear e7 HS7 HV7
    go_wp2_with (at_builtin; go_loud (refine wp_appNs rfl (.tmp 36) (.tmp 45) rfl W.heap.size _ (told ++ r'.ns) rfl HV8.out _ [⟨t, 11, r'.op, r'.ret⟩] rfl HU8.out (by have h1 := HLL.out; have h2 := HN.out.2.2.2.2.1; rw [List.length_append]; omega) (show 1 ≤ 1000 by decide) HZ8.out ?_))
    intro v' w9 hv hO
    obtain ⟨A3, n3, c3, rfl⟩ := ownN_form hv
    have hT : ∀ i, (Value.slice A2 n2 c2).ownBlock = some i → W.heap.size ≤ i := fun i hi => (HV8.out.lt i hi).1
    have HO := Lib.hid (HS8.out.only.step hO (fun i hi e => by have := hT i e; omega))
    have HWD := Lib.hid (HS8.out.wd.apartN HV8.out hO)
    have HEV := Lib.hid (HS8.out.ev.apartN HV8.out hO (by decide))
    have HRN := Lib.hid (HS8.out.run.apartN HV8.out hO (by decide))
    have HV := Lib.hid (own_base hv (Nat.zero_le _))
    clear hT hO hv HS8 HV8 HU8 HZ8
    have b4 : w9.cell? ⟨B, 4, none⟩ = some (.int .i64 r'.op) := HRN.out.cell_ (i := 4) rfl
    have b13 : w9.cell? ⟨B, 13, none⟩ = some (.int .i64 r'.ret) := HRN.out.cell_ (i := 13) rfl
    have d0 : w9.cell? ⟨gt, t * 11, none⟩ = some (.int .i64 (m.hold t)) := HWD.out.tasks.cell HT.out 0 rfl
    have d1 : w9.frozen? ⟨gt, t * 11, none⟩ = false := by
      obtain ⟨cs, hr⟩ := HWD.out.tasks.rowT
      exact hr.frozen _
    go_upto_region 8 with (fail)
    go_still_tail 14, (by kernel_rfl)
    still_call ((beh_any _ _ _ _).mono (fun e w' ⟨h1, h2⟩ => ⟨h1, h2.symm⟩))
    repeat still_step
    refine wpStill_nil ?_
    go_upto_region 9 with (fail)
    rw [beh_eq]
    obtain ⟨x, hx⟩ : ∃ x, behindI r'.op r'.ret (m.hold t) = x := ⟨_, rfl⟩
    rw [hx]
    have HX := Lib.hid hx
    have eg := ((Only.refl (· = gt) w9).setCell (p := ⟨gt, t * 11, none⟩) (.inr rfl) (.int .i64 x)).drew
    obtain ⟨ct, hrt⟩ := HWD.out.tasks.rowT
    have HO10 := Lib.hid (HO.out.trans (eg.mono (T := TurnW gt A) (fun _ _ h => .inl h)))
    have HWD10 := Lib.hid ((HWD.out.putH HT.out x).keep (Only.refl Nil _).drew)
    have HEV10 := Lib.hid (HEV.out.only eg (row_ne HEV.out hrt (by decide)))
    have HRN10 := Lib.hid (HRN.out.only eg (row_ne HRN.out hrt (by decide)))
    have HV10 := Lib.hid (own_only HV.out eg (fun i hi e => by
      obtain ⟨cur, hc⟩ := ownN_tag HV.out hi
      exact row_ne hc hrt (by decide) e))
    clear hx eg hrt HO HWD HEV HRN HV b4 b13 d0 d1
    generalize (w9.setCell _ _).drew = w10 at *
    obtain ⟨cs, hcs, hsz, _⟩ := HWD10.out.tasks.row
    have HC := Lib.hid hcs
    have hsz' : t * 11 + 1 + 10 ≤ cs.size := by omega
    clear hcs hsz
    go_upto_region 10 with (refine wp_storeR rfl 84 (.tmp 64) (.tmp 62) rfl (by rfl) (by rfl) HC.out (by kernel_rfl) hsz' (by kernel_rfl) ?_)
    have eg := (Only.refl (· = gt) w10).setRow (g := gt) (.inr rfl) (putL cs (t * 11 + 1) [.int .i64 0, .int .i64 0, .int .u32 0, .int .u32 0, .int .i64 0, .bool false, .int .i64 0, .int .i64 0, .bool false, .int .i64 0])
    have HO := Lib.hid (HO10.out.trans (eg.mono (T := TurnW gt A) (fun _ _ h => .inl h)))
    have HWD := Lib.hid (show WdP (w10.setRow gt (putL cs (t * 11 + 1) [.int .i64 0, .int .i64 0, .int .u32 0, .int .u32 0, .int .i64 0, .bool false, .int .i64 0, .int .i64 0, .bool false, .int .i64 0])) g gt b A cp kind mode k (((m.setR t r').setH t x).setR t (zeroF r' 0)) from HWD10.out.putF HT.out HC.out (zeroF r' 0))
    have HEV := Lib.hid (HEV10.out.only eg (row_ne HEV10.out HC.out (by decide)))
    have HRN := Lib.hid (HRN10.out.only eg (row_ne HRN10.out HC.out (by decide)))
    have HV := Lib.hid (own_only HV10.out eg (fun i hi e => by
      obtain ⟨cur, hc⟩ := ownN_tag HV10.out hi
      exact row_ne hc HC.out (by decide) e))
    clear eg HO10 HWD10 HEV10 HRN10 HV10 HC hsz'
    generalize w10.setRow gt _ = w11 at *
    have c14 : w11.cell? ⟨B, 14, none⟩ = some (.int .i64 r'.acc.k) := HRN.out.cell_ (i := 14) rfl
    have c15 : w11.cell? ⟨B, 15, none⟩ = some (.int .i64 r'.acc.c) := HRN.out.cell_ (i := 15) rfl
    have c16 : w11.cell? ⟨B, 16, none⟩ = some (.int .u32 r'.acc.x) := HRN.out.cell_ (i := 16) rfl
    have c17 : w11.cell? ⟨B, 17, none⟩ = some (.int .u32 r'.acc.y) := HRN.out.cell_ (i := 17) rfl
    have c18 : w11.cell? ⟨B, 18, none⟩ = some (.int .u32 r'.acc.o) := HRN.out.cell_ (i := 18) rfl
    go_wp2_with (refine wp_storeR rfl 65 (.tmp 6) (.tmp 68) rfl (by rfl) (by rfl) HEV.out (by kernel_rfl) (Nat.le_refl 7) (by kernel_rfl) ?_)
    rw [putL_all (by rfl)]
    have eE := (Only.refl (· = E) w11).setRow (g := E) (.inr rfl) (evCs true r'.acc (.slice A3 n3 c3))
    refine post_row Tryz.results73 (by rfl) (HEV.out.setRow _) Tryz.underlying65 rfl (by kernel_rfl) rfl ⟨(.slice A3 n3 c3), rfl, ?_, HO.out.setRow (.inl HEL.out) _, ?_⟩
    · rw [show stepNs t r' told = told ++ (r'.ns ++ [⟨t, 11, r'.op, r'.ret⟩]) by unfold stepNs; rw [HOV.out]; exact (if_pos rfl).trans (List.append_assoc _ _ _)]
      exact OwnN.farE HV.out HEV.out eE
    · rw [show m.put t r' = ((m.setR t r').setH t x).setR t (zeroF r' 0) by unfold MV.put; rw [HOV.out, HX.out]; exact if_pos rfl]
      exact HWD.out.farE HEV.out eE
end Go.Proofs.YtigdbokfapedcaaGreat
