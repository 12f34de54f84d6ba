import Derived.Test.YtaifeejciglkpaaChecked
import Derived.Laws.AppendOwn
import Derived.OwnWalk
import Derived.Deep.OwnRows
import Derived.Maps.Own
import Derived.Test.YtaifeejciglkpaaMF14
import Derived.Test.YtaifeejciglkpaaMF18
import Derived.Test.YtaifeejciglkpaaMF5
import Derived.Test.YtaifeejciglkpaaMF1
import Derived.Test.YtaifeejciglkpaaMF2
set_option linter.unusedVariables false
set_option linter.unusedSimpArgs false
namespace Go.Proofs.Ytaifeejciglkpaa
open Go.RowKit
def LS.mxDo (r : LS) (s : Int) : LS × Bool := if s = 0 then r.mxEnter 0 2 else r.mxGive 0 6 [8]
structure ClI (GS ST gk gg k t : Nat) (s : Int) (W : World) : Prop where
  rs : Row W GS 30 #[.slice (some ⟨ST, 0, none⟩) k k]
  ct : W.cell? ⟨ST, t, none⟩ = some (.int .i64 s)
  rk : Row W gk 3 #[.int .i64 t]
  rg : Row W gg 4 #[.bool false]
set_option maxHeartbeats 1000000 in
theorem mu_closure (B : Nat) (p A : Option Addr) (cp : Nat) (nv : Value) (r : LS) (GS ST gk gg k t : Nat) (s : Int) (w : World) (h : RunP w B p A cp nv r) (hI : ClI GS ST gk gg k t s w) (ht : t < k) (hk : k ≤ 64)
    (hl : r.ns.length ≤ 900) (hx : Words r.xs) (ha : 0 ≤ r.a ∧ r.a < 4294967296) :
    Calls Try.prog 50 #[Value.pointer (some ⟨B, 0, none⟩), .pointer (some ⟨GS, 0, none⟩), .pointer (some ⟨gk, 0, none⟩), .pointer (some ⟨gg, 0, none⟩)] w fun e w' => e = .returned (.tuple #[]) ∧ Only (fun j => TurnB B A j ∨ j = gg) w w' ∧ Row w' gg 4 #[.bool (r.mxDo s).2] ∧ ∃ nv', RunP w' B p A cp nv' (r.mxDo s).1 := by
  obtain ⟨rs, st, rk, rg⟩ := hI
  have c0 : w.cell? ⟨GS, 0, none⟩ = some (.slice (some ⟨ST, 0, none⟩) k k) := rs.cell_ (i := 0) rfl
  have c1 : w.cell? ⟨gk, 0, none⟩ = some (.int .i64 t) := rk.cell_ (i := 0) rfl
  have HG := Lib.hid rg
  have HP := Lib.hid h
  have HX := Lib.hid hx
  have HL := Lib.hid hl
  have HA := Lib.hid ha
  have HK := Lib.hid hk
  clear rs rk rg h hx hl ha hk
  by_cases hs : s = 0
  · subst hs
    have HO := Lib.hid (Only.refl (TurnB B A) w)
    rw [show r.mxDo 0 = r.mxEnter 0 2 from if_pos rfl]
    have HC := Lib.hid (enter_run B p A cp nv r 0 2 w HP.out HL.out HX.out HA.out)
    generalize r.mxEnter 0 2 = pr at *
    obtain ⟨r', d⟩ := pr
    go_enter Try.func50, Try.ntmps50
    go_wp2_with fail
    clear c0 c1 st
    refine HC.out.mono ?_
    clear HC
    rintro e w1 ⟨rfl, hO, nv1, hP⟩
    have HG1 := Lib.hid (HP.out.aside HG.out hO ⟨by decide, by decide, by decide⟩)
    have HP1 := Lib.hid hP
    have HO1 := Lib.hid (HO.out.trans hO)
    clear hO hP HP
    have c0 : w1.cell? ⟨gg, 0, none⟩ = some (.bool false) := HG1.out.cell_ (i := 0) rfl
    have f0 : w1.frozen? ⟨gg, 0, none⟩ = false := HG1.out.frozen 0
    have ho := (Only.refl (· = gg) w1).setCell (p := ⟨gg, 0, none⟩) (.inr rfl) (.bool d)
    have HP2 := Lib.hid (HP1.out.apart ho (row_ne HP1.out.row HG1.out (by decide)) (fun j hj e => by subst e; exact memo_not HP1.out.memo HG1.out (by decide) (by decide) hj) (fun i hi e => by subst e; exact ownN_not HP1.out.notes HG1.out (by decide) hi))
    have HG2 : Hid (Row (w1.setCell ⟨gg, 0, none⟩ (.bool d)) gg 4 #[.bool d]) := Lib.hid (HG1.out.set 0 (.bool d))
    have HO2 := Lib.hid ((HO1.out.mono (T := fun j => TurnB B A j ∨ j = gg) (fun _ _ e => .inl e)).setCell (p := ⟨gg, 0, none⟩) (.inr (.inr rfl)) (.bool d))
    clear ho HP1 HO1 HG1
    go_wp2
    go_returns
    exact ⟨rfl, HO2.out, HG2.out, nv1, HP2.out⟩
  · have hs' : (s == 0) = false := beq_eq_false_iff_ne.2 hs
    rw [show r.mxDo s = r.mxGive 0 6 [8] from if_neg hs]
    clear hs
    have e0 := (Only.refl Nil w).alloc (.cells #[.int .i64 8] 3)
    have HP8 := Lib.hid (HP.out.keep e0)
    have HG8 := Lib.hid (HG.out.only e0 id)
    have HO := Lib.hid (e0.mono (T := TurnB B A) (fun _ _ h => h.elim))
    have HR := Row.new w 3 #[.int .i64 8]
    have HW : Hid (Whats B A (w.alloc (.cells #[.int .i64 8] 3)) (.slice (some ⟨w.heap.size, 0, none⟩) 1 1) [8]) := Lib.hid ⟨_, _, rfl, fun w' ho i x hi => ⟨w.heap.size, 0, rfl, by
      match i, hi with
      | 0, hi => cases hi; exact (HP8.out.aside HR ho asideI).cell_ (i := 0) rfl
      | i + 1, hi => simp at hi⟩⟩
    have HC := Lib.hid (give_run B p A cp nv r 0 6 _ HP8.out HL.out HX.out HA.out _ [8] HW.out (by decide) (by decide) (by decide))
    clear HP HG HR HW e0
    have HP := HP8
    have HG := HG8
    clear HP8 HG8
    generalize r.mxGive 0 6 [8] = pr at *
    obtain ⟨r', d⟩ := pr
    go_enter Try.func50, Try.ntmps50
    go_wp2_with fail
    clear c0 c1 st
    refine HC.out.mono ?_
    clear HC
    rintro e w1 ⟨rfl, hO, nv1, hP⟩
    have HG1 := Lib.hid (HP.out.aside HG.out hO ⟨by decide, by decide, by decide⟩)
    have HP1 := Lib.hid hP
    have HO1 := Lib.hid (HO.out.trans hO)
    clear hO hP HP
    have c0 : w1.cell? ⟨gg, 0, none⟩ = some (.bool false) := HG1.out.cell_ (i := 0) rfl
    have f0 : w1.frozen? ⟨gg, 0, none⟩ = false := HG1.out.frozen 0
    have ho := (Only.refl (· = gg) w1).setCell (p := ⟨gg, 0, none⟩) (.inr rfl) (.bool d)
    have HP2 := Lib.hid (HP1.out.apart ho (row_ne HP1.out.row HG1.out (by decide)) (fun j hj e => by subst e; exact memo_not HP1.out.memo HG1.out (by decide) (by decide) hj) (fun i hi e => by subst e; exact ownN_not HP1.out.notes HG1.out (by decide) hi))
    have HG2 : Hid (Row (w1.setCell ⟨gg, 0, none⟩ (.bool d)) gg 4 #[.bool d]) := Lib.hid (HG1.out.set 0 (.bool d))
    have HO2 := Lib.hid ((HO1.out.mono (T := fun j => TurnB B A j ∨ j = gg) (fun _ _ e => .inl e)).setCell (p := ⟨gg, 0, none⟩) (.inr (.inr rfl)) (.bool d))
    clear ho HP1 HO1 HG1
    go_wp2
    go_returns
    exact ⟨rfl, HO2.out, HG2.out, nv1, HP2.out⟩
theorem lined_mu (B : Nat) (p A : Option Addr) (cp : Nat) (r : LS) (GS ST gk gg k t : Nat) (s : Int) (ht : t < k) (hk : k ≤ 64) (hl : r.ns.length ≤ 900) (hx : Words r.xs) (ha : 0 ≤ r.a ∧ r.a < 4294967296) :
    Lined B p A cp (.func (.func 50) #[] #[.pointer (some ⟨GS, 0, none⟩), .pointer (some ⟨gk, 0, none⟩), .pointer (some ⟨gg, 0, none⟩)]) r (r.mxDo s).1 (fun j => TurnB B A j ∨ j = gg) (ClI GS ST gk gg k t s) (fun W => Row W gg 4 #[.bool (r.mxDo s).2]) := by
  intro w nv hI h
  have hn := neq_fnL
  have HC := Lib.hid (mu_closure B p A cp nv r GS ST gk gg k t s w h hI ht hk hl hx ha)
  clear h hI ht hk hl hx ha
  generalize r.mxDo s = pr at *
  go_enter_defers Try.func72, Try.ntmps72
  go_wp2_with fail
  refine HC.out.mono ?_
  rintro e w1 ⟨rfl, hO, hY, nv1, hP⟩
  have HP1 := Lib.hid hP
  have HO1 := Lib.hid hO
  have HY := Lib.hid hY
  clear hP hO hY HC
  go_wp2
  refine leaves_cons (f := 87) (args := #[]) (by simp) (by simp [go_sem]) ?_
  refine (rec_run _).mono ?_
  rintro e u' w'' ⟨rfl, rfl, rfl⟩
  exact ⟨_, by simp [results, Try.results72, go_sem], rfl, HO1.out, HY.out, nv1, HP1.out⟩
def SteptG (w0 : World) (GL GS ST TS : Nat) (B : Nat → Nat) (p A : Option Addr) (cp k : Nat) (AO : Option Addr) (cO : Nat) (g : GV) (t gk gg : Nat) (r' : LS) (d : Bool) (e : Ending) (w' : World) : Prop :=
  (∃ o, e = .returned (.bool o)) ∧ GameP w0 GL GS ST TS B p A cp k AO cO { g with rs := upd g.rs t r', xs := r'.xs } w' ∧ Row w' gk 3 #[.int .i64 t] ∧ Row w' gg 4 #[.bool d] ∧ Else w0 GL GS ST TS B p A k AO gk ∧ ∃ nv, RunP w' (B t) p A cp nv r'
theorem game_step (w0 : World) (GL GS ST TS : Nat) (B : Nat → Nat) (p A : Option Addr) (cp k : Nat) (AO : Option Addr) (cO : Nat) (g : GV) (t gk gg : Nat) (w : World) (h : GameP w0 GL GS ST TS B p A cp k AO cO g w) (ht : t < k) (hk : k ≤ 64)
    (rk : Row w gk 3 #[.int .i64 t]) (rg : Row w gg 4 #[.bool false]) (ek : Else w0 GL GS ST TS B p A k AO gk) (eg : Else w0 GL GS ST TS B p A k AO gg) :
    Calls Try.prog 49 #[.pointer (some ⟨B t, 0, none⟩), .func (.func 50) #[] #[.pointer (some ⟨GS, 0, none⟩), .pointer (some ⟨gk, 0, none⟩), .pointer (some ⟨gg, 0, none⟩)]] w (SteptG w0 GL GS ST TS B p A cp k AO cO g t gk gg ((g.at t).mxStep (g.stt t)).1 ((g.at t).mxStep (g.stt t)).2) := by
  obtain ⟨nv, q⟩ := h.run t ht
  obtain ⟨hw', ha'⟩ := (keep_mxStep (g.at t) (g.stt t)).ab h.words (h.ab t ht)
  have hne : gk ≠ gg := row_ne rk rg (by decide)
  cases hon : (g.at t).k.on
  · have hd : (g.at t).mxStep (g.stt t) = (g.at t).fresh.mxDo (g.stt t) := by
      unfold LS.mxStep LS.mxDo
      rw [hon, if_neg Bool.false_ne_true]
    obtain ⟨cs, hs, hs2⟩ := h.st
    refine (step_lines (B t) p A cp nv _ (g.at t) _ _ (ClI GS ST gk gg k t (g.stt t)) _ w q hon (lined_mu (B t) p A cp (g.at t).fresh GS ST gk gg k t (g.stt t) ht hk (Nat.zero_le _) h.words (h.ab t ht)) (.inl (.inl rfl)) (fun w1 ho => ⟨h.s.only ho (row_ne h.s q.row (by decide)), (hs.only ho (row_ne hs q.row (by decide))).cell_ (hs2 t ht), rk.only ho (fun e => ek.b t ht e), rg.only ho (fun e => eg.b t ht e)⟩)).mono ?_
    rw [← hd]
    rintro e w' ⟨rfl, hO, hY, nv', hP⟩
    have far : ∀ {j : Nat} {ty : TypeId} {cs : Array Value}, Row w j ty cs → Aside ty → j ≠ gg → ¬ (TurnB (B t) A j ∨ j = gg) := fun hr ht hj e => by
      rcases e with (e | e) | e
      · exact row_ne hr q.row ht.1 e
      · exact memo_not q.memo hr ht.2.1 ht.2.2 (.inr e)
      · exact hj e
    exact ⟨⟨_, rfl⟩, h.ran ht hO (fun j hj => by
      rcases hj with e | e
      · exact .inl e
      · subst e; exact .inr eg) hP.q hw' ha', rk.only hO (far rk asideI hne), hY, ek, nv', hP⟩
  · have hd : (g.at t).mxStep (g.stt t) = ((g.at t).waking, false) := by
      unfold LS.mxStep
      rw [hon, if_pos rfl]
    refine (step_wake (B t) p A cp nv _ (g.at t) w q hon).mono ?_
    rw [hd] at hw' ha' ⊢
    rintro e w' ⟨rfl, hO, _, nv', hP⟩
    exact ⟨⟨_, rfl⟩, h.ran ht hO (fun j hj => .inl hj) hP.q hw' ha', rk.only hO (fun e => by
      rcases e with e | e
      · exact ek.b t ht e
      · exact ek.a (.inr e)), rg.only hO (fun e => by
      rcases e with e | e
      · exact eg.b t ht e
      · exact eg.a (.inr e)), ek, nv', hP⟩
end Go.Proofs.Ytaifeejciglkpaa
set_option linter.unusedVariables false
set_option linter.unusedSimpArgs false
namespace Go.Proofs.Ytaifeejciglkpaa
open Go.RowKit
section
variable {g g1 : GV} {t : Nat}
theorem gp_1 (h : g.stt t = 1) : g.pick t = some { g with stt := upd g.stt t 2, ins := -1, rs := upd g.rs t (zeroL (g.rs t) 6) } := by
  unfold GV.pick
  rw [if_pos h]
theorem gp_in {r' : LS} (h1 : g.stt t = 0) (hd : (g.at t).mxStep (g.stt t) = (r', true)) (h : g.pick t = some g1) : ∃ os, g.order ++ regsT r'.ns t = (t : Int) :: os ∧ g.ins < 0 ∧
    g1 = ⟨upd (upd g.rs t r') t (zeroL r' 0), upd g.stt t 1, upd g.times t (g.times t + 1), os, t, r'.xs⟩ := by
  unfold GV.pick at h
  rw [hd, if_neg (by omega), if_pos ⟨rfl, h1⟩] at h
  rw [show g.order ++ regsT r'.ns t = (g.after t (r', true)).order from rfl]
  cases e : (g.after t (r', true)).order with
  | nil => rw [e] at h; cases h
  | cons o os =>
    rw [e] at h
    dsimp only at h
    by_cases hc : 0 ≤ g.ins ∨ o ≠ t
    · rw [if_pos hc] at h; cases h
    · rw [if_neg hc] at h
      have ho : o = t := by
        by_cases ho : o = t
        · exact ho
        · exact absurd (.inr ho) hc
      subst ho
      refine ⟨os, rfl, by omega, ?_⟩
      rw [← Option.some.inj h]
      rw [upd_upd]
      rfl
theorem gp_out {r' : LS} (h1 : g.stt t ≠ 1) (h0 : g.stt t ≠ 0) (hd : (g.at t).mxStep (g.stt t) = (r', true)) : g.pick t = some ((⟨upd g.rs t r', upd g.stt t 3, g.times, g.order ++ regsT r'.ns t, g.ins, r'.xs⟩ : GV).rest t) := by
  unfold GV.pick
  rw [hd, if_neg h1, if_neg (fun e => h0 e.2), if_pos rfl]
  rfl
theorem gp_no {r' : LS} (h1 : g.stt t ≠ 1) (hd : (g.at t).mxStep (g.stt t) = (r', false)) : g.pick t = some ((⟨upd g.rs t r', g.stt, g.times, g.order ++ regsT r'.ns t, g.ins, r'.xs⟩ : GV).rest t) := by
  unfold GV.pick
  rw [hd, if_neg h1, if_neg (fun e => Bool.false_ne_true e.1), if_neg (fun e => Bool.false_ne_true e)]
  rfl
theorem gr_yes (h : g.stt t = 3) (hk : (g.rs t).k.on = false) : g.rest t = { g with stt := upd g.stt t 0, rs := upd g.rs t (zeroL (g.rs t) 0) } := if_pos ⟨h, hk⟩
theorem gr_no (h : g.stt t ≠ 3 ∨ (g.rs t).k.on = true) : g.rest t = g := if_neg (fun e => by
  rcases h with h | h
  · exact h e.1
  · rw [h] at e; exact absurd e.2 (by decide))
theorem mu_next {k : Nat} {mode : Int} (hk : k ≤ 64) (h : MuOK k mode g) (ht : t < k) : ∃ g1, g.pick t = some g1 ∧ MuOK k mode g1 := by
  obtain ⟨m, q, s, h⟩ := h
  obtain ⟨g1, m1, q1, s1, e1, h1, _⟩ := h.pick hk ht
  exact ⟨g1, e1, m1, q1, s1, h1⟩
theorem play_next {l : List Nat} {i : Nat} {g0 : GV} (h : playG (l.take i) g0 = some g) (hi : l[i]? = some t) (hp : g.pick t = some g1) : playG (l.take (i + 1)) g0 = some g1 := by
  rw [List.take_add_one, hi, playG_append, h]
  show (g.pick t).bind (playG []) = some g1
  rw [hp]
  rfl
theorem regs_len {ns : List Nt} (h : ns.length ≤ 1) : (regsT ns t).length ≤ 1 := by
  unfold regsT
  rw [List.length_map]
  exact Nat.le_trans (List.length_filter_le _ _) h
theorem gp_len (h : g.pick t = some g1) : g1.order.length ≤ g.order.length + 1 := by
  have hn := notes_mxStep (g.at t) (g.stt t)
  have hrest : ∀ g2 : GV, (g2.rest t).order = g2.order := fun g2 => by unfold GV.rest; split <;> rfl
  by_cases h1 : g.stt t = 1
  · rw [gp_1 h1] at h
    rw [← Option.some.inj h]
    exact Nat.le_succ _
  cases hp : (g.at t).mxStep (g.stt t) with
  | mk r' d =>
    rw [hp] at hn
    have hr : (regsT r'.ns t).length ≤ 1 := regs_len (t := t) hn
    have ha : (g.order ++ regsT r'.ns t).length ≤ g.order.length + 1 := by rw [List.length_append]; omega
    cases d
    · rw [gp_no h1 hp] at h
      rw [← Option.some.inj h, hrest]
      exact ha
    · by_cases h0 : g.stt t = 0
      · obtain ⟨os, e, _, rfl⟩ := gp_in h0 hp h
        rw [e, List.length_cons] at ha
        show os.length ≤ _
        omega
      · rw [gp_out h1 h0 hp] at h
        rw [← Option.some.inj h, hrest]
        exact ha
theorem gp_times (h : g.pick t = some g1) (i : Nat) : g.times i ≤ g1.times i ∧ g1.times i ≤ g.times i + 1 := by
  have hrest : ∀ g2 : GV, (g2.rest t).times = g2.times := fun g2 => by unfold GV.rest; split <;> rfl
  by_cases h1 : g.stt t = 1
  · rw [gp_1 h1] at h
    rw [← Option.some.inj h]
    show g.times i ≤ g.times i ∧ g.times i ≤ g.times i + 1
    omega
  cases hp : (g.at t).mxStep (g.stt t) with
  | mk r' d =>
    cases d
    · rw [gp_no h1 hp] at h
      rw [← Option.some.inj h, hrest]
      show g.times i ≤ g.times i ∧ g.times i ≤ g.times i + 1
      omega
    · by_cases h0 : g.stt t = 0
      · obtain ⟨os, e, _, rfl⟩ := gp_in h0 hp h
        show g.times i ≤ upd g.times t (g.times t + 1) i ∧ upd g.times t (g.times t + 1) i ≤ g.times i + 1
        by_cases e : i = t
        · subst e; rw [upd_same]; omega
        · rw [upd_other _ _ e]; omega
      · rw [gp_out h1 h0 hp] at h
        rw [← Option.some.inj h, hrest]
        show g.times i ≤ g.times i ∧ g.times i ≤ g.times i + 1
        omega
end
end Go.Proofs.Ytaifeejciglkpaa
set_option linter.unusedVariables false
set_option linter.unusedSimpArgs false
namespace Go.Proofs.Ytaifeejciglkpaa
open Go.RowKit
def OwnP (base : Nat) (w : World) (v : Value) (bs : List Nat) : Prop := w.ownsRow base 36 1 v bs.length (bs.map fun b => Value.pointer (some ⟨b, 0, none⟩))
theorem infoP : (Try.prog.info? 36).map (fun i => (i.zero, i.size, i.bytes)) = some (some (.pointer none), 1, 8) := by kernel_rfl
theorem ownP_nil (base : Nat) (w : World) : OwnP base w (.slice none 0 0) [] := World.ownsRow_nil _ _ _ _
theorem ownP_tag {base : Nat} {w : World} {v : Value} {bs : List Nat} (h : OwnP base w v bs) {i : Nat} (hi : v.ownBlock = some i) : ∃ cur, Row w i 36 cur := by
  rcases h.2 with ⟨rfl, _⟩ | ⟨g, cap, cur, rfl, _, hg, _⟩
  · cases hi
  · have e : g = i := by simpa [Value.ownBlock] using hi
    subst e
    exact ⟨cur, hg⟩
theorem ownP_form {base : Nat} {w : World} {v : Value} {bs : List Nat} (h : OwnP base w v bs) : ∃ A n c, v = .slice A n c := by
  rcases h.2 with ⟨rfl, _⟩ | ⟨g, cap, cur, rfl, _⟩
  · exact ⟨none, 0, 0, rfl⟩
  · exact ⟨_, _, _, rfl⟩
theorem wp_appP {w : World} {ops : Array Oper} {rest : List Oper} {o : Oper} {a : Act} {Q : Exit → Act → World → Prop} (hgd : o.guard = none) (s x : Operand)
    (ho : o.op = .call { callee := .builtin .append, args := #[s, x], argTypes := #[93, 93] })
    (base : Nat) (v : Value) (bs : List Nat) (hs : a.eval s = v) (hown : OwnP base w v bs)
    (g nb : Nat) (hx : a.eval x = .slice (some ⟨g, 0, none⟩) 1 1) (hrow : Row w g 36 #[.pointer (some ⟨nb, 0, none⟩)])
    (h1 : bs.length ≤ 1000) (hbase : base ≤ w.heap.size)
    (h : ∀ v' w', OwnP base w' v' (bs ++ [nb]) → Only (fun k => v.ownBlock = some k) w w' → wpList Try.prog ops Q rest (a.put o.dst v') w') : wpList Try.prog ops Q (o :: rest) a w := by
  obtain ⟨i0, hi, hz0, hz1, hz2⟩ := info_parts infoP
  refine wpList_append_own w hgd s x 93 ho base 36 i0 (.pointer none) 1 8 Try.underlying93 hi hz0 hz1 hz2 rfl (by decide) v bs.length _ hs hown ⟨g, 0, none⟩ 1 1 [.pointer (some ⟨nb, 0, none⟩)] hx rfl (fun j u hj => ?_) (fun u hu => ?_) (by unfold maxLen; omega) (by omega) hbase (fun v' w' hO hG _ => ?_)
  · rw [add_at, Nat.zero_add]
    exact hrow.cell_ (by rw [← hj]; simp)
  · simp only [List.mem_cons, List.not_mem_nil, or_false] at hu
    subst hu
    rfl
  · refine h v' w' ?_ ((Only.refl _ w).grown hG (fun k hk => .inr hk))
    unfold OwnP
    rw [List.length_append, List.map_append]
    exact hO
theorem made_zero (k i : Nat) (hi : i < k) : (madeCells #[.int .i64 0] k)[i]? = some (.int .i64 0) := by
  rw [← Array.getElem?_toList, toList_madeCells_one, List.getElem?_replicate, if_pos hi]
end Go.Proofs.Ytaifeejciglkpaa
set_option linter.unusedVariables false
set_option linter.unusedSimpArgs false
namespace Go.Proofs.Ytaifeejciglkpaa
open Go.RowKit
def ListsAt (W : World) (gL : Nat) (ls : List (List Int)) : Prop := ∀ (i : Nat) (l : List Int), ls[i]? = some l → ∃ g, W.cell? ⟨gL, i, none⟩ = some (.slice (some ⟨g, 0, none⟩) l.length l.length) ∧ ∀ (j : Nat) (op : Int), l[j]? = some op → W.cell? ⟨g, j, none⟩ = some (.int .i64 op)
theorem cell_keep {W W' : World} {p : Addr} {v : Value} (h : W.cell? p = some v) (ho : Only Nil W W') : W'.cell? p = some v := (ho.cell (World.block_lt_of_cell? W p h) id).trans h
theorem ListsAt.only {W W' : World} {gL : Nat} {ls : List (List Int)} (h : ListsAt W gL ls) (ho : Only Nil W W') : ListsAt W' gL ls := fun i l hi => by
  obtain ⟨g, hc, hj⟩ := h i l hi
  exact ⟨g, cell_keep hc ho, fun j op e => cell_keep (hj j op e) ho⟩
theorem Row.op {W : World} {g : Nat} {t : TypeId} {l : List Int} (h : Row W g t ((l.map (Value.int .i64)).toArray)) : ∀ (j : Nat) (op : Int), l[j]? = some op → W.cell? ⟨g, j, none⟩ = some (.int .i64 op) := fun j op e => h.cell_ (by simp [e])
end Go.Proofs.Ytaifeejciglkpaa
set_option linter.unusedVariables false
set_option linter.unusedSimpArgs false
namespace Go.Proofs.Ytaifeejciglkpaa
open Go.RowKit
theorem new_yes (n : Int) (w : World) (hn : 1 ≤ n ∧ n ≤ 64) :
    Calls Try.prog 52 #[.int .i64 n] w fun e w' => e = .returned (.tuple #[.agg #[.int .i64 n], .int .i64 0]) ∧ Only Nil w w' := by
  have HK := Lib.hid (okN_yes hn)
  clear hn
  go_enter Try.func52, Try.ntmps52
  go_wp2_with fail
  refine (isCount_any n _).mono ?_
  rw [HK.out]
  rintro e w1 ⟨rfl, rfl⟩
  go_wp2
  exact bodyPost_ret (v := .tuple #[.agg #[.int .i64 n], .int .i64 0]) (by simp [results, Try.results52, go_sem]) rfl ⟨rfl, by (repeat' (first | (with_reducible exact Only.refl _ _) | (with_reducible assumption) | (with_reducible refine Only.setCell ?_ ?_ _) | (with_reducible refine Only.drewN ?_ _) | (with_reducible refine Only.drew ?_) | (with_reducible refine Only.alloc ?_ _) | (left; simp; done) | (left; simp; omega) | (right; rfl)))⟩
end Go.Proofs.Ytaifeejciglkpaa
set_option linter.unusedVariables false
set_option linter.unusedSimpArgs false
namespace Go.Proofs.Ytaifeejciglkpaa
open Go.RowKit
theorem size_any (n : Int) (w : World) :
    Calls Try.prog 53 #[.agg #[.int .i64 n]] w fun e w' => e = .returned (.int .i64 (sizeI n)) ∧ Only Nil w w' := by
  by_cases hn : 1 ≤ n ∧ n ≤ 64
  · have hc : sizeI n = 8 + 4 * n := if_pos hn
    rw [hc]
    clear hc
    have HK := Lib.hid (okN_yes hn)
    obtain ⟨n1, n2⟩ := hn
    go_enter Try.func53, Try.ntmps53
    go_wp2_with fail
    refine (isCount_any n _).mono ?_
    rw [HK.out]
    rintro e w1 ⟨rfl, rfl⟩
    go_wp2
    go_ret
    exact ⟨rfl, by (repeat' (first | (with_reducible exact Only.refl _ _) | (with_reducible assumption) | (with_reducible refine Only.setCell ?_ ?_ _) | (with_reducible refine Only.drewN ?_ _) | (with_reducible refine Only.drew ?_) | (with_reducible refine Only.alloc ?_ _) | (left; simp; done) | (left; simp; omega) | (right; rfl)))⟩
  · have hc : sizeI n = 0 := if_neg hn
    rw [hc]
    clear hc
    have HK := Lib.hid (okN_no hn)
    clear hn
    go_enter Try.func53, Try.ntmps53
    go_wp2_with fail
    refine (isCount_any n _).mono ?_
    rw [HK.out]
    rintro e w1 ⟨rfl, rfl⟩
    go_wp2
    go_ret
    exact ⟨rfl, by (repeat' (first | (with_reducible exact Only.refl _ _) | (with_reducible assumption) | (with_reducible refine Only.setCell ?_ ?_ _) | (with_reducible refine Only.drewN ?_ _) | (with_reducible refine Only.drew ?_) | (with_reducible refine Only.alloc ?_ _) | (left; simp; done) | (left; simp; omega) | (right; rfl)))⟩
end Go.Proofs.Ytaifeejciglkpaa
namespace Go.Proofs.Ytaifeejciglkpaa
open Go.RowKit
def names1 : Array Value := #[.string ⟨#[117, 115, 101, 114, 115]⟩, .string ⟨#[114, 101, 97, 100, 115]⟩, .string ⟨#[119, 114, 105, 116, 101, 115]⟩]
def names2 : Array Value := #[.string ⟨#[114, 105, 110]⟩, .string ⟨#[114, 111, 117, 116]⟩, .string ⟨#[119, 105, 110]⟩, .string ⟨#[119, 111, 117, 116]⟩, .string ⟨#[112, 104, 97, 115, 101]⟩]
def names3 : Array Value := #[.string ⟨#[114, 105, 110]⟩, .string ⟨#[114, 111, 117, 116]⟩, .string ⟨#[116, 97, 105, 108]⟩, .string ⟨#[112, 104, 97, 115, 101]⟩]
def names4 : Array Value := #[.string ⟨#[116, 97, 105, 108]⟩, .string ⟨#[99, 111, 117, 110, 116]⟩]
def names5 : Array Value := #[.string ⟨#[119, 111, 114, 100]⟩]
def names6 : Array Value := #[.string ⟨#[119, 111, 114, 100]⟩]
def ownV (k : Int) : Array Value := if k = 1 then names1 else if k = 2 then names2 else if k = 3 then names3 else if k = 4 then names4 else if k = 5 then names5 else if k = 6 then names6 else #[]
theorem kinds {k : Int} (h : 1 ≤ k ∧ k ≤ 6) : k = 1 ∨ k = 2 ∨ k = 3 ∨ k = 4 ∨ k = 5 ∨ k = 6 := by omega
theorem name_at (k : Int) (hk : 1 ≤ k ∧ k ≤ 6) (c : Nat) (hc : c < (ownV k).size) : ∃ s, (ownV k)[c]? = some (.string s) := by
  rcases kinds hk with rfl | rfl | rfl | rfl | rfl | rfl
  · rcases (show c = 0 ∨ c = 1 ∨ c = 2 by have : c < 3 := hc; omega) with rfl | rfl | rfl <;> exact ⟨_, rfl⟩
  · rcases (show c = 0 ∨ c = 1 ∨ c = 2 ∨ c = 3 ∨ c = 4 by have : c < 5 := hc; omega) with rfl | rfl | rfl | rfl | rfl <;> exact ⟨_, rfl⟩
  · rcases (show c = 0 ∨ c = 1 ∨ c = 2 ∨ c = 3 by have : c < 4 := hc; omega) with rfl | rfl | rfl | rfl <;> exact ⟨_, rfl⟩
  · rcases (show c = 0 ∨ c = 1 by have : c < 2 := hc; omega) with rfl | rfl <;> exact ⟨_, rfl⟩
  · rcases (show c = 0 by have : c < 1 := hc; omega) with rfl; exact ⟨_, rfl⟩
  · rcases (show c = 0 by have : c < 1 := hc; omega) with rfl; exact ⟨_, rfl⟩
theorem own_size (k : Int) (hk : 1 ≤ k ∧ k ≤ 6) : 1 ≤ (ownV k).size ∧ (ownV k).size ≤ 5 := by
  rcases kinds hk with rfl | rfl | rfl | rfl | rfl | rfl <;> exact ⟨by decide, by decide⟩
def NamesAt (k : Int) (w : World) (e : Ending) (w' : World) : Prop :=
  ∃ g, e = .returned (.slice (some ⟨g, 0, none⟩) (ownV k).size (ownV k).size) ∧ w.heap.size ≤ g ∧ Row w' g 9 (ownV k) ∧ Only Nil w w'
def asIs (v : Value) : Option (DataW Value × List MemPlace) := some (.held v, [])
abbrev key (k : Int) : Lit := .int .i64 k
theorem hkeyOf (n : Int) (h : (Lit.int .i64 n).wf = true) : keyOf Try.prog 3 (.int .i64 n) = some (key n) := Maps.keyOf_int_mk Try.underlying3 h
theorem put_list {w : World} {B n : Nat} {D : DataW Value} (h : w.ownsMap Try.prog 3 asIs B n D) (hn : n < 100) (q : Int) (hq : (Lit.int .i64 q).wf = true) (cs : Array Value) (m : Nat) (g : Nat) (hg0 : w.heap.size = g) :
    ∃ w', (Instr.mapUpdate 118 (.map (some B)) (.int .i64 q) (.slice (some ⟨g, 0, none⟩) m m)).run Try.prog (w.alloc (.cells cs 9)) = .ok () w' ∧
      w'.ownsMap Try.prog 3 asIs B (n + 1) (D.put (key q) (.held (.slice (some ⟨g, 0, none⟩) m m))) ∧ Row w' g 9 cs ∧ g < w'.heap.size ∧ Only (fun i => i = B) w w' := by
  subst hg0
  obtain ⟨w', hrun, ho, hg⟩ := (h.alloc (.cells cs 9)).update (Maps.int_keyed Try.underlying3) Try.underlying118 (by unfold maxLen; omega) (hkeyOf q hq) (d := .held (.slice (some ⟨w.heap.size, 0, none⟩) m m)) (ps := []) rfl
  have hlt := h.lt
  have hsz := hg.size
  refine ⟨w', hrun, ho, ?_, by simp at hsz; omega, ((Only.refl _ _).alloc _).grown hg (fun k hk => by injection hk with hk; right; exact hk.symm)⟩
  exact (hg.block w.heap.size (by simp) (by simp; omega)).trans (Row.new w _ _)
theorem zero_list (w : World) : (zeroValue 96).run Try.prog w = .ok (.slice none 0 0) w := by kernel_rfl
def six (v1 v2 v3 v4 v5 v6 : Value) : DataW Value := ((((((DataW.map []).put (key 1) (.held v1)).put (key 2) (.held v2)).put (key 3) (.held v3)).put (key 4) (.held v4)).put (key 5) (.held v5)).put (key 6) (.held v6)
theorem six_is (v1 v2 v3 v4 v5 v6 : Value) : six v1 v2 v3 v4 v5 v6 = .map [(key 1, .held v1), (key 2, .held v2), (key 3, .held v3), (key 4, .held v4), (key 5, .held v5), (key 6, .held v6)] := by
  simp [six, DataW.put, DataW.insert, Lit.before, Lit.sameKey, key]
def pickV (k : Int) (v1 v2 v3 v4 v5 v6 : Value) : Value := if k = 1 then v1 else if k = 2 then v2 else if k = 3 then v3 else if k = 4 then v4 else if k = 5 then v5 else if k = 6 then v6 else .slice none 0 0
theorem six_at (k : Int) (v1 v2 v3 v4 v5 v6 : Value) : (six v1 v2 v3 v4 v5 v6).atKey (key k) (.held (.slice none 0 0)) = .held (pickV k v1 v2 v3 v4 v5 v6) := by
  rw [six_is]
  by_cases hk : 1 ≤ k ∧ k ≤ 6
  · rcases kinds hk with rfl | rfl | rfl | rfl | rfl | rfl <;> simp [DataW.atKey, pickV, Lit.sameKey, key]
  · have h1 : ¬ 1 = k := by omega
    have h2 : ¬ 2 = k := by omega
    have h3 : ¬ 3 = k := by omega
    have h4 : ¬ 4 = k := by omega
    have h5 : ¬ 5 = k := by omega
    have h6 : ¬ 6 = k := by omega
    simp [DataW.atKey, pickV, Lit.sameKey, key, h1, h2, h3, h4, h5, h6, Ne.symm h1, Ne.symm h2, Ne.symm h3, Ne.symm h4, Ne.symm h5, Ne.symm h6]
theorem get_list {w : World} {B n : Nat} {v1 v2 v3 v4 v5 v6 : Value} (h : w.ownsMap Try.prog 3 asIs B n (six v1 v2 v3 v4 v5 v6)) (k : Int) (hk : (Lit.int .i64 k).wf = true) :
    (Instr.lookup 118 (.map (some B)) (.int .i64 k) false).run Try.prog w = .ok (pickV k v1 v2 v3 v4 v5 v6) w := by
  obtain ⟨v, ps, hrun, hv⟩ := h.lookup (Maps.int_keyed Try.underlying3) Try.underlying118 (zero_list w) (zd := .held (.slice none 0 0)) (zp := []) rfl (hkeyOf k hk)
  rw [six_at] at hv
  simp only [asIs, Option.some.injEq, Prod.mk.injEq, DataW.held.injEq] at hv
  rw [hrun, hv.1]
def NamesIn (k : Int) (w : World) (e : Ending) (w' : World) : Prop :=
  ∃ g1 g2 g3 g4 g5 g6, e = .returned (pickV k (.slice (some ⟨g1, 0, none⟩) 3 3) (.slice (some ⟨g2, 0, none⟩) 5 5) (.slice (some ⟨g3, 0, none⟩) 4 4) (.slice (some ⟨g4, 0, none⟩) 2 2) (.slice (some ⟨g5, 0, none⟩) 1 1) (.slice (some ⟨g6, 0, none⟩) 1 1)) ∧
    w.heap.size ≤ g1 ∧ w.heap.size ≤ g2 ∧ w.heap.size ≤ g3 ∧ w.heap.size ≤ g4 ∧ w.heap.size ≤ g5 ∧ w.heap.size ≤ g6 ∧
    Row w' g1 9 names1 ∧ Row w' g2 9 names2 ∧ Row w' g3 9 names3 ∧ Row w' g4 9 names4 ∧ Row w' g5 9 names5 ∧ Row w' g6 9 names6 ∧ Only Nil w w'
set_option maxRecDepth 100000 in
set_option maxHeartbeats 1000000 in
theorem ownNames_in (k : Int) (w : World) (hk : (Lit.int .i64 k).wf = true) : Calls Try.prog 51 #[.int .i64 k] w (NamesIn k w) := by
  have HK := Lib.hid hk
  clear hk
  have hmm := @run_makeMap Try.prog
  have HO0 := Lib.hid (World.ownsMap_made w Try.prog 3 asIs)
  go_enter Try.func51, Try.ntmps51
  go_wp2_with fail
  obtain ⟨wx1, hrun, ho, hR, hz, hO⟩ := put_list HO0.out (by omega) 1 rfl names1 3 (w.heap.size+1) (by simp)
  unfold names1 at hrun
  rw [hrun]
  have HO1 := Lib.hid ho
  have HR1 := Lib.hid hR
  have HZ1 := Lib.hid hz
  have HL1 := Lib.hid hO
  clear hrun ho hR hz hO
  go_wp2_with fail
  obtain ⟨wx2, hrun, ho, hR, hz, hO⟩ := put_list HO1.out (by omega) 2 rfl names2 5 wx1.heap.size (by simp)
  unfold names2 at hrun
  rw [hrun]
  have HO2 := Lib.hid ho
  have HR2 := Lib.hid hR
  have HZ2 := Lib.hid hz
  have HL2 := Lib.hid hO
  clear hrun ho hR hz hO
  go_wp2_with fail
  obtain ⟨wx3, hrun, ho, hR, hz, hO⟩ := put_list HO2.out (by omega) 3 rfl names3 4 wx2.heap.size (by simp)
  unfold names3 at hrun
  rw [hrun]
  have HO3 := Lib.hid ho
  have HR3 := Lib.hid hR
  have HZ3 := Lib.hid hz
  have HL3 := Lib.hid hO
  clear hrun ho hR hz hO
  go_wp2_with fail
  obtain ⟨wx4, hrun, ho, hR, hz, hO⟩ := put_list HO3.out (by omega) 4 rfl names4 2 wx3.heap.size (by simp)
  unfold names4 at hrun
  rw [hrun]
  have HO4 := Lib.hid ho
  have HR4 := Lib.hid hR
  have HZ4 := Lib.hid hz
  have HL4 := Lib.hid hO
  clear hrun ho hR hz hO
  go_wp2_with fail
  obtain ⟨wx5, hrun, ho, hR, hz, hO⟩ := put_list HO4.out (by omega) 5 rfl names5 1 wx4.heap.size (by simp)
  unfold names5 at hrun
  rw [hrun]
  have HO5 := Lib.hid ho
  have HR5 := Lib.hid hR
  have HZ5 := Lib.hid hz
  have HL5 := Lib.hid hO
  clear hrun ho hR hz hO
  go_wp2_with fail
  obtain ⟨wx6, hrun, ho, hR, hz, hO⟩ := put_list HO5.out (by omega) 6 rfl names6 1 wx5.heap.size (by simp)
  unfold names6 at hrun
  rw [hrun]
  have HO6 := Lib.hid ho
  have HR6 := Lib.hid hR
  have HZ6 := Lib.hid hz
  have HL6 := Lib.hid hO
  clear hrun ho hR hz hO
  have hs1 : w.heap.size + 1 < wx1.heap.size := HZ1.out
  have HS1 := Lib.hid hs1
  clear hs1
  have HGET := Lib.hid (get_list HO6.out k HK.out)
  have hget := HGET.out
  go_wp2
  go_ret
  have l2 := HL2.out
  have l3 := HL3.out
  have l4 := HL4.out
  have l5 := HL5.out
  have l6 := HL6.out
  have z1 := HS1.out
  have z2 := l2.size
  have z3 := l3.size
  have z4 := l4.size
  have z5 := l5.size
  have hq := HL1.out
  have q0 : Only Nil w (w.alloc (.map #[] 0)) := (Only.refl _ _).alloc _
  have q1 : Only Nil w wx6 := (((((q0.step hq (fun i hi h => by omega)).step l2 (fun i hi h => by omega)).step l3 (fun i hi h => by omega)).step l4 (fun i hi h => by omega)).step l5 (fun i hi h => by omega)).step l6 (fun i hi h => by omega)
  exact ⟨_, _, _, _, _, _, rfl, by omega, by omega, by omega, by omega, by omega, by omega,
    ((((HR1.out.only l2 (by omega)).only l3 (by omega)).only l4 (by omega)).only l5 (by omega)).only l6 (by omega),
    (((HR2.out.only l3 (by omega)).only l4 (by omega)).only l5 (by omega)).only l6 (by omega),
    ((HR3.out.only l4 (by omega)).only l5 (by omega)).only l6 (by omega),
    (HR4.out.only l5 (by omega)).only l6 (by omega), HR5.out.only l6 (by omega), HR6.out, q1⟩
theorem ownNames_yes (k : Int) (w : World) (hk : 1 ≤ k ∧ k ≤ 6) : Calls Try.prog 51 #[.int .i64 k] w (NamesAt k w) := by
  have hwf : (Lit.int .i64 k).wf = true := by rcases kinds hk with rfl | rfl | rfl | rfl | rfl | rfl <;> rfl
  refine (ownNames_in k w hwf).mono fun e w' ⟨g1, g2, g3, g4, g5, g6, he, b1, b2, b3, b4, b5, b6, r1, r2, r3, r4, r5, r6, hO⟩ => ?_
  rcases kinds hk with rfl | rfl | rfl | rfl | rfl | rfl
  · exact ⟨g1, he, b1, r1, hO⟩
  · exact ⟨g2, he, b2, r2, hO⟩
  · exact ⟨g3, he, b3, r3, hO⟩
  · exact ⟨g4, he, b4, r4, hO⟩
  · exact ⟨g5, he, b5, r5, hO⟩
  · exact ⟨g6, he, b6, r6, hO⟩
end Go.Proofs.Ytaifeejciglkpaa
