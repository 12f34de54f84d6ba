import Derived.Test.YtaeninikaalkjaaG17
import Derived.Test.YtaeninikaalkjaaG14
set_option linter.unusedVariables false
set_option linter.unusedSimpArgs false
namespace Go.Proofs.Ytaeninikaalkjaa
section
variable {k t : Nat} {mode b : Int} {o : Nat} {c q tk y : Nat → Nat} {m : MV} {R : LS} {o' c' q' tk' y' : Nat} {v : Int}
theorem doA_gs (m : MV) (t : Nat) (K x z : Int) : ((m.at t).fresh.doA K 0 x z).op = (m.rs t).op ∧ ((m.at t).fresh.doA K 0 x z).line = (m.rs t).line ∧ ((m.at t).fresh.doA K 0 x z).ret = (m.rs t).ret ∧ ((m.at t).fresh.doA K 0 x z).k = (m.rs t).k ∧ ((m.at t).fresh.doA K 0 x z).s = (m.rs t).s ∧ ((m.at t).fresh.doA K 0 x z).mode = (m.rs t).mode ∧ ((m.at t).fresh.doA K 0 x z).a = (m.rs t).a ∧ ((m.at t).fresh.doA K 0 x z).xs = doNew m.xs K 0 x z := ⟨rfl, rfl, rfl, rfl, rfl, rfl, rfl, rfl⟩
theorem wtW_no {r : LS} (h1 : ¬ (r.op = 1 ∧ r.line = 2)) (h2 : ¬ (r.op = 3 ∧ r.line = 1)) : wtR wtW r = none := by
  show wtW _ _ _ _ _ _ = none
  unfold wtW
  rw [if_neg h1, if_neg h2]
theorem GC.step (C : GC k mode t b o c q tk y m) (e : Int) (p : Int → Bool) : (m.at t).fresh.stepR e p = stepI m.xs k mode t (m.rs t).s e p := by
  show stepI m.xs (m.rs t).n (m.rs t).mode (m.rs t).task (m.rs t).s e p = _
  rw [C.n.1, C.n.2.1, C.n.2.2]
theorem waitG_ways (C : GC k mode t b o c q tk y m) (e : Int) (p : Int → Bool) : (((m.at t).fresh.stepR e p).done = true ∧ ((m.rs t).s = 4 ∧ ((m.at t).fresh.stepR e p).seen = false ∨ p (wordAt m.xs e) = true ∧ ((m.at t).fresh.stepR e p).seen = true)) ∨ (((m.at t).fresh.stepR e p).done = false ∧ (m.rs t).s ≠ 4 ∧ (((m.at t).fresh.stepR e p).next = 4 → p (wordAt m.xs e) = true ∧ ((m.at t).fresh.stepR e p).seen = true)) := by
  rw [C.step]
  obtain ⟨w1, w2⟩ := waitq_facts (xs := m.xs) (n := (k : Int)) (mode := mode) (i := (t : Int)) (s := (m.rs t).s) (c := e) (q := p)
  cases hd : (stepI m.xs k mode t (m.rs t).s e p).done
  · refine .inr ⟨rfl, fun e => ?_, fun e => ⟨(w2 e).2, (w2 e).1⟩⟩
    by_cases em : mode = 2
    · subst em; rw [e, stepI_4] at hd; cases hd
    · have := C.sp em; omega
  · rcases w1 hd with ⟨e1, e⟩ | ⟨e, e1⟩
    · exact .inl ⟨rfl, .inr ⟨e, e1⟩⟩
    · exact .inl ⟨rfl, .inl ⟨e, e1⟩⟩
theorem waitG_xs (C : GC k mode t b o c q tk y m) (e : Int) (p : Int → Bool) : wordAt ((m.at t).fresh.stepR e p).xs 0 = wordAt m.xs 0 := by
  rw [C.step]
  have := C.ht
  exact own_wait (by rw [wc_at C.hk C.ht]; omega) (by rw [pc_at C.hk C.ht]; omega)
theorem GC.qt (C : GC k mode t b o c q tk y m) (h0 : q t = 0) : sumN q k < 64 := by
  have hs := sumw_set (f := q) C.ht 1
  have h1 := sumN_le (f := upd q t 1) (g := fun _ => 1) (k := k) fun i hi => by
    by_cases e : i = t
    · rw [e, upd_same]; exact Nat.le_refl _
    · rw [upd_other _ _ e]; exact (C.h.f i hi).le.2.1
  have h2 := sumN_const (c := 1) (k := k)
  have := C.hk
  omega
theorem g1_see (C : GC k mode t b o c q tk y m) {bb : Bool} (ho : (m.rs t).op = 1) (hl : (m.rs t).line = 0 ∨ (m.rs t).line = 3) (hh : m.hold t = 0) (hc : c t = 0) (hq : q t = 0) (hy : y t = 0) (hp : (m.at t).fresh.wf = (m.at t).fresh.gSee bb) : GGo k mode t b o c q tk y m (m.at t).fresh.wf := by
  rw [hp]; unfold LS.gSee
  have hs0 := C.s0 (wtW_no (by omega) (by omega))
  obtain ⟨x0, xd⟩ := gword_do C 1 0 0
  obtain ⟨f1, f2, f3, f4, f5, f6, f7, f8⟩ := doA_gs m t 1 0 0
  rw [← f8] at x0 xd
  rw [show (m.at t).fresh.xs = m.xs from rfl]
  generalize (m.at t).fresh.doA 1 0 0 0 = R0 at *
  have hx : wordAt R0.xs 0 = wordAt m.xs 0 := x0
  have hn : ∀ (A : LS), (A.noteR bb).op = A.op ∧ (A.noteR bb).ret = A.ret ∧ (A.noteR bb).k = A.k ∧ (A.noteR bb).s = A.s ∧ (A.noteR bb).xs = A.xs ∧ (A.noteR bb).a = A.a := fun A => by cases bb <;> exact ⟨rfl, rfl, rfl, rfl, rfl, rfl⟩
  obtain ⟨n1, n2, n3, n4, n5, n6⟩ := hn (R0.keepA (wordAt m.xs 0))
  generalize (R0.keepA (wordAt m.xs 0)).noteR bb = R1 at *
  have hx1 : wordAt R1.xs 0 = wordAt m.xs 0 := by rw [n5]; exact hx
  have hk0 : R1.k.on = false := by rw [n3]; show R0.k.on = false; rw [f4]; exact C.on
  have ha : R1.a = wordAt m.xs 0 := n6
  have hs1 : R1.s = 0 := by rw [n4]; show R0.s = 0; omega
  have far : ∀ e : Int, 8 + 2 * (k : Int) ≤ e → wordAt R1.xs e = wordAt m.xs e := fun e he => by rw [n5]; exact xd e (by omega)
  cases e : freeW (wordAt m.xs 0)
  · rw [if_neg Bool.false_ne_true]
    refine gw_stay C (R := R1.go 2) (op := 1) (l := 2) (n1.trans (f1.trans ho)) rfl (n2.trans (f3.trans C.ret)) (.free (.inl ⟨rfl, .inr (.inr (.inl rfl))⟩) rfl hk0 hh hc hq hy) (gw_same C.h C.ht hx1) ⟨fun _ e => by omega, fun _ _ e => ?_, fun e => by omega, fun e => by omega, fun e => by omega, fun e => by omega, fun e => by omega⟩ (fun _ _ => far) (wk_same hx1)
    have e4 : R1.s = 4 := e
    omega
  · rw [if_pos rfl]
    exact gw_stay C (R := R1.go 1) (op := 1) (l := 1) (n1.trans (f1.trans ho)) rfl (n2.trans (f3.trans C.ret)) (.free (.inl ⟨rfl, .inr (.inl rfl)⟩) rfl hk0 hh hc hq hy) (gw_same C.h C.ht hx1) ⟨fun _ _ => by show freeW R1.a = true; rw [ha]; exact e, fun _ e => by omega, fun e => by omega, fun e => by omega, fun e => by omega, fun e => by omega, fun e => by omega⟩ (fun _ _ => far) (wk_same hx1)
theorem g_cas (C : GC k mode t b o c q tk y m) {op l' d hv : Int} {R1 R2 : LS} {c1 q1 tk1 y1 : Nat} (ho : (m.rs t).op = op) (hn : wtR wtW (m.rs t) = none) (hb : behindI op 2 (m.hold t) = hv) (f : ∀ s, FW (m.hold t) op l' 0 s false (c t) (q t) (y t)) (ka : KA b o (tk t) op l' 0 (m.rs t).s (m.rs t).a)
    (hfr : freeW (m.rs t).a = true) (f1 : ∀ s, FW hv 0 0 0 s false c1 q1 y1) (gg : wordAt m.xs 0 = (m.rs t).a → sumN q k = 0 → GW k t b o c q tk y ((wordAt m.xs 0 + d) % 4294967296) o c1 q1 tk1 y1)
    (h1 : R1.op = (m.rs t).op ∧ R1.line = (m.rs t).line ∧ R1.ret = 2 ∧ R1.k = (m.rs t).k ∧ R1.xs = ((m.at t).fresh.gCas d).xs) (h2 : R2.op = (m.rs t).op ∧ R2.line = l' ∧ R2.ret = (m.rs t).ret ∧ R2.k = (m.rs t).k ∧ R2.s = (m.rs t).s ∧ R2.a = (m.rs t).a ∧ R2.xs = ((m.at t).fresh.gCas d).xs) (hp : (m.at t).fresh.wf = if (m.at t).fresh.at0 (m.at t).fresh.a then R1 else R2) : GGo k mode t b o c q tk y m (m.at t).fresh.wf := by
  rw [hp, C.at0_eq]
  obtain ⟨x0, xd⟩ := gword_do C 5 (m.rs t).a (((m.rs t).a + d) % 4294967296)
  obtain ⟨a1, a2, a3, a4, a5⟩ := h1
  obtain ⟨b1, b2, b3, b4, b5, b6, b7⟩ := h2
  have hx : ((m.at t).fresh.gCas d).xs = doNew m.xs 5 0 (m.rs t).a (((m.rs t).a + d) % 4294967296) := rfl
  rw [hx] at a5 b7
  rw [show (m.at t).fresh.a = (m.rs t).a from rfl]
  have x0' : wordAt (doNew m.xs 5 0 (m.rs t).a (((m.rs t).a + d) % 4294967296)) 0 = if wordAt m.xs 0 = (m.rs t).a then ((m.rs t).a + d) % 4294967296 else wordAt m.xs 0 := x0
  by_cases e : wordAt m.xs 0 = (m.rs t).a
  · rw [if_pos e] at x0'
    rw [if_pos (decide_eq_true e)]
    have hq0 : sumN q k = 0 := by
      have := (C.h.read C.hk).1
      rw [e, hfr] at this
      exact of_decide_eq_true this.symm
    have g := gg e hq0
    rw [← e] at x0'
    exact gw_end C (a1.trans ho) a2 a3 (by decide) hb (fun e => by rw [a4, C.on] at e; cases e) f1 (by rw [a5, ← e, x0']; exact g) (fun _ _ e he => by rw [a5]; exact xd e (by omega)) (wk_free C.hk C.h hq0)
  · rw [if_neg e] at x0'
    rw [if_neg (by simpa using e)]
    have hx1 : wordAt R2.xs 0 = wordAt m.xs 0 := by rw [b7]; exact x0'
    exact gw_stay C (b1.trans ho) b2 (b3.trans C.ret) (by rw [b4, C.on]; exact f _) (gw_same C.h C.ht hx1) (by rw [b5, b6]; exact ka) (fun _ _ e he => by rw [b7]; exact xd e (by omega)) (wk_same hx1)
theorem gcas_fs (m : MV) (t : Nat) (d : Int) : ((m.at t).fresh.gCas d).op = (m.rs t).op ∧ ((m.at t).fresh.gCas d).line = (m.rs t).line ∧ ((m.at t).fresh.gCas d).ret = (m.rs t).ret ∧ ((m.at t).fresh.gCas d).k = (m.rs t).k ∧ ((m.at t).fresh.gCas d).s = (m.rs t).s ∧ ((m.at t).fresh.gCas d).a = (m.rs t).a := ⟨rfl, rfl, rfl, rfl, rfl, rfl⟩
theorem g1_take (C : GC k mode t b o c q tk y m) (ho : (m.rs t).op = 1) (hl : (m.rs t).line = 1) (hh : m.hold t = 0) (hc : c t = 0) (hq : q t = 0) (hy : y t = 0) : GGo k mode t b o c q tk y m (m.at t).fresh.wf := by
  have K := C.h.ka t C.ht
  have hp : (m.at t).fresh.wf = (m.at t).fresh.gTake := wf_1_1 (r := (m.at t).fresh) ho hl
  unfold LS.gTake at hp
  obtain ⟨f1, f2, f3, f4, f5, f6⟩ := gcas_fs m t 1
  refine g_cas C (d := 1) (l' := 3) (R1 := (((m.at t).fresh.gCas 1).note 4 0).fin true) (R2 := ((m.at t).fresh.gCas 1).go 3) ho (wtW_no (by omega) (by omega)) (by rw [hh]; rfl) (fun s => .free (.inl ⟨rfl, .inr (.inr (.inr rfl))⟩) rfl rfl hh hc hq hy) ⟨fun _ e => by omega, fun _ e => by omega, fun e => by omega, fun e => by omega, fun e => by omega, fun e => by omega, fun e => by omega⟩ (K.r1 ho hl) (fun s => .idle1 rfl rfl rfl rfl rfl hq rfl) (fun _ h0 => gw_in C.h C.ht hc h0 rfl) ⟨f1, f2, rfl, f4, rfl⟩ ⟨f1, rfl, f3, f4, f5, f6, rfl⟩ hp
theorem g1_slip (C : GC k mode t b o c q tk y m) (ho : (m.rs t).op = 5) (hl : (m.rs t).line = 1) (hh : m.hold t = 0) (hc : c t = 0) (hq : q t = 0) (hy : y t = 0) : GGo k mode t b o c q tk y m (m.at t).fresh.wf := by
  have K := C.h.ka t C.ht
  have hp : (m.at t).fresh.wf = (m.at t).fresh.gSlip := wf_5_1 (r := (m.at t).fresh) ho hl
  unfold LS.gSlip at hp
  obtain ⟨f1, f2, f3, f4, f5, f6⟩ := gcas_fs m t 1
  exact g_cas C (d := 1) (l' := 0) (R1 := ((((m.at t).fresh.gCas 1).note 2 1).note 4 0).fin true) (R2 := ((m.at t).fresh.gCas 1).go 0) ho (wtW_no (by omega) (by omega)) (by rw [hh]; rfl) (fun s => .free (.inr (.inr ⟨.inl rfl, .inl rfl⟩)) rfl rfl hh hc hq hy) (ka_none (.inr (.inr (.inl rfl)))) (K.r5 ho hl) (fun s => .idle1 rfl rfl rfl rfl rfl hq rfl) (fun _ h0 => gw_in C.h C.ht hc h0 rfl) ⟨f1, f2, rfl, f4, rfl⟩ ⟨f1, rfl, f3, f4, f5, f6, rfl⟩ hp
theorem g1_try (C : GC k mode t b o c q tk y m) (ho : (m.rs t).op = 6) (hl : (m.rs t).line = 1) (hh : m.hold t = 0) (hc : c t = 0) (hq : q t = 0) (hy : y t = 0) : GGo k mode t b o c q tk y m (m.at t).fresh.wf := by
  have K := (C.h.ka t C.ht).r6 ho hl
  have hp : (m.at t).fresh.wf = (m.at t).fresh.gTry := wf_6_1 (r := (m.at t).fresh) ho hl
  unfold LS.gTry at hp
  obtain ⟨f1, f2, f3, f4, f5, f6⟩ := gcas_fs m t 65536
  refine g_cas C (d := 65536) (l' := 0) (R1 := ((((m.at t).fresh.gCas 65536).note 2 2).note 4 0).fin true) (R2 := ((m.at t).fresh.gCas 65536).go 0) ho (wtW_no (by omega) (by omega)) (by rw [hh]; rfl) (fun s => .free (.inr (.inr ⟨.inr rfl, .inl rfl⟩)) rfl rfl hh hc hq hy) (ka_none (.inr (.inr (.inl rfl)))) K.1 (fun s => .idle2 rfl rfl rfl rfl rfl rfl rfl) (fun e h0 => gw_try C.h C.ht ?_ h0 rfl) ⟨f1, f2, rfl, f4, rfl⟩ ⟨f1, rfl, f3, f4, f5, f6, rfl⟩ hp
  have := (C.h.read C.hk).2.1
  rw [e, K.2] at this
  omega
theorem g1_up (C : GC k mode t b o c q tk y m) (ho : (m.rs t).op = 7) (hl : (m.rs t).line = 1) (hh : m.hold t = 1) (hc : c t = 1) (hq : q t = 0) (hy : y t = 0) : GGo k mode t b o c q tk y m (m.at t).fresh.wf := by
  have K := (C.h.ka t C.ht).r7 ho hl
  have hp : (m.at t).fresh.wf = (m.at t).fresh.gUp := wf_7_1 (r := (m.at t).fresh) ho hl
  unfold LS.gUp at hp
  obtain ⟨f1, f2, f3, f4, f5, f6⟩ := gcas_fs m t 65535
  refine g_cas C (d := 65535) (l' := 0) (R1 := (((m.at t).fresh.gCas 65535).note 9 0).fin true) (R2 := ((m.at t).fresh.gCas 65535).go 0) ho (wtW_no (by omega) (by omega)) (by rw [hh]; rfl) (fun s => .up rfl (.inl rfl) rfl rfl hh hc hq hy) (ka_none (.inr (.inr (.inl rfl)))) K.1 (fun s => .idle2 rfl rfl rfl rfl rfl rfl rfl) (fun e h0 => gw_up C.h C.ht hc ?_ h0 rfl) ⟨f1, f2, rfl, f4, rfl⟩ ⟨f1, rfl, f3, f4, f5, f6, rfl⟩ hp
  have := (C.h.read C.hk).2.1
  rw [e, K.2] at this
  omega
theorem g1_look (C : GC k mode t b o c q tk y m) {op : Int} (ok : Bool) (ho : (m.rs t).op = op) (hl : (m.rs t).line = 0) (ho5 : op = 5 ∨ op = 6 ∨ op = 7) (f : ∀ s, FW (m.hold t) op 1 0 s false (c t) (q t) (y t)) (f0 : ∀ s, FW (m.hold t) 0 0 0 s false (c t) (q t) (y t)) (ka : ok = true → KA b o (tk t) op 1 0 (m.rs t).s (wordAt m.xs 0)) (hp : (m.at t).fresh.wf = (m.at t).fresh.fLook ok) : GGo k mode t b o c q tk y m (m.at t).fresh.wf := by
  rw [hp]; unfold LS.fLook
  obtain ⟨x0, xd⟩ := gword_do C 1 0 0
  obtain ⟨f1, f2, f3, f4, f5, f6, f7, f8⟩ := doA_gs m t 1 0 0
  rw [← f8] at x0 xd
  rw [show (m.at t).fresh.xs = m.xs from rfl]
  generalize (m.at t).fresh.doA 1 0 0 0 = R0 at *
  have hx : wordAt R0.xs 0 = wordAt m.xs 0 := x0
  have hk0 : R0.k.on = false := by rw [f4]; exact C.on
  cases ok
  · rw [if_neg Bool.false_ne_true]
    exact gw_end C (R := ((R0.keepA (wordAt m.xs 0)).note 5 0).fin false) (op := op) (l := 0) (ret := 1) (f1.trans ho) (f2.trans hl) rfl (by decide) (if_pos (by decide)) (fun e => by rw [show R0.k.on = true from e] at hk0; cases hk0) f0 (gw_same C.h C.ht hx) (fun _ _ e he => xd e (by omega)) (wk_same hx)
  · rw [if_pos rfl]
    exact gw_stay C (R := (R0.keepA (wordAt m.xs 0)).go 1) (op := op) (l := 1) (f1.trans ho) rfl (f3.trans C.ret) (by show FW _ _ _ _ _ R0.k.on _ _ _; rw [hk0]; exact f _) (gw_same C.h C.ht hx) (by show KA _ _ _ _ _ _ R0.s _; rw [f5]; exact ka rfl) (fun _ _ e he => xd e (by omega)) (wk_same hx)
theorem g1_load (C : GC k mode t b o c q tk y m) {op : Int} (ho : (m.rs t).op = op) (hl : (m.rs t).line = 0) (ho4 : op = 4 ∨ op = 8) (f : ∀ s, FW (m.hold t) op 1 0 s false (c t) (q t) (y t)) (hp : (m.at t).fresh.wf = (m.at t).fresh.gLoad) : GGo k mode t b o c q tk y m (m.at t).fresh.wf := by
  rw [hp]; unfold LS.gLoad
  obtain ⟨x0, xd⟩ := gword_do C 1 0 0
  obtain ⟨f1, f2, f3, f4, f5, f6, f7, f8⟩ := doA_gs m t 1 0 0
  rw [← f8] at x0 xd
  rw [show (m.at t).fresh.xs = m.xs from rfl]
  generalize (m.at t).fresh.doA 1 0 0 0 = R0 at *
  have hx : wordAt R0.xs 0 = wordAt m.xs 0 := x0
  have hk0 : R0.k.on = false := by rw [f4]; exact C.on
  exact gw_stay C (R := (R0.keepA (wordAt m.xs 0)).go 1) (op := op) (l := 1) (f1.trans ho) rfl (f3.trans C.ret) (by show FW _ _ _ _ _ R0.k.on _ _ _; rw [hk0]; exact f _) (gw_same C.h C.ht hx) ⟨fun e => by omega, fun e => by omega, fun e => by omega, fun e => by omega, fun e => by omega, fun e => by omega, fun _ _ _ => (C.h.read C.hk).2.2.1⟩ (fun _ _ e he => xd e (by omega)) (wk_same hx)
theorem g1_dep (C : GC k mode t b o c q tk y m) (ho : (m.rs t).op = 2) (hl : (m.rs t).line = 0) (hh : m.hold t = 0) (hc : c t = 1) (hq : q t = 0) (hy : y t = 0) : GGo k mode t b o c q tk y m (m.at t).fresh.wf := by
  rw [wf_2_0 (r := (m.at t).fresh) ho hl]; unfold LS.fGo
  obtain ⟨x0, xd⟩ := gword_do C 3 4294967295 0
  obtain ⟨f1, f2, f3, f4, f5, f6, f7, f8⟩ := doA_gs m t 3 4294967295 0
  rw [← f8] at x0 xd
  generalize (m.at t).fresh.doA 3 0 4294967295 0 = R0 at *
  have hx : wordAt R0.xs 0 = (4294967295 + wordAt m.xs 0) % 4294967296 := x0
  exact gw_end C (R := ((R0.note 6 0).wake 0).fin true) (op := 2) (l := 0) (ret := 2) (hv := 0) (f1.trans ho) (f2.trans hl) rfl (by decide) (by rw [hh]; rfl) (fun e => ⟨.gone (.inl rfl) rfl rfl hh rfl hq rfl, .inl rfl⟩) (fun s => .idle0 rfl rfl rfl rfl rfl hq rfl) (gw_out C.h C.ht hc hx) (fun _ _ e he => xd e (by omega)) (.inl (by show beginI R0.mode 0 = _; rw [f6, C.n.2.1]))
theorem g1_leave (C : GC k mode t b o c q tk y m) (ho : (m.rs t).op = 4) (hl : (m.rs t).line = 1) (hh : m.hold t = 0) (hc : c t = 0) (hq : q t = 1) (hy : y t = 1) : GGo k mode t b o c q tk y m (m.at t).fresh.wf := by
  have K := (C.h.ka t C.ht).r4 (.inl ho) hl C.ret
  rw [wf_4_1 (r := (m.at t).fresh) ho hl]; unfold LS.gLeave
  rw [show (m.at t).fresh.a = (m.rs t).a from rfl]
  obtain ⟨x0, xd⟩ := gword_do C 3 (nextO (m.rs t).a) 0
  obtain ⟨f1, f2, f3, f4, f5, f6, f7, f8⟩ := doA_gs m t 3 (nextO (m.rs t).a) 0
  rw [← f8] at x0 xd
  generalize (m.at t).fresh.doA 3 0 (nextO (m.rs t).a) 0 = R0 at *
  have hx : wordAt R0.xs 0 = (nextO (m.rs t).a + wordAt m.xs 0) % 4294967296 := x0
  exact gw_end C (R := (((R0.note 7 0).note 8 0).wake 0).fin true) (op := 4) (l := 1) (ret := 2) (hv := 0) (f1.trans ho) (f2.trans hl) rfl (by decide) (by rw [hh]; rfl) (fun e => ⟨.gone (.inr rfl) rfl rfl hh rfl rfl rfl, .inr (.inl rfl)⟩) (fun s => .idle0 rfl rfl rfl rfl rfl rfl rfl) (gw_leave C.h C.ht hc hq hy K hx) (fun _ _ e he => xd e (by omega)) (.inl (by show beginI R0.mode 0 = _; rw [f6, C.n.2.1]))
theorem g1_down (C : GC k mode t b o c q tk y m) (ho : (m.rs t).op = 8) (hl : (m.rs t).line = 1) (hh : m.hold t = 1) (hc : c t = 0) (hq : q t = 1) (hy : y t = 1) : GGo k mode t b o c q tk y m (m.at t).fresh.wf := by
  have K := (C.h.ka t C.ht).r4 (.inr ho) hl C.ret
  rw [wf_8_1 (r := (m.at t).fresh) ho hl]; unfold LS.gDown
  rw [show (m.at t).fresh.a = (m.rs t).a from rfl]
  obtain ⟨x0, xd⟩ := gword_do C 3 ((nextO (m.rs t).a + 1) % 4294967296) 0
  obtain ⟨f1, f2, f3, f4, f5, f6, f7, f8⟩ := doA_gs m t 3 ((nextO (m.rs t).a + 1) % 4294967296) 0
  rw [← f8] at x0 xd
  generalize (m.at t).fresh.doA 3 0 ((nextO (m.rs t).a + 1) % 4294967296) 0 = R0 at *
  have hx : wordAt R0.xs 0 = ((nextO (m.rs t).a + 1) % 4294967296 + wordAt m.xs 0) % 4294967296 := x0
  exact gw_end C (R := ((R0.note 10 0).wake 0).fin true) (op := 8) (l := 1) (ret := 2) (hv := 1) (f1.trans ho) (f2.trans hl) rfl (by decide) (by rw [hh]; rfl) (fun e => ⟨.downed rfl rfl rfl hh rfl rfl rfl, .inr (.inr rfl)⟩) (fun s => .idle1 rfl rfl rfl rfl rfl rfl rfl) (gw_down C.h C.ht hc hq hy K hx) (fun _ _ e he => xd e (by omega)) (.inl (by show beginI R0.mode 0 = _; rw [f6, C.n.2.1]))
theorem g1_come (C : GC k mode t b o c q tk y m) (ho : (m.rs t).op = 3) (hl : (m.rs t).line = 0) (hh : m.hold t = 0) (hc : c t = 0) (hq : q t = 0) (hy : y t = 0) : GGo k mode t b o c q tk y m (m.at t).fresh.wf := by
  rw [wf_3_0 (r := (m.at t).fresh) ho hl]; unfold LS.gCome
  have hs0 := C.s0 (wtW_no (by omega) (by omega))
  obtain ⟨x0, xd⟩ := gword_do C 3 65536 0
  obtain ⟨f1, f2, f3, f4, f5, f6, f7, f8⟩ := doA_gs m t 3 65536 0
  rw [← f8] at x0 xd
  rw [show (m.at t).fresh.xs = m.xs from rfl]
  generalize (m.at t).fresh.doA 3 0 65536 0 = R0 at *
  have hx : wordAt R0.xs 0 = (65536 + wordAt m.xs 0) % 4294967296 := x0
  have hk0 : R0.k.on = false := by rw [f4]; exact C.on
  refine gw_stay C (R := ((R0.keepA (wordAt m.xs 0)).note 2 2).go 1) (op := 3) (l := 1) (f1.trans ho) rfl (f3.trans C.ret) (.adm rfl rfl rfl hk0 hh rfl rfl ?_) (gw_draw C.h C.ht hc hq hx) ⟨fun e => by omega, fun e => by omega, fun e => by omega, fun e => by omega, fun e => by omega, fun _ _ => (C.h.read C.hk).2.2.2, fun e => by omega⟩ (fun _ _ e he => xd e (by omega)) (wk_draw C.hk C.h (C.qt hq) hx)
  rw [if_neg (by show ¬ R0.s = 4; omega)]
theorem g1_adm (C : GC k mode t b o c q tk y m) (ho : (m.rs t).op = 3) (hl : (m.rs t).line = 1) (hh : m.hold t = 0) (hc : c t = 0) (hq : q t = 1) (hy : y t = if (m.rs t).s = 4 then 1 else 0) : GGo k mode t b o c q tk y m (m.at t).fresh.wf := by
  have K := (C.h.ka t C.ht).r3 ho hl
  have hw : wtR wtW (m.rs t) = some (0, turnW (iF (m.rs t).a)) := by
    show wtW _ _ _ _ _ _ = _
    unfold wtW
    rw [if_neg (by omega), if_pos ⟨ho, hl⟩]
  rw [wf_3_1 (r := (m.at t).fresh) ho hl]; unfold LS.pAdmit
  rw [show (m.at t).fresh.a = (m.rs t).a from rfl]
  have hr := C.h.tr t C.ht hq
  have hsm := C.h.small
  have hk := C.hk
  have turn : turnW (iF (m.rs t).a) (wordAt m.xs 0) = true → tk t = o ∧ sumN c k = 0 := fun e => by
    rw [K, C.h.w, wv_turn (by omega) hr.1 (by omega)] at e
    exact of_decide_eq_true e
  have ways := waitG_ways C 0 (turnW (iF (m.rs t).a))
  have hx := waitG_xs C 0 (turnW (iF (m.rs t).a))
  have adm : (m.rs t).s = 4 ∨ turnW (iF (m.rs t).a) (wordAt m.xs 0) = true → tk t = o ∧ sumN c k = 0 := fun e => by
    rcases e with e | e
    · rw [if_pos e] at hy
      exact C.h.y1 t C.ht hy
    · exact turn e
  obtain ⟨_, _, _, f4, f5, f6, f7, f8, _, f9, f10⟩ := wait_fw (r := (m.at t).fresh) 0 (turnW (iF (m.rs t).a))
  have f4' : ((m.at t).fresh.wait 0 (turnW (iF (m.rs t).a))).op = (m.rs t).op := f4
  have f5' : ((m.at t).fresh.wait 0 (turnW (iF (m.rs t).a))).line = (m.rs t).line := f5
  have f6' : ((m.at t).fresh.wait 0 (turnW (iF (m.rs t).a))).ret = (m.rs t).ret := f6
  have f7' : ((m.at t).fresh.wait 0 (turnW (iF (m.rs t).a))).k = (m.rs t).k := f7
  have f8' : ((m.at t).fresh.wait 0 (turnW (iF (m.rs t).a))).a = (m.rs t).a := f8
  generalize (m.at t).fresh.wait 0 (turnW (iF (m.rs t).a)) = R0 at f9 f10 f4' f5' f6' f7' f8' ⊢
  generalize (m.at t).fresh.stepR 0 (turnW (iF (m.rs t).a)) = S at *
  obtain ⟨⟨_, _, _, g4, g5⟩, g6, g7, g8, g9, _, g10⟩ := noteIf_fw R0 S.seen 4
  generalize R0.noteIf S.seen 4 = R1 at *
  have hx1 : wordAt R1.xs 0 = wordAt m.xs 0 := by rw [g10, f10]; exact hx
  have hk1 : R1.k.on = false := by rw [g8, f7']; exact C.on
  have far : ∀ (R : LS), (m.rs t).k.on = false → wtR wtW (m.rs t) = none → ∀ e : Int, 8 + 2 * (k : Int) ≤ e → wordAt R.xs e = wordAt m.xs e := fun R _ e => by rw [hw] at e; cases e
  rcases ways with ⟨hdn, e⟩ | ⟨hdn, e4, e⟩
  · rw [hdn, if_pos rfl]
    obtain ⟨a1, a2⟩ := adm (e.elim (fun e => .inl e.1) (fun e => .inr e.1))
    exact gw_end C (R := R1.fin true) (op := 3) (l := 1) (ret := 2) (hv := 2) (g4.trans (f4'.trans ho)) (g6.trans (f5'.trans hl)) rfl (by decide) (by rw [hh]; rfl) (fun e => by rw [show R1.k.on = true from e] at hk1; cases hk1) (fun s => .idle2 rfl rfl rfl rfl hc hq rfl) (gw_seen C.h hx1 a1 a2) (far _) (wk_same hx1)
  · rw [hdn, if_neg Bool.false_ne_true]
    have hs : R1.s = S.next := g5.trans f9
    rw [if_neg e4] at hy
    have ka : KA b o (tk t) 3 1 0 R1.s R1.a := ⟨fun e => by omega, fun e => by omega, fun e => by omega, fun e => by omega, fun e => by omega, fun _ _ => by rw [g9, f8']; exact K, fun e => by omega⟩
    by_cases en : S.next = 4
    · obtain ⟨a1, a2⟩ := adm (.inr (e en).1)
      exact gw_stay C (R := R1) (op := 3) (l := 1) (g4.trans (f4'.trans ho)) (g6.trans (f5'.trans hl)) (g7.trans (f6'.trans C.ret)) (.adm rfl rfl rfl hk1 hh hc hq (by rw [hs, if_pos en])) (gw_seen C.h hx1 a1 a2) ka (far _) (wk_same hx1)
    · exact gw_stay C (R := R1) (op := 3) (l := 1) (g4.trans (f4'.trans ho)) (g6.trans (f5'.trans hl)) (g7.trans (f6'.trans C.ret)) (.adm rfl rfl rfl hk1 hh hc hq (by rw [hs, if_neg en]; exact hy)) (gw_same C.h C.ht hx1) ka (far _) (wk_same hx1)
theorem seeW_fw (r : LS) : r.seeW.op = r.op ∧ r.seeW.line = r.line ∧ r.seeW.ret = r.ret ∧ r.seeW.k = r.k ∧ r.seeW.b = r.b ∧ r.seeW.s = (r.stepR 0 freeW).next ∧ r.seeW.xs = (r.stepR 0 freeW).xs ∧ r.seeW.a = (if (r.stepR 0 freeW).seen then wordAt r.xs 0 else r.a) := by
  unfold LS.seeW
  obtain ⟨_, _, _, f4, f5, f6, f7, f8, fb, f9, f10⟩ := wait_fw (r := r) 0 freeW
  generalize r.wait 0 freeW = R0 at *
  cases (r.stepR 0 freeW).seen
  · rw [if_neg Bool.false_ne_true, if_neg Bool.false_ne_true]
    exact ⟨f4, f5, f6, f7, fb, f9, f10, f8⟩
  · rw [if_pos rfl, if_pos rfl]
    exact ⟨f4, f5, f6, f7, fb, f9, f10, rfl⟩
theorem g1_wait (C : GC k mode t b o c q tk y m) (ho : (m.rs t).op = 1) (hl : (m.rs t).line = 2) (hh : m.hold t = 0) (hc : c t = 0) (hq : q t = 0) (hy : y t = 0) : GGo k mode t b o c q tk y m (m.at t).fresh.wf := by
  have K := (C.h.ka t C.ht).r2 ho hl
  have hw : wtR wtW (m.rs t) = some (0, freeW) := if_pos ⟨ho, hl⟩
  rw [wf_1_2 (r := (m.at t).fresh) ho hl]; unfold LS.gWait
  have ways := waitG_ways C 0 freeW
  have hx := waitG_xs C 0 freeW
  obtain ⟨f4, f5, f6, f7, _, f9, f10, f11⟩ := seeW_fw (m.at t).fresh
  have f4' : (m.at t).fresh.seeW.op = (m.rs t).op := f4
  have f5' : (m.at t).fresh.seeW.line = (m.rs t).line := f5
  have f6' : (m.at t).fresh.seeW.ret = (m.rs t).ret := f6
  have f7' : (m.at t).fresh.seeW.k = (m.rs t).k := f7
  have f11' : (m.at t).fresh.seeW.a = if ((m.at t).fresh.stepR 0 freeW).seen then wordAt m.xs 0 else (m.rs t).a := f11
  generalize (m.at t).fresh.seeW = R1 at *
  generalize (m.at t).fresh.stepR 0 freeW = S at *
  have hx1 : wordAt R1.xs 0 = wordAt m.xs 0 := by rw [f10]; exact hx
  have hk1 : R1.k.on = false := by rw [f7']; exact C.on
  have far : ∀ (R : LS), (m.rs t).k.on = false → wtR wtW (m.rs t) = none → ∀ e : Int, 8 + 2 * (k : Int) ≤ e → wordAt R.xs e = wordAt m.xs e := fun R _ e => by rw [hw] at e; cases e
  rcases ways with ⟨hdn, e⟩ | ⟨hdn, e4, e⟩
  · rw [hdn, if_pos rfl]
    have ha : freeW R1.a = true := by
      rw [f11']
      rcases e with ⟨e1, e2⟩ | ⟨e1, e2⟩
      · rw [e2, if_neg Bool.false_ne_true]; exact K e1
      · rw [e2, if_pos rfl]; exact e1
    exact gw_stay C (R := R1.go 1) (op := 1) (l := 1) (f4'.trans ho) rfl (f6'.trans C.ret) (.free (.inl ⟨rfl, .inr (.inl rfl)⟩) rfl hk1 hh hc hq hy) (gw_same C.h C.ht hx1) ⟨fun _ _ => ha, fun _ e => by omega, fun e => by omega, fun e => by omega, fun e => by omega, fun e => by omega, fun e => by omega⟩ (far _) (wk_same hx1)
  · rw [hdn, if_neg Bool.false_ne_true]
    refine gw_stay C (R := R1) (op := 1) (l := 2) (f4'.trans ho) (f5'.trans hl) (f6'.trans C.ret) (.free (.inl ⟨rfl, .inr (.inr (.inl rfl))⟩) rfl hk1 hh hc hq hy) (gw_same C.h C.ht hx1) ⟨fun _ e => by omega, fun _ _ e5 => ?_, fun e => by omega, fun e => by omega, fun e => by omega, fun e => by omega, fun e => by omega⟩ (far _) (wk_same hx1)
    obtain ⟨a1, a2⟩ := e (by rw [← f9]; exact e5)
    rw [f11', a2, if_pos rfl]; exact a1
end
end Go.Proofs.Ytaeninikaalkjaa
set_option linter.unusedVariables false
set_option linter.unusedSimpArgs false
namespace Go.Proofs.Ytaeninikaalkjaa
theorem wtW_like {r r' : LS} (h3 : r'.op = r.op) (h4 : r'.line = r.line) (h5 : r.op = 3 → r'.a = r.a) : wtR wtW r' = wtR wtW r := by
  show wtW _ _ _ _ _ _ = wtW _ _ _ _ _ _
  unfold wtW
  rw [h3, h4]
  by_cases e : r.op = 1 ∧ r.line = 2
  · rw [if_pos e, if_pos e]
  · rw [if_neg e, if_neg e]
    by_cases e2 : r.op = 3 ∧ r.line = 1
    · rw [if_pos e2, if_pos e2, h5 e2.1]
    · rw [if_neg e2, if_neg e2]
theorem waitW_admit (r : LS) (e : Int) (p : Int → Bool) : WaitLn wtW r (r.pAdmit e p) e p := by
  unfold LS.pAdmit
  obtain ⟨f1, f2, f3, f4, f5, f6, f7, f8, fb, f9, f10⟩ := wait_fw (r := r) e p
  generalize r.wait e p = R0 at *
  obtain ⟨⟨h1, h2, h3, g4, g5⟩, g6, g7, g8, g9, gb, g10⟩ := noteIf_fw R0 (r.stepR e p).seen 4
  generalize R0.noteIf (r.stepR e p).seen 4 = R at *
  cases hd : (r.stepR e p).done
  · rw [if_neg Bool.false_ne_true]
    exact ⟨g10.trans f10, g5.trans f9, g8.trans f7, gb.trans fb, fun _ => g9.trans f8, fun _ => ⟨g6.trans f5, g7.trans f6, wtW_like (g4.trans f4) (g6.trans f5) (fun _ => g9.trans f8)⟩⟩
  · rw [if_pos rfl]
    exact ⟨g10.trans f10, g5.trans f9, g8.trans f7, gb.trans fb, fun _ => g9.trans f8, fun e => by rw [hd] at e; cases e⟩
theorem lines_wf : LinesQ LS.wf wtW where
  cB r e p h h1 h2 h3 := by rcases wtW_cases h with ⟨_, _, rfl, _⟩ | ⟨_, _, rfl, _⟩ <;> omega
  op0 r h := wtW_no (by omega) (by omega)
  line0 r h := wtW_no (by omega) (by omega)
  same r := by
    have h := good_wf (r := r)
    exact ⟨h.n, h.mode, h.task, h.op, h.len⟩
  wait r e p hon h := by
    rcases wtW_cases h with ⟨ho, hl, rfl, rfl⟩ | ⟨ho, hl, rfl, rfl⟩
    · rw [wf_1_2 ho hl]
      unfold LS.gWait
      obtain ⟨f4, f5, f6, f7, fb, f9, f10, f11⟩ := seeW_fw r
      generalize r.seeW = R at *
      have ha : (r.stepR 0 freeW).seen = false → R.a = r.a := fun e => by rw [f11, e, if_neg Bool.false_ne_true]
      cases hd : (r.stepR 0 freeW).done
      · rw [if_neg Bool.false_ne_true]
        exact ⟨f10, f9, f7, fb, ha, fun _ => ⟨f5, f6, wtW_like f4 f5 (fun e => by omega)⟩⟩
      · rw [if_pos rfl]
        exact ⟨f10, f9, f7, fb, ha, fun e => by rw [hd] at e; cases e⟩
    · rw [wf_3_1 ho hl]; exact waitW_admit r 0 _
section
variable {k t : Nat} {mode b : Int} {o : Nat} {c q tk y : Nat → Nat} {m : MV} {R : LS}
theorem GC_mk (hk : k ≤ 64) (hg : GenQ wtW k mode m) (h : GI k b o c q tk y m) (ht : t < k) (hon : (m.rs t).k.on = false) : GC k mode t b o c q tk y m := by
  have hs0 : wtR wtW (m.rs t) = none → (m.rs t).s = 0 := fun e => by
    by_cases e2 : (m.rs t).s = 0
    · exact e2
    · obtain ⟨⟨c', q', e3⟩, _⟩ := hg.sw t ht e2
      rw [e] at e3; cases e3
  exact ⟨hk, h, ht, hg.len, hg.cst t ht, hon, hs0, hg.sp t ht, hg.rt t ht hon⟩
theorem wf_mv (C : GC k mode t b o c q tk y m) (hop : (m.rs t).op ≠ 0) : GGo k mode t b o c q tk y m (m.at t).fresh.wf := by
  have F := C.h.f t C.ht
  obtain ⟨rd1, rd2, _, _⟩ := C.h.read C.hk
  cases F with
  | idle0 ho => exact absurd ho hop
  | idle1 ho => exact absurd ho hop
  | idle2 ho => exact absurd ho hop
  | free ho hr hon hh hc hq hy =>
    rcases ho with ⟨ho, hl | hl | hl | hl⟩ | ⟨ho, hl⟩ | ⟨ho | ho, hl | hl⟩
    · exact g1_see C (bb := true) ho (.inl hl) hh hc hq hy (wf_1_0 (r := (m.at t).fresh) ho hl)
    · exact g1_take C ho hl hh hc hq hy
    · exact g1_wait C ho hl hh hc hq hy
    · exact g1_see C (bb := false) ho (.inr hl) hh hc hq hy (wf_1_3 (r := (m.at t).fresh) ho hl)
    · exact g1_come C ho hl hh hc hq hy
    · exact g1_look C (op := 5) (freeW (wordAt m.xs 0)) ho hl (.inl rfl) (fun s => .free (.inr (.inr ⟨.inl rfl, .inr rfl⟩)) rfl rfl hh hc hq hy) (fun s => .idle0 rfl rfl rfl hh hc hq hy) (fun e => ⟨fun e => by omega, fun e => by omega, fun _ _ => e, fun e => by omega, fun e => by omega, fun e => by omega, fun e => by omega⟩) (wf_5_0 (r := (m.at t).fresh) ho hl)
    · exact g1_slip C ho hl hh hc hq hy
    · exact g1_look C (op := 6) (freeW (wordAt m.xs 0) && rF (wordAt m.xs 0) == 0) ho hl (.inr (.inl rfl)) (fun s => .free (.inr (.inr ⟨.inr rfl, .inr rfl⟩)) rfl rfl hh hc hq hy) (fun s => .idle0 rfl rfl rfl hh hc hq hy) (fun e => ⟨fun e => by omega, fun e => by omega, fun e => by omega, fun _ _ => by simpa using e, fun e => by omega, fun e => by omega, fun e => by omega⟩) (wf_6_0 (r := (m.at t).fresh) ho hl)
    · exact g1_try C ho hl hh hc hq hy
  | adm ho hl hr hon hh hc hq hy => exact g1_adm C ho hl hh hc hq hy
  | dep ho hl hr hon hh hc hq hy => exact g1_dep C ho hl hh hc hq hy
  | gone ho hr hon' => have := C.on; rw [hon'] at this; cases this
  | leave ho hl hr hon hh hc hq hy =>
    rcases hl with hl | hl
    · exact g1_load C (op := 4) ho hl (.inl rfl) (fun s => .leave rfl (.inr rfl) rfl rfl hh hc hq hy) (wf_4_0 (r := (m.at t).fresh) ho hl)
    · exact g1_leave C ho hl hh hc hq hy
  | up ho hl hr hon hh hc hq hy =>
    rcases hl with hl | hl
    · exact g1_look C (op := 7) (freeW (wordAt m.xs 0) && rF (wordAt m.xs 0) == 1) ho hl (.inr (.inr rfl)) (fun s => .up rfl (.inr rfl) rfl rfl hh hc hq hy) (fun s => .idle1 rfl rfl rfl hh hc hq hy) (fun e => ⟨fun e => by omega, fun e => by omega, fun e => by omega, fun e => by omega, fun _ _ => by simpa using e, fun e => by omega, fun e => by omega⟩) (wf_7_0 (r := (m.at t).fresh) ho hl)
    · exact g1_up C ho hl hh hc hq hy
  | down ho hl hr hon hh hc hq hy =>
    rcases hl with hl | hl
    · exact g1_load C (op := 8) ho hl (.inr rfl) (fun s => .down rfl (.inr rfl) rfl rfl hh hc hq hy) (wf_8_0 (r := (m.at t).fresh) ho hl)
    · exact g1_down C ho hl hh hc hq hy
  | downed ho hr hon' => have := C.on; rw [hon'] at this; cases this
theorem plain_wf (C : GC k mode t b o c q tk y m) (hop : (m.rs t).op ≠ 0) (hw : wtR wtW (m.rs t) = none) : (m.at t).fresh.wf.s = (m.at t).fresh.s ∧ ((m.at t).fresh.wf.k = (m.at t).fresh.k ∨ ∃ e, (m.at t).fresh.wf.k = beginI (m.at t).fresh.mode e) := by
  have F := C.h.f t C.ht
  have n1 : ¬ ((m.rs t).op = 1 ∧ (m.rs t).line = 2) := fun e => by
    have : wtR wtW (m.rs t) = some (0, freeW) := if_pos e
    rw [hw] at this; cases this
  have n2 : ¬ ((m.rs t).op = 3 ∧ (m.rs t).line = 1) := fun e => by
    have : wtR wtW (m.rs t) = some (0, turnW (iF (m.rs t).a)) := by
      show wtW _ _ _ _ _ _ = _
      unfold wtW
      rw [if_neg (by omega), if_pos e]
    rw [hw] at this; cases this
  have pl : ∀ K x z, ((m.at t).fresh.doA K 0 x z).s = (m.at t).fresh.s ∧ ((m.at t).fresh.doA K 0 x z).k = (m.at t).fresh.k ∧ ((m.at t).fresh.doA K 0 x z).mode = (m.at t).fresh.mode := fun K x z => ⟨rfl, rfl, rfl⟩
  have pc : ∀ d, ((m.at t).fresh.gCas d).s = (m.at t).fresh.s ∧ ((m.at t).fresh.gCas d).k = (m.at t).fresh.k := fun d => ⟨rfl, rfl⟩
  have look : ∀ ok, ((m.at t).fresh.fLook ok).s = (m.at t).fresh.s ∧ (((m.at t).fresh.fLook ok).k = (m.at t).fresh.k ∨ ∃ e, ((m.at t).fresh.fLook ok).k = beginI (m.at t).fresh.mode e) := fun ok => by
    unfold LS.fLook
    obtain ⟨f1, f2, _⟩ := pl 1 0 0
    generalize (m.at t).fresh.doA 1 0 0 0 = R0 at *
    split
    · exact ⟨f1, .inl f2⟩
    · exact ⟨f1, .inl f2⟩
  have see : ∀ bb, ((m.at t).fresh.gSee bb).s = (m.at t).fresh.s ∧ (((m.at t).fresh.gSee bb).k = (m.at t).fresh.k ∨ ∃ e, ((m.at t).fresh.gSee bb).k = beginI (m.at t).fresh.mode e) := fun bb => by
    unfold LS.gSee
    obtain ⟨f1, f2, _⟩ := pl 1 0 0
    generalize (m.at t).fresh.doA 1 0 0 0 = R0 at *
    have hn : ∀ A : LS, (A.noteR bb).s = A.s ∧ (A.noteR bb).k = A.k := fun A => by cases bb <;> exact ⟨rfl, rfl⟩
    obtain ⟨n1, n2⟩ := hn (R0.keepA (wordAt (m.at t).fresh.xs 0))
    generalize (R0.keepA (wordAt (m.at t).fresh.xs 0)).noteR bb = R1 at *
    split
    · exact ⟨n1.trans f1, .inl (n2.trans f2)⟩
    · exact ⟨n1.trans f1, .inl (n2.trans f2)⟩
  have load : (m.at t).fresh.gLoad.s = (m.at t).fresh.s ∧ ((m.at t).fresh.gLoad.k = (m.at t).fresh.k ∨ ∃ e, (m.at t).fresh.gLoad.k = beginI (m.at t).fresh.mode e) := ⟨rfl, .inl rfl⟩
  cases F with
  | idle0 ho => exact absurd ho hop
  | idle1 ho => exact absurd ho hop
  | idle2 ho => exact absurd ho hop
  | free ho =>
    rcases ho with ⟨ho, hl | hl | hl | hl⟩ | ⟨ho, hl⟩ | ⟨ho | ho, hl | hl⟩
    · rw [wf_1_0 (r := (m.at t).fresh) ho hl]; exact see _
    · rw [wf_1_1 (r := (m.at t).fresh) ho hl]; unfold LS.gTake
      obtain ⟨f1, f2⟩ := pc 1
      generalize (m.at t).fresh.gCas 1 = R0 at *
      split
      · exact ⟨f1, .inl f2⟩
      · exact ⟨f1, .inl f2⟩
    · exact absurd ⟨ho, hl⟩ n1
    · rw [wf_1_3 (r := (m.at t).fresh) ho hl]; exact see _
    · rw [wf_3_0 (r := (m.at t).fresh) ho hl]; exact ⟨rfl, .inl rfl⟩
    · rw [wf_5_0 (r := (m.at t).fresh) ho hl]; exact look _
    · rw [wf_5_1 (r := (m.at t).fresh) ho hl]; unfold LS.gSlip
      obtain ⟨f1, f2⟩ := pc 1
      generalize (m.at t).fresh.gCas 1 = R0 at *
      split
      · exact ⟨f1, .inl f2⟩
      · exact ⟨f1, .inl f2⟩
    · rw [wf_6_0 (r := (m.at t).fresh) ho hl]; exact look _
    · rw [wf_6_1 (r := (m.at t).fresh) ho hl]; unfold LS.gTry
      obtain ⟨f1, f2⟩ := pc 65536
      generalize (m.at t).fresh.gCas 65536 = R0 at *
      split
      · exact ⟨f1, .inl f2⟩
      · exact ⟨f1, .inl f2⟩
  | adm ho hl => exact absurd ⟨ho, hl⟩ n2
  | dep ho hl =>
    rw [wf_2_0 (r := (m.at t).fresh) ho hl]; unfold LS.fGo
    obtain ⟨f1, f2, f3⟩ := pl 3 4294967295 0
    generalize (m.at t).fresh.doA 3 0 4294967295 0 = R0 at *
    exact ⟨f1, .inr ⟨0, by rw [← f3]; rfl⟩⟩
  | gone ho hr hon' => have := C.on; rw [hon'] at this; cases this
  | leave ho hl =>
    rcases hl with hl | hl
    · rw [wf_4_0 (r := (m.at t).fresh) ho hl]; exact load
    · rw [wf_4_1 (r := (m.at t).fresh) ho hl]; unfold LS.gLeave
      obtain ⟨f1, f2, f3⟩ := pl 3 (nextO (m.at t).fresh.a) 0
      generalize (m.at t).fresh.doA 3 0 (nextO (m.at t).fresh.a) 0 = R0 at *
      exact ⟨f1, .inr ⟨0, by rw [← f3]; rfl⟩⟩
  | up ho hl =>
    rcases hl with hl | hl
    · rw [wf_7_0 (r := (m.at t).fresh) ho hl]; exact look _
    · rw [wf_7_1 (r := (m.at t).fresh) ho hl]; unfold LS.gUp
      obtain ⟨f1, f2⟩ := pc 65535
      generalize (m.at t).fresh.gCas 65535 = R0 at *
      split
      · exact ⟨f1, .inl f2⟩
      · exact ⟨f1, .inl f2⟩
  | down ho hl =>
    rcases hl with hl | hl
    · rw [wf_8_0 (r := (m.at t).fresh) ho hl]; exact load
    · rw [wf_8_1 (r := (m.at t).fresh) ho hl]; unfold LS.gDown
      obtain ⟨f1, f2, f3⟩ := pl 3 ((nextO (m.at t).fresh.a + 1) % 4294967296) 0
      generalize (m.at t).fresh.doA 3 0 ((nextO (m.at t).fresh.a + 1) % 4294967296) 0 = R0 at *
      exact ⟨f1, .inr ⟨0, by rw [← f3]; rfl⟩⟩
  | downed ho hr hon' => have := C.on; rw [hon'] at this; cases this
structure WfInv (b : Int) (k : Nat) (mode : Int) (m : MV) : Prop where
  gen : GenQ wtW k mode m
  ex : ∃ o c q tk y, GI k b o c q tk y m
theorem gw_waking (hk : k ≤ 64) (hg : GenQ wtW k mode m) (h : GI k b o c q tk y m) (ht : t < k) (hop : (m.rs t).op ≠ 0) (hon : (m.rs t).k.on = true) : GI k b o (upd c t (c t)) (upd q t (q t)) (upd tk t (tk t)) (upd y t (y t)) ⟨upd m.rs t (m.at t).waking.finR, upd m.hold t ((m.at t).waking.finH (m.hold t)), (m.at t).waking.xs⟩ := by
  obtain ⟨c1, c2, c3⟩ := hg.cst t ht
  have F := h.f t ht
  have x0 : wordAt (m.at t).waking.xs 0 = wordAt m.xs 0 := by
    show wordAt (wakeI m.xs (m.rs t).n _ _ _ _).xs 0 = _
    rw [c1]
    exact own_wake (by have := pc_big k (m.at t).k.i (by omega); omega)
  have e1 : (m.at t).waking.op = (m.rs t).op := rfl
  have e2 : (m.at t).waking.line = (m.rs t).line := rfl
  have e3 : (m.at t).waking.ret = (m.rs t).ret := rfl
  have e5 : (m.at t).waking.s = (m.rs t).s := rfl
  have e6 : (m.at t).waking.a = (m.rs t).a := rfl
  generalize (m.at t).waking = R at *
  have hr2 := F.onR hon
  have key : FW (R.finH (m.hold t)) R.finR.op R.finR.line R.finR.ret R.finR.s R.finR.k.on (c t) (q t) (y t) ∧ KA b o (tk t) R.finR.op R.finR.line R.finR.ret R.finR.s R.finR.a := by
    cases hRon : R.k.on
    · obtain ⟨f1, f2⟩ := fin_yes (R := R) (m.hold t) (by rw [e3, hr2]; decide) hRon
      rw [f1, f2, e1, e3]
      refine ⟨?_, ka_none (.inl rfl)⟩
      cases F with
      | gone ho hr hon' hh hc hq hy =>
        have hb : behindI (m.rs t).op (m.rs t).ret (m.hold t) = 0 := by rw [hr, hh]; rcases ho with e | e <;> rw [e] <;> rfl
        rw [hb]; exact .idle0 rfl rfl rfl rfl hc hq hy
      | downed ho hr hon' hh hc hq hy =>
        have hb : behindI (m.rs t).op (m.rs t).ret (m.hold t) = 1 := by rw [hr, hh, ho]; rfl
        rw [hb]; exact .idle1 rfl rfl rfl rfl hc hq hy
      | _ => omega
    · obtain ⟨f1, f2⟩ := fin_on (R := R) (m.hold t) hRon
      rw [f1, f2, e1, e2, e3, e5, e6, hRon]
      rw [hon] at F
      exact ⟨F, h.ka t ht⟩
  exact GMv.keep (mode := mode) ⟨key.1, gw_same h ht x0, key.2, (fun e => by rw [hon] at e; cases e), wk_same x0⟩ h ht
theorem WfInv.go (hk : k ≤ 64) (hk1 : 1 ≤ k) (h : WfInv b k mode m) (ht : t < k) (hop : (m.rs t).op ≠ 0) (hst : (m.at t).stuck = false) : WfInv b k mode (m.go LS.wf t) := by
  obtain ⟨hg, o, c, q, tk, y, hI⟩ := h
  rw [go_eq hst]
  cases hon : (m.rs t).k.on
  · have hR : (m.at t).next LS.wf = (m.at t).fresh.wf := by
      unfold LS.next
      rw [if_neg (by show ¬ (m.rs t).k.on = true; rw [hon]; exact Bool.false_ne_true)]
    rw [hR]
    have C := GC_mk hk hg hI ht hon
    obtain ⟨o', c', q', tk', y', g⟩ := wf_mv C hop
    refine ⟨?_, _, _, _, _, _, g.keep hI ht⟩
    cases hw : wtR wtW (m.rs t) with
    | none =>
      obtain ⟨p1, p2⟩ := plain_wf C hop hw
      have P : PlainLn (m.at t).fresh (m.at t).fresh.wf := ⟨fun e he => g.far hon hw e (by have e : (m.at t).fresh.n = k := (hg.cst t ht).1; omega), p1, p2⟩
      refine (stepq_plain lines_wf hk hk1 hg ht hop hon hw P (fun i hi hne e p hwi hs hp => ?_)).gen lines_wf hg ht
      have hm : mode = 2 := by
        by_cases e : mode = 2
        · exact e
        · have := hg.sp i hi e; omega
      rcases g.wk with e2 | e2
      · refine .inr ?_
        rw [hm] at e2
        rcases wtW_cases hwi with ⟨_, _, rfl, _⟩ | ⟨_, _, rfl, _⟩ <;> exact e2
      · exact .inl (e2 i hi hne e p hwi hp)
    | some cq => exact (stepq_wait lines_wf hk hg ht hop hon hst (c := cq.1) (q := cq.2) hw).gen lines_wf hg ht
  · have hR : (m.at t).next LS.wf = (m.at t).waking := by
      unfold LS.next
      rw [if_pos (by show (m.rs t).k.on = true; exact hon)]
    rw [hR]
    exact ⟨(stepq_waking lines_wf hk hg ht hop hon).gen lines_wf hg ht, _, _, _, _, _, gw_waking hk hg hI ht hop hon⟩
theorem WfInv.start (h : WfInv b k mode m) (ht : t < k) (h0 : (m.rs t).op = 0) {op : Int} (hmay : mayI op (m.hold t) = true) : WfInv b k mode (m.start t op) := by
  obtain ⟨hg, o, c, q, tk, y, hI⟩ := h
  have F := hI.f t ht
  refine ⟨hg.start lines_wf ht h0 op, o, c, q, tk, y, ?_⟩
  have key : FW (fromI op (m.hold t)) op 0 0 0 false (c t) (q t) (y t) → GI k b o c q tk y (m.start t op) := fun f => by
    refine ⟨fun i hi => ?_, hI.w, hI.tr, hI.td, hI.y1, fun i hi => ?_⟩
    · show FW (upd m.hold t (fromI op (m.hold t)) i) (upd m.rs t (zeroF (m.at t) op) i).op (upd m.rs t (zeroF (m.at t) op) i).line (upd m.rs t (zeroF (m.at t) op) i).ret (upd m.rs t (zeroF (m.at t) op) i).s (upd m.rs t (zeroF (m.at t) op) i).k.on (c i) (q i) (y i)
      by_cases e : i = t
      · subst e; rw [upd_same, upd_same]; exact f
      · rw [upd_other _ _ e, upd_other _ _ e]; exact hI.f i hi
    · show KA b o (tk i) (upd m.rs t (zeroF (m.at t) op) i).op (upd m.rs t (zeroF (m.at t) op) i).line (upd m.rs t (zeroF (m.at t) op) i).ret (upd m.rs t (zeroF (m.at t) op) i).s (upd m.rs t (zeroF (m.at t) op) i).a
      by_cases e : i = t
      · subst e; rw [upd_same]; exact ka_none (.inr (.inr (.inl rfl)))
      · rw [upd_other _ _ e]; exact hI.ka i hi
  cases F with
  | idle0 ho hr hon hh hc hq hy =>
    rw [hh] at hmay
    have h4 : op = 1 ∨ op = 3 ∨ op = 5 ∨ op = 6 := by simp [mayI] at hmay; omega
    have hf : fromI op (m.hold t) = 0 := by rw [hh]; unfold fromI; rw [if_neg (by omega), if_neg (by omega)]
    exact key (by rw [hf]; exact .free (by omega) rfl rfl rfl hc hq hy)
  | idle1 ho hr hon hh hc hq hy =>
    rw [hh] at hmay
    have h4 : op = 2 ∨ op = 7 := by simp [mayI] at hmay; omega
    rcases h4 with e | e
    · exact key (by rw [e]; exact .dep rfl rfl rfl rfl rfl hc hq hy)
    · exact key (by rw [e, hh]; exact .up rfl (.inl rfl) rfl rfl rfl hc hq hy)
  | idle2 ho hr hon hh hc hq hy =>
    rw [hh] at hmay
    have h4 : op = 4 ∨ op = 8 := by simp [mayI] at hmay; omega
    rcases h4 with e | e
    · exact key (by rw [e]; exact .leave rfl (.inl rfl) rfl rfl rfl hc hq hy)
    · exact key (by rw [e]; exact .down rfl (.inl rfl) rfl rfl rfl hc hq hy)
  | _ => omega
end
end Go.Proofs.Ytaeninikaalkjaa
set_option linter.unusedVariables false
set_option linter.unusedSimpArgs false
namespace Go.Proofs.Ytaeninikaalkjaa
def ownW (xs : List Int) : Int → Int := fun d => if 0 ≤ d ∧ d < 8 then wordAt xs d else 0
theorem ownW_same {xs ys : List Int} (h : ∀ d, 0 ≤ d → d < 8 → wordAt ys d = wordAt xs d) : ownW ys = ownW xs := by
  funext d; unfold ownW; split
  · rename_i e; exact h d e.1 e.2
  · rfl
theorem ownW_at {xs : List Int} {d : Int} (h0 : 0 ≤ d) (h1 : d < 8) : ownW xs d = wordAt xs d := if_pos ⟨h0, h1⟩
def perms (k : Nat) (m : MV) : Nat := sumN (fun i => if hasP m.xs k i then 1 else 0) k
theorem sum_move {f g : Nat → Nat} {k t e : Nat} (ht : t < k) (h : ∀ i, i < k → i ≠ t → g i ≤ f i + e) : sumN g k + f t + e ≤ sumN f k + k * e + g t := by
  have h1 : sumN g k ≤ sumN (upd (fun i => f i + e) t (g t)) k := sumN_le fun i hi => by
    by_cases e1 : i = t
    · subst e1; rw [upd_same]; exact Nat.le_refl _
    · rw [upd_other _ _ e1]; exact h i hi e1
  have h2 := sumN_upd (f := fun i => f i + e) (g := upd (fun i => f i + e) t (g t)) (t := t) (k := k) ht (fun i _ hi => upd_other _ _ hi)
  rw [upd_same] at h2
  have h3 : sumN (fun i => f i + e) k = sumN f k + k * e := by
    rw [sumN_add (f := f) (g := fun _ => e), sumN_const]
  rw [h3] at h2
  try dsimp only at h2
  omega
section
variable {k : Nat}
theorem swp_next (k : Nat) (c : Int) {i0 : Nat} (h : i0 < k) : swp k (nextI k c i0) ≤ 5 * (k - i0 - 1) := by
  unfold nextI
  split
  · simp [swp, wk0]
  · unfold swp
    simp only [Bool.false_eq_true, if_false, if_true, Nat.sub_zero]
    have : ((i0 : Int) + 1).toNat = i0 + 1 := by omega
    rw [this]; omega
theorem perms_one {m m' : MV} {i : Nat} (hi : i < k) (h : ∀ j, j < k → j ≠ i → hasP m'.xs k j = hasP m.xs k j) : perms k m' + (if hasP m.xs k i then 1 else 0) = perms k m + (if hasP m'.xs k i then 1 else 0) := by
  have := sumN_upd (f := fun i : Nat => if hasP m.xs (k : Int) (i : Int) then 1 else 0) (g := fun i : Nat => if hasP m'.xs (k : Int) (i : Int) then 1 else 0) (t := i) (k := k) hi (fun j hj hne => by simp only [h j hj hne])
  exact this
theorem perms_same {m m' : MV} (h : ∀ j, j < k → hasP m'.xs k j = hasP m.xs k j) : perms k m' = perms k m := sumN_congr fun i hi => by simp only [h i hi]
end
end Go.Proofs.Ytaeninikaalkjaa
set_option linter.unusedVariables false
set_option linter.unusedSimpArgs false
namespace Go.Proofs.Ytaeninikaalkjaa
abbrev VG := (Int → Int) → Int → LS → Nat
structure Alk (r r' : LS) : Prop where
  n : r'.n = r.n
  task : r'.task = r.task
  op : r'.op = r.op
  line : r'.line = r.line
  ret : r'.ret = r.ret
  a : r'.a = r.a
  b : r'.b = r.b
theorem Alk.wt {wt : WtG} {r r' : LS} (h : Alk r r') : wtR wt r' = wtR wt r := by unfold wtR; rw [h.n, h.task, h.op, h.line, h.a, h.b]
structure WorthQ (V : VG) : Prop where
  like : ∀ w h (r r' : LS), Alk r r' → r'.s = r.s → V w h r' = V w h r
  over : ∀ w h (r : LS), r.ret ≠ 0 → V w (behindI r.op r.ret h) (zeroF r 0) ≤ V w h r
def shareQ (V : VG) (k : Nat) (m : MV) (i : Nat) : Nat := swp k (m.rs i).k + stp (m.rs i).s + V (ownW m.xs) (m.hold i) (m.rs i)
def FQ (V : VG) (k : Nat) (m : MV) : Nat := sumN (shareQ V k m) k + 3 * perms k m
def BlkQ (wt : WtG) (k : Nat) (mode : Int) (m : MV) (t : Nat) : Prop :=
  ((m.rs t).op = 0 ∧ m.hold t = 0) ∨ ((m.rs t).op ≠ 0 ∧ (m.rs t).k.on = false ∧ ∃ c q, wtR wt (m.rs t) = some (c, q) ∧ ((mode ≠ 2 ∧ q (wordAt m.xs c) = false) ∨ (mode = 2 ∧ (m.rs t).s = 3 ∧ hasP m.xs k t = false)))
section
variable {L : LS → LS} {wt : WtG} {V : VG} {k : Nat} {mode : Int} {m : MV} {t : Nat}
theorem potq_go (hL : LinesQ L wt) (hV : WorthQ V) (hk : k ≤ 64) (h : GenQ wt k mode m) (ht : t < k) (hop : (m.rs t).op ≠ 0) (hb : ¬ BlkQ wt k mode m t)
    (hD : ∀ c q, (m.rs t).k.on = false → wtR wt (m.rs t) = some (c, q) → (stepI m.xs k mode t (m.rs t).s c q).done = true → V (ownW m.xs) ((L (m.at t).fresh).finH (m.hold t)) (L (m.at t).fresh).finR + 4 ≤ V (ownW m.xs) (m.hold t) (m.rs t))
    (hN : ∀ c q, (m.rs t).k.on = false → wtR wt (m.rs t) = some (c, q) → (stepI m.xs k mode t (m.rs t).s c q).done = false → V (ownW m.xs) (m.hold t) (L (m.at t).fresh) ≤ V (ownW m.xs) (m.hold t) (m.rs t))
    (hPL : (m.rs t).k.on = false → wtR wt (m.rs t) = none → PlainLn (m.at t).fresh (L (m.at t).fresh))
    (hP : (m.rs t).k.on = false → wtR wt (m.rs t) = none → ∃ e, (∀ i, i < k → i ≠ t → V (ownW (L (m.at t).fresh).xs) (m.hold i) (m.rs i) ≤ V (ownW m.xs) (m.hold i) (m.rs i) + e) ∧ swp k (L (m.at t).fresh).finR.k + V (ownW (L (m.at t).fresh).xs) ((L (m.at t).fresh).finH (m.hold t)) (L (m.at t).fresh).finR + k * e < V (ownW m.xs) (m.hold t) (m.rs t)) :
    (m.at t).stuck = false ∧ FQ V k (m.go L t) < FQ V k m := by
  obtain ⟨c1, c2, c3⟩ := h.cst t ht
  have hns : (m.at t).stuck = false := by
    cases e : (m.at t).stuck
    · rfl
    · exfalso
      have hon : (m.at t).k.on = false := by
        cases e2 : (m.at t).k.on
        · rfl
        · unfold LS.stuck at e; rw [e2] at e; cases e
      obtain ⟨e1, e2, e3⟩ := stuck_iff hon e
      rw [c1, c3] at e3
      obtain ⟨⟨c, q, hw⟩, _⟩ := h.sw t ht (by omega)
      exact hb (.inr ⟨hop, hon, c, q, hw, .inr ⟨c2.symm.trans e1, e2, e3⟩⟩)
  refine ⟨hns, ?_⟩
  rw [go_eq hns]
  generalize hR : (m.at t).next L = R
  have hmain : ∀ (e a b : Nat), (∀ i, i < k → i ≠ t → V (ownW R.xs) (m.hold i) (m.rs i) ≤ V (ownW m.xs) (m.hold i) (m.rs i) + e) → perms k ⟨upd m.rs t R.finR, upd m.hold t (R.finH (m.hold t)), R.xs⟩ + b ≤ perms k m + a → swp k R.finR.k + stp R.finR.s + V (ownW R.xs) (R.finH (m.hold t)) R.finR + k * e + 3 * a < swp k (m.rs t).k + stp (m.rs t).s + V (ownW m.xs) (m.hold t) (m.rs t) + 3 * b → FQ V k ⟨upd m.rs t R.finR, upd m.hold t (R.finH (m.hold t)), R.xs⟩ < FQ V k m := by
    intro e a b h1 h2 h3
    have hs := sum_move (f := shareQ V k m) (g := shareQ V k ⟨upd m.rs t R.finR, upd m.hold t (R.finH (m.hold t)), R.xs⟩) (k := k) (t := t) (e := e) ht (fun i hi hne => by
      unfold shareQ
      dsimp only
      rw [upd_other _ _ hne, upd_other _ _ hne]
      have := h1 i hi hne
      omega)
    have ht1 : shareQ V k ⟨upd m.rs t R.finR, upd m.hold t (R.finH (m.hold t)), R.xs⟩ t = swp k R.finR.k + stp R.finR.s + V (ownW R.xs) (R.finH (m.hold t)) R.finR := by
      unfold shareQ; dsimp only; rw [upd_same, upd_same]
    have ht2 : shareQ V k m t = swp k (m.rs t).k + stp (m.rs t).s + V (ownW m.xs) (m.hold t) (m.rs t) := rfl
    unfold FQ
    omega
  cases hon : (m.rs t).k.on
  · have hR' : R = L (m.at t).fresh := by
      rw [← hR]; unfold LS.next
      rw [if_neg (by show ¬ (m.rs t).k.on = true; rw [hon]; exact Bool.false_ne_true)]
    have hsw0 : swp k (m.rs t).k = 0 := swp_off k hon
    cases hw : wtR wt (m.rs t) with
    | none =>
      obtain ⟨e, h1, h2⟩ := hP hon hw
      rw [← hR'] at h1 h2
      have P := hPL hon hw
      have cn : (m.at t).fresh.n = k := c1
      have hs0 : (m.rs t).s = 0 := by
        by_cases e2 : (m.rs t).s = 0
        · exact e2
        · obtain ⟨⟨c, q, e3⟩, _⟩ := h.sw t ht e2
          rw [hw] at e3; cases e3
      have hRs : R.finR.s = 0 := by
        have : R.s = 0 := by rw [hR']; exact P.s.trans hs0
        unfold LS.finR; split
        · rfl
        · exact this
      refine hmain e 0 0 h1 ?_ (by rw [hRs, hs0, hsw0]; omega)
      rw [perms_same (m := m) fun j hj => by
        show hasP R.xs k j = _
        rw [hR']; unfold hasP; rw [P.far _ (by rw [cn, pc_at hk hj]; omega)]; rfl]
      exact Nat.le_refl _
    | some cq =>
      obtain ⟨c, q⟩ := cq
      have W := hL.wait (m.at t).fresh c q hon hw
      have hSR : (m.at t).fresh.stepR c q = stepI m.xs k mode t (m.rs t).s c q := by
        show stepI m.xs (m.rs t).n (m.rs t).mode (m.rs t).task (m.rs t).s c q = _
        rw [c1, c2, c3]
      have hxs := W.xs
      have hs' := W.s
      have hstay := W.stay
      rw [hSR] at hxs hs' hstay
      rw [← hR'] at hxs hs' hstay
      have hkR : R.k = (m.rs t).k := by rw [hR']; exact W.k
      have hown : ownW R.xs = ownW m.xs := ownW_same fun d h0 h1 => by
        rw [hxs]; exact own_wait (by rw [wc_at hk ht]; omega) (by rw [pc_at hk ht]; omega)
      have hper : ∀ i, i < k → _ := fun i hi => step_per (xs := m.xs) (mode := mode) (s := (m.rs t).s) (c := c) (q := q) hk h.len ht hi
      have hkf : swp k R.finR.k = 0 := by
        unfold LS.finR; split
        · exact swp_off k rfl
        · rw [hkR]; exact hsw0
      have hoth : ∀ i, i < k → i ≠ t → V (ownW R.xs) (m.hold i) (m.rs i) ≤ V (ownW m.xs) (m.hold i) (m.rs i) + 0 := fun i _ _ => by rw [hown]; omega
      have hsame : ¬ (mode = 2 ∧ (m.rs t).s = 3) → perms k ⟨upd m.rs t R.finR, upd m.hold t (R.finH (m.hold t)), R.xs⟩ + 0 ≤ perms k m + 0 := fun e => by
        rw [perms_same (m := m) fun j hj => by
          show hasP R.xs k j = _
          rw [hxs, hper j hj, if_neg (fun e2 => e e2.2)]]
        omega
      have hnext := step_next (xs := m.xs) (k := k) (mode := mode) (t := t) (s := (m.rs t).s) (c := c) (q := q)
      have hd0 := step_done0 (xs := m.xs) (k := k) (mode := mode) (t := t) (s := (m.rs t).s) (c := c) (q := q)
      cases hd : (stepI m.xs k mode t (m.rs t).s c q).done
      · obtain ⟨l1, l2, l3⟩ := hstay hd
        have hr0 : R.ret = 0 := l2.trans (h.rt t ht hon)
        have hno : R.over = false := by unfold LS.over; rw [hr0]; rfl
        have hf : R.finR = R := by unfold LS.finR; rw [hno]; rfl
        have hh : R.finH (m.hold t) = m.hold t := by unfold LS.finH; rw [hno]; rfl
        have hVs : V (ownW R.xs) (R.finH (m.hold t)) R.finR ≤ V (ownW m.xs) (m.hold t) (m.rs t) := by
          rw [hf, hh, hown, hR']
          exact hN c q hon hw hd
        have p0 : stp 0 = 4 := rfl
        have p1 : stp 1 = 3 := rfl
        have p2 : stp 2 = 2 := rfl
        have p3 : stp 3 = 0 := rfl
        have p4 : stp 4 = 1 := rfl
        have hsr := h.sr t ht
        rcases hnext with ⟨e1, e2⟩ | ⟨em, _, ⟨e1, e2, e3, e4, e5⟩ | ⟨e1, e2⟩ | ⟨e1, e2⟩ | ⟨e1, e2, e3⟩⟩
        · rcases e2 with e2 | e2
          · rw [hd] at e2; cases e2
          · exfalso
            rw [stepI_spin e2] at hd
            exact hb (.inr ⟨hop, hon, c, q, hw, .inl ⟨e2, hd⟩⟩)
        · refine hmain 0 0 0 hoth (hsame (by omega)) ?_
          rw [hf] at hVs
          rw [hkf, hf, hs', e1, show (m.rs t).s = 0 by omega]
          omega
        · rcases e2 with e2 | ⟨e2, e3⟩
          · refine hmain 0 0 0 hoth (hsame (by omega)) ?_
            rw [hf] at hVs
            rw [hkf, hf, hs', e1, e2]
            omega
          · refine hmain 0 0 1 hoth ?_ ?_
            · have := perms_one (k := k) (m := m) (m' := ⟨upd m.rs t R.finR, upd m.hold t (R.finH (m.hold t)), R.xs⟩) ht (fun j hj hne => by
                show hasP R.xs k j = _
                rw [hxs, hper j hj, if_neg (fun e4 => hne e4.1)])
              have hpt : hasP R.xs k t = false := by rw [hxs, hper t ht, if_pos ⟨rfl, em, e2⟩]
              simp only [hpt, e3] at this
              simp at this
              omega
            · rw [hf] at hVs
              rw [hkf, hf, hs', e1, e2]
              omega
        · rcases e2 with ⟨e2, _⟩ | ⟨e2, e3⟩
          · refine hmain 0 0 0 hoth (hsame (by omega)) ?_
            rw [hf] at hVs
            rw [hkf, hf, hs', e1, e2]
            omega
          · exact absurd (.inr ⟨hop, hon, c, q, hw, .inr ⟨em, e2, e3⟩⟩) hb
        · refine hmain 0 0 0 hoth (hsame (by omega)) ?_
          rw [hf] at hVs
          rw [hkf, hf, hs', e1, e2]
          omega
      · have hDD := hD c q hon hw hd
        rw [← hR'] at hDD
        have h0 := hd0 hd
        have hRs : R.finR.s = 0 := by
          unfold LS.finR; split
          · rfl
          · rw [hs', h0]
        have hn3 : ¬ (mode = 2 ∧ (m.rs t).s = 3) := fun ⟨e1, e2⟩ => by
          rw [e1, e2, stepI_3] at hd; cases hd
        have hst : 1 ≤ stp (m.rs t).s := by
          have hsr := h.sr t ht
          by_cases em : mode = 2
          · rcases hsr with e | e | e | e | e <;> rw [e] <;> first | decide | (exact absurd ⟨em, e⟩ hn3)
          · rw [h.sp t ht em]; decide
        refine hmain 0 0 0 hoth (hsame hn3) ?_
        rw [hkf, hRs, hown, hsw0]
        show 0 + 4 + _ + _ + _ < _
        omega
  · have hR' : R = (m.at t).waking := by
      rw [← hR]; unfold LS.next
      rw [if_pos (by show (m.rs t).k.on = true; exact hon)]
    obtain ⟨k0, k1⟩ := h.kon t ht hon
    have hs0 : (m.rs t).s = 0 := by
      by_cases e : (m.rs t).s = 0
      · exact e
      · rw [(h.sw t ht e).2] at hon; cases hon
    obtain ⟨i0, hi0⟩ := Int.eq_ofNat_of_zero_le k0
    have hi1 : i0 < k := by omega
    obtain ⟨on, kc, ki, hit, hkk⟩ : ∃ on kc ki hit, (m.rs t).k = ⟨on, kc, ki, hit⟩ := ⟨_, _, _, _, rfl⟩
    rw [hkk] at hon hi0
    dsimp only at hon hi0
    subst hon hi0
    obtain ⟨wh, wl⟩ := wake_cases (xs := m.xs) (c := kc) (hit := hit) hk h.len hi1
    have hxs : R.xs = (wakeI m.xs k true kc i0 hit).xs := by rw [hR']; show (wakeI m.xs (m.rs t).n _ _ _ _).xs = _; rw [c1, show (m.at t).k = ⟨true, kc, (i0 : Int), hit⟩ from hkk]
    have hk' : R.k = (wakeI m.xs k true kc i0 hit).next := by rw [hR']; show (wakeI m.xs (m.rs t).n _ _ _ _).next = _; rw [c1, show (m.at t).k = ⟨true, kc, (i0 : Int), hit⟩ from hkk]
    have hRs : R.s = 0 := by rw [hR']; exact hs0
    have hown : ownW R.xs = ownW m.xs := ownW_same fun d h0 h1 => by
      rw [hxs]; exact own_wake (by rw [pc_at hk hi1]; omega)
    have hoth : ∀ i, i < k → i ≠ t → V (ownW R.xs) (m.hold i) (m.rs i) ≤ V (ownW m.xs) (m.hold i) (m.rs i) + 0 := fun i _ _ => by rw [hown]; omega
    have hVR : V (ownW m.xs) (m.hold t) R = V (ownW m.xs) (m.hold t) (m.rs t) := hV.like _ _ _ _ ⟨by rw [hR']; rfl, by rw [hR']; rfl, by rw [hR']; rfl, by rw [hR']; rfl, by rw [hR']; rfl, by rw [hR']; rfl, by rw [hR']; rfl⟩ (by rw [hR']; rfl)
    have hfin : swp k R.finR.k + stp R.finR.s + V (ownW R.xs) (R.finH (m.hold t)) R.finR ≤ swp k R.k + 4 + V (ownW m.xs) (m.hold t) (m.rs t) := by
      rw [hown]
      cases ho : R.over
      · rw [show R.finR = R by unfold LS.finR; rw [ho]; rfl, show R.finH (m.hold t) = m.hold t by unfold LS.finH; rw [ho]; rfl, hRs, hVR]
        exact Nat.le_refl _
      · have hret : R.ret ≠ 0 := by
          unfold LS.over at ho
          have : R.ret ≠ 0 ∧ R.k.on = false := by simpa using ho
          exact this.1
        rw [show R.finR = zeroF R 0 by unfold LS.finR; rw [ho]; rfl, show R.finH (m.hold t) = behindI R.op R.ret (m.hold t) by unfold LS.finH; rw [ho]; rfl]
        have h1 := hV.over (ownW m.xs) (m.hold t) R hret
        rw [hVR] at h1
        have h2 : swp k (zeroF R 0).k = 0 := swp_off k rfl
        have h3 : stp (zeroF R 0).s = 4 := rfl
        omega
    have hst : stp (m.rs t).s = 4 := by rw [hs0]; rfl
    cases hh : hit
    · subst hh
      obtain ⟨w1, w2⟩ := wl rfl
      have hold : swp k (m.rs t).k = 5 * (k - i0) := by rw [hkk]; simp [swp]
      refine hmain 0 0 0 hoth ?_ ?_
      · rw [perms_same (m := m) fun j hj => by show hasP R.xs k j = _; rw [hxs, w1]]
        exact Nat.le_refl _
      · have : swp k R.k < 5 * (k - i0) := by
          rw [hk']
          rcases w2 with ⟨_, e⟩ | ⟨_, e⟩
          · rw [e]; simp [swp]; omega
          · rw [e]; have := swp_next k kc hi1; omega
        omega
    · subst hh
      obtain ⟨w1, w2⟩ := wh rfl
      have hold : swp k (m.rs t).k = 5 * (k - i0) - 1 := by rw [hkk]; simp [swp]
      refine hmain 0 1 0 hoth ?_ ?_
      · have := perms_one (k := k) (m := m) (m' := ⟨upd m.rs t R.finR, upd m.hold t (R.finH (m.hold t)), R.xs⟩) hi1 (fun j hj hne => by
          show hasP R.xs k j = _
          rw [hxs, w2 j hj, if_neg hne])
        have : (if hasP R.xs (k : Int) (i0 : Int) then 1 else 0) ≤ 1 := by split <;> omega
        dsimp only at *
        omega
      · have : swp k R.k ≤ 5 * (k - i0 - 1) := by rw [hk', w1]; exact swp_next k kc hi1
        omega
end
end Go.Proofs.Ytaeninikaalkjaa
