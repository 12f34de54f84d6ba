import Derived.Test.YtgfippbcgneegaaP25
import Derived.Test.YtgfippbcgneegaaP11
import Derived.Test.YtgfippbcgneegaaP2
set_option linter.unusedVariables false
set_option linter.unusedSimpArgs false
namespace Go.Proofs.Ytgfippbcgneegaa
structure PfInv (b : Int) (k : Nat) (mode : Int) (p : Nat) (m : MV) : Prop where
  gen : GenI wtP k mode m
  ex : ∃ s : PS, PInv k s ∧ s.N ≤ p ∧ s.I ≤ p ∧ WordsP b s m.xs ∧ ∀ i, i < k → s.rd i = rdOf (m.hold i) (m.rs i) ∧ s.wr i = wrOf (m.hold i) (m.rs i) ∧ TaskP b s.N s.T (s.tk i) (wordAt m.xs 4) (wi b s.a 0) (m.hold i) (m.rs i)
section
variable {b : Int} {k : Nat} {mode : Int} {p : Nat} {m : MV} {t : Nat} {s : PS}
theorem aheadP_mk (hk : k ≤ 64) (g : GenI wtP k mode m) (hI : PInv k s) (hN : s.N < 50000) (hII : s.I < 50000) (ws : WordsP b s m.xs) (ht : t < k) (h1 : s.rd t = rdOf (m.hold t) (m.rs t)) (h2 : s.wr t = wrOf (m.hold t) (m.rs t)) (hT : TaskP b s.N s.T (s.tk t) (wordAt m.xs 4) (wi b s.a 0) (m.hold t) (m.rs t)) (hon : (m.rs t).k.on = false) : AheadP b k s t (m.hold t) (m.at t).fresh :=
  ⟨hI, ht, h1, h2, ⟨hT.line, hT.wake, hT.tick, hT.ph, hT.ah, hT.try5, hT.tryw⟩, ws, hN, hII, fun c h0 h8 => there_lk g.len h0 (by omega), hon, g.rt t ht hon⟩
theorem mp_same (hI : PInv k s) {P : Int} {h' : Int} {r' : LS} {xs' : List Int} (e1 : s.rd t = rdOf h' r') (e2 : s.wr t = wrOf h' r') (ws : WordsP b s xs') (hP : wordAt xs' 4 = P) (hT : TaskP b s.N s.T (s.tk t) (wordAt xs' 4) (wi b s.a 0) h' r') : MovedP b k s t P h' r' xs' :=
  ⟨s, hI, fun i _ => ⟨rfl, rfl, rfl⟩, e1, e2, Nat.le_refl _, Nat.le_succ _, Nat.le_refl _, Nat.le_succ _, ws, .inl ⟨hP, rfl⟩, hT⟩
theorem movedP_waking {r R : LS} {h : Int} {P : Int} (hI : PInv k s) (hr : s.rd t = rdOf h r) (hw : s.wr t = wrOf h r) (hT : TaskP b s.N s.T (s.tk t) P (wi b s.a 0) h r) (ws : WordsP b s R.xs) (hP : wordAt R.xs 4 = P) (hon : r.k.on = true) (q1 : R.op = r.op) (q2 : R.line = r.line) (q3 : R.ret = r.ret) (q4 : R.a = r.a) (q5 : R.s = r.s) (q6 : R.b = r.b) : MovedP b k s t P (R.finH h) R.finR R.xs := by
  have hwk := hT.wake hon
  have hl := hT.line
  have like : wakeP R → TaskP b s.N s.T (s.tk t) (wordAt R.xs 4) (wi b s.a 0) h R := fun e => by
    rw [hP]
    exact ⟨linep_like q1 q2 hl, e, by rw [q1, q2, q4]; exact hT.tick, by unfold phL; rw [q1, q2, q6]; exact hT.ph, by unfold ahL; rw [q1, q2, q4]; exact hT.ah, by rw [q1, q2, q4]; exact hT.try5, by rw [q1, q2, q4]; exact hT.tryw⟩
  have wr' : wrOf h R = wrOf h r := by unfold wrOf; rw [q1, q2, q3, q5]
  have rd' : r.op ≠ 2 ∨ R.k.on = true → rdOf h R = rdOf h r := fun e => by
    unfold rdOf; rw [q1, q2, q4, q5]
    by_cases e2 : r.op = 2
    · rcases e with e | e
      · exact absurd e2 e
      · simp [e2, e, hon]
    · simp [e2]
  cases hRon : R.k.on
  · have off : wakeP R := fun e => by rw [hRon] at e; cases e
    have over : R.ret ≠ 0 → (rdOf (behindI r.op r.ret h) (zeroF r 0) = rdOf h r) → (wrOf (behindI r.op r.ret h) (zeroF r 0) = wrOf h r) → (behindI r.op r.ret h = 0 ∨ behindI r.op r.ret h = 1 ∨ behindI r.op r.ret h = 2) → MovedP b k s t P (R.finH h) R.finR R.xs := fun e0 e1 e2 e3 => by
      obtain ⟨f1, f2⟩ := fin_yes (R := R) h e0 hRon
      rw [f1, f2, q1, q3]
      exact mp_same hI (hr.trans e1.symm) (hw.trans e2.symm) ws hP (taskp_idle _ e3)
    rcases hwk with ⟨e1, e3⟩ | ⟨e1, e2, e3⟩ | ⟨e1, e2, e3⟩ | ⟨e1, e2, e3⟩
    · have hh : h = 0 := by unfold lineP at hl; omega
      refine over (by rw [q3, e3]; decide) ?_ ?_ ?_
      · rw [e1, e3, hh]; unfold rdOf; simp [e1, hon, zeroF, behindI]
      · rw [e1, e3, hh]; unfold wrOf; simp [e1, zeroF, behindI]
      · rw [e1, e3, hh]; exact .inl rfl
    · obtain ⟨f1, f2⟩ := fin_no (R := R) h (q3.trans e3)
      rw [f1, f2]
      exact mp_same hI (hr.trans (rd' (.inl (by omega))).symm) (hw.trans wr'.symm) ws hP (like off)
    · refine over (by rw [q3, e3]; decide) ?_ ?_ ?_
      · rcases e1 with e1 | e1
        · have hh : h = 0 := by unfold lineP at hl; omega
          rw [e1, e3, hh]; unfold rdOf; simp [e1, zeroF, behindI]
        · have hh : h = 1 := by unfold lineP at hl; omega
          rw [e1, e3, hh]; unfold rdOf; simp [e1, e2, zeroF, behindI]
      · rcases e1 with e1 | e1
        · have hh : h = 0 := by unfold lineP at hl; omega
          rw [e1, e3, hh]; unfold wrOf; simp [e1, e2, e3, zeroF, behindI]
        · have hh : h = 1 := by unfold lineP at hl; omega
          rw [e1, e3, hh]; unfold wrOf; simp [e1, e2, e3, zeroF, behindI]
      · rcases e1 with e1 | e1
        · have hh : h = 0 := by unfold lineP at hl; omega
          rw [e1, e3, hh]; exact .inl rfl
        · have hh : h = 1 := by unfold lineP at hl; omega
          rw [e1, e3, hh]; exact .inr (.inl rfl)
    · have hb : behindI r.op r.ret h = h := by rw [e3]; unfold behindI; rw [if_pos (by decide)]
      have hh : (r.op = 6 ∧ h = 0) ∨ (r.op = 7 ∧ h = 1) := by unfold lineP at hl; omega
      refine over (by rw [q3, e3]; decide) ?_ ?_ ?_
      · rw [hb]; exact idle_rd hh
      · rw [hb, wr_try9 e1 e2, if_neg (by rw [e3]; decide)]
        rcases hh with ⟨_, e⟩ | ⟨_, e⟩ <;> rw [e] <;> rfl
      · rw [hb]; omega
  · obtain ⟨f1, f2⟩ := fin_on (R := R) h hRon
    rw [f1, f2]
    exact mp_same hI (hr.trans (rd' (.inr hRon)).symm) (hw.trans wr'.symm) ws hP (like (fun _ => by rw [q1, q2, q3]; exact hwk))
theorem wtp_cases {op line a c : Int} {q : Int → Bool} (hw : wtP op line a = some (c, q)) : (op = 1 ∧ line = 1 ∧ c = 0 ∧ q = fun v => bitsI v != bitsI a) ∨ (op = 3 ∧ line = 1 ∧ c = 3 ∧ q = fun v => v == a) ∨ (((op = 3 ∧ line = 4) ∨ (op = 6 ∧ line = 7)) ∧ c = 1 ∧ q = fun v => v == a) ∨ (op = 7 ∧ line = 7 ∧ c = 1 ∧ q = fun v => v == (a - 256) % 4294967296) := by
  unfold wtP at hw
  by_cases e1 : op = 1 ∧ line = 1
  · rw [if_pos e1] at hw; obtain ⟨rfl, rfl⟩ := Prod.mk.inj (Option.some.inj hw); exact .inl ⟨e1.1, e1.2, rfl, rfl⟩
  rw [if_neg e1] at hw
  by_cases e2 : op = 3 ∧ line = 1
  · rw [if_pos e2] at hw; obtain ⟨rfl, rfl⟩ := Prod.mk.inj (Option.some.inj hw); exact .inr (.inl ⟨e2.1, e2.2, rfl, rfl⟩)
  rw [if_neg e2] at hw
  by_cases e3 : (op = 3 ∧ line = 4) ∨ (op = 6 ∧ line = 7)
  · rw [if_pos e3] at hw; obtain ⟨rfl, rfl⟩ := Prod.mk.inj (Option.some.inj hw); exact .inr (.inr (.inl ⟨e3, rfl, rfl⟩))
  rw [if_neg e3] at hw
  by_cases e4 : op = 7 ∧ line = 7
  · rw [if_pos e4] at hw; obtain ⟨rfl, rfl⟩ := Prod.mk.inj (Option.some.inj hw); exact .inr (.inr (.inr ⟨e4.1, e4.2, rfl, rfl⟩))
  rw [if_neg e4] at hw; cases hw
theorem wi_less2 {b : Int} {o a : Nat} (h : wi b o 0 = (wi b a 0 - 256) % 4294967296) (h1 : o < 50000) (h2 : a < 50000) : o + 1 = a := by unfold wi at h; omega
theorem PInv.a_le (hI : PInv k s) {i : Nat} (hi : i < k) (hp : (s.wr i).pres = true) : s.a ≤ s.I := by
  have h1 := (hI.bits i hi hp).2
  have h2 := hI.si
  have h3 : sumN (fun j => old s.β (s.rd j)) k ≤ sumN (fun i => (s.rd i).n) k := sumN_le fun i _ => old_le _ _
  omega
set_option maxHeartbeats 1000000 in
theorem PInv.β_bd (hI : PInv k s) : 0 ≤ s.β ∧ s.β < 4 := by
  by_cases e : s.β = 0
  · omega
  · obtain ⟨i, hi, hp⟩ := hI.present e
    have := (hI.bits i hi hp).1
    have := hI.ph
    omega
theorem movedP_wait (hk : k ≤ 64) (g : GenI wtP k mode m) (A : AheadP b k s t (m.hold t) (m.at t).fresh) (hst : (m.at t).stuck = false) {c : Int} {q : Int → Bool} (hw : wtP (m.rs t).op (m.rs t).line (m.rs t).a = some (c, q)) : MovedP b k s t (wordAt m.xs 4) ((LS.pf (m.at t).fresh).finH (m.hold t)) (LS.pf (m.at t).fresh).finR (LS.pf (m.at t).fresh).xs := by
  have ht := A.lt
  have hNN := A.N
  have hII := A.I
  have hor := A.inv.order
  obtain ⟨c1, c2, c3⟩ := g.cst t ht
  have hon : (m.rs t).k.on = false := A.on
  have hret : (m.rs t).ret = 0 := A.ret
  have W := lines_pf.wait (m.at t).fresh c q A.on hw
  have hSR : (m.at t).fresh.stepR c q = stepI m.xs k mode t (m.rs t).s c q := by
    show stepI m.xs (m.rs t).n (m.rs t).mode (m.rs t).task (m.rs t).s c q = _
    rw [c1, c2, c3]
  have hxs := W.xs
  rw [hSR] at hxs
  have hown : ∀ d, 0 ≤ d → d < 8 → wordAt (LS.pf (m.at t).fresh).xs d = wordAt m.xs d := fun d h0 h1 => by
    rw [hxs]; exact own_wait (by rw [wc_at hk ht]; omega) (by rw [pc_at hk ht]; omega)
  have ws : WordsP b s (LS.pf (m.at t).fresh).xs := ⟨(hown 0 (by decide) (by decide)).trans A.ws.w0, (hown 1 (by decide) (by decide)).trans A.ws.w1, (hown 2 (by decide) (by decide)).trans A.ws.w2, (hown 3 (by decide) (by decide)).trans A.ws.w3, by rw [hown 4 (by decide) (by decide)]; exact A.ws.w4⟩
  have x4 := hown 4 (by decide) (by decide)
  have hsr := g.sr t ht
  have hnext := step_next (xs := m.xs) (k := k) (mode := mode) (t := t) (s := (m.rs t).s) (c := c) (q := q)
  have hs' := W.s
  rw [hSR] at hs'
  have hdone : (stepI m.xs k mode t (m.rs t).s c q).done = true → (m.rs t).s = 4 ∨ ((m.rs t).s ≠ 4 ∧ q (wordAt m.xs c) = true) := fun hd => by
    by_cases em : mode = 2
    · subst em
      rcases hsr with e | e | e | e | e
      · right; rw [e] at hd ⊢; exact ⟨by decide, hd⟩
      · rw [e] at hd; cases hd
      · rw [e] at hd; cases hd
      · rw [e] at hd; cases hd
      · exact .inl e
    · rw [stepI_spin em] at hd
      exact .inr ⟨by have := g.sp t ht em; omega, hd⟩
  have hnot : (stepI m.xs k mode t (m.rs t).s c q).done = false → (m.rs t).s ≠ 4 ∧ ((LS.pf (m.at t).fresh).s = 4 → q (wordAt m.xs c) = true) := fun hd => by
    rcases hnext with ⟨e1, e2⟩ | ⟨em, _, e⟩
    · rcases e2 with e2 | e2
      · rw [hd] at e2; cases e2
      · exact ⟨by have := g.sp t ht e2; omega, fun e3 => by rw [hs', e1] at e3; cases e3⟩
    · refine ⟨fun e4 => ?_, fun e3 => ?_⟩
      · rw [em, e4] at hd; cases hd
      · rw [hs'] at e3
        rcases e with ⟨e, _⟩ | ⟨e, _⟩ | ⟨e, _⟩ | ⟨_, _, e5⟩
        · omega
        · omega
        · omega
        · exact e5
  have hk' : (LS.pf (m.at t).fresh).k.on = false := by rw [W.k]; exact hon
  have ha' : (LS.pf (m.at t).fresh).a = (m.rs t).a := W.a
  have hop' : (LS.pf (m.at t).fresh).op = (m.rs t).op := (lines_pf.same (m.at t).fresh).2.2.2.1
  have hstay := W.stay
  rw [hSR] at hstay
  have hT : TaskP b s.N s.T (s.tk t) (wordAt m.xs 4) (wi b s.a 0) (m.hold t) (m.rs t) := ⟨A.task.line, A.task.wake, A.task.tick, A.task.ph, A.task.ah, A.task.try5, A.task.tryw⟩
  have hline := hT.line
  have hrd : s.rd t = rdOf (m.hold t) (m.rs t) := A.rd
  have hwr : s.wr t = wrOf (m.hold t) (m.rs t) := A.wr
  -- a step that changes nothing
  have stay : ∀ (h' : Int) (r' : LS), rdOf h' r' = s.rd t → wrOf h' r' = s.wr t → TaskP b s.N s.T (s.tk t) (wordAt m.xs 4) (wi b s.a 0) h' r' → MovedP b k s t (wordAt m.xs 4) h' r' (LS.pf (m.at t).fresh).xs := fun h' r' e1 e2 e3 => mp_same A.inv e1.symm e2.symm ws x4 (by rw [x4]; exact e3)
  -- as a reader, as a writer
  have goR : ∀ (x : Rd) (h' : Int) (r' : LS), PInv k (s.setR t x s.I s.O) → rdOf h' r' = x → wrOf h' r' = s.wr t → TaskP b s.N s.T (s.tk t) (wordAt m.xs 4) (wi b s.a 0) h' r' → MovedP b k s t (wordAt m.xs 4) h' r' (LS.pf (m.at t).fresh).xs := fun x h' r' hI e1 e2 e3 =>
    mp_rd A hI e1.symm (e2.trans A.wr) (Nat.le_succ _) ws.w0 ws.w1 (fun d hd => hown d (by omega) (by omega)) e3
  have goW : ∀ (y : Wr) (h' : Int) (r' : LS), PInv k (s.setW t y (s.tk t) s.N s.T s.β s.φ s.a) → rdOf h' r' = s.rd t → wrOf h' r' = y → TaskP b s.N s.T (s.tk t) (wordAt m.xs 4) (wi b s.a 0) h' r' → MovedP b k s t (wordAt m.xs 4) h' r' (LS.pf (m.at t).fresh).xs := fun y h' r' hI e1 e2 e3 =>
    mp_wr A hI (e1.trans A.rd) e2.symm ⟨Nat.le_refl _, Nat.le_succ _⟩ (Nat.le_refl _) ws.w0 (hown 1 (by decide) (by decide)) ws.w2 ws.w3 ws.w4 (.inl ⟨x4, rfl⟩) (by rw [x4]; exact e3)
  -- while it isn't done
  have rest : (stepI m.xs k mode t (m.rs t).s c q).done = false → (LS.pf (m.at t).fresh).finR = LS.pf (m.at t).fresh ∧ (LS.pf (m.at t).fresh).finH (m.hold t) = m.hold t ∧ (LS.pf (m.at t).fresh).line = (m.rs t).line ∧ (LS.pf (m.at t).fresh).ret = 0 ∧ ((phL (m.rs t) → False) → TaskP b s.N s.T (s.tk t) (wordAt m.xs 4) (wi b s.a 0) (m.hold t) (LS.pf (m.at t).fresh)) := fun hd => by
    obtain ⟨l1, l2⟩ := hstay hd
    have hr0 : (LS.pf (m.at t).fresh).ret = 0 := l2.trans hret
    obtain ⟨f1, f2⟩ := fin_no (R := LS.pf (m.at t).fresh) (m.hold t) hr0
    refine ⟨f1, f2, l1, hr0, fun hph => ⟨linep_like hop' l1 hline, wakep_off hk', ?_, ?_, ?_, ?_, ?_⟩⟩
    · rw [hop', show (LS.pf (m.at t).fresh).line = (m.rs t).line from l1, ha']; exact hT.tick
    · intro e
      unfold phL at e
      rw [hop', show (LS.pf (m.at t).fresh).line = (m.rs t).line from l1] at e
      exact absurd e hph
    · unfold ahL
      rw [hop', show (LS.pf (m.at t).fresh).line = (m.rs t).line from l1, ha']; exact hT.ah
    · rw [hop', show (LS.pf (m.at t).fresh).line = (m.rs t).line from l1, ha']; exact hT.try5
    · rw [hop', show (LS.pf (m.at t).fresh).line = (m.rs t).line from l1, ha']; exact hT.tryw
  rcases wtp_cases hw with ⟨o, l, rfl, rfl⟩ | ⟨o, l, rfl, rfl⟩ | ⟨ol, rfl, rfl⟩ | ⟨o, l, rfl, rfl⟩
  · -- a reader
    have hwn : s.wr t = .no := by rw [hwr]; unfold wrOf; simp [o]
    have come : (m.rs t).s ≠ 4 → (bitsI (wordAt m.xs 0) != bitsI (m.rs t).a) = true → PInv k (s.setR t .reads s.I s.O) := fun e4 e => by
      have hro : s.rd t = .waits (bitsI (m.rs t).a) := by rw [hrd]; unfold rdOf; simp [o, l, e4]
      refine A.inv.letIn ht hro (fun e5 => ?_)
      rw [show wordAt m.xs 0 = wi b s.I s.β from A.ws.w0, wi_bits _ _ A.inv.β_bd, e5] at e
      simp at e
    cases hd : (stepI m.xs k mode t (m.rs t).s 0 (fun v => bitsI v != bitsI (m.rs t).a)).done
    · obtain ⟨f1, f2, l1, r0, hTT⟩ := rest hd
      obtain ⟨n4, h4⟩ := hnot hd
      have hTT' := hTT (fun e => by unfold phL at e; omega)
      rw [f1, f2]
      by_cases e4 : (LS.pf (m.at t).fresh).s = 4
      · exact goR .reads _ _ (come n4 (h4 e4)) (by unfold rdOf; simp [hop', l1, o, l, e4]) (by rw [hwn]; unfold wrOf; simp [hop', o]) hTT'
      · exact stay _ _ (by rw [hrd]; unfold rdOf; simp [hop', l1, o, l, e4, n4, ha']) (by rw [hwn]; unfold wrOf; simp [hop', o]) hTT'
    · have hr2 : (LS.pf (m.at t).fresh).ret = 2 := by
        rw [pf_1_1 (r := (m.at t).fresh) o l]; unfold LS.pAdmit
        rw [if_pos (show ((m.at t).fresh.stepR 0 (m.at t).fresh.left).done = true from (congrArg StepR.done hSR).trans hd)]; rfl
      obtain ⟨f1, f2⟩ := fin_yes (R := LS.pf (m.at t).fresh) (m.hold t) (by rw [hr2]; decide) hk'
      rw [f1, f2, hop', hr2, o, show behindI 1 2 (m.hold t) = 1 from rfl]
      rcases hdone hd with e4 | ⟨e4, e5⟩
      · exact stay _ _ (by rw [hrd]; unfold rdOf; simp [o, l, e4, zeroF]) (by rw [hwn]; rfl) (taskp_idle _ (.inr (.inl rfl)))
      · exact goR .reads _ _ (come e4 e5) rfl (by rw [hwn]; rfl) (taskp_idle _ (.inr (.inl rfl)))
  · -- a ticket
    have hrn : s.rd t = .no := by rw [hrd]; unfold rdOf; simp [o]
    have come : (m.rs t).s ≠ 4 → (wordAt m.xs 3 == (m.rs t).a) = true → PInv k (s.setW t .turn (s.tk t) s.N s.T s.β s.φ s.a) := fun e4 e => by
      have hro : s.wr t = .waits := by rw [hwr]; unfold wrOf; simp [o, l, e4]
      have hlt := A.inv.lo t ht (by rw [hro]; rfl)
      refine A.inv.turn ht hro ?_ (fun v e5 => by rw [hrn] at e5; cases e5)
      have e6 : wordAt m.xs 3 = (m.rs t).a := by simpa using e
      rw [show wordAt m.xs 3 = wd b s.T from A.ws.w3, hT.tick o l] at e6
      exact (wd_inj e6 (by omega) (by omega)).symm
    cases hd : (stepI m.xs k mode t (m.rs t).s 3 (fun v => v == (m.rs t).a)).done
    · obtain ⟨f1, f2, l1, r0, hTT⟩ := rest hd
      obtain ⟨n4, h4⟩ := hnot hd
      have hTT' := hTT (fun e => by unfold phL at e; omega)
      rw [f1, f2]
      by_cases e4 : (LS.pf (m.at t).fresh).s = 4
      · exact goW .turn _ _ (come n4 (h4 e4)) (by rw [hrn]; unfold rdOf; simp [hop', o]) (by unfold wrOf; simp [hop', l1, o, l, e4]) hTT'
      · exact stay _ _ (by rw [hrn]; unfold rdOf; simp [hop', o]) (by rw [hwr]; unfold wrOf; simp [hop', l1, o, l, e4, n4]) hTT'
    · have hR : LS.pf (m.at t).fresh = ((m.at t).fresh.wait 3 (m.at t).fresh.mine).go 2 := by
        rw [pf_3_1 (r := (m.at t).fresh) o l]; unfold LS.pTurn
        rw [if_pos (show ((m.at t).fresh.stepR 3 (m.at t).fresh.mine).done = true from (congrArg StepR.done hSR).trans hd)]
      have hl2 : (LS.pf (m.at t).fresh).line = 2 := by rw [hR]; rfl
      have hr2 : (LS.pf (m.at t).fresh).ret = 0 := by rw [hR]; exact hret
      have hh : m.hold t = 0 := by unfold lineP at hline; omega
      obtain ⟨f1, f2⟩ := fin_no (R := LS.pf (m.at t).fresh) (m.hold t) hr2
      rw [f1, f2]
      have hTT : TaskP b s.N s.T (s.tk t) (wordAt m.xs 4) (wi b s.a 0) (m.hold t) (LS.pf (m.at t).fresh) := taskp_at (o := 3) (l := 2) (hop'.trans o) hl2 (by unfold lineP; rw [hop', hl2, o, hh]; simp) (wakep_off hk') (by omega) (by omega) (by omega) (by omega) (by omega)
      have er : rdOf (m.hold t) (LS.pf (m.at t).fresh) = s.rd t := by rw [hrn]; unfold rdOf; simp [hop', o]
      have ew : wrOf (m.hold t) (LS.pf (m.at t).fresh) = .turn := by unfold wrOf; simp [hop', hl2, o]
      rcases hdone hd with e4 | ⟨e4, e5⟩
      · exact stay _ _ er (by rw [ew, hwr]; unfold wrOf; simp [o, l, e4]) hTT
      · exact goW .turn _ _ (come e4 e5) er ew hTT
  · -- present
    have ho36 : (m.rs t).op = 3 ∨ (m.rs t).op = 6 := by omega
    have hah : (m.rs t).a = wi b s.a 0 := hT.ah (by unfold ahL; omega)
    have hh : m.hold t = 0 := by unfold lineP at hline; omega
    have hrn : s.rd t = .no := by rw [hrd]; unfold rdOf; rcases ho36 with e | e <;> simp [e]
    have er : ∀ r' : LS, r'.op = (m.rs t).op → rdOf (m.hold t) r' = s.rd t := fun r' e => by rw [hrn]; unfold rdOf; rcases ho36 with e2 | e2 <;> simp [e, e2]
    have ew : ∀ (r' : LS), r'.op = (m.rs t).op → r'.line = (m.rs t).line → wrOf (m.hold t) r' = if r'.s = 4 then .writes else .comes := fun r' e1 e2 => by unfold wrOf; rcases ol with ⟨o, l⟩ | ⟨o, l⟩ <;> simp [e1, e2, o, l]
    have come : (m.rs t).s ≠ 4 → (wordAt m.xs 1 == (m.rs t).a) = true → PInv k (s.setW t .writes (s.tk t) s.N s.T s.β s.φ s.a) := fun e4 e => by
      have hro : s.wr t = .comes := by rw [hwr, ew (m.rs t) rfl rfl, if_neg e4]
      have hle := A.inv.a_le ht (by rw [hro]; rfl)
      refine A.inv.enter ht hro ?_
      have e6 : wordAt m.xs 1 = (m.rs t).a := by simpa using e
      rw [show wordAt m.xs 1 = wi b s.O 0 from A.ws.w1, hah] at e6
      rw [hrn, old_no]
      exact wi_inj e6 (by omega) (by omega)
    cases hd : (stepI m.xs k mode t (m.rs t).s 1 (fun v => v == (m.rs t).a)).done
    · obtain ⟨f1, f2, l1, r0, hTT⟩ := rest hd
      obtain ⟨n4, h4⟩ := hnot hd
      have hTT' := hTT (fun e => by unfold phL at e; omega)
      rw [f1, f2]
      by_cases e4 : (LS.pf (m.at t).fresh).s = 4
      · exact goW .writes _ _ (come n4 (h4 e4)) (er _ hop') (by rw [ew _ hop' l1, if_pos e4]) hTT'
      · exact stay _ _ (er _ hop') (by rw [hwr, ew _ hop' l1, ew (m.rs t) rfl rfl, if_neg e4, if_neg n4]) hTT'
    · have hr2 : (LS.pf (m.at t).fresh).ret = 2 := by
        have e : LS.pf (m.at t).fresh = (m.at t).fresh.pAdmit 1 (m.at t).fresh.mine := by
          rcases ol with ⟨o, l⟩ | ⟨o, l⟩
          · exact pf_3_4 (r := (m.at t).fresh) o l
          · exact pf_6_7 (r := (m.at t).fresh) o l
        rw [e]; unfold LS.pAdmit
        rw [if_pos (show ((m.at t).fresh.stepR 1 (m.at t).fresh.mine).done = true from (congrArg StepR.done hSR).trans hd)]; rfl
      obtain ⟨f1, f2⟩ := fin_yes (R := LS.pf (m.at t).fresh) (m.hold t) (by rw [hr2]; decide) hk'
      have hb : behindI (m.rs t).op 2 (m.hold t) = 2 := by rcases ho36 with e | e <;> rw [e] <;> rfl
      rw [f1, f2, hop', hr2, hb]
      rcases hdone hd with e4 | ⟨e4, e5⟩
      · exact stay _ _ (by rw [hrn]; rfl) (by rw [hwr, ew (m.rs t) rfl rfl, if_pos e4]; rfl) (taskp_idle _ (.inr (.inr rfl)))
      · exact goW .writes _ _ (come e4 e5) (by rw [hrn]; rfl) rfl (taskp_idle _ (.inr (.inr rfl)))
  · -- a reader that is to write
    have hah : (m.rs t).a = wi b s.a 0 := hT.ah (by unfold ahL; omega)
    have hh : m.hold t = 1 := by unfold lineP at hline; omega
    have hrn : s.rd t = .reads := by rw [hrd]; unfold rdOf; simp [o]
    have er : ∀ r' : LS, r'.op = (m.rs t).op → rdOf (m.hold t) r' = s.rd t := fun r' e => by rw [hrn]; unfold rdOf; simp [e, o]
    have come : (m.rs t).s ≠ 4 → (wordAt m.xs 1 == ((m.rs t).a - 256) % 4294967296) = true → PInv k (s.setW t .writes (s.tk t) s.N s.T s.β s.φ s.a) := fun e4 e => by
      have hro : s.wr t = .comes := by rw [hwr]; unfold wrOf; simp [o, l, e4]
      have hle := A.inv.a_le ht (by rw [hro]; rfl)
      refine A.inv.enter ht hro ?_
      have e6 : wordAt m.xs 1 = ((m.rs t).a - 256) % 4294967296 := by simpa using e
      rw [show wordAt m.xs 1 = wi b s.O 0 from A.ws.w1, hah] at e6
      rw [hrn, old_r]
      exact wi_less2 e6 (by omega) (by omega)
    cases hd : (stepI m.xs k mode t (m.rs t).s 1 (fun v => v == ((m.rs t).a - 256) % 4294967296)).done
    · obtain ⟨f1, f2, l1, r0, hTT⟩ := rest hd
      obtain ⟨n4, h4⟩ := hnot hd
      have hTT' := hTT (fun e => by unfold phL at e; omega)
      rw [f1, f2]
      by_cases e4 : (LS.pf (m.at t).fresh).s = 4
      · exact goW .writes _ _ (come n4 (h4 e4)) (er _ hop') (by unfold wrOf; simp [hop', l1, o, l, e4]) hTT'
      · exact stay _ _ (er _ hop') (by rw [hwr]; unfold wrOf; simp [hop', l1, o, l, e4, n4]) hTT'
    · have hR : (LS.pf (m.at t).fresh).line = 8 ∧ (LS.pf (m.at t).fresh).ret = 0 := by
        rw [pf_7_7 (r := (m.at t).fresh) o l]; unfold LS.pOthers
        rw [if_pos (show ((m.at t).fresh.stepR 1 (m.at t).fresh.butMe).done = true from (congrArg StepR.done hSR).trans hd)]
        refine ⟨rfl, ?_⟩
        unfold LS.noteIf
        split
        · exact hret
        · exact hret
      obtain ⟨f1, f2⟩ := fin_no (R := LS.pf (m.at t).fresh) (m.hold t) hR.2
      rw [f1, f2]
      have hTT : TaskP b s.N s.T (s.tk t) (wordAt m.xs 4) (wi b s.a 0) (m.hold t) (LS.pf (m.at t).fresh) := taskp_at (o := 7) (l := 8) (hop'.trans o) hR.1 (by unfold lineP; rw [hop', hR.1, o, hh]; simp) (wakep_off hk') (by omega) (by omega) (by omega) (by omega) (by omega)
      have ew : wrOf (m.hold t) (LS.pf (m.at t).fresh) = .writes := by unfold wrOf; simp [hop', hR.1, o]
      rcases hdone hd with e4 | ⟨e4, e5⟩
      · exact stay _ _ (er _ hop') (by rw [ew, hwr]; unfold wrOf; simp [o, l, e4]) hTT
      · exact goW .writes _ _ (come e4 e5) (er _ hop') ew hTT
end
end Go.Proofs.Ytgfippbcgneegaa
set_option linter.unusedVariables false
set_option linter.unusedSimpArgs false
namespace Go.Proofs.Ytgfippbcgneegaa
section
variable {b : Int} {k : Nat} {mode : Int} {p : Nat} {m : MV} {t : Nat} {s : PS}
theorem plain_wakesP {r : LS} {h : Int} (A : AheadP b k s t h r) (hop : r.op ≠ 0) (hw : wtP r.op r.line r.a = none) :
    (bitsI (wordAt r.pf.xs 0) = bitsI (wordAt r.xs 0) ∨ r.pf.k = beginI r.mode 0 ∨ bitsI (wordAt r.xs 0) = 0) ∧ (wordAt r.pf.xs 1 = wordAt r.xs 1 ∨ r.pf.k = beginI r.mode 1 ∨ (s.wr t).act = true) ∧ (wordAt r.pf.xs 3 = wordAt r.xs 3 ∨ r.pf.k = beginI r.mode 3) := by
  have same : ∀ R : LS, wordAt R.xs 0 = wordAt r.xs 0 → wordAt R.xs 1 = wordAt r.xs 1 → wordAt R.xs 3 = wordAt r.xs 3 → (bitsI (wordAt R.xs 0) = bitsI (wordAt r.xs 0) ∨ R.k = beginI r.mode 0 ∨ bitsI (wordAt r.xs 0) = 0) ∧ (wordAt R.xs 1 = wordAt r.xs 1 ∨ R.k = beginI r.mode 1 ∨ (s.wr t).act = true) ∧ (wordAt R.xs 3 = wordAt r.xs 3 ∨ R.k = beginI r.mode 3) := fun R e0 e1 e3 => ⟨.inl (by rw [e0]), .inl e1, .inl e3⟩
  have ld : ∀ c d : Int, wordAt (doNew r.xs 1 c 0 0) d = wordAt r.xs d := fun c d => loadf c d
  have w0 : ∀ x : Int, wordAt (doNew r.xs 3 0 x 0) 0 = (x + wordAt r.xs 0) % 4294967296 := fun x => addat A (by decide) (by decide)
  have app : ∀ n : Int, wrOf h r = .turn → (bitsI (wordAt (r.pAppear n).xs 0) = bitsI (wordAt r.xs 0) ∨ (r.pAppear n).k = beginI r.mode 0 ∨ bitsI (wordAt r.xs 0) = 0) ∧ (wordAt (r.pAppear n).xs 1 = wordAt r.xs 1 ∨ (r.pAppear n).k = beginI r.mode 1 ∨ (s.wr t).act = true) ∧ (wordAt (r.pAppear n).xs 3 = wordAt r.xs 3 ∨ (r.pAppear n).k = beginI r.mode 3) := fun n e => by
    obtain ⟨q1, q2, q3, q4, q5, q6, q7, q8⟩ := app_p (r := r) n
    have hwt : s.wr t = .turn := A.wr.trans e
    have hb0 := A.inv.free A.lt (by rw [hwt]; rfl) (by rw [hwt]; rfl)
    exact ⟨.inr (.inr (by rw [A.ws.w0, wi_bits _ _ A.inv.β_bd, hb0])), .inl (by rw [q6]; exact addf (by decide)), .inl (by rw [q6]; exact addf (by decide))⟩
  have van : ∀ i n : Int, (bitsI (wordAt (r.pVanish i n).xs 0) = bitsI (wordAt r.xs 0) ∨ (r.pVanish i n).k = beginI r.mode 0 ∨ bitsI (wordAt r.xs 0) = 0) ∧ (wordAt (r.pVanish i n).xs 1 = wordAt r.xs 1 ∨ (r.pVanish i n).k = beginI r.mode 1 ∨ (s.wr t).act = true) ∧ (wordAt (r.pVanish i n).xs 3 = wordAt r.xs 3 ∨ (r.pVanish i n).k = beginI r.mode 3) := fun i n => by
    obtain ⟨q1, q2, q3, q4, q5, q6, q7⟩ := van_p (r := r) i n
    exact ⟨.inr (.inl q3), .inl (by rw [q6]; exact addf (by decide)), .inl (by rw [q6]; exact addf (by decide))⟩
  have pas : ∀ ok : Bool, (bitsI (wordAt (r.pPass ok).xs 0) = bitsI (wordAt r.xs 0) ∨ (r.pPass ok).k = beginI r.mode 0 ∨ bitsI (wordAt r.xs 0) = 0) ∧ (wordAt (r.pPass ok).xs 1 = wordAt r.xs 1 ∨ (r.pPass ok).k = beginI r.mode 1 ∨ (s.wr t).act = true) ∧ (wordAt (r.pPass ok).xs 3 = wordAt r.xs 3 ∨ (r.pPass ok).k = beginI r.mode 3) := fun ok => by
    obtain ⟨q1, q2, q3, q4, q5, q6⟩ := pass_p (r := r) ok
    exact ⟨.inl (by rw [q6, addf (by decide)]), .inl (by rw [q6]; exact addf (by decide)), .inr q3⟩
  have cnt : (bitsI (wordAt r.pCount.xs 0) = bitsI (wordAt r.xs 0) ∨ r.pCount.k = beginI r.mode 0 ∨ bitsI (wordAt r.xs 0) = 0) ∧ (wordAt r.pCount.xs 1 = wordAt r.xs 1 ∨ r.pCount.k = beginI r.mode 1 ∨ (s.wr t).act = true) ∧ (wordAt r.pCount.xs 3 = wordAt r.xs 3 ∨ r.pCount.k = beginI r.mode 3) := by
    obtain ⟨q1, q2, q3, q4, q5, q6⟩ := cnt_p (r := r)
    exact same _ (by rw [q6]; exact stop4 (by decide)) (by rw [q6]; exact stop4 (by decide)) (by rw [q6]; exact stop4 (by decide))
  have kee : ∀ n : Int, _ := fun n => same (r.pKeep n) (ld 4 0) (ld 4 1) (ld 4 3)
  have loo : ∀ c n : Int, _ := fun c n => same (r.pLook c n) (ld c 0) (ld c 1) (ld c 3)
  have wet : _ := same r.pWeighT (by unfold LS.pWeighT; (repeat' split) <;> exact ld 3 0) (by unfold LS.pWeighT; (repeat' split) <;> exact ld 3 1) (by unfold LS.pWeighT; (repeat' split) <;> exact ld 3 3)
  have wer : ∀ o : Int, _ := fun o => same (r.pWeighR o) (by unfold LS.pWeighR; split <;> exact ld 1 0) (by unfold LS.pWeighR; split <;> exact ld 1 1) (by unfold LS.pWeighR; split <;> exact ld 1 3)
  have cla : _ := same r.pClaim (by unfold LS.pClaim; split <;> exact own_cas_far (by decide)) (by unfold LS.pClaim; split <;> exact own_cas_far (by decide)) (by unfold LS.pClaim; split <;> exact own_cas_far (by decide))
  have hline := A.task.line
  have nw : ¬ (r.op = 1 ∧ r.line = 1) ∧ ¬ (r.op = 3 ∧ r.line = 1) ∧ ¬ ((r.op = 3 ∧ r.line = 4) ∨ (r.op = 6 ∧ r.line = 7)) ∧ ¬ (r.op = 7 ∧ r.line = 7) := by
    unfold wtP at hw
    by_cases e1 : r.op = 1 ∧ r.line = 1
    · rw [if_pos e1] at hw; cases hw
    rw [if_neg e1] at hw
    by_cases e2 : r.op = 3 ∧ r.line = 1
    · rw [if_pos e2] at hw; cases hw
    rw [if_neg e2] at hw
    by_cases e3 : (r.op = 3 ∧ r.line = 4) ∨ (r.op = 6 ∧ r.line = 7)
    · rw [if_pos e3] at hw; cases hw
    rw [if_neg e3] at hw
    by_cases e4 : r.op = 7 ∧ r.line = 7
    · rw [if_pos e4] at hw; cases hw
    exact ⟨e1, e2, e3, e4⟩
  obtain ⟨n1, n2, n3, n4⟩ := nw
  unfold lineP at hline
  rcases hline with ⟨ho, _⟩ | ⟨ho, hh, hl⟩ | ⟨ho, hh, hl⟩ | ⟨ho, hh, hl⟩ | ⟨ho, hh, hl⟩ | ⟨ho, hh, hl⟩ | ⟨ho, hh, hl⟩ | ⟨ho, hh, hl⟩ | ⟨ho, hh, hl⟩
  · exact absurd ho hop
  · rcases hl with hl | hl
    · rw [pf_1_0 ho hl]
      have hx : r.pCome.xs = doNew r.xs 3 0 256 0 := by unfold LS.pCome; split <;> rfl
      refine ⟨.inl ?_, .inl (by rw [hx]; exact addf (by decide)), .inl (by rw [hx]; exact addf (by decide))⟩
      rw [hx, w0]; unfold bitsI; omega
    · exact absurd ⟨ho, hl⟩ n1
  · rw [pf_2_0 ho hl]
    obtain ⟨p1, p2, p3, p4, p5, p6⟩ := dep_p (r := r)
    exact ⟨.inl (by rw [p6, addf (by decide)]), .inr (.inl p3), .inl (by rw [p6]; exact addf (by decide))⟩
  · rcases hl with hl | hl | hl | hl | hl
    · rw [pf_3_0 ho hl]; exact same r.pDraw (addf (c := 2) (by decide)) (addf (c := 2) (by decide)) (addf (c := 2) (by decide))
    · exact absurd ⟨ho, hl⟩ n2
    · rw [pf_3_2 ho hl]; exact kee 3
    · rw [pf_3_3 ho hl]; exact app 4 (by unfold wrOf; simp [ho, hl])
    · exact absurd (.inl ⟨ho, hl⟩) n3
  · rcases hl with hl | hl | hl | hl
    · rw [pf_4_0 ho hl]; exact kee 1
    · rw [pf_4_1 ho hl]; exact van 0 7
    · rw [pf_4_2 ho hl]; exact cnt
    · rw [pf_4_3 ho hl]; exact pas true
  · rcases hl with hl | hl
    · rw [pf_5_0 ho hl]
      have hx : r.pLookIn.xs = doNew r.xs 1 0 0 0 := by unfold LS.pLookIn; split <;> rfl
      exact same _ (by rw [hx]; exact ld 0 0) (by rw [hx]; exact ld 0 1) (by rw [hx]; exact ld 0 3)
    · rw [pf_5_1 ho hl]
      have hx : r.pSlip.xs = doNew r.xs 5 0 r.a ((r.a + 256) % 4294967296) := by unfold LS.pSlip; split <;> simp only [LS.doA, LS.note, LS.go, LS.fin]
      refine ⟨.inl ?_, .inl (by rw [hx]; exact own_cas_far (by decide)), .inl (by rw [hx]; exact own_cas_far (by decide))⟩
      rw [hx]
      rcases cas_words A 0 r.a ((r.a + 256) % 4294967296) (by decide) (by decide) (was_eq A 0 (by decide) (by decide)) with ⟨hc, e, x2, wf⟩ | ⟨hc, e, wf⟩
      · rw [x2, ← e]; unfold bitsI; omega
      · rw [wf 0]
  · rcases hl with hl | hl | hl | hl | hl | hl | hl | hl | hl
    · rw [pf_6_0 ho hl]; exact loo 2 1
    · rw [pf_6_1 ho hl]; exact wet
    · rw [pf_6_2 ho hl]; exact cla
    · rw [pf_6_3 ho hl]; exact loo 0 4
    · rw [pf_6_4 ho hl]; exact wer 0
    · rw [pf_6_5 ho hl]; exact kee 6
    · rw [pf_6_6 ho hl]; exact app 7 (wr_try3 (.inl ho) (.inr (.inr (.inr hl))))
    · exact absurd (.inr ⟨ho, hl⟩) n3
    · rw [pf_6_9 ho hl]; exact pas false
  · rcases hl with hl | hl | hl | hl | hl | hl | hl | hl | hl | hl
    · rw [pf_7_0 ho hl]; exact loo 2 1
    · rw [pf_7_1 ho hl]; exact wet
    · rw [pf_7_2 ho hl]; exact cla
    · rw [pf_7_3 ho hl]; exact loo 0 4
    · rw [pf_7_4 ho hl]; exact wer 256
    · rw [pf_7_5 ho hl]; exact kee 6
    · rw [pf_7_6 ho hl]; exact app 7 (wr_try3 (.inr ho) (.inr (.inr (.inr hl))))
    · exact absurd ⟨ho, hl⟩ n4
    · rw [pf_7_8 ho hl]
      refine ⟨.inl (congrArg bitsI (addf (c := 1) (by decide))), .inr (.inr ?_), .inl (addf (c := 1) (by decide))⟩
      rw [A.wr]; unfold wrOf; simp [ho, hl]; rfl
    · rw [pf_7_9 ho hl]; exact pas false
  · rcases hl with hl | hl | hl | hl
    · rw [pf_8_0 ho hl]; exact kee 1
    · rw [pf_8_1 ho hl]; exact van 256 10
    · rw [pf_8_2 ho hl]; exact cnt
    · rw [pf_8_3 ho hl]; exact pas true
theorem invP_step (hp : p < 30000) (h : GenI wtP k mode m) (ht : t < k) {R : LS} (hN : s.N ≤ p) (hII : s.I ≤ p) (hI0 : PInv k s) (ha : ∀ i, i < k → s.rd i = rdOf (m.hold i) (m.rs i) ∧ s.wr i = wrOf (m.hold i) (m.rs i) ∧ TaskP b s.N s.T (s.tk i) (wordAt m.xs 4) (wi b s.a 0) (m.hold i) (m.rs i)) (hT : StepT wtP k mode m t R) (hM : MovedP b k s t (wordAt m.xs 4) (R.finH (m.hold t)) R.finR R.xs) :
    PfInv b k mode (p + 1) ⟨upd m.rs t R.finR, upd m.hold t (R.finH (m.hold t)), R.xs⟩ := by
  obtain ⟨s', hI, hoth, e1, e2, hN1, hN2, hT1, hI1, ws, hq, hTk⟩ := hM
  refine ⟨hT.gen lines_pf h ht, s', hI, by omega, by omega, ws, fun i hi => ?_⟩
  dsimp only
  by_cases e : i = t
  · subst e
    rw [upd_same, upd_same]
    exact ⟨e1, e2, hTk⟩
  · rw [upd_other _ _ e, upd_other _ _ e]
    obtain ⟨o1, o2, o3⟩ := hoth i e
    obtain ⟨a1, a2, a3⟩ := ha i hi
    refine ⟨o1.trans a1, o2.trans a2, ?_⟩
    rw [o3]
    refine a3.mono hN1 hT1 ?_
    rcases hq with ⟨q1, q2⟩ | q
    · exact .inl ⟨q1, by rw [q2]⟩
    · right
      rw [← a2]
      exact hI0.others ht q i hi e
theorem PfInv.go (hk : 1 ≤ k ∧ k ≤ 64) (h : PfInv b k mode p m) (hp : p < 20000) (ht : t < k) (hop : (m.rs t).op ≠ 0) (hst : (m.at t).stuck = false) : PfInv b k mode (p + 1) (m.go LS.pf t) := by
  obtain ⟨s, hI, hN, hII, ws, ha⟩ := h.ex
  have g := h.gen
  obtain ⟨h1, h2, hT⟩ := ha t ht
  obtain ⟨c1, c2, c3⟩ := g.cst t ht
  rw [go_eq hst]
  cases hon : (m.rs t).k.on
  · have A := aheadP_mk hk.2 g hI (by omega) (by omega) ws ht h1 h2 hT hon
    have hR : (m.at t).next LS.pf = LS.pf (m.at t).fresh := by
      unfold LS.next
      rw [if_neg (by show ¬ (m.rs t).k.on = true; rw [hon]; exact Bool.false_ne_true)]
    rw [hR]
    cases hw : wtP (m.rs t).op (m.rs t).line (m.rs t).a with
    | none =>
      have hs0 : (m.rs t).s = 0 := by
        by_cases e : (m.rs t).s = 0
        · exact e
        · obtain ⟨⟨c, q, e2⟩, _⟩ := g.sw t ht e
          rw [hw] at e2; cases e2
      refine invP_step (by omega) g ht hN hII hI ha (step_plain lines_pf hk.2 hk.1 g ht hop hon hw (fun i hi hne c q hwi hsi hq => ?_)) (movedP_plain A hs0 hop hw)
      have hm2 : mode = 2 := by
        by_cases e : mode = 2
        · exact e
        · have := g.sp i hi e; omega
      obtain ⟨k0, k1, k3⟩ := plain_wakesP A hop hw
      have hmode : (m.at t).fresh.mode = 2 := c2.trans hm2
      rw [hmode] at k0 k1 k3
      obtain ⟨hri, hwi2, hTi⟩ := ha i hi
      rcases wtp_cases hwi with ⟨o, l, rfl, rfl⟩ | ⟨o, l, rfl, rfl⟩ | ⟨ol, rfl, rfl⟩ | ⟨o, l, rfl, rfl⟩
      · rcases k0 with e | e | e
        · left
          have e' : bitsI (wordAt (LS.pf (m.at t).fresh).xs 0) = bitsI (wordAt m.xs 0) := e
          show (bitsI (wordAt m.xs 0) != bitsI (m.rs i).a) = true
          rw [← e']; exact hq
        · exact .inr e
        · left
          have e' : bitsI (wordAt m.xs 0) = 0 := e
          have hsaw : s.rd i = .waits (bitsI (m.rs i).a) := by rw [hri]; unfold rdOf; simp [o, l, hsi]
          have := hI.saw i _ hi hsaw
          show (bitsI (wordAt m.xs 0) != bitsI (m.rs i).a) = true
          rw [e', bne_iff_ne]; omega
      · rcases k3 with e | e
        · left; rw [e] at hq; exact hq
        · exact .inr e
      · rcases k1 with e | e | e
        · left; rw [e] at hq; exact hq
        · exact .inr e
        · exfalso
          have : s.wr i = .comes := by rw [hwi2]; unfold wrOf; rcases ol with ⟨o, l⟩ | ⟨o, l⟩ <;> simp [o, l, hsi]
          have h3 := hI.others ht e i hi hne
          rw [this] at h3; cases h3
      · rcases k1 with e | e | e
        · left; rw [e] at hq; exact hq
        · exact .inr e
        · exfalso
          have : s.wr i = .comes := by rw [hwi2]; unfold wrOf; simp [o, l, hsi]
          have h3 := hI.others ht e i hi hne
          rw [this] at h3; cases h3
    | some cq =>
      obtain ⟨c, q⟩ := cq
      exact invP_step (by omega) g ht hN hII hI ha (step_wait lines_pf hk.2 g ht hop hon hst hw) (movedP_wait hk.2 g A hst hw)
  · have hR : (m.at t).next LS.pf = (m.at t).waking := by
      unfold LS.next
      rw [if_pos (by show (m.rs t).k.on = true; exact hon)]
    rw [hR]
    obtain ⟨k0, k1⟩ := g.kon t ht hon
    have hown : ∀ d, 0 ≤ d → d < 8 → wordAt (m.at t).waking.xs d = wordAt m.xs d := fun d h0 h1 => by
      obtain ⟨i0, hi0⟩ := Int.eq_ofNat_of_zero_le k0
      show wordAt (wakeI m.xs (m.rs t).n _ _ (m.rs t).k.i _).xs d = _
      rw [c1, hi0]
      exact own_wake (by rw [pc_at hk.2 (by omega)]; omega)
    have ws' : WordsP b s (m.at t).waking.xs := ⟨(hown 0 (by decide) (by decide)).trans ws.w0, (hown 1 (by decide) (by decide)).trans ws.w1, (hown 2 (by decide) (by decide)).trans ws.w2, (hown 3 (by decide) (by decide)).trans ws.w3, by rw [hown 4 (by decide) (by decide)]; exact ws.w4⟩
    exact invP_step (by omega) g ht hN hII hI ha (step_waking lines_pf hk.2 g ht hop hon) (movedP_waking hI h1 h2 hT ws' (hown 4 (by decide) (by decide)) hon rfl rfl rfl rfl rfl rfl)
theorem mayP_cases {op h : Int} (hm : mayI op h = true) (hh : h = 0 ∨ h = 1 ∨ h = 2) : (h = 0 ∧ (op = 1 ∨ op = 3 ∨ op = 5 ∨ op = 6)) ∨ (h = 1 ∧ (op = 2 ∨ op = 7)) ∨ (h = 2 ∧ (op = 4 ∨ op = 8)) := by
  rcases hh with rfl | rfl | rfl
  · left; simp only [mayI, if_true, Bool.or_eq_true, beq_iff_eq] at hm; exact ⟨rfl, by omega⟩
  · right; left; rw [show mayI op 1 = (op == 2 || op == 7) from rfl] at hm; simp only [Bool.or_eq_true, beq_iff_eq] at hm; exact ⟨rfl, hm⟩
  · right; right; rw [show mayI op 2 = (op == 4 || op == 8) from rfl] at hm; simp only [Bool.or_eq_true, beq_iff_eq] at hm; exact ⟨rfl, hm⟩
theorem PfInv.start (h : PfInv b k mode p m) (ht : t < k) (h0 : (m.rs t).op = 0) {op : Int} (hm : mayI op (m.hold t) = true) : PfInv b k mode p (m.start t op) := by
  obtain ⟨s, hI, hN, hII, ws, ha⟩ := h.ex
  refine ⟨h.gen.start lines_pf ht h0 op, s, hI, hN, hII, ws, fun i hi => ?_⟩
  show s.rd i = rdOf (upd m.hold t (fromI op (m.hold t)) i) (upd m.rs t (zeroF (m.at t) op) i) ∧ s.wr i = wrOf (upd m.hold t (fromI op (m.hold t)) i) (upd m.rs t (zeroF (m.at t) op) i) ∧ TaskP b s.N s.T (s.tk i) (wordAt m.xs 4) (wi b s.a 0) (upd m.hold t (fromI op (m.hold t)) i) (upd m.rs t (zeroF (m.at t) op) i)
  by_cases e : i = t
  · subst e
    rw [upd_same, upd_same]
    obtain ⟨h1, h2, hT⟩ := ha i hi
    have hc := mayP_cases hm (linep_hold hT.line)
    have h1' : s.rd i = if m.hold i = 1 then .reads else .no := by rw [h1]; unfold rdOf; rw [if_pos h0]
    have h2' : s.wr i = if m.hold i = 2 then .writes else .no := by rw [h2]; unfold wrOf; rw [if_pos h0]
    have hrest : ∀ h', lineP h' (zeroF (m.at i) op) → TaskP b s.N s.T (s.tk i) (wordAt m.xs 4) (wi b s.a 0) h' (zeroF (m.at i) op) := fun h' hl =>
      taskp_at (o := op) (l := 0) rfl rfl hl (wakep_off rfl) (by omega) (by omega) (by omega) (by omega) (by omega)
    rcases hc with ⟨hh, ho⟩ | ⟨hh, ho⟩ | ⟨hh, ho⟩
    · rw [hh] at h1' h2' ⊢
      rcases ho with rfl | rfl | rfl | rfl <;> exact ⟨h1', h2', hrest _ (by unfold lineP; simp [fromI, zeroF])⟩
    · rw [hh] at h1' h2' ⊢
      rcases ho with rfl | rfl <;> exact ⟨h1', h2', hrest _ (by unfold lineP; simp [fromI, zeroF])⟩
    · rw [hh] at h1' h2' ⊢
      rcases ho with rfl | rfl <;> exact ⟨h1', h2', hrest _ (by unfold lineP; simp [fromI, zeroF])⟩
  · rw [upd_other _ _ e, upd_other _ _ e]; exact ha i hi
theorem pf_rest (hk : 1 ≤ k ∧ k ≤ 64) (h : PfInv b k mode p m) (hb : ∀ t, t < k → Blk wtP k mode m t) : ∀ t, t < k → (m.rs t).op = 0 ∧ m.hold t = 0 := by
  obtain ⟨s, hI, hN, hII, ws, ha⟩ := h.ex
  have g := h.gen
  have hoff : ∀ j, j < k → (m.rs j).k.on = false := fun j hj => by
    rcases hb j hj with ⟨e, _⟩ | ⟨_, e, _⟩
    · exact g.idle j hj e
    · exact e
  have hno : ∀ i, i < k → (m.rs i).op ≠ 0 → (m.rs i).s ≠ 4 ∧ ∃ c q, wtP (m.rs i).op (m.rs i).line (m.rs i).a = some (c, q) ∧ q (wordAt m.xs c) = false := fun i hi h0 => by
    rcases hb i hi with ⟨e, _⟩ | ⟨_, hon, c, q, hw, hq⟩
    · exact absurd e h0
    · refine ⟨?_, c, q, hw, ?_⟩
      · rcases hq with ⟨e, _⟩ | ⟨_, e, _⟩
        · have := g.sp i hi e; omega
        · omega
      · rcases hq with ⟨_, e⟩ | ⟨_, e, e2⟩
        · exact e
        · cases hqq : q (wordAt m.xs c)
          · rfl
          · obtain ⟨j, hj, hjon, _⟩ := g.nl i hi c q hw e e2 hqq
            rw [hoff j hj] at hjon; cases hjon
  have hidle : ∀ i, i < k → (m.rs i).op = 0 → s.rd i = .no ∧ s.wr i = .no := fun i hi h0 => by
    rcases hb i hi with ⟨_, e⟩ | ⟨e, _⟩
    · obtain ⟨h1, h2, _⟩ := ha i hi
      rw [h1, h2, e]; unfold rdOf wrOf; rw [if_pos h0, if_pos h0]; exact ⟨rfl, rfl⟩
    · exact absurd h0 e
  -- nobody waits for a presence that is over
  have hrd : ∀ i, i < k → ∀ v, s.rd i = .waits v → v = s.β := fun i hi v e => by
    by_cases h0 : (m.rs i).op = 0
    · rw [(hidle i hi h0).1] at e; cases e
    · obtain ⟨n4, c, q, hw, hq⟩ := hno i hi h0
      obtain ⟨h1, h2, h3⟩ := ha i hi
      rcases wtp_cases hw with ⟨o, l, rfl, rfl⟩ | ⟨o, l, rfl, rfl⟩ | ⟨ol, rfl, rfl⟩ | ⟨o, l, rfl, rfl⟩
      · have e2 : rdOf (m.hold i) (m.rs i) = .waits (bitsI (m.rs i).a) := by unfold rdOf; simp [o, l, n4]
        rw [h1, e2] at e
        have hq' : (bitsI (wordAt m.xs 0) != bitsI (m.rs i).a) = false := hq
        rw [ws.w0, wi_bits _ _ hI.β_bd] at hq'
        have e3 : s.β = bitsI (m.rs i).a := by simpa using hq'
        cases e; exact e3.symm
      · rw [h1] at e; unfold rdOf at e; simp [o] at e
      · rw [h1] at e; unfold rdOf at e; rcases ol with ⟨o, l⟩ | ⟨o, l⟩ <;> simp [o] at e
      · rw [h1] at e; unfold rdOf at e; simp [o] at e
  -- nobody is present
  have hpres : ∀ i, i < k → (s.wr i).pres = false := fun i hi => by
    cases hp : (s.wr i).pres
    · rfl
    · exfalso
      have h0 : (m.rs i).op ≠ 0 := fun e => by rw [(hidle i hi e).2] at hp; cases hp
      obtain ⟨n4, c, q, hw, hq⟩ := hno i hi h0
      obtain ⟨h1, h2, h3⟩ := ha i hi
      have hact := Wr.pres_act hp
      obtain ⟨b1, b2⟩ := hI.bits i hi hp
      have hale := hI.a_le hi hp
      have hor := hI.order
      -- the others are no readers that came ahead of it
      have hothers : ∀ j, j < k → j ≠ i → old s.β (s.rd j) = 0 := fun j hj hne => by
        cases hr : s.rd j with
        | no => rfl
        | waits v => rw [old_w, if_pos (hrd j hj v hr)]
        | reads =>
          exfalso
          have hj0 : (m.rs j).op ≠ 0 := fun e => by rw [(hidle j hj e).1] at hr; cases hr
          obtain ⟨n4', c', q', hw', hq'⟩ := hno j hj hj0
          obtain ⟨g1, g2, g3⟩ := ha j hj
          rcases wtp_cases hw' with ⟨o, l, rfl, rfl⟩ | ⟨o, l, rfl, rfl⟩ | ⟨ol, rfl, rfl⟩ | ⟨o, l, rfl, rfl⟩
          · rw [g1] at hr; unfold rdOf at hr; simp [o, l, n4'] at hr
          · rw [g1] at hr; unfold rdOf at hr; simp [o] at hr
          · rw [g1] at hr; unfold rdOf at hr; rcases ol with ⟨o, l⟩ | ⟨o, l⟩ <;> simp [o] at hr
          · have : s.wr j = .comes := by rw [g2]; unfold wrOf; simp [o, l, n4']
            have h5 := hI.others hi hact j hj hne
            rw [this] at h5; cases h5
      have hsum : s.O + old s.β (s.rd i) = s.a := by
        have hu := sumN_upd (f := fun j => old s.β (s.rd j)) (g := upd (fun j => old s.β (s.rd j)) i 0) (t := i) (k := k) hi (fun j _ hj => upd_other _ _ hj)
        rw [upd_same] at hu
        have hz : sumN (upd (fun j => old s.β (s.rd j)) i 0) k = 0 := sumN_zero fun j hj => by
          by_cases e : j = i
          · subst e; rw [upd_same]
          · rw [upd_other _ _ e]; exact hothers j hj e
        rw [hz] at hu
        omega
      rcases wtp_cases hw with ⟨o, l, rfl, rfl⟩ | ⟨o, l, rfl, rfl⟩ | ⟨ol, rfl, rfl⟩ | ⟨o, l, rfl, rfl⟩
      · rw [h2] at hp; unfold wrOf at hp; simp [o] at hp; cases hp
      · rw [h2] at hp; unfold wrOf at hp; simp [o, l, n4] at hp; cases hp
      · have hrn : s.rd i = .no := by rw [h1]; unfold rdOf; rcases ol with ⟨o, l⟩ | ⟨o, l⟩ <;> simp [o]
        rw [hrn, old_no] at hsum
        have hah := h3.ah (by unfold ahL; omega)
        have hq' : (wordAt m.xs 1 == (m.rs i).a) = false := hq
        rw [ws.w1, hah, show s.O = s.a by omega] at hq'
        simp at hq'
      · have hrn : s.rd i = .reads := by rw [h1]; unfold rdOf; simp [o]
        rw [hrn, old_r] at hsum
        have hah := h3.ah (by unfold ahL; omega)
        have hq' : (wordAt m.xs 1 == ((m.rs i).a - 256) % 4294967296) = false := hq
        rw [ws.w1, hah, ← hsum, wi_less] at hq'
        simp at hq'
  have hb0 : s.β = 0 := hI.none hpres
  have hwr : ∀ i, i < k → s.wr i = .no ∨ s.wr i = .waits := fun i hi => by
    by_cases h0 : (m.rs i).op = 0
    · exact .inl (hidle i hi h0).2
    · obtain ⟨n4, c, q, hw, hq⟩ := hno i hi h0
      obtain ⟨h1, h2, h3⟩ := ha i hi
      have hp := hpres i hi
      rcases wtp_cases hw with ⟨o, l, rfl, rfl⟩ | ⟨o, l, rfl, rfl⟩ | ⟨ol, rfl, rfl⟩ | ⟨o, l, rfl, rfl⟩
      · left; rw [h2]; unfold wrOf; simp [o]
      · right; rw [h2]; unfold wrOf; simp [o, l, n4]
      · exfalso
        have : s.wr i = .comes := by rw [h2]; unfold wrOf; rcases ol with ⟨o, l⟩ | ⟨o, l⟩ <;> simp [o, l, n4]
        rw [this] at hp; cases hp
      · exfalso
        have : s.wr i = .comes := by rw [h2]; unfold wrOf; simp [o, l, n4]
        rw [this] at hp; cases hp
  have hnow : ∀ i, i < k → s.wr i ≠ .waits := fun i0 hi0 e0 => by
    obtain ⟨i, hi, hwi, htk⟩ := hI.turns hwr ⟨i0, hi0, e0⟩
    have h0 : (m.rs i).op ≠ 0 := fun e => by rw [(hidle i hi e).2] at hwi; cases hwi
    obtain ⟨n4, c, q, hw, hq⟩ := hno i hi h0
    obtain ⟨h1, h2, h3⟩ := ha i hi
    rcases wtp_cases hw with ⟨o, l, rfl, rfl⟩ | ⟨o, l, rfl, rfl⟩ | ⟨ol, rfl, rfl⟩ | ⟨o, l, rfl, rfl⟩
    · rw [h2] at hwi; unfold wrOf at hwi; simp [o] at hwi
    · have hq' : (wordAt m.xs 3 == (m.rs i).a) = false := hq
      rw [ws.w3, h3.tick o l, htk] at hq'
      simp at hq'
    · rw [h2] at hwi; unfold wrOf at hwi; rcases ol with ⟨o, l⟩ | ⟨o, l⟩ <;> simp [o, l, n4] at hwi
    · rw [h2] at hwi; unfold wrOf at hwi; simp [o, l, n4] at hwi
  intro t ht
  by_cases h0 : (m.rs t).op = 0
  · rcases hb t ht with e | ⟨e, _⟩
    · exact e
    · exact absurd h0 e
  · exfalso
    obtain ⟨n4, c, q, hw, hq⟩ := hno t ht h0
    obtain ⟨h1, h2, h3⟩ := ha t ht
    rcases wtp_cases hw with ⟨o, l, rfl, rfl⟩ | ⟨o, l, rfl, rfl⟩ | ⟨ol, rfl, rfl⟩ | ⟨o, l, rfl, rfl⟩
    · have e2 : s.rd t = .waits (bitsI (m.rs t).a) := by rw [h1]; unfold rdOf; simp [o, l, n4]
      have e3 := hrd t ht _ e2
      have e4 := hI.saw t _ ht e2
      omega
    · exact hnow t ht (by rw [h2]; unfold wrOf; simp [o, l, n4])
    · have hp := hpres t ht
      have : s.wr t = .comes := by rw [h2]; unfold wrOf; rcases ol with ⟨o, l⟩ | ⟨o, l⟩ <;> simp [o, l, n4]
      rw [this] at hp; cases hp
    · have hp := hpres t ht
      have : s.wr t = .comes := by rw [h2]; unfold wrOf; simp [o, l, n4]
      rw [this] at hp; cases hp
theorem pf_ok (hk : 1 ≤ k ∧ k ≤ 64) (b mode : Int) : LockOK LS.pf wtP (worthP k) k mode 20000 (PfInv b k mode) := by
  refine ⟨hk, lines_pf, worth_pf k, fun p m h => h.gen, fun p m h i hi => ?_, fun p m t op h ht h0 hm => h.start ht h0 hm, fun p m t h hp ht h0 hs => h.go hk hp ht h0 hs, fun p m h => ?_, fun p m t h ht h0 hh => ?_, fun p m t h ht h0 c q hon hw hd => ?_, fun p m t h hp ht h0 hon hw => ?_, fun p m h hb => pf_rest hk h hb⟩
  · obtain ⟨s, _, _, _, _, ha⟩ := h.ex
    exact linep_hold (ha i hi).2.2.line
  · obtain ⟨s, h1, h2, h3, h4⟩ := h.ex
    exact ⟨h.gen, s, h1, by omega, by omega, h4⟩
  · have e0 : worthP k (ownW m.xs) (m.hold t) (m.rs t) = idleP k (m.hold t) := by unfold worthP; rw [if_pos h0]
    rw [e0]
    rcases hh with e | e <;> rw [e]
    · rw [wp_line (R := zeroF (m.at t) (2 * 1)) (o := 2) (l := 0) rfl rfl rfl (by decide) (by decide)]; exact Nat.le_refl _
    · rw [wp_line (R := zeroF (m.at t) (2 * 2)) (o := 4) (l := 0) rfl rfl rfl (by decide) (by decide)]; exact Nat.le_refl _
  · have g := h.gen
    obtain ⟨c1, c2, c3⟩ := g.cst t ht
    have hret : (m.rs t).ret = 0 := g.rt t ht hon
    have hSR : (m.at t).fresh.stepR c q = stepI m.xs k mode t (m.rs t).s c q := by
      show stepI m.xs (m.rs t).n (m.rs t).mode (m.rs t).task (m.rs t).s c q = _
      rw [c1, c2, c3]
    have hkop : (LS.pf (m.at t).fresh).k = (m.rs t).k ∧ (LS.pf (m.at t).fresh).op = (m.rs t).op := ⟨(lines_pf.wait (m.at t).fresh _ _ hon hw).k, (lines_pf.same (m.at t).fresh).2.2.2.1⟩
    have i1 : idleP k 1 = 5 * k + 1 := rfl
    have i2 : idleP k 2 = 13 * k + 4 := rfl
    have over : ∀ {v : Nat}, (LS.pf (m.at t).fresh).ret = 2 → idleP k (behindI (m.rs t).op 2 (m.hold t)) + 4 ≤ v → worthP k (ownW m.xs) ((LS.pf (m.at t).fresh).finH (m.hold t)) (LS.pf (m.at t).fresh).finR + 4 ≤ v := fun e1 e2 => by
      obtain ⟨f1, f2⟩ := fin_yes (R := LS.pf (m.at t).fresh) (m.hold t) (by rw [e1]; decide) (by rw [hkop.1]; exact hon)
      rw [f1, f2, e1, hkop.2, wp_idle]; exact e2
    rcases wtp_cases hw with ⟨o, l, rfl, rfl⟩ | ⟨o, l, rfl, rfl⟩ | ⟨ol, rfl, rfl⟩ | ⟨o, l, rfl, rfl⟩
    · have hr2 : (LS.pf (m.at t).fresh).ret = 2 := by
        rw [pf_1_1 (r := (m.at t).fresh) o l]; unfold LS.pAdmit
        rw [if_pos (show ((m.at t).fresh.stepR 0 (m.at t).fresh.left).done = true from (congrArg StepR.done hSR).trans hd)]; rfl
      refine over hr2 ?_
      rw [wp_line (R := m.rs t) o l hret (by decide) (by decide), o, show behindI 1 2 (m.hold t) = 1 from rfl, i1]
      show _ ≤ 5 * k + 6
      omega
    · have hR : LS.pf (m.at t).fresh = ((m.at t).fresh.wait 3 (m.at t).fresh.mine).go 2 := by
        rw [pf_3_1 (r := (m.at t).fresh) o l]; unfold LS.pTurn
        rw [if_pos (show ((m.at t).fresh.stepR 3 (m.at t).fresh.mine).done = true from (congrArg StepR.done hSR).trans hd)]
      rw [hR]
      obtain ⟨f1, f2⟩ := fin_no (R := ((m.at t).fresh.wait 3 (m.at t).fresh.mine).go 2) (m.hold t) hret
      rw [f1, f2, wp_line (R := ((m.at t).fresh.wait 3 (m.at t).fresh.mine).go 2) (o := 3) (l := 2) o rfl hret (by decide) (by decide), wp_line (R := m.rs t) o l hret (by decide) (by decide)]
      show 16 * k + 11 + 4 ≤ 16 * k + 15
      omega
    · have hr2 : (LS.pf (m.at t).fresh).ret = 2 := by
        have e : LS.pf (m.at t).fresh = (m.at t).fresh.pAdmit 1 (m.at t).fresh.mine := by
          rcases ol with ⟨o, l⟩ | ⟨o, l⟩
          · exact pf_3_4 (r := (m.at t).fresh) o l
          · exact pf_6_7 (r := (m.at t).fresh) o l
        rw [e]; unfold LS.pAdmit
        rw [if_pos (show ((m.at t).fresh.stepR 1 (m.at t).fresh.mine).done = true from (congrArg StepR.done hSR).trans hd)]; rfl
      refine over hr2 ?_
      rcases ol with ⟨o, l⟩ | ⟨o, l⟩
      · rw [wp_line (R := m.rs t) o l hret (by decide) (by decide), o, show behindI 3 2 (m.hold t) = 2 from rfl, i2]
        show _ ≤ 13 * k + 9
        omega
      · rw [wp_line (R := m.rs t) o l hret (by decide) (by decide), o, show behindI 6 2 (m.hold t) = 2 from rfl, i2]
        show _ ≤ 13 * k + 10
        omega
    · have hR : (LS.pf (m.at t).fresh).line = 8 ∧ (LS.pf (m.at t).fresh).ret = 0 := by
        rw [pf_7_7 (r := (m.at t).fresh) o l]; unfold LS.pOthers
        rw [if_pos (show ((m.at t).fresh.stepR 1 (m.at t).fresh.butMe).done = true from (congrArg StepR.done hSR).trans hd)]
        refine ⟨rfl, ?_⟩
        unfold LS.noteIf
        split
        · exact hret
        · exact hret
      obtain ⟨f1, f2⟩ := fin_no (R := LS.pf (m.at t).fresh) (m.hold t) hR.2
      rw [f1, f2, wp_line (R := LS.pf (m.at t).fresh) (o := 7) (l := 8) (hkop.2.trans o) hR.1 hR.2 (by decide) (by decide), wp_line (R := m.rs t) o l hret (by decide) (by decide)]
      show 13 * k + 5 + 4 ≤ 13 * k + 10
      omega
  · obtain ⟨s, hI, hN, hII, ws, ha⟩ := h.ex
    obtain ⟨h1, h2, hT⟩ := ha t ht
    have A := aheadP_mk hk.2 h.gen hI (by omega) (by omega) ws ht h1 h2 hT hon
    obtain ⟨e, h1, h2⟩ := worth_plainP (k := k) A h0 hw
    exact ⟨e, fun i _ _ => h1 (m.hold i) (m.rs i), h2⟩
theorem pf_first {b : Int} (hk : 1 ≤ k ∧ k ≤ 64) (hb : 0 ≤ b ∧ b < 4294967296) (mode : Int) {xs : List Int} (hx : xs = clean [b * 256 % 4294967296, b * 256 % 4294967296, b, b, b, 0, 0, 0] k) : PfInv b k mode 0 ⟨fun i => newR k mode i 0 xs, fun _ => 0, xs⟩ := by
  have hl : xs.length = 8 + 4 * k := by rw [hx]; exact clean_len rfl
  have hz : ∀ i, i < k → wordAt xs (wc k i) = 0 := fun i hi => by rw [hx]; exact (wc_clean rfl hk hi).2
  have wb : wd b 0 = b := by unfold wd; omega
  have wib : wi b 0 0 = b * 256 % 4294967296 := by unfold wi; simp only [Int.natCast_zero, Int.add_zero]; omega
  refine ⟨⟨hl, fun i hi => ⟨rfl, rfl, rfl⟩, fun i hi => .inl rfl, fun i hi _ => rfl, fun i hi e => absurd rfl e, fun i hi => ⟨fun _ => hz i hi, fun e => (by rcases e with e | e | e <;> cases e)⟩, fun i hi e => (by cases e), fun i hi _ => rfl, fun i hi _ => rfl, fun i hi c q hw hs => (by cases hs)⟩, ⟨fun _ => .no, fun _ => .no, fun _ => 0, 0, 0, 0, 0, 0, b % 2, 0⟩, ?_, Nat.le_refl _, Nat.le_refl _, ⟨?_, ?_, ?_, ?_, ?_⟩, fun i hi => ⟨rfl, rfl, taskp_at (o := 0) (l := 0) rfl rfl (.inl ⟨rfl, .inl rfl⟩) (wakep_off rfl) (by omega) (by omega) (by omega) (by omega) (by omega)⟩⟩
  · refine ⟨?_, ?_, ?_, fun i hi e => (by cases e), fun i j hi hj e => (by cases e), fun i hi e => (by cases e), fun i hi e => (by cases e), fun _ => rfl, fun i v hi e => (by cases e), fun _ i v hi e => (by cases e), fun i hi e => (by cases e), fun i v hi e => (by cases e)⟩
    · show 0 + sumN (fun _ => 0) k = 0
      rw [sumN_zero (fun _ _ => rfl)]
    · show 0 + sumN (fun _ => 0) k = 0
      rw [sumN_zero (fun _ _ => rfl)]
    · show b % 2 = 0 ∨ b % 2 = 1
      omega
  · show wordAt xs 0 = wi b 0 0
    rw [wib, hx]; exact clean_own (i := 0) rfl (by decide)
  · show wordAt xs 1 = wi b 0 0
    rw [wib, hx]; exact clean_own (i := 1) rfl (by decide)
  · show wordAt xs 2 = wd b 0
    rw [wb, hx]; exact clean_own (i := 2) rfl (by decide)
  · show wordAt xs 3 = wd b 0
    rw [wb, hx]; exact clean_own (i := 3) rfl (by decide)
  · show wordAt xs 4 % 2 = b % 2
    rw [hx, show wordAt (clean [b * 256 % 4294967296, b * 256 % 4294967296, b, b, b, 0, 0, 0] k) 4 = b from clean_own (i := 4) rfl (by decide)]
theorem pf_bound (h : PfInv b k mode p m) : FI (worthP k) k m ≤ k * (24 * k + 27) := by
  have g := h.gen
  have h1 : sumN (share (worthP k) k m) k ≤ sumN (fun _ => 24 * k + 24) k := sumN_le fun i hi => by
    unfold share
    have a1 : swp k (m.rs i).k ≤ 5 * k := by
      unfold swp
      by_cases e : (m.rs i).k.on = true
      · rw [if_pos e]
        have : 5 * (k - (m.rs i).k.i.toNat) ≤ 5 * k := by omega
        by_cases e2 : (m.rs i).k.hit = true
        · rw [if_pos e2]; omega
        · rw [if_neg e2]; omega
      · rw [if_neg e]; omega
    have a2 : stp (m.rs i).s ≤ 4 := by
      rcases g.sr i hi with e | e | e | e | e <;> rw [e] <;> decide
    have a3 : worthP k (ownW m.xs) (m.hold i) (m.rs i) ≤ 19 * k + 20 := by
      have i1 := idleP_le k (m.hold i)
      have i2 := idleP_le k (behindI (m.rs i).op (m.rs i).ret (m.hold i))
      have ite_le : ∀ {p : Prop} [Decidable p] {x y : Nat}, x ≤ 19 * k + 20 → y ≤ 19 * k + 20 → (if p then x else y) ≤ 19 * k + 20 := fun {p} _ {x y} hx hy => by
        by_cases e : p
        · rw [if_pos e]; exact hx
        · rw [if_neg e]; exact hy
      have hlw : lineW (m.rs i).op (m.rs i).line k ≤ 19 * k + 20 := by
        unfold lineW
        exact ite_le (ite_le (by omega) (by omega)) (ite_le (by omega) (ite_le (ite_le (by omega) (ite_le (by omega) (ite_le (by omega) (ite_le (by omega) (by omega))))) (ite_le (ite_le (by omega) (ite_le (by omega) (ite_le (by omega) (by omega)))) (ite_le (ite_le (by omega) (ite_le (by omega) (ite_le (by omega) (by omega)))) (ite_le (by omega) (ite_le (by omega) (ite_le (by omega) (ite_le (by omega) (ite_le (by omega) (ite_le (by omega) (by omega)))))))))))
      unfold worthP
      exact ite_le (by omega) (ite_le (by omega) (ite_le (ite_le (by omega) (ite_le (ite_le (by omega) (by omega)) (ite_le (by omega) (by omega)))) hlw))
    omega
  have h2 : perms k m ≤ sumN (fun _ => 1) k := sumN_le fun i _ => by split <;> omega
  rw [sumN_const] at h1 h2
  unfold FI
  have e1 : k * (24 * k + 27) = k * (24 * k + 24) + k * 3 := by rw [← Nat.mul_add]
  omega
theorem pf_alone (h : PfInv b k mode p m) (ht : t < k) (h2 : m.hold t = 2) (i : Nat) (hi : i < k) (hn : i ≠ t) : m.hold i = 0 := by
  obtain ⟨s, hI, _, _, _, ha⟩ := h.ex
  have idle2 : ∀ j, j < k → m.hold j = 2 → s.wr j = .writes := fun j hj e => by
    obtain ⟨h1, h3, hT⟩ := ha j hj
    have hl := hT.line
    unfold lineP at hl
    have h0 : (m.rs j).op = 0 := by omega
    rw [h3, e]; unfold wrOf; rw [if_pos h0]; rfl
  have hw := idle2 t ht h2
  have hact : (s.wr t).act = true := by rw [hw]; rfl
  obtain ⟨g1, g2, gT⟩ := ha i hi
  rcases linep_hold gT.line with e | e | e
  · exact e
  · exfalso
    have hald := hI.alone t ht hw i hi hn
    have hoa := hI.others ht hact i hi hn
    have hl := gT.line
    unfold lineP at hl
    -- it holds read: it reads, or it is to read
    have hr : s.rd i = .reads ∨ (s.wr i).act = true := by
      rw [g1, g2]
      have hc : (m.rs i).op = 0 ∨ (m.rs i).op = 7 ∨ ((m.rs i).op = 8 ∧ ((m.rs i).line = 0 ∨ (m.rs i).line = 1 ∨ (m.rs i).line = 2 ∨ (m.rs i).line = 3)) := by omega
      rcases hc with o | o | ⟨o, l⟩
      · left; unfold rdOf; simp [o, e]
      · left; unfold rdOf; simp [o]
      · rcases l with l | l | l | l
        · right; unfold wrOf; simp [o, l]; rfl
        · right; unfold wrOf; simp [o, l]; rfl
        · left; unfold rdOf; simp [o, l]
        · left; unfold rdOf; simp [o, l]
    rcases hr with hr | hr
    · rw [hr, old_r] at hald; cases hald
    · rw [hr] at hoa; cases hoa
  · exfalso
    have := hI.others ht hact i hi hn
    rw [idle2 i hi e] at this; cases this
end
end Go.Proofs.Ytgfippbcgneegaa
set_option linter.unusedVariables false
set_option linter.unusedSimpArgs false
namespace Go.Proofs.Ytgfippbcgneegaa
theorem many_not {m : MV} {what : Int} : ∀ {n : Nat}, (∀ i, i < n → m.hold i ≠ what) → manyI m what n = 0
  | 0, _ => rfl
  | n + 1, h => by
    unfold manyI
    rw [if_neg (h n (by omega)), many_not (n := n) fun i hi => h i (by omega)]
theorem many_only {m : MV} {what : Int} {t : Nat} : ∀ {n : Nat}, m.hold t = what → (∀ i, i < n → i ≠ t → m.hold i ≠ what) → manyI m what n = if t < n then 1 else 0
  | 0, _, _ => rfl
  | n + 1, h, ho => by
    have ih := many_only (n := n) h fun i hi hn => ho i (by omega) hn
    unfold manyI
    rw [ih]
    by_cases e : n = t
    · subst e
      rw [if_pos h, if_neg (Nat.lt_irrefl _), if_pos (Nat.lt_succ_self _)]
    · rw [if_neg (ho n (by omega) e)]
      by_cases e2 : t < n
      · rw [if_pos e2, if_pos (by omega)]
      · rw [if_neg e2, if_neg (by omega)]
theorem excl_many {m : MV} {k : Nat} (h : ∀ t, t < k → m.hold t = 2 → ∀ i, i < k → i ≠ t → m.hold i = 0) : manyI m 2 k = 0 ∨ (manyI m 2 k = 1 ∧ manyI m 1 k = 0) := by
  by_cases e : ∃ t, t < k ∧ m.hold t = 2
  · obtain ⟨t, ht, h2⟩ := e
    right
    refine ⟨?_, many_not fun i hi => ?_⟩
    · rw [many_only h2 (fun i hi hn => by rw [h t ht h2 i hi hn]; decide), if_pos ht]
    · by_cases e : i = t
      · subst e; rw [h2]; decide
      · rw [h t ht h2 i hi e]; decide
  · left
    exact many_not fun i hi e2 => e ⟨i, hi, e2⟩
end Go.Proofs.Ytgfippbcgneegaa
