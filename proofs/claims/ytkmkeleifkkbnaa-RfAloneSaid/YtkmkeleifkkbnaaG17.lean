import Derived.Test.YtkmkeleifkkbnaaG16
import Derived.Test.YtkmkeleifkkbnaaG8
import Derived.Test.YtkmkeleifkkbnaaG9
import Derived.Test.YtkmkeleifkkbnaaG15
import Derived.Test.YtkmkeleifkkbnaaG14
set_option linter.unusedVariables false
set_option linter.unusedSimpArgs false
namespace Go.Proofs.Ytkmkeleifkkbnaa
section
variable {k t : Nat} {mode : Int} {c d y : Nat → Nat} {m : MV} {R : LS} {c' d' y' : Nat}
theorem outW_big {n z : Nat} (hn : n < 65536) (hz : z ≤ 1) : outW ((n + 65536 * z : Nat) : Int) = decide (z = 0) := by
  unfold outW
  by_cases e : z = 0
  · rw [decide_eq_true e]; simp only [beq_iff_eq]; omega
  · rw [decide_eq_false e]; simp only [beq_eq_false_iff_ne, ne_eq]; omega
theorem upd_at {f : Nat → Nat} {x : Nat} (h : f t = x) : upd f t x = f := by rw [← h]; exact updq_self _ _
theorem RC.out (C : RC k mode t c d y m) : outW (wordAt m.xs 0) = decide (sumN y k = 0) := by
  have := C.h.small
  have := C.hk
  rw [C.h.w]; exact outW_big (by omega) C.h.y1
theorem r_in (C : RC k mode t c d y m) (hc : c t = 0) (hy : y t = 0) (ho : outW (wordAt m.xs 0) = true) (hx : wordAt R.xs 0 = (1 + wordAt m.xs 0) % 4294967296) : wordAt R.xs 0 = (sumN (upd c t 1) k + 65536 * sumN (upd y t 0) k : Nat) ∧ sumN (upd y t 0) k ≤ 1 ∧ sumN (upd y t 0) k = 0 ∧ ((outW (wordAt R.xs 0) = true → outW (wordAt m.xs 0) = true) ∧ (wordAt R.xs 0 = 0 → wordAt m.xs 0 = 0)) := by
  have h1 := C.h.small
  have h2 := C.hk
  have h3 := sum_set (f := c) C.ht 1
  have h4 := C.h.w
  have h5 := C.h.y1
  rw [upd_at hy]
  rw [C.out] at ho
  have h6 : sumN y k = 0 := by simpa using ho
  refine ⟨?_, h5, h6, fun _ => by rw [C.out, h6]; rfl, fun e => ?_⟩
  · rw [hx, h4]; omega
  · rw [hx, h4] at e; omega
theorem r_w (C : RC k mode t c d y m) (hy : y t = 0) {n : Nat} (hn : c t = n) (h0 : wordAt m.xs 0 = n) (hn1 : n ≤ 1) (hx : wordAt R.xs 0 = 65536) : wordAt R.xs 0 = (sumN (upd c t 0) k + 65536 * sumN (upd y t 1) k : Nat) ∧ sumN (upd y t 1) k ≤ 1 ∧ (∀ i, i < k → i ≠ t → d i = 0) ∧ ((outW (wordAt R.xs 0) = true → outW (wordAt m.xs 0) = true) ∧ (wordAt R.xs 0 = 0 → wordAt m.xs 0 = 0)) := by
  have h1 := C.h.small
  have h2 := C.hk
  have h3 := sum_set (f := c) C.ht 0
  have h4 := C.h.w
  have h5 := sum_set (f := y) C.ht 1
  rw [h0] at h4
  refine ⟨by rw [hx]; omega, by omega, fun i hi hne => ?_, fun e => ?_, fun e => by rw [hx] at e; cases e⟩
  · have h6 : upd c t 0 i ≤ sumN (upd c t 0) k := sumN_at hi
    rw [upd_other _ _ hne] at h6
    have := (C.h.f i hi).le
    omega
  · rw [hx] at e; cases e
theorem r_come (C : RC k mode t c d y m) (ho : (m.rs t).op = 1) (hl : (m.rs t).line = 0) (hh : m.hold t = 0) (hc : c t = 0) (hd : d t = 0) (hy : y t = 0) : RGo k mode t c d y m (m.at t).fresh.rf := by
  rw [rf_1_0 (r := (m.at t).fresh) ho hl]; unfold LS.fCome
  have hs0 := C.s0 (by show wtS _ _ _ _ _ _ = none; unfold wtS; rw [if_neg (by omega), if_neg (by omega)])
  obtain ⟨x0, xd⟩ := word_do C 3 1 0
  obtain ⟨f1, f2, f3, f4, f5, f6, f7, f8⟩ := doA_rs m t 3 1 0
  rw [← f8] at x0 xd
  rw [show (m.at t).fresh.xs = m.xs from rfl]
  generalize (m.at t).fresh.doA 3 0 1 0 = R0 at *
  have hx : wordAt R0.xs 0 = (1 + wordAt m.xs 0) % 4294967296 := x0
  cases e : outW (wordAt m.xs 0)
  · rw [if_neg Bool.false_ne_true]
    have h1 := C.h.small
    have h2 := C.hk
    have h3 := sum_set (f := c) C.ht 1
    have h4 := C.h.w
    have h5 := C.h.y1
    have h6 := C.out
    rw [e] at h6
    have h7 : sumN y k ≠ 0 := by intro e2; rw [decide_eq_true e2] at h6; cases h6
    have hw : wordAt R0.xs 0 = (sumN (upd c t 1) k + 65536 * sumN y k : Nat) := by rw [hx, h4]; omega
    refine r_stay C (R := ((R0.keepA (wordAt m.xs 0)).note 2 1).go 1) (c' := 1) (d' := 0) (y' := 0) (o := 1) (l := 1) (f1.trans ho) rfl (f3.trans C.ret) (.adm rfl rfl rfl hh rfl ?_ rfl) (by omega) (by rw [upd_at hy]; exact hw) (by rw [upd_at hy]; exact h5) (.inr ⟨rfl, ?_⟩) (fun _ _ e he => xd e (by omega)) (.inr ⟨fun e2 => ?_, fun e2 => ?_⟩)
    · rw [if_neg (by show ¬ R0.s = 4; omega)]
    · rcases C.h.ex with e2 | e2
      · exact absurd e2 h7
      · exact fun i hi _ => e2 i hi
    · have e3 : outW (wordAt R0.xs 0) = true := e2
      rw [hw, outW_big (by omega) h5] at e3
      exact absurd (by simpa using e3) h7
    · have e3 : wordAt R0.xs 0 = 0 := e2
      rw [hw] at e3; omega
  · rw [if_pos rfl]
    obtain ⟨g1, g2, g3, g4⟩ := r_in C hc hy e hx
    refine r_end C (R := (((R0.keepA (wordAt m.xs 0)).note 2 1).note 4 0).fin true) (c' := 1) (d' := 1) (y' := 0) (o := 1) (l := 0) (ret := 2) (hv := 1) (f1.trans ho) (f2.trans hl) rfl (by decide) (by rw [hh]; rfl) (fun e => ?_) (fun s on => .idle1 rfl rfl rfl rfl rfl rfl) g1 g2 (.inl g3) (fun _ _ e he => xd e (by omega)) (.inr g4)
    have e' : R0.k.on = true := e
    rw [f4, C.on] at e'; cases e'
theorem r_slip (C : RC k mode t c d y m) (ho : (m.rs t).op = 5) (hl : (m.rs t).line = 1) (hh : m.hold t = 0) (hc : c t = 0) (hd : d t = 0) (hy : y t = 0) : RGo k mode t c d y m (m.at t).fresh.rf := by
  rw [rf_5_1 (r := (m.at t).fresh) ho hl]; unfold LS.fSlip
  have hsl := C.h.sl t C.ht ho hl
  rw [show (m.at t).fresh.a = (m.rs t).a from rfl, at0_eq C]
  obtain ⟨x0, xd⟩ := word_do C 5 (m.rs t).a (((m.rs t).a + 1) % 4294967296)
  obtain ⟨f1, f2, f3, f4, f5, f6, f7, f8⟩ := doA_rs m t 5 (m.rs t).a (((m.rs t).a + 1) % 4294967296)
  rw [← f8] at x0 xd
  generalize (m.at t).fresh.doA 5 0 (m.rs t).a (((m.rs t).a + 1) % 4294967296) = R0 at *
  have x0' : wordAt R0.xs 0 = if wordAt m.xs 0 = (m.rs t).a then ((m.rs t).a + 1) % 4294967296 else wordAt m.xs 0 := x0
  by_cases e : wordAt m.xs 0 = (m.rs t).a
  · rw [if_pos e] at x0'
    rw [if_pos (decide_eq_true e)]
    obtain ⟨g1, g2, g3, g4⟩ := r_in (R := R0) C hc hy (by rw [e]; exact hsl) (by rw [x0', ← e, Int.add_comm])
    refine r_end C (R := ((R0.note 2 1).note 4 0).fin true) (c' := 1) (d' := 1) (y' := 0) (o := 5) (l := 1) (ret := 2) (hv := 1) (f1.trans ho) (f2.trans hl) rfl (by decide) (by rw [hh]; rfl) (fun e => ?_) (fun s on => .idle1 rfl rfl rfl rfl rfl rfl) g1 g2 (.inl g3) (fun _ _ e he => xd e (by omega)) (.inr g4)
    have e' : R0.k.on = true := e
    rw [f4, C.on] at e'; cases e'
  · rw [if_neg e] at x0'
    rw [if_neg (by simpa using e)]
    obtain ⟨w1, w2, w3⟩ := w_same (R := R0.go 0) (mode := mode) C x0'
    exact r_stay C (o := 5) (l := 0) (f1.trans ho) rfl (f3.trans C.ret) (.free (.inr (.inr ⟨.inl rfl, .inl rfl⟩)) rfl hh hc hd hy) (by omega) w1 w2 (ex_same C (Nat.le_refl _)) (fun _ _ e he => xd e (by omega)) w3
theorem r_dep (C : RC k mode t c d y m) (ho : (m.rs t).op = 2) (hl : (m.rs t).line = 0) (hh : m.hold t = 0) (hc : c t = 1) (hy : y t = 0) : RGo k mode t c d y m (m.at t).fresh.rf := by
  rw [rf_2_0 (r := (m.at t).fresh) ho hl]; unfold LS.fGo
  obtain ⟨x0, xd⟩ := word_do C 3 4294967295 0
  obtain ⟨f1, f2, f3, f4, f5, f6, f7, f8⟩ := doA_rs m t 3 4294967295 0
  rw [← f8] at x0 xd
  generalize (m.at t).fresh.doA 3 0 4294967295 0 = R0 at *
  have hx : wordAt R0.xs 0 = (4294967295 + wordAt m.xs 0) % 4294967296 := x0
  have h1 := C.h.small
  have h2 := C.hk
  have h3 := sum_set (f := c) C.ht 0
  have h4 := C.h.w
  have h5 := C.h.y1
  refine r_end C (R := ((R0.note 6 0).wake 0).fin true) (c' := 0) (d' := 0) (y' := y t) (o := 2) (l := 0) (ret := 2) (hv := 0) (f1.trans ho) (f2.trans hl) rfl (by decide) (by rw [hh]; rfl) (fun e => ⟨.gone (.inl rfl) rfl hh rfl rfl rfl hy, by decide⟩) (fun s on => .idle0 rfl rfl rfl rfl rfl hy) ?_ (by rw [updq_self]; exact h5) (ex_same C (Nat.zero_le _)) (fun _ _ e he => xd e (by omega)) (.inl (by show beginI R0.mode 0 = _; rw [f6, C.n.2.1]))
  rw [updq_self]
  show wordAt R0.xs 0 = _
  rw [hx, h4]; omega
theorem r_leave (C : RC k mode t c d y m) (ho : (m.rs t).op = 4) (hl : (m.rs t).line = 0) (hh : m.hold t = 0) (hc : c t = 0) (hy : y t = 1) : RGo k mode t c d y m (m.at t).fresh.rf := by
  rw [rf_4_0 (r := (m.at t).fresh) ho hl]; unfold LS.fLeave
  obtain ⟨x0, xd⟩ := word_do C 3 4294901760 0
  obtain ⟨f1, f2, f3, f4, f5, f6, f7, f8⟩ := doA_rs m t 3 4294901760 0
  rw [← f8] at x0 xd
  generalize (m.at t).fresh.doA 3 0 4294901760 0 = R0 at *
  have hx : wordAt R0.xs 0 = (4294901760 + wordAt m.xs 0) % 4294967296 := x0
  have h1 := C.h.small
  have h2 := C.hk
  have h3 := sum_set (f := y) C.ht 0
  have h4 := C.h.w
  have h5 := C.h.y1
  refine r_end C (R := (((R0.note 7 0).note 8 0).wake 0).fin true) (c' := 0) (d' := 0) (y' := 0) (o := 4) (l := 0) (ret := 2) (hv := 0) (f1.trans ho) (f2.trans hl) rfl (by decide) (by rw [hh]; rfl) (fun e => ⟨.gone (.inr rfl) rfl hh rfl rfl rfl rfl, by decide⟩) (fun s on => .idle0 rfl rfl rfl rfl rfl rfl) ?_ (by omega) (.inl (by omega)) (fun _ _ e he => xd e (by omega)) (.inl (by show beginI R0.mode 0 = _; rw [f6, C.n.2.1]))
  rw [upd_at hc]
  show wordAt R0.xs 0 = _
  rw [hx, h4]; omega
theorem r_down (C : RC k mode t c d y m) (ho : (m.rs t).op = 8) (hl : (m.rs t).line = 0) (hh : m.hold t = 1) (hc : c t = 0) (hy : y t = 1) : RGo k mode t c d y m (m.at t).fresh.rf := by
  rw [rf_8_0 (r := (m.at t).fresh) ho hl]; unfold LS.fDown
  obtain ⟨x0, xd⟩ := word_do C 3 4294901761 0
  obtain ⟨f1, f2, f3, f4, f5, f6, f7, f8⟩ := doA_rs m t 3 4294901761 0
  rw [← f8] at x0 xd
  generalize (m.at t).fresh.doA 3 0 4294901761 0 = R0 at *
  have hx : wordAt R0.xs 0 = (4294901761 + wordAt m.xs 0) % 4294967296 := x0
  have h1 := C.h.small
  have h2 := C.hk
  have h3 := sum_set (f := y) C.ht 0
  have h6 := sum_set (f := c) C.ht 1
  have h4 := C.h.w
  have h5 := C.h.y1
  refine r_end C (R := ((R0.note 10 0).wake 0).fin true) (c' := 1) (d' := 1) (y' := 0) (o := 8) (l := 0) (ret := 2) (hv := 1) (f1.trans ho) (f2.trans hl) rfl (by decide) (by rw [hh]; rfl) (fun e => ⟨.downed rfl rfl hh rfl rfl rfl rfl, by decide⟩) (fun s on => .idle1 rfl rfl rfl rfl rfl rfl) ?_ (by omega) (.inl (by omega)) (fun _ _ e he => xd e (by omega)) (.inl (by show beginI R0.mode 0 = _; rw [f6, C.n.2.1]))
  show wordAt R0.xs 0 = _
  rw [hx, h4]; omega
theorem r_reg (C : RC k mode t c d y m) (ho : (m.rs t).op = 3) (hl : (m.rs t).line = 0) (hh : m.hold t = 0) (hc : c t = 0) (hd : d t = 0) (hy : y t = 0) : RGo k mode t c d y m (m.at t).fresh.rf := by
  rw [rf_3_0 (r := (m.at t).fresh) ho hl]; unfold LS.fReg
  obtain ⟨x0, xd⟩ := word_do C 1 0 0
  obtain ⟨f1, f2, f3, f4, f5, f6, f7, f8⟩ := doA_rs m t 1 0 0
  rw [← f8] at x0 xd
  rw [show (m.at t).fresh.xs = m.xs from rfl]
  generalize (m.at t).fresh.doA 1 0 0 0 = R0 at *
  have hx : wordAt R0.xs 0 = wordAt m.xs 0 := x0
  by_cases e : wordAt m.xs 0 = 0
  · rw [if_pos e]
    obtain ⟨w1, w2, w3⟩ := w_same (R := ((R0.keepA (wordAt m.xs 0)).note 2 2).go 1) (mode := mode) C hx
    exact r_stay C (o := 3) (l := 1) (f1.trans ho) rfl (f3.trans C.ret) (.free (.inr (.inl ⟨rfl, .inr (.inl rfl)⟩)) rfl hh hc hd hy) (by omega) w1 w2 (ex_same C (Nat.le_refl _)) (fun _ _ e he => xd e (by omega)) w3
  · rw [if_neg e]
    obtain ⟨w1, w2, w3⟩ := w_same (R := ((R0.keepA (wordAt m.xs 0)).note 2 2).go 2) (mode := mode) C hx
    exact r_stay C (o := 3) (l := 2) (f1.trans ho) rfl (f3.trans C.ret) (.free (.inr (.inl ⟨rfl, .inr (.inr rfl)⟩)) rfl hh hc hd hy) (by omega) w1 w2 (ex_same C (Nat.le_refl _)) (fun _ _ e he => xd e (by omega)) w3
theorem r_cas (C : RC k mode t c d y m) {o l l' x : Int} {n : Nat} {R1 R2 : LS} (hxn : x = n) (hn : n ≤ 1) (ho : (m.rs t).op = o) (hl : (m.rs t).line = l) (hc : c t = n) (hy : y t = 0) (hb : behindI o 2 (m.hold t) = 2) (f : ∀ s on, FR (m.hold t) o l' 0 s on (c t) (d t) (y t)) (ho5 : o ≠ 5)
    (h1 : R1.op = (m.rs t).op ∧ R1.line = (m.rs t).line ∧ R1.ret = 2 ∧ R1.k = (m.rs t).k ∧ R1.xs = doNew m.xs 5 0 x 65536) (h2 : R2.op = (m.rs t).op ∧ R2.line = l' ∧ R2.ret = (m.rs t).ret ∧ R2.xs = doNew m.xs 5 0 x 65536) (hp : (m.at t).fresh.rf = if (m.at t).fresh.at0 x then R1 else R2) : RGo k mode t c d y m (m.at t).fresh.rf := by
  rw [hp, at0_eq C]
  obtain ⟨x0, xd⟩ := word_do C 5 x 65536
  obtain ⟨a1, a2, a3, a4, a5⟩ := h1
  obtain ⟨b1, b2, b3, b5⟩ := h2
  have x0' : wordAt (doNew m.xs 5 0 x 65536) 0 = if wordAt m.xs 0 = x then 65536 else wordAt m.xs 0 := x0
  by_cases e : wordAt m.xs 0 = x
  · rw [if_pos e] at x0'
    rw [if_pos (decide_eq_true e)]
    obtain ⟨g1, g2, g3, g4⟩ := r_w (R := R1) C hy hc (by rw [e, hxn]) hn (by rw [a5]; exact x0')
    exact r_end C (c' := 0) (d' := 0) (y' := 1) (o := o) (l := l) (ret := 2) (hv := 2) (a1.trans ho) (a2.trans hl) a3 (by decide) hb (fun e => by rw [a4, C.on] at e; cases e) (fun s on => .idle2 rfl rfl rfl rfl rfl rfl) g1 g2 (.inr ⟨rfl, g3⟩) (fun _ _ e he => by rw [a5]; exact xd e (by omega)) (.inr g4)
  · rw [if_neg e] at x0'
    rw [if_neg (by simpa using e)]
    obtain ⟨w1, w2, w3⟩ := w_same (R := R2) (mode := mode) C (by rw [b5]; exact x0')
    exact r_stay C (o := o) (l := l') (b1.trans ho) b2 (b3.trans C.ret) (f _ _) (fun e => absurd e ho5) w1 w2 (ex_same C (Nat.le_refl _)) (fun _ _ e he => by rw [b5]; exact xd e (by omega)) w3
theorem r_take (C : RC k mode t c d y m) (ho : (m.rs t).op = 3) (hl : (m.rs t).line = 1) (hh : m.hold t = 0) (hc : c t = 0) (hd : d t = 0) (hy : y t = 0) : RGo k mode t c d y m (m.at t).fresh.rf := by
  obtain ⟨f1, f2, f3, f4, f5, f6, f7, f8⟩ := doA_rs m t 5 0 65536
  have hp : (m.at t).fresh.rf = (m.at t).fresh.fTake := rf_3_1 (r := (m.at t).fresh) ho hl
  unfold LS.fTake at hp
  generalize (m.at t).fresh.doA 5 0 0 65536 = R0 at *
  exact r_cas C (n := 0) (l' := 2) (x := 0) rfl (by decide) ho hl hc hy (by rw [hh]; rfl) (fun s on => .free (.inr (.inl ⟨rfl, .inr (.inr rfl)⟩)) rfl hh hc hd hy) (by decide) (R1 := (R0.note 4 0).fin true) (R2 := R0.go 2) ⟨f1, f2, rfl, f4, f8⟩ ⟨f1, rfl, f3, f8⟩ hp
theorem r_try (C : RC k mode t c d y m) (ho : (m.rs t).op = 6) (hl : (m.rs t).line = 1) (hh : m.hold t = 0) (hc : c t = 0) (hd : d t = 0) (hy : y t = 0) : RGo k mode t c d y m (m.at t).fresh.rf := by
  obtain ⟨f1, f2, f3, f4, f5, f6, f7, f8⟩ := doA_rs m t 5 0 65536
  have hp : (m.at t).fresh.rf = (m.at t).fresh.fTry := rf_6_1 (r := (m.at t).fresh) ho hl
  unfold LS.fTry at hp
  generalize (m.at t).fresh.doA 5 0 0 65536 = R0 at *
  exact r_cas C (n := 0) (l' := 0) (x := 0) rfl (by decide) ho hl hc hy (by rw [hh]; rfl) (fun s on => .free (.inr (.inr ⟨.inr rfl, .inl rfl⟩)) rfl hh hc hd hy) (by decide) (R1 := ((R0.note 2 2).note 4 0).fin true) (R2 := R0.go 0) ⟨f1, f2, rfl, f4, f8⟩ ⟨f1, rfl, f3, f8⟩ hp
theorem r_up (C : RC k mode t c d y m) (ho : (m.rs t).op = 7) (hl : (m.rs t).line = 1) (hh : m.hold t = 1) (hc : c t = 1) (hd : d t = 1) (hy : y t = 0) : RGo k mode t c d y m (m.at t).fresh.rf := by
  obtain ⟨f1, f2, f3, f4, f5, f6, f7, f8⟩ := doA_rs m t 5 1 65536
  have hp : (m.at t).fresh.rf = (m.at t).fresh.fUp := rf_7_1 (r := (m.at t).fresh) ho hl
  unfold LS.fUp at hp
  generalize (m.at t).fresh.doA 5 0 1 65536 = R0 at *
  exact r_cas C (n := 1) (l' := 0) (x := 1) rfl (by decide) ho hl hc hy (by rw [hh]; rfl) (fun s on => .up rfl (.inl rfl) rfl hh hc hd hy) (by decide) (R1 := (R0.note 9 0).fin true) (R2 := R0.go 0) ⟨f1, f2, rfl, f4, f8⟩ ⟨f1, rfl, f3, f8⟩ hp
end
end Go.Proofs.Ytkmkeleifkkbnaa
set_option linter.unusedVariables false
set_option linter.unusedSimpArgs false
namespace Go.Proofs.Ytkmkeleifkkbnaa
open Go.RowKit
def pqCase (op line : Int) : Nat :=
  if op = 1 ∧ line = 0 then 1 else if op = 1 ∧ line = 1 then 2 else if op = 2 ∧ line = 0 then 3 else if op = 5 ∧ line = 0 then 4 else if op = 5 ∧ line = 1 then 5
  else if op = 3 ∧ 0 ≤ line ∧ line ≤ 4 then 6 else if op = 3 ∧ line = 5 then 7 else if op = 3 ∧ line = 6 then 8 else if op = 3 ∧ line = 7 then 9
  else if (op = 4 ∨ op = 8) ∧ line = 0 then 10 else if op = 4 ∧ line = 1 then 11 else if op = 8 ∧ line = 1 then 12 else if (op = 4 ∨ op = 8) ∧ line = 2 then 13 else if op = 4 ∨ op = 8 then 14
  else if (op = 6 ∨ op = 7) ∧ 0 ≤ line ∧ line ≤ 1 then 15 else if (op = 6 ∨ op = 7) ∧ line = 2 then 16 else if op = 6 ∧ line = 3 then 17 else if op = 7 ∧ line = 3 then 18
  else if (op = 6 ∨ op = 7) ∧ line = 4 then 19 else if (op = 6 ∨ op = 7) ∧ line = 5 then 20 else if op = 6 ∧ line = 6 then 21 else if op = 7 ∧ line = 6 then 22 else if op = 7 ∧ line = 7 then 23
  else if op = 6 ∨ op = 7 then 24 else 0
def LS.wEnter (r : LS) : LS := if (r.mxEnter 2 2).2 then (r.mxEnter 2 2).1.go 5 else (r.mxEnter 2 2).1
def LS.wKeep (r : LS) (n : Int) : LS := ((r.doA 1 3 0 0).keepB (wordAt r.xs 3)).go n
def LS.wCount (r : LS) : LS := (r.doA 2 3 ((r.b + 1) % 4294967296) 0).go 3
def LS.wGive (r : LS) (a : Int) (ok : Bool) : LS := if (r.mxGive 2 a [8]).2 then (r.mxGive 2 a [8]).1.fin ok else (r.mxGive 2 a [8]).1
def LS.wTry (r : LS) : LS :=
  if (r.mxTry 2 0).2.1 then (if (r.mxTry 2 0).2.2 then ((r.mxTry 2 0).1.note 2 2).go 2 else ((r.mxTry 2 0).1.note 5 0).fin false) else (r.mxTry 2 0).1
def LS.wWeigh (r : LS) (own : Int) : LS := if aheadI r.a (wordAt r.xs 1) ≤ own then ((r.doA 1 1 0 0).keepB (wordAt r.xs 1)).go 4 else (((r.doA 1 1 0 0).keepB (wordAt r.xs 1)).note 5 0).go 8
def LS.wOthers (r : LS) : LS := if (r.stepR 1 r.butMe).done then ((r.wait 1 r.butMe).noteIf (r.stepR 1 r.butMe).seen 9).go 7 else (r.wait 1 r.butMe).noteIf (r.stepR 1 r.butMe).seen 9
def LS.pq (r : LS) : LS :=
  match pqCase r.op r.line with
  | 1 => r.pCome
  | 2 => r.pAdmit 0 r.left
  | 3 => r.pDepart
  | 4 => r.pLookIn
  | 5 => r.pSlip
  | 6 => r.wEnter
  | 7 => r.wKeep 6
  | 8 => r.pAppear 7
  | 9 => r.pAdmit 1 r.mine
  | 10 => r.wKeep 1
  | 11 => r.pVanish 0 7
  | 12 => r.pVanish 256 10
  | 13 => r.wCount
  | 14 => r.wGive 3 true
  | 15 => r.wTry
  | 16 => r.pLook 0 3
  | 17 => r.wWeigh 0
  | 18 => r.wWeigh 256
  | 19 => r.wKeep 5
  | 20 => r.pAppear 6
  | 21 => r.pAdmit 1 r.mine
  | 22 => r.wOthers
  | 23 => r.pStop
  | 24 => r.wGive 8 false
  | _ => r
end Go.Proofs.Ytkmkeleifkkbnaa
set_option linter.unusedVariables false
set_option linter.unusedSimpArgs false
namespace Go.Proofs.Ytkmkeleifkkbnaa
open Go.RowKit
section
variable {r : LS} {a : Int} {ok : Bool} {j : Nat}
theorem pq_1_0 (h1 : r.op = 1) (h2 : r.line = 0) : r.pq = r.pCome := by unfold LS.pq; rw [h1, h2]; rfl
theorem pq_1_1 (h1 : r.op = 1) (h2 : r.line = 1) : r.pq = r.pAdmit 0 r.left := by unfold LS.pq; rw [h1, h2]; rfl
theorem pq_2_0 (h1 : r.op = 2) (h2 : r.line = 0) : r.pq = r.pDepart := by unfold LS.pq; rw [h1, h2]; rfl
theorem pq_5_0 (h1 : r.op = 5) (h2 : r.line = 0) : r.pq = r.pLookIn := by unfold LS.pq; rw [h1, h2]; rfl
theorem pq_5_1 (h1 : r.op = 5) (h2 : r.line = 1) : r.pq = r.pSlip := by unfold LS.pq; rw [h1, h2]; rfl
theorem pq_3_5 (h1 : r.op = 3) (h2 : r.line = 5) : r.pq = r.wKeep 6 := by unfold LS.pq; rw [h1, h2]; rfl
theorem pq_3_6 (h1 : r.op = 3) (h2 : r.line = 6) : r.pq = r.pAppear 7 := by unfold LS.pq; rw [h1, h2]; rfl
theorem pq_3_7 (h1 : r.op = 3) (h2 : r.line = 7) : r.pq = r.pAdmit 1 r.mine := by unfold LS.pq; rw [h1, h2]; rfl
theorem pq_4_0 (h1 : r.op = 4) (h2 : r.line = 0) : r.pq = r.wKeep 1 := by unfold LS.pq; rw [h1, h2]; rfl
theorem pq_8_0 (h1 : r.op = 8) (h2 : r.line = 0) : r.pq = r.wKeep 1 := by unfold LS.pq; rw [h1, h2]; rfl
theorem pq_4_1 (h1 : r.op = 4) (h2 : r.line = 1) : r.pq = r.pVanish 0 7 := by unfold LS.pq; rw [h1, h2]; rfl
theorem pq_8_1 (h1 : r.op = 8) (h2 : r.line = 1) : r.pq = r.pVanish 256 10 := by unfold LS.pq; rw [h1, h2]; rfl
theorem pq_4_2 (h1 : r.op = 4) (h2 : r.line = 2) : r.pq = r.wCount := by unfold LS.pq; rw [h1, h2]; rfl
theorem pq_8_2 (h1 : r.op = 8) (h2 : r.line = 2) : r.pq = r.wCount := by unfold LS.pq; rw [h1, h2]; rfl
theorem pq_6_2 (h1 : r.op = 6) (h2 : r.line = 2) : r.pq = r.pLook 0 3 := by unfold LS.pq; rw [h1, h2]; rfl
theorem pq_7_2 (h1 : r.op = 7) (h2 : r.line = 2) : r.pq = r.pLook 0 3 := by unfold LS.pq; rw [h1, h2]; rfl
theorem pq_6_3 (h1 : r.op = 6) (h2 : r.line = 3) : r.pq = r.wWeigh 0 := by unfold LS.pq; rw [h1, h2]; rfl
theorem pq_7_3 (h1 : r.op = 7) (h2 : r.line = 3) : r.pq = r.wWeigh 256 := by unfold LS.pq; rw [h1, h2]; rfl
theorem pq_6_4 (h1 : r.op = 6) (h2 : r.line = 4) : r.pq = r.wKeep 5 := by unfold LS.pq; rw [h1, h2]; rfl
theorem pq_7_4 (h1 : r.op = 7) (h2 : r.line = 4) : r.pq = r.wKeep 5 := by unfold LS.pq; rw [h1, h2]; rfl
theorem pq_6_5 (h1 : r.op = 6) (h2 : r.line = 5) : r.pq = r.pAppear 6 := by unfold LS.pq; rw [h1, h2]; rfl
theorem pq_7_5 (h1 : r.op = 7) (h2 : r.line = 5) : r.pq = r.pAppear 6 := by unfold LS.pq; rw [h1, h2]; rfl
theorem pq_6_6 (h1 : r.op = 6) (h2 : r.line = 6) : r.pq = r.pAdmit 1 r.mine := by unfold LS.pq; rw [h1, h2]; rfl
theorem pq_7_6 (h1 : r.op = 7) (h2 : r.line = 6) : r.pq = r.wOthers := by unfold LS.pq; rw [h1, h2]; rfl
theorem pq_7_7 (h1 : r.op = 7) (h2 : r.line = 7) : r.pq = r.pStop := by unfold LS.pq; rw [h1, h2]; rfl
theorem pq_enter (ho : r.op = 3) (hl : r.line = (j : Int)) (hj : j < 5) : r.pq = r.wEnter := by
  unfold LS.pq
  rw [show pqCase r.op r.line = 6 by unfold pqCase; repeat (first | rw [if_neg (by omega)] | rw [if_pos (by omega)])]
  rfl
theorem pq_try (ho : r.op = 6 ∨ r.op = 7) (hl : r.line = (j : Int)) (hj : j < 2) : r.pq = r.wTry := by
  unfold LS.pq
  rw [show pqCase r.op r.line = 15 by unfold pqCase; repeat (first | rw [if_neg (by omega)] | rw [if_pos (by omega)])]
  rfl
theorem pq_give4 (ho : r.op = 4 ∨ r.op = 8) (hl : r.line = 3 + (j : Int)) (hj : j < 4) : r.pq = r.wGive 3 true := by
  unfold LS.pq
  rw [show pqCase r.op r.line = 14 by unfold pqCase; repeat (first | rw [if_neg (by omega)] | rw [if_pos (by omega)])]
  rfl
theorem pq_give6 (ho : r.op = 6 ∨ r.op = 7) (hl : r.line = 8 + (j : Int)) (hj : j < 4) : r.pq = r.wGive 8 false := by
  unfold LS.pq
  rw [show pqCase r.op r.line = 24 by unfold pqCase; repeat (first | rw [if_neg (by omega)] | rw [if_pos (by omega)])]
  rfl
theorem wEnter_0 (hl : r.line = 0) : r.wEnter = (r.doA 2 (nc r.n r.task) 0 0).go 1 := by
  have e : r.mxEnter 2 2 = ((r.doA 2 (nc r.n r.task) 0 0).go 1, false) := by unfold LS.mxEnter; rw [if_pos hl]
  unfold LS.wEnter; rw [e]; rfl
theorem wEnter_1 (hl : r.line = 1) : r.wEnter = (r.doA 2 (bc r.n r.task) 1 0).go 2 := by
  have e : r.mxEnter 2 2 = ((r.doA 2 (bc r.n r.task) 1 0).go 2, false) := by unfold LS.mxEnter; rw [if_neg (by omega), if_pos hl]
  unfold LS.wEnter; rw [e]; rfl
theorem wEnter_2 (hl : r.line = 2) : r.wEnter = if wordAt r.xs 2 = 0 then (r.swapIn 2 2).go 5 else (r.swapIn 2 2).go 3 := by
  have e : r.mxEnter 2 2 = (if wordAt r.xs 2 = 0 then (r.swapIn 2 2, true) else ((r.swapIn 2 2).go 3, false)) := by unfold LS.mxEnter; rw [if_neg (by omega), if_neg (by omega), if_pos hl]
  unfold LS.wEnter; rw [e]
  by_cases e : wordAt r.xs 2 = 0
  · simp only [if_pos e, if_true]
  · simp only [if_neg e, Bool.false_eq_true, if_false]
theorem wEnter_3 (hl : r.line = 3) : r.wEnter = r.link := by
  have e : r.mxEnter 2 2 = (r.link, false) := by unfold LS.mxEnter; rw [if_neg (by omega), if_neg (by omega), if_neg (by omega), if_pos hl]
  unfold LS.wEnter; rw [e]; rfl
theorem wEnter_4 (hl : r.line = 4) : r.wEnter = if (r.stepR (bc r.n r.task) isZ).done then (r.wait (bc r.n r.task) isZ).go 5 else r.wait (bc r.n r.task) isZ := by
  have e : r.mxEnter 2 2 = (r.wait (bc r.n r.task) isZ, (r.stepR (bc r.n r.task) isZ).done) := by unfold LS.mxEnter; rw [if_neg (by omega), if_neg (by omega), if_neg (by omega), if_neg (by omega), if_pos hl]
  unfold LS.wEnter; rw [e]
theorem wGive_0 (hl : r.line = a) : r.wGive a ok = if wordAt r.xs (nc r.n r.task) = 0 then r.peek.go (a + 1) else r.peek.go (a + 3) := by
  have e : r.mxGive 2 a [8] = (if wordAt r.xs (nc r.n r.task) = 0 then r.peek.go (a + 1) else r.peek.go (a + 3), false) := by unfold LS.mxGive; rw [if_pos hl]
  unfold LS.wGive; rw [e]; rfl
theorem wGive_1 (hl : r.line = a + 1) : r.wGive a ok = if r.casOut 2 then ((r.doA 5 2 r.me 0).notes [8]).fin ok else (r.doA 5 2 r.me 0).go (a + 2) := by
  have e : r.mxGive 2 a [8] = (if r.casOut 2 then ((r.doA 5 2 r.me 0).notes [8], true) else ((r.doA 5 2 r.me 0).go (a + 2), false)) := by unfold LS.mxGive; rw [if_neg (by omega), if_pos hl]
  unfold LS.wGive; rw [e]
  cases r.casOut 2
  · simp only [Bool.false_eq_true, if_false]
  · simp only [if_true]
theorem wGive_2 (hl : r.line = a + 2) : r.wGive a ok = if (r.stepR (nc r.n r.task) isN).done then r.seeN.go (a + 3) else r.seeN := by
  have e : r.mxGive 2 a [8] = (if (r.stepR (nc r.n r.task) isN).done then r.seeN.go (a + 3) else r.seeN, false) := by unfold LS.mxGive; rw [if_neg (by omega), if_neg (by omega), if_pos hl]
  unfold LS.wGive; rw [e]; rfl
theorem wGive_3 (hl : r.line = a + 3) : r.wGive a ok = (r.handOn [8]).fin ok := by
  have e : r.mxGive 2 a [8] = (r.handOn [8], true) := by unfold LS.mxGive; rw [if_neg (by omega), if_neg (by omega), if_neg (by omega), if_pos hl]
  unfold LS.wGive; rw [e]; rfl
theorem wTry_0 (hl : r.line = 0) : r.wTry = (r.doA 2 (nc r.n r.task) 0 0).go 1 := by
  have e : r.mxTry 2 0 = ((r.doA 2 (nc r.n r.task) 0 0).go 1, false, false) := by unfold LS.mxTry; rw [if_pos hl]; rfl
  unfold LS.wTry; rw [e]; rfl
theorem wTry_1 (hl : r.line = 1) : r.wTry = if there r.xs 2 && (wordAt r.xs 2 == 0) then ((r.doA 5 2 0 r.me).note 2 2).go 2 else ((r.doA 5 2 0 r.me).note 5 0).fin false := by
  have e : r.mxTry 2 0 = (r.doA 5 2 0 r.me, true, there r.xs 2 && (wordAt r.xs 2 == 0)) := by unfold LS.mxTry; rw [if_neg (by omega), if_pos (by omega)]
  unfold LS.wTry; rw [e]; rfl
structure LS.Fr (r r' : LS) : Prop where
  n : r'.n = r.n
  mode : r'.mode = r.mode
  task : r'.task = r.task
  op : r'.op = r.op
  s : r'.s = r.s
theorem LS.Fr.refl (r : LS) : r.Fr r := ⟨rfl, rfl, rfl, rfl, rfl⟩
theorem doA_fw (r : LS) (k c x y : Int) : r.Fr (r.doA k c x y) ∧ (r.doA k c x y).line = r.line ∧ (r.doA k c x y).ret = r.ret ∧ (r.doA k c x y).k = r.k ∧ (r.doA k c x y).a = r.a ∧ (r.doA k c x y).b = r.b ∧ (r.doA k c x y).xs = doNew r.xs k c x y := ⟨⟨rfl, rfl, rfl, rfl, rfl⟩, rfl, rfl, rfl, rfl, rfl, rfl⟩
theorem keep_fw (n : Int) : r.Fr (r.wKeep n) ∧ (r.wKeep n).line = n ∧ (r.wKeep n).ret = r.ret ∧ (r.wKeep n).k = r.k ∧ (r.wKeep n).a = r.a ∧ (r.wKeep n).b = wordAt r.xs 3 ∧ (r.wKeep n).xs = r.xs := by
  unfold LS.wKeep
  generalize wordAt r.xs 3 = y
  exact ⟨⟨rfl, rfl, rfl, rfl, rfl⟩, rfl, rfl, rfl, rfl, rfl, own_load⟩
theorem look_fw (n : Int) : r.Fr (r.pLook 0 n) ∧ (r.pLook 0 n).line = n ∧ (r.pLook 0 n).ret = r.ret ∧ (r.pLook 0 n).k = r.k ∧ (r.pLook 0 n).a = wordAt r.xs 0 ∧ (r.pLook 0 n).b = r.b ∧ (r.pLook 0 n).xs = r.xs := by
  unfold LS.pLook
  generalize wordAt r.xs 0 = y
  exact ⟨⟨rfl, rfl, rfl, rfl, rfl⟩, rfl, rfl, rfl, rfl, rfl, own_load⟩
theorem app_fw (n : Int) : r.Fr (r.pAppear n) ∧ (r.pAppear n).line = n ∧ (r.pAppear n).ret = r.ret ∧ (r.pAppear n).k = r.k ∧ (r.pAppear n).a = wordAt r.xs 0 ∧ (r.pAppear n).b = r.b ∧ (r.pAppear n).xs = doNew r.xs 3 0 (presI r.b) 0 := by
  unfold LS.pAppear
  generalize presI r.b = x
  generalize wordAt r.xs 0 = y
  exact ⟨⟨rfl, rfl, rfl, rfl, rfl⟩, rfl, rfl, rfl, rfl, rfl, rfl⟩
theorem van_fw (i w : Int) : r.Fr (r.pVanish i w) ∧ (r.pVanish i w).line = 2 ∧ (r.pVanish i w).ret = r.ret ∧ (r.pVanish i w).k = beginI r.mode 0 ∧ (r.pVanish i w).b = r.b ∧ (r.pVanish i w).xs = doNew r.xs 3 0 ((i - presI r.b) % 4294967296) 0 := by
  unfold LS.pVanish
  generalize (i - presI r.b) % 4294967296 = x
  exact ⟨⟨rfl, rfl, rfl, rfl, rfl⟩, rfl, rfl, rfl, rfl, rfl⟩
theorem cnt_fw : r.Fr r.wCount ∧ r.wCount.line = 3 ∧ r.wCount.ret = r.ret ∧ r.wCount.k = r.k ∧ r.wCount.xs = doNew r.xs 2 3 ((r.b + 1) % 4294967296) 0 := by
  unfold LS.wCount
  obtain ⟨⟨h1, h2, h3, h4, h5⟩, _, h7, h8, _, _, h9⟩ := doA_fw r 2 3 ((r.b + 1) % 4294967296) 0
  generalize r.doA 2 3 ((r.b + 1) % 4294967296) 0 = R0 at *
  exact ⟨⟨h1, h2, h3, h4, h5⟩, rfl, h7, h8, h9⟩
theorem dep_fw : r.Fr r.pDepart ∧ r.pDepart.line = r.line ∧ r.pDepart.ret = 2 ∧ r.pDepart.k = beginI r.mode 1 ∧ r.pDepart.xs = doNew r.xs 3 1 256 0 := by
  unfold LS.pDepart
  obtain ⟨⟨h1, h2, h3, h4, h5⟩, h6, h7, h8, _, _, h9⟩ := doA_fw r 3 1 256 0
  generalize r.doA 3 1 256 0 = R0 at *
  rw [← h2]
  exact ⟨⟨h1, h2, h3, h4, h5⟩, h6, rfl, rfl, h9⟩
theorem stop_fw : r.Fr r.pStop ∧ r.pStop.line = r.line ∧ r.pStop.ret = 2 ∧ r.pStop.k = r.k ∧ r.pStop.xs = doNew r.xs 3 1 256 0 := by
  unfold LS.pStop
  obtain ⟨⟨h1, h2, h3, h4, h5⟩, h6, h7, h8, _, _, h9⟩ := doA_fw r 3 1 256 0
  generalize r.doA 3 1 256 0 = R0 at *
  exact ⟨⟨h1, h2, h3, h4, h5⟩, h6, rfl, h8, h9⟩
theorem swapIn_fw (tl cl : Int) : r.Fr (r.swapIn tl cl) ∧ (r.swapIn tl cl).line = r.line ∧ (r.swapIn tl cl).ret = r.ret ∧ (r.swapIn tl cl).k = r.k ∧ (r.swapIn tl cl).a = wordAt r.xs tl ∧ (r.swapIn tl cl).xs = doNew r.xs 4 tl r.me 0 := by
  unfold LS.swapIn
  generalize r.me = x
  exact ⟨⟨rfl, rfl, rfl, rfl, rfl⟩, rfl, rfl, rfl, rfl, rfl⟩
theorem peek_fw : r.Fr r.peek ∧ r.peek.line = r.line ∧ r.peek.ret = r.ret ∧ r.peek.k = r.k ∧ r.peek.xs = r.xs := by
  unfold LS.peek
  generalize nc r.n r.task = x
  generalize wordAt r.xs x = y
  exact ⟨⟨rfl, rfl, rfl, rfl, rfl⟩, rfl, rfl, rfl, own_load⟩
theorem wait_fw (c : Int) (q : Int → Bool) : (r.wait c q).n = r.n ∧ (r.wait c q).mode = r.mode ∧ (r.wait c q).task = r.task ∧ (r.wait c q).op = r.op ∧ (r.wait c q).line = r.line ∧ (r.wait c q).ret = r.ret ∧ (r.wait c q).k = r.k ∧ (r.wait c q).a = r.a ∧ (r.wait c q).b = r.b ∧ (r.wait c q).s = (r.stepR c q).next ∧ (r.wait c q).xs = (r.stepR c q).xs := by
  unfold LS.wait
  generalize r.stepR c q = x
  exact ⟨rfl, rfl, rfl, rfl, rfl, rfl, rfl, rfl, rfl, rfl, rfl⟩
theorem noteIf_fw (R : LS) (b : Bool) (w : Int) : R.Fr (R.noteIf b w) ∧ (R.noteIf b w).line = R.line ∧ (R.noteIf b w).ret = R.ret ∧ (R.noteIf b w).k = R.k ∧ (R.noteIf b w).a = R.a ∧ (R.noteIf b w).b = R.b ∧ (R.noteIf b w).xs = R.xs := by cases b <;> exact ⟨⟨rfl, rfl, rfl, rfl, rfl⟩, rfl, rfl, rfl, rfl, rfl, rfl⟩
end
end Go.Proofs.Ytkmkeleifkkbnaa
set_option linter.unusedVariables false
set_option linter.unusedSimpArgs false
namespace Go.Proofs.Ytkmkeleifkkbnaa
theorem wtS_cases {r : LS} {e : Int} {q : Int → Bool} (h : wtR wtS r = some (e, q)) : (r.op = 1 ∧ r.line = 1 ∧ e = 0 ∧ q = outW) ∨ (r.op = 3 ∧ r.line = 2 ∧ e = 0 ∧ q = isZ) := by
  have h' : wtS r.n r.task r.op r.line r.a r.b = some (e, q) := h
  unfold wtS at h'
  by_cases e1 : r.op = 1 ∧ r.line = 1
  · rw [if_pos e1] at h'; obtain ⟨rfl, rfl⟩ := Prod.mk.inj (Option.some.inj h'); exact .inl ⟨e1.1, e1.2, rfl, rfl⟩
  rw [if_neg e1] at h'
  by_cases e2 : r.op = 3 ∧ r.line = 2
  · rw [if_pos e2] at h'; obtain ⟨rfl, rfl⟩ := Prod.mk.inj (Option.some.inj h'); exact .inr ⟨e2.1, e2.2, rfl, rfl⟩
  · rw [if_neg e2] at h'; cases h'
theorem wtS_no {r : LS} (h1 : ¬ (r.op = 1 ∧ r.line = 1)) (h2 : ¬ (r.op = 3 ∧ r.line = 2)) : wtR wtS r = none := by
  show wtS _ _ _ _ _ _ = none
  unfold wtS
  rw [if_neg h1, if_neg h2]
theorem wtS_like {r r' : LS} (h3 : r'.op = r.op) (h4 : r'.line = r.line) : wtR wtS r' = wtR wtS r := by
  show wtS _ _ _ _ _ _ = wtS _ _ _ _ _ _
  unfold wtS
  rw [h3, h4]
theorem waitS_admit (r : LS) (e : Int) (q : Int → Bool) : WaitLn wtS r (r.pAdmit e q) e q := by
  unfold LS.pAdmit
  obtain ⟨f1, f2, f3, f4, f5, f6, f7, f8, fb, f9, f10⟩ := wait_fw (r := r) e q
  generalize r.wait e q = R0 at *
  obtain ⟨⟨h1, h2, h3, g4, g5⟩, g6, g7, g8, g9, gb, g10⟩ := noteIf_fw R0 (r.stepR e q).seen 4
  generalize R0.noteIf (r.stepR e q).seen 4 = R at *
  cases hd : (r.stepR e q).done
  · rw [if_neg Bool.false_ne_true]
    exact ⟨g10.trans f10, g5.trans f9, g8.trans f7, gb.trans fb, fun _ => g9.trans f8, fun _ => ⟨g6.trans f5, g7.trans f6, wtS_like (g4.trans f4) (g6.trans f5)⟩⟩
  · rw [if_pos rfl]
    exact ⟨g10.trans f10, g5.trans f9, g8.trans f7, gb.trans fb, fun _ => g9.trans f8, fun e => by rw [hd] at e; cases e⟩
theorem lines_rf : LinesQ LS.rf wtS where
  cB r e q h h1 h2 h3 := by rcases wtS_cases h with ⟨_, _, rfl, _⟩ | ⟨_, _, rfl, _⟩ <;> omega
  op0 r h := wtS_no (by omega) (by omega)
  line0 r h := wtS_no (by omega) (by omega)
  same r := by
    have h := good_rf (r := r)
    exact ⟨h.n, h.mode, h.task, h.op, h.len⟩
  wait r e q hon h := by
    rcases wtS_cases h with ⟨o, l, rfl, rfl⟩ | ⟨o, l, rfl, rfl⟩
    · rw [rf_1_1 o l]; exact waitS_admit r 0 outW
    · rw [rf_3_2 o l]
      unfold LS.fWait
      obtain ⟨f1, f2, f3, f4, f5, f6, f7, f8, fb, f9, f10⟩ := wait_fw (r := r) 0 isZ
      generalize r.wait 0 isZ = R at *
      cases hd : (r.stepR 0 isZ).done
      · rw [if_neg Bool.false_ne_true]
        exact ⟨f10, f9, f7, fb, fun _ => f8, fun _ => ⟨f5, f6, wtS_like f4 f5⟩⟩
      · rw [if_pos rfl]
        exact ⟨f10, f9, f7, fb, fun _ => f8, fun e => by rw [hd] at e; cases e⟩
section
variable {k t : Nat} {mode : Int} {c d y : Nat → Nat} {m : MV} {R : LS} {c' d' y' : Nat}
theorem RC.step (C : RC k mode t c d y m) (e : Int) (q : Int → Bool) : (m.at t).fresh.stepR e q = stepI m.xs k mode t (m.rs t).s e q := by
  show stepI m.xs (m.rs t).n (m.rs t).mode (m.rs t).task (m.rs t).s e q = _
  rw [C.n.1, C.n.2.1, C.n.2.2]
theorem waitS_ways (C : RC k mode t c d y m) (e : Int) (q : Int → Bool) : (((m.at t).fresh.stepR e q).done = true ∧ ((m.rs t).s = 4 ∨ q (wordAt m.xs e) = true)) ∨ (((m.at t).fresh.stepR e q).done = false ∧ (m.rs t).s ≠ 4 ∧ (((m.at t).fresh.stepR e q).next = 4 → q (wordAt m.xs e) = true)) := by
  rw [C.step]
  obtain ⟨w1, w2⟩ := waitq_facts (xs := m.xs) (n := (k : Int)) (mode := mode) (i := (t : Int)) (s := (m.rs t).s) (c := e) (q := q)
  cases hd : (stepI m.xs k mode t (m.rs t).s e q).done
  · refine .inr ⟨rfl, fun e => ?_, fun e => (w2 e).2⟩
    by_cases em : mode = 2
    · subst em; rw [e, stepI_4] at hd; cases hd
    · have := C.sp em; omega
  · rcases w1 hd with ⟨_, e⟩ | ⟨e, _⟩
    · exact .inl ⟨rfl, .inr e⟩
    · exact .inl ⟨rfl, .inl e⟩
theorem waitS_xs (C : RC k mode t c d y m) (e : Int) (q : Int → Bool) : wordAt ((m.at t).fresh.stepR e q).xs 0 = wordAt m.xs 0 := by
  rw [C.step]
  have := C.ht
  exact own_wait (by rw [wc_at C.hk C.ht]; omega) (by rw [pc_at C.hk C.ht]; omega)
theorem r_adm (C : RC k mode t c d y m) (ho : (m.rs t).op = 1) (hl : (m.rs t).line = 1) (hh : m.hold t = 0) (hc : c t = 1) (hd : d t = if (m.rs t).s = 4 then 1 else 0) (hy : y t = 0) : RGo k mode t c d y m (m.at t).fresh.rf := by
  have hw : wtR wtS (m.rs t) = some (0, outW) := if_pos ⟨ho, hl⟩
  rw [rf_1_1 (r := (m.at t).fresh) ho hl]; unfold LS.pAdmit
  have ways := waitS_ways C 0 outW
  have hx := waitS_xs C 0 outW
  have free : (m.rs t).s = 4 ∨ outW (wordAt m.xs 0) = true → sumN y k = 0 := fun e => by
    rcases e with e | e
    · rw [if_pos e] at hd
      rcases C.h.ex with e2 | e2
      · exact e2
      · have := e2 t C.ht; omega
    · rw [C.out] at e; simpa using e
  obtain ⟨_, _, _, f4, f5, f6, f7, f8, _, f9, f10⟩ := wait_fw (r := (m.at t).fresh) 0 outW
  have f4' : ((m.at t).fresh.wait 0 outW).op = (m.rs t).op := f4
  have f5' : ((m.at t).fresh.wait 0 outW).line = (m.rs t).line := f5
  have f6' : ((m.at t).fresh.wait 0 outW).ret = (m.rs t).ret := f6
  have f7' : ((m.at t).fresh.wait 0 outW).k = (m.rs t).k := f7
  generalize (m.at t).fresh.wait 0 outW = R0 at f9 f10 f4' f5' f6' f7' ⊢
  generalize (m.at t).fresh.stepR 0 outW = S at *
  obtain ⟨⟨_, _, _, g4, g5⟩, g6, g7, g8, g9, _, g10⟩ := noteIf_fw R0 S.seen 4
  generalize R0.noteIf S.seen 4 = R1 at *
  have hx1 : wordAt R1.xs 0 = wordAt m.xs 0 := by rw [g10, f10]; exact hx
  have far : ∀ (R : LS), (m.rs t).k.on = false → wtR wtS (m.rs t) = none → ∀ e : Int, 8 + 2 * (k : Int) ≤ e → wordAt R.xs e = wordAt m.xs e := fun R _ e => by rw [hw] at e; cases e
  rcases ways with ⟨hdn, e⟩ | ⟨hdn, e4, e⟩
  · rw [hdn, if_pos rfl]
    obtain ⟨w1, w2, w3⟩ := w_same (R := R1.fin true) (mode := mode) C hx1
    refine r_end C (R := R1.fin true) (c' := c t) (d' := 1) (y' := y t) (o := 1) (l := 1) (ret := 2) (hv := 1) (g4.trans (f4'.trans ho)) (g6.trans (f5'.trans hl)) rfl (by decide) (by rw [hh]; rfl) (fun e => ?_) (fun s on => .idle1 rfl rfl rfl hc rfl hy) w1 w2 (.inl (by rw [updq_self]; exact free e)) (far _) w3
    have e' : R1.k.on = true := e
    rw [g8, f7', C.on] at e'; cases e'
  · rw [hdn, if_neg Bool.false_ne_true]
    obtain ⟨w1, w2, w3⟩ := w_same (R := R1) (mode := mode) C hx1
    have hs : R1.s = S.next := g5.trans f9
    rw [if_neg e4] at hd
    by_cases en : S.next = 4
    · exact r_stay C (c' := c t) (d' := 1) (y' := y t) (o := 1) (l := 1) (g4.trans (f4'.trans ho)) (g6.trans (f5'.trans hl)) (g7.trans (f6'.trans C.ret)) (.adm rfl rfl rfl hh hc (by rw [hs, if_pos en]) hy) (by omega) w1 w2 (.inl (by rw [updq_self]; exact free (.inr (e en)))) (far _) w3
    · exact r_stay C (c' := c t) (d' := 0) (y' := y t) (o := 1) (l := 1) (g4.trans (f4'.trans ho)) (g6.trans (f5'.trans hl)) (g7.trans (f6'.trans C.ret)) (.adm rfl rfl rfl hh hc (by rw [hs, if_neg en]) hy) (by omega) w1 w2 (ex_same C (Nat.zero_le _)) (far _) w3
theorem r_wait (C : RC k mode t c d y m) (ho : (m.rs t).op = 3) (hl : (m.rs t).line = 2) (hh : m.hold t = 0) (hc : c t = 0) (hd : d t = 0) (hy : y t = 0) : RGo k mode t c d y m (m.at t).fresh.rf := by
  have hw : wtR wtS (m.rs t) = some (0, isZ) := by
    show wtS _ _ _ _ _ _ = _
    unfold wtS
    rw [if_neg (by omega), if_pos ⟨ho, hl⟩]
  rw [rf_3_2 (r := (m.at t).fresh) ho hl]; unfold LS.fWait
  have hx := waitS_xs C 0 isZ
  obtain ⟨_, _, _, f4, f5, f6, f7, f8, _, f9, f10⟩ := wait_fw (r := (m.at t).fresh) 0 isZ
  have f4' : ((m.at t).fresh.wait 0 isZ).op = (m.rs t).op := f4
  have f5' : ((m.at t).fresh.wait 0 isZ).line = (m.rs t).line := f5
  have f6' : ((m.at t).fresh.wait 0 isZ).ret = (m.rs t).ret := f6
  rw [← f10] at hx
  generalize (m.at t).fresh.wait 0 isZ = R0 at f9 f10 f4' f5' f6' hx ⊢
  have far : ∀ (R : LS), (m.rs t).k.on = false → wtR wtS (m.rs t) = none → ∀ e : Int, 8 + 2 * (k : Int) ≤ e → wordAt R.xs e = wordAt m.xs e := fun R _ e => by rw [hw] at e; cases e
  cases hdn : ((m.at t).fresh.stepR 0 isZ).done
  · rw [if_neg Bool.false_ne_true]
    obtain ⟨w1, w2, w3⟩ := w_same (R := R0) (mode := mode) C hx
    exact r_stay C (o := 3) (l := 2) (f4'.trans ho) (f5'.trans hl) (f6'.trans C.ret) (.free (.inr (.inl ⟨rfl, .inr (.inr rfl)⟩)) rfl hh hc hd hy) (by omega) w1 w2 (ex_same C (Nat.le_refl _)) (far _) w3
  · rw [if_pos rfl]
    obtain ⟨w1, w2, w3⟩ := w_same (R := R0.go 1) (mode := mode) C hx
    exact r_stay C (o := 3) (l := 1) (f4'.trans ho) rfl (f6'.trans C.ret) (.free (.inr (.inl ⟨rfl, .inr (.inl rfl)⟩)) rfl hh hc hd hy) (by omega) w1 w2 (ex_same C (Nat.le_refl _)) (far _) w3
theorem RC_mk (hk : k ≤ 64) (hg : GenQ wtS k mode m) (h : RI k c d y m) (ht : t < k) (hon : (m.rs t).k.on = false) : RC k mode t c d y m := by
  have hs0 : wtR wtS (m.rs t) = none → (m.rs t).s = 0 := fun e => by
    by_cases e2 : (m.rs t).s = 0
    · exact e2
    · obtain ⟨⟨c', q', e3⟩, _⟩ := hg.sw t ht e2
      rw [e] at e3; cases e3
  exact ⟨hk, h, ht, hg.len, hg.cst t ht, hon, hs0, hg.sp t ht, hg.rt t ht hon⟩
theorem rf_mv (C : RC k mode t c d y m) (hop : (m.rs t).op ≠ 0) : RGo k mode t c d y m (m.at t).fresh.rf := by
  have F := C.h.f t C.ht
  cases F with
  | idle0 ho => exact absurd ho hop
  | idle1 ho => exact absurd ho hop
  | idle2 ho => exact absurd ho hop
  | free ho hr hh hc hd hy =>
    have b0 : ∀ o : Int, behindI o 1 (m.hold t) = m.hold t := fun o => if_pos (by decide)
    rcases ho with ⟨ho, hl⟩ | ⟨ho, hl | hl | hl⟩ | ⟨ho | ho, hl | hl⟩
    · exact r_come C ho hl hh hc hd hy
    · exact r_reg C ho hl hh hc hd hy
    · exact r_take C ho hl hh hc hd hy
    · exact r_wait C ho hl hh hc hd hy
    · exact r_look C (o := 5) (outW (wordAt m.xs 0)) ho hl (fun s on => .free (.inr (.inr ⟨.inl rfl, .inr rfl⟩)) rfl hh hc hd hy) (b0 _) (fun s on => .idle0 rfl rfl hh hc hd hy) (fun e _ => e) (rf_5_0 (r := (m.at t).fresh) ho hl)
    · exact r_slip C ho hl hh hc hd hy
    · exact r_look C (o := 6) (wordAt m.xs 0 == 0) ho hl (fun s on => .free (.inr (.inr ⟨.inr rfl, .inr rfl⟩)) rfl hh hc hd hy) (b0 _) (fun s on => .idle0 rfl rfl hh hc hd hy) (fun _ e => by omega) (rf_6_0 (r := (m.at t).fresh) ho hl)
    · exact r_try C ho hl hh hc hd hy
  | adm ho hl hr hh hc hd hy => exact r_adm C ho hl hh hc hd hy
  | dep ho hl hr hh hc hd hy => exact r_dep C ho hl hh hc hy
  | gone ho hr hh hon' => have := C.on; rw [hon'] at this; cases this
  | leave ho hl hr hh hc hd hy => exact r_leave C ho hl hh hc hy
  | up ho hl hr hh hc hd hy =>
    rcases hl with hl | hl
    · exact r_look C (o := 7) (wordAt m.xs 0 == 1) ho hl (fun s on => .up rfl (.inr rfl) rfl hh hc hd hy) (if_pos (by decide)) (fun s on => .idle1 rfl rfl hh hc hd hy) (fun _ e => by omega) (rf_7_0 (r := (m.at t).fresh) ho hl)
    · exact r_up C ho hl hh hc hd hy
  | down ho hl hr hh hc hd hy => exact r_down C ho hl hh hc hy
  | downed ho hr hh hon' => have := C.on; rw [hon'] at this; cases this
theorem plain_rf (C : RC k mode t c d y m) (hop : (m.rs t).op ≠ 0) (hw : wtR wtS (m.rs t) = none) : (m.at t).fresh.rf.s = (m.at t).fresh.s ∧ ((m.at t).fresh.rf.k = (m.at t).fresh.k ∨ ∃ e, (m.at t).fresh.rf.k = beginI (m.at t).fresh.mode e) := by
  have F := C.h.f t C.ht
  have n1 : ¬ ((m.rs t).op = 1 ∧ (m.rs t).line = 1) := fun e => by
    have : wtR wtS (m.rs t) = some (0, outW) := if_pos e
    rw [hw] at this; cases this
  have n2 : ¬ ((m.rs t).op = 3 ∧ (m.rs t).line = 2) := fun e => by
    have : wtR wtS (m.rs t) = some (0, isZ) := by
      show wtS _ _ _ _ _ _ = _
      unfold wtS
      rw [if_neg (by omega), if_pos e]
    rw [hw] at this; cases this
  have pl : ∀ K x z, ((m.at t).fresh.doA K 0 x z).s = (m.at t).fresh.s ∧ ((m.at t).fresh.doA K 0 x z).k = (m.at t).fresh.k ∧ ((m.at t).fresh.doA K 0 x z).mode = (m.at t).fresh.mode := fun K x z => ⟨rfl, rfl, rfl⟩
  have look : ∀ ok, ((m.at t).fresh.fLook ok).s = (m.at t).fresh.s ∧ (((m.at t).fresh.fLook ok).k = (m.at t).fresh.k ∨ ∃ e, ((m.at t).fresh.fLook ok).k = beginI (m.at t).fresh.mode e) := fun ok => by
    unfold LS.fLook
    obtain ⟨f1, f2, _⟩ := pl 1 0 0
    generalize (m.at t).fresh.doA 1 0 0 0 = R0 at *
    split
    · exact ⟨f1, .inl f2⟩
    · exact ⟨f1, .inl f2⟩
  cases F with
  | idle0 ho => exact absurd ho hop
  | idle1 ho => exact absurd ho hop
  | idle2 ho => exact absurd ho hop
  | free ho =>
    rcases ho with ⟨ho, hl⟩ | ⟨ho, hl | hl | hl⟩ | ⟨ho | ho, hl | hl⟩
    · rw [rf_1_0 (r := (m.at t).fresh) ho hl]; unfold LS.fCome
      obtain ⟨f1, f2, _⟩ := pl 3 1 0
      generalize (m.at t).fresh.doA 3 0 1 0 = R0 at *
      split
      · exact ⟨f1, .inl f2⟩
      · exact ⟨f1, .inl f2⟩
    · rw [rf_3_0 (r := (m.at t).fresh) ho hl]; unfold LS.fReg
      obtain ⟨f1, f2, _⟩ := pl 1 0 0
      generalize (m.at t).fresh.doA 1 0 0 0 = R0 at *
      split
      · exact ⟨f1, .inl f2⟩
      · exact ⟨f1, .inl f2⟩
    · rw [rf_3_1 (r := (m.at t).fresh) ho hl]; unfold LS.fTake
      obtain ⟨f1, f2, _⟩ := pl 5 0 65536
      generalize (m.at t).fresh.doA 5 0 0 65536 = R0 at *
      split
      · exact ⟨f1, .inl f2⟩
      · exact ⟨f1, .inl f2⟩
    · exact absurd ⟨ho, hl⟩ n2
    · rw [rf_5_0 (r := (m.at t).fresh) ho hl]; exact look _
    · rw [rf_5_1 (r := (m.at t).fresh) ho hl]; unfold LS.fSlip
      obtain ⟨f1, f2, _⟩ := pl 5 (m.at t).fresh.a (((m.at t).fresh.a + 1) % 4294967296)
      generalize (m.at t).fresh.doA 5 0 (m.at t).fresh.a (((m.at t).fresh.a + 1) % 4294967296) = R0 at *
      split
      · exact ⟨f1, .inl f2⟩
      · exact ⟨f1, .inl f2⟩
    · rw [rf_6_0 (r := (m.at t).fresh) ho hl]; exact look _
    · rw [rf_6_1 (r := (m.at t).fresh) ho hl]; unfold LS.fTry
      obtain ⟨f1, f2, _⟩ := pl 5 0 65536
      generalize (m.at t).fresh.doA 5 0 0 65536 = R0 at *
      split
      · exact ⟨f1, .inl f2⟩
      · exact ⟨f1, .inl f2⟩
  | adm ho hl => exact absurd ⟨ho, hl⟩ n1
  | dep ho hl =>
    rw [rf_2_0 (r := (m.at t).fresh) ho hl]; unfold LS.fGo
    obtain ⟨f1, f2, f3⟩ := pl 3 4294967295 0
    generalize (m.at t).fresh.doA 3 0 4294967295 0 = R0 at *
    exact ⟨f1, .inr ⟨0, by rw [← f3]; rfl⟩⟩
  | gone ho hr hh hon' => have := C.on; rw [hon'] at this; cases this
  | leave ho hl =>
    rw [rf_4_0 (r := (m.at t).fresh) ho hl]; unfold LS.fLeave
    obtain ⟨f1, f2, f3⟩ := pl 3 4294901760 0
    generalize (m.at t).fresh.doA 3 0 4294901760 0 = R0 at *
    exact ⟨f1, .inr ⟨0, by rw [← f3]; rfl⟩⟩
  | up ho hl =>
    rcases hl with hl | hl
    · rw [rf_7_0 (r := (m.at t).fresh) ho hl]; exact look _
    · rw [rf_7_1 (r := (m.at t).fresh) ho hl]; unfold LS.fUp
      obtain ⟨f1, f2, _⟩ := pl 5 1 65536
      generalize (m.at t).fresh.doA 5 0 1 65536 = R0 at *
      split
      · exact ⟨f1, .inl f2⟩
      · exact ⟨f1, .inl f2⟩
  | down ho hl =>
    rw [rf_8_0 (r := (m.at t).fresh) ho hl]; unfold LS.fDown
    obtain ⟨f1, f2, f3⟩ := pl 3 4294901761 0
    generalize (m.at t).fresh.doA 3 0 4294901761 0 = R0 at *
    exact ⟨f1, .inr ⟨0, by rw [← f3]; rfl⟩⟩
  | downed ho hr hh hon' => have := C.on; rw [hon'] at this; cases this
structure RfInv (k : Nat) (mode : Int) (m : MV) : Prop where
  gen : GenQ wtS k mode m
  ex : ∃ c d y, RI k c d y m
theorem r_waking (hk : k ≤ 64) (hg : GenQ wtS k mode m) (h : RI k c d y m) (ht : t < k) (hop : (m.rs t).op ≠ 0) (hon : (m.rs t).k.on = true) : RI k (upd c t (c t)) (upd d t (d t)) (upd y t (y t)) ⟨upd m.rs t (m.at t).waking.finR, upd m.hold t ((m.at t).waking.finH (m.hold t)), (m.at t).waking.xs⟩ := by
  obtain ⟨c1, c2, c3⟩ := hg.cst t ht
  have F := h.f t ht
  have x0 : wordAt (m.at t).waking.xs 0 = wordAt m.xs 0 := by
    show wordAt (wakeI m.xs (m.rs t).n _ _ _ _).xs 0 = _
    rw [c1]
    exact own_wake (by have := pc_big k (m.at t).k.i (by omega); omega)
  have e1 : (m.at t).waking.op = (m.rs t).op := rfl
  have e2 : (m.at t).waking.line = (m.rs t).line := rfl
  have e3 : (m.at t).waking.ret = (m.rs t).ret := rfl
  have e5 : (m.at t).waking.s = (m.rs t).s := rfl
  have e6 : (m.at t).waking.a = (m.rs t).a := rfl
  generalize (m.at t).waking = R at *
  have key : FR (R.finH (m.hold t)) R.finR.op R.finR.line R.finR.ret R.finR.s R.finR.k.on (c t) (d t) (y t) ∧ (R.finR.op = 5 → R.finR.line = 1 → outW R.finR.a = true) := by
    cases hRon : R.k.on
    · by_cases hr0 : (m.rs t).ret = 0
      · obtain ⟨f1, f2⟩ := fin_no (R := R) (m.hold t) (e3.trans hr0)
        rw [f1, f2, e1, e2, e3, hr0, e5, e6]
        exact ⟨F.setOn hr0 _, h.sl t ht⟩
      · obtain ⟨f1, f2⟩ := fin_yes (R := R) (m.hold t) (by rw [e3]; exact hr0) hRon
        rw [f1, f2, e1, e3]
        refine ⟨?_, fun e => absurd e (by show (0 : Int) ≠ 5; decide)⟩
        cases F with
        | gone ho hr hh hon' hc hd hy =>
          have hb : behindI (m.rs t).op (m.rs t).ret (m.hold t) = 0 := by rw [hr, hh]; rcases ho with e | e <;> rw [e] <;> rfl
          rw [hb]; exact .idle0 rfl rfl rfl hc hd hy
        | downed ho hr hh hon' hc hd hy =>
          have hb : behindI (m.rs t).op (m.rs t).ret (m.hold t) = 1 := by rw [hr, hh, ho]; rfl
          rw [hb]; exact .idle1 rfl rfl rfl hc hd hy
        | _ => omega
    · obtain ⟨f1, f2⟩ := fin_on (R := R) (m.hold t) hRon
      rw [f1, f2, e1, e2, e3, e5, e6, hRon]
      rw [hon] at F
      exact ⟨F, h.sl t ht⟩
  have hfar : (m.rs t).k.on = false → wtR wtS (m.rs t) = none → ∀ e : Int, 8 + 2 * (k : Int) ≤ e → wordAt R.xs e = wordAt m.xs e := fun e => by rw [hon] at e; cases e
  refine RMv.keep (mode := mode) ⟨key.1, by rw [updq_self, updq_self, x0]; exact h.w, by rw [updq_self]; exact h.y1, ?_, key.2, hfar, .inr ⟨fun e => by rw [← x0]; exact e, fun e => by rw [← x0]; exact e⟩⟩ h ht
  rw [updq_self]
  rcases h.ex with e | e
  · exact .inl e
  · exact .inr ⟨e t ht, fun i hi _ => e i hi⟩
theorem RfInv.go (hk : k ≤ 64) (hk1 : 1 ≤ k) (h : RfInv k mode m) (ht : t < k) (hop : (m.rs t).op ≠ 0) (hst : (m.at t).stuck = false) : RfInv k mode (m.go LS.rf t) := by
  obtain ⟨hg, c, d, y, hI⟩ := h
  rw [go_eq hst]
  cases hon : (m.rs t).k.on
  · have hR : (m.at t).next LS.rf = (m.at t).fresh.rf := by
      unfold LS.next
      rw [if_neg (by show ¬ (m.rs t).k.on = true; rw [hon]; exact Bool.false_ne_true)]
    rw [hR]
    have C := RC_mk hk hg hI ht hon
    obtain ⟨c', d', y', g⟩ := rf_mv C hop
    refine ⟨?_, _, _, _, g.keep hI ht⟩
    cases hw : wtR wtS (m.rs t) with
    | none =>
      obtain ⟨p1, p2⟩ := plain_rf C hop hw
      have P : PlainLn (m.at t).fresh (m.at t).fresh.rf := ⟨fun e he => g.far hon hw e (by have e : (m.at t).fresh.n = k := (hg.cst t ht).1; omega), p1, p2⟩
      refine (stepq_plain lines_rf hk hk1 hg ht hop hon hw P (fun i hi hne e q hwi hs hq => ?_)).gen lines_rf hg ht
      have hm : mode = 2 := by
        by_cases e : mode = 2
        · exact e
        · have := hg.sp i hi e; omega
      rcases wtS_cases hwi with ⟨_, _, rfl, rfl⟩ | ⟨_, _, rfl, rfl⟩
      · rcases g.wk with e | ⟨e, _⟩
        · rw [hm] at e; exact .inr e
        · exact .inl (e hq)
      · rcases g.wk with e | ⟨_, e⟩
        · rw [hm] at e; exact .inr e
        · refine .inl ?_
          unfold isZ at hq ⊢
          have := e (by simpa using hq)
          simpa using this
    | some cq => exact (stepq_wait lines_rf hk hg ht hop hon hst (c := cq.1) (q := cq.2) hw).gen lines_rf hg ht
  · have hR : (m.at t).next LS.rf = (m.at t).waking := by
      unfold LS.next
      rw [if_pos (by show (m.rs t).k.on = true; exact hon)]
    rw [hR]
    exact ⟨(stepq_waking lines_rf hk hg ht hop hon).gen lines_rf hg ht, _, _, _, r_waking hk hg hI ht hop hon⟩
theorem RfInv.start (h : RfInv k mode m) (ht : t < k) (h0 : (m.rs t).op = 0) {op : Int} (hmay : mayI op (m.hold t) = true) : RfInv k mode (m.start t op) := by
  obtain ⟨hg, c, d, y, hI⟩ := h
  have F := hI.f t ht
  refine ⟨hg.start lines_rf ht h0 op, c, d, y, ?_⟩
  have key : FR (fromI op (m.hold t)) op 0 0 0 false (c t) (d t) (y t) → RI k c d y (m.start t op) := fun f => by
    refine ⟨fun i hi => ?_, hI.w, hI.y1, hI.ex, fun i hi e1 e2 => ?_⟩
    · show FR (upd m.hold t (fromI op (m.hold t)) i) (upd m.rs t (zeroF (m.at t) op) i).op (upd m.rs t (zeroF (m.at t) op) i).line (upd m.rs t (zeroF (m.at t) op) i).ret (upd m.rs t (zeroF (m.at t) op) i).s (upd m.rs t (zeroF (m.at t) op) i).k.on (c i) (d i) (y i)
      by_cases e : i = t
      · subst e; rw [upd_same, upd_same]; exact f
      · rw [upd_other _ _ e, upd_other _ _ e]; exact hI.f i hi
    · have e2' : (upd m.rs t (zeroF (m.at t) op) i).line = 1 := e2
      have e1' : (upd m.rs t (zeroF (m.at t) op) i).op = 5 := e1
      show outW (upd m.rs t (zeroF (m.at t) op) i).a = true
      by_cases e : i = t
      · subst e; rw [upd_same] at e2'; cases e2'
      · rw [upd_other _ _ e] at e1' e2' ⊢; exact hI.sl i hi e1' e2'
  cases F with
  | idle0 ho hr hh hc hd hy =>
    rw [hh] at hmay
    have h4 : op = 1 ∨ op = 3 ∨ op = 5 ∨ op = 6 := by simp [mayI] at hmay; omega
    have hf : fromI op (m.hold t) = 0 := by rw [hh]; unfold fromI; rw [if_neg (by omega), if_neg (by omega)]
    exact key (by rw [hf]; exact .free (by omega) rfl rfl hc hd hy)
  | idle1 ho hr hh hc hd hy =>
    rw [hh] at hmay
    have h4 : op = 2 ∨ op = 7 := by simp [mayI] at hmay; omega
    rcases h4 with e | e
    · exact key (by rw [e]; exact .dep rfl rfl rfl rfl hc hd hy)
    · exact key (by rw [e, hh]; exact .up rfl (.inl rfl) rfl rfl hc hd hy)
  | idle2 ho hr hh hc hd hy =>
    rw [hh] at hmay
    have h4 : op = 4 ∨ op = 8 := by simp [mayI] at hmay; omega
    rcases h4 with e | e
    · exact key (by rw [e]; exact .leave rfl rfl rfl rfl hc hd hy)
    · exact key (by rw [e]; exact .down rfl rfl rfl rfl hc hd hy)
  | _ => omega
end
end Go.Proofs.Ytkmkeleifkkbnaa
set_option linter.unusedVariables false
set_option linter.unusedSimpArgs false
namespace Go.Proofs.Ytkmkeleifkkbnaa
def ownW (xs : List Int) : Int → Int := fun d => if 0 ≤ d ∧ d < 8 then wordAt xs d else 0
theorem ownW_same {xs ys : List Int} (h : ∀ d, 0 ≤ d → d < 8 → wordAt ys d = wordAt xs d) : ownW ys = ownW xs := by
  funext d; unfold ownW; split
  · rename_i e; exact h d e.1 e.2
  · rfl
theorem ownW_at {xs : List Int} {d : Int} (h0 : 0 ≤ d) (h1 : d < 8) : ownW xs d = wordAt xs d := if_pos ⟨h0, h1⟩
def perms (k : Nat) (m : MV) : Nat := sumN (fun i => if hasP m.xs k i then 1 else 0) k
theorem sum_move {f g : Nat → Nat} {k t e : Nat} (ht : t < k) (h : ∀ i, i < k → i ≠ t → g i ≤ f i + e) : sumN g k + f t + e ≤ sumN f k + k * e + g t := by
  have h1 : sumN g k ≤ sumN (upd (fun i => f i + e) t (g t)) k := sumN_le fun i hi => by
    by_cases e1 : i = t
    · subst e1; rw [upd_same]; exact Nat.le_refl _
    · rw [upd_other _ _ e1]; exact h i hi e1
  have h2 := sumN_upd (f := fun i => f i + e) (g := upd (fun i => f i + e) t (g t)) (t := t) (k := k) ht (fun i _ hi => upd_other _ _ hi)
  rw [upd_same] at h2
  have h3 : sumN (fun i => f i + e) k = sumN f k + k * e := by
    rw [sumN_add (f := f) (g := fun _ => e), sumN_const]
  rw [h3] at h2
  try dsimp only at h2
  omega
section
variable {k : Nat}
theorem swp_next (k : Nat) (c : Int) {i0 : Nat} (h : i0 < k) : swp k (nextI k c i0) ≤ 5 * (k - i0 - 1) := by
  unfold nextI
  split
  · simp [swp, wk0]
  · unfold swp
    simp only [Bool.false_eq_true, if_false, if_true, Nat.sub_zero]
    have : ((i0 : Int) + 1).toNat = i0 + 1 := by omega
    rw [this]; omega
theorem perms_one {m m' : MV} {i : Nat} (hi : i < k) (h : ∀ j, j < k → j ≠ i → hasP m'.xs k j = hasP m.xs k j) : perms k m' + (if hasP m.xs k i then 1 else 0) = perms k m + (if hasP m'.xs k i then 1 else 0) := by
  have := sumN_upd (f := fun i : Nat => if hasP m.xs (k : Int) (i : Int) then 1 else 0) (g := fun i : Nat => if hasP m'.xs (k : Int) (i : Int) then 1 else 0) (t := i) (k := k) hi (fun j hj hne => by simp only [h j hj hne])
  exact this
theorem perms_same {m m' : MV} (h : ∀ j, j < k → hasP m'.xs k j = hasP m.xs k j) : perms k m' = perms k m := sumN_congr fun i hi => by simp only [h i hi]
end
end Go.Proofs.Ytkmkeleifkkbnaa
