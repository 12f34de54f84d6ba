import Derived.Deep.Slices
import Derived.Deep.Fields
import Derived.ChangeSame
import Derived.Test.YtgfippbcgneegaaChecked
import Derived.Test.YtgfippbcgneegaaK21
import Derived.Test.YtgfippbcgneegaaK17
import Derived.Test.YtgfippbcgneegaaK2
import Derived.Test.YtgfippbcgneegaaK1
set_option linter.unusedVariables false
set_option linter.unusedSimpArgs false
namespace Go.Proofs.Ytgfippbcgneegaa
section
variable {k : Nat} {w w' : Int → Int} {r : LS} {h : Int}
theorem w_idle (r : LS) : worthT k w h (zeroF r 0) = idleT k h := rfl
theorem w_ret {r' : LS} {o : Int} (e1 : r'.op = o) (h0 : o ≠ 0) (e2 : r'.ret ≠ 0) : worthT k w h r' = idleT k (behindI o r'.ret h) := by unfold worthT; rw [e1, if_neg h0, if_pos e2]
theorem w_1 {r' : LS} (e1 : r'.op = 1) (e2 : r'.ret = 0) : worthT k w h r' = if r'.line = 0 then 13 * k + 7 else if r'.line = 1 then 10 * k + 6 else 10 * k + 2 := by
  unfold worthT; rw [e1, e2, if_neg (by decide), if_neg (by decide), if_pos rfl]
theorem w_2 {r' : LS} (e1 : r'.op = 2) (e2 : r'.ret = 0) : worthT k w h r' = 5 * k + 1 := by
  unfold worthT; rw [e1, e2, if_neg (by decide), if_neg (by decide), if_neg (by decide), if_pos rfl]
theorem w_3 {r' : LS} (e1 : r'.op = 3) (e2 : r'.ret = 0) : worthT k w h r' = if r'.line = 0 then 13 * k + 7 else 10 * k + 6 := by
  unfold worthT; rw [e1, e2, if_neg (by decide), if_neg (by decide), if_neg (by decide), if_neg (by decide), if_pos rfl]
theorem w_4 {r' : LS} (e1 : r'.op = 4) (e2 : r'.ret = 0) : worthT k w h r' = if r'.line = 0 then 10 * k + 2 else 5 * k + 1 := by
  unfold worthT; rw [e1, e2, if_neg (by decide), if_neg (by decide), if_neg (by decide), if_neg (by decide), if_neg (by decide), if_pos rfl]
theorem w_8 {r' : LS} (e1 : r'.op = 8) (e2 : r'.ret = 0) : worthT k w h r' = 10 * k + 2 := by
  unfold worthT; rw [e1, e2, if_neg (by decide), if_neg (by decide), if_neg (by decide), if_neg (by decide), if_neg (by decide), if_neg (by decide), if_pos rfl]
theorem w_try {r' : LS} (e1 : r'.op = 5 ∨ r'.op = 6 ∨ r'.op = 7) (e2 : r'.ret = 0) : worthT k w h r' = if r'.line = 0 then 13 * k + 8 else if r'.line = 3 then 10 * k + 3 else if r'.line = 1 then (if r'.a = w 0 then 13 * k + 7 else 13 * k + 10) else (if r'.a = w 0 then 13 * k + 6 else 13 * k + 9) := by
  unfold worthT
  rcases e1 with e1 | e1 | e1 <;> rw [e1, e2, if_neg (by decide), if_neg (by decide), if_neg (by decide), if_neg (by decide), if_neg (by decide), if_neg (by decide), if_neg (by decide)]
theorem idle_le (k : Nat) (h : Int) : idleT k h ≤ 10 * k + 2 := by
  unfold idleT
  by_cases e : h = 1
  · rw [if_pos e]; omega
  · rw [if_neg e]
    by_cases e2 : h = 2
    · rw [if_pos e2]; omega
    · rw [if_neg e2]; omega
theorem worth_turn (c what : Int) (h0 : r.op ≠ 0) : swp k (r.turn c what).finR.k + worthT k w ((r.turn c what).finH h) (r.turn c what).finR ≤ 5 * k + idleT k (behindI r.op 2 h) := by
  obtain ⟨p1, p2, p3, p4, p5⟩ := turn_p r c what
  by_cases e2 : r.mode = 2
  · obtain ⟨f1, f2⟩ := fin_on (R := r.turn c what) h (by rw [p3, e2]; rfl)
    rw [f1, f2, p3, w_ret p1 h0 (by rw [p4]; decide), p4]
    have := swp_begin k r.mode c
    omega
  · obtain ⟨f1, f2⟩ := fin_yes (R := r.turn c what) h (by rw [p4]; decide) (by rw [p3, beginI_no e2]; rfl)
    rw [f1, f2, w_idle, p1, p4, show swp k (zeroF (r.turn c what) 0).k = 0 from swp_off k rfl]
    omega
theorem worth_stay {R : LS} (hk : R.k.on = false) (hr : R.ret = 0) : swp k R.finR.k + worthT k w (R.finH h) R.finR = worthT k w h R := by
  obtain ⟨f1, f2⟩ := fin_no (R := R) h hr
  rw [f1, f2, swp_off k hk]; omega
theorem worth_end {R : LS} (hk : R.k.on = false) (hr : R.ret ≠ 0) : swp k R.finR.k + worthT k w (R.finH h) R.finR = idleT k (behindI R.op R.ret h) := by
  obtain ⟨f1, f2⟩ := fin_yes (R := R) h hr hk
  rw [f1, f2, w_idle, show swp k (zeroF R 0).k = 0 from swp_off k rfl]; omega
end
theorem worth_plain {b : Int} {k : Nat} {s : TS} {t : Nat} {r : LS} {h : Int} (A : Ahead_ b k s t h r) (hop : r.op ≠ 0) (hw : ¬ (r.op = 1 ∧ r.line = 1) ∧ ¬ (r.op = 3 ∧ r.line = 1)) :
    ∃ e, (∀ (h' : Int) (r' : LS), worthT k (ownW r.tf.xs) h' r' ≤ worthT k (ownW r.xs) h' r' + e) ∧ swp k r.tf.finR.k + worthT k (ownW r.tf.xs) (r.tf.finH h) r.tf.finR + k * e < worthT k (ownW r.xs) h r := by
  have hU := A.U
  have hor := A.inv.order
  have o0 : ∀ xs : List Int, ownW xs 0 = wordAt xs 0 := fun xs => ownW_at (by decide) (by decide)
  have same : ∀ {xs' : List Int}, wordAt xs' 0 = wordAt r.xs 0 → ∀ (h' : Int) (r' : LS), worthT k (ownW xs') h' r' ≤ worthT k (ownW r.xs) h' r' + 0 := fun e h' r' => by
    rw [worth_same k (w := ownW r.xs) ((o0 _).trans (e.trans (o0 _).symm))]; omega
  have rise : ∀ (xs' : List Int) (h' : Int) (r' : LS), worthT k (ownW xs') h' r' ≤ worthT k (ownW r.xs) h' r' + 3 := fun xs' h' r' => worth_rise k _ _ h' r'
  have turn : ∀ (c what : Int), c ≠ 0 → 5 * k + idleT k (behindI r.op 2 h) < worthT k (ownW r.xs) h r → ∃ e, (∀ (h' : Int) (r' : LS), worthT k (ownW (r.turn c what).xs) h' r' ≤ worthT k (ownW r.xs) h' r' + e) ∧ swp k (r.turn c what).finR.k + worthT k (ownW (r.turn c what).xs) ((r.turn c what).finH h) (r.turn c what).finR + k * e < worthT k (ownW r.xs) h r := fun c what hc hlt =>
    ⟨0, same (addf hc), by have := worth_turn (k := k) (w := ownW (r.turn c what).xs) (r := r) (h := h) c what hop; omega⟩
  have draw : ∀ cl : Int, (r.op = 1 ∨ r.op = 3) → r.line = 0 → ∃ e, (∀ (h' : Int) (r' : LS), worthT k (ownW (r.draw cl).xs) h' r' ≤ worthT k (ownW r.xs) h' r' + e) ∧ swp k (r.draw cl).finR.k + worthT k (ownW (r.draw cl).xs) ((r.draw cl).finH h) (r.draw cl).finR + k * e < worthT k (ownW r.xs) h r := fun cl ho hl => by
    refine ⟨3, rise _, ?_⟩
    rw [worth_stay (R := r.draw cl) A.on A.ret]
    have hl' : (r.draw cl).line = 1 := rfl
    rcases ho with e | e
    · rw [w_1 (r' := r.draw cl) e A.ret, w_1 e A.ret, hl, hl', if_neg (by decide), if_pos rfl, if_pos rfl]; omega
    · rw [w_3 (r' := r.draw cl) e A.ret, w_3 e A.ret, hl, hl', if_neg (by decide), if_pos rfl]; omega
  have look : (r.op = 5 ∨ r.op = 6 ∨ r.op = 7) → r.line = 0 → ∃ e, (∀ (h' : Int) (r' : LS), worthT k (ownW r.look.xs) h' r' ≤ worthT k (ownW r.xs) h' r' + e) ∧ swp k r.look.finR.k + worthT k (ownW r.look.xs) (r.look.finH h) r.look.finR + k * e < worthT k (ownW r.xs) h r := fun ho hl => by
    obtain ⟨p1, p2, p3, p4, p5, p6⟩ := look_p r
    have hx : r.look.xs = r.xs := by rw [p5, own_load]
    rw [hx]
    refine ⟨0, same rfl, ?_⟩
    rw [worth_stay (by rw [p3]; exact A.on) (by rw [p4]; exact A.ret), w_try (by rw [p1]; exact ho) (by rw [p4]; exact A.ret), w_try ho A.ret, p2, hl, p6, o0]
    simp
  have weigh : ∀ c own : Int, (r.op = 5 ∨ r.op = 6 ∨ r.op = 7) → r.line = 1 → ((r.op = 5 ∧ c = 1 ∧ own = 0) ∨ (r.op = 6 ∧ c = 2 ∧ own = 0) ∨ (r.op = 7 ∧ c = 2 ∧ own = 1)) → ∃ e, (∀ (h' : Int) (r' : LS), worthT k (ownW (r.weigh c own).xs) h' r' ≤ worthT k (ownW r.xs) h' r' + e) ∧ swp k (r.weigh c own).finR.k + worthT k (ownW (r.weigh c own).xs) ((r.weigh c own).finH h) (r.weigh c own).finR + k * e < worthT k (ownW r.xs) h r := fun c own ho hl hc => by
    obtain ⟨A0, a1, a2, _⟩ := A.task.tries ho (.inl hl)
    have hx : (r.weigh c own).xs = r.xs := by
      unfold LS.weigh
      by_cases n1 : own < aheadI r.a (wordAt r.xs c)
      · rw [if_pos n1]; exact own_load
      rw [if_neg n1]
      by_cases n2 : aheadI r.a (wordAt r.xs c) < own
      · rw [if_pos n2]; exact own_load
      · rw [if_neg n2]; exact own_load
    rw [hx]
    refine ⟨0, same rfl, ?_⟩
    rw [w_try ho A.ret, hl, if_neg (by decide), if_neg (by decide), if_pos rfl, o0]
    have hge : 13 * k + 7 ≤ (if r.a = wordAt r.xs 0 then 13 * k + 7 else 13 * k + 10) := by
      by_cases e : r.a = wordAt r.xs 0
      · rw [if_pos e]; omega
      · rw [if_neg e]; omega
    unfold LS.weigh
    by_cases n1 : own < aheadI r.a (wordAt r.xs c)
    · rw [if_pos n1, worth_end (R := (((r.doA 1 c 0 0).keepB (wordAt r.xs c)).note 5 0).fin false) A.on (by show (1 : Int) ≠ 0; decide)]
      have := idle_le k (behindI ((((r.doA 1 c 0 0).keepB (wordAt r.xs c)).note 5 0).fin false).op ((((r.doA 1 c 0 0).keepB (wordAt r.xs c)).note 5 0).fin false).ret h)
      omega
    rw [if_neg n1]
    by_cases n2 : aheadI r.a (wordAt r.xs c) < own
    · rw [if_pos n2, worth_stay (R := ((r.doA 1 c 0 0).keepB (wordAt r.xs c)).go 0) A.on A.ret, w_try (r' := ((r.doA 1 c 0 0).keepB (wordAt r.xs c)).go 0) ho A.ret, show (((r.doA 1 c 0 0).keepB (wordAt r.xs c)).go 0).line = 0 from rfl, if_pos rfl]
      have hne : r.a ≠ wordAt r.xs 0 := fun e => by
        rw [A.w0, a2] at e
        have e' := wd_inj e (by omega) (by omega)
        have hwo : (r.op = 7 → s.W + 1 ≤ s.U) := fun e7 => by
          have hr : s.role t = .reads := by rw [A.role, role_try ho (by omega), if_pos e7]
          have hat := sumN_at (f := fun i => (s.role i).wo) A.lt
          rw [hr] at hat
          have hwo : Role.reads.wo = 1 := rfl
          have := A.inv.sw
          omega
        rcases hc with ⟨e5, rfl, rfl⟩ | ⟨e5, rfl, rfl⟩ | ⟨e5, rfl, rfl⟩
        · rw [a2, A.w1, wd_ahead (by omega) (by omega)] at n2; omega
        · rw [a2, A.w2, wd_ahead (by omega) (by omega)] at n2; omega
        · have := hwo e5
          rw [a2, A.w2, wd_ahead (by omega) (by omega)] at n2; omega
      rw [if_neg hne]; omega
    · rw [if_neg n2, worth_stay (R := ((r.doA 1 c 0 0).keepB (wordAt r.xs c)).go 2) A.on A.ret, w_try (r' := ((r.doA 1 c 0 0).keepB (wordAt r.xs c)).go 2) ho A.ret, show (((r.doA 1 c 0 0).keepB (wordAt r.xs c)).go 2).line = 2 from rfl, if_neg (by decide), if_neg (by decide), if_neg (by decide), o0, show (((r.doA 1 c 0 0).keepB (wordAt r.xs c)).go 2).a = r.a from rfl]
      by_cases e : r.a = wordAt r.xs 0
      · rw [if_pos e, if_pos e]; omega
      · rw [if_neg e, if_neg e]; omega
  have claim : ∀ R : LS, (r.op = 5 ∨ r.op = 6 ∨ r.op = 7) → r.line = 2 → R.xs = r.claim.xs → swp k R.finR.k + worthT k (ownW R.xs) (R.finH h) R.finR ≤ 10 * k + 3 → ∃ e, (∀ (h' : Int) (r' : LS), worthT k (ownW (if r.claimed then R else r.claim.go 0).xs) h' r' ≤ worthT k (ownW r.xs) h' r' + e) ∧ swp k (if r.claimed then R else r.claim.go 0).finR.k + worthT k (ownW (if r.claimed then R else r.claim.go 0).xs) ((if r.claimed then R else r.claim.go 0).finH h) (if r.claimed then R else r.claim.go 0).finR + k * e < worthT k (ownW r.xs) h r := fun R ho hl hx hR => by
    obtain ⟨A0, a1, a2, _⟩ := A.task.tries ho (.inr hl)
    have hv : worthT k (ownW r.xs) h r = if r.a = wordAt r.xs 0 then 13 * k + 6 else 13 * k + 9 := by
      rw [w_try ho A.ret, hl, if_neg (by decide), if_neg (by decide), if_neg (by decide), o0]
    rcases claim_words A a1 a2 with ⟨hc, e, w0, wf⟩ | ⟨hc, e, wf⟩
    · rw [hc, if_pos rfl]
      refine ⟨3, rise _, ?_⟩
      rw [hv, if_pos (by rw [A.w0, a2, e])]
      omega
    · rw [hc, if_neg Bool.false_ne_true]
      refine ⟨0, same (wf 0), ?_⟩
      rw [hv, if_neg (fun e2 => e (by rw [A.w0, a2] at e2; exact wd_inj e2 (by omega) (by omega))), worth_stay (R := r.claim.go 0) A.on A.ret, w_try (r' := r.claim.go 0) ho A.ret, show (r.claim.go 0).line = 0 from rfl, if_pos rfl]
      omega
  have i1 : idleT k 1 = 5 * k + 1 := rfl
  have i2 : idleT k 2 = 10 * k + 2 := rfl
  have i0 : idleT k 0 = 0 := rfl
  have hline := A.task.line
  unfold lineOK at hline
  rcases hline with ⟨ho, _⟩ | ⟨ho, hh, hl⟩ | ⟨ho, hh, hl⟩ | ⟨ho, hh, hl⟩ | ⟨ho, hh, hl⟩ | ⟨ho, hh, hl⟩ | ⟨ho, hh, hl⟩ | ⟨ho, hh, hl⟩ | ⟨ho, hh, hl⟩
  · exact absurd ho hop
  · rcases hl with hl | hl | hl
    · rw [tf_1_0 ho hl]; exact draw 1 (.inl ho) hl
    · exact absurd ⟨ho, hl⟩ hw.1
    · rw [tf_1_2 ho hl]; refine turn 1 4 (by decide) ?_
      rw [w_1 ho A.ret, hl, if_neg (by decide), if_neg (by decide), ho, show behindI 1 2 h = 1 from rfl, i1]; omega
  · rw [tf_2_0 ho hl]; refine turn 2 6 (by decide) ?_
    rw [w_2 ho A.ret, ho, hh, show behindI 2 2 0 = 0 from rfl, i0]; omega
  · rcases hl with hl | hl
    · rw [tf_3_0 ho hl]; exact draw 2 (.inr ho) hl
    · exact absurd ⟨ho, hl⟩ hw.2
  · rcases hl with hl | hl
    · rw [tf_4_0 ho hl]
      obtain ⟨p1, p2, p3, p4, p5⟩ := leave_p r
      refine ⟨0, same (addf (c := 1) (d := 0) (by decide)), ?_⟩
      obtain ⟨f1, f2⟩ := fin_no (R := r.leave) h (by rw [p4]; exact A.ret)
      rw [f1, f2, p3, w_4 (r' := r.leave) (by rw [p1]; exact ho) (by rw [p4]; exact A.ret), p2, w_4 ho A.ret, hl, if_neg (by decide), if_pos rfl]
      have := swp_begin k r.mode 1
      omega
    · rw [tf_4_1 ho hl]; refine turn 2 8 (by decide) ?_
      rw [w_4 ho A.ret, hl, if_neg (by decide), ho, hh, show behindI 4 2 0 = 0 from rfl, i0]; omega
  · rcases hl with hl | hl | hl | hl
    · rw [tf_5_0 ho hl]; exact look (.inl ho) hl
    · rw [tf_5_1 ho hl]; exact weigh 1 0 (.inl ho) hl (.inl ⟨ho, rfl, rfl⟩)
    · rw [tf_5_2 ho hl]
      refine claim ((r.claim.note 2 1).go 3) (.inl ho) hl rfl ?_
      rw [worth_stay (R := (r.claim.note 2 1).go 3) A.on A.ret, w_try (r' := (r.claim.note 2 1).go 3) (.inl ho) A.ret, show ((r.claim.note 2 1).go 3).line = 3 from rfl, if_neg (by decide), if_pos rfl]
      omega
    · rw [tf_5_3 ho hl]; refine turn 1 4 (by decide) ?_
      rw [w_try (.inl ho) A.ret, hl, if_neg (by decide), if_pos rfl, ho, show behindI 5 2 h = 1 from rfl, i1]; omega
  · rcases hl with hl | hl | hl
    · rw [tf_6_0 ho hl]; exact look (.inr (.inl ho)) hl
    · rw [tf_6_1 ho hl]; exact weigh 2 0 (.inr (.inl ho)) hl (.inr (.inl ⟨ho, rfl, rfl⟩))
    · rw [tf_6_2 ho hl]
      refine claim (((r.claim.note 2 2).note 4 0).fin true) (.inr (.inl ho)) hl rfl ?_
      rw [worth_end (R := ((r.claim.note 2 2).note 4 0).fin true) A.on (by show (2 : Int) ≠ 0; decide)]
      have := idle_le k (behindI (((r.claim.note 2 2).note 4 0).fin true).op (((r.claim.note 2 2).note 4 0).fin true).ret h)
      omega
  · rcases hl with hl | hl | hl | hl
    · rw [tf_7_0 ho hl]; exact look (.inr (.inr ho)) hl
    · rw [tf_7_1 ho hl]; exact weigh 2 1 (.inr (.inr ho)) hl (.inr (.inr ⟨ho, rfl, rfl⟩))
    · rw [tf_7_2 ho hl]
      refine claim ((r.claim.note 9 0).go 3) (.inr (.inr ho)) hl rfl ?_
      rw [worth_stay (R := (r.claim.note 9 0).go 3) A.on A.ret, w_try (r' := (r.claim.note 9 0).go 3) (.inr (.inr ho)) A.ret, show ((r.claim.note 9 0).go 3).line = 3 from rfl, if_neg (by decide), if_pos rfl]
      omega
    · rw [tf_7_3 ho hl]
      refine ⟨0, same (addf (c := 2) (d := 0) (by decide)), ?_⟩
      rw [worth_end (R := r.giveBack) A.on (by show (2 : Int) ≠ 0; decide), w_try (.inr (.inr ho)) A.ret, hl, if_neg (by decide), if_pos rfl]
      have := idle_le k (behindI r.giveBack.op r.giveBack.ret h)
      omega
  · rw [tf_8_0 ho hl]; refine turn 1 10 (by decide) ?_
    rw [w_8 ho A.ret, ho, hh, show behindI 8 2 1 = 1 from rfl, i1]; omega
end Go.Proofs.Ytgfippbcgneegaa
set_option linter.unusedVariables false
set_option linter.unusedSimpArgs false
namespace Go.Proofs.Ytgfippbcgneegaa
structure TfInv (b : Int) (k : Nat) (mode : Int) (p : Nat) (m : MV) : Prop where
  gen : GenI wtT k mode m
  ex : ∃ s : TS, TInv k s ∧ s.U ≤ p ∧ wordAt m.xs 0 = wd b s.U ∧ wordAt m.xs 1 = wd b s.R ∧ wordAt m.xs 2 = wd b s.W ∧ ∀ i, i < k → s.role i = roleOf (m.hold i) (m.rs i) ∧ TaskT b s.U s.R s.W (s.tk i) (m.hold i) (m.rs i)
section
variable {b : Int} {k : Nat} {mode : Int} {p : Nat} {m : MV} {t : Nat} {s : TS}
theorem line_hold {h : Int} {r : LS} (g : lineOK h r) : h = 0 ∨ h = 1 ∨ h = 2 := by unfold lineOK at g; omega
theorem ahead_mk (hk : k ≤ 64) (g : GenI wtT k mode m) (hI : TInv k s) (hU : s.U < 50000) (w0 : wordAt m.xs 0 = wd b s.U) (w1 : wordAt m.xs 1 = wd b s.R) (w2 : wordAt m.xs 2 = wd b s.W) (ht : t < k) (hr : s.role t = roleOf (m.hold t) (m.rs t)) (hT : TaskT b s.U s.R s.W (s.tk t) (m.hold t) (m.rs t)) (hon : (m.rs t).k.on = false) : Ahead_ b k s t (m.hold t) (m.at t).fresh :=
  ⟨hI, ht, hr, ⟨hT.line, hT.wake, hT.tick, hT.tries⟩, w0, w1, w2, hU, fun c h0 h8 => there_lk g.len h0 (by omega), hon, g.rt t ht hon⟩
theorem moved_plain {r : LS} {h : Int} (A : Ahead_ b k s t h r) (hs0 : r.s = 0) (hop : r.op ≠ 0) (hw : ¬ (r.op = 1 ∧ r.line = 1) ∧ ¬ (r.op = 3 ∧ r.line = 1)) : Moved b s t (r.tf.finH h) r.tf.finR r.tf.xs := by
  have hline := A.task.line
  unfold lineOK at hline
  rcases hline with ⟨ho, _⟩ | ⟨ho, hh, hl⟩ | ⟨ho, hh, hl⟩ | ⟨ho, hh, hl⟩ | ⟨ho, hh, hl⟩ | ⟨ho, hh, hl⟩ | ⟨ho, hh, hl⟩ | ⟨ho, hh, hl⟩ | ⟨ho, hh, hl⟩
  · exact absurd ho hop
  · rcases hl with hl | hl | hl
    · rw [tf_1_0 ho hl]; exact moved_draw A 1 (.inl ho) hl hh hs0
    · exact absurd ⟨ho, hl⟩ hw.1
    · rw [tf_1_2 ho hl]; exact m_1_2 A ho hl hh
  · rw [tf_2_0 ho hl]; exact m_2_0 A ho hl hh
  · rcases hl with hl | hl
    · rw [tf_3_0 ho hl]; exact moved_draw A 2 (.inr ho) hl hh hs0
    · exact absurd ⟨ho, hl⟩ hw.2
  · rcases hl with hl | hl
    · rw [tf_4_0 ho hl]; exact m_4_0 A ho hl hh
    · rw [tf_4_1 ho hl]; exact m_4_1 A ho hl hh
  · rcases hl with hl | hl | hl | hl
    · rw [tf_5_0 ho hl]; exact m_look A (.inl ho) hl (.inr ⟨by omega, hh⟩)
    · rw [tf_5_1 ho hl]; exact m_weigh A 1 0 (.inl ho) hl (.inr ⟨by omega, hh⟩) (.inl ⟨ho, rfl, rfl⟩)
    · rw [tf_5_2 ho hl]; exact m_5_2 A ho hl hh
    · rw [tf_5_3 ho hl]; exact m_5_3 A ho hl hh
  · rcases hl with hl | hl | hl
    · rw [tf_6_0 ho hl]; exact m_look A (.inr (.inl ho)) hl (.inr ⟨by omega, hh⟩)
    · rw [tf_6_1 ho hl]; exact m_weigh A 2 0 (.inr (.inl ho)) hl (.inr ⟨by omega, hh⟩) (.inr (.inl ⟨ho, rfl, rfl⟩))
    · rw [tf_6_2 ho hl]; exact m_6_2 A ho hl hh
  · rcases hl with hl | hl | hl | hl
    · rw [tf_7_0 ho hl]; exact m_look A (.inr (.inr ho)) hl (.inl ⟨ho, hh⟩)
    · rw [tf_7_1 ho hl]; exact m_weigh A 2 1 (.inr (.inr ho)) hl (.inl ⟨ho, hh⟩) (.inr (.inr ⟨ho, rfl, rfl⟩))
    · rw [tf_7_2 ho hl]; exact m_7_2 A ho hl hh
    · rw [tf_7_3 ho hl]; exact m_7_3 A ho hl hh
  · rw [tf_8_0 ho hl]; exact m_8_0 A ho hl hh
theorem moved_waking {r R : LS} {h : Int} (hr : s.role t = roleOf h r) (hT : TaskT b s.U s.R s.W (s.tk t) h r) (w0 : wordAt R.xs 0 = wd b s.U) (w1 : wordAt R.xs 1 = wd b s.R) (w2 : wordAt R.xs 2 = wd b s.W) (hon : r.k.on = true) (q1 : R.op = r.op) (q2 : R.line = r.line) (q3 : R.ret = r.ret) (q4 : R.a = r.a) (q5 : R.s = r.s) : Moved b s t (R.finH h) R.finR R.xs := by
  have stay : ∀ (h' : Int) (r' : LS), roleOf h' r' = roleOf h r → TaskT b s.U s.R s.W (s.tk t) h' r' → Moved b s t h' r' R.xs := fun h' r' e1 e2 =>
    ⟨s.tk t, s.U, s.R, s.W, by rw [e1, ← hr]; exact .stay, by omega, by omega, by omega, by omega, w0, w1, w2, e2⟩
  have like : wakeOK R → TaskT b s.U s.R s.W (s.tk t) h R := fun e =>
    ⟨line_like q1 q2 hT.line, e, by rw [q1, q2, q4]; exact hT.tick, by rw [q1, q2, q4]; exact hT.tries⟩
  have hwk := hT.wake hon
  have hl := hT.line
  cases hRon : R.k.on
  · have off : wakeOK R := fun e => by rw [hRon] at e; cases e
    rcases hwk with ⟨e1, e2, e3⟩ | ⟨e1, e3⟩ | ⟨e1, e2⟩ | ⟨e1, e2, e3⟩ | ⟨e1, e3⟩
    · obtain ⟨f1, f2⟩ := fin_yes (R := R) h (by rw [q3, e3]; decide) hRon
      have hh : h = 0 := by unfold lineOK at hl; omega
      rw [f1, f2, q1, q3, e1, e3, hh]
      exact stay _ _ (by rw [hh]; unfold roleOf; simp [e1, e2, hon, zeroF, behindI]) (task_idle _ (.inr (.inl rfl)))
    · obtain ⟨f1, f2⟩ := fin_yes (R := R) h (by rw [q3, e3]; decide) hRon
      have hh : h = 0 := by unfold lineOK at hl; omega
      rw [f1, f2, q1, q3, e1, e3, hh]
      exact stay _ _ (by rw [hh]; unfold roleOf; simp [e1, hon, zeroF, behindI]) (task_idle _ (.inl rfl))
    · have hh : h = 0 := by unfold lineOK at hl; omega
      by_cases e3 : R.ret = 0
      · obtain ⟨f1, f2⟩ := fin_no (R := R) h e3
        rw [f1, f2]
        refine stay _ _ ?_ (like off)
        unfold roleOf
        rw [q3] at e3
        simp [q1, q2, q3, e1, e2, e3]
      · obtain ⟨f1, f2⟩ := fin_yes (R := R) h e3 hRon
        have hb : behindI R.op R.ret h = 0 := by
          rw [q1, e1, hh]; unfold behindI
          by_cases e4 : R.ret = 2
          · simp [e4]
          · simp [e4]
        rw [f1, f2, hb]
        refine stay _ _ ?_ (task_idle _ (.inl rfl))
        rw [q3] at e3
        unfold roleOf; simp [e1, e2, e3, zeroF]
    · obtain ⟨f1, f2⟩ := fin_yes (R := R) h (by rw [q3, e3]; decide) hRon
      have hh : h = 0 := by unfold lineOK at hl; omega
      rw [f1, f2, q1, q3, e1, e3, hh]
      exact stay _ _ (by rw [hh]; unfold roleOf; simp [e1, e2, hon, zeroF, behindI]) (task_idle _ (.inr (.inl rfl)))
    · obtain ⟨f1, f2⟩ := fin_yes (R := R) h (by rw [q3, e3]; decide) hRon
      have hh : h = 1 := by unfold lineOK at hl; omega
      rw [f1, f2, q1, q3, e1, e3, hh]
      exact stay _ _ (by rw [hh]; unfold roleOf; simp [e1, hon, zeroF, behindI]) (task_idle _ (.inr (.inl rfl)))
  · obtain ⟨f1, f2⟩ := fin_on (R := R) h hRon
    rw [f1, f2]
    refine stay _ _ ?_ (like (fun _ => by rw [q1, q2, q3]; exact hwk))
    unfold roleOf; rw [q1, q2, q3, q5, hRon, hon]
theorem moved_wait (hk : k ≤ 64) (g : GenI wtT k mode m) {h : Int} (A : Ahead_ b k s t (m.hold t) (m.at t).fresh) (hst : (m.at t).stuck = false) {c : Int} {q : Int → Bool} (hw : wtT (m.rs t).op (m.rs t).line (m.rs t).a = some (c, q)) : Moved b s t ((LS.tf (m.at t).fresh).finH (m.hold t)) (LS.tf (m.at t).fresh).finR (LS.tf (m.at t).fresh).xs := by
  have ht := A.lt
  have hU := A.U
  obtain ⟨c1, c2, c3⟩ := g.cst t ht
  have hon : (m.rs t).k.on = false := A.on
  have hret : (m.rs t).ret = 0 := A.ret
  have W := lines_tf.wait (m.at t).fresh c q A.on hw
  have hSR : (m.at t).fresh.stepR c q = stepI m.xs k mode t (m.rs t).s c q := by
    show stepI m.xs (m.rs t).n (m.rs t).mode (m.rs t).task (m.rs t).s c q = _
    rw [c1, c2, c3]
  have hxs := W.xs
  rw [hSR] at hxs
  have hown : ∀ d, 0 ≤ d → d < 8 → wordAt (LS.tf (m.at t).fresh).xs d = wordAt m.xs d := fun d h0 h1 => by
    rw [hxs]; exact own_wait (by rw [wc_at hk ht]; omega) (by rw [pc_at hk ht]; omega)
  have w0 := (hown 0 (by decide) (by decide)).trans A.w0
  have w1 := (hown 1 (by decide) (by decide)).trans A.w1
  have w2 := (hown 2 (by decide) (by decide)).trans A.w2
  have hsr := g.sr t ht
  have hnext := step_next (xs := m.xs) (k := k) (mode := mode) (t := t) (s := (m.rs t).s) (c := c) (q := q)
  have hs' := W.s
  rw [hSR] at hs'
  have hns : ¬ (mode = 2 ∧ (m.rs t).s = 3 ∧ hasP m.xs k t = false) := fun ⟨e1, e2, e3⟩ => by
    have : (m.at t).stuck = true := by
      unfold LS.stuck stuckB
      show (!(m.rs t).k.on && ((m.rs t).mode == 2 && (m.rs t).s == 3 && !hasP m.xs (m.rs t).n (m.rs t).task)) = true
      rw [hon, c1, c2, c3, e1, e2, e3]; rfl
    rw [hst] at this; cases this
  -- done: from the stage 4, or the word has come
  have hdone : (stepI m.xs k mode t (m.rs t).s c q).done = true → (m.rs t).s = 4 ∨ ((m.rs t).s ≠ 4 ∧ q (wordAt m.xs c) = true) := fun hd => by
    by_cases em : mode = 2
    · subst em
      rcases hsr with e | e | e | e | e
      · right; rw [e] at hd ⊢; exact ⟨by decide, hd⟩
      · rw [e] at hd; cases hd
      · rw [e] at hd; cases hd
      · rw [e] at hd; cases hd
      · exact .inl e
    · rw [stepI_spin em] at hd
      exact .inr ⟨by have := g.sp t ht em; omega, hd⟩
  have hnot : (stepI m.xs k mode t (m.rs t).s c q).done = false → (m.rs t).s ≠ 4 ∧ ((LS.tf (m.at t).fresh).s = 4 → q (wordAt m.xs c) = true) := fun hd => by
    rcases hnext with ⟨e1, e2⟩ | ⟨em, _, e⟩
    · rcases e2 with e2 | e2
      · rw [hd] at e2; cases e2
      · exact ⟨by have := g.sp t ht e2; omega, fun e3 => by rw [hs', e1] at e3; cases e3⟩
    · refine ⟨fun e4 => ?_, fun e3 => ?_⟩
      · rw [em, e4] at hd; cases hd
      · rw [hs'] at e3
        rcases e with ⟨e, _⟩ | ⟨e, _⟩ | ⟨e, _⟩ | ⟨_, _, e5⟩
        · omega
        · omega
        · omega
        · exact e5
  have hk' : (LS.tf (m.at t).fresh).k.on = false := by rw [W.k]; exact hon
  have ha' : (LS.tf (m.at t).fresh).a = (m.rs t).a := W.a
  have hop' : (LS.tf (m.at t).fresh).op = (m.rs t).op := (lines_tf.same (m.at t).fresh).2.2.2.1
  have hstay := W.stay
  rw [hSR] at hstay
  have hw' := hw
  unfold wtT at hw'
  have hT := A.task
  have hline : lineOK (m.hold t) (m.rs t) := hT.line
  have hrole : s.role t = roleOf (m.hold t) (m.rs t) := A.role
  have hlo := A.inv.order
  by_cases e1 : (m.rs t).op = 1 ∧ (m.rs t).line = 1
  · rw [if_pos e1] at hw'
    obtain ⟨rfl, rfl⟩ := Prod.mk.inj (Option.some.inj hw')
    have htk : (m.rs t).a = wd b (s.tk t) := hT.tick (.inl e1.1) e1.2
    have hh : m.hold t = 0 := by unfold lineOK at hline; omega
    have come : (m.rs t).s ≠ 4 → wordAt m.xs 1 = (m.rs t).a → s.role t = .waits ∧ s.R = s.tk t := fun e4 e => by
      have hro : s.role t = .waits := by rw [hrole]; unfold roleOf; simp [e1.1, e1.2, e4]
      have hlt := A.inv.lo t ht (by rw [hro]; rfl)
      refine ⟨hro, ?_⟩
      have e5 : wd b s.R = wd b (s.tk t) := A.w1.symm.trans (e.trans htk)
      exact wd_inj e5 (by omega) (by omega)
    cases hd : (stepI m.xs k mode t (m.rs t).s 1 (fun v => v == (m.rs t).a)).done
    · obtain ⟨l1, l2⟩ := hstay hd
      obtain ⟨n4, h4⟩ := hnot hd
      obtain ⟨f1, f2⟩ := fin_no (R := LS.tf (m.at t).fresh) (m.hold t) (l2.trans hret)
      rw [f1, f2]
      have hTT : TaskT b s.U s.R s.W (s.tk t) (m.hold t) (LS.tf (m.at t).fresh) := task_off (line_like hop' l1 hline) hk' (fun _ _ => ha'.trans htk) (fun e => (by rw [hop', e1.1] at e; omega))
      have l1' : (LS.tf (m.at t).fresh).line = (m.rs t).line := l1
      by_cases e4 : (LS.tf (m.at t).fresh).s = 4
      · obtain ⟨r1, r2⟩ := come n4 (by simpa using h4 e4)
        refine ⟨s.tk t, s.U, s.R, s.W, ?_, by omega, by omega, by omega, by omega, w0, w1, w2, hTT⟩
        rw [show roleOf (m.hold t) (LS.tf (m.at t).fresh) = .enters by unfold roleOf; simp [hop', l1', e1.1, e1.2, e4]]
        exact .admitR r1 r2
      · refine ⟨s.tk t, s.U, s.R, s.W, ?_, by omega, by omega, by omega, by omega, w0, w1, w2, hTT⟩
        rw [show roleOf (m.hold t) (LS.tf (m.at t).fresh) = s.role t by rw [hrole]; unfold roleOf; simp [hop', l1', e1.1, e1.2, e4, n4]]
        exact .stay
    · have hR : LS.tf (m.at t).fresh = ((m.at t).fresh.wait 1 (m.at t).fresh.mine).go 2 := by
        rw [tf_1_1 (r := (m.at t).fresh) e1.1 e1.2]; unfold LS.awaitR
        rw [if_pos (show ((m.at t).fresh.stepR 1 (m.at t).fresh.mine).done = true from (congrArg StepR.done hSR).trans hd)]
      have hl2 : (LS.tf (m.at t).fresh).line = 2 := by rw [hR]; rfl
      have hr2 : (LS.tf (m.at t).fresh).ret = 0 := by rw [hR]; exact hret
      obtain ⟨f1, f2⟩ := fin_no (R := LS.tf (m.at t).fresh) (m.hold t) hr2
      rw [f1, f2]
      have hTT : TaskT b s.U s.R s.W (s.tk t) (m.hold t) (LS.tf (m.at t).fresh) := task_off (by unfold lineOK; rw [hop', hl2, e1.1, hh]; exact .inr (.inl ⟨rfl, rfl, .inr (.inr rfl)⟩)) hk' (fun _ e => (by rw [hl2] at e; cases e)) (fun e => (by rw [hop', e1.1] at e; omega))
      refine ⟨s.tk t, s.U, s.R, s.W, ?_, by omega, by omega, by omega, by omega, w0, w1, w2, hTT⟩
      have hro' : roleOf (m.hold t) (LS.tf (m.at t).fresh) = .enters := by unfold roleOf; simp [hop', hl2, e1.1, hk']
      rw [hro']
      rcases hdone hd with e4 | ⟨e4, e5⟩
      · have : s.role t = .enters := by rw [hrole]; unfold roleOf; simp [e1.1, e1.2, e4]
        rw [← this]; exact .stay
      · obtain ⟨r1, r2⟩ := come e4 (by simpa using e5)
        exact .admitR r1 r2
  · rw [if_neg e1] at hw'
    by_cases e2 : (m.rs t).op = 3 ∧ (m.rs t).line = 1
    · rw [if_pos e2] at hw'
      obtain ⟨rfl, rfl⟩ := Prod.mk.inj (Option.some.inj hw')
      have htk : (m.rs t).a = wd b (s.tk t) := hT.tick (.inr e2.1) e2.2
      have hh : m.hold t = 0 := by unfold lineOK at hline; omega
      have come : (m.rs t).s ≠ 4 → wordAt m.xs 2 = (m.rs t).a → s.role t = .waits ∧ s.W = s.tk t := fun e4 e => by
        have hro : s.role t = .waits := by rw [hrole]; unfold roleOf; simp [e2.1, e2.2, e4]
        have hlt := A.inv.lo t ht (by rw [hro]; rfl)
        refine ⟨hro, ?_⟩
        have e5 : wd b s.W = wd b (s.tk t) := A.w2.symm.trans (e.trans htk)
        exact wd_inj e5 (by omega) (by omega)
      cases hd : (stepI m.xs k mode t (m.rs t).s 2 (fun v => v == (m.rs t).a)).done
      · obtain ⟨l1, l2⟩ := hstay hd
        obtain ⟨n4, h4⟩ := hnot hd
        obtain ⟨f1, f2⟩ := fin_no (R := LS.tf (m.at t).fresh) (m.hold t) (l2.trans hret)
        rw [f1, f2]
        have hTT : TaskT b s.U s.R s.W (s.tk t) (m.hold t) (LS.tf (m.at t).fresh) := task_off (line_like hop' l1 hline) hk' (fun _ _ => ha'.trans htk) (fun e => (by rw [hop', e2.1] at e; omega))
        have l1' : (LS.tf (m.at t).fresh).line = (m.rs t).line := l1
        by_cases e4 : (LS.tf (m.at t).fresh).s = 4
        · obtain ⟨r1, r2⟩ := come n4 (by simpa using h4 e4)
          refine ⟨s.tk t, s.U, s.R, s.W, ?_, by omega, by omega, by omega, by omega, w0, w1, w2, hTT⟩
          rw [show roleOf (m.hold t) (LS.tf (m.at t).fresh) = .writes by unfold roleOf; simp [hop', l1', e2.1, e2.2, e4]]
          exact .admitW r1 r2
        · refine ⟨s.tk t, s.U, s.R, s.W, ?_, by omega, by omega, by omega, by omega, w0, w1, w2, hTT⟩
          rw [show roleOf (m.hold t) (LS.tf (m.at t).fresh) = s.role t by rw [hrole]; unfold roleOf; simp [hop', l1', e2.1, e2.2, e4, n4]]
          exact .stay
      · have hr2 : (LS.tf (m.at t).fresh).ret = 2 := by
          rw [tf_3_1 (r := (m.at t).fresh) e2.1 e2.2]; unfold LS.awaitW
          rw [if_pos (show ((m.at t).fresh.stepR 2 (m.at t).fresh.mine).done = true from (congrArg StepR.done hSR).trans hd)]; rfl
        obtain ⟨f1, f2⟩ := fin_yes (R := LS.tf (m.at t).fresh) (m.hold t) (by rw [hr2]; decide) hk'
        rw [f1, f2, hop', hr2, e2.1, show behindI 3 2 (m.hold t) = 2 from rfl]
        refine ⟨s.tk t, s.U, s.R, s.W, ?_, by omega, by omega, by omega, by omega, w0, w1, w2, task_idle _ (.inr (.inr rfl))⟩
        rw [show roleOf 2 (zeroF (LS.tf (m.at t).fresh) 0) = .writes from rfl]
        rcases hdone hd with e4 | ⟨e4, e5⟩
        · have : s.role t = .writes := by rw [hrole]; unfold roleOf; simp [e2.1, e2.2, e4]
          rw [← this]; exact .stay
        · obtain ⟨r1, r2⟩ := come e4 (by simpa using e5)
          exact .admitW r1 r2
    · rw [if_neg e2] at hw'; cases hw'
end
end Go.Proofs.Ytgfippbcgneegaa
set_option linter.unusedVariables false
set_option linter.unusedSimpArgs false
namespace Go.Proofs.Ytgfippbcgneegaa
section
variable {b : Int} {k : Nat} {mode : Int} {p : Nat} {m : MV} {t : Nat} {s : TS}
theorem plain_wakes {r : LS} {h : Int} (A : Ahead_ b k s t h r) (hop : r.op ≠ 0) (hw : ¬ (r.op = 1 ∧ r.line = 1) ∧ ¬ (r.op = 3 ∧ r.line = 1)) :
    (wordAt r.tf.xs 1 = wordAt r.xs 1 ∨ r.tf.k = beginI r.mode 1) ∧ (wordAt r.tf.xs 2 = wordAt r.xs 2 ∨ r.tf.k = beginI r.mode 2 ∨ (s.role t = .upgrades ∧ wordAt r.tf.xs 2 = wd b (s.W + 1))) := by
  have hline := A.task.line
  have clm : ∀ (R : LS), R.xs = r.claim.xs → (wordAt (if r.claimed then R else r.claim.go 0).xs 1 = wordAt r.xs 1 ∧ wordAt (if r.claimed then R else r.claim.go 0).xs 2 = wordAt r.xs 2) := fun R hx => by
    cases r.claimed
    · rw [if_neg Bool.false_ne_true]; exact ⟨own_cas_far (by decide), own_cas_far (by decide)⟩
    · rw [if_pos rfl, hx]; exact ⟨own_cas_far (by decide), own_cas_far (by decide)⟩
  have wgh : ∀ c own : Int, (r.weigh c own).xs = r.xs := fun c own => by
    unfold LS.weigh
    by_cases n1 : own < aheadI r.a (wordAt r.xs c)
    · rw [if_pos n1]; exact own_load
    rw [if_neg n1]
    by_cases n2 : aheadI r.a (wordAt r.xs c) < own
    · rw [if_pos n2]; exact own_load
    · rw [if_neg n2]; exact own_load
  have lk : r.look.xs = r.xs := own_load
  unfold lineOK at hline
  rcases hline with ⟨ho, _⟩ | ⟨ho, hh, hl⟩ | ⟨ho, hh, hl⟩ | ⟨ho, hh, hl⟩ | ⟨ho, hh, hl⟩ | ⟨ho, hh, hl⟩ | ⟨ho, hh, hl⟩ | ⟨ho, hh, hl⟩ | ⟨ho, hh, hl⟩
  · exact absurd ho hop
  · rcases hl with hl | hl | hl
    · rw [tf_1_0 ho hl]; exact ⟨.inl (addf (c := 0) (by decide)), .inl (addf (c := 0) (by decide))⟩
    · exact absurd ⟨ho, hl⟩ hw.1
    · rw [tf_1_2 ho hl]; exact ⟨.inr rfl, .inl (addf (c := 1) (by decide))⟩
  · rw [tf_2_0 ho hl]; exact ⟨.inl (addf (c := 2) (by decide)), .inr (.inl rfl)⟩
  · rcases hl with hl | hl
    · rw [tf_3_0 ho hl]; exact ⟨.inl (addf (c := 0) (by decide)), .inl (addf (c := 0) (by decide))⟩
    · exact absurd ⟨ho, hl⟩ hw.2
  · rcases hl with hl | hl
    · rw [tf_4_0 ho hl]; exact ⟨.inr rfl, .inl (addf (c := 1) (by decide))⟩
    · rw [tf_4_1 ho hl]; exact ⟨.inl (addf (c := 2) (by decide)), .inr (.inl rfl)⟩
  · rcases hl with hl | hl | hl | hl
    · rw [tf_5_0 ho hl, lk]; exact ⟨.inl rfl, .inl rfl⟩
    · rw [tf_5_1 ho hl, wgh]; exact ⟨.inl rfl, .inl rfl⟩
    · rw [tf_5_2 ho hl]; exact ⟨.inl (clm ((r.claim.note 2 1).go 3) rfl).1, .inl (clm ((r.claim.note 2 1).go 3) rfl).2⟩
    · rw [tf_5_3 ho hl]; exact ⟨.inr rfl, .inl (addf (c := 1) (by decide))⟩
  · rcases hl with hl | hl | hl
    · rw [tf_6_0 ho hl, lk]; exact ⟨.inl rfl, .inl rfl⟩
    · rw [tf_6_1 ho hl, wgh]; exact ⟨.inl rfl, .inl rfl⟩
    · rw [tf_6_2 ho hl]; exact ⟨.inl (clm (((r.claim.note 2 2).note 4 0).fin true) rfl).1, .inl (clm (((r.claim.note 2 2).note 4 0).fin true) rfl).2⟩
  · rcases hl with hl | hl | hl | hl
    · rw [tf_7_0 ho hl, lk]; exact ⟨.inl rfl, .inl rfl⟩
    · rw [tf_7_1 ho hl, wgh]; exact ⟨.inl rfl, .inl rfl⟩
    · rw [tf_7_2 ho hl]; exact ⟨.inl (clm ((r.claim.note 9 0).go 3) rfl).1, .inl (clm ((r.claim.note 9 0).go 3) rfl).2⟩
    · rw [tf_7_3 ho hl]
      refine ⟨.inl (addf (c := 2) (by decide)), .inr (.inr ⟨?_, addw A (c := 2) (by decide) (by decide) A.w2⟩)⟩
      rw [A.role]; unfold roleOf; simp [ho, hl]
  · rw [tf_8_0 ho hl]; exact ⟨.inr rfl, .inl (addf (c := 1) (by decide))⟩
theorem inv_step (hp : p < 30000) (h : GenI wtT k mode m) (ht : t < k) {hv : Int} {R : LS} (hI : TInv k s) (hU : s.U ≤ p) (ha : ∀ i, i < k → s.role i = roleOf (m.hold i) (m.rs i) ∧ TaskT b s.U s.R s.W (s.tk i) (m.hold i) (m.rs i)) (hT : StepT wtT k mode m t R) (hM : Moved b s t (R.finH (m.hold t)) R.finR R.xs) :
    TfInv b k mode (p + 1) ⟨upd m.rs t R.finR, upd m.hold t (R.finH (m.hold t)), R.xs⟩ := by
  obtain ⟨T, U, R', W, hm, hU1, hU2, hR, hW, w0, w1, w2, hTk⟩ := hM
  refine ⟨hT.gen lines_tf h ht, ⟨upd s.role t (roleOf (R.finH (m.hold t)) R.finR), upd s.tk t T, U, R', W⟩, hI.move ht hm, by show U ≤ p + 1; omega, w0, w1, w2, fun i hi => ?_⟩
  dsimp only
  by_cases e : i = t
  · subst e
    rw [upd_same, upd_same, upd_same, upd_same]
    exact ⟨rfl, hTk⟩
  · rw [upd_other _ _ e, upd_other _ _ e, upd_other _ _ e, upd_other _ _ e]
    exact ⟨(ha i hi).1, (ha i hi).2.mono hU1 hR hW⟩
theorem wt_none {r : LS} (hw : wtT r.op r.line r.a = none) : ¬ (r.op = 1 ∧ r.line = 1) ∧ ¬ (r.op = 3 ∧ r.line = 1) := by
  unfold wtT at hw
  refine ⟨fun e => ?_, fun e => ?_⟩
  · rw [if_pos e] at hw; cases hw
  · rw [if_neg (by omega), if_pos e] at hw; cases hw
theorem wt_some {r : LS} {c : Int} {q : Int → Bool} (hw : wtT r.op r.line r.a = some (c, q)) : (r.op = 1 ∧ r.line = 1 ∧ c = 1 ∧ q = fun v => v == r.a) ∨ (r.op = 3 ∧ r.line = 1 ∧ c = 2 ∧ q = fun v => v == r.a) := by
  unfold wtT at hw
  by_cases e1 : r.op = 1 ∧ r.line = 1
  · rw [if_pos e1] at hw
    obtain ⟨rfl, rfl⟩ := Prod.mk.inj (Option.some.inj hw)
    exact .inl ⟨e1.1, e1.2, rfl, rfl⟩
  · rw [if_neg e1] at hw
    by_cases e2 : r.op = 3 ∧ r.line = 1
    · rw [if_pos e2] at hw
      obtain ⟨rfl, rfl⟩ := Prod.mk.inj (Option.some.inj hw)
      exact .inr ⟨e2.1, e2.2, rfl, rfl⟩
    · rw [if_neg e2] at hw; cases hw
theorem TfInv.go (hk : 1 ≤ k ∧ k ≤ 64) (h : TfInv b k mode p m) (hp : p < 20000) (ht : t < k) (hop : (m.rs t).op ≠ 0) (hst : (m.at t).stuck = false) : TfInv b k mode (p + 1) (m.go LS.tf t) := by
  obtain ⟨s, hI, hU, w0, w1, w2, ha⟩ := h.ex
  have g := h.gen
  obtain ⟨hr, hT⟩ := ha t ht
  obtain ⟨c1, c2, c3⟩ := g.cst t ht
  rw [go_eq hst]
  cases hon : (m.rs t).k.on
  · have A := ahead_mk hk.2 g hI (by omega) w0 w1 w2 ht hr hT hon
    have hR : (m.at t).next LS.tf = LS.tf (m.at t).fresh := by
      unfold LS.next
      rw [if_neg (by show ¬ (m.rs t).k.on = true; rw [hon]; exact Bool.false_ne_true)]
    rw [hR]
    cases hw : wtT (m.rs t).op (m.rs t).line (m.rs t).a with
    | none =>
      have hn := wt_none hw
      have hs0 : (m.rs t).s = 0 := by
        by_cases e : (m.rs t).s = 0
        · exact e
        · obtain ⟨⟨c, q, e2⟩, _⟩ := g.sw t ht e
          rw [hw] at e2; cases e2
      refine inv_step (hv := 0) (by omega) g ht hI hU ha (step_plain lines_tf hk.2 hk.1 g ht hop hon hw (fun i hi hne c q hwi hsi hq => ?_)) (moved_plain A hs0 hop hn)
      have hm2 : mode = 2 := by
        by_cases e : mode = 2
        · exact e
        · have := g.sp i hi e; omega
      obtain ⟨k1, k2⟩ := plain_wakes A hop hn
      have hmode : (m.at t).fresh.mode = 2 := c2.trans hm2
      rw [hmode] at k1 k2
      rcases wt_some hwi with ⟨_, _, rfl, rfl⟩ | ⟨o3, l1, rfl, rfl⟩
      · rcases k1 with e | e
        · left; rw [e] at hq; exact hq
        · exact .inr e
      · rcases k2 with e | e | ⟨hup, e⟩
        · left; rw [e] at hq; exact hq
        · exact .inr e
        · exfalso
          obtain ⟨hri, hTi⟩ := ha i hi
          have htk := hTi.tick (.inr o3) l1
          have hro : s.role i = .waits := by rw [hri]; unfold roleOf; simp [o3, l1, hsi]
          have hlt := hI.lo i hi (by rw [hro]; rfl)
          have hgt := hI.gate t ht (by rw [hup]; rfl)
          have hu := hI.up t ht hup
          have hq' : wordAt (LS.tf (m.at t).fresh).xs 2 = (m.rs i).a := by simpa using hq
          rw [e, htk] at hq'
          have e5 := wd_inj hq' (by omega) (by omega)
          exact hne (hI.ne i t hi ht (by rw [hro]; rfl) (by rw [hup]; rfl) (by omega))
    | some cq =>
      obtain ⟨c, q⟩ := cq
      exact inv_step (hv := 0) (by omega) g ht hI hU ha (step_wait lines_tf hk.2 g ht hop hon hst hw) (moved_wait (h := 0) hk.2 g A hst hw)
  · have hR : (m.at t).next LS.tf = (m.at t).waking := by
      unfold LS.next
      rw [if_pos (by show (m.rs t).k.on = true; exact hon)]
    rw [hR]
    obtain ⟨k0, k1⟩ := g.kon t ht hon
    have hown : ∀ d, 0 ≤ d → d < 8 → wordAt (m.at t).waking.xs d = wordAt m.xs d := fun d h0 h1 => by
      obtain ⟨i0, hi0⟩ := Int.eq_ofNat_of_zero_le k0
      show wordAt (wakeI m.xs (m.rs t).n _ _ (m.rs t).k.i _).xs d = _
      rw [c1, hi0]
      exact own_wake (by rw [pc_at hk.2 (by omega)]; omega)
    exact inv_step (hv := 0) (by omega) g ht hI hU ha (step_waking lines_tf hk.2 g ht hop hon) (moved_waking hr hT ((hown 0 (by decide) (by decide)).trans w0) ((hown 1 (by decide) (by decide)).trans w1) ((hown 2 (by decide) (by decide)).trans w2) hon rfl rfl rfl rfl rfl)
theorem may_cases {op h : Int} (hm : mayI op h = true) (hh : h = 0 ∨ h = 1 ∨ h = 2) : (h = 0 ∧ (op = 1 ∨ op = 3 ∨ op = 5 ∨ op = 6)) ∨ (h = 1 ∧ (op = 2 ∨ op = 7)) ∨ (h = 2 ∧ (op = 4 ∨ op = 8)) := by
  rcases hh with rfl | rfl | rfl
  · left; simp only [mayI, if_true, Bool.or_eq_true, beq_iff_eq] at hm; exact ⟨rfl, by omega⟩
  · right; left; rw [show mayI op 1 = (op == 2 || op == 7) from rfl] at hm; simp only [Bool.or_eq_true, beq_iff_eq] at hm; exact ⟨rfl, hm⟩
  · right; right; rw [show mayI op 2 = (op == 4 || op == 8) from rfl] at hm; simp only [Bool.or_eq_true, beq_iff_eq] at hm; exact ⟨rfl, hm⟩
theorem TfInv.start (h : TfInv b k mode p m) (ht : t < k) (h0 : (m.rs t).op = 0) {op : Int} (hm : mayI op (m.hold t) = true) : TfInv b k mode p (m.start t op) := by
  obtain ⟨s, hI, hU, w0, w1, w2, ha⟩ := h.ex
  refine ⟨h.gen.start lines_tf ht h0 op, s, hI, hU, w0, w1, w2, fun i hi => ?_⟩
  show s.role i = roleOf (upd m.hold t (fromI op (m.hold t)) i) (upd m.rs t (zeroF (m.at t) op) i) ∧ TaskT b s.U s.R s.W (s.tk i) (upd m.hold t (fromI op (m.hold t)) i) (upd m.rs t (zeroF (m.at t) op) i)
  by_cases e : i = t
  · subst e
    rw [upd_same, upd_same]
    obtain ⟨hr, hT⟩ := ha i hi
    have hc := may_cases hm (line_hold hT.line)
    have hr' : s.role i = if m.hold i = 1 then .reads else if m.hold i = 2 then .writes else .out := by rw [hr]; unfold roleOf; rw [if_pos h0]
    have hrest : ∀ h', lineOK h' (zeroF (m.at i) op) → TaskT b s.U s.R s.W (s.tk i) h' (zeroF (m.at i) op) := fun h' hl =>
      ⟨hl, fun e => (by cases e), fun _ e => (by cases e), fun _ e => (by rcases e with e | e <;> cases e)⟩
    rcases hc with ⟨hh, ho⟩ | ⟨hh, ho⟩ | ⟨hh, ho⟩
    · rw [hh] at hr' ⊢
      rcases ho with rfl | rfl | rfl | rfl <;> exact ⟨hr', hrest _ (by unfold lineOK; simp [fromI, zeroF])⟩
    · rw [hh] at hr' ⊢
      rcases ho with rfl | rfl <;> exact ⟨hr', hrest _ (by unfold lineOK; simp [fromI, zeroF])⟩
    · rw [hh] at hr' ⊢
      rcases ho with rfl | rfl <;> exact ⟨hr', hrest _ (by unfold lineOK; simp [fromI, zeroF])⟩
  · rw [upd_other _ _ e, upd_other _ _ e]; exact ha i hi
theorem tf_rest (hk : 1 ≤ k ∧ k ≤ 64) (h : TfInv b k mode p m) (hb : ∀ t, t < k → Blk wtT k mode m t) : ∀ t, t < k → (m.rs t).op = 0 ∧ m.hold t = 0 := by
  obtain ⟨s, hI, hU, w0, w1, w2, ha⟩ := h.ex
  have g := h.gen
  have hoff : ∀ j, j < k → (m.rs j).k.on = false := fun j hj => by
    rcases hb j hj with ⟨e, _⟩ | ⟨_, e, _⟩
    · exact g.idle j hj e
    · exact e
  -- nobody's word has come
  have hno : ∀ i, i < k → (m.rs i).op ≠ 0 → s.role i = .waits ∧ ∃ c q, wtT (m.rs i).op (m.rs i).line (m.rs i).a = some (c, q) ∧ q (wordAt m.xs c) = false := fun i hi h0 => by
    rcases hb i hi with ⟨e, _⟩ | ⟨_, hon, c, q, hw, hq⟩
    · exact absurd e h0
    · have hs4 : (m.rs i).s ≠ 4 := by
        rcases hq with ⟨e, _⟩ | ⟨_, e, _⟩
        · have := g.sp i hi e; omega
        · omega
      refine ⟨?_, c, q, hw, ?_⟩
      · rw [(ha i hi).1]; unfold roleOf
        rcases wt_some hw with ⟨e1, e2, _⟩ | ⟨e1, e2, _⟩ <;> simp [e1, e2, hs4]
      · rcases hq with ⟨_, e⟩ | ⟨_, e, e2⟩
        · exact e
        · cases hqq : q (wordAt m.xs c)
          · rfl
          · obtain ⟨j, hj, hjon, _⟩ := g.nl i hi c q hw e e2 hqq
            rw [hoff j hj] at hjon; cases hjon
  have hall : ∀ i, i < k → s.role i = .out ∨ s.role i = .waits := fun i hi => by
    by_cases h0 : (m.rs i).op = 0
    · left
      rcases hb i hi with ⟨_, e⟩ | ⟨e, _⟩
      · rw [(ha i hi).1]; unfold roleOf; rw [if_pos h0, e]; rfl
      · exact absurd h0 e
    · exact .inr (hno i hi h0).1
  intro t ht
  by_cases h0 : (m.rs t).op = 0
  · rcases hb t ht with e | ⟨e, _⟩
    · exact e
    · exact absurd h0 e
  · exfalso
    obtain ⟨hRW, i, hi, hwi, htk⟩ := hI.turn hall ⟨t, ht, (hno t ht h0).1⟩
    have hi0 : (m.rs i).op ≠ 0 := fun e => by
      rcases hb i hi with ⟨_, e2⟩ | ⟨e2, _⟩
      · rw [(ha i hi).1] at hwi; unfold roleOf at hwi; rw [if_pos e, e2] at hwi; cases hwi
      · exact e2 e
    obtain ⟨_, c, q, hw, hq⟩ := hno i hi hi0
    rcases wt_some hw with ⟨e1, e2, rfl, rfl⟩ | ⟨e1, e2, rfl, rfl⟩
    · have ha' := (ha i hi).2.tick (.inl e1) e2
      have hq' : (wordAt m.xs 1 == (m.rs i).a) = false := hq
      rw [w1, ha', htk] at hq'
      simp at hq'
    · have ha' := (ha i hi).2.tick (.inr e1) e2
      have hq' : (wordAt m.xs 2 == (m.rs i).a) = false := hq
      rw [w2, ha', htk, hRW] at hq'
      simp at hq'
theorem tf_ok (hk : 1 ≤ k ∧ k ≤ 64) (b mode : Int) : LockOK LS.tf wtT (worthT k) k mode 20000 (TfInv b k mode) := by
  refine ⟨hk, lines_tf, worth_tf k, fun p m h => h.gen, fun p m h i hi => ?_, fun p m t op h ht h0 hm => h.start ht h0 hm, fun p m t h hp ht h0 hs => h.go hk hp ht h0 hs, fun p m h => ?_, fun p m t h ht h0 hh => ?_, fun p m t h ht h0 c q hon hw hd => ?_, fun p m t h hp ht h0 hon hw => ?_, fun p m h hb => tf_rest hk h hb⟩
  · obtain ⟨s, _, _, _, _, _, ha⟩ := h.ex
    exact line_hold (ha i hi).2.line
  · obtain ⟨s, h1, h2, h4⟩ := h.ex
    exact ⟨h.gen, s, h1, by omega, h4⟩
  · have e0 : worthT k (ownW m.xs) (m.hold t) (m.rs t) = idleT k (m.hold t) := by unfold worthT; rw [if_pos h0]
    rw [e0]
    rcases hh with e | e <;> rw [e]
    · rw [w_2 (r' := zeroF (m.at t) (2 * 1)) rfl rfl]; exact Nat.le_refl _
    · rw [w_4 (r' := zeroF (m.at t) (2 * 2)) rfl rfl]; exact Nat.le_refl _
  · obtain ⟨s, hI, hU, w0, w1, w2, ha⟩ := h.ex
    have g := h.gen
    obtain ⟨c1, c2, c3⟩ := g.cst t ht
    have hret : (m.rs t).ret = 0 := g.rt t ht hon
    have hSR : (m.at t).fresh.stepR c q = stepI m.xs k mode t (m.rs t).s c q := by
      show stepI m.xs (m.rs t).n (m.rs t).mode (m.rs t).task (m.rs t).s c q = _
      rw [c1, c2, c3]
    rcases wt_some hw with ⟨e1, e2, rfl, rfl⟩ | ⟨e1, e2, rfl, rfl⟩
    · have hR : LS.tf (m.at t).fresh = ((m.at t).fresh.wait 1 (m.at t).fresh.mine).go 2 := by
        rw [tf_1_1 (r := (m.at t).fresh) e1 e2]; unfold LS.awaitR
        rw [if_pos (show ((m.at t).fresh.stepR 1 (m.at t).fresh.mine).done = true from (congrArg StepR.done hSR).trans hd)]
      rw [hR]
      obtain ⟨f1, f2⟩ := fin_no (R := ((m.at t).fresh.wait 1 (m.at t).fresh.mine).go 2) (m.hold t) hret
      rw [f1, f2, w_1 (r' := ((m.at t).fresh.wait 1 (m.at t).fresh.mine).go 2) e1 hret, w_1 e1 hret, e2, show (((m.at t).fresh.wait 1 (m.at t).fresh.mine).go 2).line = 2 from rfl, if_neg (by decide), if_neg (by decide), if_neg (by decide), if_pos rfl]
      omega
    · have hR : (LS.tf (m.at t).fresh).ret = 2 ∧ (LS.tf (m.at t).fresh).k = (m.rs t).k ∧ (LS.tf (m.at t).fresh).op = (m.rs t).op := by
        refine ⟨?_, (lines_tf.wait (m.at t).fresh _ _ hon hw).k, (lines_tf.same (m.at t).fresh).2.2.2.1⟩
        rw [tf_3_1 (r := (m.at t).fresh) e1 e2]; unfold LS.awaitW
        rw [if_pos (show ((m.at t).fresh.stepR 2 (m.at t).fresh.mine).done = true from (congrArg StepR.done hSR).trans hd)]; rfl
      obtain ⟨f1, f2⟩ := fin_yes (R := LS.tf (m.at t).fresh) (m.hold t) (by rw [hR.1]; decide) (by rw [hR.2.1]; exact hon)
      rw [f1, f2, hR.1, hR.2.2, e1, w_idle, w_3 e1 hret, e2, if_neg (by decide), show behindI 3 2 (m.hold t) = 2 from rfl]
      have : idleT k 2 = 10 * k + 2 := rfl
      omega
  · obtain ⟨s, hI, hU, w0, w1, w2, ha⟩ := h.ex
    obtain ⟨hr, hT⟩ := ha t ht
    have A := ahead_mk hk.2 h.gen hI (by omega) w0 w1 w2 ht hr hT hon
    obtain ⟨e, h1, h2⟩ := worth_plain (k := k) A h0 (wt_none hw)
    exact ⟨e, fun i _ _ => h1 (m.hold i) (m.rs i), h2⟩
theorem tf_first {b : Int} (hk : 1 ≤ k ∧ k ≤ 64) (hb : 0 ≤ b ∧ b < 4294967296) (mode : Int) {xs : List Int} (hx : xs = clean [b, b, b, 0, 0, 0, 0, 0] k) : TfInv b k mode 0 ⟨fun i => newR k mode i 0 xs, fun _ => 0, xs⟩ := by
  have hl : xs.length = 8 + 4 * k := by rw [hx]; exact clean_len rfl
  have hz : ∀ i, i < k → wordAt xs (wc k i) = 0 := fun i hi => by rw [hx]; exact (wc_clean rfl hk hi).2
  have wb : wd b 0 = b := by unfold wd; omega
  have hro : ∀ i, roleOf 0 (newR k mode i 0 xs) = .out := fun i => rfl
  refine ⟨⟨hl, fun i hi => ⟨rfl, rfl, rfl⟩, fun i hi => .inl rfl, fun i hi _ => rfl, fun i hi e => absurd rfl e, fun i hi => ⟨fun _ => hz i hi, fun e => (by rcases e with e | e | e <;> cases e)⟩, fun i hi e => (by cases e), fun i hi _ => rfl, fun i hi _ => rfl, fun i hi c q hw hs => (by cases hs)⟩, ⟨fun _ => .out, fun _ => 0, 0, 0, 0⟩, ?_, Nat.le_refl _, ?_, ?_, ?_, fun i hi => ⟨(hro i).symm, ?_⟩⟩
  · refine ⟨?_, ?_, fun i hi e => (by cases e), fun i j hi hj e => (by cases e), fun i hi e => (by cases e), fun i hi e => (by cases e), fun i hi e => (by cases e)⟩
    · show 0 + sumN (fun _ => 0) k = 0
      rw [sumN_zero (fun _ _ => rfl)]
    · show 0 + sumN (fun _ => 0) k = 0
      rw [sumN_zero (fun _ _ => rfl)]
  · show wordAt xs 0 = wd b 0
    rw [wb, hx]; exact clean_own (i := 0) rfl (by decide)
  · show wordAt xs 1 = wd b 0
    rw [wb, hx]; exact clean_own (i := 1) rfl (by decide)
  · show wordAt xs 2 = wd b 0
    rw [wb, hx]; exact clean_own (i := 2) rfl (by decide)
  · exact ⟨.inl ⟨rfl, .inl rfl⟩, fun e => (by cases e), fun e => (by rcases e with e | e <;> cases e), fun e => (by rcases e with e | e | e <;> cases e)⟩
theorem tf_bound (h : TfInv b k mode p m) : FI (worthT k) k m ≤ k * (18 * k + 20) := by
  have g := h.gen
  have h1 : sumN (share (worthT k) k m) k ≤ sumN (fun _ => 18 * k + 17) k := sumN_le fun i hi => by
    unfold share
    have a1 : swp k (m.rs i).k ≤ 5 * k := by
      unfold swp
      by_cases e : (m.rs i).k.on = true
      · rw [if_pos e]
        have : 5 * (k - (m.rs i).k.i.toNat) ≤ 5 * k := by omega
        by_cases e2 : (m.rs i).k.hit = true
        · rw [if_pos e2]; omega
        · rw [if_neg e2]; omega
      · rw [if_neg e]; omega
    have a2 : stp (m.rs i).s ≤ 4 := by
      rcases g.sr i hi with e | e | e | e | e <;> rw [e] <;> decide
    have a3 : worthT k (ownW m.xs) (m.hold i) (m.rs i) ≤ 13 * k + 10 := by
      have i1 := idle_le k (m.hold i)
      have i2 := idle_le k (behindI (m.rs i).op (m.rs i).ret (m.hold i))
      have ite_le : ∀ {p : Prop} [Decidable p] {x y : Nat}, x ≤ 13 * k + 10 → y ≤ 13 * k + 10 → (if p then x else y) ≤ 13 * k + 10 := fun {p} _ {x y} hx hy => by
        by_cases e : p
        · rw [if_pos e]; exact hx
        · rw [if_neg e]; exact hy
      unfold worthT
      refine ite_le (by omega) (ite_le (by omega) (ite_le (ite_le (by omega) (ite_le (by omega) (by omega))) (ite_le (by omega) (ite_le (ite_le (by omega) (by omega)) (ite_le (ite_le (by omega) (by omega)) (ite_le (by omega) (ite_le (by omega) (ite_le (by omega) (ite_le (ite_le (by omega) (by omega)) (ite_le (by omega) (by omega)))))))))))
    omega
  have h2 : perms k m ≤ sumN (fun _ => 1) k := sumN_le fun i _ => by split <;> omega
  rw [sumN_const] at h1 h2
  unfold FI
  have e1 : k * (18 * k + 20) = k * (18 * k + 17) + k * 3 := by rw [← Nat.mul_add]
  omega
theorem tf_alone (h : TfInv b k mode p m) (ht : t < k) (h2 : m.hold t = 2) (i : Nat) (hi : i < k) (hn : i ≠ t) : m.hold i = 0 := by
  obtain ⟨s, hI, _, _, _, _, ha⟩ := h.ex
  exact holds_alone hI (fun i hi => (ha i hi).1) (fun i hi => (ha i hi).2.line) ht h2 i hi hn
end
end Go.Proofs.Ytgfippbcgneegaa
set_option linter.unusedVariables false
set_option linter.unusedSimpArgs false
namespace Go.Proofs.Ytgfippbcgneegaa
theorem many_not {m : MV} {what : Int} : ∀ {n : Nat}, (∀ i, i < n → m.hold i ≠ what) → manyI m what n = 0
  | 0, _ => rfl
  | n + 1, h => by
    unfold manyI
    rw [if_neg (h n (by omega)), many_not (n := n) fun i hi => h i (by omega)]
theorem many_only {m : MV} {what : Int} {t : Nat} : ∀ {n : Nat}, m.hold t = what → (∀ i, i < n → i ≠ t → m.hold i ≠ what) → manyI m what n = if t < n then 1 else 0
  | 0, _, _ => rfl
  | n + 1, h, ho => by
    have ih := many_only (n := n) h fun i hi hn => ho i (by omega) hn
    unfold manyI
    rw [ih]
    by_cases e : n = t
    · subst e
      rw [if_pos h, if_neg (Nat.lt_irrefl _), if_pos (Nat.lt_succ_self _)]
    · rw [if_neg (ho n (by omega) e)]
      by_cases e2 : t < n
      · rw [if_pos e2, if_pos (by omega)]
      · rw [if_neg e2, if_neg (by omega)]
theorem excl_many {m : MV} {k : Nat} (h : ∀ t, t < k → m.hold t = 2 → ∀ i, i < k → i ≠ t → m.hold i = 0) : manyI m 2 k = 0 ∨ (manyI m 2 k = 1 ∧ manyI m 1 k = 0) := by
  by_cases e : ∃ t, t < k ∧ m.hold t = 2
  · obtain ⟨t, ht, h2⟩ := e
    right
    refine ⟨?_, many_not fun i hi => ?_⟩
    · rw [many_only h2 (fun i hi hn => by rw [h t ht h2 i hi hn]; decide), if_pos ht]
    · by_cases e : i = t
      · subst e; rw [h2]; decide
      · rw [h t ht h2 i hi e]; decide
  · left
    exact many_not fun i hi e2 => e ⟨i, hi, e2⟩
end Go.Proofs.Ytgfippbcgneegaa
namespace Go.Proofs.Ytgfippbcgneegaa
open Go.RowKit Go.ChangeShapes Go.WideShapes Go.Deep
section
variable {H : Type} {enc : TypeId × Value → H} {P : Program} {w : World} {base : Nat} {spare : Nat → Bool} {held : Bool}
theorem open_tab {t e : TypeId} {fs : Array Field} {fuel len cap : Nat} {A : Option Addr} {x : DataW H × List MemPlace} (ht : P.underlying t = some (.slice e)) (he : P.underlying e = some (.struct fs))
    (hone : oneCellFields P fs = true) (hC : P.cellsOf e = fs.size) (h0 : 0 < fs.size) (h : DataW.trod enc P w base spare held fuel t [.slice A len cap] = some x) :
    ∀ i, i < len → ∃ b o, A = some ⟨b, o, none⟩ ∧ b < w.heap.size ∧ ∀ j f, fs[j]? = some f → ∃ v n y, w.cell? ⟨b, o + (i * fs.size + j), none⟩ = some v ∧ DataW.trod enc P w base spare held n f.type [v] = some y := by
  intro i hi
  rcases open_slice ht h with ⟨hcs, _⟩ | ⟨a, len', cap', m, n, D, Pl, hcs, _, hl, _, hmm, _, hrow⟩
  · simp only [List.cons.injEq, Value.slice.injEq] at hcs
    omega
  · simp only [List.cons.injEq, Value.slice.injEq, and_true] at hcs
    obtain ⟨rfl, rfl, rfl⟩ := hcs
    have him : i < m := by rw [hmm]; split <;> omega
    obtain ⟨cs, hc, hy⟩ := hrow i him
    rw [hC] at hc
    obtain ⟨_, hlen, hat⟩ := World.cells?_some hc
    obtain ⟨ys, k, _, _, _, hyl, hf⟩ := DataW.trod_struct he hy
    have hcell : ∀ j, j < fs.size → ∃ v, cs[j]? = some v ∧ w.cell? (a.add (i * fs.size + j)) = some v := by
      intro j hj
      have hv : cs[j]? = some (cs[j]'(by omega)) := List.getElem?_eq_getElem (by omega)
      exact ⟨_, hv, by rw [← Go.Deep.add_add, hat j hj, hv]⟩
    obtain ⟨b, o, spot⟩ := a
    have hspot : spot = none := by
      obtain ⟨cs0, hc0, _⟩ := hrow 0 (by omega)
      rw [hC] at hc0
      obtain ⟨_, hlen0, hat0⟩ := World.cells?_some hc0
      have e := hat0 0 h0
      have hv : cs0[0]? = some (cs0[0]'(by omega)) := List.getElem?_eq_getElem (by omega)
      rw [hv] at e
      simpa [Addr.add] using World.cell?_spot e
    subst hspot
    refine ⟨b, o, rfl, ?_, fun j f hj => ?_⟩
    · obtain ⟨v, _, hv⟩ := hcell 0 h0
      have := World.block_lt_of_cell? w _ hv
      rwa [add_block] at this
    · have hjl : j < fs.size := (Array.getElem?_eq_some_iff.1 hj).1
      obtain ⟨ho, hk⟩ := hone_of hone j f hj
      obtain ⟨v, hv, hcv⟩ := hcell j hjl
      have h1 := hf j f hj
      rw [ho, hk, List.drop_eq_getElem_cons (by omega)] at h1
      have hys : ys[j]? = some (ys[j]'(by omega)) := List.getElem?_eq_getElem (by omega)
      rw [List.getElem?_eq_getElem (by omega)] at hv
      injection hv with hv
      rw [hv] at h1
      refine ⟨v, k, _, by rw [← add_at]; exact hcv, h1.trans hys⟩
end
end Go.Proofs.Ytgfippbcgneegaa
set_option linter.unusedVariables false
set_option linter.unusedSimpArgs false
namespace Go.Proofs.Ytgfippbcgneegaa
open Go.RowKit
def IsTurns (w : World) (A : Option Addr) (len : Nat) : Prop := ∀ i, i < len → ∃ b q a c, A = some ⟨b, q, none⟩ ∧ b < w.heap.size ∧
  w.cell? ⟨b, q + i * 2, none⟩ = some (.int .u8 a) ∧ w.cell? ⟨b, q + i * 2 + 1, none⟩ = some (.int .u8 c) ∧ (0 ≤ a ∧ a < 256) ∧ (0 ≤ c ∧ c < 256)
theorem isTurns_of {H : Type} {enc : TypeId × Value → H} {w : World} {base : Nat} {spare : Nat → Bool} {held : Bool} {fuel len cap : Nat} {A : Option Addr} {x : DataW H × List MemPlace}
    (h : DataW.trod enc Try.prog w base spare held fuel 65 [.slice A len cap] = some x) : IsTurns w A len := by
  intro i hi
  obtain ⟨b, o, hA, hb, hf⟩ := open_tab Try.underlying65 Try.underlying68 (by kernel_rfl) (by kernel_rfl) (by decide) h i hi
  obtain ⟨v0, n0, y0, c0, t0⟩ := hf 0 _ rfl
  obtain ⟨v1, n1, y1, c1, t1⟩ := hf 1 _ rfl
  obtain ⟨z0, e0, _, wz0⟩ := DataW.trod_int Try.underlying5 t0
  obtain ⟨z1, e1, _, wz⟩ := DataW.trod_int Try.underlying5 t1
  simp only [List.cons.injEq, and_true] at e0 e1
  subst e0 e1
  exact ⟨b, o, z0, z1, hA, hb, c0, c1, wf_u8 wz0, wf_u8 wz⟩
end Go.Proofs.Ytgfippbcgneegaa
