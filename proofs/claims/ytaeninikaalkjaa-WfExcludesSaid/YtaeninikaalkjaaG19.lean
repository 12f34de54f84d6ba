import Derived.Deep.Slices
import Derived.Deep.Fields
import Derived.ChangeSame
import Derived.Test.YtaeninikaalkjaaChecked
import Derived.Test.YtaeninikaalkjaaG14
import Derived.Test.YtaeninikaalkjaaG18
import Derived.Test.YtaeninikaalkjaaG9
import Derived.Test.YtaeninikaalkjaaG2
import Derived.Test.YtaeninikaalkjaaG1
set_option linter.unusedVariables false
set_option linter.unusedSimpArgs false
namespace Go.Proofs.Ytaeninikaalkjaa
def pickI (L : LS → LS) (m : MV) (t : Nat) : MV := playI L m t (2 * m.hold t)
def roundN (L : LS → LS) (m : MV) : Nat → MV
  | 0 => m
  | j + 1 => pickI L (roundN L m j) j
def AtRest (k : Nat) (m : MV) : Prop := ∀ t, t < k → (m.rs t).op = 0 ∧ m.hold t = 0
section
variable {L : LS → LS} {k : Nat} {m : MV} {t : Nat}
theorem done_pick (hd : AtRest k m) (ht : t < k) : pickI L m t = m := by
  obtain ⟨h1, h2⟩ := hd t ht
  unfold pickI playI
  rw [if_pos (show (m.at t).op = 0 from h1), h2]
  rfl
theorem done_round (hd : AtRest k m) : ∀ j, j ≤ k → roundN L m j = m
  | 0, _ => rfl
  | j + 1, h => by
    show pickI L (roundN L m j) j = m
    rw [done_round hd j (by omega)]
    exact done_pick hd (by omega)
end
end Go.Proofs.Ytaeninikaalkjaa
set_option linter.unusedVariables false
set_option linter.unusedSimpArgs false
namespace Go.Proofs.Ytaeninikaalkjaa
structure LockQ (L : LS → LS) (wt : WtG) (V : VG) (k : Nat) (mode : Int) (B : Nat) (Inv : Nat → MV → Prop) : Prop where
  k64 : 1 ≤ k ∧ k ≤ 64
  lines : LinesQ L wt
  worth : WorthQ V
  gen : ∀ p m, Inv p m → GenQ wt k mode m
  holds : ∀ p m, Inv p m → ∀ i, i < k → m.hold i = 0 ∨ m.hold i = 1 ∨ m.hold i = 2
  start : ∀ p m t op, Inv p m → t < k → (m.rs t).op = 0 → mayI op (m.hold t) = true → Inv p (m.start t op)
  go : ∀ p m t, Inv p m → p < B → t < k → (m.rs t).op ≠ 0 → (m.at t).stuck = false → Inv (p + 1) (m.go L t)
  up : ∀ p m, Inv p m → Inv (p + 1) m
  worthS : ∀ p m t, Inv p m → t < k → (m.rs t).op = 0 → (m.hold t = 1 ∨ m.hold t = 2) → V (ownW m.xs) (fromI (2 * m.hold t) (m.hold t)) (zeroF (m.at t) (2 * m.hold t)) ≤ V (ownW m.xs) (m.hold t) (m.rs t)
  worthD : ∀ p m t, Inv p m → t < k → (m.rs t).op ≠ 0 → ∀ c q, (m.rs t).k.on = false → wtR wt (m.rs t) = some (c, q) → (stepI m.xs k mode t (m.rs t).s c q).done = true → V (ownW m.xs) ((L (m.at t).fresh).finH (m.hold t)) (L (m.at t).fresh).finR + 4 ≤ V (ownW m.xs) (m.hold t) (m.rs t)
  worthN : ∀ p m t, Inv p m → t < k → (m.rs t).op ≠ 0 → ∀ c q, (m.rs t).k.on = false → wtR wt (m.rs t) = some (c, q) → (stepI m.xs k mode t (m.rs t).s c q).done = false → V (ownW m.xs) (m.hold t) (L (m.at t).fresh) ≤ V (ownW m.xs) (m.hold t) (m.rs t)
  plain : ∀ p m t, Inv p m → p < B → t < k → (m.rs t).op ≠ 0 → (m.rs t).k.on = false → wtR wt (m.rs t) = none → PlainLn (m.at t).fresh (L (m.at t).fresh)
  worthP : ∀ p m t, Inv p m → p < B → t < k → (m.rs t).op ≠ 0 → (m.rs t).k.on = false → wtR wt (m.rs t) = none → ∃ e, (∀ i, i < k → i ≠ t → V (ownW (L (m.at t).fresh).xs) (m.hold i) (m.rs i) ≤ V (ownW m.xs) (m.hold i) (m.rs i) + e) ∧ swp k (L (m.at t).fresh).finR.k + V (ownW (L (m.at t).fresh).xs) ((L (m.at t).fresh).finH (m.hold t)) (L (m.at t).fresh).finR + k * e < V (ownW m.xs) (m.hold t) (m.rs t)
  rest : ∀ p m, Inv p m → (∀ t, t < k → BlkQ wt k mode m t) → ∀ t, t < k → (m.rs t).op = 0 ∧ m.hold t = 0
structure SimQ (m m' : MV) : Prop where
  xs : m'.xs = m.xs
  hold : m'.hold = m.hold
  rs : ∀ i, Alk (m.rs i) (m'.rs i) ∧ (m'.rs i).s = (m.rs i).s ∧ (m'.rs i).k = (m.rs i).k
theorem alk_refl (r : LS) : Alk r r := ⟨rfl, rfl, rfl, rfl, rfl, rfl, rfl⟩
theorem simQ_refl (m : MV) : SimQ m m := ⟨rfl, rfl, fun i => ⟨alk_refl _, rfl, rfl⟩⟩
theorem Alk.trans {r r' r'' : LS} (h : Alk r r') (g : Alk r' r'') : Alk r r'' := ⟨g.n.trans h.n, g.task.trans h.task, g.op.trans h.op, g.line.trans h.line, g.ret.trans h.ret, g.a.trans h.a, g.b.trans h.b⟩
theorem SimQ.trans {m m' m'' : MV} (h : SimQ m m') (g : SimQ m' m'') : SimQ m m'' :=
  ⟨g.xs.trans h.xs, g.hold.trans h.hold, fun i => ⟨(h.rs i).1.trans (g.rs i).1, (g.rs i).2.1.trans (h.rs i).2.1, (g.rs i).2.2.trans (h.rs i).2.2⟩⟩
section
variable {L : LS → LS} {wt : WtG} {V : VG} {k : Nat} {mode : Int} {B : Nat} {Inv : Nat → MV → Prop} {m m' : MV} {p t : Nat}
theorem SimQ.pot (hV : WorthQ V) (h : SimQ m m') : FQ V k m' = FQ V k m := by
  unfold FQ perms
  rw [h.xs]
  congr 1
  refine sumN_congr fun i _ => ?_
  obtain ⟨a1, a5, a6⟩ := h.rs i
  unfold shareQ
  rw [a5, a6, h.hold, h.xs, hV.like _ _ _ _ a1 a5]
theorem SimQ.blk (h : SimQ m m') (hb : BlkQ wt k mode m' t) : BlkQ wt k mode m t := by
  obtain ⟨a1, a5, a6⟩ := h.rs t
  unfold BlkQ at *
  rw [a1.wt, a1.op, a5, a6, h.hold, h.xs] at hb
  exact hb
theorem LockQ.play (H : LockQ L wt V k mode B Inv) (h : Inv p m) (hp : p < B) (ht : t < k) (op : Int) : Inv (p + 1) (playI L m t op) := by
  have go : ∀ m', Inv p m' → (m'.rs t).op ≠ 0 → Inv (p + 1) (m'.go L t) := fun m' h' h0 => by
    cases hs : (m'.at t).stuck
    · exact H.go p m' t h' hp ht h0 hs
    · rw [show m'.go L t = m' by unfold MV.go; rw [if_pos hs]]
      exact H.up p m' h'
  unfold playI
  split
  · rename_i h0
    split
    · rename_i hmay
      refine go _ (H.start p m t op h ht h0 hmay) ?_
      show (upd m.rs t (zeroF (m.at t) op) t).op ≠ 0
      rw [upd_same]
      show op ≠ 0
      rintro rfl
      unfold mayI at hmay
      split at hmay
      · revert hmay; decide
      · split at hmay <;> (revert hmay; decide)
    · exact H.up p m h
  · rename_i h0
    exact go m h h0
theorem LockQ.pick_less (H : LockQ L wt V k mode B Inv) (h : Inv p m) (hp : p < B) (ht : t < k) (hb : ¬ BlkQ wt k mode m t) : FQ V k (pickI L m t) < FQ V k m := by
  unfold pickI playI
  by_cases h0 : (m.at t).op = 0
  · rw [if_pos h0]
    have h00 : (m.rs t).op = 0 := h0
    have hh : m.hold t = 1 ∨ m.hold t = 2 := by
      rcases H.holds p m h t ht with e | e
      · exact absurd (.inl ⟨h0, e⟩) hb
      · exact e
    have hmay : mayI (2 * m.hold t) (m.hold t) = true := by rcases hh with e | e <;> rw [e] <;> decide
    rw [if_pos hmay]
    have hI := H.start p m t _ h ht h0 hmay
    have hw := H.worthS p m t h ht h0 hh
    have hg := H.gen p m h
    have hrs : (m.start t (2 * m.hold t)).rs t = zeroF (m.at t) (2 * m.hold t) := by show upd m.rs t _ t = _; rw [upd_same]
    have hne : ((m.start t (2 * m.hold t)).rs t).op ≠ 0 := by
      rw [hrs]; show 2 * m.hold t ≠ 0; omega
    have hF : FQ V k (m.start t (2 * m.hold t)) ≤ FQ V k m := by
      have hs := sum_move (f := shareQ V k m) (g := shareQ V k (m.start t (2 * m.hold t))) (k := k) (t := t) (e := 0) ht (fun i hi hn => by
        unfold shareQ MV.start MV.setR MV.setH
        dsimp only
        rw [upd_other _ _ hn, upd_other _ _ hn]
        exact Nat.le_refl _)
      have h1 : shareQ V k (m.start t (2 * m.hold t)) t ≤ shareQ V k m t := by
        unfold shareQ
        rw [hrs, show (m.start t (2 * m.hold t)).hold t = fromI (2 * m.hold t) (m.hold t) by show upd m.hold t _ t = _; rw [upd_same], show (m.start t (2 * m.hold t)).xs = m.xs from rfl]
        have e1 : swp k (zeroF (m.at t) (2 * m.hold t)).k = 0 := swp_off k rfl
        have e2 : stp (zeroF (m.at t) (2 * m.hold t)).s = 4 := rfl
        have e3 : stp (m.rs t).s = 4 := by
          have : (m.rs t).s = 0 := by
            by_cases e : (m.rs t).s = 0
            · exact e
            · obtain ⟨⟨c, q, e2⟩, _⟩ := hg.sw t ht e
              rw [H.lines.op0 _ h00] at e2; cases e2
          rw [this]; rfl
        omega
      unfold FQ
      rw [show perms k (m.start t (2 * m.hold t)) = perms k m from rfl]
      omega
    refine Nat.lt_of_lt_of_le (potq_go H.lines H.worth H.k64.2 (H.gen p _ hI) ht hne ?_ (H.worthD p _ t hI ht hne) (H.worthN p _ t hI ht hne) (H.plain p _ t hI hp ht hne) (H.worthP p _ t hI hp ht hne)).2 hF
    rintro (⟨e, _⟩ | ⟨_, _, c, q, e, _⟩)
    · exact hne e
    · rw [hrs] at e
      rw [H.lines.line0 _ rfl] at e; cases e
  · rw [if_neg h0]
    have h00 : (m.rs t).op ≠ 0 := h0
    exact (potq_go H.lines H.worth H.k64.2 (H.gen p m h) ht h00 hb (H.worthD p m t h ht h00) (H.worthN p m t h ht h00) (H.plain p m t h hp ht h00) (H.worthP p m t h hp ht h00)).2
theorem LockQ.pick_blk (H : LockQ L wt V k mode B Inv) (h : Inv p m) (ht : t < k) (hb : BlkQ wt k mode m t) : SimQ m (pickI L m t) := by
  have hg := H.gen p m h
  obtain ⟨c1, c2, c3⟩ := hg.cst t ht
  unfold pickI playI
  rcases hb with ⟨h0, hh⟩ | ⟨h0, hon, c, q, hw, hb⟩
  · rw [if_pos (show (m.at t).op = 0 from h0), hh]
    exact simQ_refl m
  · rw [if_neg (show ¬ (m.at t).op = 0 from h0)]
    rcases hb with ⟨hm, hq⟩ | ⟨hm, hs, hp⟩
    · have hst : (m.at t).stuck = false := by
        unfold LS.stuck stuckB
        show (!(m.rs t).k.on && ((m.rs t).mode == 2 && (m.rs t).s == 3 && _)) = false
        rw [c2, show (mode == 2) = false from beq_eq_false_iff_ne.2 hm]
        simp
      rw [go_eq hst]
      have W := H.lines.wait (m.at t).fresh c q hon hw
      obtain ⟨s1, s2, s3, s4, s5⟩ := H.lines.same (m.at t).fresh
      have hSR : (m.at t).fresh.stepR c q = stepI m.xs k mode t (m.rs t).s c q := by
        show stepI m.xs (m.rs t).n (m.rs t).mode (m.rs t).task (m.rs t).s c q = _
        rw [c1, c2, c3]
      have hR' : (m.at t).next L = L (m.at t).fresh := by
        unfold LS.next
        rw [if_neg (by show ¬ (m.rs t).k.on = true; rw [hon]; exact Bool.false_ne_true)]
      rw [hR']
      generalize L (m.at t).fresh = R at *
      have hxs := W.xs
      have hs' := W.s
      have hstay := W.stay
      have hA := W.a
      rw [hSR, stepI_spin hm] at hxs hs' hstay hA
      obtain ⟨l1, l2, l3⟩ := hstay hq
      have hno : R.over = false := by
        have : R.ret = 0 := l2.trans (hg.rt t ht hon)
        unfold LS.over; rw [this]; rfl
      rw [show R.finR = R by unfold LS.finR; rw [hno]; rfl, show R.finH (m.hold t) = m.hold t by unfold LS.finH; rw [hno]; rfl]
      refine ⟨hxs, ?_, fun i => ?_⟩
      · funext i
        show upd m.hold t (m.hold t) i = m.hold i
        unfold upd; split
        · rename_i e; rw [e]
        · rfl
      · by_cases e : i = t
        · subst e
          dsimp only
          rw [upd_same]
          exact ⟨⟨s1, s3, s4, l1, l2, hA hq, W.b⟩, by rw [hs', hg.sp i ht hm], W.k⟩
        · dsimp only
          rw [upd_other _ _ e]
          exact ⟨alk_refl _, rfl, rfl⟩
    · have hst : (m.at t).stuck = true := by
        unfold LS.stuck stuckB
        show (!(m.rs t).k.on && ((m.rs t).mode == 2 && (m.rs t).s == 3 && !hasP m.xs (m.rs t).n (m.rs t).task)) = true
        rw [hon, c1, c2, c3, hm, hs, hp]; rfl
      rw [show m.go L t = m by unfold MV.go; rw [if_pos hst]]
      exact simQ_refl m
theorem LockQ.round (H : LockQ L wt V k mode B Inv) (h : Inv p m) (hp : p + k ≤ B) : ∀ j, j ≤ k → Inv (p + j) (roundN L m j) ∧ (FQ V k (roundN L m j) < FQ V k m ∨ (SimQ m (roundN L m j) ∧ ∀ t, t < j → BlkQ wt k mode m t)) := by
  intro j
  induction j with
  | zero => exact fun _ => ⟨h, .inr ⟨simQ_refl m, fun t ht => absurd ht (Nat.not_lt_zero _)⟩⟩
  | succ j ih =>
    intro hj
    obtain ⟨hI, hF⟩ := ih (by omega)
    refine ⟨H.play hI (by omega) (by omega) _, ?_⟩
    show FQ V k (pickI L (roundN L m j) j) < FQ V k m ∨ (SimQ m (pickI L (roundN L m j) j) ∧ _)
    by_cases hb : BlkQ wt k mode (roundN L m j) j
    · have hs := H.pick_blk hI (by omega) hb
      rcases hF with hF | ⟨hS, hB⟩
      · exact .inl (by rw [hs.pot H.worth]; exact hF)
      · refine .inr ⟨hS.trans hs, fun t ht => ?_⟩
        by_cases e : t = j
        · subst e; exact hS.blk hb
        · exact hB t (by omega)
    · have hl := H.pick_less hI (by omega) (by omega) hb
      rcases hF with hF | ⟨hS, _⟩
      · exact .inl (by omega)
      · exact .inl (by rw [hS.pot H.worth] at hl; exact hl)
theorem LockQ.whole (H : LockQ L wt V k mode B Inv) (h : Inv p m) (hp : p + k ≤ B) {F j : Nat} (hF : AtRest k m ∨ FQ V k m + j ≤ F) : Inv (p + k) (roundN L m k) ∧ (AtRest k (roundN L m k) ∨ FQ V k (roundN L m k) + (j + 1) ≤ F) := by
  obtain ⟨hI, hR⟩ := H.round h hp k (Nat.le_refl _)
  refine ⟨hI, ?_⟩
  rcases hF with hF | hF
  · rw [done_round hF k (Nat.le_refl _)]; exact .inl hF
  · rcases hR with hR | ⟨_, hB⟩
    · exact .inr (by omega)
    · have hd : AtRest k m := H.rest p m h hB
      rw [done_round hd k (Nat.le_refl _)]; exact .inl hd
end
end Go.Proofs.Ytaeninikaalkjaa
set_option linter.unusedVariables false
set_option linter.unusedSimpArgs false
namespace Go.Proofs.Ytaeninikaalkjaa
def idleG (k : Nat) (h : Int) : Nat := if h = 1 ∨ h = 2 then 11 * k + 2 else 0
def lineG (k : Nat) (op line : Int) : Nat :=
  match op, line with
  | 1, 0 => 17 * k + 8 | 1, 3 => 17 * k + 8 | 2, 0 => 11 * k + 1 | 3, 0 => 17 * k + 7 | 3, 1 => 11 * k + 6 | 4, 0 => 11 * k + 2 | 4, 1 => 11 * k + 1 | 8, 0 => 22 * k + 4 | 8, 1 => 22 * k + 3
  | 5, 0 => 17 * k + 4 | 6, 0 => 17 * k + 4 | 7, 0 => 17 * k + 4
  | _, _ => 0
def isDearG (op line : Int) : Prop := (op = 1 ∧ (line = 1 ∨ line = 2)) ∨ ((op = 5 ∨ op = 6 ∨ op = 7) ∧ line = 1)
instance (op line : Int) : Decidable (isDearG op line) := by unfold isDearG; infer_instance
def dearG (k : Nat) (w : Int → Int) (r : LS) : Nat :=
  if r.op = 1 then (if r.line = 1 then (if w 0 = r.a then 17 * k + 3 else 17 * k + 9) else if r.s = 4 ∧ w 0 ≠ r.a then 17 * k + 13 else 17 * k + 7)
  else if w 0 = r.a then 17 * k + 3 else 17 * k + 5
def worthG (k : Nat) : VG := fun w h r =>
  if r.op = 0 then idleG k h else if r.ret ≠ 0 then idleG k (behindI r.op r.ret h) else if isDearG r.op r.line then dearG k w r else lineG k r.op r.line
section
variable {k : Nat} {w w' : Int → Int} {r R : LS} {h : Int}
theorem ite_upG {p p' : Prop} [Decidable p] [Decidable p'] {a b a' b' e : Nat} (h1 : a' ≤ a + e) (h2 : a' ≤ b + e) (h3 : b' ≤ a + e) (h4 : b' ≤ b + e) : (if p' then a' else b') ≤ (if p then a else b) + e := by
  by_cases q : p <;> by_cases q' : p'
  · rw [if_pos q, if_pos q']; exact h1
  · rw [if_pos q, if_neg q']; exact h3
  · rw [if_neg q, if_pos q']; exact h2
  · rw [if_neg q, if_neg q']; exact h4
theorem dearG_rise (k : Nat) (w w' : Int → Int) (r : LS) : dearG k w' r ≤ dearG k w r + 6 := by
  unfold dearG
  by_cases e : r.op = 1
  · rw [if_pos e, if_pos e]
    by_cases e1 : r.line = 1
    · rw [if_pos e1, if_pos e1]; exact ite_upG (by omega) (by omega) (by omega) (by omega)
    · rw [if_neg e1, if_neg e1]; exact ite_upG (by omega) (by omega) (by omega) (by omega)
  · rw [if_neg e, if_neg e]; exact ite_upG (by omega) (by omega) (by omega) (by omega)
theorem worthG_rise (k : Nat) (w w' : Int → Int) (h : Int) (r : LS) : worthG k w' h r ≤ worthG k w h r + 6 := by
  unfold worthG
  by_cases e0 : r.op = 0
  · rw [if_pos e0, if_pos e0]; omega
  rw [if_neg e0, if_neg e0]
  by_cases e1 : r.ret ≠ 0
  · rw [if_pos e1, if_pos e1]; omega
  rw [if_neg e1, if_neg e1]
  by_cases e2 : isDearG r.op r.line
  · rw [if_pos e2, if_pos e2]; exact dearG_rise k w w' r
  · rw [if_neg e2, if_neg e2]; omega
theorem worthG_same (e : w' 0 = w 0) (h : Int) (r : LS) : worthG k w' h r = worthG k w h r := by unfold worthG dearG; rw [e]
theorem worthG_ok (k : Nat) : WorthQ (worthG k) where
  like w h r r' a hs := by unfold worthG dearG; rw [a.op, a.line, a.ret, a.a, hs]
  over w h r hr := by
    show (if (0 : Int) = 0 then idleG k (behindI r.op r.ret h) else _) ≤ _
    rw [if_pos rfl]
    unfold worthG
    by_cases e : r.op = 0
    · rw [if_pos e, e]
      have : behindI 0 r.ret h = h := by
        unfold behindI
        by_cases e2 : r.ret = 2
        · rw [if_neg (by simpa using e2)]; rfl
        · rw [if_pos e2]
      rw [this]; exact Nat.le_refl _
    · rw [if_neg e, if_pos hr]; exact Nat.le_refl _
theorem worthG_line {o l : Int} (eo : r.op = o) (el : r.line = l) (ho : o ≠ 0) (hr : r.ret = 0) (hn : ¬ isDearG o l) : worthG k w h r = lineG k o l := by
  subst eo el
  unfold worthG; rw [if_neg ho, if_neg (by rw [hr]; simp), if_neg hn]
theorem worthG_dear {o l : Int} (eo : r.op = o) (el : r.line = l) (ho : o ≠ 0) (hr : r.ret = 0) (hn : isDearG o l) : worthG k w h r = dearG k w r := by
  subst eo el
  unfold worthG; rw [if_neg ho, if_neg (by rw [hr]; simp), if_pos hn]
def comesG (k : Nat) (w : Int → Int) (h : Int) (R : LS) : Nat := swp k R.finR.k + worthG k w (R.finH h) R.finR
theorem comesG_stay (hr : R.ret = 0) : comesG k w h R = swp k R.k + worthG k w h R := by
  obtain ⟨e1, e2⟩ := fin_no (R := R) h hr
  unfold comesG
  rw [e1, e2]
theorem comesG_end {o b : Int} (eo : R.op = o) (eb : R.ret = b) (hb : b ≠ 0) (ho : o ≠ 0) : comesG k w h R ≤ swp k R.k + idleG k (behindI o b h) := by
  subst eo eb
  unfold comesG
  cases hon : R.k.on
  · obtain ⟨e1, e2⟩ := fin_yes (R := R) h hb hon
    rw [e1, e2, show swp k (zeroF R 0).k = 0 from swp_off k rfl]
    show 0 + idleG k (behindI R.op R.ret h) ≤ _
    omega
  · obtain ⟨e1, e2⟩ := fin_on (R := R) h hon
    rw [e1, e2]
    unfold worthG
    rw [if_neg ho, if_pos hb]
    exact Nat.le_refl _
theorem idleG_le (k : Nat) (h : Int) : idleG k h ≤ 11 * k + 2 := by
  unfold idleG
  by_cases e : h = 1 ∨ h = 2
  · rw [if_pos e]; omega
  · rw [if_neg e]; omega
theorem lineG_le (k : Nat) (op line : Int) : lineG k op line ≤ 22 * k + 13 := by
  unfold lineG
  split <;> omega
theorem dearG_le (k : Nat) (w : Int → Int) (r : LS) : dearG k w r ≤ 22 * k + 13 := by
  unfold dearG
  have t : ∀ {p : Prop} [Decidable p] {a b : Nat}, a ≤ 22 * k + 13 → b ≤ 22 * k + 13 → (if p then a else b) ≤ 22 * k + 13 := fun {p} _ {a b} ha hb => by
    by_cases q : p
    · rw [if_pos q]; exact ha
    · rw [if_neg q]; exact hb
  exact t (t (t (by omega) (by omega)) (t (by omega) (by omega))) (t (by omega) (by omega))
end
section
variable {k t p : Nat} {mode b : Int} {o : Nat} {c q tk y : Nat → Nat} {m : MV}
def LessG (k : Nat) (m : MV) (t : Nat) (R : LS) : Prop := ∃ e, (∀ i, i < k → i ≠ t → worthG k (ownW R.xs) (m.hold i) (m.rs i) ≤ worthG k (ownW m.xs) (m.hold i) (m.rs i) + e) ∧ comesG k (ownW R.xs) (m.hold t) R + k * e < worthG k (ownW m.xs) (m.hold t) (m.rs t)
theorem lessG_0 {R : LS} (hx : wordAt R.xs 0 = wordAt m.xs 0) (hl : comesG k (ownW R.xs) (m.hold t) R < worthG k (ownW m.xs) (m.hold t) (m.rs t)) : LessG k m t R :=
  ⟨0, fun i _ _ => by rw [worthG_same (w := ownW m.xs) (by rw [ownW_at (by decide) (by decide), ownW_at (by decide) (by decide), hx])]; omega, by omega⟩
theorem lessG_6 {R : LS} (hl : comesG k (ownW R.xs) (m.hold t) R + k * 6 < worthG k (ownW m.xs) (m.hold t) (m.rs t)) : LessG k m t R :=
  ⟨6, fun i _ _ => worthG_rise _ _ _ _ _, hl⟩
theorem own0 (xs : List Int) : ownW xs 0 = wordAt xs 0 := ownW_at (by decide) (by decide)
theorem lessG_look (C : GC k mode t b o c q tk y m) {op : Int} (ok : Bool) (ho : (m.rs t).op = op) (hl : (m.rs t).line = 0) (ho5 : op = 5 ∨ op = 6 ∨ op = 7) (hp : (m.at t).fresh.wf = (m.at t).fresh.fLook ok) : LessG k m t (m.at t).fresh.wf := by
  rw [hp]; unfold LS.fLook
  obtain ⟨x0, xd⟩ := gword_do C 1 0 0
  obtain ⟨f1, f2, f3, f4, f5, f6, f7, f8⟩ := doA_gs m t 1 0 0
  rw [← f8] at x0 xd
  rw [show (m.at t).fresh.xs = m.xs from rfl]
  generalize (m.at t).fresh.doA 1 0 0 0 = R0 at *
  have hx : wordAt R0.xs 0 = wordAt m.xs 0 := x0
  have hv : worthG k (ownW m.xs) (m.hold t) (m.rs t) = 17 * k + 4 := by
    rw [worthG_line ho hl (by omega) C.ret (by unfold isDearG; omega)]
    rcases ho5 with e | e | e <;> rw [e] <;> rfl
  have hk0 : swp k R0.k = 0 := by rw [f4]; exact swp_off k C.on
  cases ok
  · rw [if_neg Bool.false_ne_true]
    refine lessG_0 (R := ((R0.keepA (wordAt m.xs 0)).note 5 0).fin false) hx ?_
    have h1 := comesG_end (k := k) (w := ownW (((R0.keepA (wordAt m.xs 0)).note 5 0).fin false).xs) (h := m.hold t) (R := ((R0.keepA (wordAt m.xs 0)).note 5 0).fin false) (o := op) (b := 1) (f1.trans ho) rfl (by decide) (by omega)
    have h2 := idleG_le k (behindI op 1 (m.hold t))
    have h3 : swp k (((R0.keepA (wordAt m.xs 0)).note 5 0).fin false).k = 0 := hk0
    omega
  · rw [if_pos rfl]
    refine lessG_0 (R := (R0.keepA (wordAt m.xs 0)).go 1) hx ?_
    have h3 : swp k ((R0.keepA (wordAt m.xs 0)).go 1).k = 0 := hk0
    rw [comesG_stay (R := (R0.keepA (wordAt m.xs 0)).go 1) (f3.trans C.ret), h3, worthG_dear (r := (R0.keepA (wordAt m.xs 0)).go 1) (o := op) (l := 1) (f1.trans ho) rfl (by omega) (f3.trans C.ret) (by unfold isDearG; omega), hv]
    unfold dearG
    rw [if_neg (show ¬ ((R0.keepA (wordAt m.xs 0)).go 1).op = 1 by show ¬ R0.op = 1; omega), if_pos ?_]
    · omega
    · rw [own0]; exact hx
theorem lessG_see (C : GC k mode t b o c q tk y m) {bb : Bool} (ho : (m.rs t).op = 1) (hl : (m.rs t).line = 0 ∨ (m.rs t).line = 3) (hp : (m.at t).fresh.wf = (m.at t).fresh.gSee bb) : LessG k m t (m.at t).fresh.wf := by
  have hs0 := C.s0 (wtW_no (by omega) (by omega))
  rw [hp]; unfold LS.gSee
  obtain ⟨x0, xd⟩ := gword_do C 1 0 0
  obtain ⟨f1, f2, f3, f4, f5, f6, f7, f8⟩ := doA_gs m t 1 0 0
  rw [← f8] at x0 xd
  rw [show (m.at t).fresh.xs = m.xs from rfl]
  generalize (m.at t).fresh.doA 1 0 0 0 = R0 at *
  have hx : wordAt R0.xs 0 = wordAt m.xs 0 := x0
  have hn : ∀ (A : LS), (A.noteR bb).op = A.op ∧ (A.noteR bb).ret = A.ret ∧ (A.noteR bb).k = A.k ∧ (A.noteR bb).s = A.s ∧ (A.noteR bb).xs = A.xs ∧ (A.noteR bb).a = A.a := fun A => by cases bb <;> exact ⟨rfl, rfl, rfl, rfl, rfl, rfl⟩
  obtain ⟨n1, n2, n3, n4, n5, n6⟩ := hn (R0.keepA (wordAt m.xs 0))
  generalize (R0.keepA (wordAt m.xs 0)).noteR bb = R1 at *
  have hx1 : wordAt R1.xs 0 = wordAt m.xs 0 := by rw [n5]; exact hx
  have hk0 : swp k R1.k = 0 := by rw [n3]; show swp k R0.k = 0; rw [f4]; exact swp_off k C.on
  have ha : R1.a = wordAt m.xs 0 := n6
  have hs1 : R1.s = 0 := by rw [n4]; show R0.s = 0; omega
  have ho1 : R1.op = 1 := n1.trans (f1.trans ho)
  have hr1 : R1.ret = 0 := n2.trans (f3.trans C.ret)
  have hv : worthG k (ownW m.xs) (m.hold t) (m.rs t) = 17 * k + 8 := by
    rcases hl with hl | hl
    · exact worthG_line ho hl (by decide) C.ret (by decide)
    · exact worthG_line ho hl (by decide) C.ret (by decide)
  split
  · refine lessG_0 (R := R1.go 1) hx1 ?_
    rw [comesG_stay (R := R1.go 1) hr1, show swp k (R1.go 1).k = 0 from hk0, worthG_dear (r := R1.go 1) (o := 1) (l := 1) ho1 rfl (by decide) hr1 (by decide), hv]
    unfold dearG
    rw [if_pos (show (R1.go 1).op = 1 from ho1), if_pos (show (R1.go 1).line = 1 from rfl), if_pos (by rw [own0]; exact hx1.trans ha.symm)]
    omega
  · refine lessG_0 (R := R1.go 2) hx1 ?_
    rw [comesG_stay (R := R1.go 2) hr1, show swp k (R1.go 2).k = 0 from hk0, worthG_dear (r := R1.go 2) (o := 1) (l := 2) ho1 rfl (by decide) hr1 (by decide), hv]
    unfold dearG
    rw [if_pos (show (R1.go 2).op = 1 from ho1), if_neg (show ¬ (R1.go 2).line = 1 by show ¬ (2 : Int) = 1; decide), if_neg (show ¬ ((R1.go 2).s = 4 ∧ _) from fun e2 => by have e3 : R1.s = 4 := e2.1; omega)]
    omega
theorem lessG_cas (C : GC k mode t b o c q tk y m) {op l' d : Int} {R1 R2 : LS} {hi : Nat} (ho : (m.rs t).op = op) (hl : (m.rs t).line = 1) (ho0 : op = 1 ∨ op = 5 ∨ op = 6 ∨ op = 7) (hV : dearG k (ownW m.xs) (m.rs t) = if wordAt m.xs 0 = (m.rs t).a then 17 * k + 3 else hi)
    (h1 : R1.op = (m.rs t).op ∧ R1.ret = 2 ∧ R1.k = (m.rs t).k) (h2 : R2.op = (m.rs t).op ∧ R2.line = l' ∧ R2.ret = (m.rs t).ret ∧ R2.k = (m.rs t).k ∧ R2.xs = ((m.at t).fresh.gCas d).xs) (hnd : ¬ isDearG op l') (hlo : lineG k op l' < hi) (hp : (m.at t).fresh.wf = if (m.at t).fresh.at0 (m.at t).fresh.a then R1 else R2) : LessG k m t (m.at t).fresh.wf := by
  rw [hp, C.at0_eq]
  rw [show (m.at t).fresh.a = (m.rs t).a from rfl]
  obtain ⟨x0, xd⟩ := gword_do C 5 (m.rs t).a (((m.rs t).a + d) % 4294967296)
  obtain ⟨a1, a3, a4⟩ := h1
  obtain ⟨b1, b2, b3, b4, b5⟩ := h2
  have hx : ((m.at t).fresh.gCas d).xs = doNew m.xs 5 0 (m.rs t).a (((m.rs t).a + d) % 4294967296) := rfl
  rw [hx] at b5
  have x0' : wordAt (doNew m.xs 5 0 (m.rs t).a (((m.rs t).a + d) % 4294967296)) 0 = if wordAt m.xs 0 = (m.rs t).a then ((m.rs t).a + d) % 4294967296 else wordAt m.xs 0 := x0
  have hv : worthG k (ownW m.xs) (m.hold t) (m.rs t) = if wordAt m.xs 0 = (m.rs t).a then 17 * k + 3 else hi := by rw [worthG_dear ho hl (by omega) C.ret (by unfold isDearG; omega), hV]
  by_cases e : wordAt m.xs 0 = (m.rs t).a
  · rw [if_pos (decide_eq_true e)]
    rw [if_pos e] at hv
    refine lessG_6 ?_
    have h1 := comesG_end (k := k) (w := ownW R1.xs) (h := m.hold t) (R := R1) (o := op) (b := 2) (a1.trans ho) a3 (by decide) (by omega)
    have h2 := idleG_le k (behindI op 2 (m.hold t))
    have h3 : swp k R1.k = 0 := by rw [a4]; exact swp_off k C.on
    omega
  · rw [if_neg (by simpa using e)]
    rw [if_neg e] at hv x0'
    refine lessG_0 (by rw [b5]; exact x0') ?_
    have h3 : swp k R2.k = 0 := by rw [b4]; exact swp_off k C.on
    rw [comesG_stay (b3.trans C.ret), h3, hv, worthG_line (b1.trans ho) b2 (by omega) (b3.trans C.ret) hnd]
    omega
theorem worthG_plain (C : GC k mode t b o c q tk y m) (hop : (m.rs t).op ≠ 0) (hw : wtR wtW (m.rs t) = none) : LessG k m t (m.at t).fresh.wf := by
  have F := C.h.f t C.ht
  have n1 : ¬ ((m.rs t).op = 1 ∧ (m.rs t).line = 2) := fun e => by
    have : wtR wtW (m.rs t) = some (0, freeW) := if_pos e
    rw [hw] at this; cases this
  have n2 : ¬ ((m.rs t).op = 3 ∧ (m.rs t).line = 1) := fun e => by
    have : wtR wtW (m.rs t) = some (0, turnW (iF (m.rs t).a)) := by
      show wtW _ _ _ _ _ _ = _
      unfold wtW
      rw [if_neg (by omega), if_pos e]
    rw [hw] at this; cases this
  -- a line that changes the word, and wakes
  have turn : ∀ {op l : Int} (R : LS), (m.rs t).op = op → (m.rs t).line = l → op ≠ 0 → ¬ isDearG op l → R.op = (m.rs t).op → R.ret = 2 → (∃ e, R.k = beginI mode e) → 11 * k + idleG k (behindI op 2 (m.hold t)) < lineG k op l → LessG k m t R := fun {op l} R e1 e2 e3 e4 e5 e6 e7 e8 => by
    refine lessG_6 ?_
    have h1 := comesG_end (k := k) (w := ownW R.xs) (h := m.hold t) (R := R) (o := op) (b := 2) (e5.trans e1) e6 (by decide) e3
    obtain ⟨e, e7⟩ := e7
    have h2 : swp k R.k ≤ 5 * k := by rw [e7]; exact swp_begin k _ _
    rw [worthG_line e1 e2 e3 C.ret e4]
    omega
  have load : ∀ {op : Int}, (m.rs t).op = op → (m.rs t).line = 0 → op = 4 ∨ op = 8 → lineG k op 1 < lineG k op 0 → LessG k m t (m.at t).fresh.gLoad := fun {op} e1 e2 e3 e4 => by
    unfold LS.gLoad
    obtain ⟨x0, xd⟩ := gword_do C 1 0 0
    obtain ⟨f1, f2, f3, f4, f5, f6, f7, f8⟩ := doA_gs m t 1 0 0
    rw [← f8] at x0 xd
    rw [show (m.at t).fresh.xs = m.xs from rfl]
    generalize (m.at t).fresh.doA 1 0 0 0 = R0 at *
    refine lessG_0 (R := (R0.keepA (wordAt m.xs 0)).go 1) x0 ?_
    have hk0 : swp k ((R0.keepA (wordAt m.xs 0)).go 1).k = 0 := by show swp k R0.k = 0; rw [f4]; exact swp_off k C.on
    rw [comesG_stay (R := (R0.keepA (wordAt m.xs 0)).go 1) (f3.trans C.ret), hk0, worthG_line (r := (R0.keepA (wordAt m.xs 0)).go 1) (o := op) (l := 1) (f1.trans e1) rfl (by omega) (f3.trans C.ret) (by unfold isDearG; omega), worthG_line e1 e2 (by omega) C.ret (by unfold isDearG; omega)]
    omega
  cases F with
  | idle0 ho => exact absurd ho hop
  | idle1 ho => exact absurd ho hop
  | idle2 ho => exact absurd ho hop
  | free ho hr hon hh hc hq hy =>
    rcases ho with ⟨ho, hl | hl | hl | hl⟩ | ⟨ho, hl⟩ | ⟨ho | ho, hl | hl⟩
    · exact lessG_see C (bb := true) ho (.inl hl) (wf_1_0 (r := (m.at t).fresh) ho hl)
    · have hp : (m.at t).fresh.wf = (m.at t).fresh.gTake := wf_1_1 (r := (m.at t).fresh) ho hl
      unfold LS.gTake at hp
      obtain ⟨f1, f2, f3, f4, f5, f6⟩ := gcas_fs m t 1
      refine lessG_cas C (d := 1) (l' := 3) (hi := 17 * k + 9) (R1 := (((m.at t).fresh.gCas 1).note 4 0).fin true) (R2 := ((m.at t).fresh.gCas 1).go 3) ho hl (.inl rfl) ?_ ⟨f1, rfl, f4⟩ ⟨f1, rfl, f3, f4, rfl⟩ (by decide) (by show 17 * k + 8 < 17 * k + 9; omega) hp
      unfold dearG; rw [if_pos ho, if_pos hl, own0]
    · exact absurd ⟨ho, hl⟩ n1
    · exact lessG_see C (bb := false) ho (.inr hl) (wf_1_3 (r := (m.at t).fresh) ho hl)
    · have hv : worthG k (ownW m.xs) (m.hold t) (m.rs t) = 17 * k + 7 := worthG_line ho hl (by decide) C.ret (by decide)
      rw [wf_3_0 (r := (m.at t).fresh) ho hl]; unfold LS.gCome
      obtain ⟨f1, f2, f3, f4, f5, f6, f7, f8⟩ := doA_gs m t 3 65536 0
      rw [show (m.at t).fresh.xs = m.xs from rfl]
      generalize (m.at t).fresh.doA 3 0 65536 0 = R0 at *
      refine lessG_6 (R := ((R0.keepA (wordAt m.xs 0)).note 2 2).go 1) ?_
      have hk0 : swp k (((R0.keepA (wordAt m.xs 0)).note 2 2).go 1).k = 0 := by show swp k R0.k = 0; rw [f4]; exact swp_off k C.on
      rw [comesG_stay (R := ((R0.keepA (wordAt m.xs 0)).note 2 2).go 1) (f3.trans C.ret), hk0, worthG_line (r := ((R0.keepA (wordAt m.xs 0)).note 2 2).go 1) (o := 3) (l := 1) (f1.trans ho) rfl (by decide) (f3.trans C.ret) (by decide), hv]
      show 0 + (11 * k + 6) + k * 6 < 17 * k + 7
      omega
    · exact lessG_look C (op := 5) (freeW (wordAt m.xs 0)) ho hl (.inl rfl) (wf_5_0 (r := (m.at t).fresh) ho hl)
    · have hp : (m.at t).fresh.wf = (m.at t).fresh.gSlip := wf_5_1 (r := (m.at t).fresh) ho hl
      unfold LS.gSlip at hp
      obtain ⟨f1, f2, f3, f4, f5, f6⟩ := gcas_fs m t 1
      refine lessG_cas C (d := 1) (l' := 0) (hi := 17 * k + 5) (R1 := ((((m.at t).fresh.gCas 1).note 2 1).note 4 0).fin true) (R2 := ((m.at t).fresh.gCas 1).go 0) ho hl (by decide) ?_ ⟨f1, rfl, f4⟩ ⟨f1, rfl, f3, f4, rfl⟩ (by decide) (by show 17 * k + 4 < 17 * k + 5; omega) hp
      unfold dearG; rw [if_neg (by omega), own0]
    · exact lessG_look C (op := 6) (freeW (wordAt m.xs 0) && rF (wordAt m.xs 0) == 0) ho hl (.inr (.inl rfl)) (wf_6_0 (r := (m.at t).fresh) ho hl)
    · have hp : (m.at t).fresh.wf = (m.at t).fresh.gTry := wf_6_1 (r := (m.at t).fresh) ho hl
      unfold LS.gTry at hp
      obtain ⟨f1, f2, f3, f4, f5, f6⟩ := gcas_fs m t 65536
      refine lessG_cas C (d := 65536) (l' := 0) (hi := 17 * k + 5) (R1 := ((((m.at t).fresh.gCas 65536).note 2 2).note 4 0).fin true) (R2 := ((m.at t).fresh.gCas 65536).go 0) ho hl (by decide) ?_ ⟨f1, rfl, f4⟩ ⟨f1, rfl, f3, f4, rfl⟩ (by decide) (by show 17 * k + 4 < 17 * k + 5; omega) hp
      unfold dearG; rw [if_neg (by omega), own0]
  | adm ho hl => exact absurd ⟨ho, hl⟩ n2
  | dep ho hl hr hon hh =>
    rw [wf_2_0 (r := (m.at t).fresh) ho hl]; unfold LS.fGo
    obtain ⟨f1, f2, f3, f4, f5, f6, f7, f8⟩ := doA_gs m t 3 4294967295 0
    generalize (m.at t).fresh.doA 3 0 4294967295 0 = R0 at *
    exact turn (((R0.note 6 0).wake 0).fin true) ho hl (by decide) (by decide) f1 rfl ⟨0, by show beginI R0.mode 0 = _; rw [f6, C.n.2.1]⟩ (by rw [hh]; show 11 * k + 0 < 11 * k + 1; omega)
  | gone ho hr hon' => have := C.on; rw [hon'] at this; cases this
  | leave ho hl hr hon hh =>
    rcases hl with hl | hl
    · rw [wf_4_0 (r := (m.at t).fresh) ho hl]; exact load ho hl (.inl rfl) (by show 11 * k + 1 < 11 * k + 2; omega)
    · rw [wf_4_1 (r := (m.at t).fresh) ho hl]; unfold LS.gLeave
      obtain ⟨f1, f2, f3, f4, f5, f6, f7, f8⟩ := doA_gs m t 3 (nextO (m.at t).fresh.a) 0
      generalize (m.at t).fresh.doA 3 0 (nextO (m.at t).fresh.a) 0 = R0 at *
      exact turn ((((R0.note 7 0).note 8 0).wake 0).fin true) ho hl (by decide) (by decide) f1 rfl ⟨0, by show beginI R0.mode 0 = _; rw [f6, C.n.2.1]⟩ (by rw [hh]; show 11 * k + 0 < 11 * k + 1; omega)
  | up ho hl hr hon hh =>
    rcases hl with hl | hl
    · exact lessG_look C (op := 7) (freeW (wordAt m.xs 0) && rF (wordAt m.xs 0) == 1) ho hl (.inr (.inr rfl)) (wf_7_0 (r := (m.at t).fresh) ho hl)
    · have hp : (m.at t).fresh.wf = (m.at t).fresh.gUp := wf_7_1 (r := (m.at t).fresh) ho hl
      unfold LS.gUp at hp
      obtain ⟨f1, f2, f3, f4, f5, f6⟩ := gcas_fs m t 65535
      refine lessG_cas C (d := 65535) (l' := 0) (hi := 17 * k + 5) (R1 := (((m.at t).fresh.gCas 65535).note 9 0).fin true) (R2 := ((m.at t).fresh.gCas 65535).go 0) ho hl (by decide) ?_ ⟨f1, rfl, f4⟩ ⟨f1, rfl, f3, f4, rfl⟩ (by decide) (by show 17 * k + 4 < 17 * k + 5; omega) hp
      unfold dearG; rw [if_neg (by omega), own0]
  | down ho hl hr hon hh =>
    rcases hl with hl | hl
    · rw [wf_8_0 (r := (m.at t).fresh) ho hl]; exact load ho hl (.inr rfl) (by show 22 * k + 3 < 22 * k + 4; omega)
    · rw [wf_8_1 (r := (m.at t).fresh) ho hl]; unfold LS.gDown
      obtain ⟨f1, f2, f3, f4, f5, f6, f7, f8⟩ := doA_gs m t 3 ((nextO (m.at t).fresh.a + 1) % 4294967296) 0
      generalize (m.at t).fresh.doA 3 0 ((nextO (m.at t).fresh.a + 1) % 4294967296) 0 = R0 at *
      exact turn (((R0.note 10 0).wake 0).fin true) ho hl (by decide) (by decide) f1 rfl ⟨0, by show beginI R0.mode 0 = _; rw [f6, C.n.2.1]⟩ (by rw [hh]; show 11 * k + (11 * k + 2) < 22 * k + 3; omega)
  | downed ho hr hon' => have := C.on; rw [hon'] at this; cases this
theorem worthG_done (C : GC k mode t b o c q tk y m) (hop : (m.rs t).op ≠ 0) {e : Int} {pp : Int → Bool} (hw : wtR wtW (m.rs t) = some (e, pp)) (hd : (stepI m.xs k mode t (m.rs t).s e pp).done = true) : worthG k (ownW m.xs) ((m.at t).fresh.wf.finH (m.hold t)) (m.at t).fresh.wf.finR + 4 ≤ worthG k (ownW m.xs) (m.hold t) (m.rs t) := by
  have W := lines_wf.wait (m.at t).fresh e pp C.on hw
  have hso : (m.at t).fresh.wf.op = (m.rs t).op := (lines_wf.same (m.at t).fresh).2.2.2.1
  have hd' : ((m.at t).fresh.stepR e pp).done = true := by rw [C.step]; exact hd
  have hc : ∀ x, comesG k (ownW m.xs) (m.hold t) (m.at t).fresh.wf ≤ x → worthG k (ownW m.xs) ((m.at t).fresh.wf.finH (m.hold t)) (m.at t).fresh.wf.finR ≤ x := fun x e => by unfold comesG at e; omega
  have hk0 : swp k (m.at t).fresh.wf.k = 0 := by rw [W.k]; exact swp_off k C.on
  rcases wtW_cases hw with ⟨ho, hl, rfl, rfl⟩ | ⟨ho, hl, rfl, rfl⟩
  · have hR : (m.at t).fresh.wf = (m.at t).fresh.seeW.go 1 := by
      rw [wf_1_2 (r := (m.at t).fresh) ho hl]; unfold LS.gWait; exact if_pos hd'
    obtain ⟨s1, s2, s3, s4, _, s5, s6, s7⟩ := seeW_fw (m.at t).fresh
    have hr0 : (m.at t).fresh.wf.ret = 0 := by rw [hR]; exact s3.trans C.ret
    have hl1 : (m.at t).fresh.wf.line = 1 := congrArg LS.line hR
    have ha1 : (m.at t).fresh.wf.a = if ((m.at t).fresh.stepR 0 freeW).seen then wordAt m.xs 0 else (m.rs t).a := by rw [hR]; exact s7
    have h1 := hc _ (Nat.le_of_eq (comesG_stay (k := k) (w := ownW m.xs) (h := m.hold t) hr0))
    rw [hk0, worthG_dear (hso.trans ho) hl1 (by decide) hr0 (by decide)] at h1
    rw [worthG_dear ho hl (by decide) C.ret (by decide)]
    have v1 : dearG k (ownW m.xs) (m.at t).fresh.wf = if wordAt m.xs 0 = (m.at t).fresh.wf.a then 17 * k + 3 else 17 * k + 9 := by
      unfold dearG; rw [if_pos (hso.trans ho), if_pos hl1, own0]
    have v2 : dearG k (ownW m.xs) (m.rs t) = if (m.rs t).s = 4 ∧ wordAt m.xs 0 ≠ (m.rs t).a then 17 * k + 13 else 17 * k + 7 := by
      unfold dearG; rw [if_pos ho, if_neg (by rw [hl]; decide), own0]
    rw [v1, ha1] at h1
    rw [v2]
    rcases waitG_ways C 0 freeW with ⟨_, ⟨e4, e5⟩ | ⟨e4, e5⟩⟩ | ⟨e2, _⟩
    · rw [e5, if_neg Bool.false_ne_true] at h1
      by_cases e : wordAt m.xs 0 = (m.rs t).a
      · rw [if_pos e] at h1
        rw [if_neg (fun e2 => e2.2 e)]; omega
      · rw [if_neg e] at h1
        rw [if_pos ⟨e4, e⟩]; omega
    · rw [e5, if_pos rfl, if_pos rfl] at h1
      by_cases e : (m.rs t).s = 4 ∧ wordAt m.xs 0 ≠ (m.rs t).a
      · rw [if_pos e]; omega
      · rw [if_neg e]; omega
    · rw [hd'] at e2; cases e2
  · have hr2 : (m.at t).fresh.wf.ret = 2 := by
      rw [wf_3_1 (r := (m.at t).fresh) ho hl]; unfold LS.pAdmit
      rw [show (m.at t).fresh.a = (m.rs t).a from rfl, if_pos hd']; rfl
    have h1 := hc _ (comesG_end (k := k) (w := ownW m.xs) (h := m.hold t) (hso.trans ho) hr2 (by decide) (by decide))
    have h2 := idleG_le k (behindI 3 2 (m.hold t))
    rw [worthG_line ho hl (by decide) C.ret (by decide)]
    rw [hk0] at h1
    show _ ≤ 11 * k + 6
    omega
theorem worthG_not (C : GC k mode t b o c q tk y m) (hop : (m.rs t).op ≠ 0) {e : Int} {pp : Int → Bool} (hw : wtR wtW (m.rs t) = some (e, pp)) (hd : (stepI m.xs k mode t (m.rs t).s e pp).done = false) : worthG k (ownW m.xs) (m.hold t) (m.at t).fresh.wf ≤ worthG k (ownW m.xs) (m.hold t) (m.rs t) := by
  have W := lines_wf.wait (m.at t).fresh e pp C.on hw
  have hso : (m.at t).fresh.wf.op = (m.rs t).op := (lines_wf.same (m.at t).fresh).2.2.2.1
  have hd' : ((m.at t).fresh.stepR e pp).done = false := by rw [C.step]; exact hd
  obtain ⟨l1, l2, _⟩ := W.stay hd'
  have l1' : (m.at t).fresh.wf.line = (m.rs t).line := l1
  have l2' : (m.at t).fresh.wf.ret = 0 := l2.trans C.ret
  rcases wtW_cases hw with ⟨ho, hl, rfl, rfl⟩ | ⟨ho, hl, rfl, rfl⟩
  · rw [worthG_dear ho hl (by decide) C.ret (by decide), worthG_dear (hso.trans ho) (l1'.trans hl) (by decide) l2' (by decide)]
    have hR : (m.at t).fresh.wf = (m.at t).fresh.seeW := by
      rw [wf_1_2 (r := (m.at t).fresh) ho hl]; unfold LS.gWait; rw [if_neg (by rw [hd']; exact Bool.false_ne_true)]
    obtain ⟨s1, s2, s3, s4, _, s5, s6, s7⟩ := seeW_fw (m.at t).fresh
    have v1 : dearG k (ownW m.xs) (m.at t).fresh.wf = if (m.at t).fresh.wf.s = 4 ∧ wordAt m.xs 0 ≠ (m.at t).fresh.wf.a then 17 * k + 13 else 17 * k + 7 := by
      unfold dearG; rw [if_pos (hso.trans ho), if_neg (by rw [l1', hl]; decide), own0]
    have v2 : dearG k (ownW m.xs) (m.rs t) = if (m.rs t).s = 4 ∧ wordAt m.xs 0 ≠ (m.rs t).a then 17 * k + 13 else 17 * k + 7 := by
      unfold dearG; rw [if_pos ho, if_neg (by rw [hl]; decide), own0]
    rw [v1, v2]
    have hn : ¬ ((m.at t).fresh.wf.s = 4 ∧ wordAt m.xs 0 ≠ (m.at t).fresh.wf.a) := fun ⟨e1, e2⟩ => by
      rw [hR, s5] at e1
      rw [hR, s7] at e2
      rcases waitG_ways C 0 freeW with ⟨e3, _⟩ | ⟨_, _, e3⟩
      · rw [hd'] at e3; cases e3
      · rw [(e3 e1).2, if_pos rfl] at e2
        exact e2 rfl
    rw [if_neg hn]
    by_cases e2 : (m.rs t).s = 4 ∧ wordAt m.xs 0 ≠ (m.rs t).a
    · rw [if_pos e2]; omega
    · rw [if_neg e2]; omega
  · rw [worthG_line ho hl (by decide) C.ret (by decide), worthG_line (hso.trans ho) (l1'.trans hl) (by decide) l2' (by decide)]
    exact Nat.le_refl _
theorem wf_rest (hk : k ≤ 64) (h : WfInv b k mode m) (hb : ∀ t, t < k → BlkQ wtW k mode m t) : ∀ t, t < k → (m.rs t).op = 0 ∧ m.hold t = 0 := by
  obtain ⟨hg, o, c, q, tk, y, hI⟩ := h
  have off : ∀ j, j < k → (m.rs j).k.on = false := fun j hj => by
    rcases hb j hj with ⟨e, _⟩ | ⟨_, e, _⟩
    · exact hg.idle j hj e
    · exact e
  have waits : ∀ i, i < k → ((m.rs i).op = 0 ∧ m.hold i = 0) ∨ ((m.rs i).op = 1 ∧ (m.rs i).line = 2 ∧ freeW (wordAt m.xs 0) = false) ∨ ((m.rs i).op = 3 ∧ (m.rs i).line = 1 ∧ turnW (iF (m.rs i).a) (wordAt m.xs 0) = false) := fun i hi => by
    rcases hb i hi with e | ⟨e0, e1, e, p, e2, e3⟩
    · exact .inl e
    · have hq : p (wordAt m.xs e) = false := by
        rcases e3 with ⟨_, e3⟩ | ⟨_, e4, e5⟩
        · exact e3
        · cases e6 : p (wordAt m.xs e)
          · rfl
          · obtain ⟨j, hj, e7, _⟩ := hg.nl i hi e p e2 e4 e5 e6
            rw [off j hj] at e7; cases e7
      rcases wtW_cases e2 with ⟨ho, hl, rfl, rfl⟩ | ⟨ho, hl, rfl, rfl⟩
      · exact .inr (.inl ⟨ho, hl, hq⟩)
      · exact .inr (.inr ⟨ho, hl, hq⟩)
  have nc : ∀ i, i < k → c i = 0 := fun i hi => by
    have F := hI.f i hi
    have w := waits i hi
    cases F <;> omega
  have hc0 : sumN c k = 0 := sumN_zero nc
  have hs := hI.small
  have hq0 : sumN q k = 0 := by
    by_cases e : sumN q k = 0
    · exact e
    · exfalso
      obtain ⟨j, hj, hqj, htj⟩ := holes (fun i hi => (hI.f i hi).le.2.1) hI.tr hI.td rfl (by omega)
      have F := hI.f j hj
      rcases waits j hj with ⟨e1, e2⟩ | ⟨e1, e2, _⟩ | ⟨e1, e2, e3⟩
      · cases F <;> omega
      · cases F <;> omega
      · rw [(hI.ka j hj).r3 e1 e2, hI.w, wv_turn (by omega) (by omega) (by omega), decide_eq_true ⟨htj, hc0⟩] at e3
        cases e3
  intro t ht
  rcases waits t ht with e | ⟨_, _, e⟩ | ⟨e1, e2, _⟩
  · exact e
  · rw [(hI.read hk).1, decide_eq_true hq0] at e; cases e
  · have F := hI.f t ht
    have := sumN_at (f := q) ht
    cases F <;> omega
theorem wf_ok (hk : 1 ≤ k ∧ k ≤ 64) (b mode : Int) (B : Nat) : LockQ LS.wf wtW (worthG k) k mode B (fun _ => WfInv b k mode) := by
  refine ⟨hk, lines_wf, worthG_ok k, fun p m h => h.gen, fun p m h i hi => ?_, fun p m t op h ht h0 hm => h.start ht h0 hm, fun p m t h hp ht h0 hs => h.go hk.2 hk.1 ht h0 hs, fun p m h => h, fun p m t h ht h0 hh => ?_, fun p m t h ht h0 e q hon hw hd => ?_, fun p m t h ht h0 e q hon hw hd => ?_, fun p m t h hp ht h0 hon hw => ?_, fun p m t h hp ht h0 hon hw => ?_, fun p m h hb => wf_rest hk.2 h hb⟩
  · obtain ⟨_, o, c, q, tk, y, hI⟩ := h
    have := (hI.f i hi).le; omega
  · have e0 : worthG k (ownW m.xs) (m.hold t) (m.rs t) = idleG k (m.hold t) := by unfold worthG; rw [if_pos h0]
    rw [e0]
    rcases hh with e | e <;> rw [e]
    · rw [worthG_line (r := zeroF (m.at t) (2 * 1)) (o := 2) (l := 0) rfl rfl (by decide) rfl (by decide)]
      show 11 * k + 1 ≤ 11 * k + 2; omega
    · rw [worthG_line (r := zeroF (m.at t) (2 * 2)) (o := 4) (l := 0) rfl rfl (by decide) rfl (by decide)]
      show 11 * k + 2 ≤ 11 * k + 2; omega
  · obtain ⟨hg, o, c, q, tk, y, hI⟩ := h
    exact worthG_done (GC_mk hk.2 hg hI ht hon) h0 hw hd
  · obtain ⟨hg, o, c, q, tk, y, hI⟩ := h
    exact worthG_not (GC_mk hk.2 hg hI ht hon) h0 hw hd
  · obtain ⟨hg, o, c, q, tk, y, hI⟩ := h
    have C := GC_mk hk.2 hg hI ht hon
    obtain ⟨o', c', q', tk', y', g⟩ := wf_mv C h0
    obtain ⟨p1, p2⟩ := plain_wf C h0 hw
    exact ⟨fun e he => g.far hon hw e (by have e : (m.at t).fresh.n = k := (hg.cst t ht).1; omega), p1, p2⟩
  · obtain ⟨hg, o, c, q, tk, y, hI⟩ := h
    exact worthG_plain (GC_mk hk.2 hg hI ht hon) h0 hw
theorem wf_first (hk : 1 ≤ k ∧ k ≤ 64) (b mode : Int) : WfInv (b % 256) k mode ⟨fun i => newR k mode i 0 (wfXs k b), fun _ => 0, wfXs k b⟩ := by
  have hx : ∀ e : Int, e ≠ 0 → wordAt (wfXs k b) e = 0 := (wf_at k b).2
  refine ⟨⟨wf_len k b, fun i hi => ⟨rfl, rfl, rfl⟩, fun i hi => .inl rfl, fun i hi _ => rfl, fun i hi e => absurd rfl e, fun i hi => ⟨fun _ => hx _ (by rw [wc_at hk.2 hi]; omega), fun e => (by rcases e with e | e | e <;> cases e)⟩, fun i hi e => (by cases e), fun i hi _ => rfl, fun i hi _ => rfl, fun i hi c q hw hs => (by cases hs)⟩, 0, fun _ => 0, fun _ => 0, fun _ => 0, fun _ => 0, fun i hi => .idle0 rfl rfl rfl rfl rfl rfl rfl, ?_, fun i hi e => (by cases e), fun i j hi hj e => (by cases e), fun i hi e => (by cases e), fun i hi => ka_none (.inl rfl)⟩
  show wordAt (wfXs k b) 0 = _
  rw [(wf_at k b).1, sumN_zero (fun _ _ => rfl)]
theorem wf_bound (h : WfInv b k mode m) : FQ (worthG k) k m ≤ k * (22 * k + 20) := by
  have g := h.gen
  obtain ⟨_, o, c, q, tk, y, hI⟩ := h
  have h1 : sumN (shareQ (worthG k) k m) k ≤ sumN (fun _ => 22 * k + 17) k := sumN_le fun i hi => by
    unfold shareQ
    have a2 : stp (m.rs i).s ≤ 4 := by
      rcases g.sr i hi with e | e | e | e | e <;> rw [e] <;> decide
    cases hon : (m.rs i).k.on
    · have a1 := swp_off k hon
      have a3 : worthG k (ownW m.xs) (m.hold i) (m.rs i) ≤ 22 * k + 13 := by
        have i1 := idleG_le k (m.hold i)
        have i2 := idleG_le k (behindI (m.rs i).op (m.rs i).ret (m.hold i))
        unfold worthG
        by_cases e : (m.rs i).op = 0
        · rw [if_pos e]; omega
        rw [if_neg e]
        by_cases e2 : (m.rs i).ret ≠ 0
        · rw [if_pos e2]; omega
        rw [if_neg e2]
        by_cases e3 : isDearG (m.rs i).op (m.rs i).line
        · rw [if_pos e3]; exact dearG_le _ _ _
        · rw [if_neg e3]; exact lineG_le _ _ _
      omega
    · have a1 : swp k (m.rs i).k ≤ 5 * k := by
        unfold swp
        rw [if_pos hon]
        have : 5 * (k - (m.rs i).k.i.toNat) ≤ 5 * k := by omega
        by_cases e2 : (m.rs i).k.hit = true
        · rw [if_pos e2]; omega
        · rw [if_neg e2]; omega
      have hr := (hI.f i hi).onR hon
      have a3 : worthG k (ownW m.xs) (m.hold i) (m.rs i) ≤ 11 * k + 2 := by
        have i1 := idleG_le k (m.hold i)
        have i2 := idleG_le k (behindI (m.rs i).op (m.rs i).ret (m.hold i))
        unfold worthG
        by_cases e : (m.rs i).op = 0
        · rw [if_pos e]; omega
        rw [if_neg e, if_pos (by rw [hr]; decide)]; omega
      omega
  have h2 : perms k m ≤ sumN (fun _ => 1) k := sumN_le fun i _ => by split <;> omega
  rw [sumN_const] at h1 h2
  unfold FQ
  have e1 : k * (22 * k + 20) = k * (22 * k + 17) + k * 3 := by rw [← Nat.mul_add]
  omega
theorem wf_alone (h : WfInv b k mode m) (ht : t < k) (h2 : m.hold t = 2) (i : Nat) (hi : i < k) (hn : i ≠ t) : m.hold i = 0 := by
  obtain ⟨_, o, c, q, tk, y, hI⟩ := h
  exact hI.alone ht h2 i hi hn
end
end Go.Proofs.Ytaeninikaalkjaa
set_option linter.unusedVariables false
set_option linter.unusedSimpArgs false
namespace Go.Proofs.Ytaeninikaalkjaa
theorem many_not {m : MV} {what : Int} : ∀ {n : Nat}, (∀ i, i < n → m.hold i ≠ what) → manyI m what n = 0
  | 0, _ => rfl
  | n + 1, h => by
    unfold manyI
    rw [if_neg (h n (by omega)), many_not (n := n) fun i hi => h i (by omega)]
theorem many_only {m : MV} {what : Int} {t : Nat} : ∀ {n : Nat}, m.hold t = what → (∀ i, i < n → i ≠ t → m.hold i ≠ what) → manyI m what n = if t < n then 1 else 0
  | 0, _, _ => rfl
  | n + 1, h, ho => by
    have ih := many_only (n := n) h fun i hi hn => ho i (by omega) hn
    unfold manyI
    rw [ih]
    by_cases e : n = t
    · subst e
      rw [if_pos h, if_neg (Nat.lt_irrefl _), if_pos (Nat.lt_succ_self _)]
    · rw [if_neg (ho n (by omega) e)]
      by_cases e2 : t < n
      · rw [if_pos e2, if_pos (by omega)]
      · rw [if_neg e2, if_neg (by omega)]
theorem excl_many {m : MV} {k : Nat} (h : ∀ t, t < k → m.hold t = 2 → ∀ i, i < k → i ≠ t → m.hold i = 0) : manyI m 2 k = 0 ∨ (manyI m 2 k = 1 ∧ manyI m 1 k = 0) := by
  by_cases e : ∃ t, t < k ∧ m.hold t = 2
  · obtain ⟨t, ht, h2⟩ := e
    right
    refine ⟨?_, many_not fun i hi => ?_⟩
    · rw [many_only h2 (fun i hi hn => by rw [h t ht h2 i hi hn]; decide), if_pos ht]
    · by_cases e : i = t
      · subst e; rw [h2]; decide
      · rw [h t ht h2 i hi e]; decide
  · left
    exact many_not fun i hi e2 => e ⟨i, hi, e2⟩
end Go.Proofs.Ytaeninikaalkjaa
namespace Go.Proofs.Ytaeninikaalkjaa
open Go.RowKit Go.ChangeShapes Go.WideShapes Go.Deep
section
variable {H : Type} {enc : TypeId × Value → H} {P : Program} {w : World} {base : Nat} {spare : Nat → Bool} {held : Bool}
theorem open_tab {t e : TypeId} {fs : Array Field} {fuel len cap : Nat} {A : Option Addr} {x : DataW H × List MemPlace} (ht : P.underlying t = some (.slice e)) (he : P.underlying e = some (.struct fs))
    (hone : oneCellFields P fs = true) (hC : P.cellsOf e = fs.size) (h0 : 0 < fs.size) (h : DataW.trod enc P w base spare held fuel t [.slice A len cap] = some x) :
    ∀ i, i < len → ∃ b o, A = some ⟨b, o, none⟩ ∧ b < w.heap.size ∧ ∀ j f, fs[j]? = some f → ∃ v n y, w.cell? ⟨b, o + (i * fs.size + j), none⟩ = some v ∧ DataW.trod enc P w base spare held n f.type [v] = some y := by
  intro i hi
  rcases open_slice ht h with ⟨hcs, _⟩ | ⟨a, len', cap', m, n, D, Pl, hcs, _, hl, _, hmm, _, hrow⟩
  · simp only [List.cons.injEq, Value.slice.injEq] at hcs
    omega
  · simp only [List.cons.injEq, Value.slice.injEq, and_true] at hcs
    obtain ⟨rfl, rfl, rfl⟩ := hcs
    have him : i < m := by rw [hmm]; split <;> omega
    obtain ⟨cs, hc, hy⟩ := hrow i him
    rw [hC] at hc
    obtain ⟨_, hlen, hat⟩ := World.cells?_some hc
    obtain ⟨ys, k, _, _, _, hyl, hf⟩ := DataW.trod_struct he hy
    have hcell : ∀ j, j < fs.size → ∃ v, cs[j]? = some v ∧ w.cell? (a.add (i * fs.size + j)) = some v := by
      intro j hj
      have hv : cs[j]? = some (cs[j]'(by omega)) := List.getElem?_eq_getElem (by omega)
      exact ⟨_, hv, by rw [← Go.Deep.add_add, hat j hj, hv]⟩
    obtain ⟨b, o, spot⟩ := a
    have hspot : spot = none := by
      obtain ⟨cs0, hc0, _⟩ := hrow 0 (by omega)
      rw [hC] at hc0
      obtain ⟨_, hlen0, hat0⟩ := World.cells?_some hc0
      have e := hat0 0 h0
      have hv : cs0[0]? = some (cs0[0]'(by omega)) := List.getElem?_eq_getElem (by omega)
      rw [hv] at e
      simpa [Addr.add] using World.cell?_spot e
    subst hspot
    refine ⟨b, o, rfl, ?_, fun j f hj => ?_⟩
    · obtain ⟨v, _, hv⟩ := hcell 0 h0
      have := World.block_lt_of_cell? w _ hv
      rwa [add_block] at this
    · have hjl : j < fs.size := (Array.getElem?_eq_some_iff.1 hj).1
      obtain ⟨ho, hk⟩ := hone_of hone j f hj
      obtain ⟨v, hv, hcv⟩ := hcell j hjl
      have h1 := hf j f hj
      rw [ho, hk, List.drop_eq_getElem_cons (by omega)] at h1
      have hys : ys[j]? = some (ys[j]'(by omega)) := List.getElem?_eq_getElem (by omega)
      rw [List.getElem?_eq_getElem (by omega)] at hv
      injection hv with hv
      rw [hv] at h1
      refine ⟨v, k, _, by rw [← add_at]; exact hcv, h1.trans hys⟩
end
end Go.Proofs.Ytaeninikaalkjaa
set_option linter.unusedVariables false
set_option linter.unusedSimpArgs false
namespace Go.Proofs.Ytaeninikaalkjaa
open Go.RowKit
def IsTurns (w : World) (A : Option Addr) (len : Nat) : Prop := ∀ i, i < len → ∃ b q a c, A = some ⟨b, q, none⟩ ∧ b < w.heap.size ∧
  w.cell? ⟨b, q + i * 2, none⟩ = some (.int .u8 a) ∧ w.cell? ⟨b, q + i * 2 + 1, none⟩ = some (.int .u8 c) ∧ (0 ≤ a ∧ a < 256) ∧ (0 ≤ c ∧ c < 256)
theorem isTurns_of {H : Type} {enc : TypeId × Value → H} {w : World} {base : Nat} {spare : Nat → Bool} {held : Bool} {fuel len cap : Nat} {A : Option Addr} {x : DataW H × List MemPlace}
    (h : DataW.trod enc Try.prog w base spare held fuel 40 [.slice A len cap] = some x) : IsTurns w A len := by
  intro i hi
  obtain ⟨b, o, hA, hb, hf⟩ := open_tab Try.underlying40 Try.underlying45 (by kernel_rfl) (by kernel_rfl) (by decide) h i hi
  obtain ⟨v0, n0, y0, c0, t0⟩ := hf 0 _ rfl
  obtain ⟨v1, n1, y1, c1, t1⟩ := hf 1 _ rfl
  obtain ⟨z0, e0, _, wz0⟩ := DataW.trod_int Try.underlying5 t0
  obtain ⟨z1, e1, _, wz⟩ := DataW.trod_int Try.underlying5 t1
  simp only [List.cons.injEq, and_true] at e0 e1
  subst e0 e1
  exact ⟨b, o, z0, z1, hA, hb, c0, c1, wf_u8 wz0, wf_u8 wz⟩
end Go.Proofs.Ytaeninikaalkjaa
