import Derived.Deep.Slices
import Derived.Deep.Fields
import Derived.ChangeSame
import Derived.Test.YtkkldcggbekleaaChecked
import Derived.Test.YtkkldcggbekleaaG29
import Derived.Test.YtkkldcggbekleaaG3
import Derived.Test.YtkkldcggbekleaaG1
set_option linter.unusedVariables false
set_option linter.unusedSimpArgs false
namespace Go.Proofs.Ytkkldcggbekleaa
structure LockQ (L : LS → LS) (wt : WtG) (V : VG) (k : Nat) (mode : Int) (B : Nat) (Inv : Nat → MV → Prop) : Prop where
  k64 : 1 ≤ k ∧ k ≤ 64
  lines : LinesQ L wt
  worth : WorthQ V
  gen : ∀ p m, Inv p m → GenQ wt k mode m
  holds : ∀ p m, Inv p m → ∀ i, i < k → m.hold i = 0 ∨ m.hold i = 1 ∨ m.hold i = 2
  start : ∀ p m t op, Inv p m → t < k → (m.rs t).op = 0 → mayI op (m.hold t) = true → Inv p (m.start t op)
  go : ∀ p m t, Inv p m → p < B → t < k → (m.rs t).op ≠ 0 → (m.at t).stuck = false → Inv (p + 1) (m.go L t)
  up : ∀ p m, Inv p m → Inv (p + 1) m
  worthS : ∀ p m t, Inv p m → t < k → (m.rs t).op = 0 → (m.hold t = 1 ∨ m.hold t = 2) → V (ownW m.xs) (fromI (2 * m.hold t) (m.hold t)) (zeroF (m.at t) (2 * m.hold t)) ≤ V (ownW m.xs) (m.hold t) (m.rs t)
  worthD : ∀ p m t, Inv p m → t < k → (m.rs t).op ≠ 0 → ∀ c q, (m.rs t).k.on = false → wtR wt (m.rs t) = some (c, q) → (stepI m.xs k mode t (m.rs t).s c q).done = true → V (ownW m.xs) ((L (m.at t).fresh).finH (m.hold t)) (L (m.at t).fresh).finR + 4 ≤ V (ownW m.xs) (m.hold t) (m.rs t)
  worthN : ∀ p m t, Inv p m → t < k → (m.rs t).op ≠ 0 → ∀ c q, (m.rs t).k.on = false → wtR wt (m.rs t) = some (c, q) → (stepI m.xs k mode t (m.rs t).s c q).done = false → V (ownW m.xs) (m.hold t) (L (m.at t).fresh) ≤ V (ownW m.xs) (m.hold t) (m.rs t)
  plain : ∀ p m t, Inv p m → p < B → t < k → (m.rs t).op ≠ 0 → (m.rs t).k.on = false → wtR wt (m.rs t) = none → PlainLn (m.at t).fresh (L (m.at t).fresh)
  worthP : ∀ p m t, Inv p m → p < B → t < k → (m.rs t).op ≠ 0 → (m.rs t).k.on = false → wtR wt (m.rs t) = none → ∃ e, (∀ i, i < k → i ≠ t → V (ownW (L (m.at t).fresh).xs) (m.hold i) (m.rs i) ≤ V (ownW m.xs) (m.hold i) (m.rs i) + e) ∧ swp k (L (m.at t).fresh).finR.k + V (ownW (L (m.at t).fresh).xs) ((L (m.at t).fresh).finH (m.hold t)) (L (m.at t).fresh).finR + k * e < V (ownW m.xs) (m.hold t) (m.rs t)
  rest : ∀ p m, Inv p m → (∀ t, t < k → BlkQ wt k mode m t) → ∀ t, t < k → (m.rs t).op = 0 ∧ m.hold t = 0
structure SimQ (m m' : MV) : Prop where
  xs : m'.xs = m.xs
  hold : m'.hold = m.hold
  rs : ∀ i, Alk (m.rs i) (m'.rs i) ∧ (m'.rs i).s = (m.rs i).s ∧ (m'.rs i).k = (m.rs i).k
theorem alk_refl (r : LS) : Alk r r := ⟨rfl, rfl, rfl, rfl, rfl, rfl, rfl⟩
theorem simQ_refl (m : MV) : SimQ m m := ⟨rfl, rfl, fun i => ⟨alk_refl _, rfl, rfl⟩⟩
theorem Alk.trans {r r' r'' : LS} (h : Alk r r') (g : Alk r' r'') : Alk r r'' := ⟨g.n.trans h.n, g.task.trans h.task, g.op.trans h.op, g.line.trans h.line, g.ret.trans h.ret, g.a.trans h.a, g.b.trans h.b⟩
theorem SimQ.trans {m m' m'' : MV} (h : SimQ m m') (g : SimQ m' m'') : SimQ m m'' :=
  ⟨g.xs.trans h.xs, g.hold.trans h.hold, fun i => ⟨(h.rs i).1.trans (g.rs i).1, (g.rs i).2.1.trans (h.rs i).2.1, (g.rs i).2.2.trans (h.rs i).2.2⟩⟩
section
variable {L : LS → LS} {wt : WtG} {V : VG} {k : Nat} {mode : Int} {B : Nat} {Inv : Nat → MV → Prop} {m m' : MV} {p t : Nat}
theorem SimQ.pot (hV : WorthQ V) (h : SimQ m m') : FQ V k m' = FQ V k m := by
  unfold FQ perms
  rw [h.xs]
  congr 1
  refine sumN_congr fun i _ => ?_
  obtain ⟨a1, a5, a6⟩ := h.rs i
  unfold shareQ
  rw [a5, a6, h.hold, h.xs, hV.like _ _ _ _ a1]
theorem SimQ.blk (h : SimQ m m') (hb : BlkQ wt k mode m' t) : BlkQ wt k mode m t := by
  obtain ⟨a1, a5, a6⟩ := h.rs t
  unfold BlkQ at *
  rw [a1.wt, a1.op, a5, a6, h.hold, h.xs] at hb
  exact hb
theorem LockQ.play (H : LockQ L wt V k mode B Inv) (h : Inv p m) (hp : p < B) (ht : t < k) (op : Int) : Inv (p + 1) (playI L m t op) := by
  have go : ∀ m', Inv p m' → (m'.rs t).op ≠ 0 → Inv (p + 1) (m'.go L t) := fun m' h' h0 => by
    cases hs : (m'.at t).stuck
    · exact H.go p m' t h' hp ht h0 hs
    · rw [show m'.go L t = m' by unfold MV.go; rw [if_pos hs]]
      exact H.up p m' h'
  unfold playI
  split
  · rename_i h0
    split
    · rename_i hmay
      refine go _ (H.start p m t op h ht h0 hmay) ?_
      show (upd m.rs t (zeroF (m.at t) op) t).op ≠ 0
      rw [upd_same]
      show op ≠ 0
      rintro rfl
      unfold mayI at hmay
      split at hmay
      · revert hmay; decide
      · split at hmay <;> (revert hmay; decide)
    · exact H.up p m h
  · rename_i h0
    exact go m h h0
theorem LockQ.pick_less (H : LockQ L wt V k mode B Inv) (h : Inv p m) (hp : p < B) (ht : t < k) (hb : ¬ BlkQ wt k mode m t) : FQ V k (pickI L m t) < FQ V k m := by
  unfold pickI playI
  by_cases h0 : (m.at t).op = 0
  · rw [if_pos h0]
    have h00 : (m.rs t).op = 0 := h0
    have hh : m.hold t = 1 ∨ m.hold t = 2 := by
      rcases H.holds p m h t ht with e | e
      · exact absurd (.inl ⟨h0, e⟩) hb
      · exact e
    have hmay : mayI (2 * m.hold t) (m.hold t) = true := by rcases hh with e | e <;> rw [e] <;> decide
    rw [if_pos hmay]
    have hI := H.start p m t _ h ht h0 hmay
    have hw := H.worthS p m t h ht h0 hh
    have hg := H.gen p m h
    have hrs : (m.start t (2 * m.hold t)).rs t = zeroF (m.at t) (2 * m.hold t) := by show upd m.rs t _ t = _; rw [upd_same]
    have hne : ((m.start t (2 * m.hold t)).rs t).op ≠ 0 := by
      rw [hrs]; show 2 * m.hold t ≠ 0; omega
    have hF : FQ V k (m.start t (2 * m.hold t)) ≤ FQ V k m := by
      have hs := sum_move (f := shareQ V k m) (g := shareQ V k (m.start t (2 * m.hold t))) (k := k) (t := t) (e := 0) ht (fun i hi hn => by
        unfold shareQ MV.start MV.setR MV.setH
        dsimp only
        rw [upd_other _ _ hn, upd_other _ _ hn]
        exact Nat.le_refl _)
      have h1 : shareQ V k (m.start t (2 * m.hold t)) t ≤ shareQ V k m t := by
        unfold shareQ
        rw [hrs, show (m.start t (2 * m.hold t)).hold t = fromI (2 * m.hold t) (m.hold t) by show upd m.hold t _ t = _; rw [upd_same], show (m.start t (2 * m.hold t)).xs = m.xs from rfl]
        have e1 : swp k (zeroF (m.at t) (2 * m.hold t)).k = 0 := swp_off k rfl
        have e2 : stp (zeroF (m.at t) (2 * m.hold t)).s = 4 := rfl
        have e3 : stp (m.rs t).s = 4 := by
          have : (m.rs t).s = 0 := by
            by_cases e : (m.rs t).s = 0
            · exact e
            · obtain ⟨⟨c, q, e2⟩, _⟩ := hg.sw t ht e
              rw [H.lines.op0 _ h00] at e2; cases e2
          rw [this]; rfl
        omega
      unfold FQ
      rw [show perms k (m.start t (2 * m.hold t)) = perms k m from rfl]
      omega
    refine Nat.lt_of_lt_of_le (potq_go H.lines H.worth H.k64.2 (H.gen p _ hI) ht hne ?_ (H.worthD p _ t hI ht hne) (H.worthN p _ t hI ht hne) (H.plain p _ t hI hp ht hne) (H.worthP p _ t hI hp ht hne)).2 hF
    rintro (⟨e, _⟩ | ⟨_, _, c, q, e, _⟩)
    · exact hne e
    · rw [hrs] at e
      rw [H.lines.line0 _ rfl] at e; cases e
  · rw [if_neg h0]
    have h00 : (m.rs t).op ≠ 0 := h0
    exact (potq_go H.lines H.worth H.k64.2 (H.gen p m h) ht h00 hb (H.worthD p m t h ht h00) (H.worthN p m t h ht h00) (H.plain p m t h hp ht h00) (H.worthP p m t h hp ht h00)).2
theorem LockQ.pick_blk (H : LockQ L wt V k mode B Inv) (h : Inv p m) (ht : t < k) (hb : BlkQ wt k mode m t) : SimQ m (pickI L m t) := by
  have hg := H.gen p m h
  obtain ⟨c1, c2, c3⟩ := hg.cst t ht
  unfold pickI playI
  rcases hb with ⟨h0, hh⟩ | ⟨h0, hon, c, q, hw, hb⟩
  · rw [if_pos (show (m.at t).op = 0 from h0), hh]
    exact simQ_refl m
  · rw [if_neg (show ¬ (m.at t).op = 0 from h0)]
    rcases hb with ⟨hm, hq⟩ | ⟨hm, hs, hp⟩
    · have hst : (m.at t).stuck = false := by
        unfold LS.stuck stuckB
        show (!(m.rs t).k.on && ((m.rs t).mode == 2 && (m.rs t).s == 3 && _)) = false
        rw [c2, show (mode == 2) = false from beq_eq_false_iff_ne.2 hm]
        simp
      rw [go_eq hst]
      have W := H.lines.wait (m.at t).fresh c q hon hw
      obtain ⟨s1, s2, s3, s4, s5⟩ := H.lines.same (m.at t).fresh
      have hSR : (m.at t).fresh.stepR c q = stepI m.xs k mode t (m.rs t).s c q := by
        show stepI m.xs (m.rs t).n (m.rs t).mode (m.rs t).task (m.rs t).s c q = _
        rw [c1, c2, c3]
      have hR' : (m.at t).next L = L (m.at t).fresh := by
        unfold LS.next
        rw [if_neg (by show ¬ (m.rs t).k.on = true; rw [hon]; exact Bool.false_ne_true)]
      rw [hR']
      generalize L (m.at t).fresh = R at *
      have hxs := W.xs
      have hs' := W.s
      have hstay := W.stay
      have hA := W.a
      rw [hSR, stepI_spin hm] at hxs hs' hstay hA
      obtain ⟨l1, l2, l3⟩ := hstay hq
      have hno : R.over = false := by
        have : R.ret = 0 := l2.trans (hg.rt t ht hon)
        unfold LS.over; rw [this]; rfl
      rw [show R.finR = R by unfold LS.finR; rw [hno]; rfl, show R.finH (m.hold t) = m.hold t by unfold LS.finH; rw [hno]; rfl]
      refine ⟨hxs, ?_, fun i => ?_⟩
      · funext i
        show upd m.hold t (m.hold t) i = m.hold i
        unfold upd; split
        · rename_i e; rw [e]
        · rfl
      · by_cases e : i = t
        · subst e
          dsimp only
          rw [upd_same]
          exact ⟨⟨s1, s3, s4, l1, l2, hA hq, W.b⟩, by rw [hs', hg.sp i ht hm], W.k⟩
        · dsimp only
          rw [upd_other _ _ e]
          exact ⟨alk_refl _, rfl, rfl⟩
    · have hst : (m.at t).stuck = true := by
        unfold LS.stuck stuckB
        show (!(m.rs t).k.on && ((m.rs t).mode == 2 && (m.rs t).s == 3 && !hasP m.xs (m.rs t).n (m.rs t).task)) = true
        rw [hon, c1, c2, c3, hm, hs, hp]; rfl
      rw [show m.go L t = m by unfold MV.go; rw [if_pos hst]]
      exact simQ_refl m
theorem LockQ.round (H : LockQ L wt V k mode B Inv) (h : Inv p m) (hp : p + k ≤ B) : ∀ j, j ≤ k → Inv (p + j) (roundN L m j) ∧ (FQ V k (roundN L m j) < FQ V k m ∨ (SimQ m (roundN L m j) ∧ ∀ t, t < j → BlkQ wt k mode m t)) := by
  intro j
  induction j with
  | zero => exact fun _ => ⟨h, .inr ⟨simQ_refl m, fun t ht => absurd ht (Nat.not_lt_zero _)⟩⟩
  | succ j ih =>
    intro hj
    obtain ⟨hI, hF⟩ := ih (by omega)
    refine ⟨H.play hI (by omega) (by omega) _, ?_⟩
    show FQ V k (pickI L (roundN L m j) j) < FQ V k m ∨ (SimQ m (pickI L (roundN L m j) j) ∧ _)
    by_cases hb : BlkQ wt k mode (roundN L m j) j
    · have hs := H.pick_blk hI (by omega) hb
      rcases hF with hF | ⟨hS, hB⟩
      · exact .inl (by rw [hs.pot H.worth]; exact hF)
      · refine .inr ⟨hS.trans hs, fun t ht => ?_⟩
        by_cases e : t = j
        · subst e; exact hS.blk hb
        · exact hB t (by omega)
    · have hl := H.pick_less hI (by omega) (by omega) hb
      rcases hF with hF | ⟨hS, _⟩
      · exact .inl (by omega)
      · exact .inl (by rw [hS.pot H.worth] at hl; exact hl)
theorem LockQ.whole (H : LockQ L wt V k mode B Inv) (h : Inv p m) (hp : p + k ≤ B) {F j : Nat} (hF : AtRest k m ∨ FQ V k m + j ≤ F) : Inv (p + k) (roundN L m k) ∧ (AtRest k (roundN L m k) ∨ FQ V k (roundN L m k) + (j + 1) ≤ F) := by
  obtain ⟨hI, hR⟩ := H.round h hp k (Nat.le_refl _)
  refine ⟨hI, ?_⟩
  rcases hF with hF | hF
  · rw [done_round hF k (Nat.le_refl _)]; exact .inl hF
  · rcases hR with hR | ⟨_, hB⟩
    · exact .inr (by omega)
    · have hd : AtRest k m := H.rest p m h hB
      rw [done_round hd k (Nat.le_refl _)]; exact .inl hd
end
end Go.Proofs.Ytkkldcggbekleaa
set_option linter.unusedVariables false
set_option linter.unusedSimpArgs false
namespace Go.Proofs.Ytkkldcggbekleaa
def idleQ (k : Nat) (h : Int) : Nat := if h = 1 then 5 * k + 1 else if h = 2 then 5 * k + 7 else 0
def lineW (k : Nat) (op line : Int) : Nat :=
  match op, line with
  | 1, 0 => 15 * k + 17 | 1, 1 => 15 * k + 16 | 1, 2 => 15 * k + 15 | 1, 3 => 15 * k + 14 | 1, 4 => 10 * k + 13 | 1, 5 => 10 * k + 9 | 1, 6 => 10 * k + 8 | 1, 7 => 10 * k + 7 | 1, 8 => 10 * k + 6 | 1, 9 => 10 * k + 2
  | 2, 0 => 5 * k + 1
  | 3, 0 => 10 * k + 19 | 3, 1 => 10 * k + 18 | 3, 2 => 10 * k + 17 | 3, 3 => 10 * k + 16 | 3, 4 => 5 * k + 15 | 3, 5 => 5 * k + 11
  | 4, 0 => 5 * k + 7 | 4, 1 => 5 * k + 6 | 4, 2 => 5 * k + 5 | 4, 3 => 5 * k + 1
  | 5, 0 => 10 * k + 11 | 5, 1 => 10 * k + 10 | 5, 5 => 10 * k + 9 | 5, 6 => 10 * k + 8 | 5, 7 => 10 * k + 7 | 5, 8 => 10 * k + 6 | 5, 9 => 10 * k + 2
  | 6, 0 => 5 * k + 10 | 6, 1 => 5 * k + 9 | 6, 2 => 5 * k + 8 | 6, 6 => 5 * k + 7 | 6, 7 => 5 * k + 6 | 6, 8 => 5 * k + 5 | 6, 9 => 5 * k + 1
  | 7, 0 => 10 * k + 11 | 7, 1 => 10 * k + 10 | 7, 2 => 10 * k + 9 | 7, 3 => 5 * k + 8 | 7, 6 => 10 * k + 8 | 7, 7 => 10 * k + 7 | 7, 8 => 10 * k + 6 | 7, 9 => 10 * k + 2
  | 8, 0 => 10 * k + 9 | 8, 1 => 10 * k + 8 | 8, 2 => 10 * k + 7 | 8, 3 => 10 * k + 6 | 8, 4 => 10 * k + 2
  | _, _ => 0
def worthQ (k : Nat) : VG := fun _ h r => if r.op = 0 then idleQ k h else if r.ret ≠ 0 then idleQ k (behindI r.op r.ret h) else lineW k r.op r.line
section
variable {k : Nat} {w w' : Int → Int} {r R : LS} {h : Int}
theorem worthq_ok (k : Nat) : WorthQ (worthQ k) where
  like w h r r' a := by unfold worthQ; rw [a.op, a.line, a.ret]
  over w h r hr := by
    show (if (0 : Int) = 0 then idleQ k (behindI r.op r.ret h) else _) ≤ _
    rw [if_pos rfl]
    unfold worthQ
    by_cases e : r.op = 0
    · rw [if_pos e, e]
      have : behindI 0 r.ret h = h := by
        unfold behindI
        by_cases e2 : r.ret = 2
        · rw [if_neg (by simpa using e2)]; rfl
        · rw [if_pos e2]
      rw [this]; exact Nat.le_refl _
    · rw [if_neg e, if_pos hr]; exact Nat.le_refl _
def comes (k : Nat) (w : Int → Int) (h : Int) (R : LS) : Nat := swp k R.finR.k + worthQ k w (R.finH h) R.finR
theorem comes_stay (hr : R.ret = 0) (ho : R.op ≠ 0) : comes k w h R = swp k R.k + lineW k R.op R.line := by
  have e0 : R.over = false := by unfold LS.over; rw [hr]; rfl
  unfold comes
  rw [show R.finR = R by unfold LS.finR; rw [e0]; rfl]
  unfold worthQ
  rw [if_neg ho, if_neg (by rw [hr]; simp)]
theorem comes_end (hr : R.ret ≠ 0) (ho : R.op ≠ 0) : comes k w h R ≤ swp k R.k + idleQ k (behindI R.op R.ret h) := by
  unfold comes
  cases hon : R.k.on
  · have e0 : R.over = true := by unfold LS.over; rw [hon]; simpa using hr
    rw [show R.finR = zeroF R 0 by unfold LS.finR; rw [e0]; rfl, show R.finH h = behindI R.op R.ret h by unfold LS.finH; rw [e0]; rfl, show swp k (zeroF R 0).k = 0 from swp_off k rfl]
    show 0 + idleQ k (behindI R.op R.ret h) ≤ _
    omega
  · have e0 : R.over = false := by unfold LS.over; rw [hon]; simp
    rw [show R.finR = R by unfold LS.finR; rw [e0]; rfl, show R.finH h = h by unfold LS.finH; rw [e0]; rfl]
    unfold worthQ
    rw [if_neg ho, if_pos hr]
    exact Nat.le_refl _
theorem worth_line (ho : r.op ≠ 0) (hr : r.ret = 0) : worthQ k w h r = lineW k r.op r.line := by
  unfold worthQ; rw [if_neg ho, if_neg (by rw [hr]; simp)]
theorem swp_beg (hb : R.k = r.k ∨ ∃ c, R.k = beginI r.mode c) (hon : r.k.on = false) : swp k R.k ≤ 5 * k := by
  rcases hb with e | ⟨c, e⟩
  · rw [e, swp_off k hon]; omega
  · rw [e]; exact swp_begin k _ _
theorem give_W {hv op a : Int} {ok : Bool} {wh : List Int} {c : Nat} (g : GiveK hv op a ok wh c) : lineW k op (a + 1) < lineW k op a ∧ lineW k op (a + 3) < lineW k op a ∧ lineW k op (a + 2) < lineW k op (a + 1) ∧ idleQ k (behindI op (if ok then 2 else 1) hv) < lineW k op (a + 1) ∧ lineW k op (a + 3) + 4 ≤ lineW k op (a + 2) ∧ 5 * k + idleQ k (behindI op (if ok then 2 else 1) hv) < lineW k op (a + 3) := by
  cases g with
  | r1 => exact ⟨by show 10 * k + 7 < 10 * k + 8; omega, by show 10 * k + 2 < 10 * k + 8; omega, by show 10 * k + 6 < 10 * k + 7; omega, by show 5 * k + 1 < 10 * k + 7; omega, by show 10 * k + 2 + 4 ≤ 10 * k + 6; omega, by show 5 * k + (5 * k + 1) < 10 * k + 2; omega⟩
  | r5 => exact ⟨by show 10 * k + 7 < 10 * k + 8; omega, by show 10 * k + 2 < 10 * k + 8; omega, by show 10 * k + 6 < 10 * k + 7; omega, by show 5 * k + 1 < 10 * k + 7; omega, by show 10 * k + 2 + 4 ≤ 10 * k + 6; omega, by show 5 * k + (5 * k + 1) < 10 * k + 2; omega⟩
  | t7 => exact ⟨by show 10 * k + 7 < 10 * k + 8; omega, by show 10 * k + 2 < 10 * k + 8; omega, by show 10 * k + 6 < 10 * k + 7; omega, by show 5 * k + 1 < 10 * k + 7; omega, by show 10 * k + 2 + 4 ≤ 10 * k + 6; omega, by show 5 * k + (5 * k + 1) < 10 * k + 2; omega⟩
  | d8 => exact ⟨by show 10 * k + 7 < 10 * k + 8; omega, by show 10 * k + 2 < 10 * k + 8; omega, by show 10 * k + 6 < 10 * k + 7; omega, by show 5 * k + 1 < 10 * k + 7; omega, by show 10 * k + 2 + 4 ≤ 10 * k + 6; omega, by show 5 * k + (5 * k + 1) < 10 * k + 2; omega⟩
  | u4 => exact ⟨by show 5 * k + 6 < 5 * k + 7; omega, by show 5 * k + 1 < 5 * k + 7; omega, by show 5 * k + 5 < 5 * k + 6; omega, by show 0 < 5 * k + 6; omega, by show 5 * k + 1 + 4 ≤ 5 * k + 5; omega, by show 5 * k + 0 < 5 * k + 1; omega⟩
  | l6 => exact ⟨by show 5 * k + 6 < 5 * k + 7; omega, by show 5 * k + 1 < 5 * k + 7; omega, by show 5 * k + 5 < 5 * k + 6; omega, by show 0 < 5 * k + 6; omega, by show 5 * k + 1 + 4 ≤ 5 * k + 5; omega, by show 5 * k + 0 < 5 * k + 1; omega⟩
theorem lineW_le (k : Nat) (op line : Int) : lineW k op line ≤ 15 * k + 19 := by
  unfold lineW
  split <;> omega
theorem idleQ_le (k : Nat) (h : Int) : idleQ k h ≤ 15 * k + 19 := by
  unfold idleQ
  by_cases e : h = 1
  · rw [if_pos e]; omega
  · rw [if_neg e]
    by_cases e2 : h = 2
    · rw [if_pos e2]; omega
    · rw [if_neg e2]; omega
end
end Go.Proofs.Ytkkldcggbekleaa
set_option linter.unusedVariables false
set_option linter.unusedSimpArgs false
namespace Go.Proofs.Ytkkldcggbekleaa
section
variable {k t : Nat} {mode : Int} {s : QS} {qp c : Nat → Nat} {m : MV}
set_option maxHeartbeats 1000000 in
theorem worthq_plain (w w' : Int → Int) (h : FqI k s qp c m) (ht : t < k) (hop : (m.rs t).op ≠ 0) (hret : (m.rs t).ret = 0) (hon : (m.rs t).k.on = false) (hw : wtR wtQ (m.rs t) = none) : comes k w' (m.hold t) (m.at t).fresh.fq < worthQ k w (m.hold t) (m.rs t) := by
  have hb := swp_beg (k := k) (plain_p h ht hop hon hw).2 hon
  have hso : (m.at t).fresh.fq.op = (m.rs t).op := (lines_fq.same (m.at t).fresh).2.2.2.1
  rw [worth_line hop hret]
  have stay : ∀ (R : LS) (l : Int) (n : Nat), R.op = (m.rs t).op → R.ret = 0 → R.line = l → swp k R.k ≤ n → n + lineW k (m.rs t).op l < lineW k (m.rs t).op (m.rs t).line → comes k w' (m.hold t) R < lineW k (m.rs t).op (m.rs t).line := fun R l n e1 e2 e3 e4 e5 => by
    rw [comes_stay e2 (by rw [e1]; exact hop), e1, e3]; omega
  have fin : ∀ (R : LS) (b : Int) (n : Nat), R.op = (m.rs t).op → R.ret = b → b ≠ 0 → swp k R.k ≤ n → n + idleQ k (behindI (m.rs t).op b (m.hold t)) < lineW k (m.rs t).op (m.rs t).line → comes k w' (m.hold t) R < lineW k (m.rs t).op (m.rs t).line := fun R b n e1 e2 e3 e4 e5 => by
    have := comes_end (k := k) (w := w') (h := m.hold t) (R := R) (by rw [e2]; exact e3) (by rw [e1]; exact hop)
    rw [e1, e2] at this; omega
  have off : ∀ R : LS, R.k = (m.rs t).k → swp k R.k ≤ 0 := fun R e => by rw [e, swp_off k hon]; exact Nat.le_refl _
  have F := h.f t ht
  cases F with
  | idle0 ho => exact absurd ho hop
  | idle1 ho => exact absurd ho hop
  | idle2 ho => exact absurd ho hop
  | ent j ho hj hl hr hh hq hc =>
    rw [fq_enter (r := (m.at t).fresh) ho hl hj] at hb hso ⊢
    generalize (if (m.at t).fresh.op = 1 then (1 : Int) else 2) = cl at *
    have h5 : j = 0 ∨ j = 1 ∨ j = 2 ∨ j = 3 ∨ j = 4 := by omega
    rcases h5 with rfl | rfl | rfl | rfl | rfl
    · rw [qEnter_0 (r := (m.at t).fresh) hl] at *
      refine stay _ 1 0 hso hret rfl (off _ rfl) ?_
      rw [hl]; rcases ho with ho | ho <;> rw [ho]
      · show 0 + (15 * k + 16) < 15 * k + 17; omega
      · show 0 + (10 * k + 18) < 10 * k + 19; omega
    · rw [qEnter_1 (r := (m.at t).fresh) hl] at *
      refine stay _ 2 0 hso hret rfl (off _ rfl) ?_
      rw [hl]; rcases ho with ho | ho <;> rw [ho]
      · show 0 + (15 * k + 15) < 15 * k + 16; omega
      · show 0 + (10 * k + 17) < 10 * k + 18; omega
    · rw [qEnter_2 (r := (m.at t).fresh) hl] at *
      obtain ⟨f1, f2, f3, f4, f5⟩ := swapIn_fr (m.at t).fresh 0 cl
      have f1' : ((m.at t).fresh.swapIn 0 cl).op = (m.rs t).op := f1.trans rfl
      have f4' : ((m.at t).fresh.swapIn 0 cl).k = (m.rs t).k := f4.trans rfl
      generalize (m.at t).fresh.swapIn 0 cl = R0 at *
      by_cases e : wordAt (m.at t).fresh.xs 0 = 0
      · rw [if_pos e]
        refine stay (R0.go 5) 5 0 f1' (f3.trans hret) rfl (off _ f4') ?_
        rw [hl]; rcases ho with ho | ho <;> rw [ho]
        · show 0 + (10 * k + 9) < 15 * k + 15; omega
        · show 0 + (5 * k + 11) < 10 * k + 17; omega
      · rw [if_neg e]
        refine stay (R0.go 3) 3 0 f1' (f3.trans hret) rfl (off _ f4') ?_
        rw [hl]; rcases ho with ho | ho <;> rw [ho]
        · show 0 + (15 * k + 14) < 15 * k + 15; omega
        · show 0 + (10 * k + 16) < 10 * k + 17; omega
    · rw [qEnter_3 (r := (m.at t).fresh) hl] at *
      obtain ⟨f1, f2, f3, f5⟩ := link_fr (m.at t).fresh
      generalize (m.at t).fresh.link = R0 at *
      refine stay _ 4 (5 * k) hso (f3.trans hret) f2 hb ?_
      rw [hl]; rcases ho with ho | ho <;> rw [ho]
      · show 5 * k + (10 * k + 13) < 15 * k + 14; omega
      · show 5 * k + (5 * k + 15) < 10 * k + 16; omega
    · rw [wtQ_enter (r := m.rs t) ho hl] at hw; cases hw
  | tr j ho hj hl hr hh hq hc | tr7 j ho hj hl hr hh hq hc =>
    rw [fq_try (r := (m.at t).fresh) (by show (m.rs t).op = 5 ∨ (m.rs t).op = 6 ∨ (m.rs t).op = 7; omega) hl hj] at hb hso ⊢
    have ho' : (m.rs t).op = 5 ∨ (m.rs t).op = 6 ∨ (m.rs t).op = 7 := by omega
    have hb0 : behindI (m.rs t).op 1 (m.hold t) = m.hold t := if_pos (by decide)
    have h5 : j = 0 ∨ j = 1 := by omega
    rcases h5 with rfl | rfl
    · rw [qTry_0 (r := (m.at t).fresh) hl] at *
      refine stay _ 1 0 hso hret rfl (off _ rfl) ?_
      rw [hl]; rcases ho' with ho | ho | ho <;> rw [ho]
      · show 0 + (10 * k + 10) < 10 * k + 11; omega
      · show 0 + (5 * k + 9) < 5 * k + 10; omega
      · show 0 + (10 * k + 10) < 10 * k + 11; omega
    · rw [qTry_1 (r := (m.at t).fresh) hl] at *
      obtain ⟨f1, f2, f3, f4, f5⟩ := doA_fr (m.at t).fresh 5 0 0 (m.at t).fresh.me
      have f1' : ((m.at t).fresh.doA 5 0 0 (m.at t).fresh.me).op = (m.rs t).op := f1.trans rfl
      have f4' : ((m.at t).fresh.doA 5 0 0 (m.at t).fresh.me).k = (m.rs t).k := f4.trans rfl
      generalize (m.at t).fresh.doA 5 0 0 (m.at t).fresh.me = R0 at *
      cases there (m.at t).fresh.xs 0 && (wordAt (m.at t).fresh.xs 0 == 0)
      · rw [if_neg Bool.false_ne_true]
        refine fin ((R0.note 5 0).fin false) 1 0 f1' rfl (by decide) (off _ f4') ?_
        rw [hb0, hh, hl]; rcases ho' with ho | ho | ho <;> rw [ho]
        all_goals first
          | (show 0 + 0 < 10 * k + 10; omega)
          | (show 0 + 0 < 5 * k + 9; omega)
          | (show 0 + (5 * k + 1) < 10 * k + 10; omega)
          | (exfalso; omega)
      · rw [if_pos rfl]
        by_cases e : (m.at t).fresh.op = 5
        · rw [if_pos e]
          refine stay ((R0.note 2 1).go 5) 5 0 f1' (f3.trans hret) rfl (off _ f4') ?_
          rw [hl, show (m.rs t).op = 5 from e]
          show 0 + (10 * k + 9) < 10 * k + 10; omega
        · rw [if_neg e]
          refine stay ((R0.note 2 2).go 2) 2 0 f1' (f3.trans hret) rfl (off _ f4') ?_
          have e' : (m.rs t).op ≠ 5 := e
          rw [hl]; rcases ho' with ho | ho | ho
          · exact absurd ho e'
          · rw [ho]; show 0 + (5 * k + 8) < 5 * k + 9; omega
          · rw [ho]; show 0 + (10 * k + 9) < 10 * k + 10; omega
  | cnt ho hl hr hh hq hc =>
    rw [fq_cnt (r := (m.at t).fresh) ho hl] at *
    refine stay _ 6 0 hso hret rfl (off _ rfl) ?_
    rw [hl]; rcases ho with ho | ho <;> rw [ho]
    · show 0 + (10 * k + 8) < 10 * k + 9; omega
    · show 0 + (10 * k + 8) < 10 * k + 9; omega
  | wait ho hl hr hh hq hc => rw [wtQ_wait (r := m.rs t) ho hl] at hw; cases hw
  | rel ho hl hr hh hq hc =>
    rw [fq_rel (r := (m.at t).fresh) ho hl] at *
    refine fin _ 2 (5 * k) hso rfl (by decide) hb ?_
    rw [ho, hl, hh]
    show 5 * k + 0 < 5 * k + 1; omega
  | we6 ho hl hr hh hq hc =>
    rw [fq_we6 (r := (m.at t).fresh) ho hl] at *
    obtain ⟨f1, f2, f3, f4, f5, f6⟩ := qCount_fr (m.at t).fresh
    have f1' : (m.at t).fresh.qCount.op = (m.rs t).op := f1.trans rfl
    have f4' : (m.at t).fresh.qCount.k = (m.rs t).k := f4.trans rfl
    generalize (m.at t).fresh.qCount = R0 at *
    by_cases e : wordAt (m.at t).fresh.xs 1 = 0
    · rw [if_pos e]
      refine fin ((R0.note 4 0).fin true) 2 0 f1' rfl (by decide) (off _ f4') ?_
      rw [ho, hl, hh]; show 0 + (5 * k + 7) < 5 * k + 8; omega
    · rw [if_neg e]
      refine stay ((R0.note 5 0).go 6) 6 0 f1' (f3.trans hret) rfl (off _ f4') ?_
      rw [ho, hl]; show 0 + (5 * k + 7) < 5 * k + 8; omega
  | we7 ho hl hr hh hq hc =>
    rw [fq_we7 (r := (m.at t).fresh) ho hl] at *
    obtain ⟨f1, f2, f3, f4, f5, f6⟩ := qCount_fr (m.at t).fresh
    have f1' : (m.at t).fresh.qCount.op = (m.rs t).op := f1.trans rfl
    have f4' : (m.at t).fresh.qCount.k = (m.rs t).k := f4.trans rfl
    generalize (m.at t).fresh.qCount = R0 at *
    by_cases e : wordAt (m.at t).fresh.xs 1 = 1
    · rw [if_pos e]
      refine stay (R0.go 3) 3 0 f1' (f3.trans hret) rfl (off _ f4') ?_
      rw [ho, hl]; show 0 + (5 * k + 8) < 10 * k + 9; omega
    · rw [if_neg e]
      refine stay ((R0.note 5 0).go 6) 6 0 f1' (f3.trans hret) rfl (off _ f4') ?_
      rw [ho, hl]; show 0 + (10 * k + 8) < 10 * k + 9; omega
  | up ho hl hr hh hq hc =>
    rw [fq_up (r := (m.at t).fresh) ho hl] at *
    obtain ⟨f1, f2, f3, f4, f5⟩ := doA_fr (m.at t).fresh 3 1 4294967295 0
    have f1' : ((m.at t).fresh.doA 3 1 4294967295 0).op = (m.rs t).op := f1.trans rfl
    have f4' : ((m.at t).fresh.doA 3 1 4294967295 0).k = (m.rs t).k := f4.trans rfl
    generalize (m.at t).fresh.doA 3 1 4294967295 0 = R0 at *
    refine fin ((R0.note 9 0).fin true) 2 0 f1' rfl (by decide) (off _ f4') ?_
    rw [ho, hl, hh]; show 0 + (5 * k + 7) < 5 * k + 8; omega
  | down ho hl hr hh hq hc =>
    rw [fq_down (r := (m.at t).fresh) ho hl] at *
    refine stay _ 1 0 hso hret rfl (off _ rfl) ?_
    rw [ho, hl]; show 0 + (10 * k + 8) < 10 * k + 9; omega
  | give j a ok wh hg hj hl hr hq =>
    obtain ⟨g1, g2, g3, g4, g5, g6⟩ := give_W (k := k) hg
    rw [fq_give (r := (m.at t).fresh) hg rfl hl hj] at hb hso ⊢
    have hok : (if ok then (2 : Int) else 1) ≠ 0 := by cases ok <;> decide
    have h5 : j = 0 ∨ j = 1 ∨ j = 2 ∨ j = 3 := by omega
    rcases h5 with rfl | rfl | rfl | rfl
    · have hl' : (m.rs t).line = a := by omega
      rw [qGive_0 (r := (m.at t).fresh) hl'] at *
      obtain ⟨f1, f2, f3, f4, f5⟩ := peek_fr (m.at t).fresh
      have f1' : (m.at t).fresh.peek.op = (m.rs t).op := f1.trans rfl
      have f4' : (m.at t).fresh.peek.k = (m.rs t).k := f4.trans rfl
      generalize (m.at t).fresh.peek = R0 at *
      by_cases e : wordAt (m.at t).fresh.xs (nc (m.at t).fresh.n (m.at t).fresh.task) = 0
      · rw [if_pos e]
        exact stay (R0.go (a + 1)) (a + 1) 0 f1' (f3.trans hret) rfl (off _ f4') (by rw [hl']; omega)
      · rw [if_neg e]
        exact stay (R0.go (a + 3)) (a + 3) 0 f1' (f3.trans hret) rfl (off _ f4') (by rw [hl']; omega)
    · have hl' : (m.rs t).line = a + 1 := by omega
      rw [qGive_1 (r := (m.at t).fresh) hl'] at *
      obtain ⟨f1, f2, f3, f4, f5⟩ := doA_fr (m.at t).fresh 5 0 (m.at t).fresh.me 0
      have f1' : ((m.at t).fresh.doA 5 0 (m.at t).fresh.me 0).op = (m.rs t).op := f1.trans rfl
      have f4' : ((m.at t).fresh.doA 5 0 (m.at t).fresh.me 0).k = (m.rs t).k := f4.trans rfl
      generalize (m.at t).fresh.doA 5 0 (m.at t).fresh.me 0 = R0 at *
      obtain ⟨n1, n2, n3, n4, n5, n6, n7, n8, _⟩ := notes_same R0 wh
      by_cases e : (m.at t).fresh.casOut 0 = true
      · rw [if_pos e]
        exact fin ((R0.notes wh).fin ok) (if ok then 2 else 1) 0 (n8.trans f1') rfl hok (off _ (n4.trans f4')) (by rw [hl']; omega)
      · rw [if_neg e]
        exact stay (R0.go (a + 2)) (a + 2) 0 f1' (f3.trans hret) rfl (off _ f4') (by rw [hl']; omega)
    · rw [wtQ_give (r := m.rs t) hg rfl (by omega)] at hw; cases hw
    · have hl' : (m.rs t).line = a + 3 := by omega
      rw [qGive_3 (r := (m.at t).fresh) hl'] at *
      generalize (m.at t).fresh.handOn wh = R0 at *
      exact fin (R0.fin ok) (if ok then 2 else 1) (5 * k) hso rfl hok hb (by rw [hl']; omega)
  | gave a ok w hgk hr hon' => rw [hon] at hon'; cases hon'
  | reld ho hr hh hon' => rw [hon] at hon'; cases hon'
theorem waits_at (h : FqI k s qp c m) (hg : GenQ wtQ k mode m) (ht : t < k) (hon : (m.rs t).k.on = false) {d : Int} {q : Int → Bool} (hw : wtR wtQ (m.rs t) = some (d, q)) :
    (qp t = 5 ∧ c t = 0 ∧ d = bc k t ∧ q = isZ ∧ ((m.rs t).op = 1 ∨ (m.rs t).op = 3) ∧ (m.rs t).line = 4 ∧ m.hold t = 0) ∨ (qp t = 6 ∧ c t = 0 ∧ d = 1 ∧ q = isZ ∧ (m.rs t).op = 3 ∧ (m.rs t).line = 5 ∧ m.hold t = 0) ∨ (qp t = 9 ∧ d = nc k t ∧ q = isN ∧ ∃ a ok w, GiveK (m.hold t) (m.rs t).op a ok w (c t) ∧ (m.rs t).line = a + 2) := by
  obtain ⟨c1, c2, c3⟩ := hg.cst t ht
  have hw' : wtQ (m.rs t).n (m.rs t).task (m.rs t).op (m.rs t).line (m.rs t).a (m.rs t).b = some (d, q) := hw
  unfold wtQ at hw'
  rw [c1, c3] at hw'
  have F := h.f t ht
  by_cases e1 : ((m.rs t).op = 1 ∨ (m.rs t).op = 3) ∧ (m.rs t).line = 4
  · rw [if_pos e1] at hw'
    obtain ⟨rfl, rfl⟩ := Prod.mk.inj (Option.some.inj hw')
    refine .inl ?_
    cases F with
    | ent j ho hj hl hr hh hq hc => exact ⟨by omega, hc, rfl, rfl, ho, e1.2, hh⟩
    | give j a ok w hgk hj hl hr hq =>
      exfalso
      generalize (m.rs t).op = op at *
      generalize m.hold t = hv at *
      generalize c t = cv at *
      cases hgk <;> omega
    | gave a ok w hgk hr hon' => rw [hon] at hon'; cases hon'
    | _ => omega
  rw [if_neg e1] at hw'
  by_cases e2 : (m.rs t).op = 3 ∧ (m.rs t).line = 5
  · rw [if_pos e2] at hw'
    obtain ⟨rfl, rfl⟩ := Prod.mk.inj (Option.some.inj hw')
    refine .inr (.inl ?_)
    cases F with
    | wait ho hl hr hh hq hc => exact ⟨hq, hc, rfl, rfl, ho, hl, hh⟩
    | give j a ok w hgk hj hl hr hq => exact absurd e2.1 hgk.op7.1
    | gave a ok w hgk hr hon' => rw [hon] at hon'; cases hon'
    | _ => omega
  rw [if_neg e2] at hw'
  by_cases e3 : (((m.rs t).op = 1 ∨ (m.rs t).op = 5 ∨ (m.rs t).op = 6 ∨ (m.rs t).op = 7) ∧ (m.rs t).line = 8) ∨ ((m.rs t).op = 4 ∧ (m.rs t).line = 2) ∨ ((m.rs t).op = 8 ∧ (m.rs t).line = 3)
  · rw [if_pos e3] at hw'
    obtain ⟨rfl, rfl⟩ := Prod.mk.inj (Option.some.inj hw')
    refine .inr (.inr ?_)
    cases F with
    | give j a ok w hgk hj hl hr hq =>
      have hj2 : j = 2 := by
        generalize (m.rs t).op = op at *
        generalize m.hold t = hv at *
        generalize c t = cv at *
        cases hgk <;> omega
      subst hj2
      exact ⟨hq, rfl, rfl, a, ok, w, hgk, by omega⟩
    | gave a ok w hgk hr hon' => rw [hon] at hon'; cases hon'
    | _ => omega
  · rw [if_neg e3] at hw'; cases hw'
theorem worthq_done (hk : k ≤ 64) (w : Int → Int) (hg : GenQ wtQ k mode m) (h : FqI k s qp c m) (ht : t < k) (hop : (m.rs t).op ≠ 0) (hon : (m.rs t).k.on = false) {d : Int} {q : Int → Bool} (hw : wtR wtQ (m.rs t) = some (d, q)) (hd : (stepI m.xs k mode t (m.rs t).s d q).done = true) : worthQ k w ((m.at t).fresh.fq.finH (m.hold t)) (m.at t).fresh.fq.finR + 4 ≤ worthQ k w (m.hold t) (m.rs t) := by
  obtain ⟨c1, c2, c3⟩ := hg.cst t ht
  have hret := hg.rt t ht hon
  have W := lines_fq.wait (m.at t).fresh d q hon hw
  have hso : (m.at t).fresh.fq.op = (m.rs t).op := (lines_fq.same (m.at t).fresh).2.2.2.1
  have hd' : ((m.at t).fresh.stepR d q).done = true := by
    show (stepI m.xs (m.rs t).n (m.rs t).mode (m.rs t).task (m.rs t).s d q).done = true
    rw [c1, c2, c3]; exact hd
  rw [worth_line hop hret]
  have hc : ∀ x, comes k w (m.hold t) (m.at t).fresh.fq ≤ x → worthQ k w ((m.at t).fresh.fq.finH (m.hold t)) (m.at t).fresh.fq.finR ≤ x := fun x e => by unfold comes at e; omega
  have hk0 : swp k (m.at t).fresh.fq.k = 0 := by rw [W.k]; exact swp_off k hon
  have stay : ∀ l : Int, (m.at t).fresh.fq.ret = 0 → (m.at t).fresh.fq.line = l → lineW k (m.rs t).op l + 4 ≤ lineW k (m.rs t).op (m.rs t).line → worthQ k w ((m.at t).fresh.fq.finH (m.hold t)) (m.at t).fresh.fq.finR + 4 ≤ lineW k (m.rs t).op (m.rs t).line := fun l e1 e2 e3 => by
    have := hc _ (Nat.le_of_eq (comes_stay (w := w) (h := m.hold t) e1 (by rw [hso]; exact hop)))
    rw [hk0, hso, e2] at this; omega
  have fin : (m.at t).fresh.fq.ret = 2 → idleQ k (behindI (m.rs t).op 2 (m.hold t)) + 4 ≤ lineW k (m.rs t).op (m.rs t).line → worthQ k w ((m.at t).fresh.fq.finH (m.hold t)) (m.at t).fresh.fq.finR + 4 ≤ lineW k (m.rs t).op (m.rs t).line := fun e1 e3 => by
    have := hc _ (comes_end (w := w) (h := m.hold t) (by rw [e1]; decide) (by rw [hso]; exact hop))
    rw [hk0, hso, e1] at this; omega
  rcases waits_at h hg ht hon hw with ⟨_, _, e1, e2, e3, e4, _⟩ | ⟨_, _, e1, e2, e3, e4, e5⟩ | ⟨_, e1, e2, a, ok, wh, e3, e4⟩
  · have hb : bc (m.at t).fresh.n (m.at t).fresh.task = d := by rw [e1]; show bc (m.rs t).n (m.rs t).task = _; rw [c1, c3]
    have hR : (m.at t).fresh.fq = ((m.at t).fresh.wait d q).go 5 := by
      rw [fq_enter (r := (m.at t).fresh) (j := 4) e3 e4 (by decide), qEnter_4 (r := (m.at t).fresh) e4, hb, ← e2, if_pos hd']
    refine stay 5 (by rw [hR]; exact hret) (by rw [hR]; rfl) ?_
    rw [e4]; rcases e3 with e3 | e3 <;> rw [e3]
    · show 10 * k + 9 + 4 ≤ 10 * k + 13; omega
    · show 5 * k + 11 + 4 ≤ 5 * k + 15; omega
  · have hR : (m.at t).fresh.fq = (((m.at t).fresh.wait d q).noteIf ((m.at t).fresh.stepR d q).seen 4).fin true := by
      rw [fq_wait (r := (m.at t).fresh) e3 e4, ← e1, ← e2, if_pos hd']
    refine fin (by rw [hR]; rfl) ?_
    rw [e3, e4, e5]
    show 5 * k + 7 + 4 ≤ 5 * k + 11; omega
  · have hb : nc (m.at t).fresh.n (m.at t).fresh.task = d := by rw [e1]; show nc (m.rs t).n (m.rs t).task = _; rw [c1, c3]
    obtain ⟨n1, n2, n3, _⟩ := seeN_same (m.at t).fresh
    have hR : (m.at t).fresh.fq = (m.at t).fresh.seeN.go (a + 3) := by
      rw [fq_give (r := (m.at t).fresh) e3 rfl (j := 2) e4 (by decide), qGive_2 (r := (m.at t).fresh) e4, hb, ← e2, if_pos hd']
    refine stay (a + 3) (by rw [hR]; exact n3.trans hret) (by rw [hR]; rfl) ?_
    rw [e4]
    exact (give_W (k := k) e3).2.2.2.2.1
end
end Go.Proofs.Ytkkldcggbekleaa
set_option linter.unusedVariables false
set_option linter.unusedSimpArgs false
namespace Go.Proofs.Ytkkldcggbekleaa
section
variable {k t : Nat} {mode : Int} {s : QS} {qp c : Nat → Nat} {m : MV} {p : Nat}
theorem fq_rest (hk : k ≤ 64) (h : FqInv k mode m) (hb : ∀ t, t < k → BlkQ wtQ k mode m t) : ∀ t, t < k → (m.rs t).op = 0 ∧ m.hold t = 0 := by
  obtain ⟨hg, s, qp, c, hI⟩ := h
  -- nobody wakes
  have off : ∀ j, j < k → (m.rs j).k.on = false := fun j hj => by
    rcases hb j hj with ⟨e, _⟩ | ⟨_, e, _⟩
    · exact hg.idle j hj e
    · exact e
  -- who waits, waits for what isn't so
  have waits : ∀ i, i < k → ((m.rs i).op = 0 ∧ m.hold i = 0) ∨ ((m.rs i).op ≠ 0 ∧ ∃ d q, wtR wtQ (m.rs i) = some (d, q) ∧ q (wordAt m.xs d) = false) := fun i hi => by
    rcases hb i hi with e | ⟨e0, e1, d, q, e2, e3⟩
    · exact .inl e
    · refine .inr ⟨e0, d, q, e2, ?_⟩
      rcases e3 with ⟨_, e3⟩ | ⟨_, e4, e5⟩
      · exact e3
      · cases e6 : q (wordAt m.xs d)
        · rfl
        · obtain ⟨j, hj, e7, _⟩ := hg.nl i hi d q e2 e4 e5 e6
          rw [off j hj] at e7; cases e7
  have idle : ∀ i, i < k → (m.rs i).op = 0 → m.hold i = 0 → s.ph i = 0 ∧ c i = 0 := fun i hi e0 e1 => by
    have F := hI.f i hi
    have T := hI.t i hi
    cases F with
    | idle0 ho hr hh hq hc =>
      rw [hq] at T
      cases T with
      | out hp => exact ⟨hp, hc⟩
    | give j a ok w hgk => exact absurd e0 hgk.op7.2.1
    | gave a ok w hgk => exact absurd e0 hgk.op7.2.1
    | _ => omega
  have at5 : ∀ i, i < k → s.ph i ≠ 0 → ∃ d q, wtR wtQ (m.rs i) = some (d, q) ∧ q (wordAt m.xs d) = false := fun i hi e => by
    rcases waits i hi with ⟨e0, e1⟩ | ⟨_, e2⟩
    · exact absurd (idle i hi e0 e1).1 e
    · exact e2
  have cls : ∀ i, i < k → s.ph i ≠ 0 → (s.ph i = 4 ∧ s.bl i ≠ 0) ∨ (s.ph i = 5 ∧ sumN c k ≠ 0 ∧ qp i = 6) ∨ (s.ph i = 5 ∧ s.nx i = 0 ∧ s.tail ≠ (i : Int) + 1 ∧ qp i = 9) := fun i hi e => by
    obtain ⟨d, q, e1, e2⟩ := at5 i hi e
    have T := hI.t i hi
    rcases waits_at hI hg hi (off i hi) e1 with ⟨g1, _, g3, g4, _⟩ | ⟨g1, _, g3, g4, _⟩ | ⟨g1, g3, g4, _⟩
    · rw [g1] at T
      cases T with
      | e4 hp h4 =>
        refine .inl ⟨hp, fun e3 => ?_⟩
        rw [g3, g4, hI.w.b i hi, e3] at e2; cases e2
    · refine .inr (.inl ⟨T.six g1, fun e3 => ?_, g1⟩)
      rw [g3, g4, hI.n, e3] at e2; cases e2
    · rw [g1] at T
      cases T with
      | g2 hp ht h4 =>
        refine .inr (.inr ⟨hp, ?_, ht, g1⟩)
        rw [g3, g4, hI.w.n i hi] at e2
        simpa [isN] using e2
  intro t ht
  rcases waits t ht with e | ⟨e0, _, _, e1, _⟩
  · exact e
  exfalso
  have hpt : s.ph t ≠ 0 := by
    have T := hI.t t ht
    rcases waits_at hI hg ht (off t ht) e1 with ⟨g1, _⟩ | ⟨g1, _⟩ | ⟨g1, _⟩
    · rw [g1] at T; cases T with | e4 hp _ => omega
    · have := T.six g1; omega
    · rw [g1] at T; cases T with | g2 hp _ _ => omega
  obtain ⟨n, q, hQ⟩ := hI.q
  obtain ⟨j, hj, _⟩ := hQ.out t ht hpt
  have hn : 0 < n := by omega
  have hu := hQ.lt 0 hn
  rcases cls (q 0) hu (hQ.inq 0 hn) with ⟨a1, a2⟩ | ⟨a1, a2, a3⟩ | ⟨a1, a2, a3, a4⟩
  · rcases hQ.hd hn with e | ⟨_, e⟩
    · omega
    · exact a2 e
  · apply a2
    refine sumN_zero fun i hi => ?_
    rcases waits i hi with ⟨b0, b1⟩ | ⟨_, d, q', b1, _⟩
    · exact (idle i hi b0 b1).2
    · rcases waits_at hI hg hi (off i hi) b1 with ⟨_, g, _⟩ | ⟨_, g, _⟩ | ⟨g1, _⟩
      · exact g
      · exact g
      · exfalso
        have T := hI.t i hi
        have p5 : s.ph i = 5 := by rw [g1] at T; cases T with | g2 hp _ _ => exact hp
        have := hI.q.one hi hu p5 a1
        rw [this, a3] at g1
        cases g1
  · have hn2 : 1 < n := by
      by_cases e : n = 1
      · exfalso
        have := hQ.tl
        rw [if_neg (by omega), e] at this
        exact a3 this
      · omega
    have hv := hQ.lt 1 hn2
    obtain ⟨_, hp⟩ := hQ.pair 0 hn2
    rcases hp with ⟨b1, _⟩ | ⟨_, b2⟩
    · have b1' : s.ph (q 1) = 3 := b1
      rcases cls (q 1) hv (hQ.inq 1 hn2) with ⟨d1, _⟩ | ⟨d1, _⟩ | ⟨d1, _⟩ <;> omega
    · rw [a2] at b2; omega
theorem fq_ok (hk : 1 ≤ k ∧ k ≤ 64) (mode : Int) (B : Nat) : LockQ LS.fq wtQ (worthQ k) k mode B (fun _ => FqInv k mode) := by
  refine ⟨hk, lines_fq, worthq_ok k, fun p m h => h.gen, fun p m h i hi => ?_, fun p m t op h ht h0 hm => h.start ht h0 hm, fun p m t h hp ht h0 hs => h.go hk.2 hk.1 ht h0 hs, fun p m h => h, fun p m t h ht h0 hh => ?_, fun p m t h ht h0 d q hon hw hd => ?_, fun p m t h ht h0 d q hon hw hd => ?_, fun p m t h hp ht h0 hon hw => ?_, fun p m t h hp ht h0 hon hw => ?_, fun p m h hb => fq_rest hk.2 h hb⟩
  · obtain ⟨_, s, qp, c, hI⟩ := h
    have := (hI.f i hi).holds; omega
  · have e0 : worthQ k (ownW m.xs) (m.hold t) (m.rs t) = idleQ k (m.hold t) := by unfold worthQ; rw [if_pos h0]
    rw [e0]
    rcases hh with e | e <;> rw [e]
    · show lineW k 2 0 ≤ idleQ k 1
      show 5 * k + 1 ≤ 5 * k + 1; omega
    · show lineW k 4 0 ≤ idleQ k 2
      show 5 * k + 7 ≤ 5 * k + 7; omega
  · obtain ⟨hg, s, qp, c, hI⟩ := h
    exact worthq_done hk.2 _ hg hI ht h0 hon hw hd
  · obtain ⟨hg, s, qp, c, hI⟩ := h
    obtain ⟨c1, c2, c3⟩ := hg.cst t ht
    have W := lines_fq.wait (m.at t).fresh d q hon hw
    have hd' : ((m.at t).fresh.stepR d q).done = false := by
      show (stepI m.xs (m.rs t).n (m.rs t).mode (m.rs t).task (m.rs t).s d q).done = false
      rw [c1, c2, c3]; exact hd
    obtain ⟨l1, l2, _⟩ := W.stay hd'
    have l0 : (m.at t).fresh.fq.op = (m.rs t).op := (lines_fq.same (m.at t).fresh).2.2.2.1
    have e1 : (m.at t).fresh.fq.line = (m.rs t).line := l1
    have e2 : (m.at t).fresh.fq.ret = (m.rs t).ret := l2
    unfold worthQ
    rw [l0, e1, e2]
    exact Nat.le_refl _
  · obtain ⟨hg, s, qp, c, hI⟩ := h
    obtain ⟨s', qp', c', g⟩ := fq_mv hk.2 hg hI ht h0 hon
    obtain ⟨p1, p2⟩ := plain_p hI ht h0 hon hw
    exact ⟨fun d hd => g.far hon hw d (by have e : (m.at t).fresh.n = k := (hg.cst t ht).1; omega), p1, p2⟩
  · obtain ⟨hg, s, qp, c, hI⟩ := h
    refine ⟨0, fun i _ _ => Nat.le_refl _, ?_⟩
    have := worthq_plain (k := k) (ownW m.xs) (ownW (m.at t).fresh.fq.xs) hI ht h0 (hg.rt t ht hon) hon hw
    unfold comes at this
    omega
theorem fq_first (hk : 1 ≤ k ∧ k ≤ 64) (mode : Int) {xs : List Int} (hl : xs.length = 8 + 4 * k) (hx : ∀ d : Int, wordAt xs d = 0) : FqInv k mode ⟨fun i => newR k mode i 0 xs, fun _ => 0, xs⟩ := by
  refine ⟨⟨hl, fun i hi => ⟨rfl, rfl, rfl⟩, fun i hi => .inl rfl, fun i hi _ => rfl, fun i hi e => absurd rfl e, fun i hi => ⟨fun _ => hx _, fun e => (by rcases e with e | e | e <;> cases e)⟩, fun i hi e => (by cases e), fun i hi _ => rfl, fun i hi _ => rfl, fun i hi c q hw hs => (by cases hs)⟩, ⟨0, fun _ => 0, fun _ => 0, fun _ => 0, fun _ => 0⟩, fun _ => 0, fun _ => 0, ?_⟩
  refine ⟨⟨0, fun _ => 0, ?_⟩, ⟨hl, hx _, fun i _ => hx _, fun i _ => hx _⟩, fun i hi => .idle0 rfl rfl rfl rfl rfl, fun i hi => .out rfl, ?_, fun i hi e => ?_, fun i hi e => (by cases e)⟩
  · exact ⟨fun i j hi => by omega, fun i hi => by omega, rfl, fun i hi => by omega, fun u hu e => absurd rfl e, fun hm => by omega, fun j hj => by omega, fun hm => by omega⟩
  · show wordAt xs 1 = _
    rw [hx, sumN_zero (fun _ _ => rfl)]; rfl
  · exact sumN_zero (fun _ _ => rfl)
theorem fq_bound (h : FqInv k mode m) : FQ (worthQ k) k m ≤ k * (20 * k + 26) := by
  have g := h.gen
  have h1 : sumN (shareQ (worthQ k) k m) k ≤ sumN (fun _ => 20 * k + 23) k := sumN_le fun i hi => by
    unfold shareQ
    have a1 : swp k (m.rs i).k ≤ 5 * k := by
      unfold swp
      by_cases e : (m.rs i).k.on = true
      · rw [if_pos e]
        have : 5 * (k - (m.rs i).k.i.toNat) ≤ 5 * k := by omega
        by_cases e2 : (m.rs i).k.hit = true
        · rw [if_pos e2]; omega
        · rw [if_neg e2]; omega
      · rw [if_neg e]; omega
    have a2 : stp (m.rs i).s ≤ 4 := by
      rcases g.sr i hi with e | e | e | e | e <;> rw [e] <;> decide
    have a3 : worthQ k (ownW m.xs) (m.hold i) (m.rs i) ≤ 15 * k + 19 := by
      unfold worthQ
      by_cases e : (m.rs i).op = 0
      · rw [if_pos e]; exact idleQ_le _ _
      · rw [if_neg e]
        by_cases e2 : (m.rs i).ret ≠ 0
        · rw [if_pos e2]; exact idleQ_le _ _
        · rw [if_neg e2]; exact lineW_le _ _ _
    omega
  have h2 : perms k m ≤ sumN (fun _ => 1) k := sumN_le fun i _ => by split <;> omega
  rw [sumN_const] at h1 h2
  unfold FQ
  have e1 : k * (20 * k + 26) = k * (20 * k + 23) + k * 3 := by rw [← Nat.mul_add]
  omega
theorem fq_alone (h : FqInv k mode m) (ht : t < k) (h2 : m.hold t = 2) (i : Nat) (hi : i < k) (hn : i ≠ t) : m.hold i = 0 := by
  obtain ⟨_, s, qp, c, hI⟩ := h
  exact hI.alone ht h2 i hi hn
end
end Go.Proofs.Ytkkldcggbekleaa
set_option linter.unusedVariables false
set_option linter.unusedSimpArgs false
namespace Go.Proofs.Ytkkldcggbekleaa
theorem many_not {m : MV} {what : Int} : ∀ {n : Nat}, (∀ i, i < n → m.hold i ≠ what) → manyI m what n = 0
  | 0, _ => rfl
  | n + 1, h => by
    unfold manyI
    rw [if_neg (h n (by omega)), many_not (n := n) fun i hi => h i (by omega)]
theorem many_only {m : MV} {what : Int} {t : Nat} : ∀ {n : Nat}, m.hold t = what → (∀ i, i < n → i ≠ t → m.hold i ≠ what) → manyI m what n = if t < n then 1 else 0
  | 0, _, _ => rfl
  | n + 1, h, ho => by
    have ih := many_only (n := n) h fun i hi hn => ho i (by omega) hn
    unfold manyI
    rw [ih]
    by_cases e : n = t
    · subst e
      rw [if_pos h, if_neg (Nat.lt_irrefl _), if_pos (Nat.lt_succ_self _)]
    · rw [if_neg (ho n (by omega) e)]
      by_cases e2 : t < n
      · rw [if_pos e2, if_pos (by omega)]
      · rw [if_neg e2, if_neg (by omega)]
theorem excl_many {m : MV} {k : Nat} (h : ∀ t, t < k → m.hold t = 2 → ∀ i, i < k → i ≠ t → m.hold i = 0) : manyI m 2 k = 0 ∨ (manyI m 2 k = 1 ∧ manyI m 1 k = 0) := by
  by_cases e : ∃ t, t < k ∧ m.hold t = 2
  · obtain ⟨t, ht, h2⟩ := e
    right
    refine ⟨?_, many_not fun i hi => ?_⟩
    · rw [many_only h2 (fun i hi hn => by rw [h t ht h2 i hi hn]; decide), if_pos ht]
    · by_cases e : i = t
      · subst e; rw [h2]; decide
      · rw [h t ht h2 i hi e]; decide
  · left
    exact many_not fun i hi e2 => e ⟨i, hi, e2⟩
end Go.Proofs.Ytkkldcggbekleaa
namespace Go.Proofs.Ytkkldcggbekleaa
open Go.RowKit Go.ChangeShapes Go.WideShapes Go.Deep
section
variable {H : Type} {enc : TypeId × Value → H} {P : Program} {w : World} {base : Nat} {spare : Nat → Bool} {held : Bool}
theorem open_tab {t e : TypeId} {fs : Array Field} {fuel len cap : Nat} {A : Option Addr} {x : DataW H × List MemPlace} (ht : P.underlying t = some (.slice e)) (he : P.underlying e = some (.struct fs))
    (hone : oneCellFields P fs = true) (hC : P.cellsOf e = fs.size) (h0 : 0 < fs.size) (h : DataW.trod enc P w base spare held fuel t [.slice A len cap] = some x) :
    ∀ i, i < len → ∃ b o, A = some ⟨b, o, none⟩ ∧ b < w.heap.size ∧ ∀ j f, fs[j]? = some f → ∃ v n y, w.cell? ⟨b, o + (i * fs.size + j), none⟩ = some v ∧ DataW.trod enc P w base spare held n f.type [v] = some y := by
  intro i hi
  rcases open_slice ht h with ⟨hcs, _⟩ | ⟨a, len', cap', m, n, D, Pl, hcs, _, hl, _, hmm, _, hrow⟩
  · simp only [List.cons.injEq, Value.slice.injEq] at hcs
    omega
  · simp only [List.cons.injEq, Value.slice.injEq, and_true] at hcs
    obtain ⟨rfl, rfl, rfl⟩ := hcs
    have him : i < m := by rw [hmm]; split <;> omega
    obtain ⟨cs, hc, hy⟩ := hrow i him
    rw [hC] at hc
    obtain ⟨_, hlen, hat⟩ := World.cells?_some hc
    obtain ⟨ys, k, _, _, _, hyl, hf⟩ := DataW.trod_struct he hy
    have hcell : ∀ j, j < fs.size → ∃ v, cs[j]? = some v ∧ w.cell? (a.add (i * fs.size + j)) = some v := by
      intro j hj
      have hv : cs[j]? = some (cs[j]'(by omega)) := List.getElem?_eq_getElem (by omega)
      exact ⟨_, hv, by rw [← Go.Deep.add_add, hat j hj, hv]⟩
    obtain ⟨b, o, spot⟩ := a
    have hspot : spot = none := by
      obtain ⟨cs0, hc0, _⟩ := hrow 0 (by omega)
      rw [hC] at hc0
      obtain ⟨_, hlen0, hat0⟩ := World.cells?_some hc0
      have e := hat0 0 h0
      have hv : cs0[0]? = some (cs0[0]'(by omega)) := List.getElem?_eq_getElem (by omega)
      rw [hv] at e
      simpa [Addr.add] using World.cell?_spot e
    subst hspot
    refine ⟨b, o, rfl, ?_, fun j f hj => ?_⟩
    · obtain ⟨v, _, hv⟩ := hcell 0 h0
      have := World.block_lt_of_cell? w _ hv
      rwa [add_block] at this
    · have hjl : j < fs.size := (Array.getElem?_eq_some_iff.1 hj).1
      obtain ⟨ho, hk⟩ := hone_of hone j f hj
      obtain ⟨v, hv, hcv⟩ := hcell j hjl
      have h1 := hf j f hj
      rw [ho, hk, List.drop_eq_getElem_cons (by omega)] at h1
      have hys : ys[j]? = some (ys[j]'(by omega)) := List.getElem?_eq_getElem (by omega)
      rw [List.getElem?_eq_getElem (by omega)] at hv
      injection hv with hv
      rw [hv] at h1
      refine ⟨v, k, _, by rw [← add_at]; exact hcv, h1.trans hys⟩
end
end Go.Proofs.Ytkkldcggbekleaa
set_option linter.unusedVariables false
set_option linter.unusedSimpArgs false
namespace Go.Proofs.Ytkkldcggbekleaa
open Go.RowKit
def IsTurns (w : World) (A : Option Addr) (len : Nat) : Prop := ∀ i, i < len → ∃ b q a c, A = some ⟨b, q, none⟩ ∧ b < w.heap.size ∧
  w.cell? ⟨b, q + i * 2, none⟩ = some (.int .u8 a) ∧ w.cell? ⟨b, q + i * 2 + 1, none⟩ = some (.int .u8 c) ∧ (0 ≤ a ∧ a < 256) ∧ (0 ≤ c ∧ c < 256)
theorem isTurns_of {H : Type} {enc : TypeId × Value → H} {w : World} {base : Nat} {spare : Nat → Bool} {held : Bool} {fuel len cap : Nat} {A : Option Addr} {x : DataW H × List MemPlace}
    (h : DataW.trod enc Try.prog w base spare held fuel 40 [.slice A len cap] = some x) : IsTurns w A len := by
  intro i hi
  obtain ⟨b, o, hA, hb, hf⟩ := open_tab Try.underlying40 Try.underlying45 (by kernel_rfl) (by kernel_rfl) (by decide) h i hi
  obtain ⟨v0, n0, y0, c0, t0⟩ := hf 0 _ rfl
  obtain ⟨v1, n1, y1, c1, t1⟩ := hf 1 _ rfl
  obtain ⟨z0, e0, _, wz0⟩ := DataW.trod_int Try.underlying5 t0
  obtain ⟨z1, e1, _, wz⟩ := DataW.trod_int Try.underlying5 t1
  simp only [List.cons.injEq, and_true] at e0 e1
  subst e0 e1
  exact ⟨b, o, z0, z1, hA, hb, c0, c1, wf_u8 wz0, wf_u8 wz⟩
end Go.Proofs.Ytkkldcggbekleaa
