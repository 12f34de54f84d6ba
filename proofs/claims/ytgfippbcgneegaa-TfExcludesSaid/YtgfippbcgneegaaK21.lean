import Derived.Test.YtgfippbcgneegaaK20
import Derived.Test.YtgfippbcgneegaaK19
import Derived.Test.YtgfippbcgneegaaK16
set_option linter.unusedVariables false
set_option linter.unusedSimpArgs false
namespace Go.Proofs.Ytgfippbcgneegaa
structure LockOK (L : LS → LS) (wt : WtF) (V : VF) (k : Nat) (mode : Int) (B : Nat) (Inv : Nat → MV → Prop) : Prop where
  k64 : 1 ≤ k ∧ k ≤ 64
  lines : LinesOK L wt
  worth : WorthOK V
  gen : ∀ p m, Inv p m → GenI wt k mode m
  holds : ∀ p m, Inv p m → ∀ i, i < k → m.hold i = 0 ∨ m.hold i = 1 ∨ m.hold i = 2
  start : ∀ p m t op, Inv p m → t < k → (m.rs t).op = 0 → mayI op (m.hold t) = true → Inv p (m.start t op)
  go : ∀ p m t, Inv p m → p < B → t < k → (m.rs t).op ≠ 0 → (m.at t).stuck = false → Inv (p + 1) (m.go L t)
  up : ∀ p m, Inv p m → Inv (p + 1) m
  worthS : ∀ p m t, Inv p m → t < k → (m.rs t).op = 0 → (m.hold t = 1 ∨ m.hold t = 2) → V (ownW m.xs) (fromI (2 * m.hold t) (m.hold t)) (zeroF (m.at t) (2 * m.hold t)) ≤ V (ownW m.xs) (m.hold t) (m.rs t)
  worthD : ∀ p m t, Inv p m → t < k → (m.rs t).op ≠ 0 → ∀ c q, (m.rs t).k.on = false → wt (m.rs t).op (m.rs t).line (m.rs t).a = some (c, q) → (stepI m.xs k mode t (m.rs t).s c q).done = true → V (ownW m.xs) ((L (m.at t).fresh).finH (m.hold t)) (L (m.at t).fresh).finR + 4 ≤ V (ownW m.xs) (m.hold t) (m.rs t)
  worthP : ∀ p m t, Inv p m → p < B → t < k → (m.rs t).op ≠ 0 → (m.rs t).k.on = false → wt (m.rs t).op (m.rs t).line (m.rs t).a = none → ∃ e, (∀ i, i < k → i ≠ t → V (ownW (L (m.at t).fresh).xs) (m.hold i) (m.rs i) ≤ V (ownW m.xs) (m.hold i) (m.rs i) + e) ∧ swp k (L (m.at t).fresh).finR.k + V (ownW (L (m.at t).fresh).xs) ((L (m.at t).fresh).finH (m.hold t)) (L (m.at t).fresh).finR + k * e < V (ownW m.xs) (m.hold t) (m.rs t)
  rest : ∀ p m, Inv p m → (∀ t, t < k → Blk wt k mode m t) → ∀ t, t < k → (m.rs t).op = 0 ∧ m.hold t = 0
def pickI (L : LS → LS) (m : MV) (t : Nat) : MV := playI L m t (2 * m.hold t)
def roundN (L : LS → LS) (m : MV) : Nat → MV
  | 0 => m
  | j + 1 => pickI L (roundN L m j) j
def AtRest (k : Nat) (m : MV) : Prop := ∀ t, t < k → (m.rs t).op = 0 ∧ m.hold t = 0
structure Sim (m m' : MV) : Prop where
  xs : m'.xs = m.xs
  hold : m'.hold = m.hold
  rs : ∀ i, (m'.rs i).op = (m.rs i).op ∧ (m'.rs i).line = (m.rs i).line ∧ (m'.rs i).ret = (m.rs i).ret ∧ (m'.rs i).a = (m.rs i).a ∧ (m'.rs i).s = (m.rs i).s ∧ (m'.rs i).k = (m.rs i).k
theorem sim_refl (m : MV) : Sim m m := ⟨rfl, rfl, fun _ => ⟨rfl, rfl, rfl, rfl, rfl, rfl⟩⟩
theorem Sim.trans {m m' m'' : MV} (h : Sim m m') (g : Sim m' m'') : Sim m m'' :=
  ⟨g.xs.trans h.xs, g.hold.trans h.hold, fun i => by
    obtain ⟨a1, a2, a3, a4, a5, a6⟩ := h.rs i
    obtain ⟨b1, b2, b3, b4, b5, b6⟩ := g.rs i
    exact ⟨b1.trans a1, b2.trans a2, b3.trans a3, b4.trans a4, b5.trans a5, b6.trans a6⟩⟩
section
variable {L : LS → LS} {wt : WtF} {V : VF} {k : Nat} {mode : Int} {B : Nat} {Inv : Nat → MV → Prop} {m m' : MV} {p t : Nat}
theorem Sim.pot (hV : WorthOK V) (h : Sim m m') : FI V k m' = FI V k m := by
  unfold FI perms
  rw [h.xs]
  congr 1
  refine sumN_congr fun i _ => ?_
  obtain ⟨a1, a2, a3, a4, a5, a6⟩ := h.rs i
  unfold share
  rw [a5, a6, h.hold, h.xs, hV.like _ _ _ _ a1 a2 a3 a4]
theorem Sim.blk (h : Sim m m') (hb : Blk wt k mode m' t) : Blk wt k mode m t := by
  obtain ⟨a1, a2, a3, a4, a5, a6⟩ := h.rs t
  unfold Blk at *
  rw [a1, a2, a4, a5, a6, h.hold, h.xs] at hb
  exact hb
theorem LockOK.play (H : LockOK L wt V k mode B Inv) (h : Inv p m) (hp : p < B) (ht : t < k) (op : Int) : Inv (p + 1) (playI L m t op) := by
  have go : ∀ m', Inv p m' → (m'.rs t).op ≠ 0 → Inv (p + 1) (m'.go L t) := fun m' h' h0 => by
    cases hs : (m'.at t).stuck
    · exact H.go p m' t h' hp ht h0 hs
    · rw [show m'.go L t = m' by unfold MV.go; rw [if_pos hs]]
      exact H.up p m' h'
  unfold playI
  split
  · rename_i h0
    split
    · rename_i hmay
      refine go _ (H.start p m t op h ht h0 hmay) ?_
      show (upd m.rs t (zeroF (m.at t) op) t).op ≠ 0
      rw [upd_same]
      show op ≠ 0
      rintro rfl
      unfold mayI at hmay
      split at hmay
      · revert hmay; decide
      · split at hmay <;> (revert hmay; decide)
    · exact H.up p m h
  · rename_i h0
    exact go m h h0
theorem LockOK.pick_less (H : LockOK L wt V k mode B Inv) (h : Inv p m) (hp : p < B) (ht : t < k) (hb : ¬ Blk wt k mode m t) : FI V k (pickI L m t) < FI V k m := by
  unfold pickI playI
  by_cases h0 : (m.at t).op = 0
  · rw [if_pos h0]
    have h00 : (m.rs t).op = 0 := h0
    have hh : m.hold t = 1 ∨ m.hold t = 2 := by
      rcases H.holds p m h t ht with e | e
      · exact absurd (.inl ⟨h0, e⟩) hb
      · exact e
    have hmay : mayI (2 * m.hold t) (m.hold t) = true := by rcases hh with e | e <;> rw [e] <;> decide
    rw [if_pos hmay]
    have hI := H.start p m t _ h ht h0 hmay
    have hw := H.worthS p m t h ht h0 hh
    have hg := H.gen p m h
    have hrs : (m.start t (2 * m.hold t)).rs t = zeroF (m.at t) (2 * m.hold t) := by show upd m.rs t _ t = _; rw [upd_same]
    have hne : ((m.start t (2 * m.hold t)).rs t).op ≠ 0 := by
      rw [hrs]; show 2 * m.hold t ≠ 0; omega
    have hF : FI V k (m.start t (2 * m.hold t)) ≤ FI V k m := by
      have hs := sum_move (f := share V k m) (g := share V k (m.start t (2 * m.hold t))) (k := k) (t := t) (e := 0) ht (fun i hi hn => by
        unfold share MV.start MV.setR MV.setH
        dsimp only
        rw [upd_other _ _ hn, upd_other _ _ hn]
        exact Nat.le_refl _)
      have h1 : share V k (m.start t (2 * m.hold t)) t ≤ share V k m t := by
        unfold share
        rw [hrs, show (m.start t (2 * m.hold t)).hold t = fromI (2 * m.hold t) (m.hold t) by show upd m.hold t _ t = _; rw [upd_same], show (m.start t (2 * m.hold t)).xs = m.xs from rfl]
        have e1 : swp k (zeroF (m.at t) (2 * m.hold t)).k = 0 := swp_off k rfl
        have e2 : stp (zeroF (m.at t) (2 * m.hold t)).s = 4 := rfl
        have e3 : stp (m.rs t).s = 4 := by
          have : (m.rs t).s = 0 := by
            by_cases e : (m.rs t).s = 0
            · exact e
            · obtain ⟨⟨c, q, e2⟩, _⟩ := hg.sw t ht e
              rw [show (m.rs t).op = 0 from h0, H.lines.op0] at e2; cases e2
          rw [this]; rfl
        omega
      unfold FI
      rw [show perms k (m.start t (2 * m.hold t)) = perms k m from rfl]
      omega
    refine Nat.lt_of_lt_of_le (pot_go H.lines H.worth H.k64.2 (H.gen p _ hI) ht hne ?_ (H.worthD p _ t hI ht hne) (H.worthP p _ t hI hp ht hne)).2 hF
    rintro (⟨e, _⟩ | ⟨_, _, c, q, e, _⟩)
    · exact hne e
    · rw [hrs] at e
      have e' : wt (2 * m.hold t) 0 0 = some (c, q) := e
      rw [H.lines.line0] at e'; cases e'
  · rw [if_neg h0]
    have h00 : (m.rs t).op ≠ 0 := h0
    exact (pot_go H.lines H.worth H.k64.2 (H.gen p m h) ht h00 hb (H.worthD p m t h ht h00) (H.worthP p m t h hp ht h00)).2
theorem LockOK.pick_blk (H : LockOK L wt V k mode B Inv) (h : Inv p m) (ht : t < k) (hb : Blk wt k mode m t) : Sim m (pickI L m t) := by
  have hg := H.gen p m h
  obtain ⟨c1, c2, c3⟩ := hg.cst t ht
  unfold pickI playI
  rcases hb with ⟨h0, hh⟩ | ⟨h0, hon, c, q, hw, hb⟩
  · rw [if_pos (show (m.at t).op = 0 from h0), hh]
    exact sim_refl m
  · rw [if_neg (show ¬ (m.at t).op = 0 from h0)]
    rcases hb with ⟨hm, hq⟩ | ⟨hm, hs, hp⟩
    · have hst : (m.at t).stuck = false := by
        unfold LS.stuck stuckB
        show (!(m.rs t).k.on && ((m.rs t).mode == 2 && (m.rs t).s == 3 && _)) = false
        rw [c2, show (mode == 2) = false from beq_eq_false_iff_ne.2 hm]
        simp
      rw [go_eq hst]
      have W := H.lines.wait (m.at t).fresh c q hon hw
      obtain ⟨s1, s2, s3, s4, s5⟩ := H.lines.same (m.at t).fresh
      have hSR : (m.at t).fresh.stepR c q = stepI m.xs k mode t (m.rs t).s c q := by
        show stepI m.xs (m.rs t).n (m.rs t).mode (m.rs t).task (m.rs t).s c q = _
        rw [c1, c2, c3]
      have hR' : (m.at t).next L = L (m.at t).fresh := by
        unfold LS.next
        rw [if_neg (by show ¬ (m.rs t).k.on = true; rw [hon]; exact Bool.false_ne_true)]
      rw [hR']
      generalize L (m.at t).fresh = R at *
      have hxs := W.xs
      have hs' := W.s
      have hstay := W.stay
      rw [hSR, stepI_spin hm] at hxs hs' hstay
      obtain ⟨l1, l2⟩ := hstay hq
      have hno : R.over = false := by
        have : R.ret = 0 := l2.trans (hg.rt t ht hon)
        unfold LS.over; rw [this]; rfl
      rw [show R.finR = R by unfold LS.finR; rw [hno]; rfl, show R.finH (m.hold t) = m.hold t by unfold LS.finH; rw [hno]; rfl]
      refine ⟨hxs, ?_, fun i => ?_⟩
      · funext i
        show upd m.hold t (m.hold t) i = m.hold i
        unfold upd; split
        · rename_i e; rw [e]
        · rfl
      · by_cases e : i = t
        · subst e
          dsimp only
          rw [upd_same]
          exact ⟨s4, l1, l2, W.a, by rw [hs', hg.sp i ht hm], W.k⟩
        · dsimp only
          rw [upd_other _ _ e]
          exact ⟨rfl, rfl, rfl, rfl, rfl, rfl⟩
    · have hst : (m.at t).stuck = true := by
        unfold LS.stuck stuckB
        show (!(m.rs t).k.on && ((m.rs t).mode == 2 && (m.rs t).s == 3 && !hasP m.xs (m.rs t).n (m.rs t).task)) = true
        rw [hon, c1, c2, c3, hm, hs, hp]; rfl
      rw [show m.go L t = m by unfold MV.go; rw [if_pos hst]]
      exact sim_refl m
theorem LockOK.round (H : LockOK L wt V k mode B Inv) (h : Inv p m) (hp : p + k ≤ B) : ∀ j, j ≤ k → Inv (p + j) (roundN L m j) ∧ (FI V k (roundN L m j) < FI V k m ∨ (Sim m (roundN L m j) ∧ ∀ t, t < j → Blk wt k mode m t)) := by
  intro j
  induction j with
  | zero => exact fun _ => ⟨h, .inr ⟨sim_refl m, fun t ht => absurd ht (Nat.not_lt_zero _)⟩⟩
  | succ j ih =>
    intro hj
    obtain ⟨hI, hF⟩ := ih (by omega)
    refine ⟨H.play hI (by omega) (by omega) _, ?_⟩
    show FI V k (pickI L (roundN L m j) j) < FI V k m ∨ (Sim m (pickI L (roundN L m j) j) ∧ _)
    by_cases hb : Blk wt k mode (roundN L m j) j
    · have hs := H.pick_blk hI (by omega) hb
      rcases hF with hF | ⟨hS, hB⟩
      · exact .inl (by rw [hs.pot H.worth]; exact hF)
      · refine .inr ⟨hS.trans hs, fun t ht => ?_⟩
        by_cases e : t = j
        · subst e; exact hS.blk hb
        · exact hB t (by omega)
    · have hl := H.pick_less hI (by omega) (by omega) hb
      rcases hF with hF | ⟨hS, _⟩
      · exact .inl (by omega)
      · exact .inl (by rw [hS.pot H.worth] at hl; exact hl)
theorem done_pick (hd : AtRest k m) (ht : t < k) : pickI L m t = m := by
  obtain ⟨h1, h2⟩ := hd t ht
  unfold pickI playI
  rw [if_pos (show (m.at t).op = 0 from h1), h2]
  rfl
theorem done_round (hd : AtRest k m) : ∀ j, j ≤ k → roundN L m j = m
  | 0, _ => rfl
  | j + 1, h => by
    show pickI L (roundN L m j) j = m
    rw [done_round hd j (by omega)]
    exact done_pick hd (by omega)
theorem LockOK.whole (H : LockOK L wt V k mode B Inv) (h : Inv p m) (hp : p + k ≤ B) {F j : Nat} (hF : AtRest k m ∨ FI V k m + j ≤ F) : Inv (p + k) (roundN L m k) ∧ (AtRest k (roundN L m k) ∨ FI V k (roundN L m k) + (j + 1) ≤ F) := by
  obtain ⟨hI, hR⟩ := H.round h hp k (Nat.le_refl _)
  refine ⟨hI, ?_⟩
  rcases hF with hF | hF
  · rw [done_round hF k (Nat.le_refl _)]; exact .inl hF
  · rcases hR with hR | ⟨_, hB⟩
    · exact .inr (by omega)
    · have hd : AtRest k m := H.rest p m h hB
      rw [done_round hd k (Nat.le_refl _)]; exact .inl hd
end
end Go.Proofs.Ytgfippbcgneegaa
set_option linter.unusedVariables false
set_option linter.unusedSimpArgs false
namespace Go.Proofs.Ytgfippbcgneegaa
def wtT : WtF := fun op line a => if op = 1 ∧ line = 1 then some (1, fun v => v == a) else if op = 3 ∧ line = 1 then some (2, fun v => v == a) else none
theorem tf_1_0 {r : LS} (h1 : r.op = 1) (h2 : r.line = 0) : r.tf = r.draw 1 := by unfold LS.tf; rw [h1, h2]; rfl
theorem tf_1_1 {r : LS} (h1 : r.op = 1) (h2 : r.line = 1) : r.tf = r.awaitR := by unfold LS.tf; rw [h1, h2]; rfl
theorem tf_1_2 {r : LS} (h1 : r.op = 1) (h2 : r.line = 2) : r.tf = r.turn 1 4 := by unfold LS.tf; rw [h1, h2]; rfl
theorem tf_2_0 {r : LS} (h1 : r.op = 2) (h2 : r.line = 0) : r.tf = r.turn 2 6 := by unfold LS.tf; rw [h1, h2]; rfl
theorem tf_3_0 {r : LS} (h1 : r.op = 3) (h2 : r.line = 0) : r.tf = r.draw 2 := by unfold LS.tf; rw [h1, h2]; rfl
theorem tf_3_1 {r : LS} (h1 : r.op = 3) (h2 : r.line = 1) : r.tf = r.awaitW := by unfold LS.tf; rw [h1, h2]; rfl
theorem tf_4_0 {r : LS} (h1 : r.op = 4) (h2 : r.line = 0) : r.tf = r.leave := by unfold LS.tf; rw [h1, h2]; rfl
theorem tf_4_1 {r : LS} (h1 : r.op = 4) (h2 : r.line = 1) : r.tf = r.turn 2 8 := by unfold LS.tf; rw [h1, h2]; rfl
theorem tf_5_0 {r : LS} (h1 : r.op = 5) (h2 : r.line = 0) : r.tf = r.look := by unfold LS.tf; rw [h1, h2]; rfl
theorem tf_5_1 {r : LS} (h1 : r.op = 5) (h2 : r.line = 1) : r.tf = r.weigh 1 0 := by unfold LS.tf; rw [h1, h2]; rfl
theorem tf_5_2 {r : LS} (h1 : r.op = 5) (h2 : r.line = 2) : r.tf = (if r.claimed then (r.claim.note 2 1).go 3 else r.claim.go 0) := by unfold LS.tf; rw [h1, h2]; rfl
theorem tf_5_3 {r : LS} (h1 : r.op = 5) (h2 : r.line = 3) : r.tf = r.turn 1 4 := by unfold LS.tf; rw [h1, h2]; rfl
theorem tf_6_0 {r : LS} (h1 : r.op = 6) (h2 : r.line = 0) : r.tf = r.look := by unfold LS.tf; rw [h1, h2]; rfl
theorem tf_6_1 {r : LS} (h1 : r.op = 6) (h2 : r.line = 1) : r.tf = r.weigh 2 0 := by unfold LS.tf; rw [h1, h2]; rfl
theorem tf_6_2 {r : LS} (h1 : r.op = 6) (h2 : r.line = 2) : r.tf = (if r.claimed then ((r.claim.note 2 2).note 4 0).fin true else r.claim.go 0) := by unfold LS.tf; rw [h1, h2]; rfl
theorem tf_7_0 {r : LS} (h1 : r.op = 7) (h2 : r.line = 0) : r.tf = r.look := by unfold LS.tf; rw [h1, h2]; rfl
theorem tf_7_1 {r : LS} (h1 : r.op = 7) (h2 : r.line = 1) : r.tf = r.weigh 2 1 := by unfold LS.tf; rw [h1, h2]; rfl
theorem tf_7_2 {r : LS} (h1 : r.op = 7) (h2 : r.line = 2) : r.tf = (if r.claimed then (r.claim.note 9 0).go 3 else r.claim.go 0) := by unfold LS.tf; rw [h1, h2]; rfl
theorem tf_7_3 {r : LS} (h1 : r.op = 7) (h2 : r.line = 3) : r.tf = r.giveBack := by unfold LS.tf; rw [h1, h2]; rfl
theorem tf_8_0 {r : LS} (h1 : r.op = 8) (h2 : r.line = 0) : r.tf = r.turn 1 10 := by unfold LS.tf; rw [h1, h2]; rfl
theorem add_far8 {xs : List Int} {c x d : Int} (hc : c < 8) (hd : 8 ≤ d) : wordAt (doNew xs 3 c x 0) d = wordAt xs d := own_add_far (by omega)
theorem cas_far8 {xs : List Int} {c x y d : Int} (hc : c < 8) (hd : 8 ≤ d) : wordAt (doNew xs 5 c x y) d = wordAt xs d := own_cas_far (by omega)
section
variable {r : LS}
theorem plain_draw (cl : Int) : PlainLine r (r.draw cl) := ⟨fun d hd => add_far8 (c := 0) (by decide) hd, rfl, .inl rfl⟩
theorem plain_turn (c what : Int) (h0 : 0 ≤ c) (h8 : c < 8) : PlainLine r (r.turn c what) := ⟨fun d hd => add_far8 h8 hd, rfl, .inr ⟨c, h0, h8, rfl⟩⟩
theorem plain_leave : PlainLine r r.leave := ⟨fun d hd => add_far8 (c := 1) (by decide) hd, rfl, .inr ⟨1, by decide, by decide, rfl⟩⟩
theorem plain_look : PlainLine r r.look := ⟨fun d hd => by show wordAt (doNew r.xs 1 0 0 0) d = _; rw [own_load], rfl, .inl rfl⟩
theorem plain_weigh (c own : Int) : PlainLine r (r.weigh c own) := by
  have e : ∀ d, wordAt (doNew r.xs 1 c 0 0) d = wordAt r.xs d := fun d => by rw [own_load]
  unfold LS.weigh
  split
  · exact ⟨fun d _ => e d, rfl, .inl rfl⟩
  split
  · exact ⟨fun d _ => e d, rfl, .inl rfl⟩
  · exact ⟨fun d _ => e d, rfl, .inl rfl⟩
theorem plain_claim {r' : LS} (hx : r'.xs = r.claim.xs) (hs : r'.s = r.s) (hk : r'.k = r.k) : PlainLine r r' := ⟨fun d hd => by rw [hx]; exact cas_far8 (c := 0) (by decide) hd, hs, .inl hk⟩
theorem plain_back : PlainLine r r.giveBack := ⟨fun d hd => add_far8 (c := 2) (by decide) hd, rfl, .inl rfl⟩
end
theorem tfCase_2 {op line : Int} (h : ¬ (op = 1 ∧ line = 1)) : tfCase op line ≠ 2 := by
  unfold tfCase
  by_cases h1 : op = 1 ∧ line = 0
  · rw [if_pos h1]; decide
  rw [if_neg h1]
  rw [if_neg h]
  by_cases h3 : op = 1 ∧ line = 2
  · rw [if_pos h3]; decide
  rw [if_neg h3]
  by_cases h4 : op = 2 ∧ line = 0
  · rw [if_pos h4]; decide
  rw [if_neg h4]
  by_cases h5 : op = 3 ∧ line = 0
  · rw [if_pos h5]; decide
  rw [if_neg h5]
  by_cases h6 : op = 3 ∧ line = 1
  · rw [if_pos h6]; decide
  rw [if_neg h6]
  by_cases h7 : op = 4 ∧ line = 0
  · rw [if_pos h7]; decide
  rw [if_neg h7]
  by_cases h8 : op = 4 ∧ line = 1
  · rw [if_pos h8]; decide
  rw [if_neg h8]
  by_cases h9 : op = 5 ∧ line = 0
  · rw [if_pos h9]; decide
  rw [if_neg h9]
  by_cases h10 : op = 5 ∧ line = 1
  · rw [if_pos h10]; decide
  rw [if_neg h10]
  by_cases h11 : op = 5 ∧ line = 2
  · rw [if_pos h11]; decide
  rw [if_neg h11]
  by_cases h12 : op = 5 ∧ line = 3
  · rw [if_pos h12]; decide
  rw [if_neg h12]
  by_cases h13 : op = 6 ∧ line = 0
  · rw [if_pos h13]; decide
  rw [if_neg h13]
  by_cases h14 : op = 6 ∧ line = 1
  · rw [if_pos h14]; decide
  rw [if_neg h14]
  by_cases h15 : op = 6 ∧ line = 2
  · rw [if_pos h15]; decide
  rw [if_neg h15]
  by_cases h16 : op = 7 ∧ line = 0
  · rw [if_pos h16]; decide
  rw [if_neg h16]
  by_cases h17 : op = 7 ∧ line = 1
  · rw [if_pos h17]; decide
  rw [if_neg h17]
  by_cases h18 : op = 7 ∧ line = 2
  · rw [if_pos h18]; decide
  rw [if_neg h18]
  by_cases h19 : op = 7 ∧ line = 3
  · rw [if_pos h19]; decide
  rw [if_neg h19]
  by_cases h20 : op = 8 ∧ line = 0
  · rw [if_pos h20]; decide
  rw [if_neg h20]
  decide
theorem tfCase_6 {op line : Int} (h : ¬ (op = 3 ∧ line = 1)) : tfCase op line ≠ 6 := by
  unfold tfCase
  by_cases h1 : op = 1 ∧ line = 0
  · rw [if_pos h1]; decide
  rw [if_neg h1]
  by_cases h2 : op = 1 ∧ line = 1
  · rw [if_pos h2]; decide
  rw [if_neg h2]
  by_cases h3 : op = 1 ∧ line = 2
  · rw [if_pos h3]; decide
  rw [if_neg h3]
  by_cases h4 : op = 2 ∧ line = 0
  · rw [if_pos h4]; decide
  rw [if_neg h4]
  by_cases h5 : op = 3 ∧ line = 0
  · rw [if_pos h5]; decide
  rw [if_neg h5]
  rw [if_neg h]
  by_cases h7 : op = 4 ∧ line = 0
  · rw [if_pos h7]; decide
  rw [if_neg h7]
  by_cases h8 : op = 4 ∧ line = 1
  · rw [if_pos h8]; decide
  rw [if_neg h8]
  by_cases h9 : op = 5 ∧ line = 0
  · rw [if_pos h9]; decide
  rw [if_neg h9]
  by_cases h10 : op = 5 ∧ line = 1
  · rw [if_pos h10]; decide
  rw [if_neg h10]
  by_cases h11 : op = 5 ∧ line = 2
  · rw [if_pos h11]; decide
  rw [if_neg h11]
  by_cases h12 : op = 5 ∧ line = 3
  · rw [if_pos h12]; decide
  rw [if_neg h12]
  by_cases h13 : op = 6 ∧ line = 0
  · rw [if_pos h13]; decide
  rw [if_neg h13]
  by_cases h14 : op = 6 ∧ line = 1
  · rw [if_pos h14]; decide
  rw [if_neg h14]
  by_cases h15 : op = 6 ∧ line = 2
  · rw [if_pos h15]; decide
  rw [if_neg h15]
  by_cases h16 : op = 7 ∧ line = 0
  · rw [if_pos h16]; decide
  rw [if_neg h16]
  by_cases h17 : op = 7 ∧ line = 1
  · rw [if_pos h17]; decide
  rw [if_neg h17]
  by_cases h18 : op = 7 ∧ line = 2
  · rw [if_pos h18]; decide
  rw [if_neg h18]
  by_cases h19 : op = 7 ∧ line = 3
  · rw [if_pos h19]; decide
  rw [if_neg h19]
  by_cases h20 : op = 8 ∧ line = 0
  · rw [if_pos h20]; decide
  rw [if_neg h20]
  decide
theorem lines_tf : LinesOK LS.tf wtT := by
  refine ⟨fun op line a c q h => ?_, fun line a => ?_, fun op a => ?_, fun r => ?_, fun r c q hon hw => ?_, fun r hon hw => ?_⟩
  · unfold wtT at h
    split at h
    · obtain ⟨rfl, _⟩ := Prod.mk.inj (Option.some.inj h); decide
    split at h
    · obtain ⟨rfl, _⟩ := Prod.mk.inj (Option.some.inj h); decide
    · cases h
  · unfold wtT; rw [if_neg (by omega), if_neg (by omega)]
  · unfold wtT; rw [if_neg (by omega), if_neg (by omega)]
  · have g := good_tf (r := r)
    exact ⟨g.n, g.mode, g.task, g.op, g.len⟩
  · unfold wtT at hw
    split at hw
    · rename_i e
      obtain ⟨rfl, rfl⟩ := Prod.mk.inj (Option.some.inj hw)
      rw [tf_1_1 e.1 e.2]
      unfold LS.awaitR
      split
      · rename_i hd
        exact ⟨rfl, rfl, rfl, rfl, fun e2 => absurd (show (r.stepR 1 r.mine).done = false from e2) (by rw [hd]; decide)⟩
      · exact ⟨rfl, rfl, rfl, rfl, fun _ => ⟨rfl, rfl⟩⟩
    split at hw
    · rename_i e
      obtain ⟨rfl, rfl⟩ := Prod.mk.inj (Option.some.inj hw)
      rw [tf_3_1 e.1 e.2]
      unfold LS.awaitW LS.noteIf
      split
      · rename_i hd
        split <;> exact ⟨rfl, rfl, rfl, rfl, fun e2 => absurd (show (r.stepR 2 r.mine).done = false from e2) (by rw [hd]; decide)⟩
      · split <;> exact ⟨rfl, rfl, rfl, rfl, fun _ => ⟨rfl, rfl⟩⟩
    · cases hw
  · have nw : ¬ (r.op = 1 ∧ r.line = 1) ∧ ¬ (r.op = 3 ∧ r.line = 1) := by
      unfold wtT at hw
      refine ⟨fun e => ?_, fun e => ?_⟩
      · rw [if_pos e] at hw; cases hw
      · rw [if_neg (by omega), if_pos e] at hw; cases hw
    have none_ : PlainLine r r := ⟨fun _ _ => rfl, rfl, .inl rfl⟩
    have n2 : tfCase r.op r.line ≠ 2 := tfCase_2 nw.1
    have n6 : tfCase r.op r.line ≠ 6 := tfCase_6 nw.2
    unfold LS.tf
    generalize tfCase r.op r.line = n at n2 n6
    split
    · exact plain_draw _
    · exact absurd rfl n2
    · exact plain_turn _ _ (by decide) (by decide)
    · exact plain_turn _ _ (by decide) (by decide)
    · exact plain_draw _
    · exact absurd rfl n6
    · exact plain_leave
    · exact plain_turn _ _ (by decide) (by decide)
    · exact plain_look
    · exact plain_weigh _ _
    · split <;> exact plain_claim rfl rfl rfl
    · exact plain_turn _ _ (by decide) (by decide)
    · exact plain_look
    · exact plain_weigh _ _
    · split <;> exact plain_claim rfl rfl rfl
    · exact plain_look
    · exact plain_weigh _ _
    · split <;> exact plain_claim rfl rfl rfl
    · exact plain_back
    · exact plain_turn _ _ (by decide) (by decide)
    · exact none_
def wd (b : Int) (n : Nat) : Int := (b + n) % 4294967296
theorem wd_up (b : Int) (n : Nat) : (1 + wd b n) % 4294967296 = wd b (n + 1) := by unfold wd; push_cast; omega
theorem wd_up' (b : Int) (n : Nat) : (wd b n + 1) % 4294967296 = wd b (n + 1) := by unfold wd; push_cast; omega
theorem wd_inj {b : Int} {n n' : Nat} (h : wd b n = wd b n') (h1 : n < 100000) (h2 : n' < 100000) : n = n' := by unfold wd at h; omega
theorem wd_ahead {b : Int} {n n' : Nat} (h1 : n < 100000) (h2 : n' < 100000) : aheadI (wd b n) (wd b n') = (n : Int) - n' := by unfold aheadI wd; omega
structure TaskT (b : Int) (U R W tk : Nat) (h : Int) (r : LS) : Prop where
  line : lineOK h r
  wake : wakeOK r
  tick : (r.op = 1 ∨ r.op = 3) → r.line = 1 → r.a = wd b tk
  tries : (r.op = 5 ∨ r.op = 6 ∨ r.op = 7) → (r.line = 1 ∨ r.line = 2) → ∃ A : Nat, A ≤ U ∧ r.a = wd b A ∧ (r.line = 2 → (r.op = 5 → A ≤ R) ∧ (r.op = 6 → A ≤ W) ∧ (r.op = 7 → A ≤ W + 1))
theorem TaskT.mono {b : Int} {U R W tk U' R' W' : Nat} {h : Int} {r : LS} (g : TaskT b U R W tk h r) (hU : U ≤ U') (hR : R ≤ R') (hW : W ≤ W') : TaskT b U' R' W' tk h r :=
  ⟨g.line, g.wake, g.tick, fun h1 h2 => by
    obtain ⟨A, a1, a2, a3⟩ := g.tries h1 h2
    exact ⟨A, by omega, a2, fun e => ⟨fun e2 => by have := (a3 e).1 e2; omega, fun e2 => by have := (a3 e).2.1 e2; omega, fun e2 => by have := (a3 e).2.2 e2; omega⟩⟩⟩
theorem task_idle {b : Int} {U R W tk : Nat} {h : Int} (r : LS) (hh : h = 0 ∨ h = 1 ∨ h = 2) : TaskT b U R W tk h (zeroF r 0) :=
  ⟨.inl ⟨rfl, hh⟩, fun e => (by cases e), fun e => (by rcases e with e | e <;> cases e), fun e => (by rcases e with e | e | e <;> cases e)⟩
def idleT (k : Nat) (h : Int) : Nat := if h = 1 then 5 * k + 1 else if h = 2 then 10 * k + 2 else 0
def worthT (k : Nat) : VF := fun w h r =>
  if r.op = 0 then idleT k h else if r.ret ≠ 0 then idleT k (behindI r.op r.ret h)
  else if r.op = 1 then (if r.line = 0 then 13 * k + 7 else if r.line = 1 then 10 * k + 6 else 10 * k + 2)
  else if r.op = 2 then 5 * k + 1
  else if r.op = 3 then (if r.line = 0 then 13 * k + 7 else 10 * k + 6)
  else if r.op = 4 then (if r.line = 0 then 10 * k + 2 else 5 * k + 1)
  else if r.op = 8 then 10 * k + 2
  else if r.line = 0 then 13 * k + 8 else if r.line = 3 then 10 * k + 3
  else if r.line = 1 then (if r.a = w 0 then 13 * k + 7 else 13 * k + 10) else (if r.a = w 0 then 13 * k + 6 else 13 * k + 9)
theorem worth_tf (k : Nat) : WorthOK (worthT k) := by
  refine ⟨fun w h r r' e1 e2 e3 e4 => ?_, fun w h r hr => ?_⟩
  · unfold worthT; rw [e1, e2, e3, e4]
  · have e : worthT k w (behindI r.op r.ret h) (zeroF r 0) = idleT k (behindI r.op r.ret h) := rfl
    rw [e]
    unfold worthT
    by_cases e0 : r.op = 0
    · rw [if_pos e0, e0]
      have : behindI 0 r.ret h = h := by unfold behindI; by_cases e1 : r.ret = 2 <;> simp [e1]
      rw [this]
      exact Nat.le_refl _
    · rw [if_neg e0, if_pos hr]; exact Nat.le_refl _
theorem ite_rise {p : Prop} [Decidable p] {a b a' b' : Nat} (h1 : a' ≤ a + 3) (h2 : b' ≤ b + 3) : (if p then a' else b') ≤ (if p then a else b) + 3 := by
  by_cases h : p
  · rw [if_pos h, if_pos h]; exact h1
  · rw [if_neg h, if_neg h]; exact h2
theorem worth_rise (k : Nat) (w w' : Int → Int) (h : Int) (r : LS) : worthT k w' h r ≤ worthT k w h r + 3 := by
  have t1 : ∀ a b : Nat, a ≤ b + 3 → b ≤ a + 3 → (if r.a = w' 0 then a else b) ≤ (if r.a = w 0 then a else b) + 3 := fun a b h1 h2 => by
    by_cases e1 : r.a = w' 0 <;> by_cases e2 : r.a = w 0
    · rw [if_pos e1, if_pos e2]; omega
    · rw [if_pos e1, if_neg e2]; omega
    · rw [if_neg e1, if_pos e2]; omega
    · rw [if_neg e1, if_neg e2]; omega
  unfold worthT
  refine ite_rise (Nat.le_add_right _ _) (ite_rise (Nat.le_add_right _ _) (ite_rise (Nat.le_add_right _ _) (ite_rise (Nat.le_add_right _ _) (ite_rise (Nat.le_add_right _ _) (ite_rise (Nat.le_add_right _ _) (ite_rise (Nat.le_add_right _ _) (ite_rise (Nat.le_add_right _ _) (ite_rise (Nat.le_add_right _ _) (ite_rise (t1 _ _ ?_ ?_) (t1 _ _ ?_ ?_))))))))))
  all_goals omega
theorem worth_same (k : Nat) {w w' : Int → Int} (e : w' 0 = w 0) (h : Int) (r : LS) : worthT k w' h r = worthT k w h r := by
  unfold worthT; rw [e]
end Go.Proofs.Ytgfippbcgneegaa
set_option linter.unusedVariables false
set_option linter.unusedSimpArgs false
namespace Go.Proofs.Ytgfippbcgneegaa
def Moved (b : Int) (s : TS) (t : Nat) (h' : Int) (r' : LS) (xs' : List Int) : Prop :=
  ∃ T U R W, Trans s t (roleOf h' r') T U R W ∧ s.U ≤ U ∧ U ≤ s.U + 1 ∧ s.R ≤ R ∧ s.W ≤ W ∧ wordAt xs' 0 = wd b U ∧ wordAt xs' 1 = wd b R ∧ wordAt xs' 2 = wd b W ∧ TaskT b U R W T h' r'
theorem fin_no {R : LS} (h : Int) (e : R.ret = 0) : R.finR = R ∧ R.finH h = h := by
  have ho : R.over = false := by unfold LS.over; rw [e]; rfl
  unfold LS.finR LS.finH; rw [ho]; exact ⟨rfl, rfl⟩
theorem fin_on {R : LS} (h : Int) (e : R.k.on = true) : R.finR = R ∧ R.finH h = h := by
  have ho : R.over = false := by unfold LS.over; rw [e]; simp
  unfold LS.finR LS.finH; rw [ho]; exact ⟨rfl, rfl⟩
theorem fin_yes {R : LS} (h : Int) (e : R.ret ≠ 0) (e2 : R.k.on = false) : R.finR = zeroF R 0 ∧ R.finH h = behindI R.op R.ret h := by
  have ho : R.over = true := by unfold LS.over; rw [e2]; simpa using e
  unfold LS.finR LS.finH; rw [ho]; exact ⟨rfl, rfl⟩
theorem line_like {h : Int} {r r' : LS} (e1 : r'.op = r.op) (e2 : r'.line = r.line) (g : lineOK h r) : lineOK h r' := by unfold lineOK at *; rw [e1, e2]; exact g
theorem line_try {h o l : Int} {r' : LS} (e1 : r'.op = o) (e2 : r'.line = l) (ho : o = 5 ∨ o = 6 ∨ o = 7) (hh : (o = 7 ∧ h = 1) ∨ (o ≠ 7 ∧ h = 0)) (hl : l = 0 ∨ l = 1 ∨ l = 2) : lineOK h r' := by
  have hl3 : l = 0 ∨ l = 1 ∨ l = 2 ∨ l = 3 := by omega
  unfold lineOK
  rw [e1, e2]
  rcases ho with e | e | e
  · exact .inr (.inr (.inr (.inr (.inr (.inl ⟨e, by omega, hl3⟩)))))
  · exact .inr (.inr (.inr (.inr (.inr (.inr (.inl ⟨e, by omega, hl⟩))))))
  · exact .inr (.inr (.inr (.inr (.inr (.inr (.inr (.inl ⟨e, by omega, hl3⟩)))))))
theorem no13 {o : Int} (ho : o = 5 ∨ o = 6 ∨ o = 7) : ¬ (o = 1 ∨ o = 3) := by omega
theorem is2 {l : Int} (e : l = 1 ∨ l = 2) (h0 : l = 0 ∨ l = 2) : l = 2 := by omega
theorem task_off {b : Int} {U R W tk : Nat} {h : Int} {r' : LS} (hl : lineOK h r') (hk : r'.k.on = false) (h1 : (r'.op = 1 ∨ r'.op = 3) → r'.line = 1 → r'.a = wd b tk) (h2 : (r'.op = 5 ∨ r'.op = 6 ∨ r'.op = 7) → (r'.line = 1 ∨ r'.line = 2) → ∃ A : Nat, A ≤ U ∧ r'.a = wd b A ∧ (r'.line = 2 → (r'.op = 5 → A ≤ R) ∧ (r'.op = 6 → A ≤ W) ∧ (r'.op = 7 → A ≤ W + 1))) : TaskT b U R W tk h r' :=
  ⟨hl, fun e => (by rw [hk] at e; cases e), h1, h2⟩
section
variable (r : LS) (c what own v l : Int)
theorem turn_p : (r.turn c what).op = r.op ∧ (r.turn c what).line = r.line ∧ (r.turn c what).k = beginI r.mode c ∧ (r.turn c what).ret = 2 ∧ (r.turn c what).xs = doNew r.xs 3 c 1 0 := ⟨rfl, rfl, rfl, rfl, rfl⟩
theorem leave_p : r.leave.op = r.op ∧ r.leave.line = 1 ∧ r.leave.k = beginI r.mode 1 ∧ r.leave.ret = r.ret ∧ r.leave.xs = doNew r.xs 3 1 1 0 := ⟨rfl, rfl, rfl, rfl, rfl⟩
theorem look_p : r.look.op = r.op ∧ r.look.line = 1 ∧ r.look.k = r.k ∧ r.look.ret = r.ret ∧ r.look.xs = doNew r.xs 1 0 0 0 ∧ r.look.a = wordAt r.xs 0 := ⟨rfl, rfl, rfl, rfl, rfl, rfl⟩
end
section
variable {b : Int} {k p : Nat} {s : TS} {t : Nat} {r : LS} {h : Int}
structure Ahead_ (b : Int) (k : Nat) (s : TS) (t : Nat) (h : Int) (r : LS) : Prop where
  inv : TInv k s
  lt : t < k
  role : s.role t = roleOf h r
  task : TaskT b s.U s.R s.W (s.tk t) h r
  w0 : wordAt r.xs 0 = wd b s.U
  w1 : wordAt r.xs 1 = wd b s.R
  w2 : wordAt r.xs 2 = wd b s.W
  U : s.U < 50000
  th : ∀ c : Int, 0 ≤ c → c < 8 → there r.xs c = true
  on : r.k.on = false
  ret : r.ret = 0
theorem idle_role (h : Int) (r : LS) : roleOf h (zeroF r 0) = if h = 1 then .reads else if h = 2 then .writes else .out := rfl
theorem moved_stay (A : Ahead_ b k s t h r) {h' : Int} {r' : LS} {xs' : List Int} (hr : roleOf h' r' = roleOf h r) (hx : ∀ d, 0 ≤ d → d < 8 → wordAt xs' d = wordAt r.xs d) (hT : TaskT b s.U s.R s.W (s.tk t) h' r') : Moved b s t h' r' xs' := by
  refine ⟨s.tk t, s.U, s.R, s.W, ?_, by omega, by omega, by omega, by omega, by rw [hx 0 (by decide) (by decide)]; exact A.w0, by rw [hx 1 (by decide) (by decide)]; exact A.w1, by rw [hx 2 (by decide) (by decide)]; exact A.w2, hT⟩
  rw [hr, ← A.role]; exact .stay
theorem addw (A : Ahead_ b k s t h r) {c : Int} (h0 : 0 ≤ c) (h8 : c < 8) {n : Nat} (hn : wordAt r.xs c = wd b n) : wordAt (doNew r.xs 3 c 1 0) c = wd b (n + 1) := by
  rw [own_add (A.th c h0 h8), hn, wd_up]
theorem addf {xs : List Int} {c d : Int} (h : c ≠ d) : wordAt (doNew xs 3 c 1 0) d = wordAt xs d := own_add_far h
theorem moved_draw (A : Ahead_ b k s t h r) (cl : Int) (hop : r.op = 1 ∨ r.op = 3) (hl : r.line = 0) (hh : h = 0) (hs : r.s = 0) : Moved b s t ((r.draw cl).finH h) (r.draw cl).finR (r.draw cl).xs := by
  obtain ⟨e1, e2⟩ := fin_no (R := r.draw cl) h A.ret
  rw [e1, e2]
  have hout : s.role t = .out := by
    rw [A.role]; unfold roleOf
    rcases hop with e | e <;> simp [e, hl]
  have hrole : roleOf h (r.draw cl) = .waits := by
    unfold roleOf
    rcases hop with e | e <;> simp [LS.draw, LS.go, LS.note, LS.keepA, LS.doA, e, hs]
  refine ⟨s.U, s.U + 1, s.R, s.W, by rw [hrole]; exact .draw hout, by omega, by omega, by omega, by omega, addw A (c := 0) (by decide) (by decide) A.w0, (addf (by decide)).trans A.w1, (addf (by decide)).trans A.w2, ?_⟩
  refine ⟨?_, fun e => ?_, fun _ _ => A.w0, fun e => ?_⟩
  · subst hh
    unfold lineOK
    rcases hop with e | e <;> simp [LS.draw, LS.go, LS.note, LS.keepA, LS.doA, e]
  · have : r.k.on = true := e
    rw [A.on] at this; cases this
  · exfalso
    have e' : r.op = 5 ∨ r.op = 6 ∨ r.op = 7 := e
    omega
theorem task_turn (A : Ahead_ b k s t h r) {c what : Int} {U R W : Nat} (hw : wakeOK (r.turn c what)) (h1 : ¬ ((r.op = 1 ∨ r.op = 3) ∧ r.line = 1)) (h2 : ¬ ((r.op = 5 ∨ r.op = 6 ∨ r.op = 7) ∧ (r.line = 1 ∨ r.line = 2))) : TaskT b U R W 0 h (r.turn c what) := by
  obtain ⟨p1, p2, _⟩ := turn_p r c what
  exact ⟨line_like p1 p2 A.task.line, hw, fun e e2 => absurd ⟨by rwa [p1] at e, by rwa [p2] at e2⟩ h1, fun e e2 => absurd ⟨by rwa [p1] at e, by rwa [p2] at e2⟩ h2⟩
theorem moved_turn (A : Ahead_ b k s t h r) (c what : Int) {x : Role} {U' R' W' : Nat} (hm : Trans s t x 0 U' R' W') (hU : s.U ≤ U' ∧ U' ≤ s.U + 1) (hR : s.R ≤ R') (hW : s.W ≤ W')
    (x2 : r.mode = 2 → roleOf h (r.turn c what) = x) (x1 : roleOf (behindI r.op 2 h) (zeroF (r.turn c what) 0) = x) (hh : behindI r.op 2 h = 0 ∨ behindI r.op 2 h = 1 ∨ behindI r.op 2 h = 2)
    (hT : r.mode = 2 → TaskT b U' R' W' 0 h (r.turn c what)) (w0 : wordAt (doNew r.xs 3 c 1 0) 0 = wd b U') (w1 : wordAt (doNew r.xs 3 c 1 0) 1 = wd b R') (w2 : wordAt (doNew r.xs 3 c 1 0) 2 = wd b W') :
    Moved b s t ((r.turn c what).finH h) (r.turn c what).finR (r.turn c what).xs := by
  by_cases e2 : r.mode = 2
  · obtain ⟨f1, f2⟩ := fin_on (R := r.turn c what) h (by show (beginI r.mode c).on = true; rw [e2]; rfl)
    rw [f1, f2]
    exact ⟨0, U', R', W', by rw [x2 e2]; exact hm, hU.1, hU.2, hR, hW, w0, w1, w2, hT e2⟩
  · obtain ⟨f1, f2⟩ := fin_yes (R := r.turn c what) h (by show (2 : Int) ≠ 0; decide) (by show (beginI r.mode c).on = false; rw [beginI_no e2]; rfl)
    rw [f1, f2]
    exact ⟨0, U', R', W', by rw [show behindI (r.turn c what).op (r.turn c what).ret h = behindI r.op 2 h from rfl, x1]; exact hm, hU.1, hU.2, hR, hW, w0, w1, w2, task_idle _ hh⟩
theorem m_1_2 (A : Ahead_ b k s t h r) (ho : r.op = 1) (hl : r.line = 2) (hh : h = 0) : Moved b s t ((r.turn 1 4).finH h) (r.turn 1 4).finR (r.turn 1 4).xs := by
  subst hh
  have hr : s.role t = .enters := by rw [A.role]; unfold roleOf; simp [ho, hl, A.on]
  refine moved_turn A 1 4 (.enter hr) ⟨by omega, by omega⟩ (by omega) (by omega) (fun e => ?_) ?_ (by rw [ho]; exact .inr (.inl rfl)) (fun e => ?_) ((addf (by decide)).trans A.w0) (addw A (by decide) (by decide) A.w1) ((addf (by decide)).trans A.w2)
  · unfold roleOf; simp [LS.turn, LS.fin, LS.wake, LS.note, LS.doA, LS.leave, LS.go, ho, hl, e, beginI]
  · rw [ho]; rfl
  · exact task_turn A (fun _ => .inl ⟨ho, hl, rfl⟩) (by omega) (by omega)
theorem m_2_0 (A : Ahead_ b k s t h r) (ho : r.op = 2) (hl : r.line = 0) (hh : h = 0) : Moved b s t ((r.turn 2 6).finH h) (r.turn 2 6).finR (r.turn 2 6).xs := by
  subst hh
  have hr : s.role t = .reads := by rw [A.role]; unfold roleOf; simp [ho, A.on]
  refine moved_turn A 2 6 (.leave hr) ⟨by omega, by omega⟩ (by omega) (by omega) (fun e => ?_) ?_ (by rw [ho]; exact .inl rfl) (fun e => ?_) ((addf (by decide)).trans A.w0) ((addf (by decide)).trans A.w1) (addw A (by decide) (by decide) A.w2)
  · unfold roleOf; simp [LS.turn, LS.fin, LS.wake, LS.note, LS.doA, LS.leave, LS.go, ho, e, beginI]
  · rw [ho]; rfl
  · exact task_turn A (fun _ => .inr (.inl ⟨ho, rfl⟩)) (by omega) (by omega)
theorem m_4_1 (A : Ahead_ b k s t h r) (ho : r.op = 4) (hl : r.line = 1) (hh : h = 0) : Moved b s t ((r.turn 2 8).finH h) (r.turn 2 8).finR (r.turn 2 8).xs := by
  subst hh
  have hr : s.role t = .reads := by rw [A.role]; unfold roleOf; simp [ho, hl, A.ret]
  refine moved_turn A 2 8 (.leave hr) ⟨by omega, by omega⟩ (by omega) (by omega) (fun e => ?_) ?_ (by rw [ho]; exact .inl rfl) (fun e => ?_) ((addf (by decide)).trans A.w0) ((addf (by decide)).trans A.w1) (addw A (by decide) (by decide) A.w2)
  · unfold roleOf; simp [LS.turn, LS.fin, LS.wake, LS.note, LS.doA, LS.leave, LS.go, ho, hl]
  · rw [ho]; rfl
  · exact task_turn A (fun _ => .inr (.inr (.inl ⟨ho, hl⟩))) (by omega) (by omega)
theorem m_5_3 (A : Ahead_ b k s t h r) (ho : r.op = 5) (hl : r.line = 3) (hh : h = 0) : Moved b s t ((r.turn 1 4).finH h) (r.turn 1 4).finR (r.turn 1 4).xs := by
  subst hh
  have hr : s.role t = .enters := by rw [A.role]; unfold roleOf; simp [ho, hl, A.on]
  refine moved_turn A 1 4 (.enter hr) ⟨by omega, by omega⟩ (by omega) (by omega) (fun e => ?_) ?_ (by rw [ho]; exact .inr (.inl rfl)) (fun e => ?_) ((addf (by decide)).trans A.w0) (addw A (by decide) (by decide) A.w1) ((addf (by decide)).trans A.w2)
  · unfold roleOf; simp [LS.turn, LS.fin, LS.wake, LS.note, LS.doA, LS.leave, LS.go, ho, hl, e, beginI]
  · rw [ho]; rfl
  · exact task_turn A (fun _ => .inr (.inr (.inr (.inl ⟨ho, hl, rfl⟩)))) (by omega) (by omega)
theorem m_8_0 (A : Ahead_ b k s t h r) (ho : r.op = 8) (hl : r.line = 0) (hh : h = 1) : Moved b s t ((r.turn 1 10).finH h) (r.turn 1 10).finR (r.turn 1 10).xs := by
  subst hh
  have hr : s.role t = .writes := by rw [A.role]; unfold roleOf; simp [ho, A.on]
  refine moved_turn A 1 10 (.down hr) ⟨by omega, by omega⟩ (by omega) (by omega) (fun e => ?_) ?_ (by rw [ho]; exact .inr (.inl rfl)) (fun e => ?_) ((addf (by decide)).trans A.w0) (addw A (by decide) (by decide) A.w1) ((addf (by decide)).trans A.w2)
  · unfold roleOf; simp [LS.turn, LS.fin, LS.wake, LS.note, LS.doA, LS.leave, LS.go, ho, e, beginI]
  · rw [ho]; rfl
  · exact task_turn A (fun _ => .inr (.inr (.inr (.inr ⟨ho, rfl⟩)))) (by omega) (by omega)
theorem m_4_0 (A : Ahead_ b k s t h r) (ho : r.op = 4) (hl : r.line = 0) (hh : h = 0) : Moved b s t (r.leave.finH h) r.leave.finR r.leave.xs := by
  subst hh
  obtain ⟨e1, e2⟩ := fin_no (R := r.leave) 0 A.ret
  rw [e1, e2]
  have hr : s.role t = .writes := by rw [A.role]; unfold roleOf; simp [ho, hl]
  have hrole : roleOf 0 r.leave = .reads := by unfold roleOf; simp [LS.turn, LS.fin, LS.wake, LS.note, LS.doA, LS.leave, LS.go, ho, A.ret]
  refine ⟨0, s.U, s.R + 1, s.W, by rw [hrole]; exact .down hr, by omega, by omega, by omega, by omega, (addf (by decide)).trans A.w0, addw A (c := 1) (by decide) (by decide) A.w1, (addf (by decide)).trans A.w2, ?_⟩
  obtain ⟨p1, p2, _⟩ := leave_p r
  refine ⟨?_, fun _ => .inr (.inr (.inl ⟨ho, rfl⟩)), fun e3 => (by rw [p1] at e3; omega), fun e3 => (by rw [p1] at e3; omega)⟩
  unfold lineOK; simp [LS.turn, LS.fin, LS.wake, LS.note, LS.doA, LS.leave, LS.go, ho]
theorem m_7_3 (A : Ahead_ b k s t h r) (ho : r.op = 7) (hl : r.line = 3) (hh : h = 1) : Moved b s t (r.giveBack.finH h) r.giveBack.finR r.giveBack.xs := by
  subst hh
  obtain ⟨e1, e2⟩ := fin_yes (R := r.giveBack) 1 (by show (2 : Int) ≠ 0; decide) A.on
  rw [e1, e2]
  have hr : s.role t = .upgrades := by rw [A.role]; unfold roleOf; simp [ho, hl]
  have hb : behindI r.giveBack.op r.giveBack.ret 1 = 2 := by show behindI r.op 2 1 = 2; rw [ho]; rfl
  rw [hb]
  exact ⟨s.tk t, s.U, s.R, s.W + 1, .upgraded hr, by omega, by omega, by omega, by omega, (addf (by decide)).trans A.w0, (addf (by decide)).trans A.w1, addw A (c := 2) (by decide) (by decide) A.w2, task_idle _ (.inr (.inr rfl))⟩
theorem role_try (ho : r.op = 5 ∨ r.op = 6 ∨ r.op = 7) (hl : r.line ≠ 3) : roleOf h r = if r.op = 7 then .reads else .out := by
  unfold roleOf; rcases ho with e | e | e <;> simp [e, hl]
theorem loadf {xs : List Int} (c d : Int) : wordAt (doNew xs 1 c 0 0) d = wordAt xs d := by rw [own_load]
theorem m_look (A : Ahead_ b k s t h r) (ho : r.op = 5 ∨ r.op = 6 ∨ r.op = 7) (hl : r.line = 0) (hh : (r.op = 7 ∧ h = 1) ∨ (r.op ≠ 7 ∧ h = 0)) : Moved b s t (r.look.finH h) r.look.finR r.look.xs := by
  obtain ⟨e1, e2⟩ := fin_no (R := r.look) h A.ret
  rw [e1, e2]
  obtain ⟨p1, p2, p3, p4, p5, p6⟩ := look_p r
  refine moved_stay A ?_ (fun d _ _ => by rw [p5]; exact loadf 0 d) (task_off (line_try p1 p2 ho hh (.inr (.inl rfl))) (by rw [p3]; exact A.on) (fun e => (by rw [p1] at e; omega)) (fun _ _ => ⟨s.U, Nat.le_refl _, p6.trans A.w0, fun e => (by rw [p2] at e; cases e)⟩))
  rw [role_try (r := r) ho (by omega), role_try (r := r.look) (by rw [p1]; exact ho) (by rw [p2]; decide), p1]
theorem m_back0 (A : Ahead_ b k s t h r) {R : LS} {l : Int} (ho : r.op = 5 ∨ r.op = 6 ∨ r.op = 7) (hl : r.line ≠ 3) (hh : (r.op = 7 ∧ h = 1) ∨ (r.op ≠ 7 ∧ h = 0)) (p1 : R.op = r.op) (p2 : R.line = l) (p3 : R.k = r.k) (p4 : R.ret = 0) (hx : ∀ d, wordAt R.xs d = wordAt r.xs d) (h0 : l = 0 ∨ l = 2)
    (h2 : l = 2 → ∃ A : Nat, A ≤ s.U ∧ R.a = wd b A ∧ (r.op = 5 → A ≤ s.R) ∧ (r.op = 6 → A ≤ s.W) ∧ (r.op = 7 → A ≤ s.W + 1)) : Moved b s t (R.finH h) R.finR R.xs := by
  obtain ⟨e1, e2⟩ := fin_no (R := R) h p4
  rw [e1, e2]
  refine moved_stay A ?_ (fun d _ _ => hx d) (task_off (line_try p1 p2 ho hh (by rcases h0 with e | e; exact .inl e; exact .inr (.inr e))) (by rw [p3]; exact A.on) (fun e => (by rw [p1] at e; exact absurd e (no13 ho))) (fun _ e => ?_))
  · rw [role_try (r := r) ho hl, role_try (r := R) (by rw [p1]; exact ho) (by rw [p2]; rcases h0 with e | e <;> rw [e] <;> decide), p1]
  · rw [p2] at e ⊢
    rw [p1]
    obtain ⟨A0, a1, a2, a3⟩ := h2 (is2 e h0)
    exact ⟨A0, a1, a2, fun _ => a3⟩
theorem m_weigh (A : Ahead_ b k s t h r) (c own : Int) (ho : r.op = 5 ∨ r.op = 6 ∨ r.op = 7) (hl : r.line = 1) (hh : (r.op = 7 ∧ h = 1) ∨ (r.op ≠ 7 ∧ h = 0)) (hc : (r.op = 5 ∧ c = 1 ∧ own = 0) ∨ (r.op = 6 ∧ c = 2 ∧ own = 0) ∨ (r.op = 7 ∧ c = 2 ∧ own = 1)) : Moved b s t ((r.weigh c own).finH h) (r.weigh c own).finR (r.weigh c own).xs := by
  have hor := A.inv.order
  have hU := A.U
  obtain ⟨A0, a1, a2, a3⟩ := A.task.tries ho (.inl hl)
  have hrr := role_try (h := h) ho (by omega)
  unfold LS.weigh
  by_cases n1 : own < aheadI r.a (wordAt r.xs c)
  · rw [if_pos n1]
    obtain ⟨e1, e2⟩ := fin_yes (R := (((r.doA 1 c 0 0).keepB (wordAt r.xs c)).note 5 0).fin false) h (by show (1 : Int) ≠ 0; decide) A.on
    rw [e1, e2]
    have hb : ∀ op : Int, behindI op 1 h = h := fun op => by unfold behindI; rw [if_pos (by decide)]
    have hb2 : behindI ((((r.doA 1 c 0 0).keepB (wordAt r.xs c)).note 5 0).fin false).op ((((r.doA 1 c 0 0).keepB (wordAt r.xs c)).note 5 0).fin false).ret h = h := hb _
    rw [hb2]
    refine moved_stay A ?_ (fun d _ _ => loadf c d) (task_idle _ (by omega))
    rw [hrr, idle_role]
    rcases hh with ⟨e, e2⟩ | ⟨e, e2⟩ <;> simp [e, e2]
  rw [if_neg n1]
  by_cases n2 : aheadI r.a (wordAt r.xs c) < own
  · rw [if_pos n2]
    exact m_back0 (l := 0) A ho (by omega) hh rfl rfl rfl A.ret (fun d => loadf c d) (.inl rfl) (fun e => by cases e)
  · rw [if_neg n2]
    refine m_back0 (l := 2) A ho (by omega) hh rfl rfl rfl A.ret (fun d => loadf c d) (.inr rfl) (fun _ => ⟨A0, a1, a2, ?_⟩)
    rcases hc with ⟨e, rfl, rfl⟩ | ⟨e, rfl, rfl⟩ | ⟨e, rfl, rfl⟩
    · rw [a2, A.w1, wd_ahead (by omega) (by omega)] at n1
      exact ⟨fun _ => by omega, fun e2 => by omega, fun e2 => by omega⟩
    · rw [a2, A.w2, wd_ahead (by omega) (by omega)] at n1
      exact ⟨fun e2 => by omega, fun _ => by omega, fun e2 => by omega⟩
    · rw [a2, A.w2, wd_ahead (by omega) (by omega)] at n1
      exact ⟨fun e2 => by omega, fun e2 => by omega, fun _ => by omega⟩
theorem claim_words (A : Ahead_ b k s t h r) {A0 : Nat} (a1 : A0 ≤ s.U) (a2 : r.a = wd b A0) :
    (r.claimed = true ∧ A0 = s.U ∧ wordAt r.claim.xs 0 = wd b (s.U + 1) ∧ (∀ d, d ≠ 0 → wordAt r.claim.xs d = wordAt r.xs d)) ∨ (r.claimed = false ∧ A0 ≠ s.U ∧ ∀ d, wordAt r.claim.xs d = wordAt r.xs d) := by
  have hU := A.U
  have ht := A.th 0 (by decide) (by decide)
  have hc : r.claimed = decide (wordAt r.xs 0 = r.a) := by
    unfold LS.claimed; rw [ht, Bool.true_and]; rfl
  have far : ∀ d, d ≠ 0 → wordAt r.claim.xs d = wordAt r.xs d := fun d hd => own_cas_far (fun e => hd e.symm)
  have at0 : wordAt r.claim.xs 0 = if wordAt r.xs 0 = r.a then (r.a + 1) % 4294967296 else wordAt r.xs 0 := own_cas ht
  by_cases e : wordAt r.xs 0 = r.a
  · left
    have e2 : A0 = s.U := by
      rw [A.w0, a2] at e
      exact (wd_inj e (by omega) (by omega)).symm
    refine ⟨by rw [hc, decide_eq_true e], e2, ?_, far⟩
    rw [at0, if_pos e, a2, e2, wd_up']
  · right
    refine ⟨by rw [hc, decide_eq_false e], fun e2 => e (by rw [A.w0, a2, e2]), fun d => ?_⟩
    by_cases hd : d = 0
    · subst hd; rw [at0, if_neg e]
    · exact far d hd
theorem m_missed (A : Ahead_ b k s t h r) (ho : r.op = 5 ∨ r.op = 6 ∨ r.op = 7) (hl : r.line = 2) (hh : (r.op = 7 ∧ h = 1) ∨ (r.op ≠ 7 ∧ h = 0)) (hx : ∀ d, wordAt r.claim.xs d = wordAt r.xs d) : Moved b s t ((r.claim.go 0).finH h) (r.claim.go 0).finR (r.claim.go 0).xs :=
  m_back0 (l := 0) A ho (by omega) hh rfl rfl rfl A.ret hx (.inl rfl) (fun e => by cases e)
theorem m_5_2 (A : Ahead_ b k s t h r) (ho : r.op = 5) (hl : r.line = 2) (hh : h = 0) : Moved b s t ((if r.claimed then (r.claim.note 2 1).go 3 else r.claim.go 0).finH h) (if r.claimed then (r.claim.note 2 1).go 3 else r.claim.go 0).finR (if r.claimed then (r.claim.note 2 1).go 3 else r.claim.go 0).xs := by
  have hor := A.inv.order
  obtain ⟨A0, a1, a2, a3⟩ := A.task.tries (.inl ho) (.inr hl)
  have a4 := (a3 hl).1 ho
  rcases claim_words A a1 a2 with ⟨hc, e, w0, wf⟩ | ⟨hc, e, wf⟩
  · rw [hc, if_pos rfl]
    obtain ⟨e1, e2⟩ := fin_no (R := (r.claim.note 2 1).go 3) h A.ret
    rw [e1, e2]
    have hr : s.role t = .out := by rw [A.role, role_try (.inl ho) (by omega), if_neg (by omega)]
    have hrole : roleOf h ((r.claim.note 2 1).go 3) = .enters := by
      unfold roleOf; simp [LS.note, LS.go, LS.claim, LS.doA, ho, A.on]
    refine ⟨s.U, s.U + 1, s.R, s.W, by rw [hrole]; exact .tryR hr (by omega), by omega, by omega, by omega, by omega, w0, (wf 1 (by decide)).trans A.w1, (wf 2 (by decide)).trans A.w2, task_off ?_ A.on (fun e => (by rw [show ((r.claim.note 2 1).go 3).op = r.op from rfl] at e; omega)) (fun _ e => (by rw [show ((r.claim.note 2 1).go 3).line = 3 from rfl] at e; omega))⟩
    unfold lineOK; simp [LS.note, LS.go, LS.claim, LS.doA, ho, hh]
  · rw [hc, if_neg Bool.false_ne_true]
    exact m_missed A (.inl ho) hl (.inr ⟨by omega, hh⟩) wf
theorem m_6_2 (A : Ahead_ b k s t h r) (ho : r.op = 6) (hl : r.line = 2) (hh : h = 0) : Moved b s t ((if r.claimed then ((r.claim.note 2 2).note 4 0).fin true else r.claim.go 0).finH h) (if r.claimed then ((r.claim.note 2 2).note 4 0).fin true else r.claim.go 0).finR (if r.claimed then ((r.claim.note 2 2).note 4 0).fin true else r.claim.go 0).xs := by
  have hor := A.inv.order
  obtain ⟨A0, a1, a2, a3⟩ := A.task.tries (.inr (.inl ho)) (.inr hl)
  have a4 := (a3 hl).2.1 ho
  rcases claim_words A a1 a2 with ⟨hc, e, w0, wf⟩ | ⟨hc, e, wf⟩
  · rw [hc, if_pos rfl]
    obtain ⟨e1, e2⟩ := fin_yes (R := ((r.claim.note 2 2).note 4 0).fin true) h (by show (2 : Int) ≠ 0; decide) A.on
    rw [e1, e2]
    have hr : s.role t = .out := by rw [A.role, role_try (.inr (.inl ho)) (by omega), if_neg (by omega)]
    have hb : behindI (((r.claim.note 2 2).note 4 0).fin true).op (((r.claim.note 2 2).note 4 0).fin true).ret h = 2 := by show behindI r.op 2 h = 2; rw [ho]; rfl
    rw [hb]
    exact ⟨s.U, s.U + 1, s.R, s.W, .tryW hr (by omega), by omega, by omega, by omega, by omega, w0, (wf 1 (by decide)).trans A.w1, (wf 2 (by decide)).trans A.w2, task_idle _ (.inr (.inr rfl))⟩
  · rw [hc, if_neg Bool.false_ne_true]
    exact m_missed A (.inr (.inl ho)) hl (.inr ⟨by omega, hh⟩) wf
theorem m_7_2 (A : Ahead_ b k s t h r) (ho : r.op = 7) (hl : r.line = 2) (hh : h = 1) : Moved b s t ((if r.claimed then (r.claim.note 9 0).go 3 else r.claim.go 0).finH h) (if r.claimed then (r.claim.note 9 0).go 3 else r.claim.go 0).finR (if r.claimed then (r.claim.note 9 0).go 3 else r.claim.go 0).xs := by
  have hor := A.inv.order
  obtain ⟨A0, a1, a2, a3⟩ := A.task.tries (.inr (.inr ho)) (.inr hl)
  have a4 := (a3 hl).2.2 ho
  have hr : s.role t = .reads := by rw [A.role, role_try (.inr (.inr ho)) (by omega), if_pos ho]
  have hsw := A.inv.sw
  have hat := sumN_at (f := fun i => (s.role i).wo) A.lt
  rw [hr] at hat
  have hwo : Role.reads.wo = 1 := rfl
  rcases claim_words A a1 a2 with ⟨hc, e, w0, wf⟩ | ⟨hc, e, wf⟩
  · rw [hc, if_pos rfl]
    obtain ⟨e1, e2⟩ := fin_no (R := (r.claim.note 9 0).go 3) h A.ret
    rw [e1, e2]
    have hrole : roleOf h ((r.claim.note 9 0).go 3) = .upgrades := by
      unfold roleOf; simp [LS.note, LS.go, LS.claim, LS.doA, ho]
    refine ⟨s.U, s.U + 1, s.R, s.W, by rw [hrole]; exact .tryU hr (by omega), by omega, by omega, by omega, by omega, w0, (wf 1 (by decide)).trans A.w1, (wf 2 (by decide)).trans A.w2, task_off ?_ A.on (fun e => (by rw [show ((r.claim.note 9 0).go 3).op = r.op from rfl] at e; omega)) (fun _ e => (by rw [show ((r.claim.note 9 0).go 3).line = 3 from rfl] at e; omega))⟩
    unfold lineOK; simp [LS.note, LS.go, LS.claim, LS.doA, ho, hh]
  · rw [hc, if_neg Bool.false_ne_true]
    exact m_missed A (.inr (.inr ho)) hl (.inl ⟨ho, hh⟩) wf
end
end Go.Proofs.Ytgfippbcgneegaa
