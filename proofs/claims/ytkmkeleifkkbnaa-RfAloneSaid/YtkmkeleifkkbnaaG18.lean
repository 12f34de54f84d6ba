import Derived.Test.YtkmkeleifkkbnaaG16
import Derived.Test.YtkmkeleifkkbnaaG17
import Derived.Test.YtkmkeleifkkbnaaG14
import Derived.Test.YtkmkeleifkkbnaaG9
set_option linter.unusedVariables false
set_option linter.unusedSimpArgs false
namespace Go.Proofs.Ytkmkeleifkkbnaa
abbrev VG := (Int → Int) → Int → LS → Nat
structure Alk (r r' : LS) : Prop where
  n : r'.n = r.n
  task : r'.task = r.task
  op : r'.op = r.op
  line : r'.line = r.line
  ret : r'.ret = r.ret
  a : r'.a = r.a
  b : r'.b = r.b
theorem Alk.wt {wt : WtG} {r r' : LS} (h : Alk r r') : wtR wt r' = wtR wt r := by unfold wtR; rw [h.n, h.task, h.op, h.line, h.a, h.b]
structure WorthQ (V : VG) : Prop where
  like : ∀ w h (r r' : LS), Alk r r' → r'.s = r.s → V w h r' = V w h r
  over : ∀ w h (r : LS), r.ret ≠ 0 → V w (behindI r.op r.ret h) (zeroF r 0) ≤ V w h r
def shareQ (V : VG) (k : Nat) (m : MV) (i : Nat) : Nat := swp k (m.rs i).k + stp (m.rs i).s + V (ownW m.xs) (m.hold i) (m.rs i)
def FQ (V : VG) (k : Nat) (m : MV) : Nat := sumN (shareQ V k m) k + 3 * perms k m
def BlkQ (wt : WtG) (k : Nat) (mode : Int) (m : MV) (t : Nat) : Prop :=
  ((m.rs t).op = 0 ∧ m.hold t = 0) ∨ ((m.rs t).op ≠ 0 ∧ (m.rs t).k.on = false ∧ ∃ c q, wtR wt (m.rs t) = some (c, q) ∧ ((mode ≠ 2 ∧ q (wordAt m.xs c) = false) ∨ (mode = 2 ∧ (m.rs t).s = 3 ∧ hasP m.xs k t = false)))
section
variable {L : LS → LS} {wt : WtG} {V : VG} {k : Nat} {mode : Int} {m : MV} {t : Nat}
theorem potq_go (hL : LinesQ L wt) (hV : WorthQ V) (hk : k ≤ 64) (h : GenQ wt k mode m) (ht : t < k) (hop : (m.rs t).op ≠ 0) (hb : ¬ BlkQ wt k mode m t)
    (hD : ∀ c q, (m.rs t).k.on = false → wtR wt (m.rs t) = some (c, q) → (stepI m.xs k mode t (m.rs t).s c q).done = true → V (ownW m.xs) ((L (m.at t).fresh).finH (m.hold t)) (L (m.at t).fresh).finR + 4 ≤ V (ownW m.xs) (m.hold t) (m.rs t))
    (hN : ∀ c q, (m.rs t).k.on = false → wtR wt (m.rs t) = some (c, q) → (stepI m.xs k mode t (m.rs t).s c q).done = false → V (ownW m.xs) (m.hold t) (L (m.at t).fresh) ≤ V (ownW m.xs) (m.hold t) (m.rs t))
    (hPL : (m.rs t).k.on = false → wtR wt (m.rs t) = none → PlainLn (m.at t).fresh (L (m.at t).fresh))
    (hP : (m.rs t).k.on = false → wtR wt (m.rs t) = none → ∃ e, (∀ i, i < k → i ≠ t → V (ownW (L (m.at t).fresh).xs) (m.hold i) (m.rs i) ≤ V (ownW m.xs) (m.hold i) (m.rs i) + e) ∧ swp k (L (m.at t).fresh).finR.k + V (ownW (L (m.at t).fresh).xs) ((L (m.at t).fresh).finH (m.hold t)) (L (m.at t).fresh).finR + k * e < V (ownW m.xs) (m.hold t) (m.rs t)) :
    (m.at t).stuck = false ∧ FQ V k (m.go L t) < FQ V k m := by
  obtain ⟨c1, c2, c3⟩ := h.cst t ht
  have hns : (m.at t).stuck = false := by
    cases e : (m.at t).stuck
    · rfl
    · exfalso
      have hon : (m.at t).k.on = false := by
        cases e2 : (m.at t).k.on
        · rfl
        · unfold LS.stuck at e; rw [e2] at e; cases e
      obtain ⟨e1, e2, e3⟩ := stuck_iff hon e
      rw [c1, c3] at e3
      obtain ⟨⟨c, q, hw⟩, _⟩ := h.sw t ht (by omega)
      exact hb (.inr ⟨hop, hon, c, q, hw, .inr ⟨c2.symm.trans e1, e2, e3⟩⟩)
  refine ⟨hns, ?_⟩
  rw [go_eq hns]
  generalize hR : (m.at t).next L = R
  have hmain : ∀ (e a b : Nat), (∀ i, i < k → i ≠ t → V (ownW R.xs) (m.hold i) (m.rs i) ≤ V (ownW m.xs) (m.hold i) (m.rs i) + e) → perms k ⟨upd m.rs t R.finR, upd m.hold t (R.finH (m.hold t)), R.xs⟩ + b ≤ perms k m + a → swp k R.finR.k + stp R.finR.s + V (ownW R.xs) (R.finH (m.hold t)) R.finR + k * e + 3 * a < swp k (m.rs t).k + stp (m.rs t).s + V (ownW m.xs) (m.hold t) (m.rs t) + 3 * b → FQ V k ⟨upd m.rs t R.finR, upd m.hold t (R.finH (m.hold t)), R.xs⟩ < FQ V k m := by
    intro e a b h1 h2 h3
    have hs := sum_move (f := shareQ V k m) (g := shareQ V k ⟨upd m.rs t R.finR, upd m.hold t (R.finH (m.hold t)), R.xs⟩) (k := k) (t := t) (e := e) ht (fun i hi hne => by
      unfold shareQ
      dsimp only
      rw [upd_other _ _ hne, upd_other _ _ hne]
      have := h1 i hi hne
      omega)
    have ht1 : shareQ V k ⟨upd m.rs t R.finR, upd m.hold t (R.finH (m.hold t)), R.xs⟩ t = swp k R.finR.k + stp R.finR.s + V (ownW R.xs) (R.finH (m.hold t)) R.finR := by
      unfold shareQ; dsimp only; rw [upd_same, upd_same]
    have ht2 : shareQ V k m t = swp k (m.rs t).k + stp (m.rs t).s + V (ownW m.xs) (m.hold t) (m.rs t) := rfl
    unfold FQ
    omega
  cases hon : (m.rs t).k.on
  · have hR' : R = L (m.at t).fresh := by
      rw [← hR]; unfold LS.next
      rw [if_neg (by show ¬ (m.rs t).k.on = true; rw [hon]; exact Bool.false_ne_true)]
    have hsw0 : swp k (m.rs t).k = 0 := swp_off k hon
    cases hw : wtR wt (m.rs t) with
    | none =>
      obtain ⟨e, h1, h2⟩ := hP hon hw
      rw [← hR'] at h1 h2
      have P := hPL hon hw
      have cn : (m.at t).fresh.n = k := c1
      have hs0 : (m.rs t).s = 0 := by
        by_cases e2 : (m.rs t).s = 0
        · exact e2
        · obtain ⟨⟨c, q, e3⟩, _⟩ := h.sw t ht e2
          rw [hw] at e3; cases e3
      have hRs : R.finR.s = 0 := by
        have : R.s = 0 := by rw [hR']; exact P.s.trans hs0
        unfold LS.finR; split
        · rfl
        · exact this
      refine hmain e 0 0 h1 ?_ (by rw [hRs, hs0, hsw0]; omega)
      rw [perms_same (m := m) fun j hj => by
        show hasP R.xs k j = _
        rw [hR']; unfold hasP; rw [P.far _ (by rw [cn, pc_at hk hj]; omega)]; rfl]
      exact Nat.le_refl _
    | some cq =>
      obtain ⟨c, q⟩ := cq
      have W := hL.wait (m.at t).fresh c q hon hw
      have hSR : (m.at t).fresh.stepR c q = stepI m.xs k mode t (m.rs t).s c q := by
        show stepI m.xs (m.rs t).n (m.rs t).mode (m.rs t).task (m.rs t).s c q = _
        rw [c1, c2, c3]
      have hxs := W.xs
      have hs' := W.s
      have hstay := W.stay
      rw [hSR] at hxs hs' hstay
      rw [← hR'] at hxs hs' hstay
      have hkR : R.k = (m.rs t).k := by rw [hR']; exact W.k
      have hown : ownW R.xs = ownW m.xs := ownW_same fun d h0 h1 => by
        rw [hxs]; exact own_wait (by rw [wc_at hk ht]; omega) (by rw [pc_at hk ht]; omega)
      have hper : ∀ i, i < k → _ := fun i hi => step_per (xs := m.xs) (mode := mode) (s := (m.rs t).s) (c := c) (q := q) hk h.len ht hi
      have hkf : swp k R.finR.k = 0 := by
        unfold LS.finR; split
        · exact swp_off k rfl
        · rw [hkR]; exact hsw0
      have hoth : ∀ i, i < k → i ≠ t → V (ownW R.xs) (m.hold i) (m.rs i) ≤ V (ownW m.xs) (m.hold i) (m.rs i) + 0 := fun i _ _ => by rw [hown]; omega
      have hsame : ¬ (mode = 2 ∧ (m.rs t).s = 3) → perms k ⟨upd m.rs t R.finR, upd m.hold t (R.finH (m.hold t)), R.xs⟩ + 0 ≤ perms k m + 0 := fun e => by
        rw [perms_same (m := m) fun j hj => by
          show hasP R.xs k j = _
          rw [hxs, hper j hj, if_neg (fun e2 => e e2.2)]]
        omega
      have hnext := step_next (xs := m.xs) (k := k) (mode := mode) (t := t) (s := (m.rs t).s) (c := c) (q := q)
      have hd0 := step_done0 (xs := m.xs) (k := k) (mode := mode) (t := t) (s := (m.rs t).s) (c := c) (q := q)
      cases hd : (stepI m.xs k mode t (m.rs t).s c q).done
      · obtain ⟨l1, l2, l3⟩ := hstay hd
        have hr0 : R.ret = 0 := l2.trans (h.rt t ht hon)
        have hno : R.over = false := by unfold LS.over; rw [hr0]; rfl
        have hf : R.finR = R := by unfold LS.finR; rw [hno]; rfl
        have hh : R.finH (m.hold t) = m.hold t := by unfold LS.finH; rw [hno]; rfl
        have hVs : V (ownW R.xs) (R.finH (m.hold t)) R.finR ≤ V (ownW m.xs) (m.hold t) (m.rs t) := by
          rw [hf, hh, hown, hR']
          exact hN c q hon hw hd
        have p0 : stp 0 = 4 := rfl
        have p1 : stp 1 = 3 := rfl
        have p2 : stp 2 = 2 := rfl
        have p3 : stp 3 = 0 := rfl
        have p4 : stp 4 = 1 := rfl
        have hsr := h.sr t ht
        rcases hnext with ⟨e1, e2⟩ | ⟨em, _, ⟨e1, e2, e3, e4, e5⟩ | ⟨e1, e2⟩ | ⟨e1, e2⟩ | ⟨e1, e2, e3⟩⟩
        · rcases e2 with e2 | e2
          · rw [hd] at e2; cases e2
          · exfalso
            rw [stepI_spin e2] at hd
            exact hb (.inr ⟨hop, hon, c, q, hw, .inl ⟨e2, hd⟩⟩)
        · refine hmain 0 0 0 hoth (hsame (by omega)) ?_
          rw [hf] at hVs
          rw [hkf, hf, hs', e1, show (m.rs t).s = 0 by omega]
          omega
        · rcases e2 with e2 | ⟨e2, e3⟩
          · refine hmain 0 0 0 hoth (hsame (by omega)) ?_
            rw [hf] at hVs
            rw [hkf, hf, hs', e1, e2]
            omega
          · refine hmain 0 0 1 hoth ?_ ?_
            · have := perms_one (k := k) (m := m) (m' := ⟨upd m.rs t R.finR, upd m.hold t (R.finH (m.hold t)), R.xs⟩) ht (fun j hj hne => by
                show hasP R.xs k j = _
                rw [hxs, hper j hj, if_neg (fun e4 => hne e4.1)])
              have hpt : hasP R.xs k t = false := by rw [hxs, hper t ht, if_pos ⟨rfl, em, e2⟩]
              simp only [hpt, e3] at this
              simp at this
              omega
            · rw [hf] at hVs
              rw [hkf, hf, hs', e1, e2]
              omega
        · rcases e2 with ⟨e2, _⟩ | ⟨e2, e3⟩
          · refine hmain 0 0 0 hoth (hsame (by omega)) ?_
            rw [hf] at hVs
            rw [hkf, hf, hs', e1, e2]
            omega
          · exact absurd (.inr ⟨hop, hon, c, q, hw, .inr ⟨em, e2, e3⟩⟩) hb
        · refine hmain 0 0 0 hoth (hsame (by omega)) ?_
          rw [hf] at hVs
          rw [hkf, hf, hs', e1, e2]
          omega
      · have hDD := hD c q hon hw hd
        rw [← hR'] at hDD
        have h0 := hd0 hd
        have hRs : R.finR.s = 0 := by
          unfold LS.finR; split
          · rfl
          · rw [hs', h0]
        have hn3 : ¬ (mode = 2 ∧ (m.rs t).s = 3) := fun ⟨e1, e2⟩ => by
          rw [e1, e2, stepI_3] at hd; cases hd
        have hst : 1 ≤ stp (m.rs t).s := by
          have hsr := h.sr t ht
          by_cases em : mode = 2
          · rcases hsr with e | e | e | e | e <;> rw [e] <;> first | decide | (exact absurd ⟨em, e⟩ hn3)
          · rw [h.sp t ht em]; decide
        refine hmain 0 0 0 hoth (hsame hn3) ?_
        rw [hkf, hRs, hown, hsw0]
        show 0 + 4 + _ + _ + _ < _
        omega
  · have hR' : R = (m.at t).waking := by
      rw [← hR]; unfold LS.next
      rw [if_pos (by show (m.rs t).k.on = true; exact hon)]
    obtain ⟨k0, k1⟩ := h.kon t ht hon
    have hs0 : (m.rs t).s = 0 := by
      by_cases e : (m.rs t).s = 0
      · exact e
      · rw [(h.sw t ht e).2] at hon; cases hon
    obtain ⟨i0, hi0⟩ := Int.eq_ofNat_of_zero_le k0
    have hi1 : i0 < k := by omega
    obtain ⟨on, kc, ki, hit, hkk⟩ : ∃ on kc ki hit, (m.rs t).k = ⟨on, kc, ki, hit⟩ := ⟨_, _, _, _, rfl⟩
    rw [hkk] at hon hi0
    dsimp only at hon hi0
    subst hon hi0
    obtain ⟨wh, wl⟩ := wake_cases (xs := m.xs) (c := kc) (hit := hit) hk h.len hi1
    have hxs : R.xs = (wakeI m.xs k true kc i0 hit).xs := by rw [hR']; show (wakeI m.xs (m.rs t).n _ _ _ _).xs = _; rw [c1, show (m.at t).k = ⟨true, kc, (i0 : Int), hit⟩ from hkk]
    have hk' : R.k = (wakeI m.xs k true kc i0 hit).next := by rw [hR']; show (wakeI m.xs (m.rs t).n _ _ _ _).next = _; rw [c1, show (m.at t).k = ⟨true, kc, (i0 : Int), hit⟩ from hkk]
    have hRs : R.s = 0 := by rw [hR']; exact hs0
    have hown : ownW R.xs = ownW m.xs := ownW_same fun d h0 h1 => by
      rw [hxs]; exact own_wake (by rw [pc_at hk hi1]; omega)
    have hoth : ∀ i, i < k → i ≠ t → V (ownW R.xs) (m.hold i) (m.rs i) ≤ V (ownW m.xs) (m.hold i) (m.rs i) + 0 := fun i _ _ => by rw [hown]; omega
    have hVR : V (ownW m.xs) (m.hold t) R = V (ownW m.xs) (m.hold t) (m.rs t) := hV.like _ _ _ _ ⟨by rw [hR']; rfl, by rw [hR']; rfl, by rw [hR']; rfl, by rw [hR']; rfl, by rw [hR']; rfl, by rw [hR']; rfl, by rw [hR']; rfl⟩ (by rw [hR']; rfl)
    have hfin : swp k R.finR.k + stp R.finR.s + V (ownW R.xs) (R.finH (m.hold t)) R.finR ≤ swp k R.k + 4 + V (ownW m.xs) (m.hold t) (m.rs t) := by
      rw [hown]
      cases ho : R.over
      · rw [show R.finR = R by unfold LS.finR; rw [ho]; rfl, show R.finH (m.hold t) = m.hold t by unfold LS.finH; rw [ho]; rfl, hRs, hVR]
        exact Nat.le_refl _
      · have hret : R.ret ≠ 0 := by
          unfold LS.over at ho
          have : R.ret ≠ 0 ∧ R.k.on = false := by simpa using ho
          exact this.1
        rw [show R.finR = zeroF R 0 by unfold LS.finR; rw [ho]; rfl, show R.finH (m.hold t) = behindI R.op R.ret (m.hold t) by unfold LS.finH; rw [ho]; rfl]
        have h1 := hV.over (ownW m.xs) (m.hold t) R hret
        rw [hVR] at h1
        have h2 : swp k (zeroF R 0).k = 0 := swp_off k rfl
        have h3 : stp (zeroF R 0).s = 4 := rfl
        omega
    have hst : stp (m.rs t).s = 4 := by rw [hs0]; rfl
    cases hh : hit
    · subst hh
      obtain ⟨w1, w2⟩ := wl rfl
      have hold : swp k (m.rs t).k = 5 * (k - i0) := by rw [hkk]; simp [swp]
      refine hmain 0 0 0 hoth ?_ ?_
      · rw [perms_same (m := m) fun j hj => by show hasP R.xs k j = _; rw [hxs, w1]]
        exact Nat.le_refl _
      · have : swp k R.k < 5 * (k - i0) := by
          rw [hk']
          rcases w2 with ⟨_, e⟩ | ⟨_, e⟩
          · rw [e]; simp [swp]; omega
          · rw [e]; have := swp_next k kc hi1; omega
        omega
    · subst hh
      obtain ⟨w1, w2⟩ := wh rfl
      have hold : swp k (m.rs t).k = 5 * (k - i0) - 1 := by rw [hkk]; simp [swp]
      refine hmain 0 1 0 hoth ?_ ?_
      · have := perms_one (k := k) (m := m) (m' := ⟨upd m.rs t R.finR, upd m.hold t (R.finH (m.hold t)), R.xs⟩) hi1 (fun j hj hne => by
          show hasP R.xs k j = _
          rw [hxs, w2 j hj, if_neg hne])
        have : (if hasP R.xs (k : Int) (i0 : Int) then 1 else 0) ≤ 1 := by split <;> omega
        dsimp only at *
        omega
      · have : swp k R.k ≤ 5 * (k - i0 - 1) := by rw [hk', w1]; exact swp_next k kc hi1
        omega
end
end Go.Proofs.Ytkmkeleifkkbnaa
set_option linter.unusedVariables false
set_option linter.unusedSimpArgs false
namespace Go.Proofs.Ytkmkeleifkkbnaa
def pickI (L : LS → LS) (m : MV) (t : Nat) : MV := playI L m t (2 * m.hold t)
def roundN (L : LS → LS) (m : MV) : Nat → MV
  | 0 => m
  | j + 1 => pickI L (roundN L m j) j
def AtRest (k : Nat) (m : MV) : Prop := ∀ t, t < k → (m.rs t).op = 0 ∧ m.hold t = 0
section
variable {L : LS → LS} {k : Nat} {m : MV} {t : Nat}
theorem done_pick (hd : AtRest k m) (ht : t < k) : pickI L m t = m := by
  obtain ⟨h1, h2⟩ := hd t ht
  unfold pickI playI
  rw [if_pos (show (m.at t).op = 0 from h1), h2]
  rfl
theorem done_round (hd : AtRest k m) : ∀ j, j ≤ k → roundN L m j = m
  | 0, _ => rfl
  | j + 1, h => by
    show pickI L (roundN L m j) j = m
    rw [done_round hd j (by omega)]
    exact done_pick hd (by omega)
end
end Go.Proofs.Ytkmkeleifkkbnaa
set_option linter.unusedVariables false
set_option linter.unusedSimpArgs false
namespace Go.Proofs.Ytkmkeleifkkbnaa
structure LockQ (L : LS → LS) (wt : WtG) (V : VG) (k : Nat) (mode : Int) (B : Nat) (Inv : Nat → MV → Prop) : Prop where
  k64 : 1 ≤ k ∧ k ≤ 64
  lines : LinesQ L wt
  worth : WorthQ V
  gen : ∀ p m, Inv p m → GenQ wt k mode m
  holds : ∀ p m, Inv p m → ∀ i, i < k → m.hold i = 0 ∨ m.hold i = 1 ∨ m.hold i = 2
  start : ∀ p m t op, Inv p m → t < k → (m.rs t).op = 0 → mayI op (m.hold t) = true → Inv p (m.start t op)
  go : ∀ p m t, Inv p m → p < B → t < k → (m.rs t).op ≠ 0 → (m.at t).stuck = false → Inv (p + 1) (m.go L t)
  up : ∀ p m, Inv p m → Inv (p + 1) m
  worthS : ∀ p m t, Inv p m → t < k → (m.rs t).op = 0 → (m.hold t = 1 ∨ m.hold t = 2) → V (ownW m.xs) (fromI (2 * m.hold t) (m.hold t)) (zeroF (m.at t) (2 * m.hold t)) ≤ V (ownW m.xs) (m.hold t) (m.rs t)
  worthD : ∀ p m t, Inv p m → t < k → (m.rs t).op ≠ 0 → ∀ c q, (m.rs t).k.on = false → wtR wt (m.rs t) = some (c, q) → (stepI m.xs k mode t (m.rs t).s c q).done = true → V (ownW m.xs) ((L (m.at t).fresh).finH (m.hold t)) (L (m.at t).fresh).finR + 4 ≤ V (ownW m.xs) (m.hold t) (m.rs t)
  worthN : ∀ p m t, Inv p m → t < k → (m.rs t).op ≠ 0 → ∀ c q, (m.rs t).k.on = false → wtR wt (m.rs t) = some (c, q) → (stepI m.xs k mode t (m.rs t).s c q).done = false → V (ownW m.xs) (m.hold t) (L (m.at t).fresh) ≤ V (ownW m.xs) (m.hold t) (m.rs t)
  plain : ∀ p m t, Inv p m → p < B → t < k → (m.rs t).op ≠ 0 → (m.rs t).k.on = false → wtR wt (m.rs t) = none → PlainLn (m.at t).fresh (L (m.at t).fresh)
  worthP : ∀ p m t, Inv p m → p < B → t < k → (m.rs t).op ≠ 0 → (m.rs t).k.on = false → wtR wt (m.rs t) = none → ∃ e, (∀ i, i < k → i ≠ t → V (ownW (L (m.at t).fresh).xs) (m.hold i) (m.rs i) ≤ V (ownW m.xs) (m.hold i) (m.rs i) + e) ∧ swp k (L (m.at t).fresh).finR.k + V (ownW (L (m.at t).fresh).xs) ((L (m.at t).fresh).finH (m.hold t)) (L (m.at t).fresh).finR + k * e < V (ownW m.xs) (m.hold t) (m.rs t)
  rest : ∀ p m, Inv p m → (∀ t, t < k → BlkQ wt k mode m t) → ∀ t, t < k → (m.rs t).op = 0 ∧ m.hold t = 0
structure SimQ (m m' : MV) : Prop where
  xs : m'.xs = m.xs
  hold : m'.hold = m.hold
  rs : ∀ i, Alk (m.rs i) (m'.rs i) ∧ (m'.rs i).s = (m.rs i).s ∧ (m'.rs i).k = (m.rs i).k
theorem alk_refl (r : LS) : Alk r r := ⟨rfl, rfl, rfl, rfl, rfl, rfl, rfl⟩
theorem simQ_refl (m : MV) : SimQ m m := ⟨rfl, rfl, fun i => ⟨alk_refl _, rfl, rfl⟩⟩
theorem Alk.trans {r r' r'' : LS} (h : Alk r r') (g : Alk r' r'') : Alk r r'' := ⟨g.n.trans h.n, g.task.trans h.task, g.op.trans h.op, g.line.trans h.line, g.ret.trans h.ret, g.a.trans h.a, g.b.trans h.b⟩
theorem SimQ.trans {m m' m'' : MV} (h : SimQ m m') (g : SimQ m' m'') : SimQ m m'' :=
  ⟨g.xs.trans h.xs, g.hold.trans h.hold, fun i => ⟨(h.rs i).1.trans (g.rs i).1, (g.rs i).2.1.trans (h.rs i).2.1, (g.rs i).2.2.trans (h.rs i).2.2⟩⟩
section
variable {L : LS → LS} {wt : WtG} {V : VG} {k : Nat} {mode : Int} {B : Nat} {Inv : Nat → MV → Prop} {m m' : MV} {p t : Nat}
theorem SimQ.pot (hV : WorthQ V) (h : SimQ m m') : FQ V k m' = FQ V k m := by
  unfold FQ perms
  rw [h.xs]
  congr 1
  refine sumN_congr fun i _ => ?_
  obtain ⟨a1, a5, a6⟩ := h.rs i
  unfold shareQ
  rw [a5, a6, h.hold, h.xs, hV.like _ _ _ _ a1 a5]
theorem SimQ.blk (h : SimQ m m') (hb : BlkQ wt k mode m' t) : BlkQ wt k mode m t := by
  obtain ⟨a1, a5, a6⟩ := h.rs t
  unfold BlkQ at *
  rw [a1.wt, a1.op, a5, a6, h.hold, h.xs] at hb
  exact hb
theorem LockQ.play (H : LockQ L wt V k mode B Inv) (h : Inv p m) (hp : p < B) (ht : t < k) (op : Int) : Inv (p + 1) (playI L m t op) := by
  have go : ∀ m', Inv p m' → (m'.rs t).op ≠ 0 → Inv (p + 1) (m'.go L t) := fun m' h' h0 => by
    cases hs : (m'.at t).stuck
    · exact H.go p m' t h' hp ht h0 hs
    · rw [show m'.go L t = m' by unfold MV.go; rw [if_pos hs]]
      exact H.up p m' h'
  unfold playI
  split
  · rename_i h0
    split
    · rename_i hmay
      refine go _ (H.start p m t op h ht h0 hmay) ?_
      show (upd m.rs t (zeroF (m.at t) op) t).op ≠ 0
      rw [upd_same]
      show op ≠ 0
      rintro rfl
      unfold mayI at hmay
      split at hmay
      · revert hmay; decide
      · split at hmay <;> (revert hmay; decide)
    · exact H.up p m h
  · rename_i h0
    exact go m h h0
theorem LockQ.pick_less (H : LockQ L wt V k mode B Inv) (h : Inv p m) (hp : p < B) (ht : t < k) (hb : ¬ BlkQ wt k mode m t) : FQ V k (pickI L m t) < FQ V k m := by
  unfold pickI playI
  by_cases h0 : (m.at t).op = 0
  · rw [if_pos h0]
    have h00 : (m.rs t).op = 0 := h0
    have hh : m.hold t = 1 ∨ m.hold t = 2 := by
      rcases H.holds p m h t ht with e | e
      · exact absurd (.inl ⟨h0, e⟩) hb
      · exact e
    have hmay : mayI (2 * m.hold t) (m.hold t) = true := by rcases hh with e | e <;> rw [e] <;> decide
    rw [if_pos hmay]
    have hI := H.start p m t _ h ht h0 hmay
    have hw := H.worthS p m t h ht h0 hh
    have hg := H.gen p m h
    have hrs : (m.start t (2 * m.hold t)).rs t = zeroF (m.at t) (2 * m.hold t) := by show upd m.rs t _ t = _; rw [upd_same]
    have hne : ((m.start t (2 * m.hold t)).rs t).op ≠ 0 := by
      rw [hrs]; show 2 * m.hold t ≠ 0; omega
    have hF : FQ V k (m.start t (2 * m.hold t)) ≤ FQ V k m := by
      have hs := sum_move (f := shareQ V k m) (g := shareQ V k (m.start t (2 * m.hold t))) (k := k) (t := t) (e := 0) ht (fun i hi hn => by
        unfold shareQ MV.start MV.setR MV.setH
        dsimp only
        rw [upd_other _ _ hn, upd_other _ _ hn]
        exact Nat.le_refl _)
      have h1 : shareQ V k (m.start t (2 * m.hold t)) t ≤ shareQ V k m t := by
        unfold shareQ
        rw [hrs, show (m.start t (2 * m.hold t)).hold t = fromI (2 * m.hold t) (m.hold t) by show upd m.hold t _ t = _; rw [upd_same], show (m.start t (2 * m.hold t)).xs = m.xs from rfl]
        have e1 : swp k (zeroF (m.at t) (2 * m.hold t)).k = 0 := swp_off k rfl
        have e2 : stp (zeroF (m.at t) (2 * m.hold t)).s = 4 := rfl
        have e3 : stp (m.rs t).s = 4 := by
          have : (m.rs t).s = 0 := by
            by_cases e : (m.rs t).s = 0
            · exact e
            · obtain ⟨⟨c, q, e2⟩, _⟩ := hg.sw t ht e
              rw [H.lines.op0 _ h00] at e2; cases e2
          rw [this]; rfl
        omega
      unfold FQ
      rw [show perms k (m.start t (2 * m.hold t)) = perms k m from rfl]
      omega
    refine Nat.lt_of_lt_of_le (potq_go H.lines H.worth H.k64.2 (H.gen p _ hI) ht hne ?_ (H.worthD p _ t hI ht hne) (H.worthN p _ t hI ht hne) (H.plain p _ t hI hp ht hne) (H.worthP p _ t hI hp ht hne)).2 hF
    rintro (⟨e, _⟩ | ⟨_, _, c, q, e, _⟩)
    · exact hne e
    · rw [hrs] at e
      rw [H.lines.line0 _ rfl] at e; cases e
  · rw [if_neg h0]
    have h00 : (m.rs t).op ≠ 0 := h0
    exact (potq_go H.lines H.worth H.k64.2 (H.gen p m h) ht h00 hb (H.worthD p m t h ht h00) (H.worthN p m t h ht h00) (H.plain p m t h hp ht h00) (H.worthP p m t h hp ht h00)).2
theorem LockQ.pick_blk (H : LockQ L wt V k mode B Inv) (h : Inv p m) (ht : t < k) (hb : BlkQ wt k mode m t) : SimQ m (pickI L m t) := by
  have hg := H.gen p m h
  obtain ⟨c1, c2, c3⟩ := hg.cst t ht
  unfold pickI playI
  rcases hb with ⟨h0, hh⟩ | ⟨h0, hon, c, q, hw, hb⟩
  · rw [if_pos (show (m.at t).op = 0 from h0), hh]
    exact simQ_refl m
  · rw [if_neg (show ¬ (m.at t).op = 0 from h0)]
    rcases hb with ⟨hm, hq⟩ | ⟨hm, hs, hp⟩
    · have hst : (m.at t).stuck = false := by
        unfold LS.stuck stuckB
        show (!(m.rs t).k.on && ((m.rs t).mode == 2 && (m.rs t).s == 3 && _)) = false
        rw [c2, show (mode == 2) = false from beq_eq_false_iff_ne.2 hm]
        simp
      rw [go_eq hst]
      have W := H.lines.wait (m.at t).fresh c q hon hw
      obtain ⟨s1, s2, s3, s4, s5⟩ := H.lines.same (m.at t).fresh
      have hSR : (m.at t).fresh.stepR c q = stepI m.xs k mode t (m.rs t).s c q := by
        show stepI m.xs (m.rs t).n (m.rs t).mode (m.rs t).task (m.rs t).s c q = _
        rw [c1, c2, c3]
      have hR' : (m.at t).next L = L (m.at t).fresh := by
        unfold LS.next
        rw [if_neg (by show ¬ (m.rs t).k.on = true; rw [hon]; exact Bool.false_ne_true)]
      rw [hR']
      generalize L (m.at t).fresh = R at *
      have hxs := W.xs
      have hs' := W.s
      have hstay := W.stay
      have hA := W.a
      rw [hSR, stepI_spin hm] at hxs hs' hstay hA
      obtain ⟨l1, l2, l3⟩ := hstay hq
      have hno : R.over = false := by
        have : R.ret = 0 := l2.trans (hg.rt t ht hon)
        unfold LS.over; rw [this]; rfl
      rw [show R.finR = R by unfold LS.finR; rw [hno]; rfl, show R.finH (m.hold t) = m.hold t by unfold LS.finH; rw [hno]; rfl]
      refine ⟨hxs, ?_, fun i => ?_⟩
      · funext i
        show upd m.hold t (m.hold t) i = m.hold i
        unfold upd; split
        · rename_i e; rw [e]
        · rfl
      · by_cases e : i = t
        · subst e
          dsimp only
          rw [upd_same]
          exact ⟨⟨s1, s3, s4, l1, l2, hA hq, W.b⟩, by rw [hs', hg.sp i ht hm], W.k⟩
        · dsimp only
          rw [upd_other _ _ e]
          exact ⟨alk_refl _, rfl, rfl⟩
    · have hst : (m.at t).stuck = true := by
        unfold LS.stuck stuckB
        show (!(m.rs t).k.on && ((m.rs t).mode == 2 && (m.rs t).s == 3 && !hasP m.xs (m.rs t).n (m.rs t).task)) = true
        rw [hon, c1, c2, c3, hm, hs, hp]; rfl
      rw [show m.go L t = m by unfold MV.go; rw [if_pos hst]]
      exact simQ_refl m
theorem LockQ.round (H : LockQ L wt V k mode B Inv) (h : Inv p m) (hp : p + k ≤ B) : ∀ j, j ≤ k → Inv (p + j) (roundN L m j) ∧ (FQ V k (roundN L m j) < FQ V k m ∨ (SimQ m (roundN L m j) ∧ ∀ t, t < j → BlkQ wt k mode m t)) := by
  intro j
  induction j with
  | zero => exact fun _ => ⟨h, .inr ⟨simQ_refl m, fun t ht => absurd ht (Nat.not_lt_zero _)⟩⟩
  | succ j ih =>
    intro hj
    obtain ⟨hI, hF⟩ := ih (by omega)
    refine ⟨H.play hI (by omega) (by omega) _, ?_⟩
    show FQ V k (pickI L (roundN L m j) j) < FQ V k m ∨ (SimQ m (pickI L (roundN L m j) j) ∧ _)
    by_cases hb : BlkQ wt k mode (roundN L m j) j
    · have hs := H.pick_blk hI (by omega) hb
      rcases hF with hF | ⟨hS, hB⟩
      · exact .inl (by rw [hs.pot H.worth]; exact hF)
      · refine .inr ⟨hS.trans hs, fun t ht => ?_⟩
        by_cases e : t = j
        · subst e; exact hS.blk hb
        · exact hB t (by omega)
    · have hl := H.pick_less hI (by omega) (by omega) hb
      rcases hF with hF | ⟨hS, _⟩
      · exact .inl (by omega)
      · exact .inl (by rw [hS.pot H.worth] at hl; exact hl)
theorem LockQ.whole (H : LockQ L wt V k mode B Inv) (h : Inv p m) (hp : p + k ≤ B) {F j : Nat} (hF : AtRest k m ∨ FQ V k m + j ≤ F) : Inv (p + k) (roundN L m k) ∧ (AtRest k (roundN L m k) ∨ FQ V k (roundN L m k) + (j + 1) ≤ F) := by
  obtain ⟨hI, hR⟩ := H.round h hp k (Nat.le_refl _)
  refine ⟨hI, ?_⟩
  rcases hF with hF | hF
  · rw [done_round hF k (Nat.le_refl _)]; exact .inl hF
  · rcases hR with hR | ⟨_, hB⟩
    · exact .inr (by omega)
    · have hd : AtRest k m := H.rest p m h hB
      rw [done_round hd k (Nat.le_refl _)]; exact .inl hd
end
end Go.Proofs.Ytkmkeleifkkbnaa
set_option linter.unusedVariables false
set_option linter.unusedSimpArgs false
namespace Go.Proofs.Ytkmkeleifkkbnaa
def idleR (k : Nat) (h : Int) : Nat := if h = 1 ∨ h = 2 then 10 * k + 1 else 0
def lineR (k : Nat) (op line : Int) : Nat :=
  match op, line with
  | 1, 0 => 15 * k + 6 | 1, 1 => 10 * k + 5 | 2, 0 => 10 * k + 1 | 3, 0 => 15 * k + 8 | 4, 0 => 10 * k + 1 | 5, 0 => 15 * k + 3 | 6, 0 => 15 * k + 3 | 7, 0 => 15 * k + 3 | 8, 0 => 20 * k + 2
  | _, _ => 0
def dearR (k : Nat) (w : Int → Int) (r : LS) : Nat :=
  if r.op = 3 then (if r.line = 1 then (if w 0 = 0 then 15 * k + 2 else 15 * k + 7) else if r.s = 4 ∧ w 0 ≠ 0 then 15 * k + 11 else 15 * k + 6)
  else if w 0 = (if r.op = 5 then r.a else if r.op = 6 then 0 else 1) then 15 * k + 2 else 15 * k + 4
def isDear (op line : Int) : Prop := (op = 3 ∧ (line = 1 ∨ line = 2)) ∨ ((op = 5 ∨ op = 6 ∨ op = 7) ∧ line = 1)
instance (op line : Int) : Decidable (isDear op line) := by unfold isDear; infer_instance
def worthR (k : Nat) : VG := fun w h r =>
  if r.op = 0 then idleR k h else if r.ret ≠ 0 then idleR k (behindI r.op r.ret h) else if isDear r.op r.line then dearR k w r else lineR k r.op r.line
section
variable {k : Nat} {w w' : Int → Int} {r R : LS} {h : Int}
theorem ite_up {p p' : Prop} [Decidable p] [Decidable p'] {a b a' b' e : Nat} (h1 : a' ≤ a + e) (h2 : a' ≤ b + e) (h3 : b' ≤ a + e) (h4 : b' ≤ b + e) : (if p' then a' else b') ≤ (if p then a else b) + e := by
  by_cases q : p <;> by_cases q' : p'
  · rw [if_pos q, if_pos q']; exact h1
  · rw [if_pos q, if_neg q']; exact h3
  · rw [if_neg q, if_pos q']; exact h2
  · rw [if_neg q, if_neg q']; exact h4
theorem dear_rise (k : Nat) (w w' : Int → Int) (r : LS) : dearR k w' r ≤ dearR k w r + 5 := by
  unfold dearR
  by_cases e : r.op = 3
  · rw [if_pos e, if_pos e]
    by_cases e1 : r.line = 1
    · rw [if_pos e1, if_pos e1]; exact ite_up (by omega) (by omega) (by omega) (by omega)
    · rw [if_neg e1, if_neg e1]; exact ite_up (by omega) (by omega) (by omega) (by omega)
  · rw [if_neg e, if_neg e]; exact ite_up (by omega) (by omega) (by omega) (by omega)
theorem worthr_rise (k : Nat) (w w' : Int → Int) (h : Int) (r : LS) : worthR k w' h r ≤ worthR k w h r + 5 := by
  unfold worthR
  by_cases e0 : r.op = 0
  · rw [if_pos e0, if_pos e0]; omega
  rw [if_neg e0, if_neg e0]
  by_cases e1 : r.ret ≠ 0
  · rw [if_pos e1, if_pos e1]; omega
  rw [if_neg e1, if_neg e1]
  by_cases e2 : isDear r.op r.line
  · rw [if_pos e2, if_pos e2]; exact dear_rise k w w' r
  · rw [if_neg e2, if_neg e2]; omega
theorem worthr_same (e : w' 0 = w 0) (h : Int) (r : LS) : worthR k w' h r = worthR k w h r := by unfold worthR dearR; rw [e]
theorem worthr_ok (k : Nat) : WorthQ (worthR k) where
  like w h r r' a hs := by unfold worthR dearR; rw [a.op, a.line, a.ret, a.a, hs]
  over w h r hr := by
    show (if (0 : Int) = 0 then idleR k (behindI r.op r.ret h) else _) ≤ _
    rw [if_pos rfl]
    unfold worthR
    by_cases e : r.op = 0
    · rw [if_pos e, e]
      have : behindI 0 r.ret h = h := by
        unfold behindI
        by_cases e2 : r.ret = 2
        · rw [if_neg (by simpa using e2)]; rfl
        · rw [if_pos e2]
      rw [this]; exact Nat.le_refl _
    · rw [if_neg e, if_pos hr]; exact Nat.le_refl _
theorem worthr_line {o l : Int} (eo : r.op = o) (el : r.line = l) (ho : o ≠ 0) (hr : r.ret = 0) (hn : ¬ isDear o l) : worthR k w h r = lineR k o l := by
  subst eo el
  unfold worthR; rw [if_neg ho, if_neg (by rw [hr]; simp), if_neg hn]
theorem worthr_dear {o l : Int} (eo : r.op = o) (el : r.line = l) (ho : o ≠ 0) (hr : r.ret = 0) (hn : isDear o l) : worthR k w h r = dearR k w r := by
  subst eo el
  unfold worthR; rw [if_neg ho, if_neg (by rw [hr]; simp), if_pos hn]
def comesR (k : Nat) (w : Int → Int) (h : Int) (R : LS) : Nat := swp k R.finR.k + worthR k w (R.finH h) R.finR
theorem comesr_stay (hr : R.ret = 0) : comesR k w h R = swp k R.k + worthR k w h R := by
  obtain ⟨e1, e2⟩ := fin_no (R := R) h hr
  unfold comesR
  rw [e1, e2]
theorem comesr_end {o b : Int} (eo : R.op = o) (eb : R.ret = b) (hb : b ≠ 0) (ho : o ≠ 0) : comesR k w h R ≤ swp k R.k + idleR k (behindI o b h) := by
  subst eo eb
  unfold comesR
  cases hon : R.k.on
  · obtain ⟨e1, e2⟩ := fin_yes (R := R) h hb hon
    rw [e1, e2, show swp k (zeroF R 0).k = 0 from swp_off k rfl]
    show 0 + idleR k (behindI R.op R.ret h) ≤ _
    omega
  · obtain ⟨e1, e2⟩ := fin_on (R := R) h hon
    rw [e1, e2]
    unfold worthR
    rw [if_neg ho, if_pos hb]
    exact Nat.le_refl _
theorem idleR_le (k : Nat) (h : Int) : idleR k h ≤ 10 * k + 1 := by
  unfold idleR
  by_cases e : h = 1 ∨ h = 2
  · rw [if_pos e]; omega
  · rw [if_neg e]; omega
theorem lineR_le (k : Nat) (op line : Int) : lineR k op line ≤ 20 * k + 11 := by
  unfold lineR
  split <;> omega
theorem dearR_le (k : Nat) (w : Int → Int) (r : LS) : dearR k w r ≤ 20 * k + 11 := by
  unfold dearR
  have t : ∀ {p : Prop} [Decidable p] {a b : Nat}, a ≤ 20 * k + 11 → b ≤ 20 * k + 11 → (if p then a else b) ≤ 20 * k + 11 := fun {p} _ {a b} ha hb => by
    by_cases q : p
    · rw [if_pos q]; exact ha
    · rw [if_neg q]; exact hb
  exact t (t (t (by omega) (by omega)) (t (by omega) (by omega))) (t (by omega) (by omega))
end
section
variable {k t p : Nat} {mode : Int} {c d y : Nat → Nat} {m : MV}
def LessR (k : Nat) (m : MV) (t : Nat) (R : LS) : Prop := ∃ e, (∀ i, i < k → i ≠ t → worthR k (ownW R.xs) (m.hold i) (m.rs i) ≤ worthR k (ownW m.xs) (m.hold i) (m.rs i) + e) ∧ comesR k (ownW R.xs) (m.hold t) R + k * e < worthR k (ownW m.xs) (m.hold t) (m.rs t)
theorem lessr_0 {R : LS} (hx : wordAt R.xs 0 = wordAt m.xs 0) (hl : comesR k (ownW R.xs) (m.hold t) R < worthR k (ownW m.xs) (m.hold t) (m.rs t)) : LessR k m t R :=
  ⟨0, fun i _ _ => by rw [worthr_same (w := ownW m.xs) (by rw [ownW_at (by decide) (by decide), ownW_at (by decide) (by decide), hx])]; omega, by omega⟩
theorem lessr_5 {R : LS} (hl : comesR k (ownW R.xs) (m.hold t) R + k * 5 < worthR k (ownW m.xs) (m.hold t) (m.rs t)) : LessR k m t R :=
  ⟨5, fun i _ _ => worthr_rise _ _ _ _ _, hl⟩
theorem less_look (C : RC k mode t c d y m) {o : Int} (ok : Bool) (ho : (m.rs t).op = o) (hl : (m.rs t).line = 0) (ho5 : o = 5 ∨ o = 6 ∨ o = 7) (hb : behindI o 1 (m.hold t) = m.hold t) (hok : ok = true → wordAt m.xs 0 = (if o = 5 then wordAt m.xs 0 else if o = 6 then 0 else 1)) (hp : (m.at t).fresh.rf = (m.at t).fresh.fLook ok) : LessR k m t (m.at t).fresh.rf := by
  rw [hp]; unfold LS.fLook
  obtain ⟨x0, xd⟩ := word_do C 1 0 0
  obtain ⟨f1, f2, f3, f4, f5, f6, f7, f8⟩ := doA_rs m t 1 0 0
  rw [← f8] at x0 xd
  rw [show (m.at t).fresh.xs = m.xs from rfl]
  generalize (m.at t).fresh.doA 1 0 0 0 = R0 at *
  have hx : wordAt R0.xs 0 = wordAt m.xs 0 := x0
  have hv : worthR k (ownW m.xs) (m.hold t) (m.rs t) = 15 * k + 3 := by
    rw [worthr_line ho hl (by omega) C.ret (by unfold isDear; omega)]
    rcases ho5 with e | e | e <;> rw [e] <;> rfl
  have hk0 : swp k R0.k = 0 := by rw [f4]; exact swp_off k C.on
  cases ok
  · rw [if_neg Bool.false_ne_true]
    refine lessr_0 (R := ((R0.keepA (wordAt m.xs 0)).note 5 0).fin false) hx ?_
    have h1 := comesr_end (k := k) (w := ownW (((R0.keepA (wordAt m.xs 0)).note 5 0).fin false).xs) (h := m.hold t) (R := ((R0.keepA (wordAt m.xs 0)).note 5 0).fin false) (o := o) (b := 1) (f1.trans ho) rfl (by decide) (by omega)
    have h2 := idleR_le k (behindI o 1 (m.hold t))
    have h3 : swp k (((R0.keepA (wordAt m.xs 0)).note 5 0).fin false).k = 0 := hk0
    omega
  · rw [if_pos rfl]
    refine lessr_0 (R := (R0.keepA (wordAt m.xs 0)).go 1) hx ?_
    have h3 : swp k ((R0.keepA (wordAt m.xs 0)).go 1).k = 0 := hk0
    rw [comesr_stay (R := (R0.keepA (wordAt m.xs 0)).go 1) (f3.trans C.ret), h3, worthr_dear (r := (R0.keepA (wordAt m.xs 0)).go 1) (o := o) (l := 1) (f1.trans ho) rfl (by omega) (f3.trans C.ret) (by unfold isDear; omega), hv]
    unfold dearR
    rw [if_neg (show ¬ ((R0.keepA (wordAt m.xs 0)).go 1).op = 3 by show ¬ R0.op = 3; omega), if_pos ?_]
    · omega
    · rw [ownW_at (by decide) (by decide)]
      show wordAt R0.xs 0 = if R0.op = 5 then wordAt m.xs 0 else if R0.op = 6 then 0 else 1
      rw [hx, f1, ho]; exact hok rfl
theorem less_cas (C : RC k mode t c d y m) {o l l' x z : Int} {R1 R2 : LS} {lo hi : Nat} (ho : (m.rs t).op = o) (hl : (m.rs t).line = l) (ho0 : o ≠ 0) (hdr : isDear o l) (hV : dearR k (ownW m.xs) (m.rs t) = if wordAt m.xs 0 = x then 15 * k + 2 else hi)
    (h1 : R1.op = (m.rs t).op ∧ R1.ret = 2 ∧ R1.k = (m.rs t).k) (h2 : R2.op = (m.rs t).op ∧ R2.line = l' ∧ R2.ret = (m.rs t).ret ∧ R2.k = (m.rs t).k ∧ R2.xs = doNew m.xs 5 0 x z) (hlo : wordAt m.xs 0 ≠ x → worthR k (ownW R2.xs) (m.hold t) R2 < hi) (hp : (m.at t).fresh.rf = if (m.at t).fresh.at0 x then R1 else R2) : LessR k m t (m.at t).fresh.rf := by
  rw [hp, at0_eq C]
  obtain ⟨x0, xd⟩ := word_do C 5 x z
  obtain ⟨a1, a3, a4⟩ := h1
  obtain ⟨b1, b2, b3, b4, b5⟩ := h2
  have x0' : wordAt (doNew m.xs 5 0 x z) 0 = if wordAt m.xs 0 = x then z else wordAt m.xs 0 := x0
  have hv : worthR k (ownW m.xs) (m.hold t) (m.rs t) = if wordAt m.xs 0 = x then 15 * k + 2 else hi := by rw [worthr_dear ho hl ho0 C.ret hdr, hV]
  by_cases e : wordAt m.xs 0 = x
  · rw [if_pos (decide_eq_true e)]
    rw [if_pos e] at hv
    refine lessr_5 ?_
    have h1 := comesr_end (k := k) (w := ownW R1.xs) (h := m.hold t) (R := R1) (o := o) (b := 2) (a1.trans ho) a3 (by decide) ho0
    have h2 := idleR_le k (behindI o 2 (m.hold t))
    have h3 : swp k R1.k = 0 := by rw [a4]; exact swp_off k C.on
    omega
  · rw [if_neg (by simpa using e)]
    rw [if_neg e] at hv x0'
    refine lessr_0 (by rw [b5]; exact x0') ?_
    have h3 : swp k R2.k = 0 := by rw [b4]; exact swp_off k C.on
    have := hlo e
    rw [comesr_stay (b3.trans C.ret), h3, hv]
    omega
set_option maxHeartbeats 1000000 in
theorem worthr_plain (C : RC k mode t c d y m) (hop : (m.rs t).op ≠ 0) (hw : wtR wtS (m.rs t) = none) : LessR k m t (m.at t).fresh.rf := by
  have F := C.h.f t C.ht
  have n1 : ¬ ((m.rs t).op = 1 ∧ (m.rs t).line = 1) := fun e => by
    have : wtR wtS (m.rs t) = some (0, outW) := if_pos e
    rw [hw] at this; cases this
  have n2 : ¬ ((m.rs t).op = 3 ∧ (m.rs t).line = 2) := fun e => by
    have : wtR wtS (m.rs t) = some (0, isZ) := by
      show wtS _ _ _ _ _ _ = _
      unfold wtS
      rw [if_neg (by omega), if_pos e]
    rw [hw] at this; cases this
  have hs0 := C.s0 hw
  have o0 : ∀ xs : List Int, ownW xs 0 = wordAt xs 0 := fun xs => ownW_at (by decide) (by decide)
  -- a line that changes the word, and wakes
  have turn : ∀ {o : Int} (R : LS), (m.rs t).op = o → (m.rs t).line = 0 → o ≠ 0 → ¬ isDear o 0 → R.op = (m.rs t).op → R.ret = 2 → (∃ e, R.k = beginI mode e) → 10 * k + idleR k (behindI o 2 (m.hold t)) < lineR k o 0 → LessR k m t R := fun {o} R e1 e2 e3 e4 e5 e6 e7 e8 => by
    refine lessr_5 ?_
    have h1 := comesr_end (k := k) (w := ownW R.xs) (h := m.hold t) (R := R) (o := o) (b := 2) (e5.trans e1) e6 (by decide) e3
    obtain ⟨e, e7⟩ := e7
    have h2 : swp k R.k ≤ 5 * k := by rw [e7]; exact swp_begin k _ _
    rw [worthr_line e1 e2 e3 C.ret e4]
    omega
  cases F with
  | idle0 ho => exact absurd ho hop
  | idle1 ho => exact absurd ho hop
  | idle2 ho => exact absurd ho hop
  | free ho hr hh hc hd hy =>
    rcases ho with ⟨ho, hl⟩ | ⟨ho, hl | hl | hl⟩ | ⟨ho | ho, hl | hl⟩
    · have hv : worthR k (ownW m.xs) (m.hold t) (m.rs t) = 15 * k + 6 := worthr_line ho hl (by decide) C.ret (by decide)
      rw [rf_1_0 (r := (m.at t).fresh) ho hl]; unfold LS.fCome
      obtain ⟨f1, f2, f3, f4, f5, f6, f7, f8⟩ := doA_rs m t 3 1 0
      rw [show (m.at t).fresh.xs = m.xs from rfl]
      generalize (m.at t).fresh.doA 3 0 1 0 = R0 at *
      have hk0 : swp k R0.k = 0 := by rw [f4]; exact swp_off k C.on
      cases e : outW (wordAt m.xs 0)
      · rw [if_neg Bool.false_ne_true]
        refine lessr_5 (R := ((R0.keepA (wordAt m.xs 0)).note 2 1).go 1) ?_
        have h3 : swp k (((R0.keepA (wordAt m.xs 0)).note 2 1).go 1).k = 0 := hk0
        rw [comesr_stay (R := ((R0.keepA (wordAt m.xs 0)).note 2 1).go 1) (f3.trans C.ret), h3, worthr_line (r := ((R0.keepA (wordAt m.xs 0)).note 2 1).go 1) (o := 1) (l := 1) (f1.trans ho) rfl (by decide) (f3.trans C.ret) (by decide), hv]
        show 0 + (10 * k + 5) + k * 5 < 15 * k + 6
        omega
      · rw [if_pos rfl]
        refine lessr_5 (R := (((R0.keepA (wordAt m.xs 0)).note 2 1).note 4 0).fin true) ?_
        have h1 := comesr_end (k := k) (w := ownW ((((R0.keepA (wordAt m.xs 0)).note 2 1).note 4 0).fin true).xs) (h := m.hold t) (R := (((R0.keepA (wordAt m.xs 0)).note 2 1).note 4 0).fin true) (o := 1) (b := 2) (f1.trans ho) rfl (by decide) (by decide)
        have h2 := idleR_le k (behindI 1 2 (m.hold t))
        have h3 : swp k ((((R0.keepA (wordAt m.xs 0)).note 2 1).note 4 0).fin true).k = 0 := hk0
        omega
    · have hv : worthR k (ownW m.xs) (m.hold t) (m.rs t) = 15 * k + 8 := worthr_line ho hl (by decide) C.ret (by decide)
      rw [rf_3_0 (r := (m.at t).fresh) ho hl]; unfold LS.fReg
      obtain ⟨x0, xd⟩ := word_do C 1 0 0
      obtain ⟨f1, f2, f3, f4, f5, f6, f7, f8⟩ := doA_rs m t 1 0 0
      rw [← f8] at x0 xd
      rw [show (m.at t).fresh.xs = m.xs from rfl]
      generalize (m.at t).fresh.doA 1 0 0 0 = R0 at *
      have hx : wordAt R0.xs 0 = wordAt m.xs 0 := x0
      have hk0 : swp k R0.k = 0 := by rw [f4]; exact swp_off k C.on
      by_cases e : wordAt m.xs 0 = 0
      · rw [if_pos e]
        refine lessr_0 (R := ((R0.keepA (wordAt m.xs 0)).note 2 2).go 1) hx ?_
        have h3 : swp k (((R0.keepA (wordAt m.xs 0)).note 2 2).go 1).k = 0 := hk0
        rw [comesr_stay (R := ((R0.keepA (wordAt m.xs 0)).note 2 2).go 1) (f3.trans C.ret), h3, worthr_dear (r := ((R0.keepA (wordAt m.xs 0)).note 2 2).go 1) (o := 3) (l := 1) (f1.trans ho) rfl (by decide) (f3.trans C.ret) (by decide), hv]
        unfold dearR
        rw [if_pos (show (((R0.keepA (wordAt m.xs 0)).note 2 2).go 1).op = 3 from f1.trans ho), if_pos (show (((R0.keepA (wordAt m.xs 0)).note 2 2).go 1).line = 1 from rfl), if_pos (by rw [o0]; exact hx.trans e)]
        omega
      · rw [if_neg e]
        refine lessr_0 (R := ((R0.keepA (wordAt m.xs 0)).note 2 2).go 2) hx ?_
        have h3 : swp k (((R0.keepA (wordAt m.xs 0)).note 2 2).go 2).k = 0 := hk0
        rw [comesr_stay (R := ((R0.keepA (wordAt m.xs 0)).note 2 2).go 2) (f3.trans C.ret), h3, worthr_dear (r := ((R0.keepA (wordAt m.xs 0)).note 2 2).go 2) (o := 3) (l := 2) (f1.trans ho) rfl (by decide) (f3.trans C.ret) (by decide), hv]
        unfold dearR
        rw [if_pos (show (((R0.keepA (wordAt m.xs 0)).note 2 2).go 2).op = 3 from f1.trans ho), if_neg (show ¬ (((R0.keepA (wordAt m.xs 0)).note 2 2).go 2).line = 1 by show ¬ (2 : Int) = 1; decide), if_neg (show ¬ ((((R0.keepA (wordAt m.xs 0)).note 2 2).go 2).s = 4 ∧ _) from fun e2 => by have e3 : R0.s = 4 := e2.1; omega)]
        omega
    · obtain ⟨f1, f2, f3, f4, f5, f6, f7, f8⟩ := doA_rs m t 5 0 65536
      have hp : (m.at t).fresh.rf = (m.at t).fresh.fTake := rf_3_1 (r := (m.at t).fresh) ho hl
      unfold LS.fTake at hp
      generalize (m.at t).fresh.doA 5 0 0 65536 = R0 at *
      refine less_cas C (lo := 0) (hi := 15 * k + 7) (x := 0) (z := 65536) (l' := 2) ho hl (by decide) (by decide) ?_ (R1 := (R0.note 4 0).fin true) (R2 := R0.go 2) ⟨f1, rfl, f4⟩ ⟨f1, rfl, f3, f4, f8⟩ (fun _ => ?_) hp
      · unfold dearR; rw [if_pos ho, if_pos hl, o0]
      · rw [worthr_dear (r := R0.go 2) (o := 3) (l := 2) (f1.trans ho) rfl (by decide) (f3.trans C.ret) (by decide)]
        unfold dearR
        rw [if_pos (show (R0.go 2).op = 3 from f1.trans ho), if_neg (show ¬ (R0.go 2).line = 1 by show ¬ (2 : Int) = 1; decide), if_neg (show ¬ ((R0.go 2).s = 4 ∧ _) from fun e2 => by have e3 : R0.s = 4 := e2.1; omega)]
        omega
    · exact absurd ⟨ho, hl⟩ n2
    · exact less_look C (o := 5) (outW (wordAt m.xs 0)) ho hl (.inl rfl) (if_pos (by decide)) (fun _ => rfl) (rf_5_0 (r := (m.at t).fresh) ho hl)
    · obtain ⟨f1, f2, f3, f4, f5, f6, f7, f8⟩ := doA_rs m t 5 (m.rs t).a (((m.rs t).a + 1) % 4294967296)
      have hp : (m.at t).fresh.rf = (m.at t).fresh.fSlip := rf_5_1 (r := (m.at t).fresh) ho hl
      unfold LS.fSlip at hp
      rw [show (m.at t).fresh.a = (m.rs t).a from rfl] at hp
      generalize (m.at t).fresh.doA 5 0 (m.rs t).a (((m.rs t).a + 1) % 4294967296) = R0 at *
      refine less_cas C (lo := 0) (hi := 15 * k + 4) (x := (m.rs t).a) (z := ((m.rs t).a + 1) % 4294967296) (l' := 0) ho hl (by decide) (by decide) ?_ (R1 := ((R0.note 2 1).note 4 0).fin true) (R2 := R0.go 0) ⟨f1, rfl, f4⟩ ⟨f1, rfl, f3, f4, f8⟩ (fun _ => ?_) hp
      · unfold dearR; rw [if_neg (by omega), if_pos ho, o0]
      · rw [worthr_line (r := R0.go 0) (o := 5) (l := 0) (f1.trans ho) rfl (by decide) (f3.trans C.ret) (by decide)]
        show 15 * k + 3 < 15 * k + 4; omega
    · exact less_look C (o := 6) (wordAt m.xs 0 == 0) ho hl (.inr (.inl rfl)) (if_pos (by decide)) (fun e => by simpa using e) (rf_6_0 (r := (m.at t).fresh) ho hl)
    · obtain ⟨f1, f2, f3, f4, f5, f6, f7, f8⟩ := doA_rs m t 5 0 65536
      have hp : (m.at t).fresh.rf = (m.at t).fresh.fTry := rf_6_1 (r := (m.at t).fresh) ho hl
      unfold LS.fTry at hp
      generalize (m.at t).fresh.doA 5 0 0 65536 = R0 at *
      refine less_cas C (lo := 0) (hi := 15 * k + 4) (x := 0) (z := 65536) (l' := 0) ho hl (by decide) (by decide) ?_ (R1 := ((R0.note 2 2).note 4 0).fin true) (R2 := R0.go 0) ⟨f1, rfl, f4⟩ ⟨f1, rfl, f3, f4, f8⟩ (fun _ => ?_) hp
      · unfold dearR; rw [if_neg (show ¬ (m.rs t).op = 3 by omega), if_neg (show ¬ (m.rs t).op = 5 by omega), if_pos ho, o0]
      · rw [worthr_line (r := R0.go 0) (o := 6) (l := 0) (f1.trans ho) rfl (by decide) (f3.trans C.ret) (by decide)]
        show 15 * k + 3 < 15 * k + 4; omega
  | adm ho hl => exact absurd ⟨ho, hl⟩ n1
  | dep ho hl hr hh =>
    rw [rf_2_0 (r := (m.at t).fresh) ho hl]; unfold LS.fGo
    obtain ⟨f1, f2, f3, f4, f5, f6, f7, f8⟩ := doA_rs m t 3 4294967295 0
    generalize (m.at t).fresh.doA 3 0 4294967295 0 = R0 at *
    exact turn (((R0.note 6 0).wake 0).fin true) ho hl (by decide) (by decide) f1 rfl ⟨0, by show beginI R0.mode 0 = _; rw [f6, C.n.2.1]⟩ (by rw [hh]; show 10 * k + 0 < 10 * k + 1; omega)
  | gone ho hr hh hon' => have := C.on; rw [hon'] at this; cases this
  | leave ho hl hr hh =>
    rw [rf_4_0 (r := (m.at t).fresh) ho hl]; unfold LS.fLeave
    obtain ⟨f1, f2, f3, f4, f5, f6, f7, f8⟩ := doA_rs m t 3 4294901760 0
    generalize (m.at t).fresh.doA 3 0 4294901760 0 = R0 at *
    exact turn ((((R0.note 7 0).note 8 0).wake 0).fin true) ho hl (by decide) (by decide) f1 rfl ⟨0, by show beginI R0.mode 0 = _; rw [f6, C.n.2.1]⟩ (by rw [hh]; show 10 * k + 0 < 10 * k + 1; omega)
  | up ho hl hr hh =>
    rcases hl with hl | hl
    · exact less_look C (o := 7) (wordAt m.xs 0 == 1) ho hl (.inr (.inr rfl)) (if_pos (by decide)) (fun e => by simpa using e) (rf_7_0 (r := (m.at t).fresh) ho hl)
    · obtain ⟨f1, f2, f3, f4, f5, f6, f7, f8⟩ := doA_rs m t 5 1 65536
      have hp : (m.at t).fresh.rf = (m.at t).fresh.fUp := rf_7_1 (r := (m.at t).fresh) ho hl
      unfold LS.fUp at hp
      generalize (m.at t).fresh.doA 5 0 1 65536 = R0 at *
      refine less_cas C (lo := 0) (hi := 15 * k + 4) (x := 1) (z := 65536) (l' := 0) ho hl (by decide) (by decide) ?_ (R1 := (R0.note 9 0).fin true) (R2 := R0.go 0) ⟨f1, rfl, f4⟩ ⟨f1, rfl, f3, f4, f8⟩ (fun _ => ?_) hp
      · unfold dearR; rw [if_neg (show ¬ (m.rs t).op = 3 by omega), if_neg (show ¬ (m.rs t).op = 5 by omega), if_neg (show ¬ (m.rs t).op = 6 by omega), o0]
      · rw [worthr_line (r := R0.go 0) (o := 7) (l := 0) (f1.trans ho) rfl (by decide) (f3.trans C.ret) (by decide)]
        show 15 * k + 3 < 15 * k + 4; omega
  | down ho hl hr hh =>
    rw [rf_8_0 (r := (m.at t).fresh) ho hl]; unfold LS.fDown
    obtain ⟨f1, f2, f3, f4, f5, f6, f7, f8⟩ := doA_rs m t 3 4294901761 0
    generalize (m.at t).fresh.doA 3 0 4294901761 0 = R0 at *
    exact turn (((R0.note 10 0).wake 0).fin true) ho hl (by decide) (by decide) f1 rfl ⟨0, by show beginI R0.mode 0 = _; rw [f6, C.n.2.1]⟩ (by rw [hh]; show 10 * k + (10 * k + 1) < 20 * k + 2; omega)
  | downed ho hr hh hon' => have := C.on; rw [hon'] at this; cases this
theorem worthr_done (C : RC k mode t c d y m) (hop : (m.rs t).op ≠ 0) {e : Int} {q : Int → Bool} (hw : wtR wtS (m.rs t) = some (e, q)) (hd : (stepI m.xs k mode t (m.rs t).s e q).done = true) : worthR k (ownW m.xs) ((m.at t).fresh.rf.finH (m.hold t)) (m.at t).fresh.rf.finR + 4 ≤ worthR k (ownW m.xs) (m.hold t) (m.rs t) := by
  have W := lines_rf.wait (m.at t).fresh e q C.on hw
  have hso : (m.at t).fresh.rf.op = (m.rs t).op := (lines_rf.same (m.at t).fresh).2.2.2.1
  have o0 : ∀ xs : List Int, ownW xs 0 = wordAt xs 0 := fun xs => ownW_at (by decide) (by decide)
  have hd' : ((m.at t).fresh.stepR e q).done = true := by rw [C.step]; exact hd
  have hc : ∀ x, comesR k (ownW m.xs) (m.hold t) (m.at t).fresh.rf ≤ x → worthR k (ownW m.xs) ((m.at t).fresh.rf.finH (m.hold t)) (m.at t).fresh.rf.finR ≤ x := fun x e => by unfold comesR at e; omega
  have hk0 : swp k (m.at t).fresh.rf.k = 0 := by rw [W.k]; exact swp_off k C.on
  rcases wtS_cases hw with ⟨o, l, rfl, rfl⟩ | ⟨o, l, rfl, rfl⟩
  · have hr2 : (m.at t).fresh.rf.ret = 2 := by
      rw [rf_1_1 (r := (m.at t).fresh) o l]; unfold LS.pAdmit; rw [if_pos hd']; rfl
    have h1 := hc _ (comesr_end (k := k) (w := ownW m.xs) (h := m.hold t) (hso.trans o) hr2 (by decide) (by decide))
    have h2 := idleR_le k (behindI 1 2 (m.hold t))
    rw [worthr_line o l (by decide) C.ret (by decide)]
    rw [hk0] at h1
    show _ ≤ 10 * k + 5
    omega
  · have hR : (m.at t).fresh.rf = ((m.at t).fresh.wait 0 isZ).go 1 := by
      rw [rf_3_2 (r := (m.at t).fresh) o l]; unfold LS.fWait; exact if_pos hd'
    have hr0 : (m.at t).fresh.rf.ret = 0 := by rw [hR]; exact C.ret
    have hl1 : (m.at t).fresh.rf.line = 1 := congrArg LS.line hR
    have h1 := hc _ (Nat.le_of_eq (comesr_stay (k := k) (w := ownW m.xs) (h := m.hold t) hr0))
    rw [hk0, worthr_dear (hso.trans o) hl1 (by decide) hr0 (by decide)] at h1
    rw [worthr_dear o l (by decide) C.ret (by decide)]
    have v1 : dearR k (ownW m.xs) (m.at t).fresh.rf = if wordAt m.xs 0 = 0 then 15 * k + 2 else 15 * k + 7 := by
      unfold dearR; rw [if_pos (hso.trans o), if_pos hl1, o0]
    have v2 : dearR k (ownW m.xs) (m.rs t) = if (m.rs t).s = 4 ∧ wordAt m.xs 0 ≠ 0 then 15 * k + 11 else 15 * k + 6 := by
      unfold dearR; rw [if_pos o, if_neg (by rw [l]; decide), o0]
    rw [v1] at h1
    rw [v2]
    have ways := waitS_ways C 0 isZ
    by_cases e : wordAt m.xs 0 = 0
    · rw [if_pos e] at h1
      rw [if_neg (fun e2 => e2.2 e)]; omega
    · rw [if_neg e] at h1
      have h4 : (m.rs t).s = 4 := by
        rcases ways with ⟨_, e2 | e2⟩ | ⟨e2, _⟩
        · exact e2
        · exact absurd (by simpa [isZ] using e2) e
        · rw [hd'] at e2; cases e2
      rw [if_pos ⟨h4, e⟩]; omega
theorem worthr_not (C : RC k mode t c d y m) (hop : (m.rs t).op ≠ 0) {e : Int} {q : Int → Bool} (hw : wtR wtS (m.rs t) = some (e, q)) (hd : (stepI m.xs k mode t (m.rs t).s e q).done = false) : worthR k (ownW m.xs) (m.hold t) (m.at t).fresh.rf ≤ worthR k (ownW m.xs) (m.hold t) (m.rs t) := by
  have W := lines_rf.wait (m.at t).fresh e q C.on hw
  have hso : (m.at t).fresh.rf.op = (m.rs t).op := (lines_rf.same (m.at t).fresh).2.2.2.1
  have o0 : ∀ xs : List Int, ownW xs 0 = wordAt xs 0 := fun xs => ownW_at (by decide) (by decide)
  have hd' : ((m.at t).fresh.stepR e q).done = false := by rw [C.step]; exact hd
  obtain ⟨l1, l2, _⟩ := W.stay hd'
  have l1' : (m.at t).fresh.rf.line = (m.rs t).line := l1
  have l2' : (m.at t).fresh.rf.ret = 0 := l2.trans C.ret
  rcases wtS_cases hw with ⟨o, l, rfl, rfl⟩ | ⟨o, l, rfl, rfl⟩
  · rw [worthr_line o l (by decide) C.ret (by decide), worthr_line (hso.trans o) (l1'.trans l) (by decide) l2' (by decide)]
    exact Nat.le_refl _
  · rw [worthr_dear o l (by decide) C.ret (by decide), worthr_dear (hso.trans o) (l1'.trans l) (by decide) l2' (by decide)]
    have v1 : dearR k (ownW m.xs) (m.at t).fresh.rf = if (m.at t).fresh.rf.s = 4 ∧ wordAt m.xs 0 ≠ 0 then 15 * k + 11 else 15 * k + 6 := by
      unfold dearR; rw [if_pos (hso.trans o), if_neg (by rw [l1', l]; decide), o0]
    have v2 : dearR k (ownW m.xs) (m.rs t) = if (m.rs t).s = 4 ∧ wordAt m.xs 0 ≠ 0 then 15 * k + 11 else 15 * k + 6 := by
      unfold dearR; rw [if_pos o, if_neg (by rw [l]; decide), o0]
    rw [v1, v2]
    have hn : ¬ ((m.at t).fresh.rf.s = 4 ∧ wordAt m.xs 0 ≠ 0) := fun ⟨e1, e2⟩ => by
      rw [W.s] at e1
      rcases waitS_ways C 0 isZ with ⟨e3, _⟩ | ⟨_, _, e3⟩
      · rw [hd'] at e3; cases e3
      · exact e2 (by simpa [isZ] using e3 e1)
    rw [if_neg hn]
    by_cases e2 : (m.rs t).s = 4 ∧ wordAt m.xs 0 ≠ 0
    · rw [if_pos e2]; omega
    · rw [if_neg e2]; omega
theorem rf_rest (hk : k ≤ 64) (h : RfInv k mode m) (hb : ∀ t, t < k → BlkQ wtS k mode m t) : ∀ t, t < k → (m.rs t).op = 0 ∧ m.hold t = 0 := by
  obtain ⟨hg, c, d, y, hI⟩ := h
  have off : ∀ j, j < k → (m.rs j).k.on = false := fun j hj => by
    rcases hb j hj with ⟨e, _⟩ | ⟨_, e, _⟩
    · exact hg.idle j hj e
    · exact e
  have waits : ∀ i, i < k → ((m.rs i).op = 0 ∧ m.hold i = 0) ∨ ((m.rs i).op = 1 ∧ (m.rs i).line = 1 ∧ outW (wordAt m.xs 0) = false) ∨ ((m.rs i).op = 3 ∧ (m.rs i).line = 2 ∧ wordAt m.xs 0 ≠ 0) := fun i hi => by
    rcases hb i hi with e | ⟨e0, e1, e, q, e2, e3⟩
    · exact .inl e
    · have hq : q (wordAt m.xs e) = false := by
        rcases e3 with ⟨_, e3⟩ | ⟨_, e4, e5⟩
        · exact e3
        · cases e6 : q (wordAt m.xs e)
          · rfl
          · obtain ⟨j, hj, e7, _⟩ := hg.nl i hi e q e2 e4 e5 e6
            rw [off j hj] at e7; cases e7
      rcases wtS_cases e2 with ⟨o, l, rfl, rfl⟩ | ⟨o, l, rfl, rfl⟩
      · exact .inr (.inl ⟨o, l, hq⟩)
      · refine .inr (.inr ⟨o, l, fun e => ?_⟩)
        rw [e] at hq; cases hq
  have ny : ∀ i, i < k → y i = 0 := fun i hi => by
    have F := hI.f i hi
    have w := waits i hi
    cases F <;> omega
  have hy0 : sumN y k = 0 := sumN_zero ny
  have hs := hI.small
  have nw : ∀ i, i < k → ¬ ((m.rs i).op = 1 ∧ (m.rs i).line = 1) := fun i hi e => by
    rcases waits i hi with e2 | ⟨_, _, e2⟩ | ⟨e2, _⟩
    · omega
    · rw [hI.w, outW_big (by omega) hI.y1, hy0] at e2; cases e2
    · omega
  have nc : ∀ i, i < k → c i = 0 := fun i hi => by
    have F := hI.f i hi
    have w := waits i hi
    have n := nw i hi
    cases F <;> omega
  have hc0 : sumN c k = 0 := sumN_zero nc
  intro t ht
  rcases waits t ht with e | ⟨e1, e2, _⟩ | ⟨_, _, e⟩
  · exact e
  · exact absurd ⟨e1, e2⟩ (nw t ht)
  · exact absurd (by rw [hI.w, hc0, hy0]; rfl) e
theorem rf_ok (hk : 1 ≤ k ∧ k ≤ 64) (mode : Int) (B : Nat) : LockQ LS.rf wtS (worthR k) k mode B (fun _ => RfInv k mode) := by
  refine ⟨hk, lines_rf, worthr_ok k, fun p m h => h.gen, fun p m h i hi => ?_, fun p m t op h ht h0 hm => h.start ht h0 hm, fun p m t h hp ht h0 hs => h.go hk.2 hk.1 ht h0 hs, fun p m h => h, fun p m t h ht h0 hh => ?_, fun p m t h ht h0 e q hon hw hd => ?_, fun p m t h ht h0 e q hon hw hd => ?_, fun p m t h hp ht h0 hon hw => ?_, fun p m t h hp ht h0 hon hw => ?_, fun p m h hb => rf_rest hk.2 h hb⟩
  · obtain ⟨_, c, d, y, hI⟩ := h
    have := (hI.f i hi).le; omega
  · have e0 : worthR k (ownW m.xs) (m.hold t) (m.rs t) = idleR k (m.hold t) := by unfold worthR; rw [if_pos h0]
    rw [e0]
    rcases hh with e | e <;> rw [e]
    · rw [worthr_line (r := zeroF (m.at t) (2 * 1)) (o := 2) (l := 0) rfl rfl (by decide) rfl (by decide)]
      show 10 * k + 1 ≤ 10 * k + 1; omega
    · rw [worthr_line (r := zeroF (m.at t) (2 * 2)) (o := 4) (l := 0) rfl rfl (by decide) rfl (by decide)]
      show 10 * k + 1 ≤ 10 * k + 1; omega
  · obtain ⟨hg, c, d, y, hI⟩ := h
    exact worthr_done (RC_mk hk.2 hg hI ht hon) h0 hw hd
  · obtain ⟨hg, c, d, y, hI⟩ := h
    exact worthr_not (RC_mk hk.2 hg hI ht hon) h0 hw hd
  · obtain ⟨hg, c, d, y, hI⟩ := h
    have C := RC_mk hk.2 hg hI ht hon
    obtain ⟨c', d', y', g⟩ := rf_mv C h0
    obtain ⟨p1, p2⟩ := plain_rf C h0 hw
    exact ⟨fun e he => g.far hon hw e (by have e : (m.at t).fresh.n = k := (hg.cst t ht).1; omega), p1, p2⟩
  · obtain ⟨hg, c, d, y, hI⟩ := h
    exact worthr_plain (RC_mk hk.2 hg hI ht hon) h0 hw
theorem rf_first (hk : 1 ≤ k ∧ k ≤ 64) (mode : Int) {xs : List Int} (hl : xs.length = 8 + 4 * k) (hx : ∀ e : Int, wordAt xs e = 0) : RfInv k mode ⟨fun i => newR k mode i 0 xs, fun _ => 0, xs⟩ := by
  refine ⟨⟨hl, fun i hi => ⟨rfl, rfl, rfl⟩, fun i hi => .inl rfl, fun i hi _ => rfl, fun i hi e => absurd rfl e, fun i hi => ⟨fun _ => hx _, fun e => (by rcases e with e | e | e <;> cases e)⟩, fun i hi e => (by cases e), fun i hi _ => rfl, fun i hi _ => rfl, fun i hi c q hw hs => (by cases hs)⟩, fun _ => 0, fun _ => 0, fun _ => 0, fun i hi => .idle0 rfl rfl rfl rfl rfl rfl, ?_, ?_, .inl (sumN_zero (fun _ _ => rfl)), fun i hi e => (by cases e)⟩
  · show wordAt xs 0 = _
    rw [hx, sumN_zero (fun _ _ => rfl)]; rfl
  · rw [sumN_zero (fun _ _ => rfl)]; decide
theorem rf_bound (h : RfInv k mode m) : FQ (worthR k) k m ≤ k * (25 * k + 18) := by
  have g := h.gen
  have h1 : sumN (shareQ (worthR k) k m) k ≤ sumN (fun _ => 25 * k + 15) k := sumN_le fun i hi => by
    unfold shareQ
    have a1 : swp k (m.rs i).k ≤ 5 * k := by
      unfold swp
      by_cases e : (m.rs i).k.on = true
      · rw [if_pos e]
        have : 5 * (k - (m.rs i).k.i.toNat) ≤ 5 * k := by omega
        by_cases e2 : (m.rs i).k.hit = true
        · rw [if_pos e2]; omega
        · rw [if_neg e2]; omega
      · rw [if_neg e]; omega
    have a2 : stp (m.rs i).s ≤ 4 := by
      rcases g.sr i hi with e | e | e | e | e <;> rw [e] <;> decide
    have a3 : worthR k (ownW m.xs) (m.hold i) (m.rs i) ≤ 20 * k + 11 := by
      have i1 := idleR_le k (m.hold i)
      have i2 := idleR_le k (behindI (m.rs i).op (m.rs i).ret (m.hold i))
      unfold worthR
      by_cases e : (m.rs i).op = 0
      · rw [if_pos e]; omega
      rw [if_neg e]
      by_cases e2 : (m.rs i).ret ≠ 0
      · rw [if_pos e2]; omega
      rw [if_neg e2]
      by_cases e3 : isDear (m.rs i).op (m.rs i).line
      · rw [if_pos e3]; exact dearR_le _ _ _
      · rw [if_neg e3]; exact lineR_le _ _ _
    omega
  have h2 : perms k m ≤ sumN (fun _ => 1) k := sumN_le fun i _ => by split <;> omega
  rw [sumN_const] at h1 h2
  unfold FQ
  have e1 : k * (25 * k + 18) = k * (25 * k + 15) + k * 3 := by rw [← Nat.mul_add]
  omega
theorem rf_alone (h : RfInv k mode m) (ht : t < k) (h2 : m.hold t = 2) (i : Nat) (hi : i < k) (hn : i ≠ t) : m.hold i = 0 := by
  obtain ⟨_, c, d, y, hI⟩ := h
  exact hI.alone ht h2 i hi hn
end
end Go.Proofs.Ytkmkeleifkkbnaa
