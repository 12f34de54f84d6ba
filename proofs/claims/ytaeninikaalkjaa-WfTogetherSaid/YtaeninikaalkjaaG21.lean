import Derived.Test.YtaeninikaalkjaaG13
import Derived.Test.YtaeninikaalkjaaG2
import Derived.Test.YtaeninikaalkjaaG9
import Derived.Test.YtaeninikaalkjaaG16
set_option linter.unusedVariables false
set_option linter.unusedSimpArgs false
namespace Go.Proofs.Ytaeninikaalkjaa
open Go.RowKit
set_option maxHeartbeats 1000000 in
theorem whole_any (L : List (Nat × TypeId × Array Value)) (w0 : World) (X GL GH : Nat) (B : Nat → Nat) (p A : Option Addr) (cp k : Nat) (m : MV) (t : Nat) (op : Int) (gx : Nat) (w : World) (h : MatchP L w0 X GL GH B p A cp k m w) (ht : t < k) (hg : (gx, 41, #[Value.pointer (some ⟨X, 0, none⟩)]) ∈ L) :
    Calls Try.prog 15 #[.int .i64 t, .int .i64 op, .pointer (some ⟨gx, 0, none⟩)] w fun e w' => e = .returned (.tuple #[]) ∧ MatchP L w0 X GL GH B p A cp k (wholeI LS.wf m t op) w' := by
  obtain ⟨b, hb⟩ : ∃ b, B t = b := ⟨_, rfl⟩
  have HBT := Lib.hid hb
  have HM := Lib.hid h
  have HG := Lib.hid hg
  clear h hb hg
  have bx : w.cell? ⟨gx, 0, none⟩ = some (Value.pointer (some ⟨X, 0, none⟩)) := (show Row w gx 41 #[Value.pointer (some ⟨X, 0, none⟩)] from HM.out.side _ HG.out).cell_ (i := 0) rfl
  go_enter Try.func15, Try.ntmps15
  go_wp2_with fail
  clear bx
  refine (play_any L w0 X GL GH B p A cp k m t op _ HM.out ht).mono ?_
  have HWI := Lib.hid (show wholeI LS.wf m t op = whileI LS.wf t 200 (playI LS.wf m t op) from rfl)
  generalize playI LS.wf m t op = m1 at *
  rintro e w1 ⟨rfl, hM⟩
  clear HM
  have HM1 := Lib.hid hM
  clear hM
  go_wp2_with fail
  go_loopw [5] (fun iv wr => ∃ i : Nat, i ≤ 200 ∧ iv = .int .i64 i ∧ ∃ m', MatchP L w0 X GL GH B p A cp k m' wr ∧ whileI LS.wf t 200 m1 = whileI LS.wf t (200 - i) m') (fun iv _ => 200 - (intOf iv).toNat)
  case atStart => exact ⟨0, Nat.zero_le _, rfl, m1, HM1.out, rfl⟩
  case round =>
    obtain ⟨i, hi, rfl, m', hM, hE⟩ := hrel
    clear HM1
    have HM := Lib.hid hM
    have HE := Lib.hid hE
    clear hM hE
    by_cases hlt : i < 200
    · have HS := Lib.hid (show whileI LS.wf t (200 - i) m' = if (m'.at t).op = 0 then m' else whileI LS.wf t (200 - (i + 1)) (playI LS.wf m' t 0) by rw [show 200 - i = (200 - (i + 1)) + 1 by omega]; rfl)
      obtain ⟨cl, hx0⟩ := HM.out.x
      obtain ⟨csl, hl0, hl1⟩ := HM.out.l
      obtain ⟨nv, hq⟩ := HM.out.run t ht
      have bx : wr.cell? ⟨gx, 0, none⟩ = some (Value.pointer (some ⟨X, 0, none⟩)) := (show Row wr gx 41 #[Value.pointer (some ⟨X, 0, none⟩)] from HM.out.side _ HG.out).cell_ (i := 0) rfl
      have x0 : wr.cell? ⟨X, 0, none⟩ = some (.slice (some ⟨GL, 0, none⟩) k cl) := hx0.cell_ (i := 0) rfl
      have gl : wr.cell? ⟨GL, t, none⟩ = some (.pointer (some ⟨b, 0, none⟩)) := by have e := hl0.cell_ (hl1 t ht); rw [HBT.out] at e; exact e
      rw [HBT.out] at hq
      have c4 : wr.cell? ⟨b, 4, none⟩ = some (.int .i64 (m'.at t).op) := hq.row.cell_ (i := 4) rfl
      clear hx0 hl0 hl1 hq
      by_cases h0 : (m'.at t).op = 0
      · rw [h0] at c4
        have HF := Lib.hid ((HE.out.trans HS.out).trans (if_pos h0))
        clear h0
        have hlt' : (i : Int) < 200 := by omega
        go_wp2
        clear bx x0 gl c4
        go_returns
        exact ⟨rfl, by rw [HWI.out, HF.out]; exact HM.out⟩
      · have h0' : ((m'.at t).op != 0) = true := bne_iff_ne.2 h0
        have HF := Lib.hid ((HE.out.trans HS.out).trans (if_neg h0))
        clear h0
        generalize (m'.at t).op = o at *
        have hlt' : (i : Int) < 200 := by omega
        go_wp2_with fail
        clear bx x0 gl c4 h0'
        refine (play_any L w0 X GL GH B p A cp k m' t 0 _ HM.out ht).mono ?_
        rintro e w2 ⟨rfl, hM⟩
        have HM2 := Lib.hid hM
        clear hM
        go_wp2
        go_roundw
        case rel => exact ⟨i + 1, by omega, by go_num, _, HM2.out, HF.out⟩
        case measure => simp [intOf]; omega
    · obtain rfl : i = 200 := by omega
      have HF := Lib.hid (show whileI LS.wf t 200 m1 = m' by rw [HE.out]; rfl)
      obtain ⟨cl, hx0⟩ := HM.out.x
      obtain ⟨csl, hl0, hl1⟩ := HM.out.l
      obtain ⟨nv, hq⟩ := HM.out.run t ht
      have bx : wr.cell? ⟨gx, 0, none⟩ = some (Value.pointer (some ⟨X, 0, none⟩)) := (show Row wr gx 41 #[Value.pointer (some ⟨X, 0, none⟩)] from HM.out.side _ HG.out).cell_ (i := 0) rfl
      have x0 : wr.cell? ⟨X, 0, none⟩ = some (.slice (some ⟨GL, 0, none⟩) k cl) := hx0.cell_ (i := 0) rfl
      have gl : wr.cell? ⟨GL, t, none⟩ = some (.pointer (some ⟨b, 0, none⟩)) := by have e := hl0.cell_ (hl1 t ht); rw [HBT.out] at e; exact e
      rw [HBT.out] at hq
      have c4 : wr.cell? ⟨b, 4, none⟩ = some (.int .i64 (m'.at t).op) := hq.row.cell_ (i := 4) rfl
      clear hx0 hl0 hl1 hq
      generalize (m'.at t).op = o at *
      go_wp2
      clear bx x0 gl c4
      go_returns
      exact ⟨rfl, by rw [HWI.out, HF.out]; exact HM.out⟩
end Go.Proofs.Ytaeninikaalkjaa
set_option linter.unusedVariables false
set_option linter.unusedSimpArgs false
namespace Go.Proofs.Ytaeninikaalkjaa
open Go.RowKit
def mkR (k : Nat) (mode task op line a b : Int) (kk : WkV) (ret : Int) (os : List Int) (acc : Acc5) (ns : List Nt) : LS := ⟨k, mode, task, op, line, a, b, 0, kk, ret, acc, ns, clean os k⟩
def Nx (L : LS → LS) (r : LS) (k : Nat) (mode task op line a b : Int) (kk : WkV) (ret : Int) (os : List Int) : Prop := ∃ acc ns, r.next L = mkR k mode task op line a b kk ret os acc ns
section
variable {chk : LS → Bool} {L : LS → LS} {r : LS} {k m : Nat} {mode task op line a b c ret : Int} {os : List Int}
theorem Nx.mk {kk : WkV} {r' : LS} (h : r.next L = r') (he : r'.fresh = mkR k mode task op line a b kk ret os acc0 []) : Nx L r k mode task op line a b kk ret os := by
  refine ⟨r'.acc, r'.ns, h.trans ?_⟩
  have e : r' = { r'.fresh with acc := r'.acc, ns := r'.ns } := rfl
  rw [e, he]
  rfl
theorem Nx.on (hk0 : Chk chk) (h0 : r.s = 0) (h : Nx L r k mode task op line a b wk0 0 os) : ∃ acc ns, aloneG chk L (m + 1) r = aloneG chk L m (mkR k mode task op line a b wk0 0 os acc ns) := by
  obtain ⟨acc, ns, e⟩ := h
  exact ⟨acc, ns, by rw [alone_on hk0 h0 (by rw [e]; rfl), e]⟩
theorem Nx.stop (hk0 : Chk chk) (h0 : r.s = 0) (h : Nx L r k mode task op line a b wk0 ret os) (hr : ret ≠ 0) : aloneG chk L (m + 1) r = (ret, clean os k) := by
  obtain ⟨acc, ns, e⟩ := h
  rw [alone_end hk0 h0 (by rw [e]; simp [LS.over, mkR, wk0, hr]), e]
  rfl
theorem Nx.done (hk0 : Chk chk) (h0 : r.s = 0) (ho : os.length = 8) (hk : 1 ≤ k ∧ k ≤ 64) (hc : 0 ≤ c ∧ c < 8) (h : Nx L r k mode task op line a b (beginI mode c) ret os) (hr : ret ≠ 0) (hm : k < m) : aloneG chk L m r = (ret, clean os k) := by
  obtain ⟨acc, ns, e⟩ := h
  exact alone_done hk0 ho hk hc e rfl rfl rfl hr h0 rfl hm
end
end Go.Proofs.Ytaeninikaalkjaa
set_option linter.unusedVariables false
set_option linter.unusedSimpArgs false
namespace Go.Proofs.Ytaeninikaalkjaa
open Go.RowKit
def Idle (k : Nat) (mode : Int) (m : MV) : Prop := ∀ i, i < k → (m.at i).fresh = newR k mode i 0 m.xs
section
variable {L : LS → LS} {k : Nat} {mode : Int} {m : MV} {t : Nat}
structure Same3 (r r' : LS) : Prop where
  n : r'.n = r.n
  mode : r'.mode = r.mode
  task : r'.task = r.task
  op : r'.op = r.op
theorem fresh_zero {r r' : LS} (h : r.fresh = r'.fresh) (op : Int) : (zeroF r op).fresh = (zeroF r' op).fresh := by
  have h1 : r.n = r'.n := by have e := congrArg LS.n h; exact e
  have h2 : r.mode = r'.mode := by have e := congrArg LS.mode h; exact e
  have h3 : r.task = r'.task := by have e := congrArg LS.task h; exact e
  have h4 : r.xs = r'.xs := by have e := congrArg LS.xs h; exact e
  unfold zeroF LS.fresh
  simp only [h1, h2, h3, h4]
theorem while_alone (hL : ∀ r : LS, Same3 r (r.next L)) : ∀ (n : Nat) (m : MV) (ret : Int) (ys : List Int), (m.at t).op ≠ 0 → ret ≠ 0 → aloneG LS.stuck L (n + 1) (m.at t) = (ret, ys) →
    ∃ m', whileI L t (n + 1) m = m' ∧ m'.xs = ys ∧ m'.hold = upd m.hold t (behindI (m.at t).op ret (m.hold t)) ∧ (∀ i, i ≠ t → m'.rs i = m.rs i) ∧ ∃ r, (m'.at t).fresh = (zeroF r 0).fresh ∧ r.n = (m.at t).n ∧ r.mode = (m.at t).mode ∧ r.task = (m.at t).task ∧ r.xs = ys := by
  intro n
  induction n with
  | zero =>
    intro m ret ys hop hret h
    have hs : (m.at t).stuck = false := by
      cases e : (m.at t).stuck
      · rfl
      · have h' : (if (m.at t).stuck = true then ((0 : Int), (m.at t).xs) else _) = (ret, ys) := h
        rw [if_pos e] at h'
        exact absurd (congrArg Prod.fst h').symm hret
    have hov : ((m.at t).next L).over = true := by
      cases e : ((m.at t).next L).over
      · have h' : (if (m.at t).stuck = true then _ else if ((m.at t).next L).over = true then _ else ((0 : Int), ((m.at t).next L).xs)) = (ret, ys) := h
        rw [if_neg (by rw [hs]; exact Bool.false_ne_true), if_neg (by rw [e]; exact Bool.false_ne_true)] at h'
        exact absurd (congrArg Prod.fst h').symm hret
      · rfl
    have h' : (if (m.at t).stuck = true then _ else if ((m.at t).next L).over = true then (((m.at t).next L).ret, ((m.at t).next L).xs) else _) = (ret, ys) := h
    rw [if_neg (by rw [hs]; exact Bool.false_ne_true), if_pos hov] at h'
    obtain ⟨h1, h2⟩ := Prod.mk.inj h'
    have hw : whileI L t (0 + 1) m = m.go L t := by
      show (if (m.at t).op = 0 then m else whileI L t 0 (playI L m t 0)) = _
      rw [if_neg hop]
      show playI L m t 0 = _
      unfold playI
      rw [if_neg hop]
    have hg : m.go L t = ((m.setR t ((m.at t).next L)).setH t (behindI ((m.at t).next L).op ((m.at t).next L).ret (m.hold t))).setR t (zeroF ((m.at t).next L) 0) := by
      unfold MV.go
      rw [if_neg (by rw [hs]; exact Bool.false_ne_true), if_pos hov]
    obtain ⟨q1, q2, q3, q4⟩ := hL (m.at t)
    refine ⟨_, hw.trans hg, h2, ?_, fun i hi => ?_, (m.at t).next L, by rw [at_setR], q1, q2, q3, h2⟩
    · show upd m.hold t _ = upd m.hold t _
      rw [q4, h1]
    · show upd (upd m.rs t _) t _ i = m.rs i
      rw [upd_other _ _ hi, upd_other _ _ hi]
  | succ n ih =>
    intro m ret ys hop hret h
    have hs : (m.at t).stuck = false := by
      cases e : (m.at t).stuck
      · rfl
      · have h' : (if (m.at t).stuck = true then ((0 : Int), (m.at t).xs) else _) = (ret, ys) := h
        rw [if_pos e] at h'
        exact absurd (congrArg Prod.fst h').symm hret
    have h' : (if (m.at t).stuck = true then _ else if ((m.at t).next L).over = true then (((m.at t).next L).ret, ((m.at t).next L).xs) else aloneG LS.stuck L (n + 1) ((m.at t).next L)) = (ret, ys) := h
    rw [if_neg (by rw [hs]; exact Bool.false_ne_true)] at h'
    have hw : whileI L t (n + 1 + 1) m = whileI L t (n + 1) (m.go L t) := by
      show (if (m.at t).op = 0 then m else whileI L t (n + 1) (playI L m t 0)) = _
      rw [if_neg hop]
      unfold playI
      rw [if_neg hop]
    obtain ⟨q1, q2, q3, q4⟩ := hL (m.at t)
    cases hov : ((m.at t).next L).over
    · rw [if_neg (by rw [hov]; exact Bool.false_ne_true)] at h'
      have hg : m.go L t = m.setR t ((m.at t).next L) := by
        unfold MV.go
        rw [if_neg (by rw [hs]; exact Bool.false_ne_true), if_neg (by rw [hov]; exact Bool.false_ne_true)]
      have hat : (m.setR t ((m.at t).next L)).at t = (m.at t).next L := at_setR
      obtain ⟨m', e1, e2, e3, e4, r, e5, e6, e7, e8, e9⟩ := ih (m.setR t ((m.at t).next L)) ret ys (by rw [hat, q4]; exact hop) hret (by rw [hat]; exact h')
      rw [hat, q4] at e3
      rw [hat] at e6 e7 e8
      refine ⟨m', by rw [hw, hg]; exact e1, e2, e3, fun i hi => ?_, r, e5, e6.trans q1, e7.trans q2, e8.trans q3, e9⟩
      rw [e4 i hi]
      show upd m.rs t _ i = _
      rw [upd_other _ _ hi]
    · rw [if_pos hov] at h'
      obtain ⟨h1, h2⟩ := Prod.mk.inj h'
      have hg : m.go L t = ((m.setR t ((m.at t).next L)).setH t (behindI ((m.at t).next L).op ((m.at t).next L).ret (m.hold t))).setR t (zeroF ((m.at t).next L) 0) := by
        unfold MV.go
        rw [if_neg (by rw [hs]; exact Bool.false_ne_true), if_pos hov]
      have hstop : whileI L t (n + 1) (m.go L t) = m.go L t := by
        show (if ((m.go L t).at t).op = 0 then _ else _) = _
        rw [if_pos (by rw [hg, at_setR]; rfl)]
      refine ⟨_, (hw.trans hstop).trans hg, h2, ?_, fun i hi => ?_, (m.at t).next L, by rw [at_setR], q1, q2, q3, h2⟩
      · show upd m.hold t _ = upd m.hold t _
        rw [q4, h1]
      · show upd (upd m.rs t _) t _ i = m.rs i
        rw [upd_other _ _ hi, upd_other _ _ hi]
theorem whole_alone (hL : ∀ r : LS, Same3 r (r.next L)) (hi : Idle k mode m) (ht : t < k) {op ret : Int} {ys : List Int} (hop : op ≠ 0) (hmay : mayI op (m.hold t) = true) (hret : ret ≠ 0)
    (h : aloneG LS.stuck L 201 (newR k mode t op m.xs) = (ret, ys)) : ∃ m', wholeI L m t op = m' ∧ Idle k mode m' ∧ m'.xs = ys ∧ m'.hold = upd m.hold t (behindI op ret (fromI op (m.hold t))) := by
  have hr0 : (m.at t).op = 0 := by
    have e := congrArg LS.op (hi t ht)
    exact e
  have hst : (m.start t op).at t = zeroF (m.at t) op := at_setR
  have hfr : (zeroF (m.at t) op).fresh = newR k mode t op m.xs := by
    have e : (m.at t).fresh = (newR k mode t 0 m.xs).fresh := hi t ht
    rw [fresh_zero e op]
    rfl
  have h0 : aloneG LS.stuck L 201 ((m.start t op).at t) = (ret, ys) := by
    rw [hst, ← alone_fresh chk_stuck (by decide), hfr]
    exact h
  obtain ⟨m', e1, e2, e3, e4, r, e5, e6, e7, e8, e9⟩ := while_alone (t := t) hL 200 (m.start t op) ret ys (by rw [hst]; exact hop) hret h0
  have hw : wholeI L m t op = m' := by
    unfold wholeI
    have hp : playI L m t op = (m.start t op).go L t := by unfold playI; rw [if_pos hr0, if_pos hmay]
    rw [hp, ← e1]
    show _ = (if ((m.start t op).at t).op = 0 then _ else whileI L t 200 (playI L (m.start t op) t 0))
    rw [if_neg (by rw [hst]; exact hop)]
    congr 1
    unfold playI
    rw [if_neg (by rw [hst]; exact hop)]
  refine ⟨m', hw, fun i hik => ?_, e2, ?_⟩
  · by_cases hit : i = t
    · subst hit
      rw [e5]
      have h1 := congrArg LS.n hfr
      have h2 := congrArg LS.mode hfr
      have h3 := congrArg LS.task hfr
      rw [hst] at e6 e7 e8
      unfold zeroF LS.fresh newR
      simp only [e6, e7, e8, e9, e2]
      exact congrArg (fun x => x) (by
        have g1 : (zeroF (m.at i) op).n = k := h1
        have g2 : (zeroF (m.at i) op).mode = mode := h2
        have g3 : (zeroF (m.at i) op).task = i := h3
        rw [g1, g2, g3])
    · have e := hi i hik
      have hrs : m'.rs i = m.rs i := by
        rw [e4 i hit]
        show upd m.rs t _ i = _
        rw [upd_other _ _ hit]
      have e' : (m'.at i).fresh = { (m.at i).fresh with xs := m'.xs } := by unfold MV.at LS.fresh; rw [hrs]
      rw [e', e]
      rfl
  · rw [e3, hst]
    show upd (upd m.hold t (fromI op (m.hold t))) t (behindI op ret (upd m.hold t (fromI op (m.hold t)) t)) = _
    rw [upd_same]
    funext i
    unfold upd
    split <;> rfl
end
end Go.Proofs.Ytaeninikaalkjaa
set_option linter.unusedVariables false
set_option linter.unusedSimpArgs false
set_option linter.unusedSectionVars false
namespace Go.Proofs.Ytaeninikaalkjaa
open Go.RowKit
theorem same_nextf (r : LS) : Same3 r (r.next LS.wf) := by
  unfold LS.next
  split
  · exact ⟨rfl, rfl, rfl, rfl⟩
  · have h := (keep_wf (r := r.fresh)).1
    exact ⟨h.n, h.mode, h.task, h.op⟩
structure ReadsF (k : Nat) (mode b : Int) (c a : Nat) (m : MV) : Prop where
  idle : Idle k mode m
  xs : SW k (wv b 0 0 (c - a)) m.xs
  hold : ∀ i, m.hold i = if a ≤ i ∧ i < c then 1 else 0
theorem readsf_many {k : Nat} {mode b : Int} {c a : Nat} {m : MV} (h : ReadsF k mode b c a m) : ∀ n, manyI m 1 n = min n c - min n a := by
  intro n
  induction n with
  | zero => unfold manyI; omega
  | succ n ih =>
    unfold manyI
    rw [h.hold n, ih]
    by_cases e : a ≤ n ∧ n < c
    · rw [if_pos (if_pos e)]; omega
    · rw [if_neg (by rw [if_neg e]; decide)]; omega
section
variable {k : Nat} {mode b : Int} {c a : Nat} {m : MV} (hk : 2 ≤ k ∧ k ≤ 16) (h : ReadsF k mode b c a m)
include hk h
theorem readsf_come {op : Int} (hop : op = 1 ∨ op = 5) (hc : c < k) (ha : a ≤ c) : ReadsF k mode b (c + 1) a (wholeI LS.wf m c op) := by
  have ho : freeW (wv b 0 0 (c - a)) = true := by rw [wv_free (by omega) (Nat.le_refl _) (by omega)]; rfl
  have hE : EndF LS.stuck k 201 (newR k mode c op m.xs) 2 ((wv b 0 0 (c - a) + 1) % 4294967296) := by
    rcases hop with rfl | rfl
    · exact eg_rlock chk_stuck (by omega) (m := 199) (rs_new c 1 h.xs) ho
    · exact eg_tryrlock (m := 199) chk_stuck (by omega) (rs_new (mode := mode) c 5 h.xs) ho
  obtain ⟨ys, hal, hy⟩ := hE
  rw [wv_up, show c - a + 1 = c + 1 - a by omega] at hy
  have hhold : m.hold c = 0 := by rw [h.hold, if_neg (by omega)]
  obtain ⟨m', e, h1, h2, h3⟩ := whole_alone (t := c) same_nextf h.idle hc (by rcases hop with rfl | rfl <;> decide) (by rw [hhold]; rcases hop with rfl | rfl <;> rfl) (by decide) hal
  rw [e]
  refine ⟨h1, by rw [h2]; exact hy, fun i => ?_⟩
  rw [h3]
  have hb : behindI op 2 (fromI op (m.hold c)) = 1 := by rw [hhold]; rcases hop with rfl | rfl <;> rfl
  rw [hb]
  unfold upd
  by_cases e : i = c
  · rw [if_pos e, if_pos (by omega)]
  · rw [if_neg e, h.hold]
    by_cases e2 : a ≤ i ∧ i < c
    · rw [if_pos e2, if_pos (by omega)]
    · rw [if_neg e2, if_neg (by omega)]
theorem readsf_go (hc : c ≤ k) (ha : a < c) : ReadsF k mode b c (a + 1) (wholeI LS.wf m a 2) := by
  have hx := h.xs
  rw [show c - a = (c - (a + 1)) + 1 by omega] at hx
  obtain ⟨ys, hal, hy⟩ := eg_runlock (mode := mode) chk_stuck (by omega) (m := 201) (rs_new a 2 hx) (by omega)
  rw [wv_down] at hy
  have hhold : m.hold a = 1 := by rw [h.hold, if_pos (by omega)]
  obtain ⟨m', e, h1, h2, h3⟩ := whole_alone (t := a) same_nextf h.idle (by omega) (by decide) (by rw [hhold]; rfl) (by decide) hal
  rw [e]
  refine ⟨h1, by rw [h2]; exact hy, fun i => ?_⟩
  rw [h3]
  have hb : behindI 2 2 (fromI 2 (m.hold a)) = 0 := rfl
  rw [hb]
  unfold upd
  by_cases e : i = a
  · rw [if_pos e, if_neg (by omega)]
  · rw [if_neg e, h.hold]
    by_cases e2 : a ≤ i ∧ i < c
    · rw [if_pos e2, if_pos (by omega)]
    · rw [if_neg e2, if_neg (by omega)]
theorem readsf_refuse (hc : c < k) (ha : a < c) {t : Nat} (ht : t + 1 = k) (htc : c ≤ t) : ReadsF k mode b c a (wholeI LS.wf m t 6) := by
  obtain ⟨ys, hal, hy⟩ := eg_trylock_no (mode := mode) chk_stuck (by omega) (m := 200) (rs_new t 6 h.xs) (by rw [wv_r (by omega), show ((((c - a : Nat) : Int)) == 0) = false by simp; omega, Bool.and_false])
  have hhold : m.hold t = 0 := by rw [h.hold, if_neg (by omega)]
  obtain ⟨m', e, h1, h2, h3⟩ := whole_alone (t := t) same_nextf h.idle (by omega) (by decide) (by rw [hhold]; rfl) (by decide) hal
  rw [e]
  refine ⟨h1, by rw [h2]; exact hy, fun i => ?_⟩
  rw [h3, hhold]
  have hb : behindI 6 1 (fromI 6 0) = 0 := rfl
  rw [hb]
  unfold upd
  by_cases e : i = t
  · rw [if_pos e, if_neg (by omega)]
  · rw [if_neg e, h.hold]
theorem readsf_last (hc : c < k) (ha : a = c) {t : Nat} (ht : t + 1 = k) (htc : c ≤ t) : (wholeI LS.wf m t 6).hold t = 2 ∧ ∀ i, i ≠ t → (wholeI LS.wf m t 6).hold i = 0 := by
  subst ha
  have hx := h.xs
  rw [show a - a = 0 by omega] at hx
  obtain ⟨ys, hal, hy⟩ := eg_trylock (mode := mode) chk_stuck (by omega) (m := 199) (rs_new t 6 hx) (by rw [wv_free (by decide) (Nat.le_refl _) (by omega)]; rfl) (wv_r (by decide))
  have hhold : m.hold t = 0 := by rw [h.hold, if_neg (by omega)]
  obtain ⟨m', e, h1, h2, h3⟩ := whole_alone (t := t) same_nextf h.idle (by omega) (by decide) (by rw [hhold]; rfl) (by decide) hal
  rw [e, h3]
  refine ⟨?_, fun i hi => ?_⟩
  · rw [upd_same, hhold]; rfl
  · rw [upd_other _ _ hi, h.hold, if_neg (by omega)]
end
theorem readsf_first {k : Nat} (hk : k ≤ 64) {mode b : Int} : ReadsF k mode (b % 256) 0 0 ⟨fun i => newR k mode i 0 (wfXs k b), fun _ => 0, wfXs k b⟩ :=
  ⟨fun i hi => rfl, ⟨wf_len k b, (wf_at k b).1, fun i hi => (wf_at k b).2 _ (by rw [wc_at hk hi]; omega)⟩, fun i => by rw [if_neg (by omega)]⟩
theorem manyf_none {m : MV} {t : Nat} (h : m.hold t = 2 ∧ ∀ i, i ≠ t → m.hold i = 0) : ∀ n, manyI m 1 n = 0 := by
  intro n
  induction n with
  | zero => rfl
  | succ n ih =>
    unfold manyI
    rw [ih, if_neg]
    by_cases e : n = t
    · subst e; rw [h.1]; decide
    · rw [h.2 n e]; decide
end Go.Proofs.Ytaeninikaalkjaa
set_option linter.unusedVariables false
set_option linter.unusedSimpArgs false
namespace Go.Proofs.Ytaeninikaalkjaa
open Go.RowKit
set_option maxRecDepth 100000 in
set_option maxHeartbeats 4000000 in
theorem walk_wfTogether (a0 a1 a2 : Int) (a3 : Bool) (w : World) (h0 : (Lit.int .u8 a0).wf = true) (h1 : (Lit.int .u8 a1).wf = true) (h2 : (Lit.int .u32 a2).wf = true) :
    Calls Try.prog 6 #[.int .u8 a0, .int .u8 a1, .int .u32 a2, .bool a3] w fun e w' => e = .returned (.bool true) ∧ Only Nil w w' := by
  have HBD := Lib.hid (wf_u32 h2)
  obtain ⟨n0, n1⟩ := wf_u8 h0
  obtain ⟨n2, n3⟩ := wf_u8 h1
  obtain ⟨k, hkk⟩ : ∃ k : Nat, 2 + a0 % 15 = (k : Int) := ⟨(2 + a0 % 15).toNat, by omega⟩
  obtain ⟨mode, hmm⟩ : ∃ mode : Int, 1 + a1 % 2 = mode := ⟨_, rfl⟩
  have HK := Lib.hid (show 2 ≤ k ∧ k ≤ 16 by omega)
  have HKK := Lib.hid hkk
  have HMM := Lib.hid hmm
  clear h0 h1 h2 hkk hmm
  cases a3
  · skip
    go_enter Try.func6, Try.ntmps6
    go_wp2_with fail
    rw [HKK.out, HMM.out]
    refine (begun_any k mode a2 _ (by have := HK.out; omega) HBD.out).mono ?_
    have HFST := Lib.hid (readsf_first (k := k) (mode := mode) (b := a2) (by have := HK.out; omega))
    generalize hm0 : (⟨fun i => newR k mode i 0 (wfXs k a2), fun _ => 0, wfXs k a2⟩ : MV) = m0 at *
    clear hm0
    rintro e w1 ⟨X, GL, GH, B, p, A, cp, rfl, hM⟩
    have e0 := (Only.refl Nil w1).alloc (.cells #[Value.pointer (some ⟨X, 0, none⟩)] 41)
    have HM1 := Lib.hid ((hM.keep e0).beside (Row.new w1 41 #[Value.pointer (some ⟨X, 0, none⟩)]) ⟨by decide, by decide, by decide⟩ (by decide))
    clear hM e0
    go_upto_region 3 with (fail)
    generalize w1.alloc (.cells #[Value.pointer (some ⟨X, 0, none⟩)] 41) = w2 at *
    generalize w1.heap.size = gx at *
    have bx : w2.cell? ⟨gx, 0, none⟩ = some (Value.pointer (some ⟨X, 0, none⟩)) := (show Row w2 gx 41 #[Value.pointer (some ⟨X, 0, none⟩)] from HM1.out.side _ (.head _)).cell_ (i := 0) rfl
    go_wp2_with fail
    clear bx
    clear n0 n1 n2 n3
    have hk1 : (2 : Int) ≤ k := by have := HK.out; omega
    have hk2 : (k : Int) ≤ 16 := by have := HK.out; omega
    go_loopw [13] (fun iv wr => ∃ c : Nat, c + 1 ≤ k ∧ iv = .int .i64 c ∧ ∃ m, MatchP [(gx, 41, #[Value.pointer (some ⟨X, 0, none⟩)])] w X GL GH B p A cp k m wr ∧ ReadsF k mode (a2 % 256) c 0 m) (fun iv _ => k - (intOf iv).toNat)
    case atStart => exact ⟨0, by have := HK.out; omega, rfl, m0, HM1.out, HFST.out⟩
    case round =>
      obtain ⟨c, hc, rfl, m, hM, hR⟩ := hrel
      clear HM1 HFST
      have HM := Lib.hid hM
      have HR := Lib.hid hR
      clear hM hR
      by_cases hlt : c + 1 < k
      · have hlt' : (c : Int) < (k : Int) - 1 := by omega
        have HR2 := Lib.hid (readsf_come HK.out HR.out (op := 1) (by simp) (by omega) (Nat.zero_le _))
        have HMN := Lib.hid (show manyI (wholeI LS.wf m c 1) 1 k = c + 1 by rw [readsf_many HR2.out k]; omega)
        go_wp2_with fail
        clear hlt'
        refine (whole_any _ w X GL GH B p A cp k m c 1 gx _ HM.out (by omega) (.head _)).mono ?_
        generalize wholeI LS.wf m c 1 = m2 at *
        rintro e w3 ⟨rfl, hM⟩
        have HM3 := Lib.hid hM
        clear hM HM HR
        have bx : w3.cell? ⟨gx, 0, none⟩ = some (Value.pointer (some ⟨X, 0, none⟩)) := (show Row w3 gx 41 #[Value.pointer (some ⟨X, 0, none⟩)] from HM3.out.side _ (.head _)).cell_ (i := 0) rfl
        go_wp2_with fail
        clear bx
        refine (many_any _ w X GL GH B p A cp k m2 1 _ HM3.out (by omega)).mono ?_
        rw [HMN.out]
        rintro e w4 ⟨rfl, rfl⟩
        have hcc : ((c + 1 : Nat) : Int) = (c : Int) + 1 := by push_cast; rfl
        rw [hcc]
        clear hcc
        go_wp2
        go_roundw
        case rel => exact ⟨c + 1, by omega, by go_num, m2, HM3.out, HR2.out⟩
        case measure => simp [intOf]; omega
      · have hlt' : ¬ (c : Int) < (k : Int) - 1 := by omega
        obtain rfl : k = c + 1 := by omega
        go_wp2_with fail
        clear hlt'
        go_loopw [14] (fun iv wr => ∃ a : Nat, a ≤ c ∧ iv = .int .i64 a ∧ ∃ m, MatchP [(gx, 41, #[Value.pointer (some ⟨X, 0, none⟩)])] w X GL GH B p A cp (c + 1) m wr ∧ ReadsF (c + 1) mode (a2 % 256) c a m) (fun iv _ => c - (intOf iv).toNat)
        case atStart => exact ⟨0, Nat.zero_le _, rfl, m, HM.out, HR.out⟩
        case round =>
          obtain ⟨a, ha, rfl, m, hM, hR⟩ := hrel
          clear HM HR
          have HM := Lib.hid hM
          have HR := Lib.hid hR
          clear hM hR
          by_cases hlt : a < c
          · have hlt' : (a : Int) < ((c + 1 : Nat) : Int) - 1 := by omega
            have HR2 := Lib.hid (readsf_refuse HK.out HR.out (by omega) hlt (t := c) rfl (Nat.le_refl _))
            have HH0 := Lib.hid (show (wholeI LS.wf m c 6).hold c = 0 by rw [HR2.out.hold, if_neg (by omega)])
            go_wp2_with fail
            clear hlt'
            refine (whole_any _ w X GL GH B p A cp (c + 1) m c 6 gx _ HM.out (by omega) (.head _)).mono ?_
            generalize wholeI LS.wf m c 6 = m2 at *
            rintro e w3 ⟨rfl, hM⟩
            have HM3 := Lib.hid hM
            clear hM HM HR
            have bx : w3.cell? ⟨gx, 0, none⟩ = some (Value.pointer (some ⟨X, 0, none⟩)) := (show Row w3 gx 41 #[Value.pointer (some ⟨X, 0, none⟩)] from HM3.out.side _ (.head _)).cell_ (i := 0) rfl
            obtain ⟨cl, hx0⟩ := HM3.out.x
            obtain ⟨csh, hh0, hh1⟩ := HM3.out.h
            have x1 : w3.cell? ⟨X, 1, none⟩ = some (.slice (some ⟨GH, 0, none⟩) (c + 1) (c + 1)) := hx0.cell_ (i := 1) rfl
            have gh : w3.cell? ⟨GH, c, none⟩ = some (.int .i64 0) := by have e := hh0.cell_ (hh1 c (by omega)); rw [HH0.out] at e; exact e
            clear hx0 hh0 hh1
            have hidx : ((c + 1 : Nat) : Int) - 1 = ((c : Nat) : Int) := by push_cast; omega
            go_wp2_with fail
            clear bx x1 gh hidx
            have HR4 := Lib.hid (readsf_go HK.out HR2.out (by omega) hlt)
            refine (whole_any _ w X GL GH B p A cp (c + 1) m2 a 2 gx _ HM3.out (by omega) (.head _)).mono ?_
            generalize wholeI LS.wf m2 a 2 = m4 at *
            rintro e w5 ⟨rfl, hM⟩
            have HM5 := Lib.hid hM
            clear hM HM3 HR2
            go_wp2
            go_roundw
            case rel => exact ⟨a + 1, by omega, by go_num, m4, HM5.out, HR4.out⟩
            case measure => simp [intOf]; omega
          · have hlt' : ¬ (a : Int) < ((c + 1 : Nat) : Int) - 1 := by omega
            obtain rfl : a = c := by omega
            have HR2 := Lib.hid (readsf_last HK.out HR.out (by omega) rfl (t := a) rfl (Nat.le_refl _))
            go_wp2_with fail
            clear hlt'
            refine (whole_any _ w X GL GH B p A cp (a + 1) m a 6 gx _ HM.out (by omega) (.head _)).mono ?_
            generalize wholeI LS.wf m a 6 = m2 at *
            rintro e w3 ⟨rfl, hM⟩
            have HM3 := Lib.hid hM
            have HMN := Lib.hid (manyf_none HR2.out (a + 1))
            clear hM HM HR
            have bx : w3.cell? ⟨gx, 0, none⟩ = some (Value.pointer (some ⟨X, 0, none⟩)) := (show Row w3 gx 41 #[Value.pointer (some ⟨X, 0, none⟩)] from HM3.out.side _ (.head _)).cell_ (i := 0) rfl
            obtain ⟨cl, hx0⟩ := HM3.out.x
            obtain ⟨csh, hh0, hh1⟩ := HM3.out.h
            have x1 : w3.cell? ⟨X, 1, none⟩ = some (.slice (some ⟨GH, 0, none⟩) (a + 1) (a + 1)) := hx0.cell_ (i := 1) rfl
            have gh : w3.cell? ⟨GH, a, none⟩ = some (.int .i64 2) := by have e := hh0.cell_ (hh1 a (by omega)); rw [HR2.out.1] at e; exact e
            clear hx0 hh0 hh1
            have hidx : ((a + 1 : Nat) : Int) - 1 = ((a : Nat) : Int) := by push_cast; omega
            go_wp2_with fail
            clear bx x1 gh hidx
            refine (many_any _ w X GL GH B p A cp (a + 1) m2 1 _ HM3.out (by have := HK.out; omega)).mono ?_
            rw [HMN.out]
            rintro e w4 ⟨rfl, rfl⟩
            rw [show ((0 : Nat) : Int) = 0 from rfl]
            go_wp2_with fail
            refine (awake_any _).mono ?_
            rintro e w9 ⟨rfl, hO⟩
            have HO9 := Lib.hid (HM3.out.only.trans hO)
            clear hO
            go_wp2
            go_ret
            exact ⟨rfl, HO9.out⟩
  · skip
    go_enter Try.func6, Try.ntmps6
    go_wp2_with fail
    rw [HKK.out, HMM.out]
    refine (begun_any k mode a2 _ (by have := HK.out; omega) HBD.out).mono ?_
    have HFST := Lib.hid (readsf_first (k := k) (mode := mode) (b := a2) (by have := HK.out; omega))
    generalize hm0 : (⟨fun i => newR k mode i 0 (wfXs k a2), fun _ => 0, wfXs k a2⟩ : MV) = m0 at *
    clear hm0
    rintro e w1 ⟨X, GL, GH, B, p, A, cp, rfl, hM⟩
    have e0 := (Only.refl Nil w1).alloc (.cells #[Value.pointer (some ⟨X, 0, none⟩)] 41)
    have HM1 := Lib.hid ((hM.keep e0).beside (Row.new w1 41 #[Value.pointer (some ⟨X, 0, none⟩)]) ⟨by decide, by decide, by decide⟩ (by decide))
    clear hM e0
    go_upto_region 3 with (fail)
    generalize w1.alloc (.cells #[Value.pointer (some ⟨X, 0, none⟩)] 41) = w2 at *
    generalize w1.heap.size = gx at *
    have bx : w2.cell? ⟨gx, 0, none⟩ = some (Value.pointer (some ⟨X, 0, none⟩)) := (show Row w2 gx 41 #[Value.pointer (some ⟨X, 0, none⟩)] from HM1.out.side _ (.head _)).cell_ (i := 0) rfl
    go_wp2_with fail
    clear bx
    clear n0 n1 n2 n3
    have hk1 : (2 : Int) ≤ k := by have := HK.out; omega
    have hk2 : (k : Int) ≤ 16 := by have := HK.out; omega
    go_loopw [13] (fun iv wr => ∃ c : Nat, c + 1 ≤ k ∧ iv = .int .i64 c ∧ ∃ m, MatchP [(gx, 41, #[Value.pointer (some ⟨X, 0, none⟩)])] w X GL GH B p A cp k m wr ∧ ReadsF k mode (a2 % 256) c 0 m) (fun iv _ => k - (intOf iv).toNat)
    case atStart => exact ⟨0, by have := HK.out; omega, rfl, m0, HM1.out, HFST.out⟩
    case round =>
      obtain ⟨c, hc, rfl, m, hM, hR⟩ := hrel
      clear HM1 HFST
      have HM := Lib.hid hM
      have HR := Lib.hid hR
      clear hM hR
      by_cases hlt : c + 1 < k
      · have hlt' : (c : Int) < (k : Int) - 1 := by omega
        have HR2 := Lib.hid (readsf_come HK.out HR.out (op := 5) (by simp) (by omega) (Nat.zero_le _))
        have HMN := Lib.hid (show manyI (wholeI LS.wf m c 5) 1 k = c + 1 by rw [readsf_many HR2.out k]; omega)
        go_wp2_with fail
        clear hlt'
        refine (whole_any _ w X GL GH B p A cp k m c 5 gx _ HM.out (by omega) (.head _)).mono ?_
        generalize wholeI LS.wf m c 5 = m2 at *
        rintro e w3 ⟨rfl, hM⟩
        have HM3 := Lib.hid hM
        clear hM HM HR
        have bx : w3.cell? ⟨gx, 0, none⟩ = some (Value.pointer (some ⟨X, 0, none⟩)) := (show Row w3 gx 41 #[Value.pointer (some ⟨X, 0, none⟩)] from HM3.out.side _ (.head _)).cell_ (i := 0) rfl
        go_wp2_with fail
        clear bx
        refine (many_any _ w X GL GH B p A cp k m2 1 _ HM3.out (by omega)).mono ?_
        rw [HMN.out]
        rintro e w4 ⟨rfl, rfl⟩
        have hcc : ((c + 1 : Nat) : Int) = (c : Int) + 1 := by push_cast; rfl
        rw [hcc]
        clear hcc
        go_wp2
        go_roundw
        case rel => exact ⟨c + 1, by omega, by go_num, m2, HM3.out, HR2.out⟩
        case measure => simp [intOf]; omega
      · have hlt' : ¬ (c : Int) < (k : Int) - 1 := by omega
        obtain rfl : k = c + 1 := by omega
        go_wp2_with fail
        clear hlt'
        go_loopw [14] (fun iv wr => ∃ a : Nat, a ≤ c ∧ iv = .int .i64 a ∧ ∃ m, MatchP [(gx, 41, #[Value.pointer (some ⟨X, 0, none⟩)])] w X GL GH B p A cp (c + 1) m wr ∧ ReadsF (c + 1) mode (a2 % 256) c a m) (fun iv _ => c - (intOf iv).toNat)
        case atStart => exact ⟨0, Nat.zero_le _, rfl, m, HM.out, HR.out⟩
        case round =>
          obtain ⟨a, ha, rfl, m, hM, hR⟩ := hrel
          clear HM HR
          have HM := Lib.hid hM
          have HR := Lib.hid hR
          clear hM hR
          by_cases hlt : a < c
          · have hlt' : (a : Int) < ((c + 1 : Nat) : Int) - 1 := by omega
            have HR2 := Lib.hid (readsf_refuse HK.out HR.out (by omega) hlt (t := c) rfl (Nat.le_refl _))
            have HH0 := Lib.hid (show (wholeI LS.wf m c 6).hold c = 0 by rw [HR2.out.hold, if_neg (by omega)])
            go_wp2_with fail
            clear hlt'
            refine (whole_any _ w X GL GH B p A cp (c + 1) m c 6 gx _ HM.out (by omega) (.head _)).mono ?_
            generalize wholeI LS.wf m c 6 = m2 at *
            rintro e w3 ⟨rfl, hM⟩
            have HM3 := Lib.hid hM
            clear hM HM HR
            have bx : w3.cell? ⟨gx, 0, none⟩ = some (Value.pointer (some ⟨X, 0, none⟩)) := (show Row w3 gx 41 #[Value.pointer (some ⟨X, 0, none⟩)] from HM3.out.side _ (.head _)).cell_ (i := 0) rfl
            obtain ⟨cl, hx0⟩ := HM3.out.x
            obtain ⟨csh, hh0, hh1⟩ := HM3.out.h
            have x1 : w3.cell? ⟨X, 1, none⟩ = some (.slice (some ⟨GH, 0, none⟩) (c + 1) (c + 1)) := hx0.cell_ (i := 1) rfl
            have gh : w3.cell? ⟨GH, c, none⟩ = some (.int .i64 0) := by have e := hh0.cell_ (hh1 c (by omega)); rw [HH0.out] at e; exact e
            clear hx0 hh0 hh1
            have hidx : ((c + 1 : Nat) : Int) - 1 = ((c : Nat) : Int) := by push_cast; omega
            go_wp2_with fail
            clear bx x1 gh hidx
            have HR4 := Lib.hid (readsf_go HK.out HR2.out (by omega) hlt)
            refine (whole_any _ w X GL GH B p A cp (c + 1) m2 a 2 gx _ HM3.out (by omega) (.head _)).mono ?_
            generalize wholeI LS.wf m2 a 2 = m4 at *
            rintro e w5 ⟨rfl, hM⟩
            have HM5 := Lib.hid hM
            clear hM HM3 HR2
            go_wp2
            go_roundw
            case rel => exact ⟨a + 1, by omega, by go_num, m4, HM5.out, HR4.out⟩
            case measure => simp [intOf]; omega
          · have hlt' : ¬ (a : Int) < ((c + 1 : Nat) : Int) - 1 := by omega
            obtain rfl : a = c := by omega
            have HR2 := Lib.hid (readsf_last HK.out HR.out (by omega) rfl (t := a) rfl (Nat.le_refl _))
            go_wp2_with fail
            clear hlt'
            refine (whole_any _ w X GL GH B p A cp (a + 1) m a 6 gx _ HM.out (by omega) (.head _)).mono ?_
            generalize wholeI LS.wf m a 6 = m2 at *
            rintro e w3 ⟨rfl, hM⟩
            have HM3 := Lib.hid hM
            have HMN := Lib.hid (manyf_none HR2.out (a + 1))
            clear hM HM HR
            have bx : w3.cell? ⟨gx, 0, none⟩ = some (Value.pointer (some ⟨X, 0, none⟩)) := (show Row w3 gx 41 #[Value.pointer (some ⟨X, 0, none⟩)] from HM3.out.side _ (.head _)).cell_ (i := 0) rfl
            obtain ⟨cl, hx0⟩ := HM3.out.x
            obtain ⟨csh, hh0, hh1⟩ := HM3.out.h
            have x1 : w3.cell? ⟨X, 1, none⟩ = some (.slice (some ⟨GH, 0, none⟩) (a + 1) (a + 1)) := hx0.cell_ (i := 1) rfl
            have gh : w3.cell? ⟨GH, a, none⟩ = some (.int .i64 2) := by have e := hh0.cell_ (hh1 a (by omega)); rw [HR2.out.1] at e; exact e
            clear hx0 hh0 hh1
            have hidx : ((a + 1 : Nat) : Int) - 1 = ((a : Nat) : Int) := by push_cast; omega
            go_wp2_with fail
            clear bx x1 gh hidx
            refine (many_any _ w X GL GH B p A cp (a + 1) m2 1 _ HM3.out (by have := HK.out; omega)).mono ?_
            rw [HMN.out]
            rintro e w4 ⟨rfl, rfl⟩
            rw [show ((0 : Nat) : Int) = 0 from rfl]
            go_wp2_with fail
            refine (awake_any _).mono ?_
            rintro e w9 ⟨rfl, hO⟩
            have HO9 := Lib.hid (HM3.out.only.trans hO)
            clear hO
            go_wp2
            go_ret
            exact ⟨rfl, HO9.out⟩
end Go.Proofs.Ytaeninikaalkjaa
