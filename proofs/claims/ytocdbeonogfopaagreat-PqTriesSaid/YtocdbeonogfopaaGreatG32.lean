import Derived.Deep.Slices
import Derived.Deep.Fields
import Derived.ChangeSame
import Derived.Test.YtocdbeonogfopaaGreatG31
import Derived.Test.YtocdbeonogfopaaGreatG11
import Derived.Test.YtocdbeonogfopaaGreatG27
import Derived.Test.YtocdbeonogfopaaGreatG2
import Derived.Test.YtocdbeonogfopaaGreatG1
set_option linter.unusedVariables false
set_option linter.unusedSimpArgs false
namespace Go.Proofs.YtocdbeonogfopaaGreat
def idleN (k : Nat) (h : Int) : Nat := if h = 1 then 5 * k + 1 else if h = 2 then 12 * k + 10 else 0
def lineN (k : Nat) (op line : Int) : Nat :=
  match op, line with
  | 1, 0 => 7 * k + 6 | 1, 1 => 5 * k + 5
  | 2, 0 => 5 * k + 1
  | 3, 0 => 19 * k + 24 | 3, 1 => 19 * k + 23 | 3, 2 => 19 * k + 22 | 3, 3 => 19 * k + 21 | 3, 4 => 14 * k + 20 | 3, 5 => 14 * k + 16 | 3, 6 => 14 * k + 15 | 3, 7 => 12 * k + 14
  | 4, 0 => 12 * k + 10 | 4, 1 => 12 * k + 9 | 4, 2 => 5 * k + 8 | 4, 3 => 5 * k + 7 | 4, 4 => 5 * k + 6 | 4, 5 => 5 * k + 5 | 4, 6 => 5 * k + 1
  | 5, 0 => 7 * k + 3
  | 6, 0 => 14 * k + 20 | 6, 1 => 14 * k + 19 | 6, 2 => 14 * k + 18 | 6, 3 => 14 * k + 17 | 6, 4 => 14 * k + 16 | 6, 5 => 14 * k + 15 | 6, 6 => 12 * k + 14 | 6, 8 => 5 * k + 7 | 6, 9 => 5 * k + 6 | 6, 10 => 5 * k + 5 | 6, 11 => 5 * k + 1
  | 7, 0 => 14 * k + 21 | 7, 1 => 14 * k + 20 | 7, 2 => 14 * k + 19 | 7, 3 => 14 * k + 18 | 7, 4 => 14 * k + 17 | 7, 5 => 14 * k + 16 | 7, 6 => 12 * k + 15 | 7, 7 => 12 * k + 11 | 7, 8 => 10 * k + 8 | 7, 9 => 10 * k + 7 | 7, 10 => 10 * k + 6 | 7, 11 => 10 * k + 2
  | 8, 0 => 17 * k + 11 | 8, 1 => 17 * k + 10 | 8, 2 => 10 * k + 9 | 8, 3 => 10 * k + 8 | 8, 4 => 10 * k + 7 | 8, 5 => 10 * k + 6 | 8, 6 => 10 * k + 2
  | _, _ => 0
def worthN (k : Nat) : VG := fun w h r =>
  if r.op = 0 then idleN k h else if r.ret ≠ 0 then idleN k (behindI r.op r.ret h) else if r.op = 5 ∧ r.line = 1 then (if r.a = w 0 then 7 * k + 2 else 7 * k + 4) else lineN k r.op r.line
section
variable {k : Nat} {w w' : Int → Int} {r R : LS} {h : Int}
theorem worthn_ok (k : Nat) : WorthQ (worthN k) where
  like w h r r' a _ := by unfold worthN; rw [a.op, a.line, a.ret, a.a]
  over w h r hr := by
    show (if (0 : Int) = 0 then idleN k (behindI r.op r.ret h) else _) ≤ _
    rw [if_pos rfl]
    unfold worthN
    by_cases e : r.op = 0
    · rw [if_pos e, e]
      have : behindI 0 r.ret h = h := by
        unfold behindI
        by_cases e2 : r.ret = 2
        · rw [if_neg (by simpa using e2)]; rfl
        · rw [if_pos e2]
      rw [this]; exact Nat.le_refl _
    · rw [if_neg e, if_pos hr]; exact Nat.le_refl _
theorem worthn_same (e : w' 0 = w 0) (h : Int) (r : LS) : worthN k w' h r = worthN k w h r := by unfold worthN; rw [e]
theorem worthn_rise (k : Nat) (w w' : Int → Int) (h : Int) (r : LS) : worthN k w' h r ≤ worthN k w h r + 2 := by
  unfold worthN
  by_cases e0 : r.op = 0
  · rw [if_pos e0, if_pos e0]; omega
  rw [if_neg e0, if_neg e0]
  by_cases e1 : r.ret ≠ 0
  · rw [if_pos e1, if_pos e1]; omega
  rw [if_neg e1, if_neg e1]
  by_cases e2 : r.op = 5 ∧ r.line = 1
  · rw [if_pos e2, if_pos e2]
    by_cases e3 : r.a = w' 0
    · rw [if_pos e3]
      by_cases e4 : r.a = w 0
      · rw [if_pos e4]; omega
      · rw [if_neg e4]; omega
    · rw [if_neg e3]
      by_cases e4 : r.a = w 0
      · rw [if_pos e4]; omega
      · rw [if_neg e4]; omega
  · rw [if_neg e2, if_neg e2]; omega
def comesN (k : Nat) (w : Int → Int) (h : Int) (R : LS) : Nat := swp k R.finR.k + worthN k w (R.finH h) R.finR
theorem worthn_line {o l : Int} (eo : r.op = o) (el : r.line = l) (ho : o ≠ 0) (hr : r.ret = 0) (hn : ¬ (o = 5 ∧ l = 1)) : worthN k w h r = lineN k o l := by
  subst eo el
  unfold worthN; rw [if_neg ho, if_neg (by rw [hr]; simp), if_neg hn]
theorem worthn_slip (eo : r.op = 5) (el : r.line = 1) (hr : r.ret = 0) : worthN k w h r = if r.a = w 0 then 7 * k + 2 else 7 * k + 4 := by
  unfold worthN; rw [if_neg (by rw [eo]; decide), if_neg (by rw [hr]; simp), if_pos ⟨eo, el⟩]
theorem comesn_stay {o l : Int} (eo : R.op = o) (el : R.line = l) (ho : o ≠ 0) (hr : R.ret = 0) (hn : ¬ (o = 5 ∧ l = 1)) : comesN k w h R = swp k R.k + lineN k o l := by
  obtain ⟨e1, e2⟩ := fin_no (R := R) h hr
  unfold comesN
  rw [e1, e2, worthn_line eo el ho hr hn]
theorem comesn_end {o b : Int} (eo : R.op = o) (eb : R.ret = b) (hb : b ≠ 0) (ho : o ≠ 0) : comesN k w h R ≤ swp k R.k + idleN k (behindI o b h) := by
  subst eo eb
  unfold comesN
  cases hon : R.k.on
  · obtain ⟨e1, e2⟩ := fin_yes (R := R) h hb hon
    rw [e1, e2, show swp k (zeroF R 0).k = 0 from swp_off k rfl]
    show 0 + idleN k (behindI R.op R.ret h) ≤ _
    omega
  · obtain ⟨e1, e2⟩ := fin_on (R := R) h hon
    rw [e1, e2]
    unfold worthN
    rw [if_neg ho, if_pos hb]
    exact Nat.le_refl _
theorem swp_beg {r R : LS} (hb : R.k = r.k ∨ ∃ c, R.k = beginI r.mode c) (hon : r.k.on = false) : swp k R.k ≤ 5 * k := by
  rcases hb with e | ⟨c, e⟩
  · rw [e, swp_off k hon]; omega
  · rw [e]; exact swp_begin k _ _
theorem nc_ne0 (n i : Int) : nc n i ≠ 0 ∧ bc n i ≠ 0 := by
  constructor
  · unfold nc cellI; split <;> omega
  · unfold bc cellI; split <;> omega
theorem do_far0 {xs : List Int} {K c x y : Int} (hc : c ≠ 0) (hK : isKind K = true := by rfl) : wordAt (doNew xs K c x y) 0 = wordAt xs 0 := by rw [doNew_st _ _ _ _ _ hK, word_far _ hc]
end
section
variable {b : Int} {k t : Nat} {mode : Int} {s : QS} {n : NS} {qp : Nat → Nat} {m : MV}
def Less (k : Nat) (m : MV) (t : Nat) (R : LS) : Prop := ∃ e, (∀ i, i < k → i ≠ t → worthN k (ownW R.xs) (m.hold i) (m.rs i) ≤ worthN k (ownW m.xs) (m.hold i) (m.rs i) + e) ∧ comesN k (ownW R.xs) (m.hold t) R + k * e < worthN k (ownW m.xs) (m.hold t) (m.rs t)
theorem less_0 {R : LS} (hx : wordAt R.xs 0 = wordAt m.xs 0) (hl : comesN k (ownW R.xs) (m.hold t) R < worthN k (ownW m.xs) (m.hold t) (m.rs t)) : Less k m t R :=
  ⟨0, fun i _ _ => by rw [worthn_same (w := ownW m.xs) (by rw [ownW_at (by decide) (by decide), ownW_at (by decide) (by decide), hx])]; omega, by omega⟩
theorem less_2 {R : LS} (hl : comesN k (ownW R.xs) (m.hold t) R + k * 2 < worthN k (ownW m.xs) (m.hold t) (m.rs t)) : Less k m t R :=
  ⟨2, fun i _ _ => worthn_rise _ _ _ _ _, hl⟩
theorem give_N {op h a : Int} {x : Rd} {ok : Bool} (g : GiveN op h x a ok) : lineN k op (a + 1) < lineN k op a ∧ lineN k op (a + 3) < lineN k op a ∧ lineN k op (a + 2) < lineN k op (a + 1) ∧ idleN k (behindI op (if ok then 2 else 1) h) < lineN k op (a + 1) ∧ lineN k op (a + 3) + 4 ≤ lineN k op (a + 2) ∧ 5 * k + idleN k (behindI op (if ok then 2 else 1) h) < lineN k op (a + 3) := by
  cases g with
  | un g =>
    cases g with
    | u4 => exact ⟨by show 5 * k + 6 < 5 * k + 7; omega, by show 5 * k + 1 < 5 * k + 7; omega, by show 5 * k + 5 < 5 * k + 6; omega, by show 0 < 5 * k + 6; omega, by show 5 * k + 1 + 4 ≤ 5 * k + 5; omega, by show 5 * k + 0 < 5 * k + 1; omega⟩
    | u8 => exact ⟨by show 10 * k + 7 < 10 * k + 8; omega, by show 10 * k + 2 < 10 * k + 8; omega, by show 10 * k + 6 < 10 * k + 7; omega, by show 5 * k + 1 < 10 * k + 7; omega, by show 10 * k + 2 + 4 ≤ 10 * k + 6; omega, by show 5 * k + (5 * k + 1) < 10 * k + 2; omega⟩
  | up g =>
    cases g with
    | u6 => exact ⟨by show 5 * k + 6 < 5 * k + 7; omega, by show 5 * k + 1 < 5 * k + 7; omega, by show 5 * k + 5 < 5 * k + 6; omega, by show 0 < 5 * k + 6; omega, by show 5 * k + 1 + 4 ≤ 5 * k + 5; omega, by show 5 * k + 0 < 5 * k + 1; omega⟩
    | u7 => exact ⟨by show 10 * k + 7 < 10 * k + 8; omega, by show 10 * k + 2 < 10 * k + 8; omega, by show 10 * k + 6 < 10 * k + 7; omega, by show 5 * k + 1 < 10 * k + 7; omega, by show 10 * k + 2 + 4 ≤ 10 * k + 6; omega, by show 5 * k + (5 * k + 1) < 10 * k + 2; omega⟩
theorem lineN_le (k : Nat) (op line : Int) : lineN k op line ≤ 19 * k + 24 := by
  unfold lineN
  split <;> omega
theorem idleN_le (k : Nat) (h : Int) : idleN k h ≤ 19 * k + 24 := by
  unfold idleN
  by_cases e : h = 1
  · rw [if_pos e]; omega
  · rw [if_neg e]
    by_cases e2 : h = 2
    · rw [if_pos e2]; omega
    · rw [if_neg e2]; omega
set_option maxHeartbeats 1000000 in
theorem worthn_plain (hk : k ≤ 64) (hth : there m.xs 0 = true) (h : NqI b k s n qp m) (ht : t < k) (hop : (m.rs t).op ≠ 0) (hret : (m.rs t).ret = 0) (hon : (m.rs t).k.on = false) (hw : wtR wtN (m.rs t) = none) : Less k m t (m.at t).fresh.pq := by
  have hb := swp_beg (k := k) (plain_n h ht hop hon hw).2 hon
  have hso : (m.at t).fresh.pq.op = (m.rs t).op := (lines_pq.same (m.at t).fresh).2.2.2.1
  -- a line that is no slip
  have hv : ∀ {o l : Int}, (m.rs t).op = o → (m.rs t).line = l → o ≠ 0 → ¬ (o = 5 ∧ l = 1) → worthN k (ownW m.xs) (m.hold t) (m.rs t) = lineN k o l := fun e1 e2 e3 e4 => worthn_line e1 e2 e3 hret e4
  have stay : ∀ (R : LS) {o l l' : Int} (d : Nat), (m.rs t).op = o → (m.rs t).line = l → o ≠ 0 → ¬ (o = 5 ∧ l = 1) → ¬ (o = 5 ∧ l' = 1) → wordAt R.xs 0 = wordAt m.xs 0 → R.op = (m.rs t).op → R.line = l' → R.ret = (m.rs t).ret → swp k R.k ≤ d → d + lineN k o l' < lineN k o l → Less k m t R := fun R {o l l'} d e1 e2 e3 e4 e5 x e6 e7 e8 e9 e10 => less_0 x (by rw [comesn_stay (e6.trans e1) e7 e3 (e8.trans hret) e5, hv e1 e2 e3 e4]; omega)
  have stay2 : ∀ (R : LS) {o l l' : Int} (d : Nat), (m.rs t).op = o → (m.rs t).line = l → o ≠ 0 → ¬ (o = 5 ∧ l = 1) → ¬ (o = 5 ∧ l' = 1) → R.op = (m.rs t).op → R.line = l' → R.ret = (m.rs t).ret → swp k R.k ≤ d → d + lineN k o l' + k * 2 < lineN k o l → Less k m t R := fun R {o l l'} d e1 e2 e3 e4 e5 e6 e7 e8 e9 e10 => less_2 (by rw [comesn_stay (e6.trans e1) e7 e3 (e8.trans hret) e5, hv e1 e2 e3 e4]; omega)
  have fin : ∀ (R : LS) {o l c : Int} (d : Nat), (m.rs t).op = o → (m.rs t).line = l → o ≠ 0 → ¬ (o = 5 ∧ l = 1) → wordAt R.xs 0 = wordAt m.xs 0 → R.op = (m.rs t).op → R.ret = c → c ≠ 0 → swp k R.k ≤ d → d + idleN k (behindI o c (m.hold t)) < lineN k o l → Less k m t R := fun R {o l c} d e1 e2 e3 e4 x e6 e7 e8 e9 e10 => less_0 x (by
    have := comesn_end (k := k) (w := ownW R.xs) (h := m.hold t) (e6.trans e1) e7 e8 e3
    rw [hv e1 e2 e3 e4]; omega)
  have off : ∀ R : LS, R.k = (m.rs t).k → swp k R.k ≤ 0 := fun R e => by rw [e, swp_off k hon]; exact Nat.le_refl _
  have F := h.f t ht
  cases F with
  | idle0 ho => exact absurd ho hop
  | idle1 ho => exact absurd ho hop
  | idle2 ho => exact absurd ho hop
  | come ho hl hr hh =>
    rcases ho with ho | ho
    · rw [pq_1_0 (r := (m.at t).fresh) ho hl] at hb hso ⊢
      unfold LS.pCome at *
      obtain ⟨f1, f2, f3, f4, f5, f6, f7, f8⟩ := doA_at m t 3 0 256 0
      generalize (m.at t).fresh.doA 3 0 256 0 = R0 at *
      by_cases e : bitsI (wordAt (m.at t).fresh.xs 0) = 0
      · rw [if_pos e]
        refine less_2 ?_
        have := comesn_end (k := k) (w := ownW ((((R0.keepA (wordAt (m.at t).fresh.xs 0)).note 2 1).note 4 0).fin true).xs) (h := m.hold t) (R := (((R0.keepA (wordAt (m.at t).fresh.xs 0)).note 2 1).note 4 0).fin true) (o := 1) (b := 2) (f1.trans ho) rfl (by decide) (by decide)
        have h0 := off ((((R0.keepA (wordAt (m.at t).fresh.xs 0)).note 2 1).note 4 0).fin true) f4
        rw [hv ho hl (by decide) (by decide)]
        rw [hh, show idleN k (behindI 1 2 0) = 5 * k + 1 from rfl] at this
        rw [hh]
        show _ < 7 * k + 6
        omega
      · rw [if_neg e]
        refine stay2 (((R0.keepA (wordAt (m.at t).fresh.xs 0)).note 2 1).go 1) (l' := 1) 0 ho hl (by decide) (by decide) (by decide) f1 rfl f3 (off _ f4) ?_
        show 0 + (5 * k + 5) + k * 2 < 7 * k + 6; omega
    · rw [pq_5_0 (r := (m.at t).fresh) ho hl] at hb hso ⊢
      unfold LS.pLookIn at *
      have x0 : wordAt (doNew m.xs 1 0 0 0) 0 = wordAt m.xs 0 := by rw [own_load]
      obtain ⟨f1, f2, f3, f4, f5, f6, f7, f8⟩ := doA_at m t 1 0 0 0
      rw [← f8] at x0
      generalize (m.at t).fresh.doA 1 0 0 0 = R0 at *
      by_cases e : bitsI (wordAt (m.at t).fresh.xs 0) = 0
      · rw [if_pos e]
        refine less_0 (R := (R0.keepA (wordAt (m.at t).fresh.xs 0)).go 1) x0 ?_
        obtain ⟨e1, e2⟩ := fin_no (R := (R0.keepA (wordAt (m.at t).fresh.xs 0)).go 1) (m.hold t) (f3.trans hret)
        rw [hv ho hl (by decide) (by decide)]
        unfold comesN
        rw [e1, e2]
        have h0 := off ((R0.keepA (wordAt (m.at t).fresh.xs 0)).go 1) f4
        have h1 : worthN k (ownW ((R0.keepA (wordAt (m.at t).fresh.xs 0)).go 1).xs) (m.hold t) ((R0.keepA (wordAt (m.at t).fresh.xs 0)).go 1) = 7 * k + 2 := by
          rw [worthn_slip (r := (R0.keepA (wordAt (m.at t).fresh.xs 0)).go 1) (f1.trans ho) rfl (f3.trans hret), if_pos ?_]
          rw [ownW_at (by decide) (by decide)]
          exact x0.symm
        rw [h1]
        show _ < 7 * k + 3
        omega
      · rw [if_neg e]
        refine fin (((R0.keepA (wordAt (m.at t).fresh.xs 0)).note 5 0).fin false) (c := 1) 0 ho hl (by decide) (by decide) x0 f1 rfl (by decide) (off _ f4) ?_
        rw [hh]; show 0 + 0 < 7 * k + 3; omega
  | adm ho hl =>
    exfalso
    have e : wtR wtN (m.rs t) = some (0, fun v => bitsI v != bitsI (m.rs t).a) := by
      show wtN _ _ _ _ _ _ = _
      unfold wtN
      rw [if_neg (by omega), if_neg (by omega), if_pos ⟨ho, hl⟩]
    rw [hw] at e; cases e
  | slip ho hl hr hh =>
    rw [pq_5_1 (r := (m.at t).fresh) ho hl] at hb hso ⊢
    have hvs : worthN k (ownW m.xs) (m.hold t) (m.rs t) = if (m.rs t).a = wordAt m.xs 0 then 7 * k + 2 else 7 * k + 4 := by
      unfold worthN
      rw [if_neg hop, if_neg (by rw [hret]; simp), if_pos ⟨ho, hl⟩, ownW_at (by decide) (by decide)]
    unfold LS.pSlip at *
    have hwas : (m.at t).fresh.was 0 = decide (wordAt m.xs 0 = (m.rs t).a) := by
      show (there m.xs 0 && (wordAt m.xs 0 == (m.rs t).a)) = _
      rw [hth, Bool.true_and]; rfl
    rw [hwas, show (m.at t).fresh.a = (m.rs t).a from rfl] at *
    have x0 : wordAt (doNew m.xs 5 0 (m.rs t).a (((m.rs t).a + 256) % 4294967296)) 0 = if wordAt m.xs 0 = (m.rs t).a then ((m.rs t).a + 256) % 4294967296 else wordAt m.xs 0 := own_cas hth
    obtain ⟨f1, f2, f3, f4, f5, f6, f7, f8⟩ := doA_at m t 5 0 (m.rs t).a (((m.rs t).a + 256) % 4294967296)
    rw [← f8] at x0
    generalize (m.at t).fresh.doA 5 0 (m.rs t).a (((m.rs t).a + 256) % 4294967296) = R0 at *
    by_cases e : wordAt m.xs 0 = (m.rs t).a
    · rw [if_pos (decide_eq_true e)]
      refine less_2 ?_
      have := comesn_end (k := k) (w := ownW (((R0.note 2 1).note 4 0).fin true).xs) (h := m.hold t) (R := ((R0.note 2 1).note 4 0).fin true) (o := 5) (b := 2) (f1.trans ho) rfl (by decide) (by decide)
      have h0 := off (((R0.note 2 1).note 4 0).fin true) f4
      rw [hvs, if_pos e.symm]
      rw [hh, show idleN k (behindI 5 2 0) = 5 * k + 1 from rfl] at this
      rw [hh]
      omega
    · rw [if_neg (by simpa using e)]
      rw [if_neg e] at x0
      refine less_0 (R := R0.go 0) x0 ?_
      rw [comesn_stay (R := R0.go 0) (o := 5) (l := 0) (f1.trans ho) rfl (by decide) (f3.trans hret) (by decide), hvs, if_neg (fun e2 => e e2.symm)]
      have h0 := off (R0.go 0) f4
      show _ + (7 * k + 3) < _
      omega
  | dep ho hl hr hh =>
    rw [pq_2_0 (r := (m.at t).fresh) ho hl] at hb hso ⊢
    obtain ⟨f1, f2, f3, f4, f5⟩ := dep_fw (r := (m.at t).fresh)
    have x0 : wordAt (m.at t).fresh.pDepart.xs 0 = wordAt m.xs 0 := by rw [f5]; exact do_far0 (by decide)
    refine fin _ (c := 2) (5 * k) ho hl (by decide) (by decide) x0 hso f3 (by decide) hb ?_
    rw [hh]; show 5 * k + 0 < 5 * k + 1; omega
  | depd ho hr hh hon' => rw [hon] at hon'; cases hon'
  | ent j ho hj hl hr hh =>
    rw [pq_enter (r := (m.at t).fresh) ho hl hj] at hb hso ⊢
    have h5 : j = 0 ∨ j = 1 ∨ j = 2 ∨ j = 3 ∨ j = 4 := by omega
    rcases h5 with rfl | rfl | rfl | rfl | rfl
    · rw [wEnter_0 (r := (m.at t).fresh) hl] at *
      refine stay _ (l := 0) (l' := 1) 0 ho hl (by decide) (by decide) (by decide) ?_ hso rfl rfl (off _ rfl) (by show 0 + (19 * k + 23) < 19 * k + 24; omega)
      exact do_far0 (xs := m.xs) (nc_ne0 _ _).1
    · rw [wEnter_1 (r := (m.at t).fresh) hl] at *
      refine stay _ (l := 1) (l' := 2) 0 ho hl (by decide) (by decide) (by decide) ?_ hso rfl rfl (off _ rfl) (by show 0 + (19 * k + 22) < 19 * k + 23; omega)
      exact do_far0 (xs := m.xs) (nc_ne0 _ _).2
    · rw [wEnter_2 (r := (m.at t).fresh) hl] at *
      obtain ⟨⟨_, _, _, f4, _⟩, f6, f7, f8, _, fx⟩ := swapIn_fw (r := (m.at t).fresh) 2 2
      have x0 : wordAt ((m.at t).fresh.swapIn 2 2).xs 0 = wordAt m.xs 0 := by rw [fx]; exact do_far0 (by decide)
      have f4' : ((m.at t).fresh.swapIn 2 2).op = (m.rs t).op := f4.trans rfl
      have f7' : ((m.at t).fresh.swapIn 2 2).ret = (m.rs t).ret := f7.trans rfl
      have f8' : ((m.at t).fresh.swapIn 2 2).k = (m.rs t).k := f8.trans rfl
      generalize (m.at t).fresh.swapIn 2 2 = R0 at *
      by_cases e : wordAt (m.at t).fresh.xs 2 = 0
      · rw [if_pos e]
        exact stay (R0.go 5) (l := 2) (l' := 5) 0 ho hl (by decide) (by decide) (by decide) x0 f4' rfl f7' (off _ f8') (by show 0 + (14 * k + 16) < 19 * k + 22; omega)
      · rw [if_neg e]
        exact stay (R0.go 3) (l := 2) (l' := 3) 0 ho hl (by decide) (by decide) (by decide) x0 f4' rfl f7' (off _ f8') (by show 0 + (19 * k + 21) < 19 * k + 22; omega)
    · rw [wEnter_3 (r := (m.at t).fresh) hl] at *
      have f1 : (m.at t).fresh.link.line = 4 ∧ (m.at t).fresh.link.ret = (m.rs t).ret ∧ wordAt (m.at t).fresh.link.xs 0 = wordAt m.xs 0 := by
        unfold LS.link
        generalize (m.at t).fresh.me = x
        have h0 := (nc_ne0 (m.at t).fresh.n ((m.at t).fresh.a - 1)).1
        generalize nc (m.at t).fresh.n ((m.at t).fresh.a - 1) = y at *
        exact ⟨rfl, rfl, do_far0 (xs := m.xs) h0⟩
      generalize (m.at t).fresh.link = R0 at *
      exact stay R0 (l := 3) (l' := 4) (5 * k) ho hl (by decide) (by decide) (by decide) f1.2.2 hso f1.1 f1.2.1 hb (by show 5 * k + (14 * k + 20) < 19 * k + 21; omega)
    · exfalso
      have e : wtR wtN (m.rs t) = some (bc (m.rs t).n (m.rs t).task, isZ) := if_pos ⟨ho, hl⟩
      rw [hw] at e; cases e
  | tr j hu hj hl =>
    have ho := hu.op67
    rw [pq_try (r := (m.at t).fresh) ho hl hj] at hb hso ⊢
    have h5 : j = 0 ∨ j = 1 := by omega
    rcases h5 with rfl | rfl
    · rw [wTry_0 (r := (m.at t).fresh) hl] at *
      refine stay _ (o := (m.rs t).op) (l := 0) (l' := 1) 0 rfl hl hop (by omega) (by omega) (do_far0 (xs := m.xs) (nc_ne0 _ _).1) hso rfl rfl (off _ rfl) ?_
      rcases ho with e | e <;> rw [e]
      · show 0 + (14 * k + 19) < 14 * k + 20; omega
      · show 0 + (14 * k + 20) < 14 * k + 21; omega
    · rw [wTry_1 (r := (m.at t).fresh) hl] at *
      have x0 : wordAt (doNew m.xs 5 2 0 (m.at t).fresh.me) 0 = wordAt m.xs 0 := do_far0 (by decide)
      obtain ⟨f1, f2, f3, f4, f5, f6, f7, f8⟩ := doA_at m t 5 2 0 (m.at t).fresh.me
      rw [← f8] at x0
      generalize (m.at t).fresh.doA 5 2 0 (m.at t).fresh.me = R0 at *
      cases there (m.at t).fresh.xs 2 && (wordAt (m.at t).fresh.xs 2 == 0)
      · rw [if_neg Bool.false_ne_true]
        refine fin ((R0.note 5 0).fin false) (o := (m.rs t).op) (l := 1) (c := 1) 0 rfl hl hop (by omega) x0 f1 rfl (by decide) (off _ f4) ?_
        rw [(hu.idle 0 0 false).1]
        rcases hu.ops with ⟨e, e2, _⟩ | ⟨e, e2, _⟩ <;> rw [e, e2]
        · show 0 + 0 < 14 * k + 19; omega
        · show 0 + (5 * k + 1) < 14 * k + 20; omega
      · rw [if_pos rfl]
        refine stay ((R0.note 2 2).go 2) (o := (m.rs t).op) (l := 1) (l' := 2) 0 rfl hl hop (by omega) (by omega) x0 f1 rfl f3 (off _ f4) ?_
        rcases ho with e | e <;> rw [e]
        · show 0 + (14 * k + 18) < 14 * k + 19; omega
        · show 0 + (14 * k + 19) < 14 * k + 20; omega
  | turn hu =>
    have keep : ∀ {o l : Int} (l' : Int), (m.rs t).op = o → (m.rs t).line = l → o ≠ 0 → o ≠ 5 → lineN k o l' < lineN k o l → Less k m t ((m.at t).fresh.wKeep l') := fun {o l} l' e1 e2 e3 e4 e5 => by
      obtain ⟨⟨_, _, _, f4, _⟩, f6, f7, f8, _, _, f11⟩ := keep_fw (r := (m.at t).fresh) l'
      exact stay _ (l' := l') 0 e1 e2 e3 (by omega) (by omega) (by rw [f11]; rfl) f4 f6 f7 (off _ f8) (by omega)
    have app : ∀ {o l : Int} (l' : Int), (m.rs t).op = o → (m.rs t).line = l → o ≠ 0 → o ≠ 5 → lineN k o l' + k * 2 < lineN k o l → Less k m t ((m.at t).fresh.pAppear l') := fun {o l} l' e1 e2 e3 e4 e5 => by
      obtain ⟨⟨_, _, _, f4, _⟩, f6, f7, f8, _⟩ := app_fw (r := (m.at t).fresh) l'
      exact stay2 _ (l' := l') 0 e1 e2 e3 (by omega) (by omega) f4 f6 f7 (off _ f8) (by omega)
    have look : ∀ {o : Int}, (m.rs t).op = o → (m.rs t).line = 2 → o ≠ 0 → o ≠ 5 → lineN k o 3 < lineN k o 2 → Less k m t ((m.at t).fresh.pLook 0 3) := fun {o} e1 e2 e3 e4 e5 => by
      obtain ⟨⟨_, _, _, f4, _⟩, f6, f7, f8, _, _, f11⟩ := look_fw (r := (m.at t).fresh) 3
      exact stay _ (l' := 3) 0 e1 e2 e3 (by omega) (by omega) (by rw [f11]; rfl) f4 f6 f7 (off _ f8) (by omega)
    have weigh : ∀ {o : Int} (own : Int), (m.rs t).op = o → (m.rs t).line = 3 → o ≠ 0 → o ≠ 5 → lineN k o 4 < lineN k o 3 → lineN k o 8 < lineN k o 3 → Less k m t ((m.at t).fresh.wWeigh own) := fun {o} own e1 e2 e3 e4 e5 e6 => by
      unfold LS.wWeigh
      have x0 : wordAt (doNew m.xs 1 1 0 0) 0 = wordAt m.xs 0 := by rw [own_load]
      obtain ⟨f1, f2, f3, f4, f5, f6, f7, f8⟩ := doA_at m t 1 1 0 0
      rw [← f8] at x0
      generalize (m.at t).fresh.doA 1 1 0 0 = R0 at *
      generalize wordAt (m.at t).fresh.xs 1 = y
      by_cases e : aheadI (m.at t).fresh.a y ≤ own
      · rw [if_pos e]; exact stay ((R0.keepB y).go 4) (l' := 4) 0 e1 e2 e3 (by omega) (by omega) x0 f1 rfl f3 (off _ f4) (by omega)
      · rw [if_neg e]; exact stay (((R0.keepB y).note 5 0).go 8) (l' := 8) 0 e1 e2 e3 (by omega) (by omega) x0 f1 rfl f3 (off _ f4) (by omega)
    rcases hu with ⟨ho, hh, hx, hl | hl⟩ | ⟨hu, hl⟩
    · rw [pq_3_5 (r := (m.at t).fresh) ho hl]; exact keep 6 ho hl (by decide) (by decide) (by show 14 * k + 15 < 14 * k + 16; omega)
    · rw [pq_3_6 (r := (m.at t).fresh) ho hl]; exact app 7 ho hl (by decide) (by decide) (by show 12 * k + 14 + k * 2 < 14 * k + 15; omega)
    · rcases hu.op67 with ho | ho
      · rcases hl with hl | hl | hl | hl
        · rw [pq_6_2 (r := (m.at t).fresh) ho hl]; exact look ho hl (by decide) (by decide) (by show 14 * k + 17 < 14 * k + 18; omega)
        · rw [pq_6_3 (r := (m.at t).fresh) ho hl]; exact weigh 0 ho hl (by decide) (by decide) (by show 14 * k + 16 < 14 * k + 17; omega) (by show 5 * k + 7 < 14 * k + 17; omega)
        · rw [pq_6_4 (r := (m.at t).fresh) ho hl]; exact keep 5 ho hl (by decide) (by decide) (by show 14 * k + 15 < 14 * k + 16; omega)
        · rw [pq_6_5 (r := (m.at t).fresh) ho hl]; exact app 6 ho hl (by decide) (by decide) (by show 12 * k + 14 + k * 2 < 14 * k + 15; omega)
      · rcases hl with hl | hl | hl | hl
        · rw [pq_7_2 (r := (m.at t).fresh) ho hl]; exact look ho hl (by decide) (by decide) (by show 14 * k + 18 < 14 * k + 19; omega)
        · rw [pq_7_3 (r := (m.at t).fresh) ho hl]; exact weigh 256 ho hl (by decide) (by decide) (by show 14 * k + 17 < 14 * k + 18; omega) (by show 10 * k + 8 < 14 * k + 18; omega)
        · rw [pq_7_4 (r := (m.at t).fresh) ho hl]; exact keep 5 ho hl (by decide) (by decide) (by show 14 * k + 16 < 14 * k + 17; omega)
        · rw [pq_7_5 (r := (m.at t).fresh) ho hl]; exact app 6 ho hl (by decide) (by decide) (by show 12 * k + 15 + k * 2 < 14 * k + 16; omega)
  | pres hu =>
    exfalso
    have e : ∃ y, wtR wtN (m.rs t) = some y := by
      show ∃ y, wtN _ _ _ _ _ _ = _
      unfold wtN
      have h67 : ((m.rs t).op = 3 ∧ (m.rs t).line = 7) ∨ ((m.rs t).op = 6 ∧ (m.rs t).line = 6) ∨ ((m.rs t).op = 7 ∧ (m.rs t).line = 6) := by
        rcases hu with ⟨e1, _, _, e2⟩ | ⟨e1, e2⟩
        · exact .inl ⟨e1, e2⟩
        · rcases e1.op67 with e | e
          · exact .inr (.inl ⟨e, e2⟩)
          · exact .inr (.inr ⟨e, e2⟩)
      rw [if_neg (by omega), if_neg (by omega), if_neg (by omega)]
      rcases h67 with e | e | e
      · rw [if_pos (.inl e)]; exact ⟨_, rfl⟩
      · rw [if_pos (.inr e)]; exact ⟨_, rfl⟩
      · rw [if_neg (by omega), if_pos e]; exact ⟨_, rfl⟩
    obtain ⟨y, e⟩ := e
    rw [hw] at e; cases e
  | stop ho hl hr hh =>
    rw [pq_7_7 (r := (m.at t).fresh) ho hl] at hb hso ⊢
    obtain ⟨f1, f2, f3, f4, f5⟩ := stop_fw (r := (m.at t).fresh)
    have x0 : wordAt (m.at t).fresh.pStop.xs 0 = wordAt m.xs 0 := by rw [f5]; exact do_far0 (by decide)
    refine fin _ (c := 2) 0 ho hl (by decide) (by decide) x0 hso f3 (by decide) (off _ f4) ?_
    rw [hh]; show 0 + (12 * k + 10) < 12 * k + 11; omega
  | unl x' hu hl =>
    have keep : ∀ {o : Int}, (m.rs t).op = o → (m.rs t).line = 0 → o ≠ 0 → o ≠ 5 → lineN k o 1 < lineN k o 0 → Less k m t ((m.at t).fresh.wKeep 1) := fun {o} e1 e2 e3 e4 e5 => by
      obtain ⟨⟨_, _, _, f4, _⟩, f6, f7, f8, _, _, f11⟩ := keep_fw (r := (m.at t).fresh) 1
      exact stay _ (l' := 1) 0 e1 e2 e3 (by omega) (by omega) (by rw [f11]; rfl) f4 f6 f7 (off _ f8) (by omega)
    rcases hu.op48 with ho | ho
    · rcases hl with hl | hl
      · rw [pq_4_0 (r := (m.at t).fresh) ho hl]; exact keep ho hl (by decide) (by decide) (by show 12 * k + 9 < 12 * k + 10; omega)
      · rw [pq_4_1 (r := (m.at t).fresh) ho hl] at hb hso ⊢
        obtain ⟨f1, f2, f3, f4, _⟩ := van_fw (r := (m.at t).fresh) 0 7
        exact stay2 _ (l' := 2) (5 * k) ho hl (by decide) (by decide) (by decide) hso f2 f3 hb (by show 5 * k + (5 * k + 8) + k * 2 < 12 * k + 9; omega)
    · rcases hl with hl | hl
      · rw [pq_8_0 (r := (m.at t).fresh) ho hl]; exact keep ho hl (by decide) (by decide) (by show 17 * k + 10 < 17 * k + 11; omega)
      · rw [pq_8_1 (r := (m.at t).fresh) ho hl] at hb hso ⊢
        obtain ⟨f1, f2, f3, f4, _⟩ := van_fw (r := (m.at t).fresh) 256 10
        exact stay2 _ (l' := 2) (5 * k) ho hl (by decide) (by decide) (by decide) hso f2 f3 hb (by show 5 * k + (10 * k + 9) + k * 2 < 17 * k + 10; omega)
  | left hu hl =>
    have ho := hu.op48
    rw [show (m.at t).fresh.pq = (m.at t).fresh.wCount by rcases ho with e | e; exact pq_4_2 (r := (m.at t).fresh) e hl; exact pq_8_2 (r := (m.at t).fresh) e hl] at hb hso ⊢
    obtain ⟨f1, f2, f3, f4, f5⟩ := cnt_fw (r := (m.at t).fresh)
    have x0 : wordAt (m.at t).fresh.wCount.xs 0 = wordAt m.xs 0 := by rw [f5]; exact do_far0 (by decide)
    refine stay _ (o := (m.rs t).op) (l := 2) (l' := 3) 0 rfl hl hop (by omega) (by omega) x0 hso f2 f3 (off _ f4) ?_
    rcases ho with e | e <;> rw [e]
    · show 0 + (5 * k + 7) < 5 * k + 8; omega
    · show 0 + (10 * k + 8) < 10 * k + 9; omega
  | give j a0 ok hg hj hl =>
    obtain ⟨w1, w2, w3, w4, w5, w6⟩ := give_N (k := k) hg
    have h2 := hg.ops.2
    have hn5 : (m.rs t).op ≠ 5 := by omega
    have hok : (if ok then (2 : Int) else 1) ≠ 0 := by cases ok <;> decide
    have hp : (m.at t).fresh.pq = (m.at t).fresh.wGive a0 ok := by
      rcases h2 with ⟨e1, e2, e3⟩ | ⟨e1, e2, e3⟩
      · rw [e2, e3]; exact pq_give4 (r := (m.at t).fresh) e1 (by show (m.rs t).line = _; rw [hl, e2]) hj
      · rw [e2, e3]; exact pq_give6 (r := (m.at t).fresh) e1 (by show (m.rs t).line = _; rw [hl, e2]) hj
    rw [hp] at hb hso ⊢
    have h5 : j = 0 ∨ j = 1 ∨ j = 2 ∨ j = 3 := by omega
    rcases h5 with rfl | rfl | rfl | rfl
    · have hl0 : (m.rs t).line = a0 := by omega
      rw [wGive_0 (r := (m.at t).fresh) hl0] at *
      obtain ⟨⟨_, _, _, f4, _⟩, f6, f7, f8, fx⟩ := peek_fw (r := (m.at t).fresh)
      have x0 : wordAt (m.at t).fresh.peek.xs 0 = wordAt m.xs 0 := by rw [fx]; rfl
      have f4' : (m.at t).fresh.peek.op = (m.rs t).op := f4.trans rfl
      have f7' : (m.at t).fresh.peek.ret = (m.rs t).ret := f7.trans rfl
      have f8' : (m.at t).fresh.peek.k = (m.rs t).k := f8.trans rfl
      generalize (m.at t).fresh.peek = R0 at *
      split
      · exact stay (R0.go (a0 + 1)) (o := (m.rs t).op) (l := a0) (l' := a0 + 1) 0 rfl hl0 hop (by omega) (by omega) x0 f4' rfl f7' (off _ f8') (by omega)
      · exact stay (R0.go (a0 + 3)) (o := (m.rs t).op) (l := a0) (l' := a0 + 3) 0 rfl hl0 hop (by omega) (by omega) x0 f4' rfl f7' (off _ f8') (by omega)
    · have hl1 : (m.rs t).line = a0 + 1 := by omega
      rw [wGive_1 (r := (m.at t).fresh) hl1] at *
      have x0 : wordAt (doNew m.xs 5 2 (m.at t).fresh.me 0) 0 = wordAt m.xs 0 := do_far0 (by decide)
      obtain ⟨f1, f2, f3, f4, f5, f6, f7, f8⟩ := doA_at m t 5 2 (m.at t).fresh.me 0
      rw [← f8] at x0
      generalize (m.at t).fresh.doA 5 2 (m.at t).fresh.me 0 = R0 at *
      obtain ⟨n1, n2, n3, n4, n5, n6, n7, n8, _⟩ := notes_same R0 [8]
      split
      · exact fin ((R0.notes [8]).fin ok) (o := (m.rs t).op) (l := a0 + 1) (c := if ok then 2 else 1) 0 rfl hl1 hop (by omega) (by show wordAt (R0.notes [8]).xs 0 = _; rw [n1]; exact x0) (n8.trans f1) rfl hok (off _ (n4.trans f4)) (by omega)
      · exact stay (R0.go (a0 + 2)) (o := (m.rs t).op) (l := a0 + 1) (l' := a0 + 2) 0 rfl hl1 hop (by omega) (by omega) x0 f1 rfl f3 (off _ f4) (by omega)
    · exfalso
      have e2 := wtN_give (r := m.rs t) (by omega)
      rw [hw] at e2; cases e2
    · have hl3 : (m.rs t).line = a0 + 3 := by omega
      rw [wGive_3 (r := (m.at t).fresh) hl3] at *
      have x0 : wordAt (((m.at t).fresh.handOn [8]).fin ok).xs 0 = wordAt m.xs 0 := by
        obtain ⟨n1, _⟩ := notes_same ((m.at t).fresh.doA 2 (bc (m.at t).fresh.n ((m.at t).fresh.a - 1)) 0 0) [8]
        show wordAt (((m.at t).fresh.doA 2 (bc (m.at t).fresh.n ((m.at t).fresh.a - 1)) 0 0).notes [8]).xs 0 = _
        rw [n1]
        exact do_far0 (xs := m.xs) (nc_ne0 _ _).2
      have er : (((m.at t).fresh.handOn [8]).fin ok).ret = if ok then 2 else 1 := rfl
      generalize ((m.at t).fresh.handOn [8]).fin ok = R0 at *
      exact fin R0 (o := (m.rs t).op) (l := a0 + 3) (5 * k) rfl hl3 hop (by omega) x0 hso er hok hb (by omega)
  | gave a0 ok hg hl hr hon' => rw [hon] at hon'; cases hon'
end
end Go.Proofs.YtocdbeonogfopaaGreat
set_option linter.unusedVariables false
set_option linter.unusedSimpArgs false
namespace Go.Proofs.YtocdbeonogfopaaGreat
theorem NT.byline {h op line ret s a : Int} {on : Bool} {qp : Nat} {x : Rd} {y : Wr} (f : NT h op line ret s a on qp x y) (hr0 : ret = 0) :
    (op = 3 ∧ line = 4 → qp = 5 ∧ x = .no ∧ y = .no) ∧ ((((op = 4 ∨ op = 8) ∧ line = 5) ∨ ((op = 6 ∨ op = 7) ∧ line = 10)) → qp = 9 ∧ y = .last) ∧ (op = 1 ∧ line = 1 → x = (if s = 4 then .reads else .waits (bitsI a)) ∧ y = .no) ∧ (ahW op line → y = (if s = 4 then .writes else .comes) ∧ (((op = 3 ∨ op = 6) ∧ x = .no) ∨ (op = 7 ∧ x = .reads))) := by
  unfold ahW
  have z : ¬ (op = 3 ∧ line = 4) → ¬ (((op = 4 ∨ op = 8) ∧ line = 5) ∨ ((op = 6 ∨ op = 7) ∧ line = 10)) → ¬ (op = 1 ∧ line = 1) → ¬ ((op = 3 ∧ line = 7) ∨ ((op = 6 ∨ op = 7) ∧ line = 6)) → (op = 3 ∧ line = 4 → qp = 5 ∧ x = .no ∧ y = .no) ∧ ((((op = 4 ∨ op = 8) ∧ line = 5) ∨ ((op = 6 ∨ op = 7) ∧ line = 10)) → qp = 9 ∧ y = .last) ∧ (op = 1 ∧ line = 1 → x = (if s = 4 then .reads else .waits (bitsI a)) ∧ y = .no) ∧ ((op = 3 ∧ line = 7) ∨ ((op = 6 ∨ op = 7) ∧ line = 6) → y = (if s = 4 then .writes else .comes) ∧ (((op = 3 ∨ op = 6) ∧ x = .no) ∨ (op = 7 ∧ x = .reads))) :=
    fun a b c d => ⟨fun e => absurd e a, fun e => absurd e b, fun e => absurd e c, fun e => absurd e d⟩
  cases f with
  | idle0 ho => exact z (by omega) (by omega) (by omega) (by omega)
  | idle1 ho => exact z (by omega) (by omega) (by omega) (by omega)
  | idle2 ho => exact z (by omega) (by omega) (by omega) (by omega)
  | come ho hl => exact z (by omega) (by omega) (by omega) (by omega)
  | adm ho hl hr hh hq hx hy => exact ⟨fun e => by omega, fun e => by omega, fun _ => ⟨hx, hy⟩, fun e => by omega⟩
  | slip ho hl => exact z (by omega) (by omega) (by omega) (by omega)
  | dep ho hl => exact z (by omega) (by omega) (by omega) (by omega)
  | depd ho hr => omega
  | ent j ho hj hl hr hh hq hx hy => exact ⟨fun e => ⟨by omega, hx, hy⟩, fun e => by omega, fun e => by omega, fun e => by omega⟩
  | tr j hu hj hl => have := hu.op67; exact z (by omega) (by omega) (by omega) (by omega)
  | turn hu =>
    rcases hu with ⟨ho, _, _, hl⟩ | ⟨hu, hl⟩
    · exact z (by omega) (by omega) (by omega) (by omega)
    · have := hu.op67; exact z (by omega) (by omega) (by omega) (by omega)
  | pres hu hr hq hy =>
    rcases hu with ⟨ho, _, hx, hl⟩ | ⟨hu, hl⟩
    · exact ⟨fun e => by omega, fun e => by omega, fun e => by omega, fun _ => ⟨hy, .inl ⟨.inl ho, hx⟩⟩⟩
    · have := hu.op67
      refine ⟨fun e => by omega, fun e => by omega, fun e => by omega, fun _ => ⟨hy, ?_⟩⟩
      rcases hu.ops with ⟨e, _, e2⟩ | ⟨e, _, e2⟩
      · exact .inl ⟨.inr e, e2⟩
      · exact .inr ⟨e, e2⟩
  | stop ho hl => exact z (by omega) (by omega) (by omega) (by omega)
  | unl x' hu hl => have := hu.op48; exact z (by omega) (by omega) (by omega) (by omega)
  | left hu hl => have := hu.op48; exact z (by omega) (by omega) (by omega) (by omega)
  | give j a0 ok hg hj hl hr hq hy => have := hg.ops.2; exact ⟨fun e => by omega, fun e => ⟨by omega, hy⟩, fun e => by omega, fun e => by omega⟩
  | gave a0 ok hg hl hr => cases ok <;> (rw [hr0] at hr; cases hr)
theorem wtN_cases {r : LS} {d : Int} {q : Int → Bool} (h : wtR wtN r = some (d, q)) : (r.op = 3 ∧ r.line = 4 ∧ d = bc r.n r.task ∧ q = isZ) ∨ ((((r.op = 4 ∨ r.op = 8) ∧ r.line = 5) ∨ ((r.op = 6 ∨ r.op = 7) ∧ r.line = 10)) ∧ d = nc r.n r.task ∧ q = isN) ∨ (r.op = 1 ∧ r.line = 1 ∧ d = 0 ∧ q = fun v => bitsI v != bitsI r.a) ∨ (((r.op = 3 ∧ r.line = 7) ∨ (r.op = 6 ∧ r.line = 6)) ∧ d = 1 ∧ q = fun v => v == r.a) ∨ (r.op = 7 ∧ r.line = 6 ∧ d = 1 ∧ q = fun v => v == (r.a - 256) % 4294967296) := by
  have h' : wtN r.n r.task r.op r.line r.a r.b = some (d, q) := h
  unfold wtN at h'
  by_cases e1 : r.op = 3 ∧ r.line = 4
  · rw [if_pos e1] at h'; obtain ⟨rfl, rfl⟩ := Prod.mk.inj (Option.some.inj h'); exact .inl ⟨e1.1, e1.2, rfl, rfl⟩
  rw [if_neg e1] at h'
  by_cases e2 : ((r.op = 4 ∨ r.op = 8) ∧ r.line = 5) ∨ ((r.op = 6 ∨ r.op = 7) ∧ r.line = 10)
  · rw [if_pos e2] at h'; obtain ⟨rfl, rfl⟩ := Prod.mk.inj (Option.some.inj h'); exact .inr (.inl ⟨e2, rfl, rfl⟩)
  rw [if_neg e2] at h'
  by_cases e3 : r.op = 1 ∧ r.line = 1
  · rw [if_pos e3] at h'; obtain ⟨rfl, rfl⟩ := Prod.mk.inj (Option.some.inj h'); exact .inr (.inr (.inl ⟨e3.1, e3.2, rfl, rfl⟩))
  rw [if_neg e3] at h'
  by_cases e4 : (r.op = 3 ∧ r.line = 7) ∨ (r.op = 6 ∧ r.line = 6)
  · rw [if_pos e4] at h'; obtain ⟨rfl, rfl⟩ := Prod.mk.inj (Option.some.inj h'); exact .inr (.inr (.inr (.inl ⟨e4, rfl, rfl⟩)))
  rw [if_neg e4] at h'
  by_cases e5 : r.op = 7 ∧ r.line = 6
  · rw [if_pos e5] at h'; obtain ⟨rfl, rfl⟩ := Prod.mk.inj (Option.some.inj h'); exact .inr (.inr (.inr (.inr ⟨e5.1, e5.2, rfl, rfl⟩)))
  · rw [if_neg e5] at h'; cases h'
section
variable {b : Int} {k t p : Nat} {mode : Int} {s : QS} {n : NS} {qp : Nat → Nat} {m : MV}
theorem worthn_done (w : Int → Int) (hg : GenQ wtN k mode m) (ht : t < k) (hop : (m.rs t).op ≠ 0) (hon : (m.rs t).k.on = false) {d : Int} {q : Int → Bool} (hw : wtR wtN (m.rs t) = some (d, q)) (hd : (stepI m.xs k mode t (m.rs t).s d q).done = true) : worthN k w ((m.at t).fresh.pq.finH (m.hold t)) (m.at t).fresh.pq.finR + 4 ≤ worthN k w (m.hold t) (m.rs t) := by
  obtain ⟨c1, c2, c3⟩ := hg.cst t ht
  have hret := hg.rt t ht hon
  have W := lines_pq.wait (m.at t).fresh d q hon hw
  have hso : (m.at t).fresh.pq.op = (m.rs t).op := (lines_pq.same (m.at t).fresh).2.2.2.1
  have hd' : ((m.at t).fresh.stepR d q).done = true := by
    show (stepI m.xs (m.rs t).n (m.rs t).mode (m.rs t).task (m.rs t).s d q).done = true
    rw [c1, c2, c3]; exact hd
  have hc : ∀ x, comesN k w (m.hold t) (m.at t).fresh.pq ≤ x → worthN k w ((m.at t).fresh.pq.finH (m.hold t)) (m.at t).fresh.pq.finR ≤ x := fun x e => by unfold comesN at e; omega
  have hk0 : swp k (m.at t).fresh.pq.k = 0 := by rw [W.k]; exact swp_off k hon
  have stay : ∀ {o l l' : Int}, (m.rs t).op = o → (m.rs t).line = l → o ≠ 0 → o ≠ 5 → (m.at t).fresh.pq.ret = 0 → (m.at t).fresh.pq.line = l' → lineN k o l' + 4 ≤ lineN k o l → worthN k w ((m.at t).fresh.pq.finH (m.hold t)) (m.at t).fresh.pq.finR + 4 ≤ worthN k w (m.hold t) (m.rs t) := fun {o l l'} e0 e00 e3 e4 e1 e2 e5 => by
    have := hc _ (Nat.le_of_eq (comesn_stay (w := w) (h := m.hold t) (hso.trans e0) e2 e3 e1 (by omega)))
    rw [worthn_line e0 e00 e3 hret (by omega)]
    rw [hk0] at this; omega
  have fin : ∀ {o l : Int}, (m.rs t).op = o → (m.rs t).line = l → o ≠ 0 → o ≠ 5 → (m.at t).fresh.pq.ret = 2 → idleN k (behindI o 2 (m.hold t)) + 4 ≤ lineN k o l → worthN k w ((m.at t).fresh.pq.finH (m.hold t)) (m.at t).fresh.pq.finR + 4 ≤ worthN k w (m.hold t) (m.rs t) := fun {o l} e0 e00 e3 e4 e1 e5 => by
    have := hc _ (comesn_end (w := w) (h := m.hold t) (hso.trans e0) e1 (by decide) e3)
    rw [worthn_line e0 e00 e3 hret (by omega)]
    rw [hk0] at this; omega
  have give : ∀ {o a : Int} {ok : Bool}, (m.rs t).op = o → (m.rs t).line = a + 2 → o ≠ 0 → o ≠ 5 → (m.at t).fresh.pq = (m.at t).fresh.wGive a ok → d = nc (m.rs t).n (m.rs t).task → q = isN → lineN k o (a + 3) + 4 ≤ lineN k o (a + 2) → worthN k w ((m.at t).fresh.pq.finH (m.hold t)) (m.at t).fresh.pq.finR + 4 ≤ worthN k w (m.hold t) (m.rs t) := fun {o a ok} e0 e00 e3 e4 e1 e6 e7 e5 => by
    subst e6 e7
    have hR : (m.at t).fresh.pq = (m.at t).fresh.seeN.go (a + 3) := by rw [e1, wGive_2 (r := (m.at t).fresh) e00]; exact if_pos hd'
    obtain ⟨n1, n2, n3, _⟩ := seeN_fw (m.at t).fresh
    exact stay e0 e00 e3 e4 (by rw [hR]; exact n3.trans hret) (by rw [hR]; rfl) e5
  have adm : ∀ {o l : Int}, (m.rs t).op = o → (m.rs t).line = l → o ≠ 0 → o ≠ 5 → (m.at t).fresh.pq = (m.at t).fresh.pAdmit d q → idleN k (behindI o 2 (m.hold t)) + 4 ≤ lineN k o l → worthN k w ((m.at t).fresh.pq.finH (m.hold t)) (m.at t).fresh.pq.finR + 4 ≤ worthN k w (m.hold t) (m.rs t) := fun {o l} e0 e00 e3 e4 e1 e5 => by
    refine fin e0 e00 e3 e4 ?_ e5
    rw [e1]; unfold LS.pAdmit; rw [if_pos hd']; rfl
  rcases wtN_cases hw with ⟨o, l, e1, e2⟩ | ⟨ol, e1, e2⟩ | ⟨o, l, e1, e2⟩ | ⟨ol, e1, e2⟩ | ⟨o, l, e1, e2⟩
  · subst e1 e2
    have hR : (m.at t).fresh.pq = ((m.at t).fresh.wait (bc (m.rs t).n (m.rs t).task) isZ).go 5 := by
      rw [pq_enter (r := (m.at t).fresh) (j := 4) o l (by decide), wEnter_4 (r := (m.at t).fresh) l]; exact if_pos hd'
    exact stay o l (by decide) (by decide) (by rw [hR]; exact hret) (congrArg LS.line hR) (by show 14 * k + 16 + 4 ≤ 14 * k + 20; omega)
  · rcases ol with ⟨o, l⟩ | ⟨o, l⟩
    · have hp := pq_give4 (r := (m.at t).fresh) (j := 2) o (by show (m.rs t).line = _; rw [l]; rfl) (by decide)
      rcases o with o | o
      · exact give (a := 3) (ok := true) o l (by decide) (by decide) hp e1 e2 (by show 5 * k + 1 + 4 ≤ 5 * k + 5; omega)
      · exact give (a := 3) (ok := true) o l (by decide) (by decide) hp e1 e2 (by show 10 * k + 2 + 4 ≤ 10 * k + 6; omega)
    · have hp := pq_give6 (r := (m.at t).fresh) (j := 2) o (by show (m.rs t).line = _; rw [l]; rfl) (by decide)
      rcases o with o | o
      · exact give (a := 8) (ok := false) o l (by decide) (by decide) hp e1 e2 (by show 5 * k + 1 + 4 ≤ 5 * k + 5; omega)
      · exact give (a := 8) (ok := false) o l (by decide) (by decide) hp e1 e2 (by show 10 * k + 2 + 4 ≤ 10 * k + 6; omega)
  · subst e1 e2
    exact adm o l (by decide) (by decide) (pq_1_1 (r := (m.at t).fresh) o l) (by show (5 * k + 1) + 4 ≤ 5 * k + 5; omega)
  · subst e1 e2
    rcases ol with ⟨o, l⟩ | ⟨o, l⟩
    · exact adm o l (by decide) (by decide) (pq_3_7 (r := (m.at t).fresh) o l) (by show (12 * k + 10) + 4 ≤ 12 * k + 14; omega)
    · exact adm o l (by decide) (by decide) (pq_6_6 (r := (m.at t).fresh) o l) (by show (12 * k + 10) + 4 ≤ 12 * k + 14; omega)
  · subst e1 e2
    have hR : (m.at t).fresh.pq.line = 7 ∧ (m.at t).fresh.pq.ret = 0 := by
      rw [pq_7_6 (r := (m.at t).fresh) o l]; unfold LS.wOthers
      rw [if_pos (show ((m.at t).fresh.stepR 1 (m.at t).fresh.butMe).done = true from hd')]
      obtain ⟨_, _, _, _, _, f6, _⟩ := wait_fw (r := (m.at t).fresh) 1 (m.at t).fresh.butMe
      generalize (m.at t).fresh.wait 1 (m.at t).fresh.butMe = R0 at *
      obtain ⟨_, _, g7, _⟩ := noteIf_fw R0 ((m.at t).fresh.stepR 1 (m.at t).fresh.butMe).seen 9
      exact ⟨rfl, g7.trans (f6.trans hret)⟩
    exact stay o l (by decide) (by decide) hR.2 hR.1 (by show 12 * k + 11 + 4 ≤ 12 * k + 15; omega)
theorem pq_rest (hk : k ≤ 64) (h : NqInv b k mode p m) (hb : ∀ t, t < k → BlkQ wtN k mode m t) : ∀ t, t < k → (m.rs t).op = 0 ∧ m.hold t = 0 := by
  obtain ⟨hg, s, n, qp, hI, hn⟩ := h
  -- nobody wakes
  have off : ∀ j, j < k → (m.rs j).k.on = false := fun j hj => by
    rcases hb j hj with ⟨e, _⟩ | ⟨_, e, _⟩
    · exact hg.idle j hj e
    · exact e
  -- who waits, waits for what isn't so
  have waits : ∀ i, i < k → ((m.rs i).op = 0 ∧ m.hold i = 0) ∨ ((m.rs i).op ≠ 0 ∧ (m.rs i).s ≠ 4 ∧ ∃ d q, wtR wtN (m.rs i) = some (d, q) ∧ q (wordAt m.xs d) = false) := fun i hi => by
    rcases hb i hi with e | ⟨e0, e1, d, q, e2, e3⟩
    · exact .inl e
    · refine .inr ⟨e0, ?_, d, q, e2, ?_⟩
      · rcases e3 with ⟨e, _⟩ | ⟨_, e, _⟩
        · have := hg.sp i hi e; omega
        · omega
      · rcases e3 with ⟨_, e3⟩ | ⟨_, e4, e5⟩
        · exact e3
        · cases e6 : q (wordAt m.xs d)
          · rfl
          · obtain ⟨j, hj, e7, _⟩ := hg.nl i hi d q e2 e4 e5 e6
            rw [off j hj] at e7; cases e7
  have idle : ∀ i, i < k → (m.rs i).op = 0 → m.hold i = 0 → s.ph i = 0 ∧ n.rd i = .no ∧ n.wr i = .no := fun i hi e0 e1 => by
    have F := hI.f i hi
    have T := hI.t i hi
    cases F with
    | idle0 ho hr hh hq hx hy =>
      rw [hq] at T
      cases T with
      | out hp => exact ⟨hp, hx, hy⟩
    | idle1 ho hr hh => omega
    | idle2 ho hr hh => omega
    | come ho => omega
    | adm ho => omega
    | slip ho => omega
    | dep ho => omega
    | depd ho => omega
    | ent j ho => omega
    | tr j hu => have := hu.op67; omega
    | turn hu => rcases hu with ⟨ho, _⟩ | ⟨hu, _⟩; omega; have := hu.op67; omega
    | pres hu => rcases hu with ⟨ho, _⟩ | ⟨hu, _⟩; omega; have := hu.op67; omega
    | stop ho => omega
    | unl x' hu => have := hu.op48; omega
    | left hu => have := hu.op48; omega
    | give j a0 ok hgg => have := hgg.ops.2; omega
    | gave a0 ok hgg => have := hgg.ops.2; omega
  -- what each is
  have cls : ∀ i, i < k → ((m.rs i).op = 0 ∧ m.hold i = 0) ∨ (qp i = 5 ∧ s.bl i ≠ 0 ∧ n.rd i = .no ∧ n.wr i = .no) ∨ (qp i = 9 ∧ s.nx i = 0 ∧ n.wr i = .last) ∨ (n.wr i = .no ∧ n.rd i = .waits n.β) ∨ (n.wr i = .comes ∧ n.O + old n.β (n.rd i) ≠ n.a ∧ ∀ v, n.rd i ≠ .waits v) := fun i hi => by
    rcases waits i hi with e | ⟨e0, e4, d, q, hw, hq⟩
    · exact .inl e
    right
    obtain ⟨c1, c2, c3⟩ := hg.cst i hi
    have B := (hI.f i hi).byline (hg.rt i hi (off i hi))
    obtain ⟨b1, b2, b3, b4⟩ := B
    have hsi := hI.i.si
    have ale : (n.wr i).pres = true → n.a ≤ n.I := fun e => hI.i.a_le hi e
    rcases wtN_cases hw with ⟨o, l, e1, e2⟩ | ⟨ol, e1, e2⟩ | ⟨o, l, e1, e2⟩ | ⟨ol, e1, e2⟩ | ⟨o, l, e1, e2⟩
    · obtain ⟨g1, g2, g3⟩ := b1 ⟨o, l⟩
      refine .inl ⟨g1, fun e => ?_, g2, g3⟩
      rw [e1, e2, c1, c3, hI.w.b i hi, e] at hq; cases hq
    · obtain ⟨g1, g2⟩ := b2 ol
      refine .inr (.inl ⟨g1, ?_, g2⟩)
      rw [e1, e2, c1, c3, hI.w.n i hi] at hq
      simpa [isN] using hq
    · obtain ⟨g1, g2⟩ := b3 ⟨o, l⟩
      rw [if_neg e4] at g1
      refine .inr (.inr (.inl ⟨g2, ?_⟩))
      subst e1 e2
      have hq' : (bitsI (wordAt m.xs 0) != bitsI (m.rs i).a) = false := hq
      rw [hI.w0, wi_bits _ _ hI.i.bd] at hq'
      have e3 : n.β = bitsI (m.rs i).a := by simpa using hq'
      rw [g1, e3]
    · obtain ⟨g1, g2⟩ := b4 (by unfold ahW; omega)
      rw [if_neg e4] at g1
      have hah := hI.ah i hi (by unfold ahW; omega)
      have hx : n.rd i = .no := by rcases g2 with ⟨_, e⟩ | ⟨e, _⟩; exact e; omega
      refine .inr (.inr (.inr ⟨g1, fun e => ?_, fun v e => by rw [hx] at e; cases e⟩))
      subst e1 e2
      have hq' : (wordAt m.xs 1 == (m.rs i).a) = false := hq
      rw [hx, old_no, Nat.add_zero] at e
      rw [hI.w1, hah, e] at hq'
      simp at hq'
    · obtain ⟨g1, g2⟩ := b4 (by unfold ahW; omega)
      rw [if_neg e4] at g1
      have hah := hI.ah i hi (by unfold ahW; omega)
      have hx : n.rd i = .reads := by rcases g2 with ⟨e, _⟩ | ⟨_, e⟩; omega; exact e
      refine .inr (.inr (.inr ⟨g1, fun e => ?_, fun v e => by rw [hx] at e; cases e⟩))
      subst e1 e2
      have hq' : (wordAt m.xs 1 == ((m.rs i).a - 256) % 4294967296) = false := hq
      rw [hx, old_r] at e
      rw [hI.w1, hah, ← e, wi_less] at hq'
      simp at hq'
  -- nobody is present
  have npres : ∀ i, i < k → (n.wr i).pres = false := fun i hi => by
    cases hp : (n.wr i).pres
    · rfl
    · exfalso
      have hact := Wr.pres_act hp
      have hsum := (hI.i.bits i hi hp).2
      have hothers : ∀ j, j < k → j ≠ i → old n.β (n.rd j) = 0 := fun j hj hne => by
        have hna : (n.wr j).act = false := hI.i.others hi hact j hj hne
        rcases cls j hj with ⟨e1, e2⟩ | ⟨_, _, e, _⟩ | ⟨_, _, e⟩ | ⟨_, e⟩ | ⟨e, _⟩
        · rw [(idle j hj e1 e2).2.1]; rfl
        · rw [e]; rfl
        · rw [e] at hna; cases hna
        · rw [e, old_w, if_pos rfl]
        · rw [e] at hna; cases hna
      have hu := sumN_upd (f := fun j => old n.β (n.rd j)) (g := upd (fun j => old n.β (n.rd j)) i 0) (t := i) (k := k) hi (fun j _ hj => upd_other _ _ hj)
      rw [upd_same] at hu
      have hz : sumN (upd (fun j => old n.β (n.rd j)) i 0) k = 0 := sumN_zero fun j hj => by
        by_cases e : j = i
        · subst e; rw [upd_same]
        · rw [upd_other _ _ e]; exact hothers j hj e
      rw [hz] at hu
      rcases cls i hi with ⟨e1, e2⟩ | ⟨_, _, _, e⟩ | ⟨_, _, e⟩ | ⟨e, _⟩ | ⟨_, e, _⟩
      · rw [(idle i hi e1 e2).2.2] at hp; cases hp
      · rw [e] at hp; cases hp
      · rw [e] at hp; cases hp
      · rw [e] at hp; cases hp
      · exact e (by omega)
  have hβ : n.β = 0 := hI.i.none npres
  -- so only the queue's waits are left
  have cls2 : ∀ i, i < k → ((m.rs i).op = 0 ∧ m.hold i = 0) ∨ (s.ph i = 4 ∧ s.bl i ≠ 0) ∨ (s.ph i = 5 ∧ s.nx i = 0 ∧ s.tail ≠ (i : Int) + 1) := fun i hi => by
    have T := hI.t i hi
    rcases cls i hi with e | ⟨g1, g2, _⟩ | ⟨g1, g2, _⟩ | ⟨_, e⟩ | ⟨e, _⟩
    · exact .inl e
    · rw [g1] at T
      cases T with
      | e4 hp _ => exact .inr (.inl ⟨hp, g2⟩)
    · rw [g1] at T
      cases T with
      | g2 hp ht _ => exact .inr (.inr ⟨hp, g2, ht⟩)
    · have := hI.i.saw i _ hi e
      omega
    · have := npres i hi
      rw [e] at this; cases this
  intro t ht
  rcases cls2 t ht with e | e
  · exact e
  exfalso
  have hpt : s.ph t ≠ 0 := by rcases e with ⟨e, _⟩ | ⟨e, _⟩ <;> omega
  have at5 : ∀ i, i < k → s.ph i ≠ 0 → (s.ph i = 4 ∧ s.bl i ≠ 0) ∨ (s.ph i = 5 ∧ s.nx i = 0 ∧ s.tail ≠ (i : Int) + 1) := fun i hi e => by
    rcases cls2 i hi with ⟨e0, e1⟩ | e2
    · exact absurd (idle i hi e0 e1).1 e
    · exact e2
  obtain ⟨nn, q, hQ⟩ := hI.q
  obtain ⟨j, hj, _⟩ := hQ.out t ht hpt
  have hn0 : 0 < nn := by omega
  have hu := hQ.lt 0 hn0
  rcases at5 (q 0) hu (hQ.inq 0 hn0) with ⟨a1, a2⟩ | ⟨a1, a2, a3⟩
  · rcases hQ.hd hn0 with e | ⟨_, e⟩
    · omega
    · exact a2 e
  · have hn2 : 1 < nn := by
      by_cases e : nn = 1
      · exfalso
        have := hQ.tl
        rw [if_neg (by omega), e] at this
        exact a3 this
      · omega
    have hv := hQ.lt 1 hn2
    obtain ⟨_, hp⟩ := hQ.pair 0 hn2
    rcases hp with ⟨b1, _⟩ | ⟨_, b2⟩
    · have b1' : s.ph (q 1) = 3 := b1
      rcases at5 (q 1) hv (hQ.inq 1 hn2) with ⟨d1, _⟩ | ⟨d1, _⟩ <;> omega
    · rw [a2] at b2; omega
theorem pq_ok (hk : 1 ≤ k ∧ k ≤ 64) (b mode : Int) : LockQ LS.pq wtN (worthN k) k mode 20000 (NqInv b k mode) := by
  refine ⟨hk, lines_pq, worthn_ok k, fun p m h => h.gen, fun p m h i hi => ?_, fun p m t op h ht h0 hm => h.start ht h0 hm, fun p m t h hp ht h0 hs => h.go hk.2 hk.1 (by omega) ht h0 hs, fun p m h => ?_, fun p m t h ht h0 hh => ?_, fun p m t h ht h0 d q hon hw hd => ?_, fun p m t h ht h0 d q hon hw hd => ?_, fun p m t h hp ht h0 hon hw => ?_, fun p m t h hp ht h0 hon hw => ?_, fun p m h hb => ?_⟩
  · obtain ⟨_, s, n, qp, hI, _⟩ := h
    have := (hI.f i hi).holds; omega
  · obtain ⟨hg, s, n, qp, hI, hn⟩ := h
    exact ⟨hg, s, n, qp, hI, by omega⟩
  · have e0 : worthN k (ownW m.xs) (m.hold t) (m.rs t) = idleN k (m.hold t) := by unfold worthN; rw [if_pos h0]
    rw [e0]
    rcases hh with e | e <;> rw [e]
    · show lineN k 2 0 ≤ idleN k 1
      show 5 * k + 1 ≤ 5 * k + 1; omega
    · show lineN k 4 0 ≤ idleN k 2
      show 12 * k + 10 ≤ 12 * k + 10; omega
  · exact worthn_done _ h.gen ht h0 hon hw hd
  · obtain ⟨hg, s, n, qp, hI, _⟩ := h
    obtain ⟨c1, c2, c3⟩ := hg.cst t ht
    have W := lines_pq.wait (m.at t).fresh d q hon hw
    have hd' : ((m.at t).fresh.stepR d q).done = false := by
      show (stepI m.xs (m.rs t).n (m.rs t).mode (m.rs t).task (m.rs t).s d q).done = false
      rw [c1, c2, c3]; exact hd
    obtain ⟨l1, l2, _⟩ := W.stay hd'
    have l0 : (m.at t).fresh.pq.op = (m.rs t).op := (lines_pq.same (m.at t).fresh).2.2.2.1
    have e1 : (m.at t).fresh.pq.line = (m.rs t).line := l1
    have e2 : (m.at t).fresh.pq.ret = (m.rs t).ret := l2
    have h5 : (m.rs t).op ≠ 5 := by rcases wtN_cases hw with ⟨o, _⟩ | ⟨o, _⟩ | ⟨o, _⟩ | ⟨o, _⟩ | ⟨o, _⟩ <;> omega
    unfold worthN
    rw [l0, e1, e2, if_neg (fun e : (m.rs t).op = 5 ∧ (m.rs t).line = 1 => h5 e.1), if_neg (fun e : (m.rs t).op = 5 ∧ (m.rs t).line = 1 => h5 e.1)]
    exact Nat.le_refl _
  · obtain ⟨hg, s, n, qp, hI, hn⟩ := h
    obtain ⟨s', n', qp', g⟩ := pq_mv hk.2 hg hI (by omega) ht h0 hon
    obtain ⟨p1, p2⟩ := plain_n hI ht h0 hon hw
    exact ⟨fun d hd => g.W.far hon hw d (by have e : (m.at t).fresh.n = k := (hg.cst t ht).1; omega), p1, p2⟩
  · obtain ⟨hg, s, n, qp, hI, hn⟩ := h
    exact worthn_plain hk.2 (hI.w.th (by decide) (by omega)) hI ht h0 (hg.rt t ht hon) hon hw
  · exact pq_rest hk.2 h hb
theorem pq_first {b : Int} (hk : 1 ≤ k ∧ k ≤ 64) (mode : Int) : NqInv b k mode 0 ⟨fun i => newR k mode i 0 (pqXs k b), fun _ => 0, pqXs k b⟩ := by
  have hl := pq_len k b
  obtain ⟨x0, x1, x2, x3⟩ := pq_own k b
  have wib : wi b 0 0 = b * 256 % 4294967296 := by unfold wi; simp only [Int.natCast_zero, Int.add_zero]; omega
  have hz : ∀ i, i < k → wordAt (pqXs k b) (wc k i) = 0 := fun i hi => pq_far k b (by rw [wc_at hk.2 hi]; omega)
  refine ⟨⟨hl, fun i hi => ⟨rfl, rfl, rfl⟩, fun i hi => .inl rfl, fun i hi _ => rfl, fun i hi e => absurd rfl e, fun i hi => ⟨fun _ => hz i hi, fun e => (by rcases e with e | e | e <;> cases e)⟩, fun i hi e => (by cases e), fun i hi _ => rfl, fun i hi _ => rfl, fun i hi c q hw hs => (by cases hs)⟩, ⟨0, fun _ => 0, fun _ => 0, fun _ => 0, fun _ => 0⟩, ⟨fun _ => .no, fun _ => .no, 0, 0, 0, b % 2, 0⟩, fun _ => 0, ?_, Nat.le_refl _⟩
  refine ⟨⟨0, fun _ => 0, ?_⟩, ⟨hl, x2, fun i hi => pq_far k b (by rw [nc_q hk.2 hi]; omega), fun i hi => pq_far k b (by rw [bc_q hk.2 hi]; omega)⟩, ?_, x0.trans wib.symm, x1.trans wib.symm, by show wordAt (pqXs k b) 3 % 2 = b % 2; rw [x3], fun i hi => .idle0 rfl rfl rfl rfl rfl rfl, fun i hi => .out rfl, fun i hi e => ?_, fun i hi e => ?_⟩
  · exact ⟨fun i j hi => by omega, fun i hi => by omega, rfl, fun i hi => by omega, fun u hu e => absurd rfl e, fun hm => by omega, fun j hj => by omega, fun hm => by omega⟩
  · refine ⟨?_, ?_, fun i j hi hj e => (by cases e), fun i hi e => (by cases e), fun _ => rfl, fun i v hi e => (by cases e), fun _ i v hi e => (by cases e), fun i hi e => (by cases e), fun i v hi e => (by cases e), fun i hi e => (by cases e)⟩
    · show 0 + sumN (fun _ => 0) k = 0
      rw [sumN_zero (fun _ _ => rfl)]
    · show b % 2 = 0 ∨ b % 2 = 1
      omega
  · have e' : phW 0 0 := e
    unfold phW at e'; omega
  · have e' : ahW 0 0 := e
    unfold ahW at e'; omega
theorem pq_bound (h : NqInv b k mode p m) : FQ (worthN k) k m ≤ k * (24 * k + 31) := by
  have g := h.gen
  have h1 : sumN (shareQ (worthN k) k m) k ≤ sumN (fun _ => 24 * k + 28) k := sumN_le fun i hi => by
    unfold shareQ
    have a1 : swp k (m.rs i).k ≤ 5 * k := by
      unfold swp
      by_cases e : (m.rs i).k.on = true
      · rw [if_pos e]
        have : 5 * (k - (m.rs i).k.i.toNat) ≤ 5 * k := by omega
        by_cases e2 : (m.rs i).k.hit = true
        · rw [if_pos e2]; omega
        · rw [if_neg e2]; omega
      · rw [if_neg e]; omega
    have a2 : stp (m.rs i).s ≤ 4 := by
      rcases g.sr i hi with e | e | e | e | e <;> rw [e] <;> decide
    have a3 : worthN k (ownW m.xs) (m.hold i) (m.rs i) ≤ 19 * k + 24 := by
      unfold worthN
      by_cases e : (m.rs i).op = 0
      · rw [if_pos e]; exact idleN_le _ _
      rw [if_neg e]
      by_cases e2 : (m.rs i).ret ≠ 0
      · rw [if_pos e2]; exact idleN_le _ _
      rw [if_neg e2]
      by_cases e3 : (m.rs i).op = 5 ∧ (m.rs i).line = 1
      · rw [if_pos e3]
        by_cases e4 : (m.rs i).a = ownW m.xs 0
        · rw [if_pos e4]; omega
        · rw [if_neg e4]; omega
      · rw [if_neg e3]; exact lineN_le _ _ _
    omega
  have h2 : perms k m ≤ sumN (fun _ => 1) k := sumN_le fun i _ => by split <;> omega
  rw [sumN_const] at h1 h2
  unfold FQ
  have e1 : k * (24 * k + 31) = k * (24 * k + 28) + k * 3 := by rw [← Nat.mul_add]
  omega
theorem pq_alone (h : NqInv b k mode p m) (ht : t < k) (h2 : m.hold t = 2) (i : Nat) (hi : i < k) (hn : i ≠ t) : m.hold i = 0 := by
  obtain ⟨_, s, n, qp, hI, _⟩ := h
  exact hI.alone ht h2 i hi hn
end
end Go.Proofs.YtocdbeonogfopaaGreat
set_option linter.unusedVariables false
set_option linter.unusedSimpArgs false
namespace Go.Proofs.YtocdbeonogfopaaGreat
theorem many_not {m : MV} {what : Int} : ∀ {n : Nat}, (∀ i, i < n → m.hold i ≠ what) → manyI m what n = 0
  | 0, _ => rfl
  | n + 1, h => by
    unfold manyI
    rw [if_neg (h n (by omega)), many_not (n := n) fun i hi => h i (by omega)]
theorem many_only {m : MV} {what : Int} {t : Nat} : ∀ {n : Nat}, m.hold t = what → (∀ i, i < n → i ≠ t → m.hold i ≠ what) → manyI m what n = if t < n then 1 else 0
  | 0, _, _ => rfl
  | n + 1, h, ho => by
    have ih := many_only (n := n) h fun i hi hn => ho i (by omega) hn
    unfold manyI
    rw [ih]
    by_cases e : n = t
    · subst e
      rw [if_pos h, if_neg (Nat.lt_irrefl _), if_pos (Nat.lt_succ_self _)]
    · rw [if_neg (ho n (by omega) e)]
      by_cases e2 : t < n
      · rw [if_pos e2, if_pos (by omega)]
      · rw [if_neg e2, if_neg (by omega)]
theorem excl_many {m : MV} {k : Nat} (h : ∀ t, t < k → m.hold t = 2 → ∀ i, i < k → i ≠ t → m.hold i = 0) : manyI m 2 k = 0 ∨ (manyI m 2 k = 1 ∧ manyI m 1 k = 0) := by
  by_cases e : ∃ t, t < k ∧ m.hold t = 2
  · obtain ⟨t, ht, h2⟩ := e
    right
    refine ⟨?_, many_not fun i hi => ?_⟩
    · rw [many_only h2 (fun i hi hn => by rw [h t ht h2 i hi hn]; decide), if_pos ht]
    · by_cases e : i = t
      · subst e; rw [h2]; decide
      · rw [h t ht h2 i hi e]; decide
  · left
    exact many_not fun i hi e2 => e ⟨i, hi, e2⟩
end Go.Proofs.YtocdbeonogfopaaGreat
namespace Go.Proofs.YtocdbeonogfopaaGreat
open Go.RowKit Go.ChangeShapes Go.WideShapes Go.Deep
section
variable {H : Type} {enc : TypeId × Value → H} {P : Program} {w : World} {base : Nat} {spare : Nat → Bool} {held : Bool}
theorem open_tab {t e : TypeId} {fs : Array Field} {fuel len cap : Nat} {A : Option Addr} {x : DataW H × List MemPlace} (ht : P.underlying t = some (.slice e)) (he : P.underlying e = some (.struct fs))
    (hone : oneCellFields P fs = true) (hC : P.cellsOf e = fs.size) (h0 : 0 < fs.size) (h : DataW.trod enc P w base spare held fuel t [.slice A len cap] = some x) :
    ∀ i, i < len → ∃ b o, A = some ⟨b, o, none⟩ ∧ b < w.heap.size ∧ ∀ j f, fs[j]? = some f → ∃ v n y, w.cell? ⟨b, o + (i * fs.size + j), none⟩ = some v ∧ DataW.trod enc P w base spare held n f.type [v] = some y := by
  intro i hi
  rcases open_slice ht h with ⟨hcs, _⟩ | ⟨a, len', cap', m, n, D, Pl, hcs, _, hl, _, hmm, _, hrow⟩
  · simp only [List.cons.injEq, Value.slice.injEq] at hcs
    omega
  · simp only [List.cons.injEq, Value.slice.injEq, and_true] at hcs
    obtain ⟨rfl, rfl, rfl⟩ := hcs
    have him : i < m := by rw [hmm]; split <;> omega
    obtain ⟨cs, hc, hy⟩ := hrow i him
    rw [hC] at hc
    obtain ⟨_, hlen, hat⟩ := World.cells?_some hc
    obtain ⟨ys, k, _, _, _, hyl, hf⟩ := DataW.trod_struct he hy
    have hcell : ∀ j, j < fs.size → ∃ v, cs[j]? = some v ∧ w.cell? (a.add (i * fs.size + j)) = some v := by
      intro j hj
      have hv : cs[j]? = some (cs[j]'(by omega)) := List.getElem?_eq_getElem (by omega)
      exact ⟨_, hv, by rw [← Go.Deep.add_add, hat j hj, hv]⟩
    obtain ⟨b, o, spot⟩ := a
    have hspot : spot = none := by
      obtain ⟨cs0, hc0, _⟩ := hrow 0 (by omega)
      rw [hC] at hc0
      obtain ⟨_, hlen0, hat0⟩ := World.cells?_some hc0
      have e := hat0 0 h0
      have hv : cs0[0]? = some (cs0[0]'(by omega)) := List.getElem?_eq_getElem (by omega)
      rw [hv] at e
      simpa [Addr.add] using World.cell?_spot e
    subst hspot
    refine ⟨b, o, rfl, ?_, fun j f hj => ?_⟩
    · obtain ⟨v, _, hv⟩ := hcell 0 h0
      have := World.block_lt_of_cell? w _ hv
      rwa [add_block] at this
    · have hjl : j < fs.size := (Array.getElem?_eq_some_iff.1 hj).1
      obtain ⟨ho, hk⟩ := hone_of hone j f hj
      obtain ⟨v, hv, hcv⟩ := hcell j hjl
      have h1 := hf j f hj
      rw [ho, hk, List.drop_eq_getElem_cons (by omega)] at h1
      have hys : ys[j]? = some (ys[j]'(by omega)) := List.getElem?_eq_getElem (by omega)
      rw [List.getElem?_eq_getElem (by omega)] at hv
      injection hv with hv
      rw [hv] at h1
      refine ⟨v, k, _, by rw [← add_at]; exact hcv, h1.trans hys⟩
end
end Go.Proofs.YtocdbeonogfopaaGreat
