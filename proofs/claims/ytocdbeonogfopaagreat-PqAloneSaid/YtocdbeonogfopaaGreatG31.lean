import Derived.Test.YtocdbeonogfopaaGreatG30
import Derived.Test.YtocdbeonogfopaaGreatG24
import Derived.Test.YtocdbeonogfopaaGreatG26
import Derived.Test.YtocdbeonogfopaaGreatG29
set_option linter.unusedVariables false
set_option linter.unusedSimpArgs false
namespace Go.Proofs.YtocdbeonogfopaaGreat
theorem wtN_like {r r' : LS} (h1 : r'.n = r.n) (h2 : r'.task = r.task) (h3 : r'.op = r.op) (h4 : r'.line = r.line) (h5 : r'.a = r.a) : wtR wtN r' = wtR wtN r := by
  show wtN _ _ _ _ _ _ = wtN _ _ _ _ _ _
  rw [h1, h2, h3, h4, h5]; rfl
theorem wtN_give {r : LS} (h : ((r.op = 4 ∨ r.op = 8) ∧ r.line = 5) ∨ ((r.op = 6 ∨ r.op = 7) ∧ r.line = 10)) : wtR wtN r = some (nc r.n r.task, isN) := by
  show wtN _ _ _ _ _ _ = _
  unfold wtN
  rw [if_neg (by omega), if_pos h]
theorem waitln_give {r : LS} {a : Int} {ok : Bool} (hl : r.line = a + 2) (h : ((r.op = 4 ∨ r.op = 8) ∧ r.line = 5) ∨ ((r.op = 6 ∨ r.op = 7) ∧ r.line = 10)) : WaitLn wtN r (r.wGive a ok) (nc r.n r.task) isN := by
  rw [wGive_2 hl]
  obtain ⟨n1, n2, n3, n4, n5, n6, n7, n8, x1, x2, x3⟩ := seeN_fw r
  have hgv : wtR wtN r.seeN = wtR wtN r := by
    rw [wtN_give h, wtN_give (r := r.seeN) (by rw [n1, n2]; exact h), n6, n8]
  generalize r.seeN = R at *
  cases hd : (r.stepR (nc r.n r.task) isN).done
  · rw [if_neg Bool.false_ne_true]
    exact ⟨x1, x2, n4, n5, x3, fun _ => ⟨n2, n3, hgv⟩⟩
  · rw [if_pos rfl]
    exact ⟨x1, x2, n4, n5, x3, fun e => by rw [hd] at e; cases e⟩
theorem waitln_admit (r : LS) (c : Int) (q : Int → Bool) : WaitLn wtN r (r.pAdmit c q) c q := by
  unfold LS.pAdmit
  obtain ⟨f1, f2, f3, f4, f5, f6, f7, f8, fb, f9, f10⟩ := wait_fw (r := r) c q
  generalize r.wait c q = R0 at *
  obtain ⟨⟨h1, h2, h3, g4, g5⟩, g6, g7, g8, g9, gb, g10⟩ := noteIf_fw R0 (r.stepR c q).seen 4
  generalize R0.noteIf (r.stepR c q).seen 4 = R at *
  cases hd : (r.stepR c q).done
  · rw [if_neg Bool.false_ne_true]
    exact ⟨g10.trans f10, g5.trans f9, g8.trans f7, gb.trans fb, fun _ => g9.trans f8, fun _ => ⟨g6.trans f5, g7.trans f6, wtN_like (h1.trans f1) (h3.trans f3) (g4.trans f4) (g6.trans f5) (g9.trans f8)⟩⟩
  · rw [if_pos rfl]
    exact ⟨g10.trans f10, g5.trans f9, g8.trans f7, gb.trans fb, fun _ => g9.trans f8, fun e => by rw [hd] at e; cases e⟩
theorem waitln_others (r : LS) : WaitLn wtN r r.wOthers 1 r.butMe := by
  unfold LS.wOthers
  obtain ⟨f1, f2, f3, f4, f5, f6, f7, f8, fb, f9, f10⟩ := wait_fw (r := r) 1 r.butMe
  generalize r.wait 1 r.butMe = R0 at *
  obtain ⟨⟨h1, h2, h3, g4, g5⟩, g6, g7, g8, g9, gb, g10⟩ := noteIf_fw R0 (r.stepR 1 r.butMe).seen 9
  generalize R0.noteIf (r.stepR 1 r.butMe).seen 9 = R at *
  cases hd : (r.stepR 1 r.butMe).done
  · rw [if_neg Bool.false_ne_true]
    exact ⟨g10.trans f10, g5.trans f9, g8.trans f7, gb.trans fb, fun _ => g9.trans f8, fun _ => ⟨g6.trans f5, g7.trans f6, wtN_like (h1.trans f1) (h3.trans f3) (g4.trans f4) (g6.trans f5) (g9.trans f8)⟩⟩
  · rw [if_pos rfl]
    exact ⟨g10.trans f10, g5.trans f9, g8.trans f7, gb.trans fb, fun _ => g9.trans f8, fun e => by rw [hd] at e; cases e⟩
theorem lines_pq : LinesQ LS.pq wtN where
  cB r c q h h1 h2 h3 := by
    obtain ⟨k, hk⟩ := Int.eq_ofNat_of_zero_le (show 0 ≤ r.n by omega)
    obtain ⟨t, ht⟩ := Int.eq_ofNat_of_zero_le h2
    have hb : bc r.n r.task = 8 + k + t := by rw [hk, ht]; exact bc_q (by omega) (by omega)
    have hn : nc r.n r.task = 8 + t := by rw [hk, ht]; exact nc_q (k := k) (by omega) (by omega)
    have h' : wtN r.n r.task r.op r.line r.a r.b = some (c, q) := h
    unfold wtN at h'
    split at h'
    · obtain ⟨rfl, rfl⟩ := Prod.mk.inj (Option.some.inj h'); omega
    split at h'
    · obtain ⟨rfl, rfl⟩ := Prod.mk.inj (Option.some.inj h'); omega
    split at h'
    · obtain ⟨rfl, rfl⟩ := Prod.mk.inj (Option.some.inj h'); omega
    split at h'
    · obtain ⟨rfl, rfl⟩ := Prod.mk.inj (Option.some.inj h'); omega
    split at h'
    · obtain ⟨rfl, rfl⟩ := Prod.mk.inj (Option.some.inj h'); omega
    · cases h'
  op0 r h := wtN_no (by omega) (by omega) (by omega) (by omega) (by omega)
  line0 r h := wtN_no (by omega) (by omega) (by omega) (by omega) (by omega)
  same r := by
    have h := good_pq (r := r)
    exact ⟨h.n, h.mode, h.task, h.op, h.len⟩
  wait r c q hon h := by
    have h' : wtN r.n r.task r.op r.line r.a r.b = some (c, q) := h
    unfold wtN at h'
    by_cases e1 : r.op = 3 ∧ r.line = 4
    · rw [if_pos e1] at h'
      obtain ⟨rfl, rfl⟩ := Prod.mk.inj (Option.some.inj h')
      rw [pq_enter (j := 4) e1.1 e1.2 (by decide), wEnter_4 e1.2]
      obtain ⟨f1, f2, f3, f4, f5, f6, f7, f8, fb, f9, f10⟩ := wait_fw (r := r) (bc r.n r.task) isZ
      generalize r.wait (bc r.n r.task) isZ = R at *
      cases hd : (r.stepR (bc r.n r.task) isZ).done
      · rw [if_neg Bool.false_ne_true]
        exact ⟨f10, f9, f7, fb, fun _ => f8, fun _ => ⟨f5, f6, wtN_like f1 f3 f4 f5 f8⟩⟩
      · rw [if_pos rfl]
        exact ⟨f10, f9, f7, fb, fun _ => f8, fun e => by rw [hd] at e; cases e⟩
    rw [if_neg e1] at h'
    by_cases e2 : ((r.op = 4 ∨ r.op = 8) ∧ r.line = 5) ∨ ((r.op = 6 ∨ r.op = 7) ∧ r.line = 10)
    · rw [if_pos e2] at h'
      obtain ⟨rfl, rfl⟩ := Prod.mk.inj (Option.some.inj h')
      rcases e2 with e3 | e3
      · rw [pq_give4 (j := 2) e3.1 (by omega) (by decide)]; exact waitln_give (by omega) (.inl e3)
      · rw [pq_give6 (j := 2) e3.1 (by omega) (by decide)]; exact waitln_give (by omega) (.inr e3)
    rw [if_neg e2] at h'
    by_cases e3 : r.op = 1 ∧ r.line = 1
    · rw [if_pos e3] at h'
      obtain ⟨rfl, rfl⟩ := Prod.mk.inj (Option.some.inj h')
      rw [pq_1_1 e3.1 e3.2]; exact waitln_admit r 0 r.left
    rw [if_neg e3] at h'
    by_cases e4 : (r.op = 3 ∧ r.line = 7) ∨ (r.op = 6 ∧ r.line = 6)
    · rw [if_pos e4] at h'
      obtain ⟨rfl, rfl⟩ := Prod.mk.inj (Option.some.inj h')
      rcases e4 with e4 | e4
      · rw [pq_3_7 e4.1 e4.2]; exact waitln_admit r 1 r.mine
      · rw [pq_6_6 e4.1 e4.2]; exact waitln_admit r 1 r.mine
    rw [if_neg e4] at h'
    by_cases e5 : r.op = 7 ∧ r.line = 6
    · rw [if_pos e5] at h'
      obtain ⟨rfl, rfl⟩ := Prod.mk.inj (Option.some.inj h')
      rw [pq_7_6 e5.1 e5.2]; exact waitln_others r
    · rw [if_neg e5] at h'; cases h'
section
variable {b : Int} {k t p : Nat} {mode : Int} {s s' : QS} {n n' : NS} {qp : Nat → Nat} {m : MV} {R : LS} {qp' : Nat}
def PlainN (r R : LS) : Prop := R.s = r.s ∧ (R.k = r.k ∨ ∃ c, R.k = beginI r.mode c)
theorem plain_do (r : LS) (K c x y : Int) : (r.doA K c x y).s = r.s ∧ (r.doA K c x y).k = r.k := ⟨rfl, rfl⟩
theorem plain_n (h : NqI b k s n qp m) (ht : t < k) (hop : (m.rs t).op ≠ 0) (hon : (m.rs t).k.on = false) (hw : wtR wtN (m.rs t) = none) : PlainN (m.at t).fresh (m.at t).fresh.pq := by
  have F := h.f t ht
  have no : ∀ {x : Option (Int × (Int → Bool))} {y : Int × (Int → Bool)}, wtR wtN (m.rs t) = some y → False := fun e => by rw [hw] at e; cases e
  cases F with
  | idle0 ho => exact absurd ho hop
  | idle1 ho => exact absurd ho hop
  | idle2 ho => exact absurd ho hop
  | come ho hl =>
    rcases ho with ho | ho
    · rw [pq_1_0 (r := (m.at t).fresh) ho hl]
      unfold LS.pCome
      obtain ⟨f1, f2⟩ := plain_do (m.at t).fresh 3 0 256 0
      generalize (m.at t).fresh.doA 3 0 256 0 = R0 at *
      split
      · exact ⟨f1, .inl f2⟩
      · exact ⟨f1, .inl f2⟩
    · rw [pq_5_0 (r := (m.at t).fresh) ho hl]
      unfold LS.pLookIn
      obtain ⟨f1, f2⟩ := plain_do (m.at t).fresh 1 0 0 0
      generalize (m.at t).fresh.doA 1 0 0 0 = R0 at *
      split
      · exact ⟨f1, .inl f2⟩
      · exact ⟨f1, .inl f2⟩
  | adm ho hl =>
    exfalso
    have e : wtR wtN (m.rs t) = some (0, fun v => bitsI v != bitsI (m.rs t).a) := by
      show wtN _ _ _ _ _ _ = _
      unfold wtN
      rw [if_neg (by omega), if_neg (by omega), if_pos ⟨ho, hl⟩]
    rw [hw] at e; cases e
  | slip ho hl =>
    rw [pq_5_1 (r := (m.at t).fresh) ho hl]
    unfold LS.pSlip
    obtain ⟨f1, f2⟩ := plain_do (m.at t).fresh 5 0 (m.at t).fresh.a (((m.at t).fresh.a + 256) % 4294967296)
    generalize (m.at t).fresh.doA 5 0 (m.at t).fresh.a (((m.at t).fresh.a + 256) % 4294967296) = R0 at *
    split
    · exact ⟨f1, .inl f2⟩
    · exact ⟨f1, .inl f2⟩
  | dep ho hl =>
    rw [pq_2_0 (r := (m.at t).fresh) ho hl]
    obtain ⟨f1, f2, f3, f4, f5⟩ := dep_fw (r := (m.at t).fresh)
    exact ⟨f1.s, .inr ⟨1, f4⟩⟩
  | depd ho hr hh hon' => rw [hon] at hon'; cases hon'
  | ent j ho hj hl =>
    rw [pq_enter (r := (m.at t).fresh) ho hl hj]
    have h5 : j = 0 ∨ j = 1 ∨ j = 2 ∨ j = 3 ∨ j = 4 := by omega
    rcases h5 with rfl | rfl | rfl | rfl | rfl
    · rw [wEnter_0 (r := (m.at t).fresh) hl]; exact ⟨rfl, .inl rfl⟩
    · rw [wEnter_1 (r := (m.at t).fresh) hl]; exact ⟨rfl, .inl rfl⟩
    · rw [wEnter_2 (r := (m.at t).fresh) hl]
      obtain ⟨f1, f2, f3, f4, _⟩ := swapIn_fw (r := (m.at t).fresh) 2 2
      generalize (m.at t).fresh.swapIn 2 2 = R0 at *
      split
      · exact ⟨f1.s, .inl f4⟩
      · exact ⟨f1.s, .inl f4⟩
    · rw [wEnter_3 (r := (m.at t).fresh) hl]
      unfold LS.link
      generalize (m.at t).fresh.me = x
      generalize nc (m.at t).fresh.n ((m.at t).fresh.a - 1) = y
      exact ⟨rfl, .inr ⟨y, rfl⟩⟩
    · exfalso
      have e : wtR wtN (m.rs t) = some (bc (m.rs t).n (m.rs t).task, isZ) := if_pos ⟨ho, hl⟩
      rw [hw] at e; cases e
  | tr j hu hj hl =>
    rw [pq_try (r := (m.at t).fresh) hu.op67 hl hj]
    have h5 : j = 0 ∨ j = 1 := by omega
    rcases h5 with rfl | rfl
    · rw [wTry_0 (r := (m.at t).fresh) hl]; exact ⟨rfl, .inl rfl⟩
    · rw [wTry_1 (r := (m.at t).fresh) hl]
      obtain ⟨f1, f2⟩ := plain_do (m.at t).fresh 5 2 0 (m.at t).fresh.me
      generalize (m.at t).fresh.doA 5 2 0 (m.at t).fresh.me = R0 at *
      split
      · exact ⟨f1, .inl f2⟩
      · exact ⟨f1, .inl f2⟩
  | turn hu =>
    have keep : ∀ l, PlainN (m.at t).fresh ((m.at t).fresh.wKeep l) := fun l => by
      obtain ⟨f1, f2, f3, f4, _⟩ := keep_fw (r := (m.at t).fresh) l
      exact ⟨f1.s, .inl f4⟩
    have app : ∀ l, PlainN (m.at t).fresh ((m.at t).fresh.pAppear l) := fun l => by
      obtain ⟨f1, f2, f3, f4, _⟩ := app_fw (r := (m.at t).fresh) l
      exact ⟨f1.s, .inl f4⟩
    have weigh : ∀ own, PlainN (m.at t).fresh ((m.at t).fresh.wWeigh own) := fun own => by
      unfold LS.wWeigh
      obtain ⟨f1, f2⟩ := plain_do (m.at t).fresh 1 1 0 0
      generalize (m.at t).fresh.doA 1 1 0 0 = R0 at *
      split
      · exact ⟨f1, .inl f2⟩
      · exact ⟨f1, .inl f2⟩
    have look : PlainN (m.at t).fresh ((m.at t).fresh.pLook 0 3) := by
      obtain ⟨f1, f2, f3, f4, _⟩ := look_fw (r := (m.at t).fresh) 3
      exact ⟨f1.s, .inl f4⟩
    rcases hu with ⟨ho, hh, hx, hl | hl⟩ | ⟨hu, hl⟩
    · rw [pq_3_5 (r := (m.at t).fresh) ho hl]; exact keep 6
    · rw [pq_3_6 (r := (m.at t).fresh) ho hl]; exact app 7
    · rcases hu.op67 with ho | ho
      · rcases hl with hl | hl | hl | hl
        · rw [pq_6_2 (r := (m.at t).fresh) ho hl]; exact look
        · rw [pq_6_3 (r := (m.at t).fresh) ho hl]; exact weigh 0
        · rw [pq_6_4 (r := (m.at t).fresh) ho hl]; exact keep 5
        · rw [pq_6_5 (r := (m.at t).fresh) ho hl]; exact app 6
      · rcases hl with hl | hl | hl | hl
        · rw [pq_7_2 (r := (m.at t).fresh) ho hl]; exact look
        · rw [pq_7_3 (r := (m.at t).fresh) ho hl]; exact weigh 256
        · rw [pq_7_4 (r := (m.at t).fresh) ho hl]; exact keep 5
        · rw [pq_7_5 (r := (m.at t).fresh) ho hl]; exact app 6
  | pres hu =>
    exfalso
    have e : ∃ y, wtR wtN (m.rs t) = some y := by
      show ∃ y, wtN _ _ _ _ _ _ = _
      unfold wtN
      have h67 : ((m.rs t).op = 3 ∧ (m.rs t).line = 7) ∨ ((m.rs t).op = 6 ∧ (m.rs t).line = 6) ∨ ((m.rs t).op = 7 ∧ (m.rs t).line = 6) := by
        rcases hu with ⟨e1, _, _, e2⟩ | ⟨e1, e2⟩
        · exact .inl ⟨e1, e2⟩
        · rcases e1.op67 with e | e
          · exact .inr (.inl ⟨e, e2⟩)
          · exact .inr (.inr ⟨e, e2⟩)
      rw [if_neg (by omega), if_neg (by omega), if_neg (by omega)]
      rcases h67 with e | e | e
      · rw [if_pos (.inl e)]; exact ⟨_, rfl⟩
      · rw [if_pos (.inr e)]; exact ⟨_, rfl⟩
      · rw [if_neg (by omega), if_pos e]; exact ⟨_, rfl⟩
    obtain ⟨y, e⟩ := e
    rw [hw] at e; cases e
  | stop ho hl =>
    rw [pq_7_7 (r := (m.at t).fresh) ho hl]
    obtain ⟨f1, f2, f3, f4, _⟩ := stop_fw (r := (m.at t).fresh)
    exact ⟨f1.s, .inl f4⟩
  | unl x' hu hl =>
    have keep : PlainN (m.at t).fresh ((m.at t).fresh.wKeep 1) := by
      obtain ⟨f1, f2, f3, f4, _⟩ := keep_fw (r := (m.at t).fresh) 1
      exact ⟨f1.s, .inl f4⟩
    have van : ∀ i w, PlainN (m.at t).fresh ((m.at t).fresh.pVanish i w) := fun i w => by
      obtain ⟨f1, f2, f3, f4, _⟩ := van_fw (r := (m.at t).fresh) i w
      exact ⟨f1.s, .inr ⟨0, f4⟩⟩
    rcases hu.op48 with ho | ho
    · rcases hl with hl | hl
      · rw [pq_4_0 (r := (m.at t).fresh) ho hl]; exact keep
      · rw [pq_4_1 (r := (m.at t).fresh) ho hl]; exact van 0 7
    · rcases hl with hl | hl
      · rw [pq_8_0 (r := (m.at t).fresh) ho hl]; exact keep
      · rw [pq_8_1 (r := (m.at t).fresh) ho hl]; exact van 256 10
  | left hu hl =>
    rw [show (m.at t).fresh.pq = (m.at t).fresh.wCount by rcases hu.op48 with e | e; exact pq_4_2 (r := (m.at t).fresh) e hl; exact pq_8_2 (r := (m.at t).fresh) e hl]
    obtain ⟨f1, f2, f3, f4, _⟩ := cnt_fw (r := (m.at t).fresh)
    exact ⟨f1.s, .inl f4⟩
  | give j a0 ok hg hj hl =>
    have key : (m.rs t).line ≠ a0 + 2 → PlainN (m.at t).fresh ((m.at t).fresh.wGive a0 ok) := fun hne => by
      have h5 : j = 0 ∨ j = 1 ∨ j = 3 := by omega
      rcases h5 with rfl | rfl | rfl
      · rw [wGive_0 (r := (m.at t).fresh) (by show (m.rs t).line = a0; omega)]
        obtain ⟨f1, f2, f3, f4, _⟩ := peek_fw (r := (m.at t).fresh)
        generalize (m.at t).fresh.peek = R0 at *
        split
        · exact ⟨f1.s, .inl f4⟩
        · exact ⟨f1.s, .inl f4⟩
      · rw [wGive_1 (r := (m.at t).fresh) (by show (m.rs t).line = a0 + 1; omega)]
        obtain ⟨f1, f2⟩ := plain_do (m.at t).fresh 5 2 (m.at t).fresh.me 0
        generalize (m.at t).fresh.doA 5 2 (m.at t).fresh.me 0 = R0 at *
        obtain ⟨n1, n2, n3, n4, _⟩ := notes_same R0 [8]
        split
        · exact ⟨n3.trans f1, .inl (n4.trans f2)⟩
        · exact ⟨f1, .inl f2⟩
      · rw [wGive_3 (r := (m.at t).fresh) (by show (m.rs t).line = a0 + 3; omega)]
        unfold LS.handOn
        obtain ⟨f1, f2⟩ := plain_do (m.at t).fresh 2 (bc (m.at t).fresh.n ((m.at t).fresh.a - 1)) 0 0
        have fm : ((m.at t).fresh.doA 2 (bc (m.at t).fresh.n ((m.at t).fresh.a - 1)) 0 0).mode = (m.at t).fresh.mode := rfl
        generalize (m.at t).fresh.doA 2 (bc (m.at t).fresh.n ((m.at t).fresh.a - 1)) 0 0 = R0 at *
        obtain ⟨n1, n2, n3, n4, n5, n6, _⟩ := notes_same R0 [8]
        generalize R0.notes [8] = R1 at *
        exact ⟨n3.trans f1, .inr ⟨bc (m.at t).fresh.n ((m.at t).fresh.a - 1), by rw [← fm, ← n6]; rfl⟩⟩
    have hne : (m.rs t).line ≠ a0 + 2 := fun e => by
      have h2 := hg.ops.2
      have e2 := wtN_give (r := m.rs t) (by omega)
      rw [hw] at e2; cases e2
    rcases hg.ops.2 with ⟨e1, e2, e3⟩ | ⟨e1, e2, e3⟩
    · rw [pq_give4 (r := (m.at t).fresh) e1 (by show (m.rs t).line = _; rw [hl, e2]) hj, ← e2, ← e3]; exact key hne
    · rw [pq_give6 (r := (m.at t).fresh) e1 (by show (m.rs t).line = _; rw [hl, e2]) hj, ← e2, ← e3]; exact key hne
  | gave a0 ok hg hl hr hon' => rw [hon] at hon'; cases hon'
structure NqInv (b : Int) (k : Nat) (mode : Int) (p : Nat) (m : MV) : Prop where
  gen : GenQ wtN k mode m
  ex : ∃ s n qp, NqI b k s n qp m ∧ n.I ≤ p
theorem pq_wakes (hk : k ≤ 64) (hg : GenQ wtN k mode m) (h : NqI b k s n qp m) (ht : t < k) (g : NqMv b k mode t s n m R s' n' qp') : ∀ i, i < k → i ≠ t → ∀ d q, wtR wtN (m.rs i) = some (d, q) → (m.rs i).s = 3 → q (wordAt R.xs d) = true → q (wordAt m.xs d) = true ∨ R.k = beginI 2 d := by
  intro i hi hne d q hw hs hq
  obtain ⟨c1, c2, c3⟩ := hg.cst i hi
  have hm : mode = 2 := by
    by_cases e : mode = 2
    · exact e
    · have := hg.sp i hi e; omega
  have hw' : wtN (m.rs i).n (m.rs i).task (m.rs i).op (m.rs i).line (m.rs i).a (m.rs i).b = some (d, q) := hw
  unfold wtN at hw'
  rw [c1, c3] at hw'
  by_cases e1 : (m.rs i).op = 3 ∧ (m.rs i).line = 4
  · rw [if_pos e1] at hw'
    obtain ⟨rfl, rfl⟩ := Prod.mk.inj (Option.some.inj hw')
    rw [g.W.w.b i hi] at hq
    rw [h.w.b i hi]
    rcases g.W.oth.b i hi hne with e | ⟨_, _, e⟩
    · rw [e] at hq; exact .inl hq
    · rw [hm] at e; exact .inr e
  rw [if_neg e1] at hw'
  by_cases e2 : (((m.rs i).op = 4 ∨ (m.rs i).op = 8) ∧ (m.rs i).line = 5) ∨ (((m.rs i).op = 6 ∨ (m.rs i).op = 7) ∧ (m.rs i).line = 10)
  · rw [if_pos e2] at hw'
    obtain ⟨rfl, rfl⟩ := Prod.mk.inj (Option.some.inj hw')
    rw [g.W.w.n i hi] at hq
    rw [h.w.n i hi]
    rcases g.W.oth.n i hi hne with e | ⟨_, _, e⟩
    · rw [e] at hq; exact .inl hq
    · rw [hm] at e; exact .inr e
  rw [if_neg e2] at hw'
  by_cases e3 : (m.rs i).op = 1 ∧ (m.rs i).line = 1
  · rw [if_pos e3] at hw'
    obtain ⟨rfl, rfl⟩ := Prod.mk.inj (Option.some.inj hw')
    have F := h.f i hi
    have hrd : n.rd i = .waits (bitsI (m.rs i).a) := by
      cases F with
      | adm _ _ _ _ _ hx => rw [hx, if_neg (by omega)]
      | idle0 ho => omega
      | idle1 ho => omega
      | idle2 ho => omega
      | come ho hl => omega
      | slip ho => omega
      | dep ho => omega
      | depd ho => omega
      | ent j ho => omega
      | tr j hu => have := hu.op67; omega
      | turn hu => rcases hu with ⟨ho, _⟩ | ⟨hu, _⟩; omega; have := hu.op67; omega
      | pres hu => rcases hu with ⟨ho, _⟩ | ⟨hu, _⟩; omega; have := hu.op67; omega
      | stop ho => omega
      | unl x' hu => have := hu.op48; omega
      | left hu => have := hu.op48; omega
      | give j a0 ok hgg => have := hgg.ops.2; omega
      | gave a0 ok hgg => have := hgg.ops.2; omega
    have hv := h.i.saw i _ hi hrd
    have b0 : bitsI (wordAt m.xs 0) = n.β := by rw [h.w0]; exact wi_bits _ _ h.i.bd
    have b1 : bitsI (wordAt R.xs 0) = n'.β := by rw [g.W.w0]; exact wi_bits _ _ g.W.i.bd
    dsimp only at hq ⊢
    rw [b1] at hq
    rw [b0]
    rcases g.W.wk0 with e | e | e
    · rw [e] at hq; exact .inl hq
    · refine .inl ?_
      rw [e]
      simp only [bne_iff_ne, ne_eq]
      omega
    · rw [hm] at e; exact .inr e
  rw [if_neg e3] at hw'
  have act1 : ahW (m.rs i).op (m.rs i).line → d = 1 → q (wordAt m.xs d) = true ∨ R.k = beginI 2 d := fun ha hd => by
    subst hd
    rcases g.W.wk1 with e | e | e
    · have hx : wordAt R.xs 1 = wordAt m.xs 1 := by rw [g.W.w1, e, h.w1]
      rw [hx] at hq; exact .inl hq
    · exact absurd (h.i.one i t hi ht ((h.f i hi).kept (.inr ha)) e) hne
    · rw [hm] at e; exact .inr e
  by_cases e4 : ((m.rs i).op = 3 ∧ (m.rs i).line = 7) ∨ ((m.rs i).op = 6 ∧ (m.rs i).line = 6)
  · rw [if_pos e4] at hw'
    have hd := (Prod.mk.inj (Option.some.inj hw')).1
    exact act1 (by unfold ahW; omega) hd.symm
  rw [if_neg e4] at hw'
  by_cases e5 : (m.rs i).op = 7 ∧ (m.rs i).line = 6
  · rw [if_pos e5] at hw'
    have hd := (Prod.mk.inj (Option.some.inj hw')).1
    exact act1 (by unfold ahW; omega) hd.symm
  · rw [if_neg e5] at hw'; cases hw'
theorem NT.setOn {h op line ret s a : Int} {on : Bool} {qp : Nat} {x : Rd} {y : Wr} (f : NT h op line ret s a on qp x y) (hr0 : ret = 0) (on' : Bool) : NT h op line 0 s a on' qp x y := by
  cases f with
  | idle0 ho hr hh hq hx hy => exact .idle0 ho rfl hh hq hx hy
  | idle1 ho hr hh hq hx hy => exact .idle1 ho rfl hh hq hx hy
  | idle2 ho hr hh hq hx hy => exact .idle2 ho rfl hh hq hx hy
  | come ho hl hr hh hq hx hy => exact .come ho hl rfl hh hq hx hy
  | adm ho hl hr hh hq hx hy => exact .adm ho hl rfl hh hq hx hy
  | slip ho hl hr hh hq hx hy hb => exact .slip ho hl rfl hh hq hx hy hb
  | dep ho hl hr hh hq hx hy => exact .dep ho hl rfl hh hq hx hy
  | depd ho hr => omega
  | ent j ho hj hl hr hh hq hx hy => exact .ent j ho hj hl rfl hh hq hx hy
  | tr j hu hj hl hr hq hy => exact .tr j hu hj hl rfl hq hy
  | turn hu hr hq hy => exact .turn hu rfl hq hy
  | pres hu hr hq hy => exact .pres hu rfl hq hy
  | stop ho hl hr hh hq hx hy => exact .stop ho hl rfl hh hq hx hy
  | unl x' hu hl hr hq hx hy => exact .unl x' hu hl rfl hq hx hy
  | left hu hl hr hq hy => exact .left hu hl rfl hq hy
  | give j a0 ok hg hj hl hr hq hy => exact .give j a0 ok hg hj hl rfl hq hy
  | gave a0 ok hg hl hr => cases ok <;> (rw [hr0] at hr; cases hr)
theorem n_waking (hk : k ≤ 64) (hg : GenQ wtN k mode m) (h : NqI b k s n qp m) (ht : t < k) (hop : (m.rs t).op ≠ 0) (hon : (m.rs t).k.on = true) : NqGo b k mode t s n m (m.at t).waking := by
  obtain ⟨c1, c2, c3⟩ := hg.cst t ht
  have A : AtQ 2 mode k t s (m.at t) := ⟨hk, ⟨by decide, by decide⟩, ht, c1, c2, c3, h.q, h.w⟩
  have T := h.t t ht
  have F := h.f t ht
  have hQ := q_wake A T
  have e1 : (m.at t).waking.op = (m.rs t).op := rfl
  have e2 : (m.at t).waking.line = (m.rs t).line := rfl
  have e3 : (m.at t).waking.ret = (m.rs t).ret := rfl
  have e5 : (m.at t).waking.s = (m.rs t).s := rfl
  have e6 : (m.at t).waking.a = (m.rs t).a := rfl
  have e7 : (m.at t).waking.b = (m.rs t).b := rfl
  have x3 : wordAt (m.at t).waking.xs 3 = wordAt m.xs 3 := by
    show wordAt (wakeI m.xs (m.rs t).n _ _ _ _).xs 3 = _
    rw [c1]
    exact own_wake (by have := pc_big k (m.at t).k.i (by omega); omega)
  obtain ⟨s', tq, q1, oth, W⟩ := world_q h hQ rfl (fun e => by rw [hon] at e; cases e)
  have W0 := W n h.i (same_n n t) ⟨rfl, rfl, rfl, rfl, rfl⟩
  generalize (m.at t).waking = R at *
  by_cases hr0 : (m.rs t).ret = 0
  · exact go_stay W0 e1 e2 (e3.trans hr0) (by rw [e5, e6]; exact F.setOn hr0 _) tq (fun e => by rw [e7, x3]; exact h.ph t ht e) (fun e => by rw [e6]; exact h.ah t ht e)
  · cases F with
    | gave a0 ok hgk hl hr hon' hq hy =>
      rw [hq] at tq
      obtain ⟨hv, hb, hid⟩ := idle_of hgk
      have hh := hgk.ops.2
      refine go_end (qp' := 0) W0 e1 e2 (e3.trans hr) (by cases ok <;> decide) hb (fun e => ⟨.gave a0 ok hgk hl rfl rfl rfl hy, by unfold phW ahW; omega⟩) (fun s' a on => by rw [hy]; exact hid s' a on) (fun a st => tq.anyN (.inl rfl))
    | depd ho hr hh hon' hq hx hy =>
      rw [hq] at tq
      exact go_end (qp' := 0) W0 (o := 2) (ret := 2) (hv := 0) (e1.trans ho) e2 (e3.trans hr) (by decide) (by rw [hh]; rfl) (fun e => ⟨.depd rfl rfl hh rfl rfl hx hy, by unfold phW ahW; omega⟩) (fun s' a on => .idle0 rfl rfl rfl rfl hx hy) (fun a st => tq.anyN (.inl rfl))
    | idle0 ho hr => exact absurd hr hr0
    | idle1 ho hr => exact absurd hr hr0
    | idle2 ho hr => exact absurd hr hr0
    | come ho hl hr => exact absurd hr hr0
    | adm ho hl hr => exact absurd hr hr0
    | slip ho hl hr => exact absurd hr hr0
    | dep ho hl hr => exact absurd hr hr0
    | ent j ho hj hl hr => exact absurd hr hr0
    | tr j hu hj hl hr => exact absurd hr hr0
    | turn hu hr => exact absurd hr hr0
    | pres hu hr => exact absurd hr hr0
    | stop ho hl hr => exact absurd hr hr0
    | unl x' hu hl hr => exact absurd hr hr0
    | left hu hl hr => exact absurd hr hr0
    | give j a0 ok hgk hj hl hr => exact absurd hr hr0
theorem NqInv.go (hk : k ≤ 64) (hk1 : 1 ≤ k) (hp : p < 50000) (h : NqInv b k mode p m) (ht : t < k) (hop : (m.rs t).op ≠ 0) (hst : (m.at t).stuck = false) : NqInv b k mode (p + 1) (m.go LS.pq t) := by
  obtain ⟨hg, s, n, qp, hI, hn⟩ := h
  rw [go_eq hst]
  cases hon : (m.rs t).k.on
  · have hR : (m.at t).next LS.pq = (m.at t).fresh.pq := by
      unfold LS.next
      rw [if_neg (by show ¬ (m.rs t).k.on = true; rw [hon]; exact Bool.false_ne_true)]
    rw [hR]
    obtain ⟨s', n', qp', g⟩ := pq_mv hk hg hI (by omega) ht hop hon
    have := g.W.I
    refine ⟨?_, s', n', _, g.keep hI ht, by omega⟩
    cases hw : wtR wtN (m.rs t) with
    | none =>
      obtain ⟨p1, p2⟩ := plain_n hI ht hop hon hw
      have P : PlainLn (m.at t).fresh (m.at t).fresh.pq := ⟨fun d hd => g.W.far hon hw d (by have e : (m.at t).fresh.n = k := (hg.cst t ht).1; omega), p1, p2⟩
      exact (stepq_plain lines_pq hk hk1 hg ht hop hon hw P (pq_wakes hk hg hI ht g)).gen lines_pq hg ht
    | some cq => exact (stepq_wait lines_pq hk hg ht hop hon hst (c := cq.1) (q := cq.2) hw).gen lines_pq hg ht
  · have hR : (m.at t).next LS.pq = (m.at t).waking := by
      unfold LS.next
      rw [if_pos (by show (m.rs t).k.on = true; exact hon)]
    rw [hR]
    obtain ⟨s', n', qp', g⟩ := n_waking hk hg hI ht hop hon
    have := g.W.I
    exact ⟨(stepq_waking lines_pq hk hg ht hop hon).gen lines_pq hg ht, s', n', _, g.keep hI ht, by omega⟩
theorem NqInv.start (h : NqInv b k mode p m) (ht : t < k) (h0 : (m.rs t).op = 0) {op : Int} (hmay : mayI op (m.hold t) = true) : NqInv b k mode p (m.start t op) := by
  obtain ⟨hg, s, n, qp, hI, hn⟩ := h
  have F := hI.f t ht
  have T := hI.t t ht
  have key : ∀ (hv : Int) (qp' : Nat), NT hv op 0 0 0 0 false qp' (n.rd t) (n.wr t) → TQ s t qp' 0 0 → fromI op (m.hold t) = hv → ∃ s n qp, NqI b k s n qp (m.start t op) ∧ n.I ≤ p := fun hv qp' f tq e => by
    refine ⟨s, n, upd qp t qp', ?_, hn⟩
    have := hI.set1 (R := zeroF (m.at t) op) (hv := hv) (qp' := qp') (xs' := m.xs) (K := wk0) (mode := mode) ht hI.q hI.w OthQ.refl hI.i (same_n n t) hI.w0 hI.w1 hI.w3 f tq (fun e => by
      have e' : phW op 0 := e
      unfold phW at e'; omega) (fun e => by
      have e' : ahW op 0 := e
      unfold ahW at e'; omega) (.inl ⟨rfl, rfl⟩)
    rw [← e] at this
    exact this
  refine ⟨hg.start lines_pq ht h0 op, ?_⟩
  cases F with
  | idle0 ho hr hh hq hx hy =>
    rw [hq] at T
    rw [hh] at hmay
    have hp : s.ph t = 0 := by cases T with | out hp => exact hp
    have h4 : op = 1 ∨ op = 3 ∨ op = 5 ∨ op = 6 := by simp [mayI] at hmay; omega
    have hf : fromI op (m.hold t) = 0 := by rw [hh]; unfold fromI; rw [if_neg (by omega), if_neg (by omega)]
    rcases h4 with e | e | e | e
    · exact key 0 0 (.come (.inl e) rfl rfl rfl rfl hx hy) (.out hp) hf
    · exact key 0 1 (.ent 0 e (by decide) rfl rfl rfl rfl hx hy) (.e0 hp) hf
    · exact key 0 0 (.come (.inr e) rfl rfl rfl rfl hx hy) (.out hp) hf
    · exact key 0 11 (.tr 0 (by rw [e, hx]; exact .u6) (by decide) rfl rfl rfl hy) (.t0 hp) hf
  | idle1 ho hr hh hq hx hy =>
    rw [hq] at T
    rw [hh] at hmay
    have hp : s.ph t = 0 := by cases T with | out hp => exact hp
    have h4 : op = 2 ∨ op = 7 := by simp [mayI] at hmay; omega
    rcases h4 with e | e
    · exact key 0 0 (.dep e rfl rfl rfl rfl hx hy) (.out hp) (by rw [e]; rfl)
    · exact key 1 11 (.tr 0 (by rw [e, hx]; exact .u7) (by decide) rfl rfl rfl hy) (.t0 hp) (by rw [e, hh]; rfl)
  | idle2 ho hr hh hq hx hy =>
    have hp := T.in5 (by omega)
    rw [hh] at hmay
    have h4 : op = 4 ∨ op = 8 := by simp [mayI] at hmay; omega
    rcases h4 with e | e
    · exact key 0 6 (.unl .no (by rw [e]; exact .u4) (.inl rfl) rfl rfl hx hy) (.own hp) (by rw [e]; rfl)
    · exact key 1 6 (.unl .reads (by rw [e]; exact .u8) (.inl rfl) rfl rfl hx hy) (.own hp) (by rw [e]; rfl)
  | come ho => omega
  | adm ho => omega
  | slip ho => omega
  | dep ho => omega
  | depd ho => omega
  | ent j ho => omega
  | tr j hu => have := hu.op67; omega
  | turn hu => rcases hu with ⟨ho, _⟩ | ⟨hu, _⟩; omega; have := hu.op67; omega
  | pres hu => rcases hu with ⟨ho, _⟩ | ⟨hu, _⟩; omega; have := hu.op67; omega
  | stop ho => omega
  | unl x' hu => have := hu.op48; omega
  | left hu => have := hu.op48; omega
  | give j a0 ok hgg => have := hgg.ops.2; omega
  | gave a0 ok hgg => have := hgg.ops.2; omega
end
end Go.Proofs.YtocdbeonogfopaaGreat
set_option linter.unusedVariables false
set_option linter.unusedSimpArgs false
namespace Go.Proofs.YtocdbeonogfopaaGreat
def ownW (xs : List Int) : Int → Int := fun d => if 0 ≤ d ∧ d < 8 then wordAt xs d else 0
theorem ownW_same {xs ys : List Int} (h : ∀ d, 0 ≤ d → d < 8 → wordAt ys d = wordAt xs d) : ownW ys = ownW xs := by
  funext d; unfold ownW; split
  · rename_i e; exact h d e.1 e.2
  · rfl
theorem ownW_at {xs : List Int} {d : Int} (h0 : 0 ≤ d) (h1 : d < 8) : ownW xs d = wordAt xs d := if_pos ⟨h0, h1⟩
def perms (k : Nat) (m : MV) : Nat := sumN (fun i => if hasP m.xs k i then 1 else 0) k
theorem sum_move {f g : Nat → Nat} {k t e : Nat} (ht : t < k) (h : ∀ i, i < k → i ≠ t → g i ≤ f i + e) : sumN g k + f t + e ≤ sumN f k + k * e + g t := by
  have h1 : sumN g k ≤ sumN (upd (fun i => f i + e) t (g t)) k := sumN_le fun i hi => by
    by_cases e1 : i = t
    · subst e1; rw [upd_same]; exact Nat.le_refl _
    · rw [upd_other _ _ e1]; exact h i hi e1
  have h2 := sumN_upd (f := fun i => f i + e) (g := upd (fun i => f i + e) t (g t)) (t := t) (k := k) ht (fun i _ hi => upd_other _ _ hi)
  rw [upd_same] at h2
  have h3 : sumN (fun i => f i + e) k = sumN f k + k * e := by
    rw [sumN_add (f := f) (g := fun _ => e), sumN_const]
  rw [h3] at h2
  try dsimp only at h2
  omega
section
variable {k : Nat}
theorem swp_next (k : Nat) (c : Int) {i0 : Nat} (h : i0 < k) : swp k (nextI k c i0) ≤ 5 * (k - i0 - 1) := by
  unfold nextI
  split
  · simp [swp, wk0]
  · unfold swp
    simp only [Bool.false_eq_true, if_false, if_true, Nat.sub_zero]
    have : ((i0 : Int) + 1).toNat = i0 + 1 := by omega
    rw [this]; omega
theorem perms_one {m m' : MV} {i : Nat} (hi : i < k) (h : ∀ j, j < k → j ≠ i → hasP m'.xs k j = hasP m.xs k j) : perms k m' + (if hasP m.xs k i then 1 else 0) = perms k m + (if hasP m'.xs k i then 1 else 0) := by
  have := sumN_upd (f := fun i : Nat => if hasP m.xs (k : Int) (i : Int) then 1 else 0) (g := fun i : Nat => if hasP m'.xs (k : Int) (i : Int) then 1 else 0) (t := i) (k := k) hi (fun j hj hne => by simp only [h j hj hne])
  exact this
theorem perms_same {m m' : MV} (h : ∀ j, j < k → hasP m'.xs k j = hasP m.xs k j) : perms k m' = perms k m := sumN_congr fun i hi => by simp only [h i hi]
end
end Go.Proofs.YtocdbeonogfopaaGreat
set_option linter.unusedVariables false
set_option linter.unusedSimpArgs false
namespace Go.Proofs.YtocdbeonogfopaaGreat
abbrev VG := (Int → Int) → Int → LS → Nat
structure Alk (r r' : LS) : Prop where
  n : r'.n = r.n
  task : r'.task = r.task
  op : r'.op = r.op
  line : r'.line = r.line
  ret : r'.ret = r.ret
  a : r'.a = r.a
  b : r'.b = r.b
theorem Alk.wt {wt : WtG} {r r' : LS} (h : Alk r r') : wtR wt r' = wtR wt r := by unfold wtR; rw [h.n, h.task, h.op, h.line, h.a, h.b]
structure WorthQ (V : VG) : Prop where
  like : ∀ w h (r r' : LS), Alk r r' → r'.s = r.s → V w h r' = V w h r
  over : ∀ w h (r : LS), r.ret ≠ 0 → V w (behindI r.op r.ret h) (zeroF r 0) ≤ V w h r
def shareQ (V : VG) (k : Nat) (m : MV) (i : Nat) : Nat := swp k (m.rs i).k + stp (m.rs i).s + V (ownW m.xs) (m.hold i) (m.rs i)
def FQ (V : VG) (k : Nat) (m : MV) : Nat := sumN (shareQ V k m) k + 3 * perms k m
def BlkQ (wt : WtG) (k : Nat) (mode : Int) (m : MV) (t : Nat) : Prop :=
  ((m.rs t).op = 0 ∧ m.hold t = 0) ∨ ((m.rs t).op ≠ 0 ∧ (m.rs t).k.on = false ∧ ∃ c q, wtR wt (m.rs t) = some (c, q) ∧ ((mode ≠ 2 ∧ q (wordAt m.xs c) = false) ∨ (mode = 2 ∧ (m.rs t).s = 3 ∧ hasP m.xs k t = false)))
section
variable {L : LS → LS} {wt : WtG} {V : VG} {k : Nat} {mode : Int} {m : MV} {t : Nat}
theorem potq_go (hL : LinesQ L wt) (hV : WorthQ V) (hk : k ≤ 64) (h : GenQ wt k mode m) (ht : t < k) (hop : (m.rs t).op ≠ 0) (hb : ¬ BlkQ wt k mode m t)
    (hD : ∀ c q, (m.rs t).k.on = false → wtR wt (m.rs t) = some (c, q) → (stepI m.xs k mode t (m.rs t).s c q).done = true → V (ownW m.xs) ((L (m.at t).fresh).finH (m.hold t)) (L (m.at t).fresh).finR + 4 ≤ V (ownW m.xs) (m.hold t) (m.rs t))
    (hN : ∀ c q, (m.rs t).k.on = false → wtR wt (m.rs t) = some (c, q) → (stepI m.xs k mode t (m.rs t).s c q).done = false → V (ownW m.xs) (m.hold t) (L (m.at t).fresh) ≤ V (ownW m.xs) (m.hold t) (m.rs t))
    (hPL : (m.rs t).k.on = false → wtR wt (m.rs t) = none → PlainLn (m.at t).fresh (L (m.at t).fresh))
    (hP : (m.rs t).k.on = false → wtR wt (m.rs t) = none → ∃ e, (∀ i, i < k → i ≠ t → V (ownW (L (m.at t).fresh).xs) (m.hold i) (m.rs i) ≤ V (ownW m.xs) (m.hold i) (m.rs i) + e) ∧ swp k (L (m.at t).fresh).finR.k + V (ownW (L (m.at t).fresh).xs) ((L (m.at t).fresh).finH (m.hold t)) (L (m.at t).fresh).finR + k * e < V (ownW m.xs) (m.hold t) (m.rs t)) :
    (m.at t).stuck = false ∧ FQ V k (m.go L t) < FQ V k m := by
  obtain ⟨c1, c2, c3⟩ := h.cst t ht
  have hns : (m.at t).stuck = false := by
    cases e : (m.at t).stuck
    · rfl
    · exfalso
      have hon : (m.at t).k.on = false := by
        cases e2 : (m.at t).k.on
        · rfl
        · unfold LS.stuck at e; rw [e2] at e; cases e
      obtain ⟨e1, e2, e3⟩ := stuck_iff hon e
      rw [c1, c3] at e3
      obtain ⟨⟨c, q, hw⟩, _⟩ := h.sw t ht (by omega)
      exact hb (.inr ⟨hop, hon, c, q, hw, .inr ⟨c2.symm.trans e1, e2, e3⟩⟩)
  refine ⟨hns, ?_⟩
  rw [go_eq hns]
  generalize hR : (m.at t).next L = R
  have hmain : ∀ (e a b : Nat), (∀ i, i < k → i ≠ t → V (ownW R.xs) (m.hold i) (m.rs i) ≤ V (ownW m.xs) (m.hold i) (m.rs i) + e) → perms k ⟨upd m.rs t R.finR, upd m.hold t (R.finH (m.hold t)), R.xs⟩ + b ≤ perms k m + a → swp k R.finR.k + stp R.finR.s + V (ownW R.xs) (R.finH (m.hold t)) R.finR + k * e + 3 * a < swp k (m.rs t).k + stp (m.rs t).s + V (ownW m.xs) (m.hold t) (m.rs t) + 3 * b → FQ V k ⟨upd m.rs t R.finR, upd m.hold t (R.finH (m.hold t)), R.xs⟩ < FQ V k m := by
    intro e a b h1 h2 h3
    have hs := sum_move (f := shareQ V k m) (g := shareQ V k ⟨upd m.rs t R.finR, upd m.hold t (R.finH (m.hold t)), R.xs⟩) (k := k) (t := t) (e := e) ht (fun i hi hne => by
      unfold shareQ
      dsimp only
      rw [upd_other _ _ hne, upd_other _ _ hne]
      have := h1 i hi hne
      omega)
    have ht1 : shareQ V k ⟨upd m.rs t R.finR, upd m.hold t (R.finH (m.hold t)), R.xs⟩ t = swp k R.finR.k + stp R.finR.s + V (ownW R.xs) (R.finH (m.hold t)) R.finR := by
      unfold shareQ; dsimp only; rw [upd_same, upd_same]
    have ht2 : shareQ V k m t = swp k (m.rs t).k + stp (m.rs t).s + V (ownW m.xs) (m.hold t) (m.rs t) := rfl
    unfold FQ
    omega
  cases hon : (m.rs t).k.on
  · have hR' : R = L (m.at t).fresh := by
      rw [← hR]; unfold LS.next
      rw [if_neg (by show ¬ (m.rs t).k.on = true; rw [hon]; exact Bool.false_ne_true)]
    have hsw0 : swp k (m.rs t).k = 0 := swp_off k hon
    cases hw : wtR wt (m.rs t) with
    | none =>
      obtain ⟨e, h1, h2⟩ := hP hon hw
      rw [← hR'] at h1 h2
      have P := hPL hon hw
      have cn : (m.at t).fresh.n = k := c1
      have hs0 : (m.rs t).s = 0 := by
        by_cases e2 : (m.rs t).s = 0
        · exact e2
        · obtain ⟨⟨c, q, e3⟩, _⟩ := h.sw t ht e2
          rw [hw] at e3; cases e3
      have hRs : R.finR.s = 0 := by
        have : R.s = 0 := by rw [hR']; exact P.s.trans hs0
        unfold LS.finR; split
        · rfl
        · exact this
      refine hmain e 0 0 h1 ?_ (by rw [hRs, hs0, hsw0]; omega)
      rw [perms_same (m := m) fun j hj => by
        show hasP R.xs k j = _
        rw [hR']; unfold hasP; rw [P.far _ (by rw [cn, pc_at hk hj]; omega)]; rfl]
      exact Nat.le_refl _
    | some cq =>
      obtain ⟨c, q⟩ := cq
      have W := hL.wait (m.at t).fresh c q hon hw
      have hSR : (m.at t).fresh.stepR c q = stepI m.xs k mode t (m.rs t).s c q := by
        show stepI m.xs (m.rs t).n (m.rs t).mode (m.rs t).task (m.rs t).s c q = _
        rw [c1, c2, c3]
      have hxs := W.xs
      have hs' := W.s
      have hstay := W.stay
      rw [hSR] at hxs hs' hstay
      rw [← hR'] at hxs hs' hstay
      have hkR : R.k = (m.rs t).k := by rw [hR']; exact W.k
      have hown : ownW R.xs = ownW m.xs := ownW_same fun d h0 h1 => by
        rw [hxs]; exact own_wait (by rw [wc_at hk ht]; omega) (by rw [pc_at hk ht]; omega)
      have hper : ∀ i, i < k → _ := fun i hi => step_per (xs := m.xs) (mode := mode) (s := (m.rs t).s) (c := c) (q := q) hk h.len ht hi
      have hkf : swp k R.finR.k = 0 := by
        unfold LS.finR; split
        · exact swp_off k rfl
        · rw [hkR]; exact hsw0
      have hoth : ∀ i, i < k → i ≠ t → V (ownW R.xs) (m.hold i) (m.rs i) ≤ V (ownW m.xs) (m.hold i) (m.rs i) + 0 := fun i _ _ => by rw [hown]; omega
      have hsame : ¬ (mode = 2 ∧ (m.rs t).s = 3) → perms k ⟨upd m.rs t R.finR, upd m.hold t (R.finH (m.hold t)), R.xs⟩ + 0 ≤ perms k m + 0 := fun e => by
        rw [perms_same (m := m) fun j hj => by
          show hasP R.xs k j = _
          rw [hxs, hper j hj, if_neg (fun e2 => e e2.2)]]
        omega
      have hnext := step_next (xs := m.xs) (k := k) (mode := mode) (t := t) (s := (m.rs t).s) (c := c) (q := q)
      have hd0 := step_done0 (xs := m.xs) (k := k) (mode := mode) (t := t) (s := (m.rs t).s) (c := c) (q := q)
      cases hd : (stepI m.xs k mode t (m.rs t).s c q).done
      · obtain ⟨l1, l2, l3⟩ := hstay hd
        have hr0 : R.ret = 0 := l2.trans (h.rt t ht hon)
        have hno : R.over = false := by unfold LS.over; rw [hr0]; rfl
        have hf : R.finR = R := by unfold LS.finR; rw [hno]; rfl
        have hh : R.finH (m.hold t) = m.hold t := by unfold LS.finH; rw [hno]; rfl
        have hVs : V (ownW R.xs) (R.finH (m.hold t)) R.finR ≤ V (ownW m.xs) (m.hold t) (m.rs t) := by
          rw [hf, hh, hown, hR']
          exact hN c q hon hw hd
        have p0 : stp 0 = 4 := rfl
        have p1 : stp 1 = 3 := rfl
        have p2 : stp 2 = 2 := rfl
        have p3 : stp 3 = 0 := rfl
        have p4 : stp 4 = 1 := rfl
        have hsr := h.sr t ht
        rcases hnext with ⟨e1, e2⟩ | ⟨em, _, ⟨e1, e2, e3, e4, e5⟩ | ⟨e1, e2⟩ | ⟨e1, e2⟩ | ⟨e1, e2, e3⟩⟩
        · rcases e2 with e2 | e2
          · rw [hd] at e2; cases e2
          · exfalso
            rw [stepI_spin e2] at hd
            exact hb (.inr ⟨hop, hon, c, q, hw, .inl ⟨e2, hd⟩⟩)
        · refine hmain 0 0 0 hoth (hsame (by omega)) ?_
          rw [hf] at hVs
          rw [hkf, hf, hs', e1, show (m.rs t).s = 0 by omega]
          omega
        · rcases e2 with e2 | ⟨e2, e3⟩
          · refine hmain 0 0 0 hoth (hsame (by omega)) ?_
            rw [hf] at hVs
            rw [hkf, hf, hs', e1, e2]
            omega
          · refine hmain 0 0 1 hoth ?_ ?_
            · have := perms_one (k := k) (m := m) (m' := ⟨upd m.rs t R.finR, upd m.hold t (R.finH (m.hold t)), R.xs⟩) ht (fun j hj hne => by
                show hasP R.xs k j = _
                rw [hxs, hper j hj, if_neg (fun e4 => hne e4.1)])
              have hpt : hasP R.xs k t = false := by rw [hxs, hper t ht, if_pos ⟨rfl, em, e2⟩]
              simp only [hpt, e3] at this
              simp at this
              omega
            · rw [hf] at hVs
              rw [hkf, hf, hs', e1, e2]
              omega
        · rcases e2 with ⟨e2, _⟩ | ⟨e2, e3⟩
          · refine hmain 0 0 0 hoth (hsame (by omega)) ?_
            rw [hf] at hVs
            rw [hkf, hf, hs', e1, e2]
            omega
          · exact absurd (.inr ⟨hop, hon, c, q, hw, .inr ⟨em, e2, e3⟩⟩) hb
        · refine hmain 0 0 0 hoth (hsame (by omega)) ?_
          rw [hf] at hVs
          rw [hkf, hf, hs', e1, e2]
          omega
      · have hDD := hD c q hon hw hd
        rw [← hR'] at hDD
        have h0 := hd0 hd
        have hRs : R.finR.s = 0 := by
          unfold LS.finR; split
          · rfl
          · rw [hs', h0]
        have hn3 : ¬ (mode = 2 ∧ (m.rs t).s = 3) := fun ⟨e1, e2⟩ => by
          rw [e1, e2, stepI_3] at hd; cases hd
        have hst : 1 ≤ stp (m.rs t).s := by
          have hsr := h.sr t ht
          by_cases em : mode = 2
          · rcases hsr with e | e | e | e | e <;> rw [e] <;> first | decide | (exact absurd ⟨em, e⟩ hn3)
          · rw [h.sp t ht em]; decide
        refine hmain 0 0 0 hoth (hsame hn3) ?_
        rw [hkf, hRs, hown, hsw0]
        show 0 + 4 + _ + _ + _ < _
        omega
  · have hR' : R = (m.at t).waking := by
      rw [← hR]; unfold LS.next
      rw [if_pos (by show (m.rs t).k.on = true; exact hon)]
    obtain ⟨k0, k1⟩ := h.kon t ht hon
    have hs0 : (m.rs t).s = 0 := by
      by_cases e : (m.rs t).s = 0
      · exact e
      · rw [(h.sw t ht e).2] at hon; cases hon
    obtain ⟨i0, hi0⟩ := Int.eq_ofNat_of_zero_le k0
    have hi1 : i0 < k := by omega
    obtain ⟨on, kc, ki, hit, hkk⟩ : ∃ on kc ki hit, (m.rs t).k = ⟨on, kc, ki, hit⟩ := ⟨_, _, _, _, rfl⟩
    rw [hkk] at hon hi0
    dsimp only at hon hi0
    subst hon hi0
    obtain ⟨wh, wl⟩ := wake_cases (xs := m.xs) (c := kc) (hit := hit) hk h.len hi1
    have hxs : R.xs = (wakeI m.xs k true kc i0 hit).xs := by rw [hR']; show (wakeI m.xs (m.rs t).n _ _ _ _).xs = _; rw [c1, show (m.at t).k = ⟨true, kc, (i0 : Int), hit⟩ from hkk]
    have hk' : R.k = (wakeI m.xs k true kc i0 hit).next := by rw [hR']; show (wakeI m.xs (m.rs t).n _ _ _ _).next = _; rw [c1, show (m.at t).k = ⟨true, kc, (i0 : Int), hit⟩ from hkk]
    have hRs : R.s = 0 := by rw [hR']; exact hs0
    have hown : ownW R.xs = ownW m.xs := ownW_same fun d h0 h1 => by
      rw [hxs]; exact own_wake (by rw [pc_at hk hi1]; omega)
    have hoth : ∀ i, i < k → i ≠ t → V (ownW R.xs) (m.hold i) (m.rs i) ≤ V (ownW m.xs) (m.hold i) (m.rs i) + 0 := fun i _ _ => by rw [hown]; omega
    have hVR : V (ownW m.xs) (m.hold t) R = V (ownW m.xs) (m.hold t) (m.rs t) := hV.like _ _ _ _ ⟨by rw [hR']; rfl, by rw [hR']; rfl, by rw [hR']; rfl, by rw [hR']; rfl, by rw [hR']; rfl, by rw [hR']; rfl, by rw [hR']; rfl⟩ (by rw [hR']; rfl)
    have hfin : swp k R.finR.k + stp R.finR.s + V (ownW R.xs) (R.finH (m.hold t)) R.finR ≤ swp k R.k + 4 + V (ownW m.xs) (m.hold t) (m.rs t) := by
      rw [hown]
      cases ho : R.over
      · rw [show R.finR = R by unfold LS.finR; rw [ho]; rfl, show R.finH (m.hold t) = m.hold t by unfold LS.finH; rw [ho]; rfl, hRs, hVR]
        exact Nat.le_refl _
      · have hret : R.ret ≠ 0 := by
          unfold LS.over at ho
          have : R.ret ≠ 0 ∧ R.k.on = false := by simpa using ho
          exact this.1
        rw [show R.finR = zeroF R 0 by unfold LS.finR; rw [ho]; rfl, show R.finH (m.hold t) = behindI R.op R.ret (m.hold t) by unfold LS.finH; rw [ho]; rfl]
        have h1 := hV.over (ownW m.xs) (m.hold t) R hret
        rw [hVR] at h1
        have h2 : swp k (zeroF R 0).k = 0 := swp_off k rfl
        have h3 : stp (zeroF R 0).s = 4 := rfl
        omega
    have hst : stp (m.rs t).s = 4 := by rw [hs0]; rfl
    cases hh : hit
    · subst hh
      obtain ⟨w1, w2⟩ := wl rfl
      have hold : swp k (m.rs t).k = 5 * (k - i0) := by rw [hkk]; simp [swp]
      refine hmain 0 0 0 hoth ?_ ?_
      · rw [perms_same (m := m) fun j hj => by show hasP R.xs k j = _; rw [hxs, w1]]
        exact Nat.le_refl _
      · have : swp k R.k < 5 * (k - i0) := by
          rw [hk']
          rcases w2 with ⟨_, e⟩ | ⟨_, e⟩
          · rw [e]; simp [swp]; omega
          · rw [e]; have := swp_next k kc hi1; omega
        omega
    · subst hh
      obtain ⟨w1, w2⟩ := wh rfl
      have hold : swp k (m.rs t).k = 5 * (k - i0) - 1 := by rw [hkk]; simp [swp]
      refine hmain 0 1 0 hoth ?_ ?_
      · have := perms_one (k := k) (m := m) (m' := ⟨upd m.rs t R.finR, upd m.hold t (R.finH (m.hold t)), R.xs⟩) hi1 (fun j hj hne => by
          show hasP R.xs k j = _
          rw [hxs, w2 j hj, if_neg hne])
        have : (if hasP R.xs (k : Int) (i0 : Int) then 1 else 0) ≤ 1 := by split <;> omega
        dsimp only at *
        omega
      · have : swp k R.k ≤ 5 * (k - i0 - 1) := by rw [hk', w1]; exact swp_next k kc hi1
        omega
end
end Go.Proofs.YtocdbeonogfopaaGreat
set_option linter.unusedVariables false
set_option linter.unusedSimpArgs false
namespace Go.Proofs.YtocdbeonogfopaaGreat
def pickI (L : LS → LS) (m : MV) (t : Nat) : MV := playI L m t (2 * m.hold t)
def roundN (L : LS → LS) (m : MV) : Nat → MV
  | 0 => m
  | j + 1 => pickI L (roundN L m j) j
def AtRest (k : Nat) (m : MV) : Prop := ∀ t, t < k → (m.rs t).op = 0 ∧ m.hold t = 0
section
variable {L : LS → LS} {k : Nat} {m : MV} {t : Nat}
theorem done_pick (hd : AtRest k m) (ht : t < k) : pickI L m t = m := by
  obtain ⟨h1, h2⟩ := hd t ht
  unfold pickI playI
  rw [if_pos (show (m.at t).op = 0 from h1), h2]
  rfl
theorem done_round (hd : AtRest k m) : ∀ j, j ≤ k → roundN L m j = m
  | 0, _ => rfl
  | j + 1, h => by
    show pickI L (roundN L m j) j = m
    rw [done_round hd j (by omega)]
    exact done_pick hd (by omega)
end
end Go.Proofs.YtocdbeonogfopaaGreat
set_option linter.unusedVariables false
set_option linter.unusedSimpArgs false
namespace Go.Proofs.YtocdbeonogfopaaGreat
structure LockQ (L : LS → LS) (wt : WtG) (V : VG) (k : Nat) (mode : Int) (B : Nat) (Inv : Nat → MV → Prop) : Prop where
  k64 : 1 ≤ k ∧ k ≤ 64
  lines : LinesQ L wt
  worth : WorthQ V
  gen : ∀ p m, Inv p m → GenQ wt k mode m
  holds : ∀ p m, Inv p m → ∀ i, i < k → m.hold i = 0 ∨ m.hold i = 1 ∨ m.hold i = 2
  start : ∀ p m t op, Inv p m → t < k → (m.rs t).op = 0 → mayI op (m.hold t) = true → Inv p (m.start t op)
  go : ∀ p m t, Inv p m → p < B → t < k → (m.rs t).op ≠ 0 → (m.at t).stuck = false → Inv (p + 1) (m.go L t)
  up : ∀ p m, Inv p m → Inv (p + 1) m
  worthS : ∀ p m t, Inv p m → t < k → (m.rs t).op = 0 → (m.hold t = 1 ∨ m.hold t = 2) → V (ownW m.xs) (fromI (2 * m.hold t) (m.hold t)) (zeroF (m.at t) (2 * m.hold t)) ≤ V (ownW m.xs) (m.hold t) (m.rs t)
  worthD : ∀ p m t, Inv p m → t < k → (m.rs t).op ≠ 0 → ∀ c q, (m.rs t).k.on = false → wtR wt (m.rs t) = some (c, q) → (stepI m.xs k mode t (m.rs t).s c q).done = true → V (ownW m.xs) ((L (m.at t).fresh).finH (m.hold t)) (L (m.at t).fresh).finR + 4 ≤ V (ownW m.xs) (m.hold t) (m.rs t)
  worthN : ∀ p m t, Inv p m → t < k → (m.rs t).op ≠ 0 → ∀ c q, (m.rs t).k.on = false → wtR wt (m.rs t) = some (c, q) → (stepI m.xs k mode t (m.rs t).s c q).done = false → V (ownW m.xs) (m.hold t) (L (m.at t).fresh) ≤ V (ownW m.xs) (m.hold t) (m.rs t)
  plain : ∀ p m t, Inv p m → p < B → t < k → (m.rs t).op ≠ 0 → (m.rs t).k.on = false → wtR wt (m.rs t) = none → PlainLn (m.at t).fresh (L (m.at t).fresh)
  worthP : ∀ p m t, Inv p m → p < B → t < k → (m.rs t).op ≠ 0 → (m.rs t).k.on = false → wtR wt (m.rs t) = none → ∃ e, (∀ i, i < k → i ≠ t → V (ownW (L (m.at t).fresh).xs) (m.hold i) (m.rs i) ≤ V (ownW m.xs) (m.hold i) (m.rs i) + e) ∧ swp k (L (m.at t).fresh).finR.k + V (ownW (L (m.at t).fresh).xs) ((L (m.at t).fresh).finH (m.hold t)) (L (m.at t).fresh).finR + k * e < V (ownW m.xs) (m.hold t) (m.rs t)
  rest : ∀ p m, Inv p m → (∀ t, t < k → BlkQ wt k mode m t) → ∀ t, t < k → (m.rs t).op = 0 ∧ m.hold t = 0
structure SimQ (m m' : MV) : Prop where
  xs : m'.xs = m.xs
  hold : m'.hold = m.hold
  rs : ∀ i, Alk (m.rs i) (m'.rs i) ∧ (m'.rs i).s = (m.rs i).s ∧ (m'.rs i).k = (m.rs i).k
theorem alk_refl (r : LS) : Alk r r := ⟨rfl, rfl, rfl, rfl, rfl, rfl, rfl⟩
theorem simQ_refl (m : MV) : SimQ m m := ⟨rfl, rfl, fun i => ⟨alk_refl _, rfl, rfl⟩⟩
theorem Alk.trans {r r' r'' : LS} (h : Alk r r') (g : Alk r' r'') : Alk r r'' := ⟨g.n.trans h.n, g.task.trans h.task, g.op.trans h.op, g.line.trans h.line, g.ret.trans h.ret, g.a.trans h.a, g.b.trans h.b⟩
theorem SimQ.trans {m m' m'' : MV} (h : SimQ m m') (g : SimQ m' m'') : SimQ m m'' :=
  ⟨g.xs.trans h.xs, g.hold.trans h.hold, fun i => ⟨(h.rs i).1.trans (g.rs i).1, (g.rs i).2.1.trans (h.rs i).2.1, (g.rs i).2.2.trans (h.rs i).2.2⟩⟩
section
variable {L : LS → LS} {wt : WtG} {V : VG} {k : Nat} {mode : Int} {B : Nat} {Inv : Nat → MV → Prop} {m m' : MV} {p t : Nat}
theorem SimQ.pot (hV : WorthQ V) (h : SimQ m m') : FQ V k m' = FQ V k m := by
  unfold FQ perms
  rw [h.xs]
  congr 1
  refine sumN_congr fun i _ => ?_
  obtain ⟨a1, a5, a6⟩ := h.rs i
  unfold shareQ
  rw [a5, a6, h.hold, h.xs, hV.like _ _ _ _ a1 a5]
theorem SimQ.blk (h : SimQ m m') (hb : BlkQ wt k mode m' t) : BlkQ wt k mode m t := by
  obtain ⟨a1, a5, a6⟩ := h.rs t
  unfold BlkQ at *
  rw [a1.wt, a1.op, a5, a6, h.hold, h.xs] at hb
  exact hb
theorem LockQ.play (H : LockQ L wt V k mode B Inv) (h : Inv p m) (hp : p < B) (ht : t < k) (op : Int) : Inv (p + 1) (playI L m t op) := by
  have go : ∀ m', Inv p m' → (m'.rs t).op ≠ 0 → Inv (p + 1) (m'.go L t) := fun m' h' h0 => by
    cases hs : (m'.at t).stuck
    · exact H.go p m' t h' hp ht h0 hs
    · rw [show m'.go L t = m' by unfold MV.go; rw [if_pos hs]]
      exact H.up p m' h'
  unfold playI
  split
  · rename_i h0
    split
    · rename_i hmay
      refine go _ (H.start p m t op h ht h0 hmay) ?_
      show (upd m.rs t (zeroF (m.at t) op) t).op ≠ 0
      rw [upd_same]
      show op ≠ 0
      rintro rfl
      unfold mayI at hmay
      split at hmay
      · revert hmay; decide
      · split at hmay <;> (revert hmay; decide)
    · exact H.up p m h
  · rename_i h0
    exact go m h h0
theorem LockQ.pick_less (H : LockQ L wt V k mode B Inv) (h : Inv p m) (hp : p < B) (ht : t < k) (hb : ¬ BlkQ wt k mode m t) : FQ V k (pickI L m t) < FQ V k m := by
  unfold pickI playI
  by_cases h0 : (m.at t).op = 0
  · rw [if_pos h0]
    have h00 : (m.rs t).op = 0 := h0
    have hh : m.hold t = 1 ∨ m.hold t = 2 := by
      rcases H.holds p m h t ht with e | e
      · exact absurd (.inl ⟨h0, e⟩) hb
      · exact e
    have hmay : mayI (2 * m.hold t) (m.hold t) = true := by rcases hh with e | e <;> rw [e] <;> decide
    rw [if_pos hmay]
    have hI := H.start p m t _ h ht h0 hmay
    have hw := H.worthS p m t h ht h0 hh
    have hg := H.gen p m h
    have hrs : (m.start t (2 * m.hold t)).rs t = zeroF (m.at t) (2 * m.hold t) := by show upd m.rs t _ t = _; rw [upd_same]
    have hne : ((m.start t (2 * m.hold t)).rs t).op ≠ 0 := by
      rw [hrs]; show 2 * m.hold t ≠ 0; omega
    have hF : FQ V k (m.start t (2 * m.hold t)) ≤ FQ V k m := by
      have hs := sum_move (f := shareQ V k m) (g := shareQ V k (m.start t (2 * m.hold t))) (k := k) (t := t) (e := 0) ht (fun i hi hn => by
        unfold shareQ MV.start MV.setR MV.setH
        dsimp only
        rw [upd_other _ _ hn, upd_other _ _ hn]
        exact Nat.le_refl _)
      have h1 : shareQ V k (m.start t (2 * m.hold t)) t ≤ shareQ V k m t := by
        unfold shareQ
        rw [hrs, show (m.start t (2 * m.hold t)).hold t = fromI (2 * m.hold t) (m.hold t) by show upd m.hold t _ t = _; rw [upd_same], show (m.start t (2 * m.hold t)).xs = m.xs from rfl]
        have e1 : swp k (zeroF (m.at t) (2 * m.hold t)).k = 0 := swp_off k rfl
        have e2 : stp (zeroF (m.at t) (2 * m.hold t)).s = 4 := rfl
        have e3 : stp (m.rs t).s = 4 := by
          have : (m.rs t).s = 0 := by
            by_cases e : (m.rs t).s = 0
            · exact e
            · obtain ⟨⟨c, q, e2⟩, _⟩ := hg.sw t ht e
              rw [H.lines.op0 _ h00] at e2; cases e2
          rw [this]; rfl
        omega
      unfold FQ
      rw [show perms k (m.start t (2 * m.hold t)) = perms k m from rfl]
      omega
    refine Nat.lt_of_lt_of_le (potq_go H.lines H.worth H.k64.2 (H.gen p _ hI) ht hne ?_ (H.worthD p _ t hI ht hne) (H.worthN p _ t hI ht hne) (H.plain p _ t hI hp ht hne) (H.worthP p _ t hI hp ht hne)).2 hF
    rintro (⟨e, _⟩ | ⟨_, _, c, q, e, _⟩)
    · exact hne e
    · rw [hrs] at e
      rw [H.lines.line0 _ rfl] at e; cases e
  · rw [if_neg h0]
    have h00 : (m.rs t).op ≠ 0 := h0
    exact (potq_go H.lines H.worth H.k64.2 (H.gen p m h) ht h00 hb (H.worthD p m t h ht h00) (H.worthN p m t h ht h00) (H.plain p m t h hp ht h00) (H.worthP p m t h hp ht h00)).2
theorem LockQ.pick_blk (H : LockQ L wt V k mode B Inv) (h : Inv p m) (ht : t < k) (hb : BlkQ wt k mode m t) : SimQ m (pickI L m t) := by
  have hg := H.gen p m h
  obtain ⟨c1, c2, c3⟩ := hg.cst t ht
  unfold pickI playI
  rcases hb with ⟨h0, hh⟩ | ⟨h0, hon, c, q, hw, hb⟩
  · rw [if_pos (show (m.at t).op = 0 from h0), hh]
    exact simQ_refl m
  · rw [if_neg (show ¬ (m.at t).op = 0 from h0)]
    rcases hb with ⟨hm, hq⟩ | ⟨hm, hs, hp⟩
    · have hst : (m.at t).stuck = false := by
        unfold LS.stuck stuckB
        show (!(m.rs t).k.on && ((m.rs t).mode == 2 && (m.rs t).s == 3 && _)) = false
        rw [c2, show (mode == 2) = false from beq_eq_false_iff_ne.2 hm]
        simp
      rw [go_eq hst]
      have W := H.lines.wait (m.at t).fresh c q hon hw
      obtain ⟨s1, s2, s3, s4, s5⟩ := H.lines.same (m.at t).fresh
      have hSR : (m.at t).fresh.stepR c q = stepI m.xs k mode t (m.rs t).s c q := by
        show stepI m.xs (m.rs t).n (m.rs t).mode (m.rs t).task (m.rs t).s c q = _
        rw [c1, c2, c3]
      have hR' : (m.at t).next L = L (m.at t).fresh := by
        unfold LS.next
        rw [if_neg (by show ¬ (m.rs t).k.on = true; rw [hon]; exact Bool.false_ne_true)]
      rw [hR']
      generalize L (m.at t).fresh = R at *
      have hxs := W.xs
      have hs' := W.s
      have hstay := W.stay
      have hA := W.a
      rw [hSR, stepI_spin hm] at hxs hs' hstay hA
      obtain ⟨l1, l2, l3⟩ := hstay hq
      have hno : R.over = false := by
        have : R.ret = 0 := l2.trans (hg.rt t ht hon)
        unfold LS.over; rw [this]; rfl
      rw [show R.finR = R by unfold LS.finR; rw [hno]; rfl, show R.finH (m.hold t) = m.hold t by unfold LS.finH; rw [hno]; rfl]
      refine ⟨hxs, ?_, fun i => ?_⟩
      · funext i
        show upd m.hold t (m.hold t) i = m.hold i
        unfold upd; split
        · rename_i e; rw [e]
        · rfl
      · by_cases e : i = t
        · subst e
          dsimp only
          rw [upd_same]
          exact ⟨⟨s1, s3, s4, l1, l2, hA hq, W.b⟩, by rw [hs', hg.sp i ht hm], W.k⟩
        · dsimp only
          rw [upd_other _ _ e]
          exact ⟨alk_refl _, rfl, rfl⟩
    · have hst : (m.at t).stuck = true := by
        unfold LS.stuck stuckB
        show (!(m.rs t).k.on && ((m.rs t).mode == 2 && (m.rs t).s == 3 && !hasP m.xs (m.rs t).n (m.rs t).task)) = true
        rw [hon, c1, c2, c3, hm, hs, hp]; rfl
      rw [show m.go L t = m by unfold MV.go; rw [if_pos hst]]
      exact simQ_refl m
theorem LockQ.round (H : LockQ L wt V k mode B Inv) (h : Inv p m) (hp : p + k ≤ B) : ∀ j, j ≤ k → Inv (p + j) (roundN L m j) ∧ (FQ V k (roundN L m j) < FQ V k m ∨ (SimQ m (roundN L m j) ∧ ∀ t, t < j → BlkQ wt k mode m t)) := by
  intro j
  induction j with
  | zero => exact fun _ => ⟨h, .inr ⟨simQ_refl m, fun t ht => absurd ht (Nat.not_lt_zero _)⟩⟩
  | succ j ih =>
    intro hj
    obtain ⟨hI, hF⟩ := ih (by omega)
    refine ⟨H.play hI (by omega) (by omega) _, ?_⟩
    show FQ V k (pickI L (roundN L m j) j) < FQ V k m ∨ (SimQ m (pickI L (roundN L m j) j) ∧ _)
    by_cases hb : BlkQ wt k mode (roundN L m j) j
    · have hs := H.pick_blk hI (by omega) hb
      rcases hF with hF | ⟨hS, hB⟩
      · exact .inl (by rw [hs.pot H.worth]; exact hF)
      · refine .inr ⟨hS.trans hs, fun t ht => ?_⟩
        by_cases e : t = j
        · subst e; exact hS.blk hb
        · exact hB t (by omega)
    · have hl := H.pick_less hI (by omega) (by omega) hb
      rcases hF with hF | ⟨hS, _⟩
      · exact .inl (by omega)
      · exact .inl (by rw [hS.pot H.worth] at hl; exact hl)
theorem LockQ.whole (H : LockQ L wt V k mode B Inv) (h : Inv p m) (hp : p + k ≤ B) {F j : Nat} (hF : AtRest k m ∨ FQ V k m + j ≤ F) : Inv (p + k) (roundN L m k) ∧ (AtRest k (roundN L m k) ∨ FQ V k (roundN L m k) + (j + 1) ≤ F) := by
  obtain ⟨hI, hR⟩ := H.round h hp k (Nat.le_refl _)
  refine ⟨hI, ?_⟩
  rcases hF with hF | hF
  · rw [done_round hF k (Nat.le_refl _)]; exact .inl hF
  · rcases hR with hR | ⟨_, hB⟩
    · exact .inr (by omega)
    · have hd : AtRest k m := H.rest p m h hB
      rw [done_round hd k (Nat.le_refl _)]; exact .inl hd
end
end Go.Proofs.YtocdbeonogfopaaGreat
