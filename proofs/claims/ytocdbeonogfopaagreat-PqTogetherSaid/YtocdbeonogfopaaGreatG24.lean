import Derived.Test.YtocdbeonogfopaaGreatG12
import Derived.Test.YtocdbeonogfopaaGreatG11
import Derived.Test.YtocdbeonogfopaaGreatG2
import Derived.Test.YtocdbeonogfopaaGreatG23
import Derived.Test.YtocdbeonogfopaaGreatG1
set_option linter.unusedVariables false
set_option linter.unusedSimpArgs false
namespace Go.Proofs.YtocdbeonogfopaaGreat
open Go.RowKit
section
variable {r : LS}
theorem me_bd : 0 ≤ r.me ∧ r.me < 4294967296 := by unfold LS.me; omega
theorem good_store (c x : Int) (hx : 0 ≤ x ∧ x < 4294967296) : r.Good (r.doA 2 c x 0) 0 := good_do (fun _ => hx)
theorem good_swap (c x : Int) (hx : 0 ≤ x ∧ x < 4294967296) : r.Good (r.doA 4 c x 0) 0 := good_do (fun _ => hx)
theorem good_notes (l : List Int) : ∀ r : LS, r.Good (r.notes l) l.length := by
  induction l with
  | nil => exact fun r => good_refl r
  | cons x l ih =>
    intro r
    have h := (good_note (r := r) x 0).trans (ih (r.note x 0))
    exact h.le (by simp; omega)
theorem notes_a (l : List Int) : ∀ r : LS, (r.notes l).a = r.a ∧ (r.notes l).b = r.b := by
  induction l with
  | nil => exact fun r => ⟨rfl, rfl⟩
  | cons x l ih => exact fun r => ih (r.note x 0)
def LS.Keep (r r' : LS) (m : Nat) : Prop := r.Good r' m ∧ (r'.a = r.a ∨ ∃ c, r'.a = wordAt r.xs c)
theorem keep_enter (r : LS) (tail cl : Int) : r.Keep (r.mxEnter tail cl).1 1 := by
  unfold LS.mxEnter
  by_cases l0 : r.line = 0
  · rw [if_pos l0]
    exact ⟨((good_store _ _ (by decide)).trans (good_go _)).le (by decide), .inl rfl⟩
  by_cases l1 : r.line = 1
  · rw [if_neg l0, if_pos l1]
    exact ⟨((good_store _ _ (by decide)).trans (good_go _)).le (by decide), .inl rfl⟩
  by_cases l2 : r.line = 2
  · rw [if_neg l0, if_neg l1, if_pos l2]
    have h := ((good_swap (r := r) tail r.me me_bd).trans (good_keepA (wordAt r.xs tail))).trans (good_note 2 cl)
    by_cases hz : wordAt r.xs tail = 0
    · rw [if_pos hz]
      exact ⟨h, .inr ⟨tail, rfl⟩⟩
    · rw [if_neg hz]
      exact ⟨h.trans (good_go _), .inr ⟨tail, rfl⟩⟩
  by_cases l3 : r.line = 3
  · rw [if_neg l0, if_neg l1, if_neg l2, if_pos l3]
    exact ⟨(((good_store _ _ me_bd).trans (good_wake _)).trans (good_go _)).le (by decide), .inl rfl⟩
  by_cases l4 : r.line = 4
  · rw [if_neg l0, if_neg l1, if_neg l2, if_neg l3, if_pos l4]
    exact ⟨(good_wait _ _).le (by decide), .inl rfl⟩
  · rw [if_neg l0, if_neg l1, if_neg l2, if_neg l3, if_neg l4]
    exact ⟨(good_refl r).le (by decide), .inl rfl⟩
theorem keep_seeN (r : LS) : r.Keep r.seeN 0 := by
  unfold LS.seeN
  by_cases h : (r.stepR (nc r.n r.task) isN).seen = true
  · rw [if_pos h]
    exact ⟨(good_wait _ _).trans (good_keepA _), .inr ⟨_, rfl⟩⟩
  · rw [if_neg h]
    exact ⟨good_wait _ _, .inl rfl⟩
theorem keep_give (r : LS) (tail a : Int) (l : List Int) : r.Keep (r.mxGive tail a l).1 l.length := by
  unfold LS.mxGive
  by_cases l0 : r.line = a
  · rw [if_pos l0]
    have h := (good_load (r := r) (nc r.n r.task)).trans (good_keepA (wordAt r.xs (nc r.n r.task)))
    by_cases hz : wordAt r.xs (nc r.n r.task) = 0
    · rw [if_pos hz]
      exact ⟨(h.trans (good_go _)).le (Nat.zero_le _), .inr ⟨nc r.n r.task, rfl⟩⟩
    · rw [if_neg hz]
      exact ⟨(h.trans (good_go _)).le (Nat.zero_le _), .inr ⟨nc r.n r.task, rfl⟩⟩
  by_cases l1 : r.line = a + 1
  · rw [if_neg l0, if_pos l1]
    by_cases hz : r.casOut tail = true
    · rw [if_pos hz]
      refine ⟨((good_cas _ _ _ (by decide)).trans (good_notes l _)).le (by omega), .inl ?_⟩
      exact (notes_a l _).1
    · rw [if_neg hz]
      exact ⟨((good_cas _ _ _ (by decide)).trans (good_go _)).le (Nat.zero_le _), .inl rfl⟩
  by_cases l2 : r.line = a + 2
  · rw [if_neg l0, if_neg l1, if_pos l2]
    by_cases hz : (r.stepR (nc r.n r.task) isN).done = true
    · rw [if_pos hz]
      exact ⟨((keep_seeN r).1.trans (good_go _)).le (Nat.zero_le _), (keep_seeN r).2⟩
    · rw [if_neg hz]
      exact ⟨(keep_seeN r).1.le (Nat.zero_le _), (keep_seeN r).2⟩
  by_cases l3 : r.line = a + 3
  · rw [if_neg l0, if_neg l1, if_neg l2, if_pos l3]
    refine ⟨(((good_store _ _ (by decide)).trans (good_notes l _)).trans (good_wake _)).le (by omega), .inl ?_⟩
    exact (notes_a l _).1
  · rw [if_neg l0, if_neg l1, if_neg l2, if_neg l3]
    exact ⟨(good_refl r).le (Nat.zero_le _), .inl rfl⟩
theorem LS.Keep.ab {r r' : LS} {m : Nat} (h : r.Keep r' m) (hx : Words r.xs) (ha : 0 ≤ r.a ∧ r.a < 4294967296) : Words r'.xs ∧ 0 ≤ r'.a ∧ r'.a < 4294967296 := by
  refine ⟨h.1.words hx, ?_⟩
  rcases h.2 with e | ⟨c, e⟩
  · rw [e]; exact ha
  · rw [e]; exact word_bd hx c
end
end Go.Proofs.YtocdbeonogfopaaGreat
set_option linter.unusedVariables false
set_option linter.unusedSimpArgs false
namespace Go.Proofs.YtocdbeonogfopaaGreat
open Go.RowKit
section
variable {r : LS}
def LS.Kept (r r' : LS) (m : Nat) : Prop := r.Good r' m ∧ r.KeepsAB r'
theorem LS.Kept.le {r' : LS} {m m' : Nat} (h : r.Kept r' m) (hm : m ≤ m') : r.Kept r' m' := ⟨h.1.le hm, h.2⟩
theorem LS.Kept.next {r' r'' : LS} {m m' : Nat} (h : r.Kept r' m) (g : r'.Good r'' m') (ha : r''.a = r'.a) (hb : r''.b = r'.b) : r.Kept r'' (m + m') := ⟨h.1.trans g, by unfold LS.KeepsAB at *; rw [ha, hb]; exact h.2⟩
theorem kept_self {r' : LS} {m : Nat} (g : r.Good r' m) (ha : r'.a = r.a) (hb : r'.b = r.b) : r.Kept r' m := ⟨g, .inl ha, .inl hb⟩
theorem kept_a {r' : LS} {m : Nat} (g : r.Good r' m) (c : Int) (ha : r'.a = wordAt r.xs c) (hb : r'.b = r.b) : r.Kept r' m := ⟨g, .inr ⟨c, ha⟩, .inl hb⟩
theorem kept_b {r' : LS} {m : Nat} (g : r.Good r' m) (c : Int) (ha : r'.a = r.a) (hb : r'.b = wordAt r.xs c) : r.Kept r' m := ⟨g, .inl ha, .inr ⟨c, hb⟩⟩
theorem enter_b (r : LS) (tail cl : Int) : (r.mxEnter tail cl).1.b = r.b := by
  unfold LS.mxEnter LS.swapIn LS.link
  generalize r.me = me
  (repeat' split) <;> rfl
theorem give_b (r : LS) (tail a : Int) (l : List Int) : (r.mxGive tail a l).1.b = r.b := by
  unfold LS.mxGive LS.peek LS.handOn LS.seeN
  generalize r.me = me
  generalize nc r.n r.task = cn
  generalize bc r.n (r.a - 1) = cb
  (repeat' split) <;> first | rfl | exact (notes_a l _).2
theorem try_ab (r : LS) (tail a : Int) : (r.mxTry tail a).1.b = r.b ∧ (r.mxTry tail a).1.a = r.a := by
  unfold LS.mxTry
  generalize r.me = me
  (repeat' split) <;> exact ⟨rfl, rfl⟩
theorem good_mxTry (r : LS) (tail a : Int) : r.Good (r.mxTry tail a).1 0 := by
  unfold LS.mxTry
  by_cases l0 : r.line = a
  · rw [if_pos l0]
    exact (good_store _ _ (by decide)).trans (good_go _)
  by_cases l1 : r.line = a + 1
  · rw [if_neg l0, if_pos l1]
    exact good_cas (r := r) tail 0 r.me me_bd
  · rw [if_neg l0, if_neg l1]
    exact good_refl r
theorem kept_wEnter : r.Kept r.wEnter 2 := by
  unfold LS.wEnter
  have h := keep_enter r 2 2
  have hb := enter_b r 2 2
  generalize r.mxEnter 2 2 = p at h hb ⊢
  have h' : r.Kept p.1 1 := ⟨h.1, h.2, .inl hb⟩
  split
  · exact (h'.next (good_go 5) rfl rfl).le (by decide)
  · exact h'.le (by decide)
theorem kept_wGive (a : Int) (ok : Bool) : r.Kept (r.wGive a ok) 2 := by
  unfold LS.wGive
  have h := keep_give r 2 a [8]
  have hb := give_b r 2 a [8]
  generalize r.mxGive 2 a [8] = p at h hb ⊢
  have h' : r.Kept p.1 1 := ⟨h.1, h.2, .inl hb⟩
  split
  · exact (h'.next (good_fin ok) rfl rfl).le (by decide)
  · exact h'.le (by decide)
theorem kept_wTry : r.Kept r.wTry 2 := by
  unfold LS.wTry
  have h := good_mxTry r 2 0
  have hb := try_ab r 2 0
  generalize r.mxTry 2 0 = p at h hb ⊢
  have h' : r.Kept p.1 0 := ⟨h, .inl hb.2, .inl hb.1⟩
  split
  · split
    · exact ((h'.next (good_note 2 2) rfl rfl).next (good_go 2) rfl rfl).le (by decide)
    · exact ((h'.next (good_note 5 0) rfl rfl).next (good_fin false) rfl rfl).le (by decide)
  · exact h'.le (by decide)
theorem noteIf_ab (R : LS) (b : Bool) (w : Int) : (R.noteIf b w).a = R.a ∧ (R.noteIf b w).b = R.b := by cases b <;> exact ⟨rfl, rfl⟩
theorem kept_admit (c : Int) (q : Int → Bool) : r.Kept (r.pAdmit c q) 2 := by
  unfold LS.pAdmit
  have h : r.Kept ((r.wait c q).noteIf (r.stepR c q).seen 4) 1 := kept_self (((good_wait c q).trans (good_noteIf _ _)).le (by decide)) (noteIf_ab _ _ _).1 (noteIf_ab _ _ _).2
  split
  · exact (h.next (good_fin true) rfl rfl).le (by decide)
  · exact h.le (by decide)
theorem kept_others : r.Kept r.wOthers 2 := by
  unfold LS.wOthers
  have h : r.Kept ((r.wait 1 r.butMe).noteIf (r.stepR 1 r.butMe).seen 9) 1 := kept_self (((good_wait _ _).trans (good_noteIf _ _)).le (by decide)) (noteIf_ab _ _ _).1 (noteIf_ab _ _ _).2
  split
  · exact (h.next (good_go 7) rfl rfl).le (by decide)
  · exact h.le (by decide)
theorem wmod_bd (a : Int) : 0 ≤ a % 4294967296 ∧ a % 4294967296 < 4294967296 := by omega
theorem kept_app (n : Int) : r.Kept (r.pAppear n) 2 := by
  unfold LS.pAppear
  generalize presI r.b = x
  exact kept_a ((((good_add _ _).trans (good_keepA _)).trans (good_note _ _)).trans (good_go _) |>.le (by decide)) 0 rfl rfl
theorem kept_van (i w : Int) : r.Kept (r.pVanish i w) 2 := by
  unfold LS.pVanish
  generalize (i - presI r.b) % 4294967296 = x
  exact kept_self ((((good_add _ _).trans (good_note _ _)).trans (good_wake _)).trans (good_go _) |>.le (by decide)) rfl rfl
theorem kept_cnt : r.Kept r.wCount 2 := by
  unfold LS.wCount
  have h := wmod_bd (r.b + 1)
  generalize (r.b + 1) % 4294967296 = x at h ⊢
  exact kept_self ((good_store _ _ h).trans (good_go _) |>.le (by decide)) rfl rfl
theorem kept_pq : r.Kept r.pq 2 := by
  unfold LS.pq
  split
  · unfold LS.pCome
    split
    · exact kept_a (((((good_add _ _).trans (good_keepA _)).trans (good_note _ _)).trans (good_note _ _)).trans (good_fin true) |>.le (by decide)) 0 rfl rfl
    · exact kept_a ((((good_add _ _).trans (good_keepA _)).trans (good_note _ _)).trans (good_go _) |>.le (by decide)) 0 rfl rfl
  · exact kept_admit _ _
  · exact kept_self ((((good_add _ _).trans (good_note _ _)).trans (good_wake _)).trans (good_fin true) |>.le (by decide)) rfl rfl
  · unfold LS.pLookIn
    split
    · exact kept_a (((good_load _).trans (good_keepA _)).trans (good_go _) |>.le (by decide)) 0 rfl rfl
    · exact kept_a ((((good_load _).trans (good_keepA _)).trans (good_note _ _)).trans (good_fin false) |>.le (by decide)) 0 rfl rfl
  · unfold LS.pSlip
    split
    · have g := good_cas (r := r) 0 r.a ((r.a + 256) % 4294967296) (wmod_bd _)
      generalize (r.a + 256) % 4294967296 = x at g ⊢
      exact kept_self (((g.trans (good_note _ _)).trans (good_note _ _)).trans (good_fin true) |>.le (by decide)) (by simp only [LS.fin, LS.note, LS.doA]) (by simp only [LS.fin, LS.note, LS.doA])
    · have g := good_cas (r := r) 0 r.a ((r.a + 256) % 4294967296) (wmod_bd _)
      generalize (r.a + 256) % 4294967296 = x at g ⊢
      exact kept_self (g.trans (good_go _) |>.le (by decide)) (by simp only [LS.go, LS.doA]) (by simp only [LS.go, LS.doA])
  · exact kept_wEnter
  · exact kept_b (((good_load _).trans (good_keepB _)).trans (good_go _) |>.le (by decide)) 3 rfl rfl
  · exact kept_app _
  · exact kept_admit _ _
  · exact kept_b (((good_load _).trans (good_keepB _)).trans (good_go _) |>.le (by decide)) 3 rfl rfl
  · exact kept_van _ _
  · exact kept_van _ _
  · exact kept_cnt
  · exact kept_wGive _ _
  · exact kept_wTry
  · exact kept_a (((good_load _).trans (good_keepA _)).trans (good_go _) |>.le (by decide)) 0 rfl rfl
  · unfold LS.wWeigh
    split
    · exact kept_b (((good_load _).trans (good_keepB _)).trans (good_go _) |>.le (by decide)) 1 rfl rfl
    · exact kept_b ((((good_load _).trans (good_keepB _)).trans (good_note _ _)).trans (good_go _) |>.le (by decide)) 1 rfl rfl
  · unfold LS.wWeigh
    split
    · exact kept_b (((good_load _).trans (good_keepB _)).trans (good_go _) |>.le (by decide)) 1 rfl rfl
    · exact kept_b ((((good_load _).trans (good_keepB _)).trans (good_note _ _)).trans (good_go _) |>.le (by decide)) 1 rfl rfl
  · exact kept_b (((good_load _).trans (good_keepB _)).trans (good_go _) |>.le (by decide)) 3 rfl rfl
  · exact kept_app _
  · exact kept_admit _ _
  · exact kept_others
  · exact kept_self ((good_add _ _).trans (good_fin _) |>.le (by decide)) rfl rfl
  · exact kept_wGive _ _
  · exact kept_self (good_refl r |>.le (by decide)) rfl rfl
theorem good_pq : r.Good r.pq 2 := kept_pq.1
theorem keeps_pq (r : LS) : r.KeepsAB r.pq := kept_pq.2
end
end Go.Proofs.YtocdbeonogfopaaGreat
set_option linter.unusedVariables false
set_option linter.unusedSimpArgs false
namespace Go.Proofs.YtocdbeonogfopaaGreat
open Go.RowKit
theorem may_any (op h : Int) (w : World) : Calls Tryz.prog 24 #[.int .i64 op, .int .i64 h] w fun e w' => e = .returned (.bool (mayI op h)) ∧ w = w' := by
  by_cases h0 : h = 0
  · subst h0
    have E := Lib.hid (show mayI op 0 = (op == 1 || op == 3 || op == 5 || op == 6) from rfl)
    go_enter Tryz.func24, Tryz.ntmps24
    go_wp2
    all_goals
      go_ret
      exact ⟨ret_bool (by rw [E.out]; first | done | simp_all), rfl⟩
  by_cases h1 : h = 1
  · subst h1
    have E := Lib.hid (show mayI op 1 = (op == 2 || op == 7) from rfl)
    go_enter Tryz.func24, Tryz.ntmps24
    go_wp2
    all_goals
      go_ret
      exact ⟨ret_bool (by rw [E.out]; first | done | simp_all), rfl⟩
  · have E := Lib.hid (show mayI op h = (op == 4 || op == 8) by unfold mayI; rw [if_neg h0, if_neg h1])
    go_enter Tryz.func24, Tryz.ntmps24
    go_wp2
    all_goals
      go_ret
      exact ⟨ret_bool (by rw [E.out]; first | done | simp_all), rfl⟩
theorem from_any (op h : Int) (w : World) : Calls Tryz.prog 25 #[.int .i64 op, .int .i64 h] w fun e w' => e = .returned (.int .i64 (fromI op h)) ∧ w = w' := by
  have hf : ∀ v, fromI op h = v → Hid (fromI op h = v) := fun _ e => Lib.hid e
  by_cases h2 : op = 2
  · subst h2
    have E := hf 0 rfl
    clear hf
    go_enter Tryz.func25, Tryz.ntmps25
    go_wp2
    go_ret
    exact ⟨ret_int (by rw [E.out]), rfl⟩
  by_cases h4 : op = 4
  · subst h4
    have E := hf 0 rfl
    clear hf
    go_enter Tryz.func25, Tryz.ntmps25
    go_wp2
    go_ret
    exact ⟨ret_int (by rw [E.out]), rfl⟩
  by_cases h8 : op = 8
  · subst h8
    have E := hf 1 rfl
    clear hf
    go_enter Tryz.func25, Tryz.ntmps25
    go_wp2
    go_ret
    exact ⟨ret_int (by rw [E.out]), rfl⟩
  · have E := hf h (by unfold fromI; rw [if_neg (by omega), if_neg h8])
    have b2 : (op == 2) = false := beq_eq_false_iff_ne.2 h2
    have b4 : (op == 4) = false := beq_eq_false_iff_ne.2 h4
    have b8 : (op == 8) = false := beq_eq_false_iff_ne.2 h8
    clear h2 h4 h8
    clear hf
    go_enter Tryz.func25, Tryz.ntmps25
    go_wp2
    go_ret
    exact ⟨ret_int (by rw [E.out]), rfl⟩
theorem behind_of (op ret h : Int) (w : World) : Calls Tryz.prog 27 #[.int .i64 op, .int .i64 ret, .int .i64 h] w fun e w' => e = .returned (.int .i64 (behindI op ret h)) ∧ w = w' := by
  have hf : ∀ v, behindI op ret h = v → Hid (behindI op ret h = v) := fun _ e => Lib.hid e
  by_cases hr : ret = 2
  · subst hr
    by_cases h1 : op = 1
    · subst h1
      have E := hf 1 rfl
      clear hf
      go_enter Tryz.func27, Tryz.ntmps27
      go_wp2
      go_ret
      exact ⟨ret_int (by rw [E.out]), rfl⟩
    by_cases h5 : op = 5
    · subst h5
      have E := hf 1 rfl
      clear hf
      go_enter Tryz.func27, Tryz.ntmps27
      go_wp2
      go_ret
      exact ⟨ret_int (by rw [E.out]), rfl⟩
    by_cases h3 : op = 3
    · subst h3
      have E := hf 2 rfl
      clear hf
      go_enter Tryz.func27, Tryz.ntmps27
      go_wp2
      go_ret
      exact ⟨ret_int (by rw [E.out]), rfl⟩
    by_cases h6 : op = 6
    · subst h6
      have E := hf 2 rfl
      clear hf
      go_enter Tryz.func27, Tryz.ntmps27
      go_wp2
      go_ret
      exact ⟨ret_int (by rw [E.out]), rfl⟩
    by_cases h7 : op = 7
    · subst h7
      have E := hf 2 rfl
      clear hf
      go_enter Tryz.func27, Tryz.ntmps27
      go_wp2
      go_ret
      exact ⟨ret_int (by rw [E.out]), rfl⟩
    · have E := hf h (by unfold behindI; rw [if_neg (by omega), if_neg (by omega), if_neg (by omega)])
      have b1 : (op == 1) = false := beq_eq_false_iff_ne.2 h1
      have b5 : (op == 5) = false := beq_eq_false_iff_ne.2 h5
      have b3 : (op == 3) = false := beq_eq_false_iff_ne.2 h3
      have b6 : (op == 6) = false := beq_eq_false_iff_ne.2 h6
      have b7 : (op == 7) = false := beq_eq_false_iff_ne.2 h7
      clear h1 h5 h3 h6 h7
      clear hf
      go_enter Tryz.func27, Tryz.ntmps27
      go_wp2
      go_ret
      exact ⟨ret_int (by rw [E.out]), rfl⟩
  · have E := hf h (by unfold behindI; rw [if_pos hr])
    have br : (ret == 2) = false := beq_eq_false_iff_ne.2 hr
    clear hr
    clear hf
    go_enter Tryz.func27, Tryz.ntmps27
    go_wp2
    go_ret
    exact ⟨ret_int (by rw [E.out]), rfl⟩
theorem exec_loadR {P : Program} {a : Act} {o : Oper} {ty t : TypeId} {x : Operand} {B : Nat} {w : World} {cs : Array Value} {d : TypeDesc} (ho : o.op = .load ty x) (hx : a.eval x = .pointer (some ⟨B, 0, none⟩)) (hg : Row w B t cs)
    (hu : P.underlying ty = some d) (hd : (match d with | .struct _ | .array _ _ => true | _ => false) = true) (hi : (P.info? ty).map (·.size) = some cs.size) : (execOp a.eval o).run P w = .ok (.value (.agg cs)) w := by
  have h := run_loadVar_row (P := P) w B t ty cs (0, 0) d hg hu hd hi
  unfold execOp
  simp [ho, hx, Instr.loadAt, Instr.sureAddr, h]
theorem wp_loadR {P : Program} {w : World} {ops : Array Oper} {rest : List Oper} {o : Oper} {a : Act} {Q : Exit → Act → World → Prop} (hgd : o.guard = none) (ty : TypeId) (x : Operand) (ho : o.op = .load ty x) {t : TypeId} {B : Nat} {cs : Array Value} {d : TypeDesc}
    (hx : a.eval x = .pointer (some ⟨B, 0, none⟩)) (hg : Row w B t cs) (hu : P.underlying ty = some d) (hd : (match d with | .struct _ | .array _ _ => true | _ => false) = true) (hi : (P.info? ty).map (·.size) = some cs.size)
    (h : wpList P ops Q rest (a.put o.dst (.agg cs)) w) : wpList P ops Q (o :: rest) a w := by
  refine wpList_plain hgd fun K hK => ?_
  unfold Oper.wp
  rw [exec_loadR ho hx hg hu hd hi]
  exact hK _ _ h
-- behind the beginning: the run's state is M.at t
set_option maxRecDepth 100000 in
set_option maxHeartbeats 4000000 in
theorem play_any (L : List (Nat × TypeId × Array Value)) (w0 : World) (X GL GH : Nat) (B : Nat → Nat) (p A : Option Addr) (cp k : Nat) (m : MV) (t : Nat) (op : Int) (w : World) (h : MatchP L w0 X GL GH B p A cp k m w) (ht : t < k) :
    Calls Tryz.prog 13 #[Value.pointer (some ⟨X, 0, none⟩), .int .i64 t, .int .i64 op] w fun e w' => e = .returned (.tuple #[]) ∧ MatchP L w0 X GL GH B p A cp k (playI LS.pq m t op) w' := by
  obtain ⟨b, hb⟩ : ∃ b, B t = b := ⟨_, rfl⟩
  have HBT := Lib.hid hb
  have HM := Lib.hid h
  clear h hb
  have hc4 : w.cell? ⟨b, 4, none⟩ = some (.int .i64 (m.at t).op) := by
    obtain ⟨nv, hq⟩ := HM.out.run t ht
    rw [HBT.out] at hq
    exact hq.row.cell_ (i := 4) rfl
  by_cases hop : (m.at t).op = 0
  · have c4 := hc4
    rw [hop] at c4
    clear hc4
    have HOP := Lib.hid hop
    clear hop
    cases hmay : mayI op (m.hold t)
    · have HMAY := Lib.hid hmay
      clear hmay
      have HPL := Lib.hid (show playI LS.pq m t op = m by unfold playI; rw [if_pos HOP.out, HMAY.out, if_neg Bool.false_ne_true])
      obtain ⟨cl, hx0⟩ := HM.out.x
      obtain ⟨csl, hl0, hl1⟩ := HM.out.l
      obtain ⟨csh, hh0, hh1⟩ := HM.out.h
      have x0 : w.cell? ⟨X, 0, none⟩ = some (.slice (some ⟨GL, 0, none⟩) k cl) := hx0.cell_ (i := 0) rfl
      have x1 : w.cell? ⟨X, 1, none⟩ = some (.slice (some ⟨GH, 0, none⟩) k k) := hx0.cell_ (i := 1) rfl
      have gl : w.cell? ⟨GL, t, none⟩ = some (.pointer (some ⟨b, 0, none⟩)) := by have e := hl0.cell_ (hl1 t ht); rw [HBT.out] at e; exact e
      have gh : w.cell? ⟨GH, t, none⟩ = some (.int .i64 (m.hold t)) := hh0.cell_ (hh1 t ht)
      have fh : w.frozen? ⟨GH, t, none⟩ = false := hh0.frozen t
      clear hx0 hl0 hl1 hh0 hh1
      go_enter Tryz.func13, Tryz.ntmps13
      go_wp2_with fail
      clear x0 x1 gl gh fh c4
      refine (may_any op (m.hold t) _).mono ?_
      rw [HMAY.out]
      rintro e w1 ⟨rfl, rfl⟩
      go_wp2
      go_returns
      exact ⟨rfl, by rw [HPL.out]; exact HM.out⟩
    · have HMAY := Lib.hid hmay
      clear hmay
      have HPL := Lib.hid (show playI LS.pq m t op = (m.start t op).go LS.pq t by unfold playI; rw [if_pos HOP.out, HMAY.out, if_pos rfl])
      obtain ⟨cl, hx0⟩ := HM.out.x
      obtain ⟨csl, hl0, hl1⟩ := HM.out.l
      obtain ⟨csh, hh0, hh1⟩ := HM.out.h
      have x0 : w.cell? ⟨X, 0, none⟩ = some (.slice (some ⟨GL, 0, none⟩) k cl) := hx0.cell_ (i := 0) rfl
      have x1 : w.cell? ⟨X, 1, none⟩ = some (.slice (some ⟨GH, 0, none⟩) k k) := hx0.cell_ (i := 1) rfl
      have gl : w.cell? ⟨GL, t, none⟩ = some (.pointer (some ⟨b, 0, none⟩)) := by have e := hl0.cell_ (hl1 t ht); rw [HBT.out] at e; exact e
      have gh : w.cell? ⟨GH, t, none⟩ = some (.int .i64 (m.hold t)) := hh0.cell_ (hh1 t ht)
      have fh : w.frozen? ⟨GH, t, none⟩ = false := hh0.frozen t
      clear hx0 hl0 hl1 hh0 hh1
      go_enter Tryz.func13, Tryz.ntmps13
      go_wp2_with fail
      clear x0 gl c4
      refine (may_any op (m.hold t) _).mono ?_
      rw [HMAY.out]
      rintro e w1 ⟨rfl, rfl⟩
      have HFH := Lib.hid fh
      clear fh
      go_upto_region 3 with (fail)
      refine wp_region_phase (n := 16) 15 (fun w => w.cell? ⟨X, 1, none⟩ = some (.slice (some ⟨GH, 0, none⟩) k k) ∧ w.cell? ⟨GH, t, none⟩ = some (.int .i64 (m.hold t))) rfl (by kernel_rfl) ⟨x1, gh⟩ (fun hHeld => ?_)
      have HM1 := Lib.hid (HM.out.keep (Only.refl Nil w).drew)
      have HZF : Hid (w.drew.frozen? ⟨GH, t, none⟩ = false) := Lib.hid HFH.out
      clear x1 gh HFH HM
      generalize w.drew = w1 at *
      refine mpa 0 rfl (Value.pointer (some ⟨X, 0, none⟩)) (fun w => ?_) ?_
      · go_simp
      (try simp only [Act.put, k1, k2, k3])
      refine mpa 1 rfl (Value.pointer (some ⟨X, 0, none⟩)) (fun w => ?_) ?_
      · go_simp
      (try simp only [Act.put, k1, k2, k3])
      refine mpa 2 rfl (.pointer (some ⟨X, 1, none⟩)) (fun w => ?_) ?_
      · go_simp
      (try simp only [Act.put, k1, k2, k3])
      refine mpt 3 rfl (.slice (some ⟨GH, 0, none⟩) k k) (fun w hSw => ?_) ?_
      · (try dsimp only at hSw)
        go_split_ands
        go_simp
      (try simp only [Act.put, k1, k2, k3])
      refine mpa 4 rfl (.int .i64 t) (fun w => ?_) ?_
      · go_simp
      (try simp only [Act.put, k1, k2, k3])
      refine mpa 5 rfl (.int .i64 op) (fun w => ?_) ?_
      · go_simp
      (try simp only [Act.put, k1, k2, k3])
      refine mpa 6 rfl (Value.pointer (some ⟨X, 0, none⟩)) (fun w => ?_) ?_
      · go_simp
      (try simp only [Act.put, k1, k2, k3])
      refine mpa 7 rfl (Value.pointer (some ⟨X, 0, none⟩)) (fun w => ?_) ?_
      · go_simp
      (try simp only [Act.put, k1, k2, k3])
      refine mpa 8 rfl (.pointer (some ⟨X, 1, none⟩)) (fun w => ?_) ?_
      · go_simp
      (try simp only [Act.put, k1, k2, k3])
      refine mpt 9 rfl (.slice (some ⟨GH, 0, none⟩) k k) (fun w hSw => ?_) ?_
      · (try dsimp only at hSw)
        go_split_ands
        go_simp
      (try simp only [Act.put, k1, k2, k3])
      refine mpa 10 rfl (.int .i64 t) (fun w => ?_) ?_
      · go_simp
      (try simp only [Act.put, k1, k2, k3])
      refine mpa 11 rfl (.pointer (some ⟨GH, t, none⟩)) (fun w => ?_) ?_
      · go_simp
      (try simp only [Act.put, k1, k2, k3])
      refine mpt 12 rfl (.int .i64 (m.hold t)) (fun w hSw => ?_) ?_
      · (try dsimp only at hSw)
        go_split_ands
        go_simp
      (try simp only [Act.put, k1, k2, k3])
      refine mpc 13 rfl (by kernel_rfl) (by rfl) (fun K hK => ?_)
      go_simp
      refine (from_any op (m.hold t) _).mono ?_
      rintro e w9 ⟨rfl, rfl⟩
      refine hK.out _ _ (.inr hHeld) ?_
      clear hK K
      (try simp only [Act.put, k1, k2, k3])
      refine mpa 14 rfl (.pointer (some ⟨GH, t, none⟩)) (fun w => ?_) ?_
      · go_simp
      (try simp only [Act.put, k1, k2, k3])
      have zf : w1.frozen? ⟨GH, t, none⟩ = false := HZF.out
      have zc : w1.cell? ⟨GH, t, none⟩ = some (.int .i64 (m.hold t)) := hHeld.2
      refine mpc 15 rfl (by kernel_rfl) (by rfl) (fun K hK => ?_)
      go_simp
      have HM2 := Lib.hid (HM1.out.held ht (fromI op (m.hold t)))
      refine hK.out _ _ (.inl (by kernel_rfl)) ?_
      clear hK K hHeld zf zc HM1 HZF
      generalize w1.setCell ⟨GH, t, none⟩ (.int .i64 (fromI op (m.hold t))) = w2 at *
      (try simp only [Act.put, k1, k2, k3])
      refine wpAnyP_done (by kernel_rfl) ?_ _
      obtain ⟨nv0, hq0⟩ := HM2.out.run t ht
      rw [HBT.out, at_setH] at hq0
      generalize hr0 : m.at t = r0 at *
      have HR0 := Lib.hid hr0
      clear hr0
      have a4 : w2.cell? ⟨b, 4, none⟩ = some (.int .i64 r0.op) := hq0.row.cell_ (i := 4) rfl
      have a5 : w2.cell? ⟨b, 5, none⟩ = some (.int .i64 r0.line) := hq0.row.cell_ (i := 5) rfl
      have a6 : w2.cell? ⟨b, 6, none⟩ = some (.int .u32 r0.a) := hq0.row.cell_ (i := 6) rfl
      have a7 : w2.cell? ⟨b, 7, none⟩ = some (.int .u32 r0.b) := hq0.row.cell_ (i := 7) rfl
      have a8 : w2.cell? ⟨b, 8, none⟩ = some (.int .i64 r0.s) := hq0.row.cell_ (i := 8) rfl
      have a9 : w2.cell? ⟨b, 9, none⟩ = some (.bool r0.k.on) := hq0.row.cell_ (i := 9) rfl
      have a10 : w2.cell? ⟨b, 10, none⟩ = some (.int .i64 r0.k.c) := hq0.row.cell_ (i := 10) rfl
      have a11 : w2.cell? ⟨b, 11, none⟩ = some (.int .i64 r0.k.i) := hq0.row.cell_ (i := 11) rfl
      have a12 : w2.cell? ⟨b, 12, none⟩ = some (.bool r0.k.hit) := hq0.row.cell_ (i := 12) rfl
      have a13 : w2.cell? ⟨b, 13, none⟩ = some (.int .i64 r0.ret) := hq0.row.cell_ (i := 13) rfl
      have f4 : w2.frozen? ⟨b, 4, none⟩ = false := hq0.row.frozen 4
      have f5 : w2.frozen? ⟨b, 5, none⟩ = false := hq0.row.frozen 5
      have f6 : w2.frozen? ⟨b, 6, none⟩ = false := hq0.row.frozen 6
      have f7 : w2.frozen? ⟨b, 7, none⟩ = false := hq0.row.frozen 7
      have f8 : w2.frozen? ⟨b, 8, none⟩ = false := hq0.row.frozen 8
      have f9 : w2.frozen? ⟨b, 9, none⟩ = false := hq0.row.frozen 9
      have f10 : w2.frozen? ⟨b, 10, none⟩ = false := hq0.row.frozen 10
      have f11 : w2.frozen? ⟨b, 11, none⟩ = false := hq0.row.frozen 11
      have f12 : w2.frozen? ⟨b, 12, none⟩ = false := hq0.row.frozen 12
      have f13 : w2.frozen? ⟨b, 13, none⟩ = false := hq0.row.frozen 13
      clear hq0
      go_upto_region 5 with (fail)
      clear a4 a5 a6 a7 a8 a9 a10 a11 a12 a13 f4 f5 f6 f7 f8 f9 f10 f11 f12 f13
      have h3 := HM2.out.framed ht op
      rw [HBT.out, at_setH, HR0.out] at h3
      unfold frameW at h3
      have HM := Lib.hid (show MatchP L w0 X GL GH B p A cp k (m.start t op) _ by unfold MV.start; rw [HR0.out]; exact h3)
      clear h3 HM2
      generalize (((((((((w2.setCell ⟨b, 4, none⟩ (.int .i64 op)).setCell ⟨b, 5, none⟩ (.int .i64 0)).setCell ⟨b, 6, none⟩ (.int .u32 0)).setCell ⟨b, 7, none⟩ (.int .u32 0)).setCell ⟨b, 8, none⟩ (.int .i64 0)).setCell ⟨b, 9, none⟩ (.bool false)).setCell ⟨b, 10, none⟩ (.int .i64 0)).setCell ⟨b, 11, none⟩ (.int .i64 0)).setCell ⟨b, 12, none⟩ (.bool false)).setCell ⟨b, 13, none⟩ (.int .i64 0) = w3 at *
      generalize hms : m.start t op = ms at *
      clear HR0 HOP HMAY hms
      obtain ⟨nv, hq⟩ := HM.out.run t ht
      rw [HBT.out] at hq
      have HQ := Lib.hid hq
      clear hq
      generalize hrr : ms.at t = rr at *
      have HRR := Lib.hid hrr
      clear hrr
      go_wp2_with (refine wp_loadR rfl 61 (.tmp 51) rfl (by rfl) HQ.out.row Tryz.underlying61 rfl (by kernel_rfl) ?_)
      refine (stuckL_any p A cp nv rr _ HQ.out.memo).mono ?_
      cases hsk : rr.stuck
      · have HSK := Lib.hid hsk
        clear hsk
        rintro e w4 ⟨rfl, hO, hM⟩
        have HM4 := Lib.hid (HM.out.same hO (by rw [← HRR.out] at hM; exact hM))
        have HQ4 : Hid (RunQ w4 b p A cp nv rr) := Lib.hid ⟨HQ.out.row.only hO (fun e => HQ.out.far (.inr e) rfl), hM⟩
        have HWB : Hid rr.WB := Lib.hid (by rw [← HRR.out]; exact ⟨HM4.out.words, (HM4.out.ab t ht).1, (HM4.out.ab t ht).2⟩)
        clear hO hM HQ
        go_wp2_with fail
        refine (pq_step b p A cp nv rr _ HQ4.out HWB.out.words HWB.out.a HWB.out.b).mono ?_
        have HG := Lib.hid (wb_next (L := LS.pq) (fun r => good_pq) keeps_pq HWB.out)
        have HGO : Hid (ms.go LS.pq t = if (rr.next LS.pq).over then ((ms.setR t (rr.next LS.pq)).setH t (behindI (rr.next LS.pq).op (rr.next LS.pq).ret (ms.hold t))).setR t (zeroF (rr.next LS.pq) 0) else ms.setR t (rr.next LS.pq)) := Lib.hid (by
          unfold MV.go
          rw [HRR.out, HSK.out, if_neg Bool.false_ne_true])
        generalize rr.next LS.pq = r2 at *
        rintro e w5 ⟨rfl, hO, _, nv2, hP⟩
        have HM5 : Hid (MatchP L w0 X GL GH B p A cp k (ms.setR t r2) w5) := Lib.hid (HM4.out.ran ht (by rw [HBT.out]; exact hO) (by rw [HBT.out]; exact hP.q) HG.out.words ⟨HG.out.a, HG.out.b⟩)
        have HP5 := Lib.hid hP
        clear hO hP HM4 HQ4 HG HWB
        cases hov : r2.over
        · have HGE := Lib.hid (HGO.out.trans (by rw [hov, if_neg Bool.false_ne_true]))
          clear hov
          go_wp2
          go_returns
          exact ⟨rfl, by rw [HPL.out, HGE.out]; exact HM5.out⟩
        · have HGE := Lib.hid (HGO.out.trans (by rw [hov, if_pos rfl]))
          clear hov
          obtain ⟨cl2, hx2⟩ := HM5.out.x
          obtain ⟨csh2, hh2, hh3⟩ := HM5.out.h
          have y1 : w5.cell? ⟨X, 1, none⟩ = some (.slice (some ⟨GH, 0, none⟩) k k) := hx2.cell_ (i := 1) rfl
          have yh : w5.cell? ⟨GH, t, none⟩ = some (.int .i64 (ms.hold t)) := hh2.cell_ (hh3 t ht)
          have HYF := Lib.hid (hh2.frozen t)
          clear hx2 hh2 hh3
          go_upto_region 7 with (fail)
          refine wp_region_phase (n := 25) 24 (fun w => w.cell? ⟨X, 1, none⟩ = some (.slice (some ⟨GH, 0, none⟩) k k) ∧ w.cell? ⟨GH, t, none⟩ = some (.int .i64 (ms.hold t)) ∧ w.cell? ⟨b, 4, none⟩ = some (.int .i64 r2.op) ∧ w.cell? ⟨b, 13, none⟩ = some (.int .i64 r2.ret)) rfl (by kernel_rfl) ⟨y1, yh, HP5.out.row.cell_ (i := 4) rfl, HP5.out.row.cell_ (i := 13) rfl⟩ (fun hHeld => ?_)
          have HM6 := Lib.hid (HM5.out.keep (Only.refl Nil w5).drew)
          have HZF : Hid (w5.drew.frozen? ⟨GH, t, none⟩ = false) := Lib.hid HYF.out
          have HP6 := Lib.hid (HP5.out.keep (Only.refl Nil w5).drew)
          clear y1 yh HYF HM5 HP5
          generalize w5.drew = w6 at *
          refine mpa 0 rfl (Value.pointer (some ⟨X, 0, none⟩)) (fun w => ?_) ?_
          · go_simp
          (try simp only [Act.put, k1, k2, k3])
          refine mpa 1 rfl (Value.pointer (some ⟨X, 0, none⟩)) (fun w => ?_) ?_
          · go_simp
          (try simp only [Act.put, k1, k2, k3])
          refine mpa 2 rfl (.pointer (some ⟨X, 1, none⟩)) (fun w => ?_) ?_
          · go_simp
          (try simp only [Act.put, k1, k2, k3])
          refine mpt 3 rfl (.slice (some ⟨GH, 0, none⟩) k k) (fun w hSw => ?_) ?_
          · (try dsimp only at hSw)
            go_split_ands
            go_simp
          (try simp only [Act.put, k1, k2, k3])
          refine mpa 4 rfl (.int .i64 t) (fun w => ?_) ?_
          · go_simp
          (try simp only [Act.put, k1, k2, k3])
          refine mpa 5 rfl (.pointer (some ⟨b, 0, none⟩)) (fun w => ?_) ?_
          · go_simp
          (try simp only [Act.put, k1, k2, k3])
          refine mpa 6 rfl (.pointer (some ⟨b, 0, none⟩)) (fun w => ?_) ?_
          · go_simp
          (try simp only [Act.put, k1, k2, k3])
          refine mpa 7 rfl (.pointer (some ⟨b, 4, none⟩)) (fun w => ?_) ?_
          · go_simp
          (try simp only [Act.put, k1, k2, k3])
          refine mpa 8 rfl (.pointer (some ⟨b, 4, none⟩)) (fun w => ?_) ?_
          · go_simp
          (try simp only [Act.put, k1, k2, k3])
          refine mpt 9 rfl (.int .i64 r2.op) (fun w hSw => ?_) ?_
          · (try dsimp only at hSw)
            go_split_ands
            go_simp
          (try simp only [Act.put, k1, k2, k3])
          refine mpa 10 rfl (.pointer (some ⟨b, 0, none⟩)) (fun w => ?_) ?_
          · go_simp
          (try simp only [Act.put, k1, k2, k3])
          refine mpa 11 rfl (.pointer (some ⟨b, 0, none⟩)) (fun w => ?_) ?_
          · go_simp
          (try simp only [Act.put, k1, k2, k3])
          refine mpa 12 rfl (.pointer (some ⟨b, 4, none⟩)) (fun w => ?_) ?_
          · go_simp
          (try simp only [Act.put, k1, k2, k3])
          refine mpa 13 rfl (.pointer (some ⟨b, 13, none⟩)) (fun w => ?_) ?_
          · go_simp
          (try simp only [Act.put, k1, k2, k3])
          refine mpt 14 rfl (.int .i64 r2.ret) (fun w hSw => ?_) ?_
          · (try dsimp only at hSw)
            go_split_ands
            go_simp
          (try simp only [Act.put, k1, k2, k3])
          refine mpa 15 rfl (Value.pointer (some ⟨X, 0, none⟩)) (fun w => ?_) ?_
          · go_simp
          (try simp only [Act.put, k1, k2, k3])
          refine mpa 16 rfl (Value.pointer (some ⟨X, 0, none⟩)) (fun w => ?_) ?_
          · go_simp
          (try simp only [Act.put, k1, k2, k3])
          refine mpa 17 rfl (.pointer (some ⟨X, 1, none⟩)) (fun w => ?_) ?_
          · go_simp
          (try simp only [Act.put, k1, k2, k3])
          refine mpt 18 rfl (.slice (some ⟨GH, 0, none⟩) k k) (fun w hSw => ?_) ?_
          · (try dsimp only at hSw)
            go_split_ands
            go_simp
          (try simp only [Act.put, k1, k2, k3])
          refine mpa 19 rfl (.int .i64 t) (fun w => ?_) ?_
          · go_simp
          (try simp only [Act.put, k1, k2, k3])
          refine mpa 20 rfl (.pointer (some ⟨GH, t, none⟩)) (fun w => ?_) ?_
          · go_simp
          (try simp only [Act.put, k1, k2, k3])
          refine mpt 21 rfl (.int .i64 (ms.hold t)) (fun w hSw => ?_) ?_
          · (try dsimp only at hSw)
            go_split_ands
            go_simp
          (try simp only [Act.put, k1, k2, k3])
          refine mpc 22 rfl (by kernel_rfl) (by rfl) (fun K hK => ?_)
          go_simp
          refine (behind_of r2.op r2.ret (ms.hold t) _).mono ?_
          rintro e w9 ⟨rfl, rfl⟩
          refine hK.out _ _ (.inr hHeld) ?_
          clear hK K
          (try simp only [Act.put, k1, k2, k3])
          refine mpa 23 rfl (.pointer (some ⟨GH, t, none⟩)) (fun w => ?_) ?_
          · go_simp
          (try simp only [Act.put, k1, k2, k3])
          have zf : w6.frozen? ⟨GH, t, none⟩ = false := HZF.out
          have zc : w6.cell? ⟨GH, t, none⟩ = some (.int .i64 (ms.hold t)) := hHeld.2.1
          refine mpc 24 rfl (by kernel_rfl) (by rfl) (fun K hK => ?_)
          go_simp
          have HM7 := Lib.hid (HM6.out.held ht (behindI r2.op r2.ret (ms.hold t)))
          have HR7 : Hid (Row (w6.setCell ⟨GH, t, none⟩ (.int .i64 (behindI r2.op r2.ret (ms.hold t)))) b 61 (r2.cells (.pointer p) nv2)) := Lib.hid (by
            obtain ⟨cs9, h9, _⟩ := HM6.out.h
            exact HP6.out.row.far (p := ⟨GH, t, none⟩) (fun e => row_ne HP6.out.row h9 (by decide) e) _)
          refine hK.out _ _ (.inl (by kernel_rfl)) ?_
          clear hK K hHeld zf zc HM6 HZF HP6
          generalize w6.setCell ⟨GH, t, none⟩ (.int .i64 (behindI r2.op r2.ret (ms.hold t))) = w7 at *
          (try simp only [Act.put, k1, k2, k3])
          refine wpAnyP_done (by kernel_rfl) ?_ _
          have a4 : w7.cell? ⟨b, 4, none⟩ = some (.int .i64 r2.op) := HR7.out.cell_ (i := 4) rfl
          have a5 : w7.cell? ⟨b, 5, none⟩ = some (.int .i64 r2.line) := HR7.out.cell_ (i := 5) rfl
          have a6 : w7.cell? ⟨b, 6, none⟩ = some (.int .u32 r2.a) := HR7.out.cell_ (i := 6) rfl
          have a7 : w7.cell? ⟨b, 7, none⟩ = some (.int .u32 r2.b) := HR7.out.cell_ (i := 7) rfl
          have a8 : w7.cell? ⟨b, 8, none⟩ = some (.int .i64 r2.s) := HR7.out.cell_ (i := 8) rfl
          have a9 : w7.cell? ⟨b, 9, none⟩ = some (.bool r2.k.on) := HR7.out.cell_ (i := 9) rfl
          have a10 : w7.cell? ⟨b, 10, none⟩ = some (.int .i64 r2.k.c) := HR7.out.cell_ (i := 10) rfl
          have a11 : w7.cell? ⟨b, 11, none⟩ = some (.int .i64 r2.k.i) := HR7.out.cell_ (i := 11) rfl
          have a12 : w7.cell? ⟨b, 12, none⟩ = some (.bool r2.k.hit) := HR7.out.cell_ (i := 12) rfl
          have a13 : w7.cell? ⟨b, 13, none⟩ = some (.int .i64 r2.ret) := HR7.out.cell_ (i := 13) rfl
          have f4 : w7.frozen? ⟨b, 4, none⟩ = false := HR7.out.frozen 4
          have f5 : w7.frozen? ⟨b, 5, none⟩ = false := HR7.out.frozen 5
          have f6 : w7.frozen? ⟨b, 6, none⟩ = false := HR7.out.frozen 6
          have f7 : w7.frozen? ⟨b, 7, none⟩ = false := HR7.out.frozen 7
          have f8 : w7.frozen? ⟨b, 8, none⟩ = false := HR7.out.frozen 8
          have f9 : w7.frozen? ⟨b, 9, none⟩ = false := HR7.out.frozen 9
          have f10 : w7.frozen? ⟨b, 10, none⟩ = false := HR7.out.frozen 10
          have f11 : w7.frozen? ⟨b, 11, none⟩ = false := HR7.out.frozen 11
          have f12 : w7.frozen? ⟨b, 12, none⟩ = false := HR7.out.frozen 12
          have f13 : w7.frozen? ⟨b, 13, none⟩ = false := HR7.out.frozen 13
          go_wp2
          clear a4 a5 a6 a7 a8 a9 a10 a11 a12 a13 f4 f5 f6 f7 f8 f9 f10 f11 f12 f13
          go_returns
          have h8 := HM7.out.framed ht 0
          rw [HBT.out, at_setH, at_setR] at h8
          exact ⟨rfl, by rw [HPL.out, HGE.out]; exact h8⟩
      · have HSK := Lib.hid hsk
        clear hsk
        rintro e w4 ⟨rfl, hO, hM⟩
        have HM4 := Lib.hid (HM.out.same hO (by rw [← HRR.out] at hM; exact hM))
        have HGE := Lib.hid (show ms.go LS.pq t = ms by unfold MV.go; rw [HRR.out, HSK.out, if_pos rfl])
        clear hO hM HQ
        go_wp2
        go_returns
        exact ⟨rfl, by rw [HPL.out, HGE.out]; exact HM4.out⟩
  · have HPL := Lib.hid (show playI LS.pq m t op = m.go LS.pq t by unfold playI; rw [if_neg hop])
    have c4 := hc4
    clear hc4
    obtain ⟨cl, hx0⟩ := HM.out.x
    obtain ⟨csl, hl0, hl1⟩ := HM.out.l
    obtain ⟨csh, hh0, hh1⟩ := HM.out.h
    have x0 : w.cell? ⟨X, 0, none⟩ = some (.slice (some ⟨GL, 0, none⟩) k cl) := hx0.cell_ (i := 0) rfl
    have x1 : w.cell? ⟨X, 1, none⟩ = some (.slice (some ⟨GH, 0, none⟩) k k) := hx0.cell_ (i := 1) rfl
    have gl : w.cell? ⟨GL, t, none⟩ = some (.pointer (some ⟨b, 0, none⟩)) := by have e := hl0.cell_ (hl1 t ht); rw [HBT.out] at e; exact e
    have gh : w.cell? ⟨GH, t, none⟩ = some (.int .i64 (m.hold t)) := hh0.cell_ (hh1 t ht)
    have fh : w.frozen? ⟨GH, t, none⟩ = false := hh0.frozen t
    clear hx0 hl0 hl1 hh0 hh1
    go_enter Tryz.func13, Tryz.ntmps13
    go_upto_region 5 with (fail)
    clear x0 x1 gl gh fh c4 hop
    obtain ⟨nv, hq⟩ := HM.out.run t ht
    rw [HBT.out] at hq
    have HQ := Lib.hid hq
    clear hq
    generalize hrr : m.at t = rr at *
    have HRR := Lib.hid hrr
    clear hrr
    go_wp2_with (refine wp_loadR rfl 61 (.tmp 51) rfl (by rfl) HQ.out.row Tryz.underlying61 rfl (by kernel_rfl) ?_)
    refine (stuckL_any p A cp nv rr _ HQ.out.memo).mono ?_
    cases hsk : rr.stuck
    · have HSK := Lib.hid hsk
      clear hsk
      rintro e w4 ⟨rfl, hO, hM⟩
      have HM4 := Lib.hid (HM.out.same hO (by rw [← HRR.out] at hM; exact hM))
      have HQ4 : Hid (RunQ w4 b p A cp nv rr) := Lib.hid ⟨HQ.out.row.only hO (fun e => HQ.out.far (.inr e) rfl), hM⟩
      have HWB : Hid rr.WB := Lib.hid (by rw [← HRR.out]; exact ⟨HM4.out.words, (HM4.out.ab t ht).1, (HM4.out.ab t ht).2⟩)
      clear hO hM HQ
      go_wp2_with fail
      refine (pq_step b p A cp nv rr _ HQ4.out HWB.out.words HWB.out.a HWB.out.b).mono ?_
      have HG := Lib.hid (wb_next (L := LS.pq) (fun r => good_pq) keeps_pq HWB.out)
      have HGO : Hid (m.go LS.pq t = if (rr.next LS.pq).over then ((m.setR t (rr.next LS.pq)).setH t (behindI (rr.next LS.pq).op (rr.next LS.pq).ret (m.hold t))).setR t (zeroF (rr.next LS.pq) 0) else m.setR t (rr.next LS.pq)) := Lib.hid (by
        unfold MV.go
        rw [HRR.out, HSK.out, if_neg Bool.false_ne_true])
      generalize rr.next LS.pq = r2 at *
      rintro e w5 ⟨rfl, hO, _, nv2, hP⟩
      have HM5 : Hid (MatchP L w0 X GL GH B p A cp k (m.setR t r2) w5) := Lib.hid (HM4.out.ran ht (by rw [HBT.out]; exact hO) (by rw [HBT.out]; exact hP.q) HG.out.words ⟨HG.out.a, HG.out.b⟩)
      have HP5 := Lib.hid hP
      clear hO hP HM4 HQ4 HG HWB
      cases hov : r2.over
      · have HGE := Lib.hid (HGO.out.trans (by rw [hov, if_neg Bool.false_ne_true]))
        clear hov
        go_wp2
        go_returns
        exact ⟨rfl, by rw [HPL.out, HGE.out]; exact HM5.out⟩
      · have HGE := Lib.hid (HGO.out.trans (by rw [hov, if_pos rfl]))
        clear hov
        obtain ⟨cl2, hx2⟩ := HM5.out.x
        obtain ⟨csh2, hh2, hh3⟩ := HM5.out.h
        have y1 : w5.cell? ⟨X, 1, none⟩ = some (.slice (some ⟨GH, 0, none⟩) k k) := hx2.cell_ (i := 1) rfl
        have yh : w5.cell? ⟨GH, t, none⟩ = some (.int .i64 (m.hold t)) := hh2.cell_ (hh3 t ht)
        have HYF := Lib.hid (hh2.frozen t)
        clear hx2 hh2 hh3
        go_upto_region 7 with (fail)
        refine wp_region_phase (n := 25) 24 (fun w => w.cell? ⟨X, 1, none⟩ = some (.slice (some ⟨GH, 0, none⟩) k k) ∧ w.cell? ⟨GH, t, none⟩ = some (.int .i64 (m.hold t)) ∧ w.cell? ⟨b, 4, none⟩ = some (.int .i64 r2.op) ∧ w.cell? ⟨b, 13, none⟩ = some (.int .i64 r2.ret)) rfl (by kernel_rfl) ⟨y1, yh, HP5.out.row.cell_ (i := 4) rfl, HP5.out.row.cell_ (i := 13) rfl⟩ (fun hHeld => ?_)
        have HM6 := Lib.hid (HM5.out.keep (Only.refl Nil w5).drew)
        have HZF : Hid (w5.drew.frozen? ⟨GH, t, none⟩ = false) := Lib.hid HYF.out
        have HP6 := Lib.hid (HP5.out.keep (Only.refl Nil w5).drew)
        clear y1 yh HYF HM5 HP5
        generalize w5.drew = w6 at *
        refine mpa 0 rfl (Value.pointer (some ⟨X, 0, none⟩)) (fun w => ?_) ?_
        · go_simp
        (try simp only [Act.put, k1, k2, k3])
        refine mpa 1 rfl (Value.pointer (some ⟨X, 0, none⟩)) (fun w => ?_) ?_
        · go_simp
        (try simp only [Act.put, k1, k2, k3])
        refine mpa 2 rfl (.pointer (some ⟨X, 1, none⟩)) (fun w => ?_) ?_
        · go_simp
        (try simp only [Act.put, k1, k2, k3])
        refine mpt 3 rfl (.slice (some ⟨GH, 0, none⟩) k k) (fun w hSw => ?_) ?_
        · (try dsimp only at hSw)
          go_split_ands
          go_simp
        (try simp only [Act.put, k1, k2, k3])
        refine mpa 4 rfl (.int .i64 t) (fun w => ?_) ?_
        · go_simp
        (try simp only [Act.put, k1, k2, k3])
        refine mpa 5 rfl (.pointer (some ⟨b, 0, none⟩)) (fun w => ?_) ?_
        · go_simp
        (try simp only [Act.put, k1, k2, k3])
        refine mpa 6 rfl (.pointer (some ⟨b, 0, none⟩)) (fun w => ?_) ?_
        · go_simp
        (try simp only [Act.put, k1, k2, k3])
        refine mpa 7 rfl (.pointer (some ⟨b, 4, none⟩)) (fun w => ?_) ?_
        · go_simp
        (try simp only [Act.put, k1, k2, k3])
        refine mpa 8 rfl (.pointer (some ⟨b, 4, none⟩)) (fun w => ?_) ?_
        · go_simp
        (try simp only [Act.put, k1, k2, k3])
        refine mpt 9 rfl (.int .i64 r2.op) (fun w hSw => ?_) ?_
        · (try dsimp only at hSw)
          go_split_ands
          go_simp
        (try simp only [Act.put, k1, k2, k3])
        refine mpa 10 rfl (.pointer (some ⟨b, 0, none⟩)) (fun w => ?_) ?_
        · go_simp
        (try simp only [Act.put, k1, k2, k3])
        refine mpa 11 rfl (.pointer (some ⟨b, 0, none⟩)) (fun w => ?_) ?_
        · go_simp
        (try simp only [Act.put, k1, k2, k3])
        refine mpa 12 rfl (.pointer (some ⟨b, 4, none⟩)) (fun w => ?_) ?_
        · go_simp
        (try simp only [Act.put, k1, k2, k3])
        refine mpa 13 rfl (.pointer (some ⟨b, 13, none⟩)) (fun w => ?_) ?_
        · go_simp
        (try simp only [Act.put, k1, k2, k3])
        refine mpt 14 rfl (.int .i64 r2.ret) (fun w hSw => ?_) ?_
        · (try dsimp only at hSw)
          go_split_ands
          go_simp
        (try simp only [Act.put, k1, k2, k3])
        refine mpa 15 rfl (Value.pointer (some ⟨X, 0, none⟩)) (fun w => ?_) ?_
        · go_simp
        (try simp only [Act.put, k1, k2, k3])
        refine mpa 16 rfl (Value.pointer (some ⟨X, 0, none⟩)) (fun w => ?_) ?_
        · go_simp
        (try simp only [Act.put, k1, k2, k3])
        refine mpa 17 rfl (.pointer (some ⟨X, 1, none⟩)) (fun w => ?_) ?_
        · go_simp
        (try simp only [Act.put, k1, k2, k3])
        refine mpt 18 rfl (.slice (some ⟨GH, 0, none⟩) k k) (fun w hSw => ?_) ?_
        · (try dsimp only at hSw)
          go_split_ands
          go_simp
        (try simp only [Act.put, k1, k2, k3])
        refine mpa 19 rfl (.int .i64 t) (fun w => ?_) ?_
        · go_simp
        (try simp only [Act.put, k1, k2, k3])
        refine mpa 20 rfl (.pointer (some ⟨GH, t, none⟩)) (fun w => ?_) ?_
        · go_simp
        (try simp only [Act.put, k1, k2, k3])
        refine mpt 21 rfl (.int .i64 (m.hold t)) (fun w hSw => ?_) ?_
        · (try dsimp only at hSw)
          go_split_ands
          go_simp
        (try simp only [Act.put, k1, k2, k3])
        refine mpc 22 rfl (by kernel_rfl) (by rfl) (fun K hK => ?_)
        go_simp
        refine (behind_of r2.op r2.ret (m.hold t) _).mono ?_
        rintro e w9 ⟨rfl, rfl⟩
        refine hK.out _ _ (.inr hHeld) ?_
        clear hK K
        (try simp only [Act.put, k1, k2, k3])
        refine mpa 23 rfl (.pointer (some ⟨GH, t, none⟩)) (fun w => ?_) ?_
        · go_simp
        (try simp only [Act.put, k1, k2, k3])
        have zf : w6.frozen? ⟨GH, t, none⟩ = false := HZF.out
        have zc : w6.cell? ⟨GH, t, none⟩ = some (.int .i64 (m.hold t)) := hHeld.2.1
        refine mpc 24 rfl (by kernel_rfl) (by rfl) (fun K hK => ?_)
        go_simp
        have HM7 := Lib.hid (HM6.out.held ht (behindI r2.op r2.ret (m.hold t)))
        have HR7 : Hid (Row (w6.setCell ⟨GH, t, none⟩ (.int .i64 (behindI r2.op r2.ret (m.hold t)))) b 61 (r2.cells (.pointer p) nv2)) := Lib.hid (by
          obtain ⟨cs9, h9, _⟩ := HM6.out.h
          exact HP6.out.row.far (p := ⟨GH, t, none⟩) (fun e => row_ne HP6.out.row h9 (by decide) e) _)
        refine hK.out _ _ (.inl (by kernel_rfl)) ?_
        clear hK K hHeld zf zc HM6 HZF HP6
        generalize w6.setCell ⟨GH, t, none⟩ (.int .i64 (behindI r2.op r2.ret (m.hold t))) = w7 at *
        (try simp only [Act.put, k1, k2, k3])
        refine wpAnyP_done (by kernel_rfl) ?_ _
        have a4 : w7.cell? ⟨b, 4, none⟩ = some (.int .i64 r2.op) := HR7.out.cell_ (i := 4) rfl
        have a5 : w7.cell? ⟨b, 5, none⟩ = some (.int .i64 r2.line) := HR7.out.cell_ (i := 5) rfl
        have a6 : w7.cell? ⟨b, 6, none⟩ = some (.int .u32 r2.a) := HR7.out.cell_ (i := 6) rfl
        have a7 : w7.cell? ⟨b, 7, none⟩ = some (.int .u32 r2.b) := HR7.out.cell_ (i := 7) rfl
        have a8 : w7.cell? ⟨b, 8, none⟩ = some (.int .i64 r2.s) := HR7.out.cell_ (i := 8) rfl
        have a9 : w7.cell? ⟨b, 9, none⟩ = some (.bool r2.k.on) := HR7.out.cell_ (i := 9) rfl
        have a10 : w7.cell? ⟨b, 10, none⟩ = some (.int .i64 r2.k.c) := HR7.out.cell_ (i := 10) rfl
        have a11 : w7.cell? ⟨b, 11, none⟩ = some (.int .i64 r2.k.i) := HR7.out.cell_ (i := 11) rfl
        have a12 : w7.cell? ⟨b, 12, none⟩ = some (.bool r2.k.hit) := HR7.out.cell_ (i := 12) rfl
        have a13 : w7.cell? ⟨b, 13, none⟩ = some (.int .i64 r2.ret) := HR7.out.cell_ (i := 13) rfl
        have f4 : w7.frozen? ⟨b, 4, none⟩ = false := HR7.out.frozen 4
        have f5 : w7.frozen? ⟨b, 5, none⟩ = false := HR7.out.frozen 5
        have f6 : w7.frozen? ⟨b, 6, none⟩ = false := HR7.out.frozen 6
        have f7 : w7.frozen? ⟨b, 7, none⟩ = false := HR7.out.frozen 7
        have f8 : w7.frozen? ⟨b, 8, none⟩ = false := HR7.out.frozen 8
        have f9 : w7.frozen? ⟨b, 9, none⟩ = false := HR7.out.frozen 9
        have f10 : w7.frozen? ⟨b, 10, none⟩ = false := HR7.out.frozen 10
        have f11 : w7.frozen? ⟨b, 11, none⟩ = false := HR7.out.frozen 11
        have f12 : w7.frozen? ⟨b, 12, none⟩ = false := HR7.out.frozen 12
        have f13 : w7.frozen? ⟨b, 13, none⟩ = false := HR7.out.frozen 13
        go_wp2
        clear a4 a5 a6 a7 a8 a9 a10 a11 a12 a13 f4 f5 f6 f7 f8 f9 f10 f11 f12 f13
        go_returns
        have h8 := HM7.out.framed ht 0
        rw [HBT.out, at_setH, at_setR] at h8
        exact ⟨rfl, by rw [HPL.out, HGE.out]; exact h8⟩
    · have HSK := Lib.hid hsk
      clear hsk
      rintro e w4 ⟨rfl, hO, hM⟩
      have HM4 := Lib.hid (HM.out.same hO (by rw [← HRR.out] at hM; exact hM))
      have HGE := Lib.hid (show m.go LS.pq t = m by unfold MV.go; rw [HRR.out, HSK.out, if_pos rfl])
      clear hO hM HQ
      go_wp2
      go_returns
      exact ⟨rfl, by rw [HPL.out, HGE.out]; exact HM4.out⟩
end Go.Proofs.YtocdbeonogfopaaGreat
set_option linter.unusedVariables false
set_option linter.unusedSimpArgs false
namespace Go.Proofs.YtocdbeonogfopaaGreat
open Go.RowKit
theorem new_yes (n : Int) (w : World) (hn : 1 ≤ n ∧ n ≤ 64) :
    Calls Tryz.prog 17 #[.int .i64 n] w fun e w' => e = .returned (.tuple #[.agg #[.int .i64 n], .int .i64 0]) ∧ Only Nil w w' := by
  have HK := Lib.hid (okN_yes hn)
  clear hn
  go_enter Tryz.func17, Tryz.ntmps17
  go_wp2_with fail
  refine (isCount_any n _).mono ?_
  rw [HK.out]
  rintro e w1 ⟨rfl, rfl⟩
  go_wp2
  exact bodyPost_ret (v := .tuple #[.agg #[.int .i64 n], .int .i64 0]) (by simp [results, Tryz.results17, go_sem]) rfl ⟨rfl, by (repeat' (first | (with_reducible exact Only.refl _ _) | (with_reducible assumption) | (with_reducible refine Only.setCell ?_ ?_ _) | (with_reducible refine Only.drewN ?_ _) | (with_reducible refine Only.drew ?_) | (with_reducible refine Only.alloc ?_ _) | (left; simp; done) | (left; simp; omega) | (right; rfl)))⟩
end Go.Proofs.YtocdbeonogfopaaGreat
set_option linter.unusedVariables false
set_option linter.unusedSimpArgs false
namespace Go.Proofs.YtocdbeonogfopaaGreat
open Go.RowKit
theorem size_any (n : Int) (w : World) :
    Calls Tryz.prog 18 #[.agg #[.int .i64 n]] w fun e w' => e = .returned (.int .i64 (sizeI n)) ∧ Only Nil w w' := by
  by_cases hn : 1 ≤ n ∧ n ≤ 64
  · have hc : sizeI n = 8 + 4 * n := if_pos hn
    rw [hc]
    clear hc
    have HK := Lib.hid (okN_yes hn)
    obtain ⟨n1, n2⟩ := hn
    go_enter Tryz.func18, Tryz.ntmps18
    go_wp2_with fail
    refine (isCount_any n _).mono ?_
    rw [HK.out]
    rintro e w1 ⟨rfl, rfl⟩
    go_wp2
    go_ret
    exact ⟨rfl, by (repeat' (first | (with_reducible exact Only.refl _ _) | (with_reducible assumption) | (with_reducible refine Only.setCell ?_ ?_ _) | (with_reducible refine Only.drewN ?_ _) | (with_reducible refine Only.drew ?_) | (with_reducible refine Only.alloc ?_ _) | (left; simp; done) | (left; simp; omega) | (right; rfl)))⟩
  · have hc : sizeI n = 0 := if_neg hn
    rw [hc]
    clear hc
    have HK := Lib.hid (okN_no hn)
    clear hn
    go_enter Tryz.func18, Tryz.ntmps18
    go_wp2_with fail
    refine (isCount_any n _).mono ?_
    rw [HK.out]
    rintro e w1 ⟨rfl, rfl⟩
    go_wp2
    go_ret
    exact ⟨rfl, by (repeat' (first | (with_reducible exact Only.refl _ _) | (with_reducible assumption) | (with_reducible refine Only.setCell ?_ ?_ _) | (with_reducible refine Only.drewN ?_ _) | (with_reducible refine Only.drew ?_) | (with_reducible refine Only.alloc ?_ _) | (left; simp; done) | (left; simp; omega) | (right; rfl)))⟩
end Go.Proofs.YtocdbeonogfopaaGreat
