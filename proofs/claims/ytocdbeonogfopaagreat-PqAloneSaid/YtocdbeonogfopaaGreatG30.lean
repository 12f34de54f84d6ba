import Derived.Test.YtocdbeonogfopaaGreatG29
set_option linter.unusedVariables false
set_option linter.unusedSimpArgs false
namespace Go.Proofs.YtocdbeonogfopaaGreat
theorem len_do (xs : List Int) (K c x y : Int) (hK : isKind K = true := by rfl) : (doNew xs K c x y).length = xs.length := by rw [doNew_st _ _ _ _ _ hK]; exact st_len _ _ _
section
variable {b : Int} {k t : Nat} {mode : Int} {s s' : QS} {n n' : NS} {qp : Nat → Nat} {m : MV} {r R : LS} {qp' : Nat} {pl : Bool}
theorem doA_at (m : MV) (t : Nat) (K c x y : Int) : ((m.at t).fresh.doA K c x y).op = (m.rs t).op ∧ ((m.at t).fresh.doA K c x y).line = (m.rs t).line ∧ ((m.at t).fresh.doA K c x y).ret = (m.rs t).ret ∧ ((m.at t).fresh.doA K c x y).k = (m.rs t).k ∧ ((m.at t).fresh.doA K c x y).s = (m.rs t).s ∧ ((m.at t).fresh.doA K c x y).a = (m.rs t).a ∧ ((m.at t).fresh.doA K c x y).b = (m.rs t).b ∧ ((m.at t).fresh.doA K c x y).xs = doNew m.xs K c x y := ⟨rfl, rfl, rfl, rfl, rfl, rfl, rfl, rfl⟩
theorem NqC.th (C : NqC b k mode t s n qp m) (c : Int) (h0 : 0 ≤ c) (h8 : c < 8) : there m.xs c = true := C.h.w.th h0 (by omega)
theorem NqC.bits (C : NqC b k mode t s n qp m) : bitsI (wordAt m.xs 0) = n.β := by rw [C.h.w0]; exact wi_bits _ _ C.h.i.bd
theorem add_in (C : NqC b k mode t s n qp m) : wordAt (doNew m.xs 3 0 256 0) 0 = wi b (n.I + 1) n.β ∧ ∀ d : Int, d ≠ 0 → wordAt (doNew m.xs 3 0 256 0) d = wordAt m.xs d :=
  ⟨by rw [own_add (C.th 0 (by decide) (by decide)), C.h.w0, wi_up], fun d hd => own_add_far (fun e => hd e.symm)⟩
theorem add_out (C : NqC b k mode t s n qp m) : wordAt (doNew m.xs 3 1 256 0) 1 = wi b (n.O + 1) 0 ∧ ∀ d : Int, d ≠ 1 → wordAt (doNew m.xs 3 1 256 0) d = wordAt m.xs d :=
  ⟨by rw [own_add (C.th 1 (by decide) (by decide)), C.h.w1, wi_up], fun d hd => own_add_far (fun e => hd e.symm)⟩
theorem world_in (C : NqC b k mode t s n qp m) {x : Rd} (hI : NInv k (n.setR t x (n.I + 1) n.O)) (hx0 : wordAt R.xs 0 = wi b (n.I + 1) n.β) (hxd : ∀ d : Int, d ≠ 0 → wordAt R.xs d = wordAt m.xs d) (hlen : R.xs.length = m.xs.length) : NqW b k mode t s n m R s (n.setR t x (n.I + 1) n.O) :=
  world_n C.hk C.h hlen (fun d h0 _ _ => hxd d (by omega)) hI (set_r _ _ _ _ _) (Nat.le_refl _) hx0 ((hxd 1 (by decide)).trans C.h.w1) (by rw [hxd 3 (by decide)]; exact C.h.w3) (.inl ⟨hxd 3 (by decide), rfl⟩) (fun _ _ d hd => hxd d (by omega)) (.inl rfl) (.inl rfl)
theorem world_out (C : NqC b k mode t s n qp m) (hI : NInv k (n.setR t .no n.I (n.O + 1))) (hx0 : wordAt R.xs 1 = wi b (n.O + 1) 0) (hxd : ∀ d : Int, d ≠ 1 → wordAt R.xs d = wordAt m.xs d) (hlen : R.xs.length = m.xs.length) (hk : (n.wr t).act = true ∨ R.k = beginI mode 1) : NqW b k mode t s n m R s (n.setR t .no n.I (n.O + 1)) :=
  world_n C.hk C.h hlen (fun d h0 _ _ => hxd d (by omega)) hI (set_r _ _ _ _ _) (Nat.le_succ _) ((hxd 0 (by decide)).trans C.h.w0) hx0 (by rw [hxd 3 (by decide)]; exact C.h.w3) (.inl ⟨hxd 3 (by decide), rfl⟩) (fun _ _ d hd => hxd d (by omega)) (.inl rfl) (.inr hk)
theorem world_s (C : NqC b k mode t s n qp m) {n' : NS} (hx : ∀ d : Int, wordAt R.xs d = wordAt m.xs d) (hlen : R.xs.length = m.xs.length) (hi : NInv k n') (ho : ∀ i, i ≠ t → n'.rd i = n.rd i ∧ n'.wr i = n.wr i) (he : n'.I = n.I ∧ n'.O = n.O ∧ n'.β = n.β ∧ n'.φ = n.φ ∧ n'.a = n.a) : NqW b k mode t s n m R s n' :=
  world_0 C.hk C.h hlen (fun d _ _ => hx d) hi ho he (fun _ _ d _ => hx d)
theorem n_come (C : NqC b k mode t s n qp m) (ho : (m.rs t).op = 1) (hl : (m.rs t).line = 0) (hh : m.hold t = 0) (hq : qp t = 0) (hx : n.rd t = .no) (hy : n.wr t = .no) : NqGo b k mode t s n m (m.at t).fresh.pq := by
  have T := C.h.t t C.ht
  rw [hq] at T
  rw [pq_1_0 (r := (m.at t).fresh) ho hl]
  have hb := C.bits
  have hs0 := C.s0 (wtN_no (by omega) (by omega) (by omega) (by omega) (by omega))
  have hI := C.h.i.come C.ht hx (.inl (by rw [hy]; rfl))
  obtain ⟨x0, xd⟩ := add_in C
  have xl := len_do m.xs 3 0 256 0
  unfold LS.pCome
  rw [show (m.at t).fresh.xs = m.xs from rfl]
  obtain ⟨f1, f2, f3, f4, f5, f6, f7, f8⟩ := doA_at m t 3 0 256 0
  rw [← f8] at x0 xd xl
  generalize (m.at t).fresh.doA 3 0 256 0 = R0 at *
  by_cases e : bitsI (wordAt m.xs 0) = 0
  · rw [if_pos e]
    have e0 : n.β = 0 := hb.symm.trans e
    rw [if_pos e0] at hI
    refine go_end (R := (((R0.keepA (wordAt m.xs 0)).note 2 1).note 4 0).fin true) (world_in C hI x0 xd xl) (qp' := 0) (o := 1) (l := 0) (ret := 2) (hv := 1) (f1.trans ho) (f2.trans hl) rfl (by decide) (by rw [hh]; rfl) (fun e => ?_) (fun s a on => ?_) (fun a st => T.anyN (.inl rfl))
    · have e' : R0.k.on = true := e
      rw [f4, C.on] at e'; cases e'
    · exact .idle1 rfl rfl rfl rfl (at_r _ _ _ _ _) hy
  · rw [if_neg e]
    have e0 : n.β ≠ 0 := fun e2 => e (hb.trans e2)
    rw [if_neg e0] at hI
    refine go_stay (R := ((R0.keepA (wordAt m.xs 0)).note 2 1).go 1) (world_in C hI x0 xd xl) (qp' := 0) (o := 1) (l := 1) (f1.trans ho) rfl (f3.trans C.ret) ?_ (T.anyN (.inl rfl)) (fun e => by unfold phW at e; omega) (fun e => by unfold ahW at e; omega)
    refine .adm rfl rfl rfl hh rfl ?_ hy
    rw [if_neg (by show ¬ R0.s = 4; omega), at_r]
    show _ = Rd.waits (bitsI (wordAt m.xs 0))
    rw [hb]
theorem n_look (C : NqC b k mode t s n qp m) (ho : (m.rs t).op = 5) (hl : (m.rs t).line = 0) (hh : m.hold t = 0) (hq : qp t = 0) (hx : n.rd t = .no) (hy : n.wr t = .no) : NqGo b k mode t s n m (m.at t).fresh.pq := by
  have T := C.h.t t C.ht
  rw [hq] at T
  rw [pq_5_0 (r := (m.at t).fresh) ho hl]
  have xl := len_do m.xs 1 0 0 0
  have xd : ∀ d : Int, wordAt (doNew m.xs 1 0 0 0) d = wordAt m.xs d := fun d => by rw [own_load]
  unfold LS.pLookIn
  rw [show (m.at t).fresh.xs = m.xs from rfl]
  obtain ⟨f1, f2, f3, f4, f5, f6, f7, f8⟩ := doA_at m t 1 0 0 0
  rw [← f8] at xd xl
  generalize (m.at t).fresh.doA 1 0 0 0 = R0 at *
  have W := fun (R : LS) (e : R.xs = R0.xs) => world_s (R := R) (mode := mode) C (fun d => by rw [e]; exact xd d) (by rw [e]; exact xl) C.h.i (same_n n t) ⟨rfl, rfl, rfl, rfl, rfl⟩
  by_cases e : bitsI (wordAt m.xs 0) = 0
  · rw [if_pos e]
    exact go_stay (R := (R0.keepA (wordAt m.xs 0)).go 1) (W _ rfl) (qp' := 0) (o := 5) (l := 1) (f1.trans ho) rfl (f3.trans C.ret) (.slip rfl rfl rfl hh rfl hx hy e) (T.anyN (.inl rfl)) (fun e => by unfold phW at e; omega) (fun e => by unfold ahW at e; omega)
  · rw [if_neg e]
    refine go_end (R := ((R0.keepA (wordAt m.xs 0)).note 5 0).fin false) (W _ rfl) (qp' := 0) (o := 5) (l := 0) (ret := 1) (hv := 0) (f1.trans ho) (f2.trans hl) rfl (by decide) (by rw [hh]; rfl) (fun e => ?_) (fun s a on => .idle0 rfl rfl rfl rfl hx hy) (fun a st => T.anyN (.inl rfl))
    have e' : R0.k.on = true := e
    rw [f4, C.on] at e'; cases e'
theorem n_slip (C : NqC b k mode t s n qp m) (ho : (m.rs t).op = 5) (hl : (m.rs t).line = 1) (hh : m.hold t = 0) (hq : qp t = 0) (hx : n.rd t = .no) (hy : n.wr t = .no) (ha : bitsI (m.rs t).a = 0) : NqGo b k mode t s n m (m.at t).fresh.pq := by
  have T := C.h.t t C.ht
  rw [hq] at T
  rw [pq_5_1 (r := (m.at t).fresh) ho hl]
  have hb := C.bits
  have hth := C.th 0 (by decide) (by decide)
  unfold LS.pSlip
  have hw : (m.at t).fresh.was 0 = decide (wordAt m.xs 0 = (m.rs t).a) := by
    show (there m.xs 0 && (wordAt m.xs 0 == (m.rs t).a)) = _
    rw [hth, Bool.true_and]; rfl
  rw [hw, show (m.at t).fresh.a = (m.rs t).a from rfl]
  have xl := len_do m.xs 5 0 (m.rs t).a (((m.rs t).a + 256) % 4294967296)
  have xd : ∀ d : Int, d ≠ 0 → wordAt (doNew m.xs 5 0 (m.rs t).a (((m.rs t).a + 256) % 4294967296)) d = wordAt m.xs d := fun d hd => own_cas_far (fun e => hd e.symm)
  have x0 : wordAt (doNew m.xs 5 0 (m.rs t).a (((m.rs t).a + 256) % 4294967296)) 0 = if wordAt m.xs 0 = (m.rs t).a then ((m.rs t).a + 256) % 4294967296 else wordAt m.xs 0 := own_cas hth
  obtain ⟨f1, f2, f3, f4, f5, f6, f7, f8⟩ := doA_at m t 5 0 (m.rs t).a (((m.rs t).a + 256) % 4294967296)
  rw [← f8] at x0 xd xl
  generalize (m.at t).fresh.doA 5 0 (m.rs t).a (((m.rs t).a + 256) % 4294967296) = R0 at *
  by_cases e : wordAt m.xs 0 = (m.rs t).a
  · rw [if_pos (decide_eq_true e)]
    rw [if_pos e, ← e, C.h.w0, wi_up'] at x0
    have e0 : n.β = 0 := by rw [← hb, e]; exact ha
    have hI := C.h.i.come C.ht hx (.inl (by rw [hy]; rfl))
    rw [if_pos e0] at hI
    refine go_end (R := ((R0.note 2 1).note 4 0).fin true) (world_in C hI x0 xd xl) (qp' := 0) (o := 5) (l := 1) (ret := 2) (hv := 1) (f1.trans ho) (f2.trans hl) rfl (by decide) (by rw [hh]; rfl) (fun e => ?_) (fun s a on => ?_) (fun a st => T.anyN (.inl rfl))
    · have e' : R0.k.on = true := e
      rw [f4, C.on] at e'; cases e'
    · exact .idle1 rfl rfl rfl rfl (at_r _ _ _ _ _) hy
  · rw [if_neg (by simpa using e)]
    rw [if_neg e] at x0
    have xs' : ∀ d : Int, wordAt R0.xs d = wordAt m.xs d := fun d => by
      by_cases hd : d = 0
      · rw [hd]; exact x0
      · exact xd d hd
    exact go_stay (R := R0.go 0) (world_s C xs' xl C.h.i (same_n n t) ⟨rfl, rfl, rfl, rfl, rfl⟩) (qp' := 0) (o := 5) (l := 0) (f1.trans ho) rfl (f3.trans C.ret) (.come (.inr rfl) rfl rfl hh rfl hx hy) (T.anyN (.inl rfl)) (fun e => by unfold phW at e; omega) (fun e => by unfold ahW at e; omega)
theorem n_dep (C : NqC b k mode t s n qp m) (ho : (m.rs t).op = 2) (hl : (m.rs t).line = 0) (hh : m.hold t = 0) (hq : qp t = 0) (hx : n.rd t = .reads) (hy : n.wr t = .no) : NqGo b k mode t s n m (m.at t).fresh.pq := by
  have T := C.h.t t C.ht
  rw [hq] at T
  rw [pq_2_0 (r := (m.at t).fresh) ho hl]
  obtain ⟨x0, xd⟩ := add_out C
  have xl := len_do m.xs 3 1 256 0
  have hI := C.h.i.depart C.ht hx
  obtain ⟨⟨_, _, _, f4, _⟩, f6, f7, f8, f9⟩ := dep_fw (r := (m.at t).fresh)
  have f9' : (m.at t).fresh.pDepart.xs = doNew m.xs 3 1 256 0 := f9
  have f4' : (m.at t).fresh.pDepart.op = (m.rs t).op := f4
  have f6' : (m.at t).fresh.pDepart.line = (m.rs t).line := f6
  have f8' : (m.at t).fresh.pDepart.k = beginI mode 1 := by rw [f8, C.A.mode]
  rw [← f9'] at x0 xd xl
  generalize (m.at t).fresh.pDepart = R0 at *
  exact go_end (world_out C hI x0 xd xl (.inr f8')) (qp' := 0) (o := 2) (l := 0) (ret := 2) (hv := 0) (f4'.trans ho) (f6'.trans hl) f7 (by decide) (by rw [hh]; rfl) (fun e => ⟨.depd rfl rfl hh rfl rfl (at_r _ _ _ _ _) hy, by unfold phW ahW; omega⟩) (fun s a on => .idle0 rfl rfl rfl rfl (at_r _ _ _ _ _) hy) (fun a st => T.anyN (.inl rfl))
theorem n_stop (C : NqC b k mode t s n qp m) (ho : (m.rs t).op = 7) (hl : (m.rs t).line = 7) (hh : m.hold t = 1) (hq : qp t = 6) (hx : n.rd t = .reads) (hy : n.wr t = .writes) : NqGo b k mode t s n m (m.at t).fresh.pq := by
  have T := C.h.t t C.ht
  rw [hq] at T
  rw [pq_7_7 (r := (m.at t).fresh) ho hl]
  obtain ⟨x0, xd⟩ := add_out C
  have xl := len_do m.xs 3 1 256 0
  have hI := C.h.i.depart C.ht hx
  obtain ⟨⟨_, _, _, f4, _⟩, f6, f7, f8, f9⟩ := stop_fw (r := (m.at t).fresh)
  have f9' : (m.at t).fresh.pStop.xs = doNew m.xs 3 1 256 0 := f9
  have f4' : (m.at t).fresh.pStop.op = (m.rs t).op := f4
  have f6' : (m.at t).fresh.pStop.line = (m.rs t).line := f6
  have f8' : (m.at t).fresh.pStop.k = (m.rs t).k := f8
  rw [← f9'] at x0 xd xl
  generalize (m.at t).fresh.pStop = R0 at *
  exact go_end (world_out C hI x0 xd xl (.inl (by rw [hy]; rfl))) (qp' := 6) (o := 7) (l := 7) (ret := 2) (hv := 2) (f4'.trans ho) (f6'.trans hl) f7 (by decide) (by rw [hh]; rfl) (fun e => by rw [f8', C.on] at e; cases e) (fun s a on => .idle2 rfl rfl rfl rfl (at_r _ _ _ _ _) hy) (fun a st => T.anyN (.inr rfl))
theorem n_keep (C : NqC b k mode t s n qp m) {o l : Int} (ho : (m.rs t).op = o) (hq : qp t = 6) (hf : ∀ s a on, NT (m.hold t) o l 0 s a on 6 (n.rd t) (n.wr t)) (ha : ¬ ahW o l) (hp : (m.at t).fresh.pq = (m.at t).fresh.wKeep l) : NqGo b k mode t s n m (m.at t).fresh.pq := by
  have T := C.h.t t C.ht
  rw [hq] at T
  rw [hp]
  obtain ⟨⟨_, _, _, f4, _⟩, f6, f7, f8, _, f10, f11⟩ := keep_fw (r := (m.at t).fresh) l
  have f4' : ((m.at t).fresh.wKeep l).op = (m.rs t).op := f4
  have f7' : ((m.at t).fresh.wKeep l).ret = (m.rs t).ret := f7
  have f10' : ((m.at t).fresh.wKeep l).b = wordAt m.xs 3 := f10
  have f11' : ((m.at t).fresh.wKeep l).xs = m.xs := f11
  generalize (m.at t).fresh.wKeep l = R0 at *
  exact go_stay (world_s C (fun d => by rw [f11']) (by rw [f11']) C.h.i (same_n n t) ⟨rfl, rfl, rfl, rfl, rfl⟩) (qp' := 6) (o := o) (l := l) (f4'.trans ho) f6 (f7'.trans C.ret) (hf _ _ _) (T.anyN (.inr rfl)) (fun _ => by rw [f11']; exact f10') (fun e => absurd e ha)
theorem n_appear (C : NqC b k mode t s n qp m) {o l : Int} (ho : (m.rs t).op = o) (hq : qp t = 6) (hy : n.wr t = .turn) (hph : phW o (m.rs t).line) (hs0 : (m.rs t).s = 0) (hf : ∀ s a on y, s = 0 → y = Wr.comes → NT (m.hold t) o l 0 s a on 6 (n.rd t) y) (hl : ¬ phW o l) (hp : (m.at t).fresh.pq = (m.at t).fresh.pAppear l) : NqGo b k mode t s n m (m.at t).fresh.pq := by
  have T := C.h.t t C.ht
  rw [hq] at T
  rw [hp]
  have hb : (m.rs t).b = wordAt m.xs 3 := C.h.ph t C.ht (by rw [ho]; exact hph)
  have hI := C.h.i.appear C.ht hy
  have hβ := C.h.i.free C.ht (by rw [hy]; rfl) (by rw [hy]; rfl)
  have hpr : presI (m.rs t).b = 2 + n.φ := by unfold presI; rw [hb, C.h.w3]
  have x0 : wordAt (doNew m.xs 3 0 (presI (m.rs t).b) 0) 0 = wi b n.I (2 + n.φ) := by rw [own_add (C.th 0 (by decide) (by decide)), C.h.w0, wi_add, hβ, hpr, Int.add_zero]
  have xd : ∀ d : Int, d ≠ 0 → wordAt (doNew m.xs 3 0 (presI (m.rs t).b) 0) d = wordAt m.xs d := fun d hd => own_add_far (fun e => hd e.symm)
  have xl := len_do m.xs 3 0 (presI (m.rs t).b) 0
  obtain ⟨⟨_, _, _, f4, f5⟩, f6, f7, f8, f9, f10, f11⟩ := app_fw (r := (m.at t).fresh) l
  have f4' : ((m.at t).fresh.pAppear l).op = (m.rs t).op := f4
  have f5' : ((m.at t).fresh.pAppear l).s = (m.rs t).s := f5
  have f7' : ((m.at t).fresh.pAppear l).ret = (m.rs t).ret := f7
  have f9' : ((m.at t).fresh.pAppear l).a = wordAt m.xs 0 := f9
  have f11' : ((m.at t).fresh.pAppear l).xs = doNew m.xs 3 0 (presI (m.rs t).b) 0 := f11
  rw [← f11'] at x0 xd xl
  generalize (m.at t).fresh.pAppear l = R0 at *
  refine go_stay (n' := n.setW t .comes (2 + n.φ) n.φ n.I) (s' := s) (qp' := 6) (world_n C.hk C.h xl (fun d h0 _ _ => xd d (by omega)) hI (set_w _ _ _ _ _ _) (Nat.le_succ _) x0 ((xd 1 (by decide)).trans C.h.w1) (by rw [xd 3 (by decide)]; exact C.h.w3) (.inr (by rw [hy]; rfl)) (fun _ _ d hd => xd d (by omega)) (.inr (.inl hβ)) (.inl rfl)) (o := o) (l := l) (f4'.trans ho) f6 (f7'.trans C.ret) (hf _ _ _ _ (f5'.trans hs0) (at_w _ _ _ _ _ _)) (T.anyN (.inr rfl)) (fun e => absurd e hl) (fun _ => ?_)
  rw [f9', C.h.w0, hβ]; rfl
theorem n_look0 (C : NqC b k mode t s n qp m) (hu : UpN (m.rs t).op (m.hold t) (n.rd t)) (hl : (m.rs t).line = 2) (hq : qp t = 6) (hy : n.wr t = .turn) : NqGo b k mode t s n m (m.at t).fresh.pq := by
  have T := C.h.t t C.ht
  rw [hq] at T
  have ho := hu.op67
  rw [show (m.at t).fresh.pq = (m.at t).fresh.pLook 0 3 by rcases ho with e | e; exact pq_6_2 (r := (m.at t).fresh) e hl; exact pq_7_2 (r := (m.at t).fresh) e hl]
  obtain ⟨⟨_, _, _, f4, _⟩, f6, f7, f8, _, f10, f11⟩ := look_fw (r := (m.at t).fresh) 3
  have f4' : ((m.at t).fresh.pLook 0 3).op = (m.rs t).op := f4
  have f7' : ((m.at t).fresh.pLook 0 3).ret = (m.rs t).ret := f7
  have f11' : ((m.at t).fresh.pLook 0 3).xs = m.xs := f11
  generalize (m.at t).fresh.pLook 0 3 = R0 at *
  exact go_stay (world_s C (fun d => by rw [f11']) (by rw [f11']) C.h.i (same_n n t) ⟨rfl, rfl, rfl, rfl, rfl⟩) (qp' := 6) (o := (m.rs t).op) (l := 3) f4' f6 (f7'.trans C.ret) (.turn (.inr ⟨hu, .inr (.inl rfl)⟩) rfl rfl hy) (T.anyN (.inr rfl)) (fun e => by unfold phW at e; omega) (fun e => by unfold ahW at e; omega)
theorem n_weigh (C : NqC b k mode t s n qp m) (own : Int) (hu : UpN (m.rs t).op (m.hold t) (n.rd t)) (hl : (m.rs t).line = 3) (hq : qp t = 6) (hy : n.wr t = .turn) (hp : (m.at t).fresh.pq = (m.at t).fresh.wWeigh own) : NqGo b k mode t s n m (m.at t).fresh.pq := by
  have T := C.h.t t C.ht
  rw [hq] at T
  have ho := hu.op67
  rw [hp]
  unfold LS.wWeigh
  have xl := len_do m.xs 1 1 0 0
  have xd : ∀ d : Int, wordAt (doNew m.xs 1 1 0 0) d = wordAt m.xs d := fun d => by rw [own_load]
  obtain ⟨f1, f2, f3, f4, f5, f6, f7, f8⟩ := doA_at m t 1 1 0 0
  rw [← f8] at xd xl
  generalize (m.at t).fresh.doA 1 1 0 0 = R0 at *
  generalize wordAt (m.at t).fresh.xs 1 = y
  by_cases e : aheadI (m.at t).fresh.a y ≤ own
  · rw [if_pos e]
    exact go_stay (R := (R0.keepB y).go 4) (world_s C xd xl C.h.i (same_n n t) ⟨rfl, rfl, rfl, rfl, rfl⟩) (qp' := 6) (o := (m.rs t).op) (l := 4) f1 rfl (f3.trans C.ret) (.turn (.inr ⟨hu, .inr (.inr (.inl rfl))⟩) rfl rfl hy) (T.anyN (.inr rfl)) (fun e => by unfold phW at e; omega) (fun e => by unfold ahW at e; omega)
  · rw [if_neg e]
    exact go_stay (R := ((R0.keepB y).note 5 0).go 8) (n' := n.setW t .last n.β n.φ n.a) (world_s C xd xl (C.h.i.count C.ht (φ := n.φ) (.inr ⟨hy, rfl⟩)) (set_w _ _ _ _ _ _) ⟨rfl, rfl, rfl, rfl, rfl⟩) (qp' := 7) (o := (m.rs t).op) (l := 8) f1 rfl (f3.trans C.ret) (.give 0 8 false (.up hu) (by decide) rfl rfl rfl (at_w _ _ _ _ _ _)) (.g0 (T.in5 (by decide))) (fun e => by unfold phW at e; omega) (fun e => by unfold ahW at e; omega)
theorem n_vanish (C : NqC b k mode t s n qp m) (hu : ((m.rs t).op = 4 ∧ m.hold t = 0) ∨ ((m.rs t).op = 8 ∧ m.hold t = 1)) (hl : (m.rs t).line = 1) (hq : qp t = 6) (hx : n.rd t = .no) (hy : n.wr t = .writes) : NqGo b k mode t s n m (m.at t).fresh.pq := by
  have T := C.h.t t C.ht
  rw [hq] at T
  have hb : (m.rs t).b = wordAt m.xs 3 := C.h.ph t C.ht (by unfold phW; omega)
  have hI := C.h.i.vanish C.ht hy hx
  have hβ := (C.h.i.bits t C.ht (by rw [hy]; rfl)).1
  have hpr : presI (m.rs t).b = n.β := by unfold presI; rw [hb, C.h.w3, hβ]
  have hact : (n.wr t).act = true := by rw [hy]; rfl
  rcases hu with ⟨ho, hh⟩ | ⟨ho, hh⟩
  · rw [pq_4_1 (r := (m.at t).fresh) ho hl]
    have x0 : wordAt (doNew m.xs 3 0 ((0 - presI (m.rs t).b) % 4294967296) 0) 0 = wi b n.I 0 := by rw [own_add (C.th 0 (by decide) (by decide)), C.h.w0, hpr]; exact wi_van _ _ _
    have xd : ∀ d : Int, d ≠ 0 → wordAt (doNew m.xs 3 0 ((0 - presI (m.rs t).b) % 4294967296) 0) d = wordAt m.xs d := fun d hd => own_add_far (fun e => hd e.symm)
    have xl := len_do m.xs 3 0 ((0 - presI (m.rs t).b) % 4294967296) 0
    obtain ⟨⟨_, _, _, f4, _⟩, f6, f7, f8, f10, f11⟩ := van_fw (r := (m.at t).fresh) 0 7
    have f4' : ((m.at t).fresh.pVanish 0 7).op = (m.rs t).op := f4
    have f7' : ((m.at t).fresh.pVanish 0 7).ret = (m.rs t).ret := f7
    have f8' : ((m.at t).fresh.pVanish 0 7).k = beginI mode 0 := by rw [f8, C.A.mode]
    have f10' : ((m.at t).fresh.pVanish 0 7).b = (m.rs t).b := f10
    have f11' : ((m.at t).fresh.pVanish 0 7).xs = doNew m.xs 3 0 ((0 - presI (m.rs t).b) % 4294967296) 0 := f11
    rw [← f11'] at x0 xd xl
    generalize (m.at t).fresh.pVanish 0 7 = R0 at *
    exact go_stay (n' := n.setW t .left 0 n.φ n.a) (s' := s) (qp' := 6) (world_n C.hk C.h xl (fun d h0 _ _ => xd d (by omega)) hI (set_w _ _ _ _ _ _) (Nat.le_succ _) x0 ((xd 1 (by decide)).trans C.h.w1) (by rw [xd 3 (by decide)]; exact C.h.w3) (.inr hact) (fun _ _ d hd => xd d (by omega)) (.inr (.inr f8')) (.inl rfl)) (o := 4) (l := 2) (f4'.trans ho) f6 (f7'.trans C.ret) (.left (by rw [hh]; exact hx ▸ .u4) rfl rfl rfl (at_w _ _ _ _ _ _)) (T.anyN (.inr rfl)) (fun _ => by rw [f10', hb, xd 3 (by decide)]) (fun e => by unfold ahW at e; omega)
  · rw [pq_8_1 (r := (m.at t).fresh) ho hl]
    have hI2 := hI.come C.ht hx (.inr rfl)
    rw [if_pos (show (n.setW t .left 0 n.φ n.a).β = 0 from rfl)] at hI2
    have x0 : wordAt (doNew m.xs 3 0 ((256 - presI (m.rs t).b) % 4294967296) 0) 0 = wi b (n.I + 1) 0 := by rw [own_add (C.th 0 (by decide) (by decide)), C.h.w0, hpr]; exact wi_van' _ _ _
    have xd : ∀ d : Int, d ≠ 0 → wordAt (doNew m.xs 3 0 ((256 - presI (m.rs t).b) % 4294967296) 0) d = wordAt m.xs d := fun d hd => own_add_far (fun e => hd e.symm)
    have xl := len_do m.xs 3 0 ((256 - presI (m.rs t).b) % 4294967296) 0
    obtain ⟨⟨_, _, _, f4, _⟩, f6, f7, f8, f10, f11⟩ := van_fw (r := (m.at t).fresh) 256 10
    have f4' : ((m.at t).fresh.pVanish 256 10).op = (m.rs t).op := f4
    have f7' : ((m.at t).fresh.pVanish 256 10).ret = (m.rs t).ret := f7
    have f8' : ((m.at t).fresh.pVanish 256 10).k = beginI mode 0 := by rw [f8, C.A.mode]
    have f10' : ((m.at t).fresh.pVanish 256 10).b = (m.rs t).b := f10
    have f11' : ((m.at t).fresh.pVanish 256 10).xs = doNew m.xs 3 0 ((256 - presI (m.rs t).b) % 4294967296) 0 := f11
    rw [← f11'] at x0 xd xl
    generalize (m.at t).fresh.pVanish 256 10 = R0 at *
    exact go_stay (n' := (n.setW t .left 0 n.φ n.a).setR t .reads (n.I + 1) n.O) (s' := s) (qp' := 6) (world_n C.hk C.h xl (fun d h0 _ _ => xd d (by omega)) hI2 (fun i e => ⟨upd_other _ _ e, upd_other _ _ e⟩) (Nat.le_refl _) x0 ((xd 1 (by decide)).trans C.h.w1) (by rw [xd 3 (by decide)]; exact C.h.w3) (.inr hact) (fun _ _ d hd => xd d (by omega)) (.inr (.inr f8')) (.inl rfl)) (o := 8) (l := 2) (f4'.trans ho) f6 (f7'.trans C.ret) (.left (by rw [hh, at_r]; exact .u8) rfl rfl rfl (at_w n t .left 0 n.φ n.a)) (T.anyN (.inr rfl)) (fun _ => by rw [f10', hb, xd 3 (by decide)]) (fun e => by unfold ahW at e; omega)
theorem n_count (C : NqC b k mode t s n qp m) (hu : UnlN (m.rs t).op (m.hold t) (n.rd t)) (hl : (m.rs t).line = 2) (hq : qp t = 6) (hy : n.wr t = .left) : NqGo b k mode t s n m (m.at t).fresh.pq := by
  have T := C.h.t t C.ht
  rw [hq] at T
  have ho := hu.op48
  have hb : (m.rs t).b = wordAt m.xs 3 := C.h.ph t C.ht (by unfold phW; omega)
  rw [show (m.at t).fresh.pq = (m.at t).fresh.wCount by rcases ho with e | e; exact pq_4_2 (r := (m.at t).fresh) e hl; exact pq_8_2 (r := (m.at t).fresh) e hl]
  have hph := C.h.i.ph
  have x0 : wordAt (doNew m.xs 2 3 (((m.rs t).b + 1) % 4294967296) 0) 3 % 2 = 1 - n.φ := by
    rw [doNew_st _ _ _ _ _ rfl, word_st, if_pos (C.th 3 (by decide) (by decide))]
    have := C.h.w3
    show (((m.rs t).b + 1) % 4294967296) % 2 = _
    omega
  have xd : ∀ d : Int, d ≠ 3 → wordAt (doNew m.xs 2 3 (((m.rs t).b + 1) % 4294967296) 0) d = wordAt m.xs d := fun d hd => by rw [doNew_st _ _ _ _ _ rfl, word_far _ (fun e => hd e.symm)]
  have xl := len_do m.xs 2 3 (((m.rs t).b + 1) % 4294967296) 0
  obtain ⟨⟨_, _, _, f4, _⟩, f6, f7, f8, f9⟩ := cnt_fw (r := (m.at t).fresh)
  have f4' : (m.at t).fresh.wCount.op = (m.rs t).op := f4
  have f7' : (m.at t).fresh.wCount.ret = (m.rs t).ret := f7
  have f9' : (m.at t).fresh.wCount.xs = doNew m.xs 2 3 (((m.rs t).b + 1) % 4294967296) 0 := f9
  rw [← f9'] at x0 xd xl
  generalize (m.at t).fresh.wCount = R0 at *
  exact go_stay (n' := n.setW t .last n.β (1 - n.φ) n.a) (s' := s) (qp' := 7) (world_n C.hk C.h xl (fun d h0 h3 _ => xd d h3) (C.h.i.count C.ht (.inl ⟨hy, rfl⟩)) (set_w _ _ _ _ _ _) (Nat.le_succ _) ((xd 0 (by decide)).trans C.h.w0) ((xd 1 (by decide)).trans C.h.w1) x0 (.inr (by rw [hy]; rfl)) (fun _ _ d hd => xd d (by omega)) (.inl rfl) (.inl rfl)) (o := (m.rs t).op) (l := 3) f4' f6 (f7'.trans C.ret) (.give 0 3 true (.un hu) (by decide) rfl rfl rfl (at_w _ _ _ _ _ _)) (.g0 (T.in5 (by decide))) (fun e => by unfold phW at e; omega) (fun e => by unfold ahW at e; omega)
end
end Go.Proofs.YtocdbeonogfopaaGreat
set_option linter.unusedVariables false
set_option linter.unusedSimpArgs false
namespace Go.Proofs.YtocdbeonogfopaaGreat
section
variable {b : Int} {k t : Nat} {mode : Int} {s s' : QS} {n n' : NS} {qp : Nat → Nat} {m : MV} {r R : LS} {qp' : Nat} {pl : Bool}
theorem AtQ.stp {tc : Int} (h : AtQ tc mode k t s r) (c : Int) (q : Int → Bool) : r.stepR c q = stepI r.xs k mode t r.s c q := by
  unfold LS.stepR; rw [h.n, h.mode, h.task]
theorem wait_ways (C : NqC b k mode t s n qp m) (c : Int) (q : Int → Bool) : (((m.at t).fresh.stepR c q).done = true ∧ ((m.rs t).s = 4 ∨ q (wordAt m.xs c) = true)) ∨ (((m.at t).fresh.stepR c q).done = false ∧ (m.rs t).s ≠ 4 ∧ (((m.at t).fresh.stepR c q).next = 4 → q (wordAt m.xs c) = true)) := by
  rw [C.A.stp]
  show ((stepI m.xs k mode t (m.rs t).s c q).done = true ∧ _) ∨ ((stepI m.xs k mode t (m.rs t).s c q).done = false ∧ _ ∧ ((stepI m.xs k mode t (m.rs t).s c q).next = 4 → _))
  obtain ⟨w1, w2⟩ := waitq_facts (xs := m.xs) (n := (k : Int)) (mode := mode) (i := (t : Int)) (s := (m.rs t).s) (c := c) (q := q)
  cases hd : (stepI m.xs k mode t (m.rs t).s c q).done
  · refine .inr ⟨rfl, fun e => ?_, fun e => (w2 e).2⟩
    by_cases em : mode = 2
    · subst em; rw [e, stepI_4] at hd; cases hd
    · have := C.sp em; omega
  · rcases w1 hd with ⟨_, e⟩ | ⟨e, _⟩
    · exact .inl ⟨rfl, .inr e⟩
    · exact .inl ⟨rfl, .inl e⟩
theorem wait_core (C : NqC b k mode t s n qp m) {c : Int} {q : Int → Bool} (hw : wtR wtN (m.rs t) = some (c, q)) (Q : NS → Prop) (hin : (m.rs t).s = 4 ∨ q (wordAt m.xs c) = true → ∃ n', NInv k n' ∧ (∀ i, i ≠ t → n'.rd i = n.rd i ∧ n'.wr i = n.wr i) ∧ (n'.I = n.I ∧ n'.O = n.O ∧ n'.β = n.β ∧ n'.φ = n.φ ∧ n'.a = n.a) ∧ Q n') :
    (((m.at t).fresh.stepR c q).done = true ∧ ∃ n', Q n' ∧ n'.a = n.a ∧ ∀ R : LS, R.xs = ((m.at t).fresh.stepR c q).xs → NqW b k mode t s n m R s n') ∨
    (((m.at t).fresh.stepR c q).done = false ∧ ∃ n', ((((m.at t).fresh.stepR c q).next = 4 ∧ Q n') ∨ (((m.at t).fresh.stepR c q).next ≠ 4 ∧ n' = n ∧ (m.rs t).s ≠ 4)) ∧ n'.a = n.a ∧ ∀ R : LS, R.xs = ((m.at t).fresh.stepR c q).xs → NqW b k mode t s n m R s n') := by
  have W : ∀ n', NInv k n' → (∀ i, i ≠ t → n'.rd i = n.rd i ∧ n'.wr i = n.wr i) → (n'.I = n.I ∧ n'.O = n.O ∧ n'.β = n.β ∧ n'.φ = n.φ ∧ n'.a = n.a) → ∀ R : LS, R.xs = ((m.at t).fresh.stepR c q).xs → NqW b k mode t s n m R s n' := fun n' h1 h2 h3 R e => by
    have ht := C.ht
    refine world_0 C.hk C.h ?_ (fun d h0 h8 => ?_) h1 h2 h3 (fun _ e2 => by rw [hw] at e2; cases e2)
    · rw [e, C.A.stp]; exact step_len0 _ _ _ _ _ _ _
    · rw [e, C.A.stp]
      exact own_wait (by rw [wc_at C.hk ht]; omega) (by rw [pc_at C.hk ht]; omega)
  rcases wait_ways C c q with ⟨hd, e⟩ | ⟨hd, e4, e⟩
  · obtain ⟨n', h1, h2, h3, h4⟩ := hin e
    exact .inl ⟨hd, n', h4, h3.2.2.2.2, W n' h1 h2 h3⟩
  · by_cases en : ((m.at t).fresh.stepR c q).next = 4
    · obtain ⟨n', h1, h2, h3, h4⟩ := hin (.inr (e en))
      exact .inr ⟨hd, n', .inl ⟨en, h4⟩, h3.2.2.2.2, W n' h1 h2 h3⟩
    · exact .inr ⟨hd, n, .inr ⟨en, rfl, e4⟩, rfl, W n C.h.i (same_n n t) ⟨rfl, rfl, rfl, rfl, rfl⟩⟩
theorem n_admit (C : NqC b k mode t s n qp m) {c : Int} {q : Int → Bool} {o l hv : Int} {p : Nat} (hw : wtR wtN (m.rs t) = some (c, q)) (ho : (m.rs t).op = o) (hl : (m.rs t).line = l) (hq : qp t = p) (hp : p = 0 ∨ p = 6) (Q : NS → Prop) (hin : (m.rs t).s = 4 ∨ q (wordAt m.xs c) = true → ∃ n', NInv k n' ∧ (∀ i, i ≠ t → n'.rd i = n.rd i ∧ n'.wr i = n.wr i) ∧ (n'.I = n.I ∧ n'.O = n.O ∧ n'.β = n.β ∧ n'.φ = n.φ ∧ n'.a = n.a) ∧ Q n')
    (hN : ∀ n' s' on, (s' = 4 ∧ Q n') ∨ (s' ≠ 4 ∧ n' = n ∧ (m.rs t).s ≠ 4) → NT (m.hold t) o l 0 s' (m.rs t).a on p (n'.rd t) (n'.wr t)) (hb : behindI o 2 (m.hold t) = hv) (hE : ∀ n' s' a on, Q n' → NT hv 0 0 0 s' a on p (n'.rd t) (n'.wr t)) (hph : ¬ phW o l) (hpq : (m.at t).fresh.pq = (m.at t).fresh.pAdmit c q) : NqGo b k mode t s n m (m.at t).fresh.pq := by
  have T := C.h.t t C.ht
  rw [hq] at T
  have hah := C.h.ah t C.ht
  rw [ho, hl] at hah
  rw [hpq]
  unfold LS.pAdmit
  have core := wait_core C hw Q hin
  obtain ⟨_, _, _, f4, f5, f6, f7, f8, _, f9, f10⟩ := wait_fw (r := (m.at t).fresh) c q
  have f4' : ((m.at t).fresh.wait c q).op = (m.rs t).op := f4
  have f5' : ((m.at t).fresh.wait c q).line = (m.rs t).line := f5
  have f6' : ((m.at t).fresh.wait c q).ret = (m.rs t).ret := f6
  have f7' : ((m.at t).fresh.wait c q).k = (m.rs t).k := f7
  have f8' : ((m.at t).fresh.wait c q).a = (m.rs t).a := f8
  generalize (m.at t).fresh.wait c q = R0 at f9 f10 f4' f5' f6' f7' f8' ⊢
  generalize (m.at t).fresh.stepR c q = S at *
  obtain ⟨⟨_, _, _, g4, g5⟩, g6, g7, g8, g9, _, g10⟩ := noteIf_fw R0 S.seen 4
  generalize R0.noteIf S.seen 4 = R1 at *
  rcases core with ⟨hd, n', hQ, ha, W⟩ | ⟨hd, n', hQ, ha, W⟩
  · rw [hd, if_pos rfl]
    refine go_end (R := R1.fin true) (W _ (g10.trans f10)) (qp' := p) (o := o) (l := l) (ret := 2) (hv := hv) (g4.trans (f4'.trans ho)) (g6.trans (f5'.trans hl)) rfl (by decide) hb (fun e => ?_) (fun s' a on => hE n' s' a on hQ) (fun a st => T.anyN hp)
    have e' : R1.k.on = true := e
    rw [g8, f7', C.on] at e'; cases e'
  · rw [hd, if_neg Bool.false_ne_true]
    exact go_stay (W _ (g10.trans f10)) (qp' := p) (o := o) (l := l) (g4.trans (f4'.trans ho)) (g6.trans (f5'.trans hl)) (g7.trans (f6'.trans C.ret)) (by rw [g9, f8', g5, f9]; exact hN n' _ _ hQ) (T.anyN hp) (fun e => absurd e hph) (fun e => by rw [g9, f8', ha]; exact hah e)
theorem n_others (C : NqC b k mode t s n qp m) {q : Int → Bool} {o l : Int} (hw : wtR wtN (m.rs t) = some (1, q)) (hqb : q = (m.at t).fresh.butMe) (ho : (m.rs t).op = o) (hl : (m.rs t).line = l) (hq : qp t = 6) (Q : NS → Prop) (hin : (m.rs t).s = 4 ∨ q (wordAt m.xs 1) = true → ∃ n', NInv k n' ∧ (∀ i, i ≠ t → n'.rd i = n.rd i ∧ n'.wr i = n.wr i) ∧ (n'.I = n.I ∧ n'.O = n.O ∧ n'.β = n.β ∧ n'.φ = n.φ ∧ n'.a = n.a) ∧ Q n')
    (hN : ∀ n' s' on, (s' = 4 ∧ Q n') ∨ (s' ≠ 4 ∧ n' = n ∧ (m.rs t).s ≠ 4) → NT (m.hold t) o l 0 s' (m.rs t).a on 6 (n'.rd t) (n'.wr t)) (hD : ∀ n' s' a on, Q n' → NT (m.hold t) o 7 0 s' a on 6 (n'.rd t) (n'.wr t)) (hph : ¬ phW o l) (hp7 : ¬ phW o 7 ∧ ¬ ahW o 7) (hpq : (m.at t).fresh.pq = (m.at t).fresh.wOthers) : NqGo b k mode t s n m (m.at t).fresh.pq := by
  have T := C.h.t t C.ht
  rw [hq] at T
  have hah := C.h.ah t C.ht
  rw [ho, hl] at hah
  rw [hpq]
  unfold LS.wOthers
  have core := wait_core C hw Q hin
  rw [hqb] at core
  obtain ⟨_, _, _, f4, f5, f6, f7, f8, _, f9, f10⟩ := wait_fw (r := (m.at t).fresh) 1 (m.at t).fresh.butMe
  have f4' : ((m.at t).fresh.wait 1 (m.at t).fresh.butMe).op = (m.rs t).op := f4
  have f5' : ((m.at t).fresh.wait 1 (m.at t).fresh.butMe).line = (m.rs t).line := f5
  have f6' : ((m.at t).fresh.wait 1 (m.at t).fresh.butMe).ret = (m.rs t).ret := f6
  have f7' : ((m.at t).fresh.wait 1 (m.at t).fresh.butMe).k = (m.rs t).k := f7
  have f8' : ((m.at t).fresh.wait 1 (m.at t).fresh.butMe).a = (m.rs t).a := f8
  generalize (m.at t).fresh.wait 1 (m.at t).fresh.butMe = R0 at f9 f10 f4' f5' f6' f7' f8' ⊢
  generalize (m.at t).fresh.stepR 1 (m.at t).fresh.butMe = S at *
  obtain ⟨⟨_, _, _, g4, g5⟩, g6, g7, g8, g9, _, g10⟩ := noteIf_fw R0 S.seen 9
  generalize R0.noteIf S.seen 9 = R1 at *
  rcases core with ⟨hd, n', hQ, ha, W⟩ | ⟨hd, n', hQ, ha, W⟩
  · rw [hd, if_pos rfl]
    exact go_stay (R := R1.go 7) (W _ (g10.trans f10)) (qp' := 6) (o := o) (l := 7) (g4.trans (f4'.trans ho)) rfl (g7.trans (f6'.trans C.ret)) (hD n' _ _ _ hQ) (T.anyN (.inr rfl)) (fun e => absurd e hp7.1) (fun e => absurd e hp7.2)
  · rw [hd, if_neg Bool.false_ne_true]
    exact go_stay (W _ (g10.trans f10)) (qp' := 6) (o := o) (l := l) (g4.trans (f4'.trans ho)) (g6.trans (f5'.trans hl)) (g7.trans (f6'.trans C.ret)) (by rw [g9, f8', g5, f9]; exact hN n' _ _ hQ) (T.anyN (.inr rfl)) (fun e => absurd e hph) (fun e => by rw [g9, f8', ha]; exact hah e)
theorem adm_in (C : NqC b k mode t s n qp m) (hx : n.rd t = if (m.rs t).s = 4 then .reads else .waits (bitsI (m.rs t).a)) (hq : (m.rs t).s = 4 ∨ (bitsI (wordAt m.xs 0) != bitsI (m.rs t).a) = true) : ∃ n', NInv k n' ∧ (∀ i, i ≠ t → n'.rd i = n.rd i ∧ n'.wr i = n.wr i) ∧ (n'.I = n.I ∧ n'.O = n.O ∧ n'.β = n.β ∧ n'.φ = n.φ ∧ n'.a = n.a) ∧ (n'.rd t = .reads ∧ n'.wr t = n.wr t) := by
  by_cases e4 : (m.rs t).s = 4
  · rw [if_pos e4] at hx
    exact ⟨n, C.h.i, same_n n t, ⟨rfl, rfl, rfl, rfl, rfl⟩, hx, rfl⟩
  · rw [if_neg e4] at hx
    have e : (bitsI (wordAt m.xs 0) != bitsI (m.rs t).a) = true := by rcases hq with h | h; exact absurd h e4; exact h
    refine ⟨_, C.h.i.letIn C.ht hx (fun e5 => ?_), set_r _ _ _ _ _, ⟨rfl, rfl, rfl, rfl, rfl⟩, at_r _ _ _ _ _, rfl⟩
    rw [C.bits, e5] at e
    simp at e
theorem pres_in (C : NqC b k mode t s n qp m) (hy : n.wr t = if (m.rs t).s = 4 then .writes else .comes) (hq : (m.rs t).s = 4 ∨ n.O + old n.β (n.rd t) = n.a) : ∃ n', NInv k n' ∧ (∀ i, i ≠ t → n'.rd i = n.rd i ∧ n'.wr i = n.wr i) ∧ (n'.I = n.I ∧ n'.O = n.O ∧ n'.β = n.β ∧ n'.φ = n.φ ∧ n'.a = n.a) ∧ (n'.rd t = n.rd t ∧ n'.wr t = .writes) := by
  by_cases e4 : (m.rs t).s = 4
  · rw [if_pos e4] at hy
    exact ⟨n, C.h.i, same_n n t, ⟨rfl, rfl, rfl, rfl, rfl⟩, rfl, hy⟩
  · rw [if_neg e4] at hy
    have e : n.O + old n.β (n.rd t) = n.a := by rcases hq with h | h; exact absurd h e4; exact h
    exact ⟨_, C.h.i.enter C.ht hy e, set_w _ _ _ _ _ _, ⟨rfl, rfl, rfl, rfl, rfl⟩, rfl, at_w _ _ _ _ _ _⟩
theorem pres_0 (C : NqC b k mode t s n qp m) (hx : n.rd t = .no) (hp : (n.wr t).pres = true) (ha : (m.rs t).a = wi b n.a 0) (e : wordAt m.xs 1 = (m.rs t).a) : n.O + old n.β (n.rd t) = n.a := by
  have h1 := C.h.i.a_le C.ht hp
  have h2 := C.h.i.si
  have h3 := C.I
  rw [C.h.w1, ha] at e
  rw [hx, old_no]
  exact wi_inj e (by omega) (by omega)
theorem pres_1 (C : NqC b k mode t s n qp m) (hx : n.rd t = .reads) (hp : (n.wr t).pres = true) (ha : (m.rs t).a = wi b n.a 0) (e : wordAt m.xs 1 = ((m.rs t).a - 256) % 4294967296) : n.O + old n.β (n.rd t) = n.a := by
  have h1 := C.h.i.a_le C.ht hp
  have h2 := C.h.i.si
  have h3 := C.I
  rw [C.h.w1, ha] at e
  rw [hx, old_r]
  exact wi_less2 e (by omega) (by omega)
theorem pres_y (s : Int) {y : Wr} (h : y = if s = 4 then Wr.writes else .comes) : y.pres = true := by rw [h]; split <;> rfl
theorem pq_mv (hk : k ≤ 64) (hg : GenQ wtN k mode m) (h : NqI b k s n qp m) (hI : n.I < 50000) (ht : t < k) (hop : (m.rs t).op ≠ 0) (hon : (m.rs t).k.on = false) : NqGo b k mode t s n m (m.at t).fresh.pq := by
  obtain ⟨c1, c2, c3⟩ := hg.cst t ht
  have hs0 : wtR wtN (m.rs t) = none → (m.rs t).s = 0 := fun e => by
    by_cases e2 : (m.rs t).s = 0
    · exact e2
    · obtain ⟨⟨c', q', e3⟩, _⟩ := hg.sw t ht e2
      rw [e] at e3; cases e3
  have C : NqC b k mode t s n qp m := ⟨hk, ⟨hk, ⟨by decide, by decide⟩, ht, c1, c2, c3, h.q, h.w⟩, h, ht, hon, hs0, hg.sp t ht, hg.rt t ht hon, hI⟩
  have F := h.f t ht
  cases F with
  | idle0 ho => exact absurd ho hop
  | idle1 ho => exact absurd ho hop
  | idle2 ho => exact absurd ho hop
  | come ho hl hr hh hq hx hy =>
    rcases ho with ho | ho
    · exact n_come C ho hl hh hq hx hy
    · exact n_look C ho hl hh hq hx hy
  | adm ho hl hr hh hq hx hy =>
    have hw : wtR wtN (m.rs t) = some (0, fun v => bitsI v != bitsI (m.rs t).a) := by
      show wtN _ _ _ _ _ _ = _
      unfold wtN
      rw [if_neg (by omega), if_neg (by omega), if_pos ⟨ho, hl⟩]
    refine n_admit C hw (o := 1) (l := 1) (hv := 1) ho hl hq (.inl rfl) (fun n' => n'.rd t = .reads ∧ n'.wr t = n.wr t) (adm_in C hx) (fun n' s' on e => ?_) (by rw [hh]; rfl) (fun n' s' a on e => .idle1 rfl rfl rfl rfl e.1 (e.2.trans hy)) (by unfold phW; omega) (pq_1_1 (r := (m.at t).fresh) ho hl)
    rcases e with ⟨e1, e2, e3⟩ | ⟨e1, rfl, e3⟩
    · exact .adm rfl rfl rfl hh rfl (by rw [if_pos e1]; exact e2) (e3.trans hy)
    · rw [if_neg e3] at hx
      exact .adm rfl rfl rfl hh rfl (by rw [if_neg e1]; exact hx) hy
  | slip ho hl hr hh hq hx hy hb => exact n_slip C ho hl hh hq hx hy hb
  | dep ho hl hr hh hq hx hy => exact n_dep C ho hl hh hq hx hy
  | depd ho hr hh hon' => rw [hon] at hon'; cases hon'
  | ent j ho hj hl hr hh hq hx hy => exact n_ent C ho hj hl hh hq hx hy
  | tr j hu hj hl hr hq hy => exact n_try C hu hj hl hq hy
  | turn hu hr hq hy =>
    rcases hu with ⟨ho, hh, hx, hl⟩ | ⟨hu, hl⟩
    · rcases hl with hl | hl
      · exact n_keep C (o := 3) (l := 6) ho hq (fun s' a on => .turn (.inl ⟨rfl, hh, hx, .inr rfl⟩) rfl rfl hy) (by unfold ahW; omega) (pq_3_5 (r := (m.at t).fresh) ho hl)
      · exact n_appear C (o := 3) (l := 7) ho hq hy (by unfold phW; omega) (C.s0 (wtN_no (by omega) (by omega) (by omega) (by omega) (by omega))) (fun s' a on y e1 e2 => .pres (.inl ⟨rfl, hh, hx, rfl⟩) rfl rfl (by rw [if_neg (by omega)]; exact e2)) (by unfold phW; omega) (pq_3_6 (r := (m.at t).fresh) ho hl)
    · have ho := hu.op67
      rcases hl with hl | hl | hl | hl
      · exact n_look0 C hu hl hq hy
      · rcases ho with ho | ho
        · exact n_weigh C 0 hu hl hq hy (pq_6_3 (r := (m.at t).fresh) ho hl)
        · exact n_weigh C 256 hu hl hq hy (pq_7_3 (r := (m.at t).fresh) ho hl)
      · exact n_keep C (o := (m.rs t).op) (l := 5) rfl hq (fun s' a on => .turn (.inr ⟨hu, .inr (.inr (.inr rfl))⟩) rfl rfl hy) (by unfold ahW; omega) (by rcases ho with ho | ho; exact pq_6_4 (r := (m.at t).fresh) ho hl; exact pq_7_4 (r := (m.at t).fresh) ho hl)
      · exact n_appear C (o := (m.rs t).op) (l := 6) rfl hq hy (by unfold phW; omega) (C.s0 (wtN_no (by omega) (by omega) (by omega) (by omega) (by omega))) (fun s' a on y e1 e2 => .pres (.inr ⟨hu, rfl⟩) rfl rfl (by rw [if_neg (by omega)]; exact e2)) (by unfold phW; omega) (by rcases ho with ho | ho; exact pq_6_5 (r := (m.at t).fresh) ho hl; exact pq_7_5 (r := (m.at t).fresh) ho hl)
  | pres hu hr hq hy =>
    have hp := pres_y _ hy
    have mk : ∀ {o l : Int}, ((o = 3 ∧ m.hold t = 0 ∧ n.rd t = .no ∧ l = 7) ∨ (UpN o (m.hold t) (n.rd t) ∧ l = 6)) → ∀ (n' : NS) (s' : Int) (on : Bool), (s' = 4 ∧ (n'.rd t = n.rd t ∧ n'.wr t = .writes)) ∨ (s' ≠ 4 ∧ n' = n ∧ (m.rs t).s ≠ 4) → NT (m.hold t) o l 0 s' (m.rs t).a on 6 (n'.rd t) (n'.wr t) := fun {o l} hu n' s' on e => by
      rcases e with ⟨e1, e2, e3⟩ | ⟨e1, rfl, e3⟩
      · exact .pres (by rw [e2]; exact hu) rfl rfl (by rw [if_pos e1]; exact e3)
      · rw [if_neg e3] at hy
        exact .pres hu rfl rfl (by rw [if_neg e1]; exact hy)
    have no : ∀ {o l : Int}, (m.rs t).op = o → (m.rs t).line = l → (o = 3 ∧ m.hold t = 0 ∧ n.rd t = .no ∧ l = 7) ∨ (o = 6 ∧ m.hold t = 0 ∧ n.rd t = .no ∧ l = 6) → (m.at t).fresh.pq = (m.at t).fresh.pAdmit 1 (m.at t).fresh.mine → NqGo b k mode t s n m (m.at t).fresh.pq := fun {o l} ho hl hu hpq => by
      have hw : wtR wtN (m.rs t) = some (1, fun v => v == (m.rs t).a) := by
        show wtN _ _ _ _ _ _ = _
        unfold wtN
        rw [if_neg (by omega), if_neg (by omega), if_neg (by omega), if_pos (by omega)]
      have hx : n.rd t = .no := by rcases hu with ⟨_, _, e, _⟩ | ⟨_, _, e, _⟩ <;> exact e
      have hh : m.hold t = 0 := by omega
      have ha := h.ah t ht (by unfold ahW; omega)
      refine n_admit C hw (o := o) (l := l) (hv := 2) ho hl hq (.inr rfl) (fun n' => n'.rd t = n.rd t ∧ n'.wr t = .writes) (fun e => pres_in C hy ?_) (mk ?_) ?_ (fun n' s' a on e => .idle2 rfl rfl rfl rfl (e.1.trans hx) e.2) (by unfold phW; omega) hpq
      · rcases e with e | e
        · exact .inl e
        · exact .inr (pres_0 C hx hp ha (by simpa using e))
      · rcases hu with e | ⟨e1, e2, e3, e4⟩
        · exact .inl e
        · exact .inr ⟨by rw [e1, e2, e3]; exact .u6, e4⟩
      · rcases hu with ⟨e, _⟩ | ⟨e, _⟩ <;> (rw [e, hh]; rfl)
    rcases hu with ⟨ho, hh, hx, hl⟩ | ⟨hu, hl⟩
    · exact no (o := 3) (l := 7) ho hl (.inl ⟨rfl, hh, hx, rfl⟩) (pq_3_7 (r := (m.at t).fresh) ho hl)
    · rcases hu.ops with ⟨ho, hh, hx⟩ | ⟨ho, hh, hx⟩
      · exact no (o := 6) (l := 6) ho hl (.inr ⟨rfl, hh, hx, rfl⟩) (pq_6_6 (r := (m.at t).fresh) ho hl)
      · have hw : wtR wtN (m.rs t) = some (1, fun v => v == ((m.rs t).a - 256) % 4294967296) := by
          show wtN _ _ _ _ _ _ = _
          unfold wtN
          rw [if_neg (by omega), if_neg (by omega), if_neg (by omega), if_neg (by omega), if_pos ⟨ho, hl⟩]
        have ha := h.ah t ht (by unfold ahW; omega)
        refine n_others C hw rfl (o := 7) (l := 6) ho hl hq (fun n' => n'.rd t = n.rd t ∧ n'.wr t = .writes) (fun e => pres_in C hy ?_) (mk (.inr ⟨by rw [hh, hx]; exact .u7, rfl⟩)) (fun n' s' a on e => .stop rfl rfl rfl hh rfl (e.1.trans hx) e.2) (by unfold phW; omega) (by unfold phW ahW; omega) (pq_7_6 (r := (m.at t).fresh) ho hl)
        rcases e with e | e
        · exact .inl e
        · exact .inr (pres_1 C hx hp ha (by simpa using e))
  | stop ho hl hr hh hq hx hy => exact n_stop C ho hl hh hq hx hy
  | unl x' hu hl hr hq hx hy =>
    have ho := hu.op48
    rcases hl with hl | hl
    · exact n_keep C (o := (m.rs t).op) (l := 1) rfl hq (fun s' a on => .unl x' hu (.inr rfl) rfl rfl hx hy) (by unfold ahW; omega) (by rcases ho with ho | ho; exact pq_4_0 (r := (m.at t).fresh) ho hl; exact pq_8_0 (r := (m.at t).fresh) ho hl)
    · exact n_vanish C (by rcases hu.ops with ⟨e1, e2, _⟩ | ⟨e1, e2, _⟩; exact .inl ⟨e1, e2⟩; exact .inr ⟨e1, e2⟩) hl hq hx hy
  | left hu hl hr hq hy => exact n_count C hu hl hq hy
  | give j a0 ok hg' hj hl hr hq hy =>
    refine n_give C hg' hj hl hq hy ?_
    rcases hg'.ops.2 with ⟨e1, e2, e3⟩ | ⟨e1, e2, e3⟩
    · rw [e2, e3]; exact pq_give4 (r := (m.at t).fresh) e1 (by show (m.rs t).line = _; rw [hl, e2]) hj
    · rw [e2, e3]; exact pq_give6 (r := (m.at t).fresh) e1 (by show (m.rs t).line = _; rw [hl, e2]) hj
  | gave a0 ok hg' hl hr hon' => rw [hon] at hon'; cases hon'
end
end Go.Proofs.YtocdbeonogfopaaGreat
