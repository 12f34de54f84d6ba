import Derived.Laws.BitsAllLaws
import Derived.Laws.BitsLemmas
import Derived.IntWalk
import Derived.Test.YtaeninikaalkjaaGreatH14
import Derived.Test.YtaeninikaalkjaaGreatH19
import Derived.Test.YtaeninikaalkjaaGreatH29
import Derived.Test.YtaeninikaalkjaaGreatH31
import Derived.Test.YtaeninikaalkjaaGreatH28
import Derived.Test.YtaeninikaalkjaaGreatH25
import Derived.Test.YtaeninikaalkjaaGreatH24
import Derived.Test.YtaeninikaalkjaaGreatH5
set_option linter.unusedVariables false
set_option linter.unusedSimpArgs false
namespace Go.Proofs.YtaeninikaalkjaaGreat
open Go.RowKit
theorem RunR.setA {w : World} {B base : Nat} {A : Option Addr} {l cp : Nat} {nv : Value} {r : LS} (h : RunR w B base A l cp nv r) (v : Int) : RunR (w.setCell ⟨B, 6, none⟩ (.int .u32 v)) B base A l cp nv (r.keepA v) :=
  h.turn ((Only.refl (· = B) w).setCell (p := ⟨B, 6, none⟩) (.inr rfl) _) (h.row.set 6 (.int .u32 v)) rfl rfl
theorem stepI_same {xs : List Int} {n mode i s c : Int} {q q' : Int → Bool} (h : q (wordAt xs c) = q' (wordAt xs c)) : stepI xs n mode i s c q = stepI xs n mode i s c q' := by unfold stepI; rw [h]
end Go.Proofs.YtaeninikaalkjaaGreat
set_option linter.unusedVariables false
set_option linter.unusedSimpArgs false
namespace Go.Proofs.YtaeninikaalkjaaGreat
open Go.RowKit
structure SR (w0 : World) (B base : Nat) (A : Option Addr) (l cp m : Nat) (r : LS) (w : World) : Prop where
  only : Only (TurnB B A) w0 w
  run : ∃ nv, RunR w B base A l cp nv r
  len : r.ns.length ≤ m
section
variable {w0 w w' : World} {B base : Nat} {A : Option Addr} {l cp m m' : Nat} {r r' : LS} {F : FuncId} {args : Array Value} {v : Value} {nv : Value} {Q : Ending → World → Prop}
theorem sr_new (h : RunR w B base A l cp nv r) (hl : r.ns.length ≤ m) : SR w B base A l cp m r w := ⟨Only.refl _ _, ⟨nv, h⟩, hl⟩
theorem SR.done (S : SR w0 B base A l cp m r w) : DoneR B base A l cp w0 v r (.returned v) w := ⟨rfl, S.only, S.run⟩
theorem SR.fit (S : SR w0 B base A l cp m r w) (h : r' = r) : DoneR B base A l cp w0 v r' (.returned v) w := h ▸ S.done
theorem SR.keep (S : SR w0 B base A l cp m r w) (ho : Only Nil w w') : SR w0 B base A l cp m r w' :=
  ⟨S.only.trans (ho.mono (fun _ _ h => h.elim)), S.run.imp fun _ h => h.keep ho, S.len⟩
theorem SR.drew (S : SR w0 B base A l cp m r w) : SR w0 B base A l cp m r w.drew := S.keep (Only.refl Nil w).drew
theorem SR.drewd (S : SR w0 B base A l cp m r w) (h : Drew w w') : SR w0 B base A l cp m r w' := S.keep h.only
theorem SR.at (S : SR w0 B base A l cp m r w) (i : Nat) (h : ∀ nv, (r.cells (.slice A l cp) nv)[i]? = some v) : w.cell? ⟨B, i, none⟩ = some v := by
  obtain ⟨nv, hp⟩ := S.run
  exact hp.row.cell_ (h nv)
theorem SR.c4 (S : SR w0 B base A l cp m r w) : w.cell? ⟨B, 4, none⟩ = some (.int .i64 r.op) := S.at 4 fun _ => rfl
theorem SR.c5 (S : SR w0 B base A l cp m r w) : w.cell? ⟨B, 5, none⟩ = some (.int .i64 r.line) := S.at 5 fun _ => rfl
theorem SR.c6 (S : SR w0 B base A l cp m r w) : w.cell? ⟨B, 6, none⟩ = some (.int .u32 r.a) := S.at 6 fun _ => rfl
theorem SR.c18 (S : SR w0 B base A l cp m r w) : w.cell? ⟨B, 18, none⟩ = some (.int .u32 r.acc.o) := S.at 18 fun _ => rfl
theorem SR.froz (S : SR w0 B base A l cp m r w) (i : Nat) : w.frozen? ⟨B, i, none⟩ = false := by
  obtain ⟨nv, hp⟩ := S.run
  exact hp.row.frozen i
theorem SR.turned (S : SR w0 B base A l cp m r w) (ho : Only (TurnB B A) w w') (hr : ∃ nv, RunR w' B base A l cp nv r') (hm : r'.ns.length ≤ m') : SR w0 B base A l cp m' r' w' := ⟨S.only.trans ho, hr, hm⟩
theorem SR.setA (S : SR w0 B base A l cp m r w) (x : Int) : SR w0 B base A l cp m (r.keepA x) (w.setCell ⟨B, 6, none⟩ (.int .u32 x)) :=
  S.turned ((Only.refl (TurnB B A) w).setCell (p := ⟨B, 6, none⟩) (.inr (.inl rfl)) _) (S.run.imp fun _ h => h.setA x) S.len
theorem SR.setLine (S : SR w0 B base A l cp m r w) (x : Int) : SR w0 B base A l cp m (r.go x) (w.setCell ⟨B, 5, none⟩ (.int .i64 x)) :=
  S.turned ((Only.refl (TurnB B A) w).setCell (p := ⟨B, 5, none⟩) (.inr (.inl rfl)) _) (S.run.imp fun _ h => h.setLine x) S.len
theorem SR.call (S : SR w0 B base A l cp m r w) (h : ∀ nv, RunR w B base A l cp nv r → Calls Tryz.prog F args w (DoneR B base A l cp w v r')) (hm : r'.ns.length ≤ m') (k : ∀ w', SR w0 B base A l cp m' r' w' → Q (.returned v) w') : Calls Tryz.prog F args w Q := by
  obtain ⟨nv, hp⟩ := S.run
  refine (h nv hp).mono ?_
  rintro e w' ⟨rfl, hO, hr⟩
  exact k w' (S.turned hO hr hm)
variable {c x y what arg : Int} {ok : Bool}
theorem yLoad (S : SR w0 B base A l cp m r w) (k : ∀ w', SR w0 B base A l cp (m) (r.doA 1 c 0 0) w' → Q (.returned (.int .u32 (wordAt r.xs c))) w')  : Calls Tryz.prog 33 #[.pointer (some ⟨B, 0, none⟩), .int .i64 c] w Q :=
  S.call (fun _ h => rload_run B base A l cp _ r c _ h) S.len k
theorem yAdd (S : SR w0 B base A l cp m r w) (k : ∀ w', SR w0 B base A l cp (m) (r.doA 3 c x 0) w' → Q (.returned (.int .u32 (wordAt r.xs c))) w')  : Calls Tryz.prog 40 #[.pointer (some ⟨B, 0, none⟩), .int .i64 c, .int .u32 x] w Q :=
  S.call (fun _ h => radd_run B base A l cp _ r c x _ h) S.len k
theorem yCas (S : SR w0 B base A l cp m r w) (k : ∀ w', SR w0 B base A l cp (m) (r.doA 5 c x y) w' → Q (.returned (.bool (there r.xs c && (wordAt r.xs c == x)))) w')  : Calls Tryz.prog 37 #[.pointer (some ⟨B, 0, none⟩), .int .i64 c, .int .u32 x, .int .u32 y] w Q :=
  S.call (fun _ h => rcas_run B base A l cp _ r c x y _ h) S.len k
theorem yNote (S : SR w0 B base A l cp m r w) (k : ∀ w', SR w0 B base A l cp (m + 1) (r.note what arg) w' → Q (.returned (.tuple #[])) w') (hm : m ≤ 1000 := by decide) : Calls Tryz.prog 34 #[.pointer (some ⟨B, 0, none⟩), .int .i64 what, .int .i64 arg] w Q :=
  S.call (fun _ h => rnote_run B base A l cp _ r what arg _ h (Nat.le_trans S.len hm)) (by have := S.len; simp only [LS.note, List.length_append, List.length_cons, List.length_nil]; omega) k
theorem yEnd (S : SR w0 B base A l cp m r w) (k : ∀ w', SR w0 B base A l cp (m) (r.fin ok) w' → Q (.returned (.tuple #[])) w')  : Calls Tryz.prog 42 #[.pointer (some ⟨B, 0, none⟩), .bool ok] w Q :=
  S.call (fun _ h => rend_run B base A l cp _ r _ ok h) S.len k
theorem yWake (S : SR w0 B base A l cp m r w) (k : ∀ w', SR w0 B base A l cp (m) (r.wake c) w' → Q (.returned (.tuple #[])) w')  : Calls Tryz.prog 41 #[.pointer (some ⟨B, 0, none⟩), .int .i64 c] w Q :=
  S.call (fun _ h => rwake_run B base A l cp _ r c _ h) S.len k
theorem yWait {k m0 x : Int} {q : Int → Bool} {sn dn : Bool} (S : SR w0 B base A l cp m r w) (hx : Words r.xs) (hq : uIs k m0 x (wordAt r.xs c) = q (wordAt r.xs c)) (hs : (r.stepR c q).seen = sn) (hd : (r.stepR c q).done = dn) (hr : r.wait c q = r')
    (K : ∀ w', SR w0 B base A l cp m r' w' → Q (.returned (.tuple #[.bool sn, .bool dn])) w') : Calls Tryz.prog 39 #[.pointer (some ⟨B, 0, none⟩), .int .i64 c, .agg #[.int .i64 k, .int .u32 m0, .int .u32 x]] w Q := by
  have he : r.stepR c (uIs k m0 x) = r.stepR c q := stepI_same hq
  subst hs hd hr
  refine S.call (r' := r.wait c q) (fun _ h => ?_) S.len K
  have hw := rwait_run B base A l cp _ r c k m0 x _ h hx
  rw [show r.wait c (uIs k m0 x) = r.wait c q by unfold LS.wait; rw [he], he] at hw
  exact hw
end
end Go.Proofs.YtaeninikaalkjaaGreat
set_option linter.unusedVariables false
set_option linter.unusedSimpArgs false
namespace Go.Proofs.YtaeninikaalkjaaGreat
open Go.RowKit
theorem seen_old {xs : List Int} {n mode i s c : Int} {q : Int → Bool} (h : (stepI xs n mode i s c q).seen = true) : (ofV (stepI xs n mode i s c q).acc).o = wordAt xs c := by
  have hv : ofV (doVal xs 1 c 0 0) = accI xs 1 c 0 0 := by rw [doVal_acc]; rfl
  have ho : (accI xs 1 c 0 0).o = wordAt xs c := acc_old rfl
  unfold stepI at h ⊢
  by_cases hm : mode ≠ 2
  · rw [if_pos hm] at h ⊢
    exact (congrArg Acc5.o hv).trans ho
  rw [if_neg hm] at h ⊢
  by_cases h1 : s = 1
  · rw [if_pos h1] at h; cases h
  rw [if_neg h1] at h ⊢
  by_cases h2 : s = 2
  · rw [if_pos h2] at h ⊢
    exact (congrArg Acc5.o hv).trans ho
  rw [if_neg h2] at h ⊢
  by_cases h3 : s = 3
  · rw [if_pos h3] at h; cases h
  rw [if_neg h3] at h ⊢
  by_cases h4 : s = 4
  · rw [if_pos h4] at h; cases h
  rw [if_neg h4] at h ⊢
  exact (congrArg Acc5.o hv).trans ho
end Go.Proofs.YtaeninikaalkjaaGreat
namespace Go.Proofs.YtaeninikaalkjaaGreat
open Go.RowKit
theorem ris_any (s n : Int) (w : World) :
    Calls Tryz.prog 76 #[.int .i64 s, .int .i64 n] w fun e w' => e = .returned (.bool (isF s n)) ∧ w = w' := by
  by_cases h : 0 ≤ s ∧ s ≤ 31 ∧ 1 ≤ n ∧ n ≤ 32
  · obtain ⟨h1, h2, h3, h4⟩ := h
    have e : isF s n = decide (s + n ≤ 32) := by simp [isF, h1, h2, h3, h4]
    have E := Lib.hid e
    clear e
    go_enter Tryz.func76, Tryz.ntmps76
    go_wp2
    go_ret
    exact ⟨by rw [E.out]; rfl, rfl⟩
  · have e : isF s n = false := by
      have : ¬ (0 ≤ s ∧ s ≤ 31 ∧ 1 ≤ n ∧ n ≤ 32 ∧ s + n ≤ 32) := by omega
      simp [isF, this]
    have E := Lib.hid e
    have H := Lib.hid h
    clear e h
    by_cases h1 : 0 ≤ s
    · by_cases h2 : s ≤ 31
      · by_cases h3 : 1 ≤ n
        · have h4 : 32 < n := by have := H.out; omega
          go_enter Tryz.func76, Tryz.ntmps76
          go_wp2
          go_ret
          exact ⟨by rw [E.out]; rfl, rfl⟩
        · have h4 : n < 1 := by omega
          go_enter Tryz.func76, Tryz.ntmps76
          go_wp2
          go_ret
          exact ⟨by rw [E.out]; rfl, rfl⟩
      · have h4 : 31 < s := by omega
        go_enter Tryz.func76, Tryz.ntmps76
        go_wp2
        go_ret
        exact ⟨by rw [E.out]; rfl, rfl⟩
    · have h4 : s < 0 := by omega
      go_enter Tryz.func76, Tryz.ntmps76
      go_wp2
      go_ret
      exact ⟨by rw [E.out]; rfl, rfl⟩
theorem ris_yes (s n : Int) (w : World) (h : isF s n = true) : Calls Tryz.prog 76 #[.int .i64 s, .int .i64 n] w fun e w' => e = .returned (.bool true) ∧ w = w' := by
  have := ris_any s n w; rwa [h] at this
theorem ris_no (s n : Int) (w : World) (h : isF s n = false) : Calls Tryz.prog 76 #[.int .i64 s, .int .i64 n] w fun e w' => e = .returned (.bool false) ∧ w = w' := by
  have := ris_any s n w; rwa [h] at this
set_option maxHeartbeats 400000 in
theorem power_any (n : Nat) (w : World) (h : n ≤ 32) :
    Calls Tryz.prog 78 #[.int .i64 n] w fun e w' => e = .returned (.int .i64 (pw n)) ∧ w = w' := by
  go_enter Tryz.func78, Tryz.ntmps78
  go_wp2
  go_loop [3, 4] (fun p i => ∃ k : Nat, k ≤ n ∧ i = .int .i64 k ∧ p = .int .i64 (pw k)) (fun _ i => n - (intOf i).toNat)
  case atStart => exact ⟨0, Nat.zero_le _, rfl, rfl⟩
  case round =>
    obtain ⟨k, hk, rfl, rfl⟩ := hrel
    have hb := pw_le32 (n := k) (by omega)
    have hp := pw_pos k
    have HS := Lib.hid (pw_succ (n := k) (by omega))
    by_cases hlt : k < n
    · go_wp2
      go_round
      case rel => exact ⟨k + 1, by omega, by go_num, by rw [Int.natCast_add, show ((1 : Nat) : Int) = 1 from rfl, HS.out]⟩
      case measure => simp [intOf]; omega
    · obtain rfl : k = n := by omega
      clear hlt
      go_wp2
      go_ret
      exact ⟨rfl, rfl⟩
theorem power_int (n : Int) (w : World) (h : 0 ≤ n ∧ n ≤ 32) :
    Calls Tryz.prog 78 #[.int .i64 n] w fun e w' => e = .returned (.int .i64 (pw n)) ∧ w = w' := by
  obtain ⟨m, rfl⟩ := Int.eq_ofNat_of_zero_le h.1
  exact power_any m w (by omega)
theorem power_quiet (n : Int) (w : World) (k : Nat) (h1 : 0 ≤ n) (h2 : n ≤ 32) :
    Calls Tryz.prog 78 #[.int .i64 n] (w.drewN k) fun e w' => e = .returned (.int .i64 (pw n)) ∧ ∃ m, w' = w.drewN m :=
  (power_int n _ ⟨h1, h2⟩).mono fun _ _ ⟨he, hm⟩ => ⟨he, k, hm.symm⟩
theorem rget_yes (v s n : Int) (w : World) (h : isF s n = true) (hv : 0 ≤ v ∧ v < 4294967296) :
    Calls Tryz.prog 77 #[.int .u32 v, .int .i64 s, .int .i64 n] w fun e w' => e = .returned (.int .u32 (fieldOf v s n)) ∧ Drew w w' := by
  obtain ⟨h1, h2, h3, h4, h5⟩ := isF_iff.1 h
  obtain ⟨h6, h7⟩ := hv
  have p1 := pw_pos s
  have p2 := pw_pos n
  have p3 := pw_le32 (n := s) (by omega)
  have p4 := pw_le32 h4
  have b1 : 0 ≤ v / pw s := Int.ediv_nonneg h6 (by omega)
  have b2 : v / pw s < 4294967296 := Int.lt_of_le_of_lt (Int.ediv_le_self _ h6) h7
  obtain ⟨b3, b4⟩ := field_bd v s n
  have b5 := field_lt32 (v := v) h
  have H := Lib.hid h
  clear h
  go_enter Tryz.func77, Tryz.ntmps77
  go_wp2_with fail
  refine (ris_yes s n _ H.out).mono ?_
  rintro e w1 ⟨rfl, rfl⟩
  have h3' : 0 ≤ n := by omega
  have h5' : s ≤ 32 := by omega
  go_wp2
  go_quiet ((first | (exact power_quiet _ _ _ h1 h5') | (exact power_quiet _ _ _ h3' h4)))
  go_wp2
  go_ret
  refine ⟨congrArg (fun x => Ending.returned (.int .u32 x)) ?_, Drew.n _ _⟩
  show fieldOf v s n % 4294967296 = fieldOf v s n
  exact Int.emod_eq_of_lt b3 b5
theorem rget_quiet (v s n : Int) (w : World) (k : Nat) (h : isF s n = true) (hv : 0 ≤ v ∧ v < 4294967296) :
    Calls Tryz.prog 77 #[.int .u32 v, .int .i64 s, .int .i64 n] (w.drewN k) fun e w' => e = .returned (.int .u32 (fieldOf v s n)) ∧ ∃ m, w' = w.drewN m :=
  (rget_yes v s n _ h hv).mono fun _ _ ⟨he, hm⟩ => ⟨he, hm.quiet⟩
theorem rput_yes (v s n x : Int) (w : World) (h : isF s n = true) (hv : 0 ≤ v ∧ v < 4294967296) (hx : 0 ≤ x ∧ x < 4294967296) :
    Calls Tryz.prog 79 #[.int .u32 v, .int .i64 s, .int .i64 n, .int .u32 x] w fun e w' => e = .returned (.int .u32 (putIn v s n x)) ∧ Drew w w' := by
  obtain ⟨h1, h2, h3, h4, h5⟩ := isF_iff.1 h
  obtain ⟨b1, b2⟩ := put_bd (v := v) x h hv
  obtain ⟨m1, m2⟩ := put_move (v := v) x h
  have b5 := field_lt32 (v := v) h
  have HV := Lib.hid hv
  obtain ⟨h6, h7⟩ := hv
  obtain ⟨h8, h9⟩ := hx
  have p1 := pw_pos s
  have p2 := pw_pos n
  have p3 := pw_le32 (n := s) (by omega)
  have p4 := pw_le32 h4
  obtain ⟨b3, b4⟩ := field_bd v s n
  obtain ⟨b6, b7⟩ := mod_bd x n
  have H := Lib.hid h
  unfold putIn at b1 b2
  clear h
  have h3' : 0 ≤ n := by omega
  have h5' : s ≤ 32 := by omega
  go_enter Tryz.func79, Tryz.ntmps79
  go_wp2_with fail
  refine (ris_yes s n _ H.out).mono ?_
  rintro e w1 ⟨rfl, rfl⟩
  go_wp2
  go_quiet ((first | (exact rget_quiet _ _ _ _ _ H.out HV.out) | (exact power_quiet _ _ _ h3' h4)))
  go_wp2_with fail
  refine (power_int s _ ⟨h1, h5'⟩).mono ?_
  rintro e w1 ⟨rfl, rfl⟩
  go_wp2
  go_ret
  exact ⟨rfl, Drew.n _ _⟩
theorem rbump_no (v s n : Int) (w : World) (h : isF s n = false) :
    Calls Tryz.prog 43 #[.int .u32 v, .int .i64 s, .int .i64 n] w fun e w' => e = .returned (.int .u32 0) ∧ w = w' := by
  have H := Lib.hid h
  clear h
  go_enter Tryz.func43, Tryz.ntmps43
  go_wp2_with fail
  refine (ris_no s n _ H.out).mono ?_
  rintro e w1 ⟨rfl, rfl⟩
  go_wp2
  go_ret
  exact ⟨rfl, rfl⟩
theorem rbump_yes (v s n : Int) (w : World) (h : isF s n = true) (hv : 0 ≤ v ∧ v < 4294967296) :
    Calls Tryz.prog 43 #[.int .u32 v, .int .i64 s, .int .i64 n] w fun e w' => e = .returned (.int .u32 ((putIn v s n (fieldOf v s n + 1) - v) % 4294967296)) ∧ Drew w w' := by
  obtain ⟨h1, h2, h3, h4, h5⟩ := isF_iff.1 h
  have HV := Lib.hid hv
  have b5 := field_lt32 (v := v) h
  have p2 := pw_pos n
  have p4 := pw_le32 h4
  obtain ⟨b3, b4⟩ := field_bd v s n
  have H := Lib.hid h
  obtain ⟨b6, b7⟩ := mod_bd (fieldOf v s n + 1) n
  have E := Lib.hid (put_mod (v := v) (s := s) (n := n) ((fieldOf v s n + 1) % pw n) (fieldOf v s n + 1) (Int.emod_emod _ _))
  clear h hv
  have h3' : 0 ≤ n := by omega
  go_enter Tryz.func43, Tryz.ntmps43
  go_wp2_with fail
  refine (ris_yes s n _ H.out).mono ?_
  rintro e w1 ⟨rfl, rfl⟩
  go_wp2_with fail
  refine (rget_yes v s n _ H.out HV.out).mono ?_
  rintro e w1 ⟨rfl, hd⟩
  have HD := Lib.hid hd
  clear hd
  go_wp2_with fail
  refine (power_int n _ ⟨h3', h4⟩).mono ?_
  rintro e w2 ⟨rfl, rfl⟩
  go_wp2_with fail
  refine (rput_yes v s n _ _ H.out HV.out ?_).mono ?_
  · omega
  rintro e w2 ⟨rfl, hd⟩
  have HD2 := Lib.hid hd
  clear hd
  rw [E.out]
  go_wp2
  go_ret
  exact ⟨rfl, HD.out.trans HD2.out⟩
theorem bump_yes {v s n : Int} (h : isF s n = true) : bumpI v s n = (putIn v s n (fieldOf v s n + 1) - v) % 4294967296 := by
  have b3 := field_bd v s n
  have b4 := pw_le32 (isF_iff.1 h).2.2.2.1
  have e : putIn v s n ((fieldOf v s n + 1) % 4294967296) = putIn v s n (fieldOf v s n + 1) := by
    refine put_mod _ _ ?_
    by_cases hc : fieldOf v s n + 1 = 4294967296
    · have : pw n = 4294967296 := by omega
      rw [hc, this]; rfl
    · exact congrArg (· % pw n) (Int.emod_eq_of_lt (a := fieldOf v s n + 1) (b := 4294967296) (by omega) (by omega))
  simp [bumpI, putI, getI, h, e]
theorem bump_no {v s n : Int} (h : isF s n = false) : bumpI v s n = 0 := by simp [bumpI, putI, h]
theorem rbump_any (v s n : Int) (w : World) (hv : 0 ≤ v ∧ v < 4294967296) :
    Calls Tryz.prog 43 #[.int .u32 v, .int .i64 s, .int .i64 n] w fun e w' => e = .returned (.int .u32 (bumpI v s n)) ∧ Drew w w' := by
  cases h : isF s n
  · refine (rbump_no v s n w h).mono fun e w' ⟨he, hw⟩ => ⟨?_, Drew.of_eq hw⟩
    rw [he, bump_no h]
  · refine (rbump_yes v s n w h hv).mono fun e w' ⟨he, hw⟩ => ⟨?_, hw⟩
    rw [he, bump_yes h]
end Go.Proofs.YtaeninikaalkjaaGreat
set_option linter.unusedVariables false
set_option linter.unusedSimpArgs false
namespace Go.Proofs.YtaeninikaalkjaaGreat
open Go.RowKit
theorem rr_any (v : Int) (w : World) (hv : 0 ≤ v ∧ v < 4294967296) : Calls Tryz.prog 44 #[.int .u32 v] w fun e w' => e = .returned (.int .u32 (rF v)) ∧ w = w' := by
  obtain ⟨h0, h1⟩ := hv
  go_enter Tryz.func44, Tryz.ntmps44
  go_wp2
  go_ret
  exact ⟨ret_int (by unfold rF; omega), rfl⟩
theorem ro_any (v : Int) (w : World) (hv : 0 ≤ v ∧ v < 4294967296) : Calls Tryz.prog 36 #[.int .u32 v] w fun e w' => e = .returned (.int .u32 (oF v)) ∧ w = w' := by
  obtain ⟨h0, h1⟩ := hv
  go_enter Tryz.func36, Tryz.ntmps36
  go_wp2
  go_ret
  exact ⟨ret_int (by unfold oF; omega), rfl⟩
theorem ri_any (v : Int) (w : World) (hv : 0 ≤ v ∧ v < 4294967296) : Calls Tryz.prog 35 #[.int .u32 v] w fun e w' => e = .returned (.int .u32 (iF v)) ∧ w = w' := by
  obtain ⟨h0, h1⟩ := hv
  go_enter Tryz.func35, Tryz.ntmps35
  go_wp2
  go_ret
  exact ⟨ret_int (by unfold iF; omega), rfl⟩
theorem uIs_free (v : Int) : uIs 2 0 0 v = freeW v := by
  show (v / 256 % 256 == v / 65536 % 256) = (v / 65536 % 256 == v / 256 % 256)
  exact Bool.beq_comm
theorem uIs_turn (x v : Int) : uIs 3 0 x v = turnW x v := rfl
section
variable {B base : Nat} {A : Option Addr} {l cp : Nat} {r : LS} {w0 w : World}
theorem rend16 (what : Int) (S : SR w0 B base A l cp 902 r w) : Calls Tryz.prog 38 #[Value.pointer (some ⟨B, 0, none⟩), .int .i64 what] w (DoneR B base A l cp w0 (.tuple #[]) ((r.note what 0).fin true)) := by
  go_enter Tryz.func38, Tryz.ntmps38
  go_wp2_with fail
  refine yNote S fun w S => ?_
  go_wp2_with fail
  refine yEnd S fun w S => ?_
  go_wp2
  go_returns
  exact S.done
end
end Go.Proofs.YtaeninikaalkjaaGreat
set_option linter.unusedVariables false
set_option linter.unusedSimpArgs false
namespace Go.Proofs.YtaeninikaalkjaaGreat
open Go.RowKit
section
variable {B base : Nat} {A : Option Addr} {l cp : Nat} {r : LS} {w0 w : World}
set_option maxRecDepth 100000 in
set_option maxHeartbeats 40000000 in
theorem wfr_A (S : SR w0 B base A l cp 900 r w) (hx : Words r.xs) (ha : 0 ≤ r.a ∧ r.a < 4294967296) (hh : (r.op = 1 ∧ r.line = 0) ∨ (r.op = 1 ∧ r.line = 3) ∨ (r.op = 1 ∧ r.line = 1) ∨ (r.op = 1 ∧ r.line = 2) ∨ (r.op = 2 ∧ r.line = 0) ∨ (r.op = 3 ∧ r.line = 0) ∨ (r.op = 3 ∧ r.line = 1)) : Calls Tryz.prog 10 #[Value.pointer (some ⟨B, 0, none⟩)] w (DoneR B base A l cp w0 (.tuple #[]) r.wf) := by
  obtain ⟨ol, H1⟩ : ∃ ol, Hid (r.op = ol) := ⟨_, Lib.hid rfl⟩
  obtain ⟨ln, H2⟩ : ∃ ln, Hid (r.line = ln) := ⟨_, Lib.hid rfl⟩
  rw [H1.out, H2.out] at hh
  have HX := Lib.hid hx
  have HA := Lib.hid ha
  clear hx ha
  have c4 : w.cell? ⟨B, 4, none⟩ = some (.int .i64 ol) := by rw [← H1.out]; exact S.c4
  have c5 : w.cell? ⟨B, 5, none⟩ = some (.int .i64 ln) := by rw [← H2.out]; exact S.c5
  have q0 : ¬ ln < 0 := by omega
  have q1 : ¬ 3 < ln := by omega
  have q2 : ¬ ol < 1 := by omega
  have q3 : ¬ 8 < ol := by omega
  have hw1 : IntKind.i64.wrap (ol * 10) = ol * 10 := IntWalk.i64_in _ (by omega)
  have hw2 : IntKind.i64.wrap (ol * 10 + ln) = ol * 10 + ln := IntWalk.i64_in _ (by omega)
  have HH := Lib.hid hh
  clear hh
  go_enter Tryz.func10, Tryz.ntmps10
  go_upto_region 2 with (fail)
  clear q0 q1 q2 q3
  refine wp_region_phase (n := 10) 9 (fun w => w.cell? ⟨B, 4, none⟩ = some (.int .i64 ol) ∧ w.cell? ⟨B, 5, none⟩ = some (.int .i64 ln)) rfl (by kernel_rfl) ⟨c4, c5⟩ (fun hHeld => ?_)
  clear c4 c5
  replace S := S.drew
  generalize w.drew = w2 at *
  refine za 0 rfl ?_
  refine za 1 rfl ?_
  refine za 2 rfl ?_
  refine zt 3 rfl ?_
  refine mpa 4 rfl (.int .i64 (ol * 10)) (fun w => ?_) ?_
  · go_simp
  refine za 5 rfl ?_
  refine za 6 rfl ?_
  refine za 7 rfl ?_
  refine zt 8 rfl ?_
  refine mpc 9 rfl (by kernel_rfl) (by rfl) (fun K hK => ?_)
  go_simp
  refine hK.out _ _ (.inl (by kernel_rfl)) ?_
  clear hK K hHeld hw1 hw2
  refine wpAnyP_done (by kernel_rfl) ?_ _
  have hh := HH.out
  clear HH
  rcases hh with ⟨rfl, rfl⟩ | ⟨rfl, rfl⟩ | ⟨rfl, rfl⟩ | ⟨rfl, rfl⟩ | ⟨rfl, rfl⟩ | ⟨rfl, rfl⟩ | ⟨rfl, rfl⟩
  · skip
    go_wp2_with fail
    refine yLoad S fun w3 S => ?_
    have c6 := S.c6
    have f6 := S.froz 6
    replace S := S.setA (wordAt r.xs 0)
    go_upto_region 6 with (fail)
    clear c6 f6
    generalize w3.setCell ⟨B, 6, none⟩ (.int .u32 (wordAt r.xs 0)) = w4 at *
    have c5 : w4.cell? ⟨B, 5, none⟩ = some (.int .i64 0) := by rw [← H2.out]; exact S.c5
    go_wp2_with fail
    clear c5
    refine yNote S fun w S => ?_
    have c5 := S.c5
    have f5 := S.froz 5
    replace S := S.setLine (2)
    go_upto_region 9 with (fail)
    clear c5 f5
    generalize w.setCell ⟨B, 5, none⟩ (.int .i64 2) = w5 at *
    refine wp_region_phase (n := 11) 9 (fun w => w.cell? ⟨B, 6, none⟩ = some (.int .u32 (wordAt r.xs 0))) rfl (by kernel_rfl) S.c6 (fun hHeld => ?_)
    replace S := S.drew
    generalize w5.drew = w6 at *
    refine za 0 rfl ?_
    refine za 1 rfl ?_
    refine za 2 rfl ?_
    refine zt 3 rfl ?_
    refine za 5 rfl ?_
    refine za 6 rfl ?_
    refine za 7 rfl ?_
    refine zt 8 rfl ?_
    refine mpc 4 rfl (by kernel_rfl) (by rfl) (fun K hK => ?_)
    go_simp
    refine (ri_any _ _ (word_wf HX.out 0)).mono ?_
    rintro e w7 ⟨rfl, rfl⟩
    refine hK.out _ _ (.inr hHeld) ?_
    clear hK K
    refine mpc 9 rfl (by kernel_rfl) (by rfl) (fun K hK => ?_)
    go_simp
    refine (ro_any _ _ (word_wf HX.out 0)).mono ?_
    rintro e w7 ⟨rfl, rfl⟩
    refine hK.out _ _ (.inl (by kernel_rfl)) ?_
    clear hK K hHeld
    obtain ⟨i, hi⟩ : ∃ i, iF (wordAt r.xs 0) = i := ⟨_, rfl⟩
    obtain ⟨o, ho⟩ : ∃ o, oF (wordAt r.xs 0) = o := ⟨_, rfl⟩
    have HF := Lib.hid (show freeW (wordAt r.xs 0) = (i == o) by unfold freeW; rw [hi, ho])
    rw [hi, ho]
    clear hi ho
    by_cases h : i = o
    · subst h
      refine mpa 10 rfl (.bool true) (fun w => ?_) ?_
      · go_simp
      refine wpAnyP_done (by kernel_rfl) ?_ _
      have c5 := S.c5
      have f5 := S.froz 5
      replace S := S.setLine (1)
      go_wp2
      go_returns
      exact S.fit (by rw [wf_1_0 H1.out H2.out]; unfold LS.gSee; rw [if_pos (by rw [HF.out]; exact beq_self_eq_true i)]; rfl)
    · have hq : (i == o) = false := by simpa using h
      refine mpa 10 rfl (.bool false) (fun w => ?_) ?_
      · go_simp
      refine wpAnyP_done (by kernel_rfl) ?_ _
      go_wp2
      go_returns
      exact S.fit (by rw [wf_1_0 H1.out H2.out]; unfold LS.gSee; rw [if_neg (by rw [HF.out, hq]; exact Bool.false_ne_true)]; rfl)
  · skip
    go_wp2_with fail
    refine yLoad S fun w3 S => ?_
    have c6 := S.c6
    have f6 := S.froz 6
    replace S := S.setA (wordAt r.xs 0)
    go_upto_region 6 with (fail)
    clear c6 f6
    generalize w3.setCell ⟨B, 6, none⟩ (.int .u32 (wordAt r.xs 0)) = w4 at *
    have c5 : w4.cell? ⟨B, 5, none⟩ = some (.int .i64 3) := by rw [← H2.out]; exact S.c5
    go_upto_region 8 with (fail)
    clear c5
    have c5 := S.c5
    have f5 := S.froz 5
    replace S := S.setLine (2)
    go_upto_region 9 with (fail)
    clear c5 f5
    generalize w4.setCell ⟨B, 5, none⟩ (.int .i64 2) = w5 at *
    refine wp_region_phase (n := 11) 9 (fun w => w.cell? ⟨B, 6, none⟩ = some (.int .u32 (wordAt r.xs 0))) rfl (by kernel_rfl) S.c6 (fun hHeld => ?_)
    replace S := S.drew
    generalize w5.drew = w6 at *
    refine za 0 rfl ?_
    refine za 1 rfl ?_
    refine za 2 rfl ?_
    refine zt 3 rfl ?_
    refine za 5 rfl ?_
    refine za 6 rfl ?_
    refine za 7 rfl ?_
    refine zt 8 rfl ?_
    refine mpc 4 rfl (by kernel_rfl) (by rfl) (fun K hK => ?_)
    go_simp
    refine (ri_any _ _ (word_wf HX.out 0)).mono ?_
    rintro e w7 ⟨rfl, rfl⟩
    refine hK.out _ _ (.inr hHeld) ?_
    clear hK K
    refine mpc 9 rfl (by kernel_rfl) (by rfl) (fun K hK => ?_)
    go_simp
    refine (ro_any _ _ (word_wf HX.out 0)).mono ?_
    rintro e w7 ⟨rfl, rfl⟩
    refine hK.out _ _ (.inl (by kernel_rfl)) ?_
    clear hK K hHeld
    obtain ⟨i, hi⟩ : ∃ i, iF (wordAt r.xs 0) = i := ⟨_, rfl⟩
    obtain ⟨o, ho⟩ : ∃ o, oF (wordAt r.xs 0) = o := ⟨_, rfl⟩
    have HF := Lib.hid (show freeW (wordAt r.xs 0) = (i == o) by unfold freeW; rw [hi, ho])
    rw [hi, ho]
    clear hi ho
    by_cases h : i = o
    · subst h
      refine mpa 10 rfl (.bool true) (fun w => ?_) ?_
      · go_simp
      refine wpAnyP_done (by kernel_rfl) ?_ _
      have c5 := S.c5
      have f5 := S.froz 5
      replace S := S.setLine (1)
      go_wp2
      go_returns
      exact S.fit (by rw [wf_1_3 H1.out H2.out]; unfold LS.gSee; rw [if_pos (by rw [HF.out]; exact beq_self_eq_true i)]; rfl)
    · have hq : (i == o) = false := by simpa using h
      refine mpa 10 rfl (.bool false) (fun w => ?_) ?_
      · go_simp
      refine wpAnyP_done (by kernel_rfl) ?_ _
      go_wp2
      go_returns
      exact S.fit (by rw [wf_1_3 H1.out H2.out]; unfold LS.gSee; rw [if_neg (by rw [HF.out, hq]; exact Bool.false_ne_true)]; rfl)
  · skip
    have c6 := S.c6
    have hx1 : IntKind.u32.wrap (r.a + 1) = (r.a + 1) % 4294967296 := rfl
    go_upto_region 12 with (fail)
    refine wp_region_phase (n := 11) 10 (fun w => w.cell? ⟨B, 6, none⟩ = some (.int .u32 r.a)) rfl (by kernel_rfl) c6 (fun hHeld => ?_)
    clear c6
    replace S := S.drew
    generalize w2.drew = w3 at *
    refine za 0 rfl ?_
    refine za 1 rfl ?_
    refine za 2 rfl ?_
    refine za 3 rfl ?_
    refine zt 4 rfl ?_
    refine za 5 rfl ?_
    refine za 6 rfl ?_
    refine za 7 rfl ?_
    refine zt 8 rfl ?_
    refine mpa 9 rfl (.int .u32 ((r.a + 1) % 4294967296)) (fun w => ?_) ?_
    · go_simp
    refine mpc 10 rfl (by kernel_rfl) (by rfl) (fun K hK => ?_)
    go_simp
    refine yCas S fun w4 S => ?_
    refine hK.out _ _ (.inl (by kernel_rfl)) ?_
    clear hK K hHeld hx1
    obtain ⟨q, hq⟩ : ∃ q, r.at0 r.a = q := ⟨_, rfl⟩
    have HQ := Lib.hid hq
    rw [show (there r.xs 0 && (wordAt r.xs 0 == r.a)) = q from hq]
    clear hq
    refine wpAnyP_done (by kernel_rfl) ?_ _
    cases q
    · skip
      have c5 := S.c5
      have f5 := S.froz 5
      replace S := S.setLine (3)
      go_wp2
      go_returns
      exact S.fit (by rw [wf_1_1 H1.out H2.out]; unfold LS.gTake; rw [if_neg (by rw [HQ.out]; exact Bool.false_ne_true)]; rfl)
    · skip
      go_wp2_with fail
      refine S.call (fun nv h => rend16 4 (sr_new h (Nat.le_trans S.len (by decide)))) (m' := 903) (by have := S.len; simp only [LS.fin, LS.note, List.length_append, List.length_cons, List.length_nil] at this ⊢; omega) fun w S => ?_
      go_wp2
      go_returns
      exact S.fit (by rw [wf_1_1 H1.out H2.out]; unfold LS.gTake; rw [if_pos HQ.out]; rfl)
  · skip
    obtain ⟨sn, hsn⟩ : ∃ sn, (r.stepR 0 (freeW)).seen = sn := ⟨_, rfl⟩
    obtain ⟨dn, hdn⟩ : ∃ dn, (r.stepR 0 (freeW)).done = dn := ⟨_, rfl⟩
    obtain ⟨r1, hr1⟩ : ∃ r1, r.wait 0 (freeW) = r1 := ⟨_, rfl⟩
    have H := Lib.hid (And.intro hsn (And.intro hdn hr1))
    clear hsn hdn hr1
    go_wp2_with fail
    refine yWait (q := freeW) S HX.out (uIs_free _) H.out.1 H.out.2.1 H.out.2.2 fun w3 S => ?_
    cases sn
    · cases dn
      · skip
        go_wp2
        go_returns
        exact S.fit (by rw [wf_1_2 H1.out H2.out]; unfold LS.gWait LS.seeW; rw [H.out.1, H.out.2.1, H.out.2.2]; rfl)
      · skip
        have c5 := S.c5
        have f5 := S.froz 5
        replace S := S.setLine (1)
        go_wp2
        go_returns
        exact S.fit (by rw [wf_1_2 H1.out H2.out]; unfold LS.gWait LS.seeW; rw [H.out.1, H.out.2.1, H.out.2.2]; rfl)
    · have c18 : w3.cell? ⟨B, 18, none⟩ = some (.int .u32 (wordAt r.xs 0)) := by rw [← show r1.acc.o = wordAt r.xs 0 by rw [← H.out.2.2]; exact seen_old H.out.1]; exact S.c18
      have c6 := S.c6
      have f6 := S.froz 6
      replace S := S.setA (wordAt r.xs 0)
      go_upto_region 19 with (fail)
      clear c6 f6 c18
      generalize w3.setCell ⟨B, 6, none⟩ (.int .u32 (wordAt r.xs 0)) = w4 at *
      cases dn
      · skip
        go_wp2
        go_returns
        exact S.fit (by rw [wf_1_2 H1.out H2.out]; unfold LS.gWait LS.seeW; rw [H.out.1, H.out.2.1, H.out.2.2]; rfl)
      · skip
        have c5 := S.c5
        have f5 := S.froz 5
        replace S := S.setLine (1)
        go_wp2
        go_returns
        exact S.fit (by rw [wf_1_2 H1.out H2.out]; unfold LS.gWait LS.seeW; rw [H.out.1, H.out.2.1, H.out.2.2]; rfl)
  · skip
    go_wp2_with fail
    refine yAdd S fun w S => ?_
    go_wp2_with fail
    refine yNote S fun w S => ?_
    go_wp2_with fail
    refine yWake S fun w S => ?_
    go_wp2_with fail
    refine yEnd S fun w S => ?_
    go_wp2
    go_returns
    exact S.fit (by rw [wf_2_0 H1.out H2.out]; rfl)
  · skip
    go_wp2_with fail
    refine yAdd S fun w3 S => ?_
    have c6 := S.c6
    have f6 := S.froz 6
    replace S := S.setA (wordAt r.xs 0)
    go_wp2_with fail
    clear c6 f6
    refine yNote S fun w S => ?_
    have c5 := S.c5
    have f5 := S.froz 5
    replace S := S.setLine (1)
    go_wp2
    go_returns
    exact S.fit (by rw [wf_3_0 H1.out H2.out]; rfl)
  · skip
    obtain ⟨q, hq⟩ : ∃ q, turnW (iF r.a) = q := ⟨_, rfl⟩
    have HQ := Lib.hid hq
    clear hq
    obtain ⟨sn, hsn⟩ : ∃ sn, (r.stepR 0 (q)).seen = sn := ⟨_, rfl⟩
    obtain ⟨dn, hdn⟩ : ∃ dn, (r.stepR 0 (q)).done = dn := ⟨_, rfl⟩
    obtain ⟨r1, hr1⟩ : ∃ r1, r.wait 0 (q) = r1 := ⟨_, rfl⟩
    have H := Lib.hid (And.intro hsn (And.intro hdn hr1))
    clear hsn hdn hr1
    have c6 := S.c6
    go_wp2_with fail
    clear c6
    refine (ri_any _ _ HA.out).mono ?_
    rintro e w3 ⟨rfl, rfl⟩
    go_wp2_with fail
    refine yWait (q := q) S HX.out (by rw [← HQ.out]; exact uIs_turn _ _) H.out.1 H.out.2.1 H.out.2.2 fun w3 S => ?_
    cases sn
    all_goals cases dn
    · skip
      go_wp2
      go_returns
      exact S.fit (by rw [wf_3_1 H1.out H2.out]; unfold LS.pAdmit; rw [HQ.out, H.out.1, H.out.2.1, H.out.2.2]; rfl)
    · skip
      go_wp2_with fail
      refine yEnd S fun w S => ?_
      go_wp2
      go_returns
      exact S.fit (by rw [wf_3_1 H1.out H2.out]; unfold LS.pAdmit; rw [HQ.out, H.out.1, H.out.2.1, H.out.2.2]; rfl)
    · skip
      go_wp2_with fail
      refine yNote S fun w S => ?_
      go_wp2
      go_returns
      exact S.fit (by rw [wf_3_1 H1.out H2.out]; unfold LS.pAdmit; rw [HQ.out, H.out.1, H.out.2.1, H.out.2.2]; rfl)
    · skip
      go_wp2_with fail
      refine yNote S fun w S => ?_
      go_wp2_with fail
      refine yEnd S fun w S => ?_
      go_wp2
      go_returns
      exact S.fit (by rw [wf_3_1 H1.out H2.out]; unfold LS.pAdmit; rw [HQ.out, H.out.1, H.out.2.1, H.out.2.2]; rfl)
end
end Go.Proofs.YtaeninikaalkjaaGreat
