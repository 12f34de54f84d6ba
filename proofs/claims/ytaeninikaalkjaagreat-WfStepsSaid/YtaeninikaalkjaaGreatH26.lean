import Derived.Laws.AppendOwnNone
import Derived.Test.YtaeninikaalkjaaGreatChecked
import Derived.Test.YtaeninikaalkjaaGreatH25
import Derived.Test.YtaeninikaalkjaaGreatH24
import Derived.Test.YtaeninikaalkjaaGreatH12
import Derived.Test.YtaeninikaalkjaaGreatH20
import Derived.Test.YtaeninikaalkjaaGreatH16
import Derived.Test.YtaeninikaalkjaaGreatH7
import Derived.Test.YtaeninikaalkjaaGreatH5
import Derived.Test.YtaeninikaalkjaaGreatH21
import Derived.Test.YtaeninikaalkjaaGreatH6
import Derived.Test.YtaeninikaalkjaaGreatH14
import Derived.Test.YtaeninikaalkjaaGreatH15
set_option linter.unusedVariables false
set_option linter.unusedSimpArgs false
namespace Go.Proofs.YtaeninikaalkjaaGreat
open Go.RowKit
section
variable {B : Nat} {p A : Option Addr} {cp : Nat} {r : LS} {w0 w : World}
set_option maxRecDepth 100000 in
set_option maxHeartbeats 40000000 in
theorem wf_lo (S : St w0 B p A cp [] 900 r w) (hx : Words r.xs) (ha : 0 ≤ r.a ∧ r.a < 4294967296) : Calls Tryz.prog 8 #[Value.pointer (some ⟨B, 0, none⟩)] w (Done B p A cp w0 (.tuple #[]) r.wf) := by
  obtain ⟨ol, H1⟩ : ∃ ol, Hid (r.op = ol) := ⟨_, Lib.hid rfl⟩
  obtain ⟨ln, H2⟩ : ∃ ln, Hid (r.line = ln) := ⟨_, Lib.hid rfl⟩
  have HX := Lib.hid hx
  have HA := Lib.hid ha
  clear hx ha
  go_enter Tryz.func8, Tryz.ntmps8
  go_upto_region 1 with (fail)
  refine wp_region_phase (n := 11) 10 (fun w => w.cell? ⟨B, 4, none⟩ = some (.int .i64 ol) ∧ w.cell? ⟨B, 5, none⟩ = some (.int .i64 ln)) rfl (by kernel_rfl) ⟨by rw [← H1.out]; exact S.at 4 fun _ => rfl, by rw [← H2.out]; exact S.at 5 fun _ => rfl⟩ (fun hHeld => ?_)
  replace S := S.drew
  generalize w.drew = w2 at *
  refine za 0 rfl ?_
  refine za 1 rfl ?_
  refine za 2 rfl ?_
  refine za 3 rfl ?_
  refine zt 4 rfl ?_
  refine za 5 rfl ?_
  refine za 6 rfl ?_
  refine za 7 rfl ?_
  refine za 8 rfl ?_
  refine zt 9 rfl ?_
  refine mpc 10 rfl (by kernel_rfl) (by rfl) (fun K hK => ?_)
  go_simp
  refine hK.out _ _ (.inl (by kernel_rfl)) ?_
  clear hK K hHeld
  refine wpAnyP_done (by kernel_rfl) ?_ _
  by_cases o1 : ol = 1
  · rcases o1 with rfl
    by_cases g : ln = 0
    · rcases g with rfl
      go_wp2_with fail
      refine S.call (fun nv h => look_run (st_new h S.len (rows_nil _) asides_nil) HX.out) (m' := 900) (by unfold LS.gSee; split <;> exact S.len) fun w S => ?_
      go_wp2_with fail
      refine xNote S fun w S => ?_
      go_wp2
      go_returns
      exact S.fit (by unfold LS.wf; rw [H1.out, H2.out]; show r.gSee true = _; unfold LS.gSee; cases freeW (wordAt r.xs 0) <;> rfl)
    by_cases g : ln = 1
    · rcases g with rfl
      go_wp2_with fail
      obtain ⟨q, hq⟩ : ∃ q, r.at0 r.a = q := ⟨_, rfl⟩
      have HQ := Lib.hid hq
      refine S.call (fun nv h => claim_run 1 3 q (st_new h S.len (rows_nil _) asides_nil) hq) (m' := 900) (by unfold LS.gClaim; split <;> exact S.len) fun w S => ?_
      clear hq
      cases q
      · skip
        go_wp2
        go_returns
        exact S.fit (by unfold LS.wf; rw [H1.out, H2.out]; show r.gTake = _; unfold LS.gTake LS.gClaim; rw [if_neg (by rw [HQ.out]; decide), if_neg (by rw [HQ.out]; decide)])
      · rw [show r.gClaim 1 3 = (r.gCas 1).fin true by unfold LS.gClaim; exact ite_t HQ.out] at S
        go_wp2_with fail
        refine xNote S fun w S => ?_
        go_wp2
        go_returns
        exact S.fit (by unfold LS.wf; rw [H1.out, H2.out]; show r.gTake = _; unfold LS.gTake; rw [if_pos HQ.out]; rfl)
    by_cases g : ln = 2
    · rcases g with rfl
      go_wp2_with fail
      refine run1 (r' := r.wf) (nowriter_run S HX.out) (by unfold LS.wf; rw [H1.out, H2.out]; rfl) fun w3 H => ?_
      go_wp2
      go_returns
      exact H.out
    by_cases g : ln = 3
    · rcases g with rfl
      go_wp2_with fail
      refine run1 (r' := r.wf) (look_run S HX.out) (by unfold LS.wf; rw [H1.out, H2.out]; rfl) fun w3 H => ?_
      go_wp2
      go_returns
      exact H.out
    go_wp2_with fail
    refine run1 (r' := r.wf) (wf_to S HX.out HA.out (fun _ => wf_is0 (by rw [H1.out, H2.out]; exact (by unfold wfCase; repeat (first | rw [if_neg (by omega)]))))) (rfl) fun w3 H => ?_
    go_wp2
    go_returns
    exact H.out
  by_cases o2 : ol = 2
  · rcases o2 with rfl
    by_cases g : ln = 0
    · rcases g with rfl
      go_wp2_with fail
      obtain ⟨nv, hp⟩ := S.run
      refine run1 (r' := r.wf) (change_run (4294967295) _ ([6]) (S.keep ((Only.refl Nil w2).alloc _)) (whats_1 hp 6) (by decide)) (by unfold LS.wf; rw [H1.out, H2.out]; rfl) fun w3 H => ?_
      go_wp2
      go_returns
      exact H.out
    go_wp2_with fail
    refine run1 (r' := r.wf) (wf_to S HX.out HA.out (fun _ => wf_is0 (by rw [H1.out, H2.out]; exact (by unfold wfCase; repeat (first | rw [if_neg (by omega)]))))) (rfl) fun w3 H => ?_
    go_wp2
    go_returns
    exact H.out
  by_cases o3 : ol = 3
  · rcases o3 with rfl
    by_cases g : ln = 0
    · rcases g with rfl
      go_wp2_with fail
      refine run1 (r' := r.wf) (draw_run S) (by unfold LS.wf; rw [H1.out, H2.out]; rfl) fun w3 H => ?_
      go_wp2
      go_returns
      exact H.out
    by_cases g : ln = 1
    · rcases g with rfl
      go_wp2_with fail
      refine run1 (r' := r.wf) (myturn_run S HX.out HA.out) (by unfold LS.wf; rw [H1.out, H2.out]; rfl) fun w3 H => ?_
      go_wp2
      go_returns
      exact H.out
    go_wp2_with fail
    refine run1 (r' := r.wf) (wf_to S HX.out HA.out (fun _ => wf_is0 (by rw [H1.out, H2.out]; exact (by unfold wfCase; repeat (first | rw [if_neg (by omega)]))))) (rfl) fun w3 H => ?_
    go_wp2
    go_returns
    exact H.out
  by_cases o4 : ol = 4
  · rcases o4 with rfl
    by_cases g : ln = 0
    · rcases g with rfl
      go_wp2_with fail
      refine run1 (r' := r.wf) (keep_run S) (by unfold LS.wf; rw [H1.out, H2.out]; rfl) fun w3 H => ?_
      go_wp2
      go_returns
      exact H.out
    by_cases g : ln = 1
    · rcases g with rfl
      go_wp2_with fail
      refine (turnOn_run S HA.out).mono ?_
      rintro e w2 ⟨rfl, S⟩
      go_wp2_with fail
      obtain ⟨nv, hp⟩ := S.run
      refine run1 (r' := r.wf) (change_run (nextO r.a) _ ([7, 8]) (S.keep ((Only.refl Nil w2).alloc _)) (whats_2 hp 7 8) (by decide)) (by unfold LS.wf; rw [H1.out, H2.out]; rfl) fun w3 H => ?_
      go_wp2
      go_returns
      exact H.out
    go_wp2_with fail
    refine run1 (r' := r.wf) (wf_to S HX.out HA.out (fun _ => wf_is0 (by rw [H1.out, H2.out]; exact (by unfold wfCase; repeat (first | rw [if_neg (by omega)]))))) (rfl) fun w3 H => ?_
    go_wp2
    go_returns
    exact H.out
  by_cases o8 : ol = 8
  · rcases o8 with rfl
    by_cases g : ln = 0
    · rcases g with rfl
      go_wp2_with fail
      refine run1 (r' := r.wf) (keep_run S) (by unfold LS.wf; rw [H1.out, H2.out]; rfl) fun w3 H => ?_
      go_wp2
      go_returns
      exact H.out
    by_cases g : ln = 1
    · rcases g with rfl
      go_wp2_with fail
      refine (turnOn_run S HA.out).mono ?_
      rintro e w2 ⟨rfl, S⟩
      have hx1 : IntKind.u32.wrap (nextO r.a + 1) = (nextO r.a + 1) % 4294967296 := rfl
      go_wp2_with fail
      obtain ⟨nv, hp⟩ := S.run
      refine run1 (r' := r.wf) (change_run ((nextO r.a + 1) % 4294967296) _ ([10]) (S.keep ((Only.refl Nil w2).alloc _)) (whats_1 hp 10) (by decide)) (by unfold LS.wf; rw [H1.out, H2.out]; rfl) fun w3 H => ?_
      go_wp2
      go_returns
      exact H.out
    go_wp2_with fail
    refine run1 (r' := r.wf) (wf_to S HX.out HA.out (fun _ => wf_is0 (by rw [H1.out, H2.out]; exact (by unfold wfCase; repeat (first | rw [if_neg (by omega)]))))) (rfl) fun w3 H => ?_
    go_wp2
    go_returns
    exact H.out
  go_wp2_with fail
  refine run1 (r' := r.wf) (wf_to S HX.out HA.out (fun ho => wf_is0 (by rw [H1.out] at ho; rw [H1.out, H2.out]; exact (by unfold wfCase; repeat (first | rw [if_neg (by omega)]))))) (rfl) fun w3 H => ?_
  go_wp2
  go_returns
  exact H.out
end
end Go.Proofs.YtaeninikaalkjaaGreat
set_option linter.unusedVariables false
set_option linter.unusedSimpArgs false
namespace Go.Proofs.YtaeninikaalkjaaGreat
open Go.RowKit
theorem step_of {F : FuncId} (hcf : Enters1 F) (f : LS → LS) {B : Nat} {p A : Option Addr} {cp : Nat} {nv : Value} {r : LS} {w : World} (h : RunQ w B p A cp nv r)
    (hc : ∀ w nv, RunP w B p A cp nv r.fresh → Calls Tryz.prog F #[Value.pointer (some ⟨B, 0, none⟩)] w (Done B p A cp w (.tuple #[]) (f r.fresh))) :
    Calls Tryz.prog 7 #[Value.pointer (some ⟨B, 0, none⟩), .func (.func F) #[] #[]] w (Stepd B p A cp (r.next f) (TurnB B A) (fun _ => True) w) := by
  have hl : Lined B p A cp (.func (.func F) #[] #[]) r.fresh (f r.fresh) (TurnB B A) (fun _ => True) (fun _ => True) := by
    intro w nv _ h
    have HT := Lib.hid (hc w nv h)
    have hn := neq_fnL
    unfold Enters1 at hcf
    clear h hc
    generalize f r.fresh = r' at *
    go_enter_defers Tryz.func21, Tryz.ntmps21
    go_wp2_with fail
    refine HT.out.mono ?_
    rintro e w1 ⟨rfl, hO, hP⟩
    have H := Lib.hid (And.intro hO hP)
    clear hO hP HT
    go_wp2
    refine leaves_cons (f := 51) (args := #[]) (by simp) (by simp [go_sem]) ?_
    refine (rec_run _).mono ?_
    rintro e u' w'' ⟨rfl, rfl, rfl⟩
    exact ⟨_, by simp [results, Tryz.results21, go_sem], rfl, H.out.1, trivial, H.out.2⟩
  unfold LS.next
  cases hon : r.k.on
  · rw [if_neg Bool.false_ne_true]
    exact step_lines B p A cp nv _ r _ _ _ _ w h hon hl (.inl rfl) (fun _ _ => trivial)
  · rw [if_pos rfl]
    exact step_wake B p A cp nv _ r w h hon
end Go.Proofs.YtaeninikaalkjaaGreat
set_option linter.unusedVariables false
set_option linter.unusedSimpArgs false
namespace Go.Proofs.YtaeninikaalkjaaGreat
open Go.RowKit
theorem wf_lines (B : Nat) (p A : Option Addr) (cp : Nat) (nv : Value) (r : LS) (w : World) (h : RunP w B p A cp nv r) (hl : r.ns.length ≤ 900) (hx : Words r.xs) (ha : 0 ≤ r.a ∧ r.a < 4294967296) : Calls Tryz.prog 8 #[Value.pointer (some ⟨B, 0, none⟩)] w (Done B p A cp w (.tuple #[]) r.wf) := wf_lo (st_new h hl (rows_nil _) asides_nil) hx ha
theorem wf_lines_nil (w : World) : Calls Tryz.prog 8 #[.pointer none] w fun e w' => e = .returned (.tuple #[]) ∧ w = w' := by
  go_enter Tryz.func8, Tryz.ntmps8
  go_wp2
  go_returns
  exact ⟨rfl, rfl⟩
theorem wf_enters : Enters1 8 := fun args w => by simp [callFunc, go_sem, Tryz.func8, Tryz.f8]
theorem wf_step (B : Nat) (p A : Option Addr) (cp : Nat) (nv : Value) (r : LS) (w : World) (h : RunQ w B p A cp nv r) (hx : Words r.xs) (ha : 0 ≤ r.a ∧ r.a < 4294967296) :
    Calls Tryz.prog 7 #[Value.pointer (some ⟨B, 0, none⟩), .func (.func 8) #[] #[]] w (Stepd B p A cp (r.next LS.wf) (TurnB B A) (fun _ => True) w) :=
  step_of wf_enters LS.wf h fun w nv h => wf_lines B p A cp nv _ w h (Nat.zero_le _) hx ha
end Go.Proofs.YtaeninikaalkjaaGreat
set_option linter.unusedVariables false
set_option linter.unusedSimpArgs false
namespace Go.Proofs.YtaeninikaalkjaaGreat
open Go.RowKit
structure LS.WA (r : LS) : Prop where
  words : Words r.xs
  a : 0 ≤ r.a ∧ r.a < 4294967296
theorem wa_new {k mode task op : Int} {xs : List Int} (h : Words xs) : (newR k mode task op xs).WA := ⟨h, ⟨Int.le_refl _, by show (0 : Int) < _; decide⟩⟩
theorem wa_next {r : LS} (h : r.WA) : (r.next LS.wf).WA := by
  unfold LS.next
  split
  · exact ⟨good_waking.words h.words, h.a⟩
  · obtain ⟨h1, h2⟩ := (keep_wf (r := r.fresh)).ab h.words h.a
    exact ⟨h1, h2⟩
end Go.Proofs.YtaeninikaalkjaaGreat
set_option linter.unusedVariables false
set_option linter.unusedSimpArgs false
namespace Go.Proofs.YtaeninikaalkjaaGreat
open Go.RowKit
theorem flat_cells : ∀ (zs : List Nt) (u : Value), u ∈ flat zs → u.oneCell' = true
  | [], u, h => by simp [flat] at h
  | n :: r, u, h => by
    rw [flat, List.mem_append] at h
    rcases h with h | h
    · unfold flat1 at h
      simp only [List.mem_cons, List.not_mem_nil, or_false] at h
      rcases h with rfl | rfl | rfl | rfl <;> rfl
    · exact flat_cells r u h
theorem wp_appNs {w : World} {ops : Array Oper} {rest : List Oper} {o : Oper} {a : Act} {Q : Exit → Act → World → Prop} (hgd : o.guard = none) (s x : Operand)
    (ho : o.op = .call { callee := .builtin .append, args := #[s, x], argTypes := #[40, 40] })
    (base : Nat) (v : Value) (zs : List Nt) (hs : a.eval s = v) (hown : OwnN base w v zs)
    (u : Value) (ys : List Nt) (hx : a.eval x = u) (hu : OwnN 0 w u ys)
    (h1 : zs.length ≤ 4000) (h2 : ys.length ≤ 1000) (hbase : base ≤ w.heap.size)
    (h : ∀ v' w', OwnN base w' v' (zs ++ ys) → Only (fun k => v.ownBlock = some k) w w' → wpList Tryz.prog ops Q rest (a.put o.dst v') w') : wpList Tryz.prog ops Q (o :: rest) a w := by
  obtain ⟨i0, hi, hz0, hz1, hz2⟩ := info_parts infoN
  rcases hu.2 with ⟨rfl, hn⟩ | ⟨g, cap, cur, rfl, _, hg, hc, hm, hsz, ht⟩
  · obtain rfl := List.eq_nil_of_length_eq_zero hn
    refine wpList_append_own_none hgd s x 40 ho base 85 i0 4 Tryz.underlying40 hi v zs.length (flat zs) hs hown hx ?_
    exact h v w (by rw [List.append_nil]; exact hown) (Only.refl _ _)
  · refine wpList_append_own w hgd s x 40 ho base 85 i0 (.agg #[.int .i64 0, .int .i64 0, .int .i64 0, .int .i64 0]) 4 32 Tryz.underlying40 hi hz0 hz1 hz2 rfl (by decide) v zs.length (flat zs) hs hown ⟨g, 0, none⟩ ys.length cap (flat ys) hx (flat_len ys) (fun j u hj => World.ownsRow.cells hu (g := g) rfl j u hj) (fun u hu => flat_cells ys u hu) (by unfold maxLen; omega) (by omega) hbase (fun v' w' hO hG _ => ?_)
    refine h v' w' ?_ ((Only.refl _ w).grown hG (fun k hk => .inr hk))
    have e : (zs ++ ys).length = zs.length + ys.length := List.length_append
    unfold OwnN
    rw [e, flat_app]
    exact hO
end Go.Proofs.YtaeninikaalkjaaGreat
set_option linter.unusedVariables false
set_option linter.unusedSimpArgs false
namespace Go.Proofs.YtaeninikaalkjaaGreat
open Go.RowKit
structure AloneI (w0 : World) (B : Nat) (p A : Option Addr) (cp : Nat) (r0 : LS) (most j : Nat) (v : Value) (wr : World) : Prop where
  run : ∃ nv r, RunQ wr B p A cp nv r ∧ r.WA ∧ aloneL LS.wf most r0 = aloneL LS.wf (most - j) r
  notes : ∃ zs, OwnN w0.heap.size wr v zs ∧ zs.length ≤ 2 * j
  only : Only (At A) w0 wr
  new : w0.heap.size ≤ B
  old : ∀ j, At p j ∨ At A j → j < w0.heap.size
def AloneP (p A : Option Addr) (cp : Nat) (w : World) (t : Int × List Int) (e : Ending) (w' : World) : Prop := ∃ nv, e = .returned (.tuple #[.int .i64 t.1, nv]) ∧ Only (At A) w w' ∧ Memo w' p A cp t.2 ∧ Words t.2
theorem ownN_form {base : Nat} {w : World} {v : Value} {zs : List Nt} (h : OwnN base w v zs) : ∃ A n c, v = .slice A n c := by
  rcases h.2 with ⟨rfl, _⟩ | ⟨g, cap, cur, rfl, _⟩
  · exact ⟨none, 0, 0, rfl⟩
  · exact ⟨_, _, _, rfl⟩
set_option maxRecDepth 100000 in
set_option maxHeartbeats 2000000 in
theorem alone_any (p A : Option Addr) (cp : Nat) (k mode op : Int) (most : Nat) (xs : List Int) (w : World) (h : Memo w p A cp xs) (hx : Words xs) (hmost : most ≤ 1000) :
    Calls Tryz.prog 16 #[.pointer p, .int .i64 k, .int .i64 mode, .int .i64 op, .int .i64 most] w (AloneP p A cp w (aloneL LS.wf most (newR k mode 0 op xs))) := by
  have e0 := (Only.refl Nil w).alloc (.cells ((newR k mode 0 op xs).cells (.pointer p) (.slice none 0 0)) 42)
  have HI0 : Hid (AloneI w w.heap.size p A cp (newR k mode 0 op xs) most 0 (.slice none 0 0) (w.alloc (.cells ((newR k mode 0 op xs).cells (.pointer p) (.slice none 0 0)) 42))) :=
    Lib.hid ⟨⟨_, _, ⟨Row.new w _ _, h.keep e0⟩, wa_new hx, rfl⟩, ⟨[], ownN_nil _ _, Nat.zero_le _⟩, e0.mono (fun _ _ h => h.elim), Nat.le_refl _, h.lt⟩
  rw [show (newR k mode 0 op xs).cells (.pointer p) (.slice none 0 0) = newCells p k mode 0 op from rfl] at HI0
  unfold newCells at HI0
  clear e0 h hx
  generalize hr0 : newR k mode 0 op xs = r0 at *
  clear hr0
  go_enter Tryz.func16, Tryz.ntmps16
  go_upto_region 2 with (fail)
  generalize w.alloc (.cells #[.pointer p, .int .i64 k, .int .i64 mode, .int .i64 0, .int .i64 op, .int .i64 0, .int .u32 0, .int .u32 0, .int .i64 0, .bool false, .int .i64 0, .int .i64 0, .bool false, .int .i64 0, .int .i64 0, .int .i64 0, .int .u32 0, .int .u32 0, .int .u32 0, .slice none 0 0] 42) = w1 at *
  generalize hB : w.heap.size = B at *
  have HB := Lib.hid hB
  clear hB
  go_wp2_with fail
  go_loopw [13, 14] (fun nv i wr => ∃ j : Nat, j ≤ most ∧ i = .int .i64 j ∧ AloneI w B p A cp r0 most j nv wr) (fun _ i _ => most - (intOf i).toNat)
  case atStart => exact ⟨0, Nat.zero_le _, rfl, HI0.out⟩
  case round =>
    obtain ⟨j, hj, rfl, hI⟩ := hrel
    clear HI0
    obtain ⟨nvr, r, hQ, hW, hA⟩ := hI.run
    have HI := Lib.hid hI
    have HQ := Lib.hid hQ
    have HW := Lib.hid hW
    have HA := Lib.hid hA
    clear hI hQ hW hA
    by_cases hlt : j < most
    · go_wp2_with fail
      refine (wf_step B p A cp nvr r _ HQ.out HW.out.words HW.out.a).mono ?_
      obtain ⟨hg, hn2⟩ := good_next (L := LS.wf) (fun r => good_wf) r
      have HG := Lib.hid hg
      have HN2 := Lib.hid hn2
      clear hg hn2
      have HNW := Lib.hid (wa_next HW.out)
      rintro e w2 ⟨rfl, hO, _, nv2, hP⟩
      have HO := Lib.hid hO
      have HP := Lib.hid hP
      clear hO hP
      obtain ⟨zs, hzs, hzl⟩ := HI.out.notes
      have HZ := Lib.hid (show OwnN w.heap.size w2 _ zs from own_only hzs HO.out (fun i hi e => by
        obtain ⟨cur, hc⟩ := ownN_tag hzs hi
        rcases e with e | e
        · exact row_ne hc HQ.out.row (by decide) e
        · exact memo_not HQ.out.memo hc (by decide) (by decide) (.inr e)))
      have HZL := Lib.hid hzl
      clear hzs hzl
      have HSTEP : Hid (aloneL LS.wf most r0 = if (r.next LS.wf).over then ((r.next LS.wf).ret, (r.next LS.wf).xs) else aloneL LS.wf (most - (j + 1)) (r.next LS.wf)) := Lib.hid (by
        rw [HA.out, show most - j = (most - (j + 1)) + 1 by omega]
        rfl)
      generalize r.next LS.wf = r2 at *
      have c19 : w2.cell? ⟨B, 19, none⟩ = some nv2 := HP.out.row.cell_ (i := 19) rfl
      have hbase : w.heap.size ≤ w2.heap.size := Nat.le_trans HI.out.only.size HO.out.size
      have HBA := Lib.hid hbase
      clear hbase
      go_wp2_with (at_builtin; refine wp_appNs rfl (.tmp 31) (.tmp 35) rfl w.heap.size _ _ (by rfl) HZ.out nv2 r2.ns (by rfl) HP.out.notes (by have := HZL.out; omega) (by have := HN2.out; omega) HBA.out ?_)
      intro v' w3 hown hO3
      clear c19
      have HRQ : Hid (RunQ w3 B p A cp nv2 r2) := Lib.hid ⟨HP.out.row.only hO3 (fun e => by
          obtain ⟨cur, hc⟩ := ownN_tag HZ.out e
          exact absurd (HP.out.row.same hc).1 (by decide)), HP.out.memo.far hO3 (fun j hj e => by
          obtain ⟨cur, hc⟩ := ownN_tag HZ.out e
          exact memo_not HP.out.memo hc (by decide) (by decide) hj)⟩
      have HO3 : Hid (Only (At A) w w3) := Lib.hid ((HI.out.only.step HO.out (fun i hi e => by
          rcases e with e | e
          · have := HI.out.new; omega
          · exact e)).step hO3 (fun i hi e => by
          have := (World.ownsRow.lt HZ.out i e).1
          omega))
      have HOW := Lib.hid hown
      obtain ⟨A9, n9, c9, rfl⟩ := ownN_form hown
      clear hown hO3
      cases hov : r2.over
      · have HSTEP2 := Lib.hid (HSTEP.out.trans (by rw [hov, if_neg Bool.false_ne_true]))
        clear hov
        go_wp2
        go_roundw
        case rel => exact ⟨j + 1, by omega, by go_num, ⟨⟨nv2, r2, HRQ.out, HNW.out, HSTEP2.out⟩, ⟨_, HOW.out, by rw [List.length_append]; have := HZL.out; have := HN2.out; omega⟩, HO3.out, HI.out.new, HI.out.old⟩⟩
        case measure => simp [intOf]; omega
      · have HSTEP2 := Lib.hid (HSTEP.out.trans (by rw [hov, if_pos rfl]))
        clear hov
        have c13 : w3.cell? ⟨B, 13, none⟩ = some (.int .i64 r2.ret) := HRQ.out.row.cell_ (i := 13) rfl
        go_wp2
        go_ret2
        rw [HSTEP2.out]
        exact ⟨_, rfl, HO3.out, HRQ.out.memo, HNW.out.words⟩
    · obtain rfl : j = most := by omega
      have HE := Lib.hid (show aloneL LS.wf j r0 = (0, r.xs) by rw [HA.out, Nat.sub_self]; rfl)
      go_wp2
      go_ret2
      rw [HE.out]
      exact ⟨_, rfl, HI.out.only, HQ.out.memo, HW.out.words⟩
end Go.Proofs.YtaeninikaalkjaaGreat
set_option linter.unusedVariables false
set_option linter.unusedSimpArgs false
namespace Go.Proofs.YtaeninikaalkjaaGreat
open Go.RowKit
def Fresh (w : World) (xs : List Int) (e : Ending) (w' : World) : Prop := ∃ b A' c', e = .returned (.tuple #[.pointer (some ⟨b, 0, none⟩), .int .i64 0]) ∧ w.heap.size ≤ b ∧ (∀ i, At A' i → w.heap.size ≤ i) ∧ Mem w' b A' c' xs ∧ Only Nil w w'
theorem from_ok (A : Option Addr) (n cap : Nat) (xs : List Int) (w : World) (hm : n ≤ 1024) (h : Held w A n cap xs) :
    Calls Tryz.prog 5 #[.slice A n cap] w (Fresh w xs) := by
  have hl := h.1
  have hm' : (n : Int) ≤ 1024 := by omega
  have HH := Lib.hid h
  have HL := Lib.hid hl
  clear h hl
  go_enter Tryz.func5, Tryz.ntmps5
  go_wp2_with (go_at_call 18; refine (clone_held A n cap xs _ (by omega) HH.out).mono ?_; rintro e w1 ⟨A', c', rfl, ho, hO⟩)
  have HO := Lib.hid ho
  have HW := Lib.hid hO
  clear ho hO
  go_ret2
  refine ⟨w1.heap.size, A', c', rfl, HW.out.size, HO.out.base, ⟨Row.new w1 _ _, ?_, ?_⟩, HW.out.alloc _⟩
  · exact ⟨own_base (own_only HO.out.own ((Only.refl Nil w1).alloc _) (fun _ _ h => h)) (Nat.zero_le _), HO.out.nil, fun _ _ => Nat.zero_le _⟩
  · rw [HL.out]; exact hm
end Go.Proofs.YtaeninikaalkjaaGreat
set_option linter.unusedVariables false
set_option linter.unusedSimpArgs false
namespace Go.Proofs.YtaeninikaalkjaaGreat
open Go.RowKit
structure Made (w0 : World) (b : Nat) (A : Option Addr) (cp : Nat) (xs : List Int) (W : World) : Prop where
  mem : Mem W b A cp xs
  new : ∀ j, At A j → w0.heap.size ≤ j
  only : Only Nil w0 W
theorem Made.call {w0 W W' : World} {b : Nat} {A : Option Addr} {cp : Nat} {xs ys : List Int} (h : Made w0 b A cp xs W) (ho : Only (At A) W W') (hm : Mem W' b A cp ys) : Made w0 b A cp ys W' :=
  ⟨hm, h.new, h.only.step ho (fun i hi e => by have := h.new i e; omega)⟩
end Go.Proofs.YtaeninikaalkjaaGreat
set_option linter.unusedVariables false
set_option linter.unusedSimpArgs false
namespace Go.Proofs.YtaeninikaalkjaaGreat
open Go.RowKit
theorem load_raw (b : Nat) (A : Option Addr) (cp : Nat) (xs : List Int) (c : Int) (w : World) (h : Mem w b A cp xs) :
    Calls Tryz.prog 17 #[.pointer (some ⟨b, 0, none⟩), .int .i64 c] w fun e w' => e = .returned (.int .u32 (wordAt xs c)) ∧ Only (At A) w w' ∧ Mem w' b A cp (doNew xs 1 c 0 0) := by
  have HH := Lib.hid h
  clear h
  go_enter Tryz.func17, Tryz.ntmps17
  go_wp2_with fail
  refine (do_any b A cp xs 1 c 0 0 0 _ HH.out).mono ?_
  obtain ⟨k', c', x', y', hv⟩ := doVal_form xs 1 c 0 0
  rw [oldAt xs 1 c rfl] at hv
  rintro e w1 ⟨rfl, hO, hM⟩
  rw [hv]
  have HO := Lib.hid hO
  have HM := Lib.hid hM
  clear hO hM hv
  go_wp2
  go_ret
  exact ⟨rfl, HO.out.alloc _, HM.out.only ((Only.refl Nil w1).alloc _) id (fun _ _ => id)⟩
theorem load_any (b : Nat) (A : Option Addr) (cp : Nat) (xs : List Int) (c : Int) (w : World) (h : Mem w b A cp xs) :
    Calls Tryz.prog 17 #[.pointer (some ⟨b, 0, none⟩), .int .i64 c] w fun e w' => e = .returned (.int .u32 (wordAt xs c)) ∧ Only (At A) w w' ∧ Mem w' b A cp xs :=
  (load_raw b A cp xs c w h).mono fun _ _ ⟨h1, h2, h3⟩ => ⟨h1, h2, by rw [doNew_load] at h3; exact h3⟩
end Go.Proofs.YtaeninikaalkjaaGreat
set_option linter.unusedVariables false
set_option linter.unusedSimpArgs false
namespace Go.Proofs.YtaeninikaalkjaaGreat
open Go.RowKit
theorem aw_alone : aloneL LS.wf 2 (newR 1 1 0 3 (wfXs 1 255)) = (2, [16842496, 0, 0, 0, 0, 0, 0, 0, 0, 0, 0, 0]) := by
  decide +kernel
set_option maxHeartbeats 1000000 in
theorem awake_any (w : World) : Calls Tryz.prog 4 #[] w fun e w' => e = .returned (.bool true) ∧ Only Nil w w' := by
  go_enter Tryz.func4, Tryz.ntmps4
  go_wp2_with fail
  refine (first_wf 1 255 _ (by decide) (by decide)).mono ?_
  rintro e w1 ⟨g, rfl, hg, hH, hO⟩
  have HH := Lib.hid hH
  have HO := Lib.hid hO
  clear hg hH hO
  go_wp2_with fail
  refine (from_ok _ _ _ _ _ (by decide) HH.out).mono ?_
  rintro e w2 ⟨b, A', c', rfl, hb, hA, hM, hO⟩
  have HM : Hid (Made w b A' c' _ w2) := Lib.hid ⟨hM, fun j hj => Nat.le_trans HO.out.size (hA j hj), HO.out.trans hO⟩
  clear hb hA hM hO HO HH
  go_wp2_with fail
  refine (alone_any (some ⟨b, 0, none⟩) A' c' 1 1 3 2 _ _ (Memo.of HM.out.mem) (wf_words (by decide)) (by decide)).mono ?_
  rw [aw_alone]
  rintro e w3 ⟨nv, rfl, hO, hM, _⟩
  have HM3 := Lib.hid (HM.out.call hO hM.mem)
  clear hO hM HM
  go_wp2_with fail
  refine (load_any b A' c' _ 0 _ HM3.out.mem).mono ?_
  rw [show wordAt [16842496, 0, 0, 0, 0, 0, 0, 0, 0, 0, 0, 0] 0 = 16842496 from rfl]
  rintro e w5 ⟨rfl, hO, hM⟩
  have HM4 := Lib.hid (HM3.out.call hO hM)
  clear hO hM HM3
  go_wp2
  go_ret
  exact ⟨rfl, HM4.out.only⟩
end Go.Proofs.YtaeninikaalkjaaGreat
namespace Go.Proofs.YtaeninikaalkjaaGreat
open Go.RowKit
end Go.Proofs.YtaeninikaalkjaaGreat
set_option linter.unusedVariables false
set_option linter.unusedSimpArgs false
namespace Go.Proofs.YtaeninikaalkjaaGreat
open Go.RowKit
theorem refCell_any (n row i : Int) (w : World) (hr : row = 0 ∨ row = 1 ∨ row = 2 ∨ row = 3) :
    Calls Tryz.prog 69 #[.int .i64 n, .int .i64 row, .int .i64 i] w fun e w' => e = .returned (.int .i64 (cellI n row i)) ∧ w = w' := by
  by_cases h1 : 1 ≤ n
  · by_cases h2 : n ≤ 64
    · by_cases h3 : 0 ≤ i
      · by_cases h4 : i < n
        · have hc : cellI n row i = 8 + row * n + i := if_pos ⟨h1, h2, h3, h4⟩
          rw [hc]
          clear hc
          rcases hr with rfl | rfl | rfl | rfl
          all_goals
            go_enter Tryz.func69, Tryz.ntmps69
            go_wp2
            go_ret
            exact ⟨ret_int (by omega), rfl⟩
        · have hc : cellI n row i = -1 := if_neg (fun h => h4 h.2.2.2)
          rw [hc]
          clear hc hr
          go_enter Tryz.func69, Tryz.ntmps69
          go_wp2
          go_ret
          exact ⟨rfl, rfl⟩
      · have hc : cellI n row i = -1 := if_neg (fun h => h3 h.2.2.1)
        rw [hc]
        clear hc hr
        go_enter Tryz.func69, Tryz.ntmps69
        go_wp2
        go_ret
        exact ⟨rfl, rfl⟩
    · have hc : cellI n row i = -1 := if_neg (fun h => h2 h.2.1)
      rw [hc]
      clear hc hr
      go_enter Tryz.func69, Tryz.ntmps69
      go_wp2
      go_ret
      exact ⟨rfl, rfl⟩
  · have hc : cellI n row i = -1 := if_neg (fun h => h1 h.1)
    rw [hc]
    clear hc hr
    go_enter Tryz.func69, Tryz.ntmps69
    go_wp2
    go_ret
    exact ⟨rfl, rfl⟩
end Go.Proofs.YtaeninikaalkjaaGreat
set_option linter.unusedVariables false
set_option linter.unusedSimpArgs false
namespace Go.Proofs.YtaeninikaalkjaaGreat
open Go.RowKit
theorem rcell_any (A : Option Addr) (l cp : Nat) (xs : List Int) (n i : Int) (hn : xs.length = l) (w : World) :
    Calls Tryz.prog 92 #[.slice A l cp, .int .i64 n, .int .i64 i] w fun e w' => e = .returned (.int .i64 (if there xs (pc n i) then pc n i else -1)) ∧ w = w' := by
  have HN := Lib.hid hn
  clear hn
  cases ht : there xs (pc n i)
  all_goals
    simp only [Bool.false_eq_true, if_false, if_true]
    have HT := Lib.hid ht
    clear ht
    go_enter Tryz.func92, Tryz.ntmps92
    go_wp2_with fail
    refine (refCell_any n 3 i _ (by omega)).mono ?_
    rintro e w1 ⟨rfl, rfl⟩
    have hpc : cellI n 3 i = pc n i := rfl
    rw [hpc]
    clear hpc
    go_wp2_with fail
    refine (there_any A l cp xs (pc n i) HN.out _).mono ?_
    rw [HT.out]
    rintro e w2 ⟨rfl, hw⟩
    obtain rfl := hw.symm
    clear hw
    go_wp2
    go_ret
    exact ⟨rfl, rfl⟩
end Go.Proofs.YtaeninikaalkjaaGreat
set_option linter.unusedVariables false
set_option linter.unusedSimpArgs false
namespace Go.Proofs.YtaeninikaalkjaaGreat
open Go.RowKit
theorem rgive_any (base : Nat) (A : Option Addr) (l cp : Nat) (xs : List Int) (n i : Int) (w : World) (h : Own w base A cp xs) (hn : xs.length = l) :
    Calls Tryz.prog 70 #[.slice A l cp, .int .i64 n, .int .i64 i] w fun e w' =>
      e = .returned (.tuple #[doVal xs 2 (pc n i) 1 0, .bool (there xs (pc n i))]) ∧ Only (At A) w w' ∧ Own w' base A cp (st xs (pc n i) 1) := by
  have HN := Lib.hid hn
  have HW := Lib.hid h
  cases ht : there xs (pc n i)
  · have hv : doVal xs 2 (pc n i) 1 0 = .agg #[.int .i64 0, .int .i64 0, .int .u32 0, .int .u32 0, .int .u32 0] := by simp [doVal, doOk, ht, accOf]
    have hs : st xs (pc n i) 1 = xs := by simp [st, ht]
    rw [hv, hs]
    have HT := Lib.hid ht
    clear ht h hn hv hs
    go_enter Tryz.func70, Tryz.ntmps70
    go_wp2_with fail
    refine (rcell_any A l cp xs n i HN.out _).mono ?_
    rw [HT.out]
    rintro e w1 ⟨rfl, rfl⟩
    simp only [Bool.false_eq_true, if_false]
    go_wp2
    refine post_row_tmp (P := Tryz.prog) Tryz.results70 (t := 39) (g := w.heap.size) (cs := #[.int .i64 0, .int .i64 0, .int .u32 0, .int .u32 0, .int .u32 0]) rfl (Row.new _ _ _) Tryz.underlying39 rfl (by kernel_rfl) rfl ⟨rfl, (Only.refl _ w).alloc _, ?_⟩
    exact HW.out.only ((Only.refl Nil w).alloc _) (fun _ _ => id)
  · have ht2 := ht
    simp only [there, decide_eq_true_eq] at ht2
    obtain ⟨q, hq⟩ := Int.eq_ofNat_of_zero_le ht2.1
    have hql : q < l := by omega
    obtain ⟨g, cur, rfl, hb, hr, hcell, hset⟩ := h.row (i := q) (by omega)
    have hwd : wordAt xs (pc n i) = xs.getD q 0 := by unfold wordAt; rw [ht, hq]; rfl
    have hv : doVal xs 2 (pc n i) 1 0 = .agg #[.int .i64 2, .int .i64 q, .int .u32 1, .int .u32 0, .int .u32 (xs.getD q 0)] := by
      have hok : doOk xs 2 (pc n i) = true := by simp [doOk, isKind, ht]
      unfold doVal
      rw [hok, hwd, hq]
      rfl
    have hs : st xs (pc n i) 1 = xs.set q 1 := by unfold st; rw [ht, hq]; rfl
    rw [hv, hs]
    generalize xs.getD q 0 = v at *
    have c0 := hr.cell_ hcell
    have f0 := hr.frozen q
    have HT := Lib.hid ht
    have HQ := Lib.hid hq
    have HR := Lib.hid hr
    have HSET := Lib.hid hset
    have hg := hr.lt
    clear ht h hn hv hs hq hwd ht2 hr hset hcell
    go_enter Tryz.func70, Tryz.ntmps70
    go_wp2_with fail
    refine (rcell_any _ l cp xs n i HN.out _).mono ?_
    rw [HT.out, HQ.out]
    rintro e w1 ⟨rfl, rfl⟩
    simp only [if_true]
    go_wp2
    refine post_row_tmp (P := Tryz.prog) Tryz.results70 (t := 39) (g := w.heap.size) (cs := #[.int .i64 2, .int .i64 q, .int .u32 1, .int .u32 0, .int .u32 v]) rfl ?_ Tryz.underlying39 rfl (by kernel_rfl) rfl ⟨rfl, ?_, ?_⟩
    · have e2 := (Row.new (w.setCell ⟨g, q, none⟩ (.int .u32 1)) 39 #[.int .i64 2, .int .i64 q, .int .u32 1, .int .u32 0, .int .u32 v]).alloc (Obj.cells #[.int .i64 2, .int .i64 q, .int .u32 1, .int .u32 0, .int .u32 v] 39)
      simpa [World.setCell] using e2
    · exact (((Only.refl (At (some ⟨g, 0, none⟩)) w).setCell (p := ⟨g, q, none⟩) (.inr ⟨_, rfl, rfl⟩) (.int .u32 1)).alloc _).alloc _
    · exact HSET.out _ _ (((HR.out.set q (.int .u32 1)).alloc _).alloc _)
end Go.Proofs.YtaeninikaalkjaaGreat
