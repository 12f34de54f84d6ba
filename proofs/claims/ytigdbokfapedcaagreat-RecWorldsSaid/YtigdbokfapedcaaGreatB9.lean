/- WdRun, AppNs, WdCat, LineQEn, LineQAd, Holds, Look, SetWatch, ParkTake. -/
import Derived.StillTailTactics
import Derived.Deep.Cut
import Derived.Laws.AppendOwnNone
import Derived.Lib.AppendZeros
import Derived.Test.YtigdbokfapedcaaGreatChecked
import Derived.Defers
import Derived.Recover
import Derived.Test.YtigdbokfapedcaaGreatB6
import Derived.Test.YtigdbokfapedcaaGreatB8
import Derived.Test.YtigdbokfapedcaaGreatB3
import Derived.Test.YtigdbokfapedcaaGreatB2
/- A task's run, the program's; who is stuck. -/
set_option linter.unusedVariables false
set_option linter.unusedSimpArgs false
namespace Go.Proofs.YtigdbokfapedcaaGreat
open Go.RowKit
def zeroRun : Array Value := #[.pointer none, .int .i64 0, .int .i64 0, .int .i64 0, .int .i64 0, .int .i64 0, .int .u32 0, .int .u32 0, .int .i64 0, .bool false, .int .i64 0, .int .i64 0, .bool false, .int .i64 0, .int .i64 0, .int .i64 0, .int .u32 0, .int .u32 0, .int .u32 0, .slice none 0 0]
set_option maxRecDepth 100000 in
set_option maxHeartbeats 4000000 in
theorem woRun_any (g gt b : Nat) (A : Option Addr) (cp : Nat) (kind mode : Int) (k t : Nat) (m : MV) (W : World) (h : WdP W g gt b A cp kind mode k m) (ht : t < k) (r : LS) (hr : r = ({ m.at t with n := k, mode := mode, task := t } : LS).fresh) :
    Calls Tryz.prog 163 #[.pointer (some ⟨g, 0, none⟩), .int .i64 t] W fun e w' => e = .returned (.agg (r.cells (.pointer (some ⟨b, 0, none⟩)) (.slice none 0 0))) ∧ Only Nil W w' := by
  have H := Lib.hid h
  have HT := Lib.hid ht
  have q2 : (t : Int) < k := by omega
  have q3 : (0 : Int) ≤ t := by omega
  have q4 : (t : Int).toNat = t := rfl
  have q5 := ht
  have HR := Lib.hid hr
  have hc : r.cells (.pointer (some ⟨b, 0, none⟩)) (.slice none 0 0) = #[.pointer (some ⟨b, 0, none⟩), .int .i64 k, .int .i64 mode, .int .i64 t, .int .i64 r.op, .int .i64 r.line, .int .u32 r.a, .int .u32 r.b, .int .i64 r.s, .bool r.k.on, .int .i64 r.k.c, .int .i64 r.k.i, .bool r.k.hit, .int .i64 r.ret, .int .i64 0, .int .i64 0, .int .u32 0, .int .u32 0, .int .u32 0, .slice none 0 0] := by rw [hr]; rfl
  rw [hc]
  clear h ht hr hc
  go_enter Tryz.func163, Tryz.ntmps163
  go_upto_region 1 with (fail)
  have e0 := (Only.refl Nil W).alloc (.cells zeroRun 102)
  have HO := Lib.hid e0
  have HW := Lib.hid (H.out.keep e0)
  have HF := Lib.hid (Row.new W 102 zeroRun)
  unfold zeroRun at e0 HO HW HF
  clear e0
  generalize W.alloc _ = w1 at *
  have HB := Lib.hid (show ∀ V : World, V = W → V.heap.size ≤ W.heap.size from fun _ h => h ▸ Nat.le_refl _)
  generalize W.heap.size = B at *
  have a1 : w1.cell? ⟨g, 1, none⟩ = some (.int .i64 mode) := HW.out.row.cell_ (i := 1) rfl
  have a3 : w1.cell? ⟨g, 3, none⟩ = some (.pointer (some ⟨b, 0, none⟩)) := HW.out.row.cell_ (i := 3) rfl
  have a4 : w1.cell? ⟨g, 4, none⟩ = some (.int .i64 k) := HW.out.row.cell_ (i := 4) rfl
  have a5 : w1.cell? ⟨g, 5, none⟩ = some (.slice (some ⟨gt, 0, none⟩) k k) := HW.out.row.cell_ (i := 5) rfl
  have z0 : w1.cell? ⟨gt, t * 11 + 1, none⟩ = some (.int .i64 r.op) := by rw [HR.out]; exact HW.out.tasks.cell HT.out 1 rfl
  have z1 : w1.cell? ⟨gt, t * 11 + 1 + 1, none⟩ = some (.int .i64 r.line) := by rw [HR.out]; exact HW.out.tasks.cell HT.out 2 rfl
  have z2 : w1.cell? ⟨gt, t * 11 + 1 + 2, none⟩ = some (.int .u32 r.a) := by rw [HR.out]; exact HW.out.tasks.cell HT.out 3 rfl
  have z3 : w1.cell? ⟨gt, t * 11 + 1 + 3, none⟩ = some (.int .u32 r.b) := by rw [HR.out]; exact HW.out.tasks.cell HT.out 4 rfl
  have z4 : w1.cell? ⟨gt, t * 11 + 1 + 4, none⟩ = some (.int .i64 r.s) := by rw [HR.out]; exact HW.out.tasks.cell HT.out 5 rfl
  have z5 : w1.cell? ⟨gt, t * 11 + 1 + 5, none⟩ = some (.bool r.k.on) := by rw [HR.out]; exact HW.out.tasks.cell HT.out 6 rfl
  have z6 : w1.cell? ⟨gt, t * 11 + 1 + 6, none⟩ = some (.int .i64 r.k.c) := by rw [HR.out]; exact HW.out.tasks.cell HT.out 7 rfl
  have z7 : w1.cell? ⟨gt, t * 11 + 1 + 7, none⟩ = some (.int .i64 r.k.i) := by rw [HR.out]; exact HW.out.tasks.cell HT.out 8 rfl
  have z8 : w1.cell? ⟨gt, t * 11 + 1 + 8, none⟩ = some (.bool r.k.hit) := by rw [HR.out]; exact HW.out.tasks.cell HT.out 9 rfl
  have z9 : w1.cell? ⟨gt, t * 11 + 1 + 9, none⟩ = some (.int .i64 r.ret) := by rw [HR.out]; exact HW.out.tasks.cell HT.out 10 rfl
  go_still_tail 22, (by kernel_rfl)
  refine wp_storeR rfl 102 (.tmp 4) (.tmp 26) rfl (by rfl) (by rfl) HF.out (by kernel_rfl) (Nat.le_refl 20) (by kernel_rfl) ?_
  rw [putL_all (by rfl)]
  go_wp2_with fail
  refine post_row Tryz.results163 (by rfl) (HF.out.drew.setRow _) Tryz.underlying102 rfl (by kernel_rfl) rfl ⟨rfl, HO.out.drew.setRow (.inl (HB.out W rfl)) _⟩
/-- Who is stuck. -/
theorem woStuck_in (g gt b : Nat) (A : Option Addr) (cp : Nat) (kind mode : Int) (k t : Nat) (m : MV) (W : World) (h : WdP W g gt b A cp kind mode k m) (hi : WdI mode k m) (ht : t < k) :
    Calls Tryz.prog 72 #[.pointer (some ⟨g, 0, none⟩), .int .i64 t] W fun e w' => e = .returned (.bool (m.at t).stuck) ∧ Only (At A) W w' ∧ WdP w' g gt b A cp kind mode k m := by
  have HW := Lib.hid h
  have HT := Lib.hid ht
  have HB := Lib.hid (show decide ((0 : Int) ≤ t ∧ (t : Int) < k) = true from decide_eq_true (by omega))
  obtain ⟨h1, h2, h3, _⟩ := hi.rs t ht
  have HR := Lib.hid (show (m.at t).fresh = ({ m.at t with n := k, mode := mode, task := t } : LS).fresh by
    show LS.mk _ _ _ _ _ _ _ _ _ _ _ _ _ = LS.mk _ _ _ _ _ _ _ _ _ _ _ _ _
    rw [show (m.at t).n = k from h1, show (m.at t).mode = mode from h2, show (m.at t).task = t from h3])
  clear h hi ht h1 h2 h3
  go_enter Tryz.func72, Tryz.ntmps72
  go_wp2_with fail
  refine (woHas_any g gt b A cp kind mode k m t _ HW.out).mono ?_
  rw [HB.out]
  rintro e w1 ⟨rfl, rfl⟩
  go_wp2_with fail
  refine (woRun_any g gt b A cp kind mode k t m _ HW.out HT.out (m.at t).fresh HR.out).mono ?_
  rintro e w1 ⟨rfl, hO⟩
  have HO := Lib.hid hO
  clear hO
  go_wp2_with fail
  refine (stuckL_any _ A cp _ (m.at t).fresh _ (Memo.of (HW.out.keep HO.out).mem)).mono ?_
  rintro e w2 ⟨rfl, hO, hM⟩
  have HO2 := Lib.hid (And.intro hO hM)
  clear hO hM
  go_wp2
  go_ret
  have hw := HW.out.keep HO.out
  exact ⟨rfl, (HO.out.mono (fun _ _ h => h.elim)).trans HO2.out.1, hw.words (B := w1.heap.size) ⟨Nat.ne_of_lt hw.lt.1, Nat.ne_of_lt hw.lt.2.1⟩ (HO2.out.1.mono fun _ _ h => .inr h) HO2.out.2.mem⟩
theorem woStuck_out (v : Value) (t : Int) (W : World) (h : Calls Tryz.prog 24 #[v, .int .i64 t] W fun e w' => e = .returned (.bool false) ∧ W = w') :
    Calls Tryz.prog 72 #[v, .int .i64 t] W fun e w' => e = .returned (.bool false) ∧ W = w' := by
  have H := Lib.hid h
  clear h
  go_enter Tryz.func72, Tryz.ntmps72
  go_wp2_with fail
  refine H.out.mono ?_
  rintro e w1 ⟨rfl, rfl⟩
  go_wp2
  go_ret
  exact ⟨rfl, rfl⟩
end Go.Proofs.YtigdbokfapedcaaGreat
/- append of notes to a list of notes that the call made. -/
set_option linter.unusedVariables false
set_option linter.unusedSimpArgs false
namespace Go.Proofs.YtigdbokfapedcaaGreat
open Go.RowKit

theorem flat_cells : ∀ (zs : List Nt) (u : Value), u ∈ flat zs → u.oneCell' = true
  | [], u, h => by simp [flat] at h
  | n :: r, u, h => by
    rw [flat, List.mem_append] at h
    rcases h with h | h
    · unfold flat1 at h
      simp only [List.mem_cons, List.not_mem_nil, or_false] at h
      rcases h with rfl | rfl | rfl | rfl <;> rfl
    · exact flat_cells r u h

theorem wp_appNs {w : World} {ops : Array Oper} {rest : List Oper} {o : Oper} {a : Act} {Q : Exit → Act → World → Prop} (hgd : o.guard = none) (s x : Operand)
    (ho : o.op = .call { callee := .builtin .append, args := #[s, x], argTypes := #[29, 29] })
    (base : Nat) (v : Value) (zs : List Nt) (hs : a.eval s = v) (hown : OwnN base w v zs)
    (u : Value) (ys : List Nt) (hx : a.eval x = u) (hu : OwnN 0 w u ys)
    (h1 : zs.length ≤ 4000) (h2 : ys.length ≤ 1000) (hbase : base ≤ w.heap.size)
    (h : ∀ v' w', OwnN base w' v' (zs ++ ys) → Only (fun k => v.ownBlock = some k) w w' → wpList Tryz.prog ops Q rest (a.put o.dst v') w') : wpList Tryz.prog ops Q (o :: rest) a w := by
  obtain ⟨i0, hi, hz0, hz1, hz2⟩ := info_parts infoN
  rcases hu.2 with ⟨rfl, hn⟩ | ⟨g, cap, cur, rfl, _, hg, hc, hm, hsz, ht⟩
  · obtain rfl := List.eq_nil_of_length_eq_zero hn
    refine wpList_append_own_none hgd s x 29 ho base 59 i0 4 Tryz.underlying29 hi v zs.length (flat zs) hs hown hx ?_
    exact h v w (by rw [List.append_nil]; exact hown) (Only.refl _ _)
  · refine wpList_append_own w hgd s x 29 ho base 59 i0 (.agg #[.int .i64 0, .int .i64 0, .int .i64 0, .int .i64 0]) 4 32 Tryz.underlying29 hi hz0 hz1 hz2 rfl (by decide) v zs.length (flat zs) hs hown ⟨g, 0, none⟩ ys.length cap (flat ys) hx (flat_len ys) (fun j u hj => World.ownsRow.cells hu (g := g) rfl j u hj) (fun u hu => flat_cells ys u hu) (by unfold maxLen; omega) (by omega) hbase (fun v' w' hO hG _ => ?_)
    refine h v' w' ?_ ((Only.refl _ w).grown hG (fun k hk => .inr hk))
    have e : (zs ++ ys).length = zs.length + ys.length := List.length_append
    unfold OwnN
    rw [e, flat_app]
    exact hO
end Go.Proofs.YtigdbokfapedcaaGreat
/- slices.Grow of a nil list of notes; slices.Concat of two lists of notes. -/
set_option linter.unusedVariables false
set_option linter.unusedSimpArgs false
namespace Go.Proofs.YtigdbokfapedcaaGreat
open Go.RowKit
set_option maxRecDepth 100000 in
theorem grow_nil (n : Nat) (hn : n ≤ 1000) (w : World) : Calls Tryz.prog 236 #[.slice none 0 0, .int .i64 n] w fun e w' => ∃ v, e = .returned v ∧ OwnN w.heap.size w' v [] ∧ Only Nil w w' := by
  obtain ⟨i0, hi, hz0, hz1, hz2⟩ := info_parts infoN
  have q0 : ¬ (n : Int) < 0 := by omega
  by_cases h0 : n = 0
  · subst h0
    go_enter Tryz.func236, Tryz.ntmps236
    go_wp2
    go_ret
    exact ⟨_, rfl, ownN_nil _ _, Only.refl _ _⟩
  · have q1 : (0 : Int) < n := by omega
    have q2 : (n : Int) ≤ 9223372036854775807 := by omega
    have HN := Lib.hid hn
    have hr := Lib.run_append_nil_zeros (P := Tryz.prog) w 29 3 29 59 i0 (.agg #[.int .i64 0, .int .i64 0, .int .i64 0, .int .i64 0]) .i64 .i64 Tryz.underlying29 Tryz.underlying3 hi hz0 n (by omega) (by rw [hz1]; decide) (by omega) (by rw [hz2]; omega)
    obtain ⟨cp, hcp⟩ : ∃ cp, grownCap w n 0 59 = cp := ⟨_, rfl⟩
    obtain ⟨zs, hzs⟩ : ∃ zs, Builtin.zeroCells (Value.agg #[.int .i64 0, .int .i64 0, .int .i64 0, .int .i64 0]).cells n ++ Builtin.zeroCells (Value.agg #[.int .i64 0, .int .i64 0, .int .i64 0, .int .i64 0]).cells (cp - n) = zs := ⟨_, rfl⟩
    rw [hcp, hzs] at hr
    have HC := Lib.hid (And.intro hcp hzs)
    clear hcp hzs hn h0
    go_enter Tryz.func236, Tryz.ntmps236
    go_wp2_with (at_builtin; refine Lib.wpList_append_run _ rfl (.tmp 20) (.tmp 21) _ _ rfl (.slice none 0 0) (.int .i64 n) rfl rfl _ _ hr ?_)
    go_wp2
    go_ret
    have hg : n ≤ cp := by rw [← HC.out.1]; exact grownCap_ge _ _ _ _
    have hl : cp ≤ maxLen := by rw [← HC.out.1]; exact grownCap_le_maxLen _ _ _ _ (by have := HN.out; unfold maxLen; omega)
    refine ⟨_, rfl, ⟨rfl, .inr ⟨w.heap.size, cp, zs, rfl, Nat.le_refl _, Row.new _ _ _, Nat.zero_le _, hl, ?_, by simp [flat]⟩⟩, (Only.refl Nil w).drew.alloc _⟩
    rw [← HC.out.2, Array.size_append, size_zeroCells, size_zeroCells]
    show n * 4 + (cp - n) * 4 = cp * 4
    omega
/-- Two lists, one behind the other. -/
theorem concat_two (B : Nat) (v1 v2 : Value) (zs ys : List Nt) (w : World) (hr : Row w B 29 #[v1, v2]) (h1 : OwnN 0 w v1 zs) (h2 : OwnN 0 w v2 ys) (hz : zs.length ≤ 100) (hy : ys.length ≤ 100) :
    Calls Tryz.prog 165 #[.slice (some ⟨B, 0, none⟩) 2 2] w fun e w' => ∃ v, e = .returned v ∧ OwnN w.heap.size w' v (zs ++ ys) ∧ Only Nil w w' := by
  obtain ⟨A1, c1, rfl, -⟩ := h1.list
  obtain ⟨A2, c2, rfl, -⟩ := h2.list
  have hc0 : w.cell? ⟨B, 0, none⟩ = some (.slice A1 zs.length c1) := hr.cell_ (i := 0) rfl
  have hc1 : w.cell? ⟨B, 1, none⟩ = some (.slice A2 ys.length c2) := hr.cell_ (i := 1) rfl
  have H := Lib.hid (And.intro hr (And.intro h1 h2))
  have HZ := Lib.hid (And.intro hz hy)
  obtain ⟨n1, hn1⟩ : ∃ n1, zs.length = n1 := ⟨_, rfl⟩
  obtain ⟨n2, hn2⟩ : ∃ n2, ys.length = n2 := ⟨_, rfl⟩
  rw [hn1] at hc0
  rw [hn2] at hc1
  have HN := Lib.hid (And.intro hn1 hn2)
  have q1 : (n1 : Int) ≤ 9223372036854775806 := by omega
  have q2 : (n2 : Int) + n1 ≤ 9223372036854775806 := by omega
  obtain ⟨n, hn⟩ : ∃ n, n2 + n1 = n := ⟨_, rfl⟩
  have HS := Lib.hid (And.intro (show (n1 : Int) + n2 = n by omega) (show n ≤ 1000 by omega))
  clear hn
  have q3 : ¬ (n1 : Int) < 0 := by omega
  clear hr h1 h2 hz hy hn1 hn2
  go_enter Tryz.func165, Tryz.ntmps165
  go_wp2_with fail
  go_loop [3, 11] (fun sv iv => (iv = .int .i64 0 ∧ sv = .int .i64 0) ∨ (iv = .int .i64 1 ∧ sv = .int .i64 n1) ∨ (iv = .int .i64 2 ∧ sv = .int .i64 n)) (fun _ iv => 2 - (intOf iv).toNat)
  case atStart => exact .inl ⟨rfl, rfl⟩
  case round =>
    rcases hrel with ⟨rfl, rfl⟩ | ⟨rfl, rfl⟩ | ⟨rfl, rfl⟩
    · go_wp2
      go_round
      case rel => exact .inr (.inl ⟨rfl, rfl⟩)
      case measure => simp [intOf]
    · go_wp2
      go_round
      case rel => exact .inr (.inr ⟨rfl, by rw [HS.out.1]⟩)
      case measure => simp [intOf]
    · go_wp2_with fail
      refine (grow_nil n HS.out.2 _).mono ?_
      rintro e w1 ⟨v, rfl, hO, hW⟩
      have HI := Lib.hid (And.intro hO hW)
      have HB := Lib.hid hW.size
      clear hO hW hc0 hc1
      go_wp2_with fail
      go_loopw [6, 27] (fun sv iv wr => Only Nil w wr ∧ ((iv = .int .i64 0 ∧ OwnN w.heap.size wr sv []) ∨ (iv = .int .i64 1 ∧ OwnN w.heap.size wr sv zs) ∨ (iv = .int .i64 2 ∧ OwnN w.heap.size wr sv (zs ++ ys)))) (fun _ iv _ => 2 - (intOf iv).toNat)
      case atStart => exact ⟨HI.out.2, .inl ⟨rfl, HI.out.1⟩⟩
      case round =>
        obtain ⟨hoW, hrel⟩ := hrel
        have HO := Lib.hid hoW
        have hc0 : wr.cell? ⟨B, 0, none⟩ = some (.slice A1 n1 c1) := by rw [← HN.out.1]; exact (H.out.1.only hoW id).cell_ (i := 0) rfl
        have hc1 : wr.cell? ⟨B, 1, none⟩ = some (.slice A2 n2 c2) := by rw [← HN.out.2]; exact (H.out.1.only hoW id).cell_ (i := 1) rfl
        have HA := Lib.hid (show ∀ (v v' : Value) (zs0 : List Nt) (w' : World), OwnN w.heap.size wr v zs0 → Only (fun k => v.ownBlock = some k) wr w' → Only Nil w w' from fun v v' zs0 w' h ho => hoW.step ho fun i hi e => by have := (h.lt i e).1; omega)
        clear hoW HI HB
        rcases hrel with ⟨rfl, hO⟩ | ⟨rfl, hO⟩ | ⟨rfl, hO⟩
        · skip
          have HQ := Lib.hid hO
          clear hO
          go_wp2_with (at_builtin; refine wp_appNs rfl (.tmp 31) (.tmp 32) rfl w.heap.size _ [] rfl HQ.out _ zs rfl (by rw [← HN.out.1]; exact own_only H.out.2.1 HO.out (fun _ _ => id)) (by have := HZ.out; simp; try omega) (by have := HZ.out; omega) HO.out.size ?_)
          intro v' w' hv hw
          have hw2 := HA.out _ v' _ _ HQ.out hw
          have HV := Lib.hid (And.intro hv hw2)
          clear hv hw hw2
          go_wp2
          go_roundw
          case rel => exact ⟨HV.out.2, .inr (.inl ⟨rfl, HV.out.1⟩)⟩
          case measure => simp [intOf]
        · skip
          have HQ := Lib.hid hO
          clear hO
          go_wp2_with (at_builtin; refine wp_appNs rfl (.tmp 31) (.tmp 32) rfl w.heap.size _ zs rfl HQ.out _ ys rfl (by rw [← HN.out.2]; exact own_only H.out.2.2 HO.out (fun _ _ => id)) (by have := HZ.out; simp; try omega) (by have := HZ.out; omega) HO.out.size ?_)
          intro v' w' hv hw
          have hw2 := HA.out _ v' _ _ HQ.out hw
          have HV := Lib.hid (And.intro hv hw2)
          clear hv hw hw2
          go_wp2
          go_roundw
          case rel => exact ⟨HV.out.2, .inr (.inr ⟨rfl, HV.out.1⟩)⟩
          case measure => simp [intOf]
        · have HQ := Lib.hid hO
          clear hO
          go_wp2
          go_ret
          exact ⟨_, rfl, HQ.out, HO.out⟩
end Go.Proofs.YtigdbokfapedcaaGreat
/- A run's calls, the program's: End. -/
set_option linter.unusedVariables false
set_option linter.unusedSimpArgs false
namespace Go.Proofs.YtigdbokfapedcaaGreat
open Go.RowKit

section
variable (B : Nat) (p A : Option Addr) (cp : Nat) (nv : Value) (r : LS) (c x y : Int) (w : World)
theorem RunP.setRet {w : World} {B : Nat} {p A : Option Addr} {cp : Nat} {nv : Value} {r : LS} (h : RunP w B p A cp nv r) (v : Int) : RunP (w.setCell ⟨B, 13, none⟩ (.int .i64 v)) B p A cp nv { r with ret := v } :=
  h.turn ((Only.refl (· = B) w).setCell (p := ⟨B, 13, none⟩) (.inr rfl) _) (h.row.set 13 (.int .i64 v)) rfl rfl
theorem end_run (ok : Bool) (h : RunP w B p A cp nv r) : Calls Tryz.prog 97 #[.pointer (some ⟨B, 0, none⟩), .bool ok] w (Done B p A cp w (.tuple #[]) (r.fin ok)) := by
  have c13 : w.cell? ⟨B, 13, none⟩ = some (.int .i64 r.ret) := h.row.cell_ (i := 13) rfl
  have f13 : w.frozen? ⟨B, 13, none⟩ = false := h.row.frozen 13
  have HP := Lib.hid h
  clear h
  cases ok
  · go_enter Tryz.func97, Tryz.ntmps97
    go_wp2
    go_returns
    exact ⟨rfl, (Only.refl (TurnB B A) w).setCell (p := ⟨B, 13, none⟩) (.inr (.inl rfl)) _, nv, HP.out.setRet 1⟩
  · go_enter Tryz.func97, Tryz.ntmps97
    go_wp2
    go_returns
    exact ⟨rfl, ((Only.refl (TurnB B A) w).setCell (p := ⟨B, 13, none⟩) (.inr (.inl rfl)) _).setCell (p := ⟨B, 13, none⟩) (.inr (.inl rfl)) _, nv, (HP.out.setRet 1).setRet 2⟩
end
end Go.Proofs.YtigdbokfapedcaaGreat
/- A run's calls, the program's: Add. -/
set_option linter.unusedVariables false
set_option linter.unusedSimpArgs false
namespace Go.Proofs.YtigdbokfapedcaaGreat
open Go.RowKit

section
variable (B : Nat) (p A : Option Addr) (cp : Nat) (nv : Value) (r : LS) (c x y : Int) (w : World)
theorem add_run (h : RunP w B p A cp nv r) : Calls Tryz.prog 100 #[.pointer (some ⟨B, 0, none⟩), .int .i64 c, .int .u32 x] w (Done B p A cp w (.int .u32 (wordAt r.xs c)) (r.doA 3 c x 0)) := by
  go_enter Tryz.func100, Tryz.ntmps100
  go_wp2_with fail
  refine (access_run B p A cp nv r 3 c x 0 0 _ h rfl).mono ?_
  rintro e w1 ⟨rfl, hO, hP⟩
  have HO := Lib.hid hO
  have HP := Lib.hid hP
  clear hO hP h
  go_wp2
  go_ret
  exact ⟨rfl, HO.out, nv, HP.out⟩
end
end Go.Proofs.YtigdbokfapedcaaGreat
/- wait.holds: a function of a word is asked; a deferred call that recovers nothing. -/
set_option linter.unusedVariables false
set_option linter.unusedSimpArgs false
namespace Go.Proofs.YtigdbokfapedcaaGreat
open Go.RowKit

/-- What is handed in as a function of a word tells q of it, whatever the world is. -/
def HoldsAny (fv : Value) (q : Int → Bool) : Prop := ∀ (v : Int) (w : World), 0 ≤ v → v < 4294967296 →
  Calls Tryz.prog 275 #[fv, .int .u32 v] w fun e w' => e = .returned (.bool (q v)) ∧ Only Nil w w'

/-- It tells q of it in each world that is as w0 but for the words. -/
def Holds (A : Option Addr) (w0 : World) (fv : Value) (q : Int → Bool) : Prop := ∀ (v : Int) (w : World), Only (At A) w0 w → 0 ≤ v → v < 4294967296 →
  Calls Tryz.prog 275 #[fv, .int .u32 v] w fun e w' => e = .returned (.bool (q v)) ∧ Only Nil w w'

theorem HoldsAny.at {fv : Value} {q : Int → Bool} (h : HoldsAny fv q) {A : Option Addr} {w0 : World} : Holds A w0 fv q := fun v w _ => h v w

theorem Holds.move {A : Option Addr} {w0 w1 : World} {fv : Value} {q : Int → Bool} (h : Holds A w0 fv q) (ho : Only (At A) w0 w1) : Holds A w1 fv q := fun v w hw => h v w (ho.trans hw)

theorem Holds.move0 {A : Option Addr} {w0 w1 : World} {fv : Value} {q : Int → Bool} (h : Holds A w0 fv q) (ho : Only Nil w0 w1) : Holds A w1 fv q := h.move (ho.mono (fun _ _ h => h.elim))

theorem rec_idle (w : World) :
    CallsD Tryz.prog 284 #[] .returning w fun e u' w' => e = .returned (.tuple #[]) ∧ u' = .returning ∧ w = w' := by
  refine callsD_of_wpS Tryz.func284 rfl fun c₀ cs hu => ?_
  apply wpS_region
  simp [wpOpsS, go_sem, recoverD, hu, Tryz.ntmps284, Exit.thenS]
  cases c₀
  simp_all [bodyPostS, results, Tryz.results284]

set_option maxRecDepth 100000 in
theorem neq_nil (w : World) : (binOp .neq 138 .nilFunc .nilFunc).run Tryz.prog w = .ok (.bool false) w := by
  first | rfl | kernel_rfl

set_option maxRecDepth 100000 in
theorem neq_fn (f : Fn) (first cap : Array Value) (w : World) : (binOp .neq 138 (.func f first cap) .nilFunc).run Tryz.prog w = .ok (.bool true) w := by
  first | rfl | kernel_rfl

theorem holds_nil : HoldsAny .nilFunc (fun _ => false) := by
  intro v w h0 h1
  have hn := neq_nil
  go_enter_defers Tryz.func275, Tryz.ntmps275
  go_wp2
  refine leaves_cons (f := 284) (args := #[]) (by simp) (by simp [go_sem]) ?_
  refine (rec_idle _).mono ?_
  rintro e u' w'' ⟨rfl, rfl, rfl⟩
  exact ⟨_, results_tmp rfl _ _ _, rfl, Only.refl _ _⟩
end Go.Proofs.YtigdbokfapedcaaGreat
/- wait.look. -/
set_option linter.unusedVariables false
set_option linter.unusedSimpArgs false
namespace Go.Proofs.YtigdbokfapedcaaGreat
open Go.RowKit

theorem look_any (p A : Option Addr) (cp : Nat) (xs : List Int) (c : Int) (fv : Value) (q : Int → Bool) (w : World) (h : Memo w p A cp xs) (hf : Holds A w fv q) (hx : Words xs) :
    Calls Tryz.prog 247 #[.pointer p, .int .i64 c, fv] w fun e w' =>
      e = .returned (.tuple #[doVal xs 1 c 0 0, .bool (q (wordAt xs c))]) ∧ Only (At A) w w' ∧ Memo w' p A cp xs := by
  have hb := word_wf hx c
  have HB := Lib.hid hb
  have hst : doNew xs 1 c 0 0 = xs := doNew_load xs _ _ _
  have HH := Lib.hid h
  have HF := Lib.hid hf
  have ha : ∀ j, At p j ∨ At A j → j < w.heap.size := HH.out.lt
  have HA := Lib.hid ha
  clear h ha hf hb hx
  go_enter Tryz.func247, Tryz.ntmps247
  go_wp2_with fail
  have e0 := (Only.refl Nil w).alloc (Obj.cells #[Value.int IntKind.i64 0, Value.int IntKind.i64 0, Value.int IntKind.u32 0, Value.int IntKind.u32 0, Value.int IntKind.u32 0] 63)
  refine (do_memo p A cp xs 1 c 0 0 0 _ (HH.out.keep e0)).mono ?_
  obtain ⟨k', c', x', y', hv⟩ := doVal_form xs 1 c 0 0
  rw [oldAt xs 1 c rfl] at hv
  rw [hv, hst]
  rintro e w2 ⟨rfl, hO, hM⟩
  have hS : Only (At A) w w2 := (e0.mono (fun _ _ h => h.elim)).trans hO
  have R8 : Row w2 w.heap.size 63 #[.int .i64 0, .int .i64 0, .int .u32 0, .int .u32 0, .int .u32 0] := (Row.new w _ _).only hO (fun h => by have := HA.out _ (.inr h); omega)
  have HR := Lib.hid (R8.alloc (Obj.cells #[Value.int IntKind.i64 k', Value.int IntKind.i64 c', Value.int IntKind.u32 x', Value.int IntKind.u32 y', Value.int IntKind.u32 (wordAt xs c)] 63))
  have HN := Lib.hid (Row.new w2 63 #[Value.int IntKind.i64 k', Value.int IntKind.i64 c', Value.int IntKind.u32 x', Value.int IntKind.u32 y', Value.int IntKind.u32 (wordAt xs c)])
  have HS := Lib.hid (hS.alloc (Obj.cells #[Value.int IntKind.i64 k', Value.int IntKind.i64 c', Value.int IntKind.u32 x', Value.int IntKind.u32 y', Value.int IntKind.u32 (wordAt xs c)] 63))
  have HM := Lib.hid (hM.keep ((Only.refl Nil w2).alloc (Obj.cells #[Value.int IntKind.i64 k', Value.int IntKind.i64 c', Value.int IntKind.u32 x', Value.int IntKind.u32 y', Value.int IntKind.u32 (wordAt xs c)] 63)))
  have HZ := Lib.hid R8.lt
  clear hO R8 hS hM e0 hst
  have HV := Lib.hid hv
  clear hv
  go_wp2_with fail
  generalize w2.alloc (.cells #[.int .i64 k', .int .i64 c', .int .u32 x', .int .u32 y', .int .u32 (wordAt xs c)] 63) = w3 at *
  generalize hg : w2.heap.size = g at *
  have HG := Lib.hid hg
  clear hg
  generalize hwd : wordAt xs c = v at *
  have HWD := Lib.hid hwd
  clear hwd
  have hgg : ¬ g = w.heap.size := by have := HZ.out; omega
  have HGG := Lib.hid hgg
  clear hgg
  refine wp_region_held_drew (S := fun w' => Five w' g (.int .i64 k') (.int .i64 c') (.int .u32 x') (.int .u32 y') (.int .u32 v)) (by kernel_rfl) HN.out.five (fun hHeld => ?_)
  refine zk 0 rfl ?_
  refine zk 1 rfl ?_
  refine zk 2 rfl ?_
  refine zk 3 rfl ?_
  refine mcl 4 rfl (by kernel_rfl) (by rfl) (fun K hK => ?_)
  go_simp
  refine (HF.out v _ HS.out.drew HB.out.1 HB.out.2).mono ?_
  rintro e w4 ⟨rfl, hO⟩
  have hO4 : Only Nil w3 w4 := (Only.refl Nil w3).drew.trans hO
  have HN4 := Lib.hid (HN.out.only hO4 id)
  have HR4 := Lib.hid (HR.out.only hO4 id)
  have HO4 := Lib.hid hO4
  refine hK.out _ _ HN4.out.five (fun hHeld2 => ?_)
  clear hK K hHeld hO hO4
  have d0 : w4.cell? ⟨w.heap.size, 0, none⟩ = some (.int .i64 0) := HR4.out.cell_ (i := 0) rfl
  have d1 : w4.cell? ⟨w.heap.size, 1, none⟩ = some (.int .i64 0) := HR4.out.cell_ (i := 1) rfl
  have d2 : w4.cell? ⟨w.heap.size, 2, none⟩ = some (.int .u32 0) := HR4.out.cell_ (i := 2) rfl
  have d3 : w4.cell? ⟨w.heap.size, 3, none⟩ = some (.int .u32 0) := HR4.out.cell_ (i := 3) rfl
  have d4 : w4.cell? ⟨w.heap.size, 4, none⟩ = some (.int .u32 0) := HR4.out.cell_ (i := 4) rfl
  have f0 : w4.frozen? ⟨w.heap.size, 0, none⟩ = false := HR4.out.frozen 0
  have f1 : w4.frozen? ⟨w.heap.size, 1, none⟩ = false := HR4.out.frozen 1
  have f2 : w4.frozen? ⟨w.heap.size, 2, none⟩ = false := HR4.out.frozen 2
  have f3 : w4.frozen? ⟨w.heap.size, 3, none⟩ = false := HR4.out.frozen 3
  have f4 : w4.frozen? ⟨w.heap.size, 4, none⟩ = false := HR4.out.frozen 4
  refine mcl 5 rfl (by kernel_rfl) (by rfl) (fun K hK => ?_)
  go_simp
  have HN5 := Lib.hid (HN4.out.only (five_only (Only.refl (· = w.heap.size) w4) (.inr rfl) (.int .i64 k') (.int .i64 c') (.int .u32 x') (.int .u32 y') (.int .u32 v)) HGG.out)
  refine hK.out _ _ HN5.out.five (fun hHeld3 => ?_)
  clear hK K hHeld2 d0 d1 d2 d3 d4 f0 f1 f2 f3 f4
  refine zk 6 rfl ?_
  refine wpAnyH_done (by kernel_rfl) ?_ _
  go_wp2
  refine post_row_tmp (P := Tryz.prog) Tryz.results247 (t := 63) (g := w.heap.size) (cs := #[.int .i64 k', .int .i64 c', .int .u32 x', .int .u32 y', .int .u32 v]) rfl (five HR4.out _ _ _ _ _) Tryz.underlying63 rfl (by kernel_rfl) rfl ⟨?_, five_only (HS.out.trans (HO4.out.mono (fun _ _ h => h.elim))) (.inl (Nat.le_refl _)) _ _ _ _ _, ?_⟩
  · rw [HV.out, HWD.out]; rfl
  · exact (HM.out.keep HO4.out).far (five_only (Only.refl (· = w.heap.size) w4) (.inr rfl) _ _ _ _ _) (fun j hj h => by have := HA.out j hj; omega)
end Go.Proofs.YtigdbokfapedcaaGreat
/- wait.setWatch, wait.either. -/
set_option linter.unusedVariables false
set_option linter.unusedSimpArgs false
namespace Go.Proofs.YtigdbokfapedcaaGreat
open Go.RowKit

theorem either_any (b : Bool) (y z : Int) (w : World) :
    Calls Tryz.prog 249 #[.bool b, .int .i64 y, .int .i64 z] w fun e w' => e = .returned (.agg #[.int .i64 (if b then y else z)]) ∧ Only Nil w w' := by
  cases b
  all_goals
    simp only [Bool.false_eq_true, if_false, if_true]
    go_enter Tryz.func249, Tryz.ntmps249
    go_wp2
    exact post_row (P := Tryz.prog) Tryz.results249 (t := 80) (by rfl) (Row.new _ _ _) Tryz.underlying80 rfl (by kernel_rfl) rfl ⟨rfl, (Only.refl _ _).alloc _⟩

theorem setWatch_any (p A : Option Addr) (cp : Nat) (xs : List Int) (n i x : Int) (w : World) (h : Memo w p A cp xs) :
    Calls Tryz.prog 248 #[.pointer p, .agg #[.int .i64 n], .int .i64 i, .int .u32 x] w fun e w' =>
      e = .returned (doVal xs 2 (wc n i) x 0) ∧ Only (At A) w w' ∧ Memo w' p A cp (st xs (wc n i) x) := by
  have hst : doNew xs 2 (wc n i) x 0 = st xs (wc n i) x := by rw [doNew_st xs 2 _ x 0 rfl]; rfl
  have HST := Lib.hid hst
  have HH := Lib.hid h
  have ha : ∀ j, At p j ∨ At A j → j < w.heap.size := HH.out.lt
  have HA := Lib.hid ha
  clear h ha hst
  go_enter Tryz.func248, Tryz.ntmps248
  go_wp2_with fail
  refine (watch_any n i _).mono ?_
  rintro e w1 ⟨rfl, hO⟩
  have R8 : Row w1 (w.heap.size + 1) 63 #[.int .i64 0, .int .i64 0, .int .u32 0, .int .u32 0, .int .u32 0] := (Row.new2 w _ _ _).only hO id
  have hO1 : Only Nil w w1 := (((Only.refl Nil w).alloc _).alloc _).trans hO
  have HM1 := Lib.hid (HH.out.keep hO1)
  have HO1 := Lib.hid hO1
  have HR8 := Lib.hid R8
  clear hO R8 hO1
  show _
  have hpc : cellI n 2 i = wc n i := rfl
  rw [hpc]
  clear hpc
  go_wp2_with fail
  refine (do_memo p A cp xs 2 (wc n i) x 0 0 _ HM1.out).mono ?_
  obtain ⟨k', c', x', y', hv⟩ := doVal_form xs 2 (wc n i) x 0
  rw [oldAt xs 2 (wc n i) rfl] at hv
  rw [hv, HST.out]
  rintro e w2 ⟨rfl, hO, hM⟩
  have HS := Lib.hid ((HO1.out.mono (fun _ _ h => h.elim)).trans hO)
  have R8 := HR8.out.only hO (fun h => by have := HA.out _ (.inr h); omega)
  have HR9 := Lib.hid (R8.alloc (Obj.cells #[Value.int IntKind.i64 k', Value.int IntKind.i64 c', Value.int IntKind.u32 x', Value.int IntKind.u32 y', Value.int IntKind.u32 (wordAt xs (wc n i))] 63))
  have HN := Lib.hid (Row.new w2 63 #[Value.int IntKind.i64 k', Value.int IntKind.i64 c', Value.int IntKind.u32 x', Value.int IntKind.u32 y', Value.int IntKind.u32 (wordAt xs (wc n i))])
  have HS2 := Lib.hid (HS.out.alloc (Obj.cells #[Value.int IntKind.i64 k', Value.int IntKind.i64 c', Value.int IntKind.u32 x', Value.int IntKind.u32 y', Value.int IntKind.u32 (wordAt xs (wc n i))] 63))
  have HM2 := Lib.hid (hM.keep ((Only.refl Nil w2).alloc (Obj.cells #[Value.int IntKind.i64 k', Value.int IntKind.i64 c', Value.int IntKind.u32 x', Value.int IntKind.u32 y', Value.int IntKind.u32 (wordAt xs (wc n i))] 63)))
  have HV := Lib.hid hv
  have hlt := R8.lt
  have HLT := Lib.hid hlt
  clear hO R8 hM hv hlt HS
  generalize wordAt xs (wc n i) = o' at *
  generalize doOk xs 2 (wc n i) = ok at *
  go_upto_region 2 with (fail)
  generalize w2.alloc (.cells #[.int .i64 k', .int .i64 c', .int .u32 x', .int .u32 y', .int .u32 o'] 63) = w3 at *
  generalize w2.heap.size = g2 at *
  have c80 : w3.cell? ⟨w.heap.size + 1, 0, none⟩ = some (.int .i64 0) := HR9.out.cell_ (i := 0) rfl
  have c81 : w3.cell? ⟨w.heap.size + 1, 1, none⟩ = some (.int .i64 0) := HR9.out.cell_ (i := 1) rfl
  have c82 : w3.cell? ⟨w.heap.size + 1, 2, none⟩ = some (.int .u32 0) := HR9.out.cell_ (i := 2) rfl
  have c83 : w3.cell? ⟨w.heap.size + 1, 3, none⟩ = some (.int .u32 0) := HR9.out.cell_ (i := 3) rfl
  have c84 : w3.cell? ⟨w.heap.size + 1, 4, none⟩ = some (.int .u32 0) := HR9.out.cell_ (i := 4) rfl
  have f80 : w3.frozen? ⟨w.heap.size + 1, 0, none⟩ = false := HR9.out.frozen 0
  have f81 : w3.frozen? ⟨w.heap.size + 1, 1, none⟩ = false := HR9.out.frozen 1
  have f82 : w3.frozen? ⟨w.heap.size + 1, 2, none⟩ = false := HR9.out.frozen 2
  have f83 : w3.frozen? ⟨w.heap.size + 1, 3, none⟩ = false := HR9.out.frozen 3
  have f84 : w3.frozen? ⟨w.heap.size + 1, 4, none⟩ = false := HR9.out.frozen 4
  have c0 : w3.cell? ⟨g2, 0, none⟩ = some (.int .i64 k') := HN.out.cell_ (i := 0) rfl
  have c1 : w3.cell? ⟨g2, 1, none⟩ = some (.int .i64 c') := HN.out.cell_ (i := 1) rfl
  have c2 : w3.cell? ⟨g2, 2, none⟩ = some (.int .u32 x') := HN.out.cell_ (i := 2) rfl
  have c3 : w3.cell? ⟨g2, 3, none⟩ = some (.int .u32 y') := HN.out.cell_ (i := 3) rfl
  have c4 : w3.cell? ⟨g2, 4, none⟩ = some (.int .u32 o') := HN.out.cell_ (i := 4) rfl
  go_wp2
  refine post_row (P := Tryz.prog) Tryz.results248 (t := 63) (g := w.heap.size + 1) (cs := #[.int .i64 k', .int .i64 c', .int .u32 x', .int .u32 y', .int .u32 o']) rfl (five HR9.out _ _ _ _ _) Tryz.underlying63 rfl (by kernel_rfl) rfl ⟨?_, five_only HS2.out (.inl (by omega)) _ _ _ _ _, ?_⟩
  · rw [HV.out]
  · exact HM2.out.far (five_only (Only.refl (· = w.heap.size + 1) w3) (.inr rfl) _ _ _ _ _) (fun j hj h => by have := HA.out j hj; omega)
end Go.Proofs.YtigdbokfapedcaaGreat
/- park.Take. -/
set_option linter.unusedVariables false
set_option linter.unusedSimpArgs false
namespace Go.Proofs.YtigdbokfapedcaaGreat
open Go.RowKit

theorem take_any (p A : Option Addr) (cp : Nat) (xs : List Int) (n i : Int) (w : World) (h : Memo w p A cp xs) :
    Calls Tryz.prog 250 #[.pointer p, .agg #[.int .i64 n], .int .i64 i] w fun e w' =>
      e = .returned (.tuple #[takeVal xs n i, .bool (hasP xs n i)]) ∧ Only (At A) w w' ∧ Memo w' p A cp (st xs (pc n i) 0) := by
  have HH := Lib.hid h
  have ha : ∀ j, At p j ∨ At A j → j < w.heap.size := HH.out.lt
  have HA := Lib.hid ha
  clear h ha
  go_enter Tryz.func250, Tryz.ntmps250
  go_wp2_with fail
  have e0 := ((Only.refl Nil w).alloc (Obj.cells #[Value.int IntKind.i64 n] 49)).alloc (Obj.cells #[Value.int IntKind.i64 0, Value.int IntKind.i64 0, Value.int IntKind.u32 0, Value.int IntKind.u32 0, Value.int IntKind.u32 0] 63)
  refine (has_any p A cp xs n i _ (HH.out.keep e0)).mono ?_
  rintro e w2 ⟨rfl, hO, hM⟩
  have hS : Only (At A) w w2 := (e0.mono (fun _ _ h => h.elim)).trans hO
  have R4 : Row w2 w.heap.size 49 #[.int .i64 n] := ((Row.new w _ _).alloc _).only hO (fun h => by have := HA.out _ (.inr h); omega)
  have R8 : Row w2 (w.heap.size + 1) 63 #[.int .i64 0, .int .i64 0, .int .u32 0, .int .u32 0, .int .u32 0] := (Row.new2 w _ _ _).only hO (fun h => by have := HA.out _ (.inr h); omega)
  have c40 : w2.cell? ⟨w.heap.size, 0, none⟩ = some (.int .i64 n) := R4.cell_ (i := 0) rfl
  have HR9 := Lib.hid R8
  have HS := Lib.hid hS
  have HM2 := Lib.hid hM
  clear hO R8 hS hM e0 R4
  cases hp : hasP xs n i
  · have HP := Lib.hid hp
    have c80 : w2.cell? ⟨w.heap.size + 1, 0, none⟩ = some (.int .i64 0) := HR9.out.cell_ (i := 0) rfl
    have c81 : w2.cell? ⟨w.heap.size + 1, 1, none⟩ = some (.int .i64 0) := HR9.out.cell_ (i := 1) rfl
    have c82 : w2.cell? ⟨w.heap.size + 1, 2, none⟩ = some (.int .u32 0) := HR9.out.cell_ (i := 2) rfl
    have c83 : w2.cell? ⟨w.heap.size + 1, 3, none⟩ = some (.int .u32 0) := HR9.out.cell_ (i := 3) rfl
    have c84 : w2.cell? ⟨w.heap.size + 1, 4, none⟩ = some (.int .u32 0) := HR9.out.cell_ (i := 4) rfl
    have f80 : w2.frozen? ⟨w.heap.size + 1, 0, none⟩ = false := HR9.out.frozen 0
    have f81 : w2.frozen? ⟨w.heap.size + 1, 1, none⟩ = false := HR9.out.frozen 1
    have f82 : w2.frozen? ⟨w.heap.size + 1, 2, none⟩ = false := HR9.out.frozen 2
    have f83 : w2.frozen? ⟨w.heap.size + 1, 3, none⟩ = false := HR9.out.frozen 3
    have f84 : w2.frozen? ⟨w.heap.size + 1, 4, none⟩ = false := HR9.out.frozen 4
    clear hp
    go_wp2
    refine post_row_tmp (P := Tryz.prog) Tryz.results250 (t := 63) (g := w.heap.size + 1) (cs := #[.int .i64 0, .int .i64 0, .int .u32 0, .int .u32 0, .int .u32 0]) rfl (five HR9.out _ _ _ _ _) Tryz.underlying63 rfl (by kernel_rfl) rfl ⟨?_, five_only HS.out (.inl (by omega)) _ _ _ _ _, ?_⟩
    · simp only [takeVal, HP.out]; rfl
    · rw [st_none HP.out]
      exact HM2.out.far (five_only (Only.refl (· = w.heap.size + 1) w2) (.inr rfl) _ _ _ _ _) (fun j hj h => by have := HA.out j hj; omega)
  · have HP := Lib.hid hp
    have ht := hasP_there hp
    have hok0 : doOk xs 4 (pc n i) = true := by simp [doOk, isKind, ht]
    have hv : doVal xs 4 (pc n i) 0 0 = .agg #[.int .i64 4, .int .i64 (pc n i), .int .u32 0, .int .u32 0, .int .u32 (wordAt xs (pc n i))] := by simp [doVal, hok0, accOf]
    have hst : doNew xs 4 (pc n i) 0 0 = st xs (pc n i) 0 := by rw [doNew_st xs 4 _ 0 0 rfl]; rfl
    have HT := Lib.hid ht
    have HK := Lib.hid hok0
    have HV := Lib.hid hv
    have HST := Lib.hid hst
    clear hp ht hok0 hv hst
    go_wp2_with fail
    refine (on_any p A cp xs n i 4 0 0 0 0 _ HM2.out).mono ?_
    rw [HV.out, HK.out, HST.out]
    rintro e w3 ⟨rfl, hO, hM⟩
    have R8 : Row w3 (w.heap.size + 1) 63 #[.int .i64 0, .int .i64 0, .int .u32 0, .int .u32 0, .int .u32 0] := HR9.out.only hO (fun h => by have := HA.out _ (.inr h); omega)
    have c80 : w3.cell? ⟨w.heap.size + 1, 0, none⟩ = some (.int .i64 0) := R8.cell_ (i := 0) rfl
    have c81 : w3.cell? ⟨w.heap.size + 1, 1, none⟩ = some (.int .i64 0) := R8.cell_ (i := 1) rfl
    have c82 : w3.cell? ⟨w.heap.size + 1, 2, none⟩ = some (.int .u32 0) := R8.cell_ (i := 2) rfl
    have c83 : w3.cell? ⟨w.heap.size + 1, 3, none⟩ = some (.int .u32 0) := R8.cell_ (i := 3) rfl
    have c84 : w3.cell? ⟨w.heap.size + 1, 4, none⟩ = some (.int .u32 0) := R8.cell_ (i := 4) rfl
    have f80 : w3.frozen? ⟨w.heap.size + 1, 0, none⟩ = false := R8.frozen 0
    have f81 : w3.frozen? ⟨w.heap.size + 1, 1, none⟩ = false := R8.frozen 1
    have f82 : w3.frozen? ⟨w.heap.size + 1, 2, none⟩ = false := R8.frozen 2
    have f83 : w3.frozen? ⟨w.heap.size + 1, 3, none⟩ = false := R8.frozen 3
    have f84 : w3.frozen? ⟨w.heap.size + 1, 4, none⟩ = false := R8.frozen 4
    have HR3 := Lib.hid R8
    have HS3 := Lib.hid (HS.out.trans hO)
    have HM3 := Lib.hid hM
    clear hO R8 hM
    generalize hw : wordAt xs (pc n i) = v at *
    have HW := Lib.hid hw
    clear hw
    go_wp2
    refine post_row_tmp (P := Tryz.prog) Tryz.results250 (t := 63) (g := w.heap.size + 1) (cs := #[.int .i64 4, .int .i64 (pc n i), .int .u32 0, .int .u32 0, .int .u32 v]) rfl (five HR3.out _ _ _ _ _) Tryz.underlying63 rfl (by kernel_rfl) rfl ⟨?_, five_only HS3.out (.inl (by omega)) _ _ _ _ _, ?_⟩
    · simp only [takeVal, HP.out, HW.out]; rfl
    · exact HM3.out.far (five_only (Only.refl (· = w.heap.size + 1) w3) (.inr rfl) _ _ _ _ _) (fun j hj h => by have := HA.out j hj; omega)
end Go.Proofs.YtigdbokfapedcaaGreat
