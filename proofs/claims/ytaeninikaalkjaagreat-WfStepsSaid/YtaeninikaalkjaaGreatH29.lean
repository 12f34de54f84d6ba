import Derived.Laws.OwnMore
import Derived.Test.YtaeninikaalkjaaGreatChecked
import Derived.Test.YtaeninikaalkjaaGreatH14
import Derived.Test.YtaeninikaalkjaaGreatH7
import Derived.Test.YtaeninikaalkjaaGreatH26
import Derived.Test.YtaeninikaalkjaaGreatH15
set_option linter.unusedVariables false
set_option linter.unusedSimpArgs false
namespace Go.Proofs.YtaeninikaalkjaaGreat
open Go.RowKit
theorem run_append_copy (ty : TypeId) (g1 b : Nat) (v : Value) (zs : List Nt) (w : World) (hown : OwnN 0 w v zs) (hrow : Row w g1 85 #[]) (hb : b ≤ g1) (h1 : zs.length ≤ 1000) :
    ∃ A' c' w', (Builtin.append_ #[40, 40] ty #[.slice (some ⟨g1, 0, none⟩) 0 0, v]).run Tryz.prog w = .ok (.slice A' zs.length c') w' ∧ OwnN b w' (.slice A' zs.length c') zs ∧ Only Nil w w' := by
  obtain ⟨i0, hi, hz0, hz1, hz2⟩ := info_parts infoN
  have hlt := hrow.lt
  have hown1 : w.ownsRow b 85 4 (.slice (some ⟨g1, 0, none⟩) 0 0) 0 [] := ⟨rfl, .inr ⟨g1, 0, #[], rfl, hb, hrow, Nat.le_refl _, by decide, rfl, rfl⟩⟩
  rcases hown.2 with ⟨rfl, hn⟩ | ⟨q, cap, cur, rfl, _, hq, _⟩
  · obtain rfl := List.eq_nil_of_length_eq_zero hn
    have hr := run_append_owned_none (P := Tryz.prog) (w := w) b 40 ty 85 i0 4 Tryz.underlying40 hi _ 0 [] hown1
    exact ⟨_, _, w, hr, hown1, Only.refl _ _⟩
  · cases zs with
    | nil =>
      have hr := run_append_room (P := Tryz.prog) w 40 ty 85 i0 Tryz.underlying40 hi g1 0 0 #[] hrow ⟨q, 0, none⟩ 0 cap [] (by simp) (fun j u h => by simp at h) (fun u h => by simp at h) (by decide) (by simp)
      have ho : Only Nil w (w.setRow g1 #[]) := ⟨rfl, rfl, rfl, by simp, fun k hk _ => by
        by_cases e : k = g1
        · subst e
          rw [setRow_heap w k #[] _ 85 _ hrow]
          exact hrow.symm
        · exact setRow_other w g1 k _ e⟩
      refine ⟨some ⟨g1, 0, none⟩, 0, _, hr, own_only hown1 (S := Nil) ?_ (fun _ _ => id), ?_⟩
      · simpa using ho
      · simpa using ho
    | cons z zr =>
      have hl0 : 0 < (z :: zr).length := by simp
      generalize z :: zr = zs at *
      have hnews : ∀ j u, (flat zs)[j]? = some u → w.cell? ((⟨q, 0, none⟩ : Addr).add j) = some u := World.ownsRow.cells hown (g := q) rfl
      have hr := run_append_grow (P := Tryz.prog) w 40 ty 85 i0 _ Tryz.underlying40 hi hz0 ⟨g1, 0, none⟩ 0 0 [] (by simp) (fun j u h => by simp at h) ⟨q, 0, none⟩ zs.length cap (flat zs) (by rw [hz1]; exact flat_len zs) hnews (by omega) (by omega) (growslice_fits (by omega) (by rw [hz2]; omega))
      simp only [Nat.zero_add] at hr
      have hge := grownCap_ge w zs.length 0 85
      have hcm := grownCap_le_maxLen w zs.length 0 85 (by unfold maxLen; omega)
      refine ⟨_, _, _, hr, ⟨flat_len zs, .inr ⟨w.heap.size, _, _, rfl, by omega, heap_alloc_new w.drew _, hge, hcm, ?_, ?_⟩⟩, (Only.refl Nil w).drew.alloc _⟩
      · simp only [Array.size_append, List.size_toArray, size_zeroCells, flat_len, List.length_nil]
        show 0 + zs.length * 4 + _ * 4 = _
        omega
      · simp only [Array.toList_append, List.nil_append]
        rw [← flat_len]
        exact List.take_left
theorem wp_append_copy {o : Oper} {a : Act} {K : Act → World → Prop} {Q : Exit → Act → World → Prop} (s x : Operand) (ho : o.op = .call { callee := .builtin .append, args := #[s, x], argTypes := #[40, 40] })
    (g1 b : Nat) (v : Value) (zs : List Nt) (w : World) (hs : a.eval s = .slice (some ⟨g1, 0, none⟩) 0 0) (hx : a.eval x = v) (hown : OwnN 0 w v zs) (hrow : Row w g1 85 #[]) (hb : b ≤ g1) (h1 : zs.length ≤ 1000)
    (h : ∀ A' n' c' w', OwnN b w' (.slice A' n' c') zs → Only Nil w w' → K (a.put o.dst (.slice A' n' c')) w') : o.wp Tryz.prog a w K Q := by
  obtain ⟨A', c', w', hr, h2, h3⟩ := run_append_copy o.type g1 b v zs w hown hrow hb h1
  unfold Oper.wp execOp
  simp only [ho, resolve, invoke, builtin, Sem.run_bind, Sem.run_pure, Result.andThen_ok, List.map_toArray, List.map_cons, List.map_nil, hs, hx, hr]
  exact h _ _ _ w' h2 h3
theorem wp_append_note {o : Oper} {a : Act} {K : Act → World → Prop} {Q : Exit → Act → World → Prop} (s x : Operand) (ho : o.op = .call { callee := .builtin .append, args := #[s, x], argTypes := #[40, 40] })
    (b : Nat) (v : Value) (zs : List Nt) (w : World) (g : Nat) (n : Nt) (hs : a.eval s = v) (hx : a.eval x = .slice (some ⟨g, 0, none⟩) 1 1) (hown : OwnN b w v zs) (hrow : Row w g 85 #[.int .i64 n.t, .int .i64 n.w, .int .i64 n.o, .int .i64 n.a]) (hb : b ≤ w.heap.size) (h1 : zs.length ≤ 1000)
    (h : ∀ A' n' c' w', OwnN b w' (.slice A' n' c') (zs ++ [n]) → (∀ w0, Only Nil w0 w → w0.heap.size ≤ b → Only Nil w0 w') → K (a.put o.dst (.slice A' n' c')) w') : o.wp Tryz.prog a w K Q := by
  obtain ⟨i0, hi, hz0, hz1, hz2⟩ := info_parts infoN
  refine wp_append_own w s x 40 ho b 85 i0 (.agg #[.int .i64 0, .int .i64 0, .int .i64 0, .int .i64 0]) 4 32 Tryz.underlying40 hi hz0 hz1 hz2 rfl (by decide) v zs.length (flat zs) hs hown ⟨g, 0, none⟩ 1 1 (flat1 n) hx rfl (fun j u hj => ?_) (fun u hu => ?_) (by unfold maxLen; omega) (by omega) hb (fun v' w' hO hG _ => ?_)
  · rw [add_at, Nat.zero_add]
    exact hrow.cell_ (by rw [← hj]; simp [flat1])
  · unfold flat1 at hu
    simp only [List.mem_cons, List.not_mem_nil, or_false] at hu
    rcases hu with rfl | rfl | rfl | rfl <;> rfl
  · have hO' : OwnN b w' v' (zs ++ [n]) := by
      unfold OwnN
      rw [flat_app, List.length_append, show flat [n] = flat1 n from List.append_nil _]
      exact hO
    obtain ⟨A', c', rfl, _⟩ := own_form hO'
    exact h _ _ _ w' hO' (fun w0 h0 hb => h0.grown hG (fun k hk => .inl (by
      obtain ⟨hk1, _⟩ := World.ownsRow.lt hown k hk
      omega)))
set_option maxRecDepth 100000 in
set_option maxHeartbeats 1000000 in
theorem rnote_run (B base : Nat) (A : Option Addr) (l cp : Nat) (nv : Value) (r : LS) (what arg : Int) (w : World) (h : RunR w B base A l cp nv r) (hl : r.ns.length ≤ 1000) :
    Calls Tryz.prog 34 #[.pointer (some ⟨B, 0, none⟩), .int .i64 what, .int .i64 arg] w (DoneR B base A l cp w (.tuple #[]) (r.note what arg)) := by
  have m19 : w.cell? ⟨B, 19, none⟩ = some nv := h.row.cell_ (i := 19) rfl
  have m3 : w.cell? ⟨B, 3, none⟩ = some (.int .i64 r.task) := h.row.cell_ (i := 3) rfl
  have HP0 := Lib.hid h
  have HL := Lib.hid hl
  clear h hl
  go_enter Tryz.func34, Tryz.ntmps34
  refine wp_region_phase (n := 19) 15 (fun w => w.cell? ⟨B, 19, none⟩ = some nv ∧ w.cell? ⟨B, 3, none⟩ = some (.int .i64 r.task)) rfl (by kernel_rfl) ⟨m19, m3⟩ (fun hHeld => ?_)
  have HP := Lib.hid (HP0.out.keep (Only.refl Nil w).drew)
  have HO := Lib.hid ((Only.refl (TurnB B A) w).drew)
  clear m19 m3 HP0
  generalize w.drew = w2 at *
  have HN := Lib.hid (Only.refl Nil w2)
  obtain ⟨B0, HB0⟩ : ∃ B0, Hid (∀ W : World, W = w2 → W.heap.size = B0) := ⟨w2.heap.size, Lib.hid (fun W h => by rw [h])⟩
  refine za 0 rfl ?_
  refine za 2 rfl ?_
  refine za 3 rfl ?_
  refine za 4 rfl ?_
  refine zt 5 rfl ?_
  refine za 7 rfl ?_
  refine za 8 rfl ?_
  refine za 9 rfl ?_
  refine zt 10 rfl ?_
  refine za 11 rfl ?_
  refine za 12 rfl ?_
  refine za 13 rfl ?_
  refine pd_1_14 rfl rfl (by kernel_rfl) (by rfl) (fun K hK => ?_) (by rfl) (fun K hK => ?_)
  · go_simp
    have HN2 := Lib.hid (HN.out.alloc (.cells #[] 85))
    have H1 := Lib.hid (Row.new w2 85 #[])
    have HG1 := Lib.hid (show B0 ≤ w2.heap.size by rw [← HB0.out w2 rfl]; exact HN.out.size)
    have hHeld2 : (w2.alloc (.cells #[] 85)).cell? ⟨B, 19, none⟩ = some nv ∧ (w2.alloc (.cells #[] 85)).cell? ⟨B, 3, none⟩ = some (.int .i64 r.task) := ⟨(HP.out.keep HN2.out).row.cell_ (i := 19) rfl, (HP.out.keep HN2.out).row.cell_ (i := 3) rfl⟩
    refine hK.out _ _ (.inr hHeld2) ?_
    clear hK K hHeld HN
    generalize w2.alloc (.cells #[] 85) = w3 at *
    generalize w2.heap.size = g1 at *
    have HN := HN2
    have hHeld := hHeld2
    clear HN2 hHeld2
    refine pd_6_14 rfl rfl (by kernel_rfl) (by rfl) (fun K hK => ?_) (by rfl) (fun K hK => ?_)
    · skip
      refine wp_append_copy (.tmp 7) (.tmp 11) rfl g1 B0 nv r.ns _ (by rfl) (by rfl) (HP.out.keep HN.out).notes H1.out HG1.out HL.out (fun A6 n6 c6 w4 h6 hO => ?_)
      have HN2 := Lib.hid (HN.out.trans hO)
      have H6 := Lib.hid h6
      have hHeld2 : w4.cell? ⟨B, 19, none⟩ = some nv ∧ w4.cell? ⟨B, 3, none⟩ = some (.int .i64 r.task) := ⟨(HP.out.keep HN2.out).row.cell_ (i := 19) rfl, (HP.out.keep HN2.out).row.cell_ (i := 3) rfl⟩
      refine hK.out _ _ (.inr hHeld2) ?_
      clear hK K hHeld HN h6 H1
      have HN := HN2
      have hHeld := hHeld2
      clear HN2 hHeld2
      refine mpc 14 rfl (by kernel_rfl) (by rfl) (fun K hK => ?_)
      go_simp
      have HN2 := Lib.hid (HN.out.alloc (.cells #[.int .i64 r.task, .int .i64 what, .int .i64 0, .int .i64 arg] 85))
      have H14 := Lib.hid (Row.new w4 85 #[.int .i64 r.task, .int .i64 what, .int .i64 0, .int .i64 arg])
      have hHeld2 : (w4.alloc (.cells #[.int .i64 r.task, .int .i64 what, .int .i64 0, .int .i64 arg] 85)).cell? ⟨B, 19, none⟩ = some nv ∧ (w4.alloc (.cells #[.int .i64 r.task, .int .i64 what, .int .i64 0, .int .i64 arg] 85)).cell? ⟨B, 3, none⟩ = some (.int .i64 r.task) := ⟨(HP.out.keep HN2.out).row.cell_ (i := 19) rfl, (HP.out.keep HN2.out).row.cell_ (i := 3) rfl⟩
      refine hK.out _ _ (.inr hHeld2) ?_
      clear hK K hHeld HN
      have H62 := Lib.hid (H6.out.only ((Only.refl Nil w4).alloc (.cells #[.int .i64 r.task, .int .i64 what, .int .i64 0, .int .i64 arg] 85)))
      clear H6
      generalize w4.alloc (.cells #[.int .i64 r.task, .int .i64 what, .int .i64 0, .int .i64 arg] 85) = w5 at *
      generalize w4.heap.size = g14 at *
      have HN := HN2
      have hHeld := hHeld2
      clear HN2 hHeld2
      have H6 := H62
      clear H62
      refine mpc 15 rfl (by kernel_rfl) (by rfl) (fun K hK => ?_)
      refine wp_append_note (.tmp 12) (.tmp 20) rfl B0 _ r.ns _ g14 ⟨r.task, what, 0, arg⟩ (by rfl) (by rfl) H6.out H14.out (by rw [← HB0.out w2 rfl]; exact HN.out.size) HL.out (fun A9 n9 c9 w6 hown hon => ?_)
      have HN2 := Lib.hid (hon w2 HN.out (Nat.le_of_eq (HB0.out w2 rfl)))
      have HP2 := Lib.hid (HP.out.keep HN2.out)
      have HO2 := Lib.hid (HO.out.trans (HN2.out.mono (T := TurnB B A) (fun _ _ h => h.elim)))
      have HV : Hid (OwnN 0 w6 _ _) := Lib.hid (own_base hown (Nat.zero_le _))
      refine hK.out _ _ (.inl (by kernel_rfl)) ?_
      clear hK K hHeld hown hon HN HP HO HN2
      refine za 16 rfl ?_
      refine za 17 rfl ?_
      have c19 : w6.cell? ⟨B, 19, none⟩ = some nv := HP2.out.row.cell_ (i := 19) rfl
      have f19 : w6.frozen? ⟨B, 19, none⟩ = false := HP2.out.row.frozen 19
      refine mpc 18 rfl (by kernel_rfl) (by rfl) (fun K hK => ?_)
      go_simp
      refine hK.out _ _ (.inl (by kernel_rfl)) ?_
      clear hK K c19 f19
      refine wpAnyP_done (by kernel_rfl) ?_ _
      go_wp2
      go_returns
      exact ⟨rfl, HO2.out.setCell (p := ⟨B, 19, none⟩) (.inr (.inl rfl)) _, _, HP2.out.setNotes HV.out⟩
    · go_simp
      have HN2 := Lib.hid (HN.out.alloc (.cells #[.int .i64 r.task, .int .i64 what, .int .i64 0, .int .i64 arg] 85))
      have H14 := Lib.hid (Row.new w3 85 #[.int .i64 r.task, .int .i64 what, .int .i64 0, .int .i64 arg])
      have hHeld2 : (w3.alloc (.cells #[.int .i64 r.task, .int .i64 what, .int .i64 0, .int .i64 arg] 85)).cell? ⟨B, 19, none⟩ = some nv ∧ (w3.alloc (.cells #[.int .i64 r.task, .int .i64 what, .int .i64 0, .int .i64 arg] 85)).cell? ⟨B, 3, none⟩ = some (.int .i64 r.task) := ⟨(HP.out.keep HN2.out).row.cell_ (i := 19) rfl, (HP.out.keep HN2.out).row.cell_ (i := 3) rfl⟩
      refine hK.out _ _ (.inr hHeld2) ?_
      clear hK K hHeld HN
      have H12 := Lib.hid (H1.out.alloc (.cells #[.int .i64 r.task, .int .i64 what, .int .i64 0, .int .i64 arg] 85))
      clear H1
      generalize w3.alloc (.cells #[.int .i64 r.task, .int .i64 what, .int .i64 0, .int .i64 arg] 85) = w4 at *
      generalize w3.heap.size = g14 at *
      have HN := HN2
      have hHeld := hHeld2
      clear HN2 hHeld2
      have H1 := H12
      clear H12
      refine mpc 6 rfl (by kernel_rfl) (by rfl) (fun K hK => ?_)
      refine wp_append_copy (.tmp 7) (.tmp 11) rfl g1 B0 nv r.ns _ (by rfl) (by rfl) (HP.out.keep HN.out).notes H1.out HG1.out HL.out (fun A6 n6 c6 w5 h6 hO => ?_)
      have HN2 := Lib.hid (HN.out.trans hO)
      have H6 := Lib.hid h6
      have hHeld2 : w5.cell? ⟨B, 19, none⟩ = some nv ∧ w5.cell? ⟨B, 3, none⟩ = some (.int .i64 r.task) := ⟨(HP.out.keep HN2.out).row.cell_ (i := 19) rfl, (HP.out.keep HN2.out).row.cell_ (i := 3) rfl⟩
      refine hK.out _ _ (.inr hHeld2) ?_
      clear hK K hHeld HN h6 H1
      have H142 := Lib.hid (H14.out.only hO id)
      clear H14
      have H14 := H142
      clear H142
      have HN := HN2
      have hHeld := hHeld2
      clear HN2 hHeld2
      refine mpc 15 rfl (by kernel_rfl) (by rfl) (fun K hK => ?_)
      refine wp_append_note (.tmp 12) (.tmp 20) rfl B0 _ r.ns _ g14 ⟨r.task, what, 0, arg⟩ (by rfl) (by rfl) H6.out H14.out (by rw [← HB0.out w2 rfl]; exact HN.out.size) HL.out (fun A9 n9 c9 w6 hown hon => ?_)
      have HN2 := Lib.hid (hon w2 HN.out (Nat.le_of_eq (HB0.out w2 rfl)))
      have HP2 := Lib.hid (HP.out.keep HN2.out)
      have HO2 := Lib.hid (HO.out.trans (HN2.out.mono (T := TurnB B A) (fun _ _ h => h.elim)))
      have HV : Hid (OwnN 0 w6 _ _) := Lib.hid (own_base hown (Nat.zero_le _))
      refine hK.out _ _ (.inl (by kernel_rfl)) ?_
      clear hK K hHeld hown hon HN HP HO HN2
      refine za 16 rfl ?_
      refine za 17 rfl ?_
      have c19 : w6.cell? ⟨B, 19, none⟩ = some nv := HP2.out.row.cell_ (i := 19) rfl
      have f19 : w6.frozen? ⟨B, 19, none⟩ = false := HP2.out.row.frozen 19
      refine mpc 18 rfl (by kernel_rfl) (by rfl) (fun K hK => ?_)
      go_simp
      refine hK.out _ _ (.inl (by kernel_rfl)) ?_
      clear hK K c19 f19
      refine wpAnyP_done (by kernel_rfl) ?_ _
      go_wp2
      go_returns
      exact ⟨rfl, HO2.out.setCell (p := ⟨B, 19, none⟩) (.inr (.inl rfl)) _, _, HP2.out.setNotes HV.out⟩
  · go_simp
    have HN2 := Lib.hid (HN.out.alloc (.cells #[.int .i64 r.task, .int .i64 what, .int .i64 0, .int .i64 arg] 85))
    have H14 := Lib.hid (Row.new w2 85 #[.int .i64 r.task, .int .i64 what, .int .i64 0, .int .i64 arg])
    have hHeld2 : (w2.alloc (.cells #[.int .i64 r.task, .int .i64 what, .int .i64 0, .int .i64 arg] 85)).cell? ⟨B, 19, none⟩ = some nv ∧ (w2.alloc (.cells #[.int .i64 r.task, .int .i64 what, .int .i64 0, .int .i64 arg] 85)).cell? ⟨B, 3, none⟩ = some (.int .i64 r.task) := ⟨(HP.out.keep HN2.out).row.cell_ (i := 19) rfl, (HP.out.keep HN2.out).row.cell_ (i := 3) rfl⟩
    refine hK.out _ _ (.inr hHeld2) ?_
    clear hK K hHeld HN
    generalize w2.alloc (.cells #[.int .i64 r.task, .int .i64 what, .int .i64 0, .int .i64 arg] 85) = w3 at *
    generalize w2.heap.size = g14 at *
    have HN := HN2
    have hHeld := hHeld2
    clear HN2 hHeld2
    refine mpc 1 rfl (by kernel_rfl) (by rfl) (fun K hK => ?_)
    go_simp
    have HN2 := Lib.hid (HN.out.alloc (.cells #[] 85))
    have H1 := Lib.hid (Row.new w3 85 #[])
    have HG1 := Lib.hid (show B0 ≤ w3.heap.size by rw [← HB0.out w2 rfl]; exact HN.out.size)
    have hHeld2 : (w3.alloc (.cells #[] 85)).cell? ⟨B, 19, none⟩ = some nv ∧ (w3.alloc (.cells #[] 85)).cell? ⟨B, 3, none⟩ = some (.int .i64 r.task) := ⟨(HP.out.keep HN2.out).row.cell_ (i := 19) rfl, (HP.out.keep HN2.out).row.cell_ (i := 3) rfl⟩
    refine hK.out _ _ (.inr hHeld2) ?_
    clear hK K hHeld HN
    have H142 := Lib.hid (H14.out.alloc (.cells #[] 85))
    clear H14
    generalize w3.alloc (.cells #[] 85) = w4 at *
    generalize w3.heap.size = g1 at *
    have HN := HN2
    have hHeld := hHeld2
    clear HN2 hHeld2
    have H14 := H142
    clear H142
    refine mpc 6 rfl (by kernel_rfl) (by rfl) (fun K hK => ?_)
    refine wp_append_copy (.tmp 7) (.tmp 11) rfl g1 B0 nv r.ns _ (by rfl) (by rfl) (HP.out.keep HN.out).notes H1.out HG1.out HL.out (fun A6 n6 c6 w5 h6 hO => ?_)
    have HN2 := Lib.hid (HN.out.trans hO)
    have H6 := Lib.hid h6
    have hHeld2 : w5.cell? ⟨B, 19, none⟩ = some nv ∧ w5.cell? ⟨B, 3, none⟩ = some (.int .i64 r.task) := ⟨(HP.out.keep HN2.out).row.cell_ (i := 19) rfl, (HP.out.keep HN2.out).row.cell_ (i := 3) rfl⟩
    refine hK.out _ _ (.inr hHeld2) ?_
    clear hK K hHeld HN h6 H1
    have H142 := Lib.hid (H14.out.only hO id)
    clear H14
    have H14 := H142
    clear H142
    have HN := HN2
    have hHeld := hHeld2
    clear HN2 hHeld2
    refine mpc 15 rfl (by kernel_rfl) (by rfl) (fun K hK => ?_)
    refine wp_append_note (.tmp 12) (.tmp 20) rfl B0 _ r.ns _ g14 ⟨r.task, what, 0, arg⟩ (by rfl) (by rfl) H6.out H14.out (by rw [← HB0.out w2 rfl]; exact HN.out.size) HL.out (fun A9 n9 c9 w6 hown hon => ?_)
    have HN2 := Lib.hid (hon w2 HN.out (Nat.le_of_eq (HB0.out w2 rfl)))
    have HP2 := Lib.hid (HP.out.keep HN2.out)
    have HO2 := Lib.hid (HO.out.trans (HN2.out.mono (T := TurnB B A) (fun _ _ h => h.elim)))
    have HV : Hid (OwnN 0 w6 _ _) := Lib.hid (own_base hown (Nat.zero_le _))
    refine hK.out _ _ (.inl (by kernel_rfl)) ?_
    clear hK K hHeld hown hon HN HP HO HN2
    refine za 16 rfl ?_
    refine za 17 rfl ?_
    have c19 : w6.cell? ⟨B, 19, none⟩ = some nv := HP2.out.row.cell_ (i := 19) rfl
    have f19 : w6.frozen? ⟨B, 19, none⟩ = false := HP2.out.row.frozen 19
    refine mpc 18 rfl (by kernel_rfl) (by rfl) (fun K hK => ?_)
    go_simp
    refine hK.out _ _ (.inl (by kernel_rfl)) ?_
    clear hK K c19 f19
    refine wpAnyP_done (by kernel_rfl) ?_ _
    go_wp2
    go_returns
    exact ⟨rfl, HO2.out.setCell (p := ⟨B, 19, none⟩) (.inr (.inl rfl)) _, _, HP2.out.setNotes HV.out⟩
end Go.Proofs.YtaeninikaalkjaaGreat
set_option linter.unusedVariables false
set_option linter.unusedSimpArgs false
namespace Go.Proofs.YtaeninikaalkjaaGreat
open Go.RowKit
theorem is_any (k m x v : Int) (w : World) (h0 : 0 ≤ v) (h1 : v < 4294967296) :
    Calls Tryz.prog 93 #[.agg #[.int .i64 k, .int .u32 m, .int .u32 x], .int .u32 v] w fun e w' => e = .returned (.bool (uIs k m x v)) ∧ Only Nil w w' := by
  by_cases k0 : k = 0
  · have hu : uIs k m x v = (bits .and .u32 v m == x) := if_pos k0
    rw [hu]
    clear hu
    subst k0
    go_enter Tryz.func93, Tryz.ntmps93
    go_wp2
    go_ret
    exact ⟨rfl, (Only.refl _ _).alloc _⟩
  by_cases k1 : k = 1
  · have hu : uIs k m x v = (bits .and .u32 v m != x) := (if_neg k0).trans (if_pos k1)
    rw [hu]
    clear hu k0
    subst k1
    go_enter Tryz.func93, Tryz.ntmps93
    go_wp2
    go_ret
    exact ⟨rfl, (Only.refl _ _).alloc _⟩
  by_cases k2 : k = 2
  · have hu : uIs k m x v = (v / 256 % 256 == v / 65536 % 256) := ((if_neg k0).trans (if_neg k1)).trans (if_pos k2)
    rw [hu]
    clear hu k0 k1
    subst k2
    go_enter Tryz.func93, Tryz.ntmps93
    go_wp2
    go_ret
    exact ⟨rfl, (Only.refl _ _).alloc _⟩
  by_cases k3 : k = 3
  · have hu : uIs k m x v = (decide (v / 256 % 256 = x) && (v % 256 == 0)) := (((if_neg k0).trans (if_neg k1)).trans (if_neg k2)).trans (if_pos k3)
    have HU := Lib.hid hu
    clear hu k0 k1 k2
    subst k3
    go_enter Tryz.func93, Tryz.ntmps93
    go_wp2
    · have hx : v / 256 % 256 = x := by assumption
      go_ret
      exact ⟨ret_bool (by rw [HU.out, decide_eq_true hx, Bool.true_and]), (Only.refl _ _).alloc _⟩
    · have hx : ¬ v / 256 % 256 = x := by assumption
      go_ret
      exact ⟨ret_bool (by rw [HU.out, decide_eq_false hx, Bool.false_and]), (Only.refl _ _).alloc _⟩
  · have hu : uIs k m x v = false := (((if_neg k0).trans (if_neg k1)).trans (if_neg k2)).trans (if_neg k3)
    rw [hu]
    clear hu
    go_enter Tryz.func93, Tryz.ntmps93
    go_wp2
    go_ret
    exact ⟨rfl, (Only.refl _ _).alloc _⟩
end Go.Proofs.YtaeninikaalkjaaGreat
set_option linter.unusedVariables false
set_option linter.unusedSimpArgs false
namespace Go.Proofs.YtaeninikaalkjaaGreat
open Go.RowKit
theorem rhas_any (A : Option Addr) (l cp B : Nat) (xs : List Int) (n i : Int) (hn : xs.length = l) (w : World) (hx : Ints w B .u32 A xs) :
    Calls Tryz.prog 105 #[.slice A l cp, .int .i64 n, .int .i64 i] w fun e w' => e = .returned (.bool (hasP xs n i)) ∧ w = w' := by
  have HN := Lib.hid hn
  cases ht : there xs (pc n i)
  · have hp : hasP xs n i = false := by simp [hasP, wordAt, ht]
    rw [hp]
    have HT := Lib.hid ht
    clear ht hp hn hx
    go_enter Tryz.func105, Tryz.ntmps105
    go_wp2_with fail
    refine (rcell_any A l cp xs n i HN.out _).mono ?_
    rw [HT.out]
    rintro e w1 ⟨rfl, rfl⟩
    simp only [Bool.false_eq_true, if_false]
    go_wp2
    go_ret
    exact ⟨rfl, rfl⟩
  · have ht2 := ht
    simp only [there, decide_eq_true_eq] at ht2
    obtain ⟨q, hq⟩ := Int.eq_ofNat_of_zero_le ht2.1
    have hql : q < l := by omega
    obtain ⟨b, o, rfl, hb, hc⟩ := hx (by omega)
    have c0 : w.cell? ⟨b, o + q, none⟩ = some (.int .u32 (wordAt xs (pc n i))) := by
      rw [hc q (by omega), show wordAt xs (pc n i) = xs.getD q 0 by unfold wordAt; rw [ht, hq]; rfl]
    have hp : hasP xs n i = (wordAt xs (pc n i) != 0) := rfl
    have HP := Lib.hid hp
    have HT := Lib.hid ht
    have HQ := Lib.hid hq
    generalize hw : wordAt xs (pc n i) = v at *
    rw [HP.out]
    clear ht hp hn hx hc hw ht2 hq
    go_enter Tryz.func105, Tryz.ntmps105
    go_wp2_with fail
    refine (rcell_any (some ⟨b, o, none⟩) l cp xs n i HN.out _).mono ?_
    rw [HT.out, HQ.out]
    rintro e w1 ⟨rfl, rfl⟩
    simp only [if_true]
    go_wp2
    go_ret
    exact ⟨rfl, rfl⟩
end Go.Proofs.YtaeninikaalkjaaGreat
set_option linter.unusedVariables false
set_option linter.unusedSimpArgs false
namespace Go.Proofs.YtaeninikaalkjaaGreat
open Go.RowKit
theorem rtake_any (base : Nat) (A : Option Addr) (l cp : Nat) (xs : List Int) (n i : Int) (w : World) (h : Own w base A cp xs) (hn : xs.length = l) :
    Calls Tryz.prog 94 #[.slice A l cp, .int .i64 n, .int .i64 i] w fun e w' =>
      e = .returned (.tuple #[takeVal xs n i, .bool (hasP xs n i)]) ∧ Only (At A) w w' ∧ Own w' base A cp (st xs (pc n i) 0) := by
  have HN := Lib.hid hn
  have HW := Lib.hid h
  cases hp : hasP xs n i
  · have hv : takeVal xs n i = .agg #[.int .i64 0, .int .i64 0, .int .u32 0, .int .u32 0, .int .u32 0] := by simp [takeVal, hp, accOf]
    have hs : st xs (pc n i) 0 = xs := st_none hp
    rw [hv, hs]
    have HT := Lib.hid hp
    clear hp h hn hv hs
    go_enter Tryz.func94, Tryz.ntmps94
    go_wp2_with fail
    refine (rhas_any A l cp _ xs n i HN.out _ (((HW.out.only ((Only.refl Nil w).alloc _) (fun _ _ => id)).held_n HN.out).2.2)).mono ?_
    rw [HT.out]
    rintro e w1 ⟨rfl, rfl⟩
    go_wp2
    refine post_row_tmp (P := Tryz.prog) Tryz.results94 (t := 39) (g := w.heap.size) (cs := #[.int .i64 0, .int .i64 0, .int .u32 0, .int .u32 0, .int .u32 0]) rfl (Row.new _ _ _) Tryz.underlying39 rfl (by kernel_rfl) rfl ⟨rfl, (Only.refl _ w).alloc _, ?_⟩
    exact HW.out.only ((Only.refl Nil w).alloc _) (fun _ _ => id)
  · have ht := hasP_there hp
    have ht2 := ht
    simp only [there, decide_eq_true_eq] at ht2
    obtain ⟨q, hq⟩ := Int.eq_ofNat_of_zero_le ht2.1
    have hql : q < l := by omega
    obtain ⟨g, cur, rfl, hb, hr, hcell, hset⟩ := h.row (i := q) (by omega)
    have hwd : wordAt xs (pc n i) = xs.getD q 0 := by unfold wordAt; rw [ht, hq]; rfl
    have hv : takeVal xs n i = .agg #[.int .i64 4, .int .i64 q, .int .u32 0, .int .u32 0, .int .u32 (xs.getD q 0)] := by
      unfold takeVal
      rw [hp, hwd, hq]
      rfl
    have hs : st xs (pc n i) 0 = xs.set q 0 := by unfold st; rw [ht, hq]; rfl
    rw [hv, hs]
    generalize xs.getD q 0 = v at *
    have HT := Lib.hid ht
    have HP := Lib.hid hp
    have HQ := Lib.hid hq
    have HR := Lib.hid hr
    have HSET := Lib.hid hset
    have HC := Lib.hid hcell
    have hg := hr.lt
    clear ht h hn hv hs hq hwd ht2 hr hset hcell hp
    go_enter Tryz.func94, Tryz.ntmps94
    go_wp2_with fail
    refine (rhas_any _ l cp _ xs n i HN.out _ (((HW.out.only ((Only.refl Nil w).alloc _) (fun _ _ => id)).held_n HN.out).2.2)).mono ?_
    rw [HP.out]
    rintro e w1 ⟨rfl, rfl⟩
    go_wp2_with fail
    refine (rcell_any _ l cp xs n i HN.out _).mono ?_
    rw [HT.out, HQ.out]
    rintro e w1 ⟨rfl, rfl⟩
    have c0 := HR.out.cell_ HC.out
    have f0 := HR.out.frozen q
    simp only [if_true]
    go_wp2
    refine post_row_tmp (P := Tryz.prog) Tryz.results94 (t := 39) (g := w.heap.size) (cs := #[.int .i64 4, .int .i64 q, .int .u32 0, .int .u32 0, .int .u32 v]) rfl ?_ Tryz.underlying39 rfl (by kernel_rfl) rfl ⟨rfl, ?_, ?_⟩
    · have e2 := (Row.new (w.setCell ⟨g, q, none⟩ (.int .u32 0)) 39 #[.int .i64 4, .int .i64 q, .int .u32 0, .int .u32 0, .int .u32 v]).alloc (Obj.cells #[.int .i64 4, .int .i64 q, .int .u32 0, .int .u32 0, .int .u32 v] 39)
      simpa [World.setCell] using e2
    · exact (((Only.refl (At (some ⟨g, 0, none⟩)) w).setCell (p := ⟨g, q, none⟩) (.inr ⟨_, rfl, rfl⟩) (.int .u32 0)).alloc _).alloc _
    · exact HSET.out _ _ (((HR.out.set q (.int .u32 0)).alloc _).alloc _)
end Go.Proofs.YtaeninikaalkjaaGreat
